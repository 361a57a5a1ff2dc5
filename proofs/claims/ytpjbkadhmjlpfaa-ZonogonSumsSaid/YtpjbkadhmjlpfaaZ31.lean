/- the reference's corners. -/
import Derived.Test.YtpjbkadhmjlpfaaZ30
import Derived.Test.YtpjbkadhmjlpfaaZM4
set_option linter.unusedVariables false
set_option linter.unusedSimpArgs false
namespace Go.Proofs.Ytpjbkadhmjlpfaa
open Go Go.RowKit Hd

set_option maxRecDepth 100000 in
set_option maxHeartbeats 4000000 in
theorem RCorn_is (x y : Int) (A : Option Addr) (n c : Nat) (l : List P2)  (hn : n ≤ 100) (hx : Wi x 16777216) (hy : Wi y 16777216) (hs : SB l 16777216) (w : World) {lo_L hi_L : Nat} (L : PL w lo_L hi_L A n c l) :
    Calls Try.prog 56 #[.agg #[.int .i64 x, .int .i64 y, .slice A n c]] w fun e w' => ∃ A' c', e = .returned (.slice A' (cornL (x, y) l).length c') ∧ PL w' w.heap.size w'.heap.size A' (cornL (x, y) l).length c' (cornL (x, y) l) ∧ Below w.heap.size w w' := by
  have hiL_L : hi_L ≤ w.heap.size := L.top
  replace L := Lib.hid L
  have HSB := Lib.hid hs
  have HZX := Lib.hid hx
  have HZY := Lib.hid hy
  have hx1 := hx.1
  have hx2 := hx.2
  have hy1 := hy.1
  have hy2 := hy.2
  clear hs hx hy
  obtain ⟨i0, hi0, hz0, hz1, hz2⟩ := info_parts info2
  have HI := Lib.hid hi0
  clear hi0
  obtain ⟨HB, B_z0⟩ := box1 w 24 #[.int .i64 x, .int .i64 y, .slice A n c]
  replace L := Lib.hid (PL.below L.out HB.out)
  go_enter Try.func56, Try.ntmps56
  go_upto_region 1 with (fail)
  generalize w.alloc (.cells #[.int .i64 x, .int .i64 y, .slice A n c] 24) = W0 at *
  obtain ⟨c0z0, c1z0, c2z0⟩ := cells3 B_z0
  have ltL_z1L : hi_L ≤ W0.heap.size := L.out.top
  have lt_z1z0 := B_z0.out.lt
  obtain ⟨bb, B_z1⟩ := box1 W0 39 #[.int .i64 x, .int .i64 y]
  replace bb := bb.out
  replace B_z0 := mv B_z0 bb
  replace L := Lib.hid (PL.below L.out bb)
  replace HB := nx HB bb
  clear bb
  go_upto_region 2 with (fail)
  clear c0z0 c1z0 c2z0
  generalize W0.alloc (.cells #[.int .i64 x, .int .i64 y] 39) = WN1x19 at *
  go_wp2_with fail
  go_loopw [4] (fun  kk wx => ∃ (k : Nat), k ≤ n ∧ kk = .int .i64 k ∧ Hid (PL wx lo_L hi_L A n c l) ∧ Hid (Bx wx (w.heap.size) 24 #[.int .i64 x, .int .i64 y, .slice A n c]) ∧ Hid (Bx wx (W0.heap.size) 39 #[.int .i64 ((mvp (x, y) (-1) l k).1), .int .i64 ((mvp (x, y) (-1) l k).2)]) ∧ Hid (Below w.heap.size w wx)) (fun  kk _ => n - (intOf kk).toNat)
  case atStart => exact ⟨0, by omega, rfl, L, B_z0, B_z1, HB⟩
  case round =>
    clear L B_z0 B_z1 HB
    obtain ⟨k, hk, rfl, L, B_z0, B_z1, HB⟩ := hrel
    by_cases hlt : k < n
    · skip
      have hlq0L : k < n := hlt
      obtain ⟨g_L, o_L, eA_L, -, -, -⟩ := L.out.elem hlq0L
      subst eA_L
      obtain ⟨⟨x_q0L, y_q0L⟩, hpq0L⟩ : ∃ q, l.getD k z2 = q := ⟨_, rfl⟩
      have HPq0L := Lib.hid hpq0L
      have HLq0L := Lib.hid hlq0L
      have hmq0L : (x_q0L, y_q0L) ∈ l := by rw [← hpq0L]; exact getD_mem (by have := L.out.len; omega)
      clear hpq0L hlq0L
      have bdq0L := HSB.out.mem hmq0L
      have bd1q0L := bdq0L.1.1
      have bd2q0L := bdq0L.1.2
      have bd3q0L := bdq0L.2.1
      have bd4q0L := bdq0L.2.2
      dsimp only at bd1q0L bd2q0L bd3q0L bd4q0L
      clear bdq0L
      have hbP := mv1_bd (z := (x, y)) ⟨HZX.out, HZY.out⟩ HSB.out k (by have := L.out.len; omega)
      obtain ⟨cP, hcP⟩ : ∃ q, mvp (x, y) (-1) l k = q := ⟨_, rfl⟩
      rw [hcP] at hbP B_z1
      have HCP := Lib.hid hcP
      clear hcP
      obtain ⟨xP, yP⟩ := cP
      dsimp only at hbP B_z1
      obtain ⟨⟨h1P, h2P⟩, h3P, h4P⟩ := hbP
      have HMV : Hid (mvp (x, y) (-1) l (k + 1) = (xP - x_q0L, yP - y_q0L)) := by unfold Hid; rw [← show addP (xP, yP) (-1 * x_q0L, -1 * y_q0L) = (xP - x_q0L, yP - y_q0L) from Prod.ext (by simp only [addP]; omega) (by simp only [addP]; omega), ← HCP.out, show (-1 * x_q0L : Int) = -1 * (l.getD k z2).1 from by rw [HPq0L.out], show (-1 * y_q0L : Int) = -1 * (l.getD k z2).2 from by rw [HPq0L.out]]; rfl
      obtain ⟨c0z0, c1z0, c2z0⟩ := cells3 B_z0
      go_upto_region 5 with (fail)
      clear c0z0 c1z0 c2z0
      have wq5x0 : IntKind.i64.wrap (xP - x_q0L) = xP - x_q0L := by rw [IntKind.wrap_i64]; omega
      obtain ⟨c0z0, c1z0, c2z0⟩ := cells3 B_z0
      have e0q0L : wr.cell? ⟨g_L, o_L + k * 2, none⟩ = some (.int .i64 x_q0L) := (PL.el L.out HLq0L.out HPq0L.out).1
      have e1q0L : wr.cell? ⟨g_L, o_L + k * 2 + 1, none⟩ = some (.int .i64 y_q0L) := (PL.el L.out HLq0L.out HPq0L.out).2
      obtain ⟨c0z1, c1z1⟩ := cells2 B_z1
      obtain ⟨f0z1, f1z1⟩ := froz2 B_z1
      have ne_z0 : Hid ((w.heap.size) ≠ (W0.heap.size)) := by unfold Hid; omega
      have n_z1 : Hid (Bx (wr.setCell ⟨W0.heap.size, 0, none⟩ (.int .i64 (xP - x_q0L))) (W0.heap.size) 39 #[.int .i64 (xP - x_q0L), .int .i64 yP]) := (B_z1.out.set 0 (.int .i64 (xP - x_q0L)))
      have n_z0 := far1 B_z0 ne_z0.out 0 (.int .i64 (xP - x_q0L))
      have nHB := stb1 HB (y := W0.heap.size) (by omega) 0 (.int .i64 (xP - x_q0L))
      have n_L := Lib.hid ((PL.set L.out (show W0.heap.size < lo_L ∨ hi_L ≤ W0.heap.size from by first | exact Or.inr (by omega) | exact Or.inl (by omega)) 0 (.int .i64 (xP - x_q0L))))
      go_region
      clear c0z0 c1z0 c2z0 e0q0L e1q0L c0z1 c1z1 f0z1 f1z1
      clear ne_z0
      have dr := sm_dr ((wr.setCell ⟨W0.heap.size, 0, none⟩ (.int .i64 (xP - x_q0L))))
      replace n_z0 := mv n_z0 dr
      replace n_z1 := mv n_z1 dr
      replace n_L := Lib.hid (PL.below n_L.out dr)
      replace nHB := nx nHB dr
      clear dr
      generalize ((wr.setCell ⟨W0.heap.size, 0, none⟩ (.int .i64 (xP - x_q0L)))).drew = w1s at *
      clear B_z0
      have B_z0 := n_z0
      clear n_z0
      clear B_z1
      have B_z1 := n_z1
      clear n_z1
      clear L
      have L := n_L
      clear n_L
      clear HB
      have HB := nHB
      clear nHB
      go_upto_region 6 with (fail)
      have wq6x0 : IntKind.i64.wrap (yP - y_q0L) = yP - y_q0L := by rw [IntKind.wrap_i64]; omega
      obtain ⟨c0z0, c1z0, c2z0⟩ := cells3 B_z0
      have e0q0L : w1s.cell? ⟨g_L, o_L + k * 2, none⟩ = some (.int .i64 x_q0L) := (PL.el L.out HLq0L.out HPq0L.out).1
      have e1q0L : w1s.cell? ⟨g_L, o_L + k * 2 + 1, none⟩ = some (.int .i64 y_q0L) := (PL.el L.out HLq0L.out HPq0L.out).2
      obtain ⟨c0z1, c1z1⟩ := cells2 B_z1
      obtain ⟨f0z1, f1z1⟩ := froz2 B_z1
      have ne_z0 : Hid ((w.heap.size) ≠ (W0.heap.size)) := by unfold Hid; omega
      have n_z1 : Hid (Bx (w1s.setCell ⟨W0.heap.size, 1, none⟩ (.int .i64 (yP - y_q0L))) (W0.heap.size) 39 #[.int .i64 (xP - x_q0L), .int .i64 (yP - y_q0L)]) := (B_z1.out.set 1 (.int .i64 (yP - y_q0L)))
      have n_z0 := far1 B_z0 ne_z0.out 1 (.int .i64 (yP - y_q0L))
      have nHB := stb1 HB (y := W0.heap.size) (by omega) 1 (.int .i64 (yP - y_q0L))
      have n_L := Lib.hid ((PL.set L.out (show W0.heap.size < lo_L ∨ hi_L ≤ W0.heap.size from by first | exact Or.inr (by omega) | exact Or.inl (by omega)) 1 (.int .i64 (yP - y_q0L))))
      go_region
      clear c0z0 c1z0 c2z0 e0q0L e1q0L c0z1 c1z1 f0z1 f1z1
      clear ne_z0
      have dr := sm_dr ((w1s.setCell ⟨W0.heap.size, 1, none⟩ (.int .i64 (yP - y_q0L))))
      replace n_z0 := mv n_z0 dr
      replace n_z1 := mv n_z1 dr
      replace n_L := Lib.hid (PL.below n_L.out dr)
      replace nHB := nx nHB dr
      clear dr
      generalize ((w1s.setCell ⟨W0.heap.size, 1, none⟩ (.int .i64 (yP - y_q0L)))).drew = w2s at *
      clear B_z0
      have B_z0 := n_z0
      clear n_z0
      clear B_z1
      have B_z1 := n_z1
      clear n_z1
      clear L
      have L := n_L
      clear n_L
      clear HB
      have HB := nHB
      clear nHB
      go_wp2_with fail
      go_roundw
      case rel => exact ⟨k + 1, by omega, by go_num, L, B_z0, (by rw [HMV.out]; exact B_z1), HB⟩
      case measure => simp only [intOf]; omega
    · skip
      have hkn : n = k := by omega
      subst hkn
      have hbP := mv1_bd (z := (x, y)) ⟨HZX.out, HZY.out⟩ HSB.out n (by have := L.out.len; omega)
      obtain ⟨cP, hcP⟩ : ∃ q, mvp (x, y) (-1) l n = q := ⟨_, rfl⟩
      rw [hcP] at hbP B_z1
      have HCP := Lib.hid hcP
      clear hcP
      obtain ⟨xP, yP⟩ := cP
      dsimp only at hbP B_z1
      obtain ⟨⟨h1P, h2P⟩, h3P, h4P⟩ := hbP
      have HC0 : Hid (cor (x, y) l 0 = (xP, yP)) := by unfold Hid; rw [cor_0, ← L.out.len]; exact HCP.out
      obtain ⟨c0z0, c1z0, c2z0⟩ := cells3 B_z0
      obtain ⟨c0z1, c1z1⟩ := cells2 B_z1
      obtain ⟨base, hbase⟩ : ∃ base, base = wr.heap.size := ⟨_, rfl⟩
      have HW : Hid (w.heap.size ≤ base) := by have := HB.out.size; unfold Hid; omega
      have TL_L : Hid (hi_L ≤ base) := by have := L.out.top; unfold Hid; omega
      have LT_z0 : Hid (w.heap.size < base) := by have := B_z0.out.lt; unfold Hid; omega
      have LT_z1 : Hid (W0.heap.size < base) := by have := B_z1.out.lt; unfold Hid; omega
      have VR : Hid (OwnP (wr.alloc (.cells #[.int .i64 xP, .int .i64 yP] 39)) base (.slice (some ⟨base, 0, none⟩) 1 1) [(xP, yP)]) := by rw [hbase]; exact ⟨rfl, .inr ⟨_, 1, _, rfl, Nat.le_refl _, heap_alloc_new _ _, Nat.le_refl _, by decide, rfl, rfl⟩⟩
      have HBS : Hid (base ≤ (wr.alloc (.cells #[.int .i64 xP, .int .i64 yP] 39)).heap.size) := by unfold Hid; rw [hbase]; simp
      have bb : Below wr.heap.size wr (wr.alloc (.cells #[.int .i64 xP, .int .i64 yP] 39)) := (Below.refl _ _).alloc (Nat.le_refl _) _
      replace B_z0 := mv B_z0 bb
      replace B_z1 := mv B_z1 bb
      replace L := Lib.hid (PL.below L.out bb)
      replace HB := nx HB bb
      clear bb
      go_upto_region 8 with (fail)
      clear c0z0 c1z0 c2z0 c0z1 c1z1
      generalize wr.alloc (.cells #[.int .i64 xP, .int .i64 yP] 39) = WR3 at *
      rw [← hbase]
      clear hbase
      go_wp2_with fail
      go_loopw [5, 6] (fun a0 kk wx => ∃ (k : Nat), k ≤ (2 * n - 1) ∧ kk = .int .i64 k ∧ Hid (OwnP wx base a0 (corT (x, y) l k)) ∧ Hid (base ≤ wx.heap.size) ∧ Hid (PL wx lo_L hi_L A n c l) ∧ Hid (Bx wx (w.heap.size) 24 #[.int .i64 x, .int .i64 y, .slice A n c]) ∧ Hid (Bx wx (W0.heap.size) 39 #[.int .i64 ((cor (x, y) l k).1), .int .i64 ((cor (x, y) l k).2)]) ∧ Hid (Below w.heap.size w wx)) (fun _ kk _ => (2 * n - 1) - (intOf kk).toNat)
      case atStart => exact ⟨0, by omega, rfl, (by rw [← HC0.out] at VR; exact VR), HBS, L, B_z0, (by rw [HC0.out]; exact B_z1), HB⟩
      case round =>
        clear VR HBS L B_z0 B_z1 HB
        obtain ⟨k, hk, rfl, VR, HBS, L, B_z0, B_z1, HB⟩ := hrel
        by_cases hlt : k < (2 * n - 1)
        · skip
          obtain ⟨m, hm⟩ : ∃ m, k % n = m := ⟨_, rfl⟩
          have HM := Lib.hid hm
          have hml : m < n := by rw [← hm]; exact Nat.mod_lt _ (by omega)
          have hmz : Int.tmod ((k : Nat) : Int) ((n : Nat) : Int) = ((m : Nat) : Int) := by rw [← hm]; rfl
          have hmw : IntKind.i64.wrap (Int.tmod ((k : Nat) : Int) ((n : Nat) : Int)) = ((m : Nat) : Int) := by rw [hmz, IntKind.wrap_i64]; omega
          have hmw2 : IntKind.i64.wrap ((m : Nat) : Int) = ((m : Nat) : Int) := by rw [IntKind.wrap_i64]; omega
          have hn0 : ¬ (((n : Nat) : Int) = 0) := by omega
          have hn1 : ¬ (n = 0) := by omega
          have hm0 : (0 : Int) ≤ ((m : Nat) : Int) ∧ ((m : Nat) : Int) < ((n : Nat) : Int) := by omega
          clear hm
          have hlq0L : m < n := hml
          obtain ⟨g_L, o_L, eA_L, -, -, -⟩ := L.out.elem hlq0L
          subst eA_L
          obtain ⟨⟨x_q0L, y_q0L⟩, hpq0L⟩ : ∃ q, l.getD m z2 = q := ⟨_, rfl⟩
          have HPq0L := Lib.hid hpq0L
          have HLq0L := Lib.hid hlq0L
          have hmq0L : (x_q0L, y_q0L) ∈ l := by rw [← hpq0L]; exact getD_mem (by have := L.out.len; omega)
          clear hpq0L hlq0L
          have bdq0L := HSB.out.mem hmq0L
          have bd1q0L := bdq0L.1.1
          have bd2q0L := bdq0L.1.2
          have bd3q0L := bdq0L.2.1
          have bd4q0L := bdq0L.2.2
          dsimp only at bd1q0L bd2q0L bd3q0L bd4q0L
          clear bdq0L
          have hgz : ((k : Nat) : Int) < (2 * ((n : Nat) : Int)) - 1 := by omega
          have ell : (corT (x, y) l k).length ≤ 900 := by rw [corT_len]; omega
          have hbQ := cor_bd (z := (x, y)) ⟨HZX.out, HZY.out⟩ HSB.out k (by have := L.out.len; omega)
          obtain ⟨cQ, hcQ⟩ : ∃ q, cor (x, y) l k = q := ⟨_, rfl⟩
          rw [hcQ] at hbQ B_z1
          have HCQ := Lib.hid hcQ
          clear hcQ
          obtain ⟨xQ, yQ⟩ := cQ
          dsimp only at hbQ B_z1
          obtain ⟨⟨h1Q, h2Q⟩, h3Q, h4Q⟩ := hbQ
          by_cases dd2 : ((n : Nat) : Int) ≤ ((k : Nat) : Int)
          · skip
            obtain ⟨c0z0, c1z0, c2z0⟩ := cells3 B_z0
            go_upto_region 11 with (fail)
            clear c0z0 c1z0 c2z0
            have ltL_z3L : hi_L ≤ wr.heap.size := L.out.top
            have sr_z3VR := Lib.hid (OwnP.lt VR.out)
            have hszPz3 : Hid (w.heap.size ≤ wr.heap.size) := HB.out.size
            go_cut [7] (fun sv0 wx => ∃ Pz3 : Nat, sv0 = (.pointer (some ⟨Pz3, 0, none⟩)) ∧ Hid (w.heap.size ≠ Pz3) ∧ Hid (W0.heap.size ≠ Pz3) ∧ Hid (wr.heap.size ≤ Pz3) ∧ Hid (Bx wx (Pz3) 39 #[.int .i64 x_q0L, .int .i64 y_q0L]) ∧ Hid (Bx wx (w.heap.size) 24 #[.int .i64 x, .int .i64 y, .slice (some ⟨g_L, o_L, none⟩) n c]) ∧ Hid (Bx wx (W0.heap.size) 39 #[.int .i64 xQ, .int .i64 yQ]) ∧ Hid (PL wx lo_L hi_L (some ⟨g_L, o_L, none⟩) n c l) ∧ Hid (OwnP wx base u5 (corT (x, y) l k)) ∧ Hid (base ≤ wx.heap.size) ∧ Hid (Below w.heap.size w wx))
            case first =>
              have lt_z0 := B_z0.out.lt
              obtain ⟨c0z0, c1z0, c2z0⟩ := cells3 B_z0
              have e0q0L : wr.cell? ⟨g_L, o_L + m * 2, none⟩ = some (.int .i64 x_q0L) := (PL.el L.out HLq0L.out HPq0L.out).1
              have e1q0L : wr.cell? ⟨g_L, o_L + m * 2 + 1, none⟩ = some (.int .i64 y_q0L) := (PL.el L.out HLq0L.out HPq0L.out).2
              go_region_held3 (fun w' => w'.cell? ⟨w.heap.size, 0, none⟩ = some (.int .i64 x) ∧ w'.cell? ⟨w.heap.size, 1, none⟩ = some (.int .i64 y) ∧ w'.cell? ⟨w.heap.size, 2, none⟩ = some (.slice (some ⟨g_L, o_L, none⟩) n c) ∧ w'.cell? ⟨g_L, o_L + m * 2, none⟩ = some (.int .i64 x_q0L) ∧ w'.cell? ⟨g_L, o_L + m * 2 + 1, none⟩ = some (.int .i64 y_q0L)) (((try dsimp only); (repeat' apply And.intro) <;> (first | (with_reducible assumption) | ((repeat (first | (with_reducible refine Eq.trans (cell_drew1 _ _) ?_) | (with_reducible refine Eq.trans (cell_far (by omega) _ _ _) ?_) | (with_reducible refine Eq.trans (World.cell?_alloc_lt _ _ _ (by first | (dsimp only; omega) | (simp only [World.size_alloc, World.size_setCell]; omega))) ?_))); with_reducible assumption) | assumption | go_keep)))
                  (first | fail)
              all_goals clear c0z0 c1z0 c2z0 e0q0L e1q0L
              all_goals go_wp2_with fail
              all_goals go_meet
              all_goals first
        | (refine ⟨wr.heap.size, rfl, ?_⟩; have lx_z0 := B_z0.out.lt; have lx_z1 := B_z1.out.lt; obtain ⟨bb, b0⟩ := box1 wr 39 #[.int .i64 x_q0L, .int .i64 y_q0L]; replace bb := bb.out; have hs := HB.out.size; exact ⟨(by unfold Hid; omega), (by unfold Hid; omega), (by unfold Hid; omega), mv b0 sm, mv (mv B_z0 bb) sm, mv (mv B_z1 bb) sm, Lib.hid (PL.below (PL.below L.out bb) sm), Lib.hid (OwnP.below (OwnP.below VR.out bb) sm), Lib.hid (lebel (lebel HBS.out bb) sm), nx (nx HB bb) sm⟩)
            case rest =>
              clear B_z0
              clear B_z1
              clear L
              clear VR
              clear HBS
              clear HB
              rename World => wc4
              obtain ⟨Pz3, rfl, noz0Pz3, noz1Pz3, lePz3, B_z3, B_z0, B_z1, L, VR, HBS, HB⟩ := hcut
              have lePz3' := lePz3.out
              have lwlePz3' := Nat.le_trans hszPz3.out lePz3'
              obtain ⟨c0z0, c1z0, c2z0⟩ := cells3 B_z0
              obtain ⟨c0z3, c1z3⟩ := cells2 B_z3
              obtain ⟨f0z3, f1z3⟩ := froz2 B_z3
              have n_L := Lib.hid ((PL.set (PL.set L.out (show Pz3 < lo_L ∨ hi_L ≤ Pz3 from by first | exact Or.inr (by omega) | exact Or.inl (by omega)) 0 (.int .i64 (-x_q0L))) (show Pz3 < lo_L ∨ hi_L ≤ Pz3 from by first | exact Or.inr (by omega) | exact Or.inl (by omega)) 1 (.int .i64 (-y_q0L))))
              have n_VR := Lib.hid ((OwnP.farS (OwnP.farS VR.out sr_z3VR.out (x := Pz3) (by omega) 0 (.int .i64 (-x_q0L))) sr_z3VR.out (x := Pz3) (by omega) 1 (.int .i64 (-y_q0L))))
              have n_HBS := Lib.hid ((lebelS (lebelS HBS.out ⟨Pz3, 0, none⟩ (.int .i64 (-x_q0L))) ⟨Pz3, 1, none⟩ (.int .i64 (-y_q0L))))
              have ne_z0 : Hid ((w.heap.size) ≠ (Pz3)) := by unfold Hid; have knoz0Pz3 := noz0Pz3.out; have knoz1Pz3 := noz1Pz3.out; omega
              have ne_z1 : Hid ((W0.heap.size) ≠ (Pz3)) := by unfold Hid; have knoz0Pz3 := noz0Pz3.out; have knoz1Pz3 := noz1Pz3.out; omega
              have n_z3 : Hid (Bx ((wc4.setCell ⟨Pz3, 0, none⟩ (.int .i64 (-x_q0L))).setCell ⟨Pz3, 1, none⟩ (.int .i64 (-y_q0L))) (Pz3) 39 #[.int .i64 (-x_q0L), .int .i64 (-y_q0L)]) := ((B_z3.out.set 0 (.int .i64 (-x_q0L))).set 1 (.int .i64 (-y_q0L)))
              have n_z0 := far2 B_z0 ne_z0.out 0 (.int .i64 (-x_q0L)) 1 (.int .i64 (-y_q0L))
              have n_z1 := far2 B_z1 ne_z1.out 0 (.int .i64 (-x_q0L)) 1 (.int .i64 (-y_q0L))
              have nHB := stb2 HB (y := Pz3) (by omega) 0 (.int .i64 (-x_q0L)) 1 (.int .i64 (-y_q0L))
              go_upto_region 14 with (fail)
              clear c0z0 c1z0 c2z0 c0z3 c1z3 f0z3 f1z3
              clear ne_z0 ne_z1
              generalize (wc4.setCell ⟨Pz3, 0, none⟩ (.int .i64 (-x_q0L))).setCell ⟨Pz3, 1, none⟩ (.int .i64 (-y_q0L)) = WS13x248 at *
              clear B_z0
              have B_z0 := n_z0
              clear n_z0
              clear B_z1
              have B_z1 := n_z1
              clear n_z1
              clear B_z3
              have B_z3 := n_z3
              clear n_z3
              clear HB
              have HB := nHB
              clear nHB
              clear L
              have L := n_L
              clear n_L
              clear VR
              have VR := n_VR
              clear n_VR
              clear HBS
              have HBS := n_HBS
              clear n_HBS
              obtain ⟨c0z1, c1z1⟩ := cells2 B_z1
              obtain ⟨c0z3, c1z3⟩ := cells2 B_z3
              obtain ⟨f0z1, f1z1⟩ := froz2 B_z1
              have n_L := Lib.hid ((PL.set (PL.set L.out (show W0.heap.size < lo_L ∨ hi_L ≤ W0.heap.size from by first | exact Or.inr (by omega) | exact Or.inl (by omega)) 0 (.int .i64 (xQ + (2 * (-x_q0L))))) (show W0.heap.size < lo_L ∨ hi_L ≤ W0.heap.size from by first | exact Or.inr (by omega) | exact Or.inl (by omega)) 1 (.int .i64 (yQ + (2 * (-y_q0L))))))
              have n_VR := Lib.hid ((OwnP.farB (OwnP.farB VR.out LT_z1.out 0 (.int .i64 (xQ + (2 * (-x_q0L))))) LT_z1.out 1 (.int .i64 (yQ + (2 * (-y_q0L))))))
              have n_HBS := Lib.hid ((lebelS (lebelS HBS.out ⟨W0.heap.size, 0, none⟩ (.int .i64 (xQ + (2 * (-x_q0L))))) ⟨W0.heap.size, 1, none⟩ (.int .i64 (yQ + (2 * (-y_q0L))))))
              have ne_z0 : Hid ((w.heap.size) ≠ (W0.heap.size)) := by unfold Hid; have knoz0Pz3 := noz0Pz3.out; have knoz1Pz3 := noz1Pz3.out; omega
              have ne_z3 : Hid ((Pz3) ≠ (W0.heap.size)) := by unfold Hid; have knoz0Pz3 := noz0Pz3.out; have knoz1Pz3 := noz1Pz3.out; omega
              have n_z1 : Hid (Bx ((WS13x248.setCell ⟨W0.heap.size, 0, none⟩ (.int .i64 (xQ + (2 * (-x_q0L))))).setCell ⟨W0.heap.size, 1, none⟩ (.int .i64 (yQ + (2 * (-y_q0L))))) (W0.heap.size) 39 #[.int .i64 (xQ + (2 * (-x_q0L))), .int .i64 (yQ + (2 * (-y_q0L)))]) := ((B_z1.out.set 0 (.int .i64 (xQ + (2 * (-x_q0L))))).set 1 (.int .i64 (yQ + (2 * (-y_q0L)))))
              have n_z0 := far2 B_z0 ne_z0.out 0 (.int .i64 (xQ + (2 * (-x_q0L)))) 1 (.int .i64 (yQ + (2 * (-y_q0L))))
              have n_z3 := far2 B_z3 ne_z3.out 0 (.int .i64 (xQ + (2 * (-x_q0L)))) 1 (.int .i64 (yQ + (2 * (-y_q0L))))
              have nHB := stb2 HB (y := W0.heap.size) (by omega) 0 (.int .i64 (xQ + (2 * (-x_q0L)))) 1 (.int .i64 (yQ + (2 * (-y_q0L))))
              go_upto_region 15 with (fail)
              clear c0z1 c1z1 c0z3 c1z3 f0z1 f1z1
              clear ne_z0 ne_z3
              generalize (WS13x248.setCell ⟨W0.heap.size, 0, none⟩ (.int .i64 (xQ + (2 * (-x_q0L))))).setCell ⟨W0.heap.size, 1, none⟩ (.int .i64 (yQ + (2 * (-y_q0L)))) = WS14x285 at *
              clear B_z0
              have B_z0 := n_z0
              clear n_z0
              clear B_z1
              have B_z1 := n_z1
              clear n_z1
              clear B_z3
              have B_z3 := n_z3
              clear n_z3
              clear HB
              have HB := nHB
              clear nHB
              clear L
              have L := n_L
              clear n_L
              clear VR
              have VR := n_VR
              clear n_VR
              clear HBS
              have HBS := n_HBS
              clear n_HBS
              obtain ⟨c0z1, c1z1⟩ := cells2 B_z1
              have HG := Lib.hid (fun wzz (hg : (WS14x285.alloc (.cells #[.int .i64 (xQ + (2 * (-x_q0L))), .int .i64 (yQ + (2 * (-y_q0L)))] 39)).grownBy wzz (Value.ownBlock u5)) => grown_below VR.out HBS.out hg)
              go_wp2_with (at_builtin; refine wpList_append_own _ rfl _ _ 22 rfl base 39 i0 (.agg #[.int .i64 0, .int .i64 0]) 2 16 Try.underlying22 HI.out hz0 hz1 hz2 rfl (by decide) u5 (corT (x, y) l k).length (pts (corT (x, y) l k)) rfl (VR.out.alloc _) ⟨WS14x285.heap.size, 0, none⟩ 1 1 (pts [(xQ + (2 * (-x_q0L)), yQ + (2 * (-y_q0L)))]) rfl rfl (new_pt WS14x285 _ _) (pts_one _) (by simp only [maxLen]; omega) (by omega) (by have := HBS.out; simp; omega) ?_; intro va5 wa5 hown3 hgrow3 hnil3; have HX3 := Lib.hid hown3; have HY3 := Lib.hid (HG.out _ hgrow3); clear hown3 hgrow3 hnil3)
              have VRn : Hid (OwnP wa5 base va5 (corT (x, y) l k ++ [(xQ + (2 * (-x_q0L)), yQ + (2 * (-y_q0L)))])) := by have h := HX3.out; rw [pts_append] at h; unfold Hid OwnP; rw [List.length_append]; exact h
              replace B_z0 := Lib.hid (Bx.below B_z0.out HY3.out LT_z0.out)
              replace B_z1 := Lib.hid (Bx.below B_z1.out HY3.out LT_z1.out)
              replace L := Lib.hid (PL.belowB L.out HY3.out TL_L.out)
              replace HB := Lib.hid (HB.out.trans (HY3.out.mono HW.out))
              replace HBS := Lib.hid (Nat.le_trans HBS.out HY3.out.size)
              clear HX3 HY3 HG
              clear B_z3
              clear VR
              have VR := VRn
              clear VRn
              have hlen := L.out.len
              have HCN : Hid (cor (x, y) l (k + 1) = (xQ + (2 * (-x_q0L)), yQ + (2 * (-y_q0L)))) := by unfold Hid; rw [cor_hi (x, y) l (i := k) (gx := x_q0L) (gy := y_q0L) (by omega) (by omega) (by rw [← HPq0L.out, ← HM.out, ← hlen]), HCQ.out]
              clear hlen
              have HTS : Hid (corT (x, y) l (k + 1) = corT (x, y) l k ++ [cor (x, y) l (k + 1)]) := rfl
              rw [HCN.out] at HTS
              go_wp2_with fail
              go_roundw
              case rel => exact ⟨k + 1, by omega, by go_num, (by rw [HTS.out]; exact VR), HBS, L, B_z0, (by rw [HCN.out]; exact B_z1), HB⟩
              case measure => simp only [intOf]; omega
          · skip
            replace dd2 : ((k : Nat) : Int) < ((n : Nat) : Int) := by omega
            obtain ⟨c0z0, c1z0, c2z0⟩ := cells3 B_z0
            go_upto_region 11 with (fail)
            clear c0z0 c1z0 c2z0
            have ltL_z3L : hi_L ≤ wr.heap.size := L.out.top
            have sr_z3VR := Lib.hid (OwnP.lt VR.out)
            have hszPz3 : Hid (w.heap.size ≤ wr.heap.size) := HB.out.size
            go_cut [7] (fun sv0 wx => ∃ Pz3 : Nat, sv0 = (.pointer (some ⟨Pz3, 0, none⟩)) ∧ Hid (w.heap.size ≠ Pz3) ∧ Hid (W0.heap.size ≠ Pz3) ∧ Hid (wr.heap.size ≤ Pz3) ∧ Hid (Bx wx (Pz3) 39 #[.int .i64 x_q0L, .int .i64 y_q0L]) ∧ Hid (Bx wx (w.heap.size) 24 #[.int .i64 x, .int .i64 y, .slice (some ⟨g_L, o_L, none⟩) n c]) ∧ Hid (Bx wx (W0.heap.size) 39 #[.int .i64 xQ, .int .i64 yQ]) ∧ Hid (PL wx lo_L hi_L (some ⟨g_L, o_L, none⟩) n c l) ∧ Hid (OwnP wx base u5 (corT (x, y) l k)) ∧ Hid (base ≤ wx.heap.size) ∧ Hid (Below w.heap.size w wx))
            case first =>
              have lt_z0 := B_z0.out.lt
              obtain ⟨c0z0, c1z0, c2z0⟩ := cells3 B_z0
              have e0q0L : wr.cell? ⟨g_L, o_L + m * 2, none⟩ = some (.int .i64 x_q0L) := (PL.el L.out HLq0L.out HPq0L.out).1
              have e1q0L : wr.cell? ⟨g_L, o_L + m * 2 + 1, none⟩ = some (.int .i64 y_q0L) := (PL.el L.out HLq0L.out HPq0L.out).2
              go_region_held3 (fun w' => w'.cell? ⟨w.heap.size, 0, none⟩ = some (.int .i64 x) ∧ w'.cell? ⟨w.heap.size, 1, none⟩ = some (.int .i64 y) ∧ w'.cell? ⟨w.heap.size, 2, none⟩ = some (.slice (some ⟨g_L, o_L, none⟩) n c) ∧ w'.cell? ⟨g_L, o_L + m * 2, none⟩ = some (.int .i64 x_q0L) ∧ w'.cell? ⟨g_L, o_L + m * 2 + 1, none⟩ = some (.int .i64 y_q0L)) (((try dsimp only); (repeat' apply And.intro) <;> (first | (with_reducible assumption) | ((repeat (first | (with_reducible refine Eq.trans (cell_drew1 _ _) ?_) | (with_reducible refine Eq.trans (cell_far (by omega) _ _ _) ?_) | (with_reducible refine Eq.trans (World.cell?_alloc_lt _ _ _ (by first | (dsimp only; omega) | (simp only [World.size_alloc, World.size_setCell]; omega))) ?_))); with_reducible assumption) | assumption | go_keep)))
                  (first | fail)
              all_goals clear c0z0 c1z0 c2z0 e0q0L e1q0L
              all_goals go_wp2_with fail
              all_goals go_meet
              all_goals first
        | (refine ⟨wr.heap.size, rfl, ?_⟩; have lx_z0 := B_z0.out.lt; have lx_z1 := B_z1.out.lt; obtain ⟨bb, b0⟩ := box1 wr 39 #[.int .i64 x_q0L, .int .i64 y_q0L]; replace bb := bb.out; have hs := HB.out.size; exact ⟨(by unfold Hid; omega), (by unfold Hid; omega), (by unfold Hid; omega), mv b0 sm, mv (mv B_z0 bb) sm, mv (mv B_z1 bb) sm, Lib.hid (PL.below (PL.below L.out bb) sm), Lib.hid (OwnP.below (OwnP.below VR.out bb) sm), Lib.hid (lebel (lebel HBS.out bb) sm), nx (nx HB bb) sm⟩)
            case rest =>
              clear B_z0
              clear B_z1
              clear L
              clear VR
              clear HBS
              clear HB
              rename World => wc6
              obtain ⟨Pz3, rfl, noz0Pz3, noz1Pz3, lePz3, B_z3, B_z0, B_z1, L, VR, HBS, HB⟩ := hcut
              have lePz3' := lePz3.out
              have lwlePz3' := Nat.le_trans hszPz3.out lePz3'
              obtain ⟨c0z0, c1z0, c2z0⟩ := cells3 B_z0
              obtain ⟨c0z1, c1z1⟩ := cells2 B_z1
              obtain ⟨c0z3, c1z3⟩ := cells2 B_z3
              obtain ⟨f0z1, f1z1⟩ := froz2 B_z1
              have n_L := Lib.hid ((PL.set (PL.set L.out (show W0.heap.size < lo_L ∨ hi_L ≤ W0.heap.size from by first | exact Or.inr (by omega) | exact Or.inl (by omega)) 0 (.int .i64 (xQ + (2 * x_q0L)))) (show W0.heap.size < lo_L ∨ hi_L ≤ W0.heap.size from by first | exact Or.inr (by omega) | exact Or.inl (by omega)) 1 (.int .i64 (yQ + (2 * y_q0L)))))
              have n_VR := Lib.hid ((OwnP.farB (OwnP.farB VR.out LT_z1.out 0 (.int .i64 (xQ + (2 * x_q0L)))) LT_z1.out 1 (.int .i64 (yQ + (2 * y_q0L)))))
              have n_HBS := Lib.hid ((lebelS (lebelS HBS.out ⟨W0.heap.size, 0, none⟩ (.int .i64 (xQ + (2 * x_q0L)))) ⟨W0.heap.size, 1, none⟩ (.int .i64 (yQ + (2 * y_q0L)))))
              have ne_z0 : Hid ((w.heap.size) ≠ (W0.heap.size)) := by unfold Hid; have knoz0Pz3 := noz0Pz3.out; have knoz1Pz3 := noz1Pz3.out; omega
              have ne_z3 : Hid ((Pz3) ≠ (W0.heap.size)) := by unfold Hid; have knoz0Pz3 := noz0Pz3.out; have knoz1Pz3 := noz1Pz3.out; omega
              have n_z1 : Hid (Bx ((wc6.setCell ⟨W0.heap.size, 0, none⟩ (.int .i64 (xQ + (2 * x_q0L)))).setCell ⟨W0.heap.size, 1, none⟩ (.int .i64 (yQ + (2 * y_q0L)))) (W0.heap.size) 39 #[.int .i64 (xQ + (2 * x_q0L)), .int .i64 (yQ + (2 * y_q0L))]) := ((B_z1.out.set 0 (.int .i64 (xQ + (2 * x_q0L)))).set 1 (.int .i64 (yQ + (2 * y_q0L))))
              have n_z0 := far2 B_z0 ne_z0.out 0 (.int .i64 (xQ + (2 * x_q0L))) 1 (.int .i64 (yQ + (2 * y_q0L)))
              have n_z3 := far2 B_z3 ne_z3.out 0 (.int .i64 (xQ + (2 * x_q0L))) 1 (.int .i64 (yQ + (2 * y_q0L)))
              have nHB := stb2 HB (y := W0.heap.size) (by omega) 0 (.int .i64 (xQ + (2 * x_q0L))) 1 (.int .i64 (yQ + (2 * y_q0L)))
              go_upto_region 15 with (fail)
              clear c0z0 c1z0 c2z0 c0z1 c1z1 c0z3 c1z3 f0z1 f1z1
              clear ne_z0 ne_z3
              generalize (wc6.setCell ⟨W0.heap.size, 0, none⟩ (.int .i64 (xQ + (2 * x_q0L)))).setCell ⟨W0.heap.size, 1, none⟩ (.int .i64 (yQ + (2 * y_q0L))) = WS14x377 at *
              clear B_z0
              have B_z0 := n_z0
              clear n_z0
              clear B_z1
              have B_z1 := n_z1
              clear n_z1
              clear B_z3
              have B_z3 := n_z3
              clear n_z3
              clear HB
              have HB := nHB
              clear nHB
              clear L
              have L := n_L
              clear n_L
              clear VR
              have VR := n_VR
              clear n_VR
              clear HBS
              have HBS := n_HBS
              clear n_HBS
              obtain ⟨c0z1, c1z1⟩ := cells2 B_z1
              have HG := Lib.hid (fun wzz (hg : (WS14x377.alloc (.cells #[.int .i64 (xQ + (2 * x_q0L)), .int .i64 (yQ + (2 * y_q0L))] 39)).grownBy wzz (Value.ownBlock u5)) => grown_below VR.out HBS.out hg)
              go_wp2_with (at_builtin; refine wpList_append_own _ rfl _ _ 22 rfl base 39 i0 (.agg #[.int .i64 0, .int .i64 0]) 2 16 Try.underlying22 HI.out hz0 hz1 hz2 rfl (by decide) u5 (corT (x, y) l k).length (pts (corT (x, y) l k)) rfl (VR.out.alloc _) ⟨WS14x377.heap.size, 0, none⟩ 1 1 (pts [(xQ + (2 * x_q0L), yQ + (2 * y_q0L))]) rfl rfl (new_pt WS14x377 _ _) (pts_one _) (by simp only [maxLen]; omega) (by omega) (by have := HBS.out; simp; omega) ?_; intro va7 wa7 hown3 hgrow3 hnil3; have HX3 := Lib.hid hown3; have HY3 := Lib.hid (HG.out _ hgrow3); clear hown3 hgrow3 hnil3)
              have VRn : Hid (OwnP wa7 base va7 (corT (x, y) l k ++ [(xQ + (2 * x_q0L), yQ + (2 * y_q0L))])) := by have h := HX3.out; rw [pts_append] at h; unfold Hid OwnP; rw [List.length_append]; exact h
              replace B_z0 := Lib.hid (Bx.below B_z0.out HY3.out LT_z0.out)
              replace B_z1 := Lib.hid (Bx.below B_z1.out HY3.out LT_z1.out)
              replace L := Lib.hid (PL.belowB L.out HY3.out TL_L.out)
              replace HB := Lib.hid (HB.out.trans (HY3.out.mono HW.out))
              replace HBS := Lib.hid (Nat.le_trans HBS.out HY3.out.size)
              clear HX3 HY3 HG
              clear B_z3
              clear VR
              have VR := VRn
              clear VRn
              have hlen := L.out.len
              have HCN : Hid (cor (x, y) l (k + 1) = (xQ + (2 * x_q0L), yQ + (2 * y_q0L))) := by unfold Hid; rw [cor_lo (x, y) l (i := k) (gx := x_q0L) (gy := y_q0L) (by omega) (by rw [← HPq0L.out, ← HM.out, Nat.mod_eq_of_lt (by omega)]), HCQ.out]
              clear hlen
              have HTS : Hid (corT (x, y) l (k + 1) = corT (x, y) l k ++ [cor (x, y) l (k + 1)]) := rfl
              rw [HCN.out] at HTS
              go_wp2_with fail
              go_roundw
              case rel => exact ⟨k + 1, by omega, by go_num, (by rw [HTS.out]; exact VR), HBS, L, B_z0, (by rw [HCN.out]; exact B_z1), HB⟩
              case measure => simp only [intOf]; omega
        · skip
          have hkn : (2 * n - 1) = k := by omega
          subst hkn
          have hgz : ¬ (((2 * n - 1 : Nat) : Int) < (2 * ((n : Nat) : Int)) - 1) := by omega
          obtain ⟨c0z0, c1z0, c2z0⟩ := cells3 B_z0
          have HTE : Hid (corT (x, y) l (2 * n - 1) = cornL (x, y) l) := by unfold Hid; rw [L.out.len]; exact corT_eq _ _
          rw [HTE.out] at VR
          obtain ⟨A5, c5, e5, p5, -⟩ := VR.out.pl
          subst e5
          have P5 := Lib.hid p5
          clear p5 VR
          go_wp2
          go_ret
          exact ⟨A5, c5, rfl, PL.outw P5.out HW.out, HB.out⟩
end Go.Proofs.Ytpjbkadhmjlpfaa
