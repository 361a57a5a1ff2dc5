/- the reference's Area. -/
import Derived.Test.YtpjbkadhmjlpfaaZ37
set_option linter.unusedVariables false
set_option linter.unusedSimpArgs false
namespace Go.Proofs.Ytpjbkadhmjlpfaa
open Go Go.RowKit Hd

/-- The area as the reference answers. -/
def areaX (x y : Int) (l : List P2) : Int := if OkZ x y l then areaL l else 0
theorem shoe_bd {cl : List P2} (h : ∀ p ∈ cl, Wi p.1 33554432 ∧ Wi p.2 33554432) (h0 : 0 < cl.length) (k : Nat) (hk : k ≤ cl.length) : -(k * 9007199254740992 : Int) ≤ shoe cl k ∧ shoe cl k ≤ k * 9007199254740992 := by
  induction k with
  | zero => simp [shoe]
  | succ k ih =>
    obtain ⟨h1, h2⟩ := ih (by omega)
    obtain ⟨⟨a1, a2⟩, a3, a4⟩ := h _ (getD_mem (z := z2) (show k < cl.length by omega))
    obtain ⟨⟨b1, b2⟩, b3, b4⟩ := h _ (getD_mem (z := z2) (show 0 < cl.length by omega))
    obtain ⟨⟨c1, c2⟩, c3, c4⟩ := h _ (getD_mem (z := z2) (show (k + 1) % cl.length < cl.length from Nat.mod_lt _ h0))
    have e : shoe cl (k + 1) = shoe cl k + crs (subP (cl.getD k z2) (cl.getD 0 z2)) (subP (cl.getD ((k + 1) % cl.length) z2) (cl.getD 0 z2)) := rfl
    rw [e]
    generalize cl.getD k z2 = P at *
    generalize cl.getD 0 z2 = O at *
    generalize cl.getD ((k + 1) % cl.length) z2 = Q at *
    unfold crs cr subP
    dsimp only
    obtain ⟨m1, m2⟩ := @wi_mul (P.1 - O.1) (Q.2 - O.2) 67108864 67108864 ⟨by omega, by omega⟩ ⟨by omega, by omega⟩
    obtain ⟨m3, m4⟩ := @wi_mul (P.2 - O.2) (Q.1 - O.1) 67108864 67108864 ⟨by omega, by omega⟩ ⟨by omega, by omega⟩
    omega
theorem pr_nn (l : List P2) : 0 ≤ pr l := by
  induction l with
  | nil => exact Int.le_refl _
  | cons x t ih => have e : pr (x :: t) = arow x t + pr t := rfl; rw [e]; have := arow_nn x t; omega
theorem area_bd {x y : Int} {l : List P2} (h : OkZ x y l) : areaL l ≤ 36028797018963968 := by
  have := (areaN_bd h.2.2.2 h.2.2.1 l.length (Nat.le_refl _)).2
  have h2 := h.2.2.1
  unfold areaL
  omega

set_option maxRecDepth 100000 in
set_option maxHeartbeats 4000000 in
theorem RArea_is (x y : Int) (A : Option Addr) (n c : Nat) (l : List P2)  (hn : n ≤ 200) (w : World) {lo_L hi_L : Nat} (L : PL w lo_L hi_L A n c l) :
    Calls Try.prog 23 #[.agg #[.int .i64 x, .int .i64 y, .slice A n c]] w fun e w' => e = .returned (.int .i64 (areaX x y l)) ∧ Below w.heap.size w w' := by
  have hiL_L : hi_L ≤ w.heap.size := L.top
  replace L := Lib.hid L
  by_cases dd0 : OkZ x y l
  · skip
    obtain ⟨cl0, hcl0⟩ : ∃ m, cornL (x, y) (canL l) = m := ⟨_, rfl⟩
    have HQ0 := Lib.hid hcl0
    have HLB0 : Hid (∀ p ∈ cl0, Wi p.1 33554432 ∧ Wi p.2 33554432) := by rw [← hcl0]; exact corn_all (M := 16777216) (S := 16777216) (okz_x dd0) (okz_y dd0) (okz_cs dd0)
    have hlencl0 : cl0.length ≤ 32 := by rw [← hcl0, corn_len]; have := okz_cl dd0; omega
    have hposcl0 : 0 < cl0.length := by rw [← hcl0, corn_len]; omega
    have HCC0 := Lib.hid (fun (w : World) (lo hi : Nat) (M : PL w lo hi A n c l) => RCorners_w0 x y A n c l (by omega) dd0 w M)
    rw [hcl0] at HCC0
    clear hcl0
    obtain ⟨HB, B_z0⟩ := box1 w 24 #[.int .i64 x, .int .i64 y, .slice A n c]
    replace L := Lib.hid (PL.below L.out HB.out)
    go_enter Try.func23, Try.ntmps23
    go_upto_region 1 with (fail)
    generalize w.alloc (.cells #[.int .i64 x, .int .i64 y, .slice A n c] 24) = W0 at *
    obtain ⟨c0z0, c1z0, c2z0⟩ := cells3 B_z0
    have sp_z0_LC0 : Hid (w.heap.size < W0.heap.size) := B_z0.out.lt
    have lw_LC0 : Hid (w.heap.size ≤ W0.heap.size) := HB.out.size
    go_wp2_with fail
    refine (HCC0.out _ _ _ (PL.below L.out (by exact sm))).mono ?_
    clear c0z0 c1z0 c2z0
    rintro e w1 ⟨AC0, cC0, rfl, LC0, bb⟩
    replace bb := nextw (w0 := W0) (by exact sm) bb
    replace B_z0 := mv B_z0 bb
    replace L := Lib.hid (PL.below L.out bb)
    replace HB := nx HB bb
    clear bb
    replace LC0 := Lib.hid LC0
    obtain ⟨lo_LC0, hi_LC0, hlo_LC0, hhi_LC0, LC0⟩ : ∃ lo hi, W0.heap.size ≤ lo ∧ hi ≤ w1.heap.size ∧ Hid (PL w1 lo hi AC0 cl0.length cC0 cl0) := ⟨_, _, Nat.le_refl _, Nat.le_refl _, LC0⟩
    have hb_z0_LC0 : w.heap.size < lo_LC0 := by have := sp_z0_LC0.out; omega
    have hw_LC0 : w.heap.size ≤ lo_LC0 := by have := lw_LC0.out; omega
    go_wp2_with fail
    go_loopw [4, 5] (fun a0 kk wx => ∃ (k : Nat), k ≤ cl0.length ∧ kk = .int .i64 k ∧ a0 = (.int .i64 (shoe cl0 k)) ∧ Hid (PL wx lo_L hi_L A n c l) ∧ Hid (PL wx lo_LC0 hi_LC0 AC0 cl0.length cC0 cl0) ∧ Hid (Bx wx (w.heap.size) 24 #[.int .i64 x, .int .i64 y, .slice A n c]) ∧ Hid (Below w.heap.size w wx)) (fun _ kk _ => cl0.length - (intOf kk).toNat)
    case atStart => exact ⟨0, by omega, rfl, rfl, L, LC0, B_z0, HB⟩
    case round =>
      clear L LC0 B_z0 HB
      obtain ⟨k, hk, rfl, rfl, L, LC0, B_z0, HB⟩ := hrel
      by_cases hlt : k < cl0.length
      · skip
        have hlq0LC0 : k < cl0.length := hlt
        obtain ⟨g_LC0, o_LC0, eA_LC0, -, -, -⟩ := LC0.out.elem hlq0LC0
        subst eA_LC0
        obtain ⟨⟨x_q0LC0, y_q0LC0⟩, hpq0LC0⟩ : ∃ q, cl0.getD k z2 = q := ⟨_, rfl⟩
        have HPq0LC0 := Lib.hid hpq0LC0
        have HLq0LC0 := Lib.hid hlq0LC0
        have hmq0LC0 : (x_q0LC0, y_q0LC0) ∈ cl0 := by rw [← hpq0LC0]; exact getD_mem (by have := LC0.out.len; omega)
        clear hpq0LC0 hlq0LC0
        have bdq0LC0 := HLB0.out _ hmq0LC0
        have bd1q0LC0 := bdq0LC0.1.1
        have bd2q0LC0 := bdq0LC0.1.2
        have bd3q0LC0 := bdq0LC0.2.1
        have bd4q0LC0 := bdq0LC0.2.2
        dsimp only at bd1q0LC0 bd2q0LC0 bd3q0LC0 bd4q0LC0
        clear bdq0LC0
        have hlq1LC0 : 0 < cl0.length := by omega
        obtain ⟨⟨x_q1LC0, y_q1LC0⟩, hpq1LC0⟩ : ∃ q, cl0.getD 0 z2 = q := ⟨_, rfl⟩
        have HPq1LC0 := Lib.hid hpq1LC0
        have HLq1LC0 := Lib.hid hlq1LC0
        have hmq1LC0 : (x_q1LC0, y_q1LC0) ∈ cl0 := by rw [← hpq1LC0]; exact getD_mem (by have := LC0.out.len; omega)
        clear hpq1LC0 hlq1LC0
        have bdq1LC0 := HLB0.out _ hmq1LC0
        have bd1q1LC0 := bdq1LC0.1.1
        have bd2q1LC0 := bdq1LC0.1.2
        have bd3q1LC0 := bdq1LC0.2.1
        have bd4q1LC0 := bdq1LC0.2.2
        dsimp only at bd1q1LC0 bd2q1LC0 bd3q1LC0 bd4q1LC0
        clear bdq1LC0
        obtain ⟨m, hm⟩ : ∃ m, (k + 1) % cl0.length = m := ⟨_, rfl⟩
        have HM := Lib.hid hm
        have hml : m < cl0.length := by rw [← hm]; exact Nat.mod_lt _ (by omega)
        have hmz : Int.tmod (((k : Nat) : Int) + 1) ((cl0.length : Nat) : Int) = ((m : Nat) : Int) := by rw [← hm]; rfl
        have hmw : IntKind.i64.wrap (Int.tmod (((k : Nat) : Int) + 1) ((cl0.length : Nat) : Int)) = ((m : Nat) : Int) := by rw [hmz, IntKind.wrap_i64]; omega
        have hmw2 : IntKind.i64.wrap ((m : Nat) : Int) = ((m : Nat) : Int) := by rw [IntKind.wrap_i64]; omega
        have hk1w : IntKind.i64.wrap (((k : Nat) : Int) + 1) = ((k : Nat) : Int) + 1 := by rw [IntKind.wrap_i64]; omega
        have hn0 : ¬ (((cl0.length : Nat) : Int) = 0) := by omega
        have hn1 : ¬ (cl0.length = 0) := by omega
        have hm0 : (0 : Int) ≤ ((m : Nat) : Int) ∧ ((m : Nat) : Int) < ((cl0.length : Nat) : Int) := by omega
        clear hm
        have hlq2LC0 : m < cl0.length := hml
        obtain ⟨⟨x_q2LC0, y_q2LC0⟩, hpq2LC0⟩ : ∃ q, cl0.getD m z2 = q := ⟨_, rfl⟩
        have HPq2LC0 := Lib.hid hpq2LC0
        have HLq2LC0 := Lib.hid hlq2LC0
        have hmq2LC0 : (x_q2LC0, y_q2LC0) ∈ cl0 := by rw [← hpq2LC0]; exact getD_mem (by have := LC0.out.len; omega)
        clear hpq2LC0 hlq2LC0
        have bdq2LC0 := HLB0.out _ hmq2LC0
        have bd1q2LC0 := bdq2LC0.1.1
        have bd2q2LC0 := bdq2LC0.1.2
        have bd3q2LC0 := bdq2LC0.2.1
        have bd4q2LC0 := bdq2LC0.2.2
        dsimp only at bd1q2LC0 bd2q2LC0 bd3q2LC0 bd4q2LC0
        clear bdq2LC0
        obtain ⟨mb0a, mb0b⟩ := @wi_mul (x_q0LC0 - x_q1LC0) (y_q2LC0 - y_q1LC0) 67108864 67108864 ⟨by omega, by omega⟩ ⟨by omega, by omega⟩
        obtain ⟨mb1a, mb1b⟩ := @wi_mul (y_q0LC0 - y_q1LC0) (x_q2LC0 - x_q1LC0) 67108864 67108864 ⟨by omega, by omega⟩ ⟨by omega, by omega⟩
        have hsb := shoe_bd HLB0.out hposcl0 k (by omega)
        obtain ⟨hsb1, hsb2⟩ := hsb
        have HSS : Hid (shoe cl0 (k + 1) = shoe cl0 k + cr (x_q0LC0 - x_q1LC0) (y_q0LC0 - y_q1LC0) (x_q2LC0 - x_q1LC0) (y_q2LC0 - y_q1LC0)) := by unfold Hid; show shoe cl0 k + crs (subP (cl0.getD k z2) (cl0.getD 0 z2)) (subP (cl0.getD ((k + 1) % cl0.length) z2) (cl0.getD 0 z2)) = _; rw [HPq0LC0.out, HM.out, HPq2LC0.out, HPq1LC0.out]; rfl
        have hcb : Wi (cr (x_q0LC0 - x_q1LC0) (y_q0LC0 - y_q1LC0) (x_q2LC0 - x_q1LC0) (y_q2LC0 - y_q1LC0)) 9007199254740992 := by unfold cr; exact ⟨by omega, by omega⟩
        obtain ⟨hcb1, hcb2⟩ := hcb
        generalize shoe cl0 k = S0 at *
        have H1 := Lib.hid (fun w => Rcross_is (x_q0LC0 - x_q1LC0) (y_q0LC0 - y_q1LC0) (x_q2LC0 - x_q1LC0) (y_q2LC0 - y_q1LC0) ⟨by omega, by omega⟩ ⟨by omega, by omega⟩ w)
        go_upto_region 6 with (fail)
        have ltL_z1L : hi_L ≤ wr.heap.size := L.out.top
        have ltL_z1LC0 : hi_LC0 ≤ wr.heap.size := LC0.out.top
        have hszPz1 : Hid (w.heap.size ≤ wr.heap.size) := HB.out.size
        go_cut [6] (fun sv0 wx => ∃ Pz1 : Nat, sv0 = (.pointer (some ⟨Pz1, 0, none⟩)) ∧ Hid (w.heap.size ≠ Pz1) ∧ Hid (wr.heap.size ≤ Pz1) ∧ Hid (Bx wx (Pz1) 39 #[.int .i64 (x_q0LC0 - x_q1LC0), .int .i64 (y_q0LC0 - y_q1LC0)]) ∧ Hid (Bx wx (w.heap.size) 24 #[.int .i64 x, .int .i64 y, .slice A n c]) ∧ Hid (PL wx lo_L hi_L A n c l) ∧ Hid (PL wx lo_LC0 hi_LC0 (some ⟨g_LC0, o_LC0, none⟩) cl0.length cC0 cl0) ∧ Hid (Below w.heap.size w wx))
        case first =>
          have wq6x0 : IntKind.i64.wrap (x_q0LC0 - x_q1LC0) = x_q0LC0 - x_q1LC0 := by rw [IntKind.wrap_i64]; omega
          have wq6x1 : IntKind.i64.wrap (y_q0LC0 - y_q1LC0) = y_q0LC0 - y_q1LC0 := by rw [IntKind.wrap_i64]; omega
          have e0q0LC0 : wr.cell? ⟨g_LC0, o_LC0 + k * 2, none⟩ = some (.int .i64 x_q0LC0) := (PL.el LC0.out HLq0LC0.out HPq0LC0.out).1
          have e1q0LC0 : wr.cell? ⟨g_LC0, o_LC0 + k * 2 + 1, none⟩ = some (.int .i64 y_q0LC0) := (PL.el LC0.out HLq0LC0.out HPq0LC0.out).2
          have e0q1LC0 : wr.cell? ⟨g_LC0, o_LC0, none⟩ = some (.int .i64 x_q1LC0) := by have h := (PL.el LC0.out HLq1LC0.out HPq1LC0.out).1; simpa using h
          have e1q1LC0 : wr.cell? ⟨g_LC0, o_LC0 + 1, none⟩ = some (.int .i64 y_q1LC0) := by have h := (PL.el LC0.out HLq1LC0.out HPq1LC0.out).2; simpa using h
          go_region_held3 (fun w' => w'.cell? ⟨g_LC0, o_LC0 + k * 2, none⟩ = some (.int .i64 x_q0LC0) ∧ w'.cell? ⟨g_LC0, o_LC0 + k * 2 + 1, none⟩ = some (.int .i64 y_q0LC0) ∧ w'.cell? ⟨g_LC0, o_LC0, none⟩ = some (.int .i64 x_q1LC0) ∧ w'.cell? ⟨g_LC0, o_LC0 + 1, none⟩ = some (.int .i64 y_q1LC0)) (((try dsimp only); (repeat' apply And.intro) <;> (first | (with_reducible assumption) | ((repeat (first | (with_reducible refine Eq.trans (cell_drew1 _ _) ?_) | (with_reducible refine Eq.trans (cell_far (by omega) _ _ _) ?_) | (with_reducible refine Eq.trans (World.cell?_alloc_lt _ _ _ (by first | (dsimp only; omega) | (simp only [World.size_alloc, World.size_setCell]; omega))) ?_))); with_reducible assumption) | assumption | go_keep)))
              (first | fail)
          all_goals clear e0q0LC0 e1q0LC0 e0q1LC0 e1q1LC0
          all_goals go_wp2_with fail
          all_goals go_meet
          all_goals first
              | (refine ⟨wr.heap.size, rfl, ?_⟩; have lx_z0 := B_z0.out.lt; obtain ⟨bb, b0⟩ := box1 wr 39 #[.int .i64 (x_q0LC0 - x_q1LC0), .int .i64 (y_q0LC0 - y_q1LC0)]; replace bb := bb.out; have hs := HB.out.size; exact ⟨(by unfold Hid; omega), (by unfold Hid; omega), mv b0 sm, mv (mv B_z0 bb) sm, Lib.hid (PL.below (PL.below L.out bb) sm), Lib.hid (PL.below (PL.below LC0.out bb) sm), nx (nx HB bb) sm⟩)
        case rest =>
          clear B_z0
          clear L
          clear LC0
          clear HB
          rename World => wc2
          obtain ⟨Pz1, rfl, noz0Pz1, lePz1, B_z1, B_z0, L, LC0, HB⟩ := hcut
          have lePz1' := lePz1.out
          have lwlePz1' := Nat.le_trans hszPz1.out lePz1'
          go_upto_region 7 with (fail)
          have ltL_z2L : hi_L ≤ wc2.heap.size := L.out.top
          have ltL_z2LC0 : hi_LC0 ≤ wc2.heap.size := LC0.out.top
          have hszPz2 : Hid (w.heap.size ≤ wc2.heap.size) := HB.out.size
          go_cut [7] (fun sv0 wx => ∃ Pz2 : Nat, sv0 = (.pointer (some ⟨Pz2, 0, none⟩)) ∧ Hid (w.heap.size ≠ Pz2) ∧ Hid (Pz1 ≠ Pz2) ∧ Hid (wc2.heap.size ≤ Pz2) ∧ Hid (Bx wx (Pz2) 39 #[.int .i64 (x_q2LC0 - x_q1LC0), .int .i64 (y_q2LC0 - y_q1LC0)]) ∧ Hid (Bx wx (w.heap.size) 24 #[.int .i64 x, .int .i64 y, .slice A n c]) ∧ Hid (Bx wx (Pz1) 39 #[.int .i64 (x_q0LC0 - x_q1LC0), .int .i64 (y_q0LC0 - y_q1LC0)]) ∧ Hid (PL wx lo_L hi_L A n c l) ∧ Hid (PL wx lo_LC0 hi_LC0 (some ⟨g_LC0, o_LC0, none⟩) cl0.length cC0 cl0) ∧ Hid (Below w.heap.size w wx))
          case first =>
            have wq7x0 : IntKind.i64.wrap (((k : Nat) : Int) + 1) = ((k : Nat) : Int) + 1 := by rw [IntKind.wrap_i64]; omega
            have wq7x1 : IntKind.i64.wrap (x_q2LC0 - x_q1LC0) = x_q2LC0 - x_q1LC0 := by rw [IntKind.wrap_i64]; omega
            have wq7x2 : IntKind.i64.wrap (y_q2LC0 - y_q1LC0) = y_q2LC0 - y_q1LC0 := by rw [IntKind.wrap_i64]; omega
            have e0q2LC0 : wc2.cell? ⟨g_LC0, o_LC0 + m * 2, none⟩ = some (.int .i64 x_q2LC0) := (PL.el LC0.out HLq2LC0.out HPq2LC0.out).1
            have e1q2LC0 : wc2.cell? ⟨g_LC0, o_LC0 + m * 2 + 1, none⟩ = some (.int .i64 y_q2LC0) := (PL.el LC0.out HLq2LC0.out HPq2LC0.out).2
            have e0q1LC0 : wc2.cell? ⟨g_LC0, o_LC0, none⟩ = some (.int .i64 x_q1LC0) := by have h := (PL.el LC0.out HLq1LC0.out HPq1LC0.out).1; simpa using h
            have e1q1LC0 : wc2.cell? ⟨g_LC0, o_LC0 + 1, none⟩ = some (.int .i64 y_q1LC0) := by have h := (PL.el LC0.out HLq1LC0.out HPq1LC0.out).2; simpa using h
            go_region_held3 (fun w' => w'.cell? ⟨g_LC0, o_LC0 + m * 2, none⟩ = some (.int .i64 x_q2LC0) ∧ w'.cell? ⟨g_LC0, o_LC0 + m * 2 + 1, none⟩ = some (.int .i64 y_q2LC0) ∧ w'.cell? ⟨g_LC0, o_LC0, none⟩ = some (.int .i64 x_q1LC0) ∧ w'.cell? ⟨g_LC0, o_LC0 + 1, none⟩ = some (.int .i64 y_q1LC0)) (((try dsimp only); (repeat' apply And.intro) <;> (first | (with_reducible assumption) | ((repeat (first | (with_reducible refine Eq.trans (cell_drew1 _ _) ?_) | (with_reducible refine Eq.trans (cell_far (by omega) _ _ _) ?_) | (with_reducible refine Eq.trans (World.cell?_alloc_lt _ _ _ (by first | (dsimp only; omega) | (simp only [World.size_alloc, World.size_setCell]; omega))) ?_))); with_reducible assumption) | assumption | go_keep)))
                (first | fail)
            all_goals clear e0q2LC0 e1q2LC0 e0q1LC0 e1q1LC0
            all_goals go_wp2_with fail
            all_goals go_meet
            all_goals first
                | (refine ⟨wc2.heap.size, rfl, ?_⟩; have lx_z0 := B_z0.out.lt; have lx_z1 := B_z1.out.lt; obtain ⟨bb, b0⟩ := box1 wc2 39 #[.int .i64 (x_q2LC0 - x_q1LC0), .int .i64 (y_q2LC0 - y_q1LC0)]; replace bb := bb.out; have hs := HB.out.size; exact ⟨(by unfold Hid; omega), (by unfold Hid; omega), (by unfold Hid; omega), mv b0 sm, mv (mv B_z0 bb) sm, mv (mv B_z1 bb) sm, Lib.hid (PL.below (PL.below L.out bb) sm), Lib.hid (PL.below (PL.below LC0.out bb) sm), nx (nx HB bb) sm⟩)
          case rest =>
            clear B_z0
            clear B_z1
            clear L
            clear LC0
            clear HB
            rename World => wc3
            obtain ⟨Pz2, rfl, noz0Pz2, noz1Pz2, lePz2, B_z2, B_z0, B_z1, L, LC0, HB⟩ := hcut
            have lePz2' := lePz2.out
            have lwlePz2' := Nat.le_trans hszPz2.out lePz2'
            obtain ⟨c0z1, c1z1⟩ := cells2 B_z1
            obtain ⟨c0z2, c1z2⟩ := cells2 B_z2
            go_wp2_with fail
            refine (H1.out _).mono ?_
            clear c0z1 c1z1 c0z2 c1z2
            rintro e w4 ⟨rfl, bb⟩
            replace bb := nextw (w0 := wc3) (by exact sm) bb
            replace B_z0 := mv B_z0 bb
            replace B_z1 := mv B_z1 bb
            replace B_z2 := mv B_z2 bb
            replace L := Lib.hid (PL.below L.out bb)
            replace LC0 := Lib.hid (PL.below LC0.out bb)
            replace HB := nx HB bb
            clear bb
            go_wp2_with fail
            go_roundw
            case rel => exact ⟨k + 1, by omega, by go_num, by rw [HSS.out], L, LC0, B_z0, HB⟩
            case measure => simp only [intOf]; omega
      · skip
        have hkn : cl0.length = k := by omega
        subst hkn
        have HSH : Hid (shoe cl0 cl0.length = 8 * areaL l) := by unfold Hid; rw [← HQ0.out, shoe_corn _ (canL_ss l), area_can]
        have hsn : 0 ≤ areaL l := by rw [areaL_pr]; exact pr_nn l
        have hsx : areaL l ≤ 36028797018963968 := area_bd dd0
        generalize shoe cl0 cl0.length = S0 at *
        have hS0 : 0 ≤ S0 := by rw [HSH.out]; omega
        have hS1 : S0 ≤ 288230376151711744 := by rw [HSH.out]; omega
        have HE : Hid (S0 / 8 = areaX x y l) := by unfold Hid areaX; rw [if_pos dd0, HSH.out]; omega
        go_wp2
        go_ret
        exact ⟨ret_i (by first | exact HE.out | (rw [Int.tdiv_eq_ediv_of_nonneg hS0]; exact HE.out)), nextw HB.out (by exact sm)⟩
  · skip
    obtain ⟨HB, B_z0⟩ := box1 w 24 #[.int .i64 x, .int .i64 y, .slice A n c]
    replace L := Lib.hid (PL.below L.out HB.out)
    go_enter Try.func23, Try.ntmps23
    go_upto_region 1 with (fail)
    generalize w.alloc (.cells #[.int .i64 x, .int .i64 y, .slice A n c] 24) = W0 at *
    obtain ⟨c0z0, c1z0, c2z0⟩ := cells3 B_z0
    go_wp2_with fail
    refine (RCorners_w1 x y A n c l (by omega) dd0 _ (PL.below L.out (by exact sm))).mono ?_
    clear c0z0 c1z0 c2z0
    rintro e w5 ⟨rfl, bb⟩
    replace bb := nextw (w0 := W0) (by exact sm) bb
    replace B_z0 := mv B_z0 bb
    replace L := Lib.hid (PL.below L.out bb)
    replace HB := nx HB bb
    clear bb
    go_wp2_with fail
    go_loopw [4, 5] (fun a0 kk wx => ∃ (k : Nat), k ≤ 0 ∧ kk = .int .i64 k ∧ a0 = (.int .i64 0) ∧ Hid (PL wx lo_L hi_L A n c l) ∧ Hid (Bx wx (w.heap.size) 24 #[.int .i64 x, .int .i64 y, .slice A n c]) ∧ Hid (Below w.heap.size w wx)) (fun _ kk _ => 0 - (intOf kk).toNat)
    case atStart => exact ⟨0, by omega, rfl, rfl, L, B_z0, HB⟩
    case round =>
      clear L B_z0 HB
      obtain ⟨k, hk, rfl, rfl, L, B_z0, HB⟩ := hrel
      by_cases hlt : k < 0
      · skip
        exfalso; omega
      · skip
        have hkn : 0 = k := by omega
        subst hkn
        have HE : Hid (areaX x y l = 0) := if_neg dd0
        go_wp2
        go_ret
        exact ⟨ret_i HE.out.symm, nextw HB.out (by exact sm)⟩
end Go.Proofs.Ytpjbkadhmjlpfaa
