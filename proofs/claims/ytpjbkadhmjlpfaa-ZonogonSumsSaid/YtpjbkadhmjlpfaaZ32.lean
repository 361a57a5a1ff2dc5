/- the reference's in. -/
import Derived.Test.YtpjbkadhmjlpfaaZ31
set_option linter.unusedVariables false
set_option linter.unusedSimpArgs false
namespace Go.Proofs.Ytpjbkadhmjlpfaa
open Go Go.RowKit Hd

set_option maxRecDepth 100000 in
set_option maxHeartbeats 4000000 in
theorem Rin_is (px py : Int) (A : Option Addr) (n c : Nat) (l : List P2)  (hn : n ≤ 1000) (hl : ∀ p ∈ l, Wi p.1 67108864 ∧ Wi p.2 67108864) (hp : Wi px 67108864 ∧ Wi py 67108864) (w : World) {lo_L hi_L : Nat} (L : PL w lo_L hi_L A n c l) :
    Calls Try.prog 65 #[.slice A n c, .agg #[.int .i64 px, .int .i64 py]] w fun e w' => e = .returned (.bool (decide (inL l (px, py)))) ∧ Below w.heap.size w w' := by
  have hiL_L : hi_L ≤ w.heap.size := L.top
  replace L := Lib.hid L
  have HLB := Lib.hid hl
  have hx1 := hp.1.1
  have hx2 := hp.1.2
  have hy1 := hp.2.1
  have hy2 := hp.2.2
  clear hl hp
  obtain ⟨HB, B_z0⟩ := box1 w 39 #[.int .i64 px, .int .i64 py]
  replace L := Lib.hid (PL.below L.out HB.out)
  go_enter Try.func65, Try.ntmps65
  go_upto_region 1 with (fail)
  generalize w.alloc (.cells #[.int .i64 px, .int .i64 py] 39) = W0 at *
  go_wp2_with fail
  go_loopw [5] (fun  kk wx => ∃ (k : Nat), k ≤ n ∧ kk = .int .i64 k ∧ Hid (∀ i, i < k → ¬ badC l (px, py) i) ∧ Hid (PL wx lo_L hi_L A n c l) ∧ Hid (Bx wx (w.heap.size) 39 #[.int .i64 px, .int .i64 py]) ∧ Hid (Below w.heap.size w wx)) (fun  kk _ => n - (intOf kk).toNat)
  case atStart => exact ⟨0, by omega, rfl, Lib.hid (fun i hi => absurd hi (Nat.not_lt_zero _)), L, B_z0, HB⟩
  case round =>
    clear L B_z0 HB
    obtain ⟨k, hk, rfl, HI, L, B_z0, HB⟩ := hrel
    by_cases hlt : k < n
    · skip
      have hlq0L : k < n := hlt
      obtain ⟨g_L, o_L, eA_L, -, -, -⟩ := L.out.elem hlq0L
      subst eA_L
      obtain ⟨⟨x_q0L, y_q0L⟩, hpq0L⟩ : ∃ q, l.getD k z2 = q := ⟨_, rfl⟩
      have HPq0L := Lib.hid hpq0L
      have HLq0L := Lib.hid hlq0L
      have hmq0L : (x_q0L, y_q0L) ∈ l := by rw [← hpq0L]; exact getD_mem (by have := L.out.len; omega)
      clear hpq0L hlq0L
      have bdq0L := HLB.out _ hmq0L
      have bd1q0L := bdq0L.1.1
      have bd2q0L := bdq0L.1.2
      have bd3q0L := bdq0L.2.1
      have bd4q0L := bdq0L.2.2
      dsimp only at bd1q0L bd2q0L bd3q0L bd4q0L
      clear bdq0L
      obtain ⟨m, hm⟩ : ∃ m, (k + 1) % n = m := ⟨_, rfl⟩
      have HM := Lib.hid hm
      have hml : m < n := by rw [← hm]; exact Nat.mod_lt _ (by omega)
      have hmz : Int.tmod (((k : Nat) : Int) + 1) ((n : Nat) : Int) = ((m : Nat) : Int) := by rw [← hm]; rfl
      have hmw : IntKind.i64.wrap (Int.tmod (((k : Nat) : Int) + 1) ((n : Nat) : Int)) = ((m : Nat) : Int) := by rw [hmz, IntKind.wrap_i64]; omega
      have hmw2 : IntKind.i64.wrap ((m : Nat) : Int) = ((m : Nat) : Int) := by rw [IntKind.wrap_i64]; omega
      have hn0 : ¬ (((n : Nat) : Int) = 0) := by omega
      have hn1 : ¬ (n = 0) := by omega
      have hm0 : (0 : Int) ≤ ((m : Nat) : Int) ∧ ((m : Nat) : Int) < ((n : Nat) : Int) := by omega
      clear hm
      have hlq1L : m < n := hml
      obtain ⟨⟨x_q1L, y_q1L⟩, hpq1L⟩ : ∃ q, l.getD m z2 = q := ⟨_, rfl⟩
      have HPq1L := Lib.hid hpq1L
      have HLq1L := Lib.hid hlq1L
      have hmq1L : (x_q1L, y_q1L) ∈ l := by rw [← hpq1L]; exact getD_mem (by have := L.out.len; omega)
      clear hpq1L hlq1L
      have bdq1L := HLB.out _ hmq1L
      have bd1q1L := bdq1L.1.1
      have bd2q1L := bdq1L.1.2
      have bd3q1L := bdq1L.2.1
      have bd4q1L := bdq1L.2.2
      dsimp only at bd1q1L bd2q1L bd3q1L bd4q1L
      clear bdq1L
      have hlen := L.out.len
      have HBC : Hid (badC l (px, py) k ↔ (cr (x_q1L - x_q0L) (y_q1L - y_q0L) (px - x_q0L) (py - y_q0L) < 0 ∨ (((n : Nat) : Int) ≤ 2 ∧ (¬ cr (x_q1L - x_q0L) (y_q1L - y_q0L) (px - x_q0L) (py - y_q0L) = 0 ∨ ((x_q1L - x_q0L) * (px - x_q0L) + (y_q1L - y_q0L) * (py - y_q0L)) < 0 ∨ (((n : Nat) : Int) = 1 ∧ ¬ (px = x_q0L ∧ py = y_q0L)))))) := by unfold Hid badC; simp only []; rw [← hlen, HPq0L.out, HM.out, HPq1L.out]; simp only [crs, subP, nd, dt, ne_eq, Prod.mk.injEq]; refine or_congr Iff.rfl (and_congr (by omega) (or_congr Iff.rfl (or_congr Iff.rfl (and_congr (by omega) Iff.rfl))))
      clear hlen
      have w1 := @wi_mul (x_q1L - x_q0L) (px - x_q0L) 134217728 134217728 ⟨by omega, by omega⟩ ⟨by omega, by omega⟩
      have w2 := @wi_mul (y_q1L - y_q0L) (py - y_q0L) 134217728 134217728 ⟨by omega, by omega⟩ ⟨by omega, by omega⟩
      have w3 := @wi_mul (x_q1L - x_q0L) (py - y_q0L) 134217728 134217728 ⟨by omega, by omega⟩ ⟨by omega, by omega⟩
      have w4 := @wi_mul (y_q1L - y_q0L) (px - x_q0L) 134217728 134217728 ⟨by omega, by omega⟩ ⟨by omega, by omega⟩
      obtain ⟨w1a, w1b⟩ := w1
      obtain ⟨w2a, w2b⟩ := w2
      obtain ⟨w3a, w3b⟩ := w3
      obtain ⟨w4a, w4b⟩ := w4
      by_cases dd1 : (cr (x_q1L - x_q0L) (y_q1L - y_q0L) (px - x_q0L) (py - y_q0L)) < 0
      · skip
        have H0 := Lib.hid (fun w => Rcross_is (x_q1L - x_q0L) (y_q1L - y_q0L) (px - x_q0L) (py - y_q0L) ⟨by omega, by omega⟩ ⟨by omega, by omega⟩ w)
        have e0q0L : wr.cell? ⟨g_L, o_L + k * 2, none⟩ = some (.int .i64 x_q0L) := (PL.el L.out HLq0L.out HPq0L.out).1
        have e1q0L : wr.cell? ⟨g_L, o_L + k * 2 + 1, none⟩ = some (.int .i64 y_q0L) := (PL.el L.out HLq0L.out HPq0L.out).2
        have ltL_z1L : hi_L ≤ wr.heap.size := L.out.top
        have lt_z1z0 := B_z0.out.lt
        obtain ⟨bb, B_z1⟩ := box1 wr 39 #[.int .i64 x_q0L, .int .i64 y_q0L]
        replace bb := bb.out
        replace B_z0 := mv B_z0 bb
        replace L := Lib.hid (PL.below L.out bb)
        replace HB := nx HB bb
        clear bb
        go_upto_region 5 with (fail)
        clear e0q0L e1q0L
        generalize wr.alloc (.cells #[.int .i64 x_q0L, .int .i64 y_q0L] 39) = WN4x75 at *
        have e0q1L : WN4x75.cell? ⟨g_L, o_L + m * 2, none⟩ = some (.int .i64 x_q1L) := (PL.el L.out HLq1L.out HPq1L.out).1
        have e1q1L : WN4x75.cell? ⟨g_L, o_L + m * 2 + 1, none⟩ = some (.int .i64 y_q1L) := (PL.el L.out HLq1L.out HPq1L.out).2
        have ltL_z2L : hi_L ≤ WN4x75.heap.size := L.out.top
        have lt_z2z0 := B_z0.out.lt
        have lt_z2z1 := B_z1.out.lt
        obtain ⟨bb, B_z2⟩ := box1 WN4x75 39 #[.int .i64 x_q1L, .int .i64 y_q1L]
        replace bb := bb.out
        replace B_z0 := mv B_z0 bb
        replace B_z1 := mv B_z1 bb
        replace L := Lib.hid (PL.below L.out bb)
        replace HB := nx HB bb
        clear bb
        go_upto_region 6 with (fail)
        clear e0q1L e1q1L
        generalize WN4x75.alloc (.cells #[.int .i64 x_q1L, .int .i64 y_q1L] 39) = WN5x88 at *
        obtain ⟨c0z2, c1z2⟩ := cells2 B_z2
        obtain ⟨c0z1, c1z1⟩ := cells2 B_z1
        have ltL_z3L : hi_L ≤ WN5x88.heap.size := L.out.top
        have lt_z3z0 := B_z0.out.lt
        have lt_z3z1 := B_z1.out.lt
        have lt_z3z2 := B_z2.out.lt
        obtain ⟨bb, B_z3⟩ := box1 WN5x88 39 #[.int .i64 (x_q1L - x_q0L), .int .i64 (y_q1L - y_q0L)]
        replace bb := bb.out
        replace B_z0 := mv B_z0 bb
        replace B_z1 := mv B_z1 bb
        replace B_z2 := mv B_z2 bb
        replace L := Lib.hid (PL.below L.out bb)
        replace HB := nx HB bb
        clear bb
        go_upto_region 7 with (fail)
        clear c0z2 c1z2 c0z1 c1z1
        generalize WN5x88.alloc (.cells #[.int .i64 (x_q1L - x_q0L), .int .i64 (y_q1L - y_q0L)] 39) = WN6x103 at *
        obtain ⟨c0z0, c1z0⟩ := cells2 B_z0
        obtain ⟨c0z1, c1z1⟩ := cells2 B_z1
        have ltL_z4L : hi_L ≤ WN6x103.heap.size := L.out.top
        have lt_z4z0 := B_z0.out.lt
        have lt_z4z1 := B_z1.out.lt
        have lt_z4z2 := B_z2.out.lt
        have lt_z4z3 := B_z3.out.lt
        obtain ⟨bb, B_z4⟩ := box1 WN6x103 39 #[.int .i64 (px - x_q0L), .int .i64 (py - y_q0L)]
        replace bb := bb.out
        replace B_z0 := mv B_z0 bb
        replace B_z1 := mv B_z1 bb
        replace B_z2 := mv B_z2 bb
        replace B_z3 := mv B_z3 bb
        replace L := Lib.hid (PL.below L.out bb)
        replace HB := nx HB bb
        clear bb
        go_upto_region 8 with (fail)
        clear c0z0 c1z0 c0z1 c1z1
        generalize WN6x103.alloc (.cells #[.int .i64 (px - x_q0L), .int .i64 (py - y_q0L)] 39) = WN7x120 at *
        obtain ⟨c0z3, c1z3⟩ := cells2 B_z3
        obtain ⟨c0z4, c1z4⟩ := cells2 B_z4
        go_wp2_with fail
        refine (H0.out _).mono ?_
        clear c0z3 c1z3 c0z4 c1z4
        rintro e w1 ⟨rfl, bb⟩
        replace bb := nextw (w0 := WN7x120) (by exact sm) bb
        replace B_z0 := mv B_z0 bb
        replace B_z1 := mv B_z1 bb
        replace B_z2 := mv B_z2 bb
        replace B_z3 := mv B_z3 bb
        replace B_z4 := mv B_z4 bb
        replace L := Lib.hid (PL.below L.out bb)
        replace HB := nx HB bb
        clear bb
        have HN : ¬ inL l (px, py) := fun h => h k (by have := L.out.len; have := HLq0L.out; omega) (HBC.out.2 (by have h0 := dd1; omega))
        go_wp2
        go_ret
        exact ⟨rb (decide_eq_false HN).symm, nextw HB.out (by exact sm)⟩
      · skip
        replace dd1 : 0 ≤ (cr (x_q1L - x_q0L) (y_q1L - y_q0L) (px - x_q0L) (py - y_q0L)) := by omega
        by_cases dd2 : ((n : Nat) : Int) ≤ 2
        · skip
          by_cases dd3 : (cr (x_q1L - x_q0L) (y_q1L - y_q0L) (px - x_q0L) (py - y_q0L)) = 0
          · skip
            by_cases dd4 : (((x_q1L - x_q0L) * (px - x_q0L)) + ((y_q1L - y_q0L) * (py - y_q0L))) < 0
            · skip
              have H1 := Lib.hid (fun w => Rcross_is (x_q1L - x_q0L) (y_q1L - y_q0L) (px - x_q0L) (py - y_q0L) ⟨by omega, by omega⟩ ⟨by omega, by omega⟩ w)
              have H2 := Lib.hid (fun w => Rcross_is (x_q1L - x_q0L) (y_q1L - y_q0L) (px - x_q0L) (py - y_q0L) ⟨by omega, by omega⟩ ⟨by omega, by omega⟩ w)
              replace dd3 := Lib.hid dd3
              have e0q0L : wr.cell? ⟨g_L, o_L + k * 2, none⟩ = some (.int .i64 x_q0L) := (PL.el L.out HLq0L.out HPq0L.out).1
              have e1q0L : wr.cell? ⟨g_L, o_L + k * 2 + 1, none⟩ = some (.int .i64 y_q0L) := (PL.el L.out HLq0L.out HPq0L.out).2
              have ltL_z1L : hi_L ≤ wr.heap.size := L.out.top
              have lt_z1z0 := B_z0.out.lt
              obtain ⟨bb, B_z1⟩ := box1 wr 39 #[.int .i64 x_q0L, .int .i64 y_q0L]
              replace bb := bb.out
              replace B_z0 := mv B_z0 bb
              replace L := Lib.hid (PL.below L.out bb)
              replace HB := nx HB bb
              clear bb
              go_upto_region 5 with (fail)
              clear e0q0L e1q0L
              generalize wr.alloc (.cells #[.int .i64 x_q0L, .int .i64 y_q0L] 39) = WN4x169 at *
              have e0q1L : WN4x169.cell? ⟨g_L, o_L + m * 2, none⟩ = some (.int .i64 x_q1L) := (PL.el L.out HLq1L.out HPq1L.out).1
              have e1q1L : WN4x169.cell? ⟨g_L, o_L + m * 2 + 1, none⟩ = some (.int .i64 y_q1L) := (PL.el L.out HLq1L.out HPq1L.out).2
              have ltL_z2L : hi_L ≤ WN4x169.heap.size := L.out.top
              have lt_z2z0 := B_z0.out.lt
              have lt_z2z1 := B_z1.out.lt
              obtain ⟨bb, B_z2⟩ := box1 WN4x169 39 #[.int .i64 x_q1L, .int .i64 y_q1L]
              replace bb := bb.out
              replace B_z0 := mv B_z0 bb
              replace B_z1 := mv B_z1 bb
              replace L := Lib.hid (PL.below L.out bb)
              replace HB := nx HB bb
              clear bb
              go_upto_region 6 with (fail)
              clear e0q1L e1q1L
              generalize WN4x169.alloc (.cells #[.int .i64 x_q1L, .int .i64 y_q1L] 39) = WN5x182 at *
              obtain ⟨c0z2, c1z2⟩ := cells2 B_z2
              obtain ⟨c0z1, c1z1⟩ := cells2 B_z1
              have ltL_z3L : hi_L ≤ WN5x182.heap.size := L.out.top
              have lt_z3z0 := B_z0.out.lt
              have lt_z3z1 := B_z1.out.lt
              have lt_z3z2 := B_z2.out.lt
              obtain ⟨bb, B_z3⟩ := box1 WN5x182 39 #[.int .i64 (x_q1L - x_q0L), .int .i64 (y_q1L - y_q0L)]
              replace bb := bb.out
              replace B_z0 := mv B_z0 bb
              replace B_z1 := mv B_z1 bb
              replace B_z2 := mv B_z2 bb
              replace L := Lib.hid (PL.below L.out bb)
              replace HB := nx HB bb
              clear bb
              go_upto_region 7 with (fail)
              clear c0z2 c1z2 c0z1 c1z1
              generalize WN5x182.alloc (.cells #[.int .i64 (x_q1L - x_q0L), .int .i64 (y_q1L - y_q0L)] 39) = WN6x197 at *
              obtain ⟨c0z0, c1z0⟩ := cells2 B_z0
              obtain ⟨c0z1, c1z1⟩ := cells2 B_z1
              have ltL_z4L : hi_L ≤ WN6x197.heap.size := L.out.top
              have lt_z4z0 := B_z0.out.lt
              have lt_z4z1 := B_z1.out.lt
              have lt_z4z2 := B_z2.out.lt
              have lt_z4z3 := B_z3.out.lt
              obtain ⟨bb, B_z4⟩ := box1 WN6x197 39 #[.int .i64 (px - x_q0L), .int .i64 (py - y_q0L)]
              replace bb := bb.out
              replace B_z0 := mv B_z0 bb
              replace B_z1 := mv B_z1 bb
              replace B_z2 := mv B_z2 bb
              replace B_z3 := mv B_z3 bb
              replace L := Lib.hid (PL.below L.out bb)
              replace HB := nx HB bb
              clear bb
              go_upto_region 8 with (fail)
              clear c0z0 c1z0 c0z1 c1z1
              generalize WN6x197.alloc (.cells #[.int .i64 (px - x_q0L), .int .i64 (py - y_q0L)] 39) = WN7x214 at *
              obtain ⟨c0z3, c1z3⟩ := cells2 B_z3
              obtain ⟨c0z4, c1z4⟩ := cells2 B_z4
              go_wp2_with fail
              refine (H1.out _).mono ?_
              clear c0z3 c1z3 c0z4 c1z4
              rintro e w2 ⟨rfl, bb⟩
              replace bb := nextw (w0 := WN7x214) (by exact sm) bb
              replace B_z0 := mv B_z0 bb
              replace B_z1 := mv B_z1 bb
              replace B_z2 := mv B_z2 bb
              replace B_z3 := mv B_z3 bb
              replace B_z4 := mv B_z4 bb
              replace L := Lib.hid (PL.below L.out bb)
              replace HB := nx HB bb
              clear bb
              go_upto_region 10 with (fail)
              have od3 : ((cr (x_q1L - x_q0L) (y_q1L - y_q0L) (px - x_q0L) (py - y_q0L)) == 0) = true := decide_eq_true dd3.out
              obtain ⟨c0z3, c1z3⟩ := cells2 B_z3
              obtain ⟨c0z4, c1z4⟩ := cells2 B_z4
              go_wp2_with fail
              refine (H2.out _).mono ?_
              clear c0z3 c1z3 c0z4 c1z4
              rintro e w3 ⟨rfl, bb⟩
              replace bb := nextw (w0 := w2) (by exact sm) bb
              replace B_z0 := mv B_z0 bb
              replace B_z1 := mv B_z1 bb
              replace B_z2 := mv B_z2 bb
              replace B_z3 := mv B_z3 bb
              replace B_z4 := mv B_z4 bb
              replace L := Lib.hid (PL.below L.out bb)
              replace HB := nx HB bb
              clear bb
              obtain ⟨c0z3, c1z3⟩ := cells2 B_z3
              obtain ⟨c0z4, c1z4⟩ := cells2 B_z4
              have HN : ¬ inL l (px, py) := fun h => h k (by have := L.out.len; have := HLq0L.out; omega) (HBC.out.2 (by have h0 := dd1; have h1 := dd2; have h2 := dd3.out; have h3 := dd4; omega))
              go_wp2
              go_ret
              exact ⟨rb (decide_eq_false HN).symm, nextw HB.out (by exact sm)⟩
            · skip
              replace dd4 : 0 ≤ (((x_q1L - x_q0L) * (px - x_q0L)) + ((y_q1L - y_q0L) * (py - y_q0L))) := by omega
              by_cases dd5 : ((n : Nat) : Int) = 1
              · skip
                by_cases dd6 : px = x_q0L
                · skip
                  by_cases dd7 : py = y_q0L
                  · skip
                    have H3 := Lib.hid (fun w => Rcross_is (x_q1L - x_q0L) (y_q1L - y_q0L) (px - x_q0L) (py - y_q0L) ⟨by omega, by omega⟩ ⟨by omega, by omega⟩ w)
                    have H4 := Lib.hid (fun w => Rcross_is (x_q1L - x_q0L) (y_q1L - y_q0L) (px - x_q0L) (py - y_q0L) ⟨by omega, by omega⟩ ⟨by omega, by omega⟩ w)
                    replace dd3 := Lib.hid dd3
                    replace dd5 := Lib.hid dd5
                    replace dd6 := Lib.hid dd6
                    replace dd7 := Lib.hid dd7
                    have e0q0L : wr.cell? ⟨g_L, o_L + k * 2, none⟩ = some (.int .i64 x_q0L) := (PL.el L.out HLq0L.out HPq0L.out).1
                    have e1q0L : wr.cell? ⟨g_L, o_L + k * 2 + 1, none⟩ = some (.int .i64 y_q0L) := (PL.el L.out HLq0L.out HPq0L.out).2
                    have ltL_z1L : hi_L ≤ wr.heap.size := L.out.top
                    have lt_z1z0 := B_z0.out.lt
                    obtain ⟨bb, B_z1⟩ := box1 wr 39 #[.int .i64 x_q0L, .int .i64 y_q0L]
                    replace bb := bb.out
                    replace B_z0 := mv B_z0 bb
                    replace L := Lib.hid (PL.below L.out bb)
                    replace HB := nx HB bb
                    clear bb
                    go_upto_region 5 with (fail)
                    clear e0q0L e1q0L
                    generalize wr.alloc (.cells #[.int .i64 x_q0L, .int .i64 y_q0L] 39) = WN4x285 at *
                    have e0q1L : WN4x285.cell? ⟨g_L, o_L + m * 2, none⟩ = some (.int .i64 x_q1L) := (PL.el L.out HLq1L.out HPq1L.out).1
                    have e1q1L : WN4x285.cell? ⟨g_L, o_L + m * 2 + 1, none⟩ = some (.int .i64 y_q1L) := (PL.el L.out HLq1L.out HPq1L.out).2
                    have ltL_z2L : hi_L ≤ WN4x285.heap.size := L.out.top
                    have lt_z2z0 := B_z0.out.lt
                    have lt_z2z1 := B_z1.out.lt
                    obtain ⟨bb, B_z2⟩ := box1 WN4x285 39 #[.int .i64 x_q1L, .int .i64 y_q1L]
                    replace bb := bb.out
                    replace B_z0 := mv B_z0 bb
                    replace B_z1 := mv B_z1 bb
                    replace L := Lib.hid (PL.below L.out bb)
                    replace HB := nx HB bb
                    clear bb
                    go_upto_region 6 with (fail)
                    clear e0q1L e1q1L
                    generalize WN4x285.alloc (.cells #[.int .i64 x_q1L, .int .i64 y_q1L] 39) = WN5x298 at *
                    obtain ⟨c0z2, c1z2⟩ := cells2 B_z2
                    obtain ⟨c0z1, c1z1⟩ := cells2 B_z1
                    have ltL_z3L : hi_L ≤ WN5x298.heap.size := L.out.top
                    have lt_z3z0 := B_z0.out.lt
                    have lt_z3z1 := B_z1.out.lt
                    have lt_z3z2 := B_z2.out.lt
                    obtain ⟨bb, B_z3⟩ := box1 WN5x298 39 #[.int .i64 (x_q1L - x_q0L), .int .i64 (y_q1L - y_q0L)]
                    replace bb := bb.out
                    replace B_z0 := mv B_z0 bb
                    replace B_z1 := mv B_z1 bb
                    replace B_z2 := mv B_z2 bb
                    replace L := Lib.hid (PL.below L.out bb)
                    replace HB := nx HB bb
                    clear bb
                    go_upto_region 7 with (fail)
                    clear c0z2 c1z2 c0z1 c1z1
                    generalize WN5x298.alloc (.cells #[.int .i64 (x_q1L - x_q0L), .int .i64 (y_q1L - y_q0L)] 39) = WN6x313 at *
                    obtain ⟨c0z0, c1z0⟩ := cells2 B_z0
                    obtain ⟨c0z1, c1z1⟩ := cells2 B_z1
                    have ltL_z4L : hi_L ≤ WN6x313.heap.size := L.out.top
                    have lt_z4z0 := B_z0.out.lt
                    have lt_z4z1 := B_z1.out.lt
                    have lt_z4z2 := B_z2.out.lt
                    have lt_z4z3 := B_z3.out.lt
                    obtain ⟨bb, B_z4⟩ := box1 WN6x313 39 #[.int .i64 (px - x_q0L), .int .i64 (py - y_q0L)]
                    replace bb := bb.out
                    replace B_z0 := mv B_z0 bb
                    replace B_z1 := mv B_z1 bb
                    replace B_z2 := mv B_z2 bb
                    replace B_z3 := mv B_z3 bb
                    replace L := Lib.hid (PL.below L.out bb)
                    replace HB := nx HB bb
                    clear bb
                    go_upto_region 8 with (fail)
                    clear c0z0 c1z0 c0z1 c1z1
                    generalize WN6x313.alloc (.cells #[.int .i64 (px - x_q0L), .int .i64 (py - y_q0L)] 39) = WN7x330 at *
                    obtain ⟨c0z3, c1z3⟩ := cells2 B_z3
                    obtain ⟨c0z4, c1z4⟩ := cells2 B_z4
                    go_wp2_with fail
                    refine (H3.out _).mono ?_
                    clear c0z3 c1z3 c0z4 c1z4
                    rintro e w4 ⟨rfl, bb⟩
                    replace bb := nextw (w0 := WN7x330) (by exact sm) bb
                    replace B_z0 := mv B_z0 bb
                    replace B_z1 := mv B_z1 bb
                    replace B_z2 := mv B_z2 bb
                    replace B_z3 := mv B_z3 bb
                    replace B_z4 := mv B_z4 bb
                    replace L := Lib.hid (PL.below L.out bb)
                    replace HB := nx HB bb
                    clear bb
                    go_upto_region 10 with (fail)
                    have od3 : ((cr (x_q1L - x_q0L) (y_q1L - y_q0L) (px - x_q0L) (py - y_q0L)) == 0) = true := decide_eq_true dd3.out
                    have od5 : (((n : Nat) : Int) == 1) = true := decide_eq_true dd5.out
                    have od6 : (px == x_q0L) = true := decide_eq_true dd6.out
                    have od7 : (py == y_q0L) = true := decide_eq_true dd7.out
                    obtain ⟨c0z3, c1z3⟩ := cells2 B_z3
                    obtain ⟨c0z4, c1z4⟩ := cells2 B_z4
                    go_wp2_with fail
                    refine (H4.out _).mono ?_
                    clear c0z3 c1z3 c0z4 c1z4
                    rintro e w5 ⟨rfl, bb⟩
                    replace bb := nextw (w0 := w4) (by exact sm) bb
                    replace B_z0 := mv B_z0 bb
                    replace B_z1 := mv B_z1 bb
                    replace B_z2 := mv B_z2 bb
                    replace B_z3 := mv B_z3 bb
                    replace B_z4 := mv B_z4 bb
                    replace L := Lib.hid (PL.below L.out bb)
                    replace HB := nx HB bb
                    clear bb
                    obtain ⟨c0z3, c1z3⟩ := cells2 B_z3
                    obtain ⟨c0z4, c1z4⟩ := cells2 B_z4
                    obtain ⟨c0z0, c1z0⟩ := cells2 B_z0
                    obtain ⟨c0z1, c1z1⟩ := cells2 B_z1
                    have HN : ¬ badC l (px, py) k := fun h0 => by have h := HBC.out.1 h0; clear h0; have h0 := dd1; have h1 := dd2; have h2 := dd3.out; have h3 := dd4; have h4 := dd5.out; have h5 := dd6.out; have h6 := dd7.out; omega
                    have HI2 : Hid (∀ i, i < k + 1 → ¬ badC l (px, py) i) := fun i hi => (Nat.lt_succ_iff_lt_or_eq.mp hi).elim (HI.out i) (fun e => by rw [e]; exact HN)
                    clear HN
                    go_wp2_with fail
                    clear c0z3 c1z3 c0z4 c1z4 c0z0 c1z0 c0z1 c1z1
                    go_roundw
                    case rel => exact ⟨k + 1, by omega, by go_num, HI2, L, B_z0, HB⟩
                    case measure => simp only [intOf]; omega
                  · skip
                    have H5 := Lib.hid (fun w => Rcross_is (x_q1L - x_q0L) (y_q1L - y_q0L) (px - x_q0L) (py - y_q0L) ⟨by omega, by omega⟩ ⟨by omega, by omega⟩ w)
                    have H6 := Lib.hid (fun w => Rcross_is (x_q1L - x_q0L) (y_q1L - y_q0L) (px - x_q0L) (py - y_q0L) ⟨by omega, by omega⟩ ⟨by omega, by omega⟩ w)
                    replace dd3 := Lib.hid dd3
                    replace dd5 := Lib.hid dd5
                    replace dd6 := Lib.hid dd6
                    have e0q0L : wr.cell? ⟨g_L, o_L + k * 2, none⟩ = some (.int .i64 x_q0L) := (PL.el L.out HLq0L.out HPq0L.out).1
                    have e1q0L : wr.cell? ⟨g_L, o_L + k * 2 + 1, none⟩ = some (.int .i64 y_q0L) := (PL.el L.out HLq0L.out HPq0L.out).2
                    have ltL_z1L : hi_L ≤ wr.heap.size := L.out.top
                    have lt_z1z0 := B_z0.out.lt
                    obtain ⟨bb, B_z1⟩ := box1 wr 39 #[.int .i64 x_q0L, .int .i64 y_q0L]
                    replace bb := bb.out
                    replace B_z0 := mv B_z0 bb
                    replace L := Lib.hid (PL.below L.out bb)
                    replace HB := nx HB bb
                    clear bb
                    go_upto_region 5 with (fail)
                    clear e0q0L e1q0L
                    generalize wr.alloc (.cells #[.int .i64 x_q0L, .int .i64 y_q0L] 39) = WN4x402 at *
                    have e0q1L : WN4x402.cell? ⟨g_L, o_L + m * 2, none⟩ = some (.int .i64 x_q1L) := (PL.el L.out HLq1L.out HPq1L.out).1
                    have e1q1L : WN4x402.cell? ⟨g_L, o_L + m * 2 + 1, none⟩ = some (.int .i64 y_q1L) := (PL.el L.out HLq1L.out HPq1L.out).2
                    have ltL_z2L : hi_L ≤ WN4x402.heap.size := L.out.top
                    have lt_z2z0 := B_z0.out.lt
                    have lt_z2z1 := B_z1.out.lt
                    obtain ⟨bb, B_z2⟩ := box1 WN4x402 39 #[.int .i64 x_q1L, .int .i64 y_q1L]
                    replace bb := bb.out
                    replace B_z0 := mv B_z0 bb
                    replace B_z1 := mv B_z1 bb
                    replace L := Lib.hid (PL.below L.out bb)
                    replace HB := nx HB bb
                    clear bb
                    go_upto_region 6 with (fail)
                    clear e0q1L e1q1L
                    generalize WN4x402.alloc (.cells #[.int .i64 x_q1L, .int .i64 y_q1L] 39) = WN5x415 at *
                    obtain ⟨c0z2, c1z2⟩ := cells2 B_z2
                    obtain ⟨c0z1, c1z1⟩ := cells2 B_z1
                    have ltL_z3L : hi_L ≤ WN5x415.heap.size := L.out.top
                    have lt_z3z0 := B_z0.out.lt
                    have lt_z3z1 := B_z1.out.lt
                    have lt_z3z2 := B_z2.out.lt
                    obtain ⟨bb, B_z3⟩ := box1 WN5x415 39 #[.int .i64 (x_q1L - x_q0L), .int .i64 (y_q1L - y_q0L)]
                    replace bb := bb.out
                    replace B_z0 := mv B_z0 bb
                    replace B_z1 := mv B_z1 bb
                    replace B_z2 := mv B_z2 bb
                    replace L := Lib.hid (PL.below L.out bb)
                    replace HB := nx HB bb
                    clear bb
                    go_upto_region 7 with (fail)
                    clear c0z2 c1z2 c0z1 c1z1
                    generalize WN5x415.alloc (.cells #[.int .i64 (x_q1L - x_q0L), .int .i64 (y_q1L - y_q0L)] 39) = WN6x430 at *
                    obtain ⟨c0z0, c1z0⟩ := cells2 B_z0
                    obtain ⟨c0z1, c1z1⟩ := cells2 B_z1
                    have ltL_z4L : hi_L ≤ WN6x430.heap.size := L.out.top
                    have lt_z4z0 := B_z0.out.lt
                    have lt_z4z1 := B_z1.out.lt
                    have lt_z4z2 := B_z2.out.lt
                    have lt_z4z3 := B_z3.out.lt
                    obtain ⟨bb, B_z4⟩ := box1 WN6x430 39 #[.int .i64 (px - x_q0L), .int .i64 (py - y_q0L)]
                    replace bb := bb.out
                    replace B_z0 := mv B_z0 bb
                    replace B_z1 := mv B_z1 bb
                    replace B_z2 := mv B_z2 bb
                    replace B_z3 := mv B_z3 bb
                    replace L := Lib.hid (PL.below L.out bb)
                    replace HB := nx HB bb
                    clear bb
                    go_upto_region 8 with (fail)
                    clear c0z0 c1z0 c0z1 c1z1
                    generalize WN6x430.alloc (.cells #[.int .i64 (px - x_q0L), .int .i64 (py - y_q0L)] 39) = WN7x447 at *
                    obtain ⟨c0z3, c1z3⟩ := cells2 B_z3
                    obtain ⟨c0z4, c1z4⟩ := cells2 B_z4
                    go_wp2_with fail
                    refine (H5.out _).mono ?_
                    clear c0z3 c1z3 c0z4 c1z4
                    rintro e w6 ⟨rfl, bb⟩
                    replace bb := nextw (w0 := WN7x447) (by exact sm) bb
                    replace B_z0 := mv B_z0 bb
                    replace B_z1 := mv B_z1 bb
                    replace B_z2 := mv B_z2 bb
                    replace B_z3 := mv B_z3 bb
                    replace B_z4 := mv B_z4 bb
                    replace L := Lib.hid (PL.below L.out bb)
                    replace HB := nx HB bb
                    clear bb
                    go_upto_region 10 with (fail)
                    have od3 : ((cr (x_q1L - x_q0L) (y_q1L - y_q0L) (px - x_q0L) (py - y_q0L)) == 0) = true := decide_eq_true dd3.out
                    have od5 : (((n : Nat) : Int) == 1) = true := decide_eq_true dd5.out
                    have od6 : (px == x_q0L) = true := decide_eq_true dd6.out
                    have od7 : (py == y_q0L) = false := decide_eq_false dd7
                    obtain ⟨c0z3, c1z3⟩ := cells2 B_z3
                    obtain ⟨c0z4, c1z4⟩ := cells2 B_z4
                    go_wp2_with fail
                    refine (H6.out _).mono ?_
                    clear c0z3 c1z3 c0z4 c1z4
                    rintro e w7 ⟨rfl, bb⟩
                    replace bb := nextw (w0 := w6) (by exact sm) bb
                    replace B_z0 := mv B_z0 bb
                    replace B_z1 := mv B_z1 bb
                    replace B_z2 := mv B_z2 bb
                    replace B_z3 := mv B_z3 bb
                    replace B_z4 := mv B_z4 bb
                    replace L := Lib.hid (PL.below L.out bb)
                    replace HB := nx HB bb
                    clear bb
                    obtain ⟨c0z3, c1z3⟩ := cells2 B_z3
                    obtain ⟨c0z4, c1z4⟩ := cells2 B_z4
                    obtain ⟨c0z0, c1z0⟩ := cells2 B_z0
                    obtain ⟨c0z1, c1z1⟩ := cells2 B_z1
                    have HN : ¬ inL l (px, py) := fun h => h k (by have := L.out.len; have := HLq0L.out; omega) (HBC.out.2 (by have h0 := dd1; have h1 := dd2; have h2 := dd3.out; have h3 := dd4; have h4 := dd5.out; have h5 := dd6.out; have h6 := dd7; omega))
                    go_wp2
                    go_ret
                    exact ⟨rb (decide_eq_false HN).symm, nextw HB.out (by exact sm)⟩
                · skip
                  have H7 := Lib.hid (fun w => Rcross_is (x_q1L - x_q0L) (y_q1L - y_q0L) (px - x_q0L) (py - y_q0L) ⟨by omega, by omega⟩ ⟨by omega, by omega⟩ w)
                  have H8 := Lib.hid (fun w => Rcross_is (x_q1L - x_q0L) (y_q1L - y_q0L) (px - x_q0L) (py - y_q0L) ⟨by omega, by omega⟩ ⟨by omega, by omega⟩ w)
                  replace dd3 := Lib.hid dd3
                  replace dd5 := Lib.hid dd5
                  have e0q0L : wr.cell? ⟨g_L, o_L + k * 2, none⟩ = some (.int .i64 x_q0L) := (PL.el L.out HLq0L.out HPq0L.out).1
                  have e1q0L : wr.cell? ⟨g_L, o_L + k * 2 + 1, none⟩ = some (.int .i64 y_q0L) := (PL.el L.out HLq0L.out HPq0L.out).2
                  have ltL_z1L : hi_L ≤ wr.heap.size := L.out.top
                  have lt_z1z0 := B_z0.out.lt
                  obtain ⟨bb, B_z1⟩ := box1 wr 39 #[.int .i64 x_q0L, .int .i64 y_q0L]
                  replace bb := bb.out
                  replace B_z0 := mv B_z0 bb
                  replace L := Lib.hid (PL.below L.out bb)
                  replace HB := nx HB bb
                  clear bb
                  go_upto_region 5 with (fail)
                  clear e0q0L e1q0L
                  generalize wr.alloc (.cells #[.int .i64 x_q0L, .int .i64 y_q0L] 39) = WN4x514 at *
                  have e0q1L : WN4x514.cell? ⟨g_L, o_L + m * 2, none⟩ = some (.int .i64 x_q1L) := (PL.el L.out HLq1L.out HPq1L.out).1
                  have e1q1L : WN4x514.cell? ⟨g_L, o_L + m * 2 + 1, none⟩ = some (.int .i64 y_q1L) := (PL.el L.out HLq1L.out HPq1L.out).2
                  have ltL_z2L : hi_L ≤ WN4x514.heap.size := L.out.top
                  have lt_z2z0 := B_z0.out.lt
                  have lt_z2z1 := B_z1.out.lt
                  obtain ⟨bb, B_z2⟩ := box1 WN4x514 39 #[.int .i64 x_q1L, .int .i64 y_q1L]
                  replace bb := bb.out
                  replace B_z0 := mv B_z0 bb
                  replace B_z1 := mv B_z1 bb
                  replace L := Lib.hid (PL.below L.out bb)
                  replace HB := nx HB bb
                  clear bb
                  go_upto_region 6 with (fail)
                  clear e0q1L e1q1L
                  generalize WN4x514.alloc (.cells #[.int .i64 x_q1L, .int .i64 y_q1L] 39) = WN5x527 at *
                  obtain ⟨c0z2, c1z2⟩ := cells2 B_z2
                  obtain ⟨c0z1, c1z1⟩ := cells2 B_z1
                  have ltL_z3L : hi_L ≤ WN5x527.heap.size := L.out.top
                  have lt_z3z0 := B_z0.out.lt
                  have lt_z3z1 := B_z1.out.lt
                  have lt_z3z2 := B_z2.out.lt
                  obtain ⟨bb, B_z3⟩ := box1 WN5x527 39 #[.int .i64 (x_q1L - x_q0L), .int .i64 (y_q1L - y_q0L)]
                  replace bb := bb.out
                  replace B_z0 := mv B_z0 bb
                  replace B_z1 := mv B_z1 bb
                  replace B_z2 := mv B_z2 bb
                  replace L := Lib.hid (PL.below L.out bb)
                  replace HB := nx HB bb
                  clear bb
                  go_upto_region 7 with (fail)
                  clear c0z2 c1z2 c0z1 c1z1
                  generalize WN5x527.alloc (.cells #[.int .i64 (x_q1L - x_q0L), .int .i64 (y_q1L - y_q0L)] 39) = WN6x542 at *
                  obtain ⟨c0z0, c1z0⟩ := cells2 B_z0
                  obtain ⟨c0z1, c1z1⟩ := cells2 B_z1
                  have ltL_z4L : hi_L ≤ WN6x542.heap.size := L.out.top
                  have lt_z4z0 := B_z0.out.lt
                  have lt_z4z1 := B_z1.out.lt
                  have lt_z4z2 := B_z2.out.lt
                  have lt_z4z3 := B_z3.out.lt
                  obtain ⟨bb, B_z4⟩ := box1 WN6x542 39 #[.int .i64 (px - x_q0L), .int .i64 (py - y_q0L)]
                  replace bb := bb.out
                  replace B_z0 := mv B_z0 bb
                  replace B_z1 := mv B_z1 bb
                  replace B_z2 := mv B_z2 bb
                  replace B_z3 := mv B_z3 bb
                  replace L := Lib.hid (PL.below L.out bb)
                  replace HB := nx HB bb
                  clear bb
                  go_upto_region 8 with (fail)
                  clear c0z0 c1z0 c0z1 c1z1
                  generalize WN6x542.alloc (.cells #[.int .i64 (px - x_q0L), .int .i64 (py - y_q0L)] 39) = WN7x559 at *
                  obtain ⟨c0z3, c1z3⟩ := cells2 B_z3
                  obtain ⟨c0z4, c1z4⟩ := cells2 B_z4
                  go_wp2_with fail
                  refine (H7.out _).mono ?_
                  clear c0z3 c1z3 c0z4 c1z4
                  rintro e w8 ⟨rfl, bb⟩
                  replace bb := nextw (w0 := WN7x559) (by exact sm) bb
                  replace B_z0 := mv B_z0 bb
                  replace B_z1 := mv B_z1 bb
                  replace B_z2 := mv B_z2 bb
                  replace B_z3 := mv B_z3 bb
                  replace B_z4 := mv B_z4 bb
                  replace L := Lib.hid (PL.below L.out bb)
                  replace HB := nx HB bb
                  clear bb
                  go_upto_region 10 with (fail)
                  have od3 : ((cr (x_q1L - x_q0L) (y_q1L - y_q0L) (px - x_q0L) (py - y_q0L)) == 0) = true := decide_eq_true dd3.out
                  have od5 : (((n : Nat) : Int) == 1) = true := decide_eq_true dd5.out
                  have od6 : (px == x_q0L) = false := decide_eq_false dd6
                  obtain ⟨c0z3, c1z3⟩ := cells2 B_z3
                  obtain ⟨c0z4, c1z4⟩ := cells2 B_z4
                  go_wp2_with fail
                  refine (H8.out _).mono ?_
                  clear c0z3 c1z3 c0z4 c1z4
                  rintro e w9 ⟨rfl, bb⟩
                  replace bb := nextw (w0 := w8) (by exact sm) bb
                  replace B_z0 := mv B_z0 bb
                  replace B_z1 := mv B_z1 bb
                  replace B_z2 := mv B_z2 bb
                  replace B_z3 := mv B_z3 bb
                  replace B_z4 := mv B_z4 bb
                  replace L := Lib.hid (PL.below L.out bb)
                  replace HB := nx HB bb
                  clear bb
                  obtain ⟨c0z3, c1z3⟩ := cells2 B_z3
                  obtain ⟨c0z4, c1z4⟩ := cells2 B_z4
                  obtain ⟨c0z0, c1z0⟩ := cells2 B_z0
                  obtain ⟨c0z1, c1z1⟩ := cells2 B_z1
                  have HN : ¬ inL l (px, py) := fun h => h k (by have := L.out.len; have := HLq0L.out; omega) (HBC.out.2 (by have h0 := dd1; have h1 := dd2; have h2 := dd3.out; have h3 := dd4; have h4 := dd5.out; have h5 := dd6; omega))
                  go_wp2
                  go_ret
                  exact ⟨rb (decide_eq_false HN).symm, nextw HB.out (by exact sm)⟩
              · skip
                have H9 := Lib.hid (fun w => Rcross_is (x_q1L - x_q0L) (y_q1L - y_q0L) (px - x_q0L) (py - y_q0L) ⟨by omega, by omega⟩ ⟨by omega, by omega⟩ w)
                have H10 := Lib.hid (fun w => Rcross_is (x_q1L - x_q0L) (y_q1L - y_q0L) (px - x_q0L) (py - y_q0L) ⟨by omega, by omega⟩ ⟨by omega, by omega⟩ w)
                replace dd3 := Lib.hid dd3
                have e0q0L : wr.cell? ⟨g_L, o_L + k * 2, none⟩ = some (.int .i64 x_q0L) := (PL.el L.out HLq0L.out HPq0L.out).1
                have e1q0L : wr.cell? ⟨g_L, o_L + k * 2 + 1, none⟩ = some (.int .i64 y_q0L) := (PL.el L.out HLq0L.out HPq0L.out).2
                have ltL_z1L : hi_L ≤ wr.heap.size := L.out.top
                have lt_z1z0 := B_z0.out.lt
                obtain ⟨bb, B_z1⟩ := box1 wr 39 #[.int .i64 x_q0L, .int .i64 y_q0L]
                replace bb := bb.out
                replace B_z0 := mv B_z0 bb
                replace L := Lib.hid (PL.below L.out bb)
                replace HB := nx HB bb
                clear bb
                go_upto_region 5 with (fail)
                clear e0q0L e1q0L
                generalize wr.alloc (.cells #[.int .i64 x_q0L, .int .i64 y_q0L] 39) = WN4x624 at *
                have e0q1L : WN4x624.cell? ⟨g_L, o_L + m * 2, none⟩ = some (.int .i64 x_q1L) := (PL.el L.out HLq1L.out HPq1L.out).1
                have e1q1L : WN4x624.cell? ⟨g_L, o_L + m * 2 + 1, none⟩ = some (.int .i64 y_q1L) := (PL.el L.out HLq1L.out HPq1L.out).2
                have ltL_z2L : hi_L ≤ WN4x624.heap.size := L.out.top
                have lt_z2z0 := B_z0.out.lt
                have lt_z2z1 := B_z1.out.lt
                obtain ⟨bb, B_z2⟩ := box1 WN4x624 39 #[.int .i64 x_q1L, .int .i64 y_q1L]
                replace bb := bb.out
                replace B_z0 := mv B_z0 bb
                replace B_z1 := mv B_z1 bb
                replace L := Lib.hid (PL.below L.out bb)
                replace HB := nx HB bb
                clear bb
                go_upto_region 6 with (fail)
                clear e0q1L e1q1L
                generalize WN4x624.alloc (.cells #[.int .i64 x_q1L, .int .i64 y_q1L] 39) = WN5x637 at *
                obtain ⟨c0z2, c1z2⟩ := cells2 B_z2
                obtain ⟨c0z1, c1z1⟩ := cells2 B_z1
                have ltL_z3L : hi_L ≤ WN5x637.heap.size := L.out.top
                have lt_z3z0 := B_z0.out.lt
                have lt_z3z1 := B_z1.out.lt
                have lt_z3z2 := B_z2.out.lt
                obtain ⟨bb, B_z3⟩ := box1 WN5x637 39 #[.int .i64 (x_q1L - x_q0L), .int .i64 (y_q1L - y_q0L)]
                replace bb := bb.out
                replace B_z0 := mv B_z0 bb
                replace B_z1 := mv B_z1 bb
                replace B_z2 := mv B_z2 bb
                replace L := Lib.hid (PL.below L.out bb)
                replace HB := nx HB bb
                clear bb
                go_upto_region 7 with (fail)
                clear c0z2 c1z2 c0z1 c1z1
                generalize WN5x637.alloc (.cells #[.int .i64 (x_q1L - x_q0L), .int .i64 (y_q1L - y_q0L)] 39) = WN6x652 at *
                obtain ⟨c0z0, c1z0⟩ := cells2 B_z0
                obtain ⟨c0z1, c1z1⟩ := cells2 B_z1
                have ltL_z4L : hi_L ≤ WN6x652.heap.size := L.out.top
                have lt_z4z0 := B_z0.out.lt
                have lt_z4z1 := B_z1.out.lt
                have lt_z4z2 := B_z2.out.lt
                have lt_z4z3 := B_z3.out.lt
                obtain ⟨bb, B_z4⟩ := box1 WN6x652 39 #[.int .i64 (px - x_q0L), .int .i64 (py - y_q0L)]
                replace bb := bb.out
                replace B_z0 := mv B_z0 bb
                replace B_z1 := mv B_z1 bb
                replace B_z2 := mv B_z2 bb
                replace B_z3 := mv B_z3 bb
                replace L := Lib.hid (PL.below L.out bb)
                replace HB := nx HB bb
                clear bb
                go_upto_region 8 with (fail)
                clear c0z0 c1z0 c0z1 c1z1
                generalize WN6x652.alloc (.cells #[.int .i64 (px - x_q0L), .int .i64 (py - y_q0L)] 39) = WN7x669 at *
                obtain ⟨c0z3, c1z3⟩ := cells2 B_z3
                obtain ⟨c0z4, c1z4⟩ := cells2 B_z4
                go_wp2_with fail
                refine (H9.out _).mono ?_
                clear c0z3 c1z3 c0z4 c1z4
                rintro e w10 ⟨rfl, bb⟩
                replace bb := nextw (w0 := WN7x669) (by exact sm) bb
                replace B_z0 := mv B_z0 bb
                replace B_z1 := mv B_z1 bb
                replace B_z2 := mv B_z2 bb
                replace B_z3 := mv B_z3 bb
                replace B_z4 := mv B_z4 bb
                replace L := Lib.hid (PL.below L.out bb)
                replace HB := nx HB bb
                clear bb
                go_upto_region 10 with (fail)
                have od3 : ((cr (x_q1L - x_q0L) (y_q1L - y_q0L) (px - x_q0L) (py - y_q0L)) == 0) = true := decide_eq_true dd3.out
                have od5 : (((n : Nat) : Int) == 1) = false := decide_eq_false dd5
                obtain ⟨c0z3, c1z3⟩ := cells2 B_z3
                obtain ⟨c0z4, c1z4⟩ := cells2 B_z4
                go_wp2_with fail
                refine (H10.out _).mono ?_
                clear c0z3 c1z3 c0z4 c1z4
                rintro e w11 ⟨rfl, bb⟩
                replace bb := nextw (w0 := w10) (by exact sm) bb
                replace B_z0 := mv B_z0 bb
                replace B_z1 := mv B_z1 bb
                replace B_z2 := mv B_z2 bb
                replace B_z3 := mv B_z3 bb
                replace B_z4 := mv B_z4 bb
                replace L := Lib.hid (PL.below L.out bb)
                replace HB := nx HB bb
                clear bb
                obtain ⟨c0z3, c1z3⟩ := cells2 B_z3
                obtain ⟨c0z4, c1z4⟩ := cells2 B_z4
                have HN : ¬ badC l (px, py) k := fun h0 => by have h := HBC.out.1 h0; clear h0; have h0 := dd1; have h1 := dd2; have h2 := dd3.out; have h3 := dd4; have h4 := dd5; omega
                have HI2 : Hid (∀ i, i < k + 1 → ¬ badC l (px, py) i) := fun i hi => (Nat.lt_succ_iff_lt_or_eq.mp hi).elim (HI.out i) (fun e => by rw [e]; exact HN)
                clear HN
                go_wp2_with fail
                clear c0z3 c1z3 c0z4 c1z4
                go_roundw
                case rel => exact ⟨k + 1, by omega, by go_num, HI2, L, B_z0, HB⟩
                case measure => simp only [intOf]; omega
          · skip
            have H11 := Lib.hid (fun w => Rcross_is (x_q1L - x_q0L) (y_q1L - y_q0L) (px - x_q0L) (py - y_q0L) ⟨by omega, by omega⟩ ⟨by omega, by omega⟩ w)
            have H12 := Lib.hid (fun w => Rcross_is (x_q1L - x_q0L) (y_q1L - y_q0L) (px - x_q0L) (py - y_q0L) ⟨by omega, by omega⟩ ⟨by omega, by omega⟩ w)
            have e0q0L : wr.cell? ⟨g_L, o_L + k * 2, none⟩ = some (.int .i64 x_q0L) := (PL.el L.out HLq0L.out HPq0L.out).1
            have e1q0L : wr.cell? ⟨g_L, o_L + k * 2 + 1, none⟩ = some (.int .i64 y_q0L) := (PL.el L.out HLq0L.out HPq0L.out).2
            have ltL_z1L : hi_L ≤ wr.heap.size := L.out.top
            have lt_z1z0 := B_z0.out.lt
            obtain ⟨bb, B_z1⟩ := box1 wr 39 #[.int .i64 x_q0L, .int .i64 y_q0L]
            replace bb := bb.out
            replace B_z0 := mv B_z0 bb
            replace L := Lib.hid (PL.below L.out bb)
            replace HB := nx HB bb
            clear bb
            go_upto_region 5 with (fail)
            clear e0q0L e1q0L
            generalize wr.alloc (.cells #[.int .i64 x_q0L, .int .i64 y_q0L] 39) = WN4x734 at *
            have e0q1L : WN4x734.cell? ⟨g_L, o_L + m * 2, none⟩ = some (.int .i64 x_q1L) := (PL.el L.out HLq1L.out HPq1L.out).1
            have e1q1L : WN4x734.cell? ⟨g_L, o_L + m * 2 + 1, none⟩ = some (.int .i64 y_q1L) := (PL.el L.out HLq1L.out HPq1L.out).2
            have ltL_z2L : hi_L ≤ WN4x734.heap.size := L.out.top
            have lt_z2z0 := B_z0.out.lt
            have lt_z2z1 := B_z1.out.lt
            obtain ⟨bb, B_z2⟩ := box1 WN4x734 39 #[.int .i64 x_q1L, .int .i64 y_q1L]
            replace bb := bb.out
            replace B_z0 := mv B_z0 bb
            replace B_z1 := mv B_z1 bb
            replace L := Lib.hid (PL.below L.out bb)
            replace HB := nx HB bb
            clear bb
            go_upto_region 6 with (fail)
            clear e0q1L e1q1L
            generalize WN4x734.alloc (.cells #[.int .i64 x_q1L, .int .i64 y_q1L] 39) = WN5x747 at *
            obtain ⟨c0z2, c1z2⟩ := cells2 B_z2
            obtain ⟨c0z1, c1z1⟩ := cells2 B_z1
            have ltL_z3L : hi_L ≤ WN5x747.heap.size := L.out.top
            have lt_z3z0 := B_z0.out.lt
            have lt_z3z1 := B_z1.out.lt
            have lt_z3z2 := B_z2.out.lt
            obtain ⟨bb, B_z3⟩ := box1 WN5x747 39 #[.int .i64 (x_q1L - x_q0L), .int .i64 (y_q1L - y_q0L)]
            replace bb := bb.out
            replace B_z0 := mv B_z0 bb
            replace B_z1 := mv B_z1 bb
            replace B_z2 := mv B_z2 bb
            replace L := Lib.hid (PL.below L.out bb)
            replace HB := nx HB bb
            clear bb
            go_upto_region 7 with (fail)
            clear c0z2 c1z2 c0z1 c1z1
            generalize WN5x747.alloc (.cells #[.int .i64 (x_q1L - x_q0L), .int .i64 (y_q1L - y_q0L)] 39) = WN6x762 at *
            obtain ⟨c0z0, c1z0⟩ := cells2 B_z0
            obtain ⟨c0z1, c1z1⟩ := cells2 B_z1
            have ltL_z4L : hi_L ≤ WN6x762.heap.size := L.out.top
            have lt_z4z0 := B_z0.out.lt
            have lt_z4z1 := B_z1.out.lt
            have lt_z4z2 := B_z2.out.lt
            have lt_z4z3 := B_z3.out.lt
            obtain ⟨bb, B_z4⟩ := box1 WN6x762 39 #[.int .i64 (px - x_q0L), .int .i64 (py - y_q0L)]
            replace bb := bb.out
            replace B_z0 := mv B_z0 bb
            replace B_z1 := mv B_z1 bb
            replace B_z2 := mv B_z2 bb
            replace B_z3 := mv B_z3 bb
            replace L := Lib.hid (PL.below L.out bb)
            replace HB := nx HB bb
            clear bb
            go_upto_region 8 with (fail)
            clear c0z0 c1z0 c0z1 c1z1
            generalize WN6x762.alloc (.cells #[.int .i64 (px - x_q0L), .int .i64 (py - y_q0L)] 39) = WN7x779 at *
            obtain ⟨c0z3, c1z3⟩ := cells2 B_z3
            obtain ⟨c0z4, c1z4⟩ := cells2 B_z4
            go_wp2_with fail
            refine (H11.out _).mono ?_
            clear c0z3 c1z3 c0z4 c1z4
            rintro e w12 ⟨rfl, bb⟩
            replace bb := nextw (w0 := WN7x779) (by exact sm) bb
            replace B_z0 := mv B_z0 bb
            replace B_z1 := mv B_z1 bb
            replace B_z2 := mv B_z2 bb
            replace B_z3 := mv B_z3 bb
            replace B_z4 := mv B_z4 bb
            replace L := Lib.hid (PL.below L.out bb)
            replace HB := nx HB bb
            clear bb
            go_upto_region 10 with (fail)
            have od3 : ((cr (x_q1L - x_q0L) (y_q1L - y_q0L) (px - x_q0L) (py - y_q0L)) == 0) = false := decide_eq_false dd3
            obtain ⟨c0z3, c1z3⟩ := cells2 B_z3
            obtain ⟨c0z4, c1z4⟩ := cells2 B_z4
            go_wp2_with fail
            refine (H12.out _).mono ?_
            clear c0z3 c1z3 c0z4 c1z4
            rintro e w13 ⟨rfl, bb⟩
            replace bb := nextw (w0 := w12) (by exact sm) bb
            replace B_z0 := mv B_z0 bb
            replace B_z1 := mv B_z1 bb
            replace B_z2 := mv B_z2 bb
            replace B_z3 := mv B_z3 bb
            replace B_z4 := mv B_z4 bb
            replace L := Lib.hid (PL.below L.out bb)
            replace HB := nx HB bb
            clear bb
            have HN : ¬ inL l (px, py) := fun h => h k (by have := L.out.len; have := HLq0L.out; omega) (HBC.out.2 (by have h0 := dd1; have h1 := dd2; have h2 := dd3; omega))
            go_wp2
            go_ret
            exact ⟨rb (decide_eq_false HN).symm, nextw HB.out (by exact sm)⟩
        · skip
          replace dd2 : 2 < ((n : Nat) : Int) := by omega
          have H13 := Lib.hid (fun w => Rcross_is (x_q1L - x_q0L) (y_q1L - y_q0L) (px - x_q0L) (py - y_q0L) ⟨by omega, by omega⟩ ⟨by omega, by omega⟩ w)
          have e0q0L : wr.cell? ⟨g_L, o_L + k * 2, none⟩ = some (.int .i64 x_q0L) := (PL.el L.out HLq0L.out HPq0L.out).1
          have e1q0L : wr.cell? ⟨g_L, o_L + k * 2 + 1, none⟩ = some (.int .i64 y_q0L) := (PL.el L.out HLq0L.out HPq0L.out).2
          have ltL_z1L : hi_L ≤ wr.heap.size := L.out.top
          have lt_z1z0 := B_z0.out.lt
          obtain ⟨bb, B_z1⟩ := box1 wr 39 #[.int .i64 x_q0L, .int .i64 y_q0L]
          replace bb := bb.out
          replace B_z0 := mv B_z0 bb
          replace L := Lib.hid (PL.below L.out bb)
          replace HB := nx HB bb
          clear bb
          go_upto_region 5 with (fail)
          clear e0q0L e1q0L
          generalize wr.alloc (.cells #[.int .i64 x_q0L, .int .i64 y_q0L] 39) = WN4x837 at *
          have e0q1L : WN4x837.cell? ⟨g_L, o_L + m * 2, none⟩ = some (.int .i64 x_q1L) := (PL.el L.out HLq1L.out HPq1L.out).1
          have e1q1L : WN4x837.cell? ⟨g_L, o_L + m * 2 + 1, none⟩ = some (.int .i64 y_q1L) := (PL.el L.out HLq1L.out HPq1L.out).2
          have ltL_z2L : hi_L ≤ WN4x837.heap.size := L.out.top
          have lt_z2z0 := B_z0.out.lt
          have lt_z2z1 := B_z1.out.lt
          obtain ⟨bb, B_z2⟩ := box1 WN4x837 39 #[.int .i64 x_q1L, .int .i64 y_q1L]
          replace bb := bb.out
          replace B_z0 := mv B_z0 bb
          replace B_z1 := mv B_z1 bb
          replace L := Lib.hid (PL.below L.out bb)
          replace HB := nx HB bb
          clear bb
          go_upto_region 6 with (fail)
          clear e0q1L e1q1L
          generalize WN4x837.alloc (.cells #[.int .i64 x_q1L, .int .i64 y_q1L] 39) = WN5x850 at *
          obtain ⟨c0z2, c1z2⟩ := cells2 B_z2
          obtain ⟨c0z1, c1z1⟩ := cells2 B_z1
          have ltL_z3L : hi_L ≤ WN5x850.heap.size := L.out.top
          have lt_z3z0 := B_z0.out.lt
          have lt_z3z1 := B_z1.out.lt
          have lt_z3z2 := B_z2.out.lt
          obtain ⟨bb, B_z3⟩ := box1 WN5x850 39 #[.int .i64 (x_q1L - x_q0L), .int .i64 (y_q1L - y_q0L)]
          replace bb := bb.out
          replace B_z0 := mv B_z0 bb
          replace B_z1 := mv B_z1 bb
          replace B_z2 := mv B_z2 bb
          replace L := Lib.hid (PL.below L.out bb)
          replace HB := nx HB bb
          clear bb
          go_upto_region 7 with (fail)
          clear c0z2 c1z2 c0z1 c1z1
          generalize WN5x850.alloc (.cells #[.int .i64 (x_q1L - x_q0L), .int .i64 (y_q1L - y_q0L)] 39) = WN6x865 at *
          obtain ⟨c0z0, c1z0⟩ := cells2 B_z0
          obtain ⟨c0z1, c1z1⟩ := cells2 B_z1
          have ltL_z4L : hi_L ≤ WN6x865.heap.size := L.out.top
          have lt_z4z0 := B_z0.out.lt
          have lt_z4z1 := B_z1.out.lt
          have lt_z4z2 := B_z2.out.lt
          have lt_z4z3 := B_z3.out.lt
          obtain ⟨bb, B_z4⟩ := box1 WN6x865 39 #[.int .i64 (px - x_q0L), .int .i64 (py - y_q0L)]
          replace bb := bb.out
          replace B_z0 := mv B_z0 bb
          replace B_z1 := mv B_z1 bb
          replace B_z2 := mv B_z2 bb
          replace B_z3 := mv B_z3 bb
          replace L := Lib.hid (PL.below L.out bb)
          replace HB := nx HB bb
          clear bb
          go_upto_region 8 with (fail)
          clear c0z0 c1z0 c0z1 c1z1
          generalize WN6x865.alloc (.cells #[.int .i64 (px - x_q0L), .int .i64 (py - y_q0L)] 39) = WN7x882 at *
          obtain ⟨c0z3, c1z3⟩ := cells2 B_z3
          obtain ⟨c0z4, c1z4⟩ := cells2 B_z4
          go_wp2_with fail
          refine (H13.out _).mono ?_
          clear c0z3 c1z3 c0z4 c1z4
          rintro e w14 ⟨rfl, bb⟩
          replace bb := nextw (w0 := WN7x882) (by exact sm) bb
          replace B_z0 := mv B_z0 bb
          replace B_z1 := mv B_z1 bb
          replace B_z2 := mv B_z2 bb
          replace B_z3 := mv B_z3 bb
          replace B_z4 := mv B_z4 bb
          replace L := Lib.hid (PL.below L.out bb)
          replace HB := nx HB bb
          clear bb
          have HN : ¬ badC l (px, py) k := fun h0 => by have h := HBC.out.1 h0; clear h0; have h0 := dd1; have h1 := dd2; omega
          have HI2 : Hid (∀ i, i < k + 1 → ¬ badC l (px, py) i) := fun i hi => (Nat.lt_succ_iff_lt_or_eq.mp hi).elim (HI.out i) (fun e => by rw [e]; exact HN)
          clear HN
          go_wp2_with fail
          go_roundw
          case rel => exact ⟨k + 1, by omega, by go_num, HI2, L, B_z0, HB⟩
          case measure => simp only [intOf]; omega
    · skip
      have hkn : n = k := by omega
      subst hkn
      have HN : inL l (px, py) := fun i hi => HI.out i (by rw [L.out.len]; exact hi)
      go_wp2
      go_ret
      exact ⟨rb (decide_eq_true HN).symm, nextw HB.out (by exact sm)⟩
end Go.Proofs.Ytpjbkadhmjlpfaa
