/- the laws PlanTraces, PlanSweeps. -/
import Derived.Test.YtkhcogfajihecaaY22
set_option linter.unusedVariables false
set_option linter.unusedSimpArgs false
namespace Go.Proofs.Ytkhcogfajihecaa
open Go Go.RowKit Hd

theorem swE_o {x0 y0 x1 y1 x y d lo hi : Int} (h : swE x0 y0 x1 y1 x y d lo hi = 0) : SwO x0 y0 x1 y1 x y d lo hi ∧ OkQ x0 y0 x1 y1 := by
  unfold swE at h
  split at h
  · rename_i h1
    split at h
    · rename_i h2
      split at h
      · rename_i h3
        exact ⟨⟨h1.2, h2.1, h2.2.1, h2.2.2, h1.1.2.2.2.2.1, h1.1.2.2.2.2.2, h3.1, h3.2⟩, h1.1⟩
      · cases h
    · cases h
  · cases h
theorem swV_len (x0 y0 x1 y1 x y d lo hi : Int) : (swV x0 y0 x1 y1 x y d lo hi).length ≤ 1000000 := by
  unfold swV
  split
  · rename_i h
    obtain ⟨ho, -⟩ := swE_o h
    obtain ⟨⟨r1, r2⟩, r3, r4⟩ := ho.rows
    have wy := ho.wy
    unfold swX
    rcases Int.lt_or_le (covL lo d hi d y1 y + 1 - covF lo d hi d y0 y) 0 with h1 | h1
    · rw [show (covL lo d hi d y1 y + 1 - covF lo d hi d y0 y).toNat = 0 by omega]
      simp [swK]
    · have := ho.len (covL lo d hi d y1 y + 1 - covF lo d hi d y0 y).toNat (by omega)
      omega
  · simp

theorem SweptN (x0 y0 x1 y1 x y d lo hi : Int) {N : Nat} {E : Int} (hN : (swV x0 y0 x1 y1 x y d lo hi).length = N) (hE : swE x0 y0 x1 y1 x y d lo hi = E) (w : World) {n0 : Nat} (hn : n0 ≤ w.heap.size) : Calls Try.prog 43 #[.agg #[.int .i64 x0, .int .i64 y0, .int .i64 x1, .int .i64 y1], .agg #[.int .i64 x, .int .i64 y, .int .i64 d], .int .i64 lo, .int .i64 hi] w fun e w' => ∃ A c, e = .returned (.tuple #[.slice A N c, .int .i64 E]) ∧ PL w' n0 w'.heap.size A N c (swV x0 y0 x1 y1 x y d lo hi) ∧ Below w.heap.size w w' := by
  subst hN hE
  exact (Swept_is x0 y0 x1 y1 x y d lo hi w).mono fun _ _ h => by obtain ⟨A, c, h1, h2, h3⟩ := h; exact ⟨A, c, h1, PL.outw h2 hn, h3⟩

theorem RSweptN (x0 y0 x1 y1 x y d lo hi : Int) {N : Nat} {E : Int} (hN : (swV x0 y0 x1 y1 x y d lo hi).length = N) (hE : swE x0 y0 x1 y1 x y d lo hi = E) (w : World) {n0 : Nat} (hn : n0 ≤ w.heap.size) : Calls Try.prog 44 #[.agg #[.int .i64 x0, .int .i64 y0, .int .i64 x1, .int .i64 y1], .agg #[.int .i64 x, .int .i64 y, .int .i64 d], .int .i64 lo, .int .i64 hi] w fun e w' => ∃ A c, e = .returned (.tuple #[.slice A N c, .int .i64 E]) ∧ PL w' n0 w'.heap.size A N c (swV x0 y0 x1 y1 x y d lo hi) ∧ Below w.heap.size w w' := by
  subst hN hE
  exact (RSwept_is x0 y0 x1 y1 x y d lo hi w).mono fun _ _ h => by obtain ⟨A, c, h1, h2, h3⟩ := h; exact ⟨A, c, h1, PL.outw h2 hn, h3⟩

set_option maxRecDepth 100000 in
set_option maxHeartbeats 4000000 in
theorem RTraced_is (a b x y d lo hi : Int) (w : World) :
    Calls Try.prog 42 #[.agg #[.int .i64 a, .int .i64 b], .agg #[.int .i64 x, .int .i64 y, .int .i64 d], .int .i64 lo, .int .i64 hi] w fun e w' => ∃ A c, e = .returned (.tuple #[.slice A (swV a b a b x y d lo hi).length c, .int .i64 (swE a b a b x y d lo hi)]) ∧ PL w' w.heap.size w'.heap.size A (swV a b a b x y d lo hi).length c (swV a b a b x y d lo hi) ∧ Below w.heap.size w w' := by
  obtain ⟨HB, B_z0, B_z1⟩ := box2 w 43 #[.int .i64 a, .int .i64 b] 59 #[.int .i64 x, .int .i64 y, .int .i64 d]
  go_enter Try.func42, Try.ntmps42
  go_wp2_with fail
  generalize (w.alloc (.cells #[.int .i64 a, .int .i64 b] 43)).alloc (.cells #[.int .i64 x, .int .i64 y, .int .i64 d] 59) = W0 at *
  have hs0 := HB.out.size
  obtain ⟨c0z0, c1z0⟩ := cells2 B_z0
  obtain ⟨c0z1, c1z1, c2z1⟩ := cells3 B_z1
  go_wp2_with fail
  refine (RSweptN a b a b x y d lo hi rfl rfl _ hs0).mono ?_
  clear c0z0 c1z0 c0z1 c1z1 c2z1
  rintro e w1 ⟨A0, c0, rfl, L0, bb⟩
  replace bb := nextw (w0 := W0) (by exact sm) bb
  replace B_z0 := mv B_z0 bb
  replace B_z1 := mv B_z1 bb
  replace HB := nx HB bb
  clear bb
  replace L0 := Lib.hid L0
  go_wp2_with fail
  exact bodyPost_ret (v := .tuple #[.slice A0 (swV a b a b x y d lo hi).length c0, .int .i64 (swE a b a b x y d lo hi)]) (by simp [results, Try.results42, go_sem]) rfl ⟨A0, c0, rfl, PL.outw (PL.below L0.out (by exact sm)) (Nat.le_refl _), nextw HB.out (by exact sm)⟩

theorem TracedN (a b x y d lo hi : Int) {N : Nat} {E : Int} (hN : (swV a b a b x y d lo hi).length = N) (hE : swE a b a b x y d lo hi = E) (w : World) {n0 : Nat} (hn : n0 ≤ w.heap.size) : Calls Try.prog 41 #[.agg #[.int .i64 a, .int .i64 b], .agg #[.int .i64 x, .int .i64 y, .int .i64 d], .int .i64 lo, .int .i64 hi] w fun e w' => ∃ A c, e = .returned (.tuple #[.slice A N c, .int .i64 E]) ∧ PL w' n0 w'.heap.size A N c (swV a b a b x y d lo hi) ∧ Below w.heap.size w w' := by
  subst hN hE
  exact (Traced_is a b x y d lo hi w).mono fun _ _ h => by obtain ⟨A, c, h1, h2, h3⟩ := h; exact ⟨A, c, h1, PL.outw h2 hn, h3⟩

theorem RTracedN (a b x y d lo hi : Int) {N : Nat} {E : Int} (hN : (swV a b a b x y d lo hi).length = N) (hE : swE a b a b x y d lo hi = E) (w : World) {n0 : Nat} (hn : n0 ≤ w.heap.size) : Calls Try.prog 42 #[.agg #[.int .i64 a, .int .i64 b], .agg #[.int .i64 x, .int .i64 y, .int .i64 d], .int .i64 lo, .int .i64 hi] w fun e w' => ∃ A c, e = .returned (.tuple #[.slice A N c, .int .i64 E]) ∧ PL w' n0 w'.heap.size A N c (swV a b a b x y d lo hi) ∧ Below w.heap.size w w' := by
  subst hN hE
  exact (RTraced_is a b x y d lo hi w).mono fun _ _ h => by obtain ⟨A, c, h1, h2, h3⟩ := h; exact ⟨A, c, h1, PL.outw h2 hn, h3⟩

set_option maxRecDepth 100000 in
set_option maxHeartbeats 4000000 in
theorem LTraces_any (a b x y d lo hi : Int) (w : World) :
    Calls Try.prog 8 #[.agg #[.int .i64 a, .int .i64 b, .int .i64 x, .int .i64 y, .int .i64 d, .int .i64 lo, .int .i64 hi]] w fun e w' => e = .returned (.bool true) ∧ Below w.heap.size w w' := by
  obtain ⟨N, hN⟩ : ∃ N, (swV a b a b x y d lo hi).length = N := ⟨_, rfl⟩
  obtain ⟨E, hE⟩ : ∃ E, swE a b a b x y d lo hi = E := ⟨_, rfl⟩
  have HN := Lib.hid hN
  have HE := Lib.hid hE
  have hl1 := Lib.hid (swV_len a b a b x y d lo hi)
  clear hN hE
  obtain ⟨HB, B_z0⟩ := box1 w 61 #[.int .i64 a, .int .i64 b, .int .i64 x, .int .i64 y, .int .i64 d, .int .i64 lo, .int .i64 hi]
  go_enter Try.func8, Try.ntmps8
  go_wp2_with fail
  generalize w.alloc (.cells #[.int .i64 a, .int .i64 b, .int .i64 x, .int .i64 y, .int .i64 d, .int .i64 lo, .int .i64 hi] 61) = W0 at *
  go_wp2_with fail
  refine (awake_is _).mono ?_
  rintro e w1 ⟨rfl, bb⟩
  replace bb := nextw (w0 := W0) (by exact sm) bb
  replace B_z0 := mv B_z0 bb
  replace HB := nx HB bb
  clear bb
  have hsz := HB.out.size
  obtain ⟨c0z0, c1z0, c2z0, c3z0, c4z0, c5z0, c6z0⟩ := cells7 B_z0
  go_wp2_with fail
  refine (TracedN a b x y d lo hi HN.out HE.out _ (show w.heap.size ≤ _ from hsz)).mono ?_
  clear c0z0 c1z0 c2z0 c3z0 c4z0 c5z0 c6z0
  rintro e w2 ⟨A0, c0, rfl, L0, bb⟩
  replace bb := nextw (w0 := w1) (by exact sm) bb
  replace B_z0 := mv B_z0 bb
  replace HB := nx HB bb
  clear bb
  clear hsz
  replace L0 := Lib.hid L0
  have hsz := HB.out.size
  obtain ⟨c0z0, c1z0, c2z0, c3z0, c4z0, c5z0, c6z0⟩ := cells7 B_z0
  go_wp2_with fail
  refine (RTracedN a b x y d lo hi HN.out HE.out _ (show w.heap.size ≤ _ from hsz)).mono ?_
  clear c0z0 c1z0 c2z0 c3z0 c4z0 c5z0 c6z0
  rintro e w3 ⟨A1, c1, rfl, L1, bb⟩
  replace bb := nextw (w0 := w2) (by exact sm) bb
  replace B_z0 := mv B_z0 bb
  replace L0 := Lib.hid (PL.below L0.out bb)
  replace HB := nx HB bb
  clear bb
  clear hsz
  replace L1 := Lib.hid L1
  go_wp2_with fail
  refine (same_cells _ hl1.out _ _ _ _ _ _ HN.out HN.out _ (PL.below L0.out (by exact sm)) (PL.below L1.out (by exact sm))).mono ?_
  rintro e w4 ⟨rfl, bb⟩
  replace bb := nextw (w0 := w3) (by exact sm) bb
  replace B_z0 := mv B_z0 bb
  replace L0 := Lib.hid (PL.below L0.out bb)
  replace L1 := Lib.hid (PL.below L1.out bb)
  replace HB := nx HB bb
  clear bb
  go_wp2
  go_ret
  exact ⟨rfl, nextw HB.out (by exact sm)⟩

set_option maxRecDepth 100000 in
set_option maxHeartbeats 4000000 in
theorem LSweeps_any (a b x y d lo hi x0 y0 x1 y1 : Int) (w : World) :
    Calls Try.prog 9 #[.agg #[.int .i64 a, .int .i64 b, .int .i64 x, .int .i64 y, .int .i64 d, .int .i64 lo, .int .i64 hi], .agg #[.int .i64 x0, .int .i64 y0, .int .i64 x1, .int .i64 y1]] w fun e w' => e = .returned (.bool true) ∧ Below w.heap.size w w' := by
  obtain ⟨N, hN⟩ : ∃ N, (swV x0 y0 x1 y1 x y d lo hi).length = N := ⟨_, rfl⟩
  obtain ⟨E, hE⟩ : ∃ E, swE x0 y0 x1 y1 x y d lo hi = E := ⟨_, rfl⟩
  have HN := Lib.hid hN
  have HE := Lib.hid hE
  have hl1 := Lib.hid (swV_len x0 y0 x1 y1 x y d lo hi)
  clear hN hE
  obtain ⟨HB, B_z0, B_z1⟩ := box2 w 61 #[.int .i64 a, .int .i64 b, .int .i64 x, .int .i64 y, .int .i64 d, .int .i64 lo, .int .i64 hi] 45 #[.int .i64 x0, .int .i64 y0, .int .i64 x1, .int .i64 y1]
  go_enter Try.func9, Try.ntmps9
  go_wp2_with fail
  generalize (w.alloc (.cells #[.int .i64 a, .int .i64 b, .int .i64 x, .int .i64 y, .int .i64 d, .int .i64 lo, .int .i64 hi] 61)).alloc (.cells #[.int .i64 x0, .int .i64 y0, .int .i64 x1, .int .i64 y1] 45) = W0 at *
  go_wp2_with fail
  refine (awake_is _).mono ?_
  rintro e w1 ⟨rfl, bb⟩
  replace bb := nextw (w0 := W0) (by exact sm) bb
  replace B_z0 := mv B_z0 bb
  replace B_z1 := mv B_z1 bb
  replace HB := nx HB bb
  clear bb
  have hsz := HB.out.size
  obtain ⟨c0z0, c1z0, c2z0, c3z0, c4z0, c5z0, c6z0⟩ := cells7 B_z0
  obtain ⟨c0z1, c1z1, c2z1, c3z1⟩ := cells4 B_z1
  go_wp2_with fail
  refine (SweptN x0 y0 x1 y1 x y d lo hi HN.out HE.out _ (show w.heap.size ≤ _ from hsz)).mono ?_
  clear c0z0 c1z0 c2z0 c3z0 c4z0 c5z0 c6z0 c0z1 c1z1 c2z1 c3z1
  rintro e w2 ⟨A0, c0, rfl, L0, bb⟩
  replace bb := nextw (w0 := w1) (by exact sm) bb
  replace B_z0 := mv B_z0 bb
  replace B_z1 := mv B_z1 bb
  replace HB := nx HB bb
  clear bb
  clear hsz
  replace L0 := Lib.hid L0
  have hsz := HB.out.size
  obtain ⟨c0z0, c1z0, c2z0, c3z0, c4z0, c5z0, c6z0⟩ := cells7 B_z0
  obtain ⟨c0z1, c1z1, c2z1, c3z1⟩ := cells4 B_z1
  go_wp2_with fail
  refine (RSweptN x0 y0 x1 y1 x y d lo hi HN.out HE.out _ (show w.heap.size ≤ _ from hsz)).mono ?_
  clear c0z0 c1z0 c2z0 c3z0 c4z0 c5z0 c6z0 c0z1 c1z1 c2z1 c3z1
  rintro e w3 ⟨A1, c1, rfl, L1, bb⟩
  replace bb := nextw (w0 := w2) (by exact sm) bb
  replace B_z0 := mv B_z0 bb
  replace B_z1 := mv B_z1 bb
  replace L0 := Lib.hid (PL.below L0.out bb)
  replace HB := nx HB bb
  clear bb
  clear hsz
  replace L1 := Lib.hid L1
  go_wp2_with fail
  refine (same_cells _ hl1.out _ _ _ _ _ _ HN.out HN.out _ (PL.below L0.out (by exact sm)) (PL.below L1.out (by exact sm))).mono ?_
  rintro e w4 ⟨rfl, bb⟩
  replace bb := nextw (w0 := w3) (by exact sm) bb
  replace B_z0 := mv B_z0 bb
  replace B_z1 := mv B_z1 bb
  replace L0 := Lib.hid (PL.below L0.out bb)
  replace L1 := Lib.hid (PL.below L1.out bb)
  replace HB := nx HB bb
  clear bb
  go_wp2
  go_ret
  exact ⟨rfl, nextw HB.out (by exact sm)⟩
end Go.Proofs.Ytkhcogfajihecaa
