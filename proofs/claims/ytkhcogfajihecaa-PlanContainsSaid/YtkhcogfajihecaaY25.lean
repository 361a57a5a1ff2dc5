/- the law PlanContains. -/
import Derived.Test.YtkhcogfajihecaaY24
set_option linter.unusedVariables false
set_option linter.unusedSimpArgs false
namespace Go.Proofs.Ytkhcogfajihecaa
open Go Go.RowKit Hd

theorem swP_mono {x0 y0 x1 y1 x y d lo hi u0 v0 u1 v1 lo2 hi2 X Y : Int} (h : SwP x0 y0 x1 y1 x y d lo hi X Y) (h0 : u0 ≤ x0) (h1 : v0 ≤ y0) (h2 : x1 ≤ u1) (h3 : y1 ≤ v1) (h4 : lo2 ≤ lo) (h5 : hi ≤ hi2) : SwP u0 v0 u1 v1 x y d lo2 hi2 X Y := by
  obtain ⟨N, M, hM, ⟨g1, g2⟩, ⟨g3, g4⟩, g5, g6⟩ := h
  have m0 := mle (show 0 ≤ M by omega) h0
  have m1 := mle (show 0 ≤ M by omega) h1
  have m2 := mle (show 0 ≤ M by omega) h2
  have m3 := mle (show 0 ≤ M by omega) h3
  have m4 := mle (show 0 ≤ M by omega) h4
  have m5 := mle (show 0 ≤ M by omega) h5
  exact ⟨N, M, hM, ⟨by omega, by omega⟩, ⟨by omega, by omega⟩, by omega, by omega⟩
theorem mem_swV {x0 y0 x1 y1 x y d lo hi : Int} (h : swE x0 y0 x1 y1 x y d lo hi = 0) {c : P2} : c ∈ swV x0 y0 x1 y1 x y d lo hi ↔ SwP x0 y0 x1 y1 x y d lo hi c.1 c.2 := by
  obtain ⟨ho, -⟩ := swE_o h
  rw [swV_ok h]
  exact mem_swX (X := c.1) (Y := c.2) ho.v.lo ho.lh ho.hx ho.hy
theorem sr_swV (x0 y0 x1 y1 x y d lo hi : Int) : SrC (swV x0 y0 x1 y1 x y d lo hi) := by
  unfold swV
  split
  · exact sr_swK _ _ _ _ _ _ _ _ _ _ _
  · exact List.Pairwise.nil
theorem sw_sub {x0 y0 x1 y1 x y d lo hi u0 v0 u1 v1 lo2 hi2 : Int} (e1 : swE x0 y0 x1 y1 x y d lo hi = 0) (e2 : swE u0 v0 u1 v1 x y d lo2 hi2 = 0) (h0 : u0 ≤ x0) (h1 : v0 ≤ y0) (h2 : x1 ≤ u1) (h3 : y1 ≤ v1) (h4 : lo2 ≤ lo) (h5 : hi ≤ hi2) : ∀ c ∈ swV x0 y0 x1 y1 x y d lo hi, c ∈ swV u0 v0 u1 v1 x y d lo2 hi2 := fun c hc =>
  (mem_swV e2).2 (swP_mono ((mem_swV e1).1 hc) h0 h1 h2 h3 h4 h5)
theorem sw_corner {x0 y0 x1 y1 x y d lo hi a b : Int} (e : swE x0 y0 x1 y1 x y d lo hi = 0) (ha1 : x0 ≤ a) (ha2 : a ≤ x1) (hb1 : y0 ≤ b) (hb2 : b ≤ y1) : swE a b a b x y d lo hi = 0 := by
  obtain ⟨ho, ⟨q1, q2⟩, ⟨q3, q4⟩, ⟨q5, q6⟩, ⟨q7, q8⟩, -, -⟩ := swE_o e
  exact swE_ok ⟨⟨by omega, by omega⟩, ⟨by omega, by omega⟩, ⟨by omega, by omega⟩, ⟨by omega, by omega⟩, Int.le_refl _, Int.le_refl _⟩ ho.v ho.l0 ho.lh ho.h1 (by omega) (by omega)
theorem sw_wide {x0 y0 x1 y1 x y d lo hi lo2 hi2 : Int} (e : swE x0 y0 x1 y1 x y d lo hi = 0) (h1 : 0 ≤ lo2) (h2 : lo2 ≤ lo) (h3 : hi ≤ hi2) (h4 : hi2 ≤ 2048) : swE x0 y0 x1 y1 x y d lo2 hi2 = 0 := by
  obtain ⟨ho, hq⟩ := swE_o e
  have := ho.lh
  exact swE_ok hq ho.v h1 (by omega) h4 ho.wx ho.wy

set_option maxRecDepth 100000 in
set_option maxHeartbeats 4000000 in
theorem LContains_no (a b x y d lo hi x0 y0 x1 y1 m : Int) (h : swE x0 y0 x1 y1 x y d lo hi ≠ 0) (w : World) :
    Calls Try.prog 10 #[.agg #[.int .i64 a, .int .i64 b, .int .i64 x, .int .i64 y, .int .i64 d, .int .i64 lo, .int .i64 hi], .agg #[.int .i64 x0, .int .i64 y0, .int .i64 x1, .int .i64 y1], .int .u8 m] w fun e w' => e = .returned (.bool true) ∧ Below w.heap.size w w' := by
  have HN0 : Hid ((swV x0 y0 x1 y1 x y d lo hi).length = 0) := by unfold Hid; rw [swV_nil rfl h]; rfl
  obtain ⟨E0, hE0⟩ : ∃ E, swE x0 y0 x1 y1 x y d lo hi = E := ⟨_, rfl⟩
  rw [hE0] at h
  have HE0 := Lib.hid hE0
  clear hE0
  have hEb : (E0 == 0) = false := decide_eq_false h
  have hEc : (E0 != 0) = true := by rw [bne, hEb]; rfl
  obtain ⟨N1, hN1⟩ : ∃ N, (swV a b a b x y d lo hi).length = N := ⟨_, rfl⟩
  have hb1 : N1 ≤ 1000000 := by rw [← hN1]; exact swV_len a b a b x y d lo hi
  have HN1 := Lib.hid hN1
  clear hN1
  obtain ⟨E1, hE1⟩ : ∃ E, swE a b a b x y d lo hi = E := ⟨_, rfl⟩
  have HE1 := Lib.hid hE1
  clear hE1
  obtain ⟨HB, B_z0, B_z1⟩ := box2 w 61 #[.int .i64 a, .int .i64 b, .int .i64 x, .int .i64 y, .int .i64 d, .int .i64 lo, .int .i64 hi] 45 #[.int .i64 x0, .int .i64 y0, .int .i64 x1, .int .i64 y1]
  go_enter Try.func10, Try.ntmps10
  go_wp2_with fail
  generalize (w.alloc (.cells #[.int .i64 a, .int .i64 b, .int .i64 x, .int .i64 y, .int .i64 d, .int .i64 lo, .int .i64 hi] 61)).alloc (.cells #[.int .i64 x0, .int .i64 y0, .int .i64 x1, .int .i64 y1] 45) = W0 at *
  go_wp2_with fail
  refine (awake_is _).mono ?_
  rintro e w1 ⟨rfl, bb⟩
  replace bb := nextw (w0 := W0) (by exact sm) bb
  replace B_z0 := mv B_z0 bb
  replace B_z1 := mv B_z1 bb
  replace HB := nx HB bb
  clear bb
  have hsz := HB.out.size
  obtain ⟨c0z0, c1z0, c2z0, c3z0, c4z0, c5z0, c6z0⟩ := cells7 B_z0
  obtain ⟨c0z1, c1z1, c2z1, c3z1⟩ := cells4 B_z1
  go_wp2_with fail
  refine (SweptN x0 y0 x1 y1 x y d lo hi HN0.out HE0.out _ (show w.heap.size ≤ _ from hsz)).mono ?_
  clear c0z0 c1z0 c2z0 c3z0 c4z0 c5z0 c6z0 c0z1 c1z1 c2z1 c3z1
  rintro e w2 ⟨A0, c0, rfl, L0, bb⟩
  replace bb := nextw (w0 := w1) (by exact sm) bb
  replace B_z0 := mv B_z0 bb
  replace B_z1 := mv B_z1 bb
  replace HB := nx HB bb
  clear bb
  clear hsz
  obtain ⟨lo_L0, hi_L0, hlw0, L0⟩ : ∃ la ha, w.heap.size ≤ la ∧ Hid (PL w2 la ha A0 0 c0 (swV x0 y0 x1 y1 x y d lo hi)) := ⟨_, _, Nat.le_refl _, Lib.hid L0⟩
  have hsz := HB.out.size
  obtain ⟨c0z0, c1z0, c2z0, c3z0, c4z0, c5z0, c6z0⟩ := cells7 B_z0
  go_wp2_with fail
  refine (SweptN a b a b x y d lo hi HN1.out HE1.out _ (show w.heap.size ≤ _ from hsz)).mono ?_
  clear c0z0 c1z0 c2z0 c3z0 c4z0 c5z0 c6z0
  rintro e w3 ⟨A1, c1, rfl, L1, bb⟩
  replace bb := nextw (w0 := w2) (by exact sm) bb
  replace B_z0 := mv B_z0 bb
  replace B_z1 := mv B_z1 bb
  replace L0 := Lib.hid (PL.below L0.out bb)
  replace HB := nx HB bb
  clear bb
  clear hsz
  obtain ⟨lo_L1, hi_L1, hlw1, L1⟩ : ∃ la ha, w.heap.size ≤ la ∧ Hid (PL w3 la ha A1 N1 c1 (swV a b a b x y d lo hi)) := ⟨_, _, Nat.le_refl _, Lib.hid L1⟩
  have hsz := HB.out.size
  obtain ⟨c0z0, c1z0, c2z0, c3z0, c4z0, c5z0, c6z0⟩ := cells7 B_z0
  go_wp2_with fail
  refine (TracedN a b x y d lo hi HN1.out HE1.out _ (show w.heap.size ≤ _ from hsz)).mono ?_
  clear c0z0 c1z0 c2z0 c3z0 c4z0 c5z0 c6z0
  rintro e w4 ⟨A2, c2, rfl, L2, bb⟩
  replace bb := nextw (w0 := w3) (by exact sm) bb
  replace B_z0 := mv B_z0 bb
  replace B_z1 := mv B_z1 bb
  replace L0 := Lib.hid (PL.below L0.out bb)
  replace L1 := Lib.hid (PL.below L1.out bb)
  replace HB := nx HB bb
  clear bb
  clear hsz
  obtain ⟨lo_L2, hi_L2, hlw2, L2⟩ : ∃ la ha, w.heap.size ≤ la ∧ Hid (PL w4 la ha A2 N1 c2 (swV a b a b x y d lo hi)) := ⟨_, _, Nat.le_refl _, Lib.hid L2⟩
  have hll := Lib.hid (swV_len a b a b x y d lo hi)
  go_wp2_with fail
  refine (same_cells _ hll.out _ _ _ _ _ _ HN1.out HN1.out _ (PL.below L1.out (by exact sm)) (PL.below L2.out (by exact sm))).mono ?_
  rintro e w5 ⟨rfl, bb⟩
  replace bb := nextw (w0 := w4) (by exact sm) bb
  replace B_z0 := mv B_z0 bb
  replace B_z1 := mv B_z1 bb
  replace L0 := Lib.hid (PL.below L0.out bb)
  replace L1 := Lib.hid (PL.below L1.out bb)
  replace L2 := Lib.hid (PL.below L2.out bb)
  replace HB := nx HB bb
  clear bb
  clear L1 L2
  go_wp2
  go_ret
  exact ⟨rfl, nextw HB.out (by exact sm)⟩

set_option maxRecDepth 100000 in
set_option maxHeartbeats 4000000 in
theorem LContains_yes (a b x y d lo hi x0 y0 x1 y1 m : Int) (m1 : 0 ≤ m) (m2 : m ≤ 255) (h : swE x0 y0 x1 y1 x y d lo hi = 0) (w : World) :
    Calls Try.prog 10 #[.agg #[.int .i64 a, .int .i64 b, .int .i64 x, .int .i64 y, .int .i64 d, .int .i64 lo, .int .i64 hi], .agg #[.int .i64 x0, .int .i64 y0, .int .i64 x1, .int .i64 y1], .int .u8 m] w fun e w' => e = .returned (.bool true) ∧ Below w.heap.size w w' := by
  obtain ⟨ho, ⟨q1, q2⟩, ⟨q3, q4⟩, ⟨q5, q6⟩, ⟨q7, q8⟩, q9, q10⟩ := swE_o h
  have l0 := ho.l0
  have lh := ho.lh
  have lm := ho.h1
  clear ho
  have HE0 := Lib.hid h
  clear h
  obtain ⟨Nc0, hNc0⟩ : ∃ N, (swV x0 y0 x0 y0 x y d lo hi).length = N := ⟨_, rfl⟩
  have hbc0 : Nc0 ≤ 1000000 := by rw [← hNc0]; exact swV_len x0 y0 x0 y0 x y d lo hi
  have HNc0 := Lib.hid hNc0
  clear hNc0
  have HEc0 : Hid (swE x0 y0 x0 y0 x y d lo hi = 0) := Lib.hid (sw_corner HE0.out (by omega) (by omega) (by omega) (by omega))
  have HSc0 := Lib.hid (sw_sub HEc0.out HE0.out (by omega) (by omega) (by omega) (by omega) (Int.le_refl _) (Int.le_refl _))
  obtain ⟨Nc1, hNc1⟩ : ∃ N, (swV x1 y0 x1 y0 x y d lo hi).length = N := ⟨_, rfl⟩
  have hbc1 : Nc1 ≤ 1000000 := by rw [← hNc1]; exact swV_len x1 y0 x1 y0 x y d lo hi
  have HNc1 := Lib.hid hNc1
  clear hNc1
  have HEc1 : Hid (swE x1 y0 x1 y0 x y d lo hi = 0) := Lib.hid (sw_corner HE0.out (by omega) (by omega) (by omega) (by omega))
  have HSc1 := Lib.hid (sw_sub HEc1.out HE0.out (by omega) (by omega) (by omega) (by omega) (Int.le_refl _) (Int.le_refl _))
  obtain ⟨Nc2, hNc2⟩ : ∃ N, (swV x0 y1 x0 y1 x y d lo hi).length = N := ⟨_, rfl⟩
  have hbc2 : Nc2 ≤ 1000000 := by rw [← hNc2]; exact swV_len x0 y1 x0 y1 x y d lo hi
  have HNc2 := Lib.hid hNc2
  clear hNc2
  have HEc2 : Hid (swE x0 y1 x0 y1 x y d lo hi = 0) := Lib.hid (sw_corner HE0.out (by omega) (by omega) (by omega) (by omega))
  have HSc2 := Lib.hid (sw_sub HEc2.out HE0.out (by omega) (by omega) (by omega) (by omega) (Int.le_refl _) (Int.le_refl _))
  obtain ⟨Nc3, hNc3⟩ : ∃ N, (swV x1 y1 x1 y1 x y d lo hi).length = N := ⟨_, rfl⟩
  have hbc3 : Nc3 ≤ 1000000 := by rw [← hNc3]; exact swV_len x1 y1 x1 y1 x y d lo hi
  have HNc3 := Lib.hid hNc3
  clear hNc3
  have HEc3 : Hid (swE x1 y1 x1 y1 x y d lo hi = 0) := Lib.hid (sw_corner HE0.out (by omega) (by omega) (by omega) (by omega))
  have HSc3 := Lib.hid (sw_sub HEc3.out HE0.out (by omega) (by omega) (by omega) (by omega) (Int.le_refl _) (Int.le_refl _))
  obtain ⟨LO, hLO⟩ : ∃ q, max (lo - m) 0 = q := ⟨_, rfl⟩
  obtain ⟨HI, hHI⟩ : ∃ q, min (hi + m) 2048 = q := ⟨_, rfl⟩
  have lo1 : 0 ≤ LO := by omega
  have lo2 : LO ≤ lo := by omega
  have hi1 : hi ≤ HI := by omega
  have hi2 : HI ≤ 2048 := by omega
  have HLO := Lib.hid hLO
  have HHI := Lib.hid hHI
  clear hLO hHI
  obtain ⟨N3, hN3⟩ : ∃ N, (swV x0 y0 x1 y1 x y d LO HI).length = N := ⟨_, rfl⟩
  have hb3 : N3 ≤ 1000000 := by rw [← hN3]; exact swV_len x0 y0 x1 y1 x y d LO HI
  have HN3 := Lib.hid hN3
  clear hN3
  have HE3 : Hid (swE x0 y0 x1 y1 x y d LO HI = 0) := Lib.hid (sw_wide HE0.out lo1 lo2 hi1 hi2)
  have HS3 := Lib.hid (sw_sub HE0.out HE3.out (Int.le_refl _) (Int.le_refl _) (Int.le_refl _) (Int.le_refl _) lo2 hi1)
  obtain ⟨N4, hN4⟩ : ∃ N, (swV (x0 - 1) y0 x1 (y1 + 1) x y d lo hi).length = N := ⟨_, rfl⟩
  have hb4 : N4 ≤ 1000000 := by rw [← hN4]; exact swV_len (x0 - 1) y0 x1 (y1 + 1) x y d lo hi
  have HN4 := Lib.hid hN4
  clear hN4
  obtain ⟨E4, hE4⟩ : ∃ E, swE (x0 - 1) y0 x1 (y1 + 1) x y d lo hi = E := ⟨_, rfl⟩
  have HE4 := Lib.hid hE4
  clear hE4
  obtain ⟨N0, hN0⟩ : ∃ N, (swV x0 y0 x1 y1 x y d lo hi).length = N := ⟨_, rfl⟩
  have hb0 : N0 ≤ 1000000 := by rw [← hN0]; exact swV_len x0 y0 x1 y1 x y d lo hi
  have HN0 := Lib.hid hN0
  clear hN0
  obtain ⟨N1, hN1⟩ : ∃ N, (swV a b a b x y d lo hi).length = N := ⟨_, rfl⟩
  have hb1 : N1 ≤ 1000000 := by rw [← hN1]; exact swV_len a b a b x y d lo hi
  have HN1 := Lib.hid hN1
  clear hN1
  obtain ⟨E1, hE1⟩ : ∃ E, swE a b a b x y d lo hi = E := ⟨_, rfl⟩
  have HE1 := Lib.hid hE1
  clear hE1
  obtain ⟨HB, B_z0, B_z1⟩ := box2 w 61 #[.int .i64 a, .int .i64 b, .int .i64 x, .int .i64 y, .int .i64 d, .int .i64 lo, .int .i64 hi] 45 #[.int .i64 x0, .int .i64 y0, .int .i64 x1, .int .i64 y1]
  go_enter Try.func10, Try.ntmps10
  go_wp2_with fail
  generalize (w.alloc (.cells #[.int .i64 a, .int .i64 b, .int .i64 x, .int .i64 y, .int .i64 d, .int .i64 lo, .int .i64 hi] 61)).alloc (.cells #[.int .i64 x0, .int .i64 y0, .int .i64 x1, .int .i64 y1] 45) = W0 at *
  go_wp2_with fail
  refine (awake_is _).mono ?_
  rintro e w1 ⟨rfl, bb⟩
  replace bb := nextw (w0 := W0) (by exact sm) bb
  replace B_z0 := mv B_z0 bb
  replace B_z1 := mv B_z1 bb
  replace HB := nx HB bb
  clear bb
  have hsz := HB.out.size
  obtain ⟨c0z0, c1z0, c2z0, c3z0, c4z0, c5z0, c6z0⟩ := cells7 B_z0
  obtain ⟨c0z1, c1z1, c2z1, c3z1⟩ := cells4 B_z1
  go_wp2_with fail
  refine (SweptN x0 y0 x1 y1 x y d lo hi HN0.out HE0.out _ (show w.heap.size ≤ _ from hsz)).mono ?_
  clear c0z0 c1z0 c2z0 c3z0 c4z0 c5z0 c6z0 c0z1 c1z1 c2z1 c3z1
  rintro e w2 ⟨A0, c0, rfl, L0, bb⟩
  replace bb := nextw (w0 := w1) (by exact sm) bb
  replace B_z0 := mv B_z0 bb
  replace B_z1 := mv B_z1 bb
  replace HB := nx HB bb
  clear bb
  clear hsz
  obtain ⟨lo_L0, hi_L0, hlw0, L0⟩ : ∃ la ha, w.heap.size ≤ la ∧ Hid (PL w2 la ha A0 N0 c0 (swV x0 y0 x1 y1 x y d lo hi)) := ⟨_, _, Nat.le_refl _, Lib.hid L0⟩
  have hsz := HB.out.size
  obtain ⟨c0z0, c1z0, c2z0, c3z0, c4z0, c5z0, c6z0⟩ := cells7 B_z0
  go_wp2_with fail
  refine (SweptN a b a b x y d lo hi HN1.out HE1.out _ (show w.heap.size ≤ _ from hsz)).mono ?_
  clear c0z0 c1z0 c2z0 c3z0 c4z0 c5z0 c6z0
  rintro e w3 ⟨A1, c1, rfl, L1, bb⟩
  replace bb := nextw (w0 := w2) (by exact sm) bb
  replace B_z0 := mv B_z0 bb
  replace B_z1 := mv B_z1 bb
  replace L0 := Lib.hid (PL.below L0.out bb)
  replace HB := nx HB bb
  clear bb
  clear hsz
  obtain ⟨lo_L1, hi_L1, hlw1, L1⟩ : ∃ la ha, w.heap.size ≤ la ∧ Hid (PL w3 la ha A1 N1 c1 (swV a b a b x y d lo hi)) := ⟨_, _, Nat.le_refl _, Lib.hid L1⟩
  have hsz := HB.out.size
  obtain ⟨c0z0, c1z0, c2z0, c3z0, c4z0, c5z0, c6z0⟩ := cells7 B_z0
  go_wp2_with fail
  refine (TracedN a b x y d lo hi HN1.out HE1.out _ (show w.heap.size ≤ _ from hsz)).mono ?_
  clear c0z0 c1z0 c2z0 c3z0 c4z0 c5z0 c6z0
  rintro e w4 ⟨A2, c2, rfl, L2, bb⟩
  replace bb := nextw (w0 := w3) (by exact sm) bb
  replace B_z0 := mv B_z0 bb
  replace B_z1 := mv B_z1 bb
  replace L0 := Lib.hid (PL.below L0.out bb)
  replace L1 := Lib.hid (PL.below L1.out bb)
  replace HB := nx HB bb
  clear bb
  clear hsz
  obtain ⟨lo_L2, hi_L2, hlw2, L2⟩ : ∃ la ha, w.heap.size ≤ la ∧ Hid (PL w4 la ha A2 N1 c2 (swV a b a b x y d lo hi)) := ⟨_, _, Nat.le_refl _, Lib.hid L2⟩
  have hll := Lib.hid (swV_len a b a b x y d lo hi)
  go_wp2_with fail
  refine (same_cells _ hll.out _ _ _ _ _ _ HN1.out HN1.out _ (PL.below L1.out (by exact sm)) (PL.below L2.out (by exact sm))).mono ?_
  rintro e w5 ⟨rfl, bb⟩
  replace bb := nextw (w0 := w4) (by exact sm) bb
  replace B_z0 := mv B_z0 bb
  replace B_z1 := mv B_z1 bb
  replace L0 := Lib.hid (PL.below L0.out bb)
  replace L1 := Lib.hid (PL.below L1.out bb)
  replace L2 := Lib.hid (PL.below L2.out bb)
  replace HB := nx HB bb
  clear bb
  clear L1 L2
  go_upto_region 10 with (fail)
  obtain ⟨c0z1, c1z1, c2z1, c3z1⟩ := cells4 B_z1
  have lt_z2z0 := B_z0.out.lt
  have lt_z2z1 := B_z1.out.lt
  obtain ⟨bb, B_z2⟩ := box1 w5 43 #[.int .i64 x0, .int .i64 y0, .int .i64 x1, .int .i64 y0, .int .i64 x0, .int .i64 y1, .int .i64 x1, .int .i64 y1]
  replace bb := bb.out
  replace B_z0 := mv B_z0 bb
  replace B_z1 := mv B_z1 bb
  replace L0 := Lib.hid (PL.below L0.out bb)
  replace HB := nx HB bb
  clear bb
  go_wp2_with fail
  clear c0z1 c1z1 c2z1 c3z1
  generalize w5.alloc (.cells #[.int .i64 x0, .int .i64 y0, .int .i64 x1, .int .i64 y0, .int .i64 x0, .int .i64 y1, .int .i64 x1, .int .i64 y1] 43) = WC at *
  go_wp2_with fail
  go_loopw [14] (fun  kk wx => ∃ (k : Nat), k ≤ 4 ∧ kk = .int .i64 k ∧ Hid (PL wx lo_L0 hi_L0 A0 N0 c0 (swV x0 y0 x1 y1 x y d lo hi)) ∧ Hid (Bx wx (w.heap.size) 61 #[.int .i64 a, .int .i64 b, .int .i64 x, .int .i64 y, .int .i64 d, .int .i64 lo, .int .i64 hi]) ∧ Hid (Bx wx (w.heap.size + 1) 45 #[.int .i64 x0, .int .i64 y0, .int .i64 x1, .int .i64 y1]) ∧ Hid (Bx wx (w5.heap.size) 43 #[.int .i64 x0, .int .i64 y0, .int .i64 x1, .int .i64 y0, .int .i64 x0, .int .i64 y1, .int .i64 x1, .int .i64 y1]) ∧ Hid (Below w.heap.size w wx)) (fun  kk _ => 4 - (intOf kk).toNat)
  case atStart => exact ⟨0, by omega, rfl, L0, B_z0, B_z1, B_z2, HB⟩
  case round =>
    clear L0 B_z0 B_z1 B_z2 HB
    obtain ⟨k, hk, rfl, L0, B_z0, B_z1, B_z2, HB⟩ := hrel
    by_cases hlt : k < 4
    · skip
      have hk4 : k = 0 ∨ k = 1 ∨ k = 2 ∨ k = 3 := by omega
      rcases hk4 with rfl | rfl | rfl | rfl
      · skip
        go_upto_region 14 with (fail)
        have hsz := HB.out.size
        obtain ⟨c0z2, c1z2, -, -, -, -, -, -⟩ := cells8 B_z2
        obtain ⟨-, -, c2z0, c3z0, c4z0, c5z0, c6z0⟩ := cells7 B_z0
        have tk1x0 : True := trivial
        go_region_held3 (fun w' => w'.cell? ⟨w5.heap.size, 0, none⟩ = some (.int .i64 x0) ∧ w'.cell? ⟨w5.heap.size, 1, none⟩ = some (.int .i64 y0) ∧ w'.cell? ⟨w.heap.size, 2, none⟩ = some (.int .i64 x) ∧ w'.cell? ⟨w.heap.size, 3, none⟩ = some (.int .i64 y) ∧ w'.cell? ⟨w.heap.size, 4, none⟩ = some (.int .i64 d) ∧ w'.cell? ⟨w.heap.size, 5, none⟩ = some (.int .i64 lo) ∧ w'.cell? ⟨w.heap.size, 6, none⟩ = some (.int .i64 hi)) (((try dsimp only); (repeat' apply And.intro) <;> (first | (with_reducible assumption) | ((repeat (first | (with_reducible refine Eq.trans (cell_drew1 _ _) ?_) | (with_reducible refine Eq.trans (cell_far (by omega) _ _ _) ?_) | (with_reducible refine Eq.trans (World.cell?_alloc_lt _ _ _ (by first | (dsimp only; omega) | (simp only [World.size_alloc, World.size_setCell]; omega))) ?_))); with_reducible assumption) | assumption | go_keep)))
    (first
      | (clear tk1x0; go_at_call 41; refine (TracedN x0 y0 x y d lo hi HNc0.out HEc0.out _ (by exact hsz)).mono ?_; rintro e w6 ⟨AC, cC, rfl, LC, bb⟩; replace bb := nextw (w0 := wr) (by exact sm) bb; replace B_z0 := mv B_z0 bb; replace B_z1 := mv B_z1 bb; replace B_z2 := mv B_z2 bb; replace L0 := Lib.hid (PL.below L0.out bb); replace HB := nx HB bb; clear bb c0z2 c1z2 c2z0 c3z0 c4z0 c5z0 c6z0; replace LC := Lib.hid LC; have c0z2 : w6.cell? ⟨w5.heap.size, 0, none⟩ = some (.int .i64 x0) := B_z2.out.cell 0 rfl; have c1z2 : w6.cell? ⟨w5.heap.size, 1, none⟩ = some (.int .i64 y0) := B_z2.out.cell 1 rfl; have c2z0 : w6.cell? ⟨w.heap.size, 2, none⟩ = some (.int .i64 x) := B_z0.out.cell 2 rfl; have c3z0 : w6.cell? ⟨w.heap.size, 3, none⟩ = some (.int .i64 y) := B_z0.out.cell 3 rfl; have c4z0 : w6.cell? ⟨w.heap.size, 4, none⟩ = some (.int .i64 d) := B_z0.out.cell 4 rfl; have c5z0 : w6.cell? ⟨w.heap.size, 5, none⟩ = some (.int .i64 lo) := B_z0.out.cell 5 rfl; have c6z0 : w6.cell? ⟨w.heap.size, 6, none⟩ = some (.int .i64 hi) := B_z0.out.cell 6 rfl; have tk1x1 : True := trivial))
        clear c0z2 c1z2 c2z0 c3z0 c4z0 c5z0 c6z0
        clear hsz
        go_wp2_with fail
        refine (within_yes AC Nc0 cC _ A0 N0 c0 _ hbc0 hb0 (sr_swV _ _ _ _ _ _ _ _ _) (sr_swV _ _ _ _ _ _ _ _ _) HSc0.out _ (PL.below LC.out (by exact sm)) (PL.below L0.out (by exact sm))).mono ?_
        rintro e w7 ⟨rfl, bb⟩
        replace bb := nextw (w0 := w6) (by exact sm) bb
        replace B_z0 := mv B_z0 bb
        replace B_z1 := mv B_z1 bb
        replace B_z2 := mv B_z2 bb
        replace L0 := Lib.hid (PL.below L0.out bb)
        replace LC := Lib.hid (PL.below LC.out bb)
        replace HB := nx HB bb
        clear bb
        clear LC
        go_wp2_with fail
        go_roundw
        case rel => exact ⟨0 + 1, by omega, by go_num, L0, B_z0, B_z1, B_z2, HB⟩
        case measure => simp only [intOf]; omega
      · skip
        go_upto_region 14 with (fail)
        have hsz := HB.out.size
        obtain ⟨-, -, c2z2, c3z2, -, -, -, -⟩ := cells8 B_z2
        obtain ⟨-, -, c2z0, c3z0, c4z0, c5z0, c6z0⟩ := cells7 B_z0
        have tk2x0 : True := trivial
        go_region_held3 (fun w' => w'.cell? ⟨w5.heap.size, 2, none⟩ = some (.int .i64 x1) ∧ w'.cell? ⟨w5.heap.size, 3, none⟩ = some (.int .i64 y0) ∧ w'.cell? ⟨w.heap.size, 2, none⟩ = some (.int .i64 x) ∧ w'.cell? ⟨w.heap.size, 3, none⟩ = some (.int .i64 y) ∧ w'.cell? ⟨w.heap.size, 4, none⟩ = some (.int .i64 d) ∧ w'.cell? ⟨w.heap.size, 5, none⟩ = some (.int .i64 lo) ∧ w'.cell? ⟨w.heap.size, 6, none⟩ = some (.int .i64 hi)) (((try dsimp only); (repeat' apply And.intro) <;> (first | (with_reducible assumption) | ((repeat (first | (with_reducible refine Eq.trans (cell_drew1 _ _) ?_) | (with_reducible refine Eq.trans (cell_far (by omega) _ _ _) ?_) | (with_reducible refine Eq.trans (World.cell?_alloc_lt _ _ _ (by first | (dsimp only; omega) | (simp only [World.size_alloc, World.size_setCell]; omega))) ?_))); with_reducible assumption) | assumption | go_keep)))
    (first
      | (clear tk2x0; go_at_call 41; refine (TracedN x1 y0 x y d lo hi HNc1.out HEc1.out _ (by exact hsz)).mono ?_; rintro e w8 ⟨AC, cC, rfl, LC, bb⟩; replace bb := nextw (w0 := wr) (by exact sm) bb; replace B_z0 := mv B_z0 bb; replace B_z1 := mv B_z1 bb; replace B_z2 := mv B_z2 bb; replace L0 := Lib.hid (PL.below L0.out bb); replace HB := nx HB bb; clear bb c2z2 c3z2 c2z0 c3z0 c4z0 c5z0 c6z0; replace LC := Lib.hid LC; have c2z2 : w8.cell? ⟨w5.heap.size, 2, none⟩ = some (.int .i64 x1) := B_z2.out.cell 2 rfl; have c3z2 : w8.cell? ⟨w5.heap.size, 3, none⟩ = some (.int .i64 y0) := B_z2.out.cell 3 rfl; have c2z0 : w8.cell? ⟨w.heap.size, 2, none⟩ = some (.int .i64 x) := B_z0.out.cell 2 rfl; have c3z0 : w8.cell? ⟨w.heap.size, 3, none⟩ = some (.int .i64 y) := B_z0.out.cell 3 rfl; have c4z0 : w8.cell? ⟨w.heap.size, 4, none⟩ = some (.int .i64 d) := B_z0.out.cell 4 rfl; have c5z0 : w8.cell? ⟨w.heap.size, 5, none⟩ = some (.int .i64 lo) := B_z0.out.cell 5 rfl; have c6z0 : w8.cell? ⟨w.heap.size, 6, none⟩ = some (.int .i64 hi) := B_z0.out.cell 6 rfl; have tk2x1 : True := trivial))
        clear c2z2 c3z2 c2z0 c3z0 c4z0 c5z0 c6z0
        clear hsz
        go_wp2_with fail
        refine (within_yes AC Nc1 cC _ A0 N0 c0 _ hbc1 hb0 (sr_swV _ _ _ _ _ _ _ _ _) (sr_swV _ _ _ _ _ _ _ _ _) HSc1.out _ (PL.below LC.out (by exact sm)) (PL.below L0.out (by exact sm))).mono ?_
        rintro e w9 ⟨rfl, bb⟩
        replace bb := nextw (w0 := w8) (by exact sm) bb
        replace B_z0 := mv B_z0 bb
        replace B_z1 := mv B_z1 bb
        replace B_z2 := mv B_z2 bb
        replace L0 := Lib.hid (PL.below L0.out bb)
        replace LC := Lib.hid (PL.below LC.out bb)
        replace HB := nx HB bb
        clear bb
        clear LC
        go_wp2_with fail
        go_roundw
        case rel => exact ⟨1 + 1, by omega, by go_num, L0, B_z0, B_z1, B_z2, HB⟩
        case measure => simp only [intOf]; omega
      · skip
        go_upto_region 14 with (fail)
        have hsz := HB.out.size
        obtain ⟨-, -, -, -, c4z2, c5z2, -, -⟩ := cells8 B_z2
        obtain ⟨-, -, c2z0, c3z0, c4z0, c5z0, c6z0⟩ := cells7 B_z0
        have tk3x0 : True := trivial
        go_region_held3 (fun w' => w'.cell? ⟨w5.heap.size, 4, none⟩ = some (.int .i64 x0) ∧ w'.cell? ⟨w5.heap.size, 5, none⟩ = some (.int .i64 y1) ∧ w'.cell? ⟨w.heap.size, 2, none⟩ = some (.int .i64 x) ∧ w'.cell? ⟨w.heap.size, 3, none⟩ = some (.int .i64 y) ∧ w'.cell? ⟨w.heap.size, 4, none⟩ = some (.int .i64 d) ∧ w'.cell? ⟨w.heap.size, 5, none⟩ = some (.int .i64 lo) ∧ w'.cell? ⟨w.heap.size, 6, none⟩ = some (.int .i64 hi)) (((try dsimp only); (repeat' apply And.intro) <;> (first | (with_reducible assumption) | ((repeat (first | (with_reducible refine Eq.trans (cell_drew1 _ _) ?_) | (with_reducible refine Eq.trans (cell_far (by omega) _ _ _) ?_) | (with_reducible refine Eq.trans (World.cell?_alloc_lt _ _ _ (by first | (dsimp only; omega) | (simp only [World.size_alloc, World.size_setCell]; omega))) ?_))); with_reducible assumption) | assumption | go_keep)))
    (first
      | (clear tk3x0; go_at_call 41; refine (TracedN x0 y1 x y d lo hi HNc2.out HEc2.out _ (by exact hsz)).mono ?_; rintro e w10 ⟨AC, cC, rfl, LC, bb⟩; replace bb := nextw (w0 := wr) (by exact sm) bb; replace B_z0 := mv B_z0 bb; replace B_z1 := mv B_z1 bb; replace B_z2 := mv B_z2 bb; replace L0 := Lib.hid (PL.below L0.out bb); replace HB := nx HB bb; clear bb c4z2 c5z2 c2z0 c3z0 c4z0 c5z0 c6z0; replace LC := Lib.hid LC; have c4z2 : w10.cell? ⟨w5.heap.size, 4, none⟩ = some (.int .i64 x0) := B_z2.out.cell 4 rfl; have c5z2 : w10.cell? ⟨w5.heap.size, 5, none⟩ = some (.int .i64 y1) := B_z2.out.cell 5 rfl; have c2z0 : w10.cell? ⟨w.heap.size, 2, none⟩ = some (.int .i64 x) := B_z0.out.cell 2 rfl; have c3z0 : w10.cell? ⟨w.heap.size, 3, none⟩ = some (.int .i64 y) := B_z0.out.cell 3 rfl; have c4z0 : w10.cell? ⟨w.heap.size, 4, none⟩ = some (.int .i64 d) := B_z0.out.cell 4 rfl; have c5z0 : w10.cell? ⟨w.heap.size, 5, none⟩ = some (.int .i64 lo) := B_z0.out.cell 5 rfl; have c6z0 : w10.cell? ⟨w.heap.size, 6, none⟩ = some (.int .i64 hi) := B_z0.out.cell 6 rfl; have tk3x1 : True := trivial))
        clear c4z2 c5z2 c2z0 c3z0 c4z0 c5z0 c6z0
        clear hsz
        go_wp2_with fail
        refine (within_yes AC Nc2 cC _ A0 N0 c0 _ hbc2 hb0 (sr_swV _ _ _ _ _ _ _ _ _) (sr_swV _ _ _ _ _ _ _ _ _) HSc2.out _ (PL.below LC.out (by exact sm)) (PL.below L0.out (by exact sm))).mono ?_
        rintro e w11 ⟨rfl, bb⟩
        replace bb := nextw (w0 := w10) (by exact sm) bb
        replace B_z0 := mv B_z0 bb
        replace B_z1 := mv B_z1 bb
        replace B_z2 := mv B_z2 bb
        replace L0 := Lib.hid (PL.below L0.out bb)
        replace LC := Lib.hid (PL.below LC.out bb)
        replace HB := nx HB bb
        clear bb
        clear LC
        go_wp2_with fail
        go_roundw
        case rel => exact ⟨2 + 1, by omega, by go_num, L0, B_z0, B_z1, B_z2, HB⟩
        case measure => simp only [intOf]; omega
      · skip
        go_upto_region 14 with (fail)
        have hsz := HB.out.size
        obtain ⟨-, -, -, -, -, -, c6z2, c7z2⟩ := cells8 B_z2
        obtain ⟨-, -, c2z0, c3z0, c4z0, c5z0, c6z0⟩ := cells7 B_z0
        have tk4x0 : True := trivial
        go_region_held3 (fun w' => w'.cell? ⟨w5.heap.size, 6, none⟩ = some (.int .i64 x1) ∧ w'.cell? ⟨w5.heap.size, 7, none⟩ = some (.int .i64 y1) ∧ w'.cell? ⟨w.heap.size, 2, none⟩ = some (.int .i64 x) ∧ w'.cell? ⟨w.heap.size, 3, none⟩ = some (.int .i64 y) ∧ w'.cell? ⟨w.heap.size, 4, none⟩ = some (.int .i64 d) ∧ w'.cell? ⟨w.heap.size, 5, none⟩ = some (.int .i64 lo) ∧ w'.cell? ⟨w.heap.size, 6, none⟩ = some (.int .i64 hi)) (((try dsimp only); (repeat' apply And.intro) <;> (first | (with_reducible assumption) | ((repeat (first | (with_reducible refine Eq.trans (cell_drew1 _ _) ?_) | (with_reducible refine Eq.trans (cell_far (by omega) _ _ _) ?_) | (with_reducible refine Eq.trans (World.cell?_alloc_lt _ _ _ (by first | (dsimp only; omega) | (simp only [World.size_alloc, World.size_setCell]; omega))) ?_))); with_reducible assumption) | assumption | go_keep)))
    (first
      | (clear tk4x0; go_at_call 41; refine (TracedN x1 y1 x y d lo hi HNc3.out HEc3.out _ (by exact hsz)).mono ?_; rintro e w12 ⟨AC, cC, rfl, LC, bb⟩; replace bb := nextw (w0 := wr) (by exact sm) bb; replace B_z0 := mv B_z0 bb; replace B_z1 := mv B_z1 bb; replace B_z2 := mv B_z2 bb; replace L0 := Lib.hid (PL.below L0.out bb); replace HB := nx HB bb; clear bb c6z2 c7z2 c2z0 c3z0 c4z0 c5z0 c6z0; replace LC := Lib.hid LC; have c6z2 : w12.cell? ⟨w5.heap.size, 6, none⟩ = some (.int .i64 x1) := B_z2.out.cell 6 rfl; have c7z2 : w12.cell? ⟨w5.heap.size, 7, none⟩ = some (.int .i64 y1) := B_z2.out.cell 7 rfl; have c2z0 : w12.cell? ⟨w.heap.size, 2, none⟩ = some (.int .i64 x) := B_z0.out.cell 2 rfl; have c3z0 : w12.cell? ⟨w.heap.size, 3, none⟩ = some (.int .i64 y) := B_z0.out.cell 3 rfl; have c4z0 : w12.cell? ⟨w.heap.size, 4, none⟩ = some (.int .i64 d) := B_z0.out.cell 4 rfl; have c5z0 : w12.cell? ⟨w.heap.size, 5, none⟩ = some (.int .i64 lo) := B_z0.out.cell 5 rfl; have c6z0 : w12.cell? ⟨w.heap.size, 6, none⟩ = some (.int .i64 hi) := B_z0.out.cell 6 rfl; have tk4x1 : True := trivial))
        clear c6z2 c7z2 c2z0 c3z0 c4z0 c5z0 c6z0
        clear hsz
        go_wp2_with fail
        refine (within_yes AC Nc3 cC _ A0 N0 c0 _ hbc3 hb0 (sr_swV _ _ _ _ _ _ _ _ _) (sr_swV _ _ _ _ _ _ _ _ _) HSc3.out _ (PL.below LC.out (by exact sm)) (PL.below L0.out (by exact sm))).mono ?_
        rintro e w13 ⟨rfl, bb⟩
        replace bb := nextw (w0 := w12) (by exact sm) bb
        replace B_z0 := mv B_z0 bb
        replace B_z1 := mv B_z1 bb
        replace B_z2 := mv B_z2 bb
        replace L0 := Lib.hid (PL.below L0.out bb)
        replace LC := Lib.hid (PL.below LC.out bb)
        replace HB := nx HB bb
        clear bb
        clear LC
        go_wp2_with fail
        go_roundw
        case rel => exact ⟨3 + 1, by omega, by go_num, L0, B_z0, B_z1, B_z2, HB⟩
        case measure => simp only [intOf]; omega
    · skip
      obtain rfl : k = 4 := by omega
      have hLO := HLO.out
      have hHI := HHI.out
      have hsz := HB.out.size
      obtain ⟨c0z0, c1z0, c2z0, c3z0, c4z0, c5z0, c6z0⟩ := cells7 B_z0
      obtain ⟨c0z1, c1z1, c2z1, c3z1⟩ := cells4 B_z1
      go_wp2_with fail
      refine (SweptN x0 y0 x1 y1 x y d LO HI HN3.out HE3.out _ (show w.heap.size ≤ _ from hsz)).mono ?_
      clear c0z0 c1z0 c2z0 c3z0 c4z0 c5z0 c6z0 c0z1 c1z1 c2z1 c3z1
      rintro e w14 ⟨A3, c3, rfl, L3, bb⟩
      replace bb := nextw (w0 := wr) (by exact sm) bb
      replace B_z0 := mv B_z0 bb
      replace B_z1 := mv B_z1 bb
      replace B_z2 := mv B_z2 bb
      replace L0 := Lib.hid (PL.below L0.out bb)
      replace HB := nx HB bb
      clear bb
      clear hsz
      obtain ⟨lo_L3, hi_L3, hlw3, L3⟩ : ∃ la ha, w.heap.size ≤ la ∧ Hid (PL w14 la ha A3 N3 c3 (swV x0 y0 x1 y1 x y d LO HI)) := ⟨_, _, Nat.le_refl _, Lib.hid L3⟩
      clear hLO hHI
      go_wp2_with fail
      refine (within_yes A0 N0 c0 _ A3 N3 c3 _ hb0 hb3 (sr_swV _ _ _ _ _ _ _ _ _) (sr_swV _ _ _ _ _ _ _ _ _) HS3.out _ (PL.below L0.out (by exact sm)) (PL.below L3.out (by exact sm))).mono ?_
      rintro e w15 ⟨rfl, bb⟩
      replace bb := nextw (w0 := w14) (by exact sm) bb
      replace B_z0 := mv B_z0 bb
      replace B_z1 := mv B_z1 bb
      replace B_z2 := mv B_z2 bb
      replace L0 := Lib.hid (PL.below L0.out bb)
      replace L3 := Lib.hid (PL.below L3.out bb)
      replace HB := nx HB bb
      clear bb
      have hsz := HB.out.size
      obtain ⟨c0z0, c1z0, c2z0, c3z0, c4z0, c5z0, c6z0⟩ := cells7 B_z0
      obtain ⟨c0z1, c1z1, c2z1, c3z1⟩ := cells4 B_z1
      go_wp2_with fail
      refine (SweptN (x0 - 1) y0 x1 (y1 + 1) x y d lo hi HN4.out HE4.out _ (show w.heap.size ≤ _ from hsz)).mono ?_
      clear c0z0 c1z0 c2z0 c3z0 c4z0 c5z0 c6z0 c0z1 c1z1 c2z1 c3z1
      rintro e w16 ⟨A4, c4, rfl, L4, bb⟩
      replace bb := nextw (w0 := w15) (by exact sm) bb
      replace B_z0 := mv B_z0 bb
      replace B_z1 := mv B_z1 bb
      replace B_z2 := mv B_z2 bb
      replace L0 := Lib.hid (PL.below L0.out bb)
      replace L3 := Lib.hid (PL.below L3.out bb)
      replace HB := nx HB bb
      clear bb
      clear hsz
      obtain ⟨lo_L4, hi_L4, hlw4, L4⟩ : ∃ la ha, w.heap.size ≤ la ∧ Hid (PL w16 la ha A4 N4 c4 (swV (x0 - 1) y0 x1 (y1 + 1) x y d lo hi)) := ⟨_, _, Nat.le_refl _, Lib.hid L4⟩
      by_cases hz : E4 = 0
      · skip
        have HS4 := Lib.hid (sw_sub HE0.out (HE4.out.trans hz) (show x0 - 1 ≤ x0 by omega) (Int.le_refl _) (Int.le_refl _) (show y1 ≤ y1 + 1 by omega) (Int.le_refl _) (Int.le_refl _))
        subst hz
        go_wp2_with fail
        refine (within_yes A0 N0 c0 _ A4 N4 c4 _ hb0 hb4 (sr_swV _ _ _ _ _ _ _ _ _) (sr_swV _ _ _ _ _ _ _ _ _) HS4.out _ (PL.below L0.out (by exact sm)) (PL.below L4.out (by exact sm))).mono ?_
        rintro e w17 ⟨rfl, bb⟩
        replace bb := nextw (w0 := w16) (by exact sm) bb
        replace B_z0 := mv B_z0 bb
        replace B_z1 := mv B_z1 bb
        replace B_z2 := mv B_z2 bb
        replace L0 := Lib.hid (PL.below L0.out bb)
        replace L3 := Lib.hid (PL.below L3.out bb)
        replace L4 := Lib.hid (PL.below L4.out bb)
        replace HB := nx HB bb
        clear bb
        go_wp2
        go_ret
        exact ⟨rfl, nextw HB.out (by exact sm)⟩
      · skip
        have hEb : (E4 == 0) = false := decide_eq_false hz
        have hEc : (E4 != 0) = true := by rw [bne, hEb]; rfl
        go_wp2
        go_ret
        exact ⟨rfl, nextw HB.out (by exact sm)⟩

theorem LContains_any (a b x y d lo hi x0 y0 x1 y1 m : Int) (m1 : 0 ≤ m) (m2 : m ≤ 255) (w : World) : Calls Try.prog 10 #[.agg #[.int .i64 a, .int .i64 b, .int .i64 x, .int .i64 y, .int .i64 d, .int .i64 lo, .int .i64 hi], .agg #[.int .i64 x0, .int .i64 y0, .int .i64 x1, .int .i64 y1], .int .u8 m] w fun e w' => e = .returned (.bool true) ∧ Below w.heap.size w w' := by
  by_cases h : swE x0 y0 x1 y1 x y d lo hi = 0
  · exact LContains_yes a b x y d lo hi x0 y0 x1 y1 m m1 m2 h w
  · exact LContains_no a b x y d lo hi x0 y0 x1 y1 m h w
end Go.Proofs.Ytkhcogfajihecaa
