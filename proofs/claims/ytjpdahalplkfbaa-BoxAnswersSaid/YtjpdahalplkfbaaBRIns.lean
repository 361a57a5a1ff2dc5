/- The reference's Inside. -/
import Derived.Test.YtjpdahalplkfbaaB4
import Derived.Test.YtjpdahalplkfbaaBMath
set_option linter.unusedVariables false
set_option linter.unusedSimpArgs false
namespace Go.Proofs.Ytjpdahalplkfbaa
open Go Go.RowKit Hd

set_option maxRecDepth 100000 in
set_option maxHeartbeats 4000000 in
theorem RIns0_w0 (x0 y0 x1 y1 f c u0 v0 u1 v1 g d : Int)   (dd0 : OkB x0 y0 x1 y1 f c) (dd1 : OkB u0 v0 u1 v1 g d) (dd2 : x0 < u0) (w : World) :
    Calls Try.prog 25 #[.agg #[.int .i64 x0, .int .i64 y0, .int .i64 x1, .int .i64 y1, .int .i64 f, .int .i64 c], .agg #[.int .i64 u0, .int .i64 v0, .int .i64 u1, .int .i64 v1, .int .i64 g, .int .i64 d]] w fun e w' => e = .returned (.bool false) ∧ Below w.heap.size w w' := by
  have H0 := Lib.hid (fun w => BBox_yes dd0 w)
  have H1 := Lib.hid (fun w => BBox_yes dd1 w)
  obtain ⟨HB, B_z0, B_z1⟩ := box2 w 23 #[.int .i64 x0, .int .i64 y0, .int .i64 x1, .int .i64 y1, .int .i64 f, .int .i64 c] 23 #[.int .i64 u0, .int .i64 v0, .int .i64 u1, .int .i64 v1, .int .i64 g, .int .i64 d]
  go_enter Try.func25, Try.ntmps25
  go_upto_region 1 with (fail)
  generalize (w.alloc (.cells #[.int .i64 x0, .int .i64 y0, .int .i64 x1, .int .i64 y1, .int .i64 f, .int .i64 c] 23)).alloc (.cells #[.int .i64 u0, .int .i64 v0, .int .i64 u1, .int .i64 v1, .int .i64 g, .int .i64 d] 23) = W0 at *
  obtain ⟨c0z0, c1z0, c2z0, c3z0, c4z0, c5z0⟩ := cells6 B_z0
  go_wp2_with fail
  refine (H0.out _).mono ?_
  clear c0z0 c1z0 c2z0 c3z0 c4z0 c5z0
  rintro e w1 ⟨rfl, bb⟩
  replace bb := nextw (w0 := W0) (by exact sm) bb
  replace B_z0 := mv B_z0 bb
  replace B_z1 := mv B_z1 bb
  replace HB := nx HB bb
  clear bb
  obtain ⟨c0z1, c1z1, c2z1, c3z1, c4z1, c5z1⟩ := cells6 B_z1
  go_wp2_with fail
  refine (H1.out _).mono ?_
  clear c0z1 c1z1 c2z1 c3z1 c4z1 c5z1
  rintro e w2 ⟨rfl, bb⟩
  replace bb := nextw (w0 := w1) (by exact sm) bb
  replace B_z0 := mv B_z0 bb
  replace B_z1 := mv B_z1 bb
  replace HB := nx HB bb
  clear bb
  obtain ⟨c0z0, c1z0, c2z0, c3z0, c4z0, c5z0⟩ := cells6 B_z0
  obtain ⟨c0z1, c1z1, c2z1, c3z1, c4z1, c5z1⟩ := cells6 B_z1
  go_wp2
  go_ret
  exact ⟨(by first | rfl | exact rbt (by omega) | exact rbf (by omega)), nextw HB.out (by exact sm)⟩

set_option maxRecDepth 100000 in
set_option maxHeartbeats 4000000 in
theorem RIns0_w1 (x0 y0 x1 y1 f c u0 v0 u1 v1 g d : Int)   (dd0 : ¬ (OkB x0 y0 x1 y1 f c)) (w : World) :
    Calls Try.prog 25 #[.agg #[.int .i64 x0, .int .i64 y0, .int .i64 x1, .int .i64 y1, .int .i64 f, .int .i64 c], .agg #[.int .i64 u0, .int .i64 v0, .int .i64 u1, .int .i64 v1, .int .i64 g, .int .i64 d]] w fun e w' => e = .returned (.bool false) ∧ Below w.heap.size w w' := by
  have H0 := Lib.hid (fun w => BBox_no dd0 w)
  obtain ⟨HB, B_z0, B_z1⟩ := box2 w 23 #[.int .i64 x0, .int .i64 y0, .int .i64 x1, .int .i64 y1, .int .i64 f, .int .i64 c] 23 #[.int .i64 u0, .int .i64 v0, .int .i64 u1, .int .i64 v1, .int .i64 g, .int .i64 d]
  go_enter Try.func25, Try.ntmps25
  go_upto_region 1 with (fail)
  generalize (w.alloc (.cells #[.int .i64 x0, .int .i64 y0, .int .i64 x1, .int .i64 y1, .int .i64 f, .int .i64 c] 23)).alloc (.cells #[.int .i64 u0, .int .i64 v0, .int .i64 u1, .int .i64 v1, .int .i64 g, .int .i64 d] 23) = W0 at *
  obtain ⟨c0z0, c1z0, c2z0, c3z0, c4z0, c5z0⟩ := cells6 B_z0
  go_wp2_with fail
  refine (H0.out _).mono ?_
  clear c0z0 c1z0 c2z0 c3z0 c4z0 c5z0
  rintro e w1 ⟨rfl, bb⟩
  replace bb := nextw (w0 := W0) (by exact sm) bb
  replace B_z0 := mv B_z0 bb
  replace B_z1 := mv B_z1 bb
  replace HB := nx HB bb
  clear bb
  go_wp2
  go_ret
  exact ⟨(by first | rfl | exact rbt (by omega) | exact rbf (by omega)), nextw HB.out (by exact sm)⟩

set_option maxRecDepth 100000 in
set_option maxHeartbeats 4000000 in
theorem RIns0_w2 (x0 y0 x1 y1 f c u0 v0 u1 v1 g d : Int)   (dd0 : OkB x0 y0 x1 y1 f c) (dd1 : ¬ (OkB u0 v0 u1 v1 g d)) (w : World) :
    Calls Try.prog 25 #[.agg #[.int .i64 x0, .int .i64 y0, .int .i64 x1, .int .i64 y1, .int .i64 f, .int .i64 c], .agg #[.int .i64 u0, .int .i64 v0, .int .i64 u1, .int .i64 v1, .int .i64 g, .int .i64 d]] w fun e w' => e = .returned (.bool false) ∧ Below w.heap.size w w' := by
  have H0 := Lib.hid (fun w => BBox_yes dd0 w)
  have H1 := Lib.hid (fun w => BBox_no dd1 w)
  obtain ⟨HB, B_z0, B_z1⟩ := box2 w 23 #[.int .i64 x0, .int .i64 y0, .int .i64 x1, .int .i64 y1, .int .i64 f, .int .i64 c] 23 #[.int .i64 u0, .int .i64 v0, .int .i64 u1, .int .i64 v1, .int .i64 g, .int .i64 d]
  go_enter Try.func25, Try.ntmps25
  go_upto_region 1 with (fail)
  generalize (w.alloc (.cells #[.int .i64 x0, .int .i64 y0, .int .i64 x1, .int .i64 y1, .int .i64 f, .int .i64 c] 23)).alloc (.cells #[.int .i64 u0, .int .i64 v0, .int .i64 u1, .int .i64 v1, .int .i64 g, .int .i64 d] 23) = W0 at *
  obtain ⟨c0z0, c1z0, c2z0, c3z0, c4z0, c5z0⟩ := cells6 B_z0
  go_wp2_with fail
  refine (H0.out _).mono ?_
  clear c0z0 c1z0 c2z0 c3z0 c4z0 c5z0
  rintro e w1 ⟨rfl, bb⟩
  replace bb := nextw (w0 := W0) (by exact sm) bb
  replace B_z0 := mv B_z0 bb
  replace B_z1 := mv B_z1 bb
  replace HB := nx HB bb
  clear bb
  obtain ⟨c0z1, c1z1, c2z1, c3z1, c4z1, c5z1⟩ := cells6 B_z1
  go_wp2_with fail
  refine (H1.out _).mono ?_
  clear c0z1 c1z1 c2z1 c3z1 c4z1 c5z1
  rintro e w2 ⟨rfl, bb⟩
  replace bb := nextw (w0 := w1) (by exact sm) bb
  replace B_z0 := mv B_z0 bb
  replace B_z1 := mv B_z1 bb
  replace HB := nx HB bb
  clear bb
  go_wp2
  go_ret
  exact ⟨(by first | rfl | exact rbt (by omega) | exact rbf (by omega)), nextw HB.out (by exact sm)⟩

set_option maxRecDepth 100000 in
set_option maxHeartbeats 4000000 in
theorem RIns0_w3 (x0 y0 x1 y1 f c u0 v0 u1 v1 g d : Int)   (dd0 : OkB x0 y0 x1 y1 f c) (dd1 : OkB u0 v0 u1 v1 g d) (dd2 : u0 ≤ x0) (dd3 : u1 < x1) (w : World) :
    Calls Try.prog 25 #[.agg #[.int .i64 x0, .int .i64 y0, .int .i64 x1, .int .i64 y1, .int .i64 f, .int .i64 c], .agg #[.int .i64 u0, .int .i64 v0, .int .i64 u1, .int .i64 v1, .int .i64 g, .int .i64 d]] w fun e w' => e = .returned (.bool false) ∧ Below w.heap.size w w' := by
  have H0 := Lib.hid (fun w => BBox_yes dd0 w)
  have H1 := Lib.hid (fun w => BBox_yes dd1 w)
  obtain ⟨HB, B_z0, B_z1⟩ := box2 w 23 #[.int .i64 x0, .int .i64 y0, .int .i64 x1, .int .i64 y1, .int .i64 f, .int .i64 c] 23 #[.int .i64 u0, .int .i64 v0, .int .i64 u1, .int .i64 v1, .int .i64 g, .int .i64 d]
  go_enter Try.func25, Try.ntmps25
  go_upto_region 1 with (fail)
  generalize (w.alloc (.cells #[.int .i64 x0, .int .i64 y0, .int .i64 x1, .int .i64 y1, .int .i64 f, .int .i64 c] 23)).alloc (.cells #[.int .i64 u0, .int .i64 v0, .int .i64 u1, .int .i64 v1, .int .i64 g, .int .i64 d] 23) = W0 at *
  obtain ⟨c0z0, c1z0, c2z0, c3z0, c4z0, c5z0⟩ := cells6 B_z0
  go_wp2_with fail
  refine (H0.out _).mono ?_
  clear c0z0 c1z0 c2z0 c3z0 c4z0 c5z0
  rintro e w1 ⟨rfl, bb⟩
  replace bb := nextw (w0 := W0) (by exact sm) bb
  replace B_z0 := mv B_z0 bb
  replace B_z1 := mv B_z1 bb
  replace HB := nx HB bb
  clear bb
  obtain ⟨c0z1, c1z1, c2z1, c3z1, c4z1, c5z1⟩ := cells6 B_z1
  go_wp2_with fail
  refine (H1.out _).mono ?_
  clear c0z1 c1z1 c2z1 c3z1 c4z1 c5z1
  rintro e w2 ⟨rfl, bb⟩
  replace bb := nextw (w0 := w1) (by exact sm) bb
  replace B_z0 := mv B_z0 bb
  replace B_z1 := mv B_z1 bb
  replace HB := nx HB bb
  clear bb
  obtain ⟨c0z0, c1z0, c2z0, c3z0, c4z0, c5z0⟩ := cells6 B_z0
  obtain ⟨c0z1, c1z1, c2z1, c3z1, c4z1, c5z1⟩ := cells6 B_z1
  go_wp2
  go_ret
  exact ⟨(by first | rfl | exact rbt (by omega) | exact rbf (by omega)), nextw HB.out (by exact sm)⟩

set_option maxRecDepth 100000 in
set_option maxHeartbeats 4000000 in
theorem RIns0_w4 (x0 y0 x1 y1 f c u0 v0 u1 v1 g d : Int)   (dd0 : OkB x0 y0 x1 y1 f c) (dd1 : OkB u0 v0 u1 v1 g d) (dd2 : u0 ≤ x0) (dd3 : x1 ≤ u1) (dd4 : y0 < v0) (w : World) :
    Calls Try.prog 25 #[.agg #[.int .i64 x0, .int .i64 y0, .int .i64 x1, .int .i64 y1, .int .i64 f, .int .i64 c], .agg #[.int .i64 u0, .int .i64 v0, .int .i64 u1, .int .i64 v1, .int .i64 g, .int .i64 d]] w fun e w' => e = .returned (.bool false) ∧ Below w.heap.size w w' := by
  have H0 := Lib.hid (fun w => BBox_yes dd0 w)
  have H1 := Lib.hid (fun w => BBox_yes dd1 w)
  obtain ⟨HB, B_z0, B_z1⟩ := box2 w 23 #[.int .i64 x0, .int .i64 y0, .int .i64 x1, .int .i64 y1, .int .i64 f, .int .i64 c] 23 #[.int .i64 u0, .int .i64 v0, .int .i64 u1, .int .i64 v1, .int .i64 g, .int .i64 d]
  go_enter Try.func25, Try.ntmps25
  go_upto_region 1 with (fail)
  generalize (w.alloc (.cells #[.int .i64 x0, .int .i64 y0, .int .i64 x1, .int .i64 y1, .int .i64 f, .int .i64 c] 23)).alloc (.cells #[.int .i64 u0, .int .i64 v0, .int .i64 u1, .int .i64 v1, .int .i64 g, .int .i64 d] 23) = W0 at *
  obtain ⟨c0z0, c1z0, c2z0, c3z0, c4z0, c5z0⟩ := cells6 B_z0
  go_wp2_with fail
  refine (H0.out _).mono ?_
  clear c0z0 c1z0 c2z0 c3z0 c4z0 c5z0
  rintro e w1 ⟨rfl, bb⟩
  replace bb := nextw (w0 := W0) (by exact sm) bb
  replace B_z0 := mv B_z0 bb
  replace B_z1 := mv B_z1 bb
  replace HB := nx HB bb
  clear bb
  obtain ⟨c0z1, c1z1, c2z1, c3z1, c4z1, c5z1⟩ := cells6 B_z1
  go_wp2_with fail
  refine (H1.out _).mono ?_
  clear c0z1 c1z1 c2z1 c3z1 c4z1 c5z1
  rintro e w2 ⟨rfl, bb⟩
  replace bb := nextw (w0 := w1) (by exact sm) bb
  replace B_z0 := mv B_z0 bb
  replace B_z1 := mv B_z1 bb
  replace HB := nx HB bb
  clear bb
  obtain ⟨c0z0, c1z0, c2z0, c3z0, c4z0, c5z0⟩ := cells6 B_z0
  obtain ⟨c0z1, c1z1, c2z1, c3z1, c4z1, c5z1⟩ := cells6 B_z1
  go_wp2
  go_ret
  exact ⟨(by first | rfl | exact rbt (by omega) | exact rbf (by omega)), nextw HB.out (by exact sm)⟩

set_option maxRecDepth 100000 in
set_option maxHeartbeats 4000000 in
theorem RIns0_w5 (x0 y0 x1 y1 f c u0 v0 u1 v1 g d : Int)   (dd0 : OkB x0 y0 x1 y1 f c) (dd1 : OkB u0 v0 u1 v1 g d) (dd2 : u0 ≤ x0) (dd3 : x1 ≤ u1) (dd4 : v0 ≤ y0) (dd5 : v1 < y1) (w : World) :
    Calls Try.prog 25 #[.agg #[.int .i64 x0, .int .i64 y0, .int .i64 x1, .int .i64 y1, .int .i64 f, .int .i64 c], .agg #[.int .i64 u0, .int .i64 v0, .int .i64 u1, .int .i64 v1, .int .i64 g, .int .i64 d]] w fun e w' => e = .returned (.bool false) ∧ Below w.heap.size w w' := by
  have H0 := Lib.hid (fun w => BBox_yes dd0 w)
  have H1 := Lib.hid (fun w => BBox_yes dd1 w)
  obtain ⟨HB, B_z0, B_z1⟩ := box2 w 23 #[.int .i64 x0, .int .i64 y0, .int .i64 x1, .int .i64 y1, .int .i64 f, .int .i64 c] 23 #[.int .i64 u0, .int .i64 v0, .int .i64 u1, .int .i64 v1, .int .i64 g, .int .i64 d]
  go_enter Try.func25, Try.ntmps25
  go_upto_region 1 with (fail)
  generalize (w.alloc (.cells #[.int .i64 x0, .int .i64 y0, .int .i64 x1, .int .i64 y1, .int .i64 f, .int .i64 c] 23)).alloc (.cells #[.int .i64 u0, .int .i64 v0, .int .i64 u1, .int .i64 v1, .int .i64 g, .int .i64 d] 23) = W0 at *
  obtain ⟨c0z0, c1z0, c2z0, c3z0, c4z0, c5z0⟩ := cells6 B_z0
  go_wp2_with fail
  refine (H0.out _).mono ?_
  clear c0z0 c1z0 c2z0 c3z0 c4z0 c5z0
  rintro e w1 ⟨rfl, bb⟩
  replace bb := nextw (w0 := W0) (by exact sm) bb
  replace B_z0 := mv B_z0 bb
  replace B_z1 := mv B_z1 bb
  replace HB := nx HB bb
  clear bb
  obtain ⟨c0z1, c1z1, c2z1, c3z1, c4z1, c5z1⟩ := cells6 B_z1
  go_wp2_with fail
  refine (H1.out _).mono ?_
  clear c0z1 c1z1 c2z1 c3z1 c4z1 c5z1
  rintro e w2 ⟨rfl, bb⟩
  replace bb := nextw (w0 := w1) (by exact sm) bb
  replace B_z0 := mv B_z0 bb
  replace B_z1 := mv B_z1 bb
  replace HB := nx HB bb
  clear bb
  obtain ⟨c0z0, c1z0, c2z0, c3z0, c4z0, c5z0⟩ := cells6 B_z0
  obtain ⟨c0z1, c1z1, c2z1, c3z1, c4z1, c5z1⟩ := cells6 B_z1
  go_wp2
  go_ret
  exact ⟨(by first | rfl | exact rbt (by omega) | exact rbf (by omega)), nextw HB.out (by exact sm)⟩

instance (f c g d : Int) : Decidable (arcIn f c g d) := inferInstanceAs (Decidable (_ ∨ _))
theorem all_in {f c g d : Int} (ha : OkA f c) (hb : OkA g d) : (∀ i : Nat, (i : Int) < c → (f + i - g) % 256 < d) ↔ arcIn f c g d := by
  have a0 := ha.f0; have a1 := ha.f1; have a2 := ha.c0; have a3 := ha.c1; have a4 := ha.full
  have b0 := hb.f0; have b1 := hb.f1; have b2 := hb.c0; have b3 := hb.c1; have b4 := hb.full
  unfold arcIn
  constructor
  · intro h
    by_cases hd : d = 256
    · exact .inl hd
    · right
      have h0 := h 0 (by omega)
      have hl := h (c - 1).toNat (by omega)
      by_cases k : (f - g) % 256 + c ≤ 256
      · omega
      · have hx := h (256 - (f - g) % 256 - 1).toNat (by omega)
        omega
  · intro h i hi; omega
theorem ret_no {f c g d : Int} (ha : OkA f c) (hb : OkA g d) (k : Nat) (hk : (k : Int) < c) (h : d ≤ (f + k - g) % 256) : Ending.returned (.bool false) = .returned (.bool (decide (arcIn f c g d))) := by
  rw [decide_eq_false fun j => by have := (all_in ha hb).2 j k hk; omega]
theorem ret_yes {f c g d : Int} (ha : OkA f c) (hb : OkA g d) (h : ∀ i : Nat, (i : Int) < c → (f + i - g) % 256 < d) : Ending.returned (.bool true) = .returned (.bool (decide (arcIn f c g d))) := by
  rw [decide_eq_true ((all_in ha hb).1 h)]

set_option maxRecDepth 100000 in
set_option maxHeartbeats 4000000 in
theorem RIns_in (x0 y0 x1 y1 f c u0 v0 u1 v1 g d : Int) (h : OkB x0 y0 x1 y1 f c ∧ OkB u0 v0 u1 v1 g d) (h0 : u0 ≤ x0) (h1 : x1 ≤ u1) (h2 : v0 ≤ y0) (h3 : y1 ≤ v1) (w : World) :
    Calls Try.prog 25 #[.agg #[.int .i64 x0, .int .i64 y0, .int .i64 x1, .int .i64 y1, .int .i64 f, .int .i64 c], .agg #[.int .i64 u0, .int .i64 v0, .int .i64 u1, .int .i64 v1, .int .i64 g, .int .i64 d]] w fun e w' => e = .returned (.bool (decide (arcIn f c g d))) ∧ Below w.heap.size w w' := by
  have H0 := Lib.hid (fun w => BBox_yes h.1 w)
  have H1 := Lib.hid (fun w => BBox_yes h.2 w)
  have ab := h.1.b
  have bb' := h.2.b
  obtain ⟨HB, B_z0, B_z1⟩ := box2 w 23 #[.int .i64 x0, .int .i64 y0, .int .i64 x1, .int .i64 y1, .int .i64 f, .int .i64 c] 23 #[.int .i64 u0, .int .i64 v0, .int .i64 u1, .int .i64 v1, .int .i64 g, .int .i64 d]
  go_enter Try.func25, Try.ntmps25
  go_upto_region 1 with (fail)
  generalize (w.alloc (.cells #[.int .i64 x0, .int .i64 y0, .int .i64 x1, .int .i64 y1, .int .i64 f, .int .i64 c] 23)).alloc (.cells #[.int .i64 u0, .int .i64 v0, .int .i64 u1, .int .i64 v1, .int .i64 g, .int .i64 d] 23) = W0 at *
  obtain ⟨c0z0, c1z0, c2z0, c3z0, c4z0, c5z0⟩ := cells6 B_z0
  go_wp2_with fail
  refine (H0.out _).mono ?_
  clear c0z0 c1z0 c2z0 c3z0 c4z0 c5z0
  rintro e w1 ⟨rfl, bb⟩
  replace bb := nextw (w0 := W0) (by exact sm) bb
  replace B_z0 := mv B_z0 bb
  replace B_z1 := mv B_z1 bb
  replace HB := nx HB bb
  clear bb
  obtain ⟨c0z1, c1z1, c2z1, c3z1, c4z1, c5z1⟩ := cells6 B_z1
  go_wp2_with fail
  refine (H1.out _).mono ?_
  clear c0z1 c1z1 c2z1 c3z1 c4z1 c5z1
  rintro e w2 ⟨rfl, bb⟩
  replace bb := nextw (w0 := w1) (by exact sm) bb
  replace B_z0 := mv B_z0 bb
  replace B_z1 := mv B_z1 bb
  replace HB := nx HB bb
  clear bb
  clear H0 H1
  obtain ⟨c0z0, c1z0, c2z0, c3z0, c4z0, c5z0⟩ := cells6 B_z0
  obtain ⟨c0z1, c1z1, c2z1, c3z1, c4z1, c5z1⟩ := cells6 B_z1
  go_wp2_with fail
  clear c0z0 c1z0 c2z0 c3z0 c4z0 c5z0 c0z1 c1z1 c2z1 c3z1 c4z1 c5z1
  go_loopw [5] (fun ii wr => ∃ k : Nat, (k : Int) ≤ c ∧ ii = .int .i64 k ∧ Hid (∀ i : Nat, i < k → (f + i - g) % 256 < d) ∧ Hid (Bx wr (w.heap.size) 23 #[.int .i64 x0, .int .i64 y0, .int .i64 x1, .int .i64 y1, .int .i64 f, .int .i64 c]) ∧ Hid (Bx wr (w.heap.size + 1) 23 #[.int .i64 u0, .int .i64 v0, .int .i64 u1, .int .i64 v1, .int .i64 g, .int .i64 d]) ∧ Hid (Below w.heap.size w wr)) (fun ii _ => (c - intOf ii).toNat)
  case atStart => exact ⟨0, by omega, rfl, fun i hi => absurd hi (by omega), B_z0, B_z1, HB⟩
  case round =>
    clear B_z0 B_z1 HB
    obtain ⟨k, hk, rfl, HL, B_z0, B_z1, HB⟩ := hrel
    have HC := cells6 B_z0
    have c5 := HC.2.2.2.2.2
    clear HC
    by_cases hlt : (k : Int) < c
    · have HM := Lib.hid (fun w => Mod_b (f + k - g) w)
      have wq0 : IntKind.i64.wrap (f + k) = f + k := by rw [IntKind.wrap_i64]; omega
      have wq1 : IntKind.i64.wrap (f + k - g) = f + k - g := by rw [IntKind.wrap_i64]; omega
      by_cases hm : (f + k - g) % 256 < d
      · skip
        go_upto_region 6 with (fail)
        clear c5
        obtain ⟨c0z0, c1z0, c2z0, c3z0, c4z0, c5z0⟩ := cells6 B_z0
        obtain ⟨c0z1, c1z1, c2z1, c3z1, c4z1, c5z1⟩ := cells6 B_z1
        have tk1x0 : True := trivial
        go_region_held3 (fun w' => w'.cell? ⟨w.heap.size, 0, none⟩ = some (.int .i64 x0) ∧ w'.cell? ⟨w.heap.size, 1, none⟩ = some (.int .i64 y0) ∧ w'.cell? ⟨w.heap.size, 2, none⟩ = some (.int .i64 x1) ∧ w'.cell? ⟨w.heap.size, 3, none⟩ = some (.int .i64 y1) ∧ w'.cell? ⟨w.heap.size, 4, none⟩ = some (.int .i64 f) ∧ w'.cell? ⟨w.heap.size, 5, none⟩ = some (.int .i64 c) ∧ w'.cell? ⟨w.heap.size + 1, 0, none⟩ = some (.int .i64 u0) ∧ w'.cell? ⟨w.heap.size + 1, 1, none⟩ = some (.int .i64 v0) ∧ w'.cell? ⟨w.heap.size + 1, 2, none⟩ = some (.int .i64 u1) ∧ w'.cell? ⟨w.heap.size + 1, 3, none⟩ = some (.int .i64 v1) ∧ w'.cell? ⟨w.heap.size + 1, 4, none⟩ = some (.int .i64 g) ∧ w'.cell? ⟨w.heap.size + 1, 5, none⟩ = some (.int .i64 d)) (((try dsimp only); (repeat' apply And.intro) <;> (first | (with_reducible assumption) | ((repeat (first | (with_reducible refine Eq.trans (cell_drew1 _ _) ?_) | (with_reducible refine Eq.trans (cell_far (by omega) _ _ _) ?_) | (with_reducible refine Eq.trans (World.cell?_alloc_lt _ _ _ (by first | (dsimp only; omega) | (simp only [World.size_alloc, World.size_setCell]; omega))) ?_))); with_reducible assumption) | assumption | go_keep)))
    (first
      | (clear tk1x0; go_at_call 39; refine (HM.out _).mono ?_; rintro e w3 ⟨rfl, bb⟩; replace bb := nextw (w0 := wr) (by exact sm) bb; replace B_z0 := mv B_z0 bb; replace B_z1 := mv B_z1 bb; replace HB := nx HB bb; clear bb c0z0 c1z0 c2z0 c3z0 c4z0 c5z0 c0z1 c1z1 c2z1 c3z1 c4z1 c5z1; have c0z0 : w3.cell? ⟨w.heap.size, 0, none⟩ = some (.int .i64 x0) := B_z0.out.cell 0 rfl; have c1z0 : w3.cell? ⟨w.heap.size, 1, none⟩ = some (.int .i64 y0) := B_z0.out.cell 1 rfl; have c2z0 : w3.cell? ⟨w.heap.size, 2, none⟩ = some (.int .i64 x1) := B_z0.out.cell 2 rfl; have c3z0 : w3.cell? ⟨w.heap.size, 3, none⟩ = some (.int .i64 y1) := B_z0.out.cell 3 rfl; have c4z0 : w3.cell? ⟨w.heap.size, 4, none⟩ = some (.int .i64 f) := B_z0.out.cell 4 rfl; have c5z0 : w3.cell? ⟨w.heap.size, 5, none⟩ = some (.int .i64 c) := B_z0.out.cell 5 rfl; have c0z1 : w3.cell? ⟨w.heap.size + 1, 0, none⟩ = some (.int .i64 u0) := B_z1.out.cell 0 rfl; have c1z1 : w3.cell? ⟨w.heap.size + 1, 1, none⟩ = some (.int .i64 v0) := B_z1.out.cell 1 rfl; have c2z1 : w3.cell? ⟨w.heap.size + 1, 2, none⟩ = some (.int .i64 u1) := B_z1.out.cell 2 rfl; have c3z1 : w3.cell? ⟨w.heap.size + 1, 3, none⟩ = some (.int .i64 v1) := B_z1.out.cell 3 rfl; have c4z1 : w3.cell? ⟨w.heap.size + 1, 4, none⟩ = some (.int .i64 g) := B_z1.out.cell 4 rfl; have c5z1 : w3.cell? ⟨w.heap.size + 1, 5, none⟩ = some (.int .i64 d) := B_z1.out.cell 5 rfl; have tk1x1 : True := trivial))
        clear c0z0 c1z0 c2z0 c3z0 c4z0 c5z0 c0z1 c1z1 c2z1 c3z1 c4z1 c5z1
        clear wq0 wq1
        go_wp2_with fail
        go_roundw
        case rel => exact ⟨k + 1, by omega, by go_num, fun i hi => (Nat.lt_succ_iff_lt_or_eq.1 hi).elim (fun j => HL.out i j) (fun e => by rw [e]; exact hm), B_z0, B_z1, HB⟩
        case measure => simp only [intOf]; omega
      · skip
        go_upto_region 6 with (fail)
        clear c5
        obtain ⟨c0z0, c1z0, c2z0, c3z0, c4z0, c5z0⟩ := cells6 B_z0
        obtain ⟨c0z1, c1z1, c2z1, c3z1, c4z1, c5z1⟩ := cells6 B_z1
        have tk2x0 : True := trivial
        go_region_held3 (fun w' => w'.cell? ⟨w.heap.size, 0, none⟩ = some (.int .i64 x0) ∧ w'.cell? ⟨w.heap.size, 1, none⟩ = some (.int .i64 y0) ∧ w'.cell? ⟨w.heap.size, 2, none⟩ = some (.int .i64 x1) ∧ w'.cell? ⟨w.heap.size, 3, none⟩ = some (.int .i64 y1) ∧ w'.cell? ⟨w.heap.size, 4, none⟩ = some (.int .i64 f) ∧ w'.cell? ⟨w.heap.size, 5, none⟩ = some (.int .i64 c) ∧ w'.cell? ⟨w.heap.size + 1, 0, none⟩ = some (.int .i64 u0) ∧ w'.cell? ⟨w.heap.size + 1, 1, none⟩ = some (.int .i64 v0) ∧ w'.cell? ⟨w.heap.size + 1, 2, none⟩ = some (.int .i64 u1) ∧ w'.cell? ⟨w.heap.size + 1, 3, none⟩ = some (.int .i64 v1) ∧ w'.cell? ⟨w.heap.size + 1, 4, none⟩ = some (.int .i64 g) ∧ w'.cell? ⟨w.heap.size + 1, 5, none⟩ = some (.int .i64 d)) (((try dsimp only); (repeat' apply And.intro) <;> (first | (with_reducible assumption) | ((repeat (first | (with_reducible refine Eq.trans (cell_drew1 _ _) ?_) | (with_reducible refine Eq.trans (cell_far (by omega) _ _ _) ?_) | (with_reducible refine Eq.trans (World.cell?_alloc_lt _ _ _ (by first | (dsimp only; omega) | (simp only [World.size_alloc, World.size_setCell]; omega))) ?_))); with_reducible assumption) | assumption | go_keep)))
    (first
      | (clear tk2x0; go_at_call 39; refine (HM.out _).mono ?_; rintro e w4 ⟨rfl, bb⟩; replace bb := nextw (w0 := wr) (by exact sm) bb; replace B_z0 := mv B_z0 bb; replace B_z1 := mv B_z1 bb; replace HB := nx HB bb; clear bb c0z0 c1z0 c2z0 c3z0 c4z0 c5z0 c0z1 c1z1 c2z1 c3z1 c4z1 c5z1; have c0z0 : w4.cell? ⟨w.heap.size, 0, none⟩ = some (.int .i64 x0) := B_z0.out.cell 0 rfl; have c1z0 : w4.cell? ⟨w.heap.size, 1, none⟩ = some (.int .i64 y0) := B_z0.out.cell 1 rfl; have c2z0 : w4.cell? ⟨w.heap.size, 2, none⟩ = some (.int .i64 x1) := B_z0.out.cell 2 rfl; have c3z0 : w4.cell? ⟨w.heap.size, 3, none⟩ = some (.int .i64 y1) := B_z0.out.cell 3 rfl; have c4z0 : w4.cell? ⟨w.heap.size, 4, none⟩ = some (.int .i64 f) := B_z0.out.cell 4 rfl; have c5z0 : w4.cell? ⟨w.heap.size, 5, none⟩ = some (.int .i64 c) := B_z0.out.cell 5 rfl; have c0z1 : w4.cell? ⟨w.heap.size + 1, 0, none⟩ = some (.int .i64 u0) := B_z1.out.cell 0 rfl; have c1z1 : w4.cell? ⟨w.heap.size + 1, 1, none⟩ = some (.int .i64 v0) := B_z1.out.cell 1 rfl; have c2z1 : w4.cell? ⟨w.heap.size + 1, 2, none⟩ = some (.int .i64 u1) := B_z1.out.cell 2 rfl; have c3z1 : w4.cell? ⟨w.heap.size + 1, 3, none⟩ = some (.int .i64 v1) := B_z1.out.cell 3 rfl; have c4z1 : w4.cell? ⟨w.heap.size + 1, 4, none⟩ = some (.int .i64 g) := B_z1.out.cell 4 rfl; have c5z1 : w4.cell? ⟨w.heap.size + 1, 5, none⟩ = some (.int .i64 d) := B_z1.out.cell 5 rfl; have tk2x1 : True := trivial))
        clear c0z0 c1z0 c2z0 c3z0 c4z0 c5z0 c0z1 c1z1 c2z1 c3z1 c4z1 c5z1
        clear wq0 wq1
        go_wp2
        go_ret
        exact ⟨ret_no h.1.a h.2.a k hlt (by omega), nextw HB.out (by exact sm)⟩
    · obtain ek : (k : Int) = c := by omega
      go_wp2
      go_ret
      exact ⟨ret_yes h.1.a h.2.a fun i hi => HL.out i (by omega), nextw HB.out (by exact sm)⟩

theorem RIns_eq {x0 y0 x1 y1 f c u0 v0 u1 v1 g d : Int} {t : Bool} (k : decide (InsP x0 y0 x1 y1 f c u0 v0 u1 v1 g d) = t) (w : World) : Calls Try.prog 25 #[.agg #[.int .i64 x0, .int .i64 y0, .int .i64 x1, .int .i64 y1, .int .i64 f, .int .i64 c], .agg #[.int .i64 u0, .int .i64 v0, .int .i64 u1, .int .i64 v1, .int .i64 g, .int .i64 d]] w fun e w' => e = .returned (.bool t) ∧ Below w.heap.size w w' := by
  subst k
  by_cases a0 : OkB x0 y0 x1 y1 f c
  · by_cases a1 : OkB u0 v0 u1 v1 g d
    · have no : ¬ (u0 ≤ x0 ∧ x1 ≤ u1 ∧ v0 ≤ y0 ∧ y1 ≤ v1) → decide (InsP x0 y0 x1 y1 f c u0 v0 u1 v1 g d) = false := fun n => decide_eq_false fun i => n ((ins_iff ⟨a0, a1⟩).1 i.2).1
      by_cases h0 : x0 < u0
      · rw [no (by omega)]; exact RIns0_w0 x0 y0 x1 y1 f c u0 v0 u1 v1 g d a0 a1 h0 w
      · by_cases h1 : u1 < x1
        · rw [no (by omega)]; exact RIns0_w3 x0 y0 x1 y1 f c u0 v0 u1 v1 g d a0 a1 (by omega) h1 w
        · by_cases h2 : y0 < v0
          · rw [no (by omega)]; exact RIns0_w4 x0 y0 x1 y1 f c u0 v0 u1 v1 g d a0 a1 (by omega) (by omega) h2 w
          · by_cases h3 : v1 < y1
            · rw [no (by omega)]; exact RIns0_w5 x0 y0 x1 y1 f c u0 v0 u1 v1 g d a0 a1 (by omega) (by omega) (by omega) h3 w
            · have e := RIns_in x0 y0 x1 y1 f c u0 v0 u1 v1 g d ⟨a0, a1⟩ (by omega) (by omega) (by omega) (by omega) w
              rwa [show decide (arcIn f c g d) = decide (InsP x0 y0 x1 y1 f c u0 v0 u1 v1 g d) from decide_eq_decide.2 ⟨fun j => ⟨⟨a0, a1⟩, (ins_iff ⟨a0, a1⟩).2 ⟨by omega, j⟩⟩, fun i => ((ins_iff ⟨a0, a1⟩).1 i.2).2⟩] at e
    · rw [decide_eq_false fun i => a1 i.1.2]; exact RIns0_w2 x0 y0 x1 y1 f c u0 v0 u1 v1 g d a0 a1 w
  · rw [decide_eq_false fun i => a0 i.1.1]; exact RIns0_w1 x0 y0 x1 y1 f c u0 v0 u1 v1 g d a0 w
end Go.Proofs.Ytjpdahalplkfbaa
