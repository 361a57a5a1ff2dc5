/- The law BoxHulls. -/
import Derived.Test.YtjpdahalplkfbaaBAwake
import Derived.Test.YtjpdahalplkfbaaBMath
set_option linter.unusedVariables false
set_option linter.unusedSimpArgs false
namespace Go.Proofs.Ytjpdahalplkfbaa
open Go Go.RowKit Hd

theorem BHull_sym {x0 y0 x1 y1 f c u0 v0 u1 v1 g d : Int} (h : OkB x0 y0 x1 y1 f c ∧ OkB u0 v0 u1 v1 g d) (w : World) : Calls Try.prog 13 #[.agg #[.int .i64 u0, .int .i64 v0, .int .i64 u1, .int .i64 v1, .int .i64 g, .int .i64 d], .agg #[.int .i64 x0, .int .i64 y0, .int .i64 x1, .int .i64 y1, .int .i64 f, .int .i64 c]] w fun e w' => e = .returned (.tuple #[.agg #[.int .i64 (min x0 u0), .int .i64 (min y0 v0), .int .i64 (max x1 u1), .int .i64 (max y1 v1), .int .i64 (hullF f c g d), .int .i64 (hullC f c g d)], .int .i64 0]) ∧ Below w.heap.size w w' := by
  have e := BHull_yes ⟨h.2, h.1⟩ w
  rwa [Int.min_comm u0 x0, Int.min_comm v0 y0, Int.max_comm u1 x1, Int.max_comm v1 y1, hull_comm.1, hull_comm.2] at e
theorem BHull_nosym {x0 y0 x1 y1 f c u0 v0 u1 v1 g d : Int} (h : ¬ (OkB x0 y0 x1 y1 f c ∧ OkB u0 v0 u1 v1 g d)) (w : World) : Calls Try.prog 13 #[.agg #[.int .i64 u0, .int .i64 v0, .int .i64 u1, .int .i64 v1, .int .i64 g, .int .i64 d], .agg #[.int .i64 x0, .int .i64 y0, .int .i64 x1, .int .i64 y1, .int .i64 f, .int .i64 c]] w fun e w' => e = .returned (.tuple #[.agg #[.int .i64 0, .int .i64 0, .int .i64 0, .int .i64 0, .int .i64 0, .int .i64 0], .int .i64 1]) ∧ Below w.heap.size w w' := BHull_no (fun k => h ⟨k.2, k.1⟩) w
theorem BHull_self {x0 y0 x1 y1 f c : Int} (h : OkB x0 y0 x1 y1 f c) (w : World) : Calls Try.prog 13 #[.agg #[.int .i64 x0, .int .i64 y0, .int .i64 x1, .int .i64 y1, .int .i64 f, .int .i64 c], .agg #[.int .i64 x0, .int .i64 y0, .int .i64 x1, .int .i64 y1, .int .i64 f, .int .i64 c]] w fun e w' => e = .returned (.tuple #[.agg #[.int .i64 x0, .int .i64 y0, .int .i64 x1, .int .i64 y1, .int .i64 f, .int .i64 c], .int .i64 0]) ∧ Below w.heap.size w w' := by
  have e := BHull_yes ⟨h, h⟩ w
  have i := (in_iff h.a h.a).2 (arcIn_refl f c)
  rwa [Int.min_self, Int.min_self, Int.max_self, Int.max_self, i.1, i.2] at e

set_option maxRecDepth 100000 in
set_option maxHeartbeats 4000000 in
theorem Hulls0_w0 (x0 y0 x1 y1 f c u0 v0 u1 v1 g d x y h : Int)   (dd0 : OkB x0 y0 x1 y1 f c ∧ OkB u0 v0 u1 v1 g d) (dd1 : HasP x0 y0 x1 y1 f c x y h) (w : World) :
    Calls Try.prog 8 #[.agg #[.int .i64 x0, .int .i64 y0, .int .i64 x1, .int .i64 y1, .int .i64 f, .int .i64 c], .agg #[.int .i64 u0, .int .i64 v0, .int .i64 u1, .int .i64 v1, .int .i64 g, .int .i64 d], .agg #[.int .i64 x, .int .i64 y, .int .i64 h]] w fun e w' => e = .returned (.bool true) ∧ Below w.heap.size w w' := by
  have H0 := Lib.hid (fun w => awake_true w)
  have H1 := Lib.hid (fun w => BHull_yes dd0 w)
  have H2 := Lib.hid (fun w => BHull_sym dd0 w)
  have H3 := Lib.hid (fun w => BHull_self dd0.1 w)
  have H4 := Lib.hid (fun w => BoxHas_yes dd1 w)
  have H5 := Lib.hid (fun w => Inside_yes (ins_hull1 dd0) w)
  have H6 := Lib.hid (fun w => Inside_yes (ins_hull2 dd0) w)
  have H7 := Lib.hid (fun w => BoxHas_yes (ins_has (ins_hull1 dd0) dd1) w)
  obtain ⟨HB, B_z0, B_z1, B_z2⟩ := box3 w 23 #[.int .i64 x0, .int .i64 y0, .int .i64 x1, .int .i64 y1, .int .i64 f, .int .i64 c] 23 #[.int .i64 u0, .int .i64 v0, .int .i64 u1, .int .i64 v1, .int .i64 g, .int .i64 d] 25 #[.int .i64 x, .int .i64 y, .int .i64 h]
  go_enter Try.func8, Try.ntmps8
  go_upto_region 1 with (fail)
  generalize ((w.alloc (.cells #[.int .i64 x0, .int .i64 y0, .int .i64 x1, .int .i64 y1, .int .i64 f, .int .i64 c] 23)).alloc (.cells #[.int .i64 u0, .int .i64 v0, .int .i64 u1, .int .i64 v1, .int .i64 g, .int .i64 d] 23)).alloc (.cells #[.int .i64 x, .int .i64 y, .int .i64 h] 25) = W0 at *
  go_wp2_with fail
  refine (H0.out _).mono ?_
  rintro e w1 ⟨rfl, bb⟩
  replace bb := nextw (w0 := W0) (by exact sm) bb
  replace B_z0 := mv B_z0 bb
  replace B_z1 := mv B_z1 bb
  replace B_z2 := mv B_z2 bb
  replace HB := nx HB bb
  clear bb
  obtain ⟨c0z0, c1z0, c2z0, c3z0, c4z0, c5z0⟩ := cells6 B_z0
  obtain ⟨c0z1, c1z1, c2z1, c3z1, c4z1, c5z1⟩ := cells6 B_z1
  go_wp2_with fail
  refine (H1.out _).mono ?_
  clear c0z0 c1z0 c2z0 c3z0 c4z0 c5z0 c0z1 c1z1 c2z1 c3z1 c4z1 c5z1
  rintro e w2 ⟨rfl, bb⟩
  replace bb := nextw (w0 := w1) (by exact sm) bb
  replace B_z0 := mv B_z0 bb
  replace B_z1 := mv B_z1 bb
  replace B_z2 := mv B_z2 bb
  replace HB := nx HB bb
  clear bb
  have lt_z3z0 := B_z0.out.lt
  have lt_z3z1 := B_z1.out.lt
  have lt_z3z2 := B_z2.out.lt
  obtain ⟨bb, B_z3⟩ := box1 w2 23 #[.int .i64 (min x0 u0), .int .i64 (min y0 v0), .int .i64 (max x1 u1), .int .i64 (max y1 v1), .int .i64 (hullF f c g d), .int .i64 (hullC f c g d)]
  replace bb := bb.out
  replace B_z0 := mv B_z0 bb
  replace B_z1 := mv B_z1 bb
  replace B_z2 := mv B_z2 bb
  replace HB := nx HB bb
  clear bb
  go_upto_region 4 with (fail)
  generalize w2.alloc (.cells #[.int .i64 (min x0 u0), .int .i64 (min y0 v0), .int .i64 (max x1 u1), .int .i64 (max y1 v1), .int .i64 (hullF f c g d), .int .i64 (hullC f c g d)] 23) = WN2 at *
  obtain ⟨c0z1, c1z1, c2z1, c3z1, c4z1, c5z1⟩ := cells6 B_z1
  obtain ⟨c0z0, c1z0, c2z0, c3z0, c4z0, c5z0⟩ := cells6 B_z0
  go_wp2_with fail
  refine (H2.out _).mono ?_
  clear c0z1 c1z1 c2z1 c3z1 c4z1 c5z1 c0z0 c1z0 c2z0 c3z0 c4z0 c5z0
  rintro e w3 ⟨rfl, bb⟩
  replace bb := nextw (w0 := WN2) (by exact sm) bb
  replace B_z0 := mv B_z0 bb
  replace B_z1 := mv B_z1 bb
  replace B_z2 := mv B_z2 bb
  replace B_z3 := mv B_z3 bb
  replace HB := nx HB bb
  clear bb
  have lt_z4z0 := B_z0.out.lt
  have lt_z4z1 := B_z1.out.lt
  have lt_z4z2 := B_z2.out.lt
  have lt_z4z3 := B_z3.out.lt
  obtain ⟨bb, B_z4⟩ := box1 w3 23 #[.int .i64 (min x0 u0), .int .i64 (min y0 v0), .int .i64 (max x1 u1), .int .i64 (max y1 v1), .int .i64 (hullF f c g d), .int .i64 (hullC f c g d)]
  replace bb := bb.out
  replace B_z0 := mv B_z0 bb
  replace B_z1 := mv B_z1 bb
  replace B_z2 := mv B_z2 bb
  replace B_z3 := mv B_z3 bb
  replace HB := nx HB bb
  clear bb
  go_upto_region 5 with (fail)
  generalize w3.alloc (.cells #[.int .i64 (min x0 u0), .int .i64 (min y0 v0), .int .i64 (max x1 u1), .int .i64 (max y1 v1), .int .i64 (hullF f c g d), .int .i64 (hullC f c g d)] 23) = WN3 at *
  obtain ⟨c0z3, c1z3, c2z3, c3z3, c4z3, c5z3⟩ := cells6 B_z3
  obtain ⟨c0z4, c1z4, c2z4, c3z4, c4z4, c5z4⟩ := cells6 B_z4
  obtain ⟨c0z0, c1z0, c2z0, c3z0, c4z0, c5z0⟩ := cells6 B_z0
  go_wp2_with fail
  refine (H3.out _).mono ?_
  clear c0z3 c1z3 c2z3 c3z3 c4z3 c5z3 c0z4 c1z4 c2z4 c3z4 c4z4 c5z4 c0z0 c1z0 c2z0 c3z0 c4z0 c5z0
  rintro e w4 ⟨rfl, bb⟩
  replace bb := nextw (w0 := WN3) (by exact sm) bb
  replace B_z0 := mv B_z0 bb
  replace B_z1 := mv B_z1 bb
  replace B_z2 := mv B_z2 bb
  replace B_z3 := mv B_z3 bb
  replace B_z4 := mv B_z4 bb
  replace HB := nx HB bb
  clear bb
  have lt_z5z0 := B_z0.out.lt
  have lt_z5z1 := B_z1.out.lt
  have lt_z5z2 := B_z2.out.lt
  have lt_z5z3 := B_z3.out.lt
  have lt_z5z4 := B_z4.out.lt
  obtain ⟨bb, B_z5⟩ := box1 w4 23 #[.int .i64 x0, .int .i64 y0, .int .i64 x1, .int .i64 y1, .int .i64 f, .int .i64 c]
  replace bb := bb.out
  replace B_z0 := mv B_z0 bb
  replace B_z1 := mv B_z1 bb
  replace B_z2 := mv B_z2 bb
  replace B_z3 := mv B_z3 bb
  replace B_z4 := mv B_z4 bb
  replace HB := nx HB bb
  clear bb
  go_upto_region 10 with (fail)
  generalize w4.alloc (.cells #[.int .i64 x0, .int .i64 y0, .int .i64 x1, .int .i64 y1, .int .i64 f, .int .i64 c] 23) = WN6 at *
  obtain ⟨c0z0, c1z0, c2z0, c3z0, c4z0, c5z0⟩ := cells6 B_z0
  obtain ⟨c0z2, c1z2, c2z2⟩ := cells3 B_z2
  go_wp2_with fail
  refine (H4.out _).mono ?_
  clear c0z0 c1z0 c2z0 c3z0 c4z0 c5z0 c0z2 c1z2 c2z2
  rintro e w5 ⟨rfl, bb⟩
  replace bb := nextw (w0 := WN6) (by exact sm) bb
  replace B_z0 := mv B_z0 bb
  replace B_z1 := mv B_z1 bb
  replace B_z2 := mv B_z2 bb
  replace B_z3 := mv B_z3 bb
  replace B_z4 := mv B_z4 bb
  replace B_z5 := mv B_z5 bb
  replace HB := nx HB bb
  clear bb
  obtain ⟨c0z0, c1z0, c2z0, c3z0, c4z0, c5z0⟩ := cells6 B_z0
  obtain ⟨c0z3, c1z3, c2z3, c3z3, c4z3, c5z3⟩ := cells6 B_z3
  go_wp2_with fail
  refine (H5.out _).mono ?_
  clear c0z0 c1z0 c2z0 c3z0 c4z0 c5z0 c0z3 c1z3 c2z3 c3z3 c4z3 c5z3
  rintro e w6 ⟨rfl, bb⟩
  replace bb := nextw (w0 := w5) (by exact sm) bb
  replace B_z0 := mv B_z0 bb
  replace B_z1 := mv B_z1 bb
  replace B_z2 := mv B_z2 bb
  replace B_z3 := mv B_z3 bb
  replace B_z4 := mv B_z4 bb
  replace B_z5 := mv B_z5 bb
  replace HB := nx HB bb
  clear bb
  obtain ⟨c0z1, c1z1, c2z1, c3z1, c4z1, c5z1⟩ := cells6 B_z1
  obtain ⟨c0z3, c1z3, c2z3, c3z3, c4z3, c5z3⟩ := cells6 B_z3
  go_wp2_with fail
  refine (H6.out _).mono ?_
  clear c0z1 c1z1 c2z1 c3z1 c4z1 c5z1 c0z3 c1z3 c2z3 c3z3 c4z3 c5z3
  rintro e w7 ⟨rfl, bb⟩
  replace bb := nextw (w0 := w6) (by exact sm) bb
  replace B_z0 := mv B_z0 bb
  replace B_z1 := mv B_z1 bb
  replace B_z2 := mv B_z2 bb
  replace B_z3 := mv B_z3 bb
  replace B_z4 := mv B_z4 bb
  replace B_z5 := mv B_z5 bb
  replace HB := nx HB bb
  clear bb
  obtain ⟨c0z3, c1z3, c2z3, c3z3, c4z3, c5z3⟩ := cells6 B_z3
  obtain ⟨c0z2, c1z2, c2z2⟩ := cells3 B_z2
  go_wp2_with fail
  refine (H7.out _).mono ?_
  clear c0z3 c1z3 c2z3 c3z3 c4z3 c5z3 c0z2 c1z2 c2z2
  rintro e w8 ⟨rfl, bb⟩
  replace bb := nextw (w0 := w7) (by exact sm) bb
  replace B_z0 := mv B_z0 bb
  replace B_z1 := mv B_z1 bb
  replace B_z2 := mv B_z2 bb
  replace B_z3 := mv B_z3 bb
  replace B_z4 := mv B_z4 bb
  replace B_z5 := mv B_z5 bb
  replace HB := nx HB bb
  clear bb
  obtain ⟨c0z5, c1z5, c2z5, c3z5, c4z5, c5z5⟩ := cells6 B_z5
  obtain ⟨c0z0, c1z0, c2z0, c3z0, c4z0, c5z0⟩ := cells6 B_z0
  go_wp2
  go_ret
  exact ⟨(by first | rfl | exact rbt (by omega) | exact rbf (by omega)), nextw HB.out (by exact sm)⟩

set_option maxRecDepth 100000 in
set_option maxHeartbeats 4000000 in
theorem Hulls0_w1 (x0 y0 x1 y1 f c u0 v0 u1 v1 g d x y h : Int)   (dd0 : ¬ (OkB x0 y0 x1 y1 f c ∧ OkB u0 v0 u1 v1 g d)) (dd1 : OkB x0 y0 x1 y1 f c) (dd2 : ¬ (OkB u0 v0 u1 v1 g d)) (w : World) :
    Calls Try.prog 8 #[.agg #[.int .i64 x0, .int .i64 y0, .int .i64 x1, .int .i64 y1, .int .i64 f, .int .i64 c], .agg #[.int .i64 u0, .int .i64 v0, .int .i64 u1, .int .i64 v1, .int .i64 g, .int .i64 d], .agg #[.int .i64 x, .int .i64 y, .int .i64 h]] w fun e w' => e = .returned (.bool true) ∧ Below w.heap.size w w' := by
  have H0 := Lib.hid (fun w => awake_true w)
  have H1 := Lib.hid (fun w => BHull_no dd0 w)
  have H2 := Lib.hid (fun w => BHull_nosym dd0 w)
  have H3 := Lib.hid (fun w => Valid_yes dd1 w)
  have H4 := Lib.hid (fun w => Valid_no dd2 w)
  obtain ⟨HB, B_z0, B_z1, B_z2⟩ := box3 w 23 #[.int .i64 x0, .int .i64 y0, .int .i64 x1, .int .i64 y1, .int .i64 f, .int .i64 c] 23 #[.int .i64 u0, .int .i64 v0, .int .i64 u1, .int .i64 v1, .int .i64 g, .int .i64 d] 25 #[.int .i64 x, .int .i64 y, .int .i64 h]
  go_enter Try.func8, Try.ntmps8
  go_upto_region 1 with (fail)
  generalize ((w.alloc (.cells #[.int .i64 x0, .int .i64 y0, .int .i64 x1, .int .i64 y1, .int .i64 f, .int .i64 c] 23)).alloc (.cells #[.int .i64 u0, .int .i64 v0, .int .i64 u1, .int .i64 v1, .int .i64 g, .int .i64 d] 23)).alloc (.cells #[.int .i64 x, .int .i64 y, .int .i64 h] 25) = W0 at *
  go_wp2_with fail
  refine (H0.out _).mono ?_
  rintro e w1 ⟨rfl, bb⟩
  replace bb := nextw (w0 := W0) (by exact sm) bb
  replace B_z0 := mv B_z0 bb
  replace B_z1 := mv B_z1 bb
  replace B_z2 := mv B_z2 bb
  replace HB := nx HB bb
  clear bb
  obtain ⟨c0z0, c1z0, c2z0, c3z0, c4z0, c5z0⟩ := cells6 B_z0
  obtain ⟨c0z1, c1z1, c2z1, c3z1, c4z1, c5z1⟩ := cells6 B_z1
  go_wp2_with fail
  refine (H1.out _).mono ?_
  clear c0z0 c1z0 c2z0 c3z0 c4z0 c5z0 c0z1 c1z1 c2z1 c3z1 c4z1 c5z1
  rintro e w2 ⟨rfl, bb⟩
  replace bb := nextw (w0 := w1) (by exact sm) bb
  replace B_z0 := mv B_z0 bb
  replace B_z1 := mv B_z1 bb
  replace B_z2 := mv B_z2 bb
  replace HB := nx HB bb
  clear bb
  have lt_z3z0 := B_z0.out.lt
  have lt_z3z1 := B_z1.out.lt
  have lt_z3z2 := B_z2.out.lt
  obtain ⟨bb, B_z3⟩ := box1 w2 23 #[.int .i64 0, .int .i64 0, .int .i64 0, .int .i64 0, .int .i64 0, .int .i64 0]
  replace bb := bb.out
  replace B_z0 := mv B_z0 bb
  replace B_z1 := mv B_z1 bb
  replace B_z2 := mv B_z2 bb
  replace HB := nx HB bb
  clear bb
  go_upto_region 4 with (fail)
  generalize w2.alloc (.cells #[.int .i64 0, .int .i64 0, .int .i64 0, .int .i64 0, .int .i64 0, .int .i64 0] 23) = WN2 at *
  obtain ⟨c0z1, c1z1, c2z1, c3z1, c4z1, c5z1⟩ := cells6 B_z1
  obtain ⟨c0z0, c1z0, c2z0, c3z0, c4z0, c5z0⟩ := cells6 B_z0
  go_wp2_with fail
  refine (H2.out _).mono ?_
  clear c0z1 c1z1 c2z1 c3z1 c4z1 c5z1 c0z0 c1z0 c2z0 c3z0 c4z0 c5z0
  rintro e w3 ⟨rfl, bb⟩
  replace bb := nextw (w0 := WN2) (by exact sm) bb
  replace B_z0 := mv B_z0 bb
  replace B_z1 := mv B_z1 bb
  replace B_z2 := mv B_z2 bb
  replace B_z3 := mv B_z3 bb
  replace HB := nx HB bb
  clear bb
  have lt_z4z0 := B_z0.out.lt
  have lt_z4z1 := B_z1.out.lt
  have lt_z4z2 := B_z2.out.lt
  have lt_z4z3 := B_z3.out.lt
  obtain ⟨bb, B_z4⟩ := box1 w3 23 #[.int .i64 0, .int .i64 0, .int .i64 0, .int .i64 0, .int .i64 0, .int .i64 0]
  replace bb := bb.out
  replace B_z0 := mv B_z0 bb
  replace B_z1 := mv B_z1 bb
  replace B_z2 := mv B_z2 bb
  replace B_z3 := mv B_z3 bb
  replace HB := nx HB bb
  clear bb
  go_upto_region 5 with (fail)
  generalize w3.alloc (.cells #[.int .i64 0, .int .i64 0, .int .i64 0, .int .i64 0, .int .i64 0, .int .i64 0] 23) = WN3 at *
  obtain ⟨c0z3, c1z3, c2z3, c3z3, c4z3, c5z3⟩ := cells6 B_z3
  obtain ⟨c0z4, c1z4, c2z4, c3z4, c4z4, c5z4⟩ := cells6 B_z4
  obtain ⟨c0z0, c1z0, c2z0, c3z0, c4z0, c5z0⟩ := cells6 B_z0
  go_wp2_with fail
  refine (H3.out _).mono ?_
  clear c0z3 c1z3 c2z3 c3z3 c4z3 c5z3 c0z4 c1z4 c2z4 c3z4 c4z4 c5z4 c0z0 c1z0 c2z0 c3z0 c4z0 c5z0
  rintro e w4 ⟨rfl, bb⟩
  replace bb := nextw (w0 := WN3) (by exact sm) bb
  replace B_z0 := mv B_z0 bb
  replace B_z1 := mv B_z1 bb
  replace B_z2 := mv B_z2 bb
  replace B_z3 := mv B_z3 bb
  replace B_z4 := mv B_z4 bb
  replace HB := nx HB bb
  clear bb
  obtain ⟨c0z1, c1z1, c2z1, c3z1, c4z1, c5z1⟩ := cells6 B_z1
  go_wp2_with fail
  refine (H4.out _).mono ?_
  clear c0z1 c1z1 c2z1 c3z1 c4z1 c5z1
  rintro e w5 ⟨rfl, bb⟩
  replace bb := nextw (w0 := w4) (by exact sm) bb
  replace B_z0 := mv B_z0 bb
  replace B_z1 := mv B_z1 bb
  replace B_z2 := mv B_z2 bb
  replace B_z3 := mv B_z3 bb
  replace B_z4 := mv B_z4 bb
  replace HB := nx HB bb
  clear bb
  go_wp2
  go_ret
  exact ⟨(by first | rfl | exact rbt (by omega) | exact rbf (by omega)), nextw HB.out (by exact sm)⟩

set_option maxRecDepth 100000 in
set_option maxHeartbeats 4000000 in
theorem Hulls0_w2 (x0 y0 x1 y1 f c u0 v0 u1 v1 g d x y h : Int)   (dd0 : ¬ (OkB x0 y0 x1 y1 f c ∧ OkB u0 v0 u1 v1 g d)) (dd1 : ¬ (OkB x0 y0 x1 y1 f c)) (w : World) :
    Calls Try.prog 8 #[.agg #[.int .i64 x0, .int .i64 y0, .int .i64 x1, .int .i64 y1, .int .i64 f, .int .i64 c], .agg #[.int .i64 u0, .int .i64 v0, .int .i64 u1, .int .i64 v1, .int .i64 g, .int .i64 d], .agg #[.int .i64 x, .int .i64 y, .int .i64 h]] w fun e w' => e = .returned (.bool true) ∧ Below w.heap.size w w' := by
  have H0 := Lib.hid (fun w => awake_true w)
  have H1 := Lib.hid (fun w => BHull_no dd0 w)
  have H2 := Lib.hid (fun w => BHull_nosym dd0 w)
  have H3 := Lib.hid (fun w => Valid_no dd1 w)
  obtain ⟨HB, B_z0, B_z1, B_z2⟩ := box3 w 23 #[.int .i64 x0, .int .i64 y0, .int .i64 x1, .int .i64 y1, .int .i64 f, .int .i64 c] 23 #[.int .i64 u0, .int .i64 v0, .int .i64 u1, .int .i64 v1, .int .i64 g, .int .i64 d] 25 #[.int .i64 x, .int .i64 y, .int .i64 h]
  go_enter Try.func8, Try.ntmps8
  go_upto_region 1 with (fail)
  generalize ((w.alloc (.cells #[.int .i64 x0, .int .i64 y0, .int .i64 x1, .int .i64 y1, .int .i64 f, .int .i64 c] 23)).alloc (.cells #[.int .i64 u0, .int .i64 v0, .int .i64 u1, .int .i64 v1, .int .i64 g, .int .i64 d] 23)).alloc (.cells #[.int .i64 x, .int .i64 y, .int .i64 h] 25) = W0 at *
  go_wp2_with fail
  refine (H0.out _).mono ?_
  rintro e w1 ⟨rfl, bb⟩
  replace bb := nextw (w0 := W0) (by exact sm) bb
  replace B_z0 := mv B_z0 bb
  replace B_z1 := mv B_z1 bb
  replace B_z2 := mv B_z2 bb
  replace HB := nx HB bb
  clear bb
  obtain ⟨c0z0, c1z0, c2z0, c3z0, c4z0, c5z0⟩ := cells6 B_z0
  obtain ⟨c0z1, c1z1, c2z1, c3z1, c4z1, c5z1⟩ := cells6 B_z1
  go_wp2_with fail
  refine (H1.out _).mono ?_
  clear c0z0 c1z0 c2z0 c3z0 c4z0 c5z0 c0z1 c1z1 c2z1 c3z1 c4z1 c5z1
  rintro e w2 ⟨rfl, bb⟩
  replace bb := nextw (w0 := w1) (by exact sm) bb
  replace B_z0 := mv B_z0 bb
  replace B_z1 := mv B_z1 bb
  replace B_z2 := mv B_z2 bb
  replace HB := nx HB bb
  clear bb
  have lt_z3z0 := B_z0.out.lt
  have lt_z3z1 := B_z1.out.lt
  have lt_z3z2 := B_z2.out.lt
  obtain ⟨bb, B_z3⟩ := box1 w2 23 #[.int .i64 0, .int .i64 0, .int .i64 0, .int .i64 0, .int .i64 0, .int .i64 0]
  replace bb := bb.out
  replace B_z0 := mv B_z0 bb
  replace B_z1 := mv B_z1 bb
  replace B_z2 := mv B_z2 bb
  replace HB := nx HB bb
  clear bb
  go_upto_region 4 with (fail)
  generalize w2.alloc (.cells #[.int .i64 0, .int .i64 0, .int .i64 0, .int .i64 0, .int .i64 0, .int .i64 0] 23) = WN2 at *
  obtain ⟨c0z1, c1z1, c2z1, c3z1, c4z1, c5z1⟩ := cells6 B_z1
  obtain ⟨c0z0, c1z0, c2z0, c3z0, c4z0, c5z0⟩ := cells6 B_z0
  go_wp2_with fail
  refine (H2.out _).mono ?_
  clear c0z1 c1z1 c2z1 c3z1 c4z1 c5z1 c0z0 c1z0 c2z0 c3z0 c4z0 c5z0
  rintro e w3 ⟨rfl, bb⟩
  replace bb := nextw (w0 := WN2) (by exact sm) bb
  replace B_z0 := mv B_z0 bb
  replace B_z1 := mv B_z1 bb
  replace B_z2 := mv B_z2 bb
  replace B_z3 := mv B_z3 bb
  replace HB := nx HB bb
  clear bb
  have lt_z4z0 := B_z0.out.lt
  have lt_z4z1 := B_z1.out.lt
  have lt_z4z2 := B_z2.out.lt
  have lt_z4z3 := B_z3.out.lt
  obtain ⟨bb, B_z4⟩ := box1 w3 23 #[.int .i64 0, .int .i64 0, .int .i64 0, .int .i64 0, .int .i64 0, .int .i64 0]
  replace bb := bb.out
  replace B_z0 := mv B_z0 bb
  replace B_z1 := mv B_z1 bb
  replace B_z2 := mv B_z2 bb
  replace B_z3 := mv B_z3 bb
  replace HB := nx HB bb
  clear bb
  go_upto_region 5 with (fail)
  generalize w3.alloc (.cells #[.int .i64 0, .int .i64 0, .int .i64 0, .int .i64 0, .int .i64 0, .int .i64 0] 23) = WN3 at *
  obtain ⟨c0z3, c1z3, c2z3, c3z3, c4z3, c5z3⟩ := cells6 B_z3
  obtain ⟨c0z4, c1z4, c2z4, c3z4, c4z4, c5z4⟩ := cells6 B_z4
  obtain ⟨c0z0, c1z0, c2z0, c3z0, c4z0, c5z0⟩ := cells6 B_z0
  go_wp2_with fail
  refine (H3.out _).mono ?_
  clear c0z3 c1z3 c2z3 c3z3 c4z3 c5z3 c0z4 c1z4 c2z4 c3z4 c4z4 c5z4 c0z0 c1z0 c2z0 c3z0 c4z0 c5z0
  rintro e w4 ⟨rfl, bb⟩
  replace bb := nextw (w0 := WN3) (by exact sm) bb
  replace B_z0 := mv B_z0 bb
  replace B_z1 := mv B_z1 bb
  replace B_z2 := mv B_z2 bb
  replace B_z3 := mv B_z3 bb
  replace B_z4 := mv B_z4 bb
  replace HB := nx HB bb
  clear bb
  go_wp2
  go_ret
  exact ⟨(by first | rfl | exact rbt (by omega) | exact rbf (by omega)), nextw HB.out (by exact sm)⟩

set_option maxRecDepth 100000 in
set_option maxHeartbeats 4000000 in
theorem Hulls0_w3 (x0 y0 x1 y1 f c u0 v0 u1 v1 g d x y h : Int)   (dd0 : OkB x0 y0 x1 y1 f c ∧ OkB u0 v0 u1 v1 g d) (dd1 : ¬ (HasP x0 y0 x1 y1 f c x y h)) (dd2 : HasP u0 v0 u1 v1 g d x y h) (w : World) :
    Calls Try.prog 8 #[.agg #[.int .i64 x0, .int .i64 y0, .int .i64 x1, .int .i64 y1, .int .i64 f, .int .i64 c], .agg #[.int .i64 u0, .int .i64 v0, .int .i64 u1, .int .i64 v1, .int .i64 g, .int .i64 d], .agg #[.int .i64 x, .int .i64 y, .int .i64 h]] w fun e w' => e = .returned (.bool true) ∧ Below w.heap.size w w' := by
  have H0 := Lib.hid (fun w => awake_true w)
  have H1 := Lib.hid (fun w => BHull_yes dd0 w)
  have H2 := Lib.hid (fun w => BHull_sym dd0 w)
  have H3 := Lib.hid (fun w => BHull_self dd0.1 w)
  have H4 := Lib.hid (fun w => BoxHas_no dd1 w)
  have H5 := Lib.hid (fun w => BoxHas_yes dd2 w)
  have H6 := Lib.hid (fun w => Inside_yes (ins_hull1 dd0) w)
  have H7 := Lib.hid (fun w => Inside_yes (ins_hull2 dd0) w)
  have H8 := Lib.hid (fun w => BoxHas_yes (ins_has (ins_hull2 dd0) dd2) w)
  obtain ⟨HB, B_z0, B_z1, B_z2⟩ := box3 w 23 #[.int .i64 x0, .int .i64 y0, .int .i64 x1, .int .i64 y1, .int .i64 f, .int .i64 c] 23 #[.int .i64 u0, .int .i64 v0, .int .i64 u1, .int .i64 v1, .int .i64 g, .int .i64 d] 25 #[.int .i64 x, .int .i64 y, .int .i64 h]
  go_enter Try.func8, Try.ntmps8
  go_upto_region 1 with (fail)
  generalize ((w.alloc (.cells #[.int .i64 x0, .int .i64 y0, .int .i64 x1, .int .i64 y1, .int .i64 f, .int .i64 c] 23)).alloc (.cells #[.int .i64 u0, .int .i64 v0, .int .i64 u1, .int .i64 v1, .int .i64 g, .int .i64 d] 23)).alloc (.cells #[.int .i64 x, .int .i64 y, .int .i64 h] 25) = W0 at *
  go_wp2_with fail
  refine (H0.out _).mono ?_
  rintro e w1 ⟨rfl, bb⟩
  replace bb := nextw (w0 := W0) (by exact sm) bb
  replace B_z0 := mv B_z0 bb
  replace B_z1 := mv B_z1 bb
  replace B_z2 := mv B_z2 bb
  replace HB := nx HB bb
  clear bb
  obtain ⟨c0z0, c1z0, c2z0, c3z0, c4z0, c5z0⟩ := cells6 B_z0
  obtain ⟨c0z1, c1z1, c2z1, c3z1, c4z1, c5z1⟩ := cells6 B_z1
  go_wp2_with fail
  refine (H1.out _).mono ?_
  clear c0z0 c1z0 c2z0 c3z0 c4z0 c5z0 c0z1 c1z1 c2z1 c3z1 c4z1 c5z1
  rintro e w2 ⟨rfl, bb⟩
  replace bb := nextw (w0 := w1) (by exact sm) bb
  replace B_z0 := mv B_z0 bb
  replace B_z1 := mv B_z1 bb
  replace B_z2 := mv B_z2 bb
  replace HB := nx HB bb
  clear bb
  have lt_z3z0 := B_z0.out.lt
  have lt_z3z1 := B_z1.out.lt
  have lt_z3z2 := B_z2.out.lt
  obtain ⟨bb, B_z3⟩ := box1 w2 23 #[.int .i64 (min x0 u0), .int .i64 (min y0 v0), .int .i64 (max x1 u1), .int .i64 (max y1 v1), .int .i64 (hullF f c g d), .int .i64 (hullC f c g d)]
  replace bb := bb.out
  replace B_z0 := mv B_z0 bb
  replace B_z1 := mv B_z1 bb
  replace B_z2 := mv B_z2 bb
  replace HB := nx HB bb
  clear bb
  go_upto_region 4 with (fail)
  generalize w2.alloc (.cells #[.int .i64 (min x0 u0), .int .i64 (min y0 v0), .int .i64 (max x1 u1), .int .i64 (max y1 v1), .int .i64 (hullF f c g d), .int .i64 (hullC f c g d)] 23) = WN2 at *
  obtain ⟨c0z1, c1z1, c2z1, c3z1, c4z1, c5z1⟩ := cells6 B_z1
  obtain ⟨c0z0, c1z0, c2z0, c3z0, c4z0, c5z0⟩ := cells6 B_z0
  go_wp2_with fail
  refine (H2.out _).mono ?_
  clear c0z1 c1z1 c2z1 c3z1 c4z1 c5z1 c0z0 c1z0 c2z0 c3z0 c4z0 c5z0
  rintro e w3 ⟨rfl, bb⟩
  replace bb := nextw (w0 := WN2) (by exact sm) bb
  replace B_z0 := mv B_z0 bb
  replace B_z1 := mv B_z1 bb
  replace B_z2 := mv B_z2 bb
  replace B_z3 := mv B_z3 bb
  replace HB := nx HB bb
  clear bb
  have lt_z4z0 := B_z0.out.lt
  have lt_z4z1 := B_z1.out.lt
  have lt_z4z2 := B_z2.out.lt
  have lt_z4z3 := B_z3.out.lt
  obtain ⟨bb, B_z4⟩ := box1 w3 23 #[.int .i64 (min x0 u0), .int .i64 (min y0 v0), .int .i64 (max x1 u1), .int .i64 (max y1 v1), .int .i64 (hullF f c g d), .int .i64 (hullC f c g d)]
  replace bb := bb.out
  replace B_z0 := mv B_z0 bb
  replace B_z1 := mv B_z1 bb
  replace B_z2 := mv B_z2 bb
  replace B_z3 := mv B_z3 bb
  replace HB := nx HB bb
  clear bb
  go_upto_region 5 with (fail)
  generalize w3.alloc (.cells #[.int .i64 (min x0 u0), .int .i64 (min y0 v0), .int .i64 (max x1 u1), .int .i64 (max y1 v1), .int .i64 (hullF f c g d), .int .i64 (hullC f c g d)] 23) = WN3 at *
  obtain ⟨c0z3, c1z3, c2z3, c3z3, c4z3, c5z3⟩ := cells6 B_z3
  obtain ⟨c0z4, c1z4, c2z4, c3z4, c4z4, c5z4⟩ := cells6 B_z4
  obtain ⟨c0z0, c1z0, c2z0, c3z0, c4z0, c5z0⟩ := cells6 B_z0
  go_wp2_with fail
  refine (H3.out _).mono ?_
  clear c0z3 c1z3 c2z3 c3z3 c4z3 c5z3 c0z4 c1z4 c2z4 c3z4 c4z4 c5z4 c0z0 c1z0 c2z0 c3z0 c4z0 c5z0
  rintro e w4 ⟨rfl, bb⟩
  replace bb := nextw (w0 := WN3) (by exact sm) bb
  replace B_z0 := mv B_z0 bb
  replace B_z1 := mv B_z1 bb
  replace B_z2 := mv B_z2 bb
  replace B_z3 := mv B_z3 bb
  replace B_z4 := mv B_z4 bb
  replace HB := nx HB bb
  clear bb
  have lt_z5z0 := B_z0.out.lt
  have lt_z5z1 := B_z1.out.lt
  have lt_z5z2 := B_z2.out.lt
  have lt_z5z3 := B_z3.out.lt
  have lt_z5z4 := B_z4.out.lt
  obtain ⟨bb, B_z5⟩ := box1 w4 23 #[.int .i64 x0, .int .i64 y0, .int .i64 x1, .int .i64 y1, .int .i64 f, .int .i64 c]
  replace bb := bb.out
  replace B_z0 := mv B_z0 bb
  replace B_z1 := mv B_z1 bb
  replace B_z2 := mv B_z2 bb
  replace B_z3 := mv B_z3 bb
  replace B_z4 := mv B_z4 bb
  replace HB := nx HB bb
  clear bb
  go_upto_region 10 with (fail)
  generalize w4.alloc (.cells #[.int .i64 x0, .int .i64 y0, .int .i64 x1, .int .i64 y1, .int .i64 f, .int .i64 c] 23) = WN6 at *
  obtain ⟨c0z0, c1z0, c2z0, c3z0, c4z0, c5z0⟩ := cells6 B_z0
  obtain ⟨c0z2, c1z2, c2z2⟩ := cells3 B_z2
  go_wp2_with fail
  refine (H4.out _).mono ?_
  clear c0z0 c1z0 c2z0 c3z0 c4z0 c5z0 c0z2 c1z2 c2z2
  rintro e w5 ⟨rfl, bb⟩
  replace bb := nextw (w0 := WN6) (by exact sm) bb
  replace B_z0 := mv B_z0 bb
  replace B_z1 := mv B_z1 bb
  replace B_z2 := mv B_z2 bb
  replace B_z3 := mv B_z3 bb
  replace B_z4 := mv B_z4 bb
  replace B_z5 := mv B_z5 bb
  replace HB := nx HB bb
  clear bb
  obtain ⟨c0z1, c1z1, c2z1, c3z1, c4z1, c5z1⟩ := cells6 B_z1
  obtain ⟨c0z2, c1z2, c2z2⟩ := cells3 B_z2
  go_wp2_with fail
  refine (H5.out _).mono ?_
  clear c0z1 c1z1 c2z1 c3z1 c4z1 c5z1 c0z2 c1z2 c2z2
  rintro e w6 ⟨rfl, bb⟩
  replace bb := nextw (w0 := w5) (by exact sm) bb
  replace B_z0 := mv B_z0 bb
  replace B_z1 := mv B_z1 bb
  replace B_z2 := mv B_z2 bb
  replace B_z3 := mv B_z3 bb
  replace B_z4 := mv B_z4 bb
  replace B_z5 := mv B_z5 bb
  replace HB := nx HB bb
  clear bb
  obtain ⟨c0z0, c1z0, c2z0, c3z0, c4z0, c5z0⟩ := cells6 B_z0
  obtain ⟨c0z3, c1z3, c2z3, c3z3, c4z3, c5z3⟩ := cells6 B_z3
  go_wp2_with fail
  refine (H6.out _).mono ?_
  clear c0z0 c1z0 c2z0 c3z0 c4z0 c5z0 c0z3 c1z3 c2z3 c3z3 c4z3 c5z3
  rintro e w7 ⟨rfl, bb⟩
  replace bb := nextw (w0 := w6) (by exact sm) bb
  replace B_z0 := mv B_z0 bb
  replace B_z1 := mv B_z1 bb
  replace B_z2 := mv B_z2 bb
  replace B_z3 := mv B_z3 bb
  replace B_z4 := mv B_z4 bb
  replace B_z5 := mv B_z5 bb
  replace HB := nx HB bb
  clear bb
  obtain ⟨c0z1, c1z1, c2z1, c3z1, c4z1, c5z1⟩ := cells6 B_z1
  obtain ⟨c0z3, c1z3, c2z3, c3z3, c4z3, c5z3⟩ := cells6 B_z3
  go_wp2_with fail
  refine (H7.out _).mono ?_
  clear c0z1 c1z1 c2z1 c3z1 c4z1 c5z1 c0z3 c1z3 c2z3 c3z3 c4z3 c5z3
  rintro e w8 ⟨rfl, bb⟩
  replace bb := nextw (w0 := w7) (by exact sm) bb
  replace B_z0 := mv B_z0 bb
  replace B_z1 := mv B_z1 bb
  replace B_z2 := mv B_z2 bb
  replace B_z3 := mv B_z3 bb
  replace B_z4 := mv B_z4 bb
  replace B_z5 := mv B_z5 bb
  replace HB := nx HB bb
  clear bb
  obtain ⟨c0z3, c1z3, c2z3, c3z3, c4z3, c5z3⟩ := cells6 B_z3
  obtain ⟨c0z2, c1z2, c2z2⟩ := cells3 B_z2
  go_wp2_with fail
  refine (H8.out _).mono ?_
  clear c0z3 c1z3 c2z3 c3z3 c4z3 c5z3 c0z2 c1z2 c2z2
  rintro e w9 ⟨rfl, bb⟩
  replace bb := nextw (w0 := w8) (by exact sm) bb
  replace B_z0 := mv B_z0 bb
  replace B_z1 := mv B_z1 bb
  replace B_z2 := mv B_z2 bb
  replace B_z3 := mv B_z3 bb
  replace B_z4 := mv B_z4 bb
  replace B_z5 := mv B_z5 bb
  replace HB := nx HB bb
  clear bb
  obtain ⟨c0z5, c1z5, c2z5, c3z5, c4z5, c5z5⟩ := cells6 B_z5
  obtain ⟨c0z0, c1z0, c2z0, c3z0, c4z0, c5z0⟩ := cells6 B_z0
  go_wp2
  go_ret
  exact ⟨(by first | rfl | exact rbt (by omega) | exact rbf (by omega)), nextw HB.out (by exact sm)⟩

set_option maxRecDepth 100000 in
set_option maxHeartbeats 4000000 in
theorem Hulls0_w4 (x0 y0 x1 y1 f c u0 v0 u1 v1 g d x y h : Int)   (dd0 : OkB x0 y0 x1 y1 f c ∧ OkB u0 v0 u1 v1 g d) (dd1 : ¬ (HasP x0 y0 x1 y1 f c x y h)) (dd2 : ¬ (HasP u0 v0 u1 v1 g d x y h)) (w : World) :
    Calls Try.prog 8 #[.agg #[.int .i64 x0, .int .i64 y0, .int .i64 x1, .int .i64 y1, .int .i64 f, .int .i64 c], .agg #[.int .i64 u0, .int .i64 v0, .int .i64 u1, .int .i64 v1, .int .i64 g, .int .i64 d], .agg #[.int .i64 x, .int .i64 y, .int .i64 h]] w fun e w' => e = .returned (.bool true) ∧ Below w.heap.size w w' := by
  have H0 := Lib.hid (fun w => awake_true w)
  have H1 := Lib.hid (fun w => BHull_yes dd0 w)
  have H2 := Lib.hid (fun w => BHull_sym dd0 w)
  have H3 := Lib.hid (fun w => BHull_self dd0.1 w)
  have H4 := Lib.hid (fun w => BoxHas_no dd1 w)
  have H5 := Lib.hid (fun w => BoxHas_no dd2 w)
  have H6 := Lib.hid (fun w => Inside_yes (ins_hull1 dd0) w)
  have H7 := Lib.hid (fun w => Inside_yes (ins_hull2 dd0) w)
  obtain ⟨HB, B_z0, B_z1, B_z2⟩ := box3 w 23 #[.int .i64 x0, .int .i64 y0, .int .i64 x1, .int .i64 y1, .int .i64 f, .int .i64 c] 23 #[.int .i64 u0, .int .i64 v0, .int .i64 u1, .int .i64 v1, .int .i64 g, .int .i64 d] 25 #[.int .i64 x, .int .i64 y, .int .i64 h]
  go_enter Try.func8, Try.ntmps8
  go_upto_region 1 with (fail)
  generalize ((w.alloc (.cells #[.int .i64 x0, .int .i64 y0, .int .i64 x1, .int .i64 y1, .int .i64 f, .int .i64 c] 23)).alloc (.cells #[.int .i64 u0, .int .i64 v0, .int .i64 u1, .int .i64 v1, .int .i64 g, .int .i64 d] 23)).alloc (.cells #[.int .i64 x, .int .i64 y, .int .i64 h] 25) = W0 at *
  go_wp2_with fail
  refine (H0.out _).mono ?_
  rintro e w1 ⟨rfl, bb⟩
  replace bb := nextw (w0 := W0) (by exact sm) bb
  replace B_z0 := mv B_z0 bb
  replace B_z1 := mv B_z1 bb
  replace B_z2 := mv B_z2 bb
  replace HB := nx HB bb
  clear bb
  obtain ⟨c0z0, c1z0, c2z0, c3z0, c4z0, c5z0⟩ := cells6 B_z0
  obtain ⟨c0z1, c1z1, c2z1, c3z1, c4z1, c5z1⟩ := cells6 B_z1
  go_wp2_with fail
  refine (H1.out _).mono ?_
  clear c0z0 c1z0 c2z0 c3z0 c4z0 c5z0 c0z1 c1z1 c2z1 c3z1 c4z1 c5z1
  rintro e w2 ⟨rfl, bb⟩
  replace bb := nextw (w0 := w1) (by exact sm) bb
  replace B_z0 := mv B_z0 bb
  replace B_z1 := mv B_z1 bb
  replace B_z2 := mv B_z2 bb
  replace HB := nx HB bb
  clear bb
  have lt_z3z0 := B_z0.out.lt
  have lt_z3z1 := B_z1.out.lt
  have lt_z3z2 := B_z2.out.lt
  obtain ⟨bb, B_z3⟩ := box1 w2 23 #[.int .i64 (min x0 u0), .int .i64 (min y0 v0), .int .i64 (max x1 u1), .int .i64 (max y1 v1), .int .i64 (hullF f c g d), .int .i64 (hullC f c g d)]
  replace bb := bb.out
  replace B_z0 := mv B_z0 bb
  replace B_z1 := mv B_z1 bb
  replace B_z2 := mv B_z2 bb
  replace HB := nx HB bb
  clear bb
  go_upto_region 4 with (fail)
  generalize w2.alloc (.cells #[.int .i64 (min x0 u0), .int .i64 (min y0 v0), .int .i64 (max x1 u1), .int .i64 (max y1 v1), .int .i64 (hullF f c g d), .int .i64 (hullC f c g d)] 23) = WN2 at *
  obtain ⟨c0z1, c1z1, c2z1, c3z1, c4z1, c5z1⟩ := cells6 B_z1
  obtain ⟨c0z0, c1z0, c2z0, c3z0, c4z0, c5z0⟩ := cells6 B_z0
  go_wp2_with fail
  refine (H2.out _).mono ?_
  clear c0z1 c1z1 c2z1 c3z1 c4z1 c5z1 c0z0 c1z0 c2z0 c3z0 c4z0 c5z0
  rintro e w3 ⟨rfl, bb⟩
  replace bb := nextw (w0 := WN2) (by exact sm) bb
  replace B_z0 := mv B_z0 bb
  replace B_z1 := mv B_z1 bb
  replace B_z2 := mv B_z2 bb
  replace B_z3 := mv B_z3 bb
  replace HB := nx HB bb
  clear bb
  have lt_z4z0 := B_z0.out.lt
  have lt_z4z1 := B_z1.out.lt
  have lt_z4z2 := B_z2.out.lt
  have lt_z4z3 := B_z3.out.lt
  obtain ⟨bb, B_z4⟩ := box1 w3 23 #[.int .i64 (min x0 u0), .int .i64 (min y0 v0), .int .i64 (max x1 u1), .int .i64 (max y1 v1), .int .i64 (hullF f c g d), .int .i64 (hullC f c g d)]
  replace bb := bb.out
  replace B_z0 := mv B_z0 bb
  replace B_z1 := mv B_z1 bb
  replace B_z2 := mv B_z2 bb
  replace B_z3 := mv B_z3 bb
  replace HB := nx HB bb
  clear bb
  go_upto_region 5 with (fail)
  generalize w3.alloc (.cells #[.int .i64 (min x0 u0), .int .i64 (min y0 v0), .int .i64 (max x1 u1), .int .i64 (max y1 v1), .int .i64 (hullF f c g d), .int .i64 (hullC f c g d)] 23) = WN3 at *
  obtain ⟨c0z3, c1z3, c2z3, c3z3, c4z3, c5z3⟩ := cells6 B_z3
  obtain ⟨c0z4, c1z4, c2z4, c3z4, c4z4, c5z4⟩ := cells6 B_z4
  obtain ⟨c0z0, c1z0, c2z0, c3z0, c4z0, c5z0⟩ := cells6 B_z0
  go_wp2_with fail
  refine (H3.out _).mono ?_
  clear c0z3 c1z3 c2z3 c3z3 c4z3 c5z3 c0z4 c1z4 c2z4 c3z4 c4z4 c5z4 c0z0 c1z0 c2z0 c3z0 c4z0 c5z0
  rintro e w4 ⟨rfl, bb⟩
  replace bb := nextw (w0 := WN3) (by exact sm) bb
  replace B_z0 := mv B_z0 bb
  replace B_z1 := mv B_z1 bb
  replace B_z2 := mv B_z2 bb
  replace B_z3 := mv B_z3 bb
  replace B_z4 := mv B_z4 bb
  replace HB := nx HB bb
  clear bb
  have lt_z5z0 := B_z0.out.lt
  have lt_z5z1 := B_z1.out.lt
  have lt_z5z2 := B_z2.out.lt
  have lt_z5z3 := B_z3.out.lt
  have lt_z5z4 := B_z4.out.lt
  obtain ⟨bb, B_z5⟩ := box1 w4 23 #[.int .i64 x0, .int .i64 y0, .int .i64 x1, .int .i64 y1, .int .i64 f, .int .i64 c]
  replace bb := bb.out
  replace B_z0 := mv B_z0 bb
  replace B_z1 := mv B_z1 bb
  replace B_z2 := mv B_z2 bb
  replace B_z3 := mv B_z3 bb
  replace B_z4 := mv B_z4 bb
  replace HB := nx HB bb
  clear bb
  go_upto_region 10 with (fail)
  generalize w4.alloc (.cells #[.int .i64 x0, .int .i64 y0, .int .i64 x1, .int .i64 y1, .int .i64 f, .int .i64 c] 23) = WN6 at *
  obtain ⟨c0z0, c1z0, c2z0, c3z0, c4z0, c5z0⟩ := cells6 B_z0
  obtain ⟨c0z2, c1z2, c2z2⟩ := cells3 B_z2
  go_wp2_with fail
  refine (H4.out _).mono ?_
  clear c0z0 c1z0 c2z0 c3z0 c4z0 c5z0 c0z2 c1z2 c2z2
  rintro e w5 ⟨rfl, bb⟩
  replace bb := nextw (w0 := WN6) (by exact sm) bb
  replace B_z0 := mv B_z0 bb
  replace B_z1 := mv B_z1 bb
  replace B_z2 := mv B_z2 bb
  replace B_z3 := mv B_z3 bb
  replace B_z4 := mv B_z4 bb
  replace B_z5 := mv B_z5 bb
  replace HB := nx HB bb
  clear bb
  obtain ⟨c0z1, c1z1, c2z1, c3z1, c4z1, c5z1⟩ := cells6 B_z1
  obtain ⟨c0z2, c1z2, c2z2⟩ := cells3 B_z2
  go_wp2_with fail
  refine (H5.out _).mono ?_
  clear c0z1 c1z1 c2z1 c3z1 c4z1 c5z1 c0z2 c1z2 c2z2
  rintro e w6 ⟨rfl, bb⟩
  replace bb := nextw (w0 := w5) (by exact sm) bb
  replace B_z0 := mv B_z0 bb
  replace B_z1 := mv B_z1 bb
  replace B_z2 := mv B_z2 bb
  replace B_z3 := mv B_z3 bb
  replace B_z4 := mv B_z4 bb
  replace B_z5 := mv B_z5 bb
  replace HB := nx HB bb
  clear bb
  obtain ⟨c0z0, c1z0, c2z0, c3z0, c4z0, c5z0⟩ := cells6 B_z0
  obtain ⟨c0z3, c1z3, c2z3, c3z3, c4z3, c5z3⟩ := cells6 B_z3
  go_wp2_with fail
  refine (H6.out _).mono ?_
  clear c0z0 c1z0 c2z0 c3z0 c4z0 c5z0 c0z3 c1z3 c2z3 c3z3 c4z3 c5z3
  rintro e w7 ⟨rfl, bb⟩
  replace bb := nextw (w0 := w6) (by exact sm) bb
  replace B_z0 := mv B_z0 bb
  replace B_z1 := mv B_z1 bb
  replace B_z2 := mv B_z2 bb
  replace B_z3 := mv B_z3 bb
  replace B_z4 := mv B_z4 bb
  replace B_z5 := mv B_z5 bb
  replace HB := nx HB bb
  clear bb
  obtain ⟨c0z1, c1z1, c2z1, c3z1, c4z1, c5z1⟩ := cells6 B_z1
  obtain ⟨c0z3, c1z3, c2z3, c3z3, c4z3, c5z3⟩ := cells6 B_z3
  go_wp2_with fail
  refine (H7.out _).mono ?_
  clear c0z1 c1z1 c2z1 c3z1 c4z1 c5z1 c0z3 c1z3 c2z3 c3z3 c4z3 c5z3
  rintro e w8 ⟨rfl, bb⟩
  replace bb := nextw (w0 := w7) (by exact sm) bb
  replace B_z0 := mv B_z0 bb
  replace B_z1 := mv B_z1 bb
  replace B_z2 := mv B_z2 bb
  replace B_z3 := mv B_z3 bb
  replace B_z4 := mv B_z4 bb
  replace B_z5 := mv B_z5 bb
  replace HB := nx HB bb
  clear bb
  obtain ⟨c0z5, c1z5, c2z5, c3z5, c4z5, c5z5⟩ := cells6 B_z5
  obtain ⟨c0z0, c1z0, c2z0, c3z0, c4z0, c5z0⟩ := cells6 B_z0
  go_wp2
  go_ret
  exact ⟨(by first | rfl | exact rbt (by omega) | exact rbf (by omega)), nextw HB.out (by exact sm)⟩

def Hulls0V (x0 y0 x1 y1 f c u0 v0 u1 v1 g d x y h : Int) : Value := if OkB x0 y0 x1 y1 f c ∧ OkB u0 v0 u1 v1 g d then if HasP x0 y0 x1 y1 f c x y h then .bool true else if HasP u0 v0 u1 v1 g d x y h then .bool true else .bool true else if OkB x0 y0 x1 y1 f c then if OkB u0 v0 u1 v1 g d then .bool true else .bool true else .bool true
theorem Hulls0_any (x0 y0 x1 y1 f c u0 v0 u1 v1 g d x y h : Int)  (w : World) :
    Calls Try.prog 8 #[.agg #[.int .i64 x0, .int .i64 y0, .int .i64 x1, .int .i64 y1, .int .i64 f, .int .i64 c], .agg #[.int .i64 u0, .int .i64 v0, .int .i64 u1, .int .i64 v1, .int .i64 g, .int .i64 d], .agg #[.int .i64 x, .int .i64 y, .int .i64 h]] w fun e w' => e = .returned (Hulls0V x0 y0 x1 y1 f c u0 v0 u1 v1 g d x y h) ∧ Below w.heap.size w w' := by
  unfold Hulls0V
  by_cases dd0 : OkB x0 y0 x1 y1 f c ∧ OkB u0 v0 u1 v1 g d
  · rw [if_pos dd0]
    by_cases dd1 : HasP x0 y0 x1 y1 f c x y h
    · rw [if_pos dd1]
      exact Hulls0_w0 x0 y0 x1 y1 f c u0 v0 u1 v1 g d x y h    dd0 dd1 w
    · rw [if_neg dd1]
      by_cases dd2 : HasP u0 v0 u1 v1 g d x y h
      · rw [if_pos dd2]
        exact Hulls0_w3 x0 y0 x1 y1 f c u0 v0 u1 v1 g d x y h    dd0 dd1 dd2 w
      · rw [if_neg dd2]
        exact Hulls0_w4 x0 y0 x1 y1 f c u0 v0 u1 v1 g d x y h    dd0 dd1 dd2 w
  · rw [if_neg dd0]
    by_cases dd1 : OkB x0 y0 x1 y1 f c
    · rw [if_pos dd1]
      by_cases dd2 : OkB u0 v0 u1 v1 g d
      · rw [if_pos dd2]
        exfalso; exact dd0 ⟨dd1, dd2⟩
      · rw [if_neg dd2]
        exact Hulls0_w1 x0 y0 x1 y1 f c u0 v0 u1 v1 g d x y h    dd0 dd1 dd2 w
    · rw [if_neg dd1]
      exact Hulls0_w2 x0 y0 x1 y1 f c u0 v0 u1 v1 g d x y h    dd0 dd1 w

theorem Hulls_any (x0 y0 x1 y1 f c u0 v0 u1 v1 g d x y h : Int)  (w : World) : Calls Try.prog 8 #[.agg #[.int .i64 x0, .int .i64 y0, .int .i64 x1, .int .i64 y1, .int .i64 f, .int .i64 c], .agg #[.int .i64 u0, .int .i64 v0, .int .i64 u1, .int .i64 v1, .int .i64 g, .int .i64 d], .agg #[.int .i64 x, .int .i64 y, .int .i64 h]] w fun e w' => e = .returned (.bool true) ∧ Below w.heap.size w w' := by
  have e := Hulls0_any x0 y0 x1 y1 f c u0 v0 u1 v1 g d x y h  w
  rwa [show Hulls0V x0 y0 x1 y1 f c u0 v0 u1 v1 g d x y h = .bool true from (by unfold Hulls0V; (repeat' split); all_goals rfl)] at e
end Go.Proofs.Ytjpdahalplkfbaa
