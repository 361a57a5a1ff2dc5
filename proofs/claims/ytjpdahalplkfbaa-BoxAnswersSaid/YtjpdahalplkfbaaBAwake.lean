/- The law's awake. -/
import Derived.Test.YtjpdahalplkfbaaB3
import Derived.Test.YtjpdahalplkfbaaB5
set_option linter.unusedVariables false
set_option linter.unusedSimpArgs false
namespace Go.Proofs.Ytjpdahalplkfbaa
open Go Go.RowKit Hd

theorem Split_a (w : World) : Calls Try.prog 26 #[.agg #[.int .i64 0, .int .i64 0, .int .i64 9, .int .i64 4, .int .i64 250, .int .i64 10]] w fun e w' => e = .returned (.tuple #[.agg #[.int .i64 0, .int .i64 0, .int .i64 9, .int .i64 4, .int .i64 250, .int .i64 5], .agg #[.int .i64 0, .int .i64 0, .int .i64 9, .int .i64 4, .int .i64 255, .int .i64 5], .bool true]) ∧ Below w.heap.size w w' := by
  have e := Split_is 0 0 9 4 250 10 w
  rwa [show splitV 0 0 9 4 250 10 = .tuple #[.agg #[.int .i64 0, .int .i64 0, .int .i64 9, .int .i64 4, .int .i64 250, .int .i64 5], .agg #[.int .i64 0, .int .i64 0, .int .i64 9, .int .i64 4, .int .i64 255, .int .i64 5], .bool true] by simp [splitV, OkB, OkA, oneP, spX, spY]] at e
theorem Hull_a (w : World) : Calls Try.prog 13 #[.agg #[.int .i64 0, .int .i64 0, .int .i64 9, .int .i64 4, .int .i64 250, .int .i64 10], .agg #[.int .i64 20, .int .i64 2, .int .i64 20, .int .i64 2, .int .i64 4, .int .i64 1]] w fun e w' => e = .returned (.tuple #[.agg #[.int .i64 0, .int .i64 0, .int .i64 20, .int .i64 4, .int .i64 250, .int .i64 11], .int .i64 0]) ∧ Below w.heap.size w w' := by
  have e := BHull_yes (show OkB 0 0 9 4 250 10 ∧ OkB 20 2 20 2 4 1 by decide) w
  rwa [show hullF 250 10 4 1 = 250 by decide, show hullC 250 10 4 1 = 11 by decide] at e
theorem Vol_a (w : World) : Calls Try.prog 19 #[.agg #[.int .i64 0, .int .i64 0, .int .i64 9, .int .i64 4, .int .i64 250, .int .i64 10]] w fun e w' => e = .returned (.int .i64 500) ∧ Below w.heap.size w w' := by
  have e := Vol_is 0 0 9 4 250 10 w
  rwa [show volI 0 0 9 4 250 10 = 500 by decide] at e

set_option maxRecDepth 100000 in
set_option maxHeartbeats 4000000 in
theorem awake_w0    (w : World) :
    Calls Try.prog 12 #[] w fun e w' => e = .returned (.bool true) ∧ Below w.heap.size w w' := by
  have H0 := Lib.hid (fun w => Split_a w)
  have H1 := Lib.hid (fun w => Hull_a w)
  have H2 := Lib.hid (fun w => Vol_a w)
  have HB := Lib.hid (Below.refl w.heap.size w)
  go_enter Try.func12, Try.ntmps12
  go_upto_region 1 with (fail)
  obtain ⟨bb, B_z0⟩ := box1 w 23 #[.int .i64 0, .int .i64 0, .int .i64 9, .int .i64 4, .int .i64 250, .int .i64 10]
  replace bb := bb.out
  replace HB := nx HB bb
  clear bb
  go_upto_region 2 with (fail)
  generalize w.alloc (.cells #[.int .i64 0, .int .i64 0, .int .i64 9, .int .i64 4, .int .i64 250, .int .i64 10] 23) = WN1 at *
  obtain ⟨c0z0, c1z0, c2z0, c3z0, c4z0, c5z0⟩ := cells6 B_z0
  go_wp2_with fail
  refine (H0.out _).mono ?_
  clear c0z0 c1z0 c2z0 c3z0 c4z0 c5z0
  rintro e w1 ⟨rfl, bb⟩
  replace bb := nextw (w0 := WN1) (by exact sm) bb
  replace B_z0 := mv B_z0 bb
  replace HB := nx HB bb
  clear bb
  have lt_z1z0 := B_z0.out.lt
  obtain ⟨bb, B_z1, B_z2⟩ := box2 w1 23 #[.int .i64 0, .int .i64 0, .int .i64 9, .int .i64 4, .int .i64 250, .int .i64 5] 23 #[.int .i64 0, .int .i64 0, .int .i64 9, .int .i64 4, .int .i64 255, .int .i64 5]
  replace bb := bb.out
  replace B_z0 := mv B_z0 bb
  replace HB := nx HB bb
  clear bb
  go_upto_region 3 with (fail)
  generalize (w1.alloc (.cells #[.int .i64 0, .int .i64 0, .int .i64 9, .int .i64 4, .int .i64 250, .int .i64 5] 23)).alloc (.cells #[.int .i64 0, .int .i64 0, .int .i64 9, .int .i64 4, .int .i64 255, .int .i64 5] 23) = WN2 at *
  obtain ⟨c0z0, c1z0, c2z0, c3z0, c4z0, c5z0⟩ := cells6 B_z0
  go_wp2_with fail
  refine (H1.out _).mono ?_
  clear c0z0 c1z0 c2z0 c3z0 c4z0 c5z0
  rintro e w2 ⟨rfl, bb⟩
  replace bb := nextw (w0 := WN2) (by exact sm) bb
  replace B_z0 := mv B_z0 bb
  replace B_z1 := mv B_z1 bb
  replace B_z2 := mv B_z2 bb
  replace HB := nx HB bb
  clear bb
  have lt_z3z0 := B_z0.out.lt
  have lt_z3z1 := B_z1.out.lt
  have lt_z3z2 := B_z2.out.lt
  obtain ⟨bb, B_z3⟩ := box1 w2 23 #[.int .i64 0, .int .i64 0, .int .i64 20, .int .i64 4, .int .i64 250, .int .i64 11]
  replace bb := bb.out
  replace B_z0 := mv B_z0 bb
  replace B_z1 := mv B_z1 bb
  replace B_z2 := mv B_z2 bb
  replace HB := nx HB bb
  clear bb
  go_upto_region 4 with (fail)
  generalize w2.alloc (.cells #[.int .i64 0, .int .i64 0, .int .i64 20, .int .i64 4, .int .i64 250, .int .i64 11] 23) = WN3 at *
  obtain ⟨c0z0, c1z0, c2z0, c3z0, c4z0, c5z0⟩ := cells6 B_z0
  go_wp2_with fail
  refine (H2.out _).mono ?_
  clear c0z0 c1z0 c2z0 c3z0 c4z0 c5z0
  rintro e w3 ⟨rfl, bb⟩
  replace bb := nextw (w0 := WN3) (by exact sm) bb
  replace B_z0 := mv B_z0 bb
  replace B_z1 := mv B_z1 bb
  replace B_z2 := mv B_z2 bb
  replace B_z3 := mv B_z3 bb
  replace HB := nx HB bb
  clear bb
  obtain ⟨c0z1, c1z1, c2z1, c3z1, c4z1, c5z1⟩ := cells6 B_z1
  obtain ⟨c0z2, c1z2, c2z2, c3z2, c4z2, c5z2⟩ := cells6 B_z2
  obtain ⟨c0z3, c1z3, c2z3, c3z3, c4z3, c5z3⟩ := cells6 B_z3
  go_wp2
  go_ret
  exact ⟨(by first | rfl | exact rbt (by omega) | exact rbf (by omega)), nextw HB.out (by exact sm)⟩

theorem awake_true (w : World) : Calls Try.prog 12 #[] w fun e w' => e = .returned (.bool true) ∧ Below w.heap.size w w' := awake_w0 w
end Go.Proofs.Ytjpdahalplkfbaa
