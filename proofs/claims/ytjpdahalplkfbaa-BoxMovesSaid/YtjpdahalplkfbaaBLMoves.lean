/- The law BoxMoves. -/
import Derived.Test.YtjpdahalplkfbaaBAwake
import Derived.Test.YtjpdahalplkfbaaBMv
set_option linter.unusedVariables false
set_option linter.unusedSimpArgs false
namespace Go.Proofs.Ytjpdahalplkfbaa
open Go Go.RowKit Hd

set_option maxRecDepth 100000 in
set_option maxHeartbeats 4000000 in
theorem Moves0_w0 (x0 y0 x1 y1 f c a b k l : Int)   (dd0 : mvArg x0 y0 x1 y1 f c a b k l) (dd1 : mvRng x0 y0 x1 y1 a b k l) (w : World) :
    Calls Try.prog 5 #[.agg #[.int .i64 x0, .int .i64 y0, .int .i64 x1, .int .i64 y1, .int .i64 f, .int .i64 c], .agg #[.int .i64 a, .int .i64 b, .int .i64 k, .int .i64 l]] w fun e w' => e = .returned (.bool true) ∧ Below w.heap.size w w' := by
  have H0 := Lib.hid (fun w => awake_true w)
  have H1 := Lib.hid (fun w => @Move_ok x0 y0 x1 y1 f c a b k l dd0 dd1 w)
  have H2 := Lib.hid (fun w => @RMove_ok x0 y0 x1 y1 f c a b k l dd0 dd1 w)
  obtain ⟨HB, B_z0, B_z1⟩ := box2 w 23 #[.int .i64 x0, .int .i64 y0, .int .i64 x1, .int .i64 y1, .int .i64 f, .int .i64 c] 46 #[.int .i64 a, .int .i64 b, .int .i64 k, .int .i64 l]
  go_enter Try.func5, Try.ntmps5
  go_upto_region 1 with (fail)
  generalize (w.alloc (.cells #[.int .i64 x0, .int .i64 y0, .int .i64 x1, .int .i64 y1, .int .i64 f, .int .i64 c] 23)).alloc (.cells #[.int .i64 a, .int .i64 b, .int .i64 k, .int .i64 l] 46) = W0 at *
  go_wp2_with fail
  refine (H0.out _).mono ?_
  rintro e w1 ⟨rfl, bb⟩
  replace bb := nextw (w0 := W0) (by exact sm) bb
  replace B_z0 := mv B_z0 bb
  replace B_z1 := mv B_z1 bb
  replace HB := nx HB bb
  clear bb
  obtain ⟨c0z0, c1z0, c2z0, c3z0, c4z0, c5z0⟩ := cells6 B_z0
  obtain ⟨c0z1, c1z1, c2z1, c3z1⟩ := cells4 B_z1
  go_wp2_with fail
  refine (H1.out _).mono ?_
  clear c0z0 c1z0 c2z0 c3z0 c4z0 c5z0 c0z1 c1z1 c2z1 c3z1
  rintro e w2 ⟨rfl, bb⟩
  replace bb := nextw (w0 := w1) (by exact sm) bb
  replace B_z0 := mv B_z0 bb
  replace B_z1 := mv B_z1 bb
  replace HB := nx HB bb
  clear bb
  have lt_z2z0 := B_z0.out.lt
  have lt_z2z1 := B_z1.out.lt
  obtain ⟨bb, B_z2⟩ := box1 w2 23 #[.int .i64 (x0 + a), .int .i64 (y0 + k), .int .i64 (x1 + b), .int .i64 (y1 + l), .int .i64 f, .int .i64 c]
  replace bb := bb.out
  replace B_z0 := mv B_z0 bb
  replace B_z1 := mv B_z1 bb
  replace HB := nx HB bb
  clear bb
  go_upto_region 4 with (fail)
  generalize w2.alloc (.cells #[.int .i64 (x0 + a), .int .i64 (y0 + k), .int .i64 (x1 + b), .int .i64 (y1 + l), .int .i64 f, .int .i64 c] 23) = WN2 at *
  obtain ⟨c0z0, c1z0, c2z0, c3z0, c4z0, c5z0⟩ := cells6 B_z0
  obtain ⟨c0z1, c1z1, c2z1, c3z1⟩ := cells4 B_z1
  go_wp2_with fail
  refine (H2.out _).mono ?_
  clear c0z0 c1z0 c2z0 c3z0 c4z0 c5z0 c0z1 c1z1 c2z1 c3z1
  rintro e w3 ⟨rfl, bb⟩
  replace bb := nextw (w0 := WN2) (by exact sm) bb
  replace B_z0 := mv B_z0 bb
  replace B_z1 := mv B_z1 bb
  replace B_z2 := mv B_z2 bb
  replace HB := nx HB bb
  clear bb
  have lt_z3z0 := B_z0.out.lt
  have lt_z3z1 := B_z1.out.lt
  have lt_z3z2 := B_z2.out.lt
  obtain ⟨bb, B_z3⟩ := box1 w3 23 #[.int .i64 (x0 + a), .int .i64 (y0 + k), .int .i64 (x1 + b), .int .i64 (y1 + l), .int .i64 f, .int .i64 c]
  replace bb := bb.out
  replace B_z0 := mv B_z0 bb
  replace B_z1 := mv B_z1 bb
  replace B_z2 := mv B_z2 bb
  replace HB := nx HB bb
  clear bb
  go_upto_region 5 with (fail)
  generalize w3.alloc (.cells #[.int .i64 (x0 + a), .int .i64 (y0 + k), .int .i64 (x1 + b), .int .i64 (y1 + l), .int .i64 f, .int .i64 c] 23) = WN3 at *
  obtain ⟨c0z2, c1z2, c2z2, c3z2, c4z2, c5z2⟩ := cells6 B_z2
  obtain ⟨c0z3, c1z3, c2z3, c3z3, c4z3, c5z3⟩ := cells6 B_z3
  go_wp2
  go_ret
  exact ⟨(by first | rfl | exact rbt (by omega) | exact rbf (by omega)), nextw HB.out (by exact sm)⟩

set_option maxRecDepth 100000 in
set_option maxHeartbeats 4000000 in
theorem Moves0_w1 (x0 y0 x1 y1 f c a b k l : Int)   (dd0 : ¬ (mvArg x0 y0 x1 y1 f c a b k l)) (w : World) :
    Calls Try.prog 5 #[.agg #[.int .i64 x0, .int .i64 y0, .int .i64 x1, .int .i64 y1, .int .i64 f, .int .i64 c], .agg #[.int .i64 a, .int .i64 b, .int .i64 k, .int .i64 l]] w fun e w' => e = .returned (.bool true) ∧ Below w.heap.size w w' := by
  have H0 := Lib.hid (fun w => awake_true w)
  have H1 := Lib.hid (fun w => @Move_bad x0 y0 x1 y1 f c a b k l dd0 w)
  have H2 := Lib.hid (fun w => @RMove_bad x0 y0 x1 y1 f c a b k l dd0 w)
  obtain ⟨HB, B_z0, B_z1⟩ := box2 w 23 #[.int .i64 x0, .int .i64 y0, .int .i64 x1, .int .i64 y1, .int .i64 f, .int .i64 c] 46 #[.int .i64 a, .int .i64 b, .int .i64 k, .int .i64 l]
  go_enter Try.func5, Try.ntmps5
  go_upto_region 1 with (fail)
  generalize (w.alloc (.cells #[.int .i64 x0, .int .i64 y0, .int .i64 x1, .int .i64 y1, .int .i64 f, .int .i64 c] 23)).alloc (.cells #[.int .i64 a, .int .i64 b, .int .i64 k, .int .i64 l] 46) = W0 at *
  go_wp2_with fail
  refine (H0.out _).mono ?_
  rintro e w1 ⟨rfl, bb⟩
  replace bb := nextw (w0 := W0) (by exact sm) bb
  replace B_z0 := mv B_z0 bb
  replace B_z1 := mv B_z1 bb
  replace HB := nx HB bb
  clear bb
  obtain ⟨c0z0, c1z0, c2z0, c3z0, c4z0, c5z0⟩ := cells6 B_z0
  obtain ⟨c0z1, c1z1, c2z1, c3z1⟩ := cells4 B_z1
  go_wp2_with fail
  refine (H1.out _).mono ?_
  clear c0z0 c1z0 c2z0 c3z0 c4z0 c5z0 c0z1 c1z1 c2z1 c3z1
  rintro e w2 ⟨rfl, bb⟩
  replace bb := nextw (w0 := w1) (by exact sm) bb
  replace B_z0 := mv B_z0 bb
  replace B_z1 := mv B_z1 bb
  replace HB := nx HB bb
  clear bb
  have lt_z2z0 := B_z0.out.lt
  have lt_z2z1 := B_z1.out.lt
  obtain ⟨bb, B_z2⟩ := box1 w2 23 #[.int .i64 0, .int .i64 0, .int .i64 0, .int .i64 0, .int .i64 0, .int .i64 0]
  replace bb := bb.out
  replace B_z0 := mv B_z0 bb
  replace B_z1 := mv B_z1 bb
  replace HB := nx HB bb
  clear bb
  go_upto_region 4 with (fail)
  generalize w2.alloc (.cells #[.int .i64 0, .int .i64 0, .int .i64 0, .int .i64 0, .int .i64 0, .int .i64 0] 23) = WN2 at *
  obtain ⟨c0z0, c1z0, c2z0, c3z0, c4z0, c5z0⟩ := cells6 B_z0
  obtain ⟨c0z1, c1z1, c2z1, c3z1⟩ := cells4 B_z1
  go_wp2_with fail
  refine (H2.out _).mono ?_
  clear c0z0 c1z0 c2z0 c3z0 c4z0 c5z0 c0z1 c1z1 c2z1 c3z1
  rintro e w3 ⟨rfl, bb⟩
  replace bb := nextw (w0 := WN2) (by exact sm) bb
  replace B_z0 := mv B_z0 bb
  replace B_z1 := mv B_z1 bb
  replace B_z2 := mv B_z2 bb
  replace HB := nx HB bb
  clear bb
  have lt_z3z0 := B_z0.out.lt
  have lt_z3z1 := B_z1.out.lt
  have lt_z3z2 := B_z2.out.lt
  obtain ⟨bb, B_z3⟩ := box1 w3 23 #[.int .i64 0, .int .i64 0, .int .i64 0, .int .i64 0, .int .i64 0, .int .i64 0]
  replace bb := bb.out
  replace B_z0 := mv B_z0 bb
  replace B_z1 := mv B_z1 bb
  replace B_z2 := mv B_z2 bb
  replace HB := nx HB bb
  clear bb
  go_upto_region 5 with (fail)
  generalize w3.alloc (.cells #[.int .i64 0, .int .i64 0, .int .i64 0, .int .i64 0, .int .i64 0, .int .i64 0] 23) = WN3 at *
  obtain ⟨c0z2, c1z2, c2z2, c3z2, c4z2, c5z2⟩ := cells6 B_z2
  obtain ⟨c0z3, c1z3, c2z3, c3z3, c4z3, c5z3⟩ := cells6 B_z3
  go_wp2
  go_ret
  exact ⟨(by first | rfl | exact rbt (by omega) | exact rbf (by omega)), nextw HB.out (by exact sm)⟩

set_option maxRecDepth 100000 in
set_option maxHeartbeats 4000000 in
theorem Moves0_w2 (x0 y0 x1 y1 f c a b k l : Int)   (dd0 : mvArg x0 y0 x1 y1 f c a b k l) (dd1 : ¬ (mvRng x0 y0 x1 y1 a b k l)) (w : World) :
    Calls Try.prog 5 #[.agg #[.int .i64 x0, .int .i64 y0, .int .i64 x1, .int .i64 y1, .int .i64 f, .int .i64 c], .agg #[.int .i64 a, .int .i64 b, .int .i64 k, .int .i64 l]] w fun e w' => e = .returned (.bool true) ∧ Below w.heap.size w w' := by
  have H0 := Lib.hid (fun w => awake_true w)
  have H1 := Lib.hid (fun w => @Move_far x0 y0 x1 y1 f c a b k l dd0 dd1 w)
  have H2 := Lib.hid (fun w => @RMove_far x0 y0 x1 y1 f c a b k l dd0 dd1 w)
  obtain ⟨HB, B_z0, B_z1⟩ := box2 w 23 #[.int .i64 x0, .int .i64 y0, .int .i64 x1, .int .i64 y1, .int .i64 f, .int .i64 c] 46 #[.int .i64 a, .int .i64 b, .int .i64 k, .int .i64 l]
  go_enter Try.func5, Try.ntmps5
  go_upto_region 1 with (fail)
  generalize (w.alloc (.cells #[.int .i64 x0, .int .i64 y0, .int .i64 x1, .int .i64 y1, .int .i64 f, .int .i64 c] 23)).alloc (.cells #[.int .i64 a, .int .i64 b, .int .i64 k, .int .i64 l] 46) = W0 at *
  go_wp2_with fail
  refine (H0.out _).mono ?_
  rintro e w1 ⟨rfl, bb⟩
  replace bb := nextw (w0 := W0) (by exact sm) bb
  replace B_z0 := mv B_z0 bb
  replace B_z1 := mv B_z1 bb
  replace HB := nx HB bb
  clear bb
  obtain ⟨c0z0, c1z0, c2z0, c3z0, c4z0, c5z0⟩ := cells6 B_z0
  obtain ⟨c0z1, c1z1, c2z1, c3z1⟩ := cells4 B_z1
  go_wp2_with fail
  refine (H1.out _).mono ?_
  clear c0z0 c1z0 c2z0 c3z0 c4z0 c5z0 c0z1 c1z1 c2z1 c3z1
  rintro e w2 ⟨rfl, bb⟩
  replace bb := nextw (w0 := w1) (by exact sm) bb
  replace B_z0 := mv B_z0 bb
  replace B_z1 := mv B_z1 bb
  replace HB := nx HB bb
  clear bb
  have lt_z2z0 := B_z0.out.lt
  have lt_z2z1 := B_z1.out.lt
  obtain ⟨bb, B_z2⟩ := box1 w2 23 #[.int .i64 0, .int .i64 0, .int .i64 0, .int .i64 0, .int .i64 0, .int .i64 0]
  replace bb := bb.out
  replace B_z0 := mv B_z0 bb
  replace B_z1 := mv B_z1 bb
  replace HB := nx HB bb
  clear bb
  go_upto_region 4 with (fail)
  generalize w2.alloc (.cells #[.int .i64 0, .int .i64 0, .int .i64 0, .int .i64 0, .int .i64 0, .int .i64 0] 23) = WN2 at *
  obtain ⟨c0z0, c1z0, c2z0, c3z0, c4z0, c5z0⟩ := cells6 B_z0
  obtain ⟨c0z1, c1z1, c2z1, c3z1⟩ := cells4 B_z1
  go_wp2_with fail
  refine (H2.out _).mono ?_
  clear c0z0 c1z0 c2z0 c3z0 c4z0 c5z0 c0z1 c1z1 c2z1 c3z1
  rintro e w3 ⟨rfl, bb⟩
  replace bb := nextw (w0 := WN2) (by exact sm) bb
  replace B_z0 := mv B_z0 bb
  replace B_z1 := mv B_z1 bb
  replace B_z2 := mv B_z2 bb
  replace HB := nx HB bb
  clear bb
  have lt_z3z0 := B_z0.out.lt
  have lt_z3z1 := B_z1.out.lt
  have lt_z3z2 := B_z2.out.lt
  obtain ⟨bb, B_z3⟩ := box1 w3 23 #[.int .i64 0, .int .i64 0, .int .i64 0, .int .i64 0, .int .i64 0, .int .i64 0]
  replace bb := bb.out
  replace B_z0 := mv B_z0 bb
  replace B_z1 := mv B_z1 bb
  replace B_z2 := mv B_z2 bb
  replace HB := nx HB bb
  clear bb
  go_upto_region 5 with (fail)
  generalize w3.alloc (.cells #[.int .i64 0, .int .i64 0, .int .i64 0, .int .i64 0, .int .i64 0, .int .i64 0] 23) = WN3 at *
  obtain ⟨c0z2, c1z2, c2z2, c3z2, c4z2, c5z2⟩ := cells6 B_z2
  obtain ⟨c0z3, c1z3, c2z3, c3z3, c4z3, c5z3⟩ := cells6 B_z3
  go_wp2
  go_ret
  exact ⟨(by first | rfl | exact rbt (by omega) | exact rbf (by omega)), nextw HB.out (by exact sm)⟩

def Moves0V (x0 y0 x1 y1 f c a b k l : Int) : Value := if mvArg x0 y0 x1 y1 f c a b k l then if mvRng x0 y0 x1 y1 a b k l then .bool true else .bool true else .bool true
theorem Moves0_any (x0 y0 x1 y1 f c a b k l : Int)  (w : World) :
    Calls Try.prog 5 #[.agg #[.int .i64 x0, .int .i64 y0, .int .i64 x1, .int .i64 y1, .int .i64 f, .int .i64 c], .agg #[.int .i64 a, .int .i64 b, .int .i64 k, .int .i64 l]] w fun e w' => e = .returned (Moves0V x0 y0 x1 y1 f c a b k l) ∧ Below w.heap.size w w' := by
  unfold Moves0V
  by_cases dd0 : mvArg x0 y0 x1 y1 f c a b k l
  · rw [if_pos dd0]
    by_cases dd1 : mvRng x0 y0 x1 y1 a b k l
    · rw [if_pos dd1]
      exact Moves0_w0 x0 y0 x1 y1 f c a b k l    dd0 dd1 w
    · rw [if_neg dd1]
      exact Moves0_w2 x0 y0 x1 y1 f c a b k l    dd0 dd1 w
  · rw [if_neg dd0]
    exact Moves0_w1 x0 y0 x1 y1 f c a b k l    dd0 w

theorem Moves_any (x0 y0 x1 y1 f c a b k l : Int)  (w : World) : Calls Try.prog 5 #[.agg #[.int .i64 x0, .int .i64 y0, .int .i64 x1, .int .i64 y1, .int .i64 f, .int .i64 c], .agg #[.int .i64 a, .int .i64 b, .int .i64 k, .int .i64 l]] w fun e w' => e = .returned (.bool true) ∧ Below w.heap.size w w' := by
  have e := Moves0_any x0 y0 x1 y1 f c a b k l  w
  rwa [show Moves0V x0 y0 x1 y1 f c a b k l = .bool true from (by unfold Moves0V; (repeat' split); all_goals rfl)] at e
end Go.Proofs.Ytjpdahalplkfbaa
