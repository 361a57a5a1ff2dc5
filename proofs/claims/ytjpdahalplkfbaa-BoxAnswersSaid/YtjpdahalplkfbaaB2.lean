/- box: Move; the base's Box, Size. -/
import Derived.Test.YtjpdahalplkfbaaB1
import Derived.Test.YtjpdahalplkfbaaHRArc
set_option linter.unusedVariables false
set_option linter.unusedSimpArgs false
namespace Go.Proofs.Ytjpdahalplkfbaa
open Go Go.RowKit Hd

def Rch (n m : Int) : Prop := -1048576 - n ≤ m ∧ m ≤ 1048576 - n
instance (n m : Int) : Decidable (Rch n m) := inferInstanceAs (Decidable (_ ∧ _))
def SzP (n m : Int) : Prop := -m ≤ n ∧ n ≤ m
instance (n m : Int) : Decidable (SzP n m) := inferInstanceAs (Decidable (_ ∧ _))

theorem reaches_yes {n m : Int} (hn : -1048576 ≤ n ∧ n ≤ 1048576) (h : Rch n m) (w : World) : Calls Try.prog 53 #[.int .i64 n, .int .i64 m] w fun e w' => e = .returned (.bool true) ∧ Below w.heap.size w w' := by
  rw [← show reachesV n m = .bool true from (by unfold reachesV; repeat' split; all_goals try simp only [Rch] at *; all_goals first | rfl | (exact congrArg Value.bool (decide_eq_true (by omega))) | (exact congrArg Value.bool (decide_eq_false (by omega))) | (exfalso; omega))]; exact reaches_any n m hn w
theorem reaches_no {n m : Int} (hn : -1048576 ≤ n ∧ n ≤ 1048576) (h : ¬ Rch n m) (w : World) : Calls Try.prog 53 #[.int .i64 n, .int .i64 m] w fun e w' => e = .returned (.bool false) ∧ Below w.heap.size w w' := by
  rw [← show reachesV n m = .bool false from (by unfold reachesV; repeat' split; all_goals try simp only [Rch] at *; all_goals first | rfl | (exact congrArg Value.bool (decide_eq_true (by omega))) | (exact congrArg Value.bool (decide_eq_false (by omega))) | (exfalso; omega))]; exact reaches_any n m hn w

theorem Size_yes {n m : Int} (hm : 0 ≤ m ∧ m ≤ 1073741824) (h : SzP n m) (w : World) : Calls Try.prog 54 #[.int .i64 n, .int .i64 m] w fun e w' => e = .returned (.bool true) ∧ Below w.heap.size w w' := by
  rw [← show SizeV n m = .bool true from (by unfold SizeV; repeat' split; all_goals try simp only [SzP] at *; all_goals first | rfl | (exact congrArg Value.bool (decide_eq_true (by omega))) | (exact congrArg Value.bool (decide_eq_false (by omega))) | (exfalso; omega))]; exact Size_any n m hm w
theorem Size_no {n m : Int} (hm : 0 ≤ m ∧ m ≤ 1073741824) (h : ¬ SzP n m) (w : World) : Calls Try.prog 54 #[.int .i64 n, .int .i64 m] w fun e w' => e = .returned (.bool false) ∧ Below w.heap.size w w' := by
  rw [← show SizeV n m = .bool false from (by unfold SizeV; repeat' split; all_goals try simp only [SzP] at *; all_goals first | rfl | (exact congrArg Value.bool (decide_eq_true (by omega))) | (exact congrArg Value.bool (decide_eq_false (by omega))) | (exfalso; omega))]; exact Size_any n m hm w

set_option maxRecDepth 100000 in
set_option maxHeartbeats 4000000 in
theorem BBox_w0 (x0 y0 x1 y1 f c : Int)   (dd0 : (-1048576) ≤ x0) (dd1 : x0 ≤ x1) (dd2 : x1 ≤ 1048576) (dd3 : (-1048576) ≤ y0) (dd4 : y0 ≤ y1) (dd5 : y1 ≤ 1048576) (dd6 : OkA f c) (w : World) :
    Calls Try.prog 16 #[.agg #[.int .i64 x0, .int .i64 y0, .int .i64 x1, .int .i64 y1, .int .i64 f, .int .i64 c]] w fun e w' => e = .returned (.bool true) ∧ Below w.heap.size w w' := by
  have H0 := Lib.hid (fun w => BA_yes dd6 w)
  have dd6b := And.intro dd6.f0 (And.intro dd6.f1 (And.intro dd6.c0 dd6.c1))
  obtain ⟨HB, B_z0⟩ := box1 w 23 #[.int .i64 x0, .int .i64 y0, .int .i64 x1, .int .i64 y1, .int .i64 f, .int .i64 c]
  go_enter Try.func16, Try.ntmps16
  go_upto_region 1 with (fail)
  generalize w.alloc (.cells #[.int .i64 x0, .int .i64 y0, .int .i64 x1, .int .i64 y1, .int .i64 f, .int .i64 c] 23) = W0 at *
  obtain ⟨c0z0, c1z0, c2z0, c3z0, c4z0, c5z0⟩ := cells6 B_z0
  go_wp2_with fail
  refine (H0.out _).mono ?_
  clear c0z0 c1z0 c2z0 c3z0 c4z0 c5z0
  rintro e w1 ⟨rfl, bb⟩
  replace bb := nextw (w0 := W0) (by exact sm) bb
  replace B_z0 := mv B_z0 bb
  replace HB := nx HB bb
  clear bb
  go_wp2
  go_ret
  exact ⟨(by first | rfl | exact rbt (by omega) | exact rbf (by omega)), nextw HB.out (by exact sm)⟩

set_option maxRecDepth 100000 in
set_option maxHeartbeats 4000000 in
theorem BBox_w1 (x0 y0 x1 y1 f c : Int)   (dd0 : x0 < (-1048576)) (w : World) :
    Calls Try.prog 16 #[.agg #[.int .i64 x0, .int .i64 y0, .int .i64 x1, .int .i64 y1, .int .i64 f, .int .i64 c]] w fun e w' => e = .returned (.bool false) ∧ Below w.heap.size w w' := by
  obtain ⟨HB, B_z0⟩ := box1 w 23 #[.int .i64 x0, .int .i64 y0, .int .i64 x1, .int .i64 y1, .int .i64 f, .int .i64 c]
  go_enter Try.func16, Try.ntmps16
  go_upto_region 1 with (fail)
  generalize w.alloc (.cells #[.int .i64 x0, .int .i64 y0, .int .i64 x1, .int .i64 y1, .int .i64 f, .int .i64 c] 23) = W0 at *
  obtain ⟨c0z0, c1z0, c2z0, c3z0, c4z0, c5z0⟩ := cells6 B_z0
  go_wp2
  go_ret
  exact ⟨(by first | rfl | exact rbt (by omega) | exact rbf (by omega)), nextw HB.out (by exact sm)⟩

set_option maxRecDepth 100000 in
set_option maxHeartbeats 4000000 in
theorem BBox_w2 (x0 y0 x1 y1 f c : Int)   (dd0 : (-1048576) ≤ x0) (dd1 : x1 < x0) (w : World) :
    Calls Try.prog 16 #[.agg #[.int .i64 x0, .int .i64 y0, .int .i64 x1, .int .i64 y1, .int .i64 f, .int .i64 c]] w fun e w' => e = .returned (.bool false) ∧ Below w.heap.size w w' := by
  obtain ⟨HB, B_z0⟩ := box1 w 23 #[.int .i64 x0, .int .i64 y0, .int .i64 x1, .int .i64 y1, .int .i64 f, .int .i64 c]
  go_enter Try.func16, Try.ntmps16
  go_upto_region 1 with (fail)
  generalize w.alloc (.cells #[.int .i64 x0, .int .i64 y0, .int .i64 x1, .int .i64 y1, .int .i64 f, .int .i64 c] 23) = W0 at *
  obtain ⟨c0z0, c1z0, c2z0, c3z0, c4z0, c5z0⟩ := cells6 B_z0
  go_wp2
  go_ret
  exact ⟨(by first | rfl | exact rbt (by omega) | exact rbf (by omega)), nextw HB.out (by exact sm)⟩

set_option maxRecDepth 100000 in
set_option maxHeartbeats 4000000 in
theorem BBox_w3 (x0 y0 x1 y1 f c : Int)   (dd0 : (-1048576) ≤ x0) (dd1 : x0 ≤ x1) (dd2 : 1048576 < x1) (w : World) :
    Calls Try.prog 16 #[.agg #[.int .i64 x0, .int .i64 y0, .int .i64 x1, .int .i64 y1, .int .i64 f, .int .i64 c]] w fun e w' => e = .returned (.bool false) ∧ Below w.heap.size w w' := by
  obtain ⟨HB, B_z0⟩ := box1 w 23 #[.int .i64 x0, .int .i64 y0, .int .i64 x1, .int .i64 y1, .int .i64 f, .int .i64 c]
  go_enter Try.func16, Try.ntmps16
  go_upto_region 1 with (fail)
  generalize w.alloc (.cells #[.int .i64 x0, .int .i64 y0, .int .i64 x1, .int .i64 y1, .int .i64 f, .int .i64 c] 23) = W0 at *
  obtain ⟨c0z0, c1z0, c2z0, c3z0, c4z0, c5z0⟩ := cells6 B_z0
  go_wp2
  go_ret
  exact ⟨(by first | rfl | exact rbt (by omega) | exact rbf (by omega)), nextw HB.out (by exact sm)⟩

set_option maxRecDepth 100000 in
set_option maxHeartbeats 4000000 in
theorem BBox_w4 (x0 y0 x1 y1 f c : Int)   (dd0 : (-1048576) ≤ x0) (dd1 : x0 ≤ x1) (dd2 : x1 ≤ 1048576) (dd3 : y0 < (-1048576)) (w : World) :
    Calls Try.prog 16 #[.agg #[.int .i64 x0, .int .i64 y0, .int .i64 x1, .int .i64 y1, .int .i64 f, .int .i64 c]] w fun e w' => e = .returned (.bool false) ∧ Below w.heap.size w w' := by
  obtain ⟨HB, B_z0⟩ := box1 w 23 #[.int .i64 x0, .int .i64 y0, .int .i64 x1, .int .i64 y1, .int .i64 f, .int .i64 c]
  go_enter Try.func16, Try.ntmps16
  go_upto_region 1 with (fail)
  generalize w.alloc (.cells #[.int .i64 x0, .int .i64 y0, .int .i64 x1, .int .i64 y1, .int .i64 f, .int .i64 c] 23) = W0 at *
  obtain ⟨c0z0, c1z0, c2z0, c3z0, c4z0, c5z0⟩ := cells6 B_z0
  go_wp2
  go_ret
  exact ⟨(by first | rfl | exact rbt (by omega) | exact rbf (by omega)), nextw HB.out (by exact sm)⟩

set_option maxRecDepth 100000 in
set_option maxHeartbeats 4000000 in
theorem BBox_w5 (x0 y0 x1 y1 f c : Int)   (dd0 : (-1048576) ≤ x0) (dd1 : x0 ≤ x1) (dd2 : x1 ≤ 1048576) (dd3 : (-1048576) ≤ y0) (dd4 : y1 < y0) (w : World) :
    Calls Try.prog 16 #[.agg #[.int .i64 x0, .int .i64 y0, .int .i64 x1, .int .i64 y1, .int .i64 f, .int .i64 c]] w fun e w' => e = .returned (.bool false) ∧ Below w.heap.size w w' := by
  obtain ⟨HB, B_z0⟩ := box1 w 23 #[.int .i64 x0, .int .i64 y0, .int .i64 x1, .int .i64 y1, .int .i64 f, .int .i64 c]
  go_enter Try.func16, Try.ntmps16
  go_upto_region 1 with (fail)
  generalize w.alloc (.cells #[.int .i64 x0, .int .i64 y0, .int .i64 x1, .int .i64 y1, .int .i64 f, .int .i64 c] 23) = W0 at *
  obtain ⟨c0z0, c1z0, c2z0, c3z0, c4z0, c5z0⟩ := cells6 B_z0
  go_wp2
  go_ret
  exact ⟨(by first | rfl | exact rbt (by omega) | exact rbf (by omega)), nextw HB.out (by exact sm)⟩

set_option maxRecDepth 100000 in
set_option maxHeartbeats 4000000 in
theorem BBox_w6 (x0 y0 x1 y1 f c : Int)   (dd0 : (-1048576) ≤ x0) (dd1 : x0 ≤ x1) (dd2 : x1 ≤ 1048576) (dd3 : (-1048576) ≤ y0) (dd4 : y0 ≤ y1) (dd5 : 1048576 < y1) (w : World) :
    Calls Try.prog 16 #[.agg #[.int .i64 x0, .int .i64 y0, .int .i64 x1, .int .i64 y1, .int .i64 f, .int .i64 c]] w fun e w' => e = .returned (.bool false) ∧ Below w.heap.size w w' := by
  obtain ⟨HB, B_z0⟩ := box1 w 23 #[.int .i64 x0, .int .i64 y0, .int .i64 x1, .int .i64 y1, .int .i64 f, .int .i64 c]
  go_enter Try.func16, Try.ntmps16
  go_upto_region 1 with (fail)
  generalize w.alloc (.cells #[.int .i64 x0, .int .i64 y0, .int .i64 x1, .int .i64 y1, .int .i64 f, .int .i64 c] 23) = W0 at *
  obtain ⟨c0z0, c1z0, c2z0, c3z0, c4z0, c5z0⟩ := cells6 B_z0
  go_wp2
  go_ret
  exact ⟨(by first | rfl | exact rbt (by omega) | exact rbf (by omega)), nextw HB.out (by exact sm)⟩

set_option maxRecDepth 100000 in
set_option maxHeartbeats 4000000 in
theorem BBox_w7 (x0 y0 x1 y1 f c : Int)   (dd0 : (-1048576) ≤ x0) (dd1 : x0 ≤ x1) (dd2 : x1 ≤ 1048576) (dd3 : (-1048576) ≤ y0) (dd4 : y0 ≤ y1) (dd5 : y1 ≤ 1048576) (dd6 : ¬ (OkA f c)) (w : World) :
    Calls Try.prog 16 #[.agg #[.int .i64 x0, .int .i64 y0, .int .i64 x1, .int .i64 y1, .int .i64 f, .int .i64 c]] w fun e w' => e = .returned (.bool false) ∧ Below w.heap.size w w' := by
  have H0 := Lib.hid (fun w => BA_no dd6 w)
  obtain ⟨HB, B_z0⟩ := box1 w 23 #[.int .i64 x0, .int .i64 y0, .int .i64 x1, .int .i64 y1, .int .i64 f, .int .i64 c]
  go_enter Try.func16, Try.ntmps16
  go_upto_region 1 with (fail)
  generalize w.alloc (.cells #[.int .i64 x0, .int .i64 y0, .int .i64 x1, .int .i64 y1, .int .i64 f, .int .i64 c] 23) = W0 at *
  obtain ⟨c0z0, c1z0, c2z0, c3z0, c4z0, c5z0⟩ := cells6 B_z0
  go_wp2_with fail
  refine (H0.out _).mono ?_
  clear c0z0 c1z0 c2z0 c3z0 c4z0 c5z0
  rintro e w1 ⟨rfl, bb⟩
  replace bb := nextw (w0 := W0) (by exact sm) bb
  replace B_z0 := mv B_z0 bb
  replace HB := nx HB bb
  clear bb
  go_wp2
  go_ret
  exact ⟨(by first | rfl | exact rbt (by omega) | exact rbf (by omega)), nextw HB.out (by exact sm)⟩

def BBoxV (x0 y0 x1 y1 f c : Int) : Value := if (-1048576) ≤ x0 then if x0 ≤ x1 then if x1 ≤ 1048576 then if (-1048576) ≤ y0 then if y0 ≤ y1 then if y1 ≤ 1048576 then if OkA f c then .bool true else .bool false else .bool false else .bool false else .bool false else .bool false else .bool false else .bool false
theorem BBox_any (x0 y0 x1 y1 f c : Int)  (w : World) :
    Calls Try.prog 16 #[.agg #[.int .i64 x0, .int .i64 y0, .int .i64 x1, .int .i64 y1, .int .i64 f, .int .i64 c]] w fun e w' => e = .returned (BBoxV x0 y0 x1 y1 f c) ∧ Below w.heap.size w w' := by
  unfold BBoxV
  by_cases dd0 : (-1048576) ≤ x0
  · rw [if_pos dd0]
    by_cases dd1 : x0 ≤ x1
    · rw [if_pos dd1]
      by_cases dd2 : x1 ≤ 1048576
      · rw [if_pos dd2]
        by_cases dd3 : (-1048576) ≤ y0
        · rw [if_pos dd3]
          by_cases dd4 : y0 ≤ y1
          · rw [if_pos dd4]
            by_cases dd5 : y1 ≤ 1048576
            · rw [if_pos dd5]
              by_cases dd6 : OkA f c
              · rw [if_pos dd6]
                exact BBox_w0 x0 y0 x1 y1 f c    dd0 dd1 dd2 dd3 dd4 dd5 dd6 w
              · rw [if_neg dd6]
                exact BBox_w7 x0 y0 x1 y1 f c    dd0 dd1 dd2 dd3 dd4 dd5 dd6 w
            · rw [if_neg dd5]
              exact BBox_w6 x0 y0 x1 y1 f c    dd0 dd1 dd2 dd3 dd4 (by omega) w
          · rw [if_neg dd4]
            exact BBox_w5 x0 y0 x1 y1 f c    dd0 dd1 dd2 dd3 (by omega) w
        · rw [if_neg dd3]
          exact BBox_w4 x0 y0 x1 y1 f c    dd0 dd1 dd2 (by omega) w
      · rw [if_neg dd2]
        exact BBox_w3 x0 y0 x1 y1 f c    dd0 dd1 (by omega) w
    · rw [if_neg dd1]
      exact BBox_w2 x0 y0 x1 y1 f c    dd0 (by omega) w
  · rw [if_neg dd0]
    exact BBox_w1 x0 y0 x1 y1 f c    (by omega) w

theorem BBox_yes {x0 y0 x1 y1 f c : Int} (h : OkB x0 y0 x1 y1 f c) (w : World) : Calls Try.prog 16 #[.agg #[.int .i64 x0, .int .i64 y0, .int .i64 x1, .int .i64 y1, .int .i64 f, .int .i64 c]] w fun e w' => e = .returned (.bool true) ∧ Below w.heap.size w w' := by
  rw [← show BBoxV x0 y0 x1 y1 f c = .bool true from (by unfold BBoxV; repeat' split; all_goals try simp only [OkB, OkA] at *; all_goals first | rfl | (exact congrArg Value.bool (decide_eq_true (by omega))) | (exact congrArg Value.bool (decide_eq_false (by omega))) | (exfalso; omega))]; exact BBox_any x0 y0 x1 y1 f c w
theorem BBox_no {x0 y0 x1 y1 f c : Int} (h : ¬ OkB x0 y0 x1 y1 f c) (w : World) : Calls Try.prog 16 #[.agg #[.int .i64 x0, .int .i64 y0, .int .i64 x1, .int .i64 y1, .int .i64 f, .int .i64 c]] w fun e w' => e = .returned (.bool false) ∧ Below w.heap.size w w' := by
  rw [← show BBoxV x0 y0 x1 y1 f c = .bool false from (by unfold BBoxV; repeat' split; all_goals try simp only [OkB, OkA] at *; all_goals first | rfl | (exact congrArg Value.bool (decide_eq_true (by omega))) | (exact congrArg Value.bool (decide_eq_false (by omega))) | (exfalso; omega))]; exact BBox_any x0 y0 x1 y1 f c w

set_option maxRecDepth 100000 in
set_option maxHeartbeats 4000000 in
theorem Move_w0 (x0 y0 x1 y1 f c a b k l : Int)   (dd0 : OkB x0 y0 x1 y1 f c) (dd1 : b < a) (w : World) :
    Calls Try.prog 33 #[.agg #[.int .i64 x0, .int .i64 y0, .int .i64 x1, .int .i64 y1, .int .i64 f, .int .i64 c], .int .i64 a, .int .i64 b, .int .i64 k, .int .i64 l] w fun e w' => e = .returned (.tuple #[.agg #[.int .i64 0, .int .i64 0, .int .i64 0, .int .i64 0, .int .i64 0, .int .i64 0], .int .i64 1]) ∧ Below w.heap.size w w' := by
  have H0 := Lib.hid (fun w => Valid_yes dd0 w)
  have dd0b := dd0.b
  obtain ⟨HB, B_z0, B_z1⟩ := box2 w 23 #[.int .i64 x0, .int .i64 y0, .int .i64 x1, .int .i64 y1, .int .i64 f, .int .i64 c] 23 #[.int .i64 0, .int .i64 0, .int .i64 0, .int .i64 0, .int .i64 0, .int .i64 0]
  go_enter Try.func33, Try.ntmps33
  go_upto_region 1 with (fail)
  generalize (w.alloc (.cells #[.int .i64 x0, .int .i64 y0, .int .i64 x1, .int .i64 y1, .int .i64 f, .int .i64 c] 23)).alloc (.cells #[.int .i64 0, .int .i64 0, .int .i64 0, .int .i64 0, .int .i64 0, .int .i64 0] 23) = W0 at *
  obtain ⟨c0z0, c1z0, c2z0, c3z0, c4z0, c5z0⟩ := cells6 B_z0
  go_wp2_with fail
  refine (H0.out _).mono ?_
  clear c0z0 c1z0 c2z0 c3z0 c4z0 c5z0
  rintro e w1 ⟨rfl, bb⟩
  replace bb := nextw (w0 := W0) (by exact sm) bb
  replace B_z0 := mv B_z0 bb
  replace B_z1 := mv B_z1 bb
  replace HB := nx HB bb
  clear bb
  obtain ⟨s0, s1, s2, s3, s4, s5⟩ := cells6 (stor6 B_z1 (.int .i64 0) (.int .i64 0) (.int .i64 0) (.int .i64 0) (.int .i64 0) (.int .i64 0))
  have HF := stb6 HB (y := w.heap.size + 1) (by omega) 0 (.int .i64 0) 1 (.int .i64 0) 2 (.int .i64 0) 3 (.int .i64 0) 4 (.int .i64 0) 5 (.int .i64 0)
  obtain ⟨c0z1, c1z1, c2z1, c3z1, c4z1, c5z1⟩ := cells6 B_z1
  obtain ⟨f0z1, f1z1, f2z1, f3z1, f4z1, f5z1⟩ := froz6 B_z1
  go_wp2_with fail
  exact bodyPost_ret (v := .tuple #[.agg #[.int .i64 0, .int .i64 0, .int .i64 0, .int .i64 0, .int .i64 0, .int .i64 0], .int .i64 1]) (by simp [results, Try.results33, go_sem, s0, s1, s2, s3, s4, s5]) rfl ⟨rfl, nextw HF.out (by exact sm)⟩

set_option maxRecDepth 100000 in
set_option maxHeartbeats 4000000 in
theorem Move_w1 (x0 y0 x1 y1 f c a b k l : Int)   (dd0 : ¬ (OkB x0 y0 x1 y1 f c)) (w : World) :
    Calls Try.prog 33 #[.agg #[.int .i64 x0, .int .i64 y0, .int .i64 x1, .int .i64 y1, .int .i64 f, .int .i64 c], .int .i64 a, .int .i64 b, .int .i64 k, .int .i64 l] w fun e w' => e = .returned (.tuple #[.agg #[.int .i64 0, .int .i64 0, .int .i64 0, .int .i64 0, .int .i64 0, .int .i64 0], .int .i64 1]) ∧ Below w.heap.size w w' := by
  have H0 := Lib.hid (fun w => Valid_no dd0 w)
  obtain ⟨HB, B_z0, B_z1⟩ := box2 w 23 #[.int .i64 x0, .int .i64 y0, .int .i64 x1, .int .i64 y1, .int .i64 f, .int .i64 c] 23 #[.int .i64 0, .int .i64 0, .int .i64 0, .int .i64 0, .int .i64 0, .int .i64 0]
  go_enter Try.func33, Try.ntmps33
  go_upto_region 1 with (fail)
  generalize (w.alloc (.cells #[.int .i64 x0, .int .i64 y0, .int .i64 x1, .int .i64 y1, .int .i64 f, .int .i64 c] 23)).alloc (.cells #[.int .i64 0, .int .i64 0, .int .i64 0, .int .i64 0, .int .i64 0, .int .i64 0] 23) = W0 at *
  obtain ⟨c0z0, c1z0, c2z0, c3z0, c4z0, c5z0⟩ := cells6 B_z0
  go_wp2_with fail
  refine (H0.out _).mono ?_
  clear c0z0 c1z0 c2z0 c3z0 c4z0 c5z0
  rintro e w1 ⟨rfl, bb⟩
  replace bb := nextw (w0 := W0) (by exact sm) bb
  replace B_z0 := mv B_z0 bb
  replace B_z1 := mv B_z1 bb
  replace HB := nx HB bb
  clear bb
  obtain ⟨s0, s1, s2, s3, s4, s5⟩ := cells6 (stor6 B_z1 (.int .i64 0) (.int .i64 0) (.int .i64 0) (.int .i64 0) (.int .i64 0) (.int .i64 0))
  have HF := stb6 HB (y := w.heap.size + 1) (by omega) 0 (.int .i64 0) 1 (.int .i64 0) 2 (.int .i64 0) 3 (.int .i64 0) 4 (.int .i64 0) 5 (.int .i64 0)
  obtain ⟨c0z1, c1z1, c2z1, c3z1, c4z1, c5z1⟩ := cells6 B_z1
  obtain ⟨f0z1, f1z1, f2z1, f3z1, f4z1, f5z1⟩ := froz6 B_z1
  go_wp2_with fail
  exact bodyPost_ret (v := .tuple #[.agg #[.int .i64 0, .int .i64 0, .int .i64 0, .int .i64 0, .int .i64 0, .int .i64 0], .int .i64 1]) (by simp [results, Try.results33, go_sem, s0, s1, s2, s3, s4, s5]) rfl ⟨rfl, nextw HF.out (by exact sm)⟩

set_option maxRecDepth 100000 in
set_option maxHeartbeats 4000000 in
theorem Move_w2 (x0 y0 x1 y1 f c a b k l : Int)   (dd0 : OkB x0 y0 x1 y1 f c) (dd1 : a ≤ b) (dd2 : l < k) (w : World) :
    Calls Try.prog 33 #[.agg #[.int .i64 x0, .int .i64 y0, .int .i64 x1, .int .i64 y1, .int .i64 f, .int .i64 c], .int .i64 a, .int .i64 b, .int .i64 k, .int .i64 l] w fun e w' => e = .returned (.tuple #[.agg #[.int .i64 0, .int .i64 0, .int .i64 0, .int .i64 0, .int .i64 0, .int .i64 0], .int .i64 1]) ∧ Below w.heap.size w w' := by
  have H0 := Lib.hid (fun w => Valid_yes dd0 w)
  have dd0b := dd0.b
  obtain ⟨HB, B_z0, B_z1⟩ := box2 w 23 #[.int .i64 x0, .int .i64 y0, .int .i64 x1, .int .i64 y1, .int .i64 f, .int .i64 c] 23 #[.int .i64 0, .int .i64 0, .int .i64 0, .int .i64 0, .int .i64 0, .int .i64 0]
  go_enter Try.func33, Try.ntmps33
  go_upto_region 1 with (fail)
  generalize (w.alloc (.cells #[.int .i64 x0, .int .i64 y0, .int .i64 x1, .int .i64 y1, .int .i64 f, .int .i64 c] 23)).alloc (.cells #[.int .i64 0, .int .i64 0, .int .i64 0, .int .i64 0, .int .i64 0, .int .i64 0] 23) = W0 at *
  obtain ⟨c0z0, c1z0, c2z0, c3z0, c4z0, c5z0⟩ := cells6 B_z0
  go_wp2_with fail
  refine (H0.out _).mono ?_
  clear c0z0 c1z0 c2z0 c3z0 c4z0 c5z0
  rintro e w1 ⟨rfl, bb⟩
  replace bb := nextw (w0 := W0) (by exact sm) bb
  replace B_z0 := mv B_z0 bb
  replace B_z1 := mv B_z1 bb
  replace HB := nx HB bb
  clear bb
  obtain ⟨s0, s1, s2, s3, s4, s5⟩ := cells6 (stor6 B_z1 (.int .i64 0) (.int .i64 0) (.int .i64 0) (.int .i64 0) (.int .i64 0) (.int .i64 0))
  have HF := stb6 HB (y := w.heap.size + 1) (by omega) 0 (.int .i64 0) 1 (.int .i64 0) 2 (.int .i64 0) 3 (.int .i64 0) 4 (.int .i64 0) 5 (.int .i64 0)
  obtain ⟨c0z1, c1z1, c2z1, c3z1, c4z1, c5z1⟩ := cells6 B_z1
  obtain ⟨f0z1, f1z1, f2z1, f3z1, f4z1, f5z1⟩ := froz6 B_z1
  go_wp2_with fail
  exact bodyPost_ret (v := .tuple #[.agg #[.int .i64 0, .int .i64 0, .int .i64 0, .int .i64 0, .int .i64 0, .int .i64 0], .int .i64 1]) (by simp [results, Try.results33, go_sem, s0, s1, s2, s3, s4, s5]) rfl ⟨rfl, nextw HF.out (by exact sm)⟩

set_option maxRecDepth 100000 in
set_option maxHeartbeats 4000000 in
theorem Move_w3 (x0 y0 x1 y1 f c a b k l : Int)   (dd0 : OkB x0 y0 x1 y1 f c) (dd1 : a ≤ b) (dd2 : k ≤ l) (dd3 : Rch x0 a) (dd4 : Rch x1 b) (dd5 : Rch y0 k) (dd6 : Rch y1 l) (w : World) :
    Calls Try.prog 33 #[.agg #[.int .i64 x0, .int .i64 y0, .int .i64 x1, .int .i64 y1, .int .i64 f, .int .i64 c], .int .i64 a, .int .i64 b, .int .i64 k, .int .i64 l] w fun e w' => e = .returned (.tuple #[.agg #[.int .i64 (x0 + a), .int .i64 (y0 + k), .int .i64 (x1 + b), .int .i64 (y1 + l), .int .i64 f, .int .i64 c], .int .i64 0]) ∧ Below w.heap.size w w' := by
  have H0 := Lib.hid (fun w => Valid_yes dd0 w)
  have H1 := Lib.hid (fun w => reaches_yes ⟨dd0.x.1, by have := dd0.x; omega⟩ dd3 w)
  have H2 := Lib.hid (fun w => reaches_yes ⟨by have := dd0.x; omega, dd0.x.2.2⟩ dd4 w)
  have H3 := Lib.hid (fun w => reaches_yes ⟨dd0.y.1, by have := dd0.y; omega⟩ dd5 w)
  have H4 := Lib.hid (fun w => reaches_yes ⟨by have := dd0.y; omega, dd0.y.2.2⟩ dd6 w)
  have dd0b := dd0.b
  have dd3b := dd3
  unfold Rch at dd3b
  have dd4b := dd4
  unfold Rch at dd4b
  have dd5b := dd5
  unfold Rch at dd5b
  have dd6b := dd6
  unfold Rch at dd6b
  obtain ⟨HB, B_z0, B_z1⟩ := box2 w 23 #[.int .i64 x0, .int .i64 y0, .int .i64 x1, .int .i64 y1, .int .i64 f, .int .i64 c] 23 #[.int .i64 0, .int .i64 0, .int .i64 0, .int .i64 0, .int .i64 0, .int .i64 0]
  go_enter Try.func33, Try.ntmps33
  go_upto_region 1 with (fail)
  generalize (w.alloc (.cells #[.int .i64 x0, .int .i64 y0, .int .i64 x1, .int .i64 y1, .int .i64 f, .int .i64 c] 23)).alloc (.cells #[.int .i64 0, .int .i64 0, .int .i64 0, .int .i64 0, .int .i64 0, .int .i64 0] 23) = W0 at *
  obtain ⟨c0z0, c1z0, c2z0, c3z0, c4z0, c5z0⟩ := cells6 B_z0
  go_wp2_with fail
  refine (H0.out _).mono ?_
  clear c0z0 c1z0 c2z0 c3z0 c4z0 c5z0
  rintro e w1 ⟨rfl, bb⟩
  replace bb := nextw (w0 := W0) (by exact sm) bb
  replace B_z0 := mv B_z0 bb
  replace B_z1 := mv B_z1 bb
  replace HB := nx HB bb
  clear bb
  obtain ⟨c0z0, c1z0, c2z0, c3z0, c4z0, c5z0⟩ := cells6 B_z0
  go_wp2_with fail
  refine (H1.out _).mono ?_
  clear c0z0 c1z0 c2z0 c3z0 c4z0 c5z0
  rintro e w2 ⟨rfl, bb⟩
  replace bb := nextw (w0 := w1) (by exact sm) bb
  replace B_z0 := mv B_z0 bb
  replace B_z1 := mv B_z1 bb
  replace HB := nx HB bb
  clear bb
  obtain ⟨c0z0, c1z0, c2z0, c3z0, c4z0, c5z0⟩ := cells6 B_z0
  go_wp2_with fail
  refine (H2.out _).mono ?_
  clear c0z0 c1z0 c2z0 c3z0 c4z0 c5z0
  rintro e w3 ⟨rfl, bb⟩
  replace bb := nextw (w0 := w2) (by exact sm) bb
  replace B_z0 := mv B_z0 bb
  replace B_z1 := mv B_z1 bb
  replace HB := nx HB bb
  clear bb
  obtain ⟨c0z0, c1z0, c2z0, c3z0, c4z0, c5z0⟩ := cells6 B_z0
  go_wp2_with fail
  refine (H3.out _).mono ?_
  clear c0z0 c1z0 c2z0 c3z0 c4z0 c5z0
  rintro e w4 ⟨rfl, bb⟩
  replace bb := nextw (w0 := w3) (by exact sm) bb
  replace B_z0 := mv B_z0 bb
  replace B_z1 := mv B_z1 bb
  replace HB := nx HB bb
  clear bb
  obtain ⟨c0z0, c1z0, c2z0, c3z0, c4z0, c5z0⟩ := cells6 B_z0
  go_wp2_with fail
  refine (H4.out _).mono ?_
  clear c0z0 c1z0 c2z0 c3z0 c4z0 c5z0
  rintro e w5 ⟨rfl, bb⟩
  replace bb := nextw (w0 := w4) (by exact sm) bb
  replace B_z0 := mv B_z0 bb
  replace B_z1 := mv B_z1 bb
  replace HB := nx HB bb
  clear bb
  obtain ⟨c0z0, c1z0, c2z0, c3z0, c4z0, c5z0⟩ := cells6 B_z0
  obtain ⟨s0, s1, s2, s3, s4, s5⟩ := cells6 (stor6 B_z1 (.int .i64 (x0 + a)) (.int .i64 (y0 + k)) (.int .i64 (x1 + b)) (.int .i64 (y1 + l)) (.int .i64 f) (.int .i64 c))
  have HF := stb6 HB (y := w.heap.size + 1) (by omega) 0 (.int .i64 (x0 + a)) 1 (.int .i64 (y0 + k)) 2 (.int .i64 (x1 + b)) 3 (.int .i64 (y1 + l)) 4 (.int .i64 f) 5 (.int .i64 c)
  obtain ⟨c0z1, c1z1, c2z1, c3z1, c4z1, c5z1⟩ := cells6 B_z1
  obtain ⟨f0z1, f1z1, f2z1, f3z1, f4z1, f5z1⟩ := froz6 B_z1
  go_wp2_with fail
  exact bodyPost_ret (v := .tuple #[.agg #[.int .i64 (x0 + a), .int .i64 (y0 + k), .int .i64 (x1 + b), .int .i64 (y1 + l), .int .i64 f, .int .i64 c], .int .i64 0]) (by simp [results, Try.results33, go_sem, s0, s1, s2, s3, s4, s5]) rfl ⟨rfl, nextw HF.out (by exact sm)⟩

set_option maxRecDepth 100000 in
set_option maxHeartbeats 4000000 in
theorem Move_w4 (x0 y0 x1 y1 f c a b k l : Int)   (dd0 : OkB x0 y0 x1 y1 f c) (dd1 : a ≤ b) (dd2 : k ≤ l) (dd3 : ¬ (Rch x0 a)) (w : World) :
    Calls Try.prog 33 #[.agg #[.int .i64 x0, .int .i64 y0, .int .i64 x1, .int .i64 y1, .int .i64 f, .int .i64 c], .int .i64 a, .int .i64 b, .int .i64 k, .int .i64 l] w fun e w' => e = .returned (.tuple #[.agg #[.int .i64 0, .int .i64 0, .int .i64 0, .int .i64 0, .int .i64 0, .int .i64 0], .int .i64 2]) ∧ Below w.heap.size w w' := by
  have H0 := Lib.hid (fun w => Valid_yes dd0 w)
  have H1 := Lib.hid (fun w => reaches_no ⟨dd0.x.1, by have := dd0.x; omega⟩ dd3 w)
  have dd0b := dd0.b
  have dd3b := dd3
  unfold Rch at dd3b
  obtain ⟨HB, B_z0, B_z1⟩ := box2 w 23 #[.int .i64 x0, .int .i64 y0, .int .i64 x1, .int .i64 y1, .int .i64 f, .int .i64 c] 23 #[.int .i64 0, .int .i64 0, .int .i64 0, .int .i64 0, .int .i64 0, .int .i64 0]
  go_enter Try.func33, Try.ntmps33
  go_upto_region 1 with (fail)
  generalize (w.alloc (.cells #[.int .i64 x0, .int .i64 y0, .int .i64 x1, .int .i64 y1, .int .i64 f, .int .i64 c] 23)).alloc (.cells #[.int .i64 0, .int .i64 0, .int .i64 0, .int .i64 0, .int .i64 0, .int .i64 0] 23) = W0 at *
  obtain ⟨c0z0, c1z0, c2z0, c3z0, c4z0, c5z0⟩ := cells6 B_z0
  go_wp2_with fail
  refine (H0.out _).mono ?_
  clear c0z0 c1z0 c2z0 c3z0 c4z0 c5z0
  rintro e w1 ⟨rfl, bb⟩
  replace bb := nextw (w0 := W0) (by exact sm) bb
  replace B_z0 := mv B_z0 bb
  replace B_z1 := mv B_z1 bb
  replace HB := nx HB bb
  clear bb
  obtain ⟨c0z0, c1z0, c2z0, c3z0, c4z0, c5z0⟩ := cells6 B_z0
  go_wp2_with fail
  refine (H1.out _).mono ?_
  clear c0z0 c1z0 c2z0 c3z0 c4z0 c5z0
  rintro e w2 ⟨rfl, bb⟩
  replace bb := nextw (w0 := w1) (by exact sm) bb
  replace B_z0 := mv B_z0 bb
  replace B_z1 := mv B_z1 bb
  replace HB := nx HB bb
  clear bb
  obtain ⟨s0, s1, s2, s3, s4, s5⟩ := cells6 (stor6 B_z1 (.int .i64 0) (.int .i64 0) (.int .i64 0) (.int .i64 0) (.int .i64 0) (.int .i64 0))
  have HF := stb6 HB (y := w.heap.size + 1) (by omega) 0 (.int .i64 0) 1 (.int .i64 0) 2 (.int .i64 0) 3 (.int .i64 0) 4 (.int .i64 0) 5 (.int .i64 0)
  obtain ⟨c0z1, c1z1, c2z1, c3z1, c4z1, c5z1⟩ := cells6 B_z1
  obtain ⟨f0z1, f1z1, f2z1, f3z1, f4z1, f5z1⟩ := froz6 B_z1
  go_wp2_with fail
  exact bodyPost_ret (v := .tuple #[.agg #[.int .i64 0, .int .i64 0, .int .i64 0, .int .i64 0, .int .i64 0, .int .i64 0], .int .i64 2]) (by simp [results, Try.results33, go_sem, s0, s1, s2, s3, s4, s5]) rfl ⟨rfl, nextw HF.out (by exact sm)⟩

set_option maxRecDepth 100000 in
set_option maxHeartbeats 4000000 in
theorem Move_w5 (x0 y0 x1 y1 f c a b k l : Int)   (dd0 : OkB x0 y0 x1 y1 f c) (dd1 : a ≤ b) (dd2 : k ≤ l) (dd3 : Rch x0 a) (dd4 : ¬ (Rch x1 b)) (w : World) :
    Calls Try.prog 33 #[.agg #[.int .i64 x0, .int .i64 y0, .int .i64 x1, .int .i64 y1, .int .i64 f, .int .i64 c], .int .i64 a, .int .i64 b, .int .i64 k, .int .i64 l] w fun e w' => e = .returned (.tuple #[.agg #[.int .i64 0, .int .i64 0, .int .i64 0, .int .i64 0, .int .i64 0, .int .i64 0], .int .i64 2]) ∧ Below w.heap.size w w' := by
  have H0 := Lib.hid (fun w => Valid_yes dd0 w)
  have H1 := Lib.hid (fun w => reaches_yes ⟨dd0.x.1, by have := dd0.x; omega⟩ dd3 w)
  have H2 := Lib.hid (fun w => reaches_no ⟨by have := dd0.x; omega, dd0.x.2.2⟩ dd4 w)
  have dd0b := dd0.b
  have dd3b := dd3
  unfold Rch at dd3b
  have dd4b := dd4
  unfold Rch at dd4b
  obtain ⟨HB, B_z0, B_z1⟩ := box2 w 23 #[.int .i64 x0, .int .i64 y0, .int .i64 x1, .int .i64 y1, .int .i64 f, .int .i64 c] 23 #[.int .i64 0, .int .i64 0, .int .i64 0, .int .i64 0, .int .i64 0, .int .i64 0]
  go_enter Try.func33, Try.ntmps33
  go_upto_region 1 with (fail)
  generalize (w.alloc (.cells #[.int .i64 x0, .int .i64 y0, .int .i64 x1, .int .i64 y1, .int .i64 f, .int .i64 c] 23)).alloc (.cells #[.int .i64 0, .int .i64 0, .int .i64 0, .int .i64 0, .int .i64 0, .int .i64 0] 23) = W0 at *
  obtain ⟨c0z0, c1z0, c2z0, c3z0, c4z0, c5z0⟩ := cells6 B_z0
  go_wp2_with fail
  refine (H0.out _).mono ?_
  clear c0z0 c1z0 c2z0 c3z0 c4z0 c5z0
  rintro e w1 ⟨rfl, bb⟩
  replace bb := nextw (w0 := W0) (by exact sm) bb
  replace B_z0 := mv B_z0 bb
  replace B_z1 := mv B_z1 bb
  replace HB := nx HB bb
  clear bb
  obtain ⟨c0z0, c1z0, c2z0, c3z0, c4z0, c5z0⟩ := cells6 B_z0
  go_wp2_with fail
  refine (H1.out _).mono ?_
  clear c0z0 c1z0 c2z0 c3z0 c4z0 c5z0
  rintro e w2 ⟨rfl, bb⟩
  replace bb := nextw (w0 := w1) (by exact sm) bb
  replace B_z0 := mv B_z0 bb
  replace B_z1 := mv B_z1 bb
  replace HB := nx HB bb
  clear bb
  obtain ⟨c0z0, c1z0, c2z0, c3z0, c4z0, c5z0⟩ := cells6 B_z0
  go_wp2_with fail
  refine (H2.out _).mono ?_
  clear c0z0 c1z0 c2z0 c3z0 c4z0 c5z0
  rintro e w3 ⟨rfl, bb⟩
  replace bb := nextw (w0 := w2) (by exact sm) bb
  replace B_z0 := mv B_z0 bb
  replace B_z1 := mv B_z1 bb
  replace HB := nx HB bb
  clear bb
  obtain ⟨s0, s1, s2, s3, s4, s5⟩ := cells6 (stor6 B_z1 (.int .i64 0) (.int .i64 0) (.int .i64 0) (.int .i64 0) (.int .i64 0) (.int .i64 0))
  have HF := stb6 HB (y := w.heap.size + 1) (by omega) 0 (.int .i64 0) 1 (.int .i64 0) 2 (.int .i64 0) 3 (.int .i64 0) 4 (.int .i64 0) 5 (.int .i64 0)
  obtain ⟨c0z1, c1z1, c2z1, c3z1, c4z1, c5z1⟩ := cells6 B_z1
  obtain ⟨f0z1, f1z1, f2z1, f3z1, f4z1, f5z1⟩ := froz6 B_z1
  go_wp2_with fail
  exact bodyPost_ret (v := .tuple #[.agg #[.int .i64 0, .int .i64 0, .int .i64 0, .int .i64 0, .int .i64 0, .int .i64 0], .int .i64 2]) (by simp [results, Try.results33, go_sem, s0, s1, s2, s3, s4, s5]) rfl ⟨rfl, nextw HF.out (by exact sm)⟩

set_option maxRecDepth 100000 in
set_option maxHeartbeats 4000000 in
theorem Move_w6 (x0 y0 x1 y1 f c a b k l : Int)   (dd0 : OkB x0 y0 x1 y1 f c) (dd1 : a ≤ b) (dd2 : k ≤ l) (dd3 : Rch x0 a) (dd4 : Rch x1 b) (dd5 : ¬ (Rch y0 k)) (w : World) :
    Calls Try.prog 33 #[.agg #[.int .i64 x0, .int .i64 y0, .int .i64 x1, .int .i64 y1, .int .i64 f, .int .i64 c], .int .i64 a, .int .i64 b, .int .i64 k, .int .i64 l] w fun e w' => e = .returned (.tuple #[.agg #[.int .i64 0, .int .i64 0, .int .i64 0, .int .i64 0, .int .i64 0, .int .i64 0], .int .i64 2]) ∧ Below w.heap.size w w' := by
  have H0 := Lib.hid (fun w => Valid_yes dd0 w)
  have H1 := Lib.hid (fun w => reaches_yes ⟨dd0.x.1, by have := dd0.x; omega⟩ dd3 w)
  have H2 := Lib.hid (fun w => reaches_yes ⟨by have := dd0.x; omega, dd0.x.2.2⟩ dd4 w)
  have H3 := Lib.hid (fun w => reaches_no ⟨dd0.y.1, by have := dd0.y; omega⟩ dd5 w)
  have dd0b := dd0.b
  have dd3b := dd3
  unfold Rch at dd3b
  have dd4b := dd4
  unfold Rch at dd4b
  have dd5b := dd5
  unfold Rch at dd5b
  obtain ⟨HB, B_z0, B_z1⟩ := box2 w 23 #[.int .i64 x0, .int .i64 y0, .int .i64 x1, .int .i64 y1, .int .i64 f, .int .i64 c] 23 #[.int .i64 0, .int .i64 0, .int .i64 0, .int .i64 0, .int .i64 0, .int .i64 0]
  go_enter Try.func33, Try.ntmps33
  go_upto_region 1 with (fail)
  generalize (w.alloc (.cells #[.int .i64 x0, .int .i64 y0, .int .i64 x1, .int .i64 y1, .int .i64 f, .int .i64 c] 23)).alloc (.cells #[.int .i64 0, .int .i64 0, .int .i64 0, .int .i64 0, .int .i64 0, .int .i64 0] 23) = W0 at *
  obtain ⟨c0z0, c1z0, c2z0, c3z0, c4z0, c5z0⟩ := cells6 B_z0
  go_wp2_with fail
  refine (H0.out _).mono ?_
  clear c0z0 c1z0 c2z0 c3z0 c4z0 c5z0
  rintro e w1 ⟨rfl, bb⟩
  replace bb := nextw (w0 := W0) (by exact sm) bb
  replace B_z0 := mv B_z0 bb
  replace B_z1 := mv B_z1 bb
  replace HB := nx HB bb
  clear bb
  obtain ⟨c0z0, c1z0, c2z0, c3z0, c4z0, c5z0⟩ := cells6 B_z0
  go_wp2_with fail
  refine (H1.out _).mono ?_
  clear c0z0 c1z0 c2z0 c3z0 c4z0 c5z0
  rintro e w2 ⟨rfl, bb⟩
  replace bb := nextw (w0 := w1) (by exact sm) bb
  replace B_z0 := mv B_z0 bb
  replace B_z1 := mv B_z1 bb
  replace HB := nx HB bb
  clear bb
  obtain ⟨c0z0, c1z0, c2z0, c3z0, c4z0, c5z0⟩ := cells6 B_z0
  go_wp2_with fail
  refine (H2.out _).mono ?_
  clear c0z0 c1z0 c2z0 c3z0 c4z0 c5z0
  rintro e w3 ⟨rfl, bb⟩
  replace bb := nextw (w0 := w2) (by exact sm) bb
  replace B_z0 := mv B_z0 bb
  replace B_z1 := mv B_z1 bb
  replace HB := nx HB bb
  clear bb
  obtain ⟨c0z0, c1z0, c2z0, c3z0, c4z0, c5z0⟩ := cells6 B_z0
  go_wp2_with fail
  refine (H3.out _).mono ?_
  clear c0z0 c1z0 c2z0 c3z0 c4z0 c5z0
  rintro e w4 ⟨rfl, bb⟩
  replace bb := nextw (w0 := w3) (by exact sm) bb
  replace B_z0 := mv B_z0 bb
  replace B_z1 := mv B_z1 bb
  replace HB := nx HB bb
  clear bb
  obtain ⟨s0, s1, s2, s3, s4, s5⟩ := cells6 (stor6 B_z1 (.int .i64 0) (.int .i64 0) (.int .i64 0) (.int .i64 0) (.int .i64 0) (.int .i64 0))
  have HF := stb6 HB (y := w.heap.size + 1) (by omega) 0 (.int .i64 0) 1 (.int .i64 0) 2 (.int .i64 0) 3 (.int .i64 0) 4 (.int .i64 0) 5 (.int .i64 0)
  obtain ⟨c0z1, c1z1, c2z1, c3z1, c4z1, c5z1⟩ := cells6 B_z1
  obtain ⟨f0z1, f1z1, f2z1, f3z1, f4z1, f5z1⟩ := froz6 B_z1
  go_wp2_with fail
  exact bodyPost_ret (v := .tuple #[.agg #[.int .i64 0, .int .i64 0, .int .i64 0, .int .i64 0, .int .i64 0, .int .i64 0], .int .i64 2]) (by simp [results, Try.results33, go_sem, s0, s1, s2, s3, s4, s5]) rfl ⟨rfl, nextw HF.out (by exact sm)⟩

set_option maxRecDepth 100000 in
set_option maxHeartbeats 4000000 in
theorem Move_w7 (x0 y0 x1 y1 f c a b k l : Int)   (dd0 : OkB x0 y0 x1 y1 f c) (dd1 : a ≤ b) (dd2 : k ≤ l) (dd3 : Rch x0 a) (dd4 : Rch x1 b) (dd5 : Rch y0 k) (dd6 : ¬ (Rch y1 l)) (w : World) :
    Calls Try.prog 33 #[.agg #[.int .i64 x0, .int .i64 y0, .int .i64 x1, .int .i64 y1, .int .i64 f, .int .i64 c], .int .i64 a, .int .i64 b, .int .i64 k, .int .i64 l] w fun e w' => e = .returned (.tuple #[.agg #[.int .i64 0, .int .i64 0, .int .i64 0, .int .i64 0, .int .i64 0, .int .i64 0], .int .i64 2]) ∧ Below w.heap.size w w' := by
  have H0 := Lib.hid (fun w => Valid_yes dd0 w)
  have H1 := Lib.hid (fun w => reaches_yes ⟨dd0.x.1, by have := dd0.x; omega⟩ dd3 w)
  have H2 := Lib.hid (fun w => reaches_yes ⟨by have := dd0.x; omega, dd0.x.2.2⟩ dd4 w)
  have H3 := Lib.hid (fun w => reaches_yes ⟨dd0.y.1, by have := dd0.y; omega⟩ dd5 w)
  have H4 := Lib.hid (fun w => reaches_no ⟨by have := dd0.y; omega, dd0.y.2.2⟩ dd6 w)
  have dd0b := dd0.b
  have dd3b := dd3
  unfold Rch at dd3b
  have dd4b := dd4
  unfold Rch at dd4b
  have dd5b := dd5
  unfold Rch at dd5b
  have dd6b := dd6
  unfold Rch at dd6b
  obtain ⟨HB, B_z0, B_z1⟩ := box2 w 23 #[.int .i64 x0, .int .i64 y0, .int .i64 x1, .int .i64 y1, .int .i64 f, .int .i64 c] 23 #[.int .i64 0, .int .i64 0, .int .i64 0, .int .i64 0, .int .i64 0, .int .i64 0]
  go_enter Try.func33, Try.ntmps33
  go_upto_region 1 with (fail)
  generalize (w.alloc (.cells #[.int .i64 x0, .int .i64 y0, .int .i64 x1, .int .i64 y1, .int .i64 f, .int .i64 c] 23)).alloc (.cells #[.int .i64 0, .int .i64 0, .int .i64 0, .int .i64 0, .int .i64 0, .int .i64 0] 23) = W0 at *
  obtain ⟨c0z0, c1z0, c2z0, c3z0, c4z0, c5z0⟩ := cells6 B_z0
  go_wp2_with fail
  refine (H0.out _).mono ?_
  clear c0z0 c1z0 c2z0 c3z0 c4z0 c5z0
  rintro e w1 ⟨rfl, bb⟩
  replace bb := nextw (w0 := W0) (by exact sm) bb
  replace B_z0 := mv B_z0 bb
  replace B_z1 := mv B_z1 bb
  replace HB := nx HB bb
  clear bb
  obtain ⟨c0z0, c1z0, c2z0, c3z0, c4z0, c5z0⟩ := cells6 B_z0
  go_wp2_with fail
  refine (H1.out _).mono ?_
  clear c0z0 c1z0 c2z0 c3z0 c4z0 c5z0
  rintro e w2 ⟨rfl, bb⟩
  replace bb := nextw (w0 := w1) (by exact sm) bb
  replace B_z0 := mv B_z0 bb
  replace B_z1 := mv B_z1 bb
  replace HB := nx HB bb
  clear bb
  obtain ⟨c0z0, c1z0, c2z0, c3z0, c4z0, c5z0⟩ := cells6 B_z0
  go_wp2_with fail
  refine (H2.out _).mono ?_
  clear c0z0 c1z0 c2z0 c3z0 c4z0 c5z0
  rintro e w3 ⟨rfl, bb⟩
  replace bb := nextw (w0 := w2) (by exact sm) bb
  replace B_z0 := mv B_z0 bb
  replace B_z1 := mv B_z1 bb
  replace HB := nx HB bb
  clear bb
  obtain ⟨c0z0, c1z0, c2z0, c3z0, c4z0, c5z0⟩ := cells6 B_z0
  go_wp2_with fail
  refine (H3.out _).mono ?_
  clear c0z0 c1z0 c2z0 c3z0 c4z0 c5z0
  rintro e w4 ⟨rfl, bb⟩
  replace bb := nextw (w0 := w3) (by exact sm) bb
  replace B_z0 := mv B_z0 bb
  replace B_z1 := mv B_z1 bb
  replace HB := nx HB bb
  clear bb
  obtain ⟨c0z0, c1z0, c2z0, c3z0, c4z0, c5z0⟩ := cells6 B_z0
  go_wp2_with fail
  refine (H4.out _).mono ?_
  clear c0z0 c1z0 c2z0 c3z0 c4z0 c5z0
  rintro e w5 ⟨rfl, bb⟩
  replace bb := nextw (w0 := w4) (by exact sm) bb
  replace B_z0 := mv B_z0 bb
  replace B_z1 := mv B_z1 bb
  replace HB := nx HB bb
  clear bb
  obtain ⟨s0, s1, s2, s3, s4, s5⟩ := cells6 (stor6 B_z1 (.int .i64 0) (.int .i64 0) (.int .i64 0) (.int .i64 0) (.int .i64 0) (.int .i64 0))
  have HF := stb6 HB (y := w.heap.size + 1) (by omega) 0 (.int .i64 0) 1 (.int .i64 0) 2 (.int .i64 0) 3 (.int .i64 0) 4 (.int .i64 0) 5 (.int .i64 0)
  obtain ⟨c0z1, c1z1, c2z1, c3z1, c4z1, c5z1⟩ := cells6 B_z1
  obtain ⟨f0z1, f1z1, f2z1, f3z1, f4z1, f5z1⟩ := froz6 B_z1
  go_wp2_with fail
  exact bodyPost_ret (v := .tuple #[.agg #[.int .i64 0, .int .i64 0, .int .i64 0, .int .i64 0, .int .i64 0, .int .i64 0], .int .i64 2]) (by simp [results, Try.results33, go_sem, s0, s1, s2, s3, s4, s5]) rfl ⟨rfl, nextw HF.out (by exact sm)⟩

def MoveV (x0 y0 x1 y1 f c a b k l : Int) : Value := if OkB x0 y0 x1 y1 f c then if b < a then .tuple #[.agg #[.int .i64 0, .int .i64 0, .int .i64 0, .int .i64 0, .int .i64 0, .int .i64 0], .int .i64 1] else if l < k then .tuple #[.agg #[.int .i64 0, .int .i64 0, .int .i64 0, .int .i64 0, .int .i64 0, .int .i64 0], .int .i64 1] else if Rch x0 a then if Rch x1 b then if Rch y0 k then if Rch y1 l then .tuple #[.agg #[.int .i64 (x0 + a), .int .i64 (y0 + k), .int .i64 (x1 + b), .int .i64 (y1 + l), .int .i64 f, .int .i64 c], .int .i64 0] else .tuple #[.agg #[.int .i64 0, .int .i64 0, .int .i64 0, .int .i64 0, .int .i64 0, .int .i64 0], .int .i64 2] else .tuple #[.agg #[.int .i64 0, .int .i64 0, .int .i64 0, .int .i64 0, .int .i64 0, .int .i64 0], .int .i64 2] else .tuple #[.agg #[.int .i64 0, .int .i64 0, .int .i64 0, .int .i64 0, .int .i64 0, .int .i64 0], .int .i64 2] else .tuple #[.agg #[.int .i64 0, .int .i64 0, .int .i64 0, .int .i64 0, .int .i64 0, .int .i64 0], .int .i64 2] else .tuple #[.agg #[.int .i64 0, .int .i64 0, .int .i64 0, .int .i64 0, .int .i64 0, .int .i64 0], .int .i64 1]
theorem Move_any (x0 y0 x1 y1 f c a b k l : Int)  (w : World) :
    Calls Try.prog 33 #[.agg #[.int .i64 x0, .int .i64 y0, .int .i64 x1, .int .i64 y1, .int .i64 f, .int .i64 c], .int .i64 a, .int .i64 b, .int .i64 k, .int .i64 l] w fun e w' => e = .returned (MoveV x0 y0 x1 y1 f c a b k l) ∧ Below w.heap.size w w' := by
  unfold MoveV
  by_cases dd0 : OkB x0 y0 x1 y1 f c
  · rw [if_pos dd0]
    by_cases dd1 : b < a
    · rw [if_pos dd1]
      exact Move_w0 x0 y0 x1 y1 f c a b k l    dd0 dd1 w
    · rw [if_neg dd1]
      by_cases dd2 : l < k
      · rw [if_pos dd2]
        exact Move_w2 x0 y0 x1 y1 f c a b k l    dd0 (by omega) dd2 w
      · rw [if_neg dd2]
        by_cases dd3 : Rch x0 a
        · rw [if_pos dd3]
          by_cases dd4 : Rch x1 b
          · rw [if_pos dd4]
            by_cases dd5 : Rch y0 k
            · rw [if_pos dd5]
              by_cases dd6 : Rch y1 l
              · rw [if_pos dd6]
                exact Move_w3 x0 y0 x1 y1 f c a b k l    dd0 (by omega) (by omega) dd3 dd4 dd5 dd6 w
              · rw [if_neg dd6]
                exact Move_w7 x0 y0 x1 y1 f c a b k l    dd0 (by omega) (by omega) dd3 dd4 dd5 dd6 w
            · rw [if_neg dd5]
              exact Move_w6 x0 y0 x1 y1 f c a b k l    dd0 (by omega) (by omega) dd3 dd4 dd5 w
          · rw [if_neg dd4]
            exact Move_w5 x0 y0 x1 y1 f c a b k l    dd0 (by omega) (by omega) dd3 dd4 w
        · rw [if_neg dd3]
          exact Move_w4 x0 y0 x1 y1 f c a b k l    dd0 (by omega) (by omega) dd3 w
  · rw [if_neg dd0]
    exact Move_w1 x0 y0 x1 y1 f c a b k l    dd0 w

set_option maxRecDepth 100000 in
set_option maxHeartbeats 4000000 in
theorem RMove_w0 (x0 y0 x1 y1 f c a b k l : Int)   (dd0 : OkB x0 y0 x1 y1 f c) (dd1 : b < a) (w : World) :
    Calls Try.prog 34 #[.agg #[.int .i64 x0, .int .i64 y0, .int .i64 x1, .int .i64 y1, .int .i64 f, .int .i64 c], .int .i64 a, .int .i64 b, .int .i64 k, .int .i64 l] w fun e w' => e = .returned (.tuple #[.agg #[.int .i64 0, .int .i64 0, .int .i64 0, .int .i64 0, .int .i64 0, .int .i64 0], .int .i64 1]) ∧ Below w.heap.size w w' := by
  have H0 := Lib.hid (fun w => BBox_yes dd0 w)
  have dd0b := dd0.b
  obtain ⟨HB, B_z0, B_z1⟩ := box2 w 23 #[.int .i64 x0, .int .i64 y0, .int .i64 x1, .int .i64 y1, .int .i64 f, .int .i64 c] 23 #[.int .i64 0, .int .i64 0, .int .i64 0, .int .i64 0, .int .i64 0, .int .i64 0]
  go_enter Try.func34, Try.ntmps34
  go_upto_region 1 with (fail)
  generalize (w.alloc (.cells #[.int .i64 x0, .int .i64 y0, .int .i64 x1, .int .i64 y1, .int .i64 f, .int .i64 c] 23)).alloc (.cells #[.int .i64 0, .int .i64 0, .int .i64 0, .int .i64 0, .int .i64 0, .int .i64 0] 23) = W0 at *
  obtain ⟨c0z0, c1z0, c2z0, c3z0, c4z0, c5z0⟩ := cells6 B_z0
  go_wp2_with fail
  refine (H0.out _).mono ?_
  clear c0z0 c1z0 c2z0 c3z0 c4z0 c5z0
  rintro e w1 ⟨rfl, bb⟩
  replace bb := nextw (w0 := W0) (by exact sm) bb
  replace B_z0 := mv B_z0 bb
  replace B_z1 := mv B_z1 bb
  replace HB := nx HB bb
  clear bb
  obtain ⟨s0, s1, s2, s3, s4, s5⟩ := cells6 (stor6 B_z1 (.int .i64 0) (.int .i64 0) (.int .i64 0) (.int .i64 0) (.int .i64 0) (.int .i64 0))
  have HF := stb6 HB (y := w.heap.size + 1) (by omega) 0 (.int .i64 0) 1 (.int .i64 0) 2 (.int .i64 0) 3 (.int .i64 0) 4 (.int .i64 0) 5 (.int .i64 0)
  obtain ⟨c0z1, c1z1, c2z1, c3z1, c4z1, c5z1⟩ := cells6 B_z1
  obtain ⟨f0z1, f1z1, f2z1, f3z1, f4z1, f5z1⟩ := froz6 B_z1
  go_wp2_with fail
  exact bodyPost_ret (v := .tuple #[.agg #[.int .i64 0, .int .i64 0, .int .i64 0, .int .i64 0, .int .i64 0, .int .i64 0], .int .i64 1]) (by simp [results, Try.results34, go_sem, s0, s1, s2, s3, s4, s5]) rfl ⟨rfl, nextw HF.out (by exact sm)⟩

set_option maxRecDepth 100000 in
set_option maxHeartbeats 4000000 in
theorem RMove_w1 (x0 y0 x1 y1 f c a b k l : Int)   (dd0 : ¬ (OkB x0 y0 x1 y1 f c)) (w : World) :
    Calls Try.prog 34 #[.agg #[.int .i64 x0, .int .i64 y0, .int .i64 x1, .int .i64 y1, .int .i64 f, .int .i64 c], .int .i64 a, .int .i64 b, .int .i64 k, .int .i64 l] w fun e w' => e = .returned (.tuple #[.agg #[.int .i64 0, .int .i64 0, .int .i64 0, .int .i64 0, .int .i64 0, .int .i64 0], .int .i64 1]) ∧ Below w.heap.size w w' := by
  have H0 := Lib.hid (fun w => BBox_no dd0 w)
  obtain ⟨HB, B_z0, B_z1⟩ := box2 w 23 #[.int .i64 x0, .int .i64 y0, .int .i64 x1, .int .i64 y1, .int .i64 f, .int .i64 c] 23 #[.int .i64 0, .int .i64 0, .int .i64 0, .int .i64 0, .int .i64 0, .int .i64 0]
  go_enter Try.func34, Try.ntmps34
  go_upto_region 1 with (fail)
  generalize (w.alloc (.cells #[.int .i64 x0, .int .i64 y0, .int .i64 x1, .int .i64 y1, .int .i64 f, .int .i64 c] 23)).alloc (.cells #[.int .i64 0, .int .i64 0, .int .i64 0, .int .i64 0, .int .i64 0, .int .i64 0] 23) = W0 at *
  obtain ⟨c0z0, c1z0, c2z0, c3z0, c4z0, c5z0⟩ := cells6 B_z0
  go_wp2_with fail
  refine (H0.out _).mono ?_
  clear c0z0 c1z0 c2z0 c3z0 c4z0 c5z0
  rintro e w1 ⟨rfl, bb⟩
  replace bb := nextw (w0 := W0) (by exact sm) bb
  replace B_z0 := mv B_z0 bb
  replace B_z1 := mv B_z1 bb
  replace HB := nx HB bb
  clear bb
  obtain ⟨s0, s1, s2, s3, s4, s5⟩ := cells6 (stor6 B_z1 (.int .i64 0) (.int .i64 0) (.int .i64 0) (.int .i64 0) (.int .i64 0) (.int .i64 0))
  have HF := stb6 HB (y := w.heap.size + 1) (by omega) 0 (.int .i64 0) 1 (.int .i64 0) 2 (.int .i64 0) 3 (.int .i64 0) 4 (.int .i64 0) 5 (.int .i64 0)
  obtain ⟨c0z1, c1z1, c2z1, c3z1, c4z1, c5z1⟩ := cells6 B_z1
  obtain ⟨f0z1, f1z1, f2z1, f3z1, f4z1, f5z1⟩ := froz6 B_z1
  go_wp2_with fail
  exact bodyPost_ret (v := .tuple #[.agg #[.int .i64 0, .int .i64 0, .int .i64 0, .int .i64 0, .int .i64 0, .int .i64 0], .int .i64 1]) (by simp [results, Try.results34, go_sem, s0, s1, s2, s3, s4, s5]) rfl ⟨rfl, nextw HF.out (by exact sm)⟩

set_option maxRecDepth 100000 in
set_option maxHeartbeats 4000000 in
theorem RMove_w2 (x0 y0 x1 y1 f c a b k l : Int)   (dd0 : OkB x0 y0 x1 y1 f c) (dd1 : a ≤ b) (dd2 : l < k) (w : World) :
    Calls Try.prog 34 #[.agg #[.int .i64 x0, .int .i64 y0, .int .i64 x1, .int .i64 y1, .int .i64 f, .int .i64 c], .int .i64 a, .int .i64 b, .int .i64 k, .int .i64 l] w fun e w' => e = .returned (.tuple #[.agg #[.int .i64 0, .int .i64 0, .int .i64 0, .int .i64 0, .int .i64 0, .int .i64 0], .int .i64 1]) ∧ Below w.heap.size w w' := by
  have H0 := Lib.hid (fun w => BBox_yes dd0 w)
  have dd0b := dd0.b
  obtain ⟨HB, B_z0, B_z1⟩ := box2 w 23 #[.int .i64 x0, .int .i64 y0, .int .i64 x1, .int .i64 y1, .int .i64 f, .int .i64 c] 23 #[.int .i64 0, .int .i64 0, .int .i64 0, .int .i64 0, .int .i64 0, .int .i64 0]
  go_enter Try.func34, Try.ntmps34
  go_upto_region 1 with (fail)
  generalize (w.alloc (.cells #[.int .i64 x0, .int .i64 y0, .int .i64 x1, .int .i64 y1, .int .i64 f, .int .i64 c] 23)).alloc (.cells #[.int .i64 0, .int .i64 0, .int .i64 0, .int .i64 0, .int .i64 0, .int .i64 0] 23) = W0 at *
  obtain ⟨c0z0, c1z0, c2z0, c3z0, c4z0, c5z0⟩ := cells6 B_z0
  go_wp2_with fail
  refine (H0.out _).mono ?_
  clear c0z0 c1z0 c2z0 c3z0 c4z0 c5z0
  rintro e w1 ⟨rfl, bb⟩
  replace bb := nextw (w0 := W0) (by exact sm) bb
  replace B_z0 := mv B_z0 bb
  replace B_z1 := mv B_z1 bb
  replace HB := nx HB bb
  clear bb
  obtain ⟨s0, s1, s2, s3, s4, s5⟩ := cells6 (stor6 B_z1 (.int .i64 0) (.int .i64 0) (.int .i64 0) (.int .i64 0) (.int .i64 0) (.int .i64 0))
  have HF := stb6 HB (y := w.heap.size + 1) (by omega) 0 (.int .i64 0) 1 (.int .i64 0) 2 (.int .i64 0) 3 (.int .i64 0) 4 (.int .i64 0) 5 (.int .i64 0)
  obtain ⟨c0z1, c1z1, c2z1, c3z1, c4z1, c5z1⟩ := cells6 B_z1
  obtain ⟨f0z1, f1z1, f2z1, f3z1, f4z1, f5z1⟩ := froz6 B_z1
  go_wp2_with fail
  exact bodyPost_ret (v := .tuple #[.agg #[.int .i64 0, .int .i64 0, .int .i64 0, .int .i64 0, .int .i64 0, .int .i64 0], .int .i64 1]) (by simp [results, Try.results34, go_sem, s0, s1, s2, s3, s4, s5]) rfl ⟨rfl, nextw HF.out (by exact sm)⟩

set_option maxRecDepth 100000 in
set_option maxHeartbeats 4000000 in
theorem RMove_w3 (x0 y0 x1 y1 f c a b k l : Int)   (dd0 : OkB x0 y0 x1 y1 f c) (dd1 : a ≤ b) (dd2 : k ≤ l) (dd3 : SzP a 4194304) (dd4 : SzP b 4194304) (dd5 : SzP k 4194304) (dd6 : SzP l 4194304) (dd7 : OkB (x0 + a) (y0 + k) (x1 + b) (y1 + l) f c) (w : World) :
    Calls Try.prog 34 #[.agg #[.int .i64 x0, .int .i64 y0, .int .i64 x1, .int .i64 y1, .int .i64 f, .int .i64 c], .int .i64 a, .int .i64 b, .int .i64 k, .int .i64 l] w fun e w' => e = .returned (.tuple #[.agg #[.int .i64 (x0 + a), .int .i64 (y0 + k), .int .i64 (x1 + b), .int .i64 (y1 + l), .int .i64 f, .int .i64 c], .int .i64 0]) ∧ Below w.heap.size w w' := by
  have H0 := Lib.hid (fun w => BBox_yes dd0 w)
  have H1 := Lib.hid (fun w => Size_yes (by omega) dd3 w)
  have H2 := Lib.hid (fun w => Size_yes (by omega) dd4 w)
  have H3 := Lib.hid (fun w => Size_yes (by omega) dd5 w)
  have H4 := Lib.hid (fun w => Size_yes (by omega) dd6 w)
  have H5 := Lib.hid (fun w => BBox_yes dd7 w)
  have dd0b := dd0.b
  have dd3b := dd3
  unfold SzP at dd3b
  have dd4b := dd4
  unfold SzP at dd4b
  have dd5b := dd5
  unfold SzP at dd5b
  have dd6b := dd6
  unfold SzP at dd6b
  have dd7b := dd7.b
  obtain ⟨HB, B_z0, B_z1⟩ := box2 w 23 #[.int .i64 x0, .int .i64 y0, .int .i64 x1, .int .i64 y1, .int .i64 f, .int .i64 c] 23 #[.int .i64 0, .int .i64 0, .int .i64 0, .int .i64 0, .int .i64 0, .int .i64 0]
  go_enter Try.func34, Try.ntmps34
  go_upto_region 1 with (fail)
  generalize (w.alloc (.cells #[.int .i64 x0, .int .i64 y0, .int .i64 x1, .int .i64 y1, .int .i64 f, .int .i64 c] 23)).alloc (.cells #[.int .i64 0, .int .i64 0, .int .i64 0, .int .i64 0, .int .i64 0, .int .i64 0] 23) = W0 at *
  obtain ⟨c0z0, c1z0, c2z0, c3z0, c4z0, c5z0⟩ := cells6 B_z0
  go_wp2_with fail
  refine (H0.out _).mono ?_
  clear c0z0 c1z0 c2z0 c3z0 c4z0 c5z0
  rintro e w1 ⟨rfl, bb⟩
  replace bb := nextw (w0 := W0) (by exact sm) bb
  replace B_z0 := mv B_z0 bb
  replace B_z1 := mv B_z1 bb
  replace HB := nx HB bb
  clear bb
  go_wp2_with fail
  refine (H1.out _).mono ?_
  rintro e w2 ⟨rfl, bb⟩
  replace bb := nextw (w0 := w1) (by exact sm) bb
  replace B_z0 := mv B_z0 bb
  replace B_z1 := mv B_z1 bb
  replace HB := nx HB bb
  clear bb
  go_wp2_with fail
  refine (H2.out _).mono ?_
  rintro e w3 ⟨rfl, bb⟩
  replace bb := nextw (w0 := w2) (by exact sm) bb
  replace B_z0 := mv B_z0 bb
  replace B_z1 := mv B_z1 bb
  replace HB := nx HB bb
  clear bb
  go_wp2_with fail
  refine (H3.out _).mono ?_
  rintro e w4 ⟨rfl, bb⟩
  replace bb := nextw (w0 := w3) (by exact sm) bb
  replace B_z0 := mv B_z0 bb
  replace B_z1 := mv B_z1 bb
  replace HB := nx HB bb
  clear bb
  go_wp2_with fail
  refine (H4.out _).mono ?_
  rintro e w5 ⟨rfl, bb⟩
  replace bb := nextw (w0 := w4) (by exact sm) bb
  replace B_z0 := mv B_z0 bb
  replace B_z1 := mv B_z1 bb
  replace HB := nx HB bb
  clear bb
  obtain ⟨c0z0, c1z0, c2z0, c3z0, c4z0, c5z0⟩ := cells6 B_z0
  obtain ⟨f0z0, f1z0, f2z0, f3z0, f4z0, f5z0⟩ := froz6 B_z0
  have ne_z1 : Hid ((w.heap.size + 1) ≠ (w.heap.size)) := by unfold Hid; omega
  have n_z0 : Hid (Bx (w5.setCell ⟨w.heap.size, 0, none⟩ (.int .i64 (x0 + a))) (w.heap.size) 23 #[.int .i64 (x0 + a), .int .i64 y0, .int .i64 x1, .int .i64 y1, .int .i64 f, .int .i64 c]) := (B_z0.out.set 0 (.int .i64 (x0 + a)))
  have n_z1 := far1 B_z1 ne_z1.out 0 (.int .i64 (x0 + a))
  have nHB := stb1 HB (y := w.heap.size) (by omega) 0 (.int .i64 (x0 + a))
  go_upto_region 6 with (fail)
  clear c0z0 c1z0 c2z0 c3z0 c4z0 c5z0 f0z0 f1z0 f2z0 f3z0 f4z0 f5z0
  clear ne_z1
  generalize w5.setCell ⟨w.heap.size, 0, none⟩ (.int .i64 (x0 + a)) = WS3 at *
  clear B_z0
  have B_z0 := n_z0
  clear n_z0
  clear B_z1
  have B_z1 := n_z1
  clear n_z1
  clear HB
  have HB := nHB
  clear nHB
  obtain ⟨c0z0, c1z0, c2z0, c3z0, c4z0, c5z0⟩ := cells6 B_z0
  obtain ⟨f0z0, f1z0, f2z0, f3z0, f4z0, f5z0⟩ := froz6 B_z0
  have ne_z1 : Hid ((w.heap.size + 1) ≠ (w.heap.size)) := by unfold Hid; omega
  have n_z0 : Hid (Bx (WS3.setCell ⟨w.heap.size, 2, none⟩ (.int .i64 (x1 + b))) (w.heap.size) 23 #[.int .i64 (x0 + a), .int .i64 y0, .int .i64 (x1 + b), .int .i64 y1, .int .i64 f, .int .i64 c]) := (B_z0.out.set 2 (.int .i64 (x1 + b)))
  have n_z1 := far1 B_z1 ne_z1.out 2 (.int .i64 (x1 + b))
  have nHB := stb1 HB (y := w.heap.size) (by omega) 2 (.int .i64 (x1 + b))
  go_upto_region 7 with (fail)
  clear c0z0 c1z0 c2z0 c3z0 c4z0 c5z0 f0z0 f1z0 f2z0 f3z0 f4z0 f5z0
  clear ne_z1
  generalize WS3.setCell ⟨w.heap.size, 2, none⟩ (.int .i64 (x1 + b)) = WS4 at *
  clear B_z0
  have B_z0 := n_z0
  clear n_z0
  clear B_z1
  have B_z1 := n_z1
  clear n_z1
  clear HB
  have HB := nHB
  clear nHB
  obtain ⟨c0z0, c1z0, c2z0, c3z0, c4z0, c5z0⟩ := cells6 B_z0
  obtain ⟨f0z0, f1z0, f2z0, f3z0, f4z0, f5z0⟩ := froz6 B_z0
  have ne_z1 : Hid ((w.heap.size + 1) ≠ (w.heap.size)) := by unfold Hid; omega
  have n_z0 : Hid (Bx (WS4.setCell ⟨w.heap.size, 1, none⟩ (.int .i64 (y0 + k))) (w.heap.size) 23 #[.int .i64 (x0 + a), .int .i64 (y0 + k), .int .i64 (x1 + b), .int .i64 y1, .int .i64 f, .int .i64 c]) := (B_z0.out.set 1 (.int .i64 (y0 + k)))
  have n_z1 := far1 B_z1 ne_z1.out 1 (.int .i64 (y0 + k))
  have nHB := stb1 HB (y := w.heap.size) (by omega) 1 (.int .i64 (y0 + k))
  go_upto_region 8 with (fail)
  clear c0z0 c1z0 c2z0 c3z0 c4z0 c5z0 f0z0 f1z0 f2z0 f3z0 f4z0 f5z0
  clear ne_z1
  generalize WS4.setCell ⟨w.heap.size, 1, none⟩ (.int .i64 (y0 + k)) = WS5 at *
  clear B_z0
  have B_z0 := n_z0
  clear n_z0
  clear B_z1
  have B_z1 := n_z1
  clear n_z1
  clear HB
  have HB := nHB
  clear nHB
  obtain ⟨c0z0, c1z0, c2z0, c3z0, c4z0, c5z0⟩ := cells6 B_z0
  obtain ⟨f0z0, f1z0, f2z0, f3z0, f4z0, f5z0⟩ := froz6 B_z0
  have ne_z1 : Hid ((w.heap.size + 1) ≠ (w.heap.size)) := by unfold Hid; omega
  have n_z0 : Hid (Bx (WS5.setCell ⟨w.heap.size, 3, none⟩ (.int .i64 (y1 + l))) (w.heap.size) 23 #[.int .i64 (x0 + a), .int .i64 (y0 + k), .int .i64 (x1 + b), .int .i64 (y1 + l), .int .i64 f, .int .i64 c]) := (B_z0.out.set 3 (.int .i64 (y1 + l)))
  have n_z1 := far1 B_z1 ne_z1.out 3 (.int .i64 (y1 + l))
  have nHB := stb1 HB (y := w.heap.size) (by omega) 3 (.int .i64 (y1 + l))
  go_upto_region 9 with (fail)
  clear c0z0 c1z0 c2z0 c3z0 c4z0 c5z0 f0z0 f1z0 f2z0 f3z0 f4z0 f5z0
  clear ne_z1
  generalize WS5.setCell ⟨w.heap.size, 3, none⟩ (.int .i64 (y1 + l)) = WS6 at *
  clear B_z0
  have B_z0 := n_z0
  clear n_z0
  clear B_z1
  have B_z1 := n_z1
  clear n_z1
  clear HB
  have HB := nHB
  clear nHB
  obtain ⟨c0z0, c1z0, c2z0, c3z0, c4z0, c5z0⟩ := cells6 B_z0
  go_wp2_with fail
  refine (H5.out _).mono ?_
  clear c0z0 c1z0 c2z0 c3z0 c4z0 c5z0
  rintro e w6 ⟨rfl, bb⟩
  replace bb := nextw (w0 := WS6) (by exact sm) bb
  replace B_z0 := mv B_z0 bb
  replace B_z1 := mv B_z1 bb
  replace HB := nx HB bb
  clear bb
  obtain ⟨c0z0, c1z0, c2z0, c3z0, c4z0, c5z0⟩ := cells6 B_z0
  obtain ⟨s0, s1, s2, s3, s4, s5⟩ := cells6 (stor6 B_z1 (.int .i64 (x0 + a)) (.int .i64 (y0 + k)) (.int .i64 (x1 + b)) (.int .i64 (y1 + l)) (.int .i64 f) (.int .i64 c))
  have HF := stb6 HB (y := w.heap.size + 1) (by omega) 0 (.int .i64 (x0 + a)) 1 (.int .i64 (y0 + k)) 2 (.int .i64 (x1 + b)) 3 (.int .i64 (y1 + l)) 4 (.int .i64 f) 5 (.int .i64 c)
  obtain ⟨c0z1, c1z1, c2z1, c3z1, c4z1, c5z1⟩ := cells6 B_z1
  obtain ⟨f0z1, f1z1, f2z1, f3z1, f4z1, f5z1⟩ := froz6 B_z1
  go_wp2_with fail
  exact bodyPost_ret (v := .tuple #[.agg #[.int .i64 (x0 + a), .int .i64 (y0 + k), .int .i64 (x1 + b), .int .i64 (y1 + l), .int .i64 f, .int .i64 c], .int .i64 0]) (by simp [results, Try.results34, go_sem, s0, s1, s2, s3, s4, s5]) rfl ⟨rfl, nextw HF.out (by exact sm)⟩

set_option maxRecDepth 100000 in
set_option maxHeartbeats 4000000 in
theorem RMove_w4 (x0 y0 x1 y1 f c a b k l : Int)   (dd0 : OkB x0 y0 x1 y1 f c) (dd1 : a ≤ b) (dd2 : k ≤ l) (dd3 : ¬ (SzP a 4194304)) (w : World) :
    Calls Try.prog 34 #[.agg #[.int .i64 x0, .int .i64 y0, .int .i64 x1, .int .i64 y1, .int .i64 f, .int .i64 c], .int .i64 a, .int .i64 b, .int .i64 k, .int .i64 l] w fun e w' => e = .returned (.tuple #[.agg #[.int .i64 0, .int .i64 0, .int .i64 0, .int .i64 0, .int .i64 0, .int .i64 0], .int .i64 2]) ∧ Below w.heap.size w w' := by
  have H0 := Lib.hid (fun w => BBox_yes dd0 w)
  have H1 := Lib.hid (fun w => Size_no (by omega) dd3 w)
  have dd0b := dd0.b
  have dd3b := dd3
  unfold SzP at dd3b
  obtain ⟨HB, B_z0, B_z1⟩ := box2 w 23 #[.int .i64 x0, .int .i64 y0, .int .i64 x1, .int .i64 y1, .int .i64 f, .int .i64 c] 23 #[.int .i64 0, .int .i64 0, .int .i64 0, .int .i64 0, .int .i64 0, .int .i64 0]
  go_enter Try.func34, Try.ntmps34
  go_upto_region 1 with (fail)
  generalize (w.alloc (.cells #[.int .i64 x0, .int .i64 y0, .int .i64 x1, .int .i64 y1, .int .i64 f, .int .i64 c] 23)).alloc (.cells #[.int .i64 0, .int .i64 0, .int .i64 0, .int .i64 0, .int .i64 0, .int .i64 0] 23) = W0 at *
  obtain ⟨c0z0, c1z0, c2z0, c3z0, c4z0, c5z0⟩ := cells6 B_z0
  go_wp2_with fail
  refine (H0.out _).mono ?_
  clear c0z0 c1z0 c2z0 c3z0 c4z0 c5z0
  rintro e w1 ⟨rfl, bb⟩
  replace bb := nextw (w0 := W0) (by exact sm) bb
  replace B_z0 := mv B_z0 bb
  replace B_z1 := mv B_z1 bb
  replace HB := nx HB bb
  clear bb
  go_wp2_with fail
  refine (H1.out _).mono ?_
  rintro e w2 ⟨rfl, bb⟩
  replace bb := nextw (w0 := w1) (by exact sm) bb
  replace B_z0 := mv B_z0 bb
  replace B_z1 := mv B_z1 bb
  replace HB := nx HB bb
  clear bb
  obtain ⟨s0, s1, s2, s3, s4, s5⟩ := cells6 (stor6 B_z1 (.int .i64 0) (.int .i64 0) (.int .i64 0) (.int .i64 0) (.int .i64 0) (.int .i64 0))
  have HF := stb6 HB (y := w.heap.size + 1) (by omega) 0 (.int .i64 0) 1 (.int .i64 0) 2 (.int .i64 0) 3 (.int .i64 0) 4 (.int .i64 0) 5 (.int .i64 0)
  obtain ⟨c0z1, c1z1, c2z1, c3z1, c4z1, c5z1⟩ := cells6 B_z1
  obtain ⟨f0z1, f1z1, f2z1, f3z1, f4z1, f5z1⟩ := froz6 B_z1
  go_wp2_with fail
  exact bodyPost_ret (v := .tuple #[.agg #[.int .i64 0, .int .i64 0, .int .i64 0, .int .i64 0, .int .i64 0, .int .i64 0], .int .i64 2]) (by simp [results, Try.results34, go_sem, s0, s1, s2, s3, s4, s5]) rfl ⟨rfl, nextw HF.out (by exact sm)⟩

set_option maxRecDepth 100000 in
set_option maxHeartbeats 4000000 in
theorem RMove_w5 (x0 y0 x1 y1 f c a b k l : Int)   (dd0 : OkB x0 y0 x1 y1 f c) (dd1 : a ≤ b) (dd2 : k ≤ l) (dd3 : SzP a 4194304) (dd4 : ¬ (SzP b 4194304)) (w : World) :
    Calls Try.prog 34 #[.agg #[.int .i64 x0, .int .i64 y0, .int .i64 x1, .int .i64 y1, .int .i64 f, .int .i64 c], .int .i64 a, .int .i64 b, .int .i64 k, .int .i64 l] w fun e w' => e = .returned (.tuple #[.agg #[.int .i64 0, .int .i64 0, .int .i64 0, .int .i64 0, .int .i64 0, .int .i64 0], .int .i64 2]) ∧ Below w.heap.size w w' := by
  have H0 := Lib.hid (fun w => BBox_yes dd0 w)
  have H1 := Lib.hid (fun w => Size_yes (by omega) dd3 w)
  have H2 := Lib.hid (fun w => Size_no (by omega) dd4 w)
  have dd0b := dd0.b
  have dd3b := dd3
  unfold SzP at dd3b
  have dd4b := dd4
  unfold SzP at dd4b
  obtain ⟨HB, B_z0, B_z1⟩ := box2 w 23 #[.int .i64 x0, .int .i64 y0, .int .i64 x1, .int .i64 y1, .int .i64 f, .int .i64 c] 23 #[.int .i64 0, .int .i64 0, .int .i64 0, .int .i64 0, .int .i64 0, .int .i64 0]
  go_enter Try.func34, Try.ntmps34
  go_upto_region 1 with (fail)
  generalize (w.alloc (.cells #[.int .i64 x0, .int .i64 y0, .int .i64 x1, .int .i64 y1, .int .i64 f, .int .i64 c] 23)).alloc (.cells #[.int .i64 0, .int .i64 0, .int .i64 0, .int .i64 0, .int .i64 0, .int .i64 0] 23) = W0 at *
  obtain ⟨c0z0, c1z0, c2z0, c3z0, c4z0, c5z0⟩ := cells6 B_z0
  go_wp2_with fail
  refine (H0.out _).mono ?_
  clear c0z0 c1z0 c2z0 c3z0 c4z0 c5z0
  rintro e w1 ⟨rfl, bb⟩
  replace bb := nextw (w0 := W0) (by exact sm) bb
  replace B_z0 := mv B_z0 bb
  replace B_z1 := mv B_z1 bb
  replace HB := nx HB bb
  clear bb
  go_wp2_with fail
  refine (H1.out _).mono ?_
  rintro e w2 ⟨rfl, bb⟩
  replace bb := nextw (w0 := w1) (by exact sm) bb
  replace B_z0 := mv B_z0 bb
  replace B_z1 := mv B_z1 bb
  replace HB := nx HB bb
  clear bb
  go_wp2_with fail
  refine (H2.out _).mono ?_
  rintro e w3 ⟨rfl, bb⟩
  replace bb := nextw (w0 := w2) (by exact sm) bb
  replace B_z0 := mv B_z0 bb
  replace B_z1 := mv B_z1 bb
  replace HB := nx HB bb
  clear bb
  obtain ⟨s0, s1, s2, s3, s4, s5⟩ := cells6 (stor6 B_z1 (.int .i64 0) (.int .i64 0) (.int .i64 0) (.int .i64 0) (.int .i64 0) (.int .i64 0))
  have HF := stb6 HB (y := w.heap.size + 1) (by omega) 0 (.int .i64 0) 1 (.int .i64 0) 2 (.int .i64 0) 3 (.int .i64 0) 4 (.int .i64 0) 5 (.int .i64 0)
  obtain ⟨c0z1, c1z1, c2z1, c3z1, c4z1, c5z1⟩ := cells6 B_z1
  obtain ⟨f0z1, f1z1, f2z1, f3z1, f4z1, f5z1⟩ := froz6 B_z1
  go_wp2_with fail
  exact bodyPost_ret (v := .tuple #[.agg #[.int .i64 0, .int .i64 0, .int .i64 0, .int .i64 0, .int .i64 0, .int .i64 0], .int .i64 2]) (by simp [results, Try.results34, go_sem, s0, s1, s2, s3, s4, s5]) rfl ⟨rfl, nextw HF.out (by exact sm)⟩

set_option maxRecDepth 100000 in
set_option maxHeartbeats 4000000 in
theorem RMove_w6 (x0 y0 x1 y1 f c a b k l : Int)   (dd0 : OkB x0 y0 x1 y1 f c) (dd1 : a ≤ b) (dd2 : k ≤ l) (dd3 : SzP a 4194304) (dd4 : SzP b 4194304) (dd5 : ¬ (SzP k 4194304)) (w : World) :
    Calls Try.prog 34 #[.agg #[.int .i64 x0, .int .i64 y0, .int .i64 x1, .int .i64 y1, .int .i64 f, .int .i64 c], .int .i64 a, .int .i64 b, .int .i64 k, .int .i64 l] w fun e w' => e = .returned (.tuple #[.agg #[.int .i64 0, .int .i64 0, .int .i64 0, .int .i64 0, .int .i64 0, .int .i64 0], .int .i64 2]) ∧ Below w.heap.size w w' := by
  have H0 := Lib.hid (fun w => BBox_yes dd0 w)
  have H1 := Lib.hid (fun w => Size_yes (by omega) dd3 w)
  have H2 := Lib.hid (fun w => Size_yes (by omega) dd4 w)
  have H3 := Lib.hid (fun w => Size_no (by omega) dd5 w)
  have dd0b := dd0.b
  have dd3b := dd3
  unfold SzP at dd3b
  have dd4b := dd4
  unfold SzP at dd4b
  have dd5b := dd5
  unfold SzP at dd5b
  obtain ⟨HB, B_z0, B_z1⟩ := box2 w 23 #[.int .i64 x0, .int .i64 y0, .int .i64 x1, .int .i64 y1, .int .i64 f, .int .i64 c] 23 #[.int .i64 0, .int .i64 0, .int .i64 0, .int .i64 0, .int .i64 0, .int .i64 0]
  go_enter Try.func34, Try.ntmps34
  go_upto_region 1 with (fail)
  generalize (w.alloc (.cells #[.int .i64 x0, .int .i64 y0, .int .i64 x1, .int .i64 y1, .int .i64 f, .int .i64 c] 23)).alloc (.cells #[.int .i64 0, .int .i64 0, .int .i64 0, .int .i64 0, .int .i64 0, .int .i64 0] 23) = W0 at *
  obtain ⟨c0z0, c1z0, c2z0, c3z0, c4z0, c5z0⟩ := cells6 B_z0
  go_wp2_with fail
  refine (H0.out _).mono ?_
  clear c0z0 c1z0 c2z0 c3z0 c4z0 c5z0
  rintro e w1 ⟨rfl, bb⟩
  replace bb := nextw (w0 := W0) (by exact sm) bb
  replace B_z0 := mv B_z0 bb
  replace B_z1 := mv B_z1 bb
  replace HB := nx HB bb
  clear bb
  go_wp2_with fail
  refine (H1.out _).mono ?_
  rintro e w2 ⟨rfl, bb⟩
  replace bb := nextw (w0 := w1) (by exact sm) bb
  replace B_z0 := mv B_z0 bb
  replace B_z1 := mv B_z1 bb
  replace HB := nx HB bb
  clear bb
  go_wp2_with fail
  refine (H2.out _).mono ?_
  rintro e w3 ⟨rfl, bb⟩
  replace bb := nextw (w0 := w2) (by exact sm) bb
  replace B_z0 := mv B_z0 bb
  replace B_z1 := mv B_z1 bb
  replace HB := nx HB bb
  clear bb
  go_wp2_with fail
  refine (H3.out _).mono ?_
  rintro e w4 ⟨rfl, bb⟩
  replace bb := nextw (w0 := w3) (by exact sm) bb
  replace B_z0 := mv B_z0 bb
  replace B_z1 := mv B_z1 bb
  replace HB := nx HB bb
  clear bb
  obtain ⟨s0, s1, s2, s3, s4, s5⟩ := cells6 (stor6 B_z1 (.int .i64 0) (.int .i64 0) (.int .i64 0) (.int .i64 0) (.int .i64 0) (.int .i64 0))
  have HF := stb6 HB (y := w.heap.size + 1) (by omega) 0 (.int .i64 0) 1 (.int .i64 0) 2 (.int .i64 0) 3 (.int .i64 0) 4 (.int .i64 0) 5 (.int .i64 0)
  obtain ⟨c0z1, c1z1, c2z1, c3z1, c4z1, c5z1⟩ := cells6 B_z1
  obtain ⟨f0z1, f1z1, f2z1, f3z1, f4z1, f5z1⟩ := froz6 B_z1
  go_wp2_with fail
  exact bodyPost_ret (v := .tuple #[.agg #[.int .i64 0, .int .i64 0, .int .i64 0, .int .i64 0, .int .i64 0, .int .i64 0], .int .i64 2]) (by simp [results, Try.results34, go_sem, s0, s1, s2, s3, s4, s5]) rfl ⟨rfl, nextw HF.out (by exact sm)⟩

set_option maxRecDepth 100000 in
set_option maxHeartbeats 4000000 in
theorem RMove_w7 (x0 y0 x1 y1 f c a b k l : Int)   (dd0 : OkB x0 y0 x1 y1 f c) (dd1 : a ≤ b) (dd2 : k ≤ l) (dd3 : SzP a 4194304) (dd4 : SzP b 4194304) (dd5 : SzP k 4194304) (dd6 : ¬ (SzP l 4194304)) (w : World) :
    Calls Try.prog 34 #[.agg #[.int .i64 x0, .int .i64 y0, .int .i64 x1, .int .i64 y1, .int .i64 f, .int .i64 c], .int .i64 a, .int .i64 b, .int .i64 k, .int .i64 l] w fun e w' => e = .returned (.tuple #[.agg #[.int .i64 0, .int .i64 0, .int .i64 0, .int .i64 0, .int .i64 0, .int .i64 0], .int .i64 2]) ∧ Below w.heap.size w w' := by
  have H0 := Lib.hid (fun w => BBox_yes dd0 w)
  have H1 := Lib.hid (fun w => Size_yes (by omega) dd3 w)
  have H2 := Lib.hid (fun w => Size_yes (by omega) dd4 w)
  have H3 := Lib.hid (fun w => Size_yes (by omega) dd5 w)
  have H4 := Lib.hid (fun w => Size_no (by omega) dd6 w)
  have dd0b := dd0.b
  have dd3b := dd3
  unfold SzP at dd3b
  have dd4b := dd4
  unfold SzP at dd4b
  have dd5b := dd5
  unfold SzP at dd5b
  have dd6b := dd6
  unfold SzP at dd6b
  obtain ⟨HB, B_z0, B_z1⟩ := box2 w 23 #[.int .i64 x0, .int .i64 y0, .int .i64 x1, .int .i64 y1, .int .i64 f, .int .i64 c] 23 #[.int .i64 0, .int .i64 0, .int .i64 0, .int .i64 0, .int .i64 0, .int .i64 0]
  go_enter Try.func34, Try.ntmps34
  go_upto_region 1 with (fail)
  generalize (w.alloc (.cells #[.int .i64 x0, .int .i64 y0, .int .i64 x1, .int .i64 y1, .int .i64 f, .int .i64 c] 23)).alloc (.cells #[.int .i64 0, .int .i64 0, .int .i64 0, .int .i64 0, .int .i64 0, .int .i64 0] 23) = W0 at *
  obtain ⟨c0z0, c1z0, c2z0, c3z0, c4z0, c5z0⟩ := cells6 B_z0
  go_wp2_with fail
  refine (H0.out _).mono ?_
  clear c0z0 c1z0 c2z0 c3z0 c4z0 c5z0
  rintro e w1 ⟨rfl, bb⟩
  replace bb := nextw (w0 := W0) (by exact sm) bb
  replace B_z0 := mv B_z0 bb
  replace B_z1 := mv B_z1 bb
  replace HB := nx HB bb
  clear bb
  go_wp2_with fail
  refine (H1.out _).mono ?_
  rintro e w2 ⟨rfl, bb⟩
  replace bb := nextw (w0 := w1) (by exact sm) bb
  replace B_z0 := mv B_z0 bb
  replace B_z1 := mv B_z1 bb
  replace HB := nx HB bb
  clear bb
  go_wp2_with fail
  refine (H2.out _).mono ?_
  rintro e w3 ⟨rfl, bb⟩
  replace bb := nextw (w0 := w2) (by exact sm) bb
  replace B_z0 := mv B_z0 bb
  replace B_z1 := mv B_z1 bb
  replace HB := nx HB bb
  clear bb
  go_wp2_with fail
  refine (H3.out _).mono ?_
  rintro e w4 ⟨rfl, bb⟩
  replace bb := nextw (w0 := w3) (by exact sm) bb
  replace B_z0 := mv B_z0 bb
  replace B_z1 := mv B_z1 bb
  replace HB := nx HB bb
  clear bb
  go_wp2_with fail
  refine (H4.out _).mono ?_
  rintro e w5 ⟨rfl, bb⟩
  replace bb := nextw (w0 := w4) (by exact sm) bb
  replace B_z0 := mv B_z0 bb
  replace B_z1 := mv B_z1 bb
  replace HB := nx HB bb
  clear bb
  obtain ⟨s0, s1, s2, s3, s4, s5⟩ := cells6 (stor6 B_z1 (.int .i64 0) (.int .i64 0) (.int .i64 0) (.int .i64 0) (.int .i64 0) (.int .i64 0))
  have HF := stb6 HB (y := w.heap.size + 1) (by omega) 0 (.int .i64 0) 1 (.int .i64 0) 2 (.int .i64 0) 3 (.int .i64 0) 4 (.int .i64 0) 5 (.int .i64 0)
  obtain ⟨c0z1, c1z1, c2z1, c3z1, c4z1, c5z1⟩ := cells6 B_z1
  obtain ⟨f0z1, f1z1, f2z1, f3z1, f4z1, f5z1⟩ := froz6 B_z1
  go_wp2_with fail
  exact bodyPost_ret (v := .tuple #[.agg #[.int .i64 0, .int .i64 0, .int .i64 0, .int .i64 0, .int .i64 0, .int .i64 0], .int .i64 2]) (by simp [results, Try.results34, go_sem, s0, s1, s2, s3, s4, s5]) rfl ⟨rfl, nextw HF.out (by exact sm)⟩

set_option maxRecDepth 100000 in
set_option maxHeartbeats 4000000 in
theorem RMove_w8 (x0 y0 x1 y1 f c a b k l : Int)   (dd0 : OkB x0 y0 x1 y1 f c) (dd1 : a ≤ b) (dd2 : k ≤ l) (dd3 : SzP a 4194304) (dd4 : SzP b 4194304) (dd5 : SzP k 4194304) (dd6 : SzP l 4194304) (dd7 : ¬ (OkB (x0 + a) (y0 + k) (x1 + b) (y1 + l) f c)) (w : World) :
    Calls Try.prog 34 #[.agg #[.int .i64 x0, .int .i64 y0, .int .i64 x1, .int .i64 y1, .int .i64 f, .int .i64 c], .int .i64 a, .int .i64 b, .int .i64 k, .int .i64 l] w fun e w' => e = .returned (.tuple #[.agg #[.int .i64 0, .int .i64 0, .int .i64 0, .int .i64 0, .int .i64 0, .int .i64 0], .int .i64 2]) ∧ Below w.heap.size w w' := by
  have H0 := Lib.hid (fun w => BBox_yes dd0 w)
  have H1 := Lib.hid (fun w => Size_yes (by omega) dd3 w)
  have H2 := Lib.hid (fun w => Size_yes (by omega) dd4 w)
  have H3 := Lib.hid (fun w => Size_yes (by omega) dd5 w)
  have H4 := Lib.hid (fun w => Size_yes (by omega) dd6 w)
  have H5 := Lib.hid (fun w => BBox_no dd7 w)
  have dd0b := dd0.b
  have dd3b := dd3
  unfold SzP at dd3b
  have dd4b := dd4
  unfold SzP at dd4b
  have dd5b := dd5
  unfold SzP at dd5b
  have dd6b := dd6
  unfold SzP at dd6b
  obtain ⟨HB, B_z0, B_z1⟩ := box2 w 23 #[.int .i64 x0, .int .i64 y0, .int .i64 x1, .int .i64 y1, .int .i64 f, .int .i64 c] 23 #[.int .i64 0, .int .i64 0, .int .i64 0, .int .i64 0, .int .i64 0, .int .i64 0]
  go_enter Try.func34, Try.ntmps34
  go_upto_region 1 with (fail)
  generalize (w.alloc (.cells #[.int .i64 x0, .int .i64 y0, .int .i64 x1, .int .i64 y1, .int .i64 f, .int .i64 c] 23)).alloc (.cells #[.int .i64 0, .int .i64 0, .int .i64 0, .int .i64 0, .int .i64 0, .int .i64 0] 23) = W0 at *
  obtain ⟨c0z0, c1z0, c2z0, c3z0, c4z0, c5z0⟩ := cells6 B_z0
  go_wp2_with fail
  refine (H0.out _).mono ?_
  clear c0z0 c1z0 c2z0 c3z0 c4z0 c5z0
  rintro e w1 ⟨rfl, bb⟩
  replace bb := nextw (w0 := W0) (by exact sm) bb
  replace B_z0 := mv B_z0 bb
  replace B_z1 := mv B_z1 bb
  replace HB := nx HB bb
  clear bb
  go_wp2_with fail
  refine (H1.out _).mono ?_
  rintro e w2 ⟨rfl, bb⟩
  replace bb := nextw (w0 := w1) (by exact sm) bb
  replace B_z0 := mv B_z0 bb
  replace B_z1 := mv B_z1 bb
  replace HB := nx HB bb
  clear bb
  go_wp2_with fail
  refine (H2.out _).mono ?_
  rintro e w3 ⟨rfl, bb⟩
  replace bb := nextw (w0 := w2) (by exact sm) bb
  replace B_z0 := mv B_z0 bb
  replace B_z1 := mv B_z1 bb
  replace HB := nx HB bb
  clear bb
  go_wp2_with fail
  refine (H3.out _).mono ?_
  rintro e w4 ⟨rfl, bb⟩
  replace bb := nextw (w0 := w3) (by exact sm) bb
  replace B_z0 := mv B_z0 bb
  replace B_z1 := mv B_z1 bb
  replace HB := nx HB bb
  clear bb
  go_wp2_with fail
  refine (H4.out _).mono ?_
  rintro e w5 ⟨rfl, bb⟩
  replace bb := nextw (w0 := w4) (by exact sm) bb
  replace B_z0 := mv B_z0 bb
  replace B_z1 := mv B_z1 bb
  replace HB := nx HB bb
  clear bb
  obtain ⟨c0z0, c1z0, c2z0, c3z0, c4z0, c5z0⟩ := cells6 B_z0
  obtain ⟨f0z0, f1z0, f2z0, f3z0, f4z0, f5z0⟩ := froz6 B_z0
  have ne_z1 : Hid ((w.heap.size + 1) ≠ (w.heap.size)) := by unfold Hid; omega
  have n_z0 : Hid (Bx (w5.setCell ⟨w.heap.size, 0, none⟩ (.int .i64 (x0 + a))) (w.heap.size) 23 #[.int .i64 (x0 + a), .int .i64 y0, .int .i64 x1, .int .i64 y1, .int .i64 f, .int .i64 c]) := (B_z0.out.set 0 (.int .i64 (x0 + a)))
  have n_z1 := far1 B_z1 ne_z1.out 0 (.int .i64 (x0 + a))
  have nHB := stb1 HB (y := w.heap.size) (by omega) 0 (.int .i64 (x0 + a))
  go_upto_region 6 with (fail)
  clear c0z0 c1z0 c2z0 c3z0 c4z0 c5z0 f0z0 f1z0 f2z0 f3z0 f4z0 f5z0
  clear ne_z1
  generalize w5.setCell ⟨w.heap.size, 0, none⟩ (.int .i64 (x0 + a)) = WS3 at *
  clear B_z0
  have B_z0 := n_z0
  clear n_z0
  clear B_z1
  have B_z1 := n_z1
  clear n_z1
  clear HB
  have HB := nHB
  clear nHB
  obtain ⟨c0z0, c1z0, c2z0, c3z0, c4z0, c5z0⟩ := cells6 B_z0
  obtain ⟨f0z0, f1z0, f2z0, f3z0, f4z0, f5z0⟩ := froz6 B_z0
  have ne_z1 : Hid ((w.heap.size + 1) ≠ (w.heap.size)) := by unfold Hid; omega
  have n_z0 : Hid (Bx (WS3.setCell ⟨w.heap.size, 2, none⟩ (.int .i64 (x1 + b))) (w.heap.size) 23 #[.int .i64 (x0 + a), .int .i64 y0, .int .i64 (x1 + b), .int .i64 y1, .int .i64 f, .int .i64 c]) := (B_z0.out.set 2 (.int .i64 (x1 + b)))
  have n_z1 := far1 B_z1 ne_z1.out 2 (.int .i64 (x1 + b))
  have nHB := stb1 HB (y := w.heap.size) (by omega) 2 (.int .i64 (x1 + b))
  go_upto_region 7 with (fail)
  clear c0z0 c1z0 c2z0 c3z0 c4z0 c5z0 f0z0 f1z0 f2z0 f3z0 f4z0 f5z0
  clear ne_z1
  generalize WS3.setCell ⟨w.heap.size, 2, none⟩ (.int .i64 (x1 + b)) = WS4 at *
  clear B_z0
  have B_z0 := n_z0
  clear n_z0
  clear B_z1
  have B_z1 := n_z1
  clear n_z1
  clear HB
  have HB := nHB
  clear nHB
  obtain ⟨c0z0, c1z0, c2z0, c3z0, c4z0, c5z0⟩ := cells6 B_z0
  obtain ⟨f0z0, f1z0, f2z0, f3z0, f4z0, f5z0⟩ := froz6 B_z0
  have ne_z1 : Hid ((w.heap.size + 1) ≠ (w.heap.size)) := by unfold Hid; omega
  have n_z0 : Hid (Bx (WS4.setCell ⟨w.heap.size, 1, none⟩ (.int .i64 (y0 + k))) (w.heap.size) 23 #[.int .i64 (x0 + a), .int .i64 (y0 + k), .int .i64 (x1 + b), .int .i64 y1, .int .i64 f, .int .i64 c]) := (B_z0.out.set 1 (.int .i64 (y0 + k)))
  have n_z1 := far1 B_z1 ne_z1.out 1 (.int .i64 (y0 + k))
  have nHB := stb1 HB (y := w.heap.size) (by omega) 1 (.int .i64 (y0 + k))
  go_upto_region 8 with (fail)
  clear c0z0 c1z0 c2z0 c3z0 c4z0 c5z0 f0z0 f1z0 f2z0 f3z0 f4z0 f5z0
  clear ne_z1
  generalize WS4.setCell ⟨w.heap.size, 1, none⟩ (.int .i64 (y0 + k)) = WS5 at *
  clear B_z0
  have B_z0 := n_z0
  clear n_z0
  clear B_z1
  have B_z1 := n_z1
  clear n_z1
  clear HB
  have HB := nHB
  clear nHB
  obtain ⟨c0z0, c1z0, c2z0, c3z0, c4z0, c5z0⟩ := cells6 B_z0
  obtain ⟨f0z0, f1z0, f2z0, f3z0, f4z0, f5z0⟩ := froz6 B_z0
  have ne_z1 : Hid ((w.heap.size + 1) ≠ (w.heap.size)) := by unfold Hid; omega
  have n_z0 : Hid (Bx (WS5.setCell ⟨w.heap.size, 3, none⟩ (.int .i64 (y1 + l))) (w.heap.size) 23 #[.int .i64 (x0 + a), .int .i64 (y0 + k), .int .i64 (x1 + b), .int .i64 (y1 + l), .int .i64 f, .int .i64 c]) := (B_z0.out.set 3 (.int .i64 (y1 + l)))
  have n_z1 := far1 B_z1 ne_z1.out 3 (.int .i64 (y1 + l))
  have nHB := stb1 HB (y := w.heap.size) (by omega) 3 (.int .i64 (y1 + l))
  go_upto_region 9 with (fail)
  clear c0z0 c1z0 c2z0 c3z0 c4z0 c5z0 f0z0 f1z0 f2z0 f3z0 f4z0 f5z0
  clear ne_z1
  generalize WS5.setCell ⟨w.heap.size, 3, none⟩ (.int .i64 (y1 + l)) = WS6 at *
  clear B_z0
  have B_z0 := n_z0
  clear n_z0
  clear B_z1
  have B_z1 := n_z1
  clear n_z1
  clear HB
  have HB := nHB
  clear nHB
  obtain ⟨c0z0, c1z0, c2z0, c3z0, c4z0, c5z0⟩ := cells6 B_z0
  go_wp2_with fail
  refine (H5.out _).mono ?_
  clear c0z0 c1z0 c2z0 c3z0 c4z0 c5z0
  rintro e w6 ⟨rfl, bb⟩
  replace bb := nextw (w0 := WS6) (by exact sm) bb
  replace B_z0 := mv B_z0 bb
  replace B_z1 := mv B_z1 bb
  replace HB := nx HB bb
  clear bb
  obtain ⟨s0, s1, s2, s3, s4, s5⟩ := cells6 (stor6 B_z1 (.int .i64 0) (.int .i64 0) (.int .i64 0) (.int .i64 0) (.int .i64 0) (.int .i64 0))
  have HF := stb6 HB (y := w.heap.size + 1) (by omega) 0 (.int .i64 0) 1 (.int .i64 0) 2 (.int .i64 0) 3 (.int .i64 0) 4 (.int .i64 0) 5 (.int .i64 0)
  obtain ⟨c0z1, c1z1, c2z1, c3z1, c4z1, c5z1⟩ := cells6 B_z1
  obtain ⟨f0z1, f1z1, f2z1, f3z1, f4z1, f5z1⟩ := froz6 B_z1
  go_wp2_with fail
  exact bodyPost_ret (v := .tuple #[.agg #[.int .i64 0, .int .i64 0, .int .i64 0, .int .i64 0, .int .i64 0, .int .i64 0], .int .i64 2]) (by simp [results, Try.results34, go_sem, s0, s1, s2, s3, s4, s5]) rfl ⟨rfl, nextw HF.out (by exact sm)⟩

def RMoveV (x0 y0 x1 y1 f c a b k l : Int) : Value := if OkB x0 y0 x1 y1 f c then if b < a then .tuple #[.agg #[.int .i64 0, .int .i64 0, .int .i64 0, .int .i64 0, .int .i64 0, .int .i64 0], .int .i64 1] else if l < k then .tuple #[.agg #[.int .i64 0, .int .i64 0, .int .i64 0, .int .i64 0, .int .i64 0, .int .i64 0], .int .i64 1] else if SzP a 4194304 then if SzP b 4194304 then if SzP k 4194304 then if SzP l 4194304 then if OkB (x0 + a) (y0 + k) (x1 + b) (y1 + l) f c then .tuple #[.agg #[.int .i64 (x0 + a), .int .i64 (y0 + k), .int .i64 (x1 + b), .int .i64 (y1 + l), .int .i64 f, .int .i64 c], .int .i64 0] else .tuple #[.agg #[.int .i64 0, .int .i64 0, .int .i64 0, .int .i64 0, .int .i64 0, .int .i64 0], .int .i64 2] else .tuple #[.agg #[.int .i64 0, .int .i64 0, .int .i64 0, .int .i64 0, .int .i64 0, .int .i64 0], .int .i64 2] else .tuple #[.agg #[.int .i64 0, .int .i64 0, .int .i64 0, .int .i64 0, .int .i64 0, .int .i64 0], .int .i64 2] else .tuple #[.agg #[.int .i64 0, .int .i64 0, .int .i64 0, .int .i64 0, .int .i64 0, .int .i64 0], .int .i64 2] else .tuple #[.agg #[.int .i64 0, .int .i64 0, .int .i64 0, .int .i64 0, .int .i64 0, .int .i64 0], .int .i64 2] else .tuple #[.agg #[.int .i64 0, .int .i64 0, .int .i64 0, .int .i64 0, .int .i64 0, .int .i64 0], .int .i64 1]
theorem RMove_any (x0 y0 x1 y1 f c a b k l : Int)  (w : World) :
    Calls Try.prog 34 #[.agg #[.int .i64 x0, .int .i64 y0, .int .i64 x1, .int .i64 y1, .int .i64 f, .int .i64 c], .int .i64 a, .int .i64 b, .int .i64 k, .int .i64 l] w fun e w' => e = .returned (RMoveV x0 y0 x1 y1 f c a b k l) ∧ Below w.heap.size w w' := by
  unfold RMoveV
  by_cases dd0 : OkB x0 y0 x1 y1 f c
  · rw [if_pos dd0]
    by_cases dd1 : b < a
    · rw [if_pos dd1]
      exact RMove_w0 x0 y0 x1 y1 f c a b k l    dd0 dd1 w
    · rw [if_neg dd1]
      by_cases dd2 : l < k
      · rw [if_pos dd2]
        exact RMove_w2 x0 y0 x1 y1 f c a b k l    dd0 (by omega) dd2 w
      · rw [if_neg dd2]
        by_cases dd3 : SzP a 4194304
        · rw [if_pos dd3]
          by_cases dd4 : SzP b 4194304
          · rw [if_pos dd4]
            by_cases dd5 : SzP k 4194304
            · rw [if_pos dd5]
              by_cases dd6 : SzP l 4194304
              · rw [if_pos dd6]
                by_cases dd7 : OkB (x0 + a) (y0 + k) (x1 + b) (y1 + l) f c
                · rw [if_pos dd7]
                  exact RMove_w3 x0 y0 x1 y1 f c a b k l    dd0 (by omega) (by omega) dd3 dd4 dd5 dd6 dd7 w
                · rw [if_neg dd7]
                  exact RMove_w8 x0 y0 x1 y1 f c a b k l    dd0 (by omega) (by omega) dd3 dd4 dd5 dd6 dd7 w
              · rw [if_neg dd6]
                exact RMove_w7 x0 y0 x1 y1 f c a b k l    dd0 (by omega) (by omega) dd3 dd4 dd5 dd6 w
            · rw [if_neg dd5]
              exact RMove_w6 x0 y0 x1 y1 f c a b k l    dd0 (by omega) (by omega) dd3 dd4 dd5 w
          · rw [if_neg dd4]
            exact RMove_w5 x0 y0 x1 y1 f c a b k l    dd0 (by omega) (by omega) dd3 dd4 w
        · rw [if_neg dd3]
          exact RMove_w4 x0 y0 x1 y1 f c a b k l    dd0 (by omega) (by omega) dd3 w
  · rw [if_neg dd0]
    exact RMove_w1 x0 y0 x1 y1 f c a b k l    dd0 w

/-- What Move answers. -/
def mvArg (x0 y0 x1 y1 f c a b k l : Int) : Prop := OkB x0 y0 x1 y1 f c ∧ a ≤ b ∧ k ≤ l
instance (x0 y0 x1 y1 f c a b k l : Int) : Decidable (mvArg x0 y0 x1 y1 f c a b k l) := inferInstanceAs (Decidable (_ ∧ _))
def mvRng (x0 y0 x1 y1 a b k l : Int) : Prop := -1048576 ≤ x0 + a ∧ x0 + a ≤ 1048576 ∧ -1048576 ≤ x1 + b ∧ x1 + b ≤ 1048576 ∧ -1048576 ≤ y0 + k ∧ y0 + k ≤ 1048576 ∧ -1048576 ≤ y1 + l ∧ y1 + l ≤ 1048576
instance (x0 y0 x1 y1 a b k l : Int) : Decidable (mvRng x0 y0 x1 y1 a b k l) := inferInstanceAs (Decidable (_ ∧ _))
def mvV (x0 y0 x1 y1 f c a b k l : Int) : Value := if mvArg x0 y0 x1 y1 f c a b k l then if mvRng x0 y0 x1 y1 a b k l then .tuple #[.agg #[.int .i64 (x0 + a), .int .i64 (y0 + k), .int .i64 (x1 + b), .int .i64 (y1 + l), .int .i64 f, .int .i64 c], .int .i64 0] else .tuple #[.agg #[.int .i64 0, .int .i64 0, .int .i64 0, .int .i64 0, .int .i64 0, .int .i64 0], .int .i64 2] else .tuple #[.agg #[.int .i64 0, .int .i64 0, .int .i64 0, .int .i64 0, .int .i64 0, .int .i64 0], .int .i64 1]

theorem Move_is (x0 y0 x1 y1 f c a b k l : Int) (w : World) : Calls Try.prog 33 #[.agg #[.int .i64 x0, .int .i64 y0, .int .i64 x1, .int .i64 y1, .int .i64 f, .int .i64 c], .int .i64 a, .int .i64 b, .int .i64 k, .int .i64 l] w fun e w' => e = .returned (mvV x0 y0 x1 y1 f c a b k l) ∧ Below w.heap.size w w' := by
  rw [← show MoveV x0 y0 x1 y1 f c a b k l = mvV x0 y0 x1 y1 f c a b k l from (by unfold MoveV mvV; repeat' split; all_goals try simp only [mvArg, mvRng, Rch, SzP, OkB, OkA] at *; all_goals first | rfl | (exfalso; omega))]; exact Move_any x0 y0 x1 y1 f c a b k l w

theorem RMove_is (x0 y0 x1 y1 f c a b k l : Int) (w : World) : Calls Try.prog 34 #[.agg #[.int .i64 x0, .int .i64 y0, .int .i64 x1, .int .i64 y1, .int .i64 f, .int .i64 c], .int .i64 a, .int .i64 b, .int .i64 k, .int .i64 l] w fun e w' => e = .returned (mvV x0 y0 x1 y1 f c a b k l) ∧ Below w.heap.size w w' := by
  rw [← show RMoveV x0 y0 x1 y1 f c a b k l = mvV x0 y0 x1 y1 f c a b k l from (by unfold RMoveV mvV; repeat' split; all_goals try simp only [mvArg, mvRng, Rch, SzP, OkB, OkA] at *; all_goals first | rfl | (exfalso; omega))]; exact RMove_any x0 y0 x1 y1 f c a b k l w
end Go.Proofs.Ytjpdahalplkfbaa
