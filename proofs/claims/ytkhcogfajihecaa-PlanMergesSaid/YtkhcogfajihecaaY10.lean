/- valid vectors. -/
import Derived.Test.YtkhcogfajihecaaY9
set_option linter.unusedVariables false
set_option linter.unusedSimpArgs false
namespace Go.Proofs.Ytkhcogfajihecaa
open Go Go.RowKit Hd

set_option maxRecDepth 100000 in
set_option maxHeartbeats 4000000 in
theorem HValid_w0 (x y d : Int)   (dd0 : d < 1) (w : World) :
    Calls Try.prog 77 #[.agg #[.int .i64 x, .int .i64 y, .int .i64 d]] w fun e w' => e = .returned (.bool false) ∧ Below w.heap.size w w' := by
  obtain ⟨HB, B_z0⟩ := box1 w 59 #[.int .i64 x, .int .i64 y, .int .i64 d]
  go_enter Try.func77, Try.ntmps77
  go_upto_region 1 with (fail)
  generalize w.alloc (.cells #[.int .i64 x, .int .i64 y, .int .i64 d] 59) = W0 at *
  obtain ⟨c0z0, c1z0, c2z0⟩ := cells3 B_z0
  go_wp2
  go_ret
  exact ⟨(by first | rfl | exact rbt (by omega) | exact rbf (by omega)), nextw HB.out (by exact sm)⟩

set_option maxRecDepth 100000 in
set_option maxHeartbeats 4000000 in
theorem HValid_w1 (x y d : Int)   (dd0 : 1 ≤ d) (dd1 : 67108864 < d) (w : World) :
    Calls Try.prog 77 #[.agg #[.int .i64 x, .int .i64 y, .int .i64 d]] w fun e w' => e = .returned (.bool false) ∧ Below w.heap.size w w' := by
  obtain ⟨HB, B_z0⟩ := box1 w 59 #[.int .i64 x, .int .i64 y, .int .i64 d]
  go_enter Try.func77, Try.ntmps77
  go_upto_region 1 with (fail)
  generalize w.alloc (.cells #[.int .i64 x, .int .i64 y, .int .i64 d] 59) = W0 at *
  obtain ⟨c0z0, c1z0, c2z0⟩ := cells3 B_z0
  go_wp2
  go_ret
  exact ⟨(by first | rfl | exact rbt (by omega) | exact rbf (by omega)), nextw HB.out (by exact sm)⟩

set_option maxRecDepth 100000 in
set_option maxHeartbeats 4000000 in
theorem HValid_w2 (x y d : Int)   (dd0 : 1 ≤ d) (dd1 : d ≤ 67108864) (dd2 : x < (-d)) (w : World) :
    Calls Try.prog 77 #[.agg #[.int .i64 x, .int .i64 y, .int .i64 d]] w fun e w' => e = .returned (.bool false) ∧ Below w.heap.size w w' := by
  obtain ⟨HB, B_z0⟩ := box1 w 59 #[.int .i64 x, .int .i64 y, .int .i64 d]
  go_enter Try.func77, Try.ntmps77
  go_upto_region 1 with (fail)
  generalize w.alloc (.cells #[.int .i64 x, .int .i64 y, .int .i64 d] 59) = W0 at *
  obtain ⟨c0z0, c1z0, c2z0⟩ := cells3 B_z0
  go_wp2
  go_ret
  exact ⟨(by first | rfl | exact rbt (by omega) | exact rbf (by omega)), nextw HB.out (by exact sm)⟩

set_option maxRecDepth 100000 in
set_option maxHeartbeats 4000000 in
theorem HValid_w3 (x y d : Int)   (dd0 : 1 ≤ d) (dd1 : d ≤ 67108864) (dd2 : (-d) ≤ x) (dd3 : d < x) (w : World) :
    Calls Try.prog 77 #[.agg #[.int .i64 x, .int .i64 y, .int .i64 d]] w fun e w' => e = .returned (.bool false) ∧ Below w.heap.size w w' := by
  obtain ⟨HB, B_z0⟩ := box1 w 59 #[.int .i64 x, .int .i64 y, .int .i64 d]
  go_enter Try.func77, Try.ntmps77
  go_upto_region 1 with (fail)
  generalize w.alloc (.cells #[.int .i64 x, .int .i64 y, .int .i64 d] 59) = W0 at *
  obtain ⟨c0z0, c1z0, c2z0⟩ := cells3 B_z0
  go_wp2
  go_ret
  exact ⟨(by first | rfl | exact rbt (by omega) | exact rbf (by omega)), nextw HB.out (by exact sm)⟩

set_option maxRecDepth 100000 in
set_option maxHeartbeats 4000000 in
theorem HValid_w4 (x y d : Int)   (dd0 : 1 ≤ d) (dd1 : d ≤ 67108864) (dd2 : (-d) ≤ x) (dd3 : x ≤ d) (dd4 : y < (-d)) (w : World) :
    Calls Try.prog 77 #[.agg #[.int .i64 x, .int .i64 y, .int .i64 d]] w fun e w' => e = .returned (.bool false) ∧ Below w.heap.size w w' := by
  obtain ⟨HB, B_z0⟩ := box1 w 59 #[.int .i64 x, .int .i64 y, .int .i64 d]
  go_enter Try.func77, Try.ntmps77
  go_upto_region 1 with (fail)
  generalize w.alloc (.cells #[.int .i64 x, .int .i64 y, .int .i64 d] 59) = W0 at *
  obtain ⟨c0z0, c1z0, c2z0⟩ := cells3 B_z0
  go_wp2
  go_ret
  exact ⟨(by first | rfl | exact rbt (by omega) | exact rbf (by omega)), nextw HB.out (by exact sm)⟩

set_option maxRecDepth 100000 in
set_option maxHeartbeats 4000000 in
theorem HValid_w5 (x y d : Int)   (dd0 : 1 ≤ d) (dd1 : d ≤ 67108864) (dd2 : (-d) ≤ x) (dd3 : x ≤ d) (dd4 : (-d) ≤ y) (dd5 : d < y) (w : World) :
    Calls Try.prog 77 #[.agg #[.int .i64 x, .int .i64 y, .int .i64 d]] w fun e w' => e = .returned (.bool false) ∧ Below w.heap.size w w' := by
  obtain ⟨HB, B_z0⟩ := box1 w 59 #[.int .i64 x, .int .i64 y, .int .i64 d]
  go_enter Try.func77, Try.ntmps77
  go_upto_region 1 with (fail)
  generalize w.alloc (.cells #[.int .i64 x, .int .i64 y, .int .i64 d] 59) = W0 at *
  obtain ⟨c0z0, c1z0, c2z0⟩ := cells3 B_z0
  go_wp2
  go_ret
  exact ⟨(by first | rfl | exact rbt (by omega) | exact rbf (by omega)), nextw HB.out (by exact sm)⟩

set_option maxRecDepth 100000 in
set_option maxHeartbeats 4000000 in
theorem HValid_w6 (x y d : Int)   (dd0 : 1 ≤ d) (dd1 : d ≤ 67108864) (dd2 : (-d) ≤ x) (dd3 : x ≤ d) (dd4 : (-d) ≤ y) (dd5 : y ≤ d) (w : World) :
    Calls Try.prog 77 #[.agg #[.int .i64 x, .int .i64 y, .int .i64 d]] w fun e w' => e = .returned (.bool (decide (((x * x) + (y * y)) = (d * d)))) ∧ Below w.heap.size w w' := by
  have sx := (Hd.mul_le (a := x) (b := x) (A := 67108864) (B := 67108864) (by omega) (by omega) (by omega) (by omega))
  have sy := (Hd.mul_le (a := y) (b := y) (A := 67108864) (B := 67108864) (by omega) (by omega) (by omega) (by omega))
  have sd := (Hd.mul_le (a := d) (b := d) (A := 67108864) (B := 67108864) (by omega) (by omega) (by omega) (by omega))
  obtain ⟨sx1, sx2⟩ := sx
  obtain ⟨sy1, sy2⟩ := sy
  obtain ⟨sd1, sd2⟩ := sd
  obtain ⟨HB, B_z0⟩ := box1 w 59 #[.int .i64 x, .int .i64 y, .int .i64 d]
  go_enter Try.func77, Try.ntmps77
  go_upto_region 1 with (fail)
  generalize w.alloc (.cells #[.int .i64 x, .int .i64 y, .int .i64 d] 59) = W0 at *
  obtain ⟨c0z0, c1z0, c2z0⟩ := cells3 B_z0
  go_wp2
  go_ret
  exact ⟨(by first | rfl | exact rbt (by omega) | exact rbf (by omega)), nextw HB.out (by exact sm)⟩

def HValidV (x y d : Int) : Value := if d < 1 then .bool false else if 67108864 < d then .bool false else if x < (-d) then .bool false else if d < x then .bool false else if y < (-d) then .bool false else if d < y then .bool false else .bool (decide (((x * x) + (y * y)) = (d * d)))
theorem HValid_any (x y d : Int)  (w : World) :
    Calls Try.prog 77 #[.agg #[.int .i64 x, .int .i64 y, .int .i64 d]] w fun e w' => e = .returned (HValidV x y d) ∧ Below w.heap.size w w' := by
  unfold HValidV
  by_cases dd0 : d < 1
  · rw [if_pos dd0]
    exact HValid_w0 x y d    dd0 w 
  · rw [if_neg dd0]
    by_cases dd1 : 67108864 < d
    · rw [if_pos dd1]
      exact HValid_w1 x y d    (by omega) dd1 w 
    · rw [if_neg dd1]
      by_cases dd2 : x < (-d)
      · rw [if_pos dd2]
        exact HValid_w2 x y d    (by omega) (by omega) dd2 w 
      · rw [if_neg dd2]
        by_cases dd3 : d < x
        · rw [if_pos dd3]
          exact HValid_w3 x y d    (by omega) (by omega) (by omega) dd3 w 
        · rw [if_neg dd3]
          by_cases dd4 : y < (-d)
          · rw [if_pos dd4]
            exact HValid_w4 x y d    (by omega) (by omega) (by omega) (by omega) dd4 w 
          · rw [if_neg dd4]
            by_cases dd5 : d < y
            · rw [if_pos dd5]
              exact HValid_w5 x y d    (by omega) (by omega) (by omega) (by omega) (by omega) dd5 w 
            · rw [if_neg dd5]
              exact HValid_w6 x y d    (by omega) (by omega) (by omega) (by omega) (by omega) (by omega) w 

theorem HValid_is (x y d : Int)  (w : World) : Calls Try.prog 77 #[.agg #[.int .i64 x, .int .i64 y, .int .i64 d]] w fun e w' => e = .returned (.bool (decide (OkV x y d))) ∧ Below w.heap.size w w' := by
  rw [← show HValidV x y d = .bool (decide (OkV x y d)) from (by unfold HValidV; (repeat' split) <;> (refine congrArg Value.bool ?_; rw [Bool.eq_iff_iff, decide_eq_true_iff]; (try simp only [decide_eq_true_iff, Bool.false_eq_true, false_iff]); first | exact ⟨fun h => ⟨by omega, by omega, h⟩, fun h => h.eq⟩ | (intro h; have h1 := h.lo; have h2 := h.hi; have h3 := h.bx; have h4 := h.by_; omega) | omega))]; exact HValid_any x y d  w

set_option maxRecDepth 100000 in
set_option maxHeartbeats 4000000 in
theorem BVector_w0 (x y d : Int)   (dd0 : 1 ≤ d) (dd1 : d ≤ 67108864) (dd2 : Wi x d) (dd3 : Wi y d) (w : World) :
    Calls Try.prog 80 #[.agg #[.int .i64 x, .int .i64 y, .int .i64 d]] w fun e w' => e = .returned (.bool (decide (((x * x) + (y * y)) = (d * d)))) ∧ Below w.heap.size w w' := by
  have H0 := Lib.hid (fun w => Size_is x d (by omega) w)
  have H1 := Lib.hid (fun w => Size_is y d (by omega) w)
  have dd2x1 := dd2.1
  have dd2x2 := dd2.2
  have dd3x1 := dd3.1
  have dd3x2 := dd3.2
  have sx := (Hd.mul_le (a := x) (b := x) (A := 67108864) (B := 67108864) (by omega) (by omega) (by omega) (by omega))
  have sy := (Hd.mul_le (a := y) (b := y) (A := 67108864) (B := 67108864) (by omega) (by omega) (by omega) (by omega))
  have sd := (Hd.mul_le (a := d) (b := d) (A := 67108864) (B := 67108864) (by omega) (by omega) (by omega) (by omega))
  obtain ⟨sx1, sx2⟩ := sx
  obtain ⟨sy1, sy2⟩ := sy
  obtain ⟨sd1, sd2⟩ := sd
  obtain ⟨HB, B_z0⟩ := box1 w 59 #[.int .i64 x, .int .i64 y, .int .i64 d]
  go_enter Try.func80, Try.ntmps80
  go_upto_region 1 with (fail)
  generalize w.alloc (.cells #[.int .i64 x, .int .i64 y, .int .i64 d] 59) = W0 at *
  obtain ⟨c0z0, c1z0, c2z0⟩ := cells3 B_z0
  go_wp2_with fail
  refine (H0.out _).mono ?_
  clear c0z0 c1z0 c2z0
  rintro e w1 ⟨rfl, bb⟩
  replace bb := nextw (w0 := W0) (by exact sm) bb
  replace B_z0 := mv B_z0 bb
  replace HB := nx HB bb
  clear bb
  obtain ⟨c0z0, c1z0, c2z0⟩ := cells3 B_z0
  go_wp2_with fail
  refine (H1.out _).mono ?_
  clear c0z0 c1z0 c2z0
  rintro e w2 ⟨rfl, bb⟩
  replace bb := nextw (w0 := w1) (by exact sm) bb
  replace B_z0 := mv B_z0 bb
  replace HB := nx HB bb
  clear bb
  obtain ⟨c0z0, c1z0, c2z0⟩ := cells3 B_z0
  go_wp2
  go_ret
  exact ⟨(by first | rfl | exact rbt (by omega) | exact rbf (by omega)), nextw HB.out (by exact sm)⟩

set_option maxRecDepth 100000 in
set_option maxHeartbeats 4000000 in
theorem BVector_w1 (x y d : Int)   (dd0 : d < 1) (w : World) :
    Calls Try.prog 80 #[.agg #[.int .i64 x, .int .i64 y, .int .i64 d]] w fun e w' => e = .returned (.bool false) ∧ Below w.heap.size w w' := by
  obtain ⟨HB, B_z0⟩ := box1 w 59 #[.int .i64 x, .int .i64 y, .int .i64 d]
  go_enter Try.func80, Try.ntmps80
  go_upto_region 1 with (fail)
  generalize w.alloc (.cells #[.int .i64 x, .int .i64 y, .int .i64 d] 59) = W0 at *
  obtain ⟨c0z0, c1z0, c2z0⟩ := cells3 B_z0
  go_wp2
  go_ret
  exact ⟨(by first | rfl | exact rbt (by omega) | exact rbf (by omega)), nextw HB.out (by exact sm)⟩

set_option maxRecDepth 100000 in
set_option maxHeartbeats 4000000 in
theorem BVector_w2 (x y d : Int)   (dd0 : 1 ≤ d) (dd1 : 67108864 < d) (w : World) :
    Calls Try.prog 80 #[.agg #[.int .i64 x, .int .i64 y, .int .i64 d]] w fun e w' => e = .returned (.bool false) ∧ Below w.heap.size w w' := by
  obtain ⟨HB, B_z0⟩ := box1 w 59 #[.int .i64 x, .int .i64 y, .int .i64 d]
  go_enter Try.func80, Try.ntmps80
  go_upto_region 1 with (fail)
  generalize w.alloc (.cells #[.int .i64 x, .int .i64 y, .int .i64 d] 59) = W0 at *
  obtain ⟨c0z0, c1z0, c2z0⟩ := cells3 B_z0
  go_wp2
  go_ret
  exact ⟨(by first | rfl | exact rbt (by omega) | exact rbf (by omega)), nextw HB.out (by exact sm)⟩

set_option maxRecDepth 100000 in
set_option maxHeartbeats 4000000 in
theorem BVector_w3 (x y d : Int)   (dd0 : 1 ≤ d) (dd1 : d ≤ 67108864) (dd2 : ¬ (Wi x d)) (w : World) :
    Calls Try.prog 80 #[.agg #[.int .i64 x, .int .i64 y, .int .i64 d]] w fun e w' => e = .returned (.bool false) ∧ Below w.heap.size w w' := by
  have H0 := Lib.hid (fun w => Size_is x d (by omega) w)
  obtain ⟨HB, B_z0⟩ := box1 w 59 #[.int .i64 x, .int .i64 y, .int .i64 d]
  go_enter Try.func80, Try.ntmps80
  go_upto_region 1 with (fail)
  generalize w.alloc (.cells #[.int .i64 x, .int .i64 y, .int .i64 d] 59) = W0 at *
  obtain ⟨c0z0, c1z0, c2z0⟩ := cells3 B_z0
  go_wp2_with fail
  refine (H0.out _).mono ?_
  clear c0z0 c1z0 c2z0
  rintro e w1 ⟨rfl, bb⟩
  replace bb := nextw (w0 := W0) (by exact sm) bb
  replace B_z0 := mv B_z0 bb
  replace HB := nx HB bb
  clear bb
  go_wp2
  go_ret
  exact ⟨(by first | rfl | exact rbt (by omega) | exact rbf (by omega)), nextw HB.out (by exact sm)⟩

set_option maxRecDepth 100000 in
set_option maxHeartbeats 4000000 in
theorem BVector_w4 (x y d : Int)   (dd0 : 1 ≤ d) (dd1 : d ≤ 67108864) (dd2 : Wi x d) (dd3 : ¬ (Wi y d)) (w : World) :
    Calls Try.prog 80 #[.agg #[.int .i64 x, .int .i64 y, .int .i64 d]] w fun e w' => e = .returned (.bool false) ∧ Below w.heap.size w w' := by
  have H0 := Lib.hid (fun w => Size_is x d (by omega) w)
  have H1 := Lib.hid (fun w => Size_is y d (by omega) w)
  have dd2x1 := dd2.1
  have dd2x2 := dd2.2
  obtain ⟨HB, B_z0⟩ := box1 w 59 #[.int .i64 x, .int .i64 y, .int .i64 d]
  go_enter Try.func80, Try.ntmps80
  go_upto_region 1 with (fail)
  generalize w.alloc (.cells #[.int .i64 x, .int .i64 y, .int .i64 d] 59) = W0 at *
  obtain ⟨c0z0, c1z0, c2z0⟩ := cells3 B_z0
  go_wp2_with fail
  refine (H0.out _).mono ?_
  clear c0z0 c1z0 c2z0
  rintro e w1 ⟨rfl, bb⟩
  replace bb := nextw (w0 := W0) (by exact sm) bb
  replace B_z0 := mv B_z0 bb
  replace HB := nx HB bb
  clear bb
  obtain ⟨c0z0, c1z0, c2z0⟩ := cells3 B_z0
  go_wp2_with fail
  refine (H1.out _).mono ?_
  clear c0z0 c1z0 c2z0
  rintro e w2 ⟨rfl, bb⟩
  replace bb := nextw (w0 := w1) (by exact sm) bb
  replace B_z0 := mv B_z0 bb
  replace HB := nx HB bb
  clear bb
  go_wp2
  go_ret
  exact ⟨(by first | rfl | exact rbt (by omega) | exact rbf (by omega)), nextw HB.out (by exact sm)⟩

def BVectorV (x y d : Int) : Value := if 1 ≤ d then if d ≤ 67108864 then if Wi x d then if Wi y d then .bool (decide (((x * x) + (y * y)) = (d * d))) else .bool false else .bool false else .bool false else .bool false
theorem BVector_any (x y d : Int)  (w : World) :
    Calls Try.prog 80 #[.agg #[.int .i64 x, .int .i64 y, .int .i64 d]] w fun e w' => e = .returned (BVectorV x y d) ∧ Below w.heap.size w w' := by
  unfold BVectorV
  by_cases dd0 : 1 ≤ d
  · rw [if_pos dd0]
    by_cases dd1 : d ≤ 67108864
    · rw [if_pos dd1]
      by_cases dd2 : Wi x d
      · rw [if_pos dd2]
        by_cases dd3 : Wi y d
        · rw [if_pos dd3]
          exact BVector_w0 x y d    dd0 dd1 dd2 dd3 w 
        · rw [if_neg dd3]
          exact BVector_w4 x y d    dd0 dd1 dd2 dd3 w 
      · rw [if_neg dd2]
        exact BVector_w3 x y d    dd0 dd1 dd2 w 
    · rw [if_neg dd1]
      exact BVector_w2 x y d    dd0 (by omega) w 
  · rw [if_neg dd0]
    exact BVector_w1 x y d    (by omega) w 

theorem BVector_is (x y d : Int)  (w : World) : Calls Try.prog 80 #[.agg #[.int .i64 x, .int .i64 y, .int .i64 d]] w fun e w' => e = .returned (.bool (decide (OkV x y d))) ∧ Below w.heap.size w w' := by
  rw [← show BVectorV x y d = .bool (decide (OkV x y d)) from (by unfold BVectorV; (repeat' split) <;> (refine congrArg Value.bool ?_; rw [Bool.eq_iff_iff, decide_eq_true_iff]; (try simp only [decide_eq_true_iff, Bool.false_eq_true, false_iff]); first | exact ⟨fun h => ⟨by omega, by omega, h⟩, fun h => h.eq⟩ | (intro h; have h1 := h.lo; have h2 := h.hi; have h3 := h.bx; have h4 := h.by_; (try simp only [Wi] at *); omega) | omega))]; exact BVector_any x y d  w
end Go.Proofs.Ytkhcogfajihecaa
