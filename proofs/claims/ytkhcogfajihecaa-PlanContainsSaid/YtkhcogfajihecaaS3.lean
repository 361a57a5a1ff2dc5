/- heading.Valid; wayfinderbase's Vector, Size, Clip; the reference's Point, Rect, off, Gap, Turn; Minus. -/
import Derived.Test.YtkhcogfajihecaaS2
set_option linter.unusedVariables false
set_option linter.unusedSimpArgs false
namespace Go.Proofs.Ytkhcogfajihecaa
open Go Go.RowKit Hd

theorem sq_bound {x d : Int} (h1 : -d ≤ x) (h2 : x ≤ d) (hd : d ≤ 67108864) : 0 ≤ x * x ∧ x * x ≤ 4503599627370496 := by
  refine ⟨sq_nonneg x, ?_⟩
  have := (mul_le (a := x) (b := x) (A := 67108864) (B := 67108864) (by omega) (by omega) (by omega) (by omega)).2
  omega

set_option maxRecDepth 100000 in
set_option maxHeartbeats 1000000 in
theorem HV_0 (x y d : Int)  (g0 : d < 1) (w : World) :
    Calls Try.prog 77 #[.agg #[.int .i64 x, .int .i64 y, .int .i64 d]] w fun e w' => e = .returned (.bool false) ∧ Below w.heap.size w w' := by
  obtain ⟨HB, B_a⟩ := box1 w 59 #[.int .i64 x, .int .i64 y, .int .i64 d]
  go_enter Try.func77, Try.ntmps77
  go_wp2_with fail
  generalize w.alloc (.cells #[.int .i64 x, .int .i64 y, .int .i64 d] 59) = W0 at *
  obtain ⟨c0a, c1a, c2a⟩ := cells3 B_a
  go_wp2
  go_ret
  exact ⟨(by first | rfl | exact rbt (by omega) | exact rbf (by omega)), nextw HB.out (by exact sm)⟩

set_option maxRecDepth 100000 in
set_option maxHeartbeats 1000000 in
theorem HV_1 (x y d : Int) (g0 : 1 ≤ d) (g1 : 67108864 < d) (w : World) :
    Calls Try.prog 77 #[.agg #[.int .i64 x, .int .i64 y, .int .i64 d]] w fun e w' => e = .returned (.bool false) ∧ Below w.heap.size w w' := by
  obtain ⟨HB, B_a⟩ := box1 w 59 #[.int .i64 x, .int .i64 y, .int .i64 d]
  go_enter Try.func77, Try.ntmps77
  go_wp2_with fail
  generalize w.alloc (.cells #[.int .i64 x, .int .i64 y, .int .i64 d] 59) = W0 at *
  obtain ⟨c0a, c1a, c2a⟩ := cells3 B_a
  go_wp2
  go_ret
  exact ⟨(by first | rfl | exact rbt (by omega) | exact rbf (by omega)), nextw HB.out (by exact sm)⟩

set_option maxRecDepth 100000 in
set_option maxHeartbeats 1000000 in
theorem HV_2 (x y d : Int) (g0 : 1 ≤ d) (g1 : d ≤ 67108864) (g2 : x < -d) (w : World) :
    Calls Try.prog 77 #[.agg #[.int .i64 x, .int .i64 y, .int .i64 d]] w fun e w' => e = .returned (.bool false) ∧ Below w.heap.size w w' := by
  obtain ⟨HB, B_a⟩ := box1 w 59 #[.int .i64 x, .int .i64 y, .int .i64 d]
  go_enter Try.func77, Try.ntmps77
  go_wp2_with fail
  generalize w.alloc (.cells #[.int .i64 x, .int .i64 y, .int .i64 d] 59) = W0 at *
  obtain ⟨c0a, c1a, c2a⟩ := cells3 B_a
  go_wp2
  go_ret
  exact ⟨(by first | rfl | exact rbt (by omega) | exact rbf (by omega)), nextw HB.out (by exact sm)⟩

set_option maxRecDepth 100000 in
set_option maxHeartbeats 1000000 in
theorem HV_3 (x y d : Int) (g0 : 1 ≤ d) (g1 : d ≤ 67108864) (g2 : -d ≤ x) (g3 : d < x) (w : World) :
    Calls Try.prog 77 #[.agg #[.int .i64 x, .int .i64 y, .int .i64 d]] w fun e w' => e = .returned (.bool false) ∧ Below w.heap.size w w' := by
  obtain ⟨HB, B_a⟩ := box1 w 59 #[.int .i64 x, .int .i64 y, .int .i64 d]
  go_enter Try.func77, Try.ntmps77
  go_wp2_with fail
  generalize w.alloc (.cells #[.int .i64 x, .int .i64 y, .int .i64 d] 59) = W0 at *
  obtain ⟨c0a, c1a, c2a⟩ := cells3 B_a
  go_wp2
  go_ret
  exact ⟨(by first | rfl | exact rbt (by omega) | exact rbf (by omega)), nextw HB.out (by exact sm)⟩

set_option maxRecDepth 100000 in
set_option maxHeartbeats 1000000 in
theorem HV_4 (x y d : Int) (g0 : 1 ≤ d) (g1 : d ≤ 67108864) (g2 : -d ≤ x) (g3 : x ≤ d) (g4 : y < -d) (w : World) :
    Calls Try.prog 77 #[.agg #[.int .i64 x, .int .i64 y, .int .i64 d]] w fun e w' => e = .returned (.bool false) ∧ Below w.heap.size w w' := by
  obtain ⟨HB, B_a⟩ := box1 w 59 #[.int .i64 x, .int .i64 y, .int .i64 d]
  go_enter Try.func77, Try.ntmps77
  go_wp2_with fail
  generalize w.alloc (.cells #[.int .i64 x, .int .i64 y, .int .i64 d] 59) = W0 at *
  obtain ⟨c0a, c1a, c2a⟩ := cells3 B_a
  go_wp2
  go_ret
  exact ⟨(by first | rfl | exact rbt (by omega) | exact rbf (by omega)), nextw HB.out (by exact sm)⟩

set_option maxRecDepth 100000 in
set_option maxHeartbeats 1000000 in
theorem HV_5 (x y d : Int) (g0 : 1 ≤ d) (g1 : d ≤ 67108864) (g2 : -d ≤ x) (g3 : x ≤ d) (g4 : -d ≤ y) (g5 : d < y) (w : World) :
    Calls Try.prog 77 #[.agg #[.int .i64 x, .int .i64 y, .int .i64 d]] w fun e w' => e = .returned (.bool false) ∧ Below w.heap.size w w' := by
  obtain ⟨HB, B_a⟩ := box1 w 59 #[.int .i64 x, .int .i64 y, .int .i64 d]
  go_enter Try.func77, Try.ntmps77
  go_wp2_with fail
  generalize w.alloc (.cells #[.int .i64 x, .int .i64 y, .int .i64 d] 59) = W0 at *
  obtain ⟨c0a, c1a, c2a⟩ := cells3 B_a
  go_wp2
  go_ret
  exact ⟨(by first | rfl | exact rbt (by omega) | exact rbf (by omega)), nextw HB.out (by exact sm)⟩

set_option maxRecDepth 100000 in
set_option maxHeartbeats 1000000 in
theorem HV_6 (x y d : Int) (g0 : 1 ≤ d) (g1 : d ≤ 67108864) (g2 : -d ≤ x) (g3 : x ≤ d) (g4 : -d ≤ y) (g5 : y ≤ d) (g6 : (x * x + y * y == d * d) = false) (w : World) :
    Calls Try.prog 77 #[.agg #[.int .i64 x, .int .i64 y, .int .i64 d]] w fun e w' => e = .returned (.bool false) ∧ Below w.heap.size w w' := by
  have hx := sq_bound (show -d ≤ x by omega) (by omega) (by omega)
  have hy := sq_bound (show -d ≤ y by omega) (by omega) (by omega)
  have hd := sq_bound (show -d ≤ d by omega) (by omega) (by omega)
  obtain ⟨HB, B_a⟩ := box1 w 59 #[.int .i64 x, .int .i64 y, .int .i64 d]
  go_enter Try.func77, Try.ntmps77
  go_wp2_with fail
  generalize w.alloc (.cells #[.int .i64 x, .int .i64 y, .int .i64 d] 59) = W0 at *
  obtain ⟨c0a, c1a, c2a⟩ := cells3 B_a
  go_wp2
  go_ret
  exact ⟨(by first | rfl | exact rbt (by omega) | exact rbf (by omega)), nextw HB.out (by exact sm)⟩

set_option maxRecDepth 100000 in
set_option maxHeartbeats 1000000 in
theorem HV_ok (x y d : Int) (g0 : 1 ≤ d) (g1 : d ≤ 67108864) (g2 : -d ≤ x) (g3 : x ≤ d) (g4 : -d ≤ y) (g5 : y ≤ d) (g6 : (x * x + y * y == d * d) = true) (w : World) :
    Calls Try.prog 77 #[.agg #[.int .i64 x, .int .i64 y, .int .i64 d]] w fun e w' => e = .returned (.bool true) ∧ Below w.heap.size w w' := by
  have hx := sq_bound (show -d ≤ x by omega) (by omega) (by omega)
  have hy := sq_bound (show -d ≤ y by omega) (by omega) (by omega)
  have hd := sq_bound (show -d ≤ d by omega) (by omega) (by omega)
  obtain ⟨HB, B_a⟩ := box1 w 59 #[.int .i64 x, .int .i64 y, .int .i64 d]
  go_enter Try.func77, Try.ntmps77
  go_wp2_with fail
  generalize w.alloc (.cells #[.int .i64 x, .int .i64 y, .int .i64 d] 59) = W0 at *
  obtain ⟨c0a, c1a, c2a⟩ := cells3 B_a
  go_wp2
  go_ret
  exact ⟨(by first | rfl | exact rbt (by omega) | exact rbf (by omega)), nextw HB.out (by exact sm)⟩

theorem HV_t {x y d : Int} (h : OkV x y d) (w : World) : Calls Try.prog 77 #[.agg #[.int .i64 x, .int .i64 y, .int .i64 d]] w fun e w' => e = .returned (.bool true) ∧ Below w.heap.size w w' :=
  HV_ok x y d h.lo h.hi h.bx.1 h.bx.2 h.by_.1 h.by_.2 (by rw [h.eq]; simp) w
theorem HV_f {x y d : Int} (h : ¬ OkV x y d) (w : World) : Calls Try.prog 77 #[.agg #[.int .i64 x, .int .i64 y, .int .i64 d]] w fun e w' => e = .returned (.bool false) ∧ Below w.heap.size w w' := by
  by_cases g0 : 1 ≤ d
  · by_cases g1 : d ≤ 67108864
    · by_cases g2 : -d ≤ x
      · by_cases g3 : x ≤ d
        · by_cases g4 : -d ≤ y
          · by_cases g5 : y ≤ d
            · refine HV_6 x y d g0 g1 g2 g3 g4 g5 ?_ w
              rw [beq_eq_false_iff_ne]; intro e; exact h ⟨g0, g1, e⟩
            · exact HV_5 x y d g0 g1 g2 g3 g4 (by omega) w
          · exact HV_4 x y d g0 g1 g2 g3 (by omega) w
        · exact HV_3 x y d g0 g1 g2 (by omega) w
      · exact HV_2 x y d g0 g1 (by omega) w
    · exact HV_1 x y d g0 (by omega) w
  · exact HV_0 x y d (by omega) w

set_option maxRecDepth 100000 in
set_option maxHeartbeats 1000000 in
theorem BV_0 (x y d : Int)  (g0 : d < 1) (w : World) :
    Calls Try.prog 80 #[.agg #[.int .i64 x, .int .i64 y, .int .i64 d]] w fun e w' => e = .returned (.bool false) ∧ Below w.heap.size w w' := by
  obtain ⟨HB, B_a⟩ := box1 w 59 #[.int .i64 x, .int .i64 y, .int .i64 d]
  go_enter Try.func80, Try.ntmps80
  go_wp2_with fail
  generalize w.alloc (.cells #[.int .i64 x, .int .i64 y, .int .i64 d] 59) = W0 at *
  obtain ⟨c0a, c1a, c2a⟩ := cells3 B_a
  go_wp2
  go_ret
  exact ⟨(by first | rfl | exact rbt (by omega) | exact rbf (by omega)), nextw HB.out (by exact sm)⟩

set_option maxRecDepth 100000 in
set_option maxHeartbeats 1000000 in
theorem BV_1 (x y d : Int) (g0 : 1 ≤ d) (g1 : 67108864 < d) (w : World) :
    Calls Try.prog 80 #[.agg #[.int .i64 x, .int .i64 y, .int .i64 d]] w fun e w' => e = .returned (.bool false) ∧ Below w.heap.size w w' := by
  obtain ⟨HB, B_a⟩ := box1 w 59 #[.int .i64 x, .int .i64 y, .int .i64 d]
  go_enter Try.func80, Try.ntmps80
  go_wp2_with fail
  generalize w.alloc (.cells #[.int .i64 x, .int .i64 y, .int .i64 d] 59) = W0 at *
  obtain ⟨c0a, c1a, c2a⟩ := cells3 B_a
  go_wp2
  go_ret
  exact ⟨(by first | rfl | exact rbt (by omega) | exact rbf (by omega)), nextw HB.out (by exact sm)⟩

set_option maxRecDepth 100000 in
set_option maxHeartbeats 1000000 in
theorem BV_2 (x y d : Int) (g0 : 1 ≤ d) (g1 : d ≤ 67108864) (g2 : x < -d) (w : World) :
    Calls Try.prog 80 #[.agg #[.int .i64 x, .int .i64 y, .int .i64 d]] w fun e w' => e = .returned (.bool false) ∧ Below w.heap.size w w' := by
  obtain ⟨HB, B_a⟩ := box1 w 59 #[.int .i64 x, .int .i64 y, .int .i64 d]
  go_enter Try.func80, Try.ntmps80
  go_wp2_with fail
  generalize w.alloc (.cells #[.int .i64 x, .int .i64 y, .int .i64 d] 59) = W0 at *
  obtain ⟨c0a, c1a, c2a⟩ := cells3 B_a
  go_wp2
  go_ret
  exact ⟨(by first | rfl | exact rbt (by omega) | exact rbf (by omega)), nextw HB.out (by exact sm)⟩

set_option maxRecDepth 100000 in
set_option maxHeartbeats 1000000 in
theorem BV_3 (x y d : Int) (g0 : 1 ≤ d) (g1 : d ≤ 67108864) (g2 : -d ≤ x) (g3 : d < x) (w : World) :
    Calls Try.prog 80 #[.agg #[.int .i64 x, .int .i64 y, .int .i64 d]] w fun e w' => e = .returned (.bool false) ∧ Below w.heap.size w w' := by
  obtain ⟨HB, B_a⟩ := box1 w 59 #[.int .i64 x, .int .i64 y, .int .i64 d]
  go_enter Try.func80, Try.ntmps80
  go_wp2_with fail
  generalize w.alloc (.cells #[.int .i64 x, .int .i64 y, .int .i64 d] 59) = W0 at *
  obtain ⟨c0a, c1a, c2a⟩ := cells3 B_a
  go_wp2
  go_ret
  exact ⟨(by first | rfl | exact rbt (by omega) | exact rbf (by omega)), nextw HB.out (by exact sm)⟩

set_option maxRecDepth 100000 in
set_option maxHeartbeats 1000000 in
theorem BV_4 (x y d : Int) (g0 : 1 ≤ d) (g1 : d ≤ 67108864) (g2 : -d ≤ x) (g3 : x ≤ d) (g4 : y < -d) (w : World) :
    Calls Try.prog 80 #[.agg #[.int .i64 x, .int .i64 y, .int .i64 d]] w fun e w' => e = .returned (.bool false) ∧ Below w.heap.size w w' := by
  obtain ⟨HB, B_a⟩ := box1 w 59 #[.int .i64 x, .int .i64 y, .int .i64 d]
  go_enter Try.func80, Try.ntmps80
  go_wp2_with fail
  generalize w.alloc (.cells #[.int .i64 x, .int .i64 y, .int .i64 d] 59) = W0 at *
  obtain ⟨c0a, c1a, c2a⟩ := cells3 B_a
  go_wp2
  go_ret
  exact ⟨(by first | rfl | exact rbt (by omega) | exact rbf (by omega)), nextw HB.out (by exact sm)⟩

set_option maxRecDepth 100000 in
set_option maxHeartbeats 1000000 in
theorem BV_5 (x y d : Int) (g0 : 1 ≤ d) (g1 : d ≤ 67108864) (g2 : -d ≤ x) (g3 : x ≤ d) (g4 : -d ≤ y) (g5 : d < y) (w : World) :
    Calls Try.prog 80 #[.agg #[.int .i64 x, .int .i64 y, .int .i64 d]] w fun e w' => e = .returned (.bool false) ∧ Below w.heap.size w w' := by
  obtain ⟨HB, B_a⟩ := box1 w 59 #[.int .i64 x, .int .i64 y, .int .i64 d]
  go_enter Try.func80, Try.ntmps80
  go_wp2_with fail
  generalize w.alloc (.cells #[.int .i64 x, .int .i64 y, .int .i64 d] 59) = W0 at *
  obtain ⟨c0a, c1a, c2a⟩ := cells3 B_a
  go_wp2
  go_ret
  exact ⟨(by first | rfl | exact rbt (by omega) | exact rbf (by omega)), nextw HB.out (by exact sm)⟩

set_option maxRecDepth 100000 in
set_option maxHeartbeats 1000000 in
theorem BV_6 (x y d : Int) (g0 : 1 ≤ d) (g1 : d ≤ 67108864) (g2 : -d ≤ x) (g3 : x ≤ d) (g4 : -d ≤ y) (g5 : y ≤ d) (g6 : (x * x + y * y == d * d) = false) (w : World) :
    Calls Try.prog 80 #[.agg #[.int .i64 x, .int .i64 y, .int .i64 d]] w fun e w' => e = .returned (.bool false) ∧ Below w.heap.size w w' := by
  have hx := sq_bound (show -d ≤ x by omega) (by omega) (by omega)
  have hy := sq_bound (show -d ≤ y by omega) (by omega) (by omega)
  have hd := sq_bound (show -d ≤ d by omega) (by omega) (by omega)
  obtain ⟨HB, B_a⟩ := box1 w 59 #[.int .i64 x, .int .i64 y, .int .i64 d]
  go_enter Try.func80, Try.ntmps80
  go_wp2_with fail
  generalize w.alloc (.cells #[.int .i64 x, .int .i64 y, .int .i64 d] 59) = W0 at *
  obtain ⟨c0a, c1a, c2a⟩ := cells3 B_a
  go_wp2
  go_ret
  exact ⟨(by first | rfl | exact rbt (by omega) | exact rbf (by omega)), nextw HB.out (by exact sm)⟩

set_option maxRecDepth 100000 in
set_option maxHeartbeats 1000000 in
theorem BV_ok (x y d : Int) (g0 : 1 ≤ d) (g1 : d ≤ 67108864) (g2 : -d ≤ x) (g3 : x ≤ d) (g4 : -d ≤ y) (g5 : y ≤ d) (g6 : (x * x + y * y == d * d) = true) (w : World) :
    Calls Try.prog 80 #[.agg #[.int .i64 x, .int .i64 y, .int .i64 d]] w fun e w' => e = .returned (.bool true) ∧ Below w.heap.size w w' := by
  have hx := sq_bound (show -d ≤ x by omega) (by omega) (by omega)
  have hy := sq_bound (show -d ≤ y by omega) (by omega) (by omega)
  have hd := sq_bound (show -d ≤ d by omega) (by omega) (by omega)
  obtain ⟨HB, B_a⟩ := box1 w 59 #[.int .i64 x, .int .i64 y, .int .i64 d]
  go_enter Try.func80, Try.ntmps80
  go_wp2_with fail
  generalize w.alloc (.cells #[.int .i64 x, .int .i64 y, .int .i64 d] 59) = W0 at *
  obtain ⟨c0a, c1a, c2a⟩ := cells3 B_a
  go_wp2
  go_ret
  exact ⟨(by first | rfl | exact rbt (by omega) | exact rbf (by omega)), nextw HB.out (by exact sm)⟩

theorem BV_t {x y d : Int} (h : OkV x y d) (w : World) : Calls Try.prog 80 #[.agg #[.int .i64 x, .int .i64 y, .int .i64 d]] w fun e w' => e = .returned (.bool true) ∧ Below w.heap.size w w' :=
  BV_ok x y d h.lo h.hi h.bx.1 h.bx.2 h.by_.1 h.by_.2 (by rw [h.eq]; simp) w
theorem BV_f {x y d : Int} (h : ¬ OkV x y d) (w : World) : Calls Try.prog 80 #[.agg #[.int .i64 x, .int .i64 y, .int .i64 d]] w fun e w' => e = .returned (.bool false) ∧ Below w.heap.size w w' := by
  by_cases g0 : 1 ≤ d
  · by_cases g1 : d ≤ 67108864
    · by_cases g2 : -d ≤ x
      · by_cases g3 : x ≤ d
        · by_cases g4 : -d ≤ y
          · by_cases g5 : y ≤ d
            · refine BV_6 x y d g0 g1 g2 g3 g4 g5 ?_ w
              rw [beq_eq_false_iff_ne]; intro e; exact h ⟨g0, g1, e⟩
            · exact BV_5 x y d g0 g1 g2 g3 g4 (by omega) w
          · exact BV_4 x y d g0 g1 g2 g3 (by omega) w
        · exact BV_3 x y d g0 g1 g2 (by omega) w
      · exact BV_2 x y d g0 g1 (by omega) w
    · exact BV_1 x y d g0 (by omega) w
  · exact BV_0 x y d (by omega) w

set_option maxRecDepth 100000 in
set_option maxHeartbeats 1000000 in
theorem Size_yes (n m : Int) (m0 : 0 ≤ m) (m1 : m ≤ 9223372036854775807) (h1 : -m ≤ n) (h2 : n ≤ m) (w : World) :
    Calls Try.prog 38 #[.int .i64 n, .int .i64 m] w fun e w' => e = .returned (.bool true) ∧ w = w' := by
  go_enter Try.func38, Try.ntmps38
  go_wp2
  go_ret
  exact ⟨by first | rfl | exact rbt (by omega) | exact rbf (by omega), rfl⟩

set_option maxRecDepth 100000 in
set_option maxHeartbeats 1000000 in
theorem Size_no1 (n m : Int) (m0 : 0 ≤ m) (m1 : m ≤ 9223372036854775807) (h1 : n < -m) (w : World) :
    Calls Try.prog 38 #[.int .i64 n, .int .i64 m] w fun e w' => e = .returned (.bool false) ∧ w = w' := by
  go_enter Try.func38, Try.ntmps38
  go_wp2
  go_ret
  exact ⟨by first | rfl | exact rbt (by omega) | exact rbf (by omega), rfl⟩

set_option maxRecDepth 100000 in
set_option maxHeartbeats 1000000 in
theorem Size_no2 (n m : Int) (m0 : 0 ≤ m) (m1 : m ≤ 9223372036854775807) (h1 : -m ≤ n) (h2 : m < n) (w : World) :
    Calls Try.prog 38 #[.int .i64 n, .int .i64 m] w fun e w' => e = .returned (.bool false) ∧ w = w' := by
  go_enter Try.func38, Try.ntmps38
  go_wp2
  go_ret
  exact ⟨by first | rfl | exact rbt (by omega) | exact rbf (by omega), rfl⟩

theorem Size_t {n m : Int} (m0 : 0 ≤ m) (m1 : m ≤ 9223372036854775807) (h : -m ≤ n ∧ n ≤ m) (w : World) : Calls Try.prog 38 #[.int .i64 n, .int .i64 m] w fun e w' => e = .returned (.bool true) ∧ w = w' := Size_yes n m m0 m1 h.1 h.2 w
theorem Size_f {n m : Int} (m0 : 0 ≤ m) (m1 : m ≤ 9223372036854775807) (h : ¬ (-m ≤ n ∧ n ≤ m)) (w : World) : Calls Try.prog 38 #[.int .i64 n, .int .i64 m] w fun e w' => e = .returned (.bool false) ∧ w = w' := by
  by_cases h1 : -m ≤ n
  · exact Size_no2 n m m0 m1 h1 (by omega) w
  · exact Size_no1 n m m0 m1 (by omega) w
theorem SizeL_t {n : Int} (h : OkC n) (w : World) : Calls Try.prog 38 #[.int .i64 n, .int .i64 2097152] w fun e w' => e = .returned (.bool true) ∧ w = w' := Size_t (by decide) (by decide) h w
theorem SizeL_f {n : Int} (h : ¬ OkC n) (w : World) : Calls Try.prog 38 #[.int .i64 n, .int .i64 2097152] w fun e w' => e = .returned (.bool false) ∧ w = w' := Size_f (by decide) (by decide) h w

set_option maxRecDepth 100000 in
set_option maxHeartbeats 1000000 in
theorem RPoint_0 (x y : Int)  (h0 : ¬ OkC x) (w : World) :
    Calls Try.prog 101 #[.agg #[.int .i64 x, .int .i64 y]] w fun e w' => e = .returned (.bool false) ∧ Below w.heap.size w w' := by
  have H0 := Lib.hid (fun w => SizeL_f h0 w)
  clear h0
  obtain ⟨HB, B_a⟩ := box1 w 43 #[.int .i64 x, .int .i64 y]
  go_enter Try.func101, Try.ntmps101
  go_wp2_with fail
  generalize w.alloc (.cells #[.int .i64 x, .int .i64 y] 43) = W0 at *
  obtain ⟨c0a, c1a⟩ := cells2 B_a
  refine (H0.out _).mono ?_
  rintro e w1 ⟨rfl, rfl⟩
  go_wp2
  go_ret
  exact ⟨(by first | rfl | exact rbt (by omega) | exact rbf (by omega)), nextw HB.out (by exact sm)⟩

set_option maxRecDepth 100000 in
set_option maxHeartbeats 1000000 in
theorem RPoint_1 (x y : Int) (h0 : OkC x) (h1 : ¬ OkC y) (w : World) :
    Calls Try.prog 101 #[.agg #[.int .i64 x, .int .i64 y]] w fun e w' => e = .returned (.bool false) ∧ Below w.heap.size w w' := by
  have H0 := Lib.hid (fun w => SizeL_t h0 w)
  have H1 := Lib.hid (fun w => SizeL_f h1 w)
  clear h0 h1
  obtain ⟨HB, B_a⟩ := box1 w 43 #[.int .i64 x, .int .i64 y]
  go_enter Try.func101, Try.ntmps101
  go_wp2_with fail
  generalize w.alloc (.cells #[.int .i64 x, .int .i64 y] 43) = W0 at *
  obtain ⟨c0a, c1a⟩ := cells2 B_a
  refine (H0.out _).mono ?_
  rintro e w1 ⟨rfl, rfl⟩
  go_wp2_with fail
  refine (H1.out _).mono ?_
  rintro e w2 ⟨rfl, rfl⟩
  go_wp2
  go_ret
  exact ⟨(by first | rfl | exact rbt (by omega) | exact rbf (by omega)), nextw HB.out (by exact sm)⟩

set_option maxRecDepth 100000 in
set_option maxHeartbeats 1000000 in
theorem RPoint_ok (x y : Int) (h0 : OkC x) (h1 : OkC y) (w : World) :
    Calls Try.prog 101 #[.agg #[.int .i64 x, .int .i64 y]] w fun e w' => e = .returned (.bool true) ∧ Below w.heap.size w w' := by
  have H0 := Lib.hid (fun w => SizeL_t h0 w)
  have H1 := Lib.hid (fun w => SizeL_t h1 w)
  clear h0 h1
  obtain ⟨HB, B_a⟩ := box1 w 43 #[.int .i64 x, .int .i64 y]
  go_enter Try.func101, Try.ntmps101
  go_wp2_with fail
  generalize w.alloc (.cells #[.int .i64 x, .int .i64 y] 43) = W0 at *
  obtain ⟨c0a, c1a⟩ := cells2 B_a
  refine (H0.out _).mono ?_
  rintro e w1 ⟨rfl, rfl⟩
  go_wp2_with fail
  refine (H1.out _).mono ?_
  rintro e w2 ⟨rfl, rfl⟩
  go_wp2
  go_ret
  exact ⟨(by first | rfl | exact rbt (by omega) | exact rbf (by omega)), nextw HB.out (by exact sm)⟩

set_option maxRecDepth 100000 in
set_option maxHeartbeats 1000000 in
theorem RRect_0 (x0 y0 x1 y1 : Int)  (g0 : x0 < -2097152) (w : World) :
    Calls Try.prog 90 #[.agg #[.int .i64 x0, .int .i64 y0, .int .i64 x1, .int .i64 y1]] w fun e w' => e = .returned (.bool false) ∧ Below w.heap.size w w' := by
  obtain ⟨HB, B_a⟩ := box1 w 45 #[.int .i64 x0, .int .i64 y0, .int .i64 x1, .int .i64 y1]
  go_enter Try.func90, Try.ntmps90
  go_wp2_with fail
  generalize w.alloc (.cells #[.int .i64 x0, .int .i64 y0, .int .i64 x1, .int .i64 y1] 45) = W0 at *
  obtain ⟨c0a, c1a, c2a, c3a⟩ := cells4 B_a
  go_wp2
  go_ret
  exact ⟨(by first | rfl | exact rbt (by omega) | exact rbf (by omega)), nextw HB.out (by exact sm)⟩

set_option maxRecDepth 100000 in
set_option maxHeartbeats 1000000 in
theorem RRect_1 (x0 y0 x1 y1 : Int) (g0 : -2097152 ≤ x0) (g1 : x1 < x0) (w : World) :
    Calls Try.prog 90 #[.agg #[.int .i64 x0, .int .i64 y0, .int .i64 x1, .int .i64 y1]] w fun e w' => e = .returned (.bool false) ∧ Below w.heap.size w w' := by
  obtain ⟨HB, B_a⟩ := box1 w 45 #[.int .i64 x0, .int .i64 y0, .int .i64 x1, .int .i64 y1]
  go_enter Try.func90, Try.ntmps90
  go_wp2_with fail
  generalize w.alloc (.cells #[.int .i64 x0, .int .i64 y0, .int .i64 x1, .int .i64 y1] 45) = W0 at *
  obtain ⟨c0a, c1a, c2a, c3a⟩ := cells4 B_a
  go_wp2
  go_ret
  exact ⟨(by first | rfl | exact rbt (by omega) | exact rbf (by omega)), nextw HB.out (by exact sm)⟩

set_option maxRecDepth 100000 in
set_option maxHeartbeats 1000000 in
theorem RRect_2 (x0 y0 x1 y1 : Int) (g0 : -2097152 ≤ x0) (g1 : x0 ≤ x1) (g2 : 2097152 < x1) (w : World) :
    Calls Try.prog 90 #[.agg #[.int .i64 x0, .int .i64 y0, .int .i64 x1, .int .i64 y1]] w fun e w' => e = .returned (.bool false) ∧ Below w.heap.size w w' := by
  obtain ⟨HB, B_a⟩ := box1 w 45 #[.int .i64 x0, .int .i64 y0, .int .i64 x1, .int .i64 y1]
  go_enter Try.func90, Try.ntmps90
  go_wp2_with fail
  generalize w.alloc (.cells #[.int .i64 x0, .int .i64 y0, .int .i64 x1, .int .i64 y1] 45) = W0 at *
  obtain ⟨c0a, c1a, c2a, c3a⟩ := cells4 B_a
  go_wp2
  go_ret
  exact ⟨(by first | rfl | exact rbt (by omega) | exact rbf (by omega)), nextw HB.out (by exact sm)⟩

set_option maxRecDepth 100000 in
set_option maxHeartbeats 1000000 in
theorem RRect_3 (x0 y0 x1 y1 : Int) (g0 : -2097152 ≤ x0) (g1 : x0 ≤ x1) (g2 : x1 ≤ 2097152) (g3 : y0 < -2097152) (w : World) :
    Calls Try.prog 90 #[.agg #[.int .i64 x0, .int .i64 y0, .int .i64 x1, .int .i64 y1]] w fun e w' => e = .returned (.bool false) ∧ Below w.heap.size w w' := by
  obtain ⟨HB, B_a⟩ := box1 w 45 #[.int .i64 x0, .int .i64 y0, .int .i64 x1, .int .i64 y1]
  go_enter Try.func90, Try.ntmps90
  go_wp2_with fail
  generalize w.alloc (.cells #[.int .i64 x0, .int .i64 y0, .int .i64 x1, .int .i64 y1] 45) = W0 at *
  obtain ⟨c0a, c1a, c2a, c3a⟩ := cells4 B_a
  go_wp2
  go_ret
  exact ⟨(by first | rfl | exact rbt (by omega) | exact rbf (by omega)), nextw HB.out (by exact sm)⟩

set_option maxRecDepth 100000 in
set_option maxHeartbeats 1000000 in
theorem RRect_4 (x0 y0 x1 y1 : Int) (g0 : -2097152 ≤ x0) (g1 : x0 ≤ x1) (g2 : x1 ≤ 2097152) (g3 : -2097152 ≤ y0) (g4 : y1 < y0) (w : World) :
    Calls Try.prog 90 #[.agg #[.int .i64 x0, .int .i64 y0, .int .i64 x1, .int .i64 y1]] w fun e w' => e = .returned (.bool false) ∧ Below w.heap.size w w' := by
  obtain ⟨HB, B_a⟩ := box1 w 45 #[.int .i64 x0, .int .i64 y0, .int .i64 x1, .int .i64 y1]
  go_enter Try.func90, Try.ntmps90
  go_wp2_with fail
  generalize w.alloc (.cells #[.int .i64 x0, .int .i64 y0, .int .i64 x1, .int .i64 y1] 45) = W0 at *
  obtain ⟨c0a, c1a, c2a, c3a⟩ := cells4 B_a
  go_wp2
  go_ret
  exact ⟨(by first | rfl | exact rbt (by omega) | exact rbf (by omega)), nextw HB.out (by exact sm)⟩

set_option maxRecDepth 100000 in
set_option maxHeartbeats 1000000 in
theorem RRect_5 (x0 y0 x1 y1 : Int) (g0 : -2097152 ≤ x0) (g1 : x0 ≤ x1) (g2 : x1 ≤ 2097152) (g3 : -2097152 ≤ y0) (g4 : y0 ≤ y1) (g5 : 2097152 < y1) (w : World) :
    Calls Try.prog 90 #[.agg #[.int .i64 x0, .int .i64 y0, .int .i64 x1, .int .i64 y1]] w fun e w' => e = .returned (.bool false) ∧ Below w.heap.size w w' := by
  obtain ⟨HB, B_a⟩ := box1 w 45 #[.int .i64 x0, .int .i64 y0, .int .i64 x1, .int .i64 y1]
  go_enter Try.func90, Try.ntmps90
  go_wp2_with fail
  generalize w.alloc (.cells #[.int .i64 x0, .int .i64 y0, .int .i64 x1, .int .i64 y1] 45) = W0 at *
  obtain ⟨c0a, c1a, c2a, c3a⟩ := cells4 B_a
  go_wp2
  go_ret
  exact ⟨(by first | rfl | exact rbt (by omega) | exact rbf (by omega)), nextw HB.out (by exact sm)⟩

set_option maxRecDepth 100000 in
set_option maxHeartbeats 1000000 in
theorem RRect_ok (x0 y0 x1 y1 : Int) (g0 : -2097152 ≤ x0) (g1 : x0 ≤ x1) (g2 : x1 ≤ 2097152) (g3 : -2097152 ≤ y0) (g4 : y0 ≤ y1) (g5 : y1 ≤ 2097152) (w : World) :
    Calls Try.prog 90 #[.agg #[.int .i64 x0, .int .i64 y0, .int .i64 x1, .int .i64 y1]] w fun e w' => e = .returned (.bool true) ∧ Below w.heap.size w w' := by
  obtain ⟨HB, B_a⟩ := box1 w 45 #[.int .i64 x0, .int .i64 y0, .int .i64 x1, .int .i64 y1]
  go_enter Try.func90, Try.ntmps90
  go_wp2_with fail
  generalize w.alloc (.cells #[.int .i64 x0, .int .i64 y0, .int .i64 x1, .int .i64 y1] 45) = W0 at *
  obtain ⟨c0a, c1a, c2a, c3a⟩ := cells4 B_a
  go_wp2
  go_ret
  exact ⟨(by first | rfl | exact rbt (by omega) | exact rbf (by omega)), nextw HB.out (by exact sm)⟩

theorem RPoint_t {x y : Int} (h : OkP x y) (w : World) : Calls Try.prog 101 #[.agg #[.int .i64 x, .int .i64 y]] w fun e w' => e = .returned (.bool true) ∧ Below w.heap.size w w' :=
  RPoint_ok x y ⟨h.x1, h.x2⟩ ⟨h.y1, h.y2⟩ w
theorem RPoint_f {x y : Int} (h : ¬ OkP x y) (w : World) : Calls Try.prog 101 #[.agg #[.int .i64 x, .int .i64 y]] w fun e w' => e = .returned (.bool false) ∧ Below w.heap.size w w' := by
  by_cases h0 : OkC x
  · by_cases h1 : OkC y
    · exact absurd ⟨h0.1, h0.2, h1.1, h1.2⟩ h
    · exact RPoint_1 x y h0 h1 w
  · exact RPoint_0 x y h0 w
theorem RRect_t {x0 y0 x1 y1 : Int} (h : OkR x0 y0 x1 y1) (w : World) : Calls Try.prog 90 #[.agg #[.int .i64 x0, .int .i64 y0, .int .i64 x1, .int .i64 y1]] w fun e w' => e = .returned (.bool true) ∧ Below w.heap.size w w' :=
  RRect_ok x0 y0 x1 y1 h.a1 h.hx h.c2 h.b1 h.hy h.d2 w
theorem RRect_f {x0 y0 x1 y1 : Int} (h : ¬ OkR x0 y0 x1 y1) (w : World) : Calls Try.prog 90 #[.agg #[.int .i64 x0, .int .i64 y0, .int .i64 x1, .int .i64 y1]] w fun e w' => e = .returned (.bool false) ∧ Below w.heap.size w w' := by
  by_cases g0 : -2097152 ≤ x0
  · by_cases g1 : x0 ≤ x1
    · by_cases g2 : x1 ≤ 2097152
      · by_cases g3 : -2097152 ≤ y0
        · by_cases g4 : y0 ≤ y1
          · by_cases g5 : y1 ≤ 2097152
            · exact absurd ⟨g0, by omega, g3, by omega, by omega, g2, by omega, g5, g1, g4⟩ h
            · exact RRect_5 x0 y0 x1 y1 g0 g1 g2 g3 g4 (by omega) w
          · exact RRect_4 x0 y0 x1 y1 g0 g1 g2 g3 (by omega) w
        · exact RRect_3 x0 y0 x1 y1 g0 g1 g2 (by omega) w
      · exact RRect_2 x0 y0 x1 y1 g0 g1 (by omega) w
    · exact RRect_1 x0 y0 x1 y1 g0 (by omega) w
  · exact RRect_0 x0 y0 x1 y1 (by omega) w

set_option maxRecDepth 100000 in
set_option maxHeartbeats 1000000 in
theorem RMinus_0 (a b c d x0 y0 x1 y1 : Int) (hq : ¬ OkR a b c d) (w : World) :
    Calls Try.prog 81 #[.agg #[.int .i64 a, .int .i64 b, .int .i64 c, .int .i64 d], .agg #[.int .i64 x0, .int .i64 y0, .int .i64 x1, .int .i64 y1]] w fun e w' => e = .returned (.tuple #[.agg #[.int .i64 0, .int .i64 0, .int .i64 0, .int .i64 0], .bool false]) ∧ Below w.heap.size w w' := by
  have H0 := Lib.hid (fun w => RRect_f hq w)
  clear hq
  obtain ⟨HB, B_q, B_r, B_z⟩ := box3 w 45 #[.int .i64 a, .int .i64 b, .int .i64 c, .int .i64 d] 45 #[.int .i64 x0, .int .i64 y0, .int .i64 x1, .int .i64 y1] 45 #[.int .i64 0, .int .i64 0, .int .i64 0, .int .i64 0]
  go_enter Try.func81, Try.ntmps81
  go_wp2_with fail
  generalize ((w.alloc (.cells #[.int .i64 a, .int .i64 b, .int .i64 c, .int .i64 d] 45)).alloc (.cells #[.int .i64 x0, .int .i64 y0, .int .i64 x1, .int .i64 y1] 45)).alloc (.cells #[.int .i64 0, .int .i64 0, .int .i64 0, .int .i64 0] 45) = W0 at *
  obtain ⟨c0q, c1q, c2q, c3q⟩ := cells4 B_q
  refine (H0.out _).mono ?_
  clear c0q c1q c2q c3q
  rintro e w1 ⟨rfl, bb⟩
  replace bb := nextw (w0 := W0) (by exact sm) bb
  replace B_q := mv B_q bb
  replace B_r := mv B_r bb
  replace B_z := mv B_z bb
  replace HB := nx HB bb
  clear bb
  obtain ⟨s0, s1, s2, s3⟩ := cells4 (stor4 B_z (.int .i64 0) (.int .i64 0) (.int .i64 0) (.int .i64 0))
  have HF := stb4 HB (y := w.heap.size + 1 + 1) (by omega) 0 (.int .i64 0) 1 (.int .i64 0) 2 (.int .i64 0) 3 (.int .i64 0)
  obtain ⟨c0z, c1z, c2z, c3z⟩ := cells4 B_z
  obtain ⟨f0z, f1z, f2z, f3z⟩ := froz4 B_z
  go_wp2_with fail
  exact bodyPost_ret (v := .tuple #[.agg #[.int .i64 0, .int .i64 0, .int .i64 0, .int .i64 0], .bool false]) (by simp [results, Try.results81, go_sem, s0, s1, s2, s3]) rfl ⟨rfl, nextw HF.out (by exact sm)⟩

set_option maxRecDepth 100000 in
set_option maxHeartbeats 1000000 in
theorem RMinus_1 (a b c d x0 y0 x1 y1 : Int) (hq : OkR a b c d) (hr : ¬ OkR x0 y0 x1 y1) (w : World) :
    Calls Try.prog 81 #[.agg #[.int .i64 a, .int .i64 b, .int .i64 c, .int .i64 d], .agg #[.int .i64 x0, .int .i64 y0, .int .i64 x1, .int .i64 y1]] w fun e w' => e = .returned (.tuple #[.agg #[.int .i64 0, .int .i64 0, .int .i64 0, .int .i64 0], .bool false]) ∧ Below w.heap.size w w' := by
  have H0 := Lib.hid (fun w => RRect_t hq w)
  have H1 := Lib.hid (fun w => RRect_f hr w)
  clear hq hr
  obtain ⟨HB, B_q, B_r, B_z⟩ := box3 w 45 #[.int .i64 a, .int .i64 b, .int .i64 c, .int .i64 d] 45 #[.int .i64 x0, .int .i64 y0, .int .i64 x1, .int .i64 y1] 45 #[.int .i64 0, .int .i64 0, .int .i64 0, .int .i64 0]
  go_enter Try.func81, Try.ntmps81
  go_wp2_with fail
  generalize ((w.alloc (.cells #[.int .i64 a, .int .i64 b, .int .i64 c, .int .i64 d] 45)).alloc (.cells #[.int .i64 x0, .int .i64 y0, .int .i64 x1, .int .i64 y1] 45)).alloc (.cells #[.int .i64 0, .int .i64 0, .int .i64 0, .int .i64 0] 45) = W0 at *
  obtain ⟨c0q, c1q, c2q, c3q⟩ := cells4 B_q
  refine (H0.out _).mono ?_
  clear c0q c1q c2q c3q
  rintro e w1 ⟨rfl, bb⟩
  replace bb := nextw (w0 := W0) (by exact sm) bb
  replace B_q := mv B_q bb
  replace B_r := mv B_r bb
  replace B_z := mv B_z bb
  replace HB := nx HB bb
  clear bb
  obtain ⟨c0r, c1r, c2r, c3r⟩ := cells4 B_r
  go_wp2_with fail
  refine (H1.out _).mono ?_
  clear c0r c1r c2r c3r
  rintro e w2 ⟨rfl, bb⟩
  replace bb := nextw (w0 := w1) (by exact sm) bb
  replace B_q := mv B_q bb
  replace B_r := mv B_r bb
  replace B_z := mv B_z bb
  replace HB := nx HB bb
  clear bb
  obtain ⟨s0, s1, s2, s3⟩ := cells4 (stor4 B_z (.int .i64 0) (.int .i64 0) (.int .i64 0) (.int .i64 0))
  have HF := stb4 HB (y := w.heap.size + 1 + 1) (by omega) 0 (.int .i64 0) 1 (.int .i64 0) 2 (.int .i64 0) 3 (.int .i64 0)
  obtain ⟨c0z, c1z, c2z, c3z⟩ := cells4 B_z
  obtain ⟨f0z, f1z, f2z, f3z⟩ := froz4 B_z
  go_wp2_with fail
  exact bodyPost_ret (v := .tuple #[.agg #[.int .i64 0, .int .i64 0, .int .i64 0, .int .i64 0], .bool false]) (by simp [results, Try.results81, go_sem, s0, s1, s2, s3]) rfl ⟨rfl, nextw HF.out (by exact sm)⟩

set_option maxRecDepth 100000 in
set_option maxHeartbeats 1000000 in
theorem RMinus_2 (a b c d x0 y0 x1 y1 : Int) (hq : OkR a b c d) (hr : OkR x0 y0 x1 y1) (hm : ¬ OkR (a - x1) (b - y1) (c - x0) (d - y0)) (w : World) :
    Calls Try.prog 81 #[.agg #[.int .i64 a, .int .i64 b, .int .i64 c, .int .i64 d], .agg #[.int .i64 x0, .int .i64 y0, .int .i64 x1, .int .i64 y1]] w fun e w' => e = .returned (.tuple #[.agg #[.int .i64 0, .int .i64 0, .int .i64 0, .int .i64 0], .bool false]) ∧ Below w.heap.size w w' := by
  have q := hq
  have r := hr
  have H0 := Lib.hid (fun w => RRect_t hq w)
  have H1 := Lib.hid (fun w => RRect_t hr w)
  have H2 := Lib.hid (fun w => RRect_f hm w)
  clear hq hr hm
  obtain ⟨q1, q2, q3, q4, q5, q6, q7, q8, q9, q10⟩ := q
  obtain ⟨r1, r2, r3, r4, r5, r6, r7, r8, r9, r10⟩ := r
  obtain ⟨HB, B_q, B_r, B_z⟩ := box3 w 45 #[.int .i64 a, .int .i64 b, .int .i64 c, .int .i64 d] 45 #[.int .i64 x0, .int .i64 y0, .int .i64 x1, .int .i64 y1] 45 #[.int .i64 0, .int .i64 0, .int .i64 0, .int .i64 0]
  go_enter Try.func81, Try.ntmps81
  go_wp2_with fail
  generalize ((w.alloc (.cells #[.int .i64 a, .int .i64 b, .int .i64 c, .int .i64 d] 45)).alloc (.cells #[.int .i64 x0, .int .i64 y0, .int .i64 x1, .int .i64 y1] 45)).alloc (.cells #[.int .i64 0, .int .i64 0, .int .i64 0, .int .i64 0] 45) = W0 at *
  obtain ⟨c0q, c1q, c2q, c3q⟩ := cells4 B_q
  refine (H0.out _).mono ?_
  clear c0q c1q c2q c3q
  rintro e w1 ⟨rfl, bb⟩
  replace bb := nextw (w0 := W0) (by exact sm) bb
  replace B_q := mv B_q bb
  replace B_r := mv B_r bb
  replace B_z := mv B_z bb
  replace HB := nx HB bb
  clear bb
  obtain ⟨c0r, c1r, c2r, c3r⟩ := cells4 B_r
  go_wp2_with fail
  refine (H1.out _).mono ?_
  clear c0r c1r c2r c3r
  rintro e w2 ⟨rfl, bb⟩
  replace bb := nextw (w0 := w1) (by exact sm) bb
  replace B_q := mv B_q bb
  replace B_r := mv B_r bb
  replace B_z := mv B_z bb
  replace HB := nx HB bb
  clear bb
  obtain ⟨c0q, c1q, c2q, c3q⟩ := cells4 B_q
  obtain ⟨c0r, c1r, c2r, c3r⟩ := cells4 B_r
  have lt_mq := B_q.out.lt
  have lt_mr := B_r.out.lt
  have lt_mz := B_z.out.lt
  obtain ⟨bb, B_m⟩ := box1 w2 45 #[.int .i64 (a - x1), .int .i64 (b - y1), .int .i64 (c - x0), .int .i64 (d - y0)]
  replace bb := bb.out
  replace B_q := mv B_q bb
  replace B_r := mv B_r bb
  replace B_z := mv B_z bb
  replace HB := nx HB bb
  clear bb
  go_upto_region 4 with (fail)
  clear c0q c1q c2q c3q c0r c1r c2r c3r
  generalize w2.alloc (.cells #[.int .i64 (a - x1), .int .i64 (b - y1), .int .i64 (c - x0), .int .i64 (d - y0)] 45) = WM at *
  obtain ⟨c0m, c1m, c2m, c3m⟩ := cells4 B_m
  go_wp2_with fail
  refine (H2.out _).mono ?_
  clear c0m c1m c2m c3m
  rintro e w3 ⟨rfl, bb⟩
  replace bb := nextw (w0 := WM) (by exact sm) bb
  replace B_q := mv B_q bb
  replace B_r := mv B_r bb
  replace B_z := mv B_z bb
  replace B_m := mv B_m bb
  replace HB := nx HB bb
  clear bb
  obtain ⟨s0, s1, s2, s3⟩ := cells4 (stor4 B_z (.int .i64 0) (.int .i64 0) (.int .i64 0) (.int .i64 0))
  have HF := stb4 HB (y := w.heap.size + 1 + 1) (by omega) 0 (.int .i64 0) 1 (.int .i64 0) 2 (.int .i64 0) 3 (.int .i64 0)
  obtain ⟨c0z, c1z, c2z, c3z⟩ := cells4 B_z
  obtain ⟨f0z, f1z, f2z, f3z⟩ := froz4 B_z
  go_wp2_with fail
  exact bodyPost_ret (v := .tuple #[.agg #[.int .i64 0, .int .i64 0, .int .i64 0, .int .i64 0], .bool false]) (by simp [results, Try.results81, go_sem, s0, s1, s2, s3]) rfl ⟨rfl, nextw HF.out (by exact sm)⟩

set_option maxRecDepth 100000 in
set_option maxHeartbeats 1000000 in
theorem RMinus_ok (a b c d x0 y0 x1 y1 : Int) (hq : OkR a b c d) (hr : OkR x0 y0 x1 y1) (hm : OkR (a - x1) (b - y1) (c - x0) (d - y0)) (w : World) :
    Calls Try.prog 81 #[.agg #[.int .i64 a, .int .i64 b, .int .i64 c, .int .i64 d], .agg #[.int .i64 x0, .int .i64 y0, .int .i64 x1, .int .i64 y1]] w fun e w' => e = .returned (.tuple #[.agg #[.int .i64 (a - x1), .int .i64 (b - y1), .int .i64 (c - x0), .int .i64 (d - y0)], .bool true]) ∧ Below w.heap.size w w' := by
  have q := hq
  have r := hr
  have H0 := Lib.hid (fun w => RRect_t hq w)
  have H1 := Lib.hid (fun w => RRect_t hr w)
  have H2 := Lib.hid (fun w => RRect_t hm w)
  clear hq hr hm
  obtain ⟨q1, q2, q3, q4, q5, q6, q7, q8, q9, q10⟩ := q
  obtain ⟨r1, r2, r3, r4, r5, r6, r7, r8, r9, r10⟩ := r
  obtain ⟨HB, B_q, B_r, B_z⟩ := box3 w 45 #[.int .i64 a, .int .i64 b, .int .i64 c, .int .i64 d] 45 #[.int .i64 x0, .int .i64 y0, .int .i64 x1, .int .i64 y1] 45 #[.int .i64 0, .int .i64 0, .int .i64 0, .int .i64 0]
  go_enter Try.func81, Try.ntmps81
  go_wp2_with fail
  generalize ((w.alloc (.cells #[.int .i64 a, .int .i64 b, .int .i64 c, .int .i64 d] 45)).alloc (.cells #[.int .i64 x0, .int .i64 y0, .int .i64 x1, .int .i64 y1] 45)).alloc (.cells #[.int .i64 0, .int .i64 0, .int .i64 0, .int .i64 0] 45) = W0 at *
  obtain ⟨c0q, c1q, c2q, c3q⟩ := cells4 B_q
  refine (H0.out _).mono ?_
  clear c0q c1q c2q c3q
  rintro e w1 ⟨rfl, bb⟩
  replace bb := nextw (w0 := W0) (by exact sm) bb
  replace B_q := mv B_q bb
  replace B_r := mv B_r bb
  replace B_z := mv B_z bb
  replace HB := nx HB bb
  clear bb
  obtain ⟨c0r, c1r, c2r, c3r⟩ := cells4 B_r
  go_wp2_with fail
  refine (H1.out _).mono ?_
  clear c0r c1r c2r c3r
  rintro e w2 ⟨rfl, bb⟩
  replace bb := nextw (w0 := w1) (by exact sm) bb
  replace B_q := mv B_q bb
  replace B_r := mv B_r bb
  replace B_z := mv B_z bb
  replace HB := nx HB bb
  clear bb
  obtain ⟨c0q, c1q, c2q, c3q⟩ := cells4 B_q
  obtain ⟨c0r, c1r, c2r, c3r⟩ := cells4 B_r
  have lt_mq := B_q.out.lt
  have lt_mr := B_r.out.lt
  have lt_mz := B_z.out.lt
  obtain ⟨bb, B_m⟩ := box1 w2 45 #[.int .i64 (a - x1), .int .i64 (b - y1), .int .i64 (c - x0), .int .i64 (d - y0)]
  replace bb := bb.out
  replace B_q := mv B_q bb
  replace B_r := mv B_r bb
  replace B_z := mv B_z bb
  replace HB := nx HB bb
  clear bb
  go_upto_region 4 with (fail)
  clear c0q c1q c2q c3q c0r c1r c2r c3r
  generalize w2.alloc (.cells #[.int .i64 (a - x1), .int .i64 (b - y1), .int .i64 (c - x0), .int .i64 (d - y0)] 45) = WM at *
  obtain ⟨c0m, c1m, c2m, c3m⟩ := cells4 B_m
  go_wp2_with fail
  refine (H2.out _).mono ?_
  clear c0m c1m c2m c3m
  rintro e w3 ⟨rfl, bb⟩
  replace bb := nextw (w0 := WM) (by exact sm) bb
  replace B_q := mv B_q bb
  replace B_r := mv B_r bb
  replace B_z := mv B_z bb
  replace B_m := mv B_m bb
  replace HB := nx HB bb
  clear bb
  obtain ⟨s0, s1, s2, s3⟩ := cells4 (stor4 B_z (.int .i64 (a - x1)) (.int .i64 (b - y1)) (.int .i64 (c - x0)) (.int .i64 (d - y0)))
  have HF := stb4 HB (y := w.heap.size + 1 + 1) (by omega) 0 (.int .i64 (a - x1)) 1 (.int .i64 (b - y1)) 2 (.int .i64 (c - x0)) 3 (.int .i64 (d - y0))
  obtain ⟨c0z, c1z, c2z, c3z⟩ := cells4 B_z
  obtain ⟨f0z, f1z, f2z, f3z⟩ := froz4 B_z
  obtain ⟨c0m, c1m, c2m, c3m⟩ := cells4 B_m
  go_wp2_with fail
  exact bodyPost_ret (v := .tuple #[.agg #[.int .i64 (a - x1), .int .i64 (b - y1), .int .i64 (c - x0), .int .i64 (d - y0)], .bool true]) (by simp [results, Try.results81, go_sem, s0, s1, s2, s3]) rfl ⟨rfl, nextw HF.out (by exact sm)⟩
end Go.Proofs.Ytkhcogfajihecaa
