/- segment: isCoord, validPoint, ValidRect. -/
import Derived.Test.YtaflgmiagjldhaaSBase
set_option linter.unusedVariables false
set_option linter.unusedSimpArgs false
namespace Go.Proofs.Ytaflgmiagjldhaa
open Go Go.RowKit Hd

set_option maxRecDepth 100000 in
set_option maxHeartbeats 1000000 in
theorem isCoord_yes (n : Int) (h1 : -2097152 ≤ n) (h2 : n ≤ 2097152) (w : World) :
    Calls Try.prog 39 #[.int .i64 n] w fun e w' => e = .returned (.bool true) ∧ w = w' := by
  go_enter Try.func39, Try.ntmps39
  go_wp2
  go_ret
  exact ⟨by first | rfl | exact rbt (by omega) | exact rbf (by omega), rfl⟩

set_option maxRecDepth 100000 in
set_option maxHeartbeats 1000000 in
theorem isCoord_no1 (n : Int) (h1 : n < -2097152) (w : World) :
    Calls Try.prog 39 #[.int .i64 n] w fun e w' => e = .returned (.bool false) ∧ w = w' := by
  go_enter Try.func39, Try.ntmps39
  go_wp2
  go_ret
  exact ⟨by first | rfl | exact rbt (by omega) | exact rbf (by omega), rfl⟩

set_option maxRecDepth 100000 in
set_option maxHeartbeats 1000000 in
theorem isCoord_no2 (n : Int) (h1 : -2097152 ≤ n) (h2 : 2097152 < n) (w : World) :
    Calls Try.prog 39 #[.int .i64 n] w fun e w' => e = .returned (.bool false) ∧ w = w' := by
  go_enter Try.func39, Try.ntmps39
  go_wp2
  go_ret
  exact ⟨by first | rfl | exact rbt (by omega) | exact rbf (by omega), rfl⟩

theorem isCoord_any (n : Int) (w : World) : Calls Try.prog 39 #[.int .i64 n] w fun e w' => e = .returned (.bool (decide (OkC n))) ∧ w = w' := by
  by_cases h1 : -2097152 ≤ n
  · by_cases h2 : n ≤ 2097152
    · rw [decide_eq_true (show OkC n from ⟨h1, h2⟩)]; exact isCoord_yes n h1 h2 w
    · rw [decide_eq_false (show ¬ OkC n from fun h => h2 h.2)]; exact isCoord_no2 n h1 (by omega) w
  · rw [decide_eq_false (show ¬ OkC n from fun h => h1 h.1)]; exact isCoord_no1 n (by omega) w
theorem isCoord_t {n : Int} (h : OkC n) (w : World) : Calls Try.prog 39 #[.int .i64 n] w fun e w' => e = .returned (.bool true) ∧ w = w' := isCoord_yes n h.1 h.2 w
theorem isCoord_f {n : Int} (h : ¬ OkC n) (w : World) : Calls Try.prog 39 #[.int .i64 n] w fun e w' => e = .returned (.bool false) ∧ w = w' := by
  have := isCoord_any n w; rwa [decide_eq_false h] at this

set_option maxRecDepth 100000 in
set_option maxHeartbeats 1000000 in
theorem validPoint_c0 (x y : Int)  (h0 : ¬ OkC x) (w : World) :
    Calls Try.prog 42 #[.agg #[.int .i64 x, .int .i64 y]] w fun e w' => e = .returned (.bool false) ∧ Below w.heap.size w w' := by
  have H0 := Lib.hid (fun w => isCoord_f h0 w)
  clear h0
  obtain ⟨HB, B_a⟩ := box1 w 23 #[.int .i64 x, .int .i64 y]
  go_enter Try.func42, Try.ntmps42
  go_wp2_with fail
  generalize w.alloc (.cells #[.int .i64 x, .int .i64 y] 23) = W0 at *
  obtain ⟨c0a, c1a⟩ := cells2 B_a
  refine (H0.out _).mono ?_
  rintro e w1 ⟨rfl, rfl⟩
  go_wp2
  go_ret
  exact ⟨(by first | rfl | exact rbt (by omega) | exact rbf (by omega)), nextw HB.out (by exact sm)⟩

set_option maxRecDepth 100000 in
set_option maxHeartbeats 1000000 in
theorem validPoint_c1 (x y : Int) (h0 : OkC x) (h1 : ¬ OkC y) (w : World) :
    Calls Try.prog 42 #[.agg #[.int .i64 x, .int .i64 y]] w fun e w' => e = .returned (.bool false) ∧ Below w.heap.size w w' := by
  have H0 := Lib.hid (fun w => isCoord_t h0 w)
  have H1 := Lib.hid (fun w => isCoord_f h1 w)
  clear h0 h1
  obtain ⟨HB, B_a⟩ := box1 w 23 #[.int .i64 x, .int .i64 y]
  go_enter Try.func42, Try.ntmps42
  go_wp2_with fail
  generalize w.alloc (.cells #[.int .i64 x, .int .i64 y] 23) = W0 at *
  obtain ⟨c0a, c1a⟩ := cells2 B_a
  refine (H0.out _).mono ?_
  rintro e w1 ⟨rfl, rfl⟩
  go_wp2_with fail
  refine (H1.out _).mono ?_
  rintro e w2 ⟨rfl, rfl⟩
  go_wp2
  go_ret
  exact ⟨(by first | rfl | exact rbt (by omega) | exact rbf (by omega)), nextw HB.out (by exact sm)⟩

set_option maxRecDepth 100000 in
set_option maxHeartbeats 1000000 in
theorem validPoint_cok (x y : Int) (h0 : OkC x) (h1 : OkC y) (w : World) :
    Calls Try.prog 42 #[.agg #[.int .i64 x, .int .i64 y]] w fun e w' => e = .returned (.bool true) ∧ Below w.heap.size w w' := by
  have H0 := Lib.hid (fun w => isCoord_t h0 w)
  have H1 := Lib.hid (fun w => isCoord_t h1 w)
  clear h0 h1
  obtain ⟨HB, B_a⟩ := box1 w 23 #[.int .i64 x, .int .i64 y]
  go_enter Try.func42, Try.ntmps42
  go_wp2_with fail
  generalize w.alloc (.cells #[.int .i64 x, .int .i64 y] 23) = W0 at *
  obtain ⟨c0a, c1a⟩ := cells2 B_a
  refine (H0.out _).mono ?_
  rintro e w1 ⟨rfl, rfl⟩
  go_wp2_with fail
  refine (H1.out _).mono ?_
  rintro e w2 ⟨rfl, rfl⟩
  go_wp2
  go_ret
  exact ⟨(by first | rfl | exact rbt (by omega) | exact rbf (by omega)), nextw HB.out (by exact sm)⟩

set_option maxRecDepth 100000 in
set_option maxHeartbeats 1000000 in
theorem ValidRect_c0 (x0 y0 x1 y1 : Int)  (h0 : ¬ OkC x0) (w : World) :
    Calls Try.prog 17 #[.agg #[.int .i64 x0, .int .i64 y0, .int .i64 x1, .int .i64 y1]] w fun e w' => e = .returned (.bool false) ∧ Below w.heap.size w w' := by
  have H0 := Lib.hid (fun w => isCoord_f h0 w)
  clear h0
  obtain ⟨HB, B_a⟩ := box1 w 29 #[.int .i64 x0, .int .i64 y0, .int .i64 x1, .int .i64 y1]
  go_enter Try.func17, Try.ntmps17
  go_wp2_with fail
  generalize w.alloc (.cells #[.int .i64 x0, .int .i64 y0, .int .i64 x1, .int .i64 y1] 29) = W0 at *
  obtain ⟨c0a, c1a, c2a, c3a⟩ := cells4 B_a
  refine (H0.out _).mono ?_
  rintro e w1 ⟨rfl, rfl⟩
  go_wp2
  go_ret
  exact ⟨(by first | rfl | exact rbt (by omega) | exact rbf (by omega)), nextw HB.out (by exact sm)⟩

set_option maxRecDepth 100000 in
set_option maxHeartbeats 1000000 in
theorem ValidRect_c1 (x0 y0 x1 y1 : Int) (h0 : OkC x0) (h1 : ¬ OkC y0) (w : World) :
    Calls Try.prog 17 #[.agg #[.int .i64 x0, .int .i64 y0, .int .i64 x1, .int .i64 y1]] w fun e w' => e = .returned (.bool false) ∧ Below w.heap.size w w' := by
  have H0 := Lib.hid (fun w => isCoord_t h0 w)
  have H1 := Lib.hid (fun w => isCoord_f h1 w)
  clear h0 h1
  obtain ⟨HB, B_a⟩ := box1 w 29 #[.int .i64 x0, .int .i64 y0, .int .i64 x1, .int .i64 y1]
  go_enter Try.func17, Try.ntmps17
  go_wp2_with fail
  generalize w.alloc (.cells #[.int .i64 x0, .int .i64 y0, .int .i64 x1, .int .i64 y1] 29) = W0 at *
  obtain ⟨c0a, c1a, c2a, c3a⟩ := cells4 B_a
  refine (H0.out _).mono ?_
  rintro e w1 ⟨rfl, rfl⟩
  go_wp2_with fail
  refine (H1.out _).mono ?_
  rintro e w2 ⟨rfl, rfl⟩
  go_wp2
  go_ret
  exact ⟨(by first | rfl | exact rbt (by omega) | exact rbf (by omega)), nextw HB.out (by exact sm)⟩

set_option maxRecDepth 100000 in
set_option maxHeartbeats 1000000 in
theorem ValidRect_c2 (x0 y0 x1 y1 : Int) (h0 : OkC x0) (h1 : OkC y0) (h2 : ¬ OkC x1) (w : World) :
    Calls Try.prog 17 #[.agg #[.int .i64 x0, .int .i64 y0, .int .i64 x1, .int .i64 y1]] w fun e w' => e = .returned (.bool false) ∧ Below w.heap.size w w' := by
  have H0 := Lib.hid (fun w => isCoord_t h0 w)
  have H1 := Lib.hid (fun w => isCoord_t h1 w)
  have H2 := Lib.hid (fun w => isCoord_f h2 w)
  clear h0 h1 h2
  obtain ⟨HB, B_a⟩ := box1 w 29 #[.int .i64 x0, .int .i64 y0, .int .i64 x1, .int .i64 y1]
  go_enter Try.func17, Try.ntmps17
  go_wp2_with fail
  generalize w.alloc (.cells #[.int .i64 x0, .int .i64 y0, .int .i64 x1, .int .i64 y1] 29) = W0 at *
  obtain ⟨c0a, c1a, c2a, c3a⟩ := cells4 B_a
  refine (H0.out _).mono ?_
  rintro e w1 ⟨rfl, rfl⟩
  go_wp2_with fail
  refine (H1.out _).mono ?_
  rintro e w2 ⟨rfl, rfl⟩
  go_wp2_with fail
  refine (H2.out _).mono ?_
  rintro e w3 ⟨rfl, rfl⟩
  go_wp2
  go_ret
  exact ⟨(by first | rfl | exact rbt (by omega) | exact rbf (by omega)), nextw HB.out (by exact sm)⟩

set_option maxRecDepth 100000 in
set_option maxHeartbeats 1000000 in
theorem ValidRect_c3 (x0 y0 x1 y1 : Int) (h0 : OkC x0) (h1 : OkC y0) (h2 : OkC x1) (h3 : ¬ OkC y1) (w : World) :
    Calls Try.prog 17 #[.agg #[.int .i64 x0, .int .i64 y0, .int .i64 x1, .int .i64 y1]] w fun e w' => e = .returned (.bool false) ∧ Below w.heap.size w w' := by
  have H0 := Lib.hid (fun w => isCoord_t h0 w)
  have H1 := Lib.hid (fun w => isCoord_t h1 w)
  have H2 := Lib.hid (fun w => isCoord_t h2 w)
  have H3 := Lib.hid (fun w => isCoord_f h3 w)
  clear h0 h1 h2 h3
  obtain ⟨HB, B_a⟩ := box1 w 29 #[.int .i64 x0, .int .i64 y0, .int .i64 x1, .int .i64 y1]
  go_enter Try.func17, Try.ntmps17
  go_wp2_with fail
  generalize w.alloc (.cells #[.int .i64 x0, .int .i64 y0, .int .i64 x1, .int .i64 y1] 29) = W0 at *
  obtain ⟨c0a, c1a, c2a, c3a⟩ := cells4 B_a
  refine (H0.out _).mono ?_
  rintro e w1 ⟨rfl, rfl⟩
  go_wp2_with fail
  refine (H1.out _).mono ?_
  rintro e w2 ⟨rfl, rfl⟩
  go_wp2_with fail
  refine (H2.out _).mono ?_
  rintro e w3 ⟨rfl, rfl⟩
  go_wp2_with fail
  refine (H3.out _).mono ?_
  rintro e w4 ⟨rfl, rfl⟩
  go_wp2
  go_ret
  exact ⟨(by first | rfl | exact rbt (by omega) | exact rbf (by omega)), nextw HB.out (by exact sm)⟩

set_option maxRecDepth 100000 in
set_option maxHeartbeats 1000000 in
theorem ValidRect_g0 (x0 y0 x1 y1 : Int) (h0 : OkC x0) (h1 : OkC y0) (h2 : OkC x1) (h3 : OkC y1)  (g0 : x1 < x0) (w : World) :
    Calls Try.prog 17 #[.agg #[.int .i64 x0, .int .i64 y0, .int .i64 x1, .int .i64 y1]] w fun e w' => e = .returned (.bool false) ∧ Below w.heap.size w w' := by
  have H0 := Lib.hid (fun w => isCoord_t h0 w)
  have H1 := Lib.hid (fun w => isCoord_t h1 w)
  have H2 := Lib.hid (fun w => isCoord_t h2 w)
  have H3 := Lib.hid (fun w => isCoord_t h3 w)
  clear h0 h1 h2 h3
  obtain ⟨HB, B_a⟩ := box1 w 29 #[.int .i64 x0, .int .i64 y0, .int .i64 x1, .int .i64 y1]
  go_enter Try.func17, Try.ntmps17
  go_wp2_with fail
  generalize w.alloc (.cells #[.int .i64 x0, .int .i64 y0, .int .i64 x1, .int .i64 y1] 29) = W0 at *
  obtain ⟨c0a, c1a, c2a, c3a⟩ := cells4 B_a
  refine (H0.out _).mono ?_
  rintro e w1 ⟨rfl, rfl⟩
  go_wp2_with fail
  refine (H1.out _).mono ?_
  rintro e w2 ⟨rfl, rfl⟩
  go_wp2_with fail
  refine (H2.out _).mono ?_
  rintro e w3 ⟨rfl, rfl⟩
  go_wp2_with fail
  refine (H3.out _).mono ?_
  rintro e w4 ⟨rfl, rfl⟩
  go_wp2
  go_ret
  exact ⟨(by first | rfl | exact rbt (by omega) | exact rbf (by omega)), nextw HB.out (by exact sm)⟩

set_option maxRecDepth 100000 in
set_option maxHeartbeats 1000000 in
theorem ValidRect_g1 (x0 y0 x1 y1 : Int) (h0 : OkC x0) (h1 : OkC y0) (h2 : OkC x1) (h3 : OkC y1) (g0 : x0 ≤ x1) (g1 : y1 < y0) (w : World) :
    Calls Try.prog 17 #[.agg #[.int .i64 x0, .int .i64 y0, .int .i64 x1, .int .i64 y1]] w fun e w' => e = .returned (.bool false) ∧ Below w.heap.size w w' := by
  have H0 := Lib.hid (fun w => isCoord_t h0 w)
  have H1 := Lib.hid (fun w => isCoord_t h1 w)
  have H2 := Lib.hid (fun w => isCoord_t h2 w)
  have H3 := Lib.hid (fun w => isCoord_t h3 w)
  clear h0 h1 h2 h3
  obtain ⟨HB, B_a⟩ := box1 w 29 #[.int .i64 x0, .int .i64 y0, .int .i64 x1, .int .i64 y1]
  go_enter Try.func17, Try.ntmps17
  go_wp2_with fail
  generalize w.alloc (.cells #[.int .i64 x0, .int .i64 y0, .int .i64 x1, .int .i64 y1] 29) = W0 at *
  obtain ⟨c0a, c1a, c2a, c3a⟩ := cells4 B_a
  refine (H0.out _).mono ?_
  rintro e w1 ⟨rfl, rfl⟩
  go_wp2_with fail
  refine (H1.out _).mono ?_
  rintro e w2 ⟨rfl, rfl⟩
  go_wp2_with fail
  refine (H2.out _).mono ?_
  rintro e w3 ⟨rfl, rfl⟩
  go_wp2_with fail
  refine (H3.out _).mono ?_
  rintro e w4 ⟨rfl, rfl⟩
  go_wp2
  go_ret
  exact ⟨(by first | rfl | exact rbt (by omega) | exact rbf (by omega)), nextw HB.out (by exact sm)⟩

set_option maxRecDepth 100000 in
set_option maxHeartbeats 1000000 in
theorem ValidRect_gok (x0 y0 x1 y1 : Int) (h0 : OkC x0) (h1 : OkC y0) (h2 : OkC x1) (h3 : OkC y1) (g0 : x0 ≤ x1) (g1 : y0 ≤ y1) (w : World) :
    Calls Try.prog 17 #[.agg #[.int .i64 x0, .int .i64 y0, .int .i64 x1, .int .i64 y1]] w fun e w' => e = .returned (.bool true) ∧ Below w.heap.size w w' := by
  have H0 := Lib.hid (fun w => isCoord_t h0 w)
  have H1 := Lib.hid (fun w => isCoord_t h1 w)
  have H2 := Lib.hid (fun w => isCoord_t h2 w)
  have H3 := Lib.hid (fun w => isCoord_t h3 w)
  clear h0 h1 h2 h3
  obtain ⟨HB, B_a⟩ := box1 w 29 #[.int .i64 x0, .int .i64 y0, .int .i64 x1, .int .i64 y1]
  go_enter Try.func17, Try.ntmps17
  go_wp2_with fail
  generalize w.alloc (.cells #[.int .i64 x0, .int .i64 y0, .int .i64 x1, .int .i64 y1] 29) = W0 at *
  obtain ⟨c0a, c1a, c2a, c3a⟩ := cells4 B_a
  refine (H0.out _).mono ?_
  rintro e w1 ⟨rfl, rfl⟩
  go_wp2_with fail
  refine (H1.out _).mono ?_
  rintro e w2 ⟨rfl, rfl⟩
  go_wp2_with fail
  refine (H2.out _).mono ?_
  rintro e w3 ⟨rfl, rfl⟩
  go_wp2_with fail
  refine (H3.out _).mono ?_
  rintro e w4 ⟨rfl, rfl⟩
  go_wp2
  go_ret
  exact ⟨(by first | rfl | exact rbt (by omega) | exact rbf (by omega)), nextw HB.out (by exact sm)⟩

theorem validPoint_t {x y : Int} (h : OkP x y) (w : World) : Calls Try.prog 42 #[.agg #[.int .i64 x, .int .i64 y]] w fun e w' => e = .returned (.bool true) ∧ Below w.heap.size w w' :=
  validPoint_cok x y ⟨h.x1, h.x2⟩ ⟨h.y1, h.y2⟩ w
theorem validPoint_f {x y : Int} (h : ¬ OkP x y) (w : World) : Calls Try.prog 42 #[.agg #[.int .i64 x, .int .i64 y]] w fun e w' => e = .returned (.bool false) ∧ Below w.heap.size w w' := by
  by_cases h0 : OkC x
  · by_cases h1 : OkC y
    · exact absurd ⟨h0.1, h0.2, h1.1, h1.2⟩ h
    · exact validPoint_c1 x y h0 h1 w
  · exact validPoint_c0 x y h0 w
theorem ValidRect_t {x0 y0 x1 y1 : Int} (h : OkR x0 y0 x1 y1) (w : World) : Calls Try.prog 17 #[.agg #[.int .i64 x0, .int .i64 y0, .int .i64 x1, .int .i64 y1]] w fun e w' => e = .returned (.bool true) ∧ Below w.heap.size w w' :=
  ValidRect_gok x0 y0 x1 y1 ⟨h.a1, h.a2⟩ ⟨h.b1, h.b2⟩ ⟨h.c1, h.c2⟩ ⟨h.d1, h.d2⟩ h.hx h.hy w
theorem ValidRect_f {x0 y0 x1 y1 : Int} (h : ¬ OkR x0 y0 x1 y1) (w : World) : Calls Try.prog 17 #[.agg #[.int .i64 x0, .int .i64 y0, .int .i64 x1, .int .i64 y1]] w fun e w' => e = .returned (.bool false) ∧ Below w.heap.size w w' := by
  by_cases h0 : OkC x0
  · by_cases h1 : OkC y0
    · by_cases h2 : OkC x1
      · by_cases h3 : OkC y1
        · by_cases g0 : x0 ≤ x1
          · by_cases g1 : y0 ≤ y1
            · exact absurd ⟨h0.1, h0.2, h1.1, h1.2, h2.1, h2.2, h3.1, h3.2, g0, g1⟩ h
            · exact ValidRect_g1 x0 y0 x1 y1 h0 h1 h2 h3 g0 (by omega) w
          · exact ValidRect_g0 x0 y0 x1 y1 h0 h1 h2 h3 (by omega) w
        · exact ValidRect_c3 x0 y0 x1 y1 h0 h1 h2 h3 w
      · exact ValidRect_c2 x0 y0 x1 y1 h0 h1 h2 w
    · exact ValidRect_c1 x0 y0 x1 y1 h0 h1 w
  · exact ValidRect_c0 x0 y0 x1 y1 h0 w
end Go.Proofs.Ytaflgmiagjldhaa
