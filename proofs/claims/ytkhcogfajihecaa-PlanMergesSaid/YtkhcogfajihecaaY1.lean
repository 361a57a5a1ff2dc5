/- plan's functions of plain numbers. -/
import Derived.Test.YtkhcogfajihecaaSBase
set_option linter.unusedVariables false
set_option linter.unusedSimpArgs false
namespace Go.Proofs.Ytkhcogfajihecaa
open Go Go.RowKit Hd

/-- At most m in magnitude. -/
def Wi (n m : Int) : Prop := -m ≤ n ∧ n ≤ m
instance (n m : Int) : Decidable (Wi n m) := inferInstanceAs (Decidable (_ ∧ _))
theorem wi_up {n a b : Int} (h : Wi n a) (hb : a ≤ b) : Wi n b := ⟨by have := h.1; omega, by have := h.2; omega⟩
theorem wi_mul {a b A B : Int} (ha : Wi a A) (hb : Wi b B) : Wi (a * b) (A * B) := by
  obtain ⟨a0, a1⟩ := ha
  obtain ⟨b0, b1⟩ := hb
  have e1 : 0 ≤ (A - a) * (B - b) := Int.mul_nonneg (by omega) (by omega)
  have e2 : 0 ≤ (A + a) * (B + b) := Int.mul_nonneg (by omega) (by omega)
  have e3 : 0 ≤ (A - a) * (B + b) := Int.mul_nonneg (by omega) (by omega)
  have e4 : 0 ≤ (A + a) * (B - b) := Int.mul_nonneg (by omega) (by omega)
  rw [Int.sub_mul, Int.mul_sub, Int.mul_sub] at e1
  rw [Int.add_mul, Int.mul_add, Int.mul_add] at e2
  rw [Int.sub_mul, Int.mul_add, Int.mul_add] at e3
  rw [Int.add_mul, Int.mul_sub, Int.mul_sub] at e4
  exact ⟨by omega, by omega⟩
/-- A valid rectangle of plans. -/
def OkQ (x0 y0 x1 y1 : Int) : Prop := Wi x0 1048576 ∧ Wi y0 1048576 ∧ Wi x1 1048576 ∧ Wi y1 1048576 ∧ x0 ≤ x1 ∧ y0 ≤ y1
instance (x0 y0 x1 y1 : Int) : Decidable (OkQ x0 y0 x1 y1) := inferInstanceAs (Decidable (_ ∧ _))
/-- The quotient, rounded down. -/
def fl (n d : Int) : Int := n / d
theorem fl_neg {n d : Int} (hd : 0 < d) (h : Int.tmod n d < 0) : Int.tdiv n d - 1 = n / d := by
  have e := Int.mul_tdiv_add_tmod n d
  have l := Int.lt_tmod_of_pos n hd
  have := (Int.ediv_emod_unique (a := n) (q := Int.tdiv n d - 1) (r := Int.tmod n d + d) hd).2 ⟨by rw [Int.mul_sub]; omega, by omega, by omega⟩
  exact this.1.symm
theorem fl_nn {n d : Int} (hd : 0 < d) (h : 0 ≤ Int.tmod n d) : Int.tdiv n d = n / d := by
  have e := Int.mul_tdiv_add_tmod n d
  have l := Int.tmod_lt_of_pos n hd
  have := (Int.ediv_emod_unique (a := n) (q := Int.tdiv n d) (r := Int.tmod n d) hd).2 ⟨by omega, by omega, by omega⟩
  exact this.1.symm
theorem div_bd {n d M : Int} (hn : Wi n M) (hd : 0 < d) : Wi (Int.tdiv n d) M := by
  obtain ⟨a, b⟩ := hn
  have h1 := Int.mul_tdiv_add_tmod n d
  have h2 := Int.lt_tmod_of_pos n hd
  have h3 := Int.tmod_lt_of_pos n hd
  have hM : 0 ≤ M := by omega
  constructor
  · apply Decidable.byContradiction
    intro hc
    have k := Int.mul_le_mul_of_nonneg_left (show Int.tdiv n d ≤ -M - 1 by omega) (show 0 ≤ d by omega)
    have k2 := Int.mul_le_mul_of_nonneg_right (show 1 ≤ d by omega) (show 0 ≤ M by omega)
    rw [Int.mul_sub, Int.mul_neg] at k
    omega
  · apply Decidable.byContradiction
    intro hc
    have k := Int.mul_le_mul_of_nonneg_left (show M + 1 ≤ Int.tdiv n d by omega) (show 0 ≤ d by omega)
    have k2 := Int.mul_le_mul_of_nonneg_right (show 1 ≤ d by omega) (show 0 ≤ M by omega)
    rw [Int.mul_add] at k
    omega
theorem fdiv_bd {n d M : Int} (hn : Wi n M) (hd : 0 < d) : Wi (fl n d) (M + 1) := by
  unfold fl
  obtain ⟨a, b⟩ := div_bd hn hd
  rcases Int.lt_or_le (Int.tmod n d) 0 with h | h
  · rw [← fl_neg hd h]; exact ⟨by omega, by omega⟩
  · rw [← fl_nn hd h]; exact ⟨by omega, by omega⟩

set_option maxRecDepth 100000 in
set_option maxHeartbeats 4000000 in
theorem within_w0 (n m : Int)  (hm : 0 ≤ m ∧ m ≤ 1073741824) (dd0 : (-m) ≤ n) (w : World) :
    Calls Try.prog 63 #[.int .i64 n, .int .i64 m] w fun e w' => e = .returned (.bool (decide (n ≤ m))) ∧ Below w.heap.size w w' := by
  have HB := Lib.hid (Below.refl w.heap.size w)
  go_enter Try.func63, Try.ntmps63
  go_upto_region 1 with (fail)
  go_wp2
  go_ret
  exact ⟨(by first | rfl | exact rbt (by omega) | exact rbf (by omega)), nextw HB.out (by exact sm)⟩

set_option maxRecDepth 100000 in
set_option maxHeartbeats 4000000 in
theorem within_w1 (n m : Int)  (hm : 0 ≤ m ∧ m ≤ 1073741824) (dd0 : n < (-m)) (w : World) :
    Calls Try.prog 63 #[.int .i64 n, .int .i64 m] w fun e w' => e = .returned (.bool false) ∧ Below w.heap.size w w' := by
  have HB := Lib.hid (Below.refl w.heap.size w)
  go_enter Try.func63, Try.ntmps63
  go_upto_region 1 with (fail)
  go_wp2
  go_ret
  exact ⟨(by first | rfl | exact rbt (by omega) | exact rbf (by omega)), nextw HB.out (by exact sm)⟩

def withinV (n m : Int) : Value := if (-m) ≤ n then .bool (decide (n ≤ m)) else .bool false
theorem within_any (n m : Int) (hm : 0 ≤ m ∧ m ≤ 1073741824) (w : World) :
    Calls Try.prog 63 #[.int .i64 n, .int .i64 m] w fun e w' => e = .returned (withinV n m) ∧ Below w.heap.size w w' := by
  unfold withinV
  by_cases dd0 : (-m) ≤ n
  · rw [if_pos dd0]
    exact within_w0 n m   hm dd0 w 
  · rw [if_neg dd0]
    exact within_w1 n m   hm (by omega) w 

theorem within_is (n m : Int) (hm : 0 ≤ m ∧ m ≤ 1073741824) (w : World) : Calls Try.prog 63 #[.int .i64 n, .int .i64 m] w fun e w' => e = .returned (.bool (decide (Wi n m))) ∧ Below w.heap.size w w' := by
  rw [← show withinV n m = .bool (decide (Wi n m)) from (by unfold withinV; (repeat' split) <;> (refine congrArg Value.bool ?_; rw [Bool.eq_iff_iff, decide_eq_true_iff]; (try simp only [decide_eq_true_iff, Bool.false_eq_true, false_iff]); (try simp only [Wi] at *); omega))]; exact within_any n m hm w

set_option maxRecDepth 100000 in
set_option maxHeartbeats 4000000 in
theorem Size_w0 (n m : Int)  (hm : 0 ≤ m ∧ m ≤ 1073741824) (dd0 : (-m) ≤ n) (w : World) :
    Calls Try.prog 38 #[.int .i64 n, .int .i64 m] w fun e w' => e = .returned (.bool (decide (n ≤ m))) ∧ Below w.heap.size w w' := by
  have HB := Lib.hid (Below.refl w.heap.size w)
  go_enter Try.func38, Try.ntmps38
  go_upto_region 1 with (fail)
  go_wp2
  go_ret
  exact ⟨(by first | rfl | exact rbt (by omega) | exact rbf (by omega)), nextw HB.out (by exact sm)⟩

set_option maxRecDepth 100000 in
set_option maxHeartbeats 4000000 in
theorem Size_w1 (n m : Int)  (hm : 0 ≤ m ∧ m ≤ 1073741824) (dd0 : n < (-m)) (w : World) :
    Calls Try.prog 38 #[.int .i64 n, .int .i64 m] w fun e w' => e = .returned (.bool false) ∧ Below w.heap.size w w' := by
  have HB := Lib.hid (Below.refl w.heap.size w)
  go_enter Try.func38, Try.ntmps38
  go_upto_region 1 with (fail)
  go_wp2
  go_ret
  exact ⟨(by first | rfl | exact rbt (by omega) | exact rbf (by omega)), nextw HB.out (by exact sm)⟩

def SizeV (n m : Int) : Value := if (-m) ≤ n then .bool (decide (n ≤ m)) else .bool false
theorem Size_any (n m : Int) (hm : 0 ≤ m ∧ m ≤ 1073741824) (w : World) :
    Calls Try.prog 38 #[.int .i64 n, .int .i64 m] w fun e w' => e = .returned (SizeV n m) ∧ Below w.heap.size w w' := by
  unfold SizeV
  by_cases dd0 : (-m) ≤ n
  · rw [if_pos dd0]
    exact Size_w0 n m   hm dd0 w 
  · rw [if_neg dd0]
    exact Size_w1 n m   hm (by omega) w 

theorem Size_is (n m : Int) (hm : 0 ≤ m ∧ m ≤ 1073741824) (w : World) : Calls Try.prog 38 #[.int .i64 n, .int .i64 m] w fun e w' => e = .returned (.bool (decide (Wi n m))) ∧ Below w.heap.size w w' := by
  rw [← show SizeV n m = .bool (decide (Wi n m)) from (by unfold SizeV; (repeat' split) <;> (refine congrArg Value.bool ?_; rw [Bool.eq_iff_iff, decide_eq_true_iff]; (try simp only [decide_eq_true_iff, Bool.false_eq_true, false_iff]); (try simp only [Wi] at *); omega))]; exact Size_any n m hm w

set_option maxRecDepth 100000 in
set_option maxHeartbeats 4000000 in
theorem validPoint_w0 (a b : Int)   (dd0 : Wi a 1048576) (w : World) :
    Calls Try.prog 65 #[.agg #[.int .i64 a, .int .i64 b]] w fun e w' => e = .returned (.bool (decide (Wi b 1048576))) ∧ Below w.heap.size w w' := by
  have H0 := Lib.hid (fun w => within_is a 1048576 (by omega) w)
  have H1 := Lib.hid (fun w => within_is b 1048576 (by omega) w)
  obtain ⟨HB, B_z0⟩ := box1 w 43 #[.int .i64 a, .int .i64 b]
  go_enter Try.func65, Try.ntmps65
  go_upto_region 1 with (fail)
  generalize w.alloc (.cells #[.int .i64 a, .int .i64 b] 43) = W0 at *
  obtain ⟨c0z0, c1z0⟩ := cells2 B_z0
  go_wp2_with fail
  refine (H0.out _).mono ?_
  clear c0z0 c1z0
  rintro e w1 ⟨rfl, bb⟩
  replace bb := nextw (w0 := W0) (by exact sm) bb
  replace B_z0 := mv B_z0 bb
  replace HB := nx HB bb
  clear bb
  obtain ⟨c0z0, c1z0⟩ := cells2 B_z0
  go_wp2_with fail
  refine (H1.out _).mono ?_
  clear c0z0 c1z0
  rintro e w2 ⟨rfl, bb⟩
  replace bb := nextw (w0 := w1) (by exact sm) bb
  replace B_z0 := mv B_z0 bb
  replace HB := nx HB bb
  clear bb
  go_wp2
  go_ret
  exact ⟨(by first | rfl | exact rbt (by omega) | exact rbf (by omega)), nextw HB.out (by exact sm)⟩

set_option maxRecDepth 100000 in
set_option maxHeartbeats 4000000 in
theorem validPoint_w1 (a b : Int)   (dd0 : ¬ (Wi a 1048576)) (w : World) :
    Calls Try.prog 65 #[.agg #[.int .i64 a, .int .i64 b]] w fun e w' => e = .returned (.bool false) ∧ Below w.heap.size w w' := by
  have H0 := Lib.hid (fun w => within_is a 1048576 (by omega) w)
  obtain ⟨HB, B_z0⟩ := box1 w 43 #[.int .i64 a, .int .i64 b]
  go_enter Try.func65, Try.ntmps65
  go_upto_region 1 with (fail)
  generalize w.alloc (.cells #[.int .i64 a, .int .i64 b] 43) = W0 at *
  obtain ⟨c0z0, c1z0⟩ := cells2 B_z0
  go_wp2_with fail
  refine (H0.out _).mono ?_
  clear c0z0 c1z0
  rintro e w1 ⟨rfl, bb⟩
  replace bb := nextw (w0 := W0) (by exact sm) bb
  replace B_z0 := mv B_z0 bb
  replace HB := nx HB bb
  clear bb
  go_wp2
  go_ret
  exact ⟨(by first | rfl | exact rbt (by omega) | exact rbf (by omega)), nextw HB.out (by exact sm)⟩

def validPointV (a b : Int) : Value := if Wi a 1048576 then .bool (decide (Wi b 1048576)) else .bool false
theorem validPoint_any (a b : Int)  (w : World) :
    Calls Try.prog 65 #[.agg #[.int .i64 a, .int .i64 b]] w fun e w' => e = .returned (validPointV a b) ∧ Below w.heap.size w w' := by
  unfold validPointV
  by_cases dd0 : Wi a 1048576
  · rw [if_pos dd0]
    exact validPoint_w0 a b    dd0 w 
  · rw [if_neg dd0]
    exact validPoint_w1 a b    dd0 w 

theorem validPoint_is (a b : Int)  (w : World) : Calls Try.prog 65 #[.agg #[.int .i64 a, .int .i64 b]] w fun e w' => e = .returned (.bool (decide (Wi a 1048576 ∧ Wi b 1048576))) ∧ Below w.heap.size w w' := by
  rw [← show validPointV a b = .bool (decide (Wi a 1048576 ∧ Wi b 1048576)) from (by unfold validPointV; (repeat' split) <;> (refine congrArg Value.bool ?_; rw [Bool.eq_iff_iff, decide_eq_true_iff]; (try simp only [decide_eq_true_iff, Bool.false_eq_true, false_iff]); (try simp only [Wi] at *); omega))]; exact validPoint_any a b  w

set_option maxRecDepth 100000 in
set_option maxHeartbeats 4000000 in
theorem BPoint_w0 (a b : Int)   (dd0 : Wi a 1048576) (w : World) :
    Calls Try.prog 67 #[.agg #[.int .i64 a, .int .i64 b]] w fun e w' => e = .returned (.bool (decide (Wi b 1048576))) ∧ Below w.heap.size w w' := by
  have H0 := Lib.hid (fun w => Size_is a 1048576 (by omega) w)
  have H1 := Lib.hid (fun w => Size_is b 1048576 (by omega) w)
  obtain ⟨HB, B_z0⟩ := box1 w 43 #[.int .i64 a, .int .i64 b]
  go_enter Try.func67, Try.ntmps67
  go_upto_region 1 with (fail)
  generalize w.alloc (.cells #[.int .i64 a, .int .i64 b] 43) = W0 at *
  obtain ⟨c0z0, c1z0⟩ := cells2 B_z0
  go_wp2_with fail
  refine (H0.out _).mono ?_
  clear c0z0 c1z0
  rintro e w1 ⟨rfl, bb⟩
  replace bb := nextw (w0 := W0) (by exact sm) bb
  replace B_z0 := mv B_z0 bb
  replace HB := nx HB bb
  clear bb
  obtain ⟨c0z0, c1z0⟩ := cells2 B_z0
  go_wp2_with fail
  refine (H1.out _).mono ?_
  clear c0z0 c1z0
  rintro e w2 ⟨rfl, bb⟩
  replace bb := nextw (w0 := w1) (by exact sm) bb
  replace B_z0 := mv B_z0 bb
  replace HB := nx HB bb
  clear bb
  go_wp2
  go_ret
  exact ⟨(by first | rfl | exact rbt (by omega) | exact rbf (by omega)), nextw HB.out (by exact sm)⟩

set_option maxRecDepth 100000 in
set_option maxHeartbeats 4000000 in
theorem BPoint_w1 (a b : Int)   (dd0 : ¬ (Wi a 1048576)) (w : World) :
    Calls Try.prog 67 #[.agg #[.int .i64 a, .int .i64 b]] w fun e w' => e = .returned (.bool false) ∧ Below w.heap.size w w' := by
  have H0 := Lib.hid (fun w => Size_is a 1048576 (by omega) w)
  obtain ⟨HB, B_z0⟩ := box1 w 43 #[.int .i64 a, .int .i64 b]
  go_enter Try.func67, Try.ntmps67
  go_upto_region 1 with (fail)
  generalize w.alloc (.cells #[.int .i64 a, .int .i64 b] 43) = W0 at *
  obtain ⟨c0z0, c1z0⟩ := cells2 B_z0
  go_wp2_with fail
  refine (H0.out _).mono ?_
  clear c0z0 c1z0
  rintro e w1 ⟨rfl, bb⟩
  replace bb := nextw (w0 := W0) (by exact sm) bb
  replace B_z0 := mv B_z0 bb
  replace HB := nx HB bb
  clear bb
  go_wp2
  go_ret
  exact ⟨(by first | rfl | exact rbt (by omega) | exact rbf (by omega)), nextw HB.out (by exact sm)⟩

def BPointV (a b : Int) : Value := if Wi a 1048576 then .bool (decide (Wi b 1048576)) else .bool false
theorem BPoint_any (a b : Int)  (w : World) :
    Calls Try.prog 67 #[.agg #[.int .i64 a, .int .i64 b]] w fun e w' => e = .returned (BPointV a b) ∧ Below w.heap.size w w' := by
  unfold BPointV
  by_cases dd0 : Wi a 1048576
  · rw [if_pos dd0]
    exact BPoint_w0 a b    dd0 w 
  · rw [if_neg dd0]
    exact BPoint_w1 a b    dd0 w 

theorem BPoint_is (a b : Int)  (w : World) : Calls Try.prog 67 #[.agg #[.int .i64 a, .int .i64 b]] w fun e w' => e = .returned (.bool (decide (Wi a 1048576 ∧ Wi b 1048576))) ∧ Below w.heap.size w w' := by
  rw [← show BPointV a b = .bool (decide (Wi a 1048576 ∧ Wi b 1048576)) from (by unfold BPointV; (repeat' split) <;> (refine congrArg Value.bool ?_; rw [Bool.eq_iff_iff, decide_eq_true_iff]; (try simp only [decide_eq_true_iff, Bool.false_eq_true, false_iff]); (try simp only [Wi] at *); omega))]; exact BPoint_any a b  w

set_option maxRecDepth 100000 in
set_option maxHeartbeats 4000000 in
theorem validRect_w0 (x0 y0 x1 y1 : Int)   (dd0 : Wi x0 1048576 ∧ Wi y0 1048576) (dd1 : Wi x1 1048576 ∧ Wi y1 1048576) (dd2 : x0 ≤ x1) (w : World) :
    Calls Try.prog 70 #[.agg #[.int .i64 x0, .int .i64 y0, .int .i64 x1, .int .i64 y1]] w fun e w' => e = .returned (.bool (decide (y0 ≤ y1))) ∧ Below w.heap.size w w' := by
  have H0 := Lib.hid (fun w => validPoint_is x0 y0 w)
  have H1 := Lib.hid (fun w => validPoint_is x1 y1 w)
  obtain ⟨HB, B_z0⟩ := box1 w 45 #[.int .i64 x0, .int .i64 y0, .int .i64 x1, .int .i64 y1]
  go_enter Try.func70, Try.ntmps70
  go_upto_region 1 with (fail)
  generalize w.alloc (.cells #[.int .i64 x0, .int .i64 y0, .int .i64 x1, .int .i64 y1] 45) = W0 at *
  obtain ⟨c0z0, c1z0, c2z0, c3z0⟩ := cells4 B_z0
  go_wp2_with fail
  refine (H0.out _).mono ?_
  clear c0z0 c1z0 c2z0 c3z0
  rintro e w1 ⟨rfl, bb⟩
  replace bb := nextw (w0 := W0) (by exact sm) bb
  replace B_z0 := mv B_z0 bb
  replace HB := nx HB bb
  clear bb
  obtain ⟨c0z0, c1z0, c2z0, c3z0⟩ := cells4 B_z0
  go_wp2_with fail
  refine (H1.out _).mono ?_
  clear c0z0 c1z0 c2z0 c3z0
  rintro e w2 ⟨rfl, bb⟩
  replace bb := nextw (w0 := w1) (by exact sm) bb
  replace B_z0 := mv B_z0 bb
  replace HB := nx HB bb
  clear bb
  obtain ⟨c0z0, c1z0, c2z0, c3z0⟩ := cells4 B_z0
  go_wp2
  go_ret
  exact ⟨(by first | rfl | exact rbt (by omega) | exact rbf (by omega)), nextw HB.out (by exact sm)⟩

set_option maxRecDepth 100000 in
set_option maxHeartbeats 4000000 in
theorem validRect_w1 (x0 y0 x1 y1 : Int)   (dd0 : ¬ (Wi x0 1048576 ∧ Wi y0 1048576)) (w : World) :
    Calls Try.prog 70 #[.agg #[.int .i64 x0, .int .i64 y0, .int .i64 x1, .int .i64 y1]] w fun e w' => e = .returned (.bool false) ∧ Below w.heap.size w w' := by
  have H0 := Lib.hid (fun w => validPoint_is x0 y0 w)
  obtain ⟨HB, B_z0⟩ := box1 w 45 #[.int .i64 x0, .int .i64 y0, .int .i64 x1, .int .i64 y1]
  go_enter Try.func70, Try.ntmps70
  go_upto_region 1 with (fail)
  generalize w.alloc (.cells #[.int .i64 x0, .int .i64 y0, .int .i64 x1, .int .i64 y1] 45) = W0 at *
  obtain ⟨c0z0, c1z0, c2z0, c3z0⟩ := cells4 B_z0
  go_wp2_with fail
  refine (H0.out _).mono ?_
  clear c0z0 c1z0 c2z0 c3z0
  rintro e w1 ⟨rfl, bb⟩
  replace bb := nextw (w0 := W0) (by exact sm) bb
  replace B_z0 := mv B_z0 bb
  replace HB := nx HB bb
  clear bb
  go_wp2
  go_ret
  exact ⟨(by first | rfl | exact rbt (by omega) | exact rbf (by omega)), nextw HB.out (by exact sm)⟩

set_option maxRecDepth 100000 in
set_option maxHeartbeats 4000000 in
theorem validRect_w2 (x0 y0 x1 y1 : Int)   (dd0 : Wi x0 1048576 ∧ Wi y0 1048576) (dd1 : ¬ (Wi x1 1048576 ∧ Wi y1 1048576)) (w : World) :
    Calls Try.prog 70 #[.agg #[.int .i64 x0, .int .i64 y0, .int .i64 x1, .int .i64 y1]] w fun e w' => e = .returned (.bool false) ∧ Below w.heap.size w w' := by
  have H0 := Lib.hid (fun w => validPoint_is x0 y0 w)
  have H1 := Lib.hid (fun w => validPoint_is x1 y1 w)
  obtain ⟨HB, B_z0⟩ := box1 w 45 #[.int .i64 x0, .int .i64 y0, .int .i64 x1, .int .i64 y1]
  go_enter Try.func70, Try.ntmps70
  go_upto_region 1 with (fail)
  generalize w.alloc (.cells #[.int .i64 x0, .int .i64 y0, .int .i64 x1, .int .i64 y1] 45) = W0 at *
  obtain ⟨c0z0, c1z0, c2z0, c3z0⟩ := cells4 B_z0
  go_wp2_with fail
  refine (H0.out _).mono ?_
  clear c0z0 c1z0 c2z0 c3z0
  rintro e w1 ⟨rfl, bb⟩
  replace bb := nextw (w0 := W0) (by exact sm) bb
  replace B_z0 := mv B_z0 bb
  replace HB := nx HB bb
  clear bb
  obtain ⟨c0z0, c1z0, c2z0, c3z0⟩ := cells4 B_z0
  go_wp2_with fail
  refine (H1.out _).mono ?_
  clear c0z0 c1z0 c2z0 c3z0
  rintro e w2 ⟨rfl, bb⟩
  replace bb := nextw (w0 := w1) (by exact sm) bb
  replace B_z0 := mv B_z0 bb
  replace HB := nx HB bb
  clear bb
  go_wp2
  go_ret
  exact ⟨(by first | rfl | exact rbt (by omega) | exact rbf (by omega)), nextw HB.out (by exact sm)⟩

set_option maxRecDepth 100000 in
set_option maxHeartbeats 4000000 in
theorem validRect_w3 (x0 y0 x1 y1 : Int)   (dd0 : Wi x0 1048576 ∧ Wi y0 1048576) (dd1 : Wi x1 1048576 ∧ Wi y1 1048576) (dd2 : x1 < x0) (w : World) :
    Calls Try.prog 70 #[.agg #[.int .i64 x0, .int .i64 y0, .int .i64 x1, .int .i64 y1]] w fun e w' => e = .returned (.bool false) ∧ Below w.heap.size w w' := by
  have H0 := Lib.hid (fun w => validPoint_is x0 y0 w)
  have H1 := Lib.hid (fun w => validPoint_is x1 y1 w)
  obtain ⟨HB, B_z0⟩ := box1 w 45 #[.int .i64 x0, .int .i64 y0, .int .i64 x1, .int .i64 y1]
  go_enter Try.func70, Try.ntmps70
  go_upto_region 1 with (fail)
  generalize w.alloc (.cells #[.int .i64 x0, .int .i64 y0, .int .i64 x1, .int .i64 y1] 45) = W0 at *
  obtain ⟨c0z0, c1z0, c2z0, c3z0⟩ := cells4 B_z0
  go_wp2_with fail
  refine (H0.out _).mono ?_
  clear c0z0 c1z0 c2z0 c3z0
  rintro e w1 ⟨rfl, bb⟩
  replace bb := nextw (w0 := W0) (by exact sm) bb
  replace B_z0 := mv B_z0 bb
  replace HB := nx HB bb
  clear bb
  obtain ⟨c0z0, c1z0, c2z0, c3z0⟩ := cells4 B_z0
  go_wp2_with fail
  refine (H1.out _).mono ?_
  clear c0z0 c1z0 c2z0 c3z0
  rintro e w2 ⟨rfl, bb⟩
  replace bb := nextw (w0 := w1) (by exact sm) bb
  replace B_z0 := mv B_z0 bb
  replace HB := nx HB bb
  clear bb
  obtain ⟨c0z0, c1z0, c2z0, c3z0⟩ := cells4 B_z0
  go_wp2
  go_ret
  exact ⟨(by first | rfl | exact rbt (by omega) | exact rbf (by omega)), nextw HB.out (by exact sm)⟩

def validRectV (x0 y0 x1 y1 : Int) : Value := if Wi x0 1048576 ∧ Wi y0 1048576 then if Wi x1 1048576 ∧ Wi y1 1048576 then if x0 ≤ x1 then .bool (decide (y0 ≤ y1)) else .bool false else .bool false else .bool false
theorem validRect_any (x0 y0 x1 y1 : Int)  (w : World) :
    Calls Try.prog 70 #[.agg #[.int .i64 x0, .int .i64 y0, .int .i64 x1, .int .i64 y1]] w fun e w' => e = .returned (validRectV x0 y0 x1 y1) ∧ Below w.heap.size w w' := by
  unfold validRectV
  by_cases dd0 : Wi x0 1048576 ∧ Wi y0 1048576
  · rw [if_pos dd0]
    by_cases dd1 : Wi x1 1048576 ∧ Wi y1 1048576
    · rw [if_pos dd1]
      by_cases dd2 : x0 ≤ x1
      · rw [if_pos dd2]
        exact validRect_w0 x0 y0 x1 y1    dd0 dd1 dd2 w 
      · rw [if_neg dd2]
        exact validRect_w3 x0 y0 x1 y1    dd0 dd1 (by omega) w 
    · rw [if_neg dd1]
      exact validRect_w2 x0 y0 x1 y1    dd0 dd1 w 
  · rw [if_neg dd0]
    exact validRect_w1 x0 y0 x1 y1    dd0 w 

theorem validRect_is (x0 y0 x1 y1 : Int)  (w : World) : Calls Try.prog 70 #[.agg #[.int .i64 x0, .int .i64 y0, .int .i64 x1, .int .i64 y1]] w fun e w' => e = .returned (.bool (decide (OkQ x0 y0 x1 y1))) ∧ Below w.heap.size w w' := by
  rw [← show validRectV x0 y0 x1 y1 = .bool (decide (OkQ x0 y0 x1 y1)) from (by unfold validRectV; (repeat' split) <;> (refine congrArg Value.bool ?_; rw [Bool.eq_iff_iff, decide_eq_true_iff]; (try simp only [decide_eq_true_iff, Bool.false_eq_true, false_iff]); (try simp only [OkQ, Wi] at *); omega))]; exact validRect_any x0 y0 x1 y1  w

set_option maxRecDepth 100000 in
set_option maxHeartbeats 4000000 in
theorem right_w0 (x0 y0 x1 y1 : Int)   (dd0 : (-1048576) ≤ x0) (dd1 : x0 ≤ x1) (dd2 : x1 ≤ 1048576) (dd3 : (-1048576) ≤ y0) (dd4 : y0 ≤ y1) (w : World) :
    Calls Try.prog 74 #[.agg #[.int .i64 x0, .int .i64 y0, .int .i64 x1, .int .i64 y1]] w fun e w' => e = .returned (.bool (decide (y1 ≤ 1048576))) ∧ Below w.heap.size w w' := by
  obtain ⟨HB, B_z0⟩ := box1 w 45 #[.int .i64 x0, .int .i64 y0, .int .i64 x1, .int .i64 y1]
  go_enter Try.func74, Try.ntmps74
  go_upto_region 1 with (fail)
  generalize w.alloc (.cells #[.int .i64 x0, .int .i64 y0, .int .i64 x1, .int .i64 y1] 45) = W0 at *
  obtain ⟨c0z0, c1z0, c2z0, c3z0⟩ := cells4 B_z0
  go_wp2
  go_ret
  exact ⟨(by first | rfl | exact rbt (by omega) | exact rbf (by omega)), nextw HB.out (by exact sm)⟩

set_option maxRecDepth 100000 in
set_option maxHeartbeats 4000000 in
theorem right_w1 (x0 y0 x1 y1 : Int)   (dd0 : x0 < (-1048576)) (w : World) :
    Calls Try.prog 74 #[.agg #[.int .i64 x0, .int .i64 y0, .int .i64 x1, .int .i64 y1]] w fun e w' => e = .returned (.bool false) ∧ Below w.heap.size w w' := by
  obtain ⟨HB, B_z0⟩ := box1 w 45 #[.int .i64 x0, .int .i64 y0, .int .i64 x1, .int .i64 y1]
  go_enter Try.func74, Try.ntmps74
  go_upto_region 1 with (fail)
  generalize w.alloc (.cells #[.int .i64 x0, .int .i64 y0, .int .i64 x1, .int .i64 y1] 45) = W0 at *
  obtain ⟨c0z0, c1z0, c2z0, c3z0⟩ := cells4 B_z0
  go_wp2
  go_ret
  exact ⟨(by first | rfl | exact rbt (by omega) | exact rbf (by omega)), nextw HB.out (by exact sm)⟩

set_option maxRecDepth 100000 in
set_option maxHeartbeats 4000000 in
theorem right_w2 (x0 y0 x1 y1 : Int)   (dd0 : (-1048576) ≤ x0) (dd1 : x1 < x0) (w : World) :
    Calls Try.prog 74 #[.agg #[.int .i64 x0, .int .i64 y0, .int .i64 x1, .int .i64 y1]] w fun e w' => e = .returned (.bool false) ∧ Below w.heap.size w w' := by
  obtain ⟨HB, B_z0⟩ := box1 w 45 #[.int .i64 x0, .int .i64 y0, .int .i64 x1, .int .i64 y1]
  go_enter Try.func74, Try.ntmps74
  go_upto_region 1 with (fail)
  generalize w.alloc (.cells #[.int .i64 x0, .int .i64 y0, .int .i64 x1, .int .i64 y1] 45) = W0 at *
  obtain ⟨c0z0, c1z0, c2z0, c3z0⟩ := cells4 B_z0
  go_wp2
  go_ret
  exact ⟨(by first | rfl | exact rbt (by omega) | exact rbf (by omega)), nextw HB.out (by exact sm)⟩

set_option maxRecDepth 100000 in
set_option maxHeartbeats 4000000 in
theorem right_w3 (x0 y0 x1 y1 : Int)   (dd0 : (-1048576) ≤ x0) (dd1 : x0 ≤ x1) (dd2 : 1048576 < x1) (w : World) :
    Calls Try.prog 74 #[.agg #[.int .i64 x0, .int .i64 y0, .int .i64 x1, .int .i64 y1]] w fun e w' => e = .returned (.bool false) ∧ Below w.heap.size w w' := by
  obtain ⟨HB, B_z0⟩ := box1 w 45 #[.int .i64 x0, .int .i64 y0, .int .i64 x1, .int .i64 y1]
  go_enter Try.func74, Try.ntmps74
  go_upto_region 1 with (fail)
  generalize w.alloc (.cells #[.int .i64 x0, .int .i64 y0, .int .i64 x1, .int .i64 y1] 45) = W0 at *
  obtain ⟨c0z0, c1z0, c2z0, c3z0⟩ := cells4 B_z0
  go_wp2
  go_ret
  exact ⟨(by first | rfl | exact rbt (by omega) | exact rbf (by omega)), nextw HB.out (by exact sm)⟩

set_option maxRecDepth 100000 in
set_option maxHeartbeats 4000000 in
theorem right_w4 (x0 y0 x1 y1 : Int)   (dd0 : (-1048576) ≤ x0) (dd1 : x0 ≤ x1) (dd2 : x1 ≤ 1048576) (dd3 : y0 < (-1048576)) (w : World) :
    Calls Try.prog 74 #[.agg #[.int .i64 x0, .int .i64 y0, .int .i64 x1, .int .i64 y1]] w fun e w' => e = .returned (.bool false) ∧ Below w.heap.size w w' := by
  obtain ⟨HB, B_z0⟩ := box1 w 45 #[.int .i64 x0, .int .i64 y0, .int .i64 x1, .int .i64 y1]
  go_enter Try.func74, Try.ntmps74
  go_upto_region 1 with (fail)
  generalize w.alloc (.cells #[.int .i64 x0, .int .i64 y0, .int .i64 x1, .int .i64 y1] 45) = W0 at *
  obtain ⟨c0z0, c1z0, c2z0, c3z0⟩ := cells4 B_z0
  go_wp2
  go_ret
  exact ⟨(by first | rfl | exact rbt (by omega) | exact rbf (by omega)), nextw HB.out (by exact sm)⟩

set_option maxRecDepth 100000 in
set_option maxHeartbeats 4000000 in
theorem right_w5 (x0 y0 x1 y1 : Int)   (dd0 : (-1048576) ≤ x0) (dd1 : x0 ≤ x1) (dd2 : x1 ≤ 1048576) (dd3 : (-1048576) ≤ y0) (dd4 : y1 < y0) (w : World) :
    Calls Try.prog 74 #[.agg #[.int .i64 x0, .int .i64 y0, .int .i64 x1, .int .i64 y1]] w fun e w' => e = .returned (.bool false) ∧ Below w.heap.size w w' := by
  obtain ⟨HB, B_z0⟩ := box1 w 45 #[.int .i64 x0, .int .i64 y0, .int .i64 x1, .int .i64 y1]
  go_enter Try.func74, Try.ntmps74
  go_upto_region 1 with (fail)
  generalize w.alloc (.cells #[.int .i64 x0, .int .i64 y0, .int .i64 x1, .int .i64 y1] 45) = W0 at *
  obtain ⟨c0z0, c1z0, c2z0, c3z0⟩ := cells4 B_z0
  go_wp2
  go_ret
  exact ⟨(by first | rfl | exact rbt (by omega) | exact rbf (by omega)), nextw HB.out (by exact sm)⟩

def rightV (x0 y0 x1 y1 : Int) : Value := if (-1048576) ≤ x0 then if x0 ≤ x1 then if x1 ≤ 1048576 then if (-1048576) ≤ y0 then if y0 ≤ y1 then .bool (decide (y1 ≤ 1048576)) else .bool false else .bool false else .bool false else .bool false else .bool false
theorem right_any (x0 y0 x1 y1 : Int)  (w : World) :
    Calls Try.prog 74 #[.agg #[.int .i64 x0, .int .i64 y0, .int .i64 x1, .int .i64 y1]] w fun e w' => e = .returned (rightV x0 y0 x1 y1) ∧ Below w.heap.size w w' := by
  unfold rightV
  by_cases dd0 : (-1048576) ≤ x0
  · rw [if_pos dd0]
    by_cases dd1 : x0 ≤ x1
    · rw [if_pos dd1]
      by_cases dd2 : x1 ≤ 1048576
      · rw [if_pos dd2]
        by_cases dd3 : (-1048576) ≤ y0
        · rw [if_pos dd3]
          by_cases dd4 : y0 ≤ y1
          · rw [if_pos dd4]
            exact right_w0 x0 y0 x1 y1    dd0 dd1 dd2 dd3 dd4 w 
          · rw [if_neg dd4]
            exact right_w5 x0 y0 x1 y1    dd0 dd1 dd2 dd3 (by omega) w 
        · rw [if_neg dd3]
          exact right_w4 x0 y0 x1 y1    dd0 dd1 dd2 (by omega) w 
      · rw [if_neg dd2]
        exact right_w3 x0 y0 x1 y1    dd0 dd1 (by omega) w 
    · rw [if_neg dd1]
      exact right_w2 x0 y0 x1 y1    dd0 (by omega) w 
  · rw [if_neg dd0]
    exact right_w1 x0 y0 x1 y1    (by omega) w 

theorem right_is (x0 y0 x1 y1 : Int)  (w : World) : Calls Try.prog 74 #[.agg #[.int .i64 x0, .int .i64 y0, .int .i64 x1, .int .i64 y1]] w fun e w' => e = .returned (.bool (decide (OkQ x0 y0 x1 y1))) ∧ Below w.heap.size w w' := by
  rw [← show rightV x0 y0 x1 y1 = .bool (decide (OkQ x0 y0 x1 y1)) from (by unfold rightV; (repeat' split) <;> (refine congrArg Value.bool ?_; rw [Bool.eq_iff_iff, decide_eq_true_iff]; (try simp only [decide_eq_true_iff, Bool.false_eq_true, false_iff]); (try simp only [OkQ, Wi] at *); omega))]; exact right_any x0 y0 x1 y1  w

set_option maxRecDepth 100000 in
set_option maxHeartbeats 4000000 in
theorem pointRect_w0 (a b : Int)    (w : World) :
    Calls Try.prog 69 #[.agg #[.int .i64 a, .int .i64 b]] w fun e w' => e = .returned (.agg #[.int .i64 a, .int .i64 b, .int .i64 a, .int .i64 b]) ∧ Below w.heap.size w w' := by
  obtain ⟨HB, B_z0, B_z1⟩ := box2 w 43 #[.int .i64 a, .int .i64 b] 45 #[.int .i64 0, .int .i64 0, .int .i64 0, .int .i64 0]
  go_enter Try.func69, Try.ntmps69
  go_upto_region 1 with (fail)
  generalize (w.alloc (.cells #[.int .i64 a, .int .i64 b] 43)).alloc (.cells #[.int .i64 0, .int .i64 0, .int .i64 0, .int .i64 0] 45) = W0 at *
  obtain ⟨c0z0, c1z0⟩ := cells2 B_z0
  obtain ⟨s0, s1, s2, s3⟩ := cells4 (stor4 B_z1 (.int .i64 a) (.int .i64 b) (.int .i64 a) (.int .i64 b))
  have HF := stb4 HB (y := w.heap.size + 1) (by omega) 0 (.int .i64 a) 1 (.int .i64 b) 2 (.int .i64 a) 3 (.int .i64 b)
  obtain ⟨c0z1, c1z1, c2z1, c3z1⟩ := cells4 B_z1
  obtain ⟨f0z1, f1z1, f2z1, f3z1⟩ := froz4 B_z1
  go_wp2_with fail
  exact bodyPost_ret (v := .agg #[.int .i64 a, .int .i64 b, .int .i64 a, .int .i64 b]) (by simp [results, Try.results69, go_sem, s0, s1, s2, s3]) rfl ⟨rfl, nextw HF.out (by exact sm)⟩

def pointRectV (a b : Int) : Value := .agg #[.int .i64 a, .int .i64 b, .int .i64 a, .int .i64 b]
theorem pointRect_any (a b : Int)  (w : World) :
    Calls Try.prog 69 #[.agg #[.int .i64 a, .int .i64 b]] w fun e w' => e = .returned (pointRectV a b) ∧ Below w.heap.size w w' := by
  unfold pointRectV
  exact pointRect_w0 a b     w 

set_option maxRecDepth 100000 in
set_option maxHeartbeats 4000000 in
theorem floor_w0 (n d : Int)  (hn : Wi n 1152921504606846976) (hd : 0 < d ∧ d ≤ 1152921504606846976) (dd0 : (Int.tmod n d) < 0) (w : World) :
    Calls Try.prog 66 #[.int .i64 n, .int .i64 d] w fun e w' => e = .returned (.int .i64 ((Int.tdiv n d) - 1)) ∧ Below w.heap.size w w' := by
  have hn1 := hn.1
  have hn2 := hn.2
  have hd1 := hd.1
  have hd2 := hd.2
  have hb := div_bd hn hd1
  obtain ⟨hb1, hb2⟩ := hb
  have HB := Lib.hid (Below.refl w.heap.size w)
  go_enter Try.func66, Try.ntmps66
  go_upto_region 1 with (fail)
  go_wp2
  go_ret
  exact ⟨(by first | rfl | exact rbt (by omega) | exact rbf (by omega)), nextw HB.out (by exact sm)⟩

set_option maxRecDepth 100000 in
set_option maxHeartbeats 4000000 in
theorem floor_w1 (n d : Int)  (hn : Wi n 1152921504606846976) (hd : 0 < d ∧ d ≤ 1152921504606846976) (dd0 : 0 ≤ (Int.tmod n d)) (w : World) :
    Calls Try.prog 66 #[.int .i64 n, .int .i64 d] w fun e w' => e = .returned (.int .i64 (Int.tdiv n d)) ∧ Below w.heap.size w w' := by
  have hn1 := hn.1
  have hn2 := hn.2
  have hd1 := hd.1
  have hd2 := hd.2
  have hb := div_bd hn hd1
  obtain ⟨hb1, hb2⟩ := hb
  have HB := Lib.hid (Below.refl w.heap.size w)
  go_enter Try.func66, Try.ntmps66
  go_upto_region 1 with (fail)
  go_wp2
  go_ret
  exact ⟨(by first | rfl | exact rbt (by omega) | exact rbf (by omega)), nextw HB.out (by exact sm)⟩

def floorV (n d : Int) : Value := if (Int.tmod n d) < 0 then .int .i64 ((Int.tdiv n d) - 1) else .int .i64 (Int.tdiv n d)
theorem floor_any (n d : Int) (hn : Wi n 1152921504606846976) (hd : 0 < d ∧ d ≤ 1152921504606846976) (w : World) :
    Calls Try.prog 66 #[.int .i64 n, .int .i64 d] w fun e w' => e = .returned (floorV n d) ∧ Below w.heap.size w w' := by
  unfold floorV
  by_cases dd0 : (Int.tmod n d) < 0
  · rw [if_pos dd0]
    exact floor_w0 n d   hn hd dd0 w 
  · rw [if_neg dd0]
    exact floor_w1 n d   hn hd (by omega) w 

theorem floor_is (n d : Int) (hn : Wi n 1152921504606846976) (hd : 0 < d ∧ d ≤ 1152921504606846976) (w : World) : Calls Try.prog 66 #[.int .i64 n, .int .i64 d] w fun e w' => e = .returned (.int .i64 (fl n d)) ∧ Below w.heap.size w w' := by
  rw [← show floorV n d = .int .i64 (fl n d) from (by unfold floorV fl; split; (· rw [fl_neg hd.1 (by assumption)]); (· rw [fl_nn hd.1 (by omega)]))]; exact floor_any n d hn hd w

set_option maxRecDepth 100000 in
set_option maxHeartbeats 4000000 in
theorem BFloor_w0 (n d : Int)  (hn : Wi n 1152921504606846976) (hd : 0 < d ∧ d ≤ 1152921504606846976) (dd0 : (Int.tmod n d) < 0) (w : World) :
    Calls Try.prog 68 #[.int .i64 n, .int .i64 d] w fun e w' => e = .returned (.int .i64 ((Int.tdiv n d) - 1)) ∧ Below w.heap.size w w' := by
  have hn1 := hn.1
  have hn2 := hn.2
  have hd1 := hd.1
  have hd2 := hd.2
  have hb := div_bd hn hd1
  obtain ⟨hb1, hb2⟩ := hb
  have HB := Lib.hid (Below.refl w.heap.size w)
  go_enter Try.func68, Try.ntmps68
  go_upto_region 1 with (fail)
  go_wp2
  go_ret
  exact ⟨(by first | rfl | exact rbt (by omega) | exact rbf (by omega)), nextw HB.out (by exact sm)⟩

set_option maxRecDepth 100000 in
set_option maxHeartbeats 4000000 in
theorem BFloor_w1 (n d : Int)  (hn : Wi n 1152921504606846976) (hd : 0 < d ∧ d ≤ 1152921504606846976) (dd0 : 0 ≤ (Int.tmod n d)) (w : World) :
    Calls Try.prog 68 #[.int .i64 n, .int .i64 d] w fun e w' => e = .returned (.int .i64 (Int.tdiv n d)) ∧ Below w.heap.size w w' := by
  have hn1 := hn.1
  have hn2 := hn.2
  have hd1 := hd.1
  have hd2 := hd.2
  have hb := div_bd hn hd1
  obtain ⟨hb1, hb2⟩ := hb
  have HB := Lib.hid (Below.refl w.heap.size w)
  go_enter Try.func68, Try.ntmps68
  go_upto_region 1 with (fail)
  go_wp2
  go_ret
  exact ⟨(by first | rfl | exact rbt (by omega) | exact rbf (by omega)), nextw HB.out (by exact sm)⟩

def BFloorV (n d : Int) : Value := if (Int.tmod n d) < 0 then .int .i64 ((Int.tdiv n d) - 1) else .int .i64 (Int.tdiv n d)
theorem BFloor_any (n d : Int) (hn : Wi n 1152921504606846976) (hd : 0 < d ∧ d ≤ 1152921504606846976) (w : World) :
    Calls Try.prog 68 #[.int .i64 n, .int .i64 d] w fun e w' => e = .returned (BFloorV n d) ∧ Below w.heap.size w w' := by
  unfold BFloorV
  by_cases dd0 : (Int.tmod n d) < 0
  · rw [if_pos dd0]
    exact BFloor_w0 n d   hn hd dd0 w 
  · rw [if_neg dd0]
    exact BFloor_w1 n d   hn hd (by omega) w 

theorem BFloor_is (n d : Int) (hn : Wi n 1152921504606846976) (hd : 0 < d ∧ d ≤ 1152921504606846976) (w : World) : Calls Try.prog 68 #[.int .i64 n, .int .i64 d] w fun e w' => e = .returned (.int .i64 (fl n d)) ∧ Below w.heap.size w w' := by
  rw [← show BFloorV n d = .int .i64 (fl n d) from (by unfold BFloorV fl; split; (· rw [fl_neg hd.1 (by assumption)]); (· rw [fl_nn hd.1 (by omega)]))]; exact BFloor_any n d hn hd w
end Go.Proofs.Ytkhcogfajihecaa
