/- zonogon: functions of plain numbers. -/
import Derived.Test.YtpjbkadhmjlpfaaSBase
set_option linter.unusedVariables false
set_option linter.unusedSimpArgs false
namespace Go.Proofs.Ytpjbkadhmjlpfaa
open Go Go.RowKit Hd

/-- At most m in magnitude. -/
def Wi (n m : Int) : Prop := -m ≤ n ∧ n ≤ m
instance (n m : Int) : Decidable (Wi n m) := inferInstanceAs (Decidable (_ ∧ _))
/-- The magnitude. -/
def mg (n : Int) : Int := if n < 0 then -n else n
theorem mg_nonneg (n : Int) : 0 ≤ mg n := by unfold mg; split <;> omega
theorem wi_mul {a b A B : Int} (ha : Wi a A) (hb : Wi b B) : Wi (a * b) (A * B) := by
  obtain ⟨a0, a1⟩ := ha
  obtain ⟨b0, b1⟩ := hb
  have e1 : 0 ≤ (A - a) * (B - b) := Int.mul_nonneg (by omega) (by omega)
  have e2 : 0 ≤ (A + a) * (B + b) := Int.mul_nonneg (by omega) (by omega)
  have e3 : 0 ≤ (A - a) * (B + b) := Int.mul_nonneg (by omega) (by omega)
  have e4 : 0 ≤ (A + a) * (B - b) := Int.mul_nonneg (by omega) (by omega)
  rw [Int.sub_mul, Int.mul_sub, Int.mul_sub] at e1
  rw [Int.add_mul, Int.mul_add, Int.mul_add] at e2
  rw [Int.sub_mul, Int.mul_add, Int.mul_add] at e3
  rw [Int.add_mul, Int.mul_sub, Int.mul_sub] at e4
  exact ⟨by omega, by omega⟩
/-- A small product. -/
def Sm (n : Int) : Prop := -1152921504606846976 ≤ n ∧ n ≤ 1152921504606846976
def cr (a b c d : Int) : Int := a * d - b * c
def dt (a b c d : Int) : Int := a * c + b * d
/-- Whether a vector is turned round. -/
def Dn (x y : Int) : Prop := y < 0 ∨ (y = 0 ∧ x < 0)
instance (x y : Int) : Decidable (Dn x y) := inferInstanceAs (Decidable (_ ∨ _))
def upX (x y : Int) : Int := if Dn x y then -x else x
def upY (x y : Int) : Int := if Dn x y then -y else y
/-- A rectangle with permitted coordinates. -/
def OkR (x0 y0 x1 y1 : Int) : Prop := Wi x0 2097152 ∧ Wi y0 2097152 ∧ Wi x1 2097152 ∧ Wi y1 2097152 ∧ x0 ≤ x1 ∧ y0 ≤ y1
instance (x0 y0 x1 y1 : Int) : Decidable (OkR x0 y0 x1 y1) := inferInstanceAs (Decidable (_ ∧ _))

set_option maxRecDepth 100000 in
set_option maxHeartbeats 4000000 in
theorem within_w0 (n m : Int)  (hm : 0 ≤ m ∧ m ≤ 1073741824) (dd0 : (-m) ≤ n) (w : World) :
    Calls Try.prog 47 #[.int .i64 n, .int .i64 m] w fun e w' => e = .returned (.bool (decide (n ≤ m))) ∧ Below w.heap.size w w' := by
  have HB := Lib.hid (Below.refl w.heap.size w)
  go_enter Try.func47, Try.ntmps47
  go_upto_region 1 with (fail)
  go_wp2
  go_ret
  exact ⟨(by first | rfl | exact rbt (by omega) | exact rbf (by omega)), nextw HB.out (by exact sm)⟩

set_option maxRecDepth 100000 in
set_option maxHeartbeats 4000000 in
theorem within_w1 (n m : Int)  (hm : 0 ≤ m ∧ m ≤ 1073741824) (dd0 : n < (-m)) (w : World) :
    Calls Try.prog 47 #[.int .i64 n, .int .i64 m] w fun e w' => e = .returned (.bool false) ∧ Below w.heap.size w w' := by
  have HB := Lib.hid (Below.refl w.heap.size w)
  go_enter Try.func47, Try.ntmps47
  go_upto_region 1 with (fail)
  go_wp2
  go_ret
  exact ⟨(by first | rfl | exact rbt (by omega) | exact rbf (by omega)), nextw HB.out (by exact sm)⟩

def withinV (n m : Int) : Value := if (-m) ≤ n then .bool (decide (n ≤ m)) else .bool false
theorem within_any (n m : Int) (hm : 0 ≤ m ∧ m ≤ 1073741824) (w : World) :
    Calls Try.prog 47 #[.int .i64 n, .int .i64 m] w fun e w' => e = .returned (withinV n m) ∧ Below w.heap.size w w' := by
  unfold withinV
  by_cases dd0 : (-m) ≤ n
  · rw [if_pos dd0]
    exact within_w0 n m   hm dd0 w
  · rw [if_neg dd0]
    exact within_w1 n m   hm (by omega) w

theorem within_is (n m : Int) (hm : 0 ≤ m ∧ m ≤ 1073741824) (w : World) : Calls Try.prog 47 #[.int .i64 n, .int .i64 m] w fun e w' => e = .returned (.bool (decide (Wi n m))) ∧ Below w.heap.size w w' := by
  rw [← show withinV n m = .bool (decide (Wi n m)) from (by unfold withinV; (repeat' split) <;> (refine congrArg Value.bool ?_; rw [Bool.eq_iff_iff, decide_eq_true_iff]; (try simp only [decide_eq_true_iff, Bool.false_eq_true, false_iff]); (try simp only [Wi] at *); omega))]; exact within_any n m hm w

set_option maxRecDepth 100000 in
set_option maxHeartbeats 4000000 in
theorem Rwithin_w0 (n m : Int)  (hm : 0 ≤ m ∧ m ≤ 1073741824) (dd0 : (-m) ≤ n) (w : World) :
    Calls Try.prog 51 #[.int .i64 n, .int .i64 m] w fun e w' => e = .returned (.bool (decide (n ≤ m))) ∧ Below w.heap.size w w' := by
  have HB := Lib.hid (Below.refl w.heap.size w)
  go_enter Try.func51, Try.ntmps51
  go_upto_region 1 with (fail)
  go_wp2
  go_ret
  exact ⟨(by first | rfl | exact rbt (by omega) | exact rbf (by omega)), nextw HB.out (by exact sm)⟩

set_option maxRecDepth 100000 in
set_option maxHeartbeats 4000000 in
theorem Rwithin_w1 (n m : Int)  (hm : 0 ≤ m ∧ m ≤ 1073741824) (dd0 : n < (-m)) (w : World) :
    Calls Try.prog 51 #[.int .i64 n, .int .i64 m] w fun e w' => e = .returned (.bool false) ∧ Below w.heap.size w w' := by
  have HB := Lib.hid (Below.refl w.heap.size w)
  go_enter Try.func51, Try.ntmps51
  go_upto_region 1 with (fail)
  go_wp2
  go_ret
  exact ⟨(by first | rfl | exact rbt (by omega) | exact rbf (by omega)), nextw HB.out (by exact sm)⟩

def RwithinV (n m : Int) : Value := if (-m) ≤ n then .bool (decide (n ≤ m)) else .bool false
theorem Rwithin_any (n m : Int) (hm : 0 ≤ m ∧ m ≤ 1073741824) (w : World) :
    Calls Try.prog 51 #[.int .i64 n, .int .i64 m] w fun e w' => e = .returned (RwithinV n m) ∧ Below w.heap.size w w' := by
  unfold RwithinV
  by_cases dd0 : (-m) ≤ n
  · rw [if_pos dd0]
    exact Rwithin_w0 n m   hm dd0 w
  · rw [if_neg dd0]
    exact Rwithin_w1 n m   hm (by omega) w

theorem Rwithin_is (n m : Int) (hm : 0 ≤ m ∧ m ≤ 1073741824) (w : World) : Calls Try.prog 51 #[.int .i64 n, .int .i64 m] w fun e w' => e = .returned (.bool (decide (Wi n m))) ∧ Below w.heap.size w w' := by
  rw [← show RwithinV n m = .bool (decide (Wi n m)) from (by unfold RwithinV; (repeat' split) <;> (refine congrArg Value.bool ?_; rw [Bool.eq_iff_iff, decide_eq_true_iff]; (try simp only [decide_eq_true_iff, Bool.false_eq_true, false_iff]); (try simp only [Wi] at *); omega))]; exact Rwithin_any n m hm w

set_option maxRecDepth 100000 in
set_option maxHeartbeats 4000000 in
theorem Size_w0 (n m : Int)  (hm : 0 ≤ m ∧ m ≤ 1073741824) (dd0 : (-m) ≤ n) (w : World) :
    Calls Try.prog 37 #[.int .i64 n, .int .i64 m] w fun e w' => e = .returned (.bool (decide (n ≤ m))) ∧ Below w.heap.size w w' := by
  have HB := Lib.hid (Below.refl w.heap.size w)
  go_enter Try.func37, Try.ntmps37
  go_upto_region 1 with (fail)
  go_wp2
  go_ret
  exact ⟨(by first | rfl | exact rbt (by omega) | exact rbf (by omega)), nextw HB.out (by exact sm)⟩

set_option maxRecDepth 100000 in
set_option maxHeartbeats 4000000 in
theorem Size_w1 (n m : Int)  (hm : 0 ≤ m ∧ m ≤ 1073741824) (dd0 : n < (-m)) (w : World) :
    Calls Try.prog 37 #[.int .i64 n, .int .i64 m] w fun e w' => e = .returned (.bool false) ∧ Below w.heap.size w w' := by
  have HB := Lib.hid (Below.refl w.heap.size w)
  go_enter Try.func37, Try.ntmps37
  go_upto_region 1 with (fail)
  go_wp2
  go_ret
  exact ⟨(by first | rfl | exact rbt (by omega) | exact rbf (by omega)), nextw HB.out (by exact sm)⟩

def SizeV (n m : Int) : Value := if (-m) ≤ n then .bool (decide (n ≤ m)) else .bool false
theorem Size_any (n m : Int) (hm : 0 ≤ m ∧ m ≤ 1073741824) (w : World) :
    Calls Try.prog 37 #[.int .i64 n, .int .i64 m] w fun e w' => e = .returned (SizeV n m) ∧ Below w.heap.size w w' := by
  unfold SizeV
  by_cases dd0 : (-m) ≤ n
  · rw [if_pos dd0]
    exact Size_w0 n m   hm dd0 w
  · rw [if_neg dd0]
    exact Size_w1 n m   hm (by omega) w

theorem Size_is (n m : Int) (hm : 0 ≤ m ∧ m ≤ 1073741824) (w : World) : Calls Try.prog 37 #[.int .i64 n, .int .i64 m] w fun e w' => e = .returned (.bool (decide (Wi n m))) ∧ Below w.heap.size w w' := by
  rw [← show SizeV n m = .bool (decide (Wi n m)) from (by unfold SizeV; (repeat' split) <;> (refine congrArg Value.bool ?_; rw [Bool.eq_iff_iff, decide_eq_true_iff]; (try simp only [decide_eq_true_iff, Bool.false_eq_true, false_iff]); (try simp only [Wi] at *); omega))]; exact Size_any n m hm w

set_option maxRecDepth 100000 in
set_option maxHeartbeats 4000000 in
theorem pointWithin_w0 (a b m : Int)  (hm : 0 ≤ m ∧ m ≤ 1073741824) (dd0 : Wi a m) (w : World) :
    Calls Try.prog 50 #[.agg #[.int .i64 a, .int .i64 b], .int .i64 m] w fun e w' => e = .returned (.bool (decide (Wi b m))) ∧ Below w.heap.size w w' := by
  have H0 := Lib.hid (fun w => within_is a m (by omega) w)
  have H1 := Lib.hid (fun w => within_is b m (by omega) w)
  obtain ⟨HB, B_z0⟩ := box1 w 39 #[.int .i64 a, .int .i64 b]
  go_enter Try.func50, Try.ntmps50
  go_upto_region 1 with (fail)
  generalize w.alloc (.cells #[.int .i64 a, .int .i64 b] 39) = W0 at *
  obtain ⟨c0z0, c1z0⟩ := cells2 B_z0
  go_wp2_with fail
  refine (H0.out _).mono ?_
  clear c0z0 c1z0
  rintro e w1 ⟨rfl, bb⟩
  replace bb := nextw (w0 := W0) (by exact sm) bb
  replace B_z0 := mv B_z0 bb
  replace HB := nx HB bb
  clear bb
  obtain ⟨c0z0, c1z0⟩ := cells2 B_z0
  go_wp2_with fail
  refine (H1.out _).mono ?_
  clear c0z0 c1z0
  rintro e w2 ⟨rfl, bb⟩
  replace bb := nextw (w0 := w1) (by exact sm) bb
  replace B_z0 := mv B_z0 bb
  replace HB := nx HB bb
  clear bb
  go_wp2
  go_ret
  exact ⟨(by first | rfl | exact rbt (by omega) | exact rbf (by omega)), nextw HB.out (by exact sm)⟩

set_option maxRecDepth 100000 in
set_option maxHeartbeats 4000000 in
theorem pointWithin_w1 (a b m : Int)  (hm : 0 ≤ m ∧ m ≤ 1073741824) (dd0 : ¬ (Wi a m)) (w : World) :
    Calls Try.prog 50 #[.agg #[.int .i64 a, .int .i64 b], .int .i64 m] w fun e w' => e = .returned (.bool false) ∧ Below w.heap.size w w' := by
  have H0 := Lib.hid (fun w => within_is a m (by omega) w)
  obtain ⟨HB, B_z0⟩ := box1 w 39 #[.int .i64 a, .int .i64 b]
  go_enter Try.func50, Try.ntmps50
  go_upto_region 1 with (fail)
  generalize w.alloc (.cells #[.int .i64 a, .int .i64 b] 39) = W0 at *
  obtain ⟨c0z0, c1z0⟩ := cells2 B_z0
  go_wp2_with fail
  refine (H0.out _).mono ?_
  clear c0z0 c1z0
  rintro e w1 ⟨rfl, bb⟩
  replace bb := nextw (w0 := W0) (by exact sm) bb
  replace B_z0 := mv B_z0 bb
  replace HB := nx HB bb
  clear bb
  go_wp2
  go_ret
  exact ⟨(by first | rfl | exact rbt (by omega) | exact rbf (by omega)), nextw HB.out (by exact sm)⟩

def pointWithinV (a b m : Int) : Value := if Wi a m then .bool (decide (Wi b m)) else .bool false
theorem pointWithin_any (a b m : Int) (hm : 0 ≤ m ∧ m ≤ 1073741824) (w : World) :
    Calls Try.prog 50 #[.agg #[.int .i64 a, .int .i64 b], .int .i64 m] w fun e w' => e = .returned (pointWithinV a b m) ∧ Below w.heap.size w w' := by
  unfold pointWithinV
  by_cases dd0 : Wi a m
  · rw [if_pos dd0]
    exact pointWithin_w0 a b m   hm dd0 w
  · rw [if_neg dd0]
    exact pointWithin_w1 a b m   hm dd0 w

theorem pointWithin_is (a b m : Int) (hm : 0 ≤ m ∧ m ≤ 1073741824) (w : World) : Calls Try.prog 50 #[.agg #[.int .i64 a, .int .i64 b], .int .i64 m] w fun e w' => e = .returned (.bool (decide (Wi a m ∧ Wi b m))) ∧ Below w.heap.size w w' := by
  rw [← show pointWithinV a b m = .bool (decide (Wi a m ∧ Wi b m)) from (by unfold pointWithinV; (repeat' split) <;> (refine congrArg Value.bool ?_; rw [Bool.eq_iff_iff, decide_eq_true_iff]; (try simp only [decide_eq_true_iff, Bool.false_eq_true, false_iff]); (try simp only [Wi] at *); omega))]; exact pointWithin_any a b m hm w

set_option maxRecDepth 100000 in
set_option maxHeartbeats 4000000 in
theorem magnitude_w0 (n : Int) (MX0 : Int) (mx0 : (if n < (-n) then (-n) else n) = MX0) (hn : Sm n)  (w : World) :
    Calls Try.prog 52 #[.int .i64 n] w fun e w' => e = .returned (.int .i64 MX0) ∧ Below w.heap.size w w' := by
  have hn1 := hn.1
  have hn2 := hn.2
  replace mx0 := Lib.hid mx0
  have HB := Lib.hid (Below.refl w.heap.size w)
  go_enter Try.func52, Try.ntmps52
  go_upto_region 1 with (fail)
  have mxo0 := mx0.out
  go_wp2
  go_ret
  exact ⟨(by first | rfl | exact rbt (by omega) | exact rbf (by omega)), nextw HB.out (by exact sm)⟩

def magnitudeV (n : Int) : Value := .int .i64 (if n < (-n) then (-n) else n)
theorem magnitude_any (n : Int) (hn : Sm n) (w : World) :
    Calls Try.prog 52 #[.int .i64 n] w fun e w' => e = .returned (magnitudeV n) ∧ Below w.heap.size w w' := by
  unfold magnitudeV
  exact magnitude_w0 n _ rfl hn  w

theorem magnitude_is (n : Int) (hn : Sm n) (w : World) : Calls Try.prog 52 #[.int .i64 n] w fun e w' => e = .returned (.int .i64 (mg n)) ∧ Below w.heap.size w w' := by
  rw [← show magnitudeV n = .int .i64 (mg n) from (by unfold magnitudeV mg; obtain ⟨h1, h2⟩ := hn; repeat' split; all_goals first | rfl | (congr 1; omega) | omega)]; exact magnitude_any n hn w

set_option maxRecDepth 100000 in
set_option maxHeartbeats 4000000 in
theorem Rabs_w0 (n : Int)  (hn : Sm n) (dd0 : n < 0) (w : World) :
    Calls Try.prog 69 #[.int .i64 n] w fun e w' => e = .returned (.int .i64 (-n)) ∧ Below w.heap.size w w' := by
  have hn1 := hn.1
  have hn2 := hn.2
  have HB := Lib.hid (Below.refl w.heap.size w)
  go_enter Try.func69, Try.ntmps69
  go_upto_region 1 with (fail)
  go_wp2
  go_ret
  exact ⟨(by first | rfl | exact rbt (by omega) | exact rbf (by omega)), nextw HB.out (by exact sm)⟩

set_option maxRecDepth 100000 in
set_option maxHeartbeats 4000000 in
theorem Rabs_w1 (n : Int)  (hn : Sm n) (dd0 : 0 ≤ n) (w : World) :
    Calls Try.prog 69 #[.int .i64 n] w fun e w' => e = .returned (.int .i64 n) ∧ Below w.heap.size w w' := by
  have hn1 := hn.1
  have hn2 := hn.2
  have HB := Lib.hid (Below.refl w.heap.size w)
  go_enter Try.func69, Try.ntmps69
  go_upto_region 1 with (fail)
  go_wp2
  go_ret
  exact ⟨(by first | rfl | exact rbt (by omega) | exact rbf (by omega)), nextw HB.out (by exact sm)⟩

def RabsV (n : Int) : Value := if n < 0 then .int .i64 (-n) else .int .i64 n
theorem Rabs_any (n : Int) (hn : Sm n) (w : World) :
    Calls Try.prog 69 #[.int .i64 n] w fun e w' => e = .returned (RabsV n) ∧ Below w.heap.size w w' := by
  unfold RabsV
  by_cases dd0 : n < 0
  · rw [if_pos dd0]
    exact Rabs_w0 n   hn dd0 w
  · rw [if_neg dd0]
    exact Rabs_w1 n   hn (by omega) w

theorem Rabs_is (n : Int) (hn : Sm n) (w : World) : Calls Try.prog 69 #[.int .i64 n] w fun e w' => e = .returned (.int .i64 (mg n)) ∧ Below w.heap.size w w' := by
  rw [← show RabsV n = .int .i64 (mg n) from (by unfold RabsV mg; obtain ⟨h1, h2⟩ := hn; repeat' split; all_goals first | rfl | (congr 1; omega) | omega)]; exact Rabs_any n hn w

set_option maxRecDepth 100000 in
set_option maxHeartbeats 4000000 in
theorem cross_w0 (a b c d : Int)  (h1 : Sm (a * d)) (h2 : Sm (b * c))  (w : World) :
    Calls Try.prog 53 #[.agg #[.int .i64 a, .int .i64 b], .agg #[.int .i64 c, .int .i64 d]] w fun e w' => e = .returned (.int .i64 ((a * d) - (b * c))) ∧ Below w.heap.size w w' := by
  have h11 := h1.1
  have h12 := h1.2
  have h21 := h2.1
  have h22 := h2.2
  obtain ⟨HB, B_z0, B_z1⟩ := box2 w 39 #[.int .i64 a, .int .i64 b] 39 #[.int .i64 c, .int .i64 d]
  go_enter Try.func53, Try.ntmps53
  go_upto_region 1 with (fail)
  generalize (w.alloc (.cells #[.int .i64 a, .int .i64 b] 39)).alloc (.cells #[.int .i64 c, .int .i64 d] 39) = W0 at *
  obtain ⟨c0z0, c1z0⟩ := cells2 B_z0
  obtain ⟨c0z1, c1z1⟩ := cells2 B_z1
  go_wp2
  go_ret
  exact ⟨(by first | rfl | exact rbt (by omega) | exact rbf (by omega)), nextw HB.out (by exact sm)⟩

def crossV (a b c d : Int) : Value := .int .i64 ((a * d) - (b * c))
theorem cross_any (a b c d : Int) (h1 : Sm (a * d)) (h2 : Sm (b * c)) (w : World) :
    Calls Try.prog 53 #[.agg #[.int .i64 a, .int .i64 b], .agg #[.int .i64 c, .int .i64 d]] w fun e w' => e = .returned (crossV a b c d) ∧ Below w.heap.size w w' := by
  unfold crossV
  exact cross_w0 a b c d   h1 h2  w

theorem cross_is (a b c d : Int) (h1 : Sm (a * d)) (h2 : Sm (b * c)) (w : World) : Calls Try.prog 53 #[.agg #[.int .i64 a, .int .i64 b], .agg #[.int .i64 c, .int .i64 d]] w fun e w' => e = .returned (.int .i64 (cr a b c d)) ∧ Below w.heap.size w w' := by
  rw [← show crossV a b c d = .int .i64 (cr a b c d) from (by unfold crossV cr; rfl)]; exact cross_any a b c d h1 h2 w

set_option maxRecDepth 100000 in
set_option maxHeartbeats 4000000 in
theorem Rcross_w0 (a b c d : Int)  (h1 : Sm (a * d)) (h2 : Sm (b * c))  (w : World) :
    Calls Try.prog 54 #[.agg #[.int .i64 a, .int .i64 b], .agg #[.int .i64 c, .int .i64 d]] w fun e w' => e = .returned (.int .i64 ((a * d) - (b * c))) ∧ Below w.heap.size w w' := by
  have h11 := h1.1
  have h12 := h1.2
  have h21 := h2.1
  have h22 := h2.2
  obtain ⟨HB, B_z0, B_z1⟩ := box2 w 39 #[.int .i64 a, .int .i64 b] 39 #[.int .i64 c, .int .i64 d]
  go_enter Try.func54, Try.ntmps54
  go_upto_region 1 with (fail)
  generalize (w.alloc (.cells #[.int .i64 a, .int .i64 b] 39)).alloc (.cells #[.int .i64 c, .int .i64 d] 39) = W0 at *
  obtain ⟨c0z0, c1z0⟩ := cells2 B_z0
  obtain ⟨c0z1, c1z1⟩ := cells2 B_z1
  go_wp2
  go_ret
  exact ⟨(by first | rfl | exact rbt (by omega) | exact rbf (by omega)), nextw HB.out (by exact sm)⟩

def RcrossV (a b c d : Int) : Value := .int .i64 ((a * d) - (b * c))
theorem Rcross_any (a b c d : Int) (h1 : Sm (a * d)) (h2 : Sm (b * c)) (w : World) :
    Calls Try.prog 54 #[.agg #[.int .i64 a, .int .i64 b], .agg #[.int .i64 c, .int .i64 d]] w fun e w' => e = .returned (RcrossV a b c d) ∧ Below w.heap.size w w' := by
  unfold RcrossV
  exact Rcross_w0 a b c d   h1 h2  w

theorem Rcross_is (a b c d : Int) (h1 : Sm (a * d)) (h2 : Sm (b * c)) (w : World) : Calls Try.prog 54 #[.agg #[.int .i64 a, .int .i64 b], .agg #[.int .i64 c, .int .i64 d]] w fun e w' => e = .returned (.int .i64 (cr a b c d)) ∧ Below w.heap.size w w' := by
  rw [← show RcrossV a b c d = .int .i64 (cr a b c d) from (by unfold RcrossV cr; rfl)]; exact Rcross_any a b c d h1 h2 w

set_option maxRecDepth 100000 in
set_option maxHeartbeats 4000000 in
theorem dot_w0 (a b c d : Int)  (h1 : Sm (a * c)) (h2 : Sm (b * d))  (w : World) :
    Calls Try.prog 64 #[.agg #[.int .i64 a, .int .i64 b], .agg #[.int .i64 c, .int .i64 d]] w fun e w' => e = .returned (.int .i64 ((a * c) + (b * d))) ∧ Below w.heap.size w w' := by
  have h11 := h1.1
  have h12 := h1.2
  have h21 := h2.1
  have h22 := h2.2
  obtain ⟨HB, B_z0, B_z1⟩ := box2 w 39 #[.int .i64 a, .int .i64 b] 39 #[.int .i64 c, .int .i64 d]
  go_enter Try.func64, Try.ntmps64
  go_upto_region 1 with (fail)
  generalize (w.alloc (.cells #[.int .i64 a, .int .i64 b] 39)).alloc (.cells #[.int .i64 c, .int .i64 d] 39) = W0 at *
  obtain ⟨c0z0, c1z0⟩ := cells2 B_z0
  obtain ⟨c0z1, c1z1⟩ := cells2 B_z1
  go_wp2
  go_ret
  exact ⟨(by first | rfl | exact rbt (by omega) | exact rbf (by omega)), nextw HB.out (by exact sm)⟩

def dotV (a b c d : Int) : Value := .int .i64 ((a * c) + (b * d))
theorem dot_any (a b c d : Int) (h1 : Sm (a * c)) (h2 : Sm (b * d)) (w : World) :
    Calls Try.prog 64 #[.agg #[.int .i64 a, .int .i64 b], .agg #[.int .i64 c, .int .i64 d]] w fun e w' => e = .returned (dotV a b c d) ∧ Below w.heap.size w w' := by
  unfold dotV
  exact dot_w0 a b c d   h1 h2  w

theorem dot_is (a b c d : Int) (h1 : Sm (a * c)) (h2 : Sm (b * d)) (w : World) : Calls Try.prog 64 #[.agg #[.int .i64 a, .int .i64 b], .agg #[.int .i64 c, .int .i64 d]] w fun e w' => e = .returned (.int .i64 (dt a b c d)) ∧ Below w.heap.size w w' := by
  rw [← show dotV a b c d = .int .i64 (dt a b c d) from (by unfold dotV dt; rfl)]; exact dot_any a b c d h1 h2 w

set_option maxRecDepth 100000 in
set_option maxHeartbeats 4000000 in
theorem upzero_w0 (a : Int)  (ha : Sm a) (dd0 : a < 0) (w : World) :
    Calls Try.prog 70 #[.agg #[.int .i64 a, .int .i64 0]] w fun e w' => e = .returned (.agg #[.int .i64 (-a), .int .i64 0]) ∧ Below w.heap.size w w' := by
  have h11 := ha.1
  have h12 := ha.2
  obtain ⟨HB, B_z0, B_z1⟩ := box2 w 39 #[.int .i64 a, .int .i64 0] 39 #[.int .i64 0, .int .i64 0]
  go_enter Try.func70, Try.ntmps70
  go_upto_region 1 with (fail)
  generalize (w.alloc (.cells #[.int .i64 a, .int .i64 0] 39)).alloc (.cells #[.int .i64 0, .int .i64 0] 39) = W0 at *
  obtain ⟨c0z0, c1z0⟩ := cells2 B_z0
  obtain ⟨s0, s1⟩ := cells2 (stor2 B_z1 (.int .i64 (-a)) (.int .i64 0))
  have HF := stb2 HB (y := w.heap.size + 1) (by omega) 0 (.int .i64 (-a)) 1 (.int .i64 0)
  obtain ⟨c0z1, c1z1⟩ := cells2 B_z1
  obtain ⟨f0z1, f1z1⟩ := froz2 B_z1
  go_wp2_with fail
  exact bodyPost_ret (v := .agg #[.int .i64 (-a), .int .i64 0]) (by simp [results, Try.results70, go_sem, s0, s1]) rfl ⟨rfl, nextw HF.out (by exact sm)⟩

set_option maxRecDepth 100000 in
set_option maxHeartbeats 4000000 in
theorem upzero_w1 (a : Int)  (ha : Sm a) (dd0 : 0 ≤ a) (w : World) :
    Calls Try.prog 70 #[.agg #[.int .i64 a, .int .i64 0]] w fun e w' => e = .returned (.agg #[.int .i64 a, .int .i64 0]) ∧ Below w.heap.size w w' := by
  have h11 := ha.1
  have h12 := ha.2
  obtain ⟨HB, B_z0, B_z1⟩ := box2 w 39 #[.int .i64 a, .int .i64 0] 39 #[.int .i64 0, .int .i64 0]
  go_enter Try.func70, Try.ntmps70
  go_upto_region 1 with (fail)
  generalize (w.alloc (.cells #[.int .i64 a, .int .i64 0] 39)).alloc (.cells #[.int .i64 0, .int .i64 0] 39) = W0 at *
  obtain ⟨c0z0, c1z0⟩ := cells2 B_z0
  obtain ⟨s0, s1⟩ := cells2 (stor2 B_z1 (.int .i64 a) (.int .i64 0))
  have HF := stb2 HB (y := w.heap.size + 1) (by omega) 0 (.int .i64 a) 1 (.int .i64 0)
  obtain ⟨c0z1, c1z1⟩ := cells2 B_z1
  obtain ⟨f0z1, f1z1⟩ := froz2 B_z1
  go_wp2_with fail
  exact bodyPost_ret (v := .agg #[.int .i64 a, .int .i64 0]) (by simp [results, Try.results70, go_sem, s0, s1]) rfl ⟨rfl, nextw HF.out (by exact sm)⟩

def upzeroV (a : Int) : Value := if a < 0 then .agg #[.int .i64 (-a), .int .i64 0] else .agg #[.int .i64 a, .int .i64 0]
theorem upzero_any (a : Int) (ha : Sm a) (w : World) :
    Calls Try.prog 70 #[.agg #[.int .i64 a, .int .i64 0]] w fun e w' => e = .returned (upzeroV a) ∧ Below w.heap.size w w' := by
  unfold upzeroV
  by_cases dd0 : a < 0
  · rw [if_pos dd0]
    exact upzero_w0 a   ha dd0 w
  · rw [if_neg dd0]
    exact upzero_w1 a   ha (by omega) w

set_option maxRecDepth 100000 in
set_option maxHeartbeats 4000000 in
theorem upward_w0 (a b : Int)  (ha : Sm a) (hb : Sm b) (dd0 : b < 0) (w : World) :
    Calls Try.prog 70 #[.agg #[.int .i64 a, .int .i64 b]] w fun e w' => e = .returned (.agg #[.int .i64 (-a), .int .i64 (-b)]) ∧ Below w.heap.size w w' := by
  have h11 := ha.1
  have h12 := ha.2
  have h21 := hb.1
  have h22 := hb.2
  obtain ⟨HB, B_z0, B_z1⟩ := box2 w 39 #[.int .i64 a, .int .i64 b] 39 #[.int .i64 0, .int .i64 0]
  go_enter Try.func70, Try.ntmps70
  go_upto_region 1 with (fail)
  generalize (w.alloc (.cells #[.int .i64 a, .int .i64 b] 39)).alloc (.cells #[.int .i64 0, .int .i64 0] 39) = W0 at *
  obtain ⟨c0z0, c1z0⟩ := cells2 B_z0
  obtain ⟨s0, s1⟩ := cells2 (stor2 B_z1 (.int .i64 (-a)) (.int .i64 (-b)))
  have HF := stb2 HB (y := w.heap.size + 1) (by omega) 0 (.int .i64 (-a)) 1 (.int .i64 (-b))
  obtain ⟨c0z1, c1z1⟩ := cells2 B_z1
  obtain ⟨f0z1, f1z1⟩ := froz2 B_z1
  go_wp2_with fail
  exact bodyPost_ret (v := .agg #[.int .i64 (-a), .int .i64 (-b)]) (by simp [results, Try.results70, go_sem, s0, s1]) rfl ⟨rfl, nextw HF.out (by exact sm)⟩

set_option maxRecDepth 100000 in
set_option maxHeartbeats 4000000 in
theorem upward_w2 (a b : Int)  (ha : Sm a) (hb : Sm b) (dd0 : 0 ≤ b) (dd1 : ¬ (b = 0)) (w : World) :
    Calls Try.prog 70 #[.agg #[.int .i64 a, .int .i64 b]] w fun e w' => e = .returned (.agg #[.int .i64 a, .int .i64 b]) ∧ Below w.heap.size w w' := by
  have h11 := ha.1
  have h12 := ha.2
  have h21 := hb.1
  have h22 := hb.2
  obtain ⟨HB, B_z0, B_z1⟩ := box2 w 39 #[.int .i64 a, .int .i64 b] 39 #[.int .i64 0, .int .i64 0]
  go_enter Try.func70, Try.ntmps70
  go_upto_region 1 with (fail)
  generalize (w.alloc (.cells #[.int .i64 a, .int .i64 b] 39)).alloc (.cells #[.int .i64 0, .int .i64 0] 39) = W0 at *
  obtain ⟨c0z0, c1z0⟩ := cells2 B_z0
  obtain ⟨s0, s1⟩ := cells2 (stor2 B_z1 (.int .i64 a) (.int .i64 b))
  have HF := stb2 HB (y := w.heap.size + 1) (by omega) 0 (.int .i64 a) 1 (.int .i64 b)
  obtain ⟨c0z1, c1z1⟩ := cells2 B_z1
  obtain ⟨f0z1, f1z1⟩ := froz2 B_z1
  go_wp2_with fail
  exact bodyPost_ret (v := .agg #[.int .i64 a, .int .i64 b]) (by simp [results, Try.results70, go_sem, s0, s1]) rfl ⟨rfl, nextw HF.out (by exact sm)⟩


theorem upward_is (a b : Int) (ha : Sm a) (hb : Sm b) (w : World) : Calls Try.prog 70 #[.agg #[.int .i64 a, .int .i64 b]] w fun e w' => e = .returned (.agg #[.int .i64 (upX a b), .int .i64 (upY a b)]) ∧ Below w.heap.size w w' := by
  by_cases h0 : b < 0
  · have e1 : Dn a b := .inl h0
    unfold upX upY; rw [if_pos e1, if_pos e1]; exact upward_w0 a b ha hb h0 w
  · by_cases h1 : b = 0
    · subst h1
      have h := upzero_any a ha w
      have e : upzeroV a = .agg #[.int .i64 (upX a 0), .int .i64 (upY a 0)] := by
        unfold upzeroV upX upY
        by_cases h2 : a < 0
        · have e1 : Dn a 0 := .inr ⟨rfl, h2⟩
          rw [if_pos h2, if_pos e1, if_pos e1]; rfl
        · have e1 : ¬ Dn a 0 := by unfold Dn; omega
          rw [if_neg h2, if_neg e1, if_neg e1]
      rw [e] at h
      exact h
    · have e1 : ¬ Dn a b := by unfold Dn; omega
      unfold upX upY; rw [if_neg e1, if_neg e1]; exact upward_w2 a b ha hb (by omega) h1 w

set_option maxRecDepth 100000 in
set_option maxHeartbeats 4000000 in
theorem length_w0 (a b : Int)  (ha : Sm a) (hb : Sm b)  (w : World) :
    Calls Try.prog 81 #[.agg #[.int .i64 a, .int .i64 b]] w fun e w' => e = .returned (.int .i64 ((mg a) + (mg b))) ∧ Below w.heap.size w w' := by
  have h11 := ha.1
  have h12 := ha.2
  have h21 := hb.1
  have h22 := hb.2
  have hg1 : 0 ≤ mg a ∧ mg a ≤ 1152921504606846976 := by unfold mg; split <;> omega
  have hg2 : 0 ≤ mg b ∧ mg b ≤ 1152921504606846976 := by unfold mg; split <;> omega
  have H0 := Lib.hid (fun w => magnitude_is a (by first | assumption | (exact ⟨by omega, by omega⟩)) w)
  have H1 := Lib.hid (fun w => magnitude_is b (by first | assumption | (exact ⟨by omega, by omega⟩)) w)
  obtain ⟨HB, B_z0⟩ := box1 w 39 #[.int .i64 a, .int .i64 b]
  go_enter Try.func81, Try.ntmps81
  go_upto_region 1 with (fail)
  generalize w.alloc (.cells #[.int .i64 a, .int .i64 b] 39) = W0 at *
  have wq1x0 : IntKind.i64.wrap ((mg a) + (mg b)) = (mg a) + (mg b) := by rw [IntKind.wrap_i64]; omega
  obtain ⟨c0z0, c1z0⟩ := cells2 B_z0
  have tk1x0 : True := trivial
  go_region_held3 (fun w' => w'.cell? ⟨w.heap.size, 0, none⟩ = some (.int .i64 a) ∧ w'.cell? ⟨w.heap.size, 1, none⟩ = some (.int .i64 b)) (((try dsimp only); (repeat' apply And.intro) <;> (first | (with_reducible assumption) | ((repeat (first | (with_reducible refine Eq.trans (cell_drew1 _ _) ?_) | (with_reducible refine Eq.trans (cell_far (by omega) _ _ _) ?_) | (with_reducible refine Eq.trans (World.cell?_alloc_lt _ _ _ (by first | (dsimp only; omega) | (simp only [World.size_alloc, World.size_setCell]; omega))) ?_))); with_reducible assumption) | assumption | go_keep)))
    (first
      | (clear tk1x0; go_at_call 52; refine (H0.out _).mono ?_; rintro e w1 ⟨rfl, bb⟩; replace bb := nextw (w0 := W0) (by exact sm) bb; replace B_z0 := mv B_z0 bb; replace HB := nx HB bb; clear bb c0z0 c1z0; have c0z0 : w1.cell? ⟨w.heap.size, 0, none⟩ = some (.int .i64 a) := B_z0.out.cell 0 rfl; have c1z0 : w1.cell? ⟨w.heap.size, 1, none⟩ = some (.int .i64 b) := B_z0.out.cell 1 rfl; have tk1x1 : True := trivial)
      | (clear tk1x1; go_at_call 52; refine (H1.out _).mono ?_; rintro e w2 ⟨rfl, bb⟩; replace bb := nextw (w0 := w1) (by exact sm) bb; replace B_z0 := mv B_z0 bb; replace HB := nx HB bb; clear bb c0z0 c1z0; have c0z0 : w2.cell? ⟨w.heap.size, 0, none⟩ = some (.int .i64 a) := B_z0.out.cell 0 rfl; have c1z0 : w2.cell? ⟨w.heap.size, 1, none⟩ = some (.int .i64 b) := B_z0.out.cell 1 rfl; have tk1x2 : True := trivial))
  clear c0z0 c1z0
  go_wp2
  go_ret
  exact ⟨(by first | rfl | exact rbt (by omega) | exact rbf (by omega)), nextw HB.out (by exact sm)⟩

def lengthV (a b : Int) : Value := .int .i64 ((mg a) + (mg b))
theorem length_any (a b : Int) (ha : Sm a) (hb : Sm b) (w : World) :
    Calls Try.prog 81 #[.agg #[.int .i64 a, .int .i64 b]] w fun e w' => e = .returned (lengthV a b) ∧ Below w.heap.size w w' := by
  unfold lengthV
  exact length_w0 a b   ha hb  w

theorem length_is (a b : Int) (ha : Sm a) (hb : Sm b) (w : World) : Calls Try.prog 81 #[.agg #[.int .i64 a, .int .i64 b]] w fun e w' => e = .returned (.int .i64 (mg a + mg b)) ∧ Below w.heap.size w w' := by
  rw [← show lengthV a b = .int .i64 (mg a + mg b) from (by unfold lengthV; rfl)]; exact length_any a b ha hb w

set_option maxRecDepth 100000 in
set_option maxHeartbeats 4000000 in
theorem validRect_w0 (x0 y0 x1 y1 : Int)   (dd0 : Wi x0 2097152 ∧ Wi y0 2097152) (dd1 : Wi x1 2097152 ∧ Wi y1 2097152) (dd2 : x0 ≤ x1) (w : World) :
    Calls Try.prog 57 #[.agg #[.int .i64 x0, .int .i64 y0, .int .i64 x1, .int .i64 y1]] w fun e w' => e = .returned (.bool (decide (y0 ≤ y1))) ∧ Below w.heap.size w w' := by
  have H0 := Lib.hid (fun w => pointWithin_is x0 y0 2097152 (by omega) w)
  have H1 := Lib.hid (fun w => pointWithin_is x1 y1 2097152 (by omega) w)
  obtain ⟨HB, B_z0⟩ := box1 w 31 #[.int .i64 x0, .int .i64 y0, .int .i64 x1, .int .i64 y1]
  go_enter Try.func57, Try.ntmps57
  go_upto_region 1 with (fail)
  generalize w.alloc (.cells #[.int .i64 x0, .int .i64 y0, .int .i64 x1, .int .i64 y1] 31) = W0 at *
  go_cut [3, 4] (fun sv0 sv1 wx => ∃ Pz1 Pz2 : Nat, sv0 = (.pointer (some ⟨Pz1, 0, none⟩)) ∧ sv1 = (.pointer (some ⟨Pz2, 0, none⟩)) ∧ Hid (Pz1 ≠ Pz2) ∧ Hid (w.heap.size ≠ Pz1) ∧ Hid (w.heap.size ≠ Pz2) ∧ Hid (w.heap.size ≤ Pz1) ∧ Hid (w.heap.size ≤ Pz2) ∧ Hid (Bx wx (Pz1) 39 #[.int .i64 x0, .int .i64 y0]) ∧ Hid (Bx wx (Pz2) 39 #[.int .i64 x1, .int .i64 y1]) ∧ Hid (Bx wx (w.heap.size) 31 #[.int .i64 x0, .int .i64 y0, .int .i64 x1, .int .i64 y1]) ∧ Hid (Below w.heap.size w wx))
  case first =>
    obtain ⟨c0z0, c1z0, c2z0, c3z0⟩ := cells4 B_z0
    have lt_z0 := B_z0.out.lt
    go_region_held3 (fun w' => w'.cell? ⟨w.heap.size, 0, none⟩ = some (.int .i64 x0) ∧ w'.cell? ⟨w.heap.size, 1, none⟩ = some (.int .i64 y0) ∧ w'.cell? ⟨w.heap.size, 2, none⟩ = some (.int .i64 x1) ∧ w'.cell? ⟨w.heap.size, 3, none⟩ = some (.int .i64 y1)) (((try dsimp only); (repeat' apply And.intro) <;> (first | (with_reducible assumption) | ((repeat (first | (with_reducible refine Eq.trans (cell_drew1 _ _) ?_) | (with_reducible refine Eq.trans (cell_far (by omega) _ _ _) ?_) | (with_reducible refine Eq.trans (World.cell?_alloc_lt _ _ _ (by first | (dsimp only; omega) | (simp only [World.size_alloc, World.size_setCell]; omega))) ?_))); with_reducible assumption) | assumption | go_keep)))
        (first | fail)
    all_goals clear c0z0 c1z0 c2z0 c3z0 lt_z0
    all_goals go_wp2_with fail
    all_goals go_meet
    all_goals first
        | (refine ⟨W0.heap.size, W0.heap.size + 1, rfl, rfl, ?_⟩; have lx_z0 := B_z0.out.lt; obtain ⟨bb, b0, b1⟩ := box2 W0 39 #[.int .i64 x0, .int .i64 y0] 39 #[.int .i64 x1, .int .i64 y1]; replace bb := bb.out; have hs := HB.out.size; exact ⟨(by unfold Hid; omega), (by unfold Hid; omega), (by unfold Hid; omega), (by unfold Hid; omega), (by unfold Hid; omega), mv b0 sm, mv b1 sm, mv (mv B_z0 bb) sm, nx (nx HB bb) sm⟩)
        | (refine ⟨W0.heap.size + 1, W0.heap.size, rfl, rfl, ?_⟩; have lx_z0 := B_z0.out.lt; obtain ⟨bb, b0, b1⟩ := box2 W0 39 #[.int .i64 x1, .int .i64 y1] 39 #[.int .i64 x0, .int .i64 y0]; replace bb := bb.out; have hs := HB.out.size; exact ⟨(by unfold Hid; omega), (by unfold Hid; omega), (by unfold Hid; omega), (by unfold Hid; omega), (by unfold Hid; omega), mv b1 sm, mv b0 sm, mv (mv B_z0 bb) sm, nx (nx HB bb) sm⟩)
  case rest =>
    clear B_z0
    clear HB
    rename World => wc1
    obtain ⟨Pz1, Pz2, rfl, rfl, ne01Pz1, noz0Pz1, noz0Pz2, lePz1, lePz2, B_z1, B_z2, B_z0, HB⟩ := hcut
    have lePz1' := lePz1.out
    have lePz2' := lePz2.out
    obtain ⟨c0z1, c1z1⟩ := cells2 B_z1
    go_wp2_with fail
    refine (H0.out _).mono ?_
    clear c0z1 c1z1
    rintro e w2 ⟨rfl, bb⟩
    replace bb := nextw (w0 := wc1) (by exact sm) bb
    replace B_z0 := mv B_z0 bb
    replace B_z1 := mv B_z1 bb
    replace B_z2 := mv B_z2 bb
    replace HB := nx HB bb
    clear bb
    obtain ⟨c0z2, c1z2⟩ := cells2 B_z2
    go_wp2_with fail
    refine (H1.out _).mono ?_
    clear c0z2 c1z2
    rintro e w3 ⟨rfl, bb⟩
    replace bb := nextw (w0 := w2) (by exact sm) bb
    replace B_z0 := mv B_z0 bb
    replace B_z1 := mv B_z1 bb
    replace B_z2 := mv B_z2 bb
    replace HB := nx HB bb
    clear bb
    obtain ⟨c0z0, c1z0, c2z0, c3z0⟩ := cells4 B_z0
    go_wp2
    go_ret
    exact ⟨(by first | rfl | exact rbt (by omega) | exact rbf (by omega)), nextw HB.out (by exact sm)⟩

set_option maxRecDepth 100000 in
set_option maxHeartbeats 4000000 in
theorem validRect_w1 (x0 y0 x1 y1 : Int)   (dd0 : ¬ (Wi x0 2097152 ∧ Wi y0 2097152)) (w : World) :
    Calls Try.prog 57 #[.agg #[.int .i64 x0, .int .i64 y0, .int .i64 x1, .int .i64 y1]] w fun e w' => e = .returned (.bool false) ∧ Below w.heap.size w w' := by
  have H0 := Lib.hid (fun w => pointWithin_is x0 y0 2097152 (by omega) w)
  obtain ⟨HB, B_z0⟩ := box1 w 31 #[.int .i64 x0, .int .i64 y0, .int .i64 x1, .int .i64 y1]
  go_enter Try.func57, Try.ntmps57
  go_upto_region 1 with (fail)
  generalize w.alloc (.cells #[.int .i64 x0, .int .i64 y0, .int .i64 x1, .int .i64 y1] 31) = W0 at *
  go_cut [3, 4] (fun sv0 sv1 wx => ∃ Pz1 Pz2 : Nat, sv0 = (.pointer (some ⟨Pz1, 0, none⟩)) ∧ sv1 = (.pointer (some ⟨Pz2, 0, none⟩)) ∧ Hid (Pz1 ≠ Pz2) ∧ Hid (w.heap.size ≠ Pz1) ∧ Hid (w.heap.size ≠ Pz2) ∧ Hid (w.heap.size ≤ Pz1) ∧ Hid (w.heap.size ≤ Pz2) ∧ Hid (Bx wx (Pz1) 39 #[.int .i64 x0, .int .i64 y0]) ∧ Hid (Bx wx (Pz2) 39 #[.int .i64 x1, .int .i64 y1]) ∧ Hid (Bx wx (w.heap.size) 31 #[.int .i64 x0, .int .i64 y0, .int .i64 x1, .int .i64 y1]) ∧ Hid (Below w.heap.size w wx))
  case first =>
    obtain ⟨c0z0, c1z0, c2z0, c3z0⟩ := cells4 B_z0
    have lt_z0 := B_z0.out.lt
    go_region_held3 (fun w' => w'.cell? ⟨w.heap.size, 0, none⟩ = some (.int .i64 x0) ∧ w'.cell? ⟨w.heap.size, 1, none⟩ = some (.int .i64 y0) ∧ w'.cell? ⟨w.heap.size, 2, none⟩ = some (.int .i64 x1) ∧ w'.cell? ⟨w.heap.size, 3, none⟩ = some (.int .i64 y1)) (((try dsimp only); (repeat' apply And.intro) <;> (first | (with_reducible assumption) | ((repeat (first | (with_reducible refine Eq.trans (cell_drew1 _ _) ?_) | (with_reducible refine Eq.trans (cell_far (by omega) _ _ _) ?_) | (with_reducible refine Eq.trans (World.cell?_alloc_lt _ _ _ (by first | (dsimp only; omega) | (simp only [World.size_alloc, World.size_setCell]; omega))) ?_))); with_reducible assumption) | assumption | go_keep)))
        (first | fail)
    all_goals clear c0z0 c1z0 c2z0 c3z0 lt_z0
    all_goals go_wp2_with fail
    all_goals go_meet
    all_goals first
        | (refine ⟨W0.heap.size, W0.heap.size + 1, rfl, rfl, ?_⟩; have lx_z0 := B_z0.out.lt; obtain ⟨bb, b0, b1⟩ := box2 W0 39 #[.int .i64 x0, .int .i64 y0] 39 #[.int .i64 x1, .int .i64 y1]; replace bb := bb.out; have hs := HB.out.size; exact ⟨(by unfold Hid; omega), (by unfold Hid; omega), (by unfold Hid; omega), (by unfold Hid; omega), (by unfold Hid; omega), mv b0 sm, mv b1 sm, mv (mv B_z0 bb) sm, nx (nx HB bb) sm⟩)
        | (refine ⟨W0.heap.size + 1, W0.heap.size, rfl, rfl, ?_⟩; have lx_z0 := B_z0.out.lt; obtain ⟨bb, b0, b1⟩ := box2 W0 39 #[.int .i64 x1, .int .i64 y1] 39 #[.int .i64 x0, .int .i64 y0]; replace bb := bb.out; have hs := HB.out.size; exact ⟨(by unfold Hid; omega), (by unfold Hid; omega), (by unfold Hid; omega), (by unfold Hid; omega), (by unfold Hid; omega), mv b1 sm, mv b0 sm, mv (mv B_z0 bb) sm, nx (nx HB bb) sm⟩)
  case rest =>
    clear B_z0
    clear HB
    rename World => wc1
    obtain ⟨Pz1, Pz2, rfl, rfl, ne01Pz1, noz0Pz1, noz0Pz2, lePz1, lePz2, B_z1, B_z2, B_z0, HB⟩ := hcut
    have lePz1' := lePz1.out
    have lePz2' := lePz2.out
    obtain ⟨c0z1, c1z1⟩ := cells2 B_z1
    go_wp2_with fail
    refine (H0.out _).mono ?_
    clear c0z1 c1z1
    rintro e w2 ⟨rfl, bb⟩
    replace bb := nextw (w0 := wc1) (by exact sm) bb
    replace B_z0 := mv B_z0 bb
    replace B_z1 := mv B_z1 bb
    replace B_z2 := mv B_z2 bb
    replace HB := nx HB bb
    clear bb
    go_wp2
    go_ret
    exact ⟨(by first | rfl | exact rbt (by omega) | exact rbf (by omega)), nextw HB.out (by exact sm)⟩

set_option maxRecDepth 100000 in
set_option maxHeartbeats 4000000 in
theorem validRect_w2 (x0 y0 x1 y1 : Int)   (dd0 : Wi x0 2097152 ∧ Wi y0 2097152) (dd1 : ¬ (Wi x1 2097152 ∧ Wi y1 2097152)) (w : World) :
    Calls Try.prog 57 #[.agg #[.int .i64 x0, .int .i64 y0, .int .i64 x1, .int .i64 y1]] w fun e w' => e = .returned (.bool false) ∧ Below w.heap.size w w' := by
  have H0 := Lib.hid (fun w => pointWithin_is x0 y0 2097152 (by omega) w)
  have H1 := Lib.hid (fun w => pointWithin_is x1 y1 2097152 (by omega) w)
  obtain ⟨HB, B_z0⟩ := box1 w 31 #[.int .i64 x0, .int .i64 y0, .int .i64 x1, .int .i64 y1]
  go_enter Try.func57, Try.ntmps57
  go_upto_region 1 with (fail)
  generalize w.alloc (.cells #[.int .i64 x0, .int .i64 y0, .int .i64 x1, .int .i64 y1] 31) = W0 at *
  go_cut [3, 4] (fun sv0 sv1 wx => ∃ Pz1 Pz2 : Nat, sv0 = (.pointer (some ⟨Pz1, 0, none⟩)) ∧ sv1 = (.pointer (some ⟨Pz2, 0, none⟩)) ∧ Hid (Pz1 ≠ Pz2) ∧ Hid (w.heap.size ≠ Pz1) ∧ Hid (w.heap.size ≠ Pz2) ∧ Hid (w.heap.size ≤ Pz1) ∧ Hid (w.heap.size ≤ Pz2) ∧ Hid (Bx wx (Pz1) 39 #[.int .i64 x0, .int .i64 y0]) ∧ Hid (Bx wx (Pz2) 39 #[.int .i64 x1, .int .i64 y1]) ∧ Hid (Bx wx (w.heap.size) 31 #[.int .i64 x0, .int .i64 y0, .int .i64 x1, .int .i64 y1]) ∧ Hid (Below w.heap.size w wx))
  case first =>
    obtain ⟨c0z0, c1z0, c2z0, c3z0⟩ := cells4 B_z0
    have lt_z0 := B_z0.out.lt
    go_region_held3 (fun w' => w'.cell? ⟨w.heap.size, 0, none⟩ = some (.int .i64 x0) ∧ w'.cell? ⟨w.heap.size, 1, none⟩ = some (.int .i64 y0) ∧ w'.cell? ⟨w.heap.size, 2, none⟩ = some (.int .i64 x1) ∧ w'.cell? ⟨w.heap.size, 3, none⟩ = some (.int .i64 y1)) (((try dsimp only); (repeat' apply And.intro) <;> (first | (with_reducible assumption) | ((repeat (first | (with_reducible refine Eq.trans (cell_drew1 _ _) ?_) | (with_reducible refine Eq.trans (cell_far (by omega) _ _ _) ?_) | (with_reducible refine Eq.trans (World.cell?_alloc_lt _ _ _ (by first | (dsimp only; omega) | (simp only [World.size_alloc, World.size_setCell]; omega))) ?_))); with_reducible assumption) | assumption | go_keep)))
        (first | fail)
    all_goals clear c0z0 c1z0 c2z0 c3z0 lt_z0
    all_goals go_wp2_with fail
    all_goals go_meet
    all_goals first
        | (refine ⟨W0.heap.size, W0.heap.size + 1, rfl, rfl, ?_⟩; have lx_z0 := B_z0.out.lt; obtain ⟨bb, b0, b1⟩ := box2 W0 39 #[.int .i64 x0, .int .i64 y0] 39 #[.int .i64 x1, .int .i64 y1]; replace bb := bb.out; have hs := HB.out.size; exact ⟨(by unfold Hid; omega), (by unfold Hid; omega), (by unfold Hid; omega), (by unfold Hid; omega), (by unfold Hid; omega), mv b0 sm, mv b1 sm, mv (mv B_z0 bb) sm, nx (nx HB bb) sm⟩)
        | (refine ⟨W0.heap.size + 1, W0.heap.size, rfl, rfl, ?_⟩; have lx_z0 := B_z0.out.lt; obtain ⟨bb, b0, b1⟩ := box2 W0 39 #[.int .i64 x1, .int .i64 y1] 39 #[.int .i64 x0, .int .i64 y0]; replace bb := bb.out; have hs := HB.out.size; exact ⟨(by unfold Hid; omega), (by unfold Hid; omega), (by unfold Hid; omega), (by unfold Hid; omega), (by unfold Hid; omega), mv b1 sm, mv b0 sm, mv (mv B_z0 bb) sm, nx (nx HB bb) sm⟩)
  case rest =>
    clear B_z0
    clear HB
    rename World => wc1
    obtain ⟨Pz1, Pz2, rfl, rfl, ne01Pz1, noz0Pz1, noz0Pz2, lePz1, lePz2, B_z1, B_z2, B_z0, HB⟩ := hcut
    have lePz1' := lePz1.out
    have lePz2' := lePz2.out
    obtain ⟨c0z1, c1z1⟩ := cells2 B_z1
    go_wp2_with fail
    refine (H0.out _).mono ?_
    clear c0z1 c1z1
    rintro e w2 ⟨rfl, bb⟩
    replace bb := nextw (w0 := wc1) (by exact sm) bb
    replace B_z0 := mv B_z0 bb
    replace B_z1 := mv B_z1 bb
    replace B_z2 := mv B_z2 bb
    replace HB := nx HB bb
    clear bb
    obtain ⟨c0z2, c1z2⟩ := cells2 B_z2
    go_wp2_with fail
    refine (H1.out _).mono ?_
    clear c0z2 c1z2
    rintro e w3 ⟨rfl, bb⟩
    replace bb := nextw (w0 := w2) (by exact sm) bb
    replace B_z0 := mv B_z0 bb
    replace B_z1 := mv B_z1 bb
    replace B_z2 := mv B_z2 bb
    replace HB := nx HB bb
    clear bb
    go_wp2
    go_ret
    exact ⟨(by first | rfl | exact rbt (by omega) | exact rbf (by omega)), nextw HB.out (by exact sm)⟩

set_option maxRecDepth 100000 in
set_option maxHeartbeats 4000000 in
theorem validRect_w3 (x0 y0 x1 y1 : Int)   (dd0 : Wi x0 2097152 ∧ Wi y0 2097152) (dd1 : Wi x1 2097152 ∧ Wi y1 2097152) (dd2 : x1 < x0) (w : World) :
    Calls Try.prog 57 #[.agg #[.int .i64 x0, .int .i64 y0, .int .i64 x1, .int .i64 y1]] w fun e w' => e = .returned (.bool false) ∧ Below w.heap.size w w' := by
  have H0 := Lib.hid (fun w => pointWithin_is x0 y0 2097152 (by omega) w)
  have H1 := Lib.hid (fun w => pointWithin_is x1 y1 2097152 (by omega) w)
  obtain ⟨HB, B_z0⟩ := box1 w 31 #[.int .i64 x0, .int .i64 y0, .int .i64 x1, .int .i64 y1]
  go_enter Try.func57, Try.ntmps57
  go_upto_region 1 with (fail)
  generalize w.alloc (.cells #[.int .i64 x0, .int .i64 y0, .int .i64 x1, .int .i64 y1] 31) = W0 at *
  go_cut [3, 4] (fun sv0 sv1 wx => ∃ Pz1 Pz2 : Nat, sv0 = (.pointer (some ⟨Pz1, 0, none⟩)) ∧ sv1 = (.pointer (some ⟨Pz2, 0, none⟩)) ∧ Hid (Pz1 ≠ Pz2) ∧ Hid (w.heap.size ≠ Pz1) ∧ Hid (w.heap.size ≠ Pz2) ∧ Hid (w.heap.size ≤ Pz1) ∧ Hid (w.heap.size ≤ Pz2) ∧ Hid (Bx wx (Pz1) 39 #[.int .i64 x0, .int .i64 y0]) ∧ Hid (Bx wx (Pz2) 39 #[.int .i64 x1, .int .i64 y1]) ∧ Hid (Bx wx (w.heap.size) 31 #[.int .i64 x0, .int .i64 y0, .int .i64 x1, .int .i64 y1]) ∧ Hid (Below w.heap.size w wx))
  case first =>
    obtain ⟨c0z0, c1z0, c2z0, c3z0⟩ := cells4 B_z0
    have lt_z0 := B_z0.out.lt
    go_region_held3 (fun w' => w'.cell? ⟨w.heap.size, 0, none⟩ = some (.int .i64 x0) ∧ w'.cell? ⟨w.heap.size, 1, none⟩ = some (.int .i64 y0) ∧ w'.cell? ⟨w.heap.size, 2, none⟩ = some (.int .i64 x1) ∧ w'.cell? ⟨w.heap.size, 3, none⟩ = some (.int .i64 y1)) (((try dsimp only); (repeat' apply And.intro) <;> (first | (with_reducible assumption) | ((repeat (first | (with_reducible refine Eq.trans (cell_drew1 _ _) ?_) | (with_reducible refine Eq.trans (cell_far (by omega) _ _ _) ?_) | (with_reducible refine Eq.trans (World.cell?_alloc_lt _ _ _ (by first | (dsimp only; omega) | (simp only [World.size_alloc, World.size_setCell]; omega))) ?_))); with_reducible assumption) | assumption | go_keep)))
        (first | fail)
    all_goals clear c0z0 c1z0 c2z0 c3z0 lt_z0
    all_goals go_wp2_with fail
    all_goals go_meet
    all_goals first
        | (refine ⟨W0.heap.size, W0.heap.size + 1, rfl, rfl, ?_⟩; have lx_z0 := B_z0.out.lt; obtain ⟨bb, b0, b1⟩ := box2 W0 39 #[.int .i64 x0, .int .i64 y0] 39 #[.int .i64 x1, .int .i64 y1]; replace bb := bb.out; have hs := HB.out.size; exact ⟨(by unfold Hid; omega), (by unfold Hid; omega), (by unfold Hid; omega), (by unfold Hid; omega), (by unfold Hid; omega), mv b0 sm, mv b1 sm, mv (mv B_z0 bb) sm, nx (nx HB bb) sm⟩)
        | (refine ⟨W0.heap.size + 1, W0.heap.size, rfl, rfl, ?_⟩; have lx_z0 := B_z0.out.lt; obtain ⟨bb, b0, b1⟩ := box2 W0 39 #[.int .i64 x1, .int .i64 y1] 39 #[.int .i64 x0, .int .i64 y0]; replace bb := bb.out; have hs := HB.out.size; exact ⟨(by unfold Hid; omega), (by unfold Hid; omega), (by unfold Hid; omega), (by unfold Hid; omega), (by unfold Hid; omega), mv b1 sm, mv b0 sm, mv (mv B_z0 bb) sm, nx (nx HB bb) sm⟩)
  case rest =>
    clear B_z0
    clear HB
    rename World => wc1
    obtain ⟨Pz1, Pz2, rfl, rfl, ne01Pz1, noz0Pz1, noz0Pz2, lePz1, lePz2, B_z1, B_z2, B_z0, HB⟩ := hcut
    have lePz1' := lePz1.out
    have lePz2' := lePz2.out
    obtain ⟨c0z1, c1z1⟩ := cells2 B_z1
    go_wp2_with fail
    refine (H0.out _).mono ?_
    clear c0z1 c1z1
    rintro e w2 ⟨rfl, bb⟩
    replace bb := nextw (w0 := wc1) (by exact sm) bb
    replace B_z0 := mv B_z0 bb
    replace B_z1 := mv B_z1 bb
    replace B_z2 := mv B_z2 bb
    replace HB := nx HB bb
    clear bb
    obtain ⟨c0z2, c1z2⟩ := cells2 B_z2
    go_wp2_with fail
    refine (H1.out _).mono ?_
    clear c0z2 c1z2
    rintro e w3 ⟨rfl, bb⟩
    replace bb := nextw (w0 := w2) (by exact sm) bb
    replace B_z0 := mv B_z0 bb
    replace B_z1 := mv B_z1 bb
    replace B_z2 := mv B_z2 bb
    replace HB := nx HB bb
    clear bb
    obtain ⟨c0z0, c1z0, c2z0, c3z0⟩ := cells4 B_z0
    go_wp2
    go_ret
    exact ⟨(by first | rfl | exact rbt (by omega) | exact rbf (by omega)), nextw HB.out (by exact sm)⟩

def validRectV (x0 y0 x1 y1 : Int) : Value := if Wi x0 2097152 ∧ Wi y0 2097152 then if Wi x1 2097152 ∧ Wi y1 2097152 then if x0 ≤ x1 then .bool (decide (y0 ≤ y1)) else .bool false else .bool false else .bool false
theorem validRect_any (x0 y0 x1 y1 : Int)  (w : World) :
    Calls Try.prog 57 #[.agg #[.int .i64 x0, .int .i64 y0, .int .i64 x1, .int .i64 y1]] w fun e w' => e = .returned (validRectV x0 y0 x1 y1) ∧ Below w.heap.size w w' := by
  unfold validRectV
  by_cases dd0 : Wi x0 2097152 ∧ Wi y0 2097152
  · rw [if_pos dd0]
    by_cases dd1 : Wi x1 2097152 ∧ Wi y1 2097152
    · rw [if_pos dd1]
      by_cases dd2 : x0 ≤ x1
      · rw [if_pos dd2]
        exact validRect_w0 x0 y0 x1 y1    dd0 dd1 dd2 w
      · rw [if_neg dd2]
        exact validRect_w3 x0 y0 x1 y1    dd0 dd1 (by omega) w
    · rw [if_neg dd1]
      exact validRect_w2 x0 y0 x1 y1    dd0 dd1 w
  · rw [if_neg dd0]
    exact validRect_w1 x0 y0 x1 y1    dd0 w

theorem validRect_is (x0 y0 x1 y1 : Int)  (w : World) : Calls Try.prog 57 #[.agg #[.int .i64 x0, .int .i64 y0, .int .i64 x1, .int .i64 y1]] w fun e w' => e = .returned (.bool (decide (OkR x0 y0 x1 y1))) ∧ Below w.heap.size w w' := by
  rw [← show validRectV x0 y0 x1 y1 = .bool (decide (OkR x0 y0 x1 y1)) from (by unfold validRectV; (repeat' split) <;> (refine congrArg Value.bool ?_; rw [Bool.eq_iff_iff, decide_eq_true_iff]; (try simp only [decide_eq_true_iff, Bool.false_eq_true, false_iff]); (try simp only [OkR, Wi] at *); omega))]; exact validRect_any x0 y0 x1 y1  w

set_option maxRecDepth 100000 in
set_option maxHeartbeats 4000000 in
theorem ordered_w0 (x0 y0 x1 y1 : Int)   (dd0 : x0 ≤ x1) (dd1 : y0 ≤ y1) (dd2 : Wi x0 2097152) (dd3 : Wi y0 2097152) (dd4 : Wi x1 2097152) (w : World) :
    Calls Try.prog 58 #[.agg #[.int .i64 x0, .int .i64 y0, .int .i64 x1, .int .i64 y1]] w fun e w' => e = .returned (.bool (decide (Wi y1 2097152))) ∧ Below w.heap.size w w' := by
  have H0 := Lib.hid (fun w => Rwithin_is x0 2097152 (by omega) w)
  have H1 := Lib.hid (fun w => Rwithin_is y0 2097152 (by omega) w)
  have H2 := Lib.hid (fun w => Rwithin_is x1 2097152 (by omega) w)
  have H3 := Lib.hid (fun w => Rwithin_is y1 2097152 (by omega) w)
  obtain ⟨HB, B_z0⟩ := box1 w 31 #[.int .i64 x0, .int .i64 y0, .int .i64 x1, .int .i64 y1]
  go_enter Try.func58, Try.ntmps58
  go_upto_region 1 with (fail)
  generalize w.alloc (.cells #[.int .i64 x0, .int .i64 y0, .int .i64 x1, .int .i64 y1] 31) = W0 at *
  obtain ⟨c0z0, c1z0, c2z0, c3z0⟩ := cells4 B_z0
  go_wp2_with fail
  refine (H0.out _).mono ?_
  clear c0z0 c1z0 c2z0 c3z0
  rintro e w1 ⟨rfl, bb⟩
  replace bb := nextw (w0 := W0) (by exact sm) bb
  replace B_z0 := mv B_z0 bb
  replace HB := nx HB bb
  clear bb
  obtain ⟨c0z0, c1z0, c2z0, c3z0⟩ := cells4 B_z0
  go_wp2_with fail
  refine (H1.out _).mono ?_
  clear c0z0 c1z0 c2z0 c3z0
  rintro e w2 ⟨rfl, bb⟩
  replace bb := nextw (w0 := w1) (by exact sm) bb
  replace B_z0 := mv B_z0 bb
  replace HB := nx HB bb
  clear bb
  obtain ⟨c0z0, c1z0, c2z0, c3z0⟩ := cells4 B_z0
  go_wp2_with fail
  refine (H2.out _).mono ?_
  clear c0z0 c1z0 c2z0 c3z0
  rintro e w3 ⟨rfl, bb⟩
  replace bb := nextw (w0 := w2) (by exact sm) bb
  replace B_z0 := mv B_z0 bb
  replace HB := nx HB bb
  clear bb
  obtain ⟨c0z0, c1z0, c2z0, c3z0⟩ := cells4 B_z0
  go_wp2_with fail
  refine (H3.out _).mono ?_
  clear c0z0 c1z0 c2z0 c3z0
  rintro e w4 ⟨rfl, bb⟩
  replace bb := nextw (w0 := w3) (by exact sm) bb
  replace B_z0 := mv B_z0 bb
  replace HB := nx HB bb
  clear bb
  go_wp2
  go_ret
  exact ⟨(by first | rfl | exact rbt (by omega) | exact rbf (by omega)), nextw HB.out (by exact sm)⟩

set_option maxRecDepth 100000 in
set_option maxHeartbeats 4000000 in
theorem ordered_w1 (x0 y0 x1 y1 : Int)   (dd0 : x1 < x0) (w : World) :
    Calls Try.prog 58 #[.agg #[.int .i64 x0, .int .i64 y0, .int .i64 x1, .int .i64 y1]] w fun e w' => e = .returned (.bool false) ∧ Below w.heap.size w w' := by
  obtain ⟨HB, B_z0⟩ := box1 w 31 #[.int .i64 x0, .int .i64 y0, .int .i64 x1, .int .i64 y1]
  go_enter Try.func58, Try.ntmps58
  go_upto_region 1 with (fail)
  generalize w.alloc (.cells #[.int .i64 x0, .int .i64 y0, .int .i64 x1, .int .i64 y1] 31) = W0 at *
  obtain ⟨c0z0, c1z0, c2z0, c3z0⟩ := cells4 B_z0
  go_wp2
  go_ret
  exact ⟨(by first | rfl | exact rbt (by omega) | exact rbf (by omega)), nextw HB.out (by exact sm)⟩

set_option maxRecDepth 100000 in
set_option maxHeartbeats 4000000 in
theorem ordered_w2 (x0 y0 x1 y1 : Int)   (dd0 : x0 ≤ x1) (dd1 : y1 < y0) (w : World) :
    Calls Try.prog 58 #[.agg #[.int .i64 x0, .int .i64 y0, .int .i64 x1, .int .i64 y1]] w fun e w' => e = .returned (.bool false) ∧ Below w.heap.size w w' := by
  obtain ⟨HB, B_z0⟩ := box1 w 31 #[.int .i64 x0, .int .i64 y0, .int .i64 x1, .int .i64 y1]
  go_enter Try.func58, Try.ntmps58
  go_upto_region 1 with (fail)
  generalize w.alloc (.cells #[.int .i64 x0, .int .i64 y0, .int .i64 x1, .int .i64 y1] 31) = W0 at *
  obtain ⟨c0z0, c1z0, c2z0, c3z0⟩ := cells4 B_z0
  go_wp2
  go_ret
  exact ⟨(by first | rfl | exact rbt (by omega) | exact rbf (by omega)), nextw HB.out (by exact sm)⟩

set_option maxRecDepth 100000 in
set_option maxHeartbeats 4000000 in
theorem ordered_w3 (x0 y0 x1 y1 : Int)   (dd0 : x0 ≤ x1) (dd1 : y0 ≤ y1) (dd2 : ¬ (Wi x0 2097152)) (w : World) :
    Calls Try.prog 58 #[.agg #[.int .i64 x0, .int .i64 y0, .int .i64 x1, .int .i64 y1]] w fun e w' => e = .returned (.bool false) ∧ Below w.heap.size w w' := by
  have H0 := Lib.hid (fun w => Rwithin_is x0 2097152 (by omega) w)
  obtain ⟨HB, B_z0⟩ := box1 w 31 #[.int .i64 x0, .int .i64 y0, .int .i64 x1, .int .i64 y1]
  go_enter Try.func58, Try.ntmps58
  go_upto_region 1 with (fail)
  generalize w.alloc (.cells #[.int .i64 x0, .int .i64 y0, .int .i64 x1, .int .i64 y1] 31) = W0 at *
  obtain ⟨c0z0, c1z0, c2z0, c3z0⟩ := cells4 B_z0
  go_wp2_with fail
  refine (H0.out _).mono ?_
  clear c0z0 c1z0 c2z0 c3z0
  rintro e w1 ⟨rfl, bb⟩
  replace bb := nextw (w0 := W0) (by exact sm) bb
  replace B_z0 := mv B_z0 bb
  replace HB := nx HB bb
  clear bb
  go_wp2
  go_ret
  exact ⟨(by first | rfl | exact rbt (by omega) | exact rbf (by omega)), nextw HB.out (by exact sm)⟩

set_option maxRecDepth 100000 in
set_option maxHeartbeats 4000000 in
theorem ordered_w4 (x0 y0 x1 y1 : Int)   (dd0 : x0 ≤ x1) (dd1 : y0 ≤ y1) (dd2 : Wi x0 2097152) (dd3 : ¬ (Wi y0 2097152)) (w : World) :
    Calls Try.prog 58 #[.agg #[.int .i64 x0, .int .i64 y0, .int .i64 x1, .int .i64 y1]] w fun e w' => e = .returned (.bool false) ∧ Below w.heap.size w w' := by
  have H0 := Lib.hid (fun w => Rwithin_is x0 2097152 (by omega) w)
  have H1 := Lib.hid (fun w => Rwithin_is y0 2097152 (by omega) w)
  obtain ⟨HB, B_z0⟩ := box1 w 31 #[.int .i64 x0, .int .i64 y0, .int .i64 x1, .int .i64 y1]
  go_enter Try.func58, Try.ntmps58
  go_upto_region 1 with (fail)
  generalize w.alloc (.cells #[.int .i64 x0, .int .i64 y0, .int .i64 x1, .int .i64 y1] 31) = W0 at *
  obtain ⟨c0z0, c1z0, c2z0, c3z0⟩ := cells4 B_z0
  go_wp2_with fail
  refine (H0.out _).mono ?_
  clear c0z0 c1z0 c2z0 c3z0
  rintro e w1 ⟨rfl, bb⟩
  replace bb := nextw (w0 := W0) (by exact sm) bb
  replace B_z0 := mv B_z0 bb
  replace HB := nx HB bb
  clear bb
  obtain ⟨c0z0, c1z0, c2z0, c3z0⟩ := cells4 B_z0
  go_wp2_with fail
  refine (H1.out _).mono ?_
  clear c0z0 c1z0 c2z0 c3z0
  rintro e w2 ⟨rfl, bb⟩
  replace bb := nextw (w0 := w1) (by exact sm) bb
  replace B_z0 := mv B_z0 bb
  replace HB := nx HB bb
  clear bb
  go_wp2
  go_ret
  exact ⟨(by first | rfl | exact rbt (by omega) | exact rbf (by omega)), nextw HB.out (by exact sm)⟩

set_option maxRecDepth 100000 in
set_option maxHeartbeats 4000000 in
theorem ordered_w5 (x0 y0 x1 y1 : Int)   (dd0 : x0 ≤ x1) (dd1 : y0 ≤ y1) (dd2 : Wi x0 2097152) (dd3 : Wi y0 2097152) (dd4 : ¬ (Wi x1 2097152)) (w : World) :
    Calls Try.prog 58 #[.agg #[.int .i64 x0, .int .i64 y0, .int .i64 x1, .int .i64 y1]] w fun e w' => e = .returned (.bool false) ∧ Below w.heap.size w w' := by
  have H0 := Lib.hid (fun w => Rwithin_is x0 2097152 (by omega) w)
  have H1 := Lib.hid (fun w => Rwithin_is y0 2097152 (by omega) w)
  have H2 := Lib.hid (fun w => Rwithin_is x1 2097152 (by omega) w)
  obtain ⟨HB, B_z0⟩ := box1 w 31 #[.int .i64 x0, .int .i64 y0, .int .i64 x1, .int .i64 y1]
  go_enter Try.func58, Try.ntmps58
  go_upto_region 1 with (fail)
  generalize w.alloc (.cells #[.int .i64 x0, .int .i64 y0, .int .i64 x1, .int .i64 y1] 31) = W0 at *
  obtain ⟨c0z0, c1z0, c2z0, c3z0⟩ := cells4 B_z0
  go_wp2_with fail
  refine (H0.out _).mono ?_
  clear c0z0 c1z0 c2z0 c3z0
  rintro e w1 ⟨rfl, bb⟩
  replace bb := nextw (w0 := W0) (by exact sm) bb
  replace B_z0 := mv B_z0 bb
  replace HB := nx HB bb
  clear bb
  obtain ⟨c0z0, c1z0, c2z0, c3z0⟩ := cells4 B_z0
  go_wp2_with fail
  refine (H1.out _).mono ?_
  clear c0z0 c1z0 c2z0 c3z0
  rintro e w2 ⟨rfl, bb⟩
  replace bb := nextw (w0 := w1) (by exact sm) bb
  replace B_z0 := mv B_z0 bb
  replace HB := nx HB bb
  clear bb
  obtain ⟨c0z0, c1z0, c2z0, c3z0⟩ := cells4 B_z0
  go_wp2_with fail
  refine (H2.out _).mono ?_
  clear c0z0 c1z0 c2z0 c3z0
  rintro e w3 ⟨rfl, bb⟩
  replace bb := nextw (w0 := w2) (by exact sm) bb
  replace B_z0 := mv B_z0 bb
  replace HB := nx HB bb
  clear bb
  go_wp2
  go_ret
  exact ⟨(by first | rfl | exact rbt (by omega) | exact rbf (by omega)), nextw HB.out (by exact sm)⟩

def orderedV (x0 y0 x1 y1 : Int) : Value := if x0 ≤ x1 then if y0 ≤ y1 then if Wi x0 2097152 then if Wi y0 2097152 then if Wi x1 2097152 then .bool (decide (Wi y1 2097152)) else .bool false else .bool false else .bool false else .bool false else .bool false
theorem ordered_any (x0 y0 x1 y1 : Int)  (w : World) :
    Calls Try.prog 58 #[.agg #[.int .i64 x0, .int .i64 y0, .int .i64 x1, .int .i64 y1]] w fun e w' => e = .returned (orderedV x0 y0 x1 y1) ∧ Below w.heap.size w w' := by
  unfold orderedV
  by_cases dd0 : x0 ≤ x1
  · rw [if_pos dd0]
    by_cases dd1 : y0 ≤ y1
    · rw [if_pos dd1]
      by_cases dd2 : Wi x0 2097152
      · rw [if_pos dd2]
        by_cases dd3 : Wi y0 2097152
        · rw [if_pos dd3]
          by_cases dd4 : Wi x1 2097152
          · rw [if_pos dd4]
            exact ordered_w0 x0 y0 x1 y1    dd0 dd1 dd2 dd3 dd4 w
          · rw [if_neg dd4]
            exact ordered_w5 x0 y0 x1 y1    dd0 dd1 dd2 dd3 dd4 w
        · rw [if_neg dd3]
          exact ordered_w4 x0 y0 x1 y1    dd0 dd1 dd2 dd3 w
      · rw [if_neg dd2]
        exact ordered_w3 x0 y0 x1 y1    dd0 dd1 dd2 w
    · rw [if_neg dd1]
      exact ordered_w2 x0 y0 x1 y1    dd0 (by omega) w
  · rw [if_neg dd0]
    exact ordered_w1 x0 y0 x1 y1    (by omega) w

theorem ordered_is (x0 y0 x1 y1 : Int)  (w : World) : Calls Try.prog 58 #[.agg #[.int .i64 x0, .int .i64 y0, .int .i64 x1, .int .i64 y1]] w fun e w' => e = .returned (.bool (decide (OkR x0 y0 x1 y1))) ∧ Below w.heap.size w w' := by
  rw [← show orderedV x0 y0 x1 y1 = .bool (decide (OkR x0 y0 x1 y1)) from (by unfold orderedV; (repeat' split) <;> (refine congrArg Value.bool ?_; rw [Bool.eq_iff_iff, decide_eq_true_iff]; (try simp only [decide_eq_true_iff, Bool.false_eq_true, false_iff]); (try simp only [OkR, Wi] at *); omega))]; exact ordered_any x0 y0 x1 y1  w
end Go.Proofs.Ytpjbkadhmjlpfaa
