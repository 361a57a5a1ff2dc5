/- plan.Valid. -/
import Derived.Test.YtkhcogfajihecaaY4
set_option linter.unusedVariables false
set_option linter.unusedSimpArgs false
namespace Go.Proofs.Ytkhcogfajihecaa
open Go Go.RowKit Hd

set_option maxRecDepth 100000 in
set_option maxHeartbeats 4000000 in
theorem isSize_w0 (n : Int)   (dd0 : 1 ≤ n) (w : World) :
    Calls Try.prog 50 #[.int .i64 n] w fun e w' => e = .returned (.bool (decide (n ≤ 64))) ∧ Below w.heap.size w w' := by
  have HB := Lib.hid (Below.refl w.heap.size w)
  go_enter Try.func50, Try.ntmps50
  go_upto_region 1 with (fail)
  go_wp2
  go_ret
  exact ⟨(by first | rfl | exact rbt (by omega) | exact rbf (by omega)), nextw HB.out (by exact sm)⟩

set_option maxRecDepth 100000 in
set_option maxHeartbeats 4000000 in
theorem isSize_w1 (n : Int)   (dd0 : n < 1) (w : World) :
    Calls Try.prog 50 #[.int .i64 n] w fun e w' => e = .returned (.bool false) ∧ Below w.heap.size w w' := by
  have HB := Lib.hid (Below.refl w.heap.size w)
  go_enter Try.func50, Try.ntmps50
  go_upto_region 1 with (fail)
  go_wp2
  go_ret
  exact ⟨(by first | rfl | exact rbt (by omega) | exact rbf (by omega)), nextw HB.out (by exact sm)⟩

def isSizeV (n : Int) : Value := if 1 ≤ n then .bool (decide (n ≤ 64)) else .bool false
theorem isSize_any (n : Int)  (w : World) :
    Calls Try.prog 50 #[.int .i64 n] w fun e w' => e = .returned (isSizeV n) ∧ Below w.heap.size w w' := by
  unfold isSizeV
  by_cases dd0 : 1 ≤ n
  · rw [if_pos dd0]
    exact isSize_w0 n    dd0 w 
  · rw [if_neg dd0]
    exact isSize_w1 n    (by omega) w 

theorem isSize_is (n : Int)  (w : World) : Calls Try.prog 50 #[.int .i64 n] w fun e w' => e = .returned (.bool (decide (1 ≤ n ∧ n ≤ 64))) ∧ Below w.heap.size w w' := by
  rw [← show isSizeV n = .bool (decide (1 ≤ n ∧ n ≤ 64)) from (by unfold isSizeV; (repeat' split) <;> (refine congrArg Value.bool ?_; rw [Bool.eq_iff_iff, decide_eq_true_iff]; (try simp only [decide_eq_true_iff, Bool.false_eq_true, false_iff]); omega))]; exact isSize_any n  w

set_option maxRecDepth 100000 in
set_option maxHeartbeats 4000000 in
theorem has_w0 (p q a b : Int) (A : Option Addr) (n c : Nat) (l : List Int)   (dd0 : 0 ≤ a) (dd1 : a < p) (dd2 : 0 ≤ b) (w : World) {lo_L hi_L : Nat} (L : KB w lo_L hi_L A n c l) :
    Calls Try.prog 59 #[.agg #[.int .i64 p, .int .i64 q, .slice A n c], .agg #[.int .i64 a, .int .i64 b]] w fun e w' => e = .returned (.bool (decide (b < q))) ∧ Below w.heap.size w w' := by
  replace L := Lib.hid L
  obtain ⟨HB, B_z0, B_z1⟩ := box2 w 24 #[.int .i64 p, .int .i64 q, .slice A n c] 37 #[.int .i64 a, .int .i64 b]
  replace L := Lib.hid (KB.below L.out HB.out)
  go_enter Try.func59, Try.ntmps59
  go_upto_region 1 with (fail)
  generalize (w.alloc (.cells #[.int .i64 p, .int .i64 q, .slice A n c] 24)).alloc (.cells #[.int .i64 a, .int .i64 b] 37) = W0 at *
  obtain ⟨c0z1, c1z1⟩ := cells2 B_z1
  obtain ⟨c0z0, c1z0, c2z0⟩ := cells3 B_z0
  go_wp2
  go_ret
  exact ⟨(by first | rfl | exact rbt (by omega) | exact rbf (by omega)), nextw HB.out (by exact sm)⟩

set_option maxRecDepth 100000 in
set_option maxHeartbeats 4000000 in
theorem has_w1 (p q a b : Int) (A : Option Addr) (n c : Nat) (l : List Int)   (dd0 : a < 0) (w : World) {lo_L hi_L : Nat} (L : KB w lo_L hi_L A n c l) :
    Calls Try.prog 59 #[.agg #[.int .i64 p, .int .i64 q, .slice A n c], .agg #[.int .i64 a, .int .i64 b]] w fun e w' => e = .returned (.bool false) ∧ Below w.heap.size w w' := by
  replace L := Lib.hid L
  obtain ⟨HB, B_z0, B_z1⟩ := box2 w 24 #[.int .i64 p, .int .i64 q, .slice A n c] 37 #[.int .i64 a, .int .i64 b]
  replace L := Lib.hid (KB.below L.out HB.out)
  go_enter Try.func59, Try.ntmps59
  go_upto_region 1 with (fail)
  generalize (w.alloc (.cells #[.int .i64 p, .int .i64 q, .slice A n c] 24)).alloc (.cells #[.int .i64 a, .int .i64 b] 37) = W0 at *
  obtain ⟨c0z1, c1z1⟩ := cells2 B_z1
  go_wp2
  go_ret
  exact ⟨(by first | rfl | exact rbt (by omega) | exact rbf (by omega)), nextw HB.out (by exact sm)⟩

set_option maxRecDepth 100000 in
set_option maxHeartbeats 4000000 in
theorem has_w2 (p q a b : Int) (A : Option Addr) (n c : Nat) (l : List Int)   (dd0 : 0 ≤ a) (dd1 : p ≤ a) (w : World) {lo_L hi_L : Nat} (L : KB w lo_L hi_L A n c l) :
    Calls Try.prog 59 #[.agg #[.int .i64 p, .int .i64 q, .slice A n c], .agg #[.int .i64 a, .int .i64 b]] w fun e w' => e = .returned (.bool false) ∧ Below w.heap.size w w' := by
  replace L := Lib.hid L
  obtain ⟨HB, B_z0, B_z1⟩ := box2 w 24 #[.int .i64 p, .int .i64 q, .slice A n c] 37 #[.int .i64 a, .int .i64 b]
  replace L := Lib.hid (KB.below L.out HB.out)
  go_enter Try.func59, Try.ntmps59
  go_upto_region 1 with (fail)
  generalize (w.alloc (.cells #[.int .i64 p, .int .i64 q, .slice A n c] 24)).alloc (.cells #[.int .i64 a, .int .i64 b] 37) = W0 at *
  obtain ⟨c0z1, c1z1⟩ := cells2 B_z1
  obtain ⟨c0z0, c1z0, c2z0⟩ := cells3 B_z0
  go_wp2
  go_ret
  exact ⟨(by first | rfl | exact rbt (by omega) | exact rbf (by omega)), nextw HB.out (by exact sm)⟩

set_option maxRecDepth 100000 in
set_option maxHeartbeats 4000000 in
theorem has_w3 (p q a b : Int) (A : Option Addr) (n c : Nat) (l : List Int)   (dd0 : 0 ≤ a) (dd1 : a < p) (dd2 : b < 0) (w : World) {lo_L hi_L : Nat} (L : KB w lo_L hi_L A n c l) :
    Calls Try.prog 59 #[.agg #[.int .i64 p, .int .i64 q, .slice A n c], .agg #[.int .i64 a, .int .i64 b]] w fun e w' => e = .returned (.bool false) ∧ Below w.heap.size w w' := by
  replace L := Lib.hid L
  obtain ⟨HB, B_z0, B_z1⟩ := box2 w 24 #[.int .i64 p, .int .i64 q, .slice A n c] 37 #[.int .i64 a, .int .i64 b]
  replace L := Lib.hid (KB.below L.out HB.out)
  go_enter Try.func59, Try.ntmps59
  go_upto_region 1 with (fail)
  generalize (w.alloc (.cells #[.int .i64 p, .int .i64 q, .slice A n c] 24)).alloc (.cells #[.int .i64 a, .int .i64 b] 37) = W0 at *
  obtain ⟨c0z1, c1z1⟩ := cells2 B_z1
  obtain ⟨c0z0, c1z0, c2z0⟩ := cells3 B_z0
  go_wp2
  go_ret
  exact ⟨(by first | rfl | exact rbt (by omega) | exact rbf (by omega)), nextw HB.out (by exact sm)⟩

set_option maxRecDepth 100000 in
set_option maxHeartbeats 4000000 in
theorem Inside_w0 (p q a b : Int) (A : Option Addr) (n c : Nat) (l : List Int)   (dd0 : 0 ≤ a) (dd1 : a < p) (dd2 : 0 ≤ b) (w : World) {lo_L hi_L : Nat} (L : KB w lo_L hi_L A n c l) :
    Calls Try.prog 61 #[.agg #[.int .i64 p, .int .i64 q, .slice A n c], .agg #[.int .i64 a, .int .i64 b]] w fun e w' => e = .returned (.bool (decide (b < q))) ∧ Below w.heap.size w w' := by
  replace L := Lib.hid L
  obtain ⟨HB, B_z0, B_z1⟩ := box2 w 24 #[.int .i64 p, .int .i64 q, .slice A n c] 37 #[.int .i64 a, .int .i64 b]
  replace L := Lib.hid (KB.below L.out HB.out)
  go_enter Try.func61, Try.ntmps61
  go_upto_region 1 with (fail)
  generalize (w.alloc (.cells #[.int .i64 p, .int .i64 q, .slice A n c] 24)).alloc (.cells #[.int .i64 a, .int .i64 b] 37) = W0 at *
  obtain ⟨c0z1, c1z1⟩ := cells2 B_z1
  obtain ⟨c0z0, c1z0, c2z0⟩ := cells3 B_z0
  go_wp2
  go_ret
  exact ⟨(by first | rfl | exact rbt (by omega) | exact rbf (by omega)), nextw HB.out (by exact sm)⟩

set_option maxRecDepth 100000 in
set_option maxHeartbeats 4000000 in
theorem Inside_w1 (p q a b : Int) (A : Option Addr) (n c : Nat) (l : List Int)   (dd0 : a < 0) (w : World) {lo_L hi_L : Nat} (L : KB w lo_L hi_L A n c l) :
    Calls Try.prog 61 #[.agg #[.int .i64 p, .int .i64 q, .slice A n c], .agg #[.int .i64 a, .int .i64 b]] w fun e w' => e = .returned (.bool false) ∧ Below w.heap.size w w' := by
  replace L := Lib.hid L
  obtain ⟨HB, B_z0, B_z1⟩ := box2 w 24 #[.int .i64 p, .int .i64 q, .slice A n c] 37 #[.int .i64 a, .int .i64 b]
  replace L := Lib.hid (KB.below L.out HB.out)
  go_enter Try.func61, Try.ntmps61
  go_upto_region 1 with (fail)
  generalize (w.alloc (.cells #[.int .i64 p, .int .i64 q, .slice A n c] 24)).alloc (.cells #[.int .i64 a, .int .i64 b] 37) = W0 at *
  obtain ⟨c0z1, c1z1⟩ := cells2 B_z1
  go_wp2
  go_ret
  exact ⟨(by first | rfl | exact rbt (by omega) | exact rbf (by omega)), nextw HB.out (by exact sm)⟩

set_option maxRecDepth 100000 in
set_option maxHeartbeats 4000000 in
theorem Inside_w2 (p q a b : Int) (A : Option Addr) (n c : Nat) (l : List Int)   (dd0 : 0 ≤ a) (dd1 : p ≤ a) (w : World) {lo_L hi_L : Nat} (L : KB w lo_L hi_L A n c l) :
    Calls Try.prog 61 #[.agg #[.int .i64 p, .int .i64 q, .slice A n c], .agg #[.int .i64 a, .int .i64 b]] w fun e w' => e = .returned (.bool false) ∧ Below w.heap.size w w' := by
  replace L := Lib.hid L
  obtain ⟨HB, B_z0, B_z1⟩ := box2 w 24 #[.int .i64 p, .int .i64 q, .slice A n c] 37 #[.int .i64 a, .int .i64 b]
  replace L := Lib.hid (KB.below L.out HB.out)
  go_enter Try.func61, Try.ntmps61
  go_upto_region 1 with (fail)
  generalize (w.alloc (.cells #[.int .i64 p, .int .i64 q, .slice A n c] 24)).alloc (.cells #[.int .i64 a, .int .i64 b] 37) = W0 at *
  obtain ⟨c0z1, c1z1⟩ := cells2 B_z1
  obtain ⟨c0z0, c1z0, c2z0⟩ := cells3 B_z0
  go_wp2
  go_ret
  exact ⟨(by first | rfl | exact rbt (by omega) | exact rbf (by omega)), nextw HB.out (by exact sm)⟩

set_option maxRecDepth 100000 in
set_option maxHeartbeats 4000000 in
theorem Inside_w3 (p q a b : Int) (A : Option Addr) (n c : Nat) (l : List Int)   (dd0 : 0 ≤ a) (dd1 : a < p) (dd2 : b < 0) (w : World) {lo_L hi_L : Nat} (L : KB w lo_L hi_L A n c l) :
    Calls Try.prog 61 #[.agg #[.int .i64 p, .int .i64 q, .slice A n c], .agg #[.int .i64 a, .int .i64 b]] w fun e w' => e = .returned (.bool false) ∧ Below w.heap.size w w' := by
  replace L := Lib.hid L
  obtain ⟨HB, B_z0, B_z1⟩ := box2 w 24 #[.int .i64 p, .int .i64 q, .slice A n c] 37 #[.int .i64 a, .int .i64 b]
  replace L := Lib.hid (KB.below L.out HB.out)
  go_enter Try.func61, Try.ntmps61
  go_upto_region 1 with (fail)
  generalize (w.alloc (.cells #[.int .i64 p, .int .i64 q, .slice A n c] 24)).alloc (.cells #[.int .i64 a, .int .i64 b] 37) = W0 at *
  obtain ⟨c0z1, c1z1⟩ := cells2 B_z1
  obtain ⟨c0z0, c1z0, c2z0⟩ := cells3 B_z0
  go_wp2
  go_ret
  exact ⟨(by first | rfl | exact rbt (by omega) | exact rbf (by omega)), nextw HB.out (by exact sm)⟩

set_option maxRecDepth 100000 in
set_option maxHeartbeats 4000000 in
theorem Valid_is (p q : Int) (A : Option Addr) (n c : Nat) (l : List Int)  (hn : n ≤ 1000000) (w : World) {lo_L hi_L : Nat} (L : KB w lo_L hi_L A n c l) :
    Calls Try.prog 20 #[.agg #[.int .i64 p, .int .i64 q, .slice A n c]] w fun e w' => e = .returned (.bool (decide (OkP p q l))) ∧ Below w.heap.size w w' := by
  have hiL_L : hi_L ≤ w.heap.size := L.top
  replace L := Lib.hid L
  by_cases dd0 : 1 ≤ p ∧ p ≤ 64
  · skip
    have dd01 := dd0.1
    have dd02 := dd0.2
    by_cases dd1 : 1 ≤ q ∧ q ≤ 64
    · skip
      have dd11 := dd1.1
      have dd12 := dd1.2
      by_cases dd2 : ((n : Nat) : Int) = (p * q)
      · skip
        have hpq : 1 ≤ p * q ∧ p * q ≤ 4096 := by have k1 := Int.mul_le_mul (show p ≤ 64 by omega) (show q ≤ 64 by omega) (by omega) (by omega); have k2 := Int.mul_le_mul (show 1 ≤ p by omega) (show 1 ≤ q by omega) (by omega) (by omega); omega
        obtain ⟨hpq1, hpq2⟩ := hpq
        have hn0 : Hid (0 < n) := by unfold Hid; have := dd2; omega
        have hlenH := Lib.hid L.out.len
        have H0 := Lib.hid (fun w => isSize_is p w)
        have H1 := Lib.hid (fun w => isSize_is q w)
        replace dd2 := Lib.hid dd2
        obtain ⟨HB, B_z0⟩ := box1 w 24 #[.int .i64 p, .int .i64 q, .slice A n c]
        replace L := Lib.hid (KB.below L.out HB.out)
        go_enter Try.func20, Try.ntmps20
        go_upto_region 1 with (fail)
        generalize w.alloc (.cells #[.int .i64 p, .int .i64 q, .slice A n c] 24) = W0 at *
        have od2 : (((n : Nat) : Int) == (p * q)) = true := decide_eq_true dd2.out
        have ob2 : (((n : Nat) : Int) != (p * q)) = false := by rw [bne, od2]; rfl
        obtain ⟨c0z0, c1z0, c2z0⟩ := cells3 B_z0
        go_wp2_with fail
        refine (H0.out _).mono ?_
        clear c0z0 c1z0 c2z0
        rintro e w1 ⟨rfl, bb⟩
        replace bb := nextw (w0 := W0) (by exact sm) bb
        replace B_z0 := mv B_z0 bb
        replace L := Lib.hid (KB.below L.out bb)
        replace HB := nx HB bb
        clear bb
        obtain ⟨c0z0, c1z0, c2z0⟩ := cells3 B_z0
        go_wp2_with fail
        refine (H1.out _).mono ?_
        clear c0z0 c1z0 c2z0
        rintro e w2 ⟨rfl, bb⟩
        replace bb := nextw (w0 := w1) (by exact sm) bb
        replace B_z0 := mv B_z0 bb
        replace L := Lib.hid (KB.below L.out bb)
        replace HB := nx HB bb
        clear bb
        obtain ⟨c0z0, c1z0, c2z0⟩ := cells3 B_z0
        go_wp2_with fail
        refine (Max_is A n c l (by first | omega | exact hn0.out) (by omega) _ (KB.below L.out (by exact sm))).mono ?_
        clear c0z0 c1z0 c2z0
        rintro e w3 ⟨rfl, bb⟩
        replace bb := nextw (w0 := w2) (by exact sm) bb
        replace B_z0 := mv B_z0 bb
        replace L := Lib.hid (KB.below L.out bb)
        replace HB := nx HB bb
        clear bb
        have hlen := Lib.hid L.out.len
        have HN : Hid ((mxb l (n - 1)) ≤ 2 ↔ OkP p q l) := by unfold Hid; rw [mxb_le]; exact ⟨fun h => ⟨dd0, dd1, by have := hlen.out; have := dd2.out; omega, all_getD.2 (fun i hi => h i (by have := hlen.out; omega))⟩, fun h i hi => all_getD.1 h.2.2.2 i (by have := hlen.out; have := hn0.out; omega)⟩
        go_wp2
        go_ret
        exact ⟨rb (decide_eq_decide.2 HN.out), nextw HB.out (by exact sm)⟩
      · skip
        have hpq : 1 ≤ p * q ∧ p * q ≤ 4096 := by have k1 := Int.mul_le_mul (show p ≤ 64 by omega) (show q ≤ 64 by omega) (by omega) (by omega); have k2 := Int.mul_le_mul (show 1 ≤ p by omega) (show 1 ≤ q by omega) (by omega) (by omega); omega
        obtain ⟨hpq1, hpq2⟩ := hpq
        have H3 := Lib.hid (fun w => isSize_is p w)
        have H4 := Lib.hid (fun w => isSize_is q w)
        obtain ⟨HB, B_z0⟩ := box1 w 24 #[.int .i64 p, .int .i64 q, .slice A n c]
        replace L := Lib.hid (KB.below L.out HB.out)
        go_enter Try.func20, Try.ntmps20
        go_upto_region 1 with (fail)
        generalize w.alloc (.cells #[.int .i64 p, .int .i64 q, .slice A n c] 24) = W0 at *
        have od2 : (((n : Nat) : Int) == (p * q)) = false := decide_eq_false dd2
        have ob2 : (((n : Nat) : Int) != (p * q)) = true := by rw [bne, od2]; rfl
        obtain ⟨c0z0, c1z0, c2z0⟩ := cells3 B_z0
        go_wp2_with fail
        refine (H3.out _).mono ?_
        clear c0z0 c1z0 c2z0
        rintro e w4 ⟨rfl, bb⟩
        replace bb := nextw (w0 := W0) (by exact sm) bb
        replace B_z0 := mv B_z0 bb
        replace L := Lib.hid (KB.below L.out bb)
        replace HB := nx HB bb
        clear bb
        obtain ⟨c0z0, c1z0, c2z0⟩ := cells3 B_z0
        go_wp2_with fail
        refine (H4.out _).mono ?_
        clear c0z0 c1z0 c2z0
        rintro e w5 ⟨rfl, bb⟩
        replace bb := nextw (w0 := w4) (by exact sm) bb
        replace B_z0 := mv B_z0 bb
        replace L := Lib.hid (KB.below L.out bb)
        replace HB := nx HB bb
        clear bb
        obtain ⟨c0z0, c1z0, c2z0⟩ := cells3 B_z0
        have hlen := Lib.hid L.out.len
        have HN : Hid (¬ OkP p q l) := fun h => absurd (show ((n : Nat) : Int) = p * q by have := h.2.2.1; have := hlen.out; omega) dd2
        go_wp2
        go_ret
        exact ⟨rb (decide_eq_false HN.out).symm, nextw HB.out (by exact sm)⟩
    · skip
      have H5 := Lib.hid (fun w => isSize_is p w)
      have H6 := Lib.hid (fun w => isSize_is q w)
      obtain ⟨HB, B_z0⟩ := box1 w 24 #[.int .i64 p, .int .i64 q, .slice A n c]
      replace L := Lib.hid (KB.below L.out HB.out)
      go_enter Try.func20, Try.ntmps20
      go_upto_region 1 with (fail)
      generalize w.alloc (.cells #[.int .i64 p, .int .i64 q, .slice A n c] 24) = W0 at *
      obtain ⟨c0z0, c1z0, c2z0⟩ := cells3 B_z0
      go_wp2_with fail
      refine (H5.out _).mono ?_
      clear c0z0 c1z0 c2z0
      rintro e w6 ⟨rfl, bb⟩
      replace bb := nextw (w0 := W0) (by exact sm) bb
      replace B_z0 := mv B_z0 bb
      replace L := Lib.hid (KB.below L.out bb)
      replace HB := nx HB bb
      clear bb
      obtain ⟨c0z0, c1z0, c2z0⟩ := cells3 B_z0
      go_wp2_with fail
      refine (H6.out _).mono ?_
      clear c0z0 c1z0 c2z0
      rintro e w7 ⟨rfl, bb⟩
      replace bb := nextw (w0 := w6) (by exact sm) bb
      replace B_z0 := mv B_z0 bb
      replace L := Lib.hid (KB.below L.out bb)
      replace HB := nx HB bb
      clear bb
      have hlen := Lib.hid L.out.len
      have HN : Hid (¬ OkP p q l) := fun h => dd1 h.2.1
      go_wp2
      go_ret
      exact ⟨rb (decide_eq_false HN.out).symm, nextw HB.out (by exact sm)⟩
  · skip
    have H7 := Lib.hid (fun w => isSize_is p w)
    obtain ⟨HB, B_z0⟩ := box1 w 24 #[.int .i64 p, .int .i64 q, .slice A n c]
    replace L := Lib.hid (KB.below L.out HB.out)
    go_enter Try.func20, Try.ntmps20
    go_upto_region 1 with (fail)
    generalize w.alloc (.cells #[.int .i64 p, .int .i64 q, .slice A n c] 24) = W0 at *
    obtain ⟨c0z0, c1z0, c2z0⟩ := cells3 B_z0
    go_wp2_with fail
    refine (H7.out _).mono ?_
    clear c0z0 c1z0 c2z0
    rintro e w8 ⟨rfl, bb⟩
    replace bb := nextw (w0 := W0) (by exact sm) bb
    replace B_z0 := mv B_z0 bb
    replace L := Lib.hid (KB.below L.out bb)
    replace HB := nx HB bb
    clear bb
    have hlen := Lib.hid L.out.len
    have HN : Hid (¬ OkP p q l) := fun h => dd0 h.1
    go_wp2
    go_ret
    exact ⟨rb (decide_eq_false HN.out).symm, nextw HB.out (by exact sm)⟩
end Go.Proofs.Ytkhcogfajihecaa
