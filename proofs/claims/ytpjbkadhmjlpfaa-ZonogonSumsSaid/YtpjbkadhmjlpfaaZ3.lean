/- zonogon.Valid. -/
import Derived.Test.YtpjbkadhmjlpfaaZ2
set_option linter.unusedVariables false
set_option linter.unusedSimpArgs false
namespace Go.Proofs.Ytpjbkadhmjlpfaa
open Go Go.RowKit Hd

set_option maxRecDepth 100000 in
set_option maxHeartbeats 4000000 in
theorem Valid_w0 (x y : Int) (A : Option Addr) (n c : Nat) (l : List P2)  (hn : n ≤ 1000000) (dd0 : Wi x 8388608) (dd1 : Wi y 8388608) (dd2 : 16 < ((n : Nat) : Int)) (w : World) {lo_L hi_L : Nat} (L : PL w lo_L hi_L A n c l) :
    Calls Try.prog 19 #[.agg #[.int .i64 x, .int .i64 y, .slice A n c]] w fun e w' => e = .returned (.bool false) ∧ Below w.heap.size w w' := by
  replace L := Lib.hid L
  have H0 := Lib.hid (fun w => within_is x 8388608 (by omega) w)
  have H1 := Lib.hid (fun w => within_is y 8388608 (by omega) w)
  obtain ⟨HB, B_z0⟩ := box1 w 24 #[.int .i64 x, .int .i64 y, .slice A n c]
  replace L := Lib.hid (PL.below L.out HB.out)
  go_enter Try.func19, Try.ntmps19
  go_upto_region 1 with (fail)
  generalize w.alloc (.cells #[.int .i64 x, .int .i64 y, .slice A n c] 24) = W0 at *
  obtain ⟨c0z0, c1z0, c2z0⟩ := cells3 B_z0
  go_wp2_with fail
  refine (H0.out _).mono ?_
  clear c0z0 c1z0 c2z0
  rintro e w1 ⟨rfl, bb⟩
  replace bb := nextw (w0 := W0) (by exact sm) bb
  replace B_z0 := mv B_z0 bb
  replace L := Lib.hid (PL.below L.out bb)
  replace HB := nx HB bb
  clear bb
  obtain ⟨c0z0, c1z0, c2z0⟩ := cells3 B_z0
  go_wp2_with fail
  refine (H1.out _).mono ?_
  clear c0z0 c1z0 c2z0
  rintro e w2 ⟨rfl, bb⟩
  replace bb := nextw (w0 := w1) (by exact sm) bb
  replace B_z0 := mv B_z0 bb
  replace L := Lib.hid (PL.below L.out bb)
  replace HB := nx HB bb
  clear bb
  obtain ⟨c0z0, c1z0, c2z0⟩ := cells3 B_z0
  go_wp2
  go_ret
  exact ⟨(by first | rfl | exact rbt (by omega) | exact rbf (by omega)), nextw HB.out (by exact sm)⟩

set_option maxRecDepth 100000 in
set_option maxHeartbeats 4000000 in
theorem Valid_w1 (x y : Int) (A : Option Addr) (n c : Nat) (l : List P2)  (hn : n ≤ 1000000) (dd0 : ¬ (Wi x 8388608)) (w : World) {lo_L hi_L : Nat} (L : PL w lo_L hi_L A n c l) :
    Calls Try.prog 19 #[.agg #[.int .i64 x, .int .i64 y, .slice A n c]] w fun e w' => e = .returned (.bool false) ∧ Below w.heap.size w w' := by
  replace L := Lib.hid L
  have H0 := Lib.hid (fun w => within_is x 8388608 (by omega) w)
  obtain ⟨HB, B_z0⟩ := box1 w 24 #[.int .i64 x, .int .i64 y, .slice A n c]
  replace L := Lib.hid (PL.below L.out HB.out)
  go_enter Try.func19, Try.ntmps19
  go_upto_region 1 with (fail)
  generalize w.alloc (.cells #[.int .i64 x, .int .i64 y, .slice A n c] 24) = W0 at *
  obtain ⟨c0z0, c1z0, c2z0⟩ := cells3 B_z0
  go_wp2_with fail
  refine (H0.out _).mono ?_
  clear c0z0 c1z0 c2z0
  rintro e w1 ⟨rfl, bb⟩
  replace bb := nextw (w0 := W0) (by exact sm) bb
  replace B_z0 := mv B_z0 bb
  replace L := Lib.hid (PL.below L.out bb)
  replace HB := nx HB bb
  clear bb
  go_wp2
  go_ret
  exact ⟨(by first | rfl | exact rbt (by omega) | exact rbf (by omega)), nextw HB.out (by exact sm)⟩

set_option maxRecDepth 100000 in
set_option maxHeartbeats 4000000 in
theorem Valid_w2 (x y : Int) (A : Option Addr) (n c : Nat) (l : List P2)  (hn : n ≤ 1000000) (dd0 : Wi x 8388608) (dd1 : ¬ (Wi y 8388608)) (w : World) {lo_L hi_L : Nat} (L : PL w lo_L hi_L A n c l) :
    Calls Try.prog 19 #[.agg #[.int .i64 x, .int .i64 y, .slice A n c]] w fun e w' => e = .returned (.bool false) ∧ Below w.heap.size w w' := by
  replace L := Lib.hid L
  have H0 := Lib.hid (fun w => within_is x 8388608 (by omega) w)
  have H1 := Lib.hid (fun w => within_is y 8388608 (by omega) w)
  obtain ⟨HB, B_z0⟩ := box1 w 24 #[.int .i64 x, .int .i64 y, .slice A n c]
  replace L := Lib.hid (PL.below L.out HB.out)
  go_enter Try.func19, Try.ntmps19
  go_upto_region 1 with (fail)
  generalize w.alloc (.cells #[.int .i64 x, .int .i64 y, .slice A n c] 24) = W0 at *
  obtain ⟨c0z0, c1z0, c2z0⟩ := cells3 B_z0
  go_wp2_with fail
  refine (H0.out _).mono ?_
  clear c0z0 c1z0 c2z0
  rintro e w1 ⟨rfl, bb⟩
  replace bb := nextw (w0 := W0) (by exact sm) bb
  replace B_z0 := mv B_z0 bb
  replace L := Lib.hid (PL.below L.out bb)
  replace HB := nx HB bb
  clear bb
  obtain ⟨c0z0, c1z0, c2z0⟩ := cells3 B_z0
  go_wp2_with fail
  refine (H1.out _).mono ?_
  clear c0z0 c1z0 c2z0
  rintro e w2 ⟨rfl, bb⟩
  replace bb := nextw (w0 := w1) (by exact sm) bb
  replace B_z0 := mv B_z0 bb
  replace L := Lib.hid (PL.below L.out bb)
  replace HB := nx HB bb
  clear bb
  go_wp2
  go_ret
  exact ⟨(by first | rfl | exact rbt (by omega) | exact rbf (by omega)), nextw HB.out (by exact sm)⟩

set_option maxRecDepth 100000 in
set_option maxHeartbeats 4000000 in
theorem Valid_w3 (x y : Int) (A : Option Addr) (n c : Nat) (l : List P2)  (hn : n ≤ 1000000) (dd0 : Wi x 8388608) (dd1 : Wi y 8388608) (dd2 : ((n : Nat) : Int) ≤ 16) (w : World) {lo_L hi_L : Nat} (L : PL w lo_L hi_L A n c l) :
    Calls Try.prog 19 #[.agg #[.int .i64 x, .int .i64 y, .slice A n c]] w fun e w' => e = .returned (.bool (!(l.any fun p => !decide (Vp p)))) ∧ Below w.heap.size w w' := by
  replace L := Lib.hid L
  have H0 := Lib.hid (fun w => within_is x 8388608 (by omega) w)
  have H1 := Lib.hid (fun w => within_is y 8388608 (by omega) w)
  obtain ⟨HB, B_z0⟩ := box1 w 24 #[.int .i64 x, .int .i64 y, .slice A n c]
  replace L := Lib.hid (PL.below L.out HB.out)
  go_enter Try.func19, Try.ntmps19
  go_upto_region 1 with (fail)
  generalize w.alloc (.cells #[.int .i64 x, .int .i64 y, .slice A n c] 24) = W0 at *
  obtain ⟨c0z0, c1z0, c2z0⟩ := cells3 B_z0
  go_wp2_with fail
  refine (H0.out _).mono ?_
  clear c0z0 c1z0 c2z0
  rintro e w1 ⟨rfl, bb⟩
  replace bb := nextw (w0 := W0) (by exact sm) bb
  replace B_z0 := mv B_z0 bb
  replace L := Lib.hid (PL.below L.out bb)
  replace HB := nx HB bb
  clear bb
  obtain ⟨c0z0, c1z0, c2z0⟩ := cells3 B_z0
  go_wp2_with fail
  refine (H1.out _).mono ?_
  clear c0z0 c1z0 c2z0
  rintro e w2 ⟨rfl, bb⟩
  replace bb := nextw (w0 := w1) (by exact sm) bb
  replace B_z0 := mv B_z0 bb
  replace L := Lib.hid (PL.below L.out bb)
  replace HB := nx HB bb
  clear bb
  obtain ⟨c0z0, c1z0, c2z0⟩ := cells3 B_z0
  go_wp2_with fail
  refine (ValidL_any _ (PL.below L.out (by exact sm)) (by omega)).mono ?_
  clear c0z0 c1z0 c2z0
  rintro e w3 ⟨rfl, bb⟩
  replace bb := nextw (w0 := w2) (by exact sm) bb
  replace B_z0 := mv B_z0 bb
  replace L := Lib.hid (PL.below L.out bb)
  replace HB := nx HB bb
  clear bb
  go_wp2
  go_ret
  exact ⟨(by first | rfl | exact rbt (by omega) | exact rbf (by omega)), nextw HB.out (by exact sm)⟩

def ValidV (x y : Int) (A : Option Addr) (n c : Nat) (l : List P2) : Value := if Wi x 8388608 then if Wi y 8388608 then if 16 < ((n : Nat) : Int) then .bool false else .bool (!(l.any fun p => !decide (Vp p))) else .bool false else .bool false
theorem Valid_any (x y : Int) (A : Option Addr) (n c : Nat) (l : List P2) (hn : n ≤ 1000000) (w : World) {lo_L hi_L : Nat} (L : PL w lo_L hi_L A n c l) :
    Calls Try.prog 19 #[.agg #[.int .i64 x, .int .i64 y, .slice A n c]] w fun e w' => e = .returned (ValidV x y A n c l) ∧ Below w.heap.size w w' := by
  unfold ValidV
  by_cases dd0 : Wi x 8388608
  · rw [if_pos dd0]
    by_cases dd1 : Wi y 8388608
    · rw [if_pos dd1]
      by_cases dd2 : 16 < ((n : Nat) : Int)
      · rw [if_pos dd2]
        exact Valid_w0 x y A n c l   hn dd0 dd1 dd2 w L
      · rw [if_neg dd2]
        exact Valid_w3 x y A n c l   hn dd0 dd1 (by omega) w L
    · rw [if_neg dd1]
      exact Valid_w2 x y A n c l   hn dd0 dd1 w L
  · rw [if_neg dd0]
    exact Valid_w1 x y A n c l   hn dd0 w L

theorem okz_any (l : List P2) : (!(l.any fun p => !decide (Vp p))) = decide (∀ p ∈ l, Vp p) := by
  rw [Bool.eq_iff_iff]
  simp
theorem Valid_is (x y : Int) (A : Option Addr) (n c : Nat) (l : List P2) (hn : n ≤ 1000000) (w : World) {lo hi : Nat} (L : PL w lo hi A n c l) :
    Calls Try.prog 19 #[.agg #[.int .i64 x, .int .i64 y, .slice A n c]] w fun e w' => e = .returned (.bool (decide (OkZ x y l))) ∧ Below w.heap.size w w' := by
  have h := Valid_any x y A n c l hn w L
  have hl := L.len
  rw [show ValidV x y A n c l = .bool (decide (OkZ x y l)) from ?_] at h
  · exact h
  · unfold ValidV
    rw [okz_any]
    (repeat' split) <;> (refine congrArg Value.bool ?_; rw [Bool.eq_iff_iff, decide_eq_true_iff (p := OkZ x y l)]; unfold OkZ; (try simp only [decide_eq_true_iff, Bool.false_eq_true, false_iff]); (simp_all <;> omega))
theorem Valid_yes {x y : Int} {A : Option Addr} {n c : Nat} {l : List P2} (h : OkZ x y l) (hn : n ≤ 1000000) (w : World) {lo hi : Nat} (L : PL w lo hi A n c l) :
    Calls Try.prog 19 #[.agg #[.int .i64 x, .int .i64 y, .slice A n c]] w fun e w' => e = .returned (.bool true) ∧ Below w.heap.size w w' := by
  have h2 := Valid_is x y A n c l hn w L
  rw [decide_eq_true h] at h2
  exact h2
theorem Valid_no {x y : Int} {A : Option Addr} {n c : Nat} {l : List P2} (h : ¬ OkZ x y l) (hn : n ≤ 1000000) (w : World) {lo hi : Nat} (L : PL w lo hi A n c l) :
    Calls Try.prog 19 #[.agg #[.int .i64 x, .int .i64 y, .slice A n c]] w fun e w' => e = .returned (.bool false) ∧ Below w.heap.size w w' := by
  have h2 := Valid_is x y A n c l hn w L
  rw [decide_eq_false h] at h2
  exact h2
end Go.Proofs.Ytpjbkadhmjlpfaa
