/- The document's examples. -/
import Derived.Test.YtpjbkadhmjlpfaaZ21
import Derived.Test.YtpjbkadhmjlpfaaZ12
import Derived.Test.YtpjbkadhmjlpfaaZ17
set_option linter.unusedSimpArgs false
set_option linter.unusedVariables false
namespace Go.Proofs.Ytpjbkadhmjlpfaa
open Go Go.RowKit Hd

abbrev exA : List P2 := [(4, 0), (0, 2)]
abbrev exS : List P2 := [(-3, 5)]
abbrev exZ : List P2 := [(4, 0), (0, 2), (-3, 5)]
abbrev exN0 : List P2 := [(-2, 0), (1, 0), (0, -3)]
abbrev exN : List P2 := [(3, 0), (0, 3)]
abbrev exM0 : List P2 := [(9, 0), (1, 1), (0, 9), (-1, 2)]
abbrev exM : List P2 := [(11, 0), (0, 12)]
section
variable (w : World)
theorem OfRect_ex : Calls Try.prog 27 #[.agg #[.int .i64 0, .int .i64 0, .int .i64 4, .int .i64 2]] w fun e w' => ∃ A c, e = .returned (.tuple #[.agg #[.int .i64 4, .int .i64 2, .slice A 2 c], .int .i64 0]) ∧ PL w' w.heap.size w'.heap.size A 2 c exA ∧ Below w.heap.size w w' := by
  have h := OfRect_w3 0 0 4 2 (by decide) (by decide) (by decide) w
  rw [show canL ([((4 - 0 : Int), (0 : Int)), (0, 2 - 0)]) = exA by decide] at h
  exact h
theorem OfSeg_ex : Calls Try.prog 29 #[.agg #[.int .i64 0, .int .i64 0], .agg #[.int .i64 (-3), .int .i64 5]] w fun e w' => ∃ A c, e = .returned (.tuple #[.agg #[.int .i64 (-3), .int .i64 5, .slice A 1 c], .int .i64 0]) ∧ PL w' w.heap.size w'.heap.size A 1 c exS ∧ Below w.heap.size w w' := by
  have h := OfSeg_w0 0 0 (-3) 5 (by decide) (by decide) (by decide) w
  rw [show canL ([((-3 - 0 : Int), (5 - 0 : Int))]) = exS by decide] at h
  exact h
variable {lo hi lo2 hi2 : Nat} {A A2 : Option Addr} {c c2 : Nat}
theorem Sum_ex (L : PL w lo hi A 2 c exA) (L2 : PL w lo2 hi2 A2 1 c2 exS) : Calls Try.prog 31 #[.agg #[.int .i64 4, .int .i64 2, .slice A 2 c], .agg #[.int .i64 (-3), .int .i64 5, .slice A2 1 c2]] w fun e w' => ∃ A c, e = .returned (.tuple #[.agg #[.int .i64 1, .int .i64 7, .slice A 3 c], .int .i64 0]) ∧ PL w' w.heap.size w'.heap.size A 3 c exZ ∧ Below w.heap.size w w' := by
  have h := Sum_ok 4 2 A 2 c exA (-3) 5 A2 1 c2 exS (by decide) (by decide) (by decide) (by decide) (by decide) w L L2
  rw [show canL (exA ++ exS) = exZ by decide] at h
  exact h
theorem Bounds_ex (L : PL w lo hi A 3 c exZ) : Calls Try.prog 17 #[.agg #[.int .i64 1, .int .i64 7, .slice A 3 c]] w fun e w' => e = .returned (.tuple #[.agg #[.int .i64 (-6), .int .i64 0, .int .i64 8, .int .i64 14], .int .i64 0]) ∧ Below w.heap.size w w' := by
  have h := Bounds_w0 1 7 A 3 c exZ (by decide) (by decide) w L
  rw [show spr exZ 1 0 = 7 by decide, show spr exZ 0 1 = 7 by decide] at h
  exact h
theorem Norm_ex (L : PL w lo hi A 3 c exN0) : Calls Try.prog 15 #[.agg #[.int .i64 0, .int .i64 0, .slice A 3 c]] w fun e w' => ∃ A c, e = .returned (.tuple #[.agg #[.int .i64 0, .int .i64 0, .slice A 2 c], .int .i64 0]) ∧ PL w' w.heap.size w'.heap.size A 2 c exN ∧ Below w.heap.size w w' := by
  have h := Norm_w0 0 0 A 3 c exN0 (by decide) (by decide) w L
  rw [show canL exN0 = exN by decide] at h
  exact h
theorem exM_box (h : ∀ p ∈ exM0, Bd 4194304 p) : boxB (insB exM0 h) 3 = [(0, 9), (11, 0), (0, 3)] := by kernel_rfl
theorem Reduce_ex (L : PL w lo hi A 4 c exM0) : Calls Try.prog 42 #[.agg #[.int .i64 0, .int .i64 0, .slice A 4 c], .int .i64 3] w fun e w' => ∃ A c, e = .returned (.tuple #[.agg #[.int .i64 0, .int .i64 0, .slice A 2 c], .int .i64 0]) ∧ PL w' w.heap.size w'.heap.size A 2 c exM ∧ Below w.heap.size w w' := by
  have hz : OkZ 0 0 exM0 := by decide
  have hc : canL exM0 = exM0 := by decide
  have hb : ∀ (h : ∀ p ∈ canL exM0, Bd 4194304 p), canL (boxB (insB (canL exM0) h) (((((canL exM0).length : Nat) : Int) + 2) - 3).toNat) = exM := by
    rw [hc]
    intro h
    rw [show ((((exM0.length : Nat) : Int) + 2) - 3).toNat = 3 by decide, exM_box h]
    decide
  have h := Reduce_w3 0 0 3 A 4 c exM0 (by decide) hz (by decide) (by decide) (by rw [hc]; decide) (by rw [hb]; decide) w L
  rw [hb] at h
  exact h
theorem Support_ex (L : PL w lo hi A 3 c exZ) : Calls Try.prog 34 #[.agg #[.int .i64 1, .int .i64 7, .slice A 3 c], .agg #[.int .i64 1, .int .i64 0]] w fun e w' => e = .returned (.int .i64 8) ∧ Below w.heap.size w w' := by
  have h := Support_w0 1 7 1 0 A 3 c exZ (by decide) (by decide) (by decide) w L
  rw [show dt 1 0 1 7 + spr exZ 1 0 = 8 by decide] at h
  exact h
theorem Area_ex (L : PL w lo hi A 3 c exZ) : Calls Try.prog 22 #[.agg #[.int .i64 1, .int .i64 7, .slice A 3 c]] w fun e w' => e = .returned (.int .i64 34) ∧ Below w.heap.size w w' := by
  have h := Area_yes 1 7 A 3 c exZ (by decide) (by decide) w L
  rw [show areaL exZ = 34 by decide] at h
  exact h
theorem Has_ex (L : PL w lo hi A 2 c exN) : Calls Try.prog 33 #[.agg #[.int .i64 0, .int .i64 0, .slice A 2 c], .int .i64 3, .int .i64 (-3)] w fun e w' => e = .returned (.bool true) ∧ Below w.heap.size w w' := by
  have h := Has_w0 0 0 3 (-3) A 2 c exN (by decide) (by decide) (by decide) (by decide) w L
  rw [decide_eq_true (show Rc exN (3 - 0) (-3 - 0) by decide)] at h
  exact h
theorem Has_ex2 (L : PL w lo hi A 2 c exN) : Calls Try.prog 33 #[.agg #[.int .i64 0, .int .i64 0, .slice A 2 c], .int .i64 4, .int .i64 0] w fun e w' => e = .returned (.bool false) ∧ Below w.heap.size w w' := by
  have h := Has_w0 0 0 4 0 A 2 c exN (by decide) (by decide) (by decide) (by decide) w L
  rw [decide_eq_false (show ¬ Rc exN (4 - 0) (0 - 0) by decide)] at h
  exact h
theorem Apart_ex (L : PL w lo hi A 2 c exN) : Calls Try.prog 40 #[.agg #[.int .i64 0, .int .i64 0, .slice A 2 c], .agg #[.int .i64 2, .int .i64 0, .int .i64 9, .int .i64 9]] w fun e w' => e = .returned (.bool true) ∧ Below w.heap.size w w' := by
  have h := Apart_yes 0 0 A 2 c exN 2 0 9 9 (by decide) (by decide) (by decide) w L
  rw [decide_eq_false (show ¬ Rc (exN ++ [(9 - 2, 0), (0, 9 - 0)]) (2 + 9 - 0) (0 + 9 - 0) by decide)] at h
  exact h
theorem Corners_ex (L : PL w lo hi A 3 c exZ) : Calls Try.prog 25 #[.agg #[.int .i64 1, .int .i64 7, .slice A 3 c]] w fun e w' => ∃ A c, e = .returned (.slice A 6 c) ∧ Below w.heap.size w w' := by
  have h := Corners_yes 1 7 A 3 c exZ (by decide) (by decide) w L
  rw [show canL exZ = exZ by decide, show (cornL (1, 7) exZ).length = 6 by decide] at h
  exact h.mono fun e w' ⟨A', c', he, _, hb⟩ => ⟨A', c', he, hb⟩
theorem Same_ex (L : PL w lo hi A 2 c exN) : Calls Try.prog 38 #[.agg #[.int .i64 0, .int .i64 0, .slice A 2 c], .agg #[.int .i64 0, .int .i64 0, .slice A 2 c]] w fun e w' => e = .returned (.bool true) ∧ Below w.heap.size w w' := by
  have h := Same_is 0 0 A 2 c exN 0 0 A 2 c exN (by decide) (by decide) w L L
  rw [decide_eq_true (by decide)] at h
  exact h
theorem Valid_ex (L : PL w lo hi A 2 c exN) : Calls Try.prog 19 #[.agg #[.int .i64 0, .int .i64 0, .slice A 2 c]] w fun e w' => e = .returned (.bool true) ∧ Below w.heap.size w w' :=
  Valid_yes (by decide) (by decide) w L
theorem Zon_ex (x y : Int) (l : List P2) (n : Nat) (hn : n ≤ 100000) (L : PL w lo hi A n c l) (L2 : PL w lo2 hi2 A2 n c2 l) : Calls Try.prog 21 #[.agg #[.int .i64 x, .int .i64 y, .slice A n c], .agg #[.int .i64 x, .int .i64 y, .slice A2 n c2]] w fun e w' => e = .returned (.bool true) ∧ Below w.heap.size w w' := by
  have h := Zonogons_any x y x y A n c l A2 n c2 l hn hn w L L2
  unfold ZonogonsV at h
  rw [if_pos rfl, if_pos rfl, decide_eq_true rfl] at h
  exact h
theorem pl_3 {g : Nat} {a b c d e f : Int} (h : Bx w g 39 #[.int .i64 a, .int .i64 b, .int .i64 c, .int .i64 d, .int .i64 e, .int .i64 f]) : PL w g (g + 1) (some ⟨g, 0, none⟩) 3 3 [(a, b), (c, d), (e, f)] := by
  refine ⟨rfl, Nat.le_refl _, h.lt, fun _ => ⟨g, 0, rfl, ⟨Nat.le_refl _, Nat.lt_succ_self _⟩, fun i hi => ?_⟩⟩
  have hi : i < 3 := hi
  match i, hi with
  | 0, _ => exact ⟨h.cell 0 rfl, h.cell 1 rfl⟩
  | 1, _ => exact ⟨h.cell 2 rfl, h.cell 3 rfl⟩
  | 2, _ => exact ⟨h.cell 4 rfl, h.cell 5 rfl⟩
theorem pl_4 {g : Nat} {a b c d e f a2 b2 : Int} (h : Bx w g 39 #[.int .i64 a, .int .i64 b, .int .i64 c, .int .i64 d, .int .i64 e, .int .i64 f, .int .i64 a2, .int .i64 b2]) : PL w g (g + 1) (some ⟨g, 0, none⟩) 4 4 [(a, b), (c, d), (e, f), (a2, b2)] := by
  refine ⟨rfl, Nat.le_refl _, h.lt, fun _ => ⟨g, 0, rfl, ⟨Nat.le_refl _, Nat.lt_succ_self _⟩, fun i hi => ?_⟩⟩
  have hi : i < 4 := hi
  match i, hi with
  | 0, _ => exact ⟨h.cell 0 rfl, h.cell 1 rfl⟩
  | 1, _ => exact ⟨h.cell 2 rfl, h.cell 3 rfl⟩
  | 2, _ => exact ⟨h.cell 4 rfl, h.cell 5 rfl⟩
  | 3, _ => exact ⟨h.cell 6 rfl, h.cell 7 rfl⟩
end
end Go.Proofs.Ytpjbkadhmjlpfaa
