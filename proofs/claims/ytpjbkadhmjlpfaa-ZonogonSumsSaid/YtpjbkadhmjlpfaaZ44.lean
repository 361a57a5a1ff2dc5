/- both sides of layer 7 alike: bounds, equal lists. -/
import Derived.Test.YtpjbkadhmjlpfaaZ41
set_option linter.unusedVariables false
set_option linter.unusedSimpArgs false
namespace Go.Proofs.Ytpjbkadhmjlpfaa
open Go Go.RowKit Hd

theorem sup_dir {x y : Int} {l : List P2} (hz : OkZ x y l) : (-supX x y l (-1) 0 = x - spr l 1 0) ∧ (-supX x y l 0 (-1) = y - spr l 0 1) ∧ (supX x y l 1 0 = x + spr l 1 0) ∧ (supX x y l 0 1 = y + spr l 0 1) := by
  have e1 := spr_neg l (1, 0)
  have e2 := spr_neg l (0, 1)
  simp only [Int.neg_zero] at e1 e2
  have w1 : Wi (-1) 65536 := ⟨by omega, by omega⟩
  have w0 : Wi 0 65536 := ⟨by omega, by omega⟩
  have w2 : Wi 1 65536 := ⟨by omega, by omega⟩
  unfold supX
  rw [if_pos ⟨hz, w1, w0⟩, if_pos ⟨hz, w0, w1⟩, if_pos ⟨hz, w2, w0⟩, if_pos ⟨hz, w0, w2⟩, e1, e2]
  unfold dt
  refine ⟨by omega, by omega, by omega, by omega⟩
theorem RBounds_q {x y : Int} (A : Option Addr) (n c : Nat) (l : List P2) (hn : n ≤ 50) (hz : OkZ x y l) (w : World) {lo hi : Nat} (L : PL w lo hi A n c l) :
    Calls Try.prog 18 #[.agg #[.int .i64 x, .int .i64 y, .slice A n c]] w fun e w' => e = .returned (.tuple #[.agg #[.int .i64 (x - spr l 1 0), .int .i64 (y - spr l 0 1), .int .i64 (x + spr l 1 0), .int .i64 (y + spr l 0 1)], .int .i64 0]) ∧ Below w.heap.size w w' := by
  have h := RBounds_yes x y A n c l hn hz w L
  obtain ⟨e1, e2, e3, e4⟩ := sup_dir hz
  rw [e1, e2, e3, e4] at h
  exact h
theorem Bounds_q {x y : Int} (A : Option Addr) (n c : Nat) (l : List P2) (hn : n ≤ 1000) (hz : OkZ x y l) (w : World) {lo hi : Nat} (L : PL w lo hi A n c l) :
    Calls Try.prog 17 #[.agg #[.int .i64 x, .int .i64 y, .slice A n c]] w fun e w' => e = .returned (.tuple #[.agg #[.int .i64 (x - spr l 1 0), .int .i64 (y - spr l 0 1), .int .i64 (x + spr l 1 0), .int .i64 (y + spr l 0 1)], .int .i64 0]) ∧ Below w.heap.size w w' := by
  have h := Bounds_any x y A n c l hn w L
  rw [show BoundsV x y A n c l = _ from if_pos hz] at h
  exact h
theorem Bounds_n {x y : Int} (A : Option Addr) (n c : Nat) (l : List P2) (hn : n ≤ 1000) (hz : ¬ OkZ x y l) (w : World) {lo hi : Nat} (L : PL w lo hi A n c l) :
    Calls Try.prog 17 #[.agg #[.int .i64 x, .int .i64 y, .slice A n c]] w fun e w' => e = .returned (.tuple #[.agg #[.int .i64 0, .int .i64 0, .int .i64 0, .int .i64 0], .int .i64 1]) ∧ Below w.heap.size w w' := by
  have h := Bounds_any x y A n c l hn w L
  rw [show BoundsV x y A n c l = _ from if_neg hz] at h
  exact h
theorem zonS (w : World) (x y : Int) (l : List P2) {A1 A2 : Option Addr} {c1 c2 lo hi lo2 hi2 : Nat} (hn : l.length ≤ 100000) (L : PL w lo hi A1 l.length c1 l) (L2 : PL w lo2 hi2 A2 l.length c2 l) :
    Calls Try.prog 21 #[.agg #[.int .i64 x, .int .i64 y, .slice A1 l.length c1], .agg #[.int .i64 x, .int .i64 y, .slice A2 l.length c2]] w fun e w' => e = .returned (.bool true) ∧ Below w.heap.size w w' := by
  have h := Zonogons_any x y x y A1 l.length c1 l A2 l.length c2 l hn hn w L L2
  simp only [ZonogonsV, if_true, decide_true] at h
  exact h
theorem zonN (w : World) :
    Calls Try.prog 21 #[.agg #[.int .i64 0, .int .i64 0, .slice none 0 0], .agg #[.int .i64 0, .int .i64 0, .slice none 0 0]] w fun e w' => e = .returned (.bool true) ∧ Below w.heap.size w w' := by
  have P : PL w 0 w.heap.size none 0 0 [] := ⟨rfl, Nat.le_refl _, Nat.le_refl _, fun h => absurd rfl h⟩
  have h := Zonogons_any 0 0 0 0 none 0 0 [] none 0 0 [] (by decide) (by decide) w P P
  simp only [ZonogonsV, if_true, decide_true] at h
  exact h
theorem ptsS (w : World) (l : List P2) {A1 A2 : Option Addr} {c1 c2 lo hi lo2 hi2 : Nat} (hn : l.length ≤ 100000) (L : PL w lo hi A1 l.length c1 l) (L2 : PL w lo2 hi2 A2 l.length c2 l) :
    Calls Try.prog 24 #[.slice A1 l.length c1, .slice A2 l.length c2] w fun e w' => e = .returned (.bool true) ∧ Below w.heap.size w w' := by
  have h := Points_is A1 l.length c1 l A2 l.length c2 l hn hn w L L2
  rw [decide_eq_true rfl] at h
  exact h
theorem ptsN (w : World) :
    Calls Try.prog 24 #[.slice none 0 0, .slice none 0 0] w fun e w' => e = .returned (.bool true) ∧ Below w.heap.size w w' := by
  have P : PL w 0 w.heap.size none 0 0 [] := ⟨rfl, Nat.le_refl _, Nat.le_refl _, fun h => absurd rfl h⟩
  have h := Points_is none 0 0 [] none 0 0 [] (by decide) (by decide) w P P
  rw [decide_eq_true rfl] at h
  exact h
end Go.Proofs.Ytpjbkadhmjlpfaa
