/- Plain mathematics: lists of cells in their order; grids. -/
import Derived.Test.YtkhcogfajihecaaYM1
set_option linter.unusedSimpArgs false
set_option linter.unusedVariables false
namespace Go.Proofs.Ytkhcogfajihecaa
open Go Go.RowKit Hd

/-- One cell stands before another one. -/
def ltC (a b : P2) : Prop := a.2 < b.2 ∨ a.2 = b.2 ∧ a.1 < b.1
instance (a b : P2) : Decidable (ltC a b) := inferInstanceAs (Decidable (_ ∨ _))
/-- Cells in their order. -/
def SrC (l : List P2) : Prop := l.Pairwise ltC
theorem ltC.trans {a b c : P2} (h : ltC a b) (g : ltC b c) : ltC a c := by unfold ltC at *; omega
theorem ltC.irr {a : P2} (h : ltC a a) : False := by unfold ltC at h; omega
theorem sr_ext : ∀ {l m : List P2}, SrC l → SrC m → (∀ c, c ∈ l ↔ c ∈ m) → l = m
  | [], [], _, _, _ => rfl
  | [], b :: m, _, _, h => absurd ((h b).2 (List.mem_cons_self)) (by simp)
  | a :: l, [], _, _, h => absurd ((h a).1 (List.mem_cons_self)) (by simp)
  | a :: l, b :: m, hl, hm, h => by
    have hl' := List.pairwise_cons.1 hl
    have hm' := List.pairwise_cons.1 hm
    have e : a = b := by
      rcases List.mem_cons.1 ((h a).1 List.mem_cons_self) with h1 | h1
      · exact h1
      · rcases List.mem_cons.1 ((h b).2 List.mem_cons_self) with h2 | h2
        · exact h2.symm
        · exact ((hm'.1 a h1).trans (hl'.1 b h2)).irr.elim
    subst e
    congr 1
    refine sr_ext hl'.2 hm'.2 (fun c => ?_)
    constructor
    · intro hc
      rcases List.mem_cons.1 ((h c).1 (List.mem_cons_of_mem _ hc)) with h1 | h1
      · subst h1; exact (hl'.1 _ hc).irr.elim
      · exact h1
    · intro hc
      rcases List.mem_cons.1 ((h c).2 (List.mem_cons_of_mem _ hc)) with h1 | h1
      · subst h1; exact (hm'.1 _ hc).irr.elim
      · exact h1
theorem sr_app {l m : List P2} (hl : SrC l) (hm : SrC m) (h : ∀ a ∈ l, ∀ b ∈ m, ltC a b) : SrC (l ++ m) := List.pairwise_append.2 ⟨hl, hm, h⟩
theorem sr_rowK (y a : Int) (k : Nat) : SrC (rowK y a k) := by
  induction k with
  | zero => exact List.Pairwise.nil
  | succ k ih =>
    refine sr_app ih (List.pairwise_singleton _ _) (fun u hu b hb => ?_)
    rw [mem_rowK] at hu
    rw [List.mem_singleton] at hb
    subst hb
    exact .inr ⟨hu.1, by dsimp only; omega⟩
theorem sr_swK (x0 y0 x1 y1 x y d lo hi Y0 : Int) (k : Nat) : SrC (swK x0 y0 x1 y1 x y d lo hi Y0 k) := by
  induction k with
  | zero => exact List.Pairwise.nil
  | succ k ih =>
    refine sr_app ih (sr_rowK _ _ _) (fun u hu b hb => ?_)
    rw [mem_swK] at hu
    rw [mem_rowK] at hb
    exact .inl (by omega)
/-- The cells of a row, and of many rows, that have a property. -/
def rowF (P : Int → Int → Bool) (y x : Int) : Nat → List P2
  | 0 => []
  | k + 1 => rowF P y x k ++ (if P (x + (k : Int)) y = true then [(x + (k : Int), y)] else [])
def gridF (P : Int → Int → Bool) (x Y0 : Int) (n : Nat) : Nat → List P2
  | 0 => []
  | k + 1 => gridF P x Y0 n k ++ rowF P (Y0 + (k : Int)) x n
theorem mem_rowF {P : Int → Int → Bool} {y x : Int} {k : Nat} {c : P2} : c ∈ rowF P y x k ↔ c.2 = y ∧ (x ≤ c.1 ∧ c.1 < x + k) ∧ P c.1 c.2 = true := by
  induction k with
  | zero => simp [rowF]; omega
  | succ k ih =>
    rw [rowF, List.mem_append, ih]
    constructor
    · rintro (⟨h1, h2, h3⟩ | h)
      · exact ⟨h1, by omega, h3⟩
      · split at h
        · rename_i hp
          rw [List.mem_singleton] at h; subst h; exact ⟨rfl, by dsimp only; omega, hp⟩
        · cases h
    · rintro ⟨h1, h2, h3⟩
      by_cases h : c.1 < x + k
      · exact .inl ⟨h1, by omega, h3⟩
      · right
        obtain ⟨c1, c2⟩ := c
        dsimp only at *
        have e : c1 = x + k := by omega
        subst h1 e
        rw [if_pos h3]; exact List.mem_singleton.2 rfl
theorem mem_gridF {P : Int → Int → Bool} {x Y0 : Int} {n k : Nat} {c : P2} : c ∈ gridF P x Y0 n k ↔ (Y0 ≤ c.2 ∧ c.2 < Y0 + k) ∧ (x ≤ c.1 ∧ c.1 < x + n) ∧ P c.1 c.2 = true := by
  induction k with
  | zero => simp [gridF]; omega
  | succ k ih =>
    rw [gridF, List.mem_append, ih, mem_rowF]
    constructor
    · rintro (⟨h1, h2⟩ | ⟨h1, h2⟩)
      · exact ⟨by omega, h2⟩
      · exact ⟨by omega, h2⟩
    · rintro ⟨h1, h2⟩
      by_cases h : c.2 < Y0 + k
      · exact .inl ⟨by omega, h2⟩
      · exact .inr ⟨by omega, h2⟩
theorem sr_rowF (P : Int → Int → Bool) (y x : Int) (k : Nat) : SrC (rowF P y x k) := by
  induction k with
  | zero => exact List.Pairwise.nil
  | succ k ih =>
    refine sr_app ih (by split; exact List.pairwise_singleton _ _; exact List.Pairwise.nil) (fun u hu b hb => ?_)
    rw [mem_rowF] at hu
    split at hb
    · rw [List.mem_singleton] at hb; subst hb; exact .inr ⟨hu.1, by dsimp only; omega⟩
    · cases hb
theorem sr_gridF (P : Int → Int → Bool) (x Y0 : Int) (n k : Nat) : SrC (gridF P x Y0 n k) := by
  induction k with
  | zero => exact List.Pairwise.nil
  | succ k ih =>
    refine sr_app ih (sr_rowF _ _ _ _) (fun u hu b hb => ?_)
    rw [mem_gridF] at hu
    rw [mem_rowF] at hb
    exact .inl (by omega)
theorem rowF_len (P : Int → Int → Bool) (y x : Int) (k : Nat) : (rowF P y x k).length ≤ k := by
  induction k with
  | zero => simp [rowF]
  | succ k ih => rw [rowF, List.length_append]; split <;> simp <;> omega
theorem gridF_len (P : Int → Int → Bool) (x Y0 : Int) (n k : Nat) : (gridF P x Y0 n k).length ≤ k * n := by
  induction k with
  | zero => simp [gridF]
  | succ k ih => rw [gridF, List.length_append, Nat.succ_mul]; have := rowF_len P (Y0 + k) x n; omega
end Go.Proofs.Ytkhcogfajihecaa
