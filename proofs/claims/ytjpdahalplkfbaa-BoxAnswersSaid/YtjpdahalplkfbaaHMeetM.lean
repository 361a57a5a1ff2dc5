/- Plain mathematics: the marks of two arcs, as arcs. -/
import Derived.Test.YtjpdahalplkfbaaHMeet2
namespace Go.Proofs.Ytjpdahalplkfbaa
open Go Go.RowKit Hd

theorem both_iff {f c g d m : Int} : bothB f c g d m = true ↔ (m - f) % 256 < c ∧ (m - g) % 256 < d := by unfold bothB hasB; simp
theorem start_iff {f c g d m : Int} : startB f c g d m = true ↔ ((m - f) % 256 < c ∧ (m - g) % 256 < d) ∧ ¬ ((m - 1 - f) % 256 < c ∧ (m - 1 - g) % 256 < d) := by
  unfold startB
  rw [Bool.and_eq_true, both_iff, Bool.not_eq_true', ← Bool.not_eq_true, both_iff]
/-- A meet begins where one of the arcs does. -/
theorem start_at {f c g d m : Int} (ha : OkA f c) (hb : OkA g d) (m0 : 0 ≤ m) (m1 : m ≤ 255) (h : startB f c g d m = true) : (m = f ∧ c < 256) ∨ (m = g ∧ d < 256) := by
  have a0 := ha.f0; have a1 := ha.f1; have a2 := ha.c0; have a3 := ha.c1
  have b0 := hb.f0; have b1 := hb.f1; have b2 := hb.c0; have b3 := hb.c1
  have := start_iff.1 h
  omega
/-- How many marks follow. -/
theorem cnt_both {f c g d m n : Int} (ha : OkA f c) (hb : OkA g d) (h : startB f c g d m = true) (n0 : 1 ≤ n) (n1 : n ≤ cntM f c g d m) : (bothB f c g d (m + n) = true ↔ n < cntM f c g d m) ∧ cntM f c g d m ≤ 255 := by
  have a2 := ha.c0; have a3 := ha.c1
  have b2 := hb.c0; have b3 := hb.c1
  have hs := start_iff.1 h
  rw [both_iff]
  unfold cntM ah at *
  split at n1 <;> split at n1 <;> (try split at n1) <;> (try split) <;> (try split) <;> (try split) <;> omega
theorem cnt_pos {f c g d m : Int} (ha : OkA f c) (hb : OkA g d) (h : startB f c g d m = true) : 1 ≤ cntM f c g d m := by
  have hs := start_iff.1 h
  have a2 := ha.c0; have b2 := hb.c0
  unfold cntM ah
  split <;> split <;> omega
/-- The reference's list, of the marks below k. -/
def refL (f c g d : Int) : Nat → List (Int × Int)
  | 0 => []
  | k + 1 => addAt f c g d (refL f c g d k) k
theorem refL_le (f c g d : Int) (k : Nat) : (refL f c g d k).length ≤ k := by
  induction k with
  | zero => exact Nat.le_refl _
  | succ k ih => exact addAt_le ih
theorem add_no {f c g d m : Int} {l : List (Int × Int)} (h : startB f c g d m = false) : addAt f c g d l m = l := by unfold addAt; rw [h]; rfl
theorem no_start {f c g d m : Int} (ha : OkA f c) (hb : OkA g d) (m0 : 0 ≤ m) (m1 : m ≤ 255) (hf : m ≠ f) (hg : m ≠ g) : startB f c g d m = false := by
  rcases h : startB f c g d m with _ | _
  · rfl
  · have := start_at ha hb m0 m1 h; omega
/-- Of two beginnings p below q. -/
def twoL (f c g d p q : Int) (k : Nat) : List (Int × Int) :=
  if q < k then addAt f c g d (addAt f c g d [] p) q else if p < k then addAt f c g d [] p else []
theorem ref_two {f c g d p q : Int} (ha : OkA f c) (hb : OkA g d) (hp : p = f ∨ p = g) (hq : q = f ∨ q = g) (hfg : (f = p ∨ f = q) ∧ (g = p ∨ g = q)) (hpq : p < q) {k : Nat} (hk : k ≤ 256) : refL f c g d k = twoL f c g d p q k := by
  have a0 := ha.f0; have a1 := ha.f1
  have b0 := hb.f0; have b1 := hb.f1
  induction k with
  | zero => unfold refL twoL; rw [if_neg (by omega), if_neg (by omega)]
  | succ k ih =>
    show addAt f c g d (refL f c g d k) k = _
    rw [ih (by omega)]
    unfold twoL
    by_cases h1 : (k : Int) = q
    · rw [if_neg (show ¬ q < (k : Int) by omega), if_pos (show p < (k : Int) by omega), if_pos (show q < ((k + 1 : Nat) : Int) by omega), h1]
    · by_cases h2 : (k : Int) = p
      · rw [if_neg (show ¬ q < (k : Int) by omega), if_neg (show ¬ p < (k : Int) by omega), if_neg (show ¬ q < ((k + 1 : Nat) : Int) by omega), if_pos (show p < ((k + 1 : Nat) : Int) by omega), h2]
      · rw [add_no (no_start ha hb (by omega) (by omega) (by omega) (by omega))]
        by_cases h3 : q < (k : Int)
        · rw [if_pos h3, if_pos (by omega)]
        · rw [if_neg h3, if_neg (show ¬ q < ((k + 1 : Nat) : Int) by omega)]
          by_cases h4 : p < (k : Int)
          · rw [if_pos h4, if_pos (by omega)]
          · rw [if_neg h4, if_neg (by omega)]
theorem ref_one {f c d : Int} (ha : OkA f c) (hb : OkA f d) {k : Nat} (hk : k ≤ 256) : refL f c f d k = if f < k then addAt f c f d [] f else [] := by
  have a0 := ha.f0
  induction k with
  | zero => unfold refL; rw [if_neg (by omega)]
  | succ k ih =>
    show addAt f c f d (refL f c f d k) k = _
    rw [ih (by omega)]
    by_cases h1 : (k : Int) = f
    · rw [if_neg (show ¬ f < (k : Int) by omega), if_pos (by omega), h1]
    · rw [add_no (no_start ha hb (by omega) (by omega) (by omega) (by omega))]
      by_cases h3 : f < (k : Int)
      · rw [if_pos h3, if_pos (by omega)]
      · rw [if_neg h3, if_neg (by omega)]
/-- The reference's answer. -/
def refAll (f c g d : Int) : List (Int × Int) := if refL f c g d 256 = [] ∧ bothB f c g d 0 = true then [(0, 256)] else refL f c g d 256
theorem add_nil {f c g d m : Int} {l : List (Int × Int)} (h : addAt f c g d l m = []) : l = [] ∧ startB f c g d m = false := by
  unfold addAt at h
  split at h
  · simp at h
  · rename_i hs
    exact ⟨h, by simpa using hs⟩
/-- Where no meet begins, no mark is in both, or all are. -/
theorem none_both {f c g d : Int} (ha : OkA f c) (hb : OkA g d) (hn : ¬ (c = 256 ∧ d = 256)) (h1 : startB f c g d f = false) (h2 : startB f c g d g = false) : bothB f c g d 0 = false := by
  have a0 := ha.f0; have a1 := ha.f1; have a2 := ha.c0; have a3 := ha.c1; have a4 := ha.full
  have b0 := hb.f0; have b1 := hb.f1; have b2 := hb.c0; have b3 := hb.c1; have b4 := hb.full
  rcases h : bothB f c g d 0 with _ | _
  · rfl
  · exfalso
    have hh := both_iff.1 h
    have k1 : ¬ (startB f c g d f = true) := by rw [h1]; decide
    have k2 : ¬ (startB f c g d g = true) := by rw [h2]; decide
    rw [start_iff] at k1 k2
    omega
theorem all_two {f c g d p q : Int} (ha : OkA f c) (hb : OkA g d) (hn : ¬ (c = 256 ∧ d = 256)) (hp : p = f ∨ p = g) (hq : q = f ∨ q = g) (hfg : (f = p ∨ f = q) ∧ (g = p ∨ g = q)) (hpq : p < q) : refAll f c g d = addAt f c g d (addAt f c g d [] p) q := by
  have a1 := ha.f1; have b1 := hb.f1
  have e := ref_two ha hb hp hq hfg hpq (k := 256) (Nat.le_refl _)
  unfold twoL at e
  rw [if_pos (by omega)] at e
  unfold refAll
  rw [e]
  by_cases h : addAt f c g d (addAt f c g d [] p) q = []
  · obtain ⟨h1, h2⟩ := add_nil h
    obtain ⟨-, h3⟩ := add_nil h1
    have key : ∀ m, m = p ∨ m = q → startB f c g d m = false := fun m hm => by rcases hm with e | e <;> (rw [e]; assumption)
    have hf := key f hfg.1
    have hg := key g hfg.2
    rw [if_neg (fun hh => by rw [none_both ha hb hn hf hg] at hh; exact absurd hh.2 (by decide))]
  · rw [if_neg (fun hh => h hh.1)]
theorem all_one {f c d : Int} (ha : OkA f c) (hb : OkA f d) (hn : ¬ (c = 256 ∧ d = 256)) : refAll f c f d = addAt f c f d [] f := by
  have a1 := ha.f1
  have e := ref_one ha hb (k := 256) (Nat.le_refl _)
  rw [if_pos (by omega)] at e
  unfold refAll
  rw [e]
  by_cases h : addAt f c f d [] f = []
  · obtain ⟨-, h2⟩ := add_nil h
    rw [if_neg (fun hh => by rw [none_both ha hb hn h2 h2] at hh; exact absurd hh.2 (by decide))]
  · rw [if_neg (fun hh => h hh.1)]
theorem all_full : refAll 0 256 0 256 = [(0, 256)] := by
  have h0 : ∀ k, k ≤ 256 → refL 0 256 0 256 k = [] := by
    intro k hk
    induction k with
    | zero => rfl
    | succ k ih =>
      show addAt 0 256 0 256 (refL 0 256 0 256 k) k = []
      rw [ih (by omega), add_no]
      rcases h : startB 0 256 0 256 (k : Int) with _ | _
      · rfl
      · have := start_iff.1 h; omega
  unfold refAll
  rw [if_pos ⟨h0 256 (Nat.le_refl _), both_iff.2 (by omega)⟩]
end Go.Proofs.Ytjpdahalplkfbaa
