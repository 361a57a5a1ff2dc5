/- Plain mathematics: one list of cells in another. -/
import Derived.Test.YtkhcogfajihecaaYM3
import Derived.Test.YtkhcogfajihecaaYBase
set_option linter.unusedSimpArgs false
set_option linter.unusedVariables false
namespace Go.Proofs.Ytkhcogfajihecaa
open Go Go.RowKit Hd

theorem getD_eq {l : List P2} {i : Nat} (h : i < l.length) : l.getD i z2 = l[i] := by rw [List.getD_eq_getElem?_getD, List.getElem?_eq_getElem h]; rfl
theorem sr_get {l : List P2} (h : SrC l) {i j : Nat} (hij : i < j) (hj : j < l.length) : ltC (l.getD i z2) (l.getD j z2) := by
  rw [getD_eq (by omega), getD_eq hj]
  exact List.pairwise_iff_getElem.1 h i j (by omega) hj hij
/-- Where the cell before the i-th of l stands in m. -/
def posC (l m : List P2) : Nat → Nat
  | 0 => 0
  | i + 1 => m.idxOf (l.getD i z2)
theorem pos_at {l m : List P2} (hs : ∀ c ∈ l, c ∈ m) {i : Nat} (hi : i < l.length) : posC l m (i + 1) < m.length ∧ m.getD (posC l m (i + 1)) z2 = l.getD i z2 := by
  have hm : l.getD i z2 ∈ m := hs _ (by rw [getD_eq hi]; exact List.getElem_mem hi)
  have h1 : m.idxOf (l.getD i z2) < m.length := List.idxOf_lt_length_of_mem hm
  exact ⟨h1, by show m.getD (m.idxOf (l.getD i z2)) z2 = _; rw [getD_eq h1]; exact List.getElem_idxOf h1⟩
theorem pos_mono {l m : List P2} (hl : SrC l) (hm : SrC m) (hs : ∀ c ∈ l, c ∈ m) {i : Nat} (hi : i < l.length) : posC l m i ≤ posC l m (i + 1) := by
  cases i with
  | zero => exact Nat.zero_le _
  | succ i =>
    obtain ⟨a1, a2⟩ := pos_at hs (i := i) (by omega)
    obtain ⟨b1, b2⟩ := pos_at hs hi
    rcases Nat.lt_or_ge (posC l m (i + 1 + 1)) (posC l m (i + 1)) with h | h
    · have k1 := sr_get hm h a1
      rw [a2, b2] at k1
      have k2 := sr_get hl (show i < i + 1 by omega) hi
      exact (k1.trans k2).irr.elim
    · exact h
theorem pos_lt {l m : List P2} (hm : SrC m) (hs : ∀ c ∈ l, c ∈ m) {i j : Nat} (hi : i < l.length) (hj : j < posC l m (i + 1)) : ltC (m.getD j z2) (l.getD i z2) := by
  obtain ⟨b1, b2⟩ := pos_at hs hi
  have := sr_get hm hj b1
  rwa [b2] at this
end Go.Proofs.Ytkhcogfajihecaa
