/- Rows of cells below an address. -/
import Derived.Test.YtkhcogfajihecaaY19
set_option linter.unusedSimpArgs false
set_option linter.unusedVariables false
namespace Go.Proofs.Ytkhcogfajihecaa
open Go Go.RowKit Hd
/-- A row lies below an address. -/
def RowLt (v : Value) (s : Nat) : Prop := ∀ g o n c, v = .slice (some ⟨g, o, none⟩) n c → g < s
theorem OwnP.lt {w : World} {base : Nat} {v : Value} {l : List P2} (h : OwnP w base v l) : RowLt v w.heap.size := by
  intro g' o n c e
  rcases h.2 with ⟨rfl, _⟩ | ⟨g, cap, cur, rfl, hg, hh, r⟩
  · cases e
  · injection e with e1 _ _
    injection e1 with e1
    injection e1 with e1 _ _
    subst e1
    rcases Nat.lt_or_ge g w.heap.size with h1 | h1
    · exact h1
    · rw [Array.getElem?_eq_none h1] at hh; cases hh
theorem OwnP.farS {w : World} {base x s : Nat} {v : Value} {l : List P2} (h : OwnP w base v l) (hs : RowLt v s) (hx : s ≤ x) (k : Nat) (u : Value) : OwnP (w.setCell ⟨x, k, none⟩ u) base v l := by
  refine ⟨h.1, ?_⟩
  rcases h.2 with h2 | ⟨g, cap, cur, rfl, hg, hh, r⟩
  · exact .inl h2
  · have := hs g 0 _ _ rfl
    exact .inr ⟨g, cap, cur, rfl, hg, (heap_setCell_other w ⟨x, k, none⟩ g u (by show g ≠ x; omega)).trans hh, r⟩
theorem OwnP.farB {w : World} {base x : Nat} {v : Value} {l : List P2} (h : OwnP w base v l) (hx : x < base) (k : Nat) (u : Value) : OwnP (w.setCell ⟨x, k, none⟩ u) base v l := by
  refine ⟨h.1, ?_⟩
  rcases h.2 with h2 | ⟨g, cap, cur, rfl, hg, hh, r⟩
  · exact .inl h2
  · exact .inr ⟨g, cap, cur, rfl, hg, (heap_setCell_other w ⟨x, k, none⟩ g u (by show g ≠ x; omega)).trans hh, r⟩
theorem lebelS {B : Nat} {w : World} (h : B ≤ w.heap.size) (a : Addr) (u : Value) : B ≤ (w.setCell a u).heap.size := by simpa using h
end Go.Proofs.Ytkhcogfajihecaa
