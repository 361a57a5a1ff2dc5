/- An element of a list of points, by its number. -/
import Derived.Test.YtpjbkadhmjlpfaaZBase
import Derived.Test.YtpjbkadhmjlpfaaZ1
set_option linter.unusedSimpArgs false
set_option linter.unusedVariables false
namespace Go.Proofs.Ytpjbkadhmjlpfaa
open Go Go.RowKit Hd
theorem PL.el {w : World} {lo hi g o n c i : Nat} {l : List P2} {px py : Int} (h : PL w lo hi (some ⟨g, o, none⟩) n c l) (hi' : i < n) (e : l.getD i z2 = (px, py)) : w.cell? ⟨g, o + i * 2, none⟩ = some (.int .i64 px) ∧ w.cell? ⟨g, o + i * 2 + 1, none⟩ = some (.int .i64 py) := by
  obtain ⟨g', o', e1, -, h1, h2⟩ := h.elem hi'
  cases e1
  rw [e] at h1 h2
  exact ⟨h1, h2⟩
theorem sm_dr (w : World) : Below w.heap.size w w.drew := ⟨rfl, rfl, rfl, Nat.le_refl _, fun _ _ => rfl⟩
theorem rb {b c : Bool} (h : b = c) : Ending.returned (.bool b) = .returned (.bool c) := by rw [h]
/-- A row lies below an address. -/
def RowLt (v : Value) (s : Nat) : Prop := ∀ g o n c, v = .slice (some ⟨g, o, none⟩) n c → g < s
theorem OwnP.lt {w : World} {base : Nat} {v : Value} {l : List P2} (h : OwnP w base v l) : RowLt v w.heap.size := by
  intro g' o n c e
  rcases h.2 with ⟨rfl, _⟩ | ⟨g, cap, cur, rfl, hg, hh, r⟩
  · cases e
  · injection e with e1 _ _
    injection e1 with e1
    injection e1 with e1 _ _
    subst e1
    rcases Nat.lt_or_ge g w.heap.size with h1 | h1
    · exact h1
    · rw [Array.getElem?_eq_none h1] at hh; cases hh
theorem OwnP.farS {w : World} {base x s : Nat} {v : Value} {l : List P2} (h : OwnP w base v l) (hs : RowLt v s) (hx : s ≤ x) (k : Nat) (u : Value) : OwnP (w.setCell ⟨x, k, none⟩ u) base v l := by
  refine ⟨h.1, ?_⟩
  rcases h.2 with h2 | ⟨g, cap, cur, rfl, hg, hh, r⟩
  · exact .inl h2
  · have := hs g 0 _ _ rfl
    exact .inr ⟨g, cap, cur, rfl, hg, (heap_setCell_other w ⟨x, k, none⟩ g u (by show g ≠ x; omega)).trans hh, r⟩
theorem OwnP.farB {w : World} {base x : Nat} {v : Value} {l : List P2} (h : OwnP w base v l) (hx : x < base) (k : Nat) (u : Value) : OwnP (w.setCell ⟨x, k, none⟩ u) base v l := by
  refine ⟨h.1, ?_⟩
  rcases h.2 with h2 | ⟨g, cap, cur, rfl, hg, hh, r⟩
  · exact .inl h2
  · exact .inr ⟨g, cap, cur, rfl, hg, (heap_setCell_other w ⟨x, k, none⟩ g u (by show g ≠ x; omega)).trans hh, r⟩
theorem lebelS {B : Nat} {w : World} (h : B ≤ w.heap.size) (a : Addr) (u : Value) : B ≤ (w.setCell a u).heap.size := by simpa using h
end Go.Proofs.Ytpjbkadhmjlpfaa
