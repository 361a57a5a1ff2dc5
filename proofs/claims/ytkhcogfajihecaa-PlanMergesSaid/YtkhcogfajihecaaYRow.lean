/- Rows of bytes that grow. -/
import Derived.Test.YtkhcogfajihecaaY27
set_option linter.unusedSimpArgs false
set_option linter.unusedVariables false
set_option maxRecDepth 100000
namespace Go.Proofs.Ytkhcogfajihecaa
open Go Go.RowKit Hd

/-- A row of the call's own (nil, or in a block of its own) that holds the bytes l. -/
def RV (w : World) (base : Nat) (v : Value) (l : List Int) : Prop := w.ownsRow base 5 1 v l.length (vb l)
section
variable {w w' w0 : World} {base : Nat} {v : Value} {l : List Int}
theorem rv_nil (w : World) (base : Nat) : RV w base (.slice none 0 0) [] := ⟨rfl, .inl ⟨rfl, rfl⟩⟩
theorem RV.below (h : RV w base v l) (hb : Below w.heap.size w w') : RV w' base v l := by
  refine ⟨h.1, ?_⟩
  rcases h.2 with h2 | ⟨g, cap, cur, rfl, hg, hh, r⟩
  · exact .inl h2
  · refine .inr ⟨g, cap, cur, rfl, hg, (hb.block g ?_).trans hh, r⟩
    rcases Nat.lt_or_ge g w.heap.size with h1 | h1
    · exact h1
    · rw [Array.getElem?_eq_none h1] at hh; cases hh
theorem RV.farB {x : Nat} (h : RV w base v l) (hx : x < base) (k : Nat) (u : Value) : RV (w.setCell ⟨x, k, none⟩ u) base v l := by
  refine ⟨h.1, ?_⟩
  rcases h.2 with h2 | ⟨g, cap, cur, rfl, hg, hh, r⟩
  · exact .inl h2
  · exact .inr ⟨g, cap, cur, rfl, hg, (heap_setCell_other w ⟨x, k, none⟩ g u (by show g ≠ x; omega)).trans hh, r⟩
theorem RV.kb (h : RV w base v l) (hb : ∀ b ∈ l, 0 ≤ b ∧ b ≤ 255) : ∃ A cap, v = .slice A l.length cap ∧ KB w base w.heap.size A l.length cap l := by
  rcases h.2 with ⟨rfl, h0⟩ | ⟨g, cap, cur, rfl, hg, hh, hnc, hcm, hcs, ht⟩
  · obtain rfl := List.eq_nil_of_length_eq_zero h0
    exact ⟨none, 0, rfl, kb_nil w _⟩
  · have ho : OwnV w base g cap l := ⟨h.1, .inr ⟨g, cap, cur, rfl, hg, hh, hnc, hcm, hcs, ht⟩⟩
    exact ⟨_, cap, rfl, ho.kb hb⟩
theorem own_sl {w : World} {base n : Nat} {v : Value} {vs : List Value} (h : w.ownsRow base 5 1 v n vs) : ∃ A c, v = .slice A n c := by
  rcases h.2 with ⟨rfl, h0⟩ | ⟨g, cap, cur, rfl, _⟩
  · exact ⟨none, 0, by rw [h0]⟩
  · exact ⟨_, cap, rfl⟩
theorem grownV (hown : RV w base v l) {o : Obj} (hb : base ≤ w.heap.size) (hg : (w.alloc o).grownBy w0 (Value.ownBlock v)) : Below base w w0 := by
  refine ((Below.refl _ w).alloc (Nat.le_refl _) o |>.mono hb).grown hg (by simp; omega) ?_
  intro k hk
  rcases hown.2 with ⟨rfl, _⟩ | ⟨g, cap, cur, rfl, h1, _⟩
  · simp [Value.ownBlock] at hk
  · simp only [Value.ownBlock, Option.some.injEq] at hk
    omega
theorem new_b (w : World) (x : Int) : ∀ j u, (vb [x])[j]? = some u → (w.alloc (.cells #[.int .u8 x] 5)).cell? ((⟨w.heap.size, 0, none⟩ : Addr).add j) = some u := by
  intro j u hu
  match j, hu with
  | 0, hu =>
    simp [vb] at hu
    subst hu
    simp [Addr.add]
  | j + 1, hu => simp [vb] at hu
end
end Go.Proofs.Ytkhcogfajihecaa
