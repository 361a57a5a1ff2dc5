/- Lists of bytes in memory. -/
import Derived.Test.YtkhcogfajihecaaYBase
set_option linter.unusedSimpArgs false
set_option linter.unusedVariables false
namespace Go.Proofs.Ytkhcogfajihecaa
open Go Go.RowKit Hd

/-- The slice (A, n, cap) reads as the bytes l; they lie in a block from lo on, before hi. -/
structure KB (w : World) (lo hi : Nat) (A : Option Addr) (n cap : Nat) (l : List Int) : Prop where
  len : n = l.length
  cap : n ≤ cap
  top : hi ≤ w.heap.size
  byte : ∀ b ∈ l, 0 ≤ b ∧ b ≤ 255
  row : l ≠ [] → ∃ g o, A = some ⟨g, o, none⟩ ∧ (lo ≤ g ∧ g < hi) ∧ ∀ i, i < l.length → w.cell? ⟨g, o + i, none⟩ = some (.int .u8 (l.getD i 0))
section
variable {w w' : World} {lo hi : Nat} {A : Option Addr} {n cap : Nat} {l : List Int}
theorem KB.below (h : KB w lo hi A n cap l) (hb : Below w.heap.size w w') : KB w' lo hi A n cap l :=
  ⟨h.len, h.cap, Nat.le_trans h.top hb.size, h.byte, fun hne => by obtain ⟨g, o, rfl, hg, hc⟩ := h.row hne; exact ⟨g, o, rfl, hg, fun i hi' => (hb.cell (p := ⟨g, o + i, none⟩) (Nat.lt_of_lt_of_le hg.2 h.top)).trans (hc i hi')⟩⟩
theorem KB.belowB {B : Nat} (h : KB w lo hi A n cap l) (hb : Below B w w') (hB : hi ≤ B) : KB w' lo hi A n cap l :=
  ⟨h.len, h.cap, Nat.le_trans h.top hb.size, h.byte, fun hne => by
    obtain ⟨g, o, rfl, hg, hc⟩ := h.row hne
    exact ⟨g, o, rfl, hg, fun i hi' => (hb.cell (p := ⟨g, o + i, none⟩) (by have := hg.2; show g < B; omega)).trans (hc i hi')⟩⟩
theorem KB.set (h : KB w lo hi A n cap l) {x : Nat} (hx : x < lo ∨ hi ≤ x) (k : Nat) (v : Value) : KB (w.setCell ⟨x, k, none⟩ v) lo hi A n cap l := by
  refine ⟨h.len, h.cap, by have := h.top; simpa using this, h.byte, fun hne => ?_⟩
  obtain ⟨g, o, rfl, hg, hc⟩ := h.row hne
  have ne : g ≠ x := by omega
  exact ⟨g, o, rfl, hg, fun i hi' => (cell_far ne _ _ _).trans (hc i hi')⟩
theorem KB.wide {lo' hi' : Nat} (h : KB w lo hi A n cap l) (h1 : lo' ≤ lo) (h2 : hi ≤ hi') (h3 : hi' ≤ w.heap.size) : KB w lo' hi' A n cap l :=
  ⟨h.len, h.cap, h3, h.byte, fun hne => by obtain ⟨g, o, rfl, hg, hc⟩ := h.row hne; exact ⟨g, o, rfl, ⟨by omega, by omega⟩, hc⟩⟩
theorem KB.outw {lo' : Nat} (h : KB w lo hi A n cap l) (h1 : lo' ≤ lo) : KB w lo' w.heap.size A n cap l := h.wide h1 h.top (Nat.le_refl _)
theorem KB.elem (h : KB w lo hi A n cap l) {i : Nat} (hi' : i < n) : ∃ g o, A = some ⟨g, o, none⟩ ∧ (lo ≤ g ∧ g < hi) ∧ w.cell? ⟨g, o + i, none⟩ = some (.int .u8 (l.getD i 0)) := by
  have hl := h.len
  obtain ⟨g, o, e, hg, hc⟩ := h.row (fun e => by rw [e] at hl; simp at hl; omega)
  exact ⟨g, o, e, hg, hc i (by omega)⟩
theorem KB.el {g o i : Nat} {b : Int} (h : KB w lo hi (some ⟨g, o, none⟩) n cap l) (hi' : i < n) (e : l.getD i 0 = b) : w.cell? ⟨g, o + i, none⟩ = some (.int .u8 b) := by
  obtain ⟨g', o', e1, -, h1⟩ := h.elem hi'
  cases e1
  rw [e] at h1
  exact h1
theorem KB.mem (h : KB w lo hi A n cap l) {i : Nat} (hi' : i < n) : 0 ≤ l.getD i 0 ∧ l.getD i 0 ≤ 255 := by
  have hl := h.len
  refine h.byte _ ?_
  rw [List.getD_eq_getElem?_getD, List.getElem?_eq_getElem (show i < l.length by omega)]
  simp
end
theorem getB_mem {l : List Int} {k : Nat} (h : k < l.length) : l.getD k 0 ∈ l := by
  rw [List.getD_eq_getElem?_getD, List.getElem?_eq_getElem h]
  simp
theorem take_snocB (l : List Int) {k : Nat} (h : k < l.length) : l.take (k + 1) = l.take k ++ [l.getD k 0] := by
  rw [List.take_add_one, List.getD_eq_getElem?_getD, List.getElem?_eq_getElem h]
  simp
theorem kb_nil (w : World) (lo : Nat) : KB w lo w.heap.size none 0 0 [] := ⟨rfl, Nat.le_refl _, Nat.le_refl _, by simp, fun h => absurd rfl h⟩
end Go.Proofs.Ytkhcogfajihecaa
