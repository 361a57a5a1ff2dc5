/- Lists of boxes. -/
import Derived.Test.YtjpdahalplkfbaaB5
import Derived.Test.YtjpdahalplkfbaaHMeets
set_option linter.unusedSimpArgs false
set_option linter.unusedVariables false
namespace Go.Proofs.Ytjpdahalplkfbaa
open Go Go.RowKit Hd

/-- The six numbers of a box. -/
abbrev I6 := Int × Int × Int × Int × Int × Int
/-- The cells of a list of boxes. -/
def bxs (l : List I6) : List Value := l.flatMap fun p => [.int .i64 p.1, .int .i64 p.2.1, .int .i64 p.2.2.1, .int .i64 p.2.2.2.1, .int .i64 p.2.2.2.2.1, .int .i64 p.2.2.2.2.2]
theorem bxs_snoc (l : List I6) (a b c d e f : Int) : bxs l ++ [.int .i64 a, .int .i64 b, .int .i64 c, .int .i64 d, .int .i64 e, .int .i64 f] = bxs (l ++ [(a, b, c, d, e, f)]) := by simp [bxs]
theorem bxs_length (l : List I6) : (bxs l).length = l.length * 6 := by
  induction l with
  | nil => rfl
  | cons p l ih => simp [bxs, List.flatMap_cons] at *; omega
/-- The six cells of the box at place i of a row that begins at o. -/
def At6 (w : World) (g o i : Nat) (p : I6) : Prop := w.cell? ⟨g, o + i * 6, none⟩ = some (.int .i64 p.1) ∧ w.cell? ⟨g, o + i * 6 + 1, none⟩ = some (.int .i64 p.2.1) ∧ w.cell? ⟨g, o + i * 6 + 2, none⟩ = some (.int .i64 p.2.2.1) ∧ w.cell? ⟨g, o + i * 6 + 3, none⟩ = some (.int .i64 p.2.2.2.1) ∧ w.cell? ⟨g, o + i * 6 + 4, none⟩ = some (.int .i64 p.2.2.2.2.1) ∧ w.cell? ⟨g, o + i * 6 + 5, none⟩ = some (.int .i64 p.2.2.2.2.2)
theorem At6.below {w w' : World} {g o i : Nat} {p : I6} (h : At6 w g o i p) (hb : Below w.heap.size w w') (hg : g < w.heap.size) : At6 w' g o i p := by
  obtain ⟨h0, h1, h2, h3, h4, h5⟩ := h
  exact ⟨(hb.cell hg).trans h0, (hb.cell hg).trans h1, (hb.cell hg).trans h2, (hb.cell hg).trans h3, (hb.cell hg).trans h4, (hb.cell hg).trans h5⟩
def z6 : I6 := (0, 0, 0, 0, 0, 0)
/-- The slice value v reads as the boxes l. -/
def AR6 (w : World) (v : Value) (l : List I6) : Prop := ∃ (A : Option Addr) (cap : Nat), v = .slice A l.length cap ∧ (l ≠ [] → ∃ g o, A = some ⟨g, o, none⟩ ∧ g < w.heap.size ∧ ∀ i, i < l.length → At6 w g o i (l.getD i z6))
theorem AR6.below {w w' : World} {v : Value} {l : List I6} (h : AR6 w v l) (hb : Below w.heap.size w w') : AR6 w' v l := by
  obtain ⟨A, cap, rfl, hh⟩ := h
  refine ⟨A, cap, rfl, fun hne => ?_⟩
  obtain ⟨g, o, rfl, hg, hc⟩ := hh hne
  exact ⟨g, o, rfl, Nat.lt_of_lt_of_le hg hb.size, fun i hi => (hc i hi).below hb hg⟩
theorem bxs_at (l : List I6) (i : Nat) (hi : i < l.length) : (bxs l)[i * 6]? = some (.int .i64 (l.getD i z6).1) ∧ (bxs l)[i * 6 + 1]? = some (.int .i64 (l.getD i z6).2.1) ∧ (bxs l)[i * 6 + 2]? = some (.int .i64 (l.getD i z6).2.2.1) ∧ (bxs l)[i * 6 + 3]? = some (.int .i64 (l.getD i z6).2.2.2.1) ∧ (bxs l)[i * 6 + 4]? = some (.int .i64 (l.getD i z6).2.2.2.2.1) ∧ (bxs l)[i * 6 + 5]? = some (.int .i64 (l.getD i z6).2.2.2.2.2) := by
  induction l generalizing i with
  | nil => simp at hi
  | cons p l ih =>
    match i with
    | 0 => exact ⟨rfl, rfl, rfl, rfl, rfl, rfl⟩
    | i + 1 =>
      have h := ih i (by simpa using hi)
      have e : bxs (p :: l) = .int .i64 p.1 :: .int .i64 p.2.1 :: .int .i64 p.2.2.1 :: .int .i64 p.2.2.2.1 :: .int .i64 p.2.2.2.2.1 :: .int .i64 p.2.2.2.2.2 :: bxs l := rfl
      rw [e, show (i + 1) * 6 = i * 6 + 1 + 1 + 1 + 1 + 1 + 1 by omega]
      simpa using h
theorem ar6_of_row {w : World} {base n : Nat} {v : Value} {l : List I6} (h : w.ownsRow base 23 6 v n (bxs l)) (hn : n = l.length) : AR6 w v l := by
  subst hn
  rcases h.2 with ⟨rfl, h0⟩ | ⟨g, cap, cur, rfl, hg, hh, hnc, hcm, hcs, htake⟩
  · obtain rfl := List.eq_nil_of_length_eq_zero h0
    exact ⟨none, 0, rfl, fun h => absurd rfl h⟩
  · refine ⟨_, cap, rfl, fun _ => ⟨g, 0, rfl, ?_, fun i hi => ?_⟩⟩
    · rcases Nat.lt_or_ge g w.heap.size with h1 | h1
      · exact h1
      · rw [Array.getElem?_eq_none h1] at hh; cases hh
    · have e := bxs_at l i hi
      have hc : ∀ k, k < 6 → w.cell? ⟨g, 0 + i * 6 + k, none⟩ = (bxs l)[i * 6 + k]? := by
        intro k hk
        rw [cell_of_row w g _ _ _ (0, 0) hh, ← Array.getElem?_toList, ← htake, List.getElem?_take, if_pos (by omega)]
        rw [Nat.zero_add]
      exact ⟨(hc 0 (by omega)).trans e.1, (hc 1 (by omega)).trans e.2.1, (hc 2 (by omega)).trans e.2.2.1, (hc 3 (by omega)).trans e.2.2.2.1, (hc 4 (by omega)).trans e.2.2.2.2.1, (hc 5 (by omega)).trans e.2.2.2.2.2⟩
theorem ar6_nil (w : World) : AR6 w (.slice none 0 0) [] := ⟨none, 0, rfl, fun h => absurd rfl h⟩
theorem nil_row6 (w : World) (base : Nat) : w.ownsRow base 23 6 (.slice none 0 0) ([] : List I6).length (bxs []) := ⟨rfl, .inl ⟨rfl, rfl⟩⟩
theorem info6 : (Try.prog.info? 23).map (fun i => (i.zero, i.size, i.bytes)) = some (some (.agg #[.int .i64 0, .int .i64 0, .int .i64 0, .int .i64 0, .int .i64 0, .int .i64 0]), 6, 48) := by kernel_rfl
theorem new_box6 (w : World) (a b c d e f : Int) : ∀ j u, [Value.int .i64 a, Value.int .i64 b, Value.int .i64 c, Value.int .i64 d, Value.int .i64 e, Value.int .i64 f][j]? = some u → (w.alloc (.cells #[.int .i64 a, .int .i64 b, .int .i64 c, .int .i64 d, .int .i64 e, .int .i64 f] 23)).cell? ((⟨w.heap.size, 0, none⟩ : Addr).add j) = some u := by
  intro j u hu
  have h := fun o => cell_of_row (w.alloc (.cells #[.int .i64 a, .int .i64 b, .int .i64 c, .int .i64 d, .int .i64 e, .int .i64 f] 23)) w.heap.size o _ _ (0, 0) (heap_alloc_new w _)
  have e0 : ∀ j, 0 < j → ((⟨w.heap.size, 0, none⟩ : Addr).add j) = ⟨w.heap.size, j, none⟩ := fun j hj => by unfold Addr.add; rw [if_neg (by omega)]; simp
  match j, hu with
  | 0, hu => rw [Addr.add, if_pos rfl, h 0]; exact hu
  | 1, hu => rw [e0 1 (by omega), h 1]; exact hu
  | 2, hu => rw [e0 2 (by omega), h 2]; exact hu
  | 3, hu => rw [e0 3 (by omega), h 3]; exact hu
  | 4, hu => rw [e0 4 (by omega), h 4]; exact hu
  | 5, hu => rw [e0 5 (by omega), h 5]; exact hu
/-- The boxes of Meet. -/
def meetL (x0 y0 x1 y1 f c u0 v0 u1 v1 g d : Int) : List I6 := if max x0 u0 ≤ min x1 u1 ∧ max y0 v0 ≤ min y1 v1 then (refAll f c g d).map fun p => (max x0 u0, max y0 v0, min x1 u1, min y1 v1, p.1, p.2) else []
theorem take_map_snoc {α β : Type} (L : List α) (r : α → β) (z : α) {k : Nat} (hk : k < L.length) : (L.take (k + 1)).map r = (L.take k).map r ++ [r (L.getD k z)] := by
  rw [List.take_add_one, List.map_append]
  simp [List.getD_eq_getElem?_getD, List.getElem?_eq_getElem hk]
end Go.Proofs.Ytjpdahalplkfbaa
