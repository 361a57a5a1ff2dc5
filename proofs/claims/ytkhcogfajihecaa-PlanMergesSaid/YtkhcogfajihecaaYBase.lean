/- Lists of cells in memory. -/
import Derived.Test.YtkhcogfajihecaaSBase
import Derived.Maps.AppendAt
import Derived.Laws.OwnMore
set_option linter.unusedSimpArgs false
set_option linter.unusedVariables false
namespace Go.Proofs.Ytkhcogfajihecaa
open Go Go.RowKit Hd

abbrev P2 := Int × Int
def z2 : P2 := (0, 0)
/-- The cells of a point. -/
def enc2 (p : P2) : List Value := [.int .i64 p.1, .int .i64 p.2]
/-- The cells of a list of points. -/
def pts (l : List P2) : List Value := l.flatMap enc2
theorem pts_append (l m : List P2) : pts l ++ pts m = pts (l ++ m) := by simp [pts]
theorem pts_snoc (l : List P2) (a b : Int) : pts l ++ [.int .i64 a, .int .i64 b] = pts (l ++ [(a, b)]) := by simp [pts, enc2]
theorem pts_length (l : List P2) : (pts l).length = l.length * 2 := by
  induction l with
  | nil => rfl
  | cons p l ih => simp [pts, enc2, List.flatMap_cons] at *; omega
theorem pts_one : ∀ (l : List P2), ∀ u ∈ pts l, u.oneCell' = true := by
  intro l u hu
  simp [pts, enc2] at hu
  rcases hu with ⟨a, b, -, rfl | rfl⟩ <;> rfl
/-- The two cells of the point at place i of a row that begins at o. -/
def At2 (w : World) (g o i : Nat) (p : P2) : Prop := w.cell? ⟨g, o + i * 2, none⟩ = some (.int .i64 p.1) ∧ w.cell? ⟨g, o + i * 2 + 1, none⟩ = some (.int .i64 p.2)
theorem At2.below {w w' : World} {g o i : Nat} {p : P2} (h : At2 w g o i p) (hb : Below w.heap.size w w') (hg : g < w.heap.size) : At2 w' g o i p :=
  ⟨(hb.cell (p := ⟨g, o + i * 2, none⟩) hg).trans h.1, (hb.cell (p := ⟨g, o + i * 2 + 1, none⟩) hg).trans h.2⟩
/-- The slice (A, n, cap) reads as the points l; they lie in a block from lo on, before hi. -/
structure PL (w : World) (lo hi : Nat) (A : Option Addr) (n cap : Nat) (l : List P2) : Prop where
  len : n = l.length
  cap : n ≤ cap
  top : hi ≤ w.heap.size
  row : l ≠ [] → ∃ g o, A = some ⟨g, o, none⟩ ∧ (lo ≤ g ∧ g < hi) ∧ ∀ i, i < l.length → At2 w g o i (l.getD i z2)
section
variable {w w' : World} {lo hi : Nat} {A : Option Addr} {n cap : Nat} {l : List P2}
theorem PL.below (h : PL w lo hi A n cap l) (hb : Below w.heap.size w w') : PL w' lo hi A n cap l :=
  ⟨h.len, h.cap, Nat.le_trans h.top hb.size, fun hne => by obtain ⟨g, o, rfl, hg, hc⟩ := h.row hne; exact ⟨g, o, rfl, hg, fun i hi' => (hc i hi').below hb (Nat.lt_of_lt_of_le hg.2 h.top)⟩⟩
theorem PL.belowB {B : Nat} (h : PL w lo hi A n cap l) (hb : Below B w w') (hB : hi ≤ B) : PL w' lo hi A n cap l :=
  ⟨h.len, h.cap, Nat.le_trans h.top hb.size, fun hne => by
    obtain ⟨g, o, rfl, hg, hc⟩ := h.row hne
    exact ⟨g, o, rfl, hg, fun i hi' => ⟨(hb.cell (p := ⟨g, o + i * 2, none⟩) (by have := hg.2; show g < B; omega)).trans (hc i hi').1, (hb.cell (p := ⟨g, o + i * 2 + 1, none⟩) (by have := hg.2; show g < B; omega)).trans (hc i hi').2⟩⟩⟩
theorem lebel {B : Nat} (h : B ≤ w.heap.size) (hb : Below w.heap.size w w') : B ≤ w'.heap.size := Nat.le_trans h hb.size
theorem plm (h : Hid (PL w lo hi A n cap l)) (hb : Below w.heap.size w w') : Hid (PL w' lo hi A n cap l) := Lib.hid (h.out.below hb)
theorem PL.set (h : PL w lo hi A n cap l) {x : Nat} (hx : x < lo ∨ hi ≤ x) (k : Nat) (v : Value) : PL (w.setCell ⟨x, k, none⟩ v) lo hi A n cap l := by
  refine ⟨h.len, h.cap, by have := h.top; simpa using this, fun hne => ?_⟩
  obtain ⟨g, o, rfl, hg, hc⟩ := h.row hne
  have ne : g ≠ x := by omega
  exact ⟨g, o, rfl, hg, fun i hi' => ⟨(cell_far ne _ _ _).trans (hc i hi').1, (cell_far ne _ _ _).trans (hc i hi').2⟩⟩
theorem PL.wide {lo' hi' : Nat} (h : PL w lo hi A n cap l) (h1 : lo' ≤ lo) (h2 : hi ≤ hi') (h3 : hi' ≤ w.heap.size) : PL w lo' hi' A n cap l :=
  ⟨h.len, h.cap, h3, fun hne => by obtain ⟨g, o, rfl, hg, hc⟩ := h.row hne; exact ⟨g, o, rfl, ⟨by omega, by omega⟩, hc⟩⟩
theorem PL.outw {lo' : Nat} (h : PL w lo hi A n cap l) (h1 : lo' ≤ lo) : PL w lo' w.heap.size A n cap l := h.wide h1 h.top (Nat.le_refl _)
theorem PL.elem (h : PL w lo hi A n cap l) {i : Nat} (hi' : i < n) : ∃ g o, A = some ⟨g, o, none⟩ ∧ (lo ≤ g ∧ g < hi) ∧ At2 w g o i (l.getD i z2) := by
  have hl := h.len
  obtain ⟨g, o, e, hg, hc⟩ := h.row (fun e => by rw [e] at hl; simp at hl; omega)
  exact ⟨g, o, e, hg, hc i (by omega)⟩
/-- The same list, cut behind k. -/
theorem PL.take (h : PL w lo hi A n cap l) (k : Nat) (hk : k ≤ n) : PL w lo hi A k cap (l.take k) := by
  have hl := h.len
  refine ⟨by simp; omega, by have := h.cap; omega, h.top, fun hne => ?_⟩
  obtain ⟨g, o, rfl, hg, hc⟩ := h.row (fun e => by rw [e] at hne; simp at hne)
  refine ⟨g, o, rfl, hg, fun i hi => ?_⟩
  have hi' : i < k ∧ i < l.length := by simp at hi; omega
  have := hc i hi'.2
  simpa [List.getD_eq_getElem?_getD, List.getElem?_take, hi'.1] using this
end
theorem pl_nil (w : World) (lo : Nat) : PL w lo w.heap.size none 0 0 [] := ⟨rfl, Nat.le_refl _, Nat.le_refl _, fun h => absurd rfl h⟩
theorem pts_at (l : List P2) (i : Nat) (hi : i < l.length) : (pts l)[i * 2]? = some (.int .i64 (l.getD i z2).1) ∧ (pts l)[i * 2 + 1]? = some (.int .i64 (l.getD i z2).2) := by
  induction l generalizing i with
  | nil => simp at hi
  | cons p l ih =>
    match i with
    | 0 => exact ⟨rfl, rfl⟩
    | i + 1 =>
      have h := ih i (by simpa using hi)
      have e : pts (p :: l) = .int .i64 p.1 :: .int .i64 p.2 :: pts l := rfl
      rw [e, show (i + 1) * 2 = i * 2 + 1 + 1 by omega]
      simpa using h
theorem pts_set2 (u : List P2) (s : P2) (a b : Int) : ((pts (u ++ [s])).set (u.length * 2) (.int .i64 a)).set (u.length * 2 + 1) (.int .i64 b) = pts (u ++ [(a, b)]) := by
  rw [← pts_append, ← pts_append, ← pts_length u]
  rw [List.set_append_right _ _ (Nat.le_refl _), Nat.sub_self, List.set_append_right _ _ (by omega)]
  rw [show (pts u).length + 1 - (pts u).length = 1 by omega]
  rfl
theorem pts_last (u : List P2) (s : P2) : (pts (u ++ [s]))[u.length * 2]? = some (.int .i64 s.1) ∧ (pts (u ++ [s]))[u.length * 2 + 1]? = some (.int .i64 s.2) := by
  have h := pts_at (u ++ [s]) u.length (by simp)
  simpa using h
/-- A row of the call's own that holds the points l. -/
abbrev OwnP (w : World) (base : Nat) (v : Value) (l : List P2) : Prop := w.ownsRow base 37 2 v l.length (pts l)
theorem own_nil (w : World) (base : Nat) : OwnP w base (.slice none 0 0) [] := ⟨rfl, .inl ⟨rfl, rfl⟩⟩
theorem OwnP.pl {w : World} {base : Nat} {v : Value} {l : List P2} (h : OwnP w base v l) : ∃ A cap, v = .slice A l.length cap ∧ PL w base w.heap.size A l.length cap l ∧ cap ≤ maxLen := by
  rcases h.2 with ⟨rfl, h0⟩ | ⟨g, cap, cur, rfl, hg, hh, hnc, hcm, hcs, htake⟩
  · obtain rfl := List.eq_nil_of_length_eq_zero h0
    exact ⟨none, 0, rfl, pl_nil w _, Nat.zero_le _⟩
  · refine ⟨_, cap, rfl, ⟨rfl, hnc, Nat.le_refl _, fun _ => ⟨g, 0, rfl, ⟨hg, ?_⟩, fun i hi => ?_⟩⟩, hcm⟩
    · rcases Nat.lt_or_ge g w.heap.size with h1 | h1
      · exact h1
      · rw [Array.getElem?_eq_none h1] at hh; cases hh
    · have e := pts_at l i hi
      have hc : ∀ k, k < 2 → w.cell? ⟨g, 0 + i * 2 + k, none⟩ = (pts l)[i * 2 + k]? := by
        intro k hk
        rw [cell_of_row w g _ _ _ (0, 0) hh, ← Array.getElem?_toList, ← htake, List.getElem?_take, if_pos (by omega)]
        rw [Nat.zero_add]
      exact ⟨(hc 0 (by omega)).trans e.1, (hc 1 (by omega)).trans e.2⟩
/-- What is the call's own is kept by what is done above it. -/
theorem OwnP.below {w w' : World} {base : Nat} {v : Value} {l : List P2} (h : OwnP w base v l) (hb : Below w.heap.size w w') : OwnP w' base v l := by
  refine ⟨h.1, ?_⟩
  rcases h.2 with h2 | ⟨g, cap, cur, rfl, hg, hh, r⟩
  · exact .inl h2
  · refine .inr ⟨g, cap, cur, rfl, hg, (hb.block g ?_).trans hh, r⟩
    rcases Nat.lt_or_ge g w.heap.size with h1 | h1
    · exact h1
    · rw [Array.getElem?_eq_none h1] at hh; cases hh
theorem owm {w w' : World} {base : Nat} {v : Value} {l : List P2} (h : Hid (OwnP w base v l)) (hb : Below w.heap.size w w') : Hid (OwnP w' base v l) := Lib.hid (OwnP.below h.out hb)
theorem info2 : (Try.prog.info? 37).map (fun i => (i.zero, i.size, i.bytes)) = some (some (.agg #[.int .i64 0, .int .i64 0]), 2, 16) := by kernel_rfl
theorem new_pt (w : World) (a b : Int) : ∀ j u, (pts [(a, b)])[j]? = some u → (w.alloc (.cells #[.int .i64 a, .int .i64 b] 37)).cell? ((⟨w.heap.size, 0, none⟩ : Addr).add j) = some u := by
  intro j u hu
  have h := fun o => cell_of_row (w.alloc (.cells #[.int .i64 a, .int .i64 b] 37)) w.heap.size o _ _ (0, 0) (heap_alloc_new w _)
  have e0 : ∀ j, 0 < j → ((⟨w.heap.size, 0, none⟩ : Addr).add j) = ⟨w.heap.size, j, none⟩ := fun j hj => by unfold Addr.add; rw [if_neg (by omega)]; simp
  match j, hu with
  | 0, hu => rw [Addr.add, if_pos rfl, h 0]; exact hu
  | 1, hu => rw [e0 1 (by omega), h 1]; exact hu
theorem PL.addr {w : World} {lo hi : Nat} {A : Option Addr} {n cap : Nat} {l : List P2} (h : PL w lo hi A n cap l) (hne : l ≠ []) : ∃ ad : Addr, A = some ad ∧ ∀ j u, (pts l)[j]? = some u → w.cell? (ad.add j) = some u := by
  obtain ⟨g, o, rfl, hg, hc⟩ := h.row hne
  refine ⟨_, rfl, fun j u hu => ?_⟩
  have hj : j < l.length * 2 := by
    rw [← pts_length]
    rcases Nat.lt_or_ge j (pts l).length with h1 | h1
    · exact h1
    · rw [List.getElem?_eq_none h1] at hu; cases hu
  have hi : j / 2 < l.length := by omega
  have a2 := hc (j / 2) hi
  unfold At2 at a2
  have p2 := pts_at l (j / 2) hi
  have e : (⟨g, o, none⟩ : Addr).add j = ⟨g, o + j, none⟩ := by unfold Addr.add; split <;> simp_all
  rw [e]
  rcases Nat.mod_two_eq_zero_or_one j with h0 | h0
  · have e1 : j / 2 * 2 = j := by omega
    have a3 := a2.1
    have p3 := p2.1
    rw [e1] at a3 p3
    rw [p3] at hu
    exact a3.trans hu
  · have e1 : j / 2 * 2 + 1 = j := by omega
    have e2 : o + j / 2 * 2 + 1 = o + j := by omega
    have a3 := a2.2
    rw [e2] at a3
    have p3 := p2.2
    rw [e1] at p3
    rw [p3] at hu
    exact a3.trans hu
theorem grown_below {w w0 : World} {base : Nat} {v : Value} {l : List P2} (hown : OwnP w base v l) {o : Obj} (hb : base ≤ w.heap.size) (hg : (w.alloc o).grownBy w0 (Value.ownBlock v)) : Below base w w0 :=
  ((Below.refl base w).alloc hb o).grown hg (by simp; omega) (fun j hj => (hown.lt j hj).1)
theorem grown_below0 {w w0 : World} {base : Nat} {v : Value} {l : List P2} (hown : OwnP w base v l) (hb : base ≤ w.heap.size) (hg : w.grownBy w0 (Value.ownBlock v)) : Below base w w0 :=
  (Below.refl base w).grown hg hb (fun j hj => (hown.lt j hj).1)
theorem getD_mem {α : Type} {L : List α} {z : α} {k : Nat} (hk : k < L.length) : L.getD k z ∈ L := by
  simp [List.getD_eq_getElem?_getD, List.getElem?_eq_getElem hk]
theorem take_snoc {α : Type} (L : List α) (z : α) {k : Nat} (hk : k < L.length) : L.take (k + 1) = L.take k ++ [L.getD k z] := by
  rw [List.take_add_one]
  simp [List.getD_eq_getElem?_getD, List.getElem?_eq_getElem hk]
end Go.Proofs.Ytkhcogfajihecaa
