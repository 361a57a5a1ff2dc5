/- Variables and values of the type Rational. -/
import Derived.Test.YtccndofafljaaaaGreatDoorRefB
import Derived.Test.YtccndofafljaaaaGreatDoorQMath

set_option linter.unusedVariables false
set_option linter.unusedSimpArgs false

namespace Go.Proofs.YtccndofafljaaaaGreatDoor
open Go Go.RowKit Num

/-- Four cells are written, one after the other. -/
def st4 (w : World) (x : Nat) (u0 u1 u2 u3 : Value) : World := (((w.setCell ⟨x, 0, none⟩ u0).setCell ⟨x, 1, none⟩ u1).setCell ⟨x, 2, none⟩ u2).setCell ⟨x, 3, none⟩ u3
/-- A variable of the type Rational. -/
def Box4 (w : World) (x : Nat) (s : Bool) (m : Value) (t : Bool) (n : Value) : Prop := w.heap[x]? = some (.cells #[.bool s, m, .bool t, n] 35 (0, 0))
section
variable {w w' : World} {x : Nat} {s : Bool} {m : Value} {t : Bool} {n : Value}
theorem Box4.c0 (h : Box4 w x s m t n) : w.cell? ⟨x, 0, none⟩ = some (.bool s) := cell_of_row w x 0 _ _ (0, 0) h
theorem Box4.c1 (h : Box4 w x s m t n) : w.cell? ⟨x, 1, none⟩ = some m := cell_of_row w x 1 _ _ (0, 0) h
theorem Box4.c2 (h : Box4 w x s m t n) : w.cell? ⟨x, 2, none⟩ = some (.bool t) := cell_of_row w x 2 _ _ (0, 0) h
theorem Box4.c3 (h : Box4 w x s m t n) : w.cell? ⟨x, 3, none⟩ = some n := cell_of_row w x 3 _ _ (0, 0) h
theorem Box4.f0 (h : Box4 w x s m t n) : w.frozen? ⟨x, 0, none⟩ = false := frozen_of_row w x 0 _ _ h
theorem Box4.f1 (h : Box4 w x s m t n) : w.frozen? ⟨x, 1, none⟩ = false := frozen_of_row w x 1 _ _ h
theorem Box4.f2 (h : Box4 w x s m t n) : w.frozen? ⟨x, 2, none⟩ = false := frozen_of_row w x 2 _ _ h
theorem Box4.f3 (h : Box4 w x s m t n) : w.frozen? ⟨x, 3, none⟩ = false := frozen_of_row w x 3 _ _ h
theorem Box4.new (w : World) (s : Bool) (m : Value) (t : Bool) (n : Value) : Box4 (w.alloc (.cells #[.bool s, m, .bool t, n] 35)) w.heap.size s m t n := heap_alloc_new w _
theorem Box4.lt (h : Box4 w x s m t n) : x < w.heap.size := by
  rcases Nat.lt_or_ge x w.heap.size with hlt | hge
  · exact hlt
  · unfold Box4 at h; rw [Array.getElem?_eq_none hge] at h; cases h
theorem Box4.alloc (h : Box4 w x s m t n) (o : Obj) : Box4 (w.alloc o) x s m t n := (Below.heap_alloc w o x h.lt).trans h
theorem Box4.drewN (h : Box4 w x s m t n) (k : Nat) : Box4 (w.drewN k) x s m t n := h
theorem Box4.below {B : Nat} (h : Box4 w x s m t n) (hb : Below B w w') (hx : x < B) : Box4 w' x s m t n := (hb.block x hx).trans h
theorem Box4.store (h : Box4 w x s m t n) (s' : Bool) (m' : Value) (t' : Bool) (n' : Value) : Box4 (st4 w x (.bool s') m' (.bool t') n') x s' m' t' n' := by
  have h1 := heap_setCell_same w x 0 _ _ (.bool s') h
  have h2 := heap_setCell_same _ x 1 _ _ m' h1
  have h3 := heap_setCell_same _ x 2 _ _ (.bool t') h2
  have h4 := heap_setCell_same _ x 3 _ _ n' h3
  exact h4
theorem heap_st4 {y : Nat} (hne : x ≠ y) (u0 u1 u2 u3 : Value) : (st4 w y u0 u1 u2 u3).heap[x]? = w.heap[x]? := by
  unfold st4
  rw [heap_setCell_other _ ⟨y, 3, none⟩ x _ hne, heap_setCell_other _ ⟨y, 2, none⟩ x _ hne, heap_setCell_other _ ⟨y, 1, none⟩ x _ hne, heap_setCell_other _ ⟨y, 0, none⟩ x _ hne]
theorem size_st4 (w : World) (y : Nat) (u0 u1 u2 u3 : Value) : (st4 w y u0 u1 u2 u3).heap.size = w.heap.size := by simp [st4, World.setCell]
theorem cell_st4 {y o : Nat} (hne : x ≠ y) (u0 u1 u2 u3 : Value) : (st4 w y u0 u1 u2 u3).cell? ⟨x, o, none⟩ = w.cell? ⟨x, o, none⟩ := World.cell?_of_block (a := ⟨x, o, none⟩) (heap_st4 hne u0 u1 u2 u3)
theorem Box4.far4 {y : Nat} (h : Box4 w x s m t n) (hne : x ≠ y) (u0 u1 u2 u3 : Value) : Box4 (st4 w y u0 u1 u2 u3) x s m t n := (heap_st4 hne u0 u1 u2 u3).trans h
theorem Box4.far {y : Nat} (h : Box4 w x s m t n) (hne : x ≠ y) (u v : Value) : Box4 ((w.setCell ⟨y, 0, none⟩ u).setCell ⟨y, 1, none⟩ v) x s m t n :=
  ((heap_setCell_other _ ⟨y, 1, none⟩ x v hne).trans (heap_setCell_other w ⟨y, 0, none⟩ x u hne)).trans h
theorem Box.far4 {y : Nat} (h : Box w x s m) (hne : x ≠ y) (u0 u1 u2 u3 : Value) : Box (st4 w y u0 u1 u2 u3) x s m := (heap_st4 hne u0 u1 u2 u3).trans h
theorem Below.store4 {B y : Nat} {a : World} (h : Below B a w) (hx : B ≤ y) (u0 u1 u2 u3 : Value) : Below B a (st4 w y u0 u1 u2 u3) :=
  (((h.setCell (p := ⟨y, 0, none⟩) hx u0).setCell (p := ⟨y, 1, none⟩) hx u1).setCell (p := ⟨y, 2, none⟩) hx u2).setCell (p := ⟨y, 3, none⟩) hx u3
theorem Box4.keeps {l : List Nat} {v : Value} {A C : Option Addr} {k c k' c' : Nat} (h : Box4 w x s (.slice A k c) t (.slice C k' c')) (hu : U32 w v l) (u0 u1 u2 u3 : Value) : U32 (st4 w x u0 u1 u2 u3) v l := by
  refine ⟨hu.lt, ?_⟩
  obtain ⟨A', cap, rfl, h1, h2, h3⟩ := hu.form
  refine ⟨A', cap, rfl, h1, h2, fun hne => ?_⟩
  obtain ⟨b, off, rfl, hb, hc⟩ := h3 hne
  have hbx : b ≠ x := by
    rintro rfl
    have h0 := hc 0 (by rcases l with _ | ⟨y, ys⟩; exact absurd rfl hne; simp)
    rw [cell_of_row w b (off + 0) _ _ (0, 0) h] at h0
    match off, h0 with
    | 0, h0 => simp at h0
    | 1, h0 => simp at h0
    | 2, h0 => simp at h0
    | 3, h0 => simp at h0
    | off + 4, h0 => simp at h0
  refine ⟨b, off, rfl, by rw [size_st4]; exact hb, fun i hi => ?_⟩
  rw [cell_st4 hbx]
  exact hc i hi
theorem Box4.keepsRd {A C : Option Addr} {k c k' c' : Nat} {v : Value} {z : Int} {q : Nat} (h : Box4 w x s (.slice A k c) t (.slice C k' c')) (hu : Rd w v z q) (u0 u1 u2 u3 : Value) : Rd (st4 w x u0 u1 u2 u3) v z q := by
  obtain ⟨s1, m, l, e, hu, hz, hl⟩ := hu
  exact ⟨s1, m, l, e, h.keeps hu u0 u1 u2 u3, hz, hl⟩
theorem Box4.keepsRc {A C : Option Addr} {k c k' c' : Nat} {v : Value} {z : Int} {q : Nat} (h : Box4 w x s (.slice A k c) t (.slice C k' c')) (hu : Rc w v z q) (u0 u1 u2 u3 : Value) : Rc (st4 w x u0 u1 u2 u3) v z q := by
  obtain ⟨⟨m, e, hu⟩, hz⟩ := hu
  exact ⟨⟨m, e, h.keeps hu u0 u1 u2 u3⟩, hz⟩
end

/-- v reads as a fraction a / b, whose parts have at most k words. -/
def Fd (w : World) (v : Value) (a b : Int) (k : Nat) : Prop := ∃ s m t n, v = .agg #[.bool s, m, .bool t, n] ∧ Rd w (.agg #[.bool s, m]) a k ∧ Rd w (.agg #[.bool t, n]) b k
/-- v reads as the number r. -/
def Qd (w : World) (v : Value) (r : Rat) (k : Nat) : Prop := ∃ a b, Fd w v a b k ∧ Rat.divInt a b = r
/-- v is the canonical form of r. -/
def Qc (w : World) (v : Value) (r : Rat) (k : Nat) : Prop := ∃ s m t n, v = .agg #[.bool s, m, .bool t, n] ∧ Rc w (.agg #[.bool s, m]) r.num k ∧ Rc w (.agg #[.bool t, n]) (r.den : Int) k
section
variable {w w' : World} {v : Value} {a b : Int} {r : Rat} {k : Nat}
theorem Fd.below (h : Fd w v a b k) (hb : Below w.heap.size w w') : Fd w' v a b k := by
  obtain ⟨s, m, t, n, e, h1, h2⟩ := h
  exact ⟨s, m, t, n, e, h1.below hb, h2.below hb⟩
theorem Qd.below (h : Qd w v r k) (hb : Below w.heap.size w w') : Qd w' v r k := by
  obtain ⟨a, b, h1, h2⟩ := h
  exact ⟨a, b, h1.below hb, h2⟩
theorem Qc.below (h : Qc w v r k) (hb : Below w.heap.size w w') : Qc w' v r k := by
  obtain ⟨s, m, t, n, e, h1, h2⟩ := h
  exact ⟨s, m, t, n, e, h1.below hb, h2.below hb⟩
theorem Qc.fd (h : Qc w v r k) : Fd w v r.num r.den k := by
  obtain ⟨s, m, t, n, e, h1, h2⟩ := h
  exact ⟨s, m, t, n, e, h1.rd, h2.rd⟩
theorem Qc.qd (h : Qc w v r k) : Qd w v r k := ⟨_, _, h.fd, Rat.num_divInt_den r⟩
theorem Fd.qd (h : Fd w v a b k) : Qd w v (Rat.divInt a b) k := ⟨a, b, h, rfl⟩
theorem Fd.more {k' : Nat} (h : Fd w v a b k) (hk : k ≤ k') : Fd w v a b k' := by
  obtain ⟨s, m, t, n, e, h1, h2⟩ := h
  exact ⟨s, m, t, n, e, h1.more hk, h2.more hk⟩
theorem Qd.more {k' : Nat} (h : Qd w v r k) (hk : k ≤ k') : Qd w v r k' := by
  obtain ⟨a, b, h1, h2⟩ := h
  exact ⟨a, b, h1.more hk, h2⟩
theorem Qc.more {k' : Nat} (h : Qc w v r k) (hk : k ≤ k') : Qc w v r k' := by
  obtain ⟨s, m, t, n, e, h1, h2⟩ := h
  exact ⟨s, m, t, n, e, h1.more hk, h2.more hk⟩
/-- The cells of a fraction. -/
theorem Fd.shape (h : Fd w v a b k) : ∃ s A n c t C n' c', v = .agg #[.bool s, .slice A n c, .bool t, .slice C n' c'] ∧ Rd w (.agg #[.bool s, .slice A n c]) a k ∧ Rd w (.agg #[.bool t, .slice C n' c']) b k := by
  obtain ⟨s, m, t, n, rfl, h1, h2⟩ := h
  obtain ⟨s', A, n, c, e1, -⟩ := h1.shape
  obtain ⟨t', C, n', c', e2, -⟩ := h2.shape
  simp only [Value.agg.injEq, Array.mk.injEq, List.cons.injEq, and_true, Value.bool.injEq] at e1 e2
  obtain ⟨rfl, rfl⟩ := e1
  obtain ⟨rfl, rfl⟩ := e2
  exact ⟨s, A, n, c, t, C, n', c', rfl, h1, h2⟩
theorem Qc.shape (h : Qc w v r k) : ∃ s A n c t C n' c', v = .agg #[.bool s, .slice A n c, .bool t, .slice C n' c'] := by
  obtain ⟨s, A, n, c, t, C, n', c', e, -, -⟩ := h.fd.shape
  exact ⟨s, A, n, c, t, C, n', c', e⟩
theorem Fd.mk {s : Bool} {m : Value} {t : Bool} {n : Value} (h1 : Rd w (.agg #[.bool s, m]) a k) (h2 : Rd w (.agg #[.bool t, n]) b k) : Fd w (.agg #[.bool s, m, .bool t, n]) a b k := ⟨_, _, _, _, rfl, h1, h2⟩
theorem Qc.mk {s : Bool} {m : Value} {t : Bool} {n : Value} (h1 : Rc w (.agg #[.bool s, m]) r.num k) (h2 : Rc w (.agg #[.bool t, n]) (r.den : Int) k) : Qc w (.agg #[.bool s, m, .bool t, n]) r k := ⟨_, _, _, _, rfl, h1, h2⟩
theorem Fd.num {s : Bool} {m : Value} {t : Bool} {n : Value} (h : Fd w (.agg #[.bool s, m, .bool t, n]) a b k) : Rd w (.agg #[.bool s, m]) a k := by
  obtain ⟨_, _, _, _, e, h1, -⟩ := h
  simp only [Value.agg.injEq, Array.mk.injEq, List.cons.injEq, and_true, Value.bool.injEq] at e
  obtain ⟨rfl, rfl, rfl, rfl⟩ := e
  exact h1
theorem Fd.den {s : Bool} {m : Value} {t : Bool} {n : Value} (h : Fd w (.agg #[.bool s, m, .bool t, n]) a b k) : Rd w (.agg #[.bool t, n]) b k := by
  obtain ⟨_, _, _, _, e, -, h1⟩ := h
  simp only [Value.agg.injEq, Array.mk.injEq, List.cons.injEq, and_true, Value.bool.injEq] at e
  obtain ⟨rfl, rfl, rfl, rfl⟩ := e
  exact h1
theorem Box4.keepsFd {x : Nat} {s t : Bool} {A C : Option Addr} {j c j' c' : Nat} (h : Box4 w x s (.slice A j c) t (.slice C j' c')) (hu : Fd w v a b k) (u0 u1 u2 u3 : Value) : Fd (st4 w x u0 u1 u2 u3) v a b k := by
  obtain ⟨s, m, t, n, e, h1, h2⟩ := hu
  exact ⟨s, m, t, n, e, h.keepsRd h1 u0 u1 u2 u3, h.keepsRd h2 u0 u1 u2 u3⟩
theorem Box4.keepsQd {x : Nat} {s t : Bool} {A C : Option Addr} {j c j' c' : Nat} (h : Box4 w x s (.slice A j c) t (.slice C j' c')) (hu : Qd w v r k) (u0 u1 u2 u3 : Value) : Qd (st4 w x u0 u1 u2 u3) v r k := by
  obtain ⟨a, b, h1, h2⟩ := hu
  exact ⟨a, b, h.keepsFd h1 u0 u1 u2 u3, h2⟩
theorem Box4.keepsQc {x : Nat} {s t : Bool} {A C : Option Addr} {j c j' c' : Nat} (h : Box4 w x s (.slice A j c) t (.slice C j' c')) (hu : Qc w v r k) (u0 u1 u2 u3 : Value) : Qc (st4 w x u0 u1 u2 u3) v r k := by
  obtain ⟨s, m, t, n, e, h1, h2⟩ := hu
  exact ⟨s, m, t, n, e, h.keepsRc h1 u0 u1 u2 u3, h.keepsRc h2 u0 u1 u2 u3⟩
theorem Qc.of_eq {r' : Rat} (h : Qc w v r k) (e : r = r') : Qc w v r' k := by subst e; exact h
theorem Qd.of_eq {r' : Rat} (h : Qd w v r k) (e : r = r') : Qd w v r' k := by subst e; exact h
end
end Go.Proofs.YtccndofafljaaaaGreatDoor
