/- Variables of the type Rot, and the values that they hold. -/
import Derived.Test.YtccndofafljaaaaGreatDoorQ5
import Derived.Test.YtccndofafljaaaaGreatDoorRotMath

set_option linter.unusedVariables false
set_option linter.unusedSimpArgs false

namespace Go.Proofs.YtccndofafljaaaaGreatDoor
open Go Go.RowKit Num

/-- A variable of the type Rot. -/
def BoxR (w : World) (x : Nat) (s : Bool) (m : Value) (t : Bool) (n : Value) : Prop := w.heap[x]? = some (.cells #[.bool s, m, .bool t, n] 26 (0, 0))
section
variable {w w' : World} {x : Nat} {s : Bool} {m : Value} {t : Bool} {n : Value}
theorem BoxR.c0 (h : BoxR w x s m t n) : w.cell? ⟨x, 0, none⟩ = some (.bool s) := cell_of_row w x 0 _ _ (0, 0) h
theorem BoxR.c1 (h : BoxR w x s m t n) : w.cell? ⟨x, 1, none⟩ = some m := cell_of_row w x 1 _ _ (0, 0) h
theorem BoxR.c2 (h : BoxR w x s m t n) : w.cell? ⟨x, 2, none⟩ = some (.bool t) := cell_of_row w x 2 _ _ (0, 0) h
theorem BoxR.c3 (h : BoxR w x s m t n) : w.cell? ⟨x, 3, none⟩ = some n := cell_of_row w x 3 _ _ (0, 0) h
theorem BoxR.f0 (h : BoxR w x s m t n) : w.frozen? ⟨x, 0, none⟩ = false := frozen_of_row w x 0 _ _ h
theorem BoxR.f1 (h : BoxR w x s m t n) : w.frozen? ⟨x, 1, none⟩ = false := frozen_of_row w x 1 _ _ h
theorem BoxR.f2 (h : BoxR w x s m t n) : w.frozen? ⟨x, 2, none⟩ = false := frozen_of_row w x 2 _ _ h
theorem BoxR.f3 (h : BoxR w x s m t n) : w.frozen? ⟨x, 3, none⟩ = false := frozen_of_row w x 3 _ _ h
theorem BoxR.new (w : World) (s : Bool) (m : Value) (t : Bool) (n : Value) : BoxR (w.alloc (.cells #[.bool s, m, .bool t, n] 26)) w.heap.size s m t n := heap_alloc_new w _
theorem BoxR.lt (h : BoxR w x s m t n) : x < w.heap.size := by
  rcases Nat.lt_or_ge x w.heap.size with hlt | hge
  · exact hlt
  · unfold BoxR at h; rw [Array.getElem?_eq_none hge] at h; cases h
theorem BoxR.alloc (h : BoxR w x s m t n) (o : Obj) : BoxR (w.alloc o) x s m t n := (Below.heap_alloc w o x h.lt).trans h
theorem BoxR.drewN (h : BoxR w x s m t n) (k : Nat) : BoxR (w.drewN k) x s m t n := h
theorem BoxR.below {B : Nat} (h : BoxR w x s m t n) (hb : Below B w w') (hx : x < B) : BoxR w' x s m t n := (hb.block x hx).trans h
theorem BoxR.store (h : BoxR w x s m t n) (s' : Bool) (m' : Value) (t' : Bool) (n' : Value) : BoxR (st4 w x (.bool s') m' (.bool t') n') x s' m' t' n' := by
  have h1 := heap_setCell_same w x 0 _ _ (.bool s') h
  have h2 := heap_setCell_same _ x 1 _ _ m' h1
  have h3 := heap_setCell_same _ x 2 _ _ (.bool t') h2
  have h4 := heap_setCell_same _ x 3 _ _ n' h3
  exact h4
theorem BoxR.far4 {y : Nat} (h : BoxR w x s m t n) (hne : x ≠ y) (u0 u1 u2 u3 : Value) : BoxR (st4 w y u0 u1 u2 u3) x s m t n := (heap_st4 hne u0 u1 u2 u3).trans h
theorem BoxR.far {y : Nat} (h : BoxR w x s m t n) (hne : x ≠ y) (u v : Value) : BoxR ((w.setCell ⟨y, 0, none⟩ u).setCell ⟨y, 1, none⟩ v) x s m t n :=
  ((heap_setCell_other _ ⟨y, 1, none⟩ x v hne).trans (heap_setCell_other w ⟨y, 0, none⟩ x u hne)).trans h
theorem BoxR.keeps {l : List Nat} {v : Value} {A C : Option Addr} {k c k' c' : Nat} (h : BoxR w x s (.slice A k c) t (.slice C k' c')) (hu : U32 w v l) (u0 u1 u2 u3 : Value) : U32 (st4 w x u0 u1 u2 u3) v l := by
  refine ⟨hu.lt, ?_⟩
  obtain ⟨A', cap, rfl, h1, h2, h3⟩ := hu.form
  refine ⟨A', cap, rfl, h1, h2, fun hne => ?_⟩
  obtain ⟨b, off, rfl, hb, hc⟩ := h3 hne
  have hbx : b ≠ x := by
    rintro rfl
    have h0 := hc 0 (by rcases l with _ | ⟨y, ys⟩; exact absurd rfl hne; simp)
    rw [cell_of_row w b (off + 0) _ _ (0, 0) h] at h0
    match off, h0 with
    | 0, h0 => simp at h0
    | 1, h0 => simp at h0
    | 2, h0 => simp at h0
    | 3, h0 => simp at h0
    | off + 4, h0 => simp at h0
  refine ⟨b, off, rfl, by rw [size_st4]; exact hb, fun i hi => ?_⟩
  rw [cell_st4 hbx]
  exact hc i hi
theorem BoxR.keepsRd {A C : Option Addr} {k c k' c' : Nat} {v : Value} {z : Int} {q : Nat} (h : BoxR w x s (.slice A k c) t (.slice C k' c')) (hu : Rd w v z q) (u0 u1 u2 u3 : Value) : Rd (st4 w x u0 u1 u2 u3) v z q := by
  obtain ⟨s1, m, l, e, hu, hz, hl⟩ := hu
  exact ⟨s1, m, l, e, h.keeps hu u0 u1 u2 u3, hz, hl⟩
theorem BoxR.keepsRc {A C : Option Addr} {k c k' c' : Nat} {v : Value} {z : Int} {q : Nat} (h : BoxR w x s (.slice A k c) t (.slice C k' c')) (hu : Rc w v z q) (u0 u1 u2 u3 : Value) : Rc (st4 w x u0 u1 u2 u3) v z q := by
  obtain ⟨⟨m, e, hu⟩, hz⟩ := hu
  exact ⟨⟨m, e, h.keeps hu u0 u1 u2 u3⟩, hz⟩
end


/-- v is a pair of canonical whole numbers. -/
def Gc (w : World) (v : Value) (p q : Int) (k : Nat) : Prop := ∃ s m t n, v = .agg #[.bool s, m, .bool t, n] ∧ Rc w (.agg #[.bool s, m]) p k ∧ Rc w (.agg #[.bool t, n]) q k
section
variable {w w' : World} {v : Value} {a b p q : Int} {r : Rat} {k : Nat} {x : Nat} {s t : Bool} {m n : Value}
theorem BoxR.keepsFd {x : Nat} {s t : Bool} {A C : Option Addr} {j c j' c' : Nat} (h : BoxR w x s (.slice A j c) t (.slice C j' c')) (hu : Fd w v a b k) (u0 u1 u2 u3 : Value) : Fd (st4 w x u0 u1 u2 u3) v a b k := by
  obtain ⟨s, m, t, n, e, h1, h2⟩ := hu
  exact ⟨s, m, t, n, e, h.keepsRd h1 u0 u1 u2 u3, h.keepsRd h2 u0 u1 u2 u3⟩
theorem BoxR.keepsQd {x : Nat} {s t : Bool} {A C : Option Addr} {j c j' c' : Nat} (h : BoxR w x s (.slice A j c) t (.slice C j' c')) (hu : Qd w v r k) (u0 u1 u2 u3 : Value) : Qd (st4 w x u0 u1 u2 u3) v r k := by
  obtain ⟨a, b, h1, h2⟩ := hu
  exact ⟨a, b, h.keepsFd h1 u0 u1 u2 u3, h2⟩
theorem BoxR.keepsQc {x : Nat} {s t : Bool} {A C : Option Addr} {j c j' c' : Nat} (h : BoxR w x s (.slice A j c) t (.slice C j' c')) (hu : Qc w v r k) (u0 u1 u2 u3 : Value) : Qc (st4 w x u0 u1 u2 u3) v r k := by
  obtain ⟨s, m, t, n, e, h1, h2⟩ := hu
  exact ⟨s, m, t, n, e, h.keepsRc h1 u0 u1 u2 u3, h.keepsRc h2 u0 u1 u2 u3⟩
theorem Gc.below (h : Gc w v p q k) (hb : Below w.heap.size w w') : Gc w' v p q k := by
  obtain ⟨s, m, t, n, e, h1, h2⟩ := h
  exact ⟨s, m, t, n, e, h1.below hb, h2.below hb⟩
theorem Gc.more {k' : Nat} (h : Gc w v p q k) (hk : k ≤ k') : Gc w v p q k' := by
  obtain ⟨s, m, t, n, e, h1, h2⟩ := h
  exact ⟨s, m, t, n, e, h1.more hk, h2.more hk⟩
theorem Gc.fd (h : Gc w v p q k) : Fd w v p q k := by
  obtain ⟨s, m, t, n, e, h1, h2⟩ := h
  exact ⟨s, m, t, n, e, h1.rd, h2.rd⟩
theorem Gc.of_eq {p' q' : Int} (h : Gc w v p q k) (e1 : p = p') (e2 : q = q') : Gc w v p' q' k := by subst e1 e2; exact h
theorem Gc.mk {s : Bool} {m : Value} {t : Bool} {n : Value} (h1 : Rc w (.agg #[.bool s, m]) p k) (h2 : Rc w (.agg #[.bool t, n]) q k) : Gc w (.agg #[.bool s, m, .bool t, n]) p q k := ⟨_, _, _, _, rfl, h1, h2⟩
theorem Gc.parts (h : Gc w v p q k) : ∃ s A n c t C n' c', v = .agg #[.bool s, .slice A n c, .bool t, .slice C n' c'] ∧ Rc w (.agg #[.bool s, .slice A n c]) p k ∧ Rc w (.agg #[.bool t, .slice C n' c']) q k := by
  obtain ⟨s, m, t, n, rfl, h1, h2⟩ := h
  obtain ⟨s', A, n, c, e1⟩ := h1.shape
  obtain ⟨t', C, n', c', e2⟩ := h2.shape
  simp only [Value.agg.injEq, Array.mk.injEq, List.cons.injEq, and_true, Value.bool.injEq] at e1 e2
  obtain ⟨rfl, rfl⟩ := e1
  obtain ⟨rfl, rfl⟩ := e2
  exact ⟨s, A, n, c, t, C, n', c', rfl, h1, h2⟩
theorem Gc.shape (h : Gc w v p q k) : ∃ s A n c t C n' c', v = .agg #[.bool s, .slice A n c, .bool t, .slice C n' c'] := by
  obtain ⟨s, A, n, c, t, C, n', c', e, -, -⟩ := h.parts
  exact ⟨s, A, n, c, t, C, n', c', e⟩
theorem Gc.num {s : Bool} {m : Value} {t : Bool} {n : Value} (h : Gc w (.agg #[.bool s, m, .bool t, n]) p q k) : Rc w (.agg #[.bool s, m]) p k := by
  obtain ⟨_, _, _, _, e, h1, -⟩ := h
  simp only [Value.agg.injEq, Array.mk.injEq, List.cons.injEq, and_true, Value.bool.injEq] at e
  obtain ⟨rfl, rfl, rfl, rfl⟩ := e
  exact h1
theorem Gc.den {s : Bool} {m : Value} {t : Bool} {n : Value} (h : Gc w (.agg #[.bool s, m, .bool t, n]) p q k) : Rc w (.agg #[.bool t, n]) q k := by
  obtain ⟨_, _, _, _, e, -, h1⟩ := h
  simp only [Value.agg.injEq, Array.mk.injEq, List.cons.injEq, and_true, Value.bool.injEq] at e
  obtain ⟨rfl, rfl, rfl, rfl⟩ := e
  exact h1
theorem Qd.shape (h : Qd w v r k) : ∃ s A n c t C n' c', v = .agg #[.bool s, .slice A n c, .bool t, .slice C n' c'] := by
  obtain ⟨a, b, h, -⟩ := h
  obtain ⟨s, A, n, c, t, C, n', c', e, -, -⟩ := h.shape
  exact ⟨s, A, n, c, t, C, n', c', e⟩
theorem Fd.of_eq {a' b' : Int} (h : Fd w v a b k) (e1 : a = a') (e2 : b = b') : Fd w v a' b' k := by subst e1 e2; exact h
theorem BoxR.keepsGc {j c j' c' : Nat} {A C : Option Addr} (h : BoxR w x s (.slice A j c) t (.slice C j' c')) (hu : Gc w v p q k) (u0 u1 u2 u3 : Value) : Gc (st4 w x u0 u1 u2 u3) v p q k := by
  obtain ⟨s, m, t, n, e, h1, h2⟩ := hu
  exact ⟨s, m, t, n, e, h.keepsRc h1 u0 u1 u2 u3, h.keepsRc h2 u0 u1 u2 u3⟩
theorem Box4.keepsGc {j c j' c' : Nat} {A C : Option Addr} (h : Box4 w x s (.slice A j c) t (.slice C j' c')) (hu : Gc w v p q k) (u0 u1 u2 u3 : Value) : Gc (st4 w x u0 u1 u2 u3) v p q k := by
  obtain ⟨s, m, t, n, e, h1, h2⟩ := hu
  exact ⟨s, m, t, n, e, h.keepsRc h1 u0 u1 u2 u3, h.keepsRc h2 u0 u1 u2 u3⟩
theorem Box.keepsGc {j c : Nat} {A : Option Addr} (h : Box w x s (.slice A j c)) (hu : Gc w v p q k) (s' : Bool) (m' : Value) : Gc ((w.setCell ⟨x, 0, none⟩ (.bool s')).setCell ⟨x, 1, none⟩ m') v p q k := by
  obtain ⟨s, m, t, n, e, h1, h2⟩ := hu
  exact ⟨s, m, t, n, e, h.keepsRc h1 s' m', h.keepsRc h2 s' m'⟩
theorem Box.keepsFd {j c : Nat} {A : Option Addr} (h : Box w x s (.slice A j c)) (hu : Fd w v p q k) (s' : Bool) (m' : Value) : Fd ((w.setCell ⟨x, 0, none⟩ (.bool s')).setCell ⟨x, 1, none⟩ m') v p q k := by
  obtain ⟨s, m, t, n, e, h1, h2⟩ := hu
  exact ⟨s, m, t, n, e, h.keepsRd h1 s' m', h.keepsRd h2 s' m'⟩
end
theorem Rc.tight {w : World} {v : Value} {z : Int} {n m : Nat} (h : Rc w v z n) (hz : z.natAbs < 4294967296 ^ m) : Rc w v z m := ⟨h.1, hz⟩
theorem Fd.words {w : World} {v : Value} {p q : Int} {k : Nat} (h : Fd w v p q k) : p.natAbs < 4294967296 ^ k ∧ q.natAbs < 4294967296 ^ k := by
  obtain ⟨s, m, t, n, -, h1, h2⟩ := h
  exact ⟨h1.abs, h2.abs⟩
theorem Qd.bits {w : World} {v : Value} {r : Rat} {k : Nat} (h : Qd w v r k) (g : 1 ≤ k) : r.num.natAbs < 4294967296 ^ k ∧ r.den < 4294967296 ^ k := by
  obtain ⟨a, b, h, rfl⟩ := h
  exact divInt_bits (one_lt_B g) h.words.1 h.words.2
theorem Qc.tight {w : World} {v : Value} {r : Rat} {k j : Nat} (h : Qc w v r k) (g : r.num.natAbs < 4294967296 ^ j ∧ r.den < 4294967296 ^ j) : Qc w v r j := by
  obtain ⟨s, m, t, n, e, h1, h2⟩ := h
  exact ⟨s, m, t, n, e, h1.tight g.1, h2.tight (by rw [Int.natAbs_natCast]; exact g.2)⟩
section
variable {v1 v2 : Value} {r1 r2 : Rat} {k1 k2 : Nat} {w : World}
theorem Add_qt (h1 : Qd w v1 r1 k1) (h2 : Qd w v2 r2 k2) (f1 : k1 ≤ 4000) (f2 : k2 ≤ 4000) (g1 : 1 ≤ k1) (g2 : 1 ≤ k2) :
    Calls Tryz.prog 21 #[v1, v2] w fun e w' => ∃ v', e = .returned v' ∧ Qc w' v' (r1 + r2) (k1 + k2 + 1) ∧ Below w.heap.size w w' :=
  (Add_q h1 h2 f1 f2).mono fun _ _ ⟨v', he, hq, hb⟩ => ⟨v', he, hq.tight (sumQ_bits (h1.bits g1).1 (h1.bits g1).2 (h2.bits g2).1 (h2.bits g2).2).1, hb⟩
theorem Sub_qt (h1 : Qd w v1 r1 k1) (h2 : Qd w v2 r2 k2) (f1 : k1 ≤ 4000) (f2 : k2 ≤ 4000) (g1 : 1 ≤ k1) (g2 : 1 ≤ k2) :
    Calls Tryz.prog 50 #[v1, v2] w fun e w' => ∃ v', e = .returned v' ∧ Qc w' v' (r1 - r2) (k1 + k2 + 1) ∧ Below w.heap.size w w' :=
  (Sub_q h1 h2 f1 f2).mono fun _ _ ⟨v', he, hq, hb⟩ => ⟨v', he, hq.tight (sumQ_bits (h1.bits g1).1 (h1.bits g1).2 (h2.bits g2).1 (h2.bits g2).2).2, hb⟩
end
end Go.Proofs.YtccndofafljaaaaGreatDoor
