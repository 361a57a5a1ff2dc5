/- Variables of the types Vector and Arc. -/
import Derived.Test.YtjpdahalplkfbaaSBase
namespace Go.Proofs.Ytjpdahalplkfbaa
open Go Go.RowKit Hd

section
variable {w w' : World} {x : Nat} {a b c : Int}
def st3 (w : World) (x : Nat) (u0 u1 u2 : Value) : World := ((w.setCell ⟨x, 0, none⟩ u0).setCell ⟨x, 1, none⟩ u1).setCell ⟨x, 2, none⟩ u2
theorem Below.store3 {B y : Nat} {a : World} (h : Below B a w) (hx : B ≤ y) (u0 u1 u2 : Value) : Below B a (st3 w y u0 u1 u2) :=
  ((h.setCell (p := ⟨y, 0, none⟩) hx u0).setCell (p := ⟨y, 1, none⟩) hx u1).setCell (p := ⟨y, 2, none⟩) hx u2
theorem Below.store2 {B y : Nat} {a : World} (h : Below B a w) (hx : B ≤ y) (u0 u1 : Value) : Below B a ((w.setCell ⟨y, 0, none⟩ u0).setCell ⟨y, 1, none⟩ u1) :=
  (h.setCell (p := ⟨y, 0, none⟩) hx u0).setCell (p := ⟨y, 1, none⟩) hx u1
end

/-- A variable of the type Arc. -/
def Box2 (w : World) (x : Nat) (a b : Int) : Prop := w.heap[x]? = some (.cells #[.int .i64 a, .int .i64 b] 59 (0, 0))
section
variable {w w' : World} {x : Nat} {a b : Int}
theorem Box2.c0 (h : Box2 w x a b) : w.cell? ⟨x, 0, none⟩ = some (.int .i64 a) := cell_of_row w x 0 _ _ (0, 0) h
theorem Box2.c1 (h : Box2 w x a b) : w.cell? ⟨x, 1, none⟩ = some (.int .i64 b) := cell_of_row w x 1 _ _ (0, 0) h
theorem Box2.f0 (h : Box2 w x a b) : w.frozen? ⟨x, 0, none⟩ = false := frozen_of_row w x 0 _ _ h
theorem Box2.f1 (h : Box2 w x a b) : w.frozen? ⟨x, 1, none⟩ = false := frozen_of_row w x 1 _ _ h
theorem Box2.new (w : World) (a b : Int) : Box2 (w.alloc (.cells #[.int .i64 a, .int .i64 b] 59)) w.heap.size a b := heap_alloc_new w _
theorem Box2.lt (h : Box2 w x a b) : x < w.heap.size := by
  rcases Nat.lt_or_ge x w.heap.size with hlt | hge
  · exact hlt
  · unfold Box2 at h; rw [Array.getElem?_eq_none hge] at h; cases h
theorem Box2.alloc (h : Box2 w x a b) (o : Obj) : Box2 (w.alloc o) x a b := (Below.heap_alloc w o x h.lt).trans h
theorem Box2.below {B : Nat} (h : Box2 w x a b) (hb : Below B w w') (hx : x < B) : Box2 w' x a b := (hb.block x hx).trans h
theorem Box2.store (h : Box2 w x a b) (a' b' : Int) : Box2 ((w.setCell ⟨x, 0, none⟩ (.int .i64 a')).setCell ⟨x, 1, none⟩ (.int .i64 b')) x a' b' := by
  have h1 : Box2 (w.setCell ⟨x, 0, none⟩ (.int .i64 a')) x a' b := heap_setCell_same w x 0 _ _ (.int .i64 a') h
  exact heap_setCell_same _ x 1 _ _ (.int .i64 b') h1
theorem Box2.far2 {y : Nat} (h : Box2 w x a b) (hne : x ≠ y) (u0 u1 : Value) : Box2 ((w.setCell ⟨y, 0, none⟩ u0).setCell ⟨y, 1, none⟩ u1) x a b :=
  ((heap_setCell_other _ ⟨y, 1, none⟩ x u1 hne).trans (heap_setCell_other w ⟨y, 0, none⟩ x u0 hne)).trans h
end

end Go.Proofs.Ytjpdahalplkfbaa
