/- Variables of the types Spot and Transform, and their values. -/
import Derived.Test.YtccndofafljaaaaGreatDoorRotBox

set_option linter.unusedVariables false
set_option linter.unusedSimpArgs false

namespace Go.Proofs.YtccndofafljaaaaGreatDoor
open Go Go.RowKit Num

def Box8 (w : World) (x : Nat) (b0 : Bool) (v0 : Value) (b1 : Bool) (v1 : Value) (b2 : Bool) (v2 : Value) (b3 : Bool) (v3 : Value) : Prop := w.heap[x]? = some (.cells #[.bool b0, v0, .bool b1, v1, .bool b2, v2, .bool b3, v3] 46 (0, 0))
section
variable {w w' : World} {x : Nat} {b0 : Bool} {v0 : Value} {b1 : Bool} {v1 : Value} {b2 : Bool} {v2 : Value} {b3 : Bool} {v3 : Value}
theorem Box8.c0 (h : Box8 w x b0 v0 b1 v1 b2 v2 b3 v3) : w.cell? ⟨x, 0, none⟩ = some (.bool b0) := cell_of_row w x 0 _ _ (0, 0) h
theorem Box8.f0 (h : Box8 w x b0 v0 b1 v1 b2 v2 b3 v3) : w.frozen? ⟨x, 0, none⟩ = false := frozen_of_row w x 0 _ _ h
theorem Box8.c1 (h : Box8 w x b0 v0 b1 v1 b2 v2 b3 v3) : w.cell? ⟨x, 1, none⟩ = some v0 := cell_of_row w x 1 _ _ (0, 0) h
theorem Box8.f1 (h : Box8 w x b0 v0 b1 v1 b2 v2 b3 v3) : w.frozen? ⟨x, 1, none⟩ = false := frozen_of_row w x 1 _ _ h
theorem Box8.c2 (h : Box8 w x b0 v0 b1 v1 b2 v2 b3 v3) : w.cell? ⟨x, 2, none⟩ = some (.bool b1) := cell_of_row w x 2 _ _ (0, 0) h
theorem Box8.f2 (h : Box8 w x b0 v0 b1 v1 b2 v2 b3 v3) : w.frozen? ⟨x, 2, none⟩ = false := frozen_of_row w x 2 _ _ h
theorem Box8.c3 (h : Box8 w x b0 v0 b1 v1 b2 v2 b3 v3) : w.cell? ⟨x, 3, none⟩ = some v1 := cell_of_row w x 3 _ _ (0, 0) h
theorem Box8.f3 (h : Box8 w x b0 v0 b1 v1 b2 v2 b3 v3) : w.frozen? ⟨x, 3, none⟩ = false := frozen_of_row w x 3 _ _ h
theorem Box8.c4 (h : Box8 w x b0 v0 b1 v1 b2 v2 b3 v3) : w.cell? ⟨x, 4, none⟩ = some (.bool b2) := cell_of_row w x 4 _ _ (0, 0) h
theorem Box8.f4 (h : Box8 w x b0 v0 b1 v1 b2 v2 b3 v3) : w.frozen? ⟨x, 4, none⟩ = false := frozen_of_row w x 4 _ _ h
theorem Box8.c5 (h : Box8 w x b0 v0 b1 v1 b2 v2 b3 v3) : w.cell? ⟨x, 5, none⟩ = some v2 := cell_of_row w x 5 _ _ (0, 0) h
theorem Box8.f5 (h : Box8 w x b0 v0 b1 v1 b2 v2 b3 v3) : w.frozen? ⟨x, 5, none⟩ = false := frozen_of_row w x 5 _ _ h
theorem Box8.c6 (h : Box8 w x b0 v0 b1 v1 b2 v2 b3 v3) : w.cell? ⟨x, 6, none⟩ = some (.bool b3) := cell_of_row w x 6 _ _ (0, 0) h
theorem Box8.f6 (h : Box8 w x b0 v0 b1 v1 b2 v2 b3 v3) : w.frozen? ⟨x, 6, none⟩ = false := frozen_of_row w x 6 _ _ h
theorem Box8.c7 (h : Box8 w x b0 v0 b1 v1 b2 v2 b3 v3) : w.cell? ⟨x, 7, none⟩ = some v3 := cell_of_row w x 7 _ _ (0, 0) h
theorem Box8.f7 (h : Box8 w x b0 v0 b1 v1 b2 v2 b3 v3) : w.frozen? ⟨x, 7, none⟩ = false := frozen_of_row w x 7 _ _ h
theorem Box8.new (w : World) (b0 : Bool) (v0 : Value) (b1 : Bool) (v1 : Value) (b2 : Bool) (v2 : Value) (b3 : Bool) (v3 : Value) : Box8 (w.alloc (.cells #[.bool b0, v0, .bool b1, v1, .bool b2, v2, .bool b3, v3] 46)) w.heap.size b0 v0 b1 v1 b2 v2 b3 v3 := heap_alloc_new w _
theorem Box8.lt (h : Box8 w x b0 v0 b1 v1 b2 v2 b3 v3) : x < w.heap.size := by
  rcases Nat.lt_or_ge x w.heap.size with hlt | hge
  · exact hlt
  · unfold Box8 at h; rw [Array.getElem?_eq_none hge] at h; cases h
theorem Box8.alloc (h : Box8 w x b0 v0 b1 v1 b2 v2 b3 v3) (o : Obj) : Box8 (w.alloc o) x b0 v0 b1 v1 b2 v2 b3 v3 := (Below.heap_alloc w o x h.lt).trans h
theorem Box8.below {B : Nat} (h : Box8 w x b0 v0 b1 v1 b2 v2 b3 v3) (hb : Below B w w') (hx : x < B) : Box8 w' x b0 v0 b1 v1 b2 v2 b3 v3 := (hb.block x hx).trans h
theorem Box8.far4 {y : Nat} (h : Box8 w x b0 v0 b1 v1 b2 v2 b3 v3) (hne : x ≠ y) (u0 u1 u2 u3 : Value) : Box8 (st4 w y u0 u1 u2 u3) x b0 v0 b1 v1 b2 v2 b3 v3 := (heap_st4 hne u0 u1 u2 u3).trans h
theorem Box8.far {y : Nat} (h : Box8 w x b0 v0 b1 v1 b2 v2 b3 v3) (hne : x ≠ y) (u v : Value) : Box8 ((w.setCell ⟨y, 0, none⟩ u).setCell ⟨y, 1, none⟩ v) x b0 v0 b1 v1 b2 v2 b3 v3 :=
  ((heap_setCell_other _ ⟨y, 1, none⟩ x v hne).trans (heap_setCell_other w ⟨y, 0, none⟩ x u hne)).trans h
end
def Box12 (w : World) (x : Nat) (b0 : Bool) (v0 : Value) (b1 : Bool) (v1 : Value) (b2 : Bool) (v2 : Value) (b3 : Bool) (v3 : Value) (b4 : Bool) (v4 : Value) (b5 : Bool) (v5 : Value) : Prop := w.heap[x]? = some (.cells #[.bool b0, v0, .bool b1, v1, .bool b2, v2, .bool b3, v3, .bool b4, v4, .bool b5, v5] 44 (0, 0))
section
variable {w w' : World} {x : Nat} {b0 : Bool} {v0 : Value} {b1 : Bool} {v1 : Value} {b2 : Bool} {v2 : Value} {b3 : Bool} {v3 : Value} {b4 : Bool} {v4 : Value} {b5 : Bool} {v5 : Value}
theorem Box12.c0 (h : Box12 w x b0 v0 b1 v1 b2 v2 b3 v3 b4 v4 b5 v5) : w.cell? ⟨x, 0, none⟩ = some (.bool b0) := cell_of_row w x 0 _ _ (0, 0) h
theorem Box12.f0 (h : Box12 w x b0 v0 b1 v1 b2 v2 b3 v3 b4 v4 b5 v5) : w.frozen? ⟨x, 0, none⟩ = false := frozen_of_row w x 0 _ _ h
theorem Box12.c1 (h : Box12 w x b0 v0 b1 v1 b2 v2 b3 v3 b4 v4 b5 v5) : w.cell? ⟨x, 1, none⟩ = some v0 := cell_of_row w x 1 _ _ (0, 0) h
theorem Box12.f1 (h : Box12 w x b0 v0 b1 v1 b2 v2 b3 v3 b4 v4 b5 v5) : w.frozen? ⟨x, 1, none⟩ = false := frozen_of_row w x 1 _ _ h
theorem Box12.c2 (h : Box12 w x b0 v0 b1 v1 b2 v2 b3 v3 b4 v4 b5 v5) : w.cell? ⟨x, 2, none⟩ = some (.bool b1) := cell_of_row w x 2 _ _ (0, 0) h
theorem Box12.f2 (h : Box12 w x b0 v0 b1 v1 b2 v2 b3 v3 b4 v4 b5 v5) : w.frozen? ⟨x, 2, none⟩ = false := frozen_of_row w x 2 _ _ h
theorem Box12.c3 (h : Box12 w x b0 v0 b1 v1 b2 v2 b3 v3 b4 v4 b5 v5) : w.cell? ⟨x, 3, none⟩ = some v1 := cell_of_row w x 3 _ _ (0, 0) h
theorem Box12.f3 (h : Box12 w x b0 v0 b1 v1 b2 v2 b3 v3 b4 v4 b5 v5) : w.frozen? ⟨x, 3, none⟩ = false := frozen_of_row w x 3 _ _ h
theorem Box12.c4 (h : Box12 w x b0 v0 b1 v1 b2 v2 b3 v3 b4 v4 b5 v5) : w.cell? ⟨x, 4, none⟩ = some (.bool b2) := cell_of_row w x 4 _ _ (0, 0) h
theorem Box12.f4 (h : Box12 w x b0 v0 b1 v1 b2 v2 b3 v3 b4 v4 b5 v5) : w.frozen? ⟨x, 4, none⟩ = false := frozen_of_row w x 4 _ _ h
theorem Box12.c5 (h : Box12 w x b0 v0 b1 v1 b2 v2 b3 v3 b4 v4 b5 v5) : w.cell? ⟨x, 5, none⟩ = some v2 := cell_of_row w x 5 _ _ (0, 0) h
theorem Box12.f5 (h : Box12 w x b0 v0 b1 v1 b2 v2 b3 v3 b4 v4 b5 v5) : w.frozen? ⟨x, 5, none⟩ = false := frozen_of_row w x 5 _ _ h
theorem Box12.c6 (h : Box12 w x b0 v0 b1 v1 b2 v2 b3 v3 b4 v4 b5 v5) : w.cell? ⟨x, 6, none⟩ = some (.bool b3) := cell_of_row w x 6 _ _ (0, 0) h
theorem Box12.f6 (h : Box12 w x b0 v0 b1 v1 b2 v2 b3 v3 b4 v4 b5 v5) : w.frozen? ⟨x, 6, none⟩ = false := frozen_of_row w x 6 _ _ h
theorem Box12.c7 (h : Box12 w x b0 v0 b1 v1 b2 v2 b3 v3 b4 v4 b5 v5) : w.cell? ⟨x, 7, none⟩ = some v3 := cell_of_row w x 7 _ _ (0, 0) h
theorem Box12.f7 (h : Box12 w x b0 v0 b1 v1 b2 v2 b3 v3 b4 v4 b5 v5) : w.frozen? ⟨x, 7, none⟩ = false := frozen_of_row w x 7 _ _ h
theorem Box12.c8 (h : Box12 w x b0 v0 b1 v1 b2 v2 b3 v3 b4 v4 b5 v5) : w.cell? ⟨x, 8, none⟩ = some (.bool b4) := cell_of_row w x 8 _ _ (0, 0) h
theorem Box12.f8 (h : Box12 w x b0 v0 b1 v1 b2 v2 b3 v3 b4 v4 b5 v5) : w.frozen? ⟨x, 8, none⟩ = false := frozen_of_row w x 8 _ _ h
theorem Box12.c9 (h : Box12 w x b0 v0 b1 v1 b2 v2 b3 v3 b4 v4 b5 v5) : w.cell? ⟨x, 9, none⟩ = some v4 := cell_of_row w x 9 _ _ (0, 0) h
theorem Box12.f9 (h : Box12 w x b0 v0 b1 v1 b2 v2 b3 v3 b4 v4 b5 v5) : w.frozen? ⟨x, 9, none⟩ = false := frozen_of_row w x 9 _ _ h
theorem Box12.c10 (h : Box12 w x b0 v0 b1 v1 b2 v2 b3 v3 b4 v4 b5 v5) : w.cell? ⟨x, 10, none⟩ = some (.bool b5) := cell_of_row w x 10 _ _ (0, 0) h
theorem Box12.f10 (h : Box12 w x b0 v0 b1 v1 b2 v2 b3 v3 b4 v4 b5 v5) : w.frozen? ⟨x, 10, none⟩ = false := frozen_of_row w x 10 _ _ h
theorem Box12.c11 (h : Box12 w x b0 v0 b1 v1 b2 v2 b3 v3 b4 v4 b5 v5) : w.cell? ⟨x, 11, none⟩ = some v5 := cell_of_row w x 11 _ _ (0, 0) h
theorem Box12.f11 (h : Box12 w x b0 v0 b1 v1 b2 v2 b3 v3 b4 v4 b5 v5) : w.frozen? ⟨x, 11, none⟩ = false := frozen_of_row w x 11 _ _ h
theorem Box12.new (w : World) (b0 : Bool) (v0 : Value) (b1 : Bool) (v1 : Value) (b2 : Bool) (v2 : Value) (b3 : Bool) (v3 : Value) (b4 : Bool) (v4 : Value) (b5 : Bool) (v5 : Value) : Box12 (w.alloc (.cells #[.bool b0, v0, .bool b1, v1, .bool b2, v2, .bool b3, v3, .bool b4, v4, .bool b5, v5] 44)) w.heap.size b0 v0 b1 v1 b2 v2 b3 v3 b4 v4 b5 v5 := heap_alloc_new w _
theorem Box12.lt (h : Box12 w x b0 v0 b1 v1 b2 v2 b3 v3 b4 v4 b5 v5) : x < w.heap.size := by
  rcases Nat.lt_or_ge x w.heap.size with hlt | hge
  · exact hlt
  · unfold Box12 at h; rw [Array.getElem?_eq_none hge] at h; cases h
theorem Box12.alloc (h : Box12 w x b0 v0 b1 v1 b2 v2 b3 v3 b4 v4 b5 v5) (o : Obj) : Box12 (w.alloc o) x b0 v0 b1 v1 b2 v2 b3 v3 b4 v4 b5 v5 := (Below.heap_alloc w o x h.lt).trans h
theorem Box12.below {B : Nat} (h : Box12 w x b0 v0 b1 v1 b2 v2 b3 v3 b4 v4 b5 v5) (hb : Below B w w') (hx : x < B) : Box12 w' x b0 v0 b1 v1 b2 v2 b3 v3 b4 v4 b5 v5 := (hb.block x hx).trans h
theorem Box12.far4 {y : Nat} (h : Box12 w x b0 v0 b1 v1 b2 v2 b3 v3 b4 v4 b5 v5) (hne : x ≠ y) (u0 u1 u2 u3 : Value) : Box12 (st4 w y u0 u1 u2 u3) x b0 v0 b1 v1 b2 v2 b3 v3 b4 v4 b5 v5 := (heap_st4 hne u0 u1 u2 u3).trans h
theorem Box12.far {y : Nat} (h : Box12 w x b0 v0 b1 v1 b2 v2 b3 v3 b4 v4 b5 v5) (hne : x ≠ y) (u v : Value) : Box12 ((w.setCell ⟨y, 0, none⟩ u).setCell ⟨y, 1, none⟩ v) x b0 v0 b1 v1 b2 v2 b3 v3 b4 v4 b5 v5 :=
  ((heap_setCell_other _ ⟨y, 1, none⟩ x v hne).trans (heap_setCell_other w ⟨y, 0, none⟩ x u hne)).trans h
end
/-- Twelve cells are written, one after the other. -/
def st12 (w : World) (x : Nat) (u0 u1 u2 u3 u4 u5 u6 u7 u8 u9 u10 u11 : Value) : World := ((((((((((((w.setCell ⟨x, 0, none⟩ u0).setCell ⟨x, 1, none⟩ u1).setCell ⟨x, 2, none⟩ u2).setCell ⟨x, 3, none⟩ u3).setCell ⟨x, 4, none⟩ u4).setCell ⟨x, 5, none⟩ u5).setCell ⟨x, 6, none⟩ u6).setCell ⟨x, 7, none⟩ u7).setCell ⟨x, 8, none⟩ u8).setCell ⟨x, 9, none⟩ u9).setCell ⟨x, 10, none⟩ u10).setCell ⟨x, 11, none⟩ u11)
section
variable {w w' : World} {x : Nat} {b0 : Bool} {v0 : Value} {b1 : Bool} {v1 : Value} {b2 : Bool} {v2 : Value} {b3 : Bool} {v3 : Value} {b4 : Bool} {v4 : Value} {b5 : Bool} {v5 : Value}
theorem Box12.store (h : Box12 w x b0 v0 b1 v1 b2 v2 b3 v3 b4 v4 b5 v5) (b0' : Bool) (v0' : Value) (b1' : Bool) (v1' : Value) (b2' : Bool) (v2' : Value) (b3' : Bool) (v3' : Value) (b4' : Bool) (v4' : Value) (b5' : Bool) (v5' : Value) : Box12 (st12 w x (.bool b0') v0' (.bool b1') v1' (.bool b2') v2' (.bool b3') v3' (.bool b4') v4' (.bool b5') v5') x b0' v0' b1' v1' b2' v2' b3' v3' b4' v4' b5' v5' := by
  have h1 : Box12 (w.setCell ⟨x, 0, none⟩ (.bool b0')) x b0' v0 b1 v1 b2 v2 b3 v3 b4 v4 b5 v5 := heap_setCell_same _ x 0 _ _ (.bool b0') h
  have h2 : Box12 ((w.setCell ⟨x, 0, none⟩ (.bool b0')).setCell ⟨x, 1, none⟩ v0') x b0' v0' b1 v1 b2 v2 b3 v3 b4 v4 b5 v5 := heap_setCell_same _ x 1 _ _ v0' h1
  have h3 : Box12 (((w.setCell ⟨x, 0, none⟩ (.bool b0')).setCell ⟨x, 1, none⟩ v0').setCell ⟨x, 2, none⟩ (.bool b1')) x b0' v0' b1' v1 b2 v2 b3 v3 b4 v4 b5 v5 := heap_setCell_same _ x 2 _ _ (.bool b1') h2
  have h4 : Box12 ((((w.setCell ⟨x, 0, none⟩ (.bool b0')).setCell ⟨x, 1, none⟩ v0').setCell ⟨x, 2, none⟩ (.bool b1')).setCell ⟨x, 3, none⟩ v1') x b0' v0' b1' v1' b2 v2 b3 v3 b4 v4 b5 v5 := heap_setCell_same _ x 3 _ _ v1' h3
  have h5 : Box12 (((((w.setCell ⟨x, 0, none⟩ (.bool b0')).setCell ⟨x, 1, none⟩ v0').setCell ⟨x, 2, none⟩ (.bool b1')).setCell ⟨x, 3, none⟩ v1').setCell ⟨x, 4, none⟩ (.bool b2')) x b0' v0' b1' v1' b2' v2 b3 v3 b4 v4 b5 v5 := heap_setCell_same _ x 4 _ _ (.bool b2') h4
  have h6 : Box12 ((((((w.setCell ⟨x, 0, none⟩ (.bool b0')).setCell ⟨x, 1, none⟩ v0').setCell ⟨x, 2, none⟩ (.bool b1')).setCell ⟨x, 3, none⟩ v1').setCell ⟨x, 4, none⟩ (.bool b2')).setCell ⟨x, 5, none⟩ v2') x b0' v0' b1' v1' b2' v2' b3 v3 b4 v4 b5 v5 := heap_setCell_same _ x 5 _ _ v2' h5
  have h7 : Box12 (((((((w.setCell ⟨x, 0, none⟩ (.bool b0')).setCell ⟨x, 1, none⟩ v0').setCell ⟨x, 2, none⟩ (.bool b1')).setCell ⟨x, 3, none⟩ v1').setCell ⟨x, 4, none⟩ (.bool b2')).setCell ⟨x, 5, none⟩ v2').setCell ⟨x, 6, none⟩ (.bool b3')) x b0' v0' b1' v1' b2' v2' b3' v3 b4 v4 b5 v5 := heap_setCell_same _ x 6 _ _ (.bool b3') h6
  have h8 : Box12 ((((((((w.setCell ⟨x, 0, none⟩ (.bool b0')).setCell ⟨x, 1, none⟩ v0').setCell ⟨x, 2, none⟩ (.bool b1')).setCell ⟨x, 3, none⟩ v1').setCell ⟨x, 4, none⟩ (.bool b2')).setCell ⟨x, 5, none⟩ v2').setCell ⟨x, 6, none⟩ (.bool b3')).setCell ⟨x, 7, none⟩ v3') x b0' v0' b1' v1' b2' v2' b3' v3' b4 v4 b5 v5 := heap_setCell_same _ x 7 _ _ v3' h7
  have h9 : Box12 (((((((((w.setCell ⟨x, 0, none⟩ (.bool b0')).setCell ⟨x, 1, none⟩ v0').setCell ⟨x, 2, none⟩ (.bool b1')).setCell ⟨x, 3, none⟩ v1').setCell ⟨x, 4, none⟩ (.bool b2')).setCell ⟨x, 5, none⟩ v2').setCell ⟨x, 6, none⟩ (.bool b3')).setCell ⟨x, 7, none⟩ v3').setCell ⟨x, 8, none⟩ (.bool b4')) x b0' v0' b1' v1' b2' v2' b3' v3' b4' v4 b5 v5 := heap_setCell_same _ x 8 _ _ (.bool b4') h8
  have h10 : Box12 ((((((((((w.setCell ⟨x, 0, none⟩ (.bool b0')).setCell ⟨x, 1, none⟩ v0').setCell ⟨x, 2, none⟩ (.bool b1')).setCell ⟨x, 3, none⟩ v1').setCell ⟨x, 4, none⟩ (.bool b2')).setCell ⟨x, 5, none⟩ v2').setCell ⟨x, 6, none⟩ (.bool b3')).setCell ⟨x, 7, none⟩ v3').setCell ⟨x, 8, none⟩ (.bool b4')).setCell ⟨x, 9, none⟩ v4') x b0' v0' b1' v1' b2' v2' b3' v3' b4' v4' b5 v5 := heap_setCell_same _ x 9 _ _ v4' h9
  have h11 : Box12 (((((((((((w.setCell ⟨x, 0, none⟩ (.bool b0')).setCell ⟨x, 1, none⟩ v0').setCell ⟨x, 2, none⟩ (.bool b1')).setCell ⟨x, 3, none⟩ v1').setCell ⟨x, 4, none⟩ (.bool b2')).setCell ⟨x, 5, none⟩ v2').setCell ⟨x, 6, none⟩ (.bool b3')).setCell ⟨x, 7, none⟩ v3').setCell ⟨x, 8, none⟩ (.bool b4')).setCell ⟨x, 9, none⟩ v4').setCell ⟨x, 10, none⟩ (.bool b5')) x b0' v0' b1' v1' b2' v2' b3' v3' b4' v4' b5' v5 := heap_setCell_same _ x 10 _ _ (.bool b5') h10
  have h12 : Box12 ((((((((((((w.setCell ⟨x, 0, none⟩ (.bool b0')).setCell ⟨x, 1, none⟩ v0').setCell ⟨x, 2, none⟩ (.bool b1')).setCell ⟨x, 3, none⟩ v1').setCell ⟨x, 4, none⟩ (.bool b2')).setCell ⟨x, 5, none⟩ v2').setCell ⟨x, 6, none⟩ (.bool b3')).setCell ⟨x, 7, none⟩ v3').setCell ⟨x, 8, none⟩ (.bool b4')).setCell ⟨x, 9, none⟩ v4').setCell ⟨x, 10, none⟩ (.bool b5')).setCell ⟨x, 11, none⟩ v5') x b0' v0' b1' v1' b2' v2' b3' v3' b4' v4' b5' v5' := heap_setCell_same _ x 11 _ _ v5' h11
  exact h12
theorem heap_st12 {y : Nat} (hne : x ≠ y) (u0 u1 u2 u3 u4 u5 u6 u7 u8 u9 u10 u11 : Value) : (st12 w y u0 u1 u2 u3 u4 u5 u6 u7 u8 u9 u10 u11).heap[x]? = w.heap[x]? := by
  unfold st12
  rw [heap_setCell_other _ ⟨y, 11, none⟩ x _ hne, heap_setCell_other _ ⟨y, 10, none⟩ x _ hne, heap_setCell_other _ ⟨y, 9, none⟩ x _ hne, heap_setCell_other _ ⟨y, 8, none⟩ x _ hne, heap_setCell_other _ ⟨y, 7, none⟩ x _ hne, heap_setCell_other _ ⟨y, 6, none⟩ x _ hne, heap_setCell_other _ ⟨y, 5, none⟩ x _ hne, heap_setCell_other _ ⟨y, 4, none⟩ x _ hne, heap_setCell_other _ ⟨y, 3, none⟩ x _ hne, heap_setCell_other _ ⟨y, 2, none⟩ x _ hne, heap_setCell_other _ ⟨y, 1, none⟩ x _ hne, heap_setCell_other _ ⟨y, 0, none⟩ x _ hne]
theorem size_st12 (w : World) (y : Nat) (u0 u1 u2 u3 u4 u5 u6 u7 u8 u9 u10 u11 : Value) : (st12 w y u0 u1 u2 u3 u4 u5 u6 u7 u8 u9 u10 u11).heap.size = w.heap.size := by simp [st12, World.setCell]
theorem cell_st12 {y o : Nat} (hne : x ≠ y) (u0 u1 u2 u3 u4 u5 u6 u7 u8 u9 u10 u11 : Value) : (st12 w y u0 u1 u2 u3 u4 u5 u6 u7 u8 u9 u10 u11).cell? ⟨x, o, none⟩ = w.cell? ⟨x, o, none⟩ := World.cell?_of_block (a := ⟨x, o, none⟩) (heap_st12 hne u0 u1 u2 u3 u4 u5 u6 u7 u8 u9 u10 u11)
theorem Below.store12 {B y : Nat} {a : World} (h : Below B a w) (hx : B ≤ y) (u0 u1 u2 u3 u4 u5 u6 u7 u8 u9 u10 u11 : Value) : Below B a (st12 w y u0 u1 u2 u3 u4 u5 u6 u7 u8 u9 u10 u11) := ((((((((((((h.setCell (p := ⟨y, 0, none⟩) hx u0).setCell (p := ⟨y, 1, none⟩) hx u1).setCell (p := ⟨y, 2, none⟩) hx u2).setCell (p := ⟨y, 3, none⟩) hx u3).setCell (p := ⟨y, 4, none⟩) hx u4).setCell (p := ⟨y, 5, none⟩) hx u5).setCell (p := ⟨y, 6, none⟩) hx u6).setCell (p := ⟨y, 7, none⟩) hx u7).setCell (p := ⟨y, 8, none⟩) hx u8).setCell (p := ⟨y, 9, none⟩) hx u9).setCell (p := ⟨y, 10, none⟩) hx u10).setCell (p := ⟨y, 11, none⟩) hx u11)
end
theorem Box12.keeps {w : World} {x : Nat} {b0 : Bool} {A0 : Option Addr} {k0 c0 : Nat} {b1 : Bool} {A1 : Option Addr} {k1 c1 : Nat} {b2 : Bool} {A2 : Option Addr} {k2 c2 : Nat} {b3 : Bool} {A3 : Option Addr} {k3 c3 : Nat} {b4 : Bool} {A4 : Option Addr} {k4 c4 : Nat} {b5 : Bool} {A5 : Option Addr} {k5 c5 : Nat} {l : List Nat} {v : Value} (h : Box12 w x b0 (.slice A0 k0 c0) b1 (.slice A1 k1 c1) b2 (.slice A2 k2 c2) b3 (.slice A3 k3 c3) b4 (.slice A4 k4 c4) b5 (.slice A5 k5 c5)) (hu : U32 w v l) (u0 u1 u2 u3 u4 u5 u6 u7 u8 u9 u10 u11 : Value) : U32 (st12 w x u0 u1 u2 u3 u4 u5 u6 u7 u8 u9 u10 u11) v l := by
  refine ⟨hu.lt, ?_⟩
  obtain ⟨A', cap, rfl, h1, h2, h3⟩ := hu.form
  refine ⟨A', cap, rfl, h1, h2, fun hne => ?_⟩
  obtain ⟨b, off, rfl, hb, hc⟩ := h3 hne
  have hbx : b ≠ x := by
    rintro rfl
    have h0 := hc 0 (by rcases l with _ | ⟨y, ys⟩; exact absurd rfl hne; simp)
    rw [cell_of_row w b (off + 0) _ _ (0, 0) h] at h0
    match off, h0 with
    | 0, h0 => simp at h0
    | 1, h0 => simp at h0
    | 2, h0 => simp at h0
    | 3, h0 => simp at h0
    | 4, h0 => simp at h0
    | 5, h0 => simp at h0
    | 6, h0 => simp at h0
    | 7, h0 => simp at h0
    | 8, h0 => simp at h0
    | 9, h0 => simp at h0
    | 10, h0 => simp at h0
    | 11, h0 => simp at h0
    | off + 12, h0 => simp at h0
  refine ⟨b, off, rfl, by rw [size_st12]; exact hb, fun i hi => ?_⟩
  rw [cell_st12 hbx]
  exact hc i hi
theorem Box12.keepsRd {w : World} {x : Nat} {b0 : Bool} {A0 : Option Addr} {k0 c0 : Nat} {b1 : Bool} {A1 : Option Addr} {k1 c1 : Nat} {b2 : Bool} {A2 : Option Addr} {k2 c2 : Nat} {b3 : Bool} {A3 : Option Addr} {k3 c3 : Nat} {b4 : Bool} {A4 : Option Addr} {k4 c4 : Nat} {b5 : Bool} {A5 : Option Addr} {k5 c5 : Nat} {v : Value} {z : Int} {q : Nat} (h : Box12 w x b0 (.slice A0 k0 c0) b1 (.slice A1 k1 c1) b2 (.slice A2 k2 c2) b3 (.slice A3 k3 c3) b4 (.slice A4 k4 c4) b5 (.slice A5 k5 c5)) (hu : Rd w v z q) (u0 u1 u2 u3 u4 u5 u6 u7 u8 u9 u10 u11 : Value) : Rd (st12 w x u0 u1 u2 u3 u4 u5 u6 u7 u8 u9 u10 u11) v z q := by
  obtain ⟨s1, m, l, e, hu, hz, hl⟩ := hu
  exact ⟨s1, m, l, e, h.keeps hu u0 u1 u2 u3 u4 u5 u6 u7 u8 u9 u10 u11, hz, hl⟩
theorem Box12.keepsRc {w : World} {x : Nat} {b0 : Bool} {A0 : Option Addr} {k0 c0 : Nat} {b1 : Bool} {A1 : Option Addr} {k1 c1 : Nat} {b2 : Bool} {A2 : Option Addr} {k2 c2 : Nat} {b3 : Bool} {A3 : Option Addr} {k3 c3 : Nat} {b4 : Bool} {A4 : Option Addr} {k4 c4 : Nat} {b5 : Bool} {A5 : Option Addr} {k5 c5 : Nat} {v : Value} {z : Int} {q : Nat} (h : Box12 w x b0 (.slice A0 k0 c0) b1 (.slice A1 k1 c1) b2 (.slice A2 k2 c2) b3 (.slice A3 k3 c3) b4 (.slice A4 k4 c4) b5 (.slice A5 k5 c5)) (hu : Rc w v z q) (u0 u1 u2 u3 u4 u5 u6 u7 u8 u9 u10 u11 : Value) : Rc (st12 w x u0 u1 u2 u3 u4 u5 u6 u7 u8 u9 u10 u11) v z q := by
  obtain ⟨⟨m, e, hu⟩, hz⟩ := hu
  exact ⟨⟨m, e, h.keeps hu u0 u1 u2 u3 u4 u5 u6 u7 u8 u9 u10 u11⟩, hz⟩
theorem Box12.keepsFd {w : World} {x : Nat} {b0 : Bool} {A0 : Option Addr} {k0 c0 : Nat} {b1 : Bool} {A1 : Option Addr} {k1 c1 : Nat} {b2 : Bool} {A2 : Option Addr} {k2 c2 : Nat} {b3 : Bool} {A3 : Option Addr} {k3 c3 : Nat} {b4 : Bool} {A4 : Option Addr} {k4 c4 : Nat} {b5 : Bool} {A5 : Option Addr} {k5 c5 : Nat} {v : Value} {a b : Int} {q : Nat} (h : Box12 w x b0 (.slice A0 k0 c0) b1 (.slice A1 k1 c1) b2 (.slice A2 k2 c2) b3 (.slice A3 k3 c3) b4 (.slice A4 k4 c4) b5 (.slice A5 k5 c5)) (hu : Fd w v a b q) (u0 u1 u2 u3 u4 u5 u6 u7 u8 u9 u10 u11 : Value) : Fd (st12 w x u0 u1 u2 u3 u4 u5 u6 u7 u8 u9 u10 u11) v a b q := by
  obtain ⟨s, m, t, n, e, h1, h2⟩ := hu
  exact ⟨s, m, t, n, e, h.keepsRd h1 u0 u1 u2 u3 u4 u5 u6 u7 u8 u9 u10 u11, h.keepsRd h2 u0 u1 u2 u3 u4 u5 u6 u7 u8 u9 u10 u11⟩
theorem Box12.keepsQd {w : World} {x : Nat} {b0 : Bool} {A0 : Option Addr} {k0 c0 : Nat} {b1 : Bool} {A1 : Option Addr} {k1 c1 : Nat} {b2 : Bool} {A2 : Option Addr} {k2 c2 : Nat} {b3 : Bool} {A3 : Option Addr} {k3 c3 : Nat} {b4 : Bool} {A4 : Option Addr} {k4 c4 : Nat} {b5 : Bool} {A5 : Option Addr} {k5 c5 : Nat} {v : Value} {r : Rat} {q : Nat} (h : Box12 w x b0 (.slice A0 k0 c0) b1 (.slice A1 k1 c1) b2 (.slice A2 k2 c2) b3 (.slice A3 k3 c3) b4 (.slice A4 k4 c4) b5 (.slice A5 k5 c5)) (hu : Qd w v r q) (u0 u1 u2 u3 u4 u5 u6 u7 u8 u9 u10 u11 : Value) : Qd (st12 w x u0 u1 u2 u3 u4 u5 u6 u7 u8 u9 u10 u11) v r q := by
  obtain ⟨a, b, h1, h2⟩ := hu
  exact ⟨a, b, h.keepsFd h1 u0 u1 u2 u3 u4 u5 u6 u7 u8 u9 u10 u11, h2⟩
theorem Box12.keepsQc {w : World} {x : Nat} {b0 : Bool} {A0 : Option Addr} {k0 c0 : Nat} {b1 : Bool} {A1 : Option Addr} {k1 c1 : Nat} {b2 : Bool} {A2 : Option Addr} {k2 c2 : Nat} {b3 : Bool} {A3 : Option Addr} {k3 c3 : Nat} {b4 : Bool} {A4 : Option Addr} {k4 c4 : Nat} {b5 : Bool} {A5 : Option Addr} {k5 c5 : Nat} {v : Value} {r : Rat} {q : Nat} (h : Box12 w x b0 (.slice A0 k0 c0) b1 (.slice A1 k1 c1) b2 (.slice A2 k2 c2) b3 (.slice A3 k3 c3) b4 (.slice A4 k4 c4) b5 (.slice A5 k5 c5)) (hu : Qc w v r q) (u0 u1 u2 u3 u4 u5 u6 u7 u8 u9 u10 u11 : Value) : Qc (st12 w x u0 u1 u2 u3 u4 u5 u6 u7 u8 u9 u10 u11) v r q := by
  obtain ⟨s, m, t, n, e, h1, h2⟩ := hu
  exact ⟨s, m, t, n, e, h.keepsRc h1 u0 u1 u2 u3 u4 u5 u6 u7 u8 u9 u10 u11, h.keepsRc h2 u0 u1 u2 u3 u4 u5 u6 u7 u8 u9 u10 u11⟩
theorem Box12.keepsGc {w : World} {x : Nat} {b0 : Bool} {A0 : Option Addr} {k0 c0 : Nat} {b1 : Bool} {A1 : Option Addr} {k1 c1 : Nat} {b2 : Bool} {A2 : Option Addr} {k2 c2 : Nat} {b3 : Bool} {A3 : Option Addr} {k3 c3 : Nat} {b4 : Bool} {A4 : Option Addr} {k4 c4 : Nat} {b5 : Bool} {A5 : Option Addr} {k5 c5 : Nat} {v : Value} {a b : Int} {q : Nat} (h : Box12 w x b0 (.slice A0 k0 c0) b1 (.slice A1 k1 c1) b2 (.slice A2 k2 c2) b3 (.slice A3 k3 c3) b4 (.slice A4 k4 c4) b5 (.slice A5 k5 c5)) (hu : Gc w v a b q) (u0 u1 u2 u3 u4 u5 u6 u7 u8 u9 u10 u11 : Value) : Gc (st12 w x u0 u1 u2 u3 u4 u5 u6 u7 u8 u9 u10 u11) v a b q := by
  obtain ⟨s, m, t, n, e, h1, h2⟩ := hu
  exact ⟨s, m, t, n, e, h.keepsRc h1 u0 u1 u2 u3 u4 u5 u6 u7 u8 u9 u10 u11, h.keepsRc h2 u0 u1 u2 u3 u4 u5 u6 u7 u8 u9 u10 u11⟩
/-- v reads as the point (X, Y). -/
def Sp (w : World) (v : Value) (X : Rat) (Y : Rat) (k : Nat) : Prop := ∃ s0 m0 t0 n0 s1 m1 t1 n1, v = .agg #[.bool s0, m0, .bool t0, n0, .bool s1, m1, .bool t1, n1] ∧ Qd w (.agg #[.bool s0, m0, .bool t0, n0]) X k ∧ Qd w (.agg #[.bool s1, m1, .bool t1, n1]) Y k
theorem Sp.below {w w' : World} {v : Value} {X : Rat} {Y : Rat} {k : Nat} (h : Sp w v X Y k) (hb : Below w.heap.size w w') : Sp w' v X Y k := by
  obtain ⟨s0, m0, t0, n0, s1, m1, t1, n1, e, h0, h1⟩ := h
  exact ⟨s0, m0, t0, n0, s1, m1, t1, n1, e, h0.below hb, h1.below hb⟩
theorem Sp.more {w : World} {v : Value} {X : Rat} {Y : Rat} {k k' : Nat} (h : Sp w v X Y k) (hk : k ≤ k') : Sp w v X Y k' := by
  obtain ⟨s0, m0, t0, n0, s1, m1, t1, n1, e, h0, h1⟩ := h
  exact ⟨s0, m0, t0, n0, s1, m1, t1, n1, e, h0.more hk, h1.more hk⟩
theorem Sp.shape {w : World} {v : Value} {X : Rat} {Y : Rat} {k : Nat} (h : Sp w v X Y k) : ∃ s0 A0 k0 c0 t0 C0 l0 d0 s1 A1 k1 c1 t1 C1 l1 d1, v = .agg #[.bool s0, .slice A0 k0 c0, .bool t0, .slice C0 l0 d0, .bool s1, .slice A1 k1 c1, .bool t1, .slice C1 l1 d1] ∧ Qd w (.agg #[.bool s0, .slice A0 k0 c0, .bool t0, .slice C0 l0 d0]) X k ∧ Qd w (.agg #[.bool s1, .slice A1 k1 c1, .bool t1, .slice C1 l1 d1]) Y k := by
  obtain ⟨s0, m0, t0, n0, s1, m1, t1, n1, rfl, h0, h1⟩ := h
  obtain ⟨a0, A0, k0, c0, b0, C0, l0, d0, e0⟩ := h0.shape
  simp only [Value.agg.injEq, Array.mk.injEq, List.cons.injEq, and_true, Value.bool.injEq] at e0
  obtain ⟨rfl, rfl, rfl, rfl⟩ := e0
  obtain ⟨a1, A1, k1, c1, b1, C1, l1, d1, e1⟩ := h1.shape
  simp only [Value.agg.injEq, Array.mk.injEq, List.cons.injEq, and_true, Value.bool.injEq] at e1
  obtain ⟨rfl, rfl, rfl, rfl⟩ := e1
  exact ⟨_, _, _, _, _, _, _, _, _, _, _, _, _, _, _, _, rfl, h0, h1⟩
/-- v reads as the rotation of (p, q), moved by (X, Y). -/
def Tf (w : World) (v : Value) (p : Int) (q : Int) (X : Rat) (Y : Rat) (k : Nat) : Prop := ∃ s0 m0 t0 n0 s1 m1 t1 n1 s2 m2 t2 n2, v = .agg #[.bool s0, m0, .bool t0, n0, .bool s1, m1, .bool t1, n1, .bool s2, m2, .bool t2, n2] ∧ Fd w (.agg #[.bool s0, m0, .bool t0, n0]) p q k ∧ Qd w (.agg #[.bool s1, m1, .bool t1, n1]) X k ∧ Qd w (.agg #[.bool s2, m2, .bool t2, n2]) Y k
theorem Tf.below {w w' : World} {v : Value} {p : Int} {q : Int} {X : Rat} {Y : Rat} {k : Nat} (h : Tf w v p q X Y k) (hb : Below w.heap.size w w') : Tf w' v p q X Y k := by
  obtain ⟨s0, m0, t0, n0, s1, m1, t1, n1, s2, m2, t2, n2, e, h0, h1, h2⟩ := h
  exact ⟨s0, m0, t0, n0, s1, m1, t1, n1, s2, m2, t2, n2, e, h0.below hb, h1.below hb, h2.below hb⟩
theorem Tf.more {w : World} {v : Value} {p : Int} {q : Int} {X : Rat} {Y : Rat} {k k' : Nat} (h : Tf w v p q X Y k) (hk : k ≤ k') : Tf w v p q X Y k' := by
  obtain ⟨s0, m0, t0, n0, s1, m1, t1, n1, s2, m2, t2, n2, e, h0, h1, h2⟩ := h
  exact ⟨s0, m0, t0, n0, s1, m1, t1, n1, s2, m2, t2, n2, e, h0.more hk, h1.more hk, h2.more hk⟩
theorem Tf.shape {w : World} {v : Value} {p : Int} {q : Int} {X : Rat} {Y : Rat} {k : Nat} (h : Tf w v p q X Y k) : ∃ s0 A0 k0 c0 t0 C0 l0 d0 s1 A1 k1 c1 t1 C1 l1 d1 s2 A2 k2 c2 t2 C2 l2 d2, v = .agg #[.bool s0, .slice A0 k0 c0, .bool t0, .slice C0 l0 d0, .bool s1, .slice A1 k1 c1, .bool t1, .slice C1 l1 d1, .bool s2, .slice A2 k2 c2, .bool t2, .slice C2 l2 d2] ∧ Fd w (.agg #[.bool s0, .slice A0 k0 c0, .bool t0, .slice C0 l0 d0]) p q k ∧ Qd w (.agg #[.bool s1, .slice A1 k1 c1, .bool t1, .slice C1 l1 d1]) X k ∧ Qd w (.agg #[.bool s2, .slice A2 k2 c2, .bool t2, .slice C2 l2 d2]) Y k := by
  obtain ⟨s0, m0, t0, n0, s1, m1, t1, n1, s2, m2, t2, n2, rfl, h0, h1, h2⟩ := h
  obtain ⟨a0, A0, k0, c0, b0, C0, l0, d0, e0, -, -⟩ := h0.shape
  simp only [Value.agg.injEq, Array.mk.injEq, List.cons.injEq, and_true, Value.bool.injEq] at e0
  obtain ⟨rfl, rfl, rfl, rfl⟩ := e0
  obtain ⟨a1, A1, k1, c1, b1, C1, l1, d1, e1⟩ := h1.shape
  simp only [Value.agg.injEq, Array.mk.injEq, List.cons.injEq, and_true, Value.bool.injEq] at e1
  obtain ⟨rfl, rfl, rfl, rfl⟩ := e1
  obtain ⟨a2, A2, k2, c2, b2, C2, l2, d2, e2⟩ := h2.shape
  simp only [Value.agg.injEq, Array.mk.injEq, List.cons.injEq, and_true, Value.bool.injEq] at e2
  obtain ⟨rfl, rfl, rfl, rfl⟩ := e2
  exact ⟨_, _, _, _, _, _, _, _, _, _, _, _, _, _, _, _, _, _, _, _, _, _, _, _, rfl, h0, h1, h2⟩
end Go.Proofs.YtccndofafljaaaaGreatDoor
