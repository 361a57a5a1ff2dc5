/- Two new variables of the type Arc. -/
import Derived.Test.YtjpdahalplkfbaaHHull
namespace Go.Proofs.Ytjpdahalplkfbaa
open Go Go.RowKit Hd


theorem hfar2 {w : World} {x y o : Nat} (h : y ≠ x) (u v : Value) : ((w.setCell ⟨x, 0, none⟩ u).setCell ⟨x, 1, none⟩ v).cell? ⟨y, o, none⟩ = w.cell? ⟨y, o, none⟩ := by
  rw [World.cell?_of_block (a := ⟨y, o, none⟩) (heap_setCell_other _ ⟨x, 1, none⟩ y _ h), World.cell?_of_block (a := ⟨y, o, none⟩) (heap_setCell_other _ ⟨x, 0, none⟩ y _ h)]


theorem box_new1A {w X w' : World} (hb : Below X.heap.size X w') (hX : X.heap = w.heap.push (.cells #[.int .i64 0, .int .i64 0] 59)) : Box2 w' w.heap.size 0 0 := by
  unfold Box2
  rw [hb.block w.heap.size (by rw [hX]; simp), hX]
  simp
theorem box_new2A {w X w' : World} (hb : Below X.heap.size X w') (hX : X.heap = (w.heap.push (.cells #[.int .i64 0, .int .i64 0] 59)).push (.cells #[.int .i64 0, .int .i64 0] 59)) : Box2 w' w.heap.size 0 0 ∧ Box2 w' (w.heap.size + 1) 0 0 := by
  unfold Box2
  rw [hb.block w.heap.size (by rw [hX]; simp; omega), hb.block (w.heap.size + 1) (by rw [hX]; simp), hX]
  constructor
  · rw [Array.getElem?_push_lt (by simp), Array.getElem_push_eq]
  · have : w.heap.size + 1 = (w.heap.push (.cells #[.int .i64 0, .int .i64 0] 59)).size := by simp
    rw [this, Array.getElem?_push_size]
/-- Two new variables. -/
def TwoA (w0 : World) (a b c d : Int) (p q : Value) (wx : World) : Prop :=
  ∃ P Q, p = (.pointer (some ⟨P, 0, none⟩)) ∧ q = (.pointer (some ⟨Q, 0, none⟩)) ∧ P ≠ Q ∧ w0.heap.size ≤ P ∧ w0.heap.size ≤ Q ∧ Box2 wx P a b ∧ Box2 wx Q c d ∧ Below w0.heap.size w0 wx
theorem fin1A {w0 w : World} {a b c d : Int} (hb : Below w0.heap.size w0 w) : TwoA w0 a b c d (.pointer (some ⟨w.heap.size, 0, none⟩)) (.pointer (some ⟨w.heap.size + 1, 0, none⟩)) ((w.alloc (.cells #[.int .i64 a, .int .i64 b] 59)).alloc (.cells #[.int .i64 c, .int .i64 d] 59)) := by
  have b1 : Below w.heap.size w (w.alloc (.cells #[.int .i64 a, .int .i64 b] 59)) := (Below.refl _ _).alloc (Nat.le_refl _) _
  have b2 : Below w.heap.size w ((w.alloc (.cells #[.int .i64 a, .int .i64 b] 59)).alloc (.cells #[.int .i64 c, .int .i64 d] 59)) := b1.alloc (by simp) _
  refine ⟨_, _, rfl, rfl, by omega, hb.size, Nat.le_succ_of_le hb.size, (Box2.new w a b).alloc _, ?_, nextw hb b2⟩
  have h := Box2.new (w.alloc (.cells #[.int .i64 a, .int .i64 b] 59)) c d
  simpa using h
theorem fin1bA {w0 w : World} {a b c d : Int} (hb : Below w0.heap.size w0 w) : TwoA w0 a b c d (.pointer (some ⟨w.heap.size + 1, 0, none⟩)) (.pointer (some ⟨w.heap.size, 0, none⟩)) ((w.alloc (.cells #[.int .i64 c, .int .i64 d] 59)).alloc (.cells #[.int .i64 a, .int .i64 b] 59)) := by
  have b1 : Below w.heap.size w (w.alloc (.cells #[.int .i64 c, .int .i64 d] 59)) := (Below.refl _ _).alloc (Nat.le_refl _) _
  have b2 : Below w.heap.size w ((w.alloc (.cells #[.int .i64 c, .int .i64 d] 59)).alloc (.cells #[.int .i64 a, .int .i64 b] 59)) := b1.alloc (by simp) _
  refine ⟨_, _, rfl, rfl, by omega, Nat.le_succ_of_le hb.size, hb.size, ?_, (Box2.new w c d).alloc _, nextw hb b2⟩
  have h := Box2.new (w.alloc (.cells #[.int .i64 c, .int .i64 d] 59)) a b
  simpa using h
theorem fin2A {w0 w : World} {a b c d : Int} {p : Nat} (hb : Below w0.heap.size w0 w) (hn : Box2 w p 0 0) (hp : w0.heap.size ≤ p) : TwoA w0 a b c d (.pointer (some ⟨p, 0, none⟩)) (.pointer (some ⟨w.heap.size, 0, none⟩)) (((w.setCell ⟨p, 0, none⟩ (.int .i64 a)).setCell ⟨p, 1, none⟩ (.int .i64 b)).alloc (.cells #[.int .i64 c, .int .i64 d] 59)) := by
  have hl := hn.lt
  have b1 : Below ((w.setCell ⟨p, 0, none⟩ (.int .i64 a)).setCell ⟨p, 1, none⟩ (.int .i64 b)).heap.size ((w.setCell ⟨p, 0, none⟩ (.int .i64 a)).setCell ⟨p, 1, none⟩ (.int .i64 b)) (((w.setCell ⟨p, 0, none⟩ (.int .i64 a)).setCell ⟨p, 1, none⟩ (.int .i64 b)).alloc (.cells #[.int .i64 c, .int .i64 d] 59)) := (Below.refl _ _).alloc (Nat.le_refl _) _
  refine ⟨_, _, rfl, rfl, by omega, hp, hb.size, (hn.store a b).alloc _, ?_, nextw (Below.store2 hb hp _ _) b1⟩
  have h := Box2.new ((w.setCell ⟨p, 0, none⟩ (.int .i64 a)).setCell ⟨p, 1, none⟩ (.int .i64 b)) c d
  simpa only [World.size_setCell] using h
theorem fin2bA {w0 w : World} {a b c d : Int} {p : Nat} (hb : Below w0.heap.size w0 w) (hn : Box2 w p 0 0) (hp : w0.heap.size ≤ p) : TwoA w0 a b c d (.pointer (some ⟨w.heap.size, 0, none⟩)) (.pointer (some ⟨p, 0, none⟩)) (((w.setCell ⟨p, 0, none⟩ (.int .i64 c)).setCell ⟨p, 1, none⟩ (.int .i64 d)).alloc (.cells #[.int .i64 a, .int .i64 b] 59)) := by
  have hl := hn.lt
  have b1 : Below ((w.setCell ⟨p, 0, none⟩ (.int .i64 c)).setCell ⟨p, 1, none⟩ (.int .i64 d)).heap.size ((w.setCell ⟨p, 0, none⟩ (.int .i64 c)).setCell ⟨p, 1, none⟩ (.int .i64 d)) (((w.setCell ⟨p, 0, none⟩ (.int .i64 c)).setCell ⟨p, 1, none⟩ (.int .i64 d)).alloc (.cells #[.int .i64 a, .int .i64 b] 59)) := (Below.refl _ _).alloc (Nat.le_refl _) _
  refine ⟨_, _, rfl, rfl, by omega, hb.size, hp, ?_, (hn.store c d).alloc _, nextw (Below.store2 hb hp _ _) b1⟩
  have h := Box2.new ((w.setCell ⟨p, 0, none⟩ (.int .i64 c)).setCell ⟨p, 1, none⟩ (.int .i64 d)) a b
  simpa only [World.size_setCell] using h
theorem fin3A {w0 w : World} {a b c d : Int} {p q : Nat} (hb : Below w0.heap.size w0 w) (hn : Box2 w p 0 0) (hn2 : Box2 w q 0 0) (hp : w0.heap.size ≤ p) (hq : w0.heap.size ≤ q) (hpq : p ≠ q) : TwoA w0 a b c d (.pointer (some ⟨p, 0, none⟩)) (.pointer (some ⟨q, 0, none⟩)) ((((w.setCell ⟨p, 0, none⟩ (.int .i64 a)).setCell ⟨p, 1, none⟩ (.int .i64 b)).setCell ⟨q, 0, none⟩ (.int .i64 c)).setCell ⟨q, 1, none⟩ (.int .i64 d)) :=
  ⟨_, _, rfl, rfl, hpq, hp, hq, (hn.store a b).far2 hpq _ _, (hn2.far2 (Ne.symm hpq) _ _).store c d, Below.store2 (Below.store2 hb hp _ _) hq _ _⟩
end Go.Proofs.Ytjpdahalplkfbaa
