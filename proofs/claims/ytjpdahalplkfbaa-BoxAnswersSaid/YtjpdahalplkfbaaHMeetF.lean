/- heading.meetFrom. -/
import Derived.Test.YtjpdahalplkfbaaHMeet
set_option linter.unusedSimpArgs false
set_option linter.unusedVariables false
namespace Go.Proofs.Ytjpdahalplkfbaa
open Go Go.RowKit Hd

theorem row_keep {w w' : World} {base n : Nat} {v : Value} {xs : List Value} (h : w.ownsRow base 59 2 v n xs) (hb : Below w.heap.size w w') : w'.ownsRow base 59 2 v n xs :=
  h.kept (row := none) ⟨hb.os, hb.tape, hb.output, hb.size, fun k hk _ => hb.block k hk⟩ (by cases hv : v.ownBlock <;> simp)
theorem Box2.grown {w w' : World} {x : Nat} {a b : Int} {row : Option Nat} (h : Box2 w x a b) (hg : w.grownBy w' row) (hne : ∀ k, row = some k → k < x) : Box2 w' x a b :=
  (hg.block x h.lt (fun e => by have := hne x e.symm; omega)).trans h
/-- A list of arcs in memory from base on. -/
def Met (base : Nat) (l : List (Int × Int)) (w : World) (e : Ending) (w' : World) : Prop := ∃ v, e = .returned v ∧ w'.ownsRow base 59 2 v l.length (arcs l) ∧ Below base w w'
theorem Has_at2 {f c h : Int} {b : Bool} (hv : OkA f c) (e : hasB f c h = b) (w : World) :
    Calls Try.prog 49 #[av f c, .int .i64 h] w fun e w' => e = .returned (.bool b) ∧ Below w.heap.size w w' := e ▸ Has_ok f c h hv w
theorem ahead_at {f c h n : Int} (hv : OkA f c) (e : ah f c h = n) (w : World) :
    Calls Try.prog 72 #[av f c, .int .i64 h] w fun e w' => e = .returned (.int .i64 n) ∧ Below w.heap.size w w' := e ▸ ahead_any f c h hv w

set_option maxRecDepth 100000 in
set_option maxHeartbeats 4000000 in
theorem meetFrom_f_f (base : Nat) (v : Value) (l : List (Int × Int)) (f c g d m : Int) (ha : OkA f c) (hb : OkA g d) (hl : l.length ≤ 1000) (m0 : 0 ≤ m) (m1 : m ≤ 255) (x1 : hasB f c m = false) (y1 : hasB f c (m - 1) = false)  (w : World) (hown : w.ownsRow base 59 2 v l.length (arcs l)) (hbase : base ≤ w.heap.size) :
    Calls Try.prog 65 #[v, av f c, av g d, .int .i64 m] w fun e w' => Met base l w e w' := by
  have HX := Lib.hid (fun w => Has_at2 ha x1 w)
  have HY := Lib.hid (fun w => Has_at2 ha y1 w)
  have VR := Lib.hid hown
  have HLT : Hid (∀ j, v.ownBlock = some j → base ≤ j ∧ j < w.heap.size) := hown.lt
  have HBS := Lib.hid hbase
  have HLL := Lib.hid hl
  clear ha hb x1 y1 hown hbase hl
  have HB := Lib.hid (show Below w.heap.size w ((w.alloc (.cells #[.int .i64 f, .int .i64 c] 59)).alloc (.cells #[.int .i64 g, .int .i64 d] 59)) from (((Below.refl _ _).alloc (by simp <;> omega) _).alloc (by simp <;> omega) _))
  have B_a : Box2 ((w.alloc (.cells #[.int .i64 f, .int .i64 c] 59)).alloc (.cells #[.int .i64 g, .int .i64 d] 59)) (w.heap.size) f c := by have h := (Box2.alloc (Box2.new w f c) (.cells #[.int .i64 g, .int .i64 d] 59)); simpa using h
  replace B_a := Lib.hid B_a
  have B_b : Box2 ((w.alloc (.cells #[.int .i64 f, .int .i64 c] 59)).alloc (.cells #[.int .i64 g, .int .i64 d] 59)) (w.heap.size + 1) g d := by have h := (Box2.new (w.alloc (.cells #[.int .i64 f, .int .i64 c] 59)) g d); simpa using h
  replace B_b := Lib.hid B_b
  replace VR := Lib.hid (row_keep VR.out (show Below w.heap.size w ((w.alloc (.cells #[.int .i64 f, .int .i64 c] 59)).alloc (.cells #[.int .i64 g, .int .i64 d] 59)) from ((Below.refl _ _).alloc (by simp <;> omega) _).alloc (by simp <;> omega) _))
  go_enter Try.func65, Try.ntmps65
  go_wp2_with fail
  generalize (w.alloc (.cells #[.int .i64 f, .int .i64 c] 59)).alloc (.cells #[.int .i64 g, .int .i64 d] 59) = W0 at *
  have c0a := B_a.out.c0
  have c1a := B_a.out.c1
  have c0b := B_b.out.c0
  have c1b := B_b.out.c1
  refine (HX.out _).mono ?_
  clear c0a c1a c0b c1b
  rintro e w1 ⟨rfl, bb⟩
  replace bb := nextw (w0 := W0) (by exact ⟨rfl, rfl, rfl, Nat.le_refl _, fun _ _ => rfl⟩) bb
  replace B_a := Lib.hid (Box2.below B_a.out bb B_a.out.lt)
  replace B_b := Lib.hid (Box2.below B_b.out bb B_b.out.lt)
  replace VR := Lib.hid (row_keep VR.out bb)
  replace HB := Lib.hid (nextw HB.out bb)
  clear bb
  have c0a := B_a.out.c0
  have c1a := B_a.out.c1
  have c0b := B_b.out.c0
  have c1b := B_b.out.c1
  go_wp2_with fail
  refine (HY.out _).mono ?_
  clear c0a c1a c0b c1b
  rintro e w2 ⟨rfl, bb⟩
  replace bb := nextw (w0 := w1) (by exact ⟨rfl, rfl, rfl, Nat.le_refl _, fun _ _ => rfl⟩) bb
  replace B_a := Lib.hid (Box2.below B_a.out bb B_a.out.lt)
  replace B_b := Lib.hid (Box2.below B_b.out bb B_b.out.lt)
  replace VR := Lib.hid (row_keep VR.out bb)
  replace HB := Lib.hid (nextw HB.out bb)
  clear bb
  have c0a := B_a.out.c0
  have c1a := B_a.out.c1
  have c0b := B_b.out.c0
  have c1b := B_b.out.c1
  clear c0a c1a c0b c1b
  go_wp2
  go_ret
  exact ⟨_, rfl, row_keep VR.out (by exact ⟨rfl, rfl, rfl, Nat.le_refl _, fun _ _ => rfl⟩), (nextw HB.out (by exact ⟨rfl, rfl, rfl, Nat.le_refl _, fun _ _ => rfl⟩)).mono HBS.out⟩

set_option maxRecDepth 100000 in
set_option maxHeartbeats 4000000 in
theorem meetFrom_f_tf (base : Nat) (v : Value) (l : List (Int × Int)) (f c g d m : Int) (ha : OkA f c) (hb : OkA g d) (hl : l.length ≤ 1000) (m0 : 0 ≤ m) (m1 : m ≤ 255) (x1 : hasB f c m = false) (y1 : hasB f c (m - 1) = true) (y2 : hasB g d (m - 1) = false)  (w : World) (hown : w.ownsRow base 59 2 v l.length (arcs l)) (hbase : base ≤ w.heap.size) :
    Calls Try.prog 65 #[v, av f c, av g d, .int .i64 m] w fun e w' => Met base l w e w' := by
  have HX := Lib.hid (fun w => Has_at2 ha x1 w)
  have HY := Lib.hid (fun w => Has_at2 ha y1 w)
  have HY2 := Lib.hid (fun w => Has_at2 hb y2 w)
  have VR := Lib.hid hown
  have HLT : Hid (∀ j, v.ownBlock = some j → base ≤ j ∧ j < w.heap.size) := hown.lt
  have HBS := Lib.hid hbase
  have HLL := Lib.hid hl
  clear ha hb x1 y1 hown hbase hl y2
  have HB := Lib.hid (show Below w.heap.size w ((w.alloc (.cells #[.int .i64 f, .int .i64 c] 59)).alloc (.cells #[.int .i64 g, .int .i64 d] 59)) from (((Below.refl _ _).alloc (by simp <;> omega) _).alloc (by simp <;> omega) _))
  have B_a : Box2 ((w.alloc (.cells #[.int .i64 f, .int .i64 c] 59)).alloc (.cells #[.int .i64 g, .int .i64 d] 59)) (w.heap.size) f c := by have h := (Box2.alloc (Box2.new w f c) (.cells #[.int .i64 g, .int .i64 d] 59)); simpa using h
  replace B_a := Lib.hid B_a
  have B_b : Box2 ((w.alloc (.cells #[.int .i64 f, .int .i64 c] 59)).alloc (.cells #[.int .i64 g, .int .i64 d] 59)) (w.heap.size + 1) g d := by have h := (Box2.new (w.alloc (.cells #[.int .i64 f, .int .i64 c] 59)) g d); simpa using h
  replace B_b := Lib.hid B_b
  replace VR := Lib.hid (row_keep VR.out (show Below w.heap.size w ((w.alloc (.cells #[.int .i64 f, .int .i64 c] 59)).alloc (.cells #[.int .i64 g, .int .i64 d] 59)) from ((Below.refl _ _).alloc (by simp <;> omega) _).alloc (by simp <;> omega) _))
  go_enter Try.func65, Try.ntmps65
  go_wp2_with fail
  generalize (w.alloc (.cells #[.int .i64 f, .int .i64 c] 59)).alloc (.cells #[.int .i64 g, .int .i64 d] 59) = W0 at *
  have c0a := B_a.out.c0
  have c1a := B_a.out.c1
  have c0b := B_b.out.c0
  have c1b := B_b.out.c1
  refine (HX.out _).mono ?_
  clear c0a c1a c0b c1b
  rintro e w1 ⟨rfl, bb⟩
  replace bb := nextw (w0 := W0) (by exact ⟨rfl, rfl, rfl, Nat.le_refl _, fun _ _ => rfl⟩) bb
  replace B_a := Lib.hid (Box2.below B_a.out bb B_a.out.lt)
  replace B_b := Lib.hid (Box2.below B_b.out bb B_b.out.lt)
  replace VR := Lib.hid (row_keep VR.out bb)
  replace HB := Lib.hid (nextw HB.out bb)
  clear bb
  have c0a := B_a.out.c0
  have c1a := B_a.out.c1
  have c0b := B_b.out.c0
  have c1b := B_b.out.c1
  go_wp2_with fail
  refine (HY.out _).mono ?_
  clear c0a c1a c0b c1b
  rintro e w2 ⟨rfl, bb⟩
  replace bb := nextw (w0 := w1) (by exact ⟨rfl, rfl, rfl, Nat.le_refl _, fun _ _ => rfl⟩) bb
  replace B_a := Lib.hid (Box2.below B_a.out bb B_a.out.lt)
  replace B_b := Lib.hid (Box2.below B_b.out bb B_b.out.lt)
  replace VR := Lib.hid (row_keep VR.out bb)
  replace HB := Lib.hid (nextw HB.out bb)
  clear bb
  have c0a := B_a.out.c0
  have c1a := B_a.out.c1
  have c0b := B_b.out.c0
  have c1b := B_b.out.c1
  go_wp2_with fail
  refine (HY2.out _).mono ?_
  clear c0a c1a c0b c1b
  rintro e w3 ⟨rfl, bb⟩
  replace bb := nextw (w0 := w2) (by exact ⟨rfl, rfl, rfl, Nat.le_refl _, fun _ _ => rfl⟩) bb
  replace B_a := Lib.hid (Box2.below B_a.out bb B_a.out.lt)
  replace B_b := Lib.hid (Box2.below B_b.out bb B_b.out.lt)
  replace VR := Lib.hid (row_keep VR.out bb)
  replace HB := Lib.hid (nextw HB.out bb)
  clear bb
  have c0a := B_a.out.c0
  have c1a := B_a.out.c1
  have c0b := B_b.out.c0
  have c1b := B_b.out.c1
  clear c0a c1a c0b c1b
  go_wp2
  go_ret
  exact ⟨_, rfl, row_keep VR.out (by exact ⟨rfl, rfl, rfl, Nat.le_refl _, fun _ _ => rfl⟩), (nextw HB.out (by exact ⟨rfl, rfl, rfl, Nat.le_refl _, fun _ _ => rfl⟩)).mono HBS.out⟩

set_option maxRecDepth 100000 in
set_option maxHeartbeats 4000000 in
theorem meetFrom_f_tt (base : Nat) (v : Value) (l : List (Int × Int)) (f c g d m : Int) (ha : OkA f c) (hb : OkA g d) (hl : l.length ≤ 1000) (m0 : 0 ≤ m) (m1 : m ≤ 255) (x1 : hasB f c m = false) (y1 : hasB f c (m - 1) = true) (y2 : hasB g d (m - 1) = true)  (w : World) (hown : w.ownsRow base 59 2 v l.length (arcs l)) (hbase : base ≤ w.heap.size) :
    Calls Try.prog 65 #[v, av f c, av g d, .int .i64 m] w fun e w' => Met base l w e w' := by
  have HX := Lib.hid (fun w => Has_at2 ha x1 w)
  have HY := Lib.hid (fun w => Has_at2 ha y1 w)
  have HY2 := Lib.hid (fun w => Has_at2 hb y2 w)
  have VR := Lib.hid hown
  have HLT : Hid (∀ j, v.ownBlock = some j → base ≤ j ∧ j < w.heap.size) := hown.lt
  have HBS := Lib.hid hbase
  have HLL := Lib.hid hl
  clear ha hb x1 y1 hown hbase hl y2
  have HB := Lib.hid (show Below w.heap.size w ((w.alloc (.cells #[.int .i64 f, .int .i64 c] 59)).alloc (.cells #[.int .i64 g, .int .i64 d] 59)) from (((Below.refl _ _).alloc (by simp <;> omega) _).alloc (by simp <;> omega) _))
  have B_a : Box2 ((w.alloc (.cells #[.int .i64 f, .int .i64 c] 59)).alloc (.cells #[.int .i64 g, .int .i64 d] 59)) (w.heap.size) f c := by have h := (Box2.alloc (Box2.new w f c) (.cells #[.int .i64 g, .int .i64 d] 59)); simpa using h
  replace B_a := Lib.hid B_a
  have B_b : Box2 ((w.alloc (.cells #[.int .i64 f, .int .i64 c] 59)).alloc (.cells #[.int .i64 g, .int .i64 d] 59)) (w.heap.size + 1) g d := by have h := (Box2.new (w.alloc (.cells #[.int .i64 f, .int .i64 c] 59)) g d); simpa using h
  replace B_b := Lib.hid B_b
  replace VR := Lib.hid (row_keep VR.out (show Below w.heap.size w ((w.alloc (.cells #[.int .i64 f, .int .i64 c] 59)).alloc (.cells #[.int .i64 g, .int .i64 d] 59)) from ((Below.refl _ _).alloc (by simp <;> omega) _).alloc (by simp <;> omega) _))
  go_enter Try.func65, Try.ntmps65
  go_wp2_with fail
  generalize (w.alloc (.cells #[.int .i64 f, .int .i64 c] 59)).alloc (.cells #[.int .i64 g, .int .i64 d] 59) = W0 at *
  have c0a := B_a.out.c0
  have c1a := B_a.out.c1
  have c0b := B_b.out.c0
  have c1b := B_b.out.c1
  refine (HX.out _).mono ?_
  clear c0a c1a c0b c1b
  rintro e w1 ⟨rfl, bb⟩
  replace bb := nextw (w0 := W0) (by exact ⟨rfl, rfl, rfl, Nat.le_refl _, fun _ _ => rfl⟩) bb
  replace B_a := Lib.hid (Box2.below B_a.out bb B_a.out.lt)
  replace B_b := Lib.hid (Box2.below B_b.out bb B_b.out.lt)
  replace VR := Lib.hid (row_keep VR.out bb)
  replace HB := Lib.hid (nextw HB.out bb)
  clear bb
  have c0a := B_a.out.c0
  have c1a := B_a.out.c1
  have c0b := B_b.out.c0
  have c1b := B_b.out.c1
  go_wp2_with fail
  refine (HY.out _).mono ?_
  clear c0a c1a c0b c1b
  rintro e w2 ⟨rfl, bb⟩
  replace bb := nextw (w0 := w1) (by exact ⟨rfl, rfl, rfl, Nat.le_refl _, fun _ _ => rfl⟩) bb
  replace B_a := Lib.hid (Box2.below B_a.out bb B_a.out.lt)
  replace B_b := Lib.hid (Box2.below B_b.out bb B_b.out.lt)
  replace VR := Lib.hid (row_keep VR.out bb)
  replace HB := Lib.hid (nextw HB.out bb)
  clear bb
  have c0a := B_a.out.c0
  have c1a := B_a.out.c1
  have c0b := B_b.out.c0
  have c1b := B_b.out.c1
  go_wp2_with fail
  refine (HY2.out _).mono ?_
  clear c0a c1a c0b c1b
  rintro e w3 ⟨rfl, bb⟩
  replace bb := nextw (w0 := w2) (by exact ⟨rfl, rfl, rfl, Nat.le_refl _, fun _ _ => rfl⟩) bb
  replace B_a := Lib.hid (Box2.below B_a.out bb B_a.out.lt)
  replace B_b := Lib.hid (Box2.below B_b.out bb B_b.out.lt)
  replace VR := Lib.hid (row_keep VR.out bb)
  replace HB := Lib.hid (nextw HB.out bb)
  clear bb
  have c0a := B_a.out.c0
  have c1a := B_a.out.c1
  have c0b := B_b.out.c0
  have c1b := B_b.out.c1
  clear c0a c1a c0b c1b
  go_wp2
  go_ret
  exact ⟨_, rfl, row_keep VR.out (by exact ⟨rfl, rfl, rfl, Nat.le_refl _, fun _ _ => rfl⟩), (nextw HB.out (by exact ⟨rfl, rfl, rfl, Nat.le_refl _, fun _ _ => rfl⟩)).mono HBS.out⟩

set_option maxRecDepth 100000 in
set_option maxHeartbeats 4000000 in
theorem meetFrom_tf_f (base : Nat) (v : Value) (l : List (Int × Int)) (f c g d m : Int) (ha : OkA f c) (hb : OkA g d) (hl : l.length ≤ 1000) (m0 : 0 ≤ m) (m1 : m ≤ 255) (x1 : hasB f c m = true) (x2 : hasB g d m = false) (y1 : hasB f c (m - 1) = false)  (w : World) (hown : w.ownsRow base 59 2 v l.length (arcs l)) (hbase : base ≤ w.heap.size) :
    Calls Try.prog 65 #[v, av f c, av g d, .int .i64 m] w fun e w' => Met base l w e w' := by
  have HX := Lib.hid (fun w => Has_at2 ha x1 w)
  have HY := Lib.hid (fun w => Has_at2 ha y1 w)
  have HX2 := Lib.hid (fun w => Has_at2 hb x2 w)
  have VR := Lib.hid hown
  have HLT : Hid (∀ j, v.ownBlock = some j → base ≤ j ∧ j < w.heap.size) := hown.lt
  have HBS := Lib.hid hbase
  have HLL := Lib.hid hl
  clear ha hb x1 y1 hown hbase hl x2
  have HB := Lib.hid (show Below w.heap.size w ((w.alloc (.cells #[.int .i64 f, .int .i64 c] 59)).alloc (.cells #[.int .i64 g, .int .i64 d] 59)) from (((Below.refl _ _).alloc (by simp <;> omega) _).alloc (by simp <;> omega) _))
  have B_a : Box2 ((w.alloc (.cells #[.int .i64 f, .int .i64 c] 59)).alloc (.cells #[.int .i64 g, .int .i64 d] 59)) (w.heap.size) f c := by have h := (Box2.alloc (Box2.new w f c) (.cells #[.int .i64 g, .int .i64 d] 59)); simpa using h
  replace B_a := Lib.hid B_a
  have B_b : Box2 ((w.alloc (.cells #[.int .i64 f, .int .i64 c] 59)).alloc (.cells #[.int .i64 g, .int .i64 d] 59)) (w.heap.size + 1) g d := by have h := (Box2.new (w.alloc (.cells #[.int .i64 f, .int .i64 c] 59)) g d); simpa using h
  replace B_b := Lib.hid B_b
  replace VR := Lib.hid (row_keep VR.out (show Below w.heap.size w ((w.alloc (.cells #[.int .i64 f, .int .i64 c] 59)).alloc (.cells #[.int .i64 g, .int .i64 d] 59)) from ((Below.refl _ _).alloc (by simp <;> omega) _).alloc (by simp <;> omega) _))
  go_enter Try.func65, Try.ntmps65
  go_wp2_with fail
  generalize (w.alloc (.cells #[.int .i64 f, .int .i64 c] 59)).alloc (.cells #[.int .i64 g, .int .i64 d] 59) = W0 at *
  have c0a := B_a.out.c0
  have c1a := B_a.out.c1
  have c0b := B_b.out.c0
  have c1b := B_b.out.c1
  refine (HX.out _).mono ?_
  clear c0a c1a c0b c1b
  rintro e w1 ⟨rfl, bb⟩
  replace bb := nextw (w0 := W0) (by exact ⟨rfl, rfl, rfl, Nat.le_refl _, fun _ _ => rfl⟩) bb
  replace B_a := Lib.hid (Box2.below B_a.out bb B_a.out.lt)
  replace B_b := Lib.hid (Box2.below B_b.out bb B_b.out.lt)
  replace VR := Lib.hid (row_keep VR.out bb)
  replace HB := Lib.hid (nextw HB.out bb)
  clear bb
  have c0a := B_a.out.c0
  have c1a := B_a.out.c1
  have c0b := B_b.out.c0
  have c1b := B_b.out.c1
  go_wp2_with fail
  refine (HX2.out _).mono ?_
  clear c0a c1a c0b c1b
  rintro e w2 ⟨rfl, bb⟩
  replace bb := nextw (w0 := w1) (by exact ⟨rfl, rfl, rfl, Nat.le_refl _, fun _ _ => rfl⟩) bb
  replace B_a := Lib.hid (Box2.below B_a.out bb B_a.out.lt)
  replace B_b := Lib.hid (Box2.below B_b.out bb B_b.out.lt)
  replace VR := Lib.hid (row_keep VR.out bb)
  replace HB := Lib.hid (nextw HB.out bb)
  clear bb
  have c0a := B_a.out.c0
  have c1a := B_a.out.c1
  have c0b := B_b.out.c0
  have c1b := B_b.out.c1
  go_wp2_with fail
  refine (HY.out _).mono ?_
  clear c0a c1a c0b c1b
  rintro e w3 ⟨rfl, bb⟩
  replace bb := nextw (w0 := w2) (by exact ⟨rfl, rfl, rfl, Nat.le_refl _, fun _ _ => rfl⟩) bb
  replace B_a := Lib.hid (Box2.below B_a.out bb B_a.out.lt)
  replace B_b := Lib.hid (Box2.below B_b.out bb B_b.out.lt)
  replace VR := Lib.hid (row_keep VR.out bb)
  replace HB := Lib.hid (nextw HB.out bb)
  clear bb
  have c0a := B_a.out.c0
  have c1a := B_a.out.c1
  have c0b := B_b.out.c0
  have c1b := B_b.out.c1
  clear c0a c1a c0b c1b
  go_wp2
  go_ret
  exact ⟨_, rfl, row_keep VR.out (by exact ⟨rfl, rfl, rfl, Nat.le_refl _, fun _ _ => rfl⟩), (nextw HB.out (by exact ⟨rfl, rfl, rfl, Nat.le_refl _, fun _ _ => rfl⟩)).mono HBS.out⟩

set_option maxRecDepth 100000 in
set_option maxHeartbeats 4000000 in
theorem meetFrom_tf_tf (base : Nat) (v : Value) (l : List (Int × Int)) (f c g d m : Int) (ha : OkA f c) (hb : OkA g d) (hl : l.length ≤ 1000) (m0 : 0 ≤ m) (m1 : m ≤ 255) (x1 : hasB f c m = true) (x2 : hasB g d m = false) (y1 : hasB f c (m - 1) = true) (y2 : hasB g d (m - 1) = false)  (w : World) (hown : w.ownsRow base 59 2 v l.length (arcs l)) (hbase : base ≤ w.heap.size) :
    Calls Try.prog 65 #[v, av f c, av g d, .int .i64 m] w fun e w' => Met base l w e w' := by
  have HX := Lib.hid (fun w => Has_at2 ha x1 w)
  have HY := Lib.hid (fun w => Has_at2 ha y1 w)
  have HX2 := Lib.hid (fun w => Has_at2 hb x2 w)
  have HY2 := Lib.hid (fun w => Has_at2 hb y2 w)
  have VR := Lib.hid hown
  have HLT : Hid (∀ j, v.ownBlock = some j → base ≤ j ∧ j < w.heap.size) := hown.lt
  have HBS := Lib.hid hbase
  have HLL := Lib.hid hl
  clear ha hb x1 y1 hown hbase hl x2 y2
  have HB := Lib.hid (show Below w.heap.size w ((w.alloc (.cells #[.int .i64 f, .int .i64 c] 59)).alloc (.cells #[.int .i64 g, .int .i64 d] 59)) from (((Below.refl _ _).alloc (by simp <;> omega) _).alloc (by simp <;> omega) _))
  have B_a : Box2 ((w.alloc (.cells #[.int .i64 f, .int .i64 c] 59)).alloc (.cells #[.int .i64 g, .int .i64 d] 59)) (w.heap.size) f c := by have h := (Box2.alloc (Box2.new w f c) (.cells #[.int .i64 g, .int .i64 d] 59)); simpa using h
  replace B_a := Lib.hid B_a
  have B_b : Box2 ((w.alloc (.cells #[.int .i64 f, .int .i64 c] 59)).alloc (.cells #[.int .i64 g, .int .i64 d] 59)) (w.heap.size + 1) g d := by have h := (Box2.new (w.alloc (.cells #[.int .i64 f, .int .i64 c] 59)) g d); simpa using h
  replace B_b := Lib.hid B_b
  replace VR := Lib.hid (row_keep VR.out (show Below w.heap.size w ((w.alloc (.cells #[.int .i64 f, .int .i64 c] 59)).alloc (.cells #[.int .i64 g, .int .i64 d] 59)) from ((Below.refl _ _).alloc (by simp <;> omega) _).alloc (by simp <;> omega) _))
  go_enter Try.func65, Try.ntmps65
  go_wp2_with fail
  generalize (w.alloc (.cells #[.int .i64 f, .int .i64 c] 59)).alloc (.cells #[.int .i64 g, .int .i64 d] 59) = W0 at *
  have c0a := B_a.out.c0
  have c1a := B_a.out.c1
  have c0b := B_b.out.c0
  have c1b := B_b.out.c1
  refine (HX.out _).mono ?_
  clear c0a c1a c0b c1b
  rintro e w1 ⟨rfl, bb⟩
  replace bb := nextw (w0 := W0) (by exact ⟨rfl, rfl, rfl, Nat.le_refl _, fun _ _ => rfl⟩) bb
  replace B_a := Lib.hid (Box2.below B_a.out bb B_a.out.lt)
  replace B_b := Lib.hid (Box2.below B_b.out bb B_b.out.lt)
  replace VR := Lib.hid (row_keep VR.out bb)
  replace HB := Lib.hid (nextw HB.out bb)
  clear bb
  have c0a := B_a.out.c0
  have c1a := B_a.out.c1
  have c0b := B_b.out.c0
  have c1b := B_b.out.c1
  go_wp2_with fail
  refine (HX2.out _).mono ?_
  clear c0a c1a c0b c1b
  rintro e w2 ⟨rfl, bb⟩
  replace bb := nextw (w0 := w1) (by exact ⟨rfl, rfl, rfl, Nat.le_refl _, fun _ _ => rfl⟩) bb
  replace B_a := Lib.hid (Box2.below B_a.out bb B_a.out.lt)
  replace B_b := Lib.hid (Box2.below B_b.out bb B_b.out.lt)
  replace VR := Lib.hid (row_keep VR.out bb)
  replace HB := Lib.hid (nextw HB.out bb)
  clear bb
  have c0a := B_a.out.c0
  have c1a := B_a.out.c1
  have c0b := B_b.out.c0
  have c1b := B_b.out.c1
  go_wp2_with fail
  refine (HY.out _).mono ?_
  clear c0a c1a c0b c1b
  rintro e w3 ⟨rfl, bb⟩
  replace bb := nextw (w0 := w2) (by exact ⟨rfl, rfl, rfl, Nat.le_refl _, fun _ _ => rfl⟩) bb
  replace B_a := Lib.hid (Box2.below B_a.out bb B_a.out.lt)
  replace B_b := Lib.hid (Box2.below B_b.out bb B_b.out.lt)
  replace VR := Lib.hid (row_keep VR.out bb)
  replace HB := Lib.hid (nextw HB.out bb)
  clear bb
  have c0a := B_a.out.c0
  have c1a := B_a.out.c1
  have c0b := B_b.out.c0
  have c1b := B_b.out.c1
  go_wp2_with fail
  refine (HY2.out _).mono ?_
  clear c0a c1a c0b c1b
  rintro e w4 ⟨rfl, bb⟩
  replace bb := nextw (w0 := w3) (by exact ⟨rfl, rfl, rfl, Nat.le_refl _, fun _ _ => rfl⟩) bb
  replace B_a := Lib.hid (Box2.below B_a.out bb B_a.out.lt)
  replace B_b := Lib.hid (Box2.below B_b.out bb B_b.out.lt)
  replace VR := Lib.hid (row_keep VR.out bb)
  replace HB := Lib.hid (nextw HB.out bb)
  clear bb
  have c0a := B_a.out.c0
  have c1a := B_a.out.c1
  have c0b := B_b.out.c0
  have c1b := B_b.out.c1
  clear c0a c1a c0b c1b
  go_wp2
  go_ret
  exact ⟨_, rfl, row_keep VR.out (by exact ⟨rfl, rfl, rfl, Nat.le_refl _, fun _ _ => rfl⟩), (nextw HB.out (by exact ⟨rfl, rfl, rfl, Nat.le_refl _, fun _ _ => rfl⟩)).mono HBS.out⟩

set_option maxRecDepth 100000 in
set_option maxHeartbeats 4000000 in
theorem meetFrom_tf_tt (base : Nat) (v : Value) (l : List (Int × Int)) (f c g d m : Int) (ha : OkA f c) (hb : OkA g d) (hl : l.length ≤ 1000) (m0 : 0 ≤ m) (m1 : m ≤ 255) (x1 : hasB f c m = true) (x2 : hasB g d m = false) (y1 : hasB f c (m - 1) = true) (y2 : hasB g d (m - 1) = true)  (w : World) (hown : w.ownsRow base 59 2 v l.length (arcs l)) (hbase : base ≤ w.heap.size) :
    Calls Try.prog 65 #[v, av f c, av g d, .int .i64 m] w fun e w' => Met base l w e w' := by
  have HX := Lib.hid (fun w => Has_at2 ha x1 w)
  have HY := Lib.hid (fun w => Has_at2 ha y1 w)
  have HX2 := Lib.hid (fun w => Has_at2 hb x2 w)
  have HY2 := Lib.hid (fun w => Has_at2 hb y2 w)
  have VR := Lib.hid hown
  have HLT : Hid (∀ j, v.ownBlock = some j → base ≤ j ∧ j < w.heap.size) := hown.lt
  have HBS := Lib.hid hbase
  have HLL := Lib.hid hl
  clear ha hb x1 y1 hown hbase hl x2 y2
  have HB := Lib.hid (show Below w.heap.size w ((w.alloc (.cells #[.int .i64 f, .int .i64 c] 59)).alloc (.cells #[.int .i64 g, .int .i64 d] 59)) from (((Below.refl _ _).alloc (by simp <;> omega) _).alloc (by simp <;> omega) _))
  have B_a : Box2 ((w.alloc (.cells #[.int .i64 f, .int .i64 c] 59)).alloc (.cells #[.int .i64 g, .int .i64 d] 59)) (w.heap.size) f c := by have h := (Box2.alloc (Box2.new w f c) (.cells #[.int .i64 g, .int .i64 d] 59)); simpa using h
  replace B_a := Lib.hid B_a
  have B_b : Box2 ((w.alloc (.cells #[.int .i64 f, .int .i64 c] 59)).alloc (.cells #[.int .i64 g, .int .i64 d] 59)) (w.heap.size + 1) g d := by have h := (Box2.new (w.alloc (.cells #[.int .i64 f, .int .i64 c] 59)) g d); simpa using h
  replace B_b := Lib.hid B_b
  replace VR := Lib.hid (row_keep VR.out (show Below w.heap.size w ((w.alloc (.cells #[.int .i64 f, .int .i64 c] 59)).alloc (.cells #[.int .i64 g, .int .i64 d] 59)) from ((Below.refl _ _).alloc (by simp <;> omega) _).alloc (by simp <;> omega) _))
  go_enter Try.func65, Try.ntmps65
  go_wp2_with fail
  generalize (w.alloc (.cells #[.int .i64 f, .int .i64 c] 59)).alloc (.cells #[.int .i64 g, .int .i64 d] 59) = W0 at *
  have c0a := B_a.out.c0
  have c1a := B_a.out.c1
  have c0b := B_b.out.c0
  have c1b := B_b.out.c1
  refine (HX.out _).mono ?_
  clear c0a c1a c0b c1b
  rintro e w1 ⟨rfl, bb⟩
  replace bb := nextw (w0 := W0) (by exact ⟨rfl, rfl, rfl, Nat.le_refl _, fun _ _ => rfl⟩) bb
  replace B_a := Lib.hid (Box2.below B_a.out bb B_a.out.lt)
  replace B_b := Lib.hid (Box2.below B_b.out bb B_b.out.lt)
  replace VR := Lib.hid (row_keep VR.out bb)
  replace HB := Lib.hid (nextw HB.out bb)
  clear bb
  have c0a := B_a.out.c0
  have c1a := B_a.out.c1
  have c0b := B_b.out.c0
  have c1b := B_b.out.c1
  go_wp2_with fail
  refine (HX2.out _).mono ?_
  clear c0a c1a c0b c1b
  rintro e w2 ⟨rfl, bb⟩
  replace bb := nextw (w0 := w1) (by exact ⟨rfl, rfl, rfl, Nat.le_refl _, fun _ _ => rfl⟩) bb
  replace B_a := Lib.hid (Box2.below B_a.out bb B_a.out.lt)
  replace B_b := Lib.hid (Box2.below B_b.out bb B_b.out.lt)
  replace VR := Lib.hid (row_keep VR.out bb)
  replace HB := Lib.hid (nextw HB.out bb)
  clear bb
  have c0a := B_a.out.c0
  have c1a := B_a.out.c1
  have c0b := B_b.out.c0
  have c1b := B_b.out.c1
  go_wp2_with fail
  refine (HY.out _).mono ?_
  clear c0a c1a c0b c1b
  rintro e w3 ⟨rfl, bb⟩
  replace bb := nextw (w0 := w2) (by exact ⟨rfl, rfl, rfl, Nat.le_refl _, fun _ _ => rfl⟩) bb
  replace B_a := Lib.hid (Box2.below B_a.out bb B_a.out.lt)
  replace B_b := Lib.hid (Box2.below B_b.out bb B_b.out.lt)
  replace VR := Lib.hid (row_keep VR.out bb)
  replace HB := Lib.hid (nextw HB.out bb)
  clear bb
  have c0a := B_a.out.c0
  have c1a := B_a.out.c1
  have c0b := B_b.out.c0
  have c1b := B_b.out.c1
  go_wp2_with fail
  refine (HY2.out _).mono ?_
  clear c0a c1a c0b c1b
  rintro e w4 ⟨rfl, bb⟩
  replace bb := nextw (w0 := w3) (by exact ⟨rfl, rfl, rfl, Nat.le_refl _, fun _ _ => rfl⟩) bb
  replace B_a := Lib.hid (Box2.below B_a.out bb B_a.out.lt)
  replace B_b := Lib.hid (Box2.below B_b.out bb B_b.out.lt)
  replace VR := Lib.hid (row_keep VR.out bb)
  replace HB := Lib.hid (nextw HB.out bb)
  clear bb
  have c0a := B_a.out.c0
  have c1a := B_a.out.c1
  have c0b := B_b.out.c0
  have c1b := B_b.out.c1
  clear c0a c1a c0b c1b
  go_wp2
  go_ret
  exact ⟨_, rfl, row_keep VR.out (by exact ⟨rfl, rfl, rfl, Nat.le_refl _, fun _ _ => rfl⟩), (nextw HB.out (by exact ⟨rfl, rfl, rfl, Nat.le_refl _, fun _ _ => rfl⟩)).mono HBS.out⟩

set_option maxRecDepth 100000 in
set_option maxHeartbeats 4000000 in
theorem meetFrom_tt_f (base : Nat) (v : Value) (l : List (Int × Int)) (f c g d m : Int) (ha : OkA f c) (hb : OkA g d) (hl : l.length ≤ 1000) (m0 : 0 ≤ m) (m1 : m ≤ 255) (x1 : hasB f c m = true) (x2 : hasB g d m = true) (y1 : hasB f c (m - 1) = false)  (w : World) (hown : w.ownsRow base 59 2 v l.length (arcs l)) (hbase : base ≤ w.heap.size) :
    Calls Try.prog 65 #[v, av f c, av g d, .int .i64 m] w fun e w' => Met base (l ++ [(m, cntM f c g d m)]) w e w' := by
  have HX := Lib.hid (fun w => Has_at2 ha x1 w)
  have HY := Lib.hid (fun w => Has_at2 ha y1 w)
  have HX2 := Lib.hid (fun w => Has_at2 hb x2 w)
  obtain ⟨p, hp⟩ : ∃ p, ah f c m = p := ⟨_, rfl⟩
  obtain ⟨q, hq⟩ : ∃ q, ah g d m = q := ⟨_, rfl⟩
  have HPa := Lib.hid (fun w => ahead_at ha hp w)
  have HPb := Lib.hid (fun w => ahead_at hb hq w)
  have HC : Hid (cntM f c g d m = if q < p then q else p) := by unfold Hid cntM; rw [hp, hq]
  clear hp hq
  rw [HC.out]
  have VR := Lib.hid hown
  have HLT : Hid (∀ j, v.ownBlock = some j → base ≤ j ∧ j < w.heap.size) := hown.lt
  have HBS := Lib.hid hbase
  have HLL := Lib.hid hl
  clear ha hb x1 y1 hown hbase hl x2
  have HB := Lib.hid (show Below w.heap.size w ((w.alloc (.cells #[.int .i64 f, .int .i64 c] 59)).alloc (.cells #[.int .i64 g, .int .i64 d] 59)) from (((Below.refl _ _).alloc (by simp <;> omega) _).alloc (by simp <;> omega) _))
  have B_a : Box2 ((w.alloc (.cells #[.int .i64 f, .int .i64 c] 59)).alloc (.cells #[.int .i64 g, .int .i64 d] 59)) (w.heap.size) f c := by have h := (Box2.alloc (Box2.new w f c) (.cells #[.int .i64 g, .int .i64 d] 59)); simpa using h
  replace B_a := Lib.hid B_a
  have B_b : Box2 ((w.alloc (.cells #[.int .i64 f, .int .i64 c] 59)).alloc (.cells #[.int .i64 g, .int .i64 d] 59)) (w.heap.size + 1) g d := by have h := (Box2.new (w.alloc (.cells #[.int .i64 f, .int .i64 c] 59)) g d); simpa using h
  replace B_b := Lib.hid B_b
  replace VR := Lib.hid (row_keep VR.out (show Below w.heap.size w ((w.alloc (.cells #[.int .i64 f, .int .i64 c] 59)).alloc (.cells #[.int .i64 g, .int .i64 d] 59)) from ((Below.refl _ _).alloc (by simp <;> omega) _).alloc (by simp <;> omega) _))
  go_enter Try.func65, Try.ntmps65
  go_wp2_with fail
  generalize (w.alloc (.cells #[.int .i64 f, .int .i64 c] 59)).alloc (.cells #[.int .i64 g, .int .i64 d] 59) = W0 at *
  have c0a := B_a.out.c0
  have c1a := B_a.out.c1
  have c0b := B_b.out.c0
  have c1b := B_b.out.c1
  refine (HX.out _).mono ?_
  clear c0a c1a c0b c1b
  rintro e w1 ⟨rfl, bb⟩
  replace bb := nextw (w0 := W0) (by exact ⟨rfl, rfl, rfl, Nat.le_refl _, fun _ _ => rfl⟩) bb
  replace B_a := Lib.hid (Box2.below B_a.out bb B_a.out.lt)
  replace B_b := Lib.hid (Box2.below B_b.out bb B_b.out.lt)
  replace VR := Lib.hid (row_keep VR.out bb)
  replace HB := Lib.hid (nextw HB.out bb)
  clear bb
  have c0a := B_a.out.c0
  have c1a := B_a.out.c1
  have c0b := B_b.out.c0
  have c1b := B_b.out.c1
  go_wp2_with fail
  refine (HX2.out _).mono ?_
  clear c0a c1a c0b c1b
  rintro e w2 ⟨rfl, bb⟩
  replace bb := nextw (w0 := w1) (by exact ⟨rfl, rfl, rfl, Nat.le_refl _, fun _ _ => rfl⟩) bb
  replace B_a := Lib.hid (Box2.below B_a.out bb B_a.out.lt)
  replace B_b := Lib.hid (Box2.below B_b.out bb B_b.out.lt)
  replace VR := Lib.hid (row_keep VR.out bb)
  replace HB := Lib.hid (nextw HB.out bb)
  clear bb
  have c0a := B_a.out.c0
  have c1a := B_a.out.c1
  have c0b := B_b.out.c0
  have c1b := B_b.out.c1
  go_wp2_with fail
  refine (HY.out _).mono ?_
  clear c0a c1a c0b c1b
  rintro e w3 ⟨rfl, bb⟩
  replace bb := nextw (w0 := w2) (by exact ⟨rfl, rfl, rfl, Nat.le_refl _, fun _ _ => rfl⟩) bb
  replace B_a := Lib.hid (Box2.below B_a.out bb B_a.out.lt)
  replace B_b := Lib.hid (Box2.below B_b.out bb B_b.out.lt)
  replace VR := Lib.hid (row_keep VR.out bb)
  replace HB := Lib.hid (nextw HB.out bb)
  clear bb
  have c0a := B_a.out.c0
  have c1a := B_a.out.c1
  have c0b := B_b.out.c0
  have c1b := B_b.out.c1
  clear c0a c1a c0b c1b
  clear HX HX2 HY
  go_wp2_with fail
  have c0a := B_a.out.c0
  have c1a := B_a.out.c1
  have c0b := B_b.out.c0
  have c1b := B_b.out.c1
  have tk1x0 : True := trivial
  go_region_held3 (fun w' => w'.cell? ⟨w.heap.size, 0, none⟩ = some (.int .i64 f) ∧ w'.cell? ⟨w.heap.size, 1, none⟩ = some (.int .i64 c) ∧ w'.cell? ⟨w.heap.size + 1, 0, none⟩ = some (.int .i64 g) ∧ w'.cell? ⟨w.heap.size + 1, 1, none⟩ = some (.int .i64 d)) (((try dsimp only); (repeat' apply And.intro) <;> (first | (with_reducible assumption) | ((repeat (first | (with_reducible refine Eq.trans (cell_drew1 _ _) ?_) | (with_reducible refine Eq.trans (World.cell?_alloc_lt _ _ _ (by first | (dsimp only; omega) | (simp only [World.size_alloc, World.size_setCell]; omega))) ?_))); with_reducible assumption) | assumption | go_keep)))
    (first
      | (clear tk1x0; go_at_call 72; refine (HPa.out _).mono ?_; rintro e w4 ⟨rfl, bb⟩; replace bb := nextw (w0 := w3) (by exact ⟨rfl, rfl, rfl, Nat.le_refl _, fun _ _ => rfl⟩) bb; replace B_a := Lib.hid (Box2.below B_a.out bb B_a.out.lt); replace B_b := Lib.hid (Box2.below B_b.out bb B_b.out.lt); replace VR := Lib.hid (row_keep VR.out bb); replace HB := Lib.hid (nextw HB.out bb); clear bb c0a c1a c0b c1b; have c0a := B_a.out.c0; have c1a := B_a.out.c1; have c0b := B_b.out.c0; have c1b := B_b.out.c1; have tk1x1 : True := trivial)
      | (clear tk1x1; go_at_call 72; refine (HPb.out _).mono ?_; rintro e w5 ⟨rfl, bb⟩; replace bb := nextw (w0 := w4) (by exact ⟨rfl, rfl, rfl, Nat.le_refl _, fun _ _ => rfl⟩) bb; replace B_a := Lib.hid (Box2.below B_a.out bb B_a.out.lt); replace B_b := Lib.hid (Box2.below B_b.out bb B_b.out.lt); replace VR := Lib.hid (row_keep VR.out bb); replace HB := Lib.hid (nextw HB.out bb); clear bb c0a c1a c0b c1b; have c0a := B_a.out.c0; have c1a := B_a.out.c1; have c0b := B_b.out.c0; have c1b := B_b.out.c1; have tk1x2 : True := trivial)
      | (clear tk1x2; refine step_app_arc (l := l) (by rfl) _ _ (by rfl) (by rfl) (by rfl) (heap_alloc_new _ _) (World.ownsRow.alloc (row_keep VR.out (by exact ⟨rfl, rfl, rfl, Nat.le_refl _, fun _ _ => rfl⟩)) _) HLL.out (by have h1 := HBS.out; have h2 := HB.out.size; simp; omega) ?_; intro v3 w3 hown3 hgrow3; have VN := Lib.hid hown3; have HN := Lib.hid (((HB.out.mono HBS.out).trans ((show Below w5.heap.size w5 _ from (Below.refl _ _).alloc (Nat.le_refl _) _).mono (Nat.le_trans HBS.out HB.out.size))).grown hgrow3 (by have h1 := HBS.out; have h2 := HB.out.size; simp; omega) (fun j hj => (HLT.out j hj).1)); replace B_a := Lib.hid (Box2.grown (Box2.alloc B_a.out _) hgrow3 (fun j hj => by have := (HLT.out j hj).2; omega)); replace B_b := Lib.hid (Box2.grown (Box2.alloc B_b.out _) hgrow3 (fun j hj => by have := (HLT.out j hj).2; omega)); clear hown3 hgrow3 c0a c1a c0b c1b; have c0a := B_a.out.c0; have c1a := B_a.out.c1; have c0b := B_b.out.c0; have c1b := B_b.out.c1))
  clear c0a c1a c0b c1b
  go_wp2
  all_goals (go_ret; refine ⟨v3, rfl, ?_, HN.out⟩; have h := VN.out; rw [List.length_append]; first | (rw [if_pos (by omega)] at h; exact h) | (rw [if_neg (by omega)] at h; exact h))

set_option maxRecDepth 100000 in
set_option maxHeartbeats 4000000 in
theorem meetFrom_tt_tf (base : Nat) (v : Value) (l : List (Int × Int)) (f c g d m : Int) (ha : OkA f c) (hb : OkA g d) (hl : l.length ≤ 1000) (m0 : 0 ≤ m) (m1 : m ≤ 255) (x1 : hasB f c m = true) (x2 : hasB g d m = true) (y1 : hasB f c (m - 1) = true) (y2 : hasB g d (m - 1) = false)  (w : World) (hown : w.ownsRow base 59 2 v l.length (arcs l)) (hbase : base ≤ w.heap.size) :
    Calls Try.prog 65 #[v, av f c, av g d, .int .i64 m] w fun e w' => Met base (l ++ [(m, cntM f c g d m)]) w e w' := by
  have HX := Lib.hid (fun w => Has_at2 ha x1 w)
  have HY := Lib.hid (fun w => Has_at2 ha y1 w)
  have HX2 := Lib.hid (fun w => Has_at2 hb x2 w)
  have HY2 := Lib.hid (fun w => Has_at2 hb y2 w)
  obtain ⟨p, hp⟩ : ∃ p, ah f c m = p := ⟨_, rfl⟩
  obtain ⟨q, hq⟩ : ∃ q, ah g d m = q := ⟨_, rfl⟩
  have HPa := Lib.hid (fun w => ahead_at ha hp w)
  have HPb := Lib.hid (fun w => ahead_at hb hq w)
  have HC : Hid (cntM f c g d m = if q < p then q else p) := by unfold Hid cntM; rw [hp, hq]
  clear hp hq
  rw [HC.out]
  have VR := Lib.hid hown
  have HLT : Hid (∀ j, v.ownBlock = some j → base ≤ j ∧ j < w.heap.size) := hown.lt
  have HBS := Lib.hid hbase
  have HLL := Lib.hid hl
  clear ha hb x1 y1 hown hbase hl x2 y2
  have HB := Lib.hid (show Below w.heap.size w ((w.alloc (.cells #[.int .i64 f, .int .i64 c] 59)).alloc (.cells #[.int .i64 g, .int .i64 d] 59)) from (((Below.refl _ _).alloc (by simp <;> omega) _).alloc (by simp <;> omega) _))
  have B_a : Box2 ((w.alloc (.cells #[.int .i64 f, .int .i64 c] 59)).alloc (.cells #[.int .i64 g, .int .i64 d] 59)) (w.heap.size) f c := by have h := (Box2.alloc (Box2.new w f c) (.cells #[.int .i64 g, .int .i64 d] 59)); simpa using h
  replace B_a := Lib.hid B_a
  have B_b : Box2 ((w.alloc (.cells #[.int .i64 f, .int .i64 c] 59)).alloc (.cells #[.int .i64 g, .int .i64 d] 59)) (w.heap.size + 1) g d := by have h := (Box2.new (w.alloc (.cells #[.int .i64 f, .int .i64 c] 59)) g d); simpa using h
  replace B_b := Lib.hid B_b
  replace VR := Lib.hid (row_keep VR.out (show Below w.heap.size w ((w.alloc (.cells #[.int .i64 f, .int .i64 c] 59)).alloc (.cells #[.int .i64 g, .int .i64 d] 59)) from ((Below.refl _ _).alloc (by simp <;> omega) _).alloc (by simp <;> omega) _))
  go_enter Try.func65, Try.ntmps65
  go_wp2_with fail
  generalize (w.alloc (.cells #[.int .i64 f, .int .i64 c] 59)).alloc (.cells #[.int .i64 g, .int .i64 d] 59) = W0 at *
  have c0a := B_a.out.c0
  have c1a := B_a.out.c1
  have c0b := B_b.out.c0
  have c1b := B_b.out.c1
  refine (HX.out _).mono ?_
  clear c0a c1a c0b c1b
  rintro e w1 ⟨rfl, bb⟩
  replace bb := nextw (w0 := W0) (by exact ⟨rfl, rfl, rfl, Nat.le_refl _, fun _ _ => rfl⟩) bb
  replace B_a := Lib.hid (Box2.below B_a.out bb B_a.out.lt)
  replace B_b := Lib.hid (Box2.below B_b.out bb B_b.out.lt)
  replace VR := Lib.hid (row_keep VR.out bb)
  replace HB := Lib.hid (nextw HB.out bb)
  clear bb
  have c0a := B_a.out.c0
  have c1a := B_a.out.c1
  have c0b := B_b.out.c0
  have c1b := B_b.out.c1
  go_wp2_with fail
  refine (HX2.out _).mono ?_
  clear c0a c1a c0b c1b
  rintro e w2 ⟨rfl, bb⟩
  replace bb := nextw (w0 := w1) (by exact ⟨rfl, rfl, rfl, Nat.le_refl _, fun _ _ => rfl⟩) bb
  replace B_a := Lib.hid (Box2.below B_a.out bb B_a.out.lt)
  replace B_b := Lib.hid (Box2.below B_b.out bb B_b.out.lt)
  replace VR := Lib.hid (row_keep VR.out bb)
  replace HB := Lib.hid (nextw HB.out bb)
  clear bb
  have c0a := B_a.out.c0
  have c1a := B_a.out.c1
  have c0b := B_b.out.c0
  have c1b := B_b.out.c1
  go_wp2_with fail
  refine (HY.out _).mono ?_
  clear c0a c1a c0b c1b
  rintro e w3 ⟨rfl, bb⟩
  replace bb := nextw (w0 := w2) (by exact ⟨rfl, rfl, rfl, Nat.le_refl _, fun _ _ => rfl⟩) bb
  replace B_a := Lib.hid (Box2.below B_a.out bb B_a.out.lt)
  replace B_b := Lib.hid (Box2.below B_b.out bb B_b.out.lt)
  replace VR := Lib.hid (row_keep VR.out bb)
  replace HB := Lib.hid (nextw HB.out bb)
  clear bb
  have c0a := B_a.out.c0
  have c1a := B_a.out.c1
  have c0b := B_b.out.c0
  have c1b := B_b.out.c1
  go_wp2_with fail
  refine (HY2.out _).mono ?_
  clear c0a c1a c0b c1b
  rintro e w4 ⟨rfl, bb⟩
  replace bb := nextw (w0 := w3) (by exact ⟨rfl, rfl, rfl, Nat.le_refl _, fun _ _ => rfl⟩) bb
  replace B_a := Lib.hid (Box2.below B_a.out bb B_a.out.lt)
  replace B_b := Lib.hid (Box2.below B_b.out bb B_b.out.lt)
  replace VR := Lib.hid (row_keep VR.out bb)
  replace HB := Lib.hid (nextw HB.out bb)
  clear bb
  have c0a := B_a.out.c0
  have c1a := B_a.out.c1
  have c0b := B_b.out.c0
  have c1b := B_b.out.c1
  clear c0a c1a c0b c1b
  clear HX HX2 HY HY2
  go_wp2_with fail
  have c0a := B_a.out.c0
  have c1a := B_a.out.c1
  have c0b := B_b.out.c0
  have c1b := B_b.out.c1
  have tk1x0 : True := trivial
  go_region_held3 (fun w' => w'.cell? ⟨w.heap.size, 0, none⟩ = some (.int .i64 f) ∧ w'.cell? ⟨w.heap.size, 1, none⟩ = some (.int .i64 c) ∧ w'.cell? ⟨w.heap.size + 1, 0, none⟩ = some (.int .i64 g) ∧ w'.cell? ⟨w.heap.size + 1, 1, none⟩ = some (.int .i64 d)) (((try dsimp only); (repeat' apply And.intro) <;> (first | (with_reducible assumption) | ((repeat (first | (with_reducible refine Eq.trans (cell_drew1 _ _) ?_) | (with_reducible refine Eq.trans (World.cell?_alloc_lt _ _ _ (by first | (dsimp only; omega) | (simp only [World.size_alloc, World.size_setCell]; omega))) ?_))); with_reducible assumption) | assumption | go_keep)))
    (first
      | (clear tk1x0; go_at_call 72; refine (HPa.out _).mono ?_; rintro e w5 ⟨rfl, bb⟩; replace bb := nextw (w0 := w4) (by exact ⟨rfl, rfl, rfl, Nat.le_refl _, fun _ _ => rfl⟩) bb; replace B_a := Lib.hid (Box2.below B_a.out bb B_a.out.lt); replace B_b := Lib.hid (Box2.below B_b.out bb B_b.out.lt); replace VR := Lib.hid (row_keep VR.out bb); replace HB := Lib.hid (nextw HB.out bb); clear bb c0a c1a c0b c1b; have c0a := B_a.out.c0; have c1a := B_a.out.c1; have c0b := B_b.out.c0; have c1b := B_b.out.c1; have tk1x1 : True := trivial)
      | (clear tk1x1; go_at_call 72; refine (HPb.out _).mono ?_; rintro e w6 ⟨rfl, bb⟩; replace bb := nextw (w0 := w5) (by exact ⟨rfl, rfl, rfl, Nat.le_refl _, fun _ _ => rfl⟩) bb; replace B_a := Lib.hid (Box2.below B_a.out bb B_a.out.lt); replace B_b := Lib.hid (Box2.below B_b.out bb B_b.out.lt); replace VR := Lib.hid (row_keep VR.out bb); replace HB := Lib.hid (nextw HB.out bb); clear bb c0a c1a c0b c1b; have c0a := B_a.out.c0; have c1a := B_a.out.c1; have c0b := B_b.out.c0; have c1b := B_b.out.c1; have tk1x2 : True := trivial)
      | (clear tk1x2; refine step_app_arc (l := l) (by rfl) _ _ (by rfl) (by rfl) (by rfl) (heap_alloc_new _ _) (World.ownsRow.alloc (row_keep VR.out (by exact ⟨rfl, rfl, rfl, Nat.le_refl _, fun _ _ => rfl⟩)) _) HLL.out (by have h1 := HBS.out; have h2 := HB.out.size; simp; omega) ?_; intro v3 w3 hown3 hgrow3; have VN := Lib.hid hown3; have HN := Lib.hid (((HB.out.mono HBS.out).trans ((show Below w6.heap.size w6 _ from (Below.refl _ _).alloc (Nat.le_refl _) _).mono (Nat.le_trans HBS.out HB.out.size))).grown hgrow3 (by have h1 := HBS.out; have h2 := HB.out.size; simp; omega) (fun j hj => (HLT.out j hj).1)); replace B_a := Lib.hid (Box2.grown (Box2.alloc B_a.out _) hgrow3 (fun j hj => by have := (HLT.out j hj).2; omega)); replace B_b := Lib.hid (Box2.grown (Box2.alloc B_b.out _) hgrow3 (fun j hj => by have := (HLT.out j hj).2; omega)); clear hown3 hgrow3 c0a c1a c0b c1b; have c0a := B_a.out.c0; have c1a := B_a.out.c1; have c0b := B_b.out.c0; have c1b := B_b.out.c1))
  clear c0a c1a c0b c1b
  go_wp2
  all_goals (go_ret; refine ⟨v3, rfl, ?_, HN.out⟩; have h := VN.out; rw [List.length_append]; first | (rw [if_pos (by omega)] at h; exact h) | (rw [if_neg (by omega)] at h; exact h))

set_option maxRecDepth 100000 in
set_option maxHeartbeats 4000000 in
theorem meetFrom_tt_tt (base : Nat) (v : Value) (l : List (Int × Int)) (f c g d m : Int) (ha : OkA f c) (hb : OkA g d) (hl : l.length ≤ 1000) (m0 : 0 ≤ m) (m1 : m ≤ 255) (x1 : hasB f c m = true) (x2 : hasB g d m = true) (y1 : hasB f c (m - 1) = true) (y2 : hasB g d (m - 1) = true)  (w : World) (hown : w.ownsRow base 59 2 v l.length (arcs l)) (hbase : base ≤ w.heap.size) :
    Calls Try.prog 65 #[v, av f c, av g d, .int .i64 m] w fun e w' => Met base l w e w' := by
  have HX := Lib.hid (fun w => Has_at2 ha x1 w)
  have HY := Lib.hid (fun w => Has_at2 ha y1 w)
  have HX2 := Lib.hid (fun w => Has_at2 hb x2 w)
  have HY2 := Lib.hid (fun w => Has_at2 hb y2 w)
  have VR := Lib.hid hown
  have HLT : Hid (∀ j, v.ownBlock = some j → base ≤ j ∧ j < w.heap.size) := hown.lt
  have HBS := Lib.hid hbase
  have HLL := Lib.hid hl
  clear ha hb x1 y1 hown hbase hl x2 y2
  have HB := Lib.hid (show Below w.heap.size w ((w.alloc (.cells #[.int .i64 f, .int .i64 c] 59)).alloc (.cells #[.int .i64 g, .int .i64 d] 59)) from (((Below.refl _ _).alloc (by simp <;> omega) _).alloc (by simp <;> omega) _))
  have B_a : Box2 ((w.alloc (.cells #[.int .i64 f, .int .i64 c] 59)).alloc (.cells #[.int .i64 g, .int .i64 d] 59)) (w.heap.size) f c := by have h := (Box2.alloc (Box2.new w f c) (.cells #[.int .i64 g, .int .i64 d] 59)); simpa using h
  replace B_a := Lib.hid B_a
  have B_b : Box2 ((w.alloc (.cells #[.int .i64 f, .int .i64 c] 59)).alloc (.cells #[.int .i64 g, .int .i64 d] 59)) (w.heap.size + 1) g d := by have h := (Box2.new (w.alloc (.cells #[.int .i64 f, .int .i64 c] 59)) g d); simpa using h
  replace B_b := Lib.hid B_b
  replace VR := Lib.hid (row_keep VR.out (show Below w.heap.size w ((w.alloc (.cells #[.int .i64 f, .int .i64 c] 59)).alloc (.cells #[.int .i64 g, .int .i64 d] 59)) from ((Below.refl _ _).alloc (by simp <;> omega) _).alloc (by simp <;> omega) _))
  go_enter Try.func65, Try.ntmps65
  go_wp2_with fail
  generalize (w.alloc (.cells #[.int .i64 f, .int .i64 c] 59)).alloc (.cells #[.int .i64 g, .int .i64 d] 59) = W0 at *
  have c0a := B_a.out.c0
  have c1a := B_a.out.c1
  have c0b := B_b.out.c0
  have c1b := B_b.out.c1
  refine (HX.out _).mono ?_
  clear c0a c1a c0b c1b
  rintro e w1 ⟨rfl, bb⟩
  replace bb := nextw (w0 := W0) (by exact ⟨rfl, rfl, rfl, Nat.le_refl _, fun _ _ => rfl⟩) bb
  replace B_a := Lib.hid (Box2.below B_a.out bb B_a.out.lt)
  replace B_b := Lib.hid (Box2.below B_b.out bb B_b.out.lt)
  replace VR := Lib.hid (row_keep VR.out bb)
  replace HB := Lib.hid (nextw HB.out bb)
  clear bb
  have c0a := B_a.out.c0
  have c1a := B_a.out.c1
  have c0b := B_b.out.c0
  have c1b := B_b.out.c1
  go_wp2_with fail
  refine (HX2.out _).mono ?_
  clear c0a c1a c0b c1b
  rintro e w2 ⟨rfl, bb⟩
  replace bb := nextw (w0 := w1) (by exact ⟨rfl, rfl, rfl, Nat.le_refl _, fun _ _ => rfl⟩) bb
  replace B_a := Lib.hid (Box2.below B_a.out bb B_a.out.lt)
  replace B_b := Lib.hid (Box2.below B_b.out bb B_b.out.lt)
  replace VR := Lib.hid (row_keep VR.out bb)
  replace HB := Lib.hid (nextw HB.out bb)
  clear bb
  have c0a := B_a.out.c0
  have c1a := B_a.out.c1
  have c0b := B_b.out.c0
  have c1b := B_b.out.c1
  go_wp2_with fail
  refine (HY.out _).mono ?_
  clear c0a c1a c0b c1b
  rintro e w3 ⟨rfl, bb⟩
  replace bb := nextw (w0 := w2) (by exact ⟨rfl, rfl, rfl, Nat.le_refl _, fun _ _ => rfl⟩) bb
  replace B_a := Lib.hid (Box2.below B_a.out bb B_a.out.lt)
  replace B_b := Lib.hid (Box2.below B_b.out bb B_b.out.lt)
  replace VR := Lib.hid (row_keep VR.out bb)
  replace HB := Lib.hid (nextw HB.out bb)
  clear bb
  have c0a := B_a.out.c0
  have c1a := B_a.out.c1
  have c0b := B_b.out.c0
  have c1b := B_b.out.c1
  go_wp2_with fail
  refine (HY2.out _).mono ?_
  clear c0a c1a c0b c1b
  rintro e w4 ⟨rfl, bb⟩
  replace bb := nextw (w0 := w3) (by exact ⟨rfl, rfl, rfl, Nat.le_refl _, fun _ _ => rfl⟩) bb
  replace B_a := Lib.hid (Box2.below B_a.out bb B_a.out.lt)
  replace B_b := Lib.hid (Box2.below B_b.out bb B_b.out.lt)
  replace VR := Lib.hid (row_keep VR.out bb)
  replace HB := Lib.hid (nextw HB.out bb)
  clear bb
  have c0a := B_a.out.c0
  have c1a := B_a.out.c1
  have c0b := B_b.out.c0
  have c1b := B_b.out.c1
  clear c0a c1a c0b c1b
  go_wp2
  go_ret
  exact ⟨_, rfl, row_keep VR.out (by exact ⟨rfl, rfl, rfl, Nat.le_refl _, fun _ _ => rfl⟩), (nextw HB.out (by exact ⟨rfl, rfl, rfl, Nat.le_refl _, fun _ _ => rfl⟩)).mono HBS.out⟩

theorem meetFrom_any (base : Nat) (v : Value) (l : List (Int × Int)) (f c g d m : Int) (ha : OkA f c) (hb : OkA g d) (hl : l.length ≤ 1000) (m0 : 0 ≤ m) (m1 : m ≤ 255) (w : World) (hown : w.ownsRow base 59 2 v l.length (arcs l)) (hbase : base ≤ w.heap.size) :
    Calls Try.prog 65 #[v, av f c, av g d, .int .i64 m] w fun e w' => Met base (if startB f c g d m = true then l ++ [(m, cntM f c g d m)] else l) w e w' := by
  unfold startB bothB
  rcases x1 : hasB f c m with _ | _ <;> rcases x2 : hasB g d m with _ | _ <;> rcases y1 : hasB f c (m - 1) with _ | _ <;> rcases y2 : hasB g d (m - 1) with _ | _
  all_goals simp only [Bool.and_true, Bool.and_false, Bool.true_and, Bool.false_and, Bool.not_true, Bool.not_false, if_true, if_false, Bool.false_eq_true]
  all_goals first
    | exact meetFrom_f_f base v l f c g d m ha hb hl m0 m1 x1 y1 w hown hbase
    | exact meetFrom_f_tf base v l f c g d m ha hb hl m0 m1 x1 y1 y2 w hown hbase
    | exact meetFrom_f_tt base v l f c g d m ha hb hl m0 m1 x1 y1 y2 w hown hbase
    | exact meetFrom_tf_f base v l f c g d m ha hb hl m0 m1 x1 x2 y1 w hown hbase
    | exact meetFrom_tf_tf base v l f c g d m ha hb hl m0 m1 x1 x2 y1 y2 w hown hbase
    | exact meetFrom_tf_tt base v l f c g d m ha hb hl m0 m1 x1 x2 y1 y2 w hown hbase
    | exact meetFrom_tt_f base v l f c g d m ha hb hl m0 m1 x1 x2 y1 w hown hbase
    | exact meetFrom_tt_tf base v l f c g d m ha hb hl m0 m1 x1 x2 y1 y2 w hown hbase
    | exact meetFrom_tt_tt base v l f c g d m ha hb hl m0 m1 x1 x2 y1 y2 w hown hbase
end Go.Proofs.Ytjpdahalplkfbaa
