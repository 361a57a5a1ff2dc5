/- wayfinderbase.Vector; the reference's Valid. -/
import Derived.Test.YtincejndchdcdaaHVal
namespace Go.Proofs.Ytincejndchdcdaa
open Go Go.RowKit Hd

set_option maxRecDepth 100000 in
set_option maxHeartbeats 1000000 in
theorem BV_1 (x y d : Int) (c1 : d < 1) (w : World) :
    Calls Try.prog 28 #[.agg #[.int .i64 x, .int .i64 y, .int .i64 d]] w fun e w' => e = .returned (.bool false) ∧ Below w.heap.size w w' := by
  have HB := Lib.hid (show Below w.heap.size w (w.alloc (.cells #[.int .i64 x, .int .i64 y, .int .i64 d] 24)) from ((Below.refl _ _).alloc (by simp <;> omega) _))
  have B_a : Box3 (w.alloc (.cells #[.int .i64 x, .int .i64 y, .int .i64 d] 24)) (w.heap.size) x y d := by have h := (Box3.new w x y d); simpa using h
  replace B_a := Lib.hid B_a
  go_enter Try.func28, Try.ntmps28
  go_wp2_with fail
  generalize w.alloc (.cells #[.int .i64 x, .int .i64 y, .int .i64 d] 24) = W0 at *
  have c0a := B_a.out.c0
  have c1a := B_a.out.c1
  have c2a := B_a.out.c2
  go_wp2
  go_ret
  exact ⟨rfl, nextw HB.out (by exact ⟨rfl, rfl, rfl, Nat.le_refl _, fun _ _ => rfl⟩)⟩

set_option maxRecDepth 100000 in
set_option maxHeartbeats 1000000 in
theorem BV_2 (x y d : Int) (c1 : 1 ≤ d) (c2 : 67108864 < d) (w : World) :
    Calls Try.prog 28 #[.agg #[.int .i64 x, .int .i64 y, .int .i64 d]] w fun e w' => e = .returned (.bool false) ∧ Below w.heap.size w w' := by
  have HB := Lib.hid (show Below w.heap.size w (w.alloc (.cells #[.int .i64 x, .int .i64 y, .int .i64 d] 24)) from ((Below.refl _ _).alloc (by simp <;> omega) _))
  have B_a : Box3 (w.alloc (.cells #[.int .i64 x, .int .i64 y, .int .i64 d] 24)) (w.heap.size) x y d := by have h := (Box3.new w x y d); simpa using h
  replace B_a := Lib.hid B_a
  go_enter Try.func28, Try.ntmps28
  go_wp2_with fail
  generalize w.alloc (.cells #[.int .i64 x, .int .i64 y, .int .i64 d] 24) = W0 at *
  have c0a := B_a.out.c0
  have c1a := B_a.out.c1
  have c2a := B_a.out.c2
  go_wp2
  go_ret
  exact ⟨rfl, nextw HB.out (by exact ⟨rfl, rfl, rfl, Nat.le_refl _, fun _ _ => rfl⟩)⟩

set_option maxRecDepth 100000 in
set_option maxHeartbeats 1000000 in
theorem BV_3 (x y d : Int) (c1 : 1 ≤ d) (c2 : d ≤ 67108864) (c3 : x < -d) (w : World) :
    Calls Try.prog 28 #[.agg #[.int .i64 x, .int .i64 y, .int .i64 d]] w fun e w' => e = .returned (.bool false) ∧ Below w.heap.size w w' := by
  have HB := Lib.hid (show Below w.heap.size w (w.alloc (.cells #[.int .i64 x, .int .i64 y, .int .i64 d] 24)) from ((Below.refl _ _).alloc (by simp <;> omega) _))
  have B_a : Box3 (w.alloc (.cells #[.int .i64 x, .int .i64 y, .int .i64 d] 24)) (w.heap.size) x y d := by have h := (Box3.new w x y d); simpa using h
  replace B_a := Lib.hid B_a
  go_enter Try.func28, Try.ntmps28
  go_wp2_with fail
  generalize w.alloc (.cells #[.int .i64 x, .int .i64 y, .int .i64 d] 24) = W0 at *
  have c0a := B_a.out.c0
  have c1a := B_a.out.c1
  have c2a := B_a.out.c2
  go_wp2
  go_ret
  exact ⟨rfl, nextw HB.out (by exact ⟨rfl, rfl, rfl, Nat.le_refl _, fun _ _ => rfl⟩)⟩

set_option maxRecDepth 100000 in
set_option maxHeartbeats 1000000 in
theorem BV_4 (x y d : Int) (c1 : 1 ≤ d) (c2 : d ≤ 67108864) (c3 : -d ≤ x) (c4 : d < x) (w : World) :
    Calls Try.prog 28 #[.agg #[.int .i64 x, .int .i64 y, .int .i64 d]] w fun e w' => e = .returned (.bool false) ∧ Below w.heap.size w w' := by
  have HB := Lib.hid (show Below w.heap.size w (w.alloc (.cells #[.int .i64 x, .int .i64 y, .int .i64 d] 24)) from ((Below.refl _ _).alloc (by simp <;> omega) _))
  have B_a : Box3 (w.alloc (.cells #[.int .i64 x, .int .i64 y, .int .i64 d] 24)) (w.heap.size) x y d := by have h := (Box3.new w x y d); simpa using h
  replace B_a := Lib.hid B_a
  go_enter Try.func28, Try.ntmps28
  go_wp2_with fail
  generalize w.alloc (.cells #[.int .i64 x, .int .i64 y, .int .i64 d] 24) = W0 at *
  have c0a := B_a.out.c0
  have c1a := B_a.out.c1
  have c2a := B_a.out.c2
  go_wp2
  go_ret
  exact ⟨rfl, nextw HB.out (by exact ⟨rfl, rfl, rfl, Nat.le_refl _, fun _ _ => rfl⟩)⟩

set_option maxRecDepth 100000 in
set_option maxHeartbeats 1000000 in
theorem BV_5 (x y d : Int) (c1 : 1 ≤ d) (c2 : d ≤ 67108864) (c3 : -d ≤ x) (c4 : x ≤ d) (c5 : y < -d) (w : World) :
    Calls Try.prog 28 #[.agg #[.int .i64 x, .int .i64 y, .int .i64 d]] w fun e w' => e = .returned (.bool false) ∧ Below w.heap.size w w' := by
  have HB := Lib.hid (show Below w.heap.size w (w.alloc (.cells #[.int .i64 x, .int .i64 y, .int .i64 d] 24)) from ((Below.refl _ _).alloc (by simp <;> omega) _))
  have B_a : Box3 (w.alloc (.cells #[.int .i64 x, .int .i64 y, .int .i64 d] 24)) (w.heap.size) x y d := by have h := (Box3.new w x y d); simpa using h
  replace B_a := Lib.hid B_a
  go_enter Try.func28, Try.ntmps28
  go_wp2_with fail
  generalize w.alloc (.cells #[.int .i64 x, .int .i64 y, .int .i64 d] 24) = W0 at *
  have c0a := B_a.out.c0
  have c1a := B_a.out.c1
  have c2a := B_a.out.c2
  go_wp2
  go_ret
  exact ⟨rfl, nextw HB.out (by exact ⟨rfl, rfl, rfl, Nat.le_refl _, fun _ _ => rfl⟩)⟩

set_option maxRecDepth 100000 in
set_option maxHeartbeats 1000000 in
theorem BV_6 (x y d : Int) (c1 : 1 ≤ d) (c2 : d ≤ 67108864) (c3 : -d ≤ x) (c4 : x ≤ d) (c5 : -d ≤ y) (c6 : d < y) (w : World) :
    Calls Try.prog 28 #[.agg #[.int .i64 x, .int .i64 y, .int .i64 d]] w fun e w' => e = .returned (.bool false) ∧ Below w.heap.size w w' := by
  have HB := Lib.hid (show Below w.heap.size w (w.alloc (.cells #[.int .i64 x, .int .i64 y, .int .i64 d] 24)) from ((Below.refl _ _).alloc (by simp <;> omega) _))
  have B_a : Box3 (w.alloc (.cells #[.int .i64 x, .int .i64 y, .int .i64 d] 24)) (w.heap.size) x y d := by have h := (Box3.new w x y d); simpa using h
  replace B_a := Lib.hid B_a
  go_enter Try.func28, Try.ntmps28
  go_wp2_with fail
  generalize w.alloc (.cells #[.int .i64 x, .int .i64 y, .int .i64 d] 24) = W0 at *
  have c0a := B_a.out.c0
  have c1a := B_a.out.c1
  have c2a := B_a.out.c2
  go_wp2
  go_ret
  exact ⟨rfl, nextw HB.out (by exact ⟨rfl, rfl, rfl, Nat.le_refl _, fun _ _ => rfl⟩)⟩

set_option maxRecDepth 100000 in
set_option maxHeartbeats 1000000 in
theorem BV_7 (x y d : Int) (c1 : 1 ≤ d) (c2 : d ≤ 67108864) (c3 : -d ≤ x) (c4 : x ≤ d) (c5 : -d ≤ y) (c6 : y ≤ d) (he : (x * x + y * y == d * d) = false) (w : World) :
    Calls Try.prog 28 #[.agg #[.int .i64 x, .int .i64 y, .int .i64 d]] w fun e w' => e = .returned (.bool false) ∧ Below w.heap.size w w' := by
  have hx := sq_bound (show -d ≤ x by omega) (by omega) (by omega)
  have hy := sq_bound (show -d ≤ y by omega) (by omega) (by omega)
  have hd := sq_bound (show -d ≤ d by omega) (by omega) (by omega)
  have HB := Lib.hid (show Below w.heap.size w (w.alloc (.cells #[.int .i64 x, .int .i64 y, .int .i64 d] 24)) from ((Below.refl _ _).alloc (by simp <;> omega) _))
  have B_a : Box3 (w.alloc (.cells #[.int .i64 x, .int .i64 y, .int .i64 d] 24)) (w.heap.size) x y d := by have h := (Box3.new w x y d); simpa using h
  replace B_a := Lib.hid B_a
  go_enter Try.func28, Try.ntmps28
  go_wp2_with fail
  generalize w.alloc (.cells #[.int .i64 x, .int .i64 y, .int .i64 d] 24) = W0 at *
  have c0a := B_a.out.c0
  have c1a := B_a.out.c1
  have c2a := B_a.out.c2
  go_wp2
  go_ret
  exact ⟨rfl, nextw HB.out (by exact ⟨rfl, rfl, rfl, Nat.le_refl _, fun _ _ => rfl⟩)⟩

set_option maxRecDepth 100000 in
set_option maxHeartbeats 1000000 in
theorem BV_8 (x y d : Int) (c1 : 1 ≤ d) (c2 : d ≤ 67108864) (c3 : -d ≤ x) (c4 : x ≤ d) (c5 : -d ≤ y) (c6 : y ≤ d) (he : (x * x + y * y == d * d) = true) (w : World) :
    Calls Try.prog 28 #[.agg #[.int .i64 x, .int .i64 y, .int .i64 d]] w fun e w' => e = .returned (.bool true) ∧ Below w.heap.size w w' := by
  have hx := sq_bound (show -d ≤ x by omega) (by omega) (by omega)
  have hy := sq_bound (show -d ≤ y by omega) (by omega) (by omega)
  have hd := sq_bound (show -d ≤ d by omega) (by omega) (by omega)
  have HB := Lib.hid (show Below w.heap.size w (w.alloc (.cells #[.int .i64 x, .int .i64 y, .int .i64 d] 24)) from ((Below.refl _ _).alloc (by simp <;> omega) _))
  have B_a : Box3 (w.alloc (.cells #[.int .i64 x, .int .i64 y, .int .i64 d] 24)) (w.heap.size) x y d := by have h := (Box3.new w x y d); simpa using h
  replace B_a := Lib.hid B_a
  go_enter Try.func28, Try.ntmps28
  go_wp2_with fail
  generalize w.alloc (.cells #[.int .i64 x, .int .i64 y, .int .i64 d] 24) = W0 at *
  have c0a := B_a.out.c0
  have c1a := B_a.out.c1
  have c2a := B_a.out.c2
  go_wp2
  go_ret
  exact ⟨rfl, nextw HB.out (by exact ⟨rfl, rfl, rfl, Nat.le_refl _, fun _ _ => rfl⟩)⟩

theorem BV_no (v : V3) (hn : ¬ Ok v) (w : World) :
    Calls Try.prog 28 #[vv v] w fun e w' => e = .returned (.bool false) ∧ Below w.heap.size w w' := by
  obtain ⟨x, y, d⟩ := v
  by_cases c1 : d < 1
  · exact BV_1 x y d c1 w
  by_cases c2 : 67108864 < d
  · exact BV_2 x y d (by omega) c2 w
  by_cases c3 : x < -d
  · exact BV_3 x y d (by omega) (by omega) c3 w
  by_cases c4 : d < x
  · exact BV_4 x y d (by omega) (by omega) (by omega) c4 w
  by_cases c5 : y < -d
  · exact BV_5 x y d (by omega) (by omega) (by omega) (by omega) c5 w
  by_cases c6 : d < y
  · exact BV_6 x y d (by omega) (by omega) (by omega) (by omega) (by omega) c6 w
  refine BV_7 x y d (by omega) (by omega) (by omega) (by omega) (by omega) (by omega) ?_ w
  rw [beq_eq_false_iff_ne]; intro h; exact hn ⟨by show 1 ≤ d; omega, by show d ≤ 67108864; omega, h⟩
theorem BV_yes (v : V3) (h : Ok v) (w : World) :
    Calls Try.prog 28 #[vv v] w fun e w' => e = .returned (.bool true) ∧ Below w.heap.size w w' :=
  BV_8 v.x v.y v.d h.lo h.hi h.bx.1 h.bx.2 h.by_.1 h.by_.2 (by rw [h.eq]; simp) w

set_option maxRecDepth 100000 in
set_option maxHeartbeats 1000000 in
theorem RValid_yes (v : V3) (h : Ok v) (w : World) :
    Calls Try.prog 26 #[vv v] w fun e w' => e = .returned (.bool true) ∧ Below w.heap.size w w' := by
  have HV := Lib.hid (fun w => BV_yes v h w)
  obtain ⟨x, y, d⟩ := v
  clear h
  have HB := Lib.hid (show Below w.heap.size w (w.alloc (.cells #[.int .i64 x, .int .i64 y, .int .i64 d] 24)) from ((Below.refl _ _).alloc (by simp <;> omega) _))
  have B_a : Box3 (w.alloc (.cells #[.int .i64 x, .int .i64 y, .int .i64 d] 24)) (w.heap.size) x y d := by have h := (Box3.new w x y d); simpa using h
  replace B_a := Lib.hid B_a
  go_enter Try.func26, Try.ntmps26
  go_wp2_with fail
  generalize w.alloc (.cells #[.int .i64 x, .int .i64 y, .int .i64 d] 24) = W0 at *
  have c0a := B_a.out.c0
  have c1a := B_a.out.c1
  have c2a := B_a.out.c2
  refine (HV.out _).mono ?_
  clear c0a c1a c2a
  rintro e w1 ⟨rfl, bb⟩
  replace bb := nextw (w0 := W0) (by exact ⟨rfl, rfl, rfl, Nat.le_refl _, fun _ _ => rfl⟩) bb
  replace B_a := Lib.hid (Box3.below B_a.out bb B_a.out.lt)
  replace HB := Lib.hid (nextw HB.out bb)
  clear bb
  go_wp2
  go_ret
  exact ⟨rfl, nextw HB.out (by exact ⟨rfl, rfl, rfl, Nat.le_refl _, fun _ _ => rfl⟩)⟩

set_option maxRecDepth 100000 in
set_option maxHeartbeats 1000000 in
theorem RValid_no (v : V3) (hn : ¬ Ok v) (w : World) :
    Calls Try.prog 26 #[vv v] w fun e w' => e = .returned (.bool false) ∧ Below w.heap.size w w' := by
  have HV := Lib.hid (fun w => BV_no v hn w)
  obtain ⟨x, y, d⟩ := v
  clear hn
  have HB := Lib.hid (show Below w.heap.size w (w.alloc (.cells #[.int .i64 x, .int .i64 y, .int .i64 d] 24)) from ((Below.refl _ _).alloc (by simp <;> omega) _))
  have B_a : Box3 (w.alloc (.cells #[.int .i64 x, .int .i64 y, .int .i64 d] 24)) (w.heap.size) x y d := by have h := (Box3.new w x y d); simpa using h
  replace B_a := Lib.hid B_a
  go_enter Try.func26, Try.ntmps26
  go_wp2_with fail
  generalize w.alloc (.cells #[.int .i64 x, .int .i64 y, .int .i64 d] 24) = W0 at *
  have c0a := B_a.out.c0
  have c1a := B_a.out.c1
  have c2a := B_a.out.c2
  refine (HV.out _).mono ?_
  clear c0a c1a c2a
  rintro e w1 ⟨rfl, bb⟩
  replace bb := nextw (w0 := W0) (by exact ⟨rfl, rfl, rfl, Nat.le_refl _, fun _ _ => rfl⟩) bb
  replace B_a := Lib.hid (Box3.below B_a.out bb B_a.out.lt)
  replace HB := Lib.hid (nextw HB.out bb)
  clear bb
  go_wp2
  go_ret
  exact ⟨rfl, nextw HB.out (by exact ⟨rfl, rfl, rfl, Nat.le_refl _, fun _ _ => rfl⟩)⟩
end Go.Proofs.Ytincejndchdcdaa
