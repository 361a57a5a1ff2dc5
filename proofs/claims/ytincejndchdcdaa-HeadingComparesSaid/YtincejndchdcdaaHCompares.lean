/- The law HeadingCompares. -/
import Derived.Test.YtincejndchdcdaaHAwake
import Derived.Test.YtincejndchdcdaaHBVec
import Derived.Test.YtincejndchdcdaaHOrder
namespace Go.Proofs.Ytincejndchdcdaa
open Go Go.RowKit Hd

theorem Cmp_at {a b : V3} {r : Int} (ha : Ok a) (hb : Ok b) (h : cmpV a b = r) (w : World) :
    Calls Try.prog 21 #[vv a, vv b] w fun e w' => e = .returned (.int .i64 r) ∧ Below w.heap.size w w' := h ▸ Cmp_ok a b ha hb w
theorem Norm_at {a L : V3} (ha : Ok a) (h : low a.x a.y a.d = L) (w : World) :
    Calls Try.prog 22 #[vv a] w fun e w' => e = .returned (.tuple #[vv L, .int .i64 0]) ∧ Below w.heap.size w w' := h ▸ Norm_ok a ha w

set_option maxRecDepth 100000 in
set_option maxHeartbeats 1000000 in
theorem Cs_bad1 (a b c : V3) (hn : ¬ Ok a) (w : World) :
    Calls Try.prog 7 #[vv a, vv b, vv c] w fun e w' => e = .returned (.bool true) ∧ Below w.heap.size w w' := by
  have HA := Lib.hid (fun w => awake_any w)
  have HN := Lib.hid (fun w => BV_no a hn w)
  obtain ⟨x, y, d⟩ := a
  obtain ⟨u, v, f⟩ := b
  obtain ⟨p, q, g⟩ := c
  clear hn
  have HB := Lib.hid (show Below w.heap.size w (((w.alloc (.cells #[.int .i64 x, .int .i64 y, .int .i64 d] 24)).alloc (.cells #[.int .i64 u, .int .i64 v, .int .i64 f] 24)).alloc (.cells #[.int .i64 p, .int .i64 q, .int .i64 g] 24)) from ((((Below.refl _ _).alloc (by simp <;> omega) _).alloc (by simp <;> omega) _).alloc (by simp <;> omega) _))
  have B_a : Box3 (((w.alloc (.cells #[.int .i64 x, .int .i64 y, .int .i64 d] 24)).alloc (.cells #[.int .i64 u, .int .i64 v, .int .i64 f] 24)).alloc (.cells #[.int .i64 p, .int .i64 q, .int .i64 g] 24)) (w.heap.size) x y d := by have h := (Box3.alloc (Box3.alloc (Box3.new w x y d) (.cells #[.int .i64 u, .int .i64 v, .int .i64 f] 24)) (.cells #[.int .i64 p, .int .i64 q, .int .i64 g] 24)); simpa using h
  replace B_a := Lib.hid B_a
  have B_b : Box3 (((w.alloc (.cells #[.int .i64 x, .int .i64 y, .int .i64 d] 24)).alloc (.cells #[.int .i64 u, .int .i64 v, .int .i64 f] 24)).alloc (.cells #[.int .i64 p, .int .i64 q, .int .i64 g] 24)) (w.heap.size + 1) u v f := by have h := (Box3.alloc (Box3.new (w.alloc (.cells #[.int .i64 x, .int .i64 y, .int .i64 d] 24)) u v f) (.cells #[.int .i64 p, .int .i64 q, .int .i64 g] 24)); simpa using h
  replace B_b := Lib.hid B_b
  have B_c : Box3 (((w.alloc (.cells #[.int .i64 x, .int .i64 y, .int .i64 d] 24)).alloc (.cells #[.int .i64 u, .int .i64 v, .int .i64 f] 24)).alloc (.cells #[.int .i64 p, .int .i64 q, .int .i64 g] 24)) (w.heap.size + 1 + 1) p q g := by have h := (Box3.new ((w.alloc (.cells #[.int .i64 x, .int .i64 y, .int .i64 d] 24)).alloc (.cells #[.int .i64 u, .int .i64 v, .int .i64 f] 24)) p q g); simpa using h
  replace B_c := Lib.hid B_c
  go_enter Try.func7, Try.ntmps7
  go_wp2_with fail
  generalize ((w.alloc (.cells #[.int .i64 x, .int .i64 y, .int .i64 d] 24)).alloc (.cells #[.int .i64 u, .int .i64 v, .int .i64 f] 24)).alloc (.cells #[.int .i64 p, .int .i64 q, .int .i64 g] 24) = W0 at *
  refine (HA.out _).mono ?_
  rintro e w1 ⟨rfl, bb⟩
  replace bb := nextw (w0 := W0) (by exact ⟨rfl, rfl, rfl, Nat.le_refl _, fun _ _ => rfl⟩) bb
  replace B_a := Lib.hid (Box3.below B_a.out bb B_a.out.lt)
  replace B_b := Lib.hid (Box3.below B_b.out bb B_b.out.lt)
  replace B_c := Lib.hid (Box3.below B_c.out bb B_c.out.lt)
  replace HB := Lib.hid (nextw HB.out bb)
  clear bb
  have c0a := B_a.out.c0
  have c1a := B_a.out.c1
  have c2a := B_a.out.c2
  have c0b := B_b.out.c0
  have c1b := B_b.out.c1
  have c2b := B_b.out.c2
  have c0c := B_c.out.c0
  have c1c := B_c.out.c1
  have c2c := B_c.out.c2
  go_wp2_with fail
  refine (HN.out _).mono ?_
  clear c0a c1a c2a c0b c1b c2b c0c c1c c2c
  rintro e w2 ⟨rfl, bb⟩
  replace bb := nextw (w0 := w1) (by exact ⟨rfl, rfl, rfl, Nat.le_refl _, fun _ _ => rfl⟩) bb
  replace B_a := Lib.hid (Box3.below B_a.out bb B_a.out.lt)
  replace B_b := Lib.hid (Box3.below B_b.out bb B_b.out.lt)
  replace B_c := Lib.hid (Box3.below B_c.out bb B_c.out.lt)
  replace HB := Lib.hid (nextw HB.out bb)
  clear bb
  go_wp2_with fail
  refine (HA.out _).mono ?_
  rintro e w3 ⟨rfl, bb⟩
  replace bb := nextw (w0 := w2) (by exact ⟨rfl, rfl, rfl, Nat.le_refl _, fun _ _ => rfl⟩) bb
  replace B_a := Lib.hid (Box3.below B_a.out bb B_a.out.lt)
  replace B_b := Lib.hid (Box3.below B_b.out bb B_b.out.lt)
  replace B_c := Lib.hid (Box3.below B_c.out bb B_c.out.lt)
  replace HB := Lib.hid (nextw HB.out bb)
  clear bb
  go_wp2
  go_ret
  exact ⟨rfl, nextw HB.out (by exact ⟨rfl, rfl, rfl, Nat.le_refl _, fun _ _ => rfl⟩)⟩

set_option maxRecDepth 100000 in
set_option maxHeartbeats 1000000 in
theorem Cs_bad2 (a b c : V3) (ha : Ok a) (hn : ¬ Ok b) (w : World) :
    Calls Try.prog 7 #[vv a, vv b, vv c] w fun e w' => e = .returned (.bool true) ∧ Below w.heap.size w w' := by
  have HA := Lib.hid (fun w => awake_any w)
  have HVa := Lib.hid (fun w => BV_yes a ha w)
  have HN := Lib.hid (fun w => BV_no b hn w)
  obtain ⟨x, y, d⟩ := a
  obtain ⟨u, v, f⟩ := b
  obtain ⟨p, q, g⟩ := c
  clear ha hn
  have HB := Lib.hid (show Below w.heap.size w (((w.alloc (.cells #[.int .i64 x, .int .i64 y, .int .i64 d] 24)).alloc (.cells #[.int .i64 u, .int .i64 v, .int .i64 f] 24)).alloc (.cells #[.int .i64 p, .int .i64 q, .int .i64 g] 24)) from ((((Below.refl _ _).alloc (by simp <;> omega) _).alloc (by simp <;> omega) _).alloc (by simp <;> omega) _))
  have B_a : Box3 (((w.alloc (.cells #[.int .i64 x, .int .i64 y, .int .i64 d] 24)).alloc (.cells #[.int .i64 u, .int .i64 v, .int .i64 f] 24)).alloc (.cells #[.int .i64 p, .int .i64 q, .int .i64 g] 24)) (w.heap.size) x y d := by have h := (Box3.alloc (Box3.alloc (Box3.new w x y d) (.cells #[.int .i64 u, .int .i64 v, .int .i64 f] 24)) (.cells #[.int .i64 p, .int .i64 q, .int .i64 g] 24)); simpa using h
  replace B_a := Lib.hid B_a
  have B_b : Box3 (((w.alloc (.cells #[.int .i64 x, .int .i64 y, .int .i64 d] 24)).alloc (.cells #[.int .i64 u, .int .i64 v, .int .i64 f] 24)).alloc (.cells #[.int .i64 p, .int .i64 q, .int .i64 g] 24)) (w.heap.size + 1) u v f := by have h := (Box3.alloc (Box3.new (w.alloc (.cells #[.int .i64 x, .int .i64 y, .int .i64 d] 24)) u v f) (.cells #[.int .i64 p, .int .i64 q, .int .i64 g] 24)); simpa using h
  replace B_b := Lib.hid B_b
  have B_c : Box3 (((w.alloc (.cells #[.int .i64 x, .int .i64 y, .int .i64 d] 24)).alloc (.cells #[.int .i64 u, .int .i64 v, .int .i64 f] 24)).alloc (.cells #[.int .i64 p, .int .i64 q, .int .i64 g] 24)) (w.heap.size + 1 + 1) p q g := by have h := (Box3.new ((w.alloc (.cells #[.int .i64 x, .int .i64 y, .int .i64 d] 24)).alloc (.cells #[.int .i64 u, .int .i64 v, .int .i64 f] 24)) p q g); simpa using h
  replace B_c := Lib.hid B_c
  go_enter Try.func7, Try.ntmps7
  go_wp2_with fail
  generalize ((w.alloc (.cells #[.int .i64 x, .int .i64 y, .int .i64 d] 24)).alloc (.cells #[.int .i64 u, .int .i64 v, .int .i64 f] 24)).alloc (.cells #[.int .i64 p, .int .i64 q, .int .i64 g] 24) = W0 at *
  refine (HA.out _).mono ?_
  rintro e w1 ⟨rfl, bb⟩
  replace bb := nextw (w0 := W0) (by exact ⟨rfl, rfl, rfl, Nat.le_refl _, fun _ _ => rfl⟩) bb
  replace B_a := Lib.hid (Box3.below B_a.out bb B_a.out.lt)
  replace B_b := Lib.hid (Box3.below B_b.out bb B_b.out.lt)
  replace B_c := Lib.hid (Box3.below B_c.out bb B_c.out.lt)
  replace HB := Lib.hid (nextw HB.out bb)
  clear bb
  have c0a := B_a.out.c0
  have c1a := B_a.out.c1
  have c2a := B_a.out.c2
  have c0b := B_b.out.c0
  have c1b := B_b.out.c1
  have c2b := B_b.out.c2
  have c0c := B_c.out.c0
  have c1c := B_c.out.c1
  have c2c := B_c.out.c2
  go_wp2_with fail
  refine (HVa.out _).mono ?_
  clear c0a c1a c2a c0b c1b c2b c0c c1c c2c
  rintro e w2 ⟨rfl, bb⟩
  replace bb := nextw (w0 := w1) (by exact ⟨rfl, rfl, rfl, Nat.le_refl _, fun _ _ => rfl⟩) bb
  replace B_a := Lib.hid (Box3.below B_a.out bb B_a.out.lt)
  replace B_b := Lib.hid (Box3.below B_b.out bb B_b.out.lt)
  replace B_c := Lib.hid (Box3.below B_c.out bb B_c.out.lt)
  replace HB := Lib.hid (nextw HB.out bb)
  clear bb
  have c0a := B_a.out.c0
  have c1a := B_a.out.c1
  have c2a := B_a.out.c2
  have c0b := B_b.out.c0
  have c1b := B_b.out.c1
  have c2b := B_b.out.c2
  have c0c := B_c.out.c0
  have c1c := B_c.out.c1
  have c2c := B_c.out.c2
  go_wp2_with fail
  refine (HN.out _).mono ?_
  clear c0a c1a c2a c0b c1b c2b c0c c1c c2c
  rintro e w3 ⟨rfl, bb⟩
  replace bb := nextw (w0 := w2) (by exact ⟨rfl, rfl, rfl, Nat.le_refl _, fun _ _ => rfl⟩) bb
  replace B_a := Lib.hid (Box3.below B_a.out bb B_a.out.lt)
  replace B_b := Lib.hid (Box3.below B_b.out bb B_b.out.lt)
  replace B_c := Lib.hid (Box3.below B_c.out bb B_c.out.lt)
  replace HB := Lib.hid (nextw HB.out bb)
  clear bb
  go_wp2_with fail
  refine (HA.out _).mono ?_
  rintro e w4 ⟨rfl, bb⟩
  replace bb := nextw (w0 := w3) (by exact ⟨rfl, rfl, rfl, Nat.le_refl _, fun _ _ => rfl⟩) bb
  replace B_a := Lib.hid (Box3.below B_a.out bb B_a.out.lt)
  replace B_b := Lib.hid (Box3.below B_b.out bb B_b.out.lt)
  replace B_c := Lib.hid (Box3.below B_c.out bb B_c.out.lt)
  replace HB := Lib.hid (nextw HB.out bb)
  clear bb
  go_wp2
  go_ret
  exact ⟨rfl, nextw HB.out (by exact ⟨rfl, rfl, rfl, Nat.le_refl _, fun _ _ => rfl⟩)⟩

set_option maxRecDepth 100000 in
set_option maxHeartbeats 1000000 in
theorem Cs_bad3 (a b c : V3) (ha : Ok a) (hb : Ok b) (hn : ¬ Ok c) (w : World) :
    Calls Try.prog 7 #[vv a, vv b, vv c] w fun e w' => e = .returned (.bool true) ∧ Below w.heap.size w w' := by
  have HA := Lib.hid (fun w => awake_any w)
  have HVa := Lib.hid (fun w => BV_yes a ha w)
  have HVb := Lib.hid (fun w => BV_yes b hb w)
  have HN := Lib.hid (fun w => BV_no c hn w)
  obtain ⟨x, y, d⟩ := a
  obtain ⟨u, v, f⟩ := b
  obtain ⟨p, q, g⟩ := c
  clear ha hb hn
  have HB := Lib.hid (show Below w.heap.size w (((w.alloc (.cells #[.int .i64 x, .int .i64 y, .int .i64 d] 24)).alloc (.cells #[.int .i64 u, .int .i64 v, .int .i64 f] 24)).alloc (.cells #[.int .i64 p, .int .i64 q, .int .i64 g] 24)) from ((((Below.refl _ _).alloc (by simp <;> omega) _).alloc (by simp <;> omega) _).alloc (by simp <;> omega) _))
  have B_a : Box3 (((w.alloc (.cells #[.int .i64 x, .int .i64 y, .int .i64 d] 24)).alloc (.cells #[.int .i64 u, .int .i64 v, .int .i64 f] 24)).alloc (.cells #[.int .i64 p, .int .i64 q, .int .i64 g] 24)) (w.heap.size) x y d := by have h := (Box3.alloc (Box3.alloc (Box3.new w x y d) (.cells #[.int .i64 u, .int .i64 v, .int .i64 f] 24)) (.cells #[.int .i64 p, .int .i64 q, .int .i64 g] 24)); simpa using h
  replace B_a := Lib.hid B_a
  have B_b : Box3 (((w.alloc (.cells #[.int .i64 x, .int .i64 y, .int .i64 d] 24)).alloc (.cells #[.int .i64 u, .int .i64 v, .int .i64 f] 24)).alloc (.cells #[.int .i64 p, .int .i64 q, .int .i64 g] 24)) (w.heap.size + 1) u v f := by have h := (Box3.alloc (Box3.new (w.alloc (.cells #[.int .i64 x, .int .i64 y, .int .i64 d] 24)) u v f) (.cells #[.int .i64 p, .int .i64 q, .int .i64 g] 24)); simpa using h
  replace B_b := Lib.hid B_b
  have B_c : Box3 (((w.alloc (.cells #[.int .i64 x, .int .i64 y, .int .i64 d] 24)).alloc (.cells #[.int .i64 u, .int .i64 v, .int .i64 f] 24)).alloc (.cells #[.int .i64 p, .int .i64 q, .int .i64 g] 24)) (w.heap.size + 1 + 1) p q g := by have h := (Box3.new ((w.alloc (.cells #[.int .i64 x, .int .i64 y, .int .i64 d] 24)).alloc (.cells #[.int .i64 u, .int .i64 v, .int .i64 f] 24)) p q g); simpa using h
  replace B_c := Lib.hid B_c
  go_enter Try.func7, Try.ntmps7
  go_wp2_with fail
  generalize ((w.alloc (.cells #[.int .i64 x, .int .i64 y, .int .i64 d] 24)).alloc (.cells #[.int .i64 u, .int .i64 v, .int .i64 f] 24)).alloc (.cells #[.int .i64 p, .int .i64 q, .int .i64 g] 24) = W0 at *
  refine (HA.out _).mono ?_
  rintro e w1 ⟨rfl, bb⟩
  replace bb := nextw (w0 := W0) (by exact ⟨rfl, rfl, rfl, Nat.le_refl _, fun _ _ => rfl⟩) bb
  replace B_a := Lib.hid (Box3.below B_a.out bb B_a.out.lt)
  replace B_b := Lib.hid (Box3.below B_b.out bb B_b.out.lt)
  replace B_c := Lib.hid (Box3.below B_c.out bb B_c.out.lt)
  replace HB := Lib.hid (nextw HB.out bb)
  clear bb
  have c0a := B_a.out.c0
  have c1a := B_a.out.c1
  have c2a := B_a.out.c2
  have c0b := B_b.out.c0
  have c1b := B_b.out.c1
  have c2b := B_b.out.c2
  have c0c := B_c.out.c0
  have c1c := B_c.out.c1
  have c2c := B_c.out.c2
  go_wp2_with fail
  refine (HVa.out _).mono ?_
  clear c0a c1a c2a c0b c1b c2b c0c c1c c2c
  rintro e w2 ⟨rfl, bb⟩
  replace bb := nextw (w0 := w1) (by exact ⟨rfl, rfl, rfl, Nat.le_refl _, fun _ _ => rfl⟩) bb
  replace B_a := Lib.hid (Box3.below B_a.out bb B_a.out.lt)
  replace B_b := Lib.hid (Box3.below B_b.out bb B_b.out.lt)
  replace B_c := Lib.hid (Box3.below B_c.out bb B_c.out.lt)
  replace HB := Lib.hid (nextw HB.out bb)
  clear bb
  have c0a := B_a.out.c0
  have c1a := B_a.out.c1
  have c2a := B_a.out.c2
  have c0b := B_b.out.c0
  have c1b := B_b.out.c1
  have c2b := B_b.out.c2
  have c0c := B_c.out.c0
  have c1c := B_c.out.c1
  have c2c := B_c.out.c2
  go_wp2_with fail
  refine (HVb.out _).mono ?_
  clear c0a c1a c2a c0b c1b c2b c0c c1c c2c
  rintro e w3 ⟨rfl, bb⟩
  replace bb := nextw (w0 := w2) (by exact ⟨rfl, rfl, rfl, Nat.le_refl _, fun _ _ => rfl⟩) bb
  replace B_a := Lib.hid (Box3.below B_a.out bb B_a.out.lt)
  replace B_b := Lib.hid (Box3.below B_b.out bb B_b.out.lt)
  replace B_c := Lib.hid (Box3.below B_c.out bb B_c.out.lt)
  replace HB := Lib.hid (nextw HB.out bb)
  clear bb
  have c0a := B_a.out.c0
  have c1a := B_a.out.c1
  have c2a := B_a.out.c2
  have c0b := B_b.out.c0
  have c1b := B_b.out.c1
  have c2b := B_b.out.c2
  have c0c := B_c.out.c0
  have c1c := B_c.out.c1
  have c2c := B_c.out.c2
  go_wp2_with fail
  refine (HN.out _).mono ?_
  clear c0a c1a c2a c0b c1b c2b c0c c1c c2c
  rintro e w4 ⟨rfl, bb⟩
  replace bb := nextw (w0 := w3) (by exact ⟨rfl, rfl, rfl, Nat.le_refl _, fun _ _ => rfl⟩) bb
  replace B_a := Lib.hid (Box3.below B_a.out bb B_a.out.lt)
  replace B_b := Lib.hid (Box3.below B_b.out bb B_b.out.lt)
  replace B_c := Lib.hid (Box3.below B_c.out bb B_c.out.lt)
  replace HB := Lib.hid (nextw HB.out bb)
  clear bb
  go_wp2_with fail
  refine (HA.out _).mono ?_
  rintro e w5 ⟨rfl, bb⟩
  replace bb := nextw (w0 := w4) (by exact ⟨rfl, rfl, rfl, Nat.le_refl _, fun _ _ => rfl⟩) bb
  replace B_a := Lib.hid (Box3.below B_a.out bb B_a.out.lt)
  replace B_b := Lib.hid (Box3.below B_b.out bb B_b.out.lt)
  replace B_c := Lib.hid (Box3.below B_c.out bb B_c.out.lt)
  replace HB := Lib.hid (nextw HB.out bb)
  clear bb
  go_wp2
  go_ret
  exact ⟨rfl, nextw HB.out (by exact ⟨rfl, rfl, rfl, Nat.le_refl _, fun _ _ => rfl⟩)⟩

set_option maxRecDepth 100000 in
set_option maxHeartbeats 4000000 in
theorem Cs_gt1 (a b c : V3) (lx ly ld mx my md : Int) (ha : Ok a) (hb : Ok b) (hc : Ok c) (hL : low a.x a.y a.d = ⟨lx, ly, ld⟩) (hM : low b.x b.y b.d = ⟨mx, my, md⟩) (n : Int) (hab : cmpV a b = n) (hba : cmpV b a = -n) (n0 : (n == 0) = false) (n1 : -1 ≤ n) (n2 : n ≤ 1) (hne : (lx == mx) = false) (n3 : 0 < n)  (w : World) :
    Calls Try.prog 7 #[vv a, vv b, vv c] w fun e w' => e = .returned (.bool true) ∧ Below w.heap.size w w' := by
  have HA := Lib.hid (fun w => awake_any w)
  have HVa := Lib.hid (fun w => BV_yes a ha w)
  have HVb := Lib.hid (fun w => BV_yes b hb w)
  have HVc := Lib.hid (fun w => BV_yes c hc w)
  have HC := Lib.hid (fun w => Cmp_at ha hb hab w)
  have HD := Lib.hid (fun w => Cmp_at hb ha hba w)
  have hl := cmpV_low ha
  have hLo : Ok (low a.x a.y a.d) := Ok.low ha.lo ha.eq (by have := low_le (x := a.x) (y := a.y) ha.lo; have := ha.hi; omega)
  rw [hL] at hl hLo
  have HL := Lib.hid (fun w => Cmp_at ha hLo hl w)
  have HNa := Lib.hid (fun w => Norm_at ha hL w)
  have HNb := Lib.hid (fun w => Norm_at hb hM w)
  obtain ⟨x, y, d⟩ := a
  obtain ⟨u, v, f⟩ := b
  obtain ⟨p, q, g⟩ := c
  clear ha hb hc hab hba hl hLo hL hM
  have HB := Lib.hid (show Below w.heap.size w (((w.alloc (.cells #[.int .i64 x, .int .i64 y, .int .i64 d] 24)).alloc (.cells #[.int .i64 u, .int .i64 v, .int .i64 f] 24)).alloc (.cells #[.int .i64 p, .int .i64 q, .int .i64 g] 24)) from ((((Below.refl _ _).alloc (by simp <;> omega) _).alloc (by simp <;> omega) _).alloc (by simp <;> omega) _))
  have B_a : Box3 (((w.alloc (.cells #[.int .i64 x, .int .i64 y, .int .i64 d] 24)).alloc (.cells #[.int .i64 u, .int .i64 v, .int .i64 f] 24)).alloc (.cells #[.int .i64 p, .int .i64 q, .int .i64 g] 24)) (w.heap.size) x y d := by have h := (Box3.alloc (Box3.alloc (Box3.new w x y d) (.cells #[.int .i64 u, .int .i64 v, .int .i64 f] 24)) (.cells #[.int .i64 p, .int .i64 q, .int .i64 g] 24)); simpa using h
  replace B_a := Lib.hid B_a
  have B_b : Box3 (((w.alloc (.cells #[.int .i64 x, .int .i64 y, .int .i64 d] 24)).alloc (.cells #[.int .i64 u, .int .i64 v, .int .i64 f] 24)).alloc (.cells #[.int .i64 p, .int .i64 q, .int .i64 g] 24)) (w.heap.size + 1) u v f := by have h := (Box3.alloc (Box3.new (w.alloc (.cells #[.int .i64 x, .int .i64 y, .int .i64 d] 24)) u v f) (.cells #[.int .i64 p, .int .i64 q, .int .i64 g] 24)); simpa using h
  replace B_b := Lib.hid B_b
  have B_c : Box3 (((w.alloc (.cells #[.int .i64 x, .int .i64 y, .int .i64 d] 24)).alloc (.cells #[.int .i64 u, .int .i64 v, .int .i64 f] 24)).alloc (.cells #[.int .i64 p, .int .i64 q, .int .i64 g] 24)) (w.heap.size + 1 + 1) p q g := by have h := (Box3.new ((w.alloc (.cells #[.int .i64 x, .int .i64 y, .int .i64 d] 24)).alloc (.cells #[.int .i64 u, .int .i64 v, .int .i64 f] 24)) p q g); simpa using h
  replace B_c := Lib.hid B_c
  go_enter Try.func7, Try.ntmps7
  go_wp2_with fail
  generalize ((w.alloc (.cells #[.int .i64 x, .int .i64 y, .int .i64 d] 24)).alloc (.cells #[.int .i64 u, .int .i64 v, .int .i64 f] 24)).alloc (.cells #[.int .i64 p, .int .i64 q, .int .i64 g] 24) = W0 at *
  refine (HA.out _).mono ?_
  rintro e w1 ⟨rfl, bb⟩
  replace bb := nextw (w0 := W0) (by exact ⟨rfl, rfl, rfl, Nat.le_refl _, fun _ _ => rfl⟩) bb
  replace B_a := Lib.hid (Box3.below B_a.out bb B_a.out.lt)
  replace B_b := Lib.hid (Box3.below B_b.out bb B_b.out.lt)
  replace B_c := Lib.hid (Box3.below B_c.out bb B_c.out.lt)
  replace HB := Lib.hid (nextw HB.out bb)
  clear bb
  have c0a := B_a.out.c0
  have c1a := B_a.out.c1
  have c2a := B_a.out.c2
  have c0b := B_b.out.c0
  have c1b := B_b.out.c1
  have c2b := B_b.out.c2
  have c0c := B_c.out.c0
  have c1c := B_c.out.c1
  have c2c := B_c.out.c2
  go_wp2_with fail
  refine (HVa.out _).mono ?_
  clear c0a c1a c2a c0b c1b c2b c0c c1c c2c
  rintro e w2 ⟨rfl, bb⟩
  replace bb := nextw (w0 := w1) (by exact ⟨rfl, rfl, rfl, Nat.le_refl _, fun _ _ => rfl⟩) bb
  replace B_a := Lib.hid (Box3.below B_a.out bb B_a.out.lt)
  replace B_b := Lib.hid (Box3.below B_b.out bb B_b.out.lt)
  replace B_c := Lib.hid (Box3.below B_c.out bb B_c.out.lt)
  replace HB := Lib.hid (nextw HB.out bb)
  clear bb
  have c0a := B_a.out.c0
  have c1a := B_a.out.c1
  have c2a := B_a.out.c2
  have c0b := B_b.out.c0
  have c1b := B_b.out.c1
  have c2b := B_b.out.c2
  have c0c := B_c.out.c0
  have c1c := B_c.out.c1
  have c2c := B_c.out.c2
  go_wp2_with fail
  refine (HVb.out _).mono ?_
  clear c0a c1a c2a c0b c1b c2b c0c c1c c2c
  rintro e w3 ⟨rfl, bb⟩
  replace bb := nextw (w0 := w2) (by exact ⟨rfl, rfl, rfl, Nat.le_refl _, fun _ _ => rfl⟩) bb
  replace B_a := Lib.hid (Box3.below B_a.out bb B_a.out.lt)
  replace B_b := Lib.hid (Box3.below B_b.out bb B_b.out.lt)
  replace B_c := Lib.hid (Box3.below B_c.out bb B_c.out.lt)
  replace HB := Lib.hid (nextw HB.out bb)
  clear bb
  have c0a := B_a.out.c0
  have c1a := B_a.out.c1
  have c2a := B_a.out.c2
  have c0b := B_b.out.c0
  have c1b := B_b.out.c1
  have c2b := B_b.out.c2
  have c0c := B_c.out.c0
  have c1c := B_c.out.c1
  have c2c := B_c.out.c2
  go_wp2_with fail
  refine (HVc.out _).mono ?_
  clear c0a c1a c2a c0b c1b c2b c0c c1c c2c
  rintro e w4 ⟨rfl, bb⟩
  replace bb := nextw (w0 := w3) (by exact ⟨rfl, rfl, rfl, Nat.le_refl _, fun _ _ => rfl⟩) bb
  replace B_a := Lib.hid (Box3.below B_a.out bb B_a.out.lt)
  replace B_b := Lib.hid (Box3.below B_b.out bb B_b.out.lt)
  replace B_c := Lib.hid (Box3.below B_c.out bb B_c.out.lt)
  replace HB := Lib.hid (nextw HB.out bb)
  clear bb
  have c0a := B_a.out.c0
  have c1a := B_a.out.c1
  have c2a := B_a.out.c2
  have c0b := B_b.out.c0
  have c1b := B_b.out.c1
  have c2b := B_b.out.c2
  have c0c := B_c.out.c0
  have c1c := B_c.out.c1
  have c2c := B_c.out.c2
  go_wp2_with fail
  refine (HC.out _).mono ?_
  clear c0a c1a c2a c0b c1b c2b c0c c1c c2c
  rintro e w5 ⟨rfl, bb⟩
  replace bb := nextw (w0 := w4) (by exact ⟨rfl, rfl, rfl, Nat.le_refl _, fun _ _ => rfl⟩) bb
  replace B_a := Lib.hid (Box3.below B_a.out bb B_a.out.lt)
  replace B_b := Lib.hid (Box3.below B_b.out bb B_b.out.lt)
  replace B_c := Lib.hid (Box3.below B_c.out bb B_c.out.lt)
  replace HB := Lib.hid (nextw HB.out bb)
  clear bb
  have c0a := B_a.out.c0
  have c1a := B_a.out.c1
  have c2a := B_a.out.c2
  have c0b := B_b.out.c0
  have c1b := B_b.out.c1
  have c2b := B_b.out.c2
  have c0c := B_c.out.c0
  have c1c := B_c.out.c1
  have c2c := B_c.out.c2
  go_wp2_with fail
  refine (HNa.out _).mono ?_
  clear c0a c1a c2a c0b c1b c2b c0c c1c c2c
  rintro e w6 ⟨rfl, bb⟩
  replace bb := nextw (w0 := w5) (by exact ⟨rfl, rfl, rfl, Nat.le_refl _, fun _ _ => rfl⟩) bb
  replace B_a := Lib.hid (Box3.below B_a.out bb B_a.out.lt)
  replace B_b := Lib.hid (Box3.below B_b.out bb B_b.out.lt)
  replace B_c := Lib.hid (Box3.below B_c.out bb B_c.out.lt)
  replace HB := Lib.hid (nextw HB.out bb)
  clear bb
  have lt_Xa := B_a.out.lt
  have lt_Xb := B_b.out.lt
  have lt_Xc := B_c.out.lt
  have B_X := Lib.hid (Box3.new w6 lx ly ld)
  replace B_a := Lib.hid (Box3.alloc B_a.out (.cells #[.int .i64 lx, .int .i64 ly, .int .i64 ld] 24))
  replace B_b := Lib.hid (Box3.alloc B_b.out (.cells #[.int .i64 lx, .int .i64 ly, .int .i64 ld] 24))
  replace B_c := Lib.hid (Box3.alloc B_c.out (.cells #[.int .i64 lx, .int .i64 ly, .int .i64 ld] 24))
  replace HB := Lib.hid (nextw HB.out ((Below.refl w6.heap.size w6).alloc (Nat.le_refl _) (.cells #[.int .i64 lx, .int .i64 ly, .int .i64 ld] 24)))
  go_upto_region 5 with (fail)
  generalize w6.alloc (.cells #[.int .i64 lx, .int .i64 ly, .int .i64 ld] 24) = WX at *
  have c0a := B_a.out.c0
  have c1a := B_a.out.c1
  have c2a := B_a.out.c2
  have c0b := B_b.out.c0
  have c1b := B_b.out.c1
  have c2b := B_b.out.c2
  have c0c := B_c.out.c0
  have c1c := B_c.out.c1
  have c2c := B_c.out.c2
  go_wp2_with fail
  refine (HNb.out _).mono ?_
  clear c0a c1a c2a c0b c1b c2b c0c c1c c2c
  rintro e w7 ⟨rfl, bb⟩
  replace bb := nextw (w0 := WX) (by exact ⟨rfl, rfl, rfl, Nat.le_refl _, fun _ _ => rfl⟩) bb
  replace B_a := Lib.hid (Box3.below B_a.out bb B_a.out.lt)
  replace B_b := Lib.hid (Box3.below B_b.out bb B_b.out.lt)
  replace B_c := Lib.hid (Box3.below B_c.out bb B_c.out.lt)
  replace B_X := Lib.hid (Box3.below B_X.out bb B_X.out.lt)
  replace HB := Lib.hid (nextw HB.out bb)
  clear bb
  have lt_Ya := B_a.out.lt
  have lt_Yb := B_b.out.lt
  have lt_Yc := B_c.out.lt
  have lt_YX := B_X.out.lt
  have B_Y := Lib.hid (Box3.new w7 mx my md)
  replace B_a := Lib.hid (Box3.alloc B_a.out (.cells #[.int .i64 mx, .int .i64 my, .int .i64 md] 24))
  replace B_b := Lib.hid (Box3.alloc B_b.out (.cells #[.int .i64 mx, .int .i64 my, .int .i64 md] 24))
  replace B_c := Lib.hid (Box3.alloc B_c.out (.cells #[.int .i64 mx, .int .i64 my, .int .i64 md] 24))
  replace B_X := Lib.hid (Box3.alloc B_X.out (.cells #[.int .i64 mx, .int .i64 my, .int .i64 md] 24))
  replace HB := Lib.hid (nextw HB.out ((Below.refl w7.heap.size w7).alloc (Nat.le_refl _) (.cells #[.int .i64 mx, .int .i64 my, .int .i64 md] 24)))
  go_upto_region 6 with (fail)
  generalize w7.alloc (.cells #[.int .i64 mx, .int .i64 my, .int .i64 md] 24) = WY at *
  clear HA HVa HVb HVc HC HNa HNb
  have c0a := B_a.out.c0
  have c1a := B_a.out.c1
  have c2a := B_a.out.c2
  have c0b := B_b.out.c0
  have c1b := B_b.out.c1
  have c2b := B_b.out.c2
  have c0c := B_c.out.c0
  have c1c := B_c.out.c1
  have c2c := B_c.out.c2
  have c0X := B_X.out.c0
  have c1X := B_X.out.c1
  have c2X := B_X.out.c2
  have c0Y := B_Y.out.c0
  have c1Y := B_Y.out.c1
  have c2Y := B_Y.out.c2
  go_wp2_with fail
  refine (HD.out _).mono ?_
  clear c0a c1a c2a c0b c1b c2b c0c c1c c2c c0X c1X c2X c0Y c1Y c2Y
  rintro e w8 ⟨rfl, bb⟩
  replace bb := nextw (w0 := WY) (by exact ⟨rfl, rfl, rfl, Nat.le_refl _, fun _ _ => rfl⟩) bb
  replace B_a := Lib.hid (Box3.below B_a.out bb B_a.out.lt)
  replace B_b := Lib.hid (Box3.below B_b.out bb B_b.out.lt)
  replace B_c := Lib.hid (Box3.below B_c.out bb B_c.out.lt)
  replace B_X := Lib.hid (Box3.below B_X.out bb B_X.out.lt)
  replace B_Y := Lib.hid (Box3.below B_Y.out bb B_Y.out.lt)
  replace HB := Lib.hid (nextw HB.out bb)
  clear bb
  have c0a := B_a.out.c0
  have c1a := B_a.out.c1
  have c2a := B_a.out.c2
  have c0b := B_b.out.c0
  have c1b := B_b.out.c1
  have c2b := B_b.out.c2
  have c0c := B_c.out.c0
  have c1c := B_c.out.c1
  have c2c := B_c.out.c2
  have c0X := B_X.out.c0
  have c1X := B_X.out.c1
  have c2X := B_X.out.c2
  have c0Y := B_Y.out.c0
  have c1Y := B_Y.out.c1
  have c2Y := B_Y.out.c2
  go_wp2_with fail
  refine (HL.out _).mono ?_
  clear c0a c1a c2a c0b c1b c2b c0c c1c c2c c0X c1X c2X c0Y c1Y c2Y
  rintro e w9 ⟨rfl, bb⟩
  replace bb := nextw (w0 := w8) (by exact ⟨rfl, rfl, rfl, Nat.le_refl _, fun _ _ => rfl⟩) bb
  replace B_a := Lib.hid (Box3.below B_a.out bb B_a.out.lt)
  replace B_b := Lib.hid (Box3.below B_b.out bb B_b.out.lt)
  replace B_c := Lib.hid (Box3.below B_c.out bb B_c.out.lt)
  replace B_X := Lib.hid (Box3.below B_X.out bb B_X.out.lt)
  replace B_Y := Lib.hid (Box3.below B_Y.out bb B_Y.out.lt)
  replace HB := Lib.hid (nextw HB.out bb)
  clear bb
  have c0a := B_a.out.c0
  have c1a := B_a.out.c1
  have c2a := B_a.out.c2
  have c0b := B_b.out.c0
  have c1b := B_b.out.c1
  have c2b := B_b.out.c2
  have c0c := B_c.out.c0
  have c1c := B_c.out.c1
  have c2c := B_c.out.c2
  have c0X := B_X.out.c0
  have c1X := B_X.out.c1
  have c2X := B_X.out.c2
  have c0Y := B_Y.out.c0
  have c1Y := B_Y.out.c1
  have c2Y := B_Y.out.c2
  clear c0a c1a c2a c0b c1b c2b c0c c1c c2c c0X c1X c2X c0Y c1Y c2Y
  go_wp2
  go_ret
  exact ⟨rfl, nextw HB.out (by exact ⟨rfl, rfl, rfl, Nat.le_refl _, fun _ _ => rfl⟩)⟩

set_option maxRecDepth 100000 in
set_option maxHeartbeats 4000000 in
theorem Cs_m1 (a b c : V3) (lx ly ld mx my md : Int) (ha : Ok a) (hb : Ok b) (hc : Ok c) (hL : low a.x a.y a.d = ⟨lx, ly, ld⟩) (hM : low b.x b.y b.d = ⟨mx, my, md⟩) (n : Int) (hab : cmpV a b = n) (hba : cmpV b a = -n) (n0 : (n == 0) = false) (n1 : -1 ≤ n) (n2 : n ≤ 1) (hne : (lx == mx) = false) (n3 : n ≤ 0) (m : Int) (hbc : cmpV b c = m) (m0 : 0 < m)  (w : World) :
    Calls Try.prog 7 #[vv a, vv b, vv c] w fun e w' => e = .returned (.bool true) ∧ Below w.heap.size w w' := by
  have HA := Lib.hid (fun w => awake_any w)
  have HVa := Lib.hid (fun w => BV_yes a ha w)
  have HVb := Lib.hid (fun w => BV_yes b hb w)
  have HVc := Lib.hid (fun w => BV_yes c hc w)
  have HC := Lib.hid (fun w => Cmp_at ha hb hab w)
  have HD := Lib.hid (fun w => Cmp_at hb ha hba w)
  have hl := cmpV_low ha
  have hLo : Ok (low a.x a.y a.d) := Ok.low ha.lo ha.eq (by have := low_le (x := a.x) (y := a.y) ha.lo; have := ha.hi; omega)
  rw [hL] at hl hLo
  have HL := Lib.hid (fun w => Cmp_at ha hLo hl w)
  have HNa := Lib.hid (fun w => Norm_at ha hL w)
  have HNb := Lib.hid (fun w => Norm_at hb hM w)
  have HE := Lib.hid (fun w => Cmp_at hb hc hbc w)
  obtain ⟨x, y, d⟩ := a
  obtain ⟨u, v, f⟩ := b
  obtain ⟨p, q, g⟩ := c
  clear ha hb hc hab hba hl hLo hL hM hbc
  have HB := Lib.hid (show Below w.heap.size w (((w.alloc (.cells #[.int .i64 x, .int .i64 y, .int .i64 d] 24)).alloc (.cells #[.int .i64 u, .int .i64 v, .int .i64 f] 24)).alloc (.cells #[.int .i64 p, .int .i64 q, .int .i64 g] 24)) from ((((Below.refl _ _).alloc (by simp <;> omega) _).alloc (by simp <;> omega) _).alloc (by simp <;> omega) _))
  have B_a : Box3 (((w.alloc (.cells #[.int .i64 x, .int .i64 y, .int .i64 d] 24)).alloc (.cells #[.int .i64 u, .int .i64 v, .int .i64 f] 24)).alloc (.cells #[.int .i64 p, .int .i64 q, .int .i64 g] 24)) (w.heap.size) x y d := by have h := (Box3.alloc (Box3.alloc (Box3.new w x y d) (.cells #[.int .i64 u, .int .i64 v, .int .i64 f] 24)) (.cells #[.int .i64 p, .int .i64 q, .int .i64 g] 24)); simpa using h
  replace B_a := Lib.hid B_a
  have B_b : Box3 (((w.alloc (.cells #[.int .i64 x, .int .i64 y, .int .i64 d] 24)).alloc (.cells #[.int .i64 u, .int .i64 v, .int .i64 f] 24)).alloc (.cells #[.int .i64 p, .int .i64 q, .int .i64 g] 24)) (w.heap.size + 1) u v f := by have h := (Box3.alloc (Box3.new (w.alloc (.cells #[.int .i64 x, .int .i64 y, .int .i64 d] 24)) u v f) (.cells #[.int .i64 p, .int .i64 q, .int .i64 g] 24)); simpa using h
  replace B_b := Lib.hid B_b
  have B_c : Box3 (((w.alloc (.cells #[.int .i64 x, .int .i64 y, .int .i64 d] 24)).alloc (.cells #[.int .i64 u, .int .i64 v, .int .i64 f] 24)).alloc (.cells #[.int .i64 p, .int .i64 q, .int .i64 g] 24)) (w.heap.size + 1 + 1) p q g := by have h := (Box3.new ((w.alloc (.cells #[.int .i64 x, .int .i64 y, .int .i64 d] 24)).alloc (.cells #[.int .i64 u, .int .i64 v, .int .i64 f] 24)) p q g); simpa using h
  replace B_c := Lib.hid B_c
  go_enter Try.func7, Try.ntmps7
  go_wp2_with fail
  generalize ((w.alloc (.cells #[.int .i64 x, .int .i64 y, .int .i64 d] 24)).alloc (.cells #[.int .i64 u, .int .i64 v, .int .i64 f] 24)).alloc (.cells #[.int .i64 p, .int .i64 q, .int .i64 g] 24) = W0 at *
  refine (HA.out _).mono ?_
  rintro e w1 ⟨rfl, bb⟩
  replace bb := nextw (w0 := W0) (by exact ⟨rfl, rfl, rfl, Nat.le_refl _, fun _ _ => rfl⟩) bb
  replace B_a := Lib.hid (Box3.below B_a.out bb B_a.out.lt)
  replace B_b := Lib.hid (Box3.below B_b.out bb B_b.out.lt)
  replace B_c := Lib.hid (Box3.below B_c.out bb B_c.out.lt)
  replace HB := Lib.hid (nextw HB.out bb)
  clear bb
  have c0a := B_a.out.c0
  have c1a := B_a.out.c1
  have c2a := B_a.out.c2
  have c0b := B_b.out.c0
  have c1b := B_b.out.c1
  have c2b := B_b.out.c2
  have c0c := B_c.out.c0
  have c1c := B_c.out.c1
  have c2c := B_c.out.c2
  go_wp2_with fail
  refine (HVa.out _).mono ?_
  clear c0a c1a c2a c0b c1b c2b c0c c1c c2c
  rintro e w2 ⟨rfl, bb⟩
  replace bb := nextw (w0 := w1) (by exact ⟨rfl, rfl, rfl, Nat.le_refl _, fun _ _ => rfl⟩) bb
  replace B_a := Lib.hid (Box3.below B_a.out bb B_a.out.lt)
  replace B_b := Lib.hid (Box3.below B_b.out bb B_b.out.lt)
  replace B_c := Lib.hid (Box3.below B_c.out bb B_c.out.lt)
  replace HB := Lib.hid (nextw HB.out bb)
  clear bb
  have c0a := B_a.out.c0
  have c1a := B_a.out.c1
  have c2a := B_a.out.c2
  have c0b := B_b.out.c0
  have c1b := B_b.out.c1
  have c2b := B_b.out.c2
  have c0c := B_c.out.c0
  have c1c := B_c.out.c1
  have c2c := B_c.out.c2
  go_wp2_with fail
  refine (HVb.out _).mono ?_
  clear c0a c1a c2a c0b c1b c2b c0c c1c c2c
  rintro e w3 ⟨rfl, bb⟩
  replace bb := nextw (w0 := w2) (by exact ⟨rfl, rfl, rfl, Nat.le_refl _, fun _ _ => rfl⟩) bb
  replace B_a := Lib.hid (Box3.below B_a.out bb B_a.out.lt)
  replace B_b := Lib.hid (Box3.below B_b.out bb B_b.out.lt)
  replace B_c := Lib.hid (Box3.below B_c.out bb B_c.out.lt)
  replace HB := Lib.hid (nextw HB.out bb)
  clear bb
  have c0a := B_a.out.c0
  have c1a := B_a.out.c1
  have c2a := B_a.out.c2
  have c0b := B_b.out.c0
  have c1b := B_b.out.c1
  have c2b := B_b.out.c2
  have c0c := B_c.out.c0
  have c1c := B_c.out.c1
  have c2c := B_c.out.c2
  go_wp2_with fail
  refine (HVc.out _).mono ?_
  clear c0a c1a c2a c0b c1b c2b c0c c1c c2c
  rintro e w4 ⟨rfl, bb⟩
  replace bb := nextw (w0 := w3) (by exact ⟨rfl, rfl, rfl, Nat.le_refl _, fun _ _ => rfl⟩) bb
  replace B_a := Lib.hid (Box3.below B_a.out bb B_a.out.lt)
  replace B_b := Lib.hid (Box3.below B_b.out bb B_b.out.lt)
  replace B_c := Lib.hid (Box3.below B_c.out bb B_c.out.lt)
  replace HB := Lib.hid (nextw HB.out bb)
  clear bb
  have c0a := B_a.out.c0
  have c1a := B_a.out.c1
  have c2a := B_a.out.c2
  have c0b := B_b.out.c0
  have c1b := B_b.out.c1
  have c2b := B_b.out.c2
  have c0c := B_c.out.c0
  have c1c := B_c.out.c1
  have c2c := B_c.out.c2
  go_wp2_with fail
  refine (HC.out _).mono ?_
  clear c0a c1a c2a c0b c1b c2b c0c c1c c2c
  rintro e w5 ⟨rfl, bb⟩
  replace bb := nextw (w0 := w4) (by exact ⟨rfl, rfl, rfl, Nat.le_refl _, fun _ _ => rfl⟩) bb
  replace B_a := Lib.hid (Box3.below B_a.out bb B_a.out.lt)
  replace B_b := Lib.hid (Box3.below B_b.out bb B_b.out.lt)
  replace B_c := Lib.hid (Box3.below B_c.out bb B_c.out.lt)
  replace HB := Lib.hid (nextw HB.out bb)
  clear bb
  have c0a := B_a.out.c0
  have c1a := B_a.out.c1
  have c2a := B_a.out.c2
  have c0b := B_b.out.c0
  have c1b := B_b.out.c1
  have c2b := B_b.out.c2
  have c0c := B_c.out.c0
  have c1c := B_c.out.c1
  have c2c := B_c.out.c2
  go_wp2_with fail
  refine (HNa.out _).mono ?_
  clear c0a c1a c2a c0b c1b c2b c0c c1c c2c
  rintro e w6 ⟨rfl, bb⟩
  replace bb := nextw (w0 := w5) (by exact ⟨rfl, rfl, rfl, Nat.le_refl _, fun _ _ => rfl⟩) bb
  replace B_a := Lib.hid (Box3.below B_a.out bb B_a.out.lt)
  replace B_b := Lib.hid (Box3.below B_b.out bb B_b.out.lt)
  replace B_c := Lib.hid (Box3.below B_c.out bb B_c.out.lt)
  replace HB := Lib.hid (nextw HB.out bb)
  clear bb
  have lt_Xa := B_a.out.lt
  have lt_Xb := B_b.out.lt
  have lt_Xc := B_c.out.lt
  have B_X := Lib.hid (Box3.new w6 lx ly ld)
  replace B_a := Lib.hid (Box3.alloc B_a.out (.cells #[.int .i64 lx, .int .i64 ly, .int .i64 ld] 24))
  replace B_b := Lib.hid (Box3.alloc B_b.out (.cells #[.int .i64 lx, .int .i64 ly, .int .i64 ld] 24))
  replace B_c := Lib.hid (Box3.alloc B_c.out (.cells #[.int .i64 lx, .int .i64 ly, .int .i64 ld] 24))
  replace HB := Lib.hid (nextw HB.out ((Below.refl w6.heap.size w6).alloc (Nat.le_refl _) (.cells #[.int .i64 lx, .int .i64 ly, .int .i64 ld] 24)))
  go_upto_region 5 with (fail)
  generalize w6.alloc (.cells #[.int .i64 lx, .int .i64 ly, .int .i64 ld] 24) = WX at *
  have c0a := B_a.out.c0
  have c1a := B_a.out.c1
  have c2a := B_a.out.c2
  have c0b := B_b.out.c0
  have c1b := B_b.out.c1
  have c2b := B_b.out.c2
  have c0c := B_c.out.c0
  have c1c := B_c.out.c1
  have c2c := B_c.out.c2
  go_wp2_with fail
  refine (HNb.out _).mono ?_
  clear c0a c1a c2a c0b c1b c2b c0c c1c c2c
  rintro e w7 ⟨rfl, bb⟩
  replace bb := nextw (w0 := WX) (by exact ⟨rfl, rfl, rfl, Nat.le_refl _, fun _ _ => rfl⟩) bb
  replace B_a := Lib.hid (Box3.below B_a.out bb B_a.out.lt)
  replace B_b := Lib.hid (Box3.below B_b.out bb B_b.out.lt)
  replace B_c := Lib.hid (Box3.below B_c.out bb B_c.out.lt)
  replace B_X := Lib.hid (Box3.below B_X.out bb B_X.out.lt)
  replace HB := Lib.hid (nextw HB.out bb)
  clear bb
  have lt_Ya := B_a.out.lt
  have lt_Yb := B_b.out.lt
  have lt_Yc := B_c.out.lt
  have lt_YX := B_X.out.lt
  have B_Y := Lib.hid (Box3.new w7 mx my md)
  replace B_a := Lib.hid (Box3.alloc B_a.out (.cells #[.int .i64 mx, .int .i64 my, .int .i64 md] 24))
  replace B_b := Lib.hid (Box3.alloc B_b.out (.cells #[.int .i64 mx, .int .i64 my, .int .i64 md] 24))
  replace B_c := Lib.hid (Box3.alloc B_c.out (.cells #[.int .i64 mx, .int .i64 my, .int .i64 md] 24))
  replace B_X := Lib.hid (Box3.alloc B_X.out (.cells #[.int .i64 mx, .int .i64 my, .int .i64 md] 24))
  replace HB := Lib.hid (nextw HB.out ((Below.refl w7.heap.size w7).alloc (Nat.le_refl _) (.cells #[.int .i64 mx, .int .i64 my, .int .i64 md] 24)))
  go_upto_region 6 with (fail)
  generalize w7.alloc (.cells #[.int .i64 mx, .int .i64 my, .int .i64 md] 24) = WY at *
  clear HA HVa HVb HVc HC HNa HNb
  have c0a := B_a.out.c0
  have c1a := B_a.out.c1
  have c2a := B_a.out.c2
  have c0b := B_b.out.c0
  have c1b := B_b.out.c1
  have c2b := B_b.out.c2
  have c0c := B_c.out.c0
  have c1c := B_c.out.c1
  have c2c := B_c.out.c2
  have c0X := B_X.out.c0
  have c1X := B_X.out.c1
  have c2X := B_X.out.c2
  have c0Y := B_Y.out.c0
  have c1Y := B_Y.out.c1
  have c2Y := B_Y.out.c2
  go_wp2_with fail
  refine (HD.out _).mono ?_
  clear c0a c1a c2a c0b c1b c2b c0c c1c c2c c0X c1X c2X c0Y c1Y c2Y
  rintro e w8 ⟨rfl, bb⟩
  replace bb := nextw (w0 := WY) (by exact ⟨rfl, rfl, rfl, Nat.le_refl _, fun _ _ => rfl⟩) bb
  replace B_a := Lib.hid (Box3.below B_a.out bb B_a.out.lt)
  replace B_b := Lib.hid (Box3.below B_b.out bb B_b.out.lt)
  replace B_c := Lib.hid (Box3.below B_c.out bb B_c.out.lt)
  replace B_X := Lib.hid (Box3.below B_X.out bb B_X.out.lt)
  replace B_Y := Lib.hid (Box3.below B_Y.out bb B_Y.out.lt)
  replace HB := Lib.hid (nextw HB.out bb)
  clear bb
  have c0a := B_a.out.c0
  have c1a := B_a.out.c1
  have c2a := B_a.out.c2
  have c0b := B_b.out.c0
  have c1b := B_b.out.c1
  have c2b := B_b.out.c2
  have c0c := B_c.out.c0
  have c1c := B_c.out.c1
  have c2c := B_c.out.c2
  have c0X := B_X.out.c0
  have c1X := B_X.out.c1
  have c2X := B_X.out.c2
  have c0Y := B_Y.out.c0
  have c1Y := B_Y.out.c1
  have c2Y := B_Y.out.c2
  go_wp2_with fail
  refine (HL.out _).mono ?_
  clear c0a c1a c2a c0b c1b c2b c0c c1c c2c c0X c1X c2X c0Y c1Y c2Y
  rintro e w9 ⟨rfl, bb⟩
  replace bb := nextw (w0 := w8) (by exact ⟨rfl, rfl, rfl, Nat.le_refl _, fun _ _ => rfl⟩) bb
  replace B_a := Lib.hid (Box3.below B_a.out bb B_a.out.lt)
  replace B_b := Lib.hid (Box3.below B_b.out bb B_b.out.lt)
  replace B_c := Lib.hid (Box3.below B_c.out bb B_c.out.lt)
  replace B_X := Lib.hid (Box3.below B_X.out bb B_X.out.lt)
  replace B_Y := Lib.hid (Box3.below B_Y.out bb B_Y.out.lt)
  replace HB := Lib.hid (nextw HB.out bb)
  clear bb
  have c0a := B_a.out.c0
  have c1a := B_a.out.c1
  have c2a := B_a.out.c2
  have c0b := B_b.out.c0
  have c1b := B_b.out.c1
  have c2b := B_b.out.c2
  have c0c := B_c.out.c0
  have c1c := B_c.out.c1
  have c2c := B_c.out.c2
  have c0X := B_X.out.c0
  have c1X := B_X.out.c1
  have c2X := B_X.out.c2
  have c0Y := B_Y.out.c0
  have c1Y := B_Y.out.c1
  have c2Y := B_Y.out.c2
  go_wp2_with fail
  refine (HE.out _).mono ?_
  clear c0a c1a c2a c0b c1b c2b c0c c1c c2c c0X c1X c2X c0Y c1Y c2Y
  rintro e w10 ⟨rfl, bb⟩
  replace bb := nextw (w0 := w9) (by exact ⟨rfl, rfl, rfl, Nat.le_refl _, fun _ _ => rfl⟩) bb
  replace B_a := Lib.hid (Box3.below B_a.out bb B_a.out.lt)
  replace B_b := Lib.hid (Box3.below B_b.out bb B_b.out.lt)
  replace B_c := Lib.hid (Box3.below B_c.out bb B_c.out.lt)
  replace B_X := Lib.hid (Box3.below B_X.out bb B_X.out.lt)
  replace B_Y := Lib.hid (Box3.below B_Y.out bb B_Y.out.lt)
  replace HB := Lib.hid (nextw HB.out bb)
  clear bb
  have c0a := B_a.out.c0
  have c1a := B_a.out.c1
  have c2a := B_a.out.c2
  have c0b := B_b.out.c0
  have c1b := B_b.out.c1
  have c2b := B_b.out.c2
  have c0c := B_c.out.c0
  have c1c := B_c.out.c1
  have c2c := B_c.out.c2
  have c0X := B_X.out.c0
  have c1X := B_X.out.c1
  have c2X := B_X.out.c2
  have c0Y := B_Y.out.c0
  have c1Y := B_Y.out.c1
  have c2Y := B_Y.out.c2
  clear c0a c1a c2a c0b c1b c2b c0c c1c c2c c0X c1X c2X c0Y c1Y c2Y
  go_wp2
  go_ret
  exact ⟨rfl, nextw HB.out (by exact ⟨rfl, rfl, rfl, Nat.le_refl _, fun _ _ => rfl⟩)⟩

set_option maxRecDepth 100000 in
set_option maxHeartbeats 4000000 in
theorem Cs_r1 (a b c : V3) (lx ly ld mx my md : Int) (ha : Ok a) (hb : Ok b) (hc : Ok c) (hL : low a.x a.y a.d = ⟨lx, ly, ld⟩) (hM : low b.x b.y b.d = ⟨mx, my, md⟩) (n : Int) (hab : cmpV a b = n) (hba : cmpV b a = -n) (n0 : (n == 0) = false) (n1 : -1 ≤ n) (n2 : n ≤ 1) (hne : (lx == mx) = false) (n3 : n ≤ 0) (m r : Int) (hbc : cmpV b c = m) (m0 : m ≤ 0) (hac : cmpV a c = r) (r0 : r ≤ 0)  (w : World) :
    Calls Try.prog 7 #[vv a, vv b, vv c] w fun e w' => e = .returned (.bool true) ∧ Below w.heap.size w w' := by
  have HA := Lib.hid (fun w => awake_any w)
  have HVa := Lib.hid (fun w => BV_yes a ha w)
  have HVb := Lib.hid (fun w => BV_yes b hb w)
  have HVc := Lib.hid (fun w => BV_yes c hc w)
  have HC := Lib.hid (fun w => Cmp_at ha hb hab w)
  have HD := Lib.hid (fun w => Cmp_at hb ha hba w)
  have hl := cmpV_low ha
  have hLo : Ok (low a.x a.y a.d) := Ok.low ha.lo ha.eq (by have := low_le (x := a.x) (y := a.y) ha.lo; have := ha.hi; omega)
  rw [hL] at hl hLo
  have HL := Lib.hid (fun w => Cmp_at ha hLo hl w)
  have HNa := Lib.hid (fun w => Norm_at ha hL w)
  have HNb := Lib.hid (fun w => Norm_at hb hM w)
  have HE := Lib.hid (fun w => Cmp_at hb hc hbc w)
  have HF := Lib.hid (fun w => Cmp_at ha hc hac w)
  obtain ⟨x, y, d⟩ := a
  obtain ⟨u, v, f⟩ := b
  obtain ⟨p, q, g⟩ := c
  clear ha hb hc hab hba hl hLo hL hM hbc hac
  have HB := Lib.hid (show Below w.heap.size w (((w.alloc (.cells #[.int .i64 x, .int .i64 y, .int .i64 d] 24)).alloc (.cells #[.int .i64 u, .int .i64 v, .int .i64 f] 24)).alloc (.cells #[.int .i64 p, .int .i64 q, .int .i64 g] 24)) from ((((Below.refl _ _).alloc (by simp <;> omega) _).alloc (by simp <;> omega) _).alloc (by simp <;> omega) _))
  have B_a : Box3 (((w.alloc (.cells #[.int .i64 x, .int .i64 y, .int .i64 d] 24)).alloc (.cells #[.int .i64 u, .int .i64 v, .int .i64 f] 24)).alloc (.cells #[.int .i64 p, .int .i64 q, .int .i64 g] 24)) (w.heap.size) x y d := by have h := (Box3.alloc (Box3.alloc (Box3.new w x y d) (.cells #[.int .i64 u, .int .i64 v, .int .i64 f] 24)) (.cells #[.int .i64 p, .int .i64 q, .int .i64 g] 24)); simpa using h
  replace B_a := Lib.hid B_a
  have B_b : Box3 (((w.alloc (.cells #[.int .i64 x, .int .i64 y, .int .i64 d] 24)).alloc (.cells #[.int .i64 u, .int .i64 v, .int .i64 f] 24)).alloc (.cells #[.int .i64 p, .int .i64 q, .int .i64 g] 24)) (w.heap.size + 1) u v f := by have h := (Box3.alloc (Box3.new (w.alloc (.cells #[.int .i64 x, .int .i64 y, .int .i64 d] 24)) u v f) (.cells #[.int .i64 p, .int .i64 q, .int .i64 g] 24)); simpa using h
  replace B_b := Lib.hid B_b
  have B_c : Box3 (((w.alloc (.cells #[.int .i64 x, .int .i64 y, .int .i64 d] 24)).alloc (.cells #[.int .i64 u, .int .i64 v, .int .i64 f] 24)).alloc (.cells #[.int .i64 p, .int .i64 q, .int .i64 g] 24)) (w.heap.size + 1 + 1) p q g := by have h := (Box3.new ((w.alloc (.cells #[.int .i64 x, .int .i64 y, .int .i64 d] 24)).alloc (.cells #[.int .i64 u, .int .i64 v, .int .i64 f] 24)) p q g); simpa using h
  replace B_c := Lib.hid B_c
  go_enter Try.func7, Try.ntmps7
  go_wp2_with fail
  generalize ((w.alloc (.cells #[.int .i64 x, .int .i64 y, .int .i64 d] 24)).alloc (.cells #[.int .i64 u, .int .i64 v, .int .i64 f] 24)).alloc (.cells #[.int .i64 p, .int .i64 q, .int .i64 g] 24) = W0 at *
  refine (HA.out _).mono ?_
  rintro e w1 ⟨rfl, bb⟩
  replace bb := nextw (w0 := W0) (by exact ⟨rfl, rfl, rfl, Nat.le_refl _, fun _ _ => rfl⟩) bb
  replace B_a := Lib.hid (Box3.below B_a.out bb B_a.out.lt)
  replace B_b := Lib.hid (Box3.below B_b.out bb B_b.out.lt)
  replace B_c := Lib.hid (Box3.below B_c.out bb B_c.out.lt)
  replace HB := Lib.hid (nextw HB.out bb)
  clear bb
  have c0a := B_a.out.c0
  have c1a := B_a.out.c1
  have c2a := B_a.out.c2
  have c0b := B_b.out.c0
  have c1b := B_b.out.c1
  have c2b := B_b.out.c2
  have c0c := B_c.out.c0
  have c1c := B_c.out.c1
  have c2c := B_c.out.c2
  go_wp2_with fail
  refine (HVa.out _).mono ?_
  clear c0a c1a c2a c0b c1b c2b c0c c1c c2c
  rintro e w2 ⟨rfl, bb⟩
  replace bb := nextw (w0 := w1) (by exact ⟨rfl, rfl, rfl, Nat.le_refl _, fun _ _ => rfl⟩) bb
  replace B_a := Lib.hid (Box3.below B_a.out bb B_a.out.lt)
  replace B_b := Lib.hid (Box3.below B_b.out bb B_b.out.lt)
  replace B_c := Lib.hid (Box3.below B_c.out bb B_c.out.lt)
  replace HB := Lib.hid (nextw HB.out bb)
  clear bb
  have c0a := B_a.out.c0
  have c1a := B_a.out.c1
  have c2a := B_a.out.c2
  have c0b := B_b.out.c0
  have c1b := B_b.out.c1
  have c2b := B_b.out.c2
  have c0c := B_c.out.c0
  have c1c := B_c.out.c1
  have c2c := B_c.out.c2
  go_wp2_with fail
  refine (HVb.out _).mono ?_
  clear c0a c1a c2a c0b c1b c2b c0c c1c c2c
  rintro e w3 ⟨rfl, bb⟩
  replace bb := nextw (w0 := w2) (by exact ⟨rfl, rfl, rfl, Nat.le_refl _, fun _ _ => rfl⟩) bb
  replace B_a := Lib.hid (Box3.below B_a.out bb B_a.out.lt)
  replace B_b := Lib.hid (Box3.below B_b.out bb B_b.out.lt)
  replace B_c := Lib.hid (Box3.below B_c.out bb B_c.out.lt)
  replace HB := Lib.hid (nextw HB.out bb)
  clear bb
  have c0a := B_a.out.c0
  have c1a := B_a.out.c1
  have c2a := B_a.out.c2
  have c0b := B_b.out.c0
  have c1b := B_b.out.c1
  have c2b := B_b.out.c2
  have c0c := B_c.out.c0
  have c1c := B_c.out.c1
  have c2c := B_c.out.c2
  go_wp2_with fail
  refine (HVc.out _).mono ?_
  clear c0a c1a c2a c0b c1b c2b c0c c1c c2c
  rintro e w4 ⟨rfl, bb⟩
  replace bb := nextw (w0 := w3) (by exact ⟨rfl, rfl, rfl, Nat.le_refl _, fun _ _ => rfl⟩) bb
  replace B_a := Lib.hid (Box3.below B_a.out bb B_a.out.lt)
  replace B_b := Lib.hid (Box3.below B_b.out bb B_b.out.lt)
  replace B_c := Lib.hid (Box3.below B_c.out bb B_c.out.lt)
  replace HB := Lib.hid (nextw HB.out bb)
  clear bb
  have c0a := B_a.out.c0
  have c1a := B_a.out.c1
  have c2a := B_a.out.c2
  have c0b := B_b.out.c0
  have c1b := B_b.out.c1
  have c2b := B_b.out.c2
  have c0c := B_c.out.c0
  have c1c := B_c.out.c1
  have c2c := B_c.out.c2
  go_wp2_with fail
  refine (HC.out _).mono ?_
  clear c0a c1a c2a c0b c1b c2b c0c c1c c2c
  rintro e w5 ⟨rfl, bb⟩
  replace bb := nextw (w0 := w4) (by exact ⟨rfl, rfl, rfl, Nat.le_refl _, fun _ _ => rfl⟩) bb
  replace B_a := Lib.hid (Box3.below B_a.out bb B_a.out.lt)
  replace B_b := Lib.hid (Box3.below B_b.out bb B_b.out.lt)
  replace B_c := Lib.hid (Box3.below B_c.out bb B_c.out.lt)
  replace HB := Lib.hid (nextw HB.out bb)
  clear bb
  have c0a := B_a.out.c0
  have c1a := B_a.out.c1
  have c2a := B_a.out.c2
  have c0b := B_b.out.c0
  have c1b := B_b.out.c1
  have c2b := B_b.out.c2
  have c0c := B_c.out.c0
  have c1c := B_c.out.c1
  have c2c := B_c.out.c2
  go_wp2_with fail
  refine (HNa.out _).mono ?_
  clear c0a c1a c2a c0b c1b c2b c0c c1c c2c
  rintro e w6 ⟨rfl, bb⟩
  replace bb := nextw (w0 := w5) (by exact ⟨rfl, rfl, rfl, Nat.le_refl _, fun _ _ => rfl⟩) bb
  replace B_a := Lib.hid (Box3.below B_a.out bb B_a.out.lt)
  replace B_b := Lib.hid (Box3.below B_b.out bb B_b.out.lt)
  replace B_c := Lib.hid (Box3.below B_c.out bb B_c.out.lt)
  replace HB := Lib.hid (nextw HB.out bb)
  clear bb
  have lt_Xa := B_a.out.lt
  have lt_Xb := B_b.out.lt
  have lt_Xc := B_c.out.lt
  have B_X := Lib.hid (Box3.new w6 lx ly ld)
  replace B_a := Lib.hid (Box3.alloc B_a.out (.cells #[.int .i64 lx, .int .i64 ly, .int .i64 ld] 24))
  replace B_b := Lib.hid (Box3.alloc B_b.out (.cells #[.int .i64 lx, .int .i64 ly, .int .i64 ld] 24))
  replace B_c := Lib.hid (Box3.alloc B_c.out (.cells #[.int .i64 lx, .int .i64 ly, .int .i64 ld] 24))
  replace HB := Lib.hid (nextw HB.out ((Below.refl w6.heap.size w6).alloc (Nat.le_refl _) (.cells #[.int .i64 lx, .int .i64 ly, .int .i64 ld] 24)))
  go_upto_region 5 with (fail)
  generalize w6.alloc (.cells #[.int .i64 lx, .int .i64 ly, .int .i64 ld] 24) = WX at *
  have c0a := B_a.out.c0
  have c1a := B_a.out.c1
  have c2a := B_a.out.c2
  have c0b := B_b.out.c0
  have c1b := B_b.out.c1
  have c2b := B_b.out.c2
  have c0c := B_c.out.c0
  have c1c := B_c.out.c1
  have c2c := B_c.out.c2
  go_wp2_with fail
  refine (HNb.out _).mono ?_
  clear c0a c1a c2a c0b c1b c2b c0c c1c c2c
  rintro e w7 ⟨rfl, bb⟩
  replace bb := nextw (w0 := WX) (by exact ⟨rfl, rfl, rfl, Nat.le_refl _, fun _ _ => rfl⟩) bb
  replace B_a := Lib.hid (Box3.below B_a.out bb B_a.out.lt)
  replace B_b := Lib.hid (Box3.below B_b.out bb B_b.out.lt)
  replace B_c := Lib.hid (Box3.below B_c.out bb B_c.out.lt)
  replace B_X := Lib.hid (Box3.below B_X.out bb B_X.out.lt)
  replace HB := Lib.hid (nextw HB.out bb)
  clear bb
  have lt_Ya := B_a.out.lt
  have lt_Yb := B_b.out.lt
  have lt_Yc := B_c.out.lt
  have lt_YX := B_X.out.lt
  have B_Y := Lib.hid (Box3.new w7 mx my md)
  replace B_a := Lib.hid (Box3.alloc B_a.out (.cells #[.int .i64 mx, .int .i64 my, .int .i64 md] 24))
  replace B_b := Lib.hid (Box3.alloc B_b.out (.cells #[.int .i64 mx, .int .i64 my, .int .i64 md] 24))
  replace B_c := Lib.hid (Box3.alloc B_c.out (.cells #[.int .i64 mx, .int .i64 my, .int .i64 md] 24))
  replace B_X := Lib.hid (Box3.alloc B_X.out (.cells #[.int .i64 mx, .int .i64 my, .int .i64 md] 24))
  replace HB := Lib.hid (nextw HB.out ((Below.refl w7.heap.size w7).alloc (Nat.le_refl _) (.cells #[.int .i64 mx, .int .i64 my, .int .i64 md] 24)))
  go_upto_region 6 with (fail)
  generalize w7.alloc (.cells #[.int .i64 mx, .int .i64 my, .int .i64 md] 24) = WY at *
  clear HA HVa HVb HVc HC HNa HNb
  have c0a := B_a.out.c0
  have c1a := B_a.out.c1
  have c2a := B_a.out.c2
  have c0b := B_b.out.c0
  have c1b := B_b.out.c1
  have c2b := B_b.out.c2
  have c0c := B_c.out.c0
  have c1c := B_c.out.c1
  have c2c := B_c.out.c2
  have c0X := B_X.out.c0
  have c1X := B_X.out.c1
  have c2X := B_X.out.c2
  have c0Y := B_Y.out.c0
  have c1Y := B_Y.out.c1
  have c2Y := B_Y.out.c2
  go_wp2_with fail
  refine (HD.out _).mono ?_
  clear c0a c1a c2a c0b c1b c2b c0c c1c c2c c0X c1X c2X c0Y c1Y c2Y
  rintro e w8 ⟨rfl, bb⟩
  replace bb := nextw (w0 := WY) (by exact ⟨rfl, rfl, rfl, Nat.le_refl _, fun _ _ => rfl⟩) bb
  replace B_a := Lib.hid (Box3.below B_a.out bb B_a.out.lt)
  replace B_b := Lib.hid (Box3.below B_b.out bb B_b.out.lt)
  replace B_c := Lib.hid (Box3.below B_c.out bb B_c.out.lt)
  replace B_X := Lib.hid (Box3.below B_X.out bb B_X.out.lt)
  replace B_Y := Lib.hid (Box3.below B_Y.out bb B_Y.out.lt)
  replace HB := Lib.hid (nextw HB.out bb)
  clear bb
  have c0a := B_a.out.c0
  have c1a := B_a.out.c1
  have c2a := B_a.out.c2
  have c0b := B_b.out.c0
  have c1b := B_b.out.c1
  have c2b := B_b.out.c2
  have c0c := B_c.out.c0
  have c1c := B_c.out.c1
  have c2c := B_c.out.c2
  have c0X := B_X.out.c0
  have c1X := B_X.out.c1
  have c2X := B_X.out.c2
  have c0Y := B_Y.out.c0
  have c1Y := B_Y.out.c1
  have c2Y := B_Y.out.c2
  go_wp2_with fail
  refine (HL.out _).mono ?_
  clear c0a c1a c2a c0b c1b c2b c0c c1c c2c c0X c1X c2X c0Y c1Y c2Y
  rintro e w9 ⟨rfl, bb⟩
  replace bb := nextw (w0 := w8) (by exact ⟨rfl, rfl, rfl, Nat.le_refl _, fun _ _ => rfl⟩) bb
  replace B_a := Lib.hid (Box3.below B_a.out bb B_a.out.lt)
  replace B_b := Lib.hid (Box3.below B_b.out bb B_b.out.lt)
  replace B_c := Lib.hid (Box3.below B_c.out bb B_c.out.lt)
  replace B_X := Lib.hid (Box3.below B_X.out bb B_X.out.lt)
  replace B_Y := Lib.hid (Box3.below B_Y.out bb B_Y.out.lt)
  replace HB := Lib.hid (nextw HB.out bb)
  clear bb
  have c0a := B_a.out.c0
  have c1a := B_a.out.c1
  have c2a := B_a.out.c2
  have c0b := B_b.out.c0
  have c1b := B_b.out.c1
  have c2b := B_b.out.c2
  have c0c := B_c.out.c0
  have c1c := B_c.out.c1
  have c2c := B_c.out.c2
  have c0X := B_X.out.c0
  have c1X := B_X.out.c1
  have c2X := B_X.out.c2
  have c0Y := B_Y.out.c0
  have c1Y := B_Y.out.c1
  have c2Y := B_Y.out.c2
  go_wp2_with fail
  refine (HE.out _).mono ?_
  clear c0a c1a c2a c0b c1b c2b c0c c1c c2c c0X c1X c2X c0Y c1Y c2Y
  rintro e w10 ⟨rfl, bb⟩
  replace bb := nextw (w0 := w9) (by exact ⟨rfl, rfl, rfl, Nat.le_refl _, fun _ _ => rfl⟩) bb
  replace B_a := Lib.hid (Box3.below B_a.out bb B_a.out.lt)
  replace B_b := Lib.hid (Box3.below B_b.out bb B_b.out.lt)
  replace B_c := Lib.hid (Box3.below B_c.out bb B_c.out.lt)
  replace B_X := Lib.hid (Box3.below B_X.out bb B_X.out.lt)
  replace B_Y := Lib.hid (Box3.below B_Y.out bb B_Y.out.lt)
  replace HB := Lib.hid (nextw HB.out bb)
  clear bb
  have c0a := B_a.out.c0
  have c1a := B_a.out.c1
  have c2a := B_a.out.c2
  have c0b := B_b.out.c0
  have c1b := B_b.out.c1
  have c2b := B_b.out.c2
  have c0c := B_c.out.c0
  have c1c := B_c.out.c1
  have c2c := B_c.out.c2
  have c0X := B_X.out.c0
  have c1X := B_X.out.c1
  have c2X := B_X.out.c2
  have c0Y := B_Y.out.c0
  have c1Y := B_Y.out.c1
  have c2Y := B_Y.out.c2
  go_wp2_with fail
  refine (HF.out _).mono ?_
  clear c0a c1a c2a c0b c1b c2b c0c c1c c2c c0X c1X c2X c0Y c1Y c2Y
  rintro e w11 ⟨rfl, bb⟩
  replace bb := nextw (w0 := w10) (by exact ⟨rfl, rfl, rfl, Nat.le_refl _, fun _ _ => rfl⟩) bb
  replace B_a := Lib.hid (Box3.below B_a.out bb B_a.out.lt)
  replace B_b := Lib.hid (Box3.below B_b.out bb B_b.out.lt)
  replace B_c := Lib.hid (Box3.below B_c.out bb B_c.out.lt)
  replace B_X := Lib.hid (Box3.below B_X.out bb B_X.out.lt)
  replace B_Y := Lib.hid (Box3.below B_Y.out bb B_Y.out.lt)
  replace HB := Lib.hid (nextw HB.out bb)
  clear bb
  go_wp2
  go_ret
  exact ⟨rfl, nextw HB.out (by exact ⟨rfl, rfl, rfl, Nat.le_refl _, fun _ _ => rfl⟩)⟩

set_option maxRecDepth 100000 in
set_option maxHeartbeats 4000000 in
theorem Cs_gt2 (a b c : V3) (lx ly ld my md : Int) (ha : Ok a) (hb : Ok b) (hc : Ok c) (hL : low a.x a.y a.d = ⟨lx, ly, ld⟩) (hM : low b.x b.y b.d = ⟨lx, my, md⟩) (n : Int) (hab : cmpV a b = n) (hba : cmpV b a = -n) (n0 : (n == 0) = false) (n1 : -1 ≤ n) (n2 : n ≤ 1) (hne : (ly == my) = false) (n3 : 0 < n)  (w : World) :
    Calls Try.prog 7 #[vv a, vv b, vv c] w fun e w' => e = .returned (.bool true) ∧ Below w.heap.size w w' := by
  have HA := Lib.hid (fun w => awake_any w)
  have HVa := Lib.hid (fun w => BV_yes a ha w)
  have HVb := Lib.hid (fun w => BV_yes b hb w)
  have HVc := Lib.hid (fun w => BV_yes c hc w)
  have HC := Lib.hid (fun w => Cmp_at ha hb hab w)
  have HD := Lib.hid (fun w => Cmp_at hb ha hba w)
  have hl := cmpV_low ha
  have hLo : Ok (low a.x a.y a.d) := Ok.low ha.lo ha.eq (by have := low_le (x := a.x) (y := a.y) ha.lo; have := ha.hi; omega)
  rw [hL] at hl hLo
  have HL := Lib.hid (fun w => Cmp_at ha hLo hl w)
  have HNa := Lib.hid (fun w => Norm_at ha hL w)
  have HNb := Lib.hid (fun w => Norm_at hb hM w)
  obtain ⟨x, y, d⟩ := a
  obtain ⟨u, v, f⟩ := b
  obtain ⟨p, q, g⟩ := c
  clear ha hb hc hab hba hl hLo hL hM
  have HB := Lib.hid (show Below w.heap.size w (((w.alloc (.cells #[.int .i64 x, .int .i64 y, .int .i64 d] 24)).alloc (.cells #[.int .i64 u, .int .i64 v, .int .i64 f] 24)).alloc (.cells #[.int .i64 p, .int .i64 q, .int .i64 g] 24)) from ((((Below.refl _ _).alloc (by simp <;> omega) _).alloc (by simp <;> omega) _).alloc (by simp <;> omega) _))
  have B_a : Box3 (((w.alloc (.cells #[.int .i64 x, .int .i64 y, .int .i64 d] 24)).alloc (.cells #[.int .i64 u, .int .i64 v, .int .i64 f] 24)).alloc (.cells #[.int .i64 p, .int .i64 q, .int .i64 g] 24)) (w.heap.size) x y d := by have h := (Box3.alloc (Box3.alloc (Box3.new w x y d) (.cells #[.int .i64 u, .int .i64 v, .int .i64 f] 24)) (.cells #[.int .i64 p, .int .i64 q, .int .i64 g] 24)); simpa using h
  replace B_a := Lib.hid B_a
  have B_b : Box3 (((w.alloc (.cells #[.int .i64 x, .int .i64 y, .int .i64 d] 24)).alloc (.cells #[.int .i64 u, .int .i64 v, .int .i64 f] 24)).alloc (.cells #[.int .i64 p, .int .i64 q, .int .i64 g] 24)) (w.heap.size + 1) u v f := by have h := (Box3.alloc (Box3.new (w.alloc (.cells #[.int .i64 x, .int .i64 y, .int .i64 d] 24)) u v f) (.cells #[.int .i64 p, .int .i64 q, .int .i64 g] 24)); simpa using h
  replace B_b := Lib.hid B_b
  have B_c : Box3 (((w.alloc (.cells #[.int .i64 x, .int .i64 y, .int .i64 d] 24)).alloc (.cells #[.int .i64 u, .int .i64 v, .int .i64 f] 24)).alloc (.cells #[.int .i64 p, .int .i64 q, .int .i64 g] 24)) (w.heap.size + 1 + 1) p q g := by have h := (Box3.new ((w.alloc (.cells #[.int .i64 x, .int .i64 y, .int .i64 d] 24)).alloc (.cells #[.int .i64 u, .int .i64 v, .int .i64 f] 24)) p q g); simpa using h
  replace B_c := Lib.hid B_c
  go_enter Try.func7, Try.ntmps7
  go_wp2_with fail
  generalize ((w.alloc (.cells #[.int .i64 x, .int .i64 y, .int .i64 d] 24)).alloc (.cells #[.int .i64 u, .int .i64 v, .int .i64 f] 24)).alloc (.cells #[.int .i64 p, .int .i64 q, .int .i64 g] 24) = W0 at *
  refine (HA.out _).mono ?_
  rintro e w1 ⟨rfl, bb⟩
  replace bb := nextw (w0 := W0) (by exact ⟨rfl, rfl, rfl, Nat.le_refl _, fun _ _ => rfl⟩) bb
  replace B_a := Lib.hid (Box3.below B_a.out bb B_a.out.lt)
  replace B_b := Lib.hid (Box3.below B_b.out bb B_b.out.lt)
  replace B_c := Lib.hid (Box3.below B_c.out bb B_c.out.lt)
  replace HB := Lib.hid (nextw HB.out bb)
  clear bb
  have c0a := B_a.out.c0
  have c1a := B_a.out.c1
  have c2a := B_a.out.c2
  have c0b := B_b.out.c0
  have c1b := B_b.out.c1
  have c2b := B_b.out.c2
  have c0c := B_c.out.c0
  have c1c := B_c.out.c1
  have c2c := B_c.out.c2
  go_wp2_with fail
  refine (HVa.out _).mono ?_
  clear c0a c1a c2a c0b c1b c2b c0c c1c c2c
  rintro e w2 ⟨rfl, bb⟩
  replace bb := nextw (w0 := w1) (by exact ⟨rfl, rfl, rfl, Nat.le_refl _, fun _ _ => rfl⟩) bb
  replace B_a := Lib.hid (Box3.below B_a.out bb B_a.out.lt)
  replace B_b := Lib.hid (Box3.below B_b.out bb B_b.out.lt)
  replace B_c := Lib.hid (Box3.below B_c.out bb B_c.out.lt)
  replace HB := Lib.hid (nextw HB.out bb)
  clear bb
  have c0a := B_a.out.c0
  have c1a := B_a.out.c1
  have c2a := B_a.out.c2
  have c0b := B_b.out.c0
  have c1b := B_b.out.c1
  have c2b := B_b.out.c2
  have c0c := B_c.out.c0
  have c1c := B_c.out.c1
  have c2c := B_c.out.c2
  go_wp2_with fail
  refine (HVb.out _).mono ?_
  clear c0a c1a c2a c0b c1b c2b c0c c1c c2c
  rintro e w3 ⟨rfl, bb⟩
  replace bb := nextw (w0 := w2) (by exact ⟨rfl, rfl, rfl, Nat.le_refl _, fun _ _ => rfl⟩) bb
  replace B_a := Lib.hid (Box3.below B_a.out bb B_a.out.lt)
  replace B_b := Lib.hid (Box3.below B_b.out bb B_b.out.lt)
  replace B_c := Lib.hid (Box3.below B_c.out bb B_c.out.lt)
  replace HB := Lib.hid (nextw HB.out bb)
  clear bb
  have c0a := B_a.out.c0
  have c1a := B_a.out.c1
  have c2a := B_a.out.c2
  have c0b := B_b.out.c0
  have c1b := B_b.out.c1
  have c2b := B_b.out.c2
  have c0c := B_c.out.c0
  have c1c := B_c.out.c1
  have c2c := B_c.out.c2
  go_wp2_with fail
  refine (HVc.out _).mono ?_
  clear c0a c1a c2a c0b c1b c2b c0c c1c c2c
  rintro e w4 ⟨rfl, bb⟩
  replace bb := nextw (w0 := w3) (by exact ⟨rfl, rfl, rfl, Nat.le_refl _, fun _ _ => rfl⟩) bb
  replace B_a := Lib.hid (Box3.below B_a.out bb B_a.out.lt)
  replace B_b := Lib.hid (Box3.below B_b.out bb B_b.out.lt)
  replace B_c := Lib.hid (Box3.below B_c.out bb B_c.out.lt)
  replace HB := Lib.hid (nextw HB.out bb)
  clear bb
  have c0a := B_a.out.c0
  have c1a := B_a.out.c1
  have c2a := B_a.out.c2
  have c0b := B_b.out.c0
  have c1b := B_b.out.c1
  have c2b := B_b.out.c2
  have c0c := B_c.out.c0
  have c1c := B_c.out.c1
  have c2c := B_c.out.c2
  go_wp2_with fail
  refine (HC.out _).mono ?_
  clear c0a c1a c2a c0b c1b c2b c0c c1c c2c
  rintro e w5 ⟨rfl, bb⟩
  replace bb := nextw (w0 := w4) (by exact ⟨rfl, rfl, rfl, Nat.le_refl _, fun _ _ => rfl⟩) bb
  replace B_a := Lib.hid (Box3.below B_a.out bb B_a.out.lt)
  replace B_b := Lib.hid (Box3.below B_b.out bb B_b.out.lt)
  replace B_c := Lib.hid (Box3.below B_c.out bb B_c.out.lt)
  replace HB := Lib.hid (nextw HB.out bb)
  clear bb
  have c0a := B_a.out.c0
  have c1a := B_a.out.c1
  have c2a := B_a.out.c2
  have c0b := B_b.out.c0
  have c1b := B_b.out.c1
  have c2b := B_b.out.c2
  have c0c := B_c.out.c0
  have c1c := B_c.out.c1
  have c2c := B_c.out.c2
  go_wp2_with fail
  refine (HNa.out _).mono ?_
  clear c0a c1a c2a c0b c1b c2b c0c c1c c2c
  rintro e w6 ⟨rfl, bb⟩
  replace bb := nextw (w0 := w5) (by exact ⟨rfl, rfl, rfl, Nat.le_refl _, fun _ _ => rfl⟩) bb
  replace B_a := Lib.hid (Box3.below B_a.out bb B_a.out.lt)
  replace B_b := Lib.hid (Box3.below B_b.out bb B_b.out.lt)
  replace B_c := Lib.hid (Box3.below B_c.out bb B_c.out.lt)
  replace HB := Lib.hid (nextw HB.out bb)
  clear bb
  have lt_Xa := B_a.out.lt
  have lt_Xb := B_b.out.lt
  have lt_Xc := B_c.out.lt
  have B_X := Lib.hid (Box3.new w6 lx ly ld)
  replace B_a := Lib.hid (Box3.alloc B_a.out (.cells #[.int .i64 lx, .int .i64 ly, .int .i64 ld] 24))
  replace B_b := Lib.hid (Box3.alloc B_b.out (.cells #[.int .i64 lx, .int .i64 ly, .int .i64 ld] 24))
  replace B_c := Lib.hid (Box3.alloc B_c.out (.cells #[.int .i64 lx, .int .i64 ly, .int .i64 ld] 24))
  replace HB := Lib.hid (nextw HB.out ((Below.refl w6.heap.size w6).alloc (Nat.le_refl _) (.cells #[.int .i64 lx, .int .i64 ly, .int .i64 ld] 24)))
  go_upto_region 5 with (fail)
  generalize w6.alloc (.cells #[.int .i64 lx, .int .i64 ly, .int .i64 ld] 24) = WX at *
  have c0a := B_a.out.c0
  have c1a := B_a.out.c1
  have c2a := B_a.out.c2
  have c0b := B_b.out.c0
  have c1b := B_b.out.c1
  have c2b := B_b.out.c2
  have c0c := B_c.out.c0
  have c1c := B_c.out.c1
  have c2c := B_c.out.c2
  go_wp2_with fail
  refine (HNb.out _).mono ?_
  clear c0a c1a c2a c0b c1b c2b c0c c1c c2c
  rintro e w7 ⟨rfl, bb⟩
  replace bb := nextw (w0 := WX) (by exact ⟨rfl, rfl, rfl, Nat.le_refl _, fun _ _ => rfl⟩) bb
  replace B_a := Lib.hid (Box3.below B_a.out bb B_a.out.lt)
  replace B_b := Lib.hid (Box3.below B_b.out bb B_b.out.lt)
  replace B_c := Lib.hid (Box3.below B_c.out bb B_c.out.lt)
  replace B_X := Lib.hid (Box3.below B_X.out bb B_X.out.lt)
  replace HB := Lib.hid (nextw HB.out bb)
  clear bb
  have lt_Ya := B_a.out.lt
  have lt_Yb := B_b.out.lt
  have lt_Yc := B_c.out.lt
  have lt_YX := B_X.out.lt
  have B_Y := Lib.hid (Box3.new w7 lx my md)
  replace B_a := Lib.hid (Box3.alloc B_a.out (.cells #[.int .i64 lx, .int .i64 my, .int .i64 md] 24))
  replace B_b := Lib.hid (Box3.alloc B_b.out (.cells #[.int .i64 lx, .int .i64 my, .int .i64 md] 24))
  replace B_c := Lib.hid (Box3.alloc B_c.out (.cells #[.int .i64 lx, .int .i64 my, .int .i64 md] 24))
  replace B_X := Lib.hid (Box3.alloc B_X.out (.cells #[.int .i64 lx, .int .i64 my, .int .i64 md] 24))
  replace HB := Lib.hid (nextw HB.out ((Below.refl w7.heap.size w7).alloc (Nat.le_refl _) (.cells #[.int .i64 lx, .int .i64 my, .int .i64 md] 24)))
  go_upto_region 6 with (fail)
  generalize w7.alloc (.cells #[.int .i64 lx, .int .i64 my, .int .i64 md] 24) = WY at *
  clear HA HVa HVb HVc HC HNa HNb
  have c0a := B_a.out.c0
  have c1a := B_a.out.c1
  have c2a := B_a.out.c2
  have c0b := B_b.out.c0
  have c1b := B_b.out.c1
  have c2b := B_b.out.c2
  have c0c := B_c.out.c0
  have c1c := B_c.out.c1
  have c2c := B_c.out.c2
  have c0X := B_X.out.c0
  have c1X := B_X.out.c1
  have c2X := B_X.out.c2
  have c0Y := B_Y.out.c0
  have c1Y := B_Y.out.c1
  have c2Y := B_Y.out.c2
  go_wp2_with fail
  refine (HD.out _).mono ?_
  clear c0a c1a c2a c0b c1b c2b c0c c1c c2c c0X c1X c2X c0Y c1Y c2Y
  rintro e w8 ⟨rfl, bb⟩
  replace bb := nextw (w0 := WY) (by exact ⟨rfl, rfl, rfl, Nat.le_refl _, fun _ _ => rfl⟩) bb
  replace B_a := Lib.hid (Box3.below B_a.out bb B_a.out.lt)
  replace B_b := Lib.hid (Box3.below B_b.out bb B_b.out.lt)
  replace B_c := Lib.hid (Box3.below B_c.out bb B_c.out.lt)
  replace B_X := Lib.hid (Box3.below B_X.out bb B_X.out.lt)
  replace B_Y := Lib.hid (Box3.below B_Y.out bb B_Y.out.lt)
  replace HB := Lib.hid (nextw HB.out bb)
  clear bb
  have c0a := B_a.out.c0
  have c1a := B_a.out.c1
  have c2a := B_a.out.c2
  have c0b := B_b.out.c0
  have c1b := B_b.out.c1
  have c2b := B_b.out.c2
  have c0c := B_c.out.c0
  have c1c := B_c.out.c1
  have c2c := B_c.out.c2
  have c0X := B_X.out.c0
  have c1X := B_X.out.c1
  have c2X := B_X.out.c2
  have c0Y := B_Y.out.c0
  have c1Y := B_Y.out.c1
  have c2Y := B_Y.out.c2
  go_wp2_with fail
  refine (HL.out _).mono ?_
  clear c0a c1a c2a c0b c1b c2b c0c c1c c2c c0X c1X c2X c0Y c1Y c2Y
  rintro e w9 ⟨rfl, bb⟩
  replace bb := nextw (w0 := w8) (by exact ⟨rfl, rfl, rfl, Nat.le_refl _, fun _ _ => rfl⟩) bb
  replace B_a := Lib.hid (Box3.below B_a.out bb B_a.out.lt)
  replace B_b := Lib.hid (Box3.below B_b.out bb B_b.out.lt)
  replace B_c := Lib.hid (Box3.below B_c.out bb B_c.out.lt)
  replace B_X := Lib.hid (Box3.below B_X.out bb B_X.out.lt)
  replace B_Y := Lib.hid (Box3.below B_Y.out bb B_Y.out.lt)
  replace HB := Lib.hid (nextw HB.out bb)
  clear bb
  have c0a := B_a.out.c0
  have c1a := B_a.out.c1
  have c2a := B_a.out.c2
  have c0b := B_b.out.c0
  have c1b := B_b.out.c1
  have c2b := B_b.out.c2
  have c0c := B_c.out.c0
  have c1c := B_c.out.c1
  have c2c := B_c.out.c2
  have c0X := B_X.out.c0
  have c1X := B_X.out.c1
  have c2X := B_X.out.c2
  have c0Y := B_Y.out.c0
  have c1Y := B_Y.out.c1
  have c2Y := B_Y.out.c2
  clear c0a c1a c2a c0b c1b c2b c0c c1c c2c c0X c1X c2X c0Y c1Y c2Y
  go_wp2
  go_ret
  exact ⟨rfl, nextw HB.out (by exact ⟨rfl, rfl, rfl, Nat.le_refl _, fun _ _ => rfl⟩)⟩

set_option maxRecDepth 100000 in
set_option maxHeartbeats 4000000 in
theorem Cs_m2 (a b c : V3) (lx ly ld my md : Int) (ha : Ok a) (hb : Ok b) (hc : Ok c) (hL : low a.x a.y a.d = ⟨lx, ly, ld⟩) (hM : low b.x b.y b.d = ⟨lx, my, md⟩) (n : Int) (hab : cmpV a b = n) (hba : cmpV b a = -n) (n0 : (n == 0) = false) (n1 : -1 ≤ n) (n2 : n ≤ 1) (hne : (ly == my) = false) (n3 : n ≤ 0) (m : Int) (hbc : cmpV b c = m) (m0 : 0 < m)  (w : World) :
    Calls Try.prog 7 #[vv a, vv b, vv c] w fun e w' => e = .returned (.bool true) ∧ Below w.heap.size w w' := by
  have HA := Lib.hid (fun w => awake_any w)
  have HVa := Lib.hid (fun w => BV_yes a ha w)
  have HVb := Lib.hid (fun w => BV_yes b hb w)
  have HVc := Lib.hid (fun w => BV_yes c hc w)
  have HC := Lib.hid (fun w => Cmp_at ha hb hab w)
  have HD := Lib.hid (fun w => Cmp_at hb ha hba w)
  have hl := cmpV_low ha
  have hLo : Ok (low a.x a.y a.d) := Ok.low ha.lo ha.eq (by have := low_le (x := a.x) (y := a.y) ha.lo; have := ha.hi; omega)
  rw [hL] at hl hLo
  have HL := Lib.hid (fun w => Cmp_at ha hLo hl w)
  have HNa := Lib.hid (fun w => Norm_at ha hL w)
  have HNb := Lib.hid (fun w => Norm_at hb hM w)
  have HE := Lib.hid (fun w => Cmp_at hb hc hbc w)
  obtain ⟨x, y, d⟩ := a
  obtain ⟨u, v, f⟩ := b
  obtain ⟨p, q, g⟩ := c
  clear ha hb hc hab hba hl hLo hL hM hbc
  have HB := Lib.hid (show Below w.heap.size w (((w.alloc (.cells #[.int .i64 x, .int .i64 y, .int .i64 d] 24)).alloc (.cells #[.int .i64 u, .int .i64 v, .int .i64 f] 24)).alloc (.cells #[.int .i64 p, .int .i64 q, .int .i64 g] 24)) from ((((Below.refl _ _).alloc (by simp <;> omega) _).alloc (by simp <;> omega) _).alloc (by simp <;> omega) _))
  have B_a : Box3 (((w.alloc (.cells #[.int .i64 x, .int .i64 y, .int .i64 d] 24)).alloc (.cells #[.int .i64 u, .int .i64 v, .int .i64 f] 24)).alloc (.cells #[.int .i64 p, .int .i64 q, .int .i64 g] 24)) (w.heap.size) x y d := by have h := (Box3.alloc (Box3.alloc (Box3.new w x y d) (.cells #[.int .i64 u, .int .i64 v, .int .i64 f] 24)) (.cells #[.int .i64 p, .int .i64 q, .int .i64 g] 24)); simpa using h
  replace B_a := Lib.hid B_a
  have B_b : Box3 (((w.alloc (.cells #[.int .i64 x, .int .i64 y, .int .i64 d] 24)).alloc (.cells #[.int .i64 u, .int .i64 v, .int .i64 f] 24)).alloc (.cells #[.int .i64 p, .int .i64 q, .int .i64 g] 24)) (w.heap.size + 1) u v f := by have h := (Box3.alloc (Box3.new (w.alloc (.cells #[.int .i64 x, .int .i64 y, .int .i64 d] 24)) u v f) (.cells #[.int .i64 p, .int .i64 q, .int .i64 g] 24)); simpa using h
  replace B_b := Lib.hid B_b
  have B_c : Box3 (((w.alloc (.cells #[.int .i64 x, .int .i64 y, .int .i64 d] 24)).alloc (.cells #[.int .i64 u, .int .i64 v, .int .i64 f] 24)).alloc (.cells #[.int .i64 p, .int .i64 q, .int .i64 g] 24)) (w.heap.size + 1 + 1) p q g := by have h := (Box3.new ((w.alloc (.cells #[.int .i64 x, .int .i64 y, .int .i64 d] 24)).alloc (.cells #[.int .i64 u, .int .i64 v, .int .i64 f] 24)) p q g); simpa using h
  replace B_c := Lib.hid B_c
  go_enter Try.func7, Try.ntmps7
  go_wp2_with fail
  generalize ((w.alloc (.cells #[.int .i64 x, .int .i64 y, .int .i64 d] 24)).alloc (.cells #[.int .i64 u, .int .i64 v, .int .i64 f] 24)).alloc (.cells #[.int .i64 p, .int .i64 q, .int .i64 g] 24) = W0 at *
  refine (HA.out _).mono ?_
  rintro e w1 ⟨rfl, bb⟩
  replace bb := nextw (w0 := W0) (by exact ⟨rfl, rfl, rfl, Nat.le_refl _, fun _ _ => rfl⟩) bb
  replace B_a := Lib.hid (Box3.below B_a.out bb B_a.out.lt)
  replace B_b := Lib.hid (Box3.below B_b.out bb B_b.out.lt)
  replace B_c := Lib.hid (Box3.below B_c.out bb B_c.out.lt)
  replace HB := Lib.hid (nextw HB.out bb)
  clear bb
  have c0a := B_a.out.c0
  have c1a := B_a.out.c1
  have c2a := B_a.out.c2
  have c0b := B_b.out.c0
  have c1b := B_b.out.c1
  have c2b := B_b.out.c2
  have c0c := B_c.out.c0
  have c1c := B_c.out.c1
  have c2c := B_c.out.c2
  go_wp2_with fail
  refine (HVa.out _).mono ?_
  clear c0a c1a c2a c0b c1b c2b c0c c1c c2c
  rintro e w2 ⟨rfl, bb⟩
  replace bb := nextw (w0 := w1) (by exact ⟨rfl, rfl, rfl, Nat.le_refl _, fun _ _ => rfl⟩) bb
  replace B_a := Lib.hid (Box3.below B_a.out bb B_a.out.lt)
  replace B_b := Lib.hid (Box3.below B_b.out bb B_b.out.lt)
  replace B_c := Lib.hid (Box3.below B_c.out bb B_c.out.lt)
  replace HB := Lib.hid (nextw HB.out bb)
  clear bb
  have c0a := B_a.out.c0
  have c1a := B_a.out.c1
  have c2a := B_a.out.c2
  have c0b := B_b.out.c0
  have c1b := B_b.out.c1
  have c2b := B_b.out.c2
  have c0c := B_c.out.c0
  have c1c := B_c.out.c1
  have c2c := B_c.out.c2
  go_wp2_with fail
  refine (HVb.out _).mono ?_
  clear c0a c1a c2a c0b c1b c2b c0c c1c c2c
  rintro e w3 ⟨rfl, bb⟩
  replace bb := nextw (w0 := w2) (by exact ⟨rfl, rfl, rfl, Nat.le_refl _, fun _ _ => rfl⟩) bb
  replace B_a := Lib.hid (Box3.below B_a.out bb B_a.out.lt)
  replace B_b := Lib.hid (Box3.below B_b.out bb B_b.out.lt)
  replace B_c := Lib.hid (Box3.below B_c.out bb B_c.out.lt)
  replace HB := Lib.hid (nextw HB.out bb)
  clear bb
  have c0a := B_a.out.c0
  have c1a := B_a.out.c1
  have c2a := B_a.out.c2
  have c0b := B_b.out.c0
  have c1b := B_b.out.c1
  have c2b := B_b.out.c2
  have c0c := B_c.out.c0
  have c1c := B_c.out.c1
  have c2c := B_c.out.c2
  go_wp2_with fail
  refine (HVc.out _).mono ?_
  clear c0a c1a c2a c0b c1b c2b c0c c1c c2c
  rintro e w4 ⟨rfl, bb⟩
  replace bb := nextw (w0 := w3) (by exact ⟨rfl, rfl, rfl, Nat.le_refl _, fun _ _ => rfl⟩) bb
  replace B_a := Lib.hid (Box3.below B_a.out bb B_a.out.lt)
  replace B_b := Lib.hid (Box3.below B_b.out bb B_b.out.lt)
  replace B_c := Lib.hid (Box3.below B_c.out bb B_c.out.lt)
  replace HB := Lib.hid (nextw HB.out bb)
  clear bb
  have c0a := B_a.out.c0
  have c1a := B_a.out.c1
  have c2a := B_a.out.c2
  have c0b := B_b.out.c0
  have c1b := B_b.out.c1
  have c2b := B_b.out.c2
  have c0c := B_c.out.c0
  have c1c := B_c.out.c1
  have c2c := B_c.out.c2
  go_wp2_with fail
  refine (HC.out _).mono ?_
  clear c0a c1a c2a c0b c1b c2b c0c c1c c2c
  rintro e w5 ⟨rfl, bb⟩
  replace bb := nextw (w0 := w4) (by exact ⟨rfl, rfl, rfl, Nat.le_refl _, fun _ _ => rfl⟩) bb
  replace B_a := Lib.hid (Box3.below B_a.out bb B_a.out.lt)
  replace B_b := Lib.hid (Box3.below B_b.out bb B_b.out.lt)
  replace B_c := Lib.hid (Box3.below B_c.out bb B_c.out.lt)
  replace HB := Lib.hid (nextw HB.out bb)
  clear bb
  have c0a := B_a.out.c0
  have c1a := B_a.out.c1
  have c2a := B_a.out.c2
  have c0b := B_b.out.c0
  have c1b := B_b.out.c1
  have c2b := B_b.out.c2
  have c0c := B_c.out.c0
  have c1c := B_c.out.c1
  have c2c := B_c.out.c2
  go_wp2_with fail
  refine (HNa.out _).mono ?_
  clear c0a c1a c2a c0b c1b c2b c0c c1c c2c
  rintro e w6 ⟨rfl, bb⟩
  replace bb := nextw (w0 := w5) (by exact ⟨rfl, rfl, rfl, Nat.le_refl _, fun _ _ => rfl⟩) bb
  replace B_a := Lib.hid (Box3.below B_a.out bb B_a.out.lt)
  replace B_b := Lib.hid (Box3.below B_b.out bb B_b.out.lt)
  replace B_c := Lib.hid (Box3.below B_c.out bb B_c.out.lt)
  replace HB := Lib.hid (nextw HB.out bb)
  clear bb
  have lt_Xa := B_a.out.lt
  have lt_Xb := B_b.out.lt
  have lt_Xc := B_c.out.lt
  have B_X := Lib.hid (Box3.new w6 lx ly ld)
  replace B_a := Lib.hid (Box3.alloc B_a.out (.cells #[.int .i64 lx, .int .i64 ly, .int .i64 ld] 24))
  replace B_b := Lib.hid (Box3.alloc B_b.out (.cells #[.int .i64 lx, .int .i64 ly, .int .i64 ld] 24))
  replace B_c := Lib.hid (Box3.alloc B_c.out (.cells #[.int .i64 lx, .int .i64 ly, .int .i64 ld] 24))
  replace HB := Lib.hid (nextw HB.out ((Below.refl w6.heap.size w6).alloc (Nat.le_refl _) (.cells #[.int .i64 lx, .int .i64 ly, .int .i64 ld] 24)))
  go_upto_region 5 with (fail)
  generalize w6.alloc (.cells #[.int .i64 lx, .int .i64 ly, .int .i64 ld] 24) = WX at *
  have c0a := B_a.out.c0
  have c1a := B_a.out.c1
  have c2a := B_a.out.c2
  have c0b := B_b.out.c0
  have c1b := B_b.out.c1
  have c2b := B_b.out.c2
  have c0c := B_c.out.c0
  have c1c := B_c.out.c1
  have c2c := B_c.out.c2
  go_wp2_with fail
  refine (HNb.out _).mono ?_
  clear c0a c1a c2a c0b c1b c2b c0c c1c c2c
  rintro e w7 ⟨rfl, bb⟩
  replace bb := nextw (w0 := WX) (by exact ⟨rfl, rfl, rfl, Nat.le_refl _, fun _ _ => rfl⟩) bb
  replace B_a := Lib.hid (Box3.below B_a.out bb B_a.out.lt)
  replace B_b := Lib.hid (Box3.below B_b.out bb B_b.out.lt)
  replace B_c := Lib.hid (Box3.below B_c.out bb B_c.out.lt)
  replace B_X := Lib.hid (Box3.below B_X.out bb B_X.out.lt)
  replace HB := Lib.hid (nextw HB.out bb)
  clear bb
  have lt_Ya := B_a.out.lt
  have lt_Yb := B_b.out.lt
  have lt_Yc := B_c.out.lt
  have lt_YX := B_X.out.lt
  have B_Y := Lib.hid (Box3.new w7 lx my md)
  replace B_a := Lib.hid (Box3.alloc B_a.out (.cells #[.int .i64 lx, .int .i64 my, .int .i64 md] 24))
  replace B_b := Lib.hid (Box3.alloc B_b.out (.cells #[.int .i64 lx, .int .i64 my, .int .i64 md] 24))
  replace B_c := Lib.hid (Box3.alloc B_c.out (.cells #[.int .i64 lx, .int .i64 my, .int .i64 md] 24))
  replace B_X := Lib.hid (Box3.alloc B_X.out (.cells #[.int .i64 lx, .int .i64 my, .int .i64 md] 24))
  replace HB := Lib.hid (nextw HB.out ((Below.refl w7.heap.size w7).alloc (Nat.le_refl _) (.cells #[.int .i64 lx, .int .i64 my, .int .i64 md] 24)))
  go_upto_region 6 with (fail)
  generalize w7.alloc (.cells #[.int .i64 lx, .int .i64 my, .int .i64 md] 24) = WY at *
  clear HA HVa HVb HVc HC HNa HNb
  have c0a := B_a.out.c0
  have c1a := B_a.out.c1
  have c2a := B_a.out.c2
  have c0b := B_b.out.c0
  have c1b := B_b.out.c1
  have c2b := B_b.out.c2
  have c0c := B_c.out.c0
  have c1c := B_c.out.c1
  have c2c := B_c.out.c2
  have c0X := B_X.out.c0
  have c1X := B_X.out.c1
  have c2X := B_X.out.c2
  have c0Y := B_Y.out.c0
  have c1Y := B_Y.out.c1
  have c2Y := B_Y.out.c2
  go_wp2_with fail
  refine (HD.out _).mono ?_
  clear c0a c1a c2a c0b c1b c2b c0c c1c c2c c0X c1X c2X c0Y c1Y c2Y
  rintro e w8 ⟨rfl, bb⟩
  replace bb := nextw (w0 := WY) (by exact ⟨rfl, rfl, rfl, Nat.le_refl _, fun _ _ => rfl⟩) bb
  replace B_a := Lib.hid (Box3.below B_a.out bb B_a.out.lt)
  replace B_b := Lib.hid (Box3.below B_b.out bb B_b.out.lt)
  replace B_c := Lib.hid (Box3.below B_c.out bb B_c.out.lt)
  replace B_X := Lib.hid (Box3.below B_X.out bb B_X.out.lt)
  replace B_Y := Lib.hid (Box3.below B_Y.out bb B_Y.out.lt)
  replace HB := Lib.hid (nextw HB.out bb)
  clear bb
  have c0a := B_a.out.c0
  have c1a := B_a.out.c1
  have c2a := B_a.out.c2
  have c0b := B_b.out.c0
  have c1b := B_b.out.c1
  have c2b := B_b.out.c2
  have c0c := B_c.out.c0
  have c1c := B_c.out.c1
  have c2c := B_c.out.c2
  have c0X := B_X.out.c0
  have c1X := B_X.out.c1
  have c2X := B_X.out.c2
  have c0Y := B_Y.out.c0
  have c1Y := B_Y.out.c1
  have c2Y := B_Y.out.c2
  go_wp2_with fail
  refine (HL.out _).mono ?_
  clear c0a c1a c2a c0b c1b c2b c0c c1c c2c c0X c1X c2X c0Y c1Y c2Y
  rintro e w9 ⟨rfl, bb⟩
  replace bb := nextw (w0 := w8) (by exact ⟨rfl, rfl, rfl, Nat.le_refl _, fun _ _ => rfl⟩) bb
  replace B_a := Lib.hid (Box3.below B_a.out bb B_a.out.lt)
  replace B_b := Lib.hid (Box3.below B_b.out bb B_b.out.lt)
  replace B_c := Lib.hid (Box3.below B_c.out bb B_c.out.lt)
  replace B_X := Lib.hid (Box3.below B_X.out bb B_X.out.lt)
  replace B_Y := Lib.hid (Box3.below B_Y.out bb B_Y.out.lt)
  replace HB := Lib.hid (nextw HB.out bb)
  clear bb
  have c0a := B_a.out.c0
  have c1a := B_a.out.c1
  have c2a := B_a.out.c2
  have c0b := B_b.out.c0
  have c1b := B_b.out.c1
  have c2b := B_b.out.c2
  have c0c := B_c.out.c0
  have c1c := B_c.out.c1
  have c2c := B_c.out.c2
  have c0X := B_X.out.c0
  have c1X := B_X.out.c1
  have c2X := B_X.out.c2
  have c0Y := B_Y.out.c0
  have c1Y := B_Y.out.c1
  have c2Y := B_Y.out.c2
  go_wp2_with fail
  refine (HE.out _).mono ?_
  clear c0a c1a c2a c0b c1b c2b c0c c1c c2c c0X c1X c2X c0Y c1Y c2Y
  rintro e w10 ⟨rfl, bb⟩
  replace bb := nextw (w0 := w9) (by exact ⟨rfl, rfl, rfl, Nat.le_refl _, fun _ _ => rfl⟩) bb
  replace B_a := Lib.hid (Box3.below B_a.out bb B_a.out.lt)
  replace B_b := Lib.hid (Box3.below B_b.out bb B_b.out.lt)
  replace B_c := Lib.hid (Box3.below B_c.out bb B_c.out.lt)
  replace B_X := Lib.hid (Box3.below B_X.out bb B_X.out.lt)
  replace B_Y := Lib.hid (Box3.below B_Y.out bb B_Y.out.lt)
  replace HB := Lib.hid (nextw HB.out bb)
  clear bb
  have c0a := B_a.out.c0
  have c1a := B_a.out.c1
  have c2a := B_a.out.c2
  have c0b := B_b.out.c0
  have c1b := B_b.out.c1
  have c2b := B_b.out.c2
  have c0c := B_c.out.c0
  have c1c := B_c.out.c1
  have c2c := B_c.out.c2
  have c0X := B_X.out.c0
  have c1X := B_X.out.c1
  have c2X := B_X.out.c2
  have c0Y := B_Y.out.c0
  have c1Y := B_Y.out.c1
  have c2Y := B_Y.out.c2
  clear c0a c1a c2a c0b c1b c2b c0c c1c c2c c0X c1X c2X c0Y c1Y c2Y
  go_wp2
  go_ret
  exact ⟨rfl, nextw HB.out (by exact ⟨rfl, rfl, rfl, Nat.le_refl _, fun _ _ => rfl⟩)⟩

set_option maxRecDepth 100000 in
set_option maxHeartbeats 4000000 in
theorem Cs_r2 (a b c : V3) (lx ly ld my md : Int) (ha : Ok a) (hb : Ok b) (hc : Ok c) (hL : low a.x a.y a.d = ⟨lx, ly, ld⟩) (hM : low b.x b.y b.d = ⟨lx, my, md⟩) (n : Int) (hab : cmpV a b = n) (hba : cmpV b a = -n) (n0 : (n == 0) = false) (n1 : -1 ≤ n) (n2 : n ≤ 1) (hne : (ly == my) = false) (n3 : n ≤ 0) (m r : Int) (hbc : cmpV b c = m) (m0 : m ≤ 0) (hac : cmpV a c = r) (r0 : r ≤ 0)  (w : World) :
    Calls Try.prog 7 #[vv a, vv b, vv c] w fun e w' => e = .returned (.bool true) ∧ Below w.heap.size w w' := by
  have HA := Lib.hid (fun w => awake_any w)
  have HVa := Lib.hid (fun w => BV_yes a ha w)
  have HVb := Lib.hid (fun w => BV_yes b hb w)
  have HVc := Lib.hid (fun w => BV_yes c hc w)
  have HC := Lib.hid (fun w => Cmp_at ha hb hab w)
  have HD := Lib.hid (fun w => Cmp_at hb ha hba w)
  have hl := cmpV_low ha
  have hLo : Ok (low a.x a.y a.d) := Ok.low ha.lo ha.eq (by have := low_le (x := a.x) (y := a.y) ha.lo; have := ha.hi; omega)
  rw [hL] at hl hLo
  have HL := Lib.hid (fun w => Cmp_at ha hLo hl w)
  have HNa := Lib.hid (fun w => Norm_at ha hL w)
  have HNb := Lib.hid (fun w => Norm_at hb hM w)
  have HE := Lib.hid (fun w => Cmp_at hb hc hbc w)
  have HF := Lib.hid (fun w => Cmp_at ha hc hac w)
  obtain ⟨x, y, d⟩ := a
  obtain ⟨u, v, f⟩ := b
  obtain ⟨p, q, g⟩ := c
  clear ha hb hc hab hba hl hLo hL hM hbc hac
  have HB := Lib.hid (show Below w.heap.size w (((w.alloc (.cells #[.int .i64 x, .int .i64 y, .int .i64 d] 24)).alloc (.cells #[.int .i64 u, .int .i64 v, .int .i64 f] 24)).alloc (.cells #[.int .i64 p, .int .i64 q, .int .i64 g] 24)) from ((((Below.refl _ _).alloc (by simp <;> omega) _).alloc (by simp <;> omega) _).alloc (by simp <;> omega) _))
  have B_a : Box3 (((w.alloc (.cells #[.int .i64 x, .int .i64 y, .int .i64 d] 24)).alloc (.cells #[.int .i64 u, .int .i64 v, .int .i64 f] 24)).alloc (.cells #[.int .i64 p, .int .i64 q, .int .i64 g] 24)) (w.heap.size) x y d := by have h := (Box3.alloc (Box3.alloc (Box3.new w x y d) (.cells #[.int .i64 u, .int .i64 v, .int .i64 f] 24)) (.cells #[.int .i64 p, .int .i64 q, .int .i64 g] 24)); simpa using h
  replace B_a := Lib.hid B_a
  have B_b : Box3 (((w.alloc (.cells #[.int .i64 x, .int .i64 y, .int .i64 d] 24)).alloc (.cells #[.int .i64 u, .int .i64 v, .int .i64 f] 24)).alloc (.cells #[.int .i64 p, .int .i64 q, .int .i64 g] 24)) (w.heap.size + 1) u v f := by have h := (Box3.alloc (Box3.new (w.alloc (.cells #[.int .i64 x, .int .i64 y, .int .i64 d] 24)) u v f) (.cells #[.int .i64 p, .int .i64 q, .int .i64 g] 24)); simpa using h
  replace B_b := Lib.hid B_b
  have B_c : Box3 (((w.alloc (.cells #[.int .i64 x, .int .i64 y, .int .i64 d] 24)).alloc (.cells #[.int .i64 u, .int .i64 v, .int .i64 f] 24)).alloc (.cells #[.int .i64 p, .int .i64 q, .int .i64 g] 24)) (w.heap.size + 1 + 1) p q g := by have h := (Box3.new ((w.alloc (.cells #[.int .i64 x, .int .i64 y, .int .i64 d] 24)).alloc (.cells #[.int .i64 u, .int .i64 v, .int .i64 f] 24)) p q g); simpa using h
  replace B_c := Lib.hid B_c
  go_enter Try.func7, Try.ntmps7
  go_wp2_with fail
  generalize ((w.alloc (.cells #[.int .i64 x, .int .i64 y, .int .i64 d] 24)).alloc (.cells #[.int .i64 u, .int .i64 v, .int .i64 f] 24)).alloc (.cells #[.int .i64 p, .int .i64 q, .int .i64 g] 24) = W0 at *
  refine (HA.out _).mono ?_
  rintro e w1 ⟨rfl, bb⟩
  replace bb := nextw (w0 := W0) (by exact ⟨rfl, rfl, rfl, Nat.le_refl _, fun _ _ => rfl⟩) bb
  replace B_a := Lib.hid (Box3.below B_a.out bb B_a.out.lt)
  replace B_b := Lib.hid (Box3.below B_b.out bb B_b.out.lt)
  replace B_c := Lib.hid (Box3.below B_c.out bb B_c.out.lt)
  replace HB := Lib.hid (nextw HB.out bb)
  clear bb
  have c0a := B_a.out.c0
  have c1a := B_a.out.c1
  have c2a := B_a.out.c2
  have c0b := B_b.out.c0
  have c1b := B_b.out.c1
  have c2b := B_b.out.c2
  have c0c := B_c.out.c0
  have c1c := B_c.out.c1
  have c2c := B_c.out.c2
  go_wp2_with fail
  refine (HVa.out _).mono ?_
  clear c0a c1a c2a c0b c1b c2b c0c c1c c2c
  rintro e w2 ⟨rfl, bb⟩
  replace bb := nextw (w0 := w1) (by exact ⟨rfl, rfl, rfl, Nat.le_refl _, fun _ _ => rfl⟩) bb
  replace B_a := Lib.hid (Box3.below B_a.out bb B_a.out.lt)
  replace B_b := Lib.hid (Box3.below B_b.out bb B_b.out.lt)
  replace B_c := Lib.hid (Box3.below B_c.out bb B_c.out.lt)
  replace HB := Lib.hid (nextw HB.out bb)
  clear bb
  have c0a := B_a.out.c0
  have c1a := B_a.out.c1
  have c2a := B_a.out.c2
  have c0b := B_b.out.c0
  have c1b := B_b.out.c1
  have c2b := B_b.out.c2
  have c0c := B_c.out.c0
  have c1c := B_c.out.c1
  have c2c := B_c.out.c2
  go_wp2_with fail
  refine (HVb.out _).mono ?_
  clear c0a c1a c2a c0b c1b c2b c0c c1c c2c
  rintro e w3 ⟨rfl, bb⟩
  replace bb := nextw (w0 := w2) (by exact ⟨rfl, rfl, rfl, Nat.le_refl _, fun _ _ => rfl⟩) bb
  replace B_a := Lib.hid (Box3.below B_a.out bb B_a.out.lt)
  replace B_b := Lib.hid (Box3.below B_b.out bb B_b.out.lt)
  replace B_c := Lib.hid (Box3.below B_c.out bb B_c.out.lt)
  replace HB := Lib.hid (nextw HB.out bb)
  clear bb
  have c0a := B_a.out.c0
  have c1a := B_a.out.c1
  have c2a := B_a.out.c2
  have c0b := B_b.out.c0
  have c1b := B_b.out.c1
  have c2b := B_b.out.c2
  have c0c := B_c.out.c0
  have c1c := B_c.out.c1
  have c2c := B_c.out.c2
  go_wp2_with fail
  refine (HVc.out _).mono ?_
  clear c0a c1a c2a c0b c1b c2b c0c c1c c2c
  rintro e w4 ⟨rfl, bb⟩
  replace bb := nextw (w0 := w3) (by exact ⟨rfl, rfl, rfl, Nat.le_refl _, fun _ _ => rfl⟩) bb
  replace B_a := Lib.hid (Box3.below B_a.out bb B_a.out.lt)
  replace B_b := Lib.hid (Box3.below B_b.out bb B_b.out.lt)
  replace B_c := Lib.hid (Box3.below B_c.out bb B_c.out.lt)
  replace HB := Lib.hid (nextw HB.out bb)
  clear bb
  have c0a := B_a.out.c0
  have c1a := B_a.out.c1
  have c2a := B_a.out.c2
  have c0b := B_b.out.c0
  have c1b := B_b.out.c1
  have c2b := B_b.out.c2
  have c0c := B_c.out.c0
  have c1c := B_c.out.c1
  have c2c := B_c.out.c2
  go_wp2_with fail
  refine (HC.out _).mono ?_
  clear c0a c1a c2a c0b c1b c2b c0c c1c c2c
  rintro e w5 ⟨rfl, bb⟩
  replace bb := nextw (w0 := w4) (by exact ⟨rfl, rfl, rfl, Nat.le_refl _, fun _ _ => rfl⟩) bb
  replace B_a := Lib.hid (Box3.below B_a.out bb B_a.out.lt)
  replace B_b := Lib.hid (Box3.below B_b.out bb B_b.out.lt)
  replace B_c := Lib.hid (Box3.below B_c.out bb B_c.out.lt)
  replace HB := Lib.hid (nextw HB.out bb)
  clear bb
  have c0a := B_a.out.c0
  have c1a := B_a.out.c1
  have c2a := B_a.out.c2
  have c0b := B_b.out.c0
  have c1b := B_b.out.c1
  have c2b := B_b.out.c2
  have c0c := B_c.out.c0
  have c1c := B_c.out.c1
  have c2c := B_c.out.c2
  go_wp2_with fail
  refine (HNa.out _).mono ?_
  clear c0a c1a c2a c0b c1b c2b c0c c1c c2c
  rintro e w6 ⟨rfl, bb⟩
  replace bb := nextw (w0 := w5) (by exact ⟨rfl, rfl, rfl, Nat.le_refl _, fun _ _ => rfl⟩) bb
  replace B_a := Lib.hid (Box3.below B_a.out bb B_a.out.lt)
  replace B_b := Lib.hid (Box3.below B_b.out bb B_b.out.lt)
  replace B_c := Lib.hid (Box3.below B_c.out bb B_c.out.lt)
  replace HB := Lib.hid (nextw HB.out bb)
  clear bb
  have lt_Xa := B_a.out.lt
  have lt_Xb := B_b.out.lt
  have lt_Xc := B_c.out.lt
  have B_X := Lib.hid (Box3.new w6 lx ly ld)
  replace B_a := Lib.hid (Box3.alloc B_a.out (.cells #[.int .i64 lx, .int .i64 ly, .int .i64 ld] 24))
  replace B_b := Lib.hid (Box3.alloc B_b.out (.cells #[.int .i64 lx, .int .i64 ly, .int .i64 ld] 24))
  replace B_c := Lib.hid (Box3.alloc B_c.out (.cells #[.int .i64 lx, .int .i64 ly, .int .i64 ld] 24))
  replace HB := Lib.hid (nextw HB.out ((Below.refl w6.heap.size w6).alloc (Nat.le_refl _) (.cells #[.int .i64 lx, .int .i64 ly, .int .i64 ld] 24)))
  go_upto_region 5 with (fail)
  generalize w6.alloc (.cells #[.int .i64 lx, .int .i64 ly, .int .i64 ld] 24) = WX at *
  have c0a := B_a.out.c0
  have c1a := B_a.out.c1
  have c2a := B_a.out.c2
  have c0b := B_b.out.c0
  have c1b := B_b.out.c1
  have c2b := B_b.out.c2
  have c0c := B_c.out.c0
  have c1c := B_c.out.c1
  have c2c := B_c.out.c2
  go_wp2_with fail
  refine (HNb.out _).mono ?_
  clear c0a c1a c2a c0b c1b c2b c0c c1c c2c
  rintro e w7 ⟨rfl, bb⟩
  replace bb := nextw (w0 := WX) (by exact ⟨rfl, rfl, rfl, Nat.le_refl _, fun _ _ => rfl⟩) bb
  replace B_a := Lib.hid (Box3.below B_a.out bb B_a.out.lt)
  replace B_b := Lib.hid (Box3.below B_b.out bb B_b.out.lt)
  replace B_c := Lib.hid (Box3.below B_c.out bb B_c.out.lt)
  replace B_X := Lib.hid (Box3.below B_X.out bb B_X.out.lt)
  replace HB := Lib.hid (nextw HB.out bb)
  clear bb
  have lt_Ya := B_a.out.lt
  have lt_Yb := B_b.out.lt
  have lt_Yc := B_c.out.lt
  have lt_YX := B_X.out.lt
  have B_Y := Lib.hid (Box3.new w7 lx my md)
  replace B_a := Lib.hid (Box3.alloc B_a.out (.cells #[.int .i64 lx, .int .i64 my, .int .i64 md] 24))
  replace B_b := Lib.hid (Box3.alloc B_b.out (.cells #[.int .i64 lx, .int .i64 my, .int .i64 md] 24))
  replace B_c := Lib.hid (Box3.alloc B_c.out (.cells #[.int .i64 lx, .int .i64 my, .int .i64 md] 24))
  replace B_X := Lib.hid (Box3.alloc B_X.out (.cells #[.int .i64 lx, .int .i64 my, .int .i64 md] 24))
  replace HB := Lib.hid (nextw HB.out ((Below.refl w7.heap.size w7).alloc (Nat.le_refl _) (.cells #[.int .i64 lx, .int .i64 my, .int .i64 md] 24)))
  go_upto_region 6 with (fail)
  generalize w7.alloc (.cells #[.int .i64 lx, .int .i64 my, .int .i64 md] 24) = WY at *
  clear HA HVa HVb HVc HC HNa HNb
  have c0a := B_a.out.c0
  have c1a := B_a.out.c1
  have c2a := B_a.out.c2
  have c0b := B_b.out.c0
  have c1b := B_b.out.c1
  have c2b := B_b.out.c2
  have c0c := B_c.out.c0
  have c1c := B_c.out.c1
  have c2c := B_c.out.c2
  have c0X := B_X.out.c0
  have c1X := B_X.out.c1
  have c2X := B_X.out.c2
  have c0Y := B_Y.out.c0
  have c1Y := B_Y.out.c1
  have c2Y := B_Y.out.c2
  go_wp2_with fail
  refine (HD.out _).mono ?_
  clear c0a c1a c2a c0b c1b c2b c0c c1c c2c c0X c1X c2X c0Y c1Y c2Y
  rintro e w8 ⟨rfl, bb⟩
  replace bb := nextw (w0 := WY) (by exact ⟨rfl, rfl, rfl, Nat.le_refl _, fun _ _ => rfl⟩) bb
  replace B_a := Lib.hid (Box3.below B_a.out bb B_a.out.lt)
  replace B_b := Lib.hid (Box3.below B_b.out bb B_b.out.lt)
  replace B_c := Lib.hid (Box3.below B_c.out bb B_c.out.lt)
  replace B_X := Lib.hid (Box3.below B_X.out bb B_X.out.lt)
  replace B_Y := Lib.hid (Box3.below B_Y.out bb B_Y.out.lt)
  replace HB := Lib.hid (nextw HB.out bb)
  clear bb
  have c0a := B_a.out.c0
  have c1a := B_a.out.c1
  have c2a := B_a.out.c2
  have c0b := B_b.out.c0
  have c1b := B_b.out.c1
  have c2b := B_b.out.c2
  have c0c := B_c.out.c0
  have c1c := B_c.out.c1
  have c2c := B_c.out.c2
  have c0X := B_X.out.c0
  have c1X := B_X.out.c1
  have c2X := B_X.out.c2
  have c0Y := B_Y.out.c0
  have c1Y := B_Y.out.c1
  have c2Y := B_Y.out.c2
  go_wp2_with fail
  refine (HL.out _).mono ?_
  clear c0a c1a c2a c0b c1b c2b c0c c1c c2c c0X c1X c2X c0Y c1Y c2Y
  rintro e w9 ⟨rfl, bb⟩
  replace bb := nextw (w0 := w8) (by exact ⟨rfl, rfl, rfl, Nat.le_refl _, fun _ _ => rfl⟩) bb
  replace B_a := Lib.hid (Box3.below B_a.out bb B_a.out.lt)
  replace B_b := Lib.hid (Box3.below B_b.out bb B_b.out.lt)
  replace B_c := Lib.hid (Box3.below B_c.out bb B_c.out.lt)
  replace B_X := Lib.hid (Box3.below B_X.out bb B_X.out.lt)
  replace B_Y := Lib.hid (Box3.below B_Y.out bb B_Y.out.lt)
  replace HB := Lib.hid (nextw HB.out bb)
  clear bb
  have c0a := B_a.out.c0
  have c1a := B_a.out.c1
  have c2a := B_a.out.c2
  have c0b := B_b.out.c0
  have c1b := B_b.out.c1
  have c2b := B_b.out.c2
  have c0c := B_c.out.c0
  have c1c := B_c.out.c1
  have c2c := B_c.out.c2
  have c0X := B_X.out.c0
  have c1X := B_X.out.c1
  have c2X := B_X.out.c2
  have c0Y := B_Y.out.c0
  have c1Y := B_Y.out.c1
  have c2Y := B_Y.out.c2
  go_wp2_with fail
  refine (HE.out _).mono ?_
  clear c0a c1a c2a c0b c1b c2b c0c c1c c2c c0X c1X c2X c0Y c1Y c2Y
  rintro e w10 ⟨rfl, bb⟩
  replace bb := nextw (w0 := w9) (by exact ⟨rfl, rfl, rfl, Nat.le_refl _, fun _ _ => rfl⟩) bb
  replace B_a := Lib.hid (Box3.below B_a.out bb B_a.out.lt)
  replace B_b := Lib.hid (Box3.below B_b.out bb B_b.out.lt)
  replace B_c := Lib.hid (Box3.below B_c.out bb B_c.out.lt)
  replace B_X := Lib.hid (Box3.below B_X.out bb B_X.out.lt)
  replace B_Y := Lib.hid (Box3.below B_Y.out bb B_Y.out.lt)
  replace HB := Lib.hid (nextw HB.out bb)
  clear bb
  have c0a := B_a.out.c0
  have c1a := B_a.out.c1
  have c2a := B_a.out.c2
  have c0b := B_b.out.c0
  have c1b := B_b.out.c1
  have c2b := B_b.out.c2
  have c0c := B_c.out.c0
  have c1c := B_c.out.c1
  have c2c := B_c.out.c2
  have c0X := B_X.out.c0
  have c1X := B_X.out.c1
  have c2X := B_X.out.c2
  have c0Y := B_Y.out.c0
  have c1Y := B_Y.out.c1
  have c2Y := B_Y.out.c2
  go_wp2_with fail
  refine (HF.out _).mono ?_
  clear c0a c1a c2a c0b c1b c2b c0c c1c c2c c0X c1X c2X c0Y c1Y c2Y
  rintro e w11 ⟨rfl, bb⟩
  replace bb := nextw (w0 := w10) (by exact ⟨rfl, rfl, rfl, Nat.le_refl _, fun _ _ => rfl⟩) bb
  replace B_a := Lib.hid (Box3.below B_a.out bb B_a.out.lt)
  replace B_b := Lib.hid (Box3.below B_b.out bb B_b.out.lt)
  replace B_c := Lib.hid (Box3.below B_c.out bb B_c.out.lt)
  replace B_X := Lib.hid (Box3.below B_X.out bb B_X.out.lt)
  replace B_Y := Lib.hid (Box3.below B_Y.out bb B_Y.out.lt)
  replace HB := Lib.hid (nextw HB.out bb)
  clear bb
  go_wp2
  go_ret
  exact ⟨rfl, nextw HB.out (by exact ⟨rfl, rfl, rfl, Nat.le_refl _, fun _ _ => rfl⟩)⟩

set_option maxRecDepth 100000 in
set_option maxHeartbeats 4000000 in
theorem Cs_gt3 (a b c : V3) (lx ly ld md : Int) (ha : Ok a) (hb : Ok b) (hc : Ok c) (hL : low a.x a.y a.d = ⟨lx, ly, ld⟩) (hM : low b.x b.y b.d = ⟨lx, ly, md⟩) (n : Int) (hab : cmpV a b = n) (hba : cmpV b a = -n) (n0 : (n == 0) = false) (n1 : -1 ≤ n) (n2 : n ≤ 1) (hne : (ld == md) = false) (n3 : 0 < n)  (w : World) :
    Calls Try.prog 7 #[vv a, vv b, vv c] w fun e w' => e = .returned (.bool true) ∧ Below w.heap.size w w' := by
  have HA := Lib.hid (fun w => awake_any w)
  have HVa := Lib.hid (fun w => BV_yes a ha w)
  have HVb := Lib.hid (fun w => BV_yes b hb w)
  have HVc := Lib.hid (fun w => BV_yes c hc w)
  have HC := Lib.hid (fun w => Cmp_at ha hb hab w)
  have HD := Lib.hid (fun w => Cmp_at hb ha hba w)
  have hl := cmpV_low ha
  have hLo : Ok (low a.x a.y a.d) := Ok.low ha.lo ha.eq (by have := low_le (x := a.x) (y := a.y) ha.lo; have := ha.hi; omega)
  rw [hL] at hl hLo
  have HL := Lib.hid (fun w => Cmp_at ha hLo hl w)
  have HNa := Lib.hid (fun w => Norm_at ha hL w)
  have HNb := Lib.hid (fun w => Norm_at hb hM w)
  obtain ⟨x, y, d⟩ := a
  obtain ⟨u, v, f⟩ := b
  obtain ⟨p, q, g⟩ := c
  clear ha hb hc hab hba hl hLo hL hM
  have HB := Lib.hid (show Below w.heap.size w (((w.alloc (.cells #[.int .i64 x, .int .i64 y, .int .i64 d] 24)).alloc (.cells #[.int .i64 u, .int .i64 v, .int .i64 f] 24)).alloc (.cells #[.int .i64 p, .int .i64 q, .int .i64 g] 24)) from ((((Below.refl _ _).alloc (by simp <;> omega) _).alloc (by simp <;> omega) _).alloc (by simp <;> omega) _))
  have B_a : Box3 (((w.alloc (.cells #[.int .i64 x, .int .i64 y, .int .i64 d] 24)).alloc (.cells #[.int .i64 u, .int .i64 v, .int .i64 f] 24)).alloc (.cells #[.int .i64 p, .int .i64 q, .int .i64 g] 24)) (w.heap.size) x y d := by have h := (Box3.alloc (Box3.alloc (Box3.new w x y d) (.cells #[.int .i64 u, .int .i64 v, .int .i64 f] 24)) (.cells #[.int .i64 p, .int .i64 q, .int .i64 g] 24)); simpa using h
  replace B_a := Lib.hid B_a
  have B_b : Box3 (((w.alloc (.cells #[.int .i64 x, .int .i64 y, .int .i64 d] 24)).alloc (.cells #[.int .i64 u, .int .i64 v, .int .i64 f] 24)).alloc (.cells #[.int .i64 p, .int .i64 q, .int .i64 g] 24)) (w.heap.size + 1) u v f := by have h := (Box3.alloc (Box3.new (w.alloc (.cells #[.int .i64 x, .int .i64 y, .int .i64 d] 24)) u v f) (.cells #[.int .i64 p, .int .i64 q, .int .i64 g] 24)); simpa using h
  replace B_b := Lib.hid B_b
  have B_c : Box3 (((w.alloc (.cells #[.int .i64 x, .int .i64 y, .int .i64 d] 24)).alloc (.cells #[.int .i64 u, .int .i64 v, .int .i64 f] 24)).alloc (.cells #[.int .i64 p, .int .i64 q, .int .i64 g] 24)) (w.heap.size + 1 + 1) p q g := by have h := (Box3.new ((w.alloc (.cells #[.int .i64 x, .int .i64 y, .int .i64 d] 24)).alloc (.cells #[.int .i64 u, .int .i64 v, .int .i64 f] 24)) p q g); simpa using h
  replace B_c := Lib.hid B_c
  go_enter Try.func7, Try.ntmps7
  go_wp2_with fail
  generalize ((w.alloc (.cells #[.int .i64 x, .int .i64 y, .int .i64 d] 24)).alloc (.cells #[.int .i64 u, .int .i64 v, .int .i64 f] 24)).alloc (.cells #[.int .i64 p, .int .i64 q, .int .i64 g] 24) = W0 at *
  refine (HA.out _).mono ?_
  rintro e w1 ⟨rfl, bb⟩
  replace bb := nextw (w0 := W0) (by exact ⟨rfl, rfl, rfl, Nat.le_refl _, fun _ _ => rfl⟩) bb
  replace B_a := Lib.hid (Box3.below B_a.out bb B_a.out.lt)
  replace B_b := Lib.hid (Box3.below B_b.out bb B_b.out.lt)
  replace B_c := Lib.hid (Box3.below B_c.out bb B_c.out.lt)
  replace HB := Lib.hid (nextw HB.out bb)
  clear bb
  have c0a := B_a.out.c0
  have c1a := B_a.out.c1
  have c2a := B_a.out.c2
  have c0b := B_b.out.c0
  have c1b := B_b.out.c1
  have c2b := B_b.out.c2
  have c0c := B_c.out.c0
  have c1c := B_c.out.c1
  have c2c := B_c.out.c2
  go_wp2_with fail
  refine (HVa.out _).mono ?_
  clear c0a c1a c2a c0b c1b c2b c0c c1c c2c
  rintro e w2 ⟨rfl, bb⟩
  replace bb := nextw (w0 := w1) (by exact ⟨rfl, rfl, rfl, Nat.le_refl _, fun _ _ => rfl⟩) bb
  replace B_a := Lib.hid (Box3.below B_a.out bb B_a.out.lt)
  replace B_b := Lib.hid (Box3.below B_b.out bb B_b.out.lt)
  replace B_c := Lib.hid (Box3.below B_c.out bb B_c.out.lt)
  replace HB := Lib.hid (nextw HB.out bb)
  clear bb
  have c0a := B_a.out.c0
  have c1a := B_a.out.c1
  have c2a := B_a.out.c2
  have c0b := B_b.out.c0
  have c1b := B_b.out.c1
  have c2b := B_b.out.c2
  have c0c := B_c.out.c0
  have c1c := B_c.out.c1
  have c2c := B_c.out.c2
  go_wp2_with fail
  refine (HVb.out _).mono ?_
  clear c0a c1a c2a c0b c1b c2b c0c c1c c2c
  rintro e w3 ⟨rfl, bb⟩
  replace bb := nextw (w0 := w2) (by exact ⟨rfl, rfl, rfl, Nat.le_refl _, fun _ _ => rfl⟩) bb
  replace B_a := Lib.hid (Box3.below B_a.out bb B_a.out.lt)
  replace B_b := Lib.hid (Box3.below B_b.out bb B_b.out.lt)
  replace B_c := Lib.hid (Box3.below B_c.out bb B_c.out.lt)
  replace HB := Lib.hid (nextw HB.out bb)
  clear bb
  have c0a := B_a.out.c0
  have c1a := B_a.out.c1
  have c2a := B_a.out.c2
  have c0b := B_b.out.c0
  have c1b := B_b.out.c1
  have c2b := B_b.out.c2
  have c0c := B_c.out.c0
  have c1c := B_c.out.c1
  have c2c := B_c.out.c2
  go_wp2_with fail
  refine (HVc.out _).mono ?_
  clear c0a c1a c2a c0b c1b c2b c0c c1c c2c
  rintro e w4 ⟨rfl, bb⟩
  replace bb := nextw (w0 := w3) (by exact ⟨rfl, rfl, rfl, Nat.le_refl _, fun _ _ => rfl⟩) bb
  replace B_a := Lib.hid (Box3.below B_a.out bb B_a.out.lt)
  replace B_b := Lib.hid (Box3.below B_b.out bb B_b.out.lt)
  replace B_c := Lib.hid (Box3.below B_c.out bb B_c.out.lt)
  replace HB := Lib.hid (nextw HB.out bb)
  clear bb
  have c0a := B_a.out.c0
  have c1a := B_a.out.c1
  have c2a := B_a.out.c2
  have c0b := B_b.out.c0
  have c1b := B_b.out.c1
  have c2b := B_b.out.c2
  have c0c := B_c.out.c0
  have c1c := B_c.out.c1
  have c2c := B_c.out.c2
  go_wp2_with fail
  refine (HC.out _).mono ?_
  clear c0a c1a c2a c0b c1b c2b c0c c1c c2c
  rintro e w5 ⟨rfl, bb⟩
  replace bb := nextw (w0 := w4) (by exact ⟨rfl, rfl, rfl, Nat.le_refl _, fun _ _ => rfl⟩) bb
  replace B_a := Lib.hid (Box3.below B_a.out bb B_a.out.lt)
  replace B_b := Lib.hid (Box3.below B_b.out bb B_b.out.lt)
  replace B_c := Lib.hid (Box3.below B_c.out bb B_c.out.lt)
  replace HB := Lib.hid (nextw HB.out bb)
  clear bb
  have c0a := B_a.out.c0
  have c1a := B_a.out.c1
  have c2a := B_a.out.c2
  have c0b := B_b.out.c0
  have c1b := B_b.out.c1
  have c2b := B_b.out.c2
  have c0c := B_c.out.c0
  have c1c := B_c.out.c1
  have c2c := B_c.out.c2
  go_wp2_with fail
  refine (HNa.out _).mono ?_
  clear c0a c1a c2a c0b c1b c2b c0c c1c c2c
  rintro e w6 ⟨rfl, bb⟩
  replace bb := nextw (w0 := w5) (by exact ⟨rfl, rfl, rfl, Nat.le_refl _, fun _ _ => rfl⟩) bb
  replace B_a := Lib.hid (Box3.below B_a.out bb B_a.out.lt)
  replace B_b := Lib.hid (Box3.below B_b.out bb B_b.out.lt)
  replace B_c := Lib.hid (Box3.below B_c.out bb B_c.out.lt)
  replace HB := Lib.hid (nextw HB.out bb)
  clear bb
  have lt_Xa := B_a.out.lt
  have lt_Xb := B_b.out.lt
  have lt_Xc := B_c.out.lt
  have B_X := Lib.hid (Box3.new w6 lx ly ld)
  replace B_a := Lib.hid (Box3.alloc B_a.out (.cells #[.int .i64 lx, .int .i64 ly, .int .i64 ld] 24))
  replace B_b := Lib.hid (Box3.alloc B_b.out (.cells #[.int .i64 lx, .int .i64 ly, .int .i64 ld] 24))
  replace B_c := Lib.hid (Box3.alloc B_c.out (.cells #[.int .i64 lx, .int .i64 ly, .int .i64 ld] 24))
  replace HB := Lib.hid (nextw HB.out ((Below.refl w6.heap.size w6).alloc (Nat.le_refl _) (.cells #[.int .i64 lx, .int .i64 ly, .int .i64 ld] 24)))
  go_upto_region 5 with (fail)
  generalize w6.alloc (.cells #[.int .i64 lx, .int .i64 ly, .int .i64 ld] 24) = WX at *
  have c0a := B_a.out.c0
  have c1a := B_a.out.c1
  have c2a := B_a.out.c2
  have c0b := B_b.out.c0
  have c1b := B_b.out.c1
  have c2b := B_b.out.c2
  have c0c := B_c.out.c0
  have c1c := B_c.out.c1
  have c2c := B_c.out.c2
  go_wp2_with fail
  refine (HNb.out _).mono ?_
  clear c0a c1a c2a c0b c1b c2b c0c c1c c2c
  rintro e w7 ⟨rfl, bb⟩
  replace bb := nextw (w0 := WX) (by exact ⟨rfl, rfl, rfl, Nat.le_refl _, fun _ _ => rfl⟩) bb
  replace B_a := Lib.hid (Box3.below B_a.out bb B_a.out.lt)
  replace B_b := Lib.hid (Box3.below B_b.out bb B_b.out.lt)
  replace B_c := Lib.hid (Box3.below B_c.out bb B_c.out.lt)
  replace B_X := Lib.hid (Box3.below B_X.out bb B_X.out.lt)
  replace HB := Lib.hid (nextw HB.out bb)
  clear bb
  have lt_Ya := B_a.out.lt
  have lt_Yb := B_b.out.lt
  have lt_Yc := B_c.out.lt
  have lt_YX := B_X.out.lt
  have B_Y := Lib.hid (Box3.new w7 lx ly md)
  replace B_a := Lib.hid (Box3.alloc B_a.out (.cells #[.int .i64 lx, .int .i64 ly, .int .i64 md] 24))
  replace B_b := Lib.hid (Box3.alloc B_b.out (.cells #[.int .i64 lx, .int .i64 ly, .int .i64 md] 24))
  replace B_c := Lib.hid (Box3.alloc B_c.out (.cells #[.int .i64 lx, .int .i64 ly, .int .i64 md] 24))
  replace B_X := Lib.hid (Box3.alloc B_X.out (.cells #[.int .i64 lx, .int .i64 ly, .int .i64 md] 24))
  replace HB := Lib.hid (nextw HB.out ((Below.refl w7.heap.size w7).alloc (Nat.le_refl _) (.cells #[.int .i64 lx, .int .i64 ly, .int .i64 md] 24)))
  go_upto_region 6 with (fail)
  generalize w7.alloc (.cells #[.int .i64 lx, .int .i64 ly, .int .i64 md] 24) = WY at *
  clear HA HVa HVb HVc HC HNa HNb
  have c0a := B_a.out.c0
  have c1a := B_a.out.c1
  have c2a := B_a.out.c2
  have c0b := B_b.out.c0
  have c1b := B_b.out.c1
  have c2b := B_b.out.c2
  have c0c := B_c.out.c0
  have c1c := B_c.out.c1
  have c2c := B_c.out.c2
  have c0X := B_X.out.c0
  have c1X := B_X.out.c1
  have c2X := B_X.out.c2
  have c0Y := B_Y.out.c0
  have c1Y := B_Y.out.c1
  have c2Y := B_Y.out.c2
  go_wp2_with fail
  refine (HD.out _).mono ?_
  clear c0a c1a c2a c0b c1b c2b c0c c1c c2c c0X c1X c2X c0Y c1Y c2Y
  rintro e w8 ⟨rfl, bb⟩
  replace bb := nextw (w0 := WY) (by exact ⟨rfl, rfl, rfl, Nat.le_refl _, fun _ _ => rfl⟩) bb
  replace B_a := Lib.hid (Box3.below B_a.out bb B_a.out.lt)
  replace B_b := Lib.hid (Box3.below B_b.out bb B_b.out.lt)
  replace B_c := Lib.hid (Box3.below B_c.out bb B_c.out.lt)
  replace B_X := Lib.hid (Box3.below B_X.out bb B_X.out.lt)
  replace B_Y := Lib.hid (Box3.below B_Y.out bb B_Y.out.lt)
  replace HB := Lib.hid (nextw HB.out bb)
  clear bb
  have c0a := B_a.out.c0
  have c1a := B_a.out.c1
  have c2a := B_a.out.c2
  have c0b := B_b.out.c0
  have c1b := B_b.out.c1
  have c2b := B_b.out.c2
  have c0c := B_c.out.c0
  have c1c := B_c.out.c1
  have c2c := B_c.out.c2
  have c0X := B_X.out.c0
  have c1X := B_X.out.c1
  have c2X := B_X.out.c2
  have c0Y := B_Y.out.c0
  have c1Y := B_Y.out.c1
  have c2Y := B_Y.out.c2
  go_wp2_with fail
  refine (HL.out _).mono ?_
  clear c0a c1a c2a c0b c1b c2b c0c c1c c2c c0X c1X c2X c0Y c1Y c2Y
  rintro e w9 ⟨rfl, bb⟩
  replace bb := nextw (w0 := w8) (by exact ⟨rfl, rfl, rfl, Nat.le_refl _, fun _ _ => rfl⟩) bb
  replace B_a := Lib.hid (Box3.below B_a.out bb B_a.out.lt)
  replace B_b := Lib.hid (Box3.below B_b.out bb B_b.out.lt)
  replace B_c := Lib.hid (Box3.below B_c.out bb B_c.out.lt)
  replace B_X := Lib.hid (Box3.below B_X.out bb B_X.out.lt)
  replace B_Y := Lib.hid (Box3.below B_Y.out bb B_Y.out.lt)
  replace HB := Lib.hid (nextw HB.out bb)
  clear bb
  have c0a := B_a.out.c0
  have c1a := B_a.out.c1
  have c2a := B_a.out.c2
  have c0b := B_b.out.c0
  have c1b := B_b.out.c1
  have c2b := B_b.out.c2
  have c0c := B_c.out.c0
  have c1c := B_c.out.c1
  have c2c := B_c.out.c2
  have c0X := B_X.out.c0
  have c1X := B_X.out.c1
  have c2X := B_X.out.c2
  have c0Y := B_Y.out.c0
  have c1Y := B_Y.out.c1
  have c2Y := B_Y.out.c2
  clear c0a c1a c2a c0b c1b c2b c0c c1c c2c c0X c1X c2X c0Y c1Y c2Y
  go_wp2
  go_ret
  exact ⟨rfl, nextw HB.out (by exact ⟨rfl, rfl, rfl, Nat.le_refl _, fun _ _ => rfl⟩)⟩

set_option maxRecDepth 100000 in
set_option maxHeartbeats 4000000 in
theorem Cs_m3 (a b c : V3) (lx ly ld md : Int) (ha : Ok a) (hb : Ok b) (hc : Ok c) (hL : low a.x a.y a.d = ⟨lx, ly, ld⟩) (hM : low b.x b.y b.d = ⟨lx, ly, md⟩) (n : Int) (hab : cmpV a b = n) (hba : cmpV b a = -n) (n0 : (n == 0) = false) (n1 : -1 ≤ n) (n2 : n ≤ 1) (hne : (ld == md) = false) (n3 : n ≤ 0) (m : Int) (hbc : cmpV b c = m) (m0 : 0 < m)  (w : World) :
    Calls Try.prog 7 #[vv a, vv b, vv c] w fun e w' => e = .returned (.bool true) ∧ Below w.heap.size w w' := by
  have HA := Lib.hid (fun w => awake_any w)
  have HVa := Lib.hid (fun w => BV_yes a ha w)
  have HVb := Lib.hid (fun w => BV_yes b hb w)
  have HVc := Lib.hid (fun w => BV_yes c hc w)
  have HC := Lib.hid (fun w => Cmp_at ha hb hab w)
  have HD := Lib.hid (fun w => Cmp_at hb ha hba w)
  have hl := cmpV_low ha
  have hLo : Ok (low a.x a.y a.d) := Ok.low ha.lo ha.eq (by have := low_le (x := a.x) (y := a.y) ha.lo; have := ha.hi; omega)
  rw [hL] at hl hLo
  have HL := Lib.hid (fun w => Cmp_at ha hLo hl w)
  have HNa := Lib.hid (fun w => Norm_at ha hL w)
  have HNb := Lib.hid (fun w => Norm_at hb hM w)
  have HE := Lib.hid (fun w => Cmp_at hb hc hbc w)
  obtain ⟨x, y, d⟩ := a
  obtain ⟨u, v, f⟩ := b
  obtain ⟨p, q, g⟩ := c
  clear ha hb hc hab hba hl hLo hL hM hbc
  have HB := Lib.hid (show Below w.heap.size w (((w.alloc (.cells #[.int .i64 x, .int .i64 y, .int .i64 d] 24)).alloc (.cells #[.int .i64 u, .int .i64 v, .int .i64 f] 24)).alloc (.cells #[.int .i64 p, .int .i64 q, .int .i64 g] 24)) from ((((Below.refl _ _).alloc (by simp <;> omega) _).alloc (by simp <;> omega) _).alloc (by simp <;> omega) _))
  have B_a : Box3 (((w.alloc (.cells #[.int .i64 x, .int .i64 y, .int .i64 d] 24)).alloc (.cells #[.int .i64 u, .int .i64 v, .int .i64 f] 24)).alloc (.cells #[.int .i64 p, .int .i64 q, .int .i64 g] 24)) (w.heap.size) x y d := by have h := (Box3.alloc (Box3.alloc (Box3.new w x y d) (.cells #[.int .i64 u, .int .i64 v, .int .i64 f] 24)) (.cells #[.int .i64 p, .int .i64 q, .int .i64 g] 24)); simpa using h
  replace B_a := Lib.hid B_a
  have B_b : Box3 (((w.alloc (.cells #[.int .i64 x, .int .i64 y, .int .i64 d] 24)).alloc (.cells #[.int .i64 u, .int .i64 v, .int .i64 f] 24)).alloc (.cells #[.int .i64 p, .int .i64 q, .int .i64 g] 24)) (w.heap.size + 1) u v f := by have h := (Box3.alloc (Box3.new (w.alloc (.cells #[.int .i64 x, .int .i64 y, .int .i64 d] 24)) u v f) (.cells #[.int .i64 p, .int .i64 q, .int .i64 g] 24)); simpa using h
  replace B_b := Lib.hid B_b
  have B_c : Box3 (((w.alloc (.cells #[.int .i64 x, .int .i64 y, .int .i64 d] 24)).alloc (.cells #[.int .i64 u, .int .i64 v, .int .i64 f] 24)).alloc (.cells #[.int .i64 p, .int .i64 q, .int .i64 g] 24)) (w.heap.size + 1 + 1) p q g := by have h := (Box3.new ((w.alloc (.cells #[.int .i64 x, .int .i64 y, .int .i64 d] 24)).alloc (.cells #[.int .i64 u, .int .i64 v, .int .i64 f] 24)) p q g); simpa using h
  replace B_c := Lib.hid B_c
  go_enter Try.func7, Try.ntmps7
  go_wp2_with fail
  generalize ((w.alloc (.cells #[.int .i64 x, .int .i64 y, .int .i64 d] 24)).alloc (.cells #[.int .i64 u, .int .i64 v, .int .i64 f] 24)).alloc (.cells #[.int .i64 p, .int .i64 q, .int .i64 g] 24) = W0 at *
  refine (HA.out _).mono ?_
  rintro e w1 ⟨rfl, bb⟩
  replace bb := nextw (w0 := W0) (by exact ⟨rfl, rfl, rfl, Nat.le_refl _, fun _ _ => rfl⟩) bb
  replace B_a := Lib.hid (Box3.below B_a.out bb B_a.out.lt)
  replace B_b := Lib.hid (Box3.below B_b.out bb B_b.out.lt)
  replace B_c := Lib.hid (Box3.below B_c.out bb B_c.out.lt)
  replace HB := Lib.hid (nextw HB.out bb)
  clear bb
  have c0a := B_a.out.c0
  have c1a := B_a.out.c1
  have c2a := B_a.out.c2
  have c0b := B_b.out.c0
  have c1b := B_b.out.c1
  have c2b := B_b.out.c2
  have c0c := B_c.out.c0
  have c1c := B_c.out.c1
  have c2c := B_c.out.c2
  go_wp2_with fail
  refine (HVa.out _).mono ?_
  clear c0a c1a c2a c0b c1b c2b c0c c1c c2c
  rintro e w2 ⟨rfl, bb⟩
  replace bb := nextw (w0 := w1) (by exact ⟨rfl, rfl, rfl, Nat.le_refl _, fun _ _ => rfl⟩) bb
  replace B_a := Lib.hid (Box3.below B_a.out bb B_a.out.lt)
  replace B_b := Lib.hid (Box3.below B_b.out bb B_b.out.lt)
  replace B_c := Lib.hid (Box3.below B_c.out bb B_c.out.lt)
  replace HB := Lib.hid (nextw HB.out bb)
  clear bb
  have c0a := B_a.out.c0
  have c1a := B_a.out.c1
  have c2a := B_a.out.c2
  have c0b := B_b.out.c0
  have c1b := B_b.out.c1
  have c2b := B_b.out.c2
  have c0c := B_c.out.c0
  have c1c := B_c.out.c1
  have c2c := B_c.out.c2
  go_wp2_with fail
  refine (HVb.out _).mono ?_
  clear c0a c1a c2a c0b c1b c2b c0c c1c c2c
  rintro e w3 ⟨rfl, bb⟩
  replace bb := nextw (w0 := w2) (by exact ⟨rfl, rfl, rfl, Nat.le_refl _, fun _ _ => rfl⟩) bb
  replace B_a := Lib.hid (Box3.below B_a.out bb B_a.out.lt)
  replace B_b := Lib.hid (Box3.below B_b.out bb B_b.out.lt)
  replace B_c := Lib.hid (Box3.below B_c.out bb B_c.out.lt)
  replace HB := Lib.hid (nextw HB.out bb)
  clear bb
  have c0a := B_a.out.c0
  have c1a := B_a.out.c1
  have c2a := B_a.out.c2
  have c0b := B_b.out.c0
  have c1b := B_b.out.c1
  have c2b := B_b.out.c2
  have c0c := B_c.out.c0
  have c1c := B_c.out.c1
  have c2c := B_c.out.c2
  go_wp2_with fail
  refine (HVc.out _).mono ?_
  clear c0a c1a c2a c0b c1b c2b c0c c1c c2c
  rintro e w4 ⟨rfl, bb⟩
  replace bb := nextw (w0 := w3) (by exact ⟨rfl, rfl, rfl, Nat.le_refl _, fun _ _ => rfl⟩) bb
  replace B_a := Lib.hid (Box3.below B_a.out bb B_a.out.lt)
  replace B_b := Lib.hid (Box3.below B_b.out bb B_b.out.lt)
  replace B_c := Lib.hid (Box3.below B_c.out bb B_c.out.lt)
  replace HB := Lib.hid (nextw HB.out bb)
  clear bb
  have c0a := B_a.out.c0
  have c1a := B_a.out.c1
  have c2a := B_a.out.c2
  have c0b := B_b.out.c0
  have c1b := B_b.out.c1
  have c2b := B_b.out.c2
  have c0c := B_c.out.c0
  have c1c := B_c.out.c1
  have c2c := B_c.out.c2
  go_wp2_with fail
  refine (HC.out _).mono ?_
  clear c0a c1a c2a c0b c1b c2b c0c c1c c2c
  rintro e w5 ⟨rfl, bb⟩
  replace bb := nextw (w0 := w4) (by exact ⟨rfl, rfl, rfl, Nat.le_refl _, fun _ _ => rfl⟩) bb
  replace B_a := Lib.hid (Box3.below B_a.out bb B_a.out.lt)
  replace B_b := Lib.hid (Box3.below B_b.out bb B_b.out.lt)
  replace B_c := Lib.hid (Box3.below B_c.out bb B_c.out.lt)
  replace HB := Lib.hid (nextw HB.out bb)
  clear bb
  have c0a := B_a.out.c0
  have c1a := B_a.out.c1
  have c2a := B_a.out.c2
  have c0b := B_b.out.c0
  have c1b := B_b.out.c1
  have c2b := B_b.out.c2
  have c0c := B_c.out.c0
  have c1c := B_c.out.c1
  have c2c := B_c.out.c2
  go_wp2_with fail
  refine (HNa.out _).mono ?_
  clear c0a c1a c2a c0b c1b c2b c0c c1c c2c
  rintro e w6 ⟨rfl, bb⟩
  replace bb := nextw (w0 := w5) (by exact ⟨rfl, rfl, rfl, Nat.le_refl _, fun _ _ => rfl⟩) bb
  replace B_a := Lib.hid (Box3.below B_a.out bb B_a.out.lt)
  replace B_b := Lib.hid (Box3.below B_b.out bb B_b.out.lt)
  replace B_c := Lib.hid (Box3.below B_c.out bb B_c.out.lt)
  replace HB := Lib.hid (nextw HB.out bb)
  clear bb
  have lt_Xa := B_a.out.lt
  have lt_Xb := B_b.out.lt
  have lt_Xc := B_c.out.lt
  have B_X := Lib.hid (Box3.new w6 lx ly ld)
  replace B_a := Lib.hid (Box3.alloc B_a.out (.cells #[.int .i64 lx, .int .i64 ly, .int .i64 ld] 24))
  replace B_b := Lib.hid (Box3.alloc B_b.out (.cells #[.int .i64 lx, .int .i64 ly, .int .i64 ld] 24))
  replace B_c := Lib.hid (Box3.alloc B_c.out (.cells #[.int .i64 lx, .int .i64 ly, .int .i64 ld] 24))
  replace HB := Lib.hid (nextw HB.out ((Below.refl w6.heap.size w6).alloc (Nat.le_refl _) (.cells #[.int .i64 lx, .int .i64 ly, .int .i64 ld] 24)))
  go_upto_region 5 with (fail)
  generalize w6.alloc (.cells #[.int .i64 lx, .int .i64 ly, .int .i64 ld] 24) = WX at *
  have c0a := B_a.out.c0
  have c1a := B_a.out.c1
  have c2a := B_a.out.c2
  have c0b := B_b.out.c0
  have c1b := B_b.out.c1
  have c2b := B_b.out.c2
  have c0c := B_c.out.c0
  have c1c := B_c.out.c1
  have c2c := B_c.out.c2
  go_wp2_with fail
  refine (HNb.out _).mono ?_
  clear c0a c1a c2a c0b c1b c2b c0c c1c c2c
  rintro e w7 ⟨rfl, bb⟩
  replace bb := nextw (w0 := WX) (by exact ⟨rfl, rfl, rfl, Nat.le_refl _, fun _ _ => rfl⟩) bb
  replace B_a := Lib.hid (Box3.below B_a.out bb B_a.out.lt)
  replace B_b := Lib.hid (Box3.below B_b.out bb B_b.out.lt)
  replace B_c := Lib.hid (Box3.below B_c.out bb B_c.out.lt)
  replace B_X := Lib.hid (Box3.below B_X.out bb B_X.out.lt)
  replace HB := Lib.hid (nextw HB.out bb)
  clear bb
  have lt_Ya := B_a.out.lt
  have lt_Yb := B_b.out.lt
  have lt_Yc := B_c.out.lt
  have lt_YX := B_X.out.lt
  have B_Y := Lib.hid (Box3.new w7 lx ly md)
  replace B_a := Lib.hid (Box3.alloc B_a.out (.cells #[.int .i64 lx, .int .i64 ly, .int .i64 md] 24))
  replace B_b := Lib.hid (Box3.alloc B_b.out (.cells #[.int .i64 lx, .int .i64 ly, .int .i64 md] 24))
  replace B_c := Lib.hid (Box3.alloc B_c.out (.cells #[.int .i64 lx, .int .i64 ly, .int .i64 md] 24))
  replace B_X := Lib.hid (Box3.alloc B_X.out (.cells #[.int .i64 lx, .int .i64 ly, .int .i64 md] 24))
  replace HB := Lib.hid (nextw HB.out ((Below.refl w7.heap.size w7).alloc (Nat.le_refl _) (.cells #[.int .i64 lx, .int .i64 ly, .int .i64 md] 24)))
  go_upto_region 6 with (fail)
  generalize w7.alloc (.cells #[.int .i64 lx, .int .i64 ly, .int .i64 md] 24) = WY at *
  clear HA HVa HVb HVc HC HNa HNb
  have c0a := B_a.out.c0
  have c1a := B_a.out.c1
  have c2a := B_a.out.c2
  have c0b := B_b.out.c0
  have c1b := B_b.out.c1
  have c2b := B_b.out.c2
  have c0c := B_c.out.c0
  have c1c := B_c.out.c1
  have c2c := B_c.out.c2
  have c0X := B_X.out.c0
  have c1X := B_X.out.c1
  have c2X := B_X.out.c2
  have c0Y := B_Y.out.c0
  have c1Y := B_Y.out.c1
  have c2Y := B_Y.out.c2
  go_wp2_with fail
  refine (HD.out _).mono ?_
  clear c0a c1a c2a c0b c1b c2b c0c c1c c2c c0X c1X c2X c0Y c1Y c2Y
  rintro e w8 ⟨rfl, bb⟩
  replace bb := nextw (w0 := WY) (by exact ⟨rfl, rfl, rfl, Nat.le_refl _, fun _ _ => rfl⟩) bb
  replace B_a := Lib.hid (Box3.below B_a.out bb B_a.out.lt)
  replace B_b := Lib.hid (Box3.below B_b.out bb B_b.out.lt)
  replace B_c := Lib.hid (Box3.below B_c.out bb B_c.out.lt)
  replace B_X := Lib.hid (Box3.below B_X.out bb B_X.out.lt)
  replace B_Y := Lib.hid (Box3.below B_Y.out bb B_Y.out.lt)
  replace HB := Lib.hid (nextw HB.out bb)
  clear bb
  have c0a := B_a.out.c0
  have c1a := B_a.out.c1
  have c2a := B_a.out.c2
  have c0b := B_b.out.c0
  have c1b := B_b.out.c1
  have c2b := B_b.out.c2
  have c0c := B_c.out.c0
  have c1c := B_c.out.c1
  have c2c := B_c.out.c2
  have c0X := B_X.out.c0
  have c1X := B_X.out.c1
  have c2X := B_X.out.c2
  have c0Y := B_Y.out.c0
  have c1Y := B_Y.out.c1
  have c2Y := B_Y.out.c2
  go_wp2_with fail
  refine (HL.out _).mono ?_
  clear c0a c1a c2a c0b c1b c2b c0c c1c c2c c0X c1X c2X c0Y c1Y c2Y
  rintro e w9 ⟨rfl, bb⟩
  replace bb := nextw (w0 := w8) (by exact ⟨rfl, rfl, rfl, Nat.le_refl _, fun _ _ => rfl⟩) bb
  replace B_a := Lib.hid (Box3.below B_a.out bb B_a.out.lt)
  replace B_b := Lib.hid (Box3.below B_b.out bb B_b.out.lt)
  replace B_c := Lib.hid (Box3.below B_c.out bb B_c.out.lt)
  replace B_X := Lib.hid (Box3.below B_X.out bb B_X.out.lt)
  replace B_Y := Lib.hid (Box3.below B_Y.out bb B_Y.out.lt)
  replace HB := Lib.hid (nextw HB.out bb)
  clear bb
  have c0a := B_a.out.c0
  have c1a := B_a.out.c1
  have c2a := B_a.out.c2
  have c0b := B_b.out.c0
  have c1b := B_b.out.c1
  have c2b := B_b.out.c2
  have c0c := B_c.out.c0
  have c1c := B_c.out.c1
  have c2c := B_c.out.c2
  have c0X := B_X.out.c0
  have c1X := B_X.out.c1
  have c2X := B_X.out.c2
  have c0Y := B_Y.out.c0
  have c1Y := B_Y.out.c1
  have c2Y := B_Y.out.c2
  go_wp2_with fail
  refine (HE.out _).mono ?_
  clear c0a c1a c2a c0b c1b c2b c0c c1c c2c c0X c1X c2X c0Y c1Y c2Y
  rintro e w10 ⟨rfl, bb⟩
  replace bb := nextw (w0 := w9) (by exact ⟨rfl, rfl, rfl, Nat.le_refl _, fun _ _ => rfl⟩) bb
  replace B_a := Lib.hid (Box3.below B_a.out bb B_a.out.lt)
  replace B_b := Lib.hid (Box3.below B_b.out bb B_b.out.lt)
  replace B_c := Lib.hid (Box3.below B_c.out bb B_c.out.lt)
  replace B_X := Lib.hid (Box3.below B_X.out bb B_X.out.lt)
  replace B_Y := Lib.hid (Box3.below B_Y.out bb B_Y.out.lt)
  replace HB := Lib.hid (nextw HB.out bb)
  clear bb
  have c0a := B_a.out.c0
  have c1a := B_a.out.c1
  have c2a := B_a.out.c2
  have c0b := B_b.out.c0
  have c1b := B_b.out.c1
  have c2b := B_b.out.c2
  have c0c := B_c.out.c0
  have c1c := B_c.out.c1
  have c2c := B_c.out.c2
  have c0X := B_X.out.c0
  have c1X := B_X.out.c1
  have c2X := B_X.out.c2
  have c0Y := B_Y.out.c0
  have c1Y := B_Y.out.c1
  have c2Y := B_Y.out.c2
  clear c0a c1a c2a c0b c1b c2b c0c c1c c2c c0X c1X c2X c0Y c1Y c2Y
  go_wp2
  go_ret
  exact ⟨rfl, nextw HB.out (by exact ⟨rfl, rfl, rfl, Nat.le_refl _, fun _ _ => rfl⟩)⟩

set_option maxRecDepth 100000 in
set_option maxHeartbeats 4000000 in
theorem Cs_r3 (a b c : V3) (lx ly ld md : Int) (ha : Ok a) (hb : Ok b) (hc : Ok c) (hL : low a.x a.y a.d = ⟨lx, ly, ld⟩) (hM : low b.x b.y b.d = ⟨lx, ly, md⟩) (n : Int) (hab : cmpV a b = n) (hba : cmpV b a = -n) (n0 : (n == 0) = false) (n1 : -1 ≤ n) (n2 : n ≤ 1) (hne : (ld == md) = false) (n3 : n ≤ 0) (m r : Int) (hbc : cmpV b c = m) (m0 : m ≤ 0) (hac : cmpV a c = r) (r0 : r ≤ 0)  (w : World) :
    Calls Try.prog 7 #[vv a, vv b, vv c] w fun e w' => e = .returned (.bool true) ∧ Below w.heap.size w w' := by
  have HA := Lib.hid (fun w => awake_any w)
  have HVa := Lib.hid (fun w => BV_yes a ha w)
  have HVb := Lib.hid (fun w => BV_yes b hb w)
  have HVc := Lib.hid (fun w => BV_yes c hc w)
  have HC := Lib.hid (fun w => Cmp_at ha hb hab w)
  have HD := Lib.hid (fun w => Cmp_at hb ha hba w)
  have hl := cmpV_low ha
  have hLo : Ok (low a.x a.y a.d) := Ok.low ha.lo ha.eq (by have := low_le (x := a.x) (y := a.y) ha.lo; have := ha.hi; omega)
  rw [hL] at hl hLo
  have HL := Lib.hid (fun w => Cmp_at ha hLo hl w)
  have HNa := Lib.hid (fun w => Norm_at ha hL w)
  have HNb := Lib.hid (fun w => Norm_at hb hM w)
  have HE := Lib.hid (fun w => Cmp_at hb hc hbc w)
  have HF := Lib.hid (fun w => Cmp_at ha hc hac w)
  obtain ⟨x, y, d⟩ := a
  obtain ⟨u, v, f⟩ := b
  obtain ⟨p, q, g⟩ := c
  clear ha hb hc hab hba hl hLo hL hM hbc hac
  have HB := Lib.hid (show Below w.heap.size w (((w.alloc (.cells #[.int .i64 x, .int .i64 y, .int .i64 d] 24)).alloc (.cells #[.int .i64 u, .int .i64 v, .int .i64 f] 24)).alloc (.cells #[.int .i64 p, .int .i64 q, .int .i64 g] 24)) from ((((Below.refl _ _).alloc (by simp <;> omega) _).alloc (by simp <;> omega) _).alloc (by simp <;> omega) _))
  have B_a : Box3 (((w.alloc (.cells #[.int .i64 x, .int .i64 y, .int .i64 d] 24)).alloc (.cells #[.int .i64 u, .int .i64 v, .int .i64 f] 24)).alloc (.cells #[.int .i64 p, .int .i64 q, .int .i64 g] 24)) (w.heap.size) x y d := by have h := (Box3.alloc (Box3.alloc (Box3.new w x y d) (.cells #[.int .i64 u, .int .i64 v, .int .i64 f] 24)) (.cells #[.int .i64 p, .int .i64 q, .int .i64 g] 24)); simpa using h
  replace B_a := Lib.hid B_a
  have B_b : Box3 (((w.alloc (.cells #[.int .i64 x, .int .i64 y, .int .i64 d] 24)).alloc (.cells #[.int .i64 u, .int .i64 v, .int .i64 f] 24)).alloc (.cells #[.int .i64 p, .int .i64 q, .int .i64 g] 24)) (w.heap.size + 1) u v f := by have h := (Box3.alloc (Box3.new (w.alloc (.cells #[.int .i64 x, .int .i64 y, .int .i64 d] 24)) u v f) (.cells #[.int .i64 p, .int .i64 q, .int .i64 g] 24)); simpa using h
  replace B_b := Lib.hid B_b
  have B_c : Box3 (((w.alloc (.cells #[.int .i64 x, .int .i64 y, .int .i64 d] 24)).alloc (.cells #[.int .i64 u, .int .i64 v, .int .i64 f] 24)).alloc (.cells #[.int .i64 p, .int .i64 q, .int .i64 g] 24)) (w.heap.size + 1 + 1) p q g := by have h := (Box3.new ((w.alloc (.cells #[.int .i64 x, .int .i64 y, .int .i64 d] 24)).alloc (.cells #[.int .i64 u, .int .i64 v, .int .i64 f] 24)) p q g); simpa using h
  replace B_c := Lib.hid B_c
  go_enter Try.func7, Try.ntmps7
  go_wp2_with fail
  generalize ((w.alloc (.cells #[.int .i64 x, .int .i64 y, .int .i64 d] 24)).alloc (.cells #[.int .i64 u, .int .i64 v, .int .i64 f] 24)).alloc (.cells #[.int .i64 p, .int .i64 q, .int .i64 g] 24) = W0 at *
  refine (HA.out _).mono ?_
  rintro e w1 ⟨rfl, bb⟩
  replace bb := nextw (w0 := W0) (by exact ⟨rfl, rfl, rfl, Nat.le_refl _, fun _ _ => rfl⟩) bb
  replace B_a := Lib.hid (Box3.below B_a.out bb B_a.out.lt)
  replace B_b := Lib.hid (Box3.below B_b.out bb B_b.out.lt)
  replace B_c := Lib.hid (Box3.below B_c.out bb B_c.out.lt)
  replace HB := Lib.hid (nextw HB.out bb)
  clear bb
  have c0a := B_a.out.c0
  have c1a := B_a.out.c1
  have c2a := B_a.out.c2
  have c0b := B_b.out.c0
  have c1b := B_b.out.c1
  have c2b := B_b.out.c2
  have c0c := B_c.out.c0
  have c1c := B_c.out.c1
  have c2c := B_c.out.c2
  go_wp2_with fail
  refine (HVa.out _).mono ?_
  clear c0a c1a c2a c0b c1b c2b c0c c1c c2c
  rintro e w2 ⟨rfl, bb⟩
  replace bb := nextw (w0 := w1) (by exact ⟨rfl, rfl, rfl, Nat.le_refl _, fun _ _ => rfl⟩) bb
  replace B_a := Lib.hid (Box3.below B_a.out bb B_a.out.lt)
  replace B_b := Lib.hid (Box3.below B_b.out bb B_b.out.lt)
  replace B_c := Lib.hid (Box3.below B_c.out bb B_c.out.lt)
  replace HB := Lib.hid (nextw HB.out bb)
  clear bb
  have c0a := B_a.out.c0
  have c1a := B_a.out.c1
  have c2a := B_a.out.c2
  have c0b := B_b.out.c0
  have c1b := B_b.out.c1
  have c2b := B_b.out.c2
  have c0c := B_c.out.c0
  have c1c := B_c.out.c1
  have c2c := B_c.out.c2
  go_wp2_with fail
  refine (HVb.out _).mono ?_
  clear c0a c1a c2a c0b c1b c2b c0c c1c c2c
  rintro e w3 ⟨rfl, bb⟩
  replace bb := nextw (w0 := w2) (by exact ⟨rfl, rfl, rfl, Nat.le_refl _, fun _ _ => rfl⟩) bb
  replace B_a := Lib.hid (Box3.below B_a.out bb B_a.out.lt)
  replace B_b := Lib.hid (Box3.below B_b.out bb B_b.out.lt)
  replace B_c := Lib.hid (Box3.below B_c.out bb B_c.out.lt)
  replace HB := Lib.hid (nextw HB.out bb)
  clear bb
  have c0a := B_a.out.c0
  have c1a := B_a.out.c1
  have c2a := B_a.out.c2
  have c0b := B_b.out.c0
  have c1b := B_b.out.c1
  have c2b := B_b.out.c2
  have c0c := B_c.out.c0
  have c1c := B_c.out.c1
  have c2c := B_c.out.c2
  go_wp2_with fail
  refine (HVc.out _).mono ?_
  clear c0a c1a c2a c0b c1b c2b c0c c1c c2c
  rintro e w4 ⟨rfl, bb⟩
  replace bb := nextw (w0 := w3) (by exact ⟨rfl, rfl, rfl, Nat.le_refl _, fun _ _ => rfl⟩) bb
  replace B_a := Lib.hid (Box3.below B_a.out bb B_a.out.lt)
  replace B_b := Lib.hid (Box3.below B_b.out bb B_b.out.lt)
  replace B_c := Lib.hid (Box3.below B_c.out bb B_c.out.lt)
  replace HB := Lib.hid (nextw HB.out bb)
  clear bb
  have c0a := B_a.out.c0
  have c1a := B_a.out.c1
  have c2a := B_a.out.c2
  have c0b := B_b.out.c0
  have c1b := B_b.out.c1
  have c2b := B_b.out.c2
  have c0c := B_c.out.c0
  have c1c := B_c.out.c1
  have c2c := B_c.out.c2
  go_wp2_with fail
  refine (HC.out _).mono ?_
  clear c0a c1a c2a c0b c1b c2b c0c c1c c2c
  rintro e w5 ⟨rfl, bb⟩
  replace bb := nextw (w0 := w4) (by exact ⟨rfl, rfl, rfl, Nat.le_refl _, fun _ _ => rfl⟩) bb
  replace B_a := Lib.hid (Box3.below B_a.out bb B_a.out.lt)
  replace B_b := Lib.hid (Box3.below B_b.out bb B_b.out.lt)
  replace B_c := Lib.hid (Box3.below B_c.out bb B_c.out.lt)
  replace HB := Lib.hid (nextw HB.out bb)
  clear bb
  have c0a := B_a.out.c0
  have c1a := B_a.out.c1
  have c2a := B_a.out.c2
  have c0b := B_b.out.c0
  have c1b := B_b.out.c1
  have c2b := B_b.out.c2
  have c0c := B_c.out.c0
  have c1c := B_c.out.c1
  have c2c := B_c.out.c2
  go_wp2_with fail
  refine (HNa.out _).mono ?_
  clear c0a c1a c2a c0b c1b c2b c0c c1c c2c
  rintro e w6 ⟨rfl, bb⟩
  replace bb := nextw (w0 := w5) (by exact ⟨rfl, rfl, rfl, Nat.le_refl _, fun _ _ => rfl⟩) bb
  replace B_a := Lib.hid (Box3.below B_a.out bb B_a.out.lt)
  replace B_b := Lib.hid (Box3.below B_b.out bb B_b.out.lt)
  replace B_c := Lib.hid (Box3.below B_c.out bb B_c.out.lt)
  replace HB := Lib.hid (nextw HB.out bb)
  clear bb
  have lt_Xa := B_a.out.lt
  have lt_Xb := B_b.out.lt
  have lt_Xc := B_c.out.lt
  have B_X := Lib.hid (Box3.new w6 lx ly ld)
  replace B_a := Lib.hid (Box3.alloc B_a.out (.cells #[.int .i64 lx, .int .i64 ly, .int .i64 ld] 24))
  replace B_b := Lib.hid (Box3.alloc B_b.out (.cells #[.int .i64 lx, .int .i64 ly, .int .i64 ld] 24))
  replace B_c := Lib.hid (Box3.alloc B_c.out (.cells #[.int .i64 lx, .int .i64 ly, .int .i64 ld] 24))
  replace HB := Lib.hid (nextw HB.out ((Below.refl w6.heap.size w6).alloc (Nat.le_refl _) (.cells #[.int .i64 lx, .int .i64 ly, .int .i64 ld] 24)))
  go_upto_region 5 with (fail)
  generalize w6.alloc (.cells #[.int .i64 lx, .int .i64 ly, .int .i64 ld] 24) = WX at *
  have c0a := B_a.out.c0
  have c1a := B_a.out.c1
  have c2a := B_a.out.c2
  have c0b := B_b.out.c0
  have c1b := B_b.out.c1
  have c2b := B_b.out.c2
  have c0c := B_c.out.c0
  have c1c := B_c.out.c1
  have c2c := B_c.out.c2
  go_wp2_with fail
  refine (HNb.out _).mono ?_
  clear c0a c1a c2a c0b c1b c2b c0c c1c c2c
  rintro e w7 ⟨rfl, bb⟩
  replace bb := nextw (w0 := WX) (by exact ⟨rfl, rfl, rfl, Nat.le_refl _, fun _ _ => rfl⟩) bb
  replace B_a := Lib.hid (Box3.below B_a.out bb B_a.out.lt)
  replace B_b := Lib.hid (Box3.below B_b.out bb B_b.out.lt)
  replace B_c := Lib.hid (Box3.below B_c.out bb B_c.out.lt)
  replace B_X := Lib.hid (Box3.below B_X.out bb B_X.out.lt)
  replace HB := Lib.hid (nextw HB.out bb)
  clear bb
  have lt_Ya := B_a.out.lt
  have lt_Yb := B_b.out.lt
  have lt_Yc := B_c.out.lt
  have lt_YX := B_X.out.lt
  have B_Y := Lib.hid (Box3.new w7 lx ly md)
  replace B_a := Lib.hid (Box3.alloc B_a.out (.cells #[.int .i64 lx, .int .i64 ly, .int .i64 md] 24))
  replace B_b := Lib.hid (Box3.alloc B_b.out (.cells #[.int .i64 lx, .int .i64 ly, .int .i64 md] 24))
  replace B_c := Lib.hid (Box3.alloc B_c.out (.cells #[.int .i64 lx, .int .i64 ly, .int .i64 md] 24))
  replace B_X := Lib.hid (Box3.alloc B_X.out (.cells #[.int .i64 lx, .int .i64 ly, .int .i64 md] 24))
  replace HB := Lib.hid (nextw HB.out ((Below.refl w7.heap.size w7).alloc (Nat.le_refl _) (.cells #[.int .i64 lx, .int .i64 ly, .int .i64 md] 24)))
  go_upto_region 6 with (fail)
  generalize w7.alloc (.cells #[.int .i64 lx, .int .i64 ly, .int .i64 md] 24) = WY at *
  clear HA HVa HVb HVc HC HNa HNb
  have c0a := B_a.out.c0
  have c1a := B_a.out.c1
  have c2a := B_a.out.c2
  have c0b := B_b.out.c0
  have c1b := B_b.out.c1
  have c2b := B_b.out.c2
  have c0c := B_c.out.c0
  have c1c := B_c.out.c1
  have c2c := B_c.out.c2
  have c0X := B_X.out.c0
  have c1X := B_X.out.c1
  have c2X := B_X.out.c2
  have c0Y := B_Y.out.c0
  have c1Y := B_Y.out.c1
  have c2Y := B_Y.out.c2
  go_wp2_with fail
  refine (HD.out _).mono ?_
  clear c0a c1a c2a c0b c1b c2b c0c c1c c2c c0X c1X c2X c0Y c1Y c2Y
  rintro e w8 ⟨rfl, bb⟩
  replace bb := nextw (w0 := WY) (by exact ⟨rfl, rfl, rfl, Nat.le_refl _, fun _ _ => rfl⟩) bb
  replace B_a := Lib.hid (Box3.below B_a.out bb B_a.out.lt)
  replace B_b := Lib.hid (Box3.below B_b.out bb B_b.out.lt)
  replace B_c := Lib.hid (Box3.below B_c.out bb B_c.out.lt)
  replace B_X := Lib.hid (Box3.below B_X.out bb B_X.out.lt)
  replace B_Y := Lib.hid (Box3.below B_Y.out bb B_Y.out.lt)
  replace HB := Lib.hid (nextw HB.out bb)
  clear bb
  have c0a := B_a.out.c0
  have c1a := B_a.out.c1
  have c2a := B_a.out.c2
  have c0b := B_b.out.c0
  have c1b := B_b.out.c1
  have c2b := B_b.out.c2
  have c0c := B_c.out.c0
  have c1c := B_c.out.c1
  have c2c := B_c.out.c2
  have c0X := B_X.out.c0
  have c1X := B_X.out.c1
  have c2X := B_X.out.c2
  have c0Y := B_Y.out.c0
  have c1Y := B_Y.out.c1
  have c2Y := B_Y.out.c2
  go_wp2_with fail
  refine (HL.out _).mono ?_
  clear c0a c1a c2a c0b c1b c2b c0c c1c c2c c0X c1X c2X c0Y c1Y c2Y
  rintro e w9 ⟨rfl, bb⟩
  replace bb := nextw (w0 := w8) (by exact ⟨rfl, rfl, rfl, Nat.le_refl _, fun _ _ => rfl⟩) bb
  replace B_a := Lib.hid (Box3.below B_a.out bb B_a.out.lt)
  replace B_b := Lib.hid (Box3.below B_b.out bb B_b.out.lt)
  replace B_c := Lib.hid (Box3.below B_c.out bb B_c.out.lt)
  replace B_X := Lib.hid (Box3.below B_X.out bb B_X.out.lt)
  replace B_Y := Lib.hid (Box3.below B_Y.out bb B_Y.out.lt)
  replace HB := Lib.hid (nextw HB.out bb)
  clear bb
  have c0a := B_a.out.c0
  have c1a := B_a.out.c1
  have c2a := B_a.out.c2
  have c0b := B_b.out.c0
  have c1b := B_b.out.c1
  have c2b := B_b.out.c2
  have c0c := B_c.out.c0
  have c1c := B_c.out.c1
  have c2c := B_c.out.c2
  have c0X := B_X.out.c0
  have c1X := B_X.out.c1
  have c2X := B_X.out.c2
  have c0Y := B_Y.out.c0
  have c1Y := B_Y.out.c1
  have c2Y := B_Y.out.c2
  go_wp2_with fail
  refine (HE.out _).mono ?_
  clear c0a c1a c2a c0b c1b c2b c0c c1c c2c c0X c1X c2X c0Y c1Y c2Y
  rintro e w10 ⟨rfl, bb⟩
  replace bb := nextw (w0 := w9) (by exact ⟨rfl, rfl, rfl, Nat.le_refl _, fun _ _ => rfl⟩) bb
  replace B_a := Lib.hid (Box3.below B_a.out bb B_a.out.lt)
  replace B_b := Lib.hid (Box3.below B_b.out bb B_b.out.lt)
  replace B_c := Lib.hid (Box3.below B_c.out bb B_c.out.lt)
  replace B_X := Lib.hid (Box3.below B_X.out bb B_X.out.lt)
  replace B_Y := Lib.hid (Box3.below B_Y.out bb B_Y.out.lt)
  replace HB := Lib.hid (nextw HB.out bb)
  clear bb
  have c0a := B_a.out.c0
  have c1a := B_a.out.c1
  have c2a := B_a.out.c2
  have c0b := B_b.out.c0
  have c1b := B_b.out.c1
  have c2b := B_b.out.c2
  have c0c := B_c.out.c0
  have c1c := B_c.out.c1
  have c2c := B_c.out.c2
  have c0X := B_X.out.c0
  have c1X := B_X.out.c1
  have c2X := B_X.out.c2
  have c0Y := B_Y.out.c0
  have c1Y := B_Y.out.c1
  have c2Y := B_Y.out.c2
  go_wp2_with fail
  refine (HF.out _).mono ?_
  clear c0a c1a c2a c0b c1b c2b c0c c1c c2c c0X c1X c2X c0Y c1Y c2Y
  rintro e w11 ⟨rfl, bb⟩
  replace bb := nextw (w0 := w10) (by exact ⟨rfl, rfl, rfl, Nat.le_refl _, fun _ _ => rfl⟩) bb
  replace B_a := Lib.hid (Box3.below B_a.out bb B_a.out.lt)
  replace B_b := Lib.hid (Box3.below B_b.out bb B_b.out.lt)
  replace B_c := Lib.hid (Box3.below B_c.out bb B_c.out.lt)
  replace B_X := Lib.hid (Box3.below B_X.out bb B_X.out.lt)
  replace B_Y := Lib.hid (Box3.below B_Y.out bb B_Y.out.lt)
  replace HB := Lib.hid (nextw HB.out bb)
  clear bb
  go_wp2
  go_ret
  exact ⟨rfl, nextw HB.out (by exact ⟨rfl, rfl, rfl, Nat.le_refl _, fun _ _ => rfl⟩)⟩

set_option maxRecDepth 100000 in
set_option maxHeartbeats 4000000 in
theorem Cs_zm (a b c : V3) (lx ly ld : Int) (ha : Ok a) (hb : Ok b) (hc : Ok c) (hL : low a.x a.y a.d = ⟨lx, ly, ld⟩) (hM : low b.x b.y b.d = ⟨lx, ly, ld⟩) (hab : cmpV a b = 0) (hba : cmpV b a = 0) (m : Int) (hbc : cmpV b c = m) (m0 : 0 < m)  (w : World) :
    Calls Try.prog 7 #[vv a, vv b, vv c] w fun e w' => e = .returned (.bool true) ∧ Below w.heap.size w w' := by
  have HA := Lib.hid (fun w => awake_any w)
  have HVa := Lib.hid (fun w => BV_yes a ha w)
  have HVb := Lib.hid (fun w => BV_yes b hb w)
  have HVc := Lib.hid (fun w => BV_yes c hc w)
  have HC := Lib.hid (fun w => Cmp_at ha hb hab w)
  have HD := Lib.hid (fun w => Cmp_at hb ha hba w)
  have hl := cmpV_low ha
  have hLo : Ok (low a.x a.y a.d) := Ok.low ha.lo ha.eq (by have := low_le (x := a.x) (y := a.y) ha.lo; have := ha.hi; omega)
  rw [hL] at hl hLo
  have HL := Lib.hid (fun w => Cmp_at ha hLo hl w)
  have HNa := Lib.hid (fun w => Norm_at ha hL w)
  have HNb := Lib.hid (fun w => Norm_at hb hM w)
  have HE := Lib.hid (fun w => Cmp_at hb hc hbc w)
  obtain ⟨x, y, d⟩ := a
  obtain ⟨u, v, f⟩ := b
  obtain ⟨p, q, g⟩ := c
  clear ha hb hc hab hba hl hLo hL hM hbc
  have HB := Lib.hid (show Below w.heap.size w (((w.alloc (.cells #[.int .i64 x, .int .i64 y, .int .i64 d] 24)).alloc (.cells #[.int .i64 u, .int .i64 v, .int .i64 f] 24)).alloc (.cells #[.int .i64 p, .int .i64 q, .int .i64 g] 24)) from ((((Below.refl _ _).alloc (by simp <;> omega) _).alloc (by simp <;> omega) _).alloc (by simp <;> omega) _))
  have B_a : Box3 (((w.alloc (.cells #[.int .i64 x, .int .i64 y, .int .i64 d] 24)).alloc (.cells #[.int .i64 u, .int .i64 v, .int .i64 f] 24)).alloc (.cells #[.int .i64 p, .int .i64 q, .int .i64 g] 24)) (w.heap.size) x y d := by have h := (Box3.alloc (Box3.alloc (Box3.new w x y d) (.cells #[.int .i64 u, .int .i64 v, .int .i64 f] 24)) (.cells #[.int .i64 p, .int .i64 q, .int .i64 g] 24)); simpa using h
  replace B_a := Lib.hid B_a
  have B_b : Box3 (((w.alloc (.cells #[.int .i64 x, .int .i64 y, .int .i64 d] 24)).alloc (.cells #[.int .i64 u, .int .i64 v, .int .i64 f] 24)).alloc (.cells #[.int .i64 p, .int .i64 q, .int .i64 g] 24)) (w.heap.size + 1) u v f := by have h := (Box3.alloc (Box3.new (w.alloc (.cells #[.int .i64 x, .int .i64 y, .int .i64 d] 24)) u v f) (.cells #[.int .i64 p, .int .i64 q, .int .i64 g] 24)); simpa using h
  replace B_b := Lib.hid B_b
  have B_c : Box3 (((w.alloc (.cells #[.int .i64 x, .int .i64 y, .int .i64 d] 24)).alloc (.cells #[.int .i64 u, .int .i64 v, .int .i64 f] 24)).alloc (.cells #[.int .i64 p, .int .i64 q, .int .i64 g] 24)) (w.heap.size + 1 + 1) p q g := by have h := (Box3.new ((w.alloc (.cells #[.int .i64 x, .int .i64 y, .int .i64 d] 24)).alloc (.cells #[.int .i64 u, .int .i64 v, .int .i64 f] 24)) p q g); simpa using h
  replace B_c := Lib.hid B_c
  go_enter Try.func7, Try.ntmps7
  go_wp2_with fail
  generalize ((w.alloc (.cells #[.int .i64 x, .int .i64 y, .int .i64 d] 24)).alloc (.cells #[.int .i64 u, .int .i64 v, .int .i64 f] 24)).alloc (.cells #[.int .i64 p, .int .i64 q, .int .i64 g] 24) = W0 at *
  refine (HA.out _).mono ?_
  rintro e w1 ⟨rfl, bb⟩
  replace bb := nextw (w0 := W0) (by exact ⟨rfl, rfl, rfl, Nat.le_refl _, fun _ _ => rfl⟩) bb
  replace B_a := Lib.hid (Box3.below B_a.out bb B_a.out.lt)
  replace B_b := Lib.hid (Box3.below B_b.out bb B_b.out.lt)
  replace B_c := Lib.hid (Box3.below B_c.out bb B_c.out.lt)
  replace HB := Lib.hid (nextw HB.out bb)
  clear bb
  have c0a := B_a.out.c0
  have c1a := B_a.out.c1
  have c2a := B_a.out.c2
  have c0b := B_b.out.c0
  have c1b := B_b.out.c1
  have c2b := B_b.out.c2
  have c0c := B_c.out.c0
  have c1c := B_c.out.c1
  have c2c := B_c.out.c2
  go_wp2_with fail
  refine (HVa.out _).mono ?_
  clear c0a c1a c2a c0b c1b c2b c0c c1c c2c
  rintro e w2 ⟨rfl, bb⟩
  replace bb := nextw (w0 := w1) (by exact ⟨rfl, rfl, rfl, Nat.le_refl _, fun _ _ => rfl⟩) bb
  replace B_a := Lib.hid (Box3.below B_a.out bb B_a.out.lt)
  replace B_b := Lib.hid (Box3.below B_b.out bb B_b.out.lt)
  replace B_c := Lib.hid (Box3.below B_c.out bb B_c.out.lt)
  replace HB := Lib.hid (nextw HB.out bb)
  clear bb
  have c0a := B_a.out.c0
  have c1a := B_a.out.c1
  have c2a := B_a.out.c2
  have c0b := B_b.out.c0
  have c1b := B_b.out.c1
  have c2b := B_b.out.c2
  have c0c := B_c.out.c0
  have c1c := B_c.out.c1
  have c2c := B_c.out.c2
  go_wp2_with fail
  refine (HVb.out _).mono ?_
  clear c0a c1a c2a c0b c1b c2b c0c c1c c2c
  rintro e w3 ⟨rfl, bb⟩
  replace bb := nextw (w0 := w2) (by exact ⟨rfl, rfl, rfl, Nat.le_refl _, fun _ _ => rfl⟩) bb
  replace B_a := Lib.hid (Box3.below B_a.out bb B_a.out.lt)
  replace B_b := Lib.hid (Box3.below B_b.out bb B_b.out.lt)
  replace B_c := Lib.hid (Box3.below B_c.out bb B_c.out.lt)
  replace HB := Lib.hid (nextw HB.out bb)
  clear bb
  have c0a := B_a.out.c0
  have c1a := B_a.out.c1
  have c2a := B_a.out.c2
  have c0b := B_b.out.c0
  have c1b := B_b.out.c1
  have c2b := B_b.out.c2
  have c0c := B_c.out.c0
  have c1c := B_c.out.c1
  have c2c := B_c.out.c2
  go_wp2_with fail
  refine (HVc.out _).mono ?_
  clear c0a c1a c2a c0b c1b c2b c0c c1c c2c
  rintro e w4 ⟨rfl, bb⟩
  replace bb := nextw (w0 := w3) (by exact ⟨rfl, rfl, rfl, Nat.le_refl _, fun _ _ => rfl⟩) bb
  replace B_a := Lib.hid (Box3.below B_a.out bb B_a.out.lt)
  replace B_b := Lib.hid (Box3.below B_b.out bb B_b.out.lt)
  replace B_c := Lib.hid (Box3.below B_c.out bb B_c.out.lt)
  replace HB := Lib.hid (nextw HB.out bb)
  clear bb
  have c0a := B_a.out.c0
  have c1a := B_a.out.c1
  have c2a := B_a.out.c2
  have c0b := B_b.out.c0
  have c1b := B_b.out.c1
  have c2b := B_b.out.c2
  have c0c := B_c.out.c0
  have c1c := B_c.out.c1
  have c2c := B_c.out.c2
  go_wp2_with fail
  refine (HC.out _).mono ?_
  clear c0a c1a c2a c0b c1b c2b c0c c1c c2c
  rintro e w5 ⟨rfl, bb⟩
  replace bb := nextw (w0 := w4) (by exact ⟨rfl, rfl, rfl, Nat.le_refl _, fun _ _ => rfl⟩) bb
  replace B_a := Lib.hid (Box3.below B_a.out bb B_a.out.lt)
  replace B_b := Lib.hid (Box3.below B_b.out bb B_b.out.lt)
  replace B_c := Lib.hid (Box3.below B_c.out bb B_c.out.lt)
  replace HB := Lib.hid (nextw HB.out bb)
  clear bb
  have c0a := B_a.out.c0
  have c1a := B_a.out.c1
  have c2a := B_a.out.c2
  have c0b := B_b.out.c0
  have c1b := B_b.out.c1
  have c2b := B_b.out.c2
  have c0c := B_c.out.c0
  have c1c := B_c.out.c1
  have c2c := B_c.out.c2
  go_wp2_with fail
  refine (HNa.out _).mono ?_
  clear c0a c1a c2a c0b c1b c2b c0c c1c c2c
  rintro e w6 ⟨rfl, bb⟩
  replace bb := nextw (w0 := w5) (by exact ⟨rfl, rfl, rfl, Nat.le_refl _, fun _ _ => rfl⟩) bb
  replace B_a := Lib.hid (Box3.below B_a.out bb B_a.out.lt)
  replace B_b := Lib.hid (Box3.below B_b.out bb B_b.out.lt)
  replace B_c := Lib.hid (Box3.below B_c.out bb B_c.out.lt)
  replace HB := Lib.hid (nextw HB.out bb)
  clear bb
  have lt_Xa := B_a.out.lt
  have lt_Xb := B_b.out.lt
  have lt_Xc := B_c.out.lt
  have B_X := Lib.hid (Box3.new w6 lx ly ld)
  replace B_a := Lib.hid (Box3.alloc B_a.out (.cells #[.int .i64 lx, .int .i64 ly, .int .i64 ld] 24))
  replace B_b := Lib.hid (Box3.alloc B_b.out (.cells #[.int .i64 lx, .int .i64 ly, .int .i64 ld] 24))
  replace B_c := Lib.hid (Box3.alloc B_c.out (.cells #[.int .i64 lx, .int .i64 ly, .int .i64 ld] 24))
  replace HB := Lib.hid (nextw HB.out ((Below.refl w6.heap.size w6).alloc (Nat.le_refl _) (.cells #[.int .i64 lx, .int .i64 ly, .int .i64 ld] 24)))
  go_upto_region 5 with (fail)
  generalize w6.alloc (.cells #[.int .i64 lx, .int .i64 ly, .int .i64 ld] 24) = WX at *
  have c0a := B_a.out.c0
  have c1a := B_a.out.c1
  have c2a := B_a.out.c2
  have c0b := B_b.out.c0
  have c1b := B_b.out.c1
  have c2b := B_b.out.c2
  have c0c := B_c.out.c0
  have c1c := B_c.out.c1
  have c2c := B_c.out.c2
  go_wp2_with fail
  refine (HNb.out _).mono ?_
  clear c0a c1a c2a c0b c1b c2b c0c c1c c2c
  rintro e w7 ⟨rfl, bb⟩
  replace bb := nextw (w0 := WX) (by exact ⟨rfl, rfl, rfl, Nat.le_refl _, fun _ _ => rfl⟩) bb
  replace B_a := Lib.hid (Box3.below B_a.out bb B_a.out.lt)
  replace B_b := Lib.hid (Box3.below B_b.out bb B_b.out.lt)
  replace B_c := Lib.hid (Box3.below B_c.out bb B_c.out.lt)
  replace B_X := Lib.hid (Box3.below B_X.out bb B_X.out.lt)
  replace HB := Lib.hid (nextw HB.out bb)
  clear bb
  have lt_Ya := B_a.out.lt
  have lt_Yb := B_b.out.lt
  have lt_Yc := B_c.out.lt
  have lt_YX := B_X.out.lt
  have B_Y := Lib.hid (Box3.new w7 lx ly ld)
  replace B_a := Lib.hid (Box3.alloc B_a.out (.cells #[.int .i64 lx, .int .i64 ly, .int .i64 ld] 24))
  replace B_b := Lib.hid (Box3.alloc B_b.out (.cells #[.int .i64 lx, .int .i64 ly, .int .i64 ld] 24))
  replace B_c := Lib.hid (Box3.alloc B_c.out (.cells #[.int .i64 lx, .int .i64 ly, .int .i64 ld] 24))
  replace B_X := Lib.hid (Box3.alloc B_X.out (.cells #[.int .i64 lx, .int .i64 ly, .int .i64 ld] 24))
  replace HB := Lib.hid (nextw HB.out ((Below.refl w7.heap.size w7).alloc (Nat.le_refl _) (.cells #[.int .i64 lx, .int .i64 ly, .int .i64 ld] 24)))
  go_upto_region 6 with (fail)
  generalize w7.alloc (.cells #[.int .i64 lx, .int .i64 ly, .int .i64 ld] 24) = WY at *
  clear HA HVa HVb HVc HC HNa HNb
  have c0a := B_a.out.c0
  have c1a := B_a.out.c1
  have c2a := B_a.out.c2
  have c0b := B_b.out.c0
  have c1b := B_b.out.c1
  have c2b := B_b.out.c2
  have c0c := B_c.out.c0
  have c1c := B_c.out.c1
  have c2c := B_c.out.c2
  have c0X := B_X.out.c0
  have c1X := B_X.out.c1
  have c2X := B_X.out.c2
  have c0Y := B_Y.out.c0
  have c1Y := B_Y.out.c1
  have c2Y := B_Y.out.c2
  go_wp2_with fail
  refine (HD.out _).mono ?_
  clear c0a c1a c2a c0b c1b c2b c0c c1c c2c c0X c1X c2X c0Y c1Y c2Y
  rintro e w8 ⟨rfl, bb⟩
  replace bb := nextw (w0 := WY) (by exact ⟨rfl, rfl, rfl, Nat.le_refl _, fun _ _ => rfl⟩) bb
  replace B_a := Lib.hid (Box3.below B_a.out bb B_a.out.lt)
  replace B_b := Lib.hid (Box3.below B_b.out bb B_b.out.lt)
  replace B_c := Lib.hid (Box3.below B_c.out bb B_c.out.lt)
  replace B_X := Lib.hid (Box3.below B_X.out bb B_X.out.lt)
  replace B_Y := Lib.hid (Box3.below B_Y.out bb B_Y.out.lt)
  replace HB := Lib.hid (nextw HB.out bb)
  clear bb
  have c0a := B_a.out.c0
  have c1a := B_a.out.c1
  have c2a := B_a.out.c2
  have c0b := B_b.out.c0
  have c1b := B_b.out.c1
  have c2b := B_b.out.c2
  have c0c := B_c.out.c0
  have c1c := B_c.out.c1
  have c2c := B_c.out.c2
  have c0X := B_X.out.c0
  have c1X := B_X.out.c1
  have c2X := B_X.out.c2
  have c0Y := B_Y.out.c0
  have c1Y := B_Y.out.c1
  have c2Y := B_Y.out.c2
  go_wp2_with fail
  refine (HL.out _).mono ?_
  clear c0a c1a c2a c0b c1b c2b c0c c1c c2c c0X c1X c2X c0Y c1Y c2Y
  rintro e w9 ⟨rfl, bb⟩
  replace bb := nextw (w0 := w8) (by exact ⟨rfl, rfl, rfl, Nat.le_refl _, fun _ _ => rfl⟩) bb
  replace B_a := Lib.hid (Box3.below B_a.out bb B_a.out.lt)
  replace B_b := Lib.hid (Box3.below B_b.out bb B_b.out.lt)
  replace B_c := Lib.hid (Box3.below B_c.out bb B_c.out.lt)
  replace B_X := Lib.hid (Box3.below B_X.out bb B_X.out.lt)
  replace B_Y := Lib.hid (Box3.below B_Y.out bb B_Y.out.lt)
  replace HB := Lib.hid (nextw HB.out bb)
  clear bb
  have c0a := B_a.out.c0
  have c1a := B_a.out.c1
  have c2a := B_a.out.c2
  have c0b := B_b.out.c0
  have c1b := B_b.out.c1
  have c2b := B_b.out.c2
  have c0c := B_c.out.c0
  have c1c := B_c.out.c1
  have c2c := B_c.out.c2
  have c0X := B_X.out.c0
  have c1X := B_X.out.c1
  have c2X := B_X.out.c2
  have c0Y := B_Y.out.c0
  have c1Y := B_Y.out.c1
  have c2Y := B_Y.out.c2
  go_wp2_with fail
  refine (HE.out _).mono ?_
  clear c0a c1a c2a c0b c1b c2b c0c c1c c2c c0X c1X c2X c0Y c1Y c2Y
  rintro e w10 ⟨rfl, bb⟩
  replace bb := nextw (w0 := w9) (by exact ⟨rfl, rfl, rfl, Nat.le_refl _, fun _ _ => rfl⟩) bb
  replace B_a := Lib.hid (Box3.below B_a.out bb B_a.out.lt)
  replace B_b := Lib.hid (Box3.below B_b.out bb B_b.out.lt)
  replace B_c := Lib.hid (Box3.below B_c.out bb B_c.out.lt)
  replace B_X := Lib.hid (Box3.below B_X.out bb B_X.out.lt)
  replace B_Y := Lib.hid (Box3.below B_Y.out bb B_Y.out.lt)
  replace HB := Lib.hid (nextw HB.out bb)
  clear bb
  have c0a := B_a.out.c0
  have c1a := B_a.out.c1
  have c2a := B_a.out.c2
  have c0b := B_b.out.c0
  have c1b := B_b.out.c1
  have c2b := B_b.out.c2
  have c0c := B_c.out.c0
  have c1c := B_c.out.c1
  have c2c := B_c.out.c2
  have c0X := B_X.out.c0
  have c1X := B_X.out.c1
  have c2X := B_X.out.c2
  have c0Y := B_Y.out.c0
  have c1Y := B_Y.out.c1
  have c2Y := B_Y.out.c2
  clear c0a c1a c2a c0b c1b c2b c0c c1c c2c c0X c1X c2X c0Y c1Y c2Y
  go_wp2
  go_ret
  exact ⟨rfl, nextw HB.out (by exact ⟨rfl, rfl, rfl, Nat.le_refl _, fun _ _ => rfl⟩)⟩

set_option maxRecDepth 100000 in
set_option maxHeartbeats 4000000 in
theorem Cs_zr (a b c : V3) (lx ly ld : Int) (ha : Ok a) (hb : Ok b) (hc : Ok c) (hL : low a.x a.y a.d = ⟨lx, ly, ld⟩) (hM : low b.x b.y b.d = ⟨lx, ly, ld⟩) (hab : cmpV a b = 0) (hba : cmpV b a = 0) (m r : Int) (hbc : cmpV b c = m) (m0 : m ≤ 0) (hac : cmpV a c = r) (r0 : r ≤ 0)  (w : World) :
    Calls Try.prog 7 #[vv a, vv b, vv c] w fun e w' => e = .returned (.bool true) ∧ Below w.heap.size w w' := by
  have HA := Lib.hid (fun w => awake_any w)
  have HVa := Lib.hid (fun w => BV_yes a ha w)
  have HVb := Lib.hid (fun w => BV_yes b hb w)
  have HVc := Lib.hid (fun w => BV_yes c hc w)
  have HC := Lib.hid (fun w => Cmp_at ha hb hab w)
  have HD := Lib.hid (fun w => Cmp_at hb ha hba w)
  have hl := cmpV_low ha
  have hLo : Ok (low a.x a.y a.d) := Ok.low ha.lo ha.eq (by have := low_le (x := a.x) (y := a.y) ha.lo; have := ha.hi; omega)
  rw [hL] at hl hLo
  have HL := Lib.hid (fun w => Cmp_at ha hLo hl w)
  have HNa := Lib.hid (fun w => Norm_at ha hL w)
  have HNb := Lib.hid (fun w => Norm_at hb hM w)
  have HE := Lib.hid (fun w => Cmp_at hb hc hbc w)
  have HF := Lib.hid (fun w => Cmp_at ha hc hac w)
  obtain ⟨x, y, d⟩ := a
  obtain ⟨u, v, f⟩ := b
  obtain ⟨p, q, g⟩ := c
  clear ha hb hc hab hba hl hLo hL hM hbc hac
  have HB := Lib.hid (show Below w.heap.size w (((w.alloc (.cells #[.int .i64 x, .int .i64 y, .int .i64 d] 24)).alloc (.cells #[.int .i64 u, .int .i64 v, .int .i64 f] 24)).alloc (.cells #[.int .i64 p, .int .i64 q, .int .i64 g] 24)) from ((((Below.refl _ _).alloc (by simp <;> omega) _).alloc (by simp <;> omega) _).alloc (by simp <;> omega) _))
  have B_a : Box3 (((w.alloc (.cells #[.int .i64 x, .int .i64 y, .int .i64 d] 24)).alloc (.cells #[.int .i64 u, .int .i64 v, .int .i64 f] 24)).alloc (.cells #[.int .i64 p, .int .i64 q, .int .i64 g] 24)) (w.heap.size) x y d := by have h := (Box3.alloc (Box3.alloc (Box3.new w x y d) (.cells #[.int .i64 u, .int .i64 v, .int .i64 f] 24)) (.cells #[.int .i64 p, .int .i64 q, .int .i64 g] 24)); simpa using h
  replace B_a := Lib.hid B_a
  have B_b : Box3 (((w.alloc (.cells #[.int .i64 x, .int .i64 y, .int .i64 d] 24)).alloc (.cells #[.int .i64 u, .int .i64 v, .int .i64 f] 24)).alloc (.cells #[.int .i64 p, .int .i64 q, .int .i64 g] 24)) (w.heap.size + 1) u v f := by have h := (Box3.alloc (Box3.new (w.alloc (.cells #[.int .i64 x, .int .i64 y, .int .i64 d] 24)) u v f) (.cells #[.int .i64 p, .int .i64 q, .int .i64 g] 24)); simpa using h
  replace B_b := Lib.hid B_b
  have B_c : Box3 (((w.alloc (.cells #[.int .i64 x, .int .i64 y, .int .i64 d] 24)).alloc (.cells #[.int .i64 u, .int .i64 v, .int .i64 f] 24)).alloc (.cells #[.int .i64 p, .int .i64 q, .int .i64 g] 24)) (w.heap.size + 1 + 1) p q g := by have h := (Box3.new ((w.alloc (.cells #[.int .i64 x, .int .i64 y, .int .i64 d] 24)).alloc (.cells #[.int .i64 u, .int .i64 v, .int .i64 f] 24)) p q g); simpa using h
  replace B_c := Lib.hid B_c
  go_enter Try.func7, Try.ntmps7
  go_wp2_with fail
  generalize ((w.alloc (.cells #[.int .i64 x, .int .i64 y, .int .i64 d] 24)).alloc (.cells #[.int .i64 u, .int .i64 v, .int .i64 f] 24)).alloc (.cells #[.int .i64 p, .int .i64 q, .int .i64 g] 24) = W0 at *
  refine (HA.out _).mono ?_
  rintro e w1 ⟨rfl, bb⟩
  replace bb := nextw (w0 := W0) (by exact ⟨rfl, rfl, rfl, Nat.le_refl _, fun _ _ => rfl⟩) bb
  replace B_a := Lib.hid (Box3.below B_a.out bb B_a.out.lt)
  replace B_b := Lib.hid (Box3.below B_b.out bb B_b.out.lt)
  replace B_c := Lib.hid (Box3.below B_c.out bb B_c.out.lt)
  replace HB := Lib.hid (nextw HB.out bb)
  clear bb
  have c0a := B_a.out.c0
  have c1a := B_a.out.c1
  have c2a := B_a.out.c2
  have c0b := B_b.out.c0
  have c1b := B_b.out.c1
  have c2b := B_b.out.c2
  have c0c := B_c.out.c0
  have c1c := B_c.out.c1
  have c2c := B_c.out.c2
  go_wp2_with fail
  refine (HVa.out _).mono ?_
  clear c0a c1a c2a c0b c1b c2b c0c c1c c2c
  rintro e w2 ⟨rfl, bb⟩
  replace bb := nextw (w0 := w1) (by exact ⟨rfl, rfl, rfl, Nat.le_refl _, fun _ _ => rfl⟩) bb
  replace B_a := Lib.hid (Box3.below B_a.out bb B_a.out.lt)
  replace B_b := Lib.hid (Box3.below B_b.out bb B_b.out.lt)
  replace B_c := Lib.hid (Box3.below B_c.out bb B_c.out.lt)
  replace HB := Lib.hid (nextw HB.out bb)
  clear bb
  have c0a := B_a.out.c0
  have c1a := B_a.out.c1
  have c2a := B_a.out.c2
  have c0b := B_b.out.c0
  have c1b := B_b.out.c1
  have c2b := B_b.out.c2
  have c0c := B_c.out.c0
  have c1c := B_c.out.c1
  have c2c := B_c.out.c2
  go_wp2_with fail
  refine (HVb.out _).mono ?_
  clear c0a c1a c2a c0b c1b c2b c0c c1c c2c
  rintro e w3 ⟨rfl, bb⟩
  replace bb := nextw (w0 := w2) (by exact ⟨rfl, rfl, rfl, Nat.le_refl _, fun _ _ => rfl⟩) bb
  replace B_a := Lib.hid (Box3.below B_a.out bb B_a.out.lt)
  replace B_b := Lib.hid (Box3.below B_b.out bb B_b.out.lt)
  replace B_c := Lib.hid (Box3.below B_c.out bb B_c.out.lt)
  replace HB := Lib.hid (nextw HB.out bb)
  clear bb
  have c0a := B_a.out.c0
  have c1a := B_a.out.c1
  have c2a := B_a.out.c2
  have c0b := B_b.out.c0
  have c1b := B_b.out.c1
  have c2b := B_b.out.c2
  have c0c := B_c.out.c0
  have c1c := B_c.out.c1
  have c2c := B_c.out.c2
  go_wp2_with fail
  refine (HVc.out _).mono ?_
  clear c0a c1a c2a c0b c1b c2b c0c c1c c2c
  rintro e w4 ⟨rfl, bb⟩
  replace bb := nextw (w0 := w3) (by exact ⟨rfl, rfl, rfl, Nat.le_refl _, fun _ _ => rfl⟩) bb
  replace B_a := Lib.hid (Box3.below B_a.out bb B_a.out.lt)
  replace B_b := Lib.hid (Box3.below B_b.out bb B_b.out.lt)
  replace B_c := Lib.hid (Box3.below B_c.out bb B_c.out.lt)
  replace HB := Lib.hid (nextw HB.out bb)
  clear bb
  have c0a := B_a.out.c0
  have c1a := B_a.out.c1
  have c2a := B_a.out.c2
  have c0b := B_b.out.c0
  have c1b := B_b.out.c1
  have c2b := B_b.out.c2
  have c0c := B_c.out.c0
  have c1c := B_c.out.c1
  have c2c := B_c.out.c2
  go_wp2_with fail
  refine (HC.out _).mono ?_
  clear c0a c1a c2a c0b c1b c2b c0c c1c c2c
  rintro e w5 ⟨rfl, bb⟩
  replace bb := nextw (w0 := w4) (by exact ⟨rfl, rfl, rfl, Nat.le_refl _, fun _ _ => rfl⟩) bb
  replace B_a := Lib.hid (Box3.below B_a.out bb B_a.out.lt)
  replace B_b := Lib.hid (Box3.below B_b.out bb B_b.out.lt)
  replace B_c := Lib.hid (Box3.below B_c.out bb B_c.out.lt)
  replace HB := Lib.hid (nextw HB.out bb)
  clear bb
  have c0a := B_a.out.c0
  have c1a := B_a.out.c1
  have c2a := B_a.out.c2
  have c0b := B_b.out.c0
  have c1b := B_b.out.c1
  have c2b := B_b.out.c2
  have c0c := B_c.out.c0
  have c1c := B_c.out.c1
  have c2c := B_c.out.c2
  go_wp2_with fail
  refine (HNa.out _).mono ?_
  clear c0a c1a c2a c0b c1b c2b c0c c1c c2c
  rintro e w6 ⟨rfl, bb⟩
  replace bb := nextw (w0 := w5) (by exact ⟨rfl, rfl, rfl, Nat.le_refl _, fun _ _ => rfl⟩) bb
  replace B_a := Lib.hid (Box3.below B_a.out bb B_a.out.lt)
  replace B_b := Lib.hid (Box3.below B_b.out bb B_b.out.lt)
  replace B_c := Lib.hid (Box3.below B_c.out bb B_c.out.lt)
  replace HB := Lib.hid (nextw HB.out bb)
  clear bb
  have lt_Xa := B_a.out.lt
  have lt_Xb := B_b.out.lt
  have lt_Xc := B_c.out.lt
  have B_X := Lib.hid (Box3.new w6 lx ly ld)
  replace B_a := Lib.hid (Box3.alloc B_a.out (.cells #[.int .i64 lx, .int .i64 ly, .int .i64 ld] 24))
  replace B_b := Lib.hid (Box3.alloc B_b.out (.cells #[.int .i64 lx, .int .i64 ly, .int .i64 ld] 24))
  replace B_c := Lib.hid (Box3.alloc B_c.out (.cells #[.int .i64 lx, .int .i64 ly, .int .i64 ld] 24))
  replace HB := Lib.hid (nextw HB.out ((Below.refl w6.heap.size w6).alloc (Nat.le_refl _) (.cells #[.int .i64 lx, .int .i64 ly, .int .i64 ld] 24)))
  go_upto_region 5 with (fail)
  generalize w6.alloc (.cells #[.int .i64 lx, .int .i64 ly, .int .i64 ld] 24) = WX at *
  have c0a := B_a.out.c0
  have c1a := B_a.out.c1
  have c2a := B_a.out.c2
  have c0b := B_b.out.c0
  have c1b := B_b.out.c1
  have c2b := B_b.out.c2
  have c0c := B_c.out.c0
  have c1c := B_c.out.c1
  have c2c := B_c.out.c2
  go_wp2_with fail
  refine (HNb.out _).mono ?_
  clear c0a c1a c2a c0b c1b c2b c0c c1c c2c
  rintro e w7 ⟨rfl, bb⟩
  replace bb := nextw (w0 := WX) (by exact ⟨rfl, rfl, rfl, Nat.le_refl _, fun _ _ => rfl⟩) bb
  replace B_a := Lib.hid (Box3.below B_a.out bb B_a.out.lt)
  replace B_b := Lib.hid (Box3.below B_b.out bb B_b.out.lt)
  replace B_c := Lib.hid (Box3.below B_c.out bb B_c.out.lt)
  replace B_X := Lib.hid (Box3.below B_X.out bb B_X.out.lt)
  replace HB := Lib.hid (nextw HB.out bb)
  clear bb
  have lt_Ya := B_a.out.lt
  have lt_Yb := B_b.out.lt
  have lt_Yc := B_c.out.lt
  have lt_YX := B_X.out.lt
  have B_Y := Lib.hid (Box3.new w7 lx ly ld)
  replace B_a := Lib.hid (Box3.alloc B_a.out (.cells #[.int .i64 lx, .int .i64 ly, .int .i64 ld] 24))
  replace B_b := Lib.hid (Box3.alloc B_b.out (.cells #[.int .i64 lx, .int .i64 ly, .int .i64 ld] 24))
  replace B_c := Lib.hid (Box3.alloc B_c.out (.cells #[.int .i64 lx, .int .i64 ly, .int .i64 ld] 24))
  replace B_X := Lib.hid (Box3.alloc B_X.out (.cells #[.int .i64 lx, .int .i64 ly, .int .i64 ld] 24))
  replace HB := Lib.hid (nextw HB.out ((Below.refl w7.heap.size w7).alloc (Nat.le_refl _) (.cells #[.int .i64 lx, .int .i64 ly, .int .i64 ld] 24)))
  go_upto_region 6 with (fail)
  generalize w7.alloc (.cells #[.int .i64 lx, .int .i64 ly, .int .i64 ld] 24) = WY at *
  clear HA HVa HVb HVc HC HNa HNb
  have c0a := B_a.out.c0
  have c1a := B_a.out.c1
  have c2a := B_a.out.c2
  have c0b := B_b.out.c0
  have c1b := B_b.out.c1
  have c2b := B_b.out.c2
  have c0c := B_c.out.c0
  have c1c := B_c.out.c1
  have c2c := B_c.out.c2
  have c0X := B_X.out.c0
  have c1X := B_X.out.c1
  have c2X := B_X.out.c2
  have c0Y := B_Y.out.c0
  have c1Y := B_Y.out.c1
  have c2Y := B_Y.out.c2
  go_wp2_with fail
  refine (HD.out _).mono ?_
  clear c0a c1a c2a c0b c1b c2b c0c c1c c2c c0X c1X c2X c0Y c1Y c2Y
  rintro e w8 ⟨rfl, bb⟩
  replace bb := nextw (w0 := WY) (by exact ⟨rfl, rfl, rfl, Nat.le_refl _, fun _ _ => rfl⟩) bb
  replace B_a := Lib.hid (Box3.below B_a.out bb B_a.out.lt)
  replace B_b := Lib.hid (Box3.below B_b.out bb B_b.out.lt)
  replace B_c := Lib.hid (Box3.below B_c.out bb B_c.out.lt)
  replace B_X := Lib.hid (Box3.below B_X.out bb B_X.out.lt)
  replace B_Y := Lib.hid (Box3.below B_Y.out bb B_Y.out.lt)
  replace HB := Lib.hid (nextw HB.out bb)
  clear bb
  have c0a := B_a.out.c0
  have c1a := B_a.out.c1
  have c2a := B_a.out.c2
  have c0b := B_b.out.c0
  have c1b := B_b.out.c1
  have c2b := B_b.out.c2
  have c0c := B_c.out.c0
  have c1c := B_c.out.c1
  have c2c := B_c.out.c2
  have c0X := B_X.out.c0
  have c1X := B_X.out.c1
  have c2X := B_X.out.c2
  have c0Y := B_Y.out.c0
  have c1Y := B_Y.out.c1
  have c2Y := B_Y.out.c2
  go_wp2_with fail
  refine (HL.out _).mono ?_
  clear c0a c1a c2a c0b c1b c2b c0c c1c c2c c0X c1X c2X c0Y c1Y c2Y
  rintro e w9 ⟨rfl, bb⟩
  replace bb := nextw (w0 := w8) (by exact ⟨rfl, rfl, rfl, Nat.le_refl _, fun _ _ => rfl⟩) bb
  replace B_a := Lib.hid (Box3.below B_a.out bb B_a.out.lt)
  replace B_b := Lib.hid (Box3.below B_b.out bb B_b.out.lt)
  replace B_c := Lib.hid (Box3.below B_c.out bb B_c.out.lt)
  replace B_X := Lib.hid (Box3.below B_X.out bb B_X.out.lt)
  replace B_Y := Lib.hid (Box3.below B_Y.out bb B_Y.out.lt)
  replace HB := Lib.hid (nextw HB.out bb)
  clear bb
  have c0a := B_a.out.c0
  have c1a := B_a.out.c1
  have c2a := B_a.out.c2
  have c0b := B_b.out.c0
  have c1b := B_b.out.c1
  have c2b := B_b.out.c2
  have c0c := B_c.out.c0
  have c1c := B_c.out.c1
  have c2c := B_c.out.c2
  have c0X := B_X.out.c0
  have c1X := B_X.out.c1
  have c2X := B_X.out.c2
  have c0Y := B_Y.out.c0
  have c1Y := B_Y.out.c1
  have c2Y := B_Y.out.c2
  go_wp2_with fail
  refine (HE.out _).mono ?_
  clear c0a c1a c2a c0b c1b c2b c0c c1c c2c c0X c1X c2X c0Y c1Y c2Y
  rintro e w10 ⟨rfl, bb⟩
  replace bb := nextw (w0 := w9) (by exact ⟨rfl, rfl, rfl, Nat.le_refl _, fun _ _ => rfl⟩) bb
  replace B_a := Lib.hid (Box3.below B_a.out bb B_a.out.lt)
  replace B_b := Lib.hid (Box3.below B_b.out bb B_b.out.lt)
  replace B_c := Lib.hid (Box3.below B_c.out bb B_c.out.lt)
  replace B_X := Lib.hid (Box3.below B_X.out bb B_X.out.lt)
  replace B_Y := Lib.hid (Box3.below B_Y.out bb B_Y.out.lt)
  replace HB := Lib.hid (nextw HB.out bb)
  clear bb
  have c0a := B_a.out.c0
  have c1a := B_a.out.c1
  have c2a := B_a.out.c2
  have c0b := B_b.out.c0
  have c1b := B_b.out.c1
  have c2b := B_b.out.c2
  have c0c := B_c.out.c0
  have c1c := B_c.out.c1
  have c2c := B_c.out.c2
  have c0X := B_X.out.c0
  have c1X := B_X.out.c1
  have c2X := B_X.out.c2
  have c0Y := B_Y.out.c0
  have c1Y := B_Y.out.c1
  have c2Y := B_Y.out.c2
  go_wp2_with fail
  refine (HF.out _).mono ?_
  clear c0a c1a c2a c0b c1b c2b c0c c1c c2c c0X c1X c2X c0Y c1Y c2Y
  rintro e w11 ⟨rfl, bb⟩
  replace bb := nextw (w0 := w10) (by exact ⟨rfl, rfl, rfl, Nat.le_refl _, fun _ _ => rfl⟩) bb
  replace B_a := Lib.hid (Box3.below B_a.out bb B_a.out.lt)
  replace B_b := Lib.hid (Box3.below B_b.out bb B_b.out.lt)
  replace B_c := Lib.hid (Box3.below B_c.out bb B_c.out.lt)
  replace B_X := Lib.hid (Box3.below B_X.out bb B_X.out.lt)
  replace B_Y := Lib.hid (Box3.below B_Y.out bb B_Y.out.lt)
  replace HB := Lib.hid (nextw HB.out bb)
  clear bb
  go_wp2
  go_ret
  exact ⟨rfl, nextw HB.out (by exact ⟨rfl, rfl, rfl, Nat.le_refl _, fun _ _ => rfl⟩)⟩

theorem Cs_ok (a b c : V3) (ha : Ok a) (hb : Ok b) (hc : Ok c) (w : World) :
    Calls Try.prog 7 #[vv a, vv b, vv c] w fun e w' => e = .returned (.bool true) ∧ Below w.heap.size w w' := by
  have hr := cmpV_range a b
  have hz := cmpV_zero ha hb
  have ht := fun h1 h2 => cmpV_trans ha hb hc h1 h2
  have hba := cmpV_anti a b
  obtain ⟨n, hn⟩ : ∃ n, cmpV a b = n := ⟨_, rfl⟩
  obtain ⟨m, hm⟩ : ∃ m, cmpV b c = m := ⟨_, rfl⟩
  obtain ⟨L, hL⟩ : ∃ L, low a.x a.y a.d = L := ⟨_, rfl⟩
  obtain ⟨M, hM⟩ : ∃ M, low b.x b.y b.d = M := ⟨_, rfl⟩
  rw [hn] at hr hz ht hba
  rw [hL, hM] at hz
  rw [hm] at ht
  obtain ⟨lx, ly, ld⟩ := L
  by_cases n0 : n = 0
  · rw [← hz.1 n0] at hM
    subst n0
    rcases Int.lt_or_le 0 m with h | h
    · exact Cs_zm a b c lx ly ld ha hb hc hL hM hn hba m hm h w
    · exact Cs_zr a b c lx ly ld ha hb hc hL hM hn hba m _ hm h rfl (ht (by omega) h) w
  · have hb0 : (n == 0) = false := by simpa using n0
    have hne : (⟨lx, ly, ld⟩ : V3) ≠ M := fun e => n0 (hz.2 e)
    obtain ⟨mx, my, md⟩ := M
    by_cases e1 : lx = mx
    · subst e1
      by_cases e2 : ly = my
      · subst e2
        have e3 : (ld == md) = false := by rw [beq_eq_false_iff_ne]; intro e; exact hne (by rw [e])
        rcases Int.lt_or_le 0 n with h0 | h0
        · exact Cs_gt3 a b c lx ly ld md ha hb hc hL hM n hn hba hb0 hr.1 hr.2 e3 h0 w
        rcases Int.lt_or_le 0 m with h | h
        · exact Cs_m3 a b c lx ly ld md ha hb hc hL hM n hn hba hb0 hr.1 hr.2 e3 h0 m hm h w
        · exact Cs_r3 a b c lx ly ld md ha hb hc hL hM n hn hba hb0 hr.1 hr.2 e3 h0 m _ hm h rfl (ht h0 h) w
      · have e3 : (ly == my) = false := by simpa using e2
        rcases Int.lt_or_le 0 n with h0 | h0
        · exact Cs_gt2 a b c lx ly ld my md ha hb hc hL hM n hn hba hb0 hr.1 hr.2 e3 h0 w
        rcases Int.lt_or_le 0 m with h | h
        · exact Cs_m2 a b c lx ly ld my md ha hb hc hL hM n hn hba hb0 hr.1 hr.2 e3 h0 m hm h w
        · exact Cs_r2 a b c lx ly ld my md ha hb hc hL hM n hn hba hb0 hr.1 hr.2 e3 h0 m _ hm h rfl (ht h0 h) w
    · have e3 : (lx == mx) = false := by simpa using e1
      rcases Int.lt_or_le 0 n with h0 | h0
      · exact Cs_gt1 a b c lx ly ld mx my md ha hb hc hL hM n hn hba hb0 hr.1 hr.2 e3 h0 w
      rcases Int.lt_or_le 0 m with h | h
      · exact Cs_m1 a b c lx ly ld mx my md ha hb hc hL hM n hn hba hb0 hr.1 hr.2 e3 h0 m hm h w
      · exact Cs_r1 a b c lx ly ld mx my md ha hb hc hL hM n hn hba hb0 hr.1 hr.2 e3 h0 m _ hm h rfl (ht h0 h) w
theorem Compares_any (a b c : V3) (w : World) :
    Calls Try.prog 7 #[vv a, vv b, vv c] w fun e w' => e = .returned (.bool true) ∧ Below w.heap.size w w' := by
  by_cases ha : Ok a
  · by_cases hb : Ok b
    · by_cases hc : Ok c
      · exact Cs_ok a b c ha hb hc w
      · exact Cs_bad3 a b c ha hb hc w
    · exact Cs_bad2 a b c ha hb w
  · exact Cs_bad1 a b c ha w
end Go.Proofs.Ytincejndchdcdaa
