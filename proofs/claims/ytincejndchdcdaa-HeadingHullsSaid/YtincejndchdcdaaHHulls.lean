/- The law HeadingHulls. -/
import Derived.Test.YtincejndchdcdaaHAwake
import Derived.Test.YtincejndchdcdaaHRHull
namespace Go.Proofs.Ytincejndchdcdaa
open Go Go.RowKit Hd

set_option maxRecDepth 100000 in
set_option maxHeartbeats 4000000 in
theorem Hulls_A (f c g d m : Int) (ha : ¬ OkA f c) (w : World) :
    Calls Try.prog 11 #[av f c, av g d, .int .u8 m] w fun e w' => e = .returned (.bool true) ∧ Below w.heap.size w w' := by
  have HA := Lib.hid (fun w => awake_any w)
  have HU := Lib.hid (fun w => Hull_bad1 f c g d ha w)
  have HV := Lib.hid (fun w => RHull_bad1 f c g d ha w)
  clear ha
  have HB := Lib.hid (show Below w.heap.size w ((w.alloc (.cells #[.int .i64 f, .int .i64 c] 43)).alloc (.cells #[.int .i64 g, .int .i64 d] 43)) from (((Below.refl _ _).alloc (by simp <;> omega) _).alloc (by simp <;> omega) _))
  have B_a : Box2 ((w.alloc (.cells #[.int .i64 f, .int .i64 c] 43)).alloc (.cells #[.int .i64 g, .int .i64 d] 43)) (w.heap.size) f c := by have h := (Box2.alloc (Box2.new w f c) (.cells #[.int .i64 g, .int .i64 d] 43)); simpa using h
  replace B_a := Lib.hid B_a
  have B_b : Box2 ((w.alloc (.cells #[.int .i64 f, .int .i64 c] 43)).alloc (.cells #[.int .i64 g, .int .i64 d] 43)) (w.heap.size + 1) g d := by have h := (Box2.new (w.alloc (.cells #[.int .i64 f, .int .i64 c] 43)) g d); simpa using h
  replace B_b := Lib.hid B_b
  go_enter Try.func11, Try.ntmps11
  go_wp2_with fail
  generalize (w.alloc (.cells #[.int .i64 f, .int .i64 c] 43)).alloc (.cells #[.int .i64 g, .int .i64 d] 43) = W0 at *
  refine (HA.out _).mono ?_
  rintro e w1 ⟨rfl, bb⟩
  replace bb := nextw (w0 := W0) (by exact ⟨rfl, rfl, rfl, Nat.le_refl _, fun _ _ => rfl⟩) bb
  replace B_a := Lib.hid (Box2.below B_a.out bb B_a.out.lt)
  replace B_b := Lib.hid (Box2.below B_b.out bb B_b.out.lt)
  replace HB := Lib.hid (nextw HB.out bb)
  clear bb
  have c0a := B_a.out.c0
  have c1a := B_a.out.c1
  have c0b := B_b.out.c0
  have c1b := B_b.out.c1
  go_wp2_with fail
  refine (HU.out _).mono ?_
  clear c0a c1a c0b c1b
  rintro e w2 ⟨rfl, bb⟩
  replace bb := nextw (w0 := w1) (by exact ⟨rfl, rfl, rfl, Nat.le_refl _, fun _ _ => rfl⟩) bb
  replace B_a := Lib.hid (Box2.below B_a.out bb B_a.out.lt)
  replace B_b := Lib.hid (Box2.below B_b.out bb B_b.out.lt)
  replace HB := Lib.hid (nextw HB.out bb)
  clear bb
  have lt_ua := B_a.out.lt
  have lt_ub := B_b.out.lt
  have B_u := Lib.hid (Box2.new w2 0 0)
  replace B_a := Lib.hid (Box2.alloc B_a.out (.cells #[.int .i64 0, .int .i64 0] 43))
  replace B_b := Lib.hid (Box2.alloc B_b.out (.cells #[.int .i64 0, .int .i64 0] 43))
  replace HB := Lib.hid (nextw HB.out ((Below.refl w2.heap.size w2).alloc (Nat.le_refl _) (.cells #[.int .i64 0, .int .i64 0] 43)))
  go_upto_region 4 with (fail)
  generalize w2.alloc (.cells #[.int .i64 0, .int .i64 0] 43) = WU at *
  have c0a := B_a.out.c0
  have c1a := B_a.out.c1
  have c0b := B_b.out.c0
  have c1b := B_b.out.c1
  go_wp2_with fail
  refine (HV.out _).mono ?_
  clear c0a c1a c0b c1b
  rintro e w3 ⟨rfl, bb⟩
  replace bb := nextw (w0 := WU) (by exact ⟨rfl, rfl, rfl, Nat.le_refl _, fun _ _ => rfl⟩) bb
  replace B_a := Lib.hid (Box2.below B_a.out bb B_a.out.lt)
  replace B_b := Lib.hid (Box2.below B_b.out bb B_b.out.lt)
  replace B_u := Lib.hid (Box2.below B_u.out bb B_u.out.lt)
  replace HB := Lib.hid (nextw HB.out bb)
  clear bb
  have lt_va := B_a.out.lt
  have lt_vb := B_b.out.lt
  have lt_vu := B_u.out.lt
  have B_v := Lib.hid (Box2.new w3 0 0)
  replace B_a := Lib.hid (Box2.alloc B_a.out (.cells #[.int .i64 0, .int .i64 0] 43))
  replace B_b := Lib.hid (Box2.alloc B_b.out (.cells #[.int .i64 0, .int .i64 0] 43))
  replace B_u := Lib.hid (Box2.alloc B_u.out (.cells #[.int .i64 0, .int .i64 0] 43))
  replace HB := Lib.hid (nextw HB.out ((Below.refl w3.heap.size w3).alloc (Nat.le_refl _) (.cells #[.int .i64 0, .int .i64 0] 43)))
  go_upto_region 5 with (fail)
  generalize w3.alloc (.cells #[.int .i64 0, .int .i64 0] 43) = WV at *
  have c0u := B_u.out.c0
  have c1u := B_u.out.c1
  have c0v := B_v.out.c0
  have c1v := B_v.out.c1
  clear HA HU HV
  go_wp2
  go_ret
  exact ⟨rfl, nextw HB.out (by exact ⟨rfl, rfl, rfl, Nat.le_refl _, fun _ _ => rfl⟩)⟩

set_option maxRecDepth 100000 in
set_option maxHeartbeats 4000000 in
theorem Hulls_B (f c g d m : Int) (ha : OkA f c) (hb : ¬ OkA g d) (w : World) :
    Calls Try.prog 11 #[av f c, av g d, .int .u8 m] w fun e w' => e = .returned (.bool true) ∧ Below w.heap.size w w' := by
  have HA := Lib.hid (fun w => awake_any w)
  have HU := Lib.hid (fun w => Hull_bad2 f c g d ha hb w)
  have HV := Lib.hid (fun w => RHull_bad2 f c g d ha hb w)
  clear ha hb
  have HB := Lib.hid (show Below w.heap.size w ((w.alloc (.cells #[.int .i64 f, .int .i64 c] 43)).alloc (.cells #[.int .i64 g, .int .i64 d] 43)) from (((Below.refl _ _).alloc (by simp <;> omega) _).alloc (by simp <;> omega) _))
  have B_a : Box2 ((w.alloc (.cells #[.int .i64 f, .int .i64 c] 43)).alloc (.cells #[.int .i64 g, .int .i64 d] 43)) (w.heap.size) f c := by have h := (Box2.alloc (Box2.new w f c) (.cells #[.int .i64 g, .int .i64 d] 43)); simpa using h
  replace B_a := Lib.hid B_a
  have B_b : Box2 ((w.alloc (.cells #[.int .i64 f, .int .i64 c] 43)).alloc (.cells #[.int .i64 g, .int .i64 d] 43)) (w.heap.size + 1) g d := by have h := (Box2.new (w.alloc (.cells #[.int .i64 f, .int .i64 c] 43)) g d); simpa using h
  replace B_b := Lib.hid B_b
  go_enter Try.func11, Try.ntmps11
  go_wp2_with fail
  generalize (w.alloc (.cells #[.int .i64 f, .int .i64 c] 43)).alloc (.cells #[.int .i64 g, .int .i64 d] 43) = W0 at *
  refine (HA.out _).mono ?_
  rintro e w1 ⟨rfl, bb⟩
  replace bb := nextw (w0 := W0) (by exact ⟨rfl, rfl, rfl, Nat.le_refl _, fun _ _ => rfl⟩) bb
  replace B_a := Lib.hid (Box2.below B_a.out bb B_a.out.lt)
  replace B_b := Lib.hid (Box2.below B_b.out bb B_b.out.lt)
  replace HB := Lib.hid (nextw HB.out bb)
  clear bb
  have c0a := B_a.out.c0
  have c1a := B_a.out.c1
  have c0b := B_b.out.c0
  have c1b := B_b.out.c1
  go_wp2_with fail
  refine (HU.out _).mono ?_
  clear c0a c1a c0b c1b
  rintro e w2 ⟨rfl, bb⟩
  replace bb := nextw (w0 := w1) (by exact ⟨rfl, rfl, rfl, Nat.le_refl _, fun _ _ => rfl⟩) bb
  replace B_a := Lib.hid (Box2.below B_a.out bb B_a.out.lt)
  replace B_b := Lib.hid (Box2.below B_b.out bb B_b.out.lt)
  replace HB := Lib.hid (nextw HB.out bb)
  clear bb
  have lt_ua := B_a.out.lt
  have lt_ub := B_b.out.lt
  have B_u := Lib.hid (Box2.new w2 0 0)
  replace B_a := Lib.hid (Box2.alloc B_a.out (.cells #[.int .i64 0, .int .i64 0] 43))
  replace B_b := Lib.hid (Box2.alloc B_b.out (.cells #[.int .i64 0, .int .i64 0] 43))
  replace HB := Lib.hid (nextw HB.out ((Below.refl w2.heap.size w2).alloc (Nat.le_refl _) (.cells #[.int .i64 0, .int .i64 0] 43)))
  go_upto_region 4 with (fail)
  generalize w2.alloc (.cells #[.int .i64 0, .int .i64 0] 43) = WU at *
  have c0a := B_a.out.c0
  have c1a := B_a.out.c1
  have c0b := B_b.out.c0
  have c1b := B_b.out.c1
  go_wp2_with fail
  refine (HV.out _).mono ?_
  clear c0a c1a c0b c1b
  rintro e w3 ⟨rfl, bb⟩
  replace bb := nextw (w0 := WU) (by exact ⟨rfl, rfl, rfl, Nat.le_refl _, fun _ _ => rfl⟩) bb
  replace B_a := Lib.hid (Box2.below B_a.out bb B_a.out.lt)
  replace B_b := Lib.hid (Box2.below B_b.out bb B_b.out.lt)
  replace B_u := Lib.hid (Box2.below B_u.out bb B_u.out.lt)
  replace HB := Lib.hid (nextw HB.out bb)
  clear bb
  have lt_va := B_a.out.lt
  have lt_vb := B_b.out.lt
  have lt_vu := B_u.out.lt
  have B_v := Lib.hid (Box2.new w3 0 0)
  replace B_a := Lib.hid (Box2.alloc B_a.out (.cells #[.int .i64 0, .int .i64 0] 43))
  replace B_b := Lib.hid (Box2.alloc B_b.out (.cells #[.int .i64 0, .int .i64 0] 43))
  replace B_u := Lib.hid (Box2.alloc B_u.out (.cells #[.int .i64 0, .int .i64 0] 43))
  replace HB := Lib.hid (nextw HB.out ((Below.refl w3.heap.size w3).alloc (Nat.le_refl _) (.cells #[.int .i64 0, .int .i64 0] 43)))
  go_upto_region 5 with (fail)
  generalize w3.alloc (.cells #[.int .i64 0, .int .i64 0] 43) = WV at *
  have c0u := B_u.out.c0
  have c1u := B_u.out.c1
  have c0v := B_v.out.c0
  have c1v := B_v.out.c1
  clear HA HU HV
  go_wp2
  go_ret
  exact ⟨rfl, nextw HB.out (by exact ⟨rfl, rfl, rfl, Nat.le_refl _, fun _ _ => rfl⟩)⟩

set_option maxRecDepth 100000 in
set_option maxHeartbeats 4000000 in
theorem Hulls_C (f c g d m : Int) (ha : OkA f c) (hb : OkA g d) (m0 : 0 ≤ m) (m1 : m ≤ 255) (hh : hasB (hullF f c g d) (hullC f c g d) m = true) (w : World) :
    Calls Try.prog 11 #[av f c, av g d, .int .u8 m] w fun e w' => e = .returned (.bool true) ∧ Below w.heap.size w w' := by
  have HA := Lib.hid (fun w => awake_any w)
  have hU := Hull_ok f c g d ha hb
  have hV := RHull_ok f c g d ha hb
  have hbest := best_hull ha hb
  rw [hbest] at hV
  clear hbest
  have hko := hull_ok ha hb
  generalize hullF f c g d = p at *
  generalize hullC f c g d = q at *
  have HU := Lib.hid hU
  have HV := Lib.hid hV
  have HH := Lib.hid (fun w => Has_at (h := m) hko hh w)
  clear hU hV hko hh ha hb
  have HB := Lib.hid (show Below w.heap.size w ((w.alloc (.cells #[.int .i64 f, .int .i64 c] 43)).alloc (.cells #[.int .i64 g, .int .i64 d] 43)) from (((Below.refl _ _).alloc (by simp <;> omega) _).alloc (by simp <;> omega) _))
  have B_a : Box2 ((w.alloc (.cells #[.int .i64 f, .int .i64 c] 43)).alloc (.cells #[.int .i64 g, .int .i64 d] 43)) (w.heap.size) f c := by have h := (Box2.alloc (Box2.new w f c) (.cells #[.int .i64 g, .int .i64 d] 43)); simpa using h
  replace B_a := Lib.hid B_a
  have B_b : Box2 ((w.alloc (.cells #[.int .i64 f, .int .i64 c] 43)).alloc (.cells #[.int .i64 g, .int .i64 d] 43)) (w.heap.size + 1) g d := by have h := (Box2.new (w.alloc (.cells #[.int .i64 f, .int .i64 c] 43)) g d); simpa using h
  replace B_b := Lib.hid B_b
  go_enter Try.func11, Try.ntmps11
  go_wp2_with fail
  generalize (w.alloc (.cells #[.int .i64 f, .int .i64 c] 43)).alloc (.cells #[.int .i64 g, .int .i64 d] 43) = W0 at *
  refine (HA.out _).mono ?_
  rintro e w1 ⟨rfl, bb⟩
  replace bb := nextw (w0 := W0) (by exact ⟨rfl, rfl, rfl, Nat.le_refl _, fun _ _ => rfl⟩) bb
  replace B_a := Lib.hid (Box2.below B_a.out bb B_a.out.lt)
  replace B_b := Lib.hid (Box2.below B_b.out bb B_b.out.lt)
  replace HB := Lib.hid (nextw HB.out bb)
  clear bb
  have c0a := B_a.out.c0
  have c1a := B_a.out.c1
  have c0b := B_b.out.c0
  have c1b := B_b.out.c1
  go_wp2_with fail
  refine (HU.out _).mono ?_
  clear c0a c1a c0b c1b
  rintro e w2 ⟨rfl, bb⟩
  replace bb := nextw (w0 := w1) (by exact ⟨rfl, rfl, rfl, Nat.le_refl _, fun _ _ => rfl⟩) bb
  replace B_a := Lib.hid (Box2.below B_a.out bb B_a.out.lt)
  replace B_b := Lib.hid (Box2.below B_b.out bb B_b.out.lt)
  replace HB := Lib.hid (nextw HB.out bb)
  clear bb
  have lt_ua := B_a.out.lt
  have lt_ub := B_b.out.lt
  have B_u := Lib.hid (Box2.new w2 p q)
  replace B_a := Lib.hid (Box2.alloc B_a.out (.cells #[.int .i64 p, .int .i64 q] 43))
  replace B_b := Lib.hid (Box2.alloc B_b.out (.cells #[.int .i64 p, .int .i64 q] 43))
  replace HB := Lib.hid (nextw HB.out ((Below.refl w2.heap.size w2).alloc (Nat.le_refl _) (.cells #[.int .i64 p, .int .i64 q] 43)))
  go_upto_region 4 with (fail)
  generalize w2.alloc (.cells #[.int .i64 p, .int .i64 q] 43) = WU at *
  have c0a := B_a.out.c0
  have c1a := B_a.out.c1
  have c0b := B_b.out.c0
  have c1b := B_b.out.c1
  go_wp2_with fail
  refine (HV.out _).mono ?_
  clear c0a c1a c0b c1b
  rintro e w3 ⟨rfl, bb⟩
  replace bb := nextw (w0 := WU) (by exact ⟨rfl, rfl, rfl, Nat.le_refl _, fun _ _ => rfl⟩) bb
  replace B_a := Lib.hid (Box2.below B_a.out bb B_a.out.lt)
  replace B_b := Lib.hid (Box2.below B_b.out bb B_b.out.lt)
  replace B_u := Lib.hid (Box2.below B_u.out bb B_u.out.lt)
  replace HB := Lib.hid (nextw HB.out bb)
  clear bb
  have lt_va := B_a.out.lt
  have lt_vb := B_b.out.lt
  have lt_vu := B_u.out.lt
  have B_v := Lib.hid (Box2.new w3 p q)
  replace B_a := Lib.hid (Box2.alloc B_a.out (.cells #[.int .i64 p, .int .i64 q] 43))
  replace B_b := Lib.hid (Box2.alloc B_b.out (.cells #[.int .i64 p, .int .i64 q] 43))
  replace B_u := Lib.hid (Box2.alloc B_u.out (.cells #[.int .i64 p, .int .i64 q] 43))
  replace HB := Lib.hid (nextw HB.out ((Below.refl w3.heap.size w3).alloc (Nat.le_refl _) (.cells #[.int .i64 p, .int .i64 q] 43)))
  go_upto_region 5 with (fail)
  generalize w3.alloc (.cells #[.int .i64 p, .int .i64 q] 43) = WV at *
  have c0u := B_u.out.c0
  have c1u := B_u.out.c1
  have c0v := B_v.out.c0
  have c1v := B_v.out.c1
  clear HA HU HV
  go_wp2_with fail
  refine (HH.out _).mono ?_
  clear c0u c1u c0v c1v
  rintro e w4 ⟨rfl, bb⟩
  replace bb := nextw (w0 := WV) (by exact ⟨rfl, rfl, rfl, Nat.le_refl _, fun _ _ => rfl⟩) bb
  replace B_a := Lib.hid (Box2.below B_a.out bb B_a.out.lt)
  replace B_b := Lib.hid (Box2.below B_b.out bb B_b.out.lt)
  replace B_u := Lib.hid (Box2.below B_u.out bb B_u.out.lt)
  replace B_v := Lib.hid (Box2.below B_v.out bb B_v.out.lt)
  replace HB := Lib.hid (nextw HB.out bb)
  clear bb
  go_wp2
  go_ret
  exact ⟨rfl, nextw HB.out (by exact ⟨rfl, rfl, rfl, Nat.le_refl _, fun _ _ => rfl⟩)⟩

set_option maxRecDepth 100000 in
set_option maxHeartbeats 4000000 in
theorem Hulls_D (f c g d m : Int) (ha : OkA f c) (hb : OkA g d) (m0 : 0 ≤ m) (m1 : m ≤ 255) (hh : hasB (hullF f c g d) (hullC f c g d) m = false) (w : World) :
    Calls Try.prog 11 #[av f c, av g d, .int .u8 m] w fun e w' => e = .returned (.bool true) ∧ Below w.heap.size w w' := by
  have HA := Lib.hid (fun w => awake_any w)
  have hU := Hull_ok f c g d ha hb
  have hV := RHull_ok f c g d ha hb
  have hbest := best_hull ha hb
  rw [hbest] at hV
  clear hbest
  have hko := hull_ok ha hb
  have hno := hull_has ha hb hh
  generalize hullF f c g d = p at *
  generalize hullC f c g d = q at *
  have HU := Lib.hid hU
  have HV := Lib.hid hV
  have HH := Lib.hid (fun w => Has_at (h := m) hko hh w)
  have HHa := Lib.hid (fun w => Has_at (h := m) ha hno.1 w)
  have HHb := Lib.hid (fun w => Has_at (h := m) hb hno.2 w)
  clear hno
  clear hU hV hko hh ha hb
  have HB := Lib.hid (show Below w.heap.size w ((w.alloc (.cells #[.int .i64 f, .int .i64 c] 43)).alloc (.cells #[.int .i64 g, .int .i64 d] 43)) from (((Below.refl _ _).alloc (by simp <;> omega) _).alloc (by simp <;> omega) _))
  have B_a : Box2 ((w.alloc (.cells #[.int .i64 f, .int .i64 c] 43)).alloc (.cells #[.int .i64 g, .int .i64 d] 43)) (w.heap.size) f c := by have h := (Box2.alloc (Box2.new w f c) (.cells #[.int .i64 g, .int .i64 d] 43)); simpa using h
  replace B_a := Lib.hid B_a
  have B_b : Box2 ((w.alloc (.cells #[.int .i64 f, .int .i64 c] 43)).alloc (.cells #[.int .i64 g, .int .i64 d] 43)) (w.heap.size + 1) g d := by have h := (Box2.new (w.alloc (.cells #[.int .i64 f, .int .i64 c] 43)) g d); simpa using h
  replace B_b := Lib.hid B_b
  go_enter Try.func11, Try.ntmps11
  go_wp2_with fail
  generalize (w.alloc (.cells #[.int .i64 f, .int .i64 c] 43)).alloc (.cells #[.int .i64 g, .int .i64 d] 43) = W0 at *
  refine (HA.out _).mono ?_
  rintro e w1 ⟨rfl, bb⟩
  replace bb := nextw (w0 := W0) (by exact ⟨rfl, rfl, rfl, Nat.le_refl _, fun _ _ => rfl⟩) bb
  replace B_a := Lib.hid (Box2.below B_a.out bb B_a.out.lt)
  replace B_b := Lib.hid (Box2.below B_b.out bb B_b.out.lt)
  replace HB := Lib.hid (nextw HB.out bb)
  clear bb
  have c0a := B_a.out.c0
  have c1a := B_a.out.c1
  have c0b := B_b.out.c0
  have c1b := B_b.out.c1
  go_wp2_with fail
  refine (HU.out _).mono ?_
  clear c0a c1a c0b c1b
  rintro e w2 ⟨rfl, bb⟩
  replace bb := nextw (w0 := w1) (by exact ⟨rfl, rfl, rfl, Nat.le_refl _, fun _ _ => rfl⟩) bb
  replace B_a := Lib.hid (Box2.below B_a.out bb B_a.out.lt)
  replace B_b := Lib.hid (Box2.below B_b.out bb B_b.out.lt)
  replace HB := Lib.hid (nextw HB.out bb)
  clear bb
  have lt_ua := B_a.out.lt
  have lt_ub := B_b.out.lt
  have B_u := Lib.hid (Box2.new w2 p q)
  replace B_a := Lib.hid (Box2.alloc B_a.out (.cells #[.int .i64 p, .int .i64 q] 43))
  replace B_b := Lib.hid (Box2.alloc B_b.out (.cells #[.int .i64 p, .int .i64 q] 43))
  replace HB := Lib.hid (nextw HB.out ((Below.refl w2.heap.size w2).alloc (Nat.le_refl _) (.cells #[.int .i64 p, .int .i64 q] 43)))
  go_upto_region 4 with (fail)
  generalize w2.alloc (.cells #[.int .i64 p, .int .i64 q] 43) = WU at *
  have c0a := B_a.out.c0
  have c1a := B_a.out.c1
  have c0b := B_b.out.c0
  have c1b := B_b.out.c1
  go_wp2_with fail
  refine (HV.out _).mono ?_
  clear c0a c1a c0b c1b
  rintro e w3 ⟨rfl, bb⟩
  replace bb := nextw (w0 := WU) (by exact ⟨rfl, rfl, rfl, Nat.le_refl _, fun _ _ => rfl⟩) bb
  replace B_a := Lib.hid (Box2.below B_a.out bb B_a.out.lt)
  replace B_b := Lib.hid (Box2.below B_b.out bb B_b.out.lt)
  replace B_u := Lib.hid (Box2.below B_u.out bb B_u.out.lt)
  replace HB := Lib.hid (nextw HB.out bb)
  clear bb
  have lt_va := B_a.out.lt
  have lt_vb := B_b.out.lt
  have lt_vu := B_u.out.lt
  have B_v := Lib.hid (Box2.new w3 p q)
  replace B_a := Lib.hid (Box2.alloc B_a.out (.cells #[.int .i64 p, .int .i64 q] 43))
  replace B_b := Lib.hid (Box2.alloc B_b.out (.cells #[.int .i64 p, .int .i64 q] 43))
  replace B_u := Lib.hid (Box2.alloc B_u.out (.cells #[.int .i64 p, .int .i64 q] 43))
  replace HB := Lib.hid (nextw HB.out ((Below.refl w3.heap.size w3).alloc (Nat.le_refl _) (.cells #[.int .i64 p, .int .i64 q] 43)))
  go_upto_region 5 with (fail)
  generalize w3.alloc (.cells #[.int .i64 p, .int .i64 q] 43) = WV at *
  have c0u := B_u.out.c0
  have c1u := B_u.out.c1
  have c0v := B_v.out.c0
  have c1v := B_v.out.c1
  clear HA HU HV
  go_wp2_with fail
  refine (HH.out _).mono ?_
  clear c0u c1u c0v c1v
  rintro e w4 ⟨rfl, bb⟩
  replace bb := nextw (w0 := WV) (by exact ⟨rfl, rfl, rfl, Nat.le_refl _, fun _ _ => rfl⟩) bb
  replace B_a := Lib.hid (Box2.below B_a.out bb B_a.out.lt)
  replace B_b := Lib.hid (Box2.below B_b.out bb B_b.out.lt)
  replace B_u := Lib.hid (Box2.below B_u.out bb B_u.out.lt)
  replace B_v := Lib.hid (Box2.below B_v.out bb B_v.out.lt)
  replace HB := Lib.hid (nextw HB.out bb)
  clear bb
  have c0a := B_a.out.c0
  have c1a := B_a.out.c1
  have c0b := B_b.out.c0
  have c1b := B_b.out.c1
  go_wp2_with fail
  refine (HHa.out _).mono ?_
  clear c0a c1a c0b c1b
  rintro e w5 ⟨rfl, bb⟩
  replace bb := nextw (w0 := w4) (by exact ⟨rfl, rfl, rfl, Nat.le_refl _, fun _ _ => rfl⟩) bb
  replace B_a := Lib.hid (Box2.below B_a.out bb B_a.out.lt)
  replace B_b := Lib.hid (Box2.below B_b.out bb B_b.out.lt)
  replace B_u := Lib.hid (Box2.below B_u.out bb B_u.out.lt)
  replace B_v := Lib.hid (Box2.below B_v.out bb B_v.out.lt)
  replace HB := Lib.hid (nextw HB.out bb)
  clear bb
  have c0a := B_a.out.c0
  have c1a := B_a.out.c1
  have c0b := B_b.out.c0
  have c1b := B_b.out.c1
  go_wp2_with fail
  refine (HHb.out _).mono ?_
  clear c0a c1a c0b c1b
  rintro e w6 ⟨rfl, bb⟩
  replace bb := nextw (w0 := w5) (by exact ⟨rfl, rfl, rfl, Nat.le_refl _, fun _ _ => rfl⟩) bb
  replace B_a := Lib.hid (Box2.below B_a.out bb B_a.out.lt)
  replace B_b := Lib.hid (Box2.below B_b.out bb B_b.out.lt)
  replace B_u := Lib.hid (Box2.below B_u.out bb B_u.out.lt)
  replace B_v := Lib.hid (Box2.below B_v.out bb B_v.out.lt)
  replace HB := Lib.hid (nextw HB.out bb)
  clear bb
  go_wp2
  go_ret
  exact ⟨rfl, nextw HB.out (by exact ⟨rfl, rfl, rfl, Nat.le_refl _, fun _ _ => rfl⟩)⟩

theorem Hulls_any (f c g d m : Int) (m0 : 0 ≤ m) (m1 : m ≤ 255) (w : World) :
    Calls Try.prog 11 #[av f c, av g d, .int .u8 m] w fun e w' => e = .returned (.bool true) ∧ Below w.heap.size w w' := by
  by_cases ha : OkA f c
  · by_cases hb : OkA g d
    · rcases hh : hasB (hullF f c g d) (hullC f c g d) m with _ | _
      · exact Hulls_D f c g d m ha hb m0 m1 hh w
      · exact Hulls_C f c g d m ha hb m0 m1 hh w
    · exact Hulls_B f c g d m ha hb w
  · exact Hulls_A f c g d m ha w
end Go.Proofs.Ytincejndchdcdaa
