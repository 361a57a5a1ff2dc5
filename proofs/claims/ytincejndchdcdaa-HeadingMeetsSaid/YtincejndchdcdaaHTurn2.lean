/- heading.Turn. -/
import Derived.Test.YtincejndchdcdaaHTurn
namespace Go.Proofs.Ytincejndchdcdaa
open Go Go.RowKit Hd

/-- Products of bounded numbers. -/
theorem mul_bound {a b : Int} (a1 : -67108864 ≤ a) (a2 : a ≤ 67108864) (b1 : -67108864 ≤ b) (b2 : b ≤ 67108864) : -4503599627370496 ≤ a * b ∧ a * b ≤ 4503599627370496 := by
  have : a.natAbs * b.natAbs ≤ 67108864 * 67108864 := Nat.mul_le_mul (by omega) (by omega)
  rw [← Int.natAbs_mul] at this
  omega
theorem mul_pos1 {a b : Int} (a1 : 1 ≤ a) (b1 : 1 ≤ b) : 1 ≤ a * b := by have := Int.mul_pos (show 0 < a by omega) (show 0 < b by omega); omega

set_option maxRecDepth 100000 in
set_option maxHeartbeats 1000000 in
theorem Turn_bad1 (a b : V3) (hf : Fit a) (hn : ¬ Ok a) (w : World) :
    Calls Try.prog 24 #[vv a, vv b] w fun e w' => e = .returned (.tuple #[vv ⟨0, 0, 0⟩, .int .i64 1]) ∧ Below w.heap.size w w' := by
  have HV := Lib.hid (fun w => Valid_no a hf hn w)
  obtain ⟨x, y, d⟩ := a
  obtain ⟨u, v, f⟩ := b
  clear hf hn
  have HB := Lib.hid (show Below w.heap.size w (((w.alloc (.cells #[.int .i64 x, .int .i64 y, .int .i64 d] 24)).alloc (.cells #[.int .i64 u, .int .i64 v, .int .i64 f] 24)).alloc (.cells #[.int .i64 0, .int .i64 0, .int .i64 0] 24)) from ((((Below.refl _ _).alloc (by simp <;> omega) _).alloc (by simp <;> omega) _).alloc (by simp <;> omega) _))
  have B_a : Box3 (((w.alloc (.cells #[.int .i64 x, .int .i64 y, .int .i64 d] 24)).alloc (.cells #[.int .i64 u, .int .i64 v, .int .i64 f] 24)).alloc (.cells #[.int .i64 0, .int .i64 0, .int .i64 0] 24)) (w.heap.size) x y d := by have h := (Box3.alloc (Box3.alloc (Box3.new w x y d) (.cells #[.int .i64 u, .int .i64 v, .int .i64 f] 24)) (.cells #[.int .i64 0, .int .i64 0, .int .i64 0] 24)); simpa using h
  replace B_a := Lib.hid B_a
  have B_b : Box3 (((w.alloc (.cells #[.int .i64 x, .int .i64 y, .int .i64 d] 24)).alloc (.cells #[.int .i64 u, .int .i64 v, .int .i64 f] 24)).alloc (.cells #[.int .i64 0, .int .i64 0, .int .i64 0] 24)) (w.heap.size + 1) u v f := by have h := (Box3.alloc (Box3.new (w.alloc (.cells #[.int .i64 x, .int .i64 y, .int .i64 d] 24)) u v f) (.cells #[.int .i64 0, .int .i64 0, .int .i64 0] 24)); simpa using h
  replace B_b := Lib.hid B_b
  have B_r : Box3 (((w.alloc (.cells #[.int .i64 x, .int .i64 y, .int .i64 d] 24)).alloc (.cells #[.int .i64 u, .int .i64 v, .int .i64 f] 24)).alloc (.cells #[.int .i64 0, .int .i64 0, .int .i64 0] 24)) (w.heap.size + 1 + 1) 0 0 0 := by have h := (Box3.new ((w.alloc (.cells #[.int .i64 x, .int .i64 y, .int .i64 d] 24)).alloc (.cells #[.int .i64 u, .int .i64 v, .int .i64 f] 24)) 0 0 0); simpa using h
  replace B_r := Lib.hid B_r
  go_enter Try.func24, Try.ntmps24
  go_wp2_with fail
  generalize ((w.alloc (.cells #[.int .i64 x, .int .i64 y, .int .i64 d] 24)).alloc (.cells #[.int .i64 u, .int .i64 v, .int .i64 f] 24)).alloc (.cells #[.int .i64 0, .int .i64 0, .int .i64 0] 24) = W0 at *
  have c0a := B_a.out.c0
  have c1a := B_a.out.c1
  have c2a := B_a.out.c2
  have c0b := B_b.out.c0
  have c1b := B_b.out.c1
  have c2b := B_b.out.c2
  refine (HV.out _).mono ?_
  clear c0a c1a c2a c0b c1b c2b
  rintro e w1 ⟨rfl, bb⟩
  replace bb := nextw (w0 := W0) (by exact ⟨rfl, rfl, rfl, Nat.le_refl _, fun _ _ => rfl⟩) bb
  replace B_a := Lib.hid (Box3.below B_a.out bb B_a.out.lt)
  replace B_b := Lib.hid (Box3.below B_b.out bb B_b.out.lt)
  replace B_r := Lib.hid (Box3.below B_r.out bb B_r.out.lt)
  replace HB := Lib.hid (nextw HB.out bb)
  clear bb
  have sS := Box3.store B_r.out 0 0 0
  have s0 := sS.c0
  have s1 := sS.c1
  have s2 := sS.c2
  have HF := Lib.hid (Below.store3 HB.out (y := w.heap.size + 1 + 1) (by omega) (.int .i64 0) (.int .i64 0) (.int .i64 0))
  simp only [st3] at s0 s1 s2 HF
  clear sS
  have c0r := B_r.out.c0
  have f0r := B_r.out.f0
  have c1r := B_r.out.c1
  have f1r := B_r.out.f1
  have c2r := B_r.out.c2
  have f2r := B_r.out.f2
  go_wp2_with fail
  exact bodyPost_ret (v := .tuple #[.agg #[.int .i64 0, .int .i64 0, .int .i64 0], .int .i64 1]) (by simp [results, Try.results24, go_sem, s0, s1, s2]) rfl ⟨rfl, nextw HF.out (by exact ⟨rfl, rfl, rfl, Nat.le_refl _, fun _ _ => rfl⟩)⟩

set_option maxRecDepth 100000 in
set_option maxHeartbeats 1000000 in
theorem Turn_bad2 (a b : V3) (ha : Ok a) (hf : Fit b) (hn : ¬ Ok b) (w : World) :
    Calls Try.prog 24 #[vv a, vv b] w fun e w' => e = .returned (.tuple #[vv ⟨0, 0, 0⟩, .int .i64 1]) ∧ Below w.heap.size w w' := by
  have HV := Lib.hid (fun w => Valid_yes a ha w)
  have HW := Lib.hid (fun w => Valid_no b hf hn w)
  obtain ⟨x, y, d⟩ := a
  obtain ⟨u, v, f⟩ := b
  clear ha hf hn
  have HB := Lib.hid (show Below w.heap.size w (((w.alloc (.cells #[.int .i64 x, .int .i64 y, .int .i64 d] 24)).alloc (.cells #[.int .i64 u, .int .i64 v, .int .i64 f] 24)).alloc (.cells #[.int .i64 0, .int .i64 0, .int .i64 0] 24)) from ((((Below.refl _ _).alloc (by simp <;> omega) _).alloc (by simp <;> omega) _).alloc (by simp <;> omega) _))
  have B_a : Box3 (((w.alloc (.cells #[.int .i64 x, .int .i64 y, .int .i64 d] 24)).alloc (.cells #[.int .i64 u, .int .i64 v, .int .i64 f] 24)).alloc (.cells #[.int .i64 0, .int .i64 0, .int .i64 0] 24)) (w.heap.size) x y d := by have h := (Box3.alloc (Box3.alloc (Box3.new w x y d) (.cells #[.int .i64 u, .int .i64 v, .int .i64 f] 24)) (.cells #[.int .i64 0, .int .i64 0, .int .i64 0] 24)); simpa using h
  replace B_a := Lib.hid B_a
  have B_b : Box3 (((w.alloc (.cells #[.int .i64 x, .int .i64 y, .int .i64 d] 24)).alloc (.cells #[.int .i64 u, .int .i64 v, .int .i64 f] 24)).alloc (.cells #[.int .i64 0, .int .i64 0, .int .i64 0] 24)) (w.heap.size + 1) u v f := by have h := (Box3.alloc (Box3.new (w.alloc (.cells #[.int .i64 x, .int .i64 y, .int .i64 d] 24)) u v f) (.cells #[.int .i64 0, .int .i64 0, .int .i64 0] 24)); simpa using h
  replace B_b := Lib.hid B_b
  have B_r : Box3 (((w.alloc (.cells #[.int .i64 x, .int .i64 y, .int .i64 d] 24)).alloc (.cells #[.int .i64 u, .int .i64 v, .int .i64 f] 24)).alloc (.cells #[.int .i64 0, .int .i64 0, .int .i64 0] 24)) (w.heap.size + 1 + 1) 0 0 0 := by have h := (Box3.new ((w.alloc (.cells #[.int .i64 x, .int .i64 y, .int .i64 d] 24)).alloc (.cells #[.int .i64 u, .int .i64 v, .int .i64 f] 24)) 0 0 0); simpa using h
  replace B_r := Lib.hid B_r
  go_enter Try.func24, Try.ntmps24
  go_wp2_with fail
  generalize ((w.alloc (.cells #[.int .i64 x, .int .i64 y, .int .i64 d] 24)).alloc (.cells #[.int .i64 u, .int .i64 v, .int .i64 f] 24)).alloc (.cells #[.int .i64 0, .int .i64 0, .int .i64 0] 24) = W0 at *
  have c0a := B_a.out.c0
  have c1a := B_a.out.c1
  have c2a := B_a.out.c2
  have c0b := B_b.out.c0
  have c1b := B_b.out.c1
  have c2b := B_b.out.c2
  refine (HV.out _).mono ?_
  clear c0a c1a c2a c0b c1b c2b
  rintro e w1 ⟨rfl, bb⟩
  replace bb := nextw (w0 := W0) (by exact ⟨rfl, rfl, rfl, Nat.le_refl _, fun _ _ => rfl⟩) bb
  replace B_a := Lib.hid (Box3.below B_a.out bb B_a.out.lt)
  replace B_b := Lib.hid (Box3.below B_b.out bb B_b.out.lt)
  replace B_r := Lib.hid (Box3.below B_r.out bb B_r.out.lt)
  replace HB := Lib.hid (nextw HB.out bb)
  clear bb
  have c0a := B_a.out.c0
  have c1a := B_a.out.c1
  have c2a := B_a.out.c2
  have c0b := B_b.out.c0
  have c1b := B_b.out.c1
  have c2b := B_b.out.c2
  go_wp2_with fail
  refine (HW.out _).mono ?_
  clear c0a c1a c2a c0b c1b c2b
  rintro e w2 ⟨rfl, bb⟩
  replace bb := nextw (w0 := w1) (by exact ⟨rfl, rfl, rfl, Nat.le_refl _, fun _ _ => rfl⟩) bb
  replace B_a := Lib.hid (Box3.below B_a.out bb B_a.out.lt)
  replace B_b := Lib.hid (Box3.below B_b.out bb B_b.out.lt)
  replace B_r := Lib.hid (Box3.below B_r.out bb B_r.out.lt)
  replace HB := Lib.hid (nextw HB.out bb)
  clear bb
  have sS := Box3.store B_r.out 0 0 0
  have s0 := sS.c0
  have s1 := sS.c1
  have s2 := sS.c2
  have HF := Lib.hid (Below.store3 HB.out (y := w.heap.size + 1 + 1) (by omega) (.int .i64 0) (.int .i64 0) (.int .i64 0))
  simp only [st3] at s0 s1 s2 HF
  clear sS
  have c0r := B_r.out.c0
  have f0r := B_r.out.f0
  have c1r := B_r.out.c1
  have f1r := B_r.out.f1
  have c2r := B_r.out.c2
  have f2r := B_r.out.f2
  go_wp2_with fail
  exact bodyPost_ret (v := .tuple #[.agg #[.int .i64 0, .int .i64 0, .int .i64 0], .int .i64 1]) (by simp [results, Try.results24, go_sem, s0, s1, s2]) rfl ⟨rfl, nextw HF.out (by exact ⟨rfl, rfl, rfl, Nat.le_refl _, fun _ _ => rfl⟩)⟩

set_option maxRecDepth 100000 in
set_option maxHeartbeats 1000000 in
theorem Turn_ok (a b : V3) (ha : Ok a) (hb : Ok b) (hm : (prod a b).d ≤ 67108864) (w : World) :
    Calls Try.prog 24 #[vv a, vv b] w fun e w' => e = .returned (.tuple #[vv (prod a b), .int .i64 0]) ∧ Below w.heap.size w w' := by
  have HV := Lib.hid (fun w => Valid_yes a ha w)
  have HW := Lib.hid (fun w => Valid_yes b hb w)
  have hax := ha.bx
  have hay := ha.by_
  have hbx := hb.bx
  have hby := hb.by_
  have had := ha.lo
  have had2 := ha.hi
  have hbd := hb.lo
  have hbd2 := hb.hi
  have HP : Hid (low (a.x * b.x - a.y * b.y) (a.x * b.y + a.y * b.x) (a.d * b.d) = prod a b) := rfl
  obtain ⟨x, y, d⟩ := a
  obtain ⟨u, v, f⟩ := b
  simp only at hax hay hbx hby had had2 hbd hbd2 HP
  clear ha hb
  have m1 := mul_bound (a := x) (b := u) (by omega) (by omega) (by omega) (by omega)
  have m2 := mul_bound (a := y) (b := v) (by omega) (by omega) (by omega) (by omega)
  have m3 := mul_bound (a := x) (b := v) (by omega) (by omega) (by omega) (by omega)
  have m4 := mul_bound (a := y) (b := u) (by omega) (by omega) (by omega) (by omega)
  have m5 := mul_bound (a := d) (b := f) (by omega) (by omega) (by omega) (by omega)
  have m6 := mul_pos1 (a := d) (b := f) (by omega) (by omega)
  have HL := Lib.hid (fun w => lowest_any (x * u - y * v) (x * v + y * u) (d * f) w (by omega) (by omega) (by omega) (by omega) (by omega) (by omega))
  rw [HP.out] at HL
  clear HP
  generalize prod ⟨x, y, d⟩ ⟨u, v, f⟩ = L at *
  have HB := Lib.hid (show Below w.heap.size w (((w.alloc (.cells #[.int .i64 x, .int .i64 y, .int .i64 d] 24)).alloc (.cells #[.int .i64 u, .int .i64 v, .int .i64 f] 24)).alloc (.cells #[.int .i64 0, .int .i64 0, .int .i64 0] 24)) from ((((Below.refl _ _).alloc (by simp <;> omega) _).alloc (by simp <;> omega) _).alloc (by simp <;> omega) _))
  have B_a : Box3 (((w.alloc (.cells #[.int .i64 x, .int .i64 y, .int .i64 d] 24)).alloc (.cells #[.int .i64 u, .int .i64 v, .int .i64 f] 24)).alloc (.cells #[.int .i64 0, .int .i64 0, .int .i64 0] 24)) (w.heap.size) x y d := by have h := (Box3.alloc (Box3.alloc (Box3.new w x y d) (.cells #[.int .i64 u, .int .i64 v, .int .i64 f] 24)) (.cells #[.int .i64 0, .int .i64 0, .int .i64 0] 24)); simpa using h
  replace B_a := Lib.hid B_a
  have B_b : Box3 (((w.alloc (.cells #[.int .i64 x, .int .i64 y, .int .i64 d] 24)).alloc (.cells #[.int .i64 u, .int .i64 v, .int .i64 f] 24)).alloc (.cells #[.int .i64 0, .int .i64 0, .int .i64 0] 24)) (w.heap.size + 1) u v f := by have h := (Box3.alloc (Box3.new (w.alloc (.cells #[.int .i64 x, .int .i64 y, .int .i64 d] 24)) u v f) (.cells #[.int .i64 0, .int .i64 0, .int .i64 0] 24)); simpa using h
  replace B_b := Lib.hid B_b
  have B_r : Box3 (((w.alloc (.cells #[.int .i64 x, .int .i64 y, .int .i64 d] 24)).alloc (.cells #[.int .i64 u, .int .i64 v, .int .i64 f] 24)).alloc (.cells #[.int .i64 0, .int .i64 0, .int .i64 0] 24)) (w.heap.size + 1 + 1) 0 0 0 := by have h := (Box3.new ((w.alloc (.cells #[.int .i64 x, .int .i64 y, .int .i64 d] 24)).alloc (.cells #[.int .i64 u, .int .i64 v, .int .i64 f] 24)) 0 0 0); simpa using h
  replace B_r := Lib.hid B_r
  go_enter Try.func24, Try.ntmps24
  go_wp2_with fail
  generalize ((w.alloc (.cells #[.int .i64 x, .int .i64 y, .int .i64 d] 24)).alloc (.cells #[.int .i64 u, .int .i64 v, .int .i64 f] 24)).alloc (.cells #[.int .i64 0, .int .i64 0, .int .i64 0] 24) = W0 at *
  have c0a := B_a.out.c0
  have c1a := B_a.out.c1
  have c2a := B_a.out.c2
  have c0b := B_b.out.c0
  have c1b := B_b.out.c1
  have c2b := B_b.out.c2
  refine (HV.out _).mono ?_
  clear c0a c1a c2a c0b c1b c2b
  rintro e w1 ⟨rfl, bb⟩
  replace bb := nextw (w0 := W0) (by exact ⟨rfl, rfl, rfl, Nat.le_refl _, fun _ _ => rfl⟩) bb
  replace B_a := Lib.hid (Box3.below B_a.out bb B_a.out.lt)
  replace B_b := Lib.hid (Box3.below B_b.out bb B_b.out.lt)
  replace B_r := Lib.hid (Box3.below B_r.out bb B_r.out.lt)
  replace HB := Lib.hid (nextw HB.out bb)
  clear bb
  have c0a := B_a.out.c0
  have c1a := B_a.out.c1
  have c2a := B_a.out.c2
  have c0b := B_b.out.c0
  have c1b := B_b.out.c1
  have c2b := B_b.out.c2
  go_wp2_with fail
  refine (HW.out _).mono ?_
  clear c0a c1a c2a c0b c1b c2b
  rintro e w2 ⟨rfl, bb⟩
  replace bb := nextw (w0 := w1) (by exact ⟨rfl, rfl, rfl, Nat.le_refl _, fun _ _ => rfl⟩) bb
  replace B_a := Lib.hid (Box3.below B_a.out bb B_a.out.lt)
  replace B_b := Lib.hid (Box3.below B_b.out bb B_b.out.lt)
  replace B_r := Lib.hid (Box3.below B_r.out bb B_r.out.lt)
  replace HB := Lib.hid (nextw HB.out bb)
  clear bb
  have c0a := B_a.out.c0
  have c1a := B_a.out.c1
  have c2a := B_a.out.c2
  have c0b := B_b.out.c0
  have c1b := B_b.out.c1
  have c2b := B_b.out.c2
  go_wp2_with fail
  refine (HL.out _).mono ?_
  clear c0a c1a c2a c0b c1b c2b
  rintro e w3 ⟨rfl, bb⟩
  replace bb := nextw (w0 := w2) (by exact ⟨rfl, rfl, rfl, Nat.le_refl _, fun _ _ => rfl⟩) bb
  replace B_a := Lib.hid (Box3.below B_a.out bb B_a.out.lt)
  replace B_b := Lib.hid (Box3.below B_b.out bb B_b.out.lt)
  replace B_r := Lib.hid (Box3.below B_r.out bb B_r.out.lt)
  replace HB := Lib.hid (nextw HB.out bb)
  clear bb
  clear HV HW HL m1 m2 m3 m4 m5 m6
  clear B_a B_b
  have lt_vr := B_r.out.lt
  have B_v := Lib.hid (Box3.new w3 L.x L.y L.d)
  replace B_r := Lib.hid (Box3.alloc B_r.out (.cells #[.int .i64 L.x, .int .i64 L.y, .int .i64 L.d] 24))
  replace HB := Lib.hid (nextw HB.out ((Below.refl w3.heap.size w3).alloc (Nat.le_refl _) (.cells #[.int .i64 L.x, .int .i64 L.y, .int .i64 L.d] 24)))
  go_upto_region 4 with (fail)
  generalize w3.alloc (.cells #[.int .i64 L.x, .int .i64 L.y, .int .i64 L.d] 24) = W1 at *
  have c0v := B_v.out.c0
  have c1v := B_v.out.c1
  have c2v := B_v.out.c2
  have sS := Box3.store B_r.out L.x L.y L.d
  have s0 := sS.c0
  have s1 := sS.c1
  have s2 := sS.c2
  have HF := Lib.hid (Below.store3 HB.out (y := w.heap.size + 1 + 1) (by omega) (.int .i64 L.x) (.int .i64 L.y) (.int .i64 L.d))
  simp only [st3] at s0 s1 s2 HF
  clear sS
  have c0r := B_r.out.c0
  have f0r := B_r.out.f0
  have c1r := B_r.out.c1
  have f1r := B_r.out.f1
  have c2r := B_r.out.c2
  have f2r := B_r.out.f2
  go_wp2_with fail
  exact bodyPost_ret (v := .tuple #[.agg #[.int .i64 L.x, .int .i64 L.y, .int .i64 L.d], .int .i64 0]) (by simp [results, Try.results24, go_sem, s0, s1, s2]) rfl ⟨rfl, nextw HF.out (by exact ⟨rfl, rfl, rfl, Nat.le_refl _, fun _ _ => rfl⟩)⟩

set_option maxRecDepth 100000 in
set_option maxHeartbeats 1000000 in
theorem Turn_range (a b : V3) (ha : Ok a) (hb : Ok b) (hm : 67108864 < (prod a b).d) (w : World) :
    Calls Try.prog 24 #[vv a, vv b] w fun e w' => e = .returned (.tuple #[vv ⟨0, 0, 0⟩, .int .i64 2]) ∧ Below w.heap.size w w' := by
  have HV := Lib.hid (fun w => Valid_yes a ha w)
  have HW := Lib.hid (fun w => Valid_yes b hb w)
  have hax := ha.bx
  have hay := ha.by_
  have hbx := hb.bx
  have hby := hb.by_
  have had := ha.lo
  have had2 := ha.hi
  have hbd := hb.lo
  have hbd2 := hb.hi
  have HP : Hid (low (a.x * b.x - a.y * b.y) (a.x * b.y + a.y * b.x) (a.d * b.d) = prod a b) := rfl
  obtain ⟨x, y, d⟩ := a
  obtain ⟨u, v, f⟩ := b
  simp only at hax hay hbx hby had had2 hbd hbd2 HP
  clear ha hb
  have m1 := mul_bound (a := x) (b := u) (by omega) (by omega) (by omega) (by omega)
  have m2 := mul_bound (a := y) (b := v) (by omega) (by omega) (by omega) (by omega)
  have m3 := mul_bound (a := x) (b := v) (by omega) (by omega) (by omega) (by omega)
  have m4 := mul_bound (a := y) (b := u) (by omega) (by omega) (by omega) (by omega)
  have m5 := mul_bound (a := d) (b := f) (by omega) (by omega) (by omega) (by omega)
  have m6 := mul_pos1 (a := d) (b := f) (by omega) (by omega)
  have HL := Lib.hid (fun w => lowest_any (x * u - y * v) (x * v + y * u) (d * f) w (by omega) (by omega) (by omega) (by omega) (by omega) (by omega))
  rw [HP.out] at HL
  clear HP
  generalize prod ⟨x, y, d⟩ ⟨u, v, f⟩ = L at *
  have HB := Lib.hid (show Below w.heap.size w (((w.alloc (.cells #[.int .i64 x, .int .i64 y, .int .i64 d] 24)).alloc (.cells #[.int .i64 u, .int .i64 v, .int .i64 f] 24)).alloc (.cells #[.int .i64 0, .int .i64 0, .int .i64 0] 24)) from ((((Below.refl _ _).alloc (by simp <;> omega) _).alloc (by simp <;> omega) _).alloc (by simp <;> omega) _))
  have B_a : Box3 (((w.alloc (.cells #[.int .i64 x, .int .i64 y, .int .i64 d] 24)).alloc (.cells #[.int .i64 u, .int .i64 v, .int .i64 f] 24)).alloc (.cells #[.int .i64 0, .int .i64 0, .int .i64 0] 24)) (w.heap.size) x y d := by have h := (Box3.alloc (Box3.alloc (Box3.new w x y d) (.cells #[.int .i64 u, .int .i64 v, .int .i64 f] 24)) (.cells #[.int .i64 0, .int .i64 0, .int .i64 0] 24)); simpa using h
  replace B_a := Lib.hid B_a
  have B_b : Box3 (((w.alloc (.cells #[.int .i64 x, .int .i64 y, .int .i64 d] 24)).alloc (.cells #[.int .i64 u, .int .i64 v, .int .i64 f] 24)).alloc (.cells #[.int .i64 0, .int .i64 0, .int .i64 0] 24)) (w.heap.size + 1) u v f := by have h := (Box3.alloc (Box3.new (w.alloc (.cells #[.int .i64 x, .int .i64 y, .int .i64 d] 24)) u v f) (.cells #[.int .i64 0, .int .i64 0, .int .i64 0] 24)); simpa using h
  replace B_b := Lib.hid B_b
  have B_r : Box3 (((w.alloc (.cells #[.int .i64 x, .int .i64 y, .int .i64 d] 24)).alloc (.cells #[.int .i64 u, .int .i64 v, .int .i64 f] 24)).alloc (.cells #[.int .i64 0, .int .i64 0, .int .i64 0] 24)) (w.heap.size + 1 + 1) 0 0 0 := by have h := (Box3.new ((w.alloc (.cells #[.int .i64 x, .int .i64 y, .int .i64 d] 24)).alloc (.cells #[.int .i64 u, .int .i64 v, .int .i64 f] 24)) 0 0 0); simpa using h
  replace B_r := Lib.hid B_r
  go_enter Try.func24, Try.ntmps24
  go_wp2_with fail
  generalize ((w.alloc (.cells #[.int .i64 x, .int .i64 y, .int .i64 d] 24)).alloc (.cells #[.int .i64 u, .int .i64 v, .int .i64 f] 24)).alloc (.cells #[.int .i64 0, .int .i64 0, .int .i64 0] 24) = W0 at *
  have c0a := B_a.out.c0
  have c1a := B_a.out.c1
  have c2a := B_a.out.c2
  have c0b := B_b.out.c0
  have c1b := B_b.out.c1
  have c2b := B_b.out.c2
  refine (HV.out _).mono ?_
  clear c0a c1a c2a c0b c1b c2b
  rintro e w1 ⟨rfl, bb⟩
  replace bb := nextw (w0 := W0) (by exact ⟨rfl, rfl, rfl, Nat.le_refl _, fun _ _ => rfl⟩) bb
  replace B_a := Lib.hid (Box3.below B_a.out bb B_a.out.lt)
  replace B_b := Lib.hid (Box3.below B_b.out bb B_b.out.lt)
  replace B_r := Lib.hid (Box3.below B_r.out bb B_r.out.lt)
  replace HB := Lib.hid (nextw HB.out bb)
  clear bb
  have c0a := B_a.out.c0
  have c1a := B_a.out.c1
  have c2a := B_a.out.c2
  have c0b := B_b.out.c0
  have c1b := B_b.out.c1
  have c2b := B_b.out.c2
  go_wp2_with fail
  refine (HW.out _).mono ?_
  clear c0a c1a c2a c0b c1b c2b
  rintro e w2 ⟨rfl, bb⟩
  replace bb := nextw (w0 := w1) (by exact ⟨rfl, rfl, rfl, Nat.le_refl _, fun _ _ => rfl⟩) bb
  replace B_a := Lib.hid (Box3.below B_a.out bb B_a.out.lt)
  replace B_b := Lib.hid (Box3.below B_b.out bb B_b.out.lt)
  replace B_r := Lib.hid (Box3.below B_r.out bb B_r.out.lt)
  replace HB := Lib.hid (nextw HB.out bb)
  clear bb
  have c0a := B_a.out.c0
  have c1a := B_a.out.c1
  have c2a := B_a.out.c2
  have c0b := B_b.out.c0
  have c1b := B_b.out.c1
  have c2b := B_b.out.c2
  go_wp2_with fail
  refine (HL.out _).mono ?_
  clear c0a c1a c2a c0b c1b c2b
  rintro e w3 ⟨rfl, bb⟩
  replace bb := nextw (w0 := w2) (by exact ⟨rfl, rfl, rfl, Nat.le_refl _, fun _ _ => rfl⟩) bb
  replace B_a := Lib.hid (Box3.below B_a.out bb B_a.out.lt)
  replace B_b := Lib.hid (Box3.below B_b.out bb B_b.out.lt)
  replace B_r := Lib.hid (Box3.below B_r.out bb B_r.out.lt)
  replace HB := Lib.hid (nextw HB.out bb)
  clear bb
  clear HV HW HL m1 m2 m3 m4 m5 m6
  clear B_a B_b
  have lt_vr := B_r.out.lt
  have B_v := Lib.hid (Box3.new w3 L.x L.y L.d)
  replace B_r := Lib.hid (Box3.alloc B_r.out (.cells #[.int .i64 L.x, .int .i64 L.y, .int .i64 L.d] 24))
  replace HB := Lib.hid (nextw HB.out ((Below.refl w3.heap.size w3).alloc (Nat.le_refl _) (.cells #[.int .i64 L.x, .int .i64 L.y, .int .i64 L.d] 24)))
  go_upto_region 4 with (fail)
  generalize w3.alloc (.cells #[.int .i64 L.x, .int .i64 L.y, .int .i64 L.d] 24) = W1 at *
  have c0v := B_v.out.c0
  have c1v := B_v.out.c1
  have c2v := B_v.out.c2
  have sS := Box3.store B_r.out 0 0 0
  have s0 := sS.c0
  have s1 := sS.c1
  have s2 := sS.c2
  have HF := Lib.hid (Below.store3 HB.out (y := w.heap.size + 1 + 1) (by omega) (.int .i64 0) (.int .i64 0) (.int .i64 0))
  simp only [st3] at s0 s1 s2 HF
  clear sS
  have c0r := B_r.out.c0
  have f0r := B_r.out.f0
  have c1r := B_r.out.c1
  have f1r := B_r.out.f1
  have c2r := B_r.out.c2
  have f2r := B_r.out.f2
  go_wp2_with fail
  exact bodyPost_ret (v := .tuple #[.agg #[.int .i64 0, .int .i64 0, .int .i64 0], .int .i64 2]) (by simp [results, Try.results24, go_sem, s0, s1, s2]) rfl ⟨rfl, nextw HF.out (by exact ⟨rfl, rfl, rfl, Nat.le_refl _, fun _ _ => rfl⟩)⟩
end Go.Proofs.Ytincejndchdcdaa
