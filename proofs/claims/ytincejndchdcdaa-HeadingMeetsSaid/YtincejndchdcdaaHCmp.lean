/- heading.Beam, Cmp. -/
import Derived.Test.YtincejndchdcdaaHTurn2
namespace Go.Proofs.Ytincejndchdcdaa
open Go Go.RowKit Hd

theorem dir_prod (h m : Int) : (prod (dir h) (dir m)).d ≤ 67108864 := by
  obtain ⟨h1, h2⟩ := dir_ok h
  obtain ⟨m1, m2⟩ := dir_ok m
  have l := low_le (x := px (dir h) (dir m)) (y := py (dir h) (dir m)) (pd_pos h1.lo m1.lo)
  have : pd (dir h) (dir m) ≤ 8065 * 8065 := Int.mul_le_mul h2 m2 (by have := m1.lo; omega) (by omega)
  unfold prod; omega

set_option maxRecDepth 100000 in
set_option maxHeartbeats 1000000 in
theorem Beam_any (h m : Int) (w : World) :
    Calls Try.prog 16 #[.int .i64 h, .int .i64 m] w fun e w' => e = .returned (vv (prod (dir h) (dir m))) ∧ Below w.heap.size w w' := by
  have HD := Lib.hid (fun n w => Dir_any n w)
  have HT := Lib.hid (fun w => Turn_ok (dir h) (dir m) (dir_ok h).1 (dir_ok m).1 (dir_prod h m) w)
  generalize prod (dir h) (dir m) = L at *
  have HB := Lib.hid (show Below w.heap.size w (w.alloc (.cells #[.int .i64 0, .int .i64 0, .int .i64 0] 24)) from ((Below.refl _ _).alloc (by simp <;> omega) _))
  have B_r : Box3 (w.alloc (.cells #[.int .i64 0, .int .i64 0, .int .i64 0] 24)) (w.heap.size) 0 0 0 := by have h := (Box3.new w 0 0 0); simpa using h
  replace B_r := Lib.hid B_r
  go_enter Try.func16, Try.ntmps16
  go_wp2_with fail
  generalize w.alloc (.cells #[.int .i64 0, .int .i64 0, .int .i64 0] 24) = W0 at *
  refine (HD.out _ _).mono ?_
  rintro e w1 ⟨rfl, bb⟩
  replace bb := nextw (w0 := W0) (by exact ⟨rfl, rfl, rfl, Nat.le_refl _, fun _ _ => rfl⟩) bb
  replace B_r := Lib.hid (Box3.below B_r.out bb B_r.out.lt)
  replace HB := Lib.hid (nextw HB.out bb)
  clear bb
  go_wp2_with fail
  refine (HD.out _ _).mono ?_
  rintro e w2 ⟨rfl, bb⟩
  replace bb := nextw (w0 := w1) (by exact ⟨rfl, rfl, rfl, Nat.le_refl _, fun _ _ => rfl⟩) bb
  replace B_r := Lib.hid (Box3.below B_r.out bb B_r.out.lt)
  replace HB := Lib.hid (nextw HB.out bb)
  clear bb
  go_wp2_with fail
  refine (HT.out _).mono ?_
  rintro e w3 ⟨rfl, bb⟩
  replace bb := nextw (w0 := w2) (by exact ⟨rfl, rfl, rfl, Nat.le_refl _, fun _ _ => rfl⟩) bb
  replace B_r := Lib.hid (Box3.below B_r.out bb B_r.out.lt)
  replace HB := Lib.hid (nextw HB.out bb)
  clear bb
  have lt_vr := B_r.out.lt
  have B_v := Lib.hid (Box3.new w3 L.x L.y L.d)
  replace B_r := Lib.hid (Box3.alloc B_r.out (.cells #[.int .i64 L.x, .int .i64 L.y, .int .i64 L.d] 24))
  replace HB := Lib.hid (nextw HB.out ((Below.refl w3.heap.size w3).alloc (Nat.le_refl _) (.cells #[.int .i64 L.x, .int .i64 L.y, .int .i64 L.d] 24)))
  go_upto_region 2 with (fail)
  generalize w3.alloc (.cells #[.int .i64 L.x, .int .i64 L.y, .int .i64 L.d] 24) = W1 at *
  have c0v := B_v.out.c0
  have c1v := B_v.out.c1
  have c2v := B_v.out.c2
  have sS := Box3.store B_r.out L.x L.y L.d
  have s0 := sS.c0
  have s1 := sS.c1
  have s2 := sS.c2
  have HF := Lib.hid (Below.store3 HB.out (y := w.heap.size) (by omega) (.int .i64 L.x) (.int .i64 L.y) (.int .i64 L.d))
  simp only [st3] at s0 s1 s2 HF
  clear sS
  have c0r := B_r.out.c0
  have f0r := B_r.out.f0
  have c1r := B_r.out.c1
  have f1r := B_r.out.f1
  have c2r := B_r.out.c2
  have f2r := B_r.out.f2
  go_wp2_with fail
  exact bodyPost_ret (v := .agg #[.int .i64 L.x, .int .i64 L.y, .int .i64 L.d]) (by simp [results, Try.results16, go_sem, s0, s1, s2]) rfl ⟨rfl, nextw HF.out (by exact ⟨rfl, rfl, rfl, Nat.le_refl _, fun _ _ => rfl⟩)⟩

set_option maxRecDepth 100000 in
set_option maxHeartbeats 1000000 in
theorem Cmp_bad1 (a b : V3) (hf : Fit a) (hn : ¬ Ok a) (w : World) :
    Calls Try.prog 21 #[vv a, vv b] w fun e w' => e = .returned (.int .i64 0) ∧ Below w.heap.size w w' := by
  have HV := Lib.hid (fun w => Valid_no a hf hn w)
  obtain ⟨x, y, d⟩ := a
  obtain ⟨u, v, f⟩ := b
  clear hf hn
  have HB := Lib.hid (show Below w.heap.size w ((w.alloc (.cells #[.int .i64 x, .int .i64 y, .int .i64 d] 24)).alloc (.cells #[.int .i64 u, .int .i64 v, .int .i64 f] 24)) from (((Below.refl _ _).alloc (by simp <;> omega) _).alloc (by simp <;> omega) _))
  have B_a : Box3 ((w.alloc (.cells #[.int .i64 x, .int .i64 y, .int .i64 d] 24)).alloc (.cells #[.int .i64 u, .int .i64 v, .int .i64 f] 24)) (w.heap.size) x y d := by have h := (Box3.alloc (Box3.new w x y d) (.cells #[.int .i64 u, .int .i64 v, .int .i64 f] 24)); simpa using h
  replace B_a := Lib.hid B_a
  have B_b : Box3 ((w.alloc (.cells #[.int .i64 x, .int .i64 y, .int .i64 d] 24)).alloc (.cells #[.int .i64 u, .int .i64 v, .int .i64 f] 24)) (w.heap.size + 1) u v f := by have h := (Box3.new (w.alloc (.cells #[.int .i64 x, .int .i64 y, .int .i64 d] 24)) u v f); simpa using h
  replace B_b := Lib.hid B_b
  go_enter Try.func21, Try.ntmps21
  go_wp2_with fail
  generalize (w.alloc (.cells #[.int .i64 x, .int .i64 y, .int .i64 d] 24)).alloc (.cells #[.int .i64 u, .int .i64 v, .int .i64 f] 24) = W0 at *
  have c0a := B_a.out.c0
  have c1a := B_a.out.c1
  have c2a := B_a.out.c2
  have c0b := B_b.out.c0
  have c1b := B_b.out.c1
  have c2b := B_b.out.c2
  refine (HV.out _).mono ?_
  clear c0a c1a c2a c0b c1b c2b
  rintro e w1 ⟨rfl, bb⟩
  replace bb := nextw (w0 := W0) (by exact ⟨rfl, rfl, rfl, Nat.le_refl _, fun _ _ => rfl⟩) bb
  replace B_a := Lib.hid (Box3.below B_a.out bb B_a.out.lt)
  replace B_b := Lib.hid (Box3.below B_b.out bb B_b.out.lt)
  replace HB := Lib.hid (nextw HB.out bb)
  clear bb
  have c0a := B_a.out.c0
  have c1a := B_a.out.c1
  have c2a := B_a.out.c2
  have c0b := B_b.out.c0
  have c1b := B_b.out.c1
  have c2b := B_b.out.c2
  clear c0a c1a c2a c0b c1b c2b
  go_wp2
  go_ret
  exact ⟨rfl, nextw HB.out (by exact ⟨rfl, rfl, rfl, Nat.le_refl _, fun _ _ => rfl⟩)⟩

set_option maxRecDepth 100000 in
set_option maxHeartbeats 1000000 in
theorem Cmp_bad2 (a b : V3) (ha : Ok a) (hf : Fit b) (hn : ¬ Ok b) (w : World) :
    Calls Try.prog 21 #[vv a, vv b] w fun e w' => e = .returned (.int .i64 0) ∧ Below w.heap.size w w' := by
  have HV := Lib.hid (fun w => Valid_yes a ha w)
  have HW := Lib.hid (fun w => Valid_no b hf hn w)
  obtain ⟨x, y, d⟩ := a
  obtain ⟨u, v, f⟩ := b
  clear ha hf hn
  have HB := Lib.hid (show Below w.heap.size w ((w.alloc (.cells #[.int .i64 x, .int .i64 y, .int .i64 d] 24)).alloc (.cells #[.int .i64 u, .int .i64 v, .int .i64 f] 24)) from (((Below.refl _ _).alloc (by simp <;> omega) _).alloc (by simp <;> omega) _))
  have B_a : Box3 ((w.alloc (.cells #[.int .i64 x, .int .i64 y, .int .i64 d] 24)).alloc (.cells #[.int .i64 u, .int .i64 v, .int .i64 f] 24)) (w.heap.size) x y d := by have h := (Box3.alloc (Box3.new w x y d) (.cells #[.int .i64 u, .int .i64 v, .int .i64 f] 24)); simpa using h
  replace B_a := Lib.hid B_a
  have B_b : Box3 ((w.alloc (.cells #[.int .i64 x, .int .i64 y, .int .i64 d] 24)).alloc (.cells #[.int .i64 u, .int .i64 v, .int .i64 f] 24)) (w.heap.size + 1) u v f := by have h := (Box3.new (w.alloc (.cells #[.int .i64 x, .int .i64 y, .int .i64 d] 24)) u v f); simpa using h
  replace B_b := Lib.hid B_b
  go_enter Try.func21, Try.ntmps21
  go_wp2_with fail
  generalize (w.alloc (.cells #[.int .i64 x, .int .i64 y, .int .i64 d] 24)).alloc (.cells #[.int .i64 u, .int .i64 v, .int .i64 f] 24) = W0 at *
  have c0a := B_a.out.c0
  have c1a := B_a.out.c1
  have c2a := B_a.out.c2
  have c0b := B_b.out.c0
  have c1b := B_b.out.c1
  have c2b := B_b.out.c2
  refine (HV.out _).mono ?_
  clear c0a c1a c2a c0b c1b c2b
  rintro e w1 ⟨rfl, bb⟩
  replace bb := nextw (w0 := W0) (by exact ⟨rfl, rfl, rfl, Nat.le_refl _, fun _ _ => rfl⟩) bb
  replace B_a := Lib.hid (Box3.below B_a.out bb B_a.out.lt)
  replace B_b := Lib.hid (Box3.below B_b.out bb B_b.out.lt)
  replace HB := Lib.hid (nextw HB.out bb)
  clear bb
  have c0a := B_a.out.c0
  have c1a := B_a.out.c1
  have c2a := B_a.out.c2
  have c0b := B_b.out.c0
  have c1b := B_b.out.c1
  have c2b := B_b.out.c2
  go_wp2_with fail
  refine (HW.out _).mono ?_
  clear c0a c1a c2a c0b c1b c2b
  rintro e w2 ⟨rfl, bb⟩
  replace bb := nextw (w0 := w1) (by exact ⟨rfl, rfl, rfl, Nat.le_refl _, fun _ _ => rfl⟩) bb
  replace B_a := Lib.hid (Box3.below B_a.out bb B_a.out.lt)
  replace B_b := Lib.hid (Box3.below B_b.out bb B_b.out.lt)
  replace HB := Lib.hid (nextw HB.out bb)
  clear bb
  have c0a := B_a.out.c0
  have c1a := B_a.out.c1
  have c2a := B_a.out.c2
  have c0b := B_b.out.c0
  have c1b := B_b.out.c1
  have c2b := B_b.out.c2
  clear c0a c1a c2a c0b c1b c2b
  go_wp2
  go_ret
  exact ⟨rfl, nextw HB.out (by exact ⟨rfl, rfl, rfl, Nat.le_refl _, fun _ _ => rfl⟩)⟩

/-- How two directions compare. -/
def cmpV (a b : V3) : Int := if lowB a = lowB b then cmpI (a.y * b.x) (a.x * b.y) else if lowB b = true then -1 else 1
theorem lower3 (x y d : Int) (w : World) : Calls Try.prog 50 #[.agg #[.int .i64 x, .int .i64 y, .int .i64 d]] w fun e w' => e = .returned (.bool (lowB ⟨x, y, d⟩)) ∧ Below w.heap.size w w' := isLower_any ⟨x, y, d⟩ w
theorem lower_at {x y d : Int} {p : Bool} (h : lowB ⟨x, y, d⟩ = p) (w : World) : Calls Try.prog 50 #[.agg #[.int .i64 x, .int .i64 y, .int .i64 d]] w fun e w' => e = .returned (.bool p) ∧ Below w.heap.size w w' := h ▸ isLower_any ⟨x, y, d⟩ w

set_option maxRecDepth 100000 in
set_option maxHeartbeats 1000000 in
theorem Cmp_tt (a b : V3) (ha : Ok a) (hb : Ok b) (hp : lowB a = true) (hq : lowB b = true) (w : World) :
    Calls Try.prog 21 #[vv a, vv b] w fun e w' => e = .returned (.int .i64 (cmpV a b)) ∧ Below w.heap.size w w' := by
  have HV := Lib.hid (fun w => Valid_yes a ha w)
  have HW := Lib.hid (fun w => Valid_yes b hb w)
  have hax := ha.bx
  have hay := ha.by_
  have hbx := hb.bx
  have hby := hb.by_
  have had := ha.lo
  have had2 := ha.hi
  have hbd := hb.lo
  have hbd2 := hb.hi
  have HR : Hid (cmpV a b = cmpI (a.y * b.x) (a.x * b.y)) := by unfold Hid cmpV; rw [hp, hq, if_pos rfl]
  have HLa := Lib.hid (fun w => lower_at hp w)
  have HLb := Lib.hid (fun w => lower_at hq w)
  obtain ⟨x, y, d⟩ := a
  obtain ⟨u, v, f⟩ := b
  simp only at hax hay hbx hby had had2 hbd hbd2 HR
  clear ha hb hp hq
  rw [HR.out]
  have m1 := mul_bound (a := y) (b := u) (by omega) (by omega) (by omega) (by omega)
  have m2 := mul_bound (a := x) (b := v) (by omega) (by omega) (by omega) (by omega)
  have HC := Lib.hid (fun w => Compare_any (y * u) (x * v) w)
  have HB := Lib.hid (show Below w.heap.size w ((w.alloc (.cells #[.int .i64 x, .int .i64 y, .int .i64 d] 24)).alloc (.cells #[.int .i64 u, .int .i64 v, .int .i64 f] 24)) from (((Below.refl _ _).alloc (by simp <;> omega) _).alloc (by simp <;> omega) _))
  have B_a : Box3 ((w.alloc (.cells #[.int .i64 x, .int .i64 y, .int .i64 d] 24)).alloc (.cells #[.int .i64 u, .int .i64 v, .int .i64 f] 24)) (w.heap.size) x y d := by have h := (Box3.alloc (Box3.new w x y d) (.cells #[.int .i64 u, .int .i64 v, .int .i64 f] 24)); simpa using h
  replace B_a := Lib.hid B_a
  have B_b : Box3 ((w.alloc (.cells #[.int .i64 x, .int .i64 y, .int .i64 d] 24)).alloc (.cells #[.int .i64 u, .int .i64 v, .int .i64 f] 24)) (w.heap.size + 1) u v f := by have h := (Box3.new (w.alloc (.cells #[.int .i64 x, .int .i64 y, .int .i64 d] 24)) u v f); simpa using h
  replace B_b := Lib.hid B_b
  go_enter Try.func21, Try.ntmps21
  go_wp2_with fail
  generalize (w.alloc (.cells #[.int .i64 x, .int .i64 y, .int .i64 d] 24)).alloc (.cells #[.int .i64 u, .int .i64 v, .int .i64 f] 24) = W0 at *
  have c0a := B_a.out.c0
  have c1a := B_a.out.c1
  have c2a := B_a.out.c2
  have c0b := B_b.out.c0
  have c1b := B_b.out.c1
  have c2b := B_b.out.c2
  refine (HV.out _).mono ?_
  clear c0a c1a c2a c0b c1b c2b
  rintro e w1 ⟨rfl, bb⟩
  replace bb := nextw (w0 := W0) (by exact ⟨rfl, rfl, rfl, Nat.le_refl _, fun _ _ => rfl⟩) bb
  replace B_a := Lib.hid (Box3.below B_a.out bb B_a.out.lt)
  replace B_b := Lib.hid (Box3.below B_b.out bb B_b.out.lt)
  replace HB := Lib.hid (nextw HB.out bb)
  clear bb
  have c0a := B_a.out.c0
  have c1a := B_a.out.c1
  have c2a := B_a.out.c2
  have c0b := B_b.out.c0
  have c1b := B_b.out.c1
  have c2b := B_b.out.c2
  go_wp2_with fail
  refine (HW.out _).mono ?_
  clear c0a c1a c2a c0b c1b c2b
  rintro e w2 ⟨rfl, bb⟩
  replace bb := nextw (w0 := w1) (by exact ⟨rfl, rfl, rfl, Nat.le_refl _, fun _ _ => rfl⟩) bb
  replace B_a := Lib.hid (Box3.below B_a.out bb B_a.out.lt)
  replace B_b := Lib.hid (Box3.below B_b.out bb B_b.out.lt)
  replace HB := Lib.hid (nextw HB.out bb)
  clear bb
  have c0a := B_a.out.c0
  have c1a := B_a.out.c1
  have c2a := B_a.out.c2
  have c0b := B_b.out.c0
  have c1b := B_b.out.c1
  have c2b := B_b.out.c2
  clear c0a c1a c2a c0b c1b c2b
  go_wp2_with fail
  have c0a := B_a.out.c0
  have c1a := B_a.out.c1
  have c2a := B_a.out.c2
  have c0b := B_b.out.c0
  have c1b := B_b.out.c1
  have c2b := B_b.out.c2
  have tk1x0 : True := trivial
  go_region_held3 (fun w' => w'.cell? ⟨w.heap.size, 0, none⟩ = some (.int .i64 x) ∧ w'.cell? ⟨w.heap.size, 1, none⟩ = some (.int .i64 y) ∧ w'.cell? ⟨w.heap.size, 2, none⟩ = some (.int .i64 d) ∧ w'.cell? ⟨w.heap.size + 1, 0, none⟩ = some (.int .i64 u) ∧ w'.cell? ⟨w.heap.size + 1, 1, none⟩ = some (.int .i64 v) ∧ w'.cell? ⟨w.heap.size + 1, 2, none⟩ = some (.int .i64 f)) (((try dsimp only); (repeat' apply And.intro) <;> (first | (with_reducible assumption) | ((repeat (first | (with_reducible refine Eq.trans (cell_drew1 _ _) ?_) | (with_reducible refine Eq.trans (World.cell?_alloc_lt _ _ _ (by first | (dsimp only; omega) | (simp only [World.size_alloc, World.size_setCell]; omega))) ?_))); with_reducible assumption) | assumption | go_keep)))
    (first
      | (clear tk1x0; go_at_call 50; refine (HLa.out _).mono ?_; rintro e w3 ⟨rfl, bb⟩; replace bb := nextw (w0 := w2) (by exact ⟨rfl, rfl, rfl, Nat.le_refl _, fun _ _ => rfl⟩) bb; replace B_a := Lib.hid (Box3.below B_a.out bb B_a.out.lt); replace B_b := Lib.hid (Box3.below B_b.out bb B_b.out.lt); replace HB := Lib.hid (nextw HB.out bb); clear bb c0a c1a c2a c0b c1b c2b; have c0a := B_a.out.c0; have c1a := B_a.out.c1; have c2a := B_a.out.c2; have c0b := B_b.out.c0; have c1b := B_b.out.c1; have c2b := B_b.out.c2; have tk1x1 : True := trivial)
      | (clear tk1x1; go_at_call 50; refine (HLb.out _).mono ?_; rintro e w4 ⟨rfl, bb⟩; replace bb := nextw (w0 := w3) (by exact ⟨rfl, rfl, rfl, Nat.le_refl _, fun _ _ => rfl⟩) bb; replace B_a := Lib.hid (Box3.below B_a.out bb B_a.out.lt); replace B_b := Lib.hid (Box3.below B_b.out bb B_b.out.lt); replace HB := Lib.hid (nextw HB.out bb); clear bb c0a c1a c2a c0b c1b c2b; have c0a := B_a.out.c0; have c1a := B_a.out.c1; have c2a := B_a.out.c2; have c0b := B_b.out.c0; have c1b := B_b.out.c1; have c2b := B_b.out.c2; have tk1x2 : True := trivial))
  go_wp2_with fail
  refine (HC.out _).mono ?_
  rintro e w5 ⟨rfl, rfl⟩
  clear c0a c1a c2a c0b c1b c2b
  go_wp2
  go_ret
  exact ⟨rfl, nextw HB.out (by exact ⟨rfl, rfl, rfl, Nat.le_refl _, fun _ _ => rfl⟩)⟩

set_option maxRecDepth 100000 in
set_option maxHeartbeats 1000000 in
theorem Cmp_tf (a b : V3) (ha : Ok a) (hb : Ok b) (hp : lowB a = true) (hq : lowB b = false) (w : World) :
    Calls Try.prog 21 #[vv a, vv b] w fun e w' => e = .returned (.int .i64 (cmpV a b)) ∧ Below w.heap.size w w' := by
  have HV := Lib.hid (fun w => Valid_yes a ha w)
  have HW := Lib.hid (fun w => Valid_yes b hb w)
  have hax := ha.bx
  have hay := ha.by_
  have hbx := hb.bx
  have hby := hb.by_
  have had := ha.lo
  have had2 := ha.hi
  have hbd := hb.lo
  have hbd2 := hb.hi
  have HR : Hid (cmpV a b = 1) := by unfold Hid cmpV; rw [hp, hq]; rfl
  have HLa := Lib.hid (fun w => lower_at hp w)
  have HLb := Lib.hid (fun w => lower_at hq w)
  obtain ⟨x, y, d⟩ := a
  obtain ⟨u, v, f⟩ := b
  simp only at hax hay hbx hby had had2 hbd hbd2 HR
  clear ha hb hp hq
  rw [HR.out]
  have HB := Lib.hid (show Below w.heap.size w ((w.alloc (.cells #[.int .i64 x, .int .i64 y, .int .i64 d] 24)).alloc (.cells #[.int .i64 u, .int .i64 v, .int .i64 f] 24)) from (((Below.refl _ _).alloc (by simp <;> omega) _).alloc (by simp <;> omega) _))
  have B_a : Box3 ((w.alloc (.cells #[.int .i64 x, .int .i64 y, .int .i64 d] 24)).alloc (.cells #[.int .i64 u, .int .i64 v, .int .i64 f] 24)) (w.heap.size) x y d := by have h := (Box3.alloc (Box3.new w x y d) (.cells #[.int .i64 u, .int .i64 v, .int .i64 f] 24)); simpa using h
  replace B_a := Lib.hid B_a
  have B_b : Box3 ((w.alloc (.cells #[.int .i64 x, .int .i64 y, .int .i64 d] 24)).alloc (.cells #[.int .i64 u, .int .i64 v, .int .i64 f] 24)) (w.heap.size + 1) u v f := by have h := (Box3.new (w.alloc (.cells #[.int .i64 x, .int .i64 y, .int .i64 d] 24)) u v f); simpa using h
  replace B_b := Lib.hid B_b
  go_enter Try.func21, Try.ntmps21
  go_wp2_with fail
  generalize (w.alloc (.cells #[.int .i64 x, .int .i64 y, .int .i64 d] 24)).alloc (.cells #[.int .i64 u, .int .i64 v, .int .i64 f] 24) = W0 at *
  have c0a := B_a.out.c0
  have c1a := B_a.out.c1
  have c2a := B_a.out.c2
  have c0b := B_b.out.c0
  have c1b := B_b.out.c1
  have c2b := B_b.out.c2
  refine (HV.out _).mono ?_
  clear c0a c1a c2a c0b c1b c2b
  rintro e w1 ⟨rfl, bb⟩
  replace bb := nextw (w0 := W0) (by exact ⟨rfl, rfl, rfl, Nat.le_refl _, fun _ _ => rfl⟩) bb
  replace B_a := Lib.hid (Box3.below B_a.out bb B_a.out.lt)
  replace B_b := Lib.hid (Box3.below B_b.out bb B_b.out.lt)
  replace HB := Lib.hid (nextw HB.out bb)
  clear bb
  have c0a := B_a.out.c0
  have c1a := B_a.out.c1
  have c2a := B_a.out.c2
  have c0b := B_b.out.c0
  have c1b := B_b.out.c1
  have c2b := B_b.out.c2
  go_wp2_with fail
  refine (HW.out _).mono ?_
  clear c0a c1a c2a c0b c1b c2b
  rintro e w2 ⟨rfl, bb⟩
  replace bb := nextw (w0 := w1) (by exact ⟨rfl, rfl, rfl, Nat.le_refl _, fun _ _ => rfl⟩) bb
  replace B_a := Lib.hid (Box3.below B_a.out bb B_a.out.lt)
  replace B_b := Lib.hid (Box3.below B_b.out bb B_b.out.lt)
  replace HB := Lib.hid (nextw HB.out bb)
  clear bb
  have c0a := B_a.out.c0
  have c1a := B_a.out.c1
  have c2a := B_a.out.c2
  have c0b := B_b.out.c0
  have c1b := B_b.out.c1
  have c2b := B_b.out.c2
  clear c0a c1a c2a c0b c1b c2b
  go_wp2_with fail
  have c0a := B_a.out.c0
  have c1a := B_a.out.c1
  have c2a := B_a.out.c2
  have c0b := B_b.out.c0
  have c1b := B_b.out.c1
  have c2b := B_b.out.c2
  have tk1x0 : True := trivial
  go_region_held3 (fun w' => w'.cell? ⟨w.heap.size, 0, none⟩ = some (.int .i64 x) ∧ w'.cell? ⟨w.heap.size, 1, none⟩ = some (.int .i64 y) ∧ w'.cell? ⟨w.heap.size, 2, none⟩ = some (.int .i64 d) ∧ w'.cell? ⟨w.heap.size + 1, 0, none⟩ = some (.int .i64 u) ∧ w'.cell? ⟨w.heap.size + 1, 1, none⟩ = some (.int .i64 v) ∧ w'.cell? ⟨w.heap.size + 1, 2, none⟩ = some (.int .i64 f)) (((try dsimp only); (repeat' apply And.intro) <;> (first | (with_reducible assumption) | ((repeat (first | (with_reducible refine Eq.trans (cell_drew1 _ _) ?_) | (with_reducible refine Eq.trans (World.cell?_alloc_lt _ _ _ (by first | (dsimp only; omega) | (simp only [World.size_alloc, World.size_setCell]; omega))) ?_))); with_reducible assumption) | assumption | go_keep)))
    (first
      | (clear tk1x0; go_at_call 50; refine (HLa.out _).mono ?_; rintro e w3 ⟨rfl, bb⟩; replace bb := nextw (w0 := w2) (by exact ⟨rfl, rfl, rfl, Nat.le_refl _, fun _ _ => rfl⟩) bb; replace B_a := Lib.hid (Box3.below B_a.out bb B_a.out.lt); replace B_b := Lib.hid (Box3.below B_b.out bb B_b.out.lt); replace HB := Lib.hid (nextw HB.out bb); clear bb c0a c1a c2a c0b c1b c2b; have c0a := B_a.out.c0; have c1a := B_a.out.c1; have c2a := B_a.out.c2; have c0b := B_b.out.c0; have c1b := B_b.out.c1; have c2b := B_b.out.c2; have tk1x1 : True := trivial)
      | (clear tk1x1; go_at_call 50; refine (HLb.out _).mono ?_; rintro e w4 ⟨rfl, bb⟩; replace bb := nextw (w0 := w3) (by exact ⟨rfl, rfl, rfl, Nat.le_refl _, fun _ _ => rfl⟩) bb; replace B_a := Lib.hid (Box3.below B_a.out bb B_a.out.lt); replace B_b := Lib.hid (Box3.below B_b.out bb B_b.out.lt); replace HB := Lib.hid (nextw HB.out bb); clear bb c0a c1a c2a c0b c1b c2b; have c0a := B_a.out.c0; have c1a := B_a.out.c1; have c2a := B_a.out.c2; have c0b := B_b.out.c0; have c1b := B_b.out.c1; have c2b := B_b.out.c2; have tk1x2 : True := trivial))
  go_wp2_with fail
  refine (HLb.out _).mono ?_
  clear c0a c1a c2a c0b c1b c2b
  rintro e w5 ⟨rfl, bb⟩
  replace bb := nextw (w0 := w4) (by exact ⟨rfl, rfl, rfl, Nat.le_refl _, fun _ _ => rfl⟩) bb
  replace B_a := Lib.hid (Box3.below B_a.out bb B_a.out.lt)
  replace B_b := Lib.hid (Box3.below B_b.out bb B_b.out.lt)
  replace HB := Lib.hid (nextw HB.out bb)
  clear bb
  go_wp2
  go_ret
  exact ⟨rfl, nextw HB.out (by exact ⟨rfl, rfl, rfl, Nat.le_refl _, fun _ _ => rfl⟩)⟩

set_option maxRecDepth 100000 in
set_option maxHeartbeats 1000000 in
theorem Cmp_ft (a b : V3) (ha : Ok a) (hb : Ok b) (hp : lowB a = false) (hq : lowB b = true) (w : World) :
    Calls Try.prog 21 #[vv a, vv b] w fun e w' => e = .returned (.int .i64 (cmpV a b)) ∧ Below w.heap.size w w' := by
  have HV := Lib.hid (fun w => Valid_yes a ha w)
  have HW := Lib.hid (fun w => Valid_yes b hb w)
  have hax := ha.bx
  have hay := ha.by_
  have hbx := hb.bx
  have hby := hb.by_
  have had := ha.lo
  have had2 := ha.hi
  have hbd := hb.lo
  have hbd2 := hb.hi
  have HR : Hid (cmpV a b = -1) := by unfold Hid cmpV; rw [hp, hq]; rfl
  have HLa := Lib.hid (fun w => lower_at hp w)
  have HLb := Lib.hid (fun w => lower_at hq w)
  obtain ⟨x, y, d⟩ := a
  obtain ⟨u, v, f⟩ := b
  simp only at hax hay hbx hby had had2 hbd hbd2 HR
  clear ha hb hp hq
  rw [HR.out]
  have HB := Lib.hid (show Below w.heap.size w ((w.alloc (.cells #[.int .i64 x, .int .i64 y, .int .i64 d] 24)).alloc (.cells #[.int .i64 u, .int .i64 v, .int .i64 f] 24)) from (((Below.refl _ _).alloc (by simp <;> omega) _).alloc (by simp <;> omega) _))
  have B_a : Box3 ((w.alloc (.cells #[.int .i64 x, .int .i64 y, .int .i64 d] 24)).alloc (.cells #[.int .i64 u, .int .i64 v, .int .i64 f] 24)) (w.heap.size) x y d := by have h := (Box3.alloc (Box3.new w x y d) (.cells #[.int .i64 u, .int .i64 v, .int .i64 f] 24)); simpa using h
  replace B_a := Lib.hid B_a
  have B_b : Box3 ((w.alloc (.cells #[.int .i64 x, .int .i64 y, .int .i64 d] 24)).alloc (.cells #[.int .i64 u, .int .i64 v, .int .i64 f] 24)) (w.heap.size + 1) u v f := by have h := (Box3.new (w.alloc (.cells #[.int .i64 x, .int .i64 y, .int .i64 d] 24)) u v f); simpa using h
  replace B_b := Lib.hid B_b
  go_enter Try.func21, Try.ntmps21
  go_wp2_with fail
  generalize (w.alloc (.cells #[.int .i64 x, .int .i64 y, .int .i64 d] 24)).alloc (.cells #[.int .i64 u, .int .i64 v, .int .i64 f] 24) = W0 at *
  have c0a := B_a.out.c0
  have c1a := B_a.out.c1
  have c2a := B_a.out.c2
  have c0b := B_b.out.c0
  have c1b := B_b.out.c1
  have c2b := B_b.out.c2
  refine (HV.out _).mono ?_
  clear c0a c1a c2a c0b c1b c2b
  rintro e w1 ⟨rfl, bb⟩
  replace bb := nextw (w0 := W0) (by exact ⟨rfl, rfl, rfl, Nat.le_refl _, fun _ _ => rfl⟩) bb
  replace B_a := Lib.hid (Box3.below B_a.out bb B_a.out.lt)
  replace B_b := Lib.hid (Box3.below B_b.out bb B_b.out.lt)
  replace HB := Lib.hid (nextw HB.out bb)
  clear bb
  have c0a := B_a.out.c0
  have c1a := B_a.out.c1
  have c2a := B_a.out.c2
  have c0b := B_b.out.c0
  have c1b := B_b.out.c1
  have c2b := B_b.out.c2
  go_wp2_with fail
  refine (HW.out _).mono ?_
  clear c0a c1a c2a c0b c1b c2b
  rintro e w2 ⟨rfl, bb⟩
  replace bb := nextw (w0 := w1) (by exact ⟨rfl, rfl, rfl, Nat.le_refl _, fun _ _ => rfl⟩) bb
  replace B_a := Lib.hid (Box3.below B_a.out bb B_a.out.lt)
  replace B_b := Lib.hid (Box3.below B_b.out bb B_b.out.lt)
  replace HB := Lib.hid (nextw HB.out bb)
  clear bb
  have c0a := B_a.out.c0
  have c1a := B_a.out.c1
  have c2a := B_a.out.c2
  have c0b := B_b.out.c0
  have c1b := B_b.out.c1
  have c2b := B_b.out.c2
  clear c0a c1a c2a c0b c1b c2b
  go_wp2_with fail
  have c0a := B_a.out.c0
  have c1a := B_a.out.c1
  have c2a := B_a.out.c2
  have c0b := B_b.out.c0
  have c1b := B_b.out.c1
  have c2b := B_b.out.c2
  have tk1x0 : True := trivial
  go_region_held3 (fun w' => w'.cell? ⟨w.heap.size, 0, none⟩ = some (.int .i64 x) ∧ w'.cell? ⟨w.heap.size, 1, none⟩ = some (.int .i64 y) ∧ w'.cell? ⟨w.heap.size, 2, none⟩ = some (.int .i64 d) ∧ w'.cell? ⟨w.heap.size + 1, 0, none⟩ = some (.int .i64 u) ∧ w'.cell? ⟨w.heap.size + 1, 1, none⟩ = some (.int .i64 v) ∧ w'.cell? ⟨w.heap.size + 1, 2, none⟩ = some (.int .i64 f)) (((try dsimp only); (repeat' apply And.intro) <;> (first | (with_reducible assumption) | ((repeat (first | (with_reducible refine Eq.trans (cell_drew1 _ _) ?_) | (with_reducible refine Eq.trans (World.cell?_alloc_lt _ _ _ (by first | (dsimp only; omega) | (simp only [World.size_alloc, World.size_setCell]; omega))) ?_))); with_reducible assumption) | assumption | go_keep)))
    (first
      | (clear tk1x0; go_at_call 50; refine (HLa.out _).mono ?_; rintro e w3 ⟨rfl, bb⟩; replace bb := nextw (w0 := w2) (by exact ⟨rfl, rfl, rfl, Nat.le_refl _, fun _ _ => rfl⟩) bb; replace B_a := Lib.hid (Box3.below B_a.out bb B_a.out.lt); replace B_b := Lib.hid (Box3.below B_b.out bb B_b.out.lt); replace HB := Lib.hid (nextw HB.out bb); clear bb c0a c1a c2a c0b c1b c2b; have c0a := B_a.out.c0; have c1a := B_a.out.c1; have c2a := B_a.out.c2; have c0b := B_b.out.c0; have c1b := B_b.out.c1; have c2b := B_b.out.c2; have tk1x1 : True := trivial)
      | (clear tk1x1; go_at_call 50; refine (HLb.out _).mono ?_; rintro e w4 ⟨rfl, bb⟩; replace bb := nextw (w0 := w3) (by exact ⟨rfl, rfl, rfl, Nat.le_refl _, fun _ _ => rfl⟩) bb; replace B_a := Lib.hid (Box3.below B_a.out bb B_a.out.lt); replace B_b := Lib.hid (Box3.below B_b.out bb B_b.out.lt); replace HB := Lib.hid (nextw HB.out bb); clear bb c0a c1a c2a c0b c1b c2b; have c0a := B_a.out.c0; have c1a := B_a.out.c1; have c2a := B_a.out.c2; have c0b := B_b.out.c0; have c1b := B_b.out.c1; have c2b := B_b.out.c2; have tk1x2 : True := trivial))
  go_wp2_with fail
  refine (HLb.out _).mono ?_
  clear c0a c1a c2a c0b c1b c2b
  rintro e w5 ⟨rfl, bb⟩
  replace bb := nextw (w0 := w4) (by exact ⟨rfl, rfl, rfl, Nat.le_refl _, fun _ _ => rfl⟩) bb
  replace B_a := Lib.hid (Box3.below B_a.out bb B_a.out.lt)
  replace B_b := Lib.hid (Box3.below B_b.out bb B_b.out.lt)
  replace HB := Lib.hid (nextw HB.out bb)
  clear bb
  go_wp2
  go_ret
  exact ⟨rfl, nextw HB.out (by exact ⟨rfl, rfl, rfl, Nat.le_refl _, fun _ _ => rfl⟩)⟩

set_option maxRecDepth 100000 in
set_option maxHeartbeats 1000000 in
theorem Cmp_ff (a b : V3) (ha : Ok a) (hb : Ok b) (hp : lowB a = false) (hq : lowB b = false) (w : World) :
    Calls Try.prog 21 #[vv a, vv b] w fun e w' => e = .returned (.int .i64 (cmpV a b)) ∧ Below w.heap.size w w' := by
  have HV := Lib.hid (fun w => Valid_yes a ha w)
  have HW := Lib.hid (fun w => Valid_yes b hb w)
  have hax := ha.bx
  have hay := ha.by_
  have hbx := hb.bx
  have hby := hb.by_
  have had := ha.lo
  have had2 := ha.hi
  have hbd := hb.lo
  have hbd2 := hb.hi
  have HR : Hid (cmpV a b = cmpI (a.y * b.x) (a.x * b.y)) := by unfold Hid cmpV; rw [hp, hq, if_pos rfl]
  have HLa := Lib.hid (fun w => lower_at hp w)
  have HLb := Lib.hid (fun w => lower_at hq w)
  obtain ⟨x, y, d⟩ := a
  obtain ⟨u, v, f⟩ := b
  simp only at hax hay hbx hby had had2 hbd hbd2 HR
  clear ha hb hp hq
  rw [HR.out]
  have m1 := mul_bound (a := y) (b := u) (by omega) (by omega) (by omega) (by omega)
  have m2 := mul_bound (a := x) (b := v) (by omega) (by omega) (by omega) (by omega)
  have HC := Lib.hid (fun w => Compare_any (y * u) (x * v) w)
  have HB := Lib.hid (show Below w.heap.size w ((w.alloc (.cells #[.int .i64 x, .int .i64 y, .int .i64 d] 24)).alloc (.cells #[.int .i64 u, .int .i64 v, .int .i64 f] 24)) from (((Below.refl _ _).alloc (by simp <;> omega) _).alloc (by simp <;> omega) _))
  have B_a : Box3 ((w.alloc (.cells #[.int .i64 x, .int .i64 y, .int .i64 d] 24)).alloc (.cells #[.int .i64 u, .int .i64 v, .int .i64 f] 24)) (w.heap.size) x y d := by have h := (Box3.alloc (Box3.new w x y d) (.cells #[.int .i64 u, .int .i64 v, .int .i64 f] 24)); simpa using h
  replace B_a := Lib.hid B_a
  have B_b : Box3 ((w.alloc (.cells #[.int .i64 x, .int .i64 y, .int .i64 d] 24)).alloc (.cells #[.int .i64 u, .int .i64 v, .int .i64 f] 24)) (w.heap.size + 1) u v f := by have h := (Box3.new (w.alloc (.cells #[.int .i64 x, .int .i64 y, .int .i64 d] 24)) u v f); simpa using h
  replace B_b := Lib.hid B_b
  go_enter Try.func21, Try.ntmps21
  go_wp2_with fail
  generalize (w.alloc (.cells #[.int .i64 x, .int .i64 y, .int .i64 d] 24)).alloc (.cells #[.int .i64 u, .int .i64 v, .int .i64 f] 24) = W0 at *
  have c0a := B_a.out.c0
  have c1a := B_a.out.c1
  have c2a := B_a.out.c2
  have c0b := B_b.out.c0
  have c1b := B_b.out.c1
  have c2b := B_b.out.c2
  refine (HV.out _).mono ?_
  clear c0a c1a c2a c0b c1b c2b
  rintro e w1 ⟨rfl, bb⟩
  replace bb := nextw (w0 := W0) (by exact ⟨rfl, rfl, rfl, Nat.le_refl _, fun _ _ => rfl⟩) bb
  replace B_a := Lib.hid (Box3.below B_a.out bb B_a.out.lt)
  replace B_b := Lib.hid (Box3.below B_b.out bb B_b.out.lt)
  replace HB := Lib.hid (nextw HB.out bb)
  clear bb
  have c0a := B_a.out.c0
  have c1a := B_a.out.c1
  have c2a := B_a.out.c2
  have c0b := B_b.out.c0
  have c1b := B_b.out.c1
  have c2b := B_b.out.c2
  go_wp2_with fail
  refine (HW.out _).mono ?_
  clear c0a c1a c2a c0b c1b c2b
  rintro e w2 ⟨rfl, bb⟩
  replace bb := nextw (w0 := w1) (by exact ⟨rfl, rfl, rfl, Nat.le_refl _, fun _ _ => rfl⟩) bb
  replace B_a := Lib.hid (Box3.below B_a.out bb B_a.out.lt)
  replace B_b := Lib.hid (Box3.below B_b.out bb B_b.out.lt)
  replace HB := Lib.hid (nextw HB.out bb)
  clear bb
  have c0a := B_a.out.c0
  have c1a := B_a.out.c1
  have c2a := B_a.out.c2
  have c0b := B_b.out.c0
  have c1b := B_b.out.c1
  have c2b := B_b.out.c2
  clear c0a c1a c2a c0b c1b c2b
  go_wp2_with fail
  have c0a := B_a.out.c0
  have c1a := B_a.out.c1
  have c2a := B_a.out.c2
  have c0b := B_b.out.c0
  have c1b := B_b.out.c1
  have c2b := B_b.out.c2
  have tk1x0 : True := trivial
  go_region_held3 (fun w' => w'.cell? ⟨w.heap.size, 0, none⟩ = some (.int .i64 x) ∧ w'.cell? ⟨w.heap.size, 1, none⟩ = some (.int .i64 y) ∧ w'.cell? ⟨w.heap.size, 2, none⟩ = some (.int .i64 d) ∧ w'.cell? ⟨w.heap.size + 1, 0, none⟩ = some (.int .i64 u) ∧ w'.cell? ⟨w.heap.size + 1, 1, none⟩ = some (.int .i64 v) ∧ w'.cell? ⟨w.heap.size + 1, 2, none⟩ = some (.int .i64 f)) (((try dsimp only); (repeat' apply And.intro) <;> (first | (with_reducible assumption) | ((repeat (first | (with_reducible refine Eq.trans (cell_drew1 _ _) ?_) | (with_reducible refine Eq.trans (World.cell?_alloc_lt _ _ _ (by first | (dsimp only; omega) | (simp only [World.size_alloc, World.size_setCell]; omega))) ?_))); with_reducible assumption) | assumption | go_keep)))
    (first
      | (clear tk1x0; go_at_call 50; refine (HLa.out _).mono ?_; rintro e w3 ⟨rfl, bb⟩; replace bb := nextw (w0 := w2) (by exact ⟨rfl, rfl, rfl, Nat.le_refl _, fun _ _ => rfl⟩) bb; replace B_a := Lib.hid (Box3.below B_a.out bb B_a.out.lt); replace B_b := Lib.hid (Box3.below B_b.out bb B_b.out.lt); replace HB := Lib.hid (nextw HB.out bb); clear bb c0a c1a c2a c0b c1b c2b; have c0a := B_a.out.c0; have c1a := B_a.out.c1; have c2a := B_a.out.c2; have c0b := B_b.out.c0; have c1b := B_b.out.c1; have c2b := B_b.out.c2; have tk1x1 : True := trivial)
      | (clear tk1x1; go_at_call 50; refine (HLb.out _).mono ?_; rintro e w4 ⟨rfl, bb⟩; replace bb := nextw (w0 := w3) (by exact ⟨rfl, rfl, rfl, Nat.le_refl _, fun _ _ => rfl⟩) bb; replace B_a := Lib.hid (Box3.below B_a.out bb B_a.out.lt); replace B_b := Lib.hid (Box3.below B_b.out bb B_b.out.lt); replace HB := Lib.hid (nextw HB.out bb); clear bb c0a c1a c2a c0b c1b c2b; have c0a := B_a.out.c0; have c1a := B_a.out.c1; have c2a := B_a.out.c2; have c0b := B_b.out.c0; have c1b := B_b.out.c1; have c2b := B_b.out.c2; have tk1x2 : True := trivial))
  go_wp2_with fail
  refine (HC.out _).mono ?_
  rintro e w5 ⟨rfl, rfl⟩
  clear c0a c1a c2a c0b c1b c2b
  go_wp2
  go_ret
  exact ⟨rfl, nextw HB.out (by exact ⟨rfl, rfl, rfl, Nat.le_refl _, fun _ _ => rfl⟩)⟩

theorem Cmp_ok (a b : V3) (ha : Ok a) (hb : Ok b) (w : World) :
    Calls Try.prog 21 #[vv a, vv b] w fun e w' => e = .returned (.int .i64 (cmpV a b)) ∧ Below w.heap.size w w' := by
  rcases hp : lowB a with _ | _ <;> rcases hq : lowB b with _ | _
  · exact Cmp_ff a b ha hb hp hq w
  · exact Cmp_ft a b ha hb hp hq w
  · exact Cmp_tf a b ha hb hp hq w
  · exact Cmp_tt a b ha hb hp hq w
end Go.Proofs.Ytincejndchdcdaa
