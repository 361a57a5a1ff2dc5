/- The law HeadingFloors. -/
import Derived.Test.YtincejndchdcdaaHBVec
import Derived.Test.YtincejndchdcdaaHFloorM
namespace Go.Proofs.Ytincejndchdcdaa
open Go Go.RowKit Hd

theorem Cmp_at {a b : V3} {r : Int} (ha : Ok a) (hb : Ok b) (h : cmpV a b = r) (w : World) :
    Calls Try.prog 21 #[vv a, vv b] w fun e w' => e = .returned (.int .i64 r) ∧ Below w.heap.size w w' := h ▸ Cmp_ok a b ha hb w

set_option maxRecDepth 100000 in
set_option maxHeartbeats 1000000 in
theorem Floors_bad (v : V3) (hf : Fit v) (hn : ¬ Ok v) (w : World) :
    Calls Try.prog 8 #[vv v] w fun e w' => e = .returned (.bool true) ∧ Below w.heap.size w w' := by
  have HF := Lib.hid (fun w => Floor_bad v hf hn w)
  have HV := Lib.hid (fun w => BV_no v hn w)
  have HA := Lib.hid (fun w => awake_any w)
  obtain ⟨x, y, d⟩ := v
  clear hf hn
  have HB := Lib.hid (show Below w.heap.size w (w.alloc (.cells #[.int .i64 x, .int .i64 y, .int .i64 d] 24)) from ((Below.refl _ _).alloc (by simp <;> omega) _))
  have B_a : Box3 (w.alloc (.cells #[.int .i64 x, .int .i64 y, .int .i64 d] 24)) (w.heap.size) x y d := by have h := (Box3.new w x y d); simpa using h
  replace B_a := Lib.hid B_a
  go_enter Try.func8, Try.ntmps8
  go_wp2_with fail
  generalize w.alloc (.cells #[.int .i64 x, .int .i64 y, .int .i64 d] 24) = W0 at *
  refine (HA.out _).mono ?_
  rintro e w1 ⟨rfl, bb⟩
  replace bb := nextw (w0 := W0) (by exact ⟨rfl, rfl, rfl, Nat.le_refl _, fun _ _ => rfl⟩) bb
  replace B_a := Lib.hid (Box3.below B_a.out bb B_a.out.lt)
  replace HB := Lib.hid (nextw HB.out bb)
  clear bb
  have c0a := B_a.out.c0
  have c1a := B_a.out.c1
  have c2a := B_a.out.c2
  go_wp2_with fail
  refine (HF.out _).mono ?_
  clear c0a c1a c2a
  rintro e w2 ⟨rfl, bb⟩
  replace bb := nextw (w0 := w1) (by exact ⟨rfl, rfl, rfl, Nat.le_refl _, fun _ _ => rfl⟩) bb
  replace B_a := Lib.hid (Box3.below B_a.out bb B_a.out.lt)
  replace HB := Lib.hid (nextw HB.out bb)
  clear bb
  have c0a := B_a.out.c0
  have c1a := B_a.out.c1
  have c2a := B_a.out.c2
  go_wp2_with fail
  refine (HV.out _).mono ?_
  clear c0a c1a c2a
  rintro e w3 ⟨rfl, bb⟩
  replace bb := nextw (w0 := w2) (by exact ⟨rfl, rfl, rfl, Nat.le_refl _, fun _ _ => rfl⟩) bb
  replace B_a := Lib.hid (Box3.below B_a.out bb B_a.out.lt)
  replace HB := Lib.hid (nextw HB.out bb)
  clear bb
  go_wp2
  go_ret
  exact ⟨rfl, nextw HB.out (by exact ⟨rfl, rfl, rfl, Nat.le_refl _, fun _ _ => rfl⟩)⟩

set_option maxRecDepth 100000 in
set_option maxHeartbeats 4000000 in
theorem Floors_last (v : V3) (hv : Ok v) (HF : Hid (∀ w, Calls Try.prog 29 #[vv v] w fun e w' => e = .returned (.tuple #[.int .i64 255, .int .i64 0]) ∧ Below w.heap.size w w')) (hr : cmpV (dir 255) v ≤ 0) (w : World) :
    Calls Try.prog 8 #[vv v] w fun e w' => e = .returned (.bool true) ∧ Below w.heap.size w w' := by
  have HV := Lib.hid (fun w => BV_yes v hv w)
  have HA := Lib.hid (fun w => awake_any w)
  obtain ⟨P, hP⟩ : ∃ P, dir 255 = P := ⟨_, rfl⟩
  have hPo := (dir_ok 255).1
  rw [hP] at hr hPo
  obtain ⟨r, hrr⟩ : ∃ r, cmpV P v = r := ⟨_, rfl⟩
  rw [hrr] at hr
  have HP := Lib.hid (fun w => Dir_at hP w)
  have HC := Lib.hid (fun w => Cmp_at hPo hv hrr w)
  clear hv hP hPo hrr
  obtain ⟨x, y, d⟩ := v
  obtain ⟨px, py, pd⟩ := P
  have HB := Lib.hid (show Below w.heap.size w (w.alloc (.cells #[.int .i64 x, .int .i64 y, .int .i64 d] 24)) from ((Below.refl _ _).alloc (by simp <;> omega) _))
  have B_a : Box3 (w.alloc (.cells #[.int .i64 x, .int .i64 y, .int .i64 d] 24)) (w.heap.size) x y d := by have h := (Box3.new w x y d); simpa using h
  replace B_a := Lib.hid B_a
  go_enter Try.func8, Try.ntmps8
  go_wp2_with fail
  generalize w.alloc (.cells #[.int .i64 x, .int .i64 y, .int .i64 d] 24) = W0 at *
  refine (HA.out _).mono ?_
  rintro e w1 ⟨rfl, bb⟩
  replace bb := nextw (w0 := W0) (by exact ⟨rfl, rfl, rfl, Nat.le_refl _, fun _ _ => rfl⟩) bb
  replace B_a := Lib.hid (Box3.below B_a.out bb B_a.out.lt)
  replace HB := Lib.hid (nextw HB.out bb)
  clear bb
  have c0a := B_a.out.c0
  have c1a := B_a.out.c1
  have c2a := B_a.out.c2
  go_wp2_with fail
  refine (HF.out _).mono ?_
  clear c0a c1a c2a
  rintro e w2 ⟨rfl, bb⟩
  replace bb := nextw (w0 := w1) (by exact ⟨rfl, rfl, rfl, Nat.le_refl _, fun _ _ => rfl⟩) bb
  replace B_a := Lib.hid (Box3.below B_a.out bb B_a.out.lt)
  replace HB := Lib.hid (nextw HB.out bb)
  clear bb
  have c0a := B_a.out.c0
  have c1a := B_a.out.c1
  have c2a := B_a.out.c2
  go_wp2_with fail
  refine (HV.out _).mono ?_
  clear c0a c1a c2a
  rintro e w3 ⟨rfl, bb⟩
  replace bb := nextw (w0 := w2) (by exact ⟨rfl, rfl, rfl, Nat.le_refl _, fun _ _ => rfl⟩) bb
  replace B_a := Lib.hid (Box3.below B_a.out bb B_a.out.lt)
  replace HB := Lib.hid (nextw HB.out bb)
  clear bb
  clear HA HV HF
  go_upto_region 6 with (fail)
  have e1 : decide ((255 : Int) < 0) = false := decide_eq_false (by omega)
  have e2 : decide ((255 : Int) < 255) = false := decide_eq_false (by omega)
  have e3 : decide (0 < r) = false := decide_eq_false (by omega)
  go_wp2_with fail
  have c0a := B_a.out.c0
  have c1a := B_a.out.c1
  have c2a := B_a.out.c2
  have tk1x0 : True := trivial
  go_region_held3 (fun w' => w'.cell? ⟨w.heap.size, 0, none⟩ = some (.int .i64 x) ∧ w'.cell? ⟨w.heap.size, 1, none⟩ = some (.int .i64 y) ∧ w'.cell? ⟨w.heap.size, 2, none⟩ = some (.int .i64 d)) (((try dsimp only); (repeat' apply And.intro) <;> (first | (with_reducible assumption) | ((repeat (first | (with_reducible refine Eq.trans (cell_drew1 _ _) ?_) | (with_reducible refine Eq.trans (World.cell?_alloc_lt _ _ _ (by first | (dsimp only; omega) | (simp only [World.size_alloc, World.size_setCell]; omega))) ?_))); with_reducible assumption) | assumption | go_keep)))
    (first
      | (clear tk1x0; go_at_call 14; refine (HP.out _).mono ?_; rintro e w4 ⟨rfl, bb⟩; replace bb := nextw (w0 := w3) (by exact ⟨rfl, rfl, rfl, Nat.le_refl _, fun _ _ => rfl⟩) bb; replace B_a := Lib.hid (Box3.below B_a.out bb B_a.out.lt); replace HB := Lib.hid (nextw HB.out bb); clear bb c0a c1a c2a; have c0a := B_a.out.c0; have c1a := B_a.out.c1; have c2a := B_a.out.c2; have tk1x1 : True := trivial)
      | (clear tk1x1; go_at_call 21; refine (HC.out _).mono ?_; rintro e w5 ⟨rfl, bb⟩; replace bb := nextw (w0 := w4) (by exact ⟨rfl, rfl, rfl, Nat.le_refl _, fun _ _ => rfl⟩) bb; replace B_a := Lib.hid (Box3.below B_a.out bb B_a.out.lt); replace HB := Lib.hid (nextw HB.out bb); clear bb c0a c1a c2a; have c0a := B_a.out.c0; have c1a := B_a.out.c1; have c2a := B_a.out.c2; have tk1x2 : True := trivial))
  clear c0a c1a c2a
  clear HP HC e1 e2 e3 hr
  go_upto_region 8 with (fail)
  first | (go_region_with (fail)) | fail
  all_goals (go_wp2; go_ret)
  all_goals exact ⟨rfl, nextw HB.out (by exact ⟨rfl, rfl, rfl, Nat.le_refl _, fun _ _ => rfl⟩)⟩

set_option maxRecDepth 100000 in
set_option maxHeartbeats 4000000 in
theorem Floors_most (v : V3) (hv : Ok v) (h : Int) (HF : Hid (∀ w, Calls Try.prog 29 #[vv v] w fun e w' => e = .returned (.tuple #[.int .i64 h, .int .i64 0]) ∧ Below w.heap.size w w')) (h0 : 0 ≤ h) (h1 : h ≤ 255) (hr : cmpV (dir h) v ≤ 0) (hl : h < 255) (hs : cmpV v (dir (h + 1)) = -1) (w : World) :
    Calls Try.prog 8 #[vv v] w fun e w' => e = .returned (.bool true) ∧ Below w.heap.size w w' := by
  have HV := Lib.hid (fun w => BV_yes v hv w)
  have HA := Lib.hid (fun w => awake_any w)
  obtain ⟨P, hP⟩ : ∃ P, dir h = P := ⟨_, rfl⟩
  have hPo := (dir_ok h).1
  rw [hP] at hr hPo
  obtain ⟨r, hrr⟩ : ∃ r, cmpV P v = r := ⟨_, rfl⟩
  rw [hrr] at hr
  have HP := Lib.hid (fun w => Dir_at hP w)
  have HC := Lib.hid (fun w => Cmp_at hPo hv hrr w)
  obtain ⟨Q, hQ⟩ : ∃ Q, dir (h + 1) = Q := ⟨_, rfl⟩
  have hQo := (dir_ok (h + 1)).1
  rw [hQ] at hs hQo
  have HQ := Lib.hid (fun w => Dir_at hQ w)
  have HD := Lib.hid (fun w => Cmp_at hv hQo hs w)
  clear hv hP hPo hrr hQ hs hQo
  obtain ⟨x, y, d⟩ := v
  obtain ⟨px, py, pd⟩ := P
  obtain ⟨qx, qy, qd⟩ := Q
  have HB := Lib.hid (show Below w.heap.size w (w.alloc (.cells #[.int .i64 x, .int .i64 y, .int .i64 d] 24)) from ((Below.refl _ _).alloc (by simp <;> omega) _))
  have B_a : Box3 (w.alloc (.cells #[.int .i64 x, .int .i64 y, .int .i64 d] 24)) (w.heap.size) x y d := by have h := (Box3.new w x y d); simpa using h
  replace B_a := Lib.hid B_a
  go_enter Try.func8, Try.ntmps8
  go_wp2_with fail
  generalize w.alloc (.cells #[.int .i64 x, .int .i64 y, .int .i64 d] 24) = W0 at *
  refine (HA.out _).mono ?_
  rintro e w1 ⟨rfl, bb⟩
  replace bb := nextw (w0 := W0) (by exact ⟨rfl, rfl, rfl, Nat.le_refl _, fun _ _ => rfl⟩) bb
  replace B_a := Lib.hid (Box3.below B_a.out bb B_a.out.lt)
  replace HB := Lib.hid (nextw HB.out bb)
  clear bb
  have c0a := B_a.out.c0
  have c1a := B_a.out.c1
  have c2a := B_a.out.c2
  go_wp2_with fail
  refine (HF.out _).mono ?_
  clear c0a c1a c2a
  rintro e w2 ⟨rfl, bb⟩
  replace bb := nextw (w0 := w1) (by exact ⟨rfl, rfl, rfl, Nat.le_refl _, fun _ _ => rfl⟩) bb
  replace B_a := Lib.hid (Box3.below B_a.out bb B_a.out.lt)
  replace HB := Lib.hid (nextw HB.out bb)
  clear bb
  have c0a := B_a.out.c0
  have c1a := B_a.out.c1
  have c2a := B_a.out.c2
  go_wp2_with fail
  refine (HV.out _).mono ?_
  clear c0a c1a c2a
  rintro e w3 ⟨rfl, bb⟩
  replace bb := nextw (w0 := w2) (by exact ⟨rfl, rfl, rfl, Nat.le_refl _, fun _ _ => rfl⟩) bb
  replace B_a := Lib.hid (Box3.below B_a.out bb B_a.out.lt)
  replace HB := Lib.hid (nextw HB.out bb)
  clear bb
  clear HA HV HF
  go_upto_region 6 with (fail)
  have e1 : decide (h < 0) = false := decide_eq_false (by omega)
  have e2 : decide (255 < h) = false := decide_eq_false (by omega)
  have e3 : decide (0 < r) = false := decide_eq_false (by omega)
  go_wp2_with fail
  have c0a := B_a.out.c0
  have c1a := B_a.out.c1
  have c2a := B_a.out.c2
  have tk1x0 : True := trivial
  go_region_held3 (fun w' => w'.cell? ⟨w.heap.size, 0, none⟩ = some (.int .i64 x) ∧ w'.cell? ⟨w.heap.size, 1, none⟩ = some (.int .i64 y) ∧ w'.cell? ⟨w.heap.size, 2, none⟩ = some (.int .i64 d)) (((try dsimp only); (repeat' apply And.intro) <;> (first | (with_reducible assumption) | ((repeat (first | (with_reducible refine Eq.trans (cell_drew1 _ _) ?_) | (with_reducible refine Eq.trans (World.cell?_alloc_lt _ _ _ (by first | (dsimp only; omega) | (simp only [World.size_alloc, World.size_setCell]; omega))) ?_))); with_reducible assumption) | assumption | go_keep)))
    (first
      | (clear tk1x0; go_at_call 14; refine (HP.out _).mono ?_; rintro e w4 ⟨rfl, bb⟩; replace bb := nextw (w0 := w3) (by exact ⟨rfl, rfl, rfl, Nat.le_refl _, fun _ _ => rfl⟩) bb; replace B_a := Lib.hid (Box3.below B_a.out bb B_a.out.lt); replace HB := Lib.hid (nextw HB.out bb); clear bb c0a c1a c2a; have c0a := B_a.out.c0; have c1a := B_a.out.c1; have c2a := B_a.out.c2; have tk1x1 : True := trivial)
      | (clear tk1x1; go_at_call 21; refine (HC.out _).mono ?_; rintro e w5 ⟨rfl, bb⟩; replace bb := nextw (w0 := w4) (by exact ⟨rfl, rfl, rfl, Nat.le_refl _, fun _ _ => rfl⟩) bb; replace B_a := Lib.hid (Box3.below B_a.out bb B_a.out.lt); replace HB := Lib.hid (nextw HB.out bb); clear bb c0a c1a c2a; have c0a := B_a.out.c0; have c1a := B_a.out.c1; have c2a := B_a.out.c2; have tk1x2 : True := trivial))
  clear c0a c1a c2a
  clear HP HC e1 e2 e3 hr
  go_upto_region 8 with (fail)
  have e1 : (h == 255) = false := by rw [beq_eq_false_iff_ne]; omega
  have e4 : IntKind.i64.wrap (h + 1) = h + 1 := by rw [IntKind.wrap_i64]; omega
  go_wp2_with fail
  have c0a := B_a.out.c0
  have c1a := B_a.out.c1
  have c2a := B_a.out.c2
  have tk2x0 : True := trivial
  go_region_held3 (fun w' => w'.cell? ⟨w.heap.size, 0, none⟩ = some (.int .i64 x) ∧ w'.cell? ⟨w.heap.size, 1, none⟩ = some (.int .i64 y) ∧ w'.cell? ⟨w.heap.size, 2, none⟩ = some (.int .i64 d)) (((try dsimp only); (repeat' apply And.intro) <;> (first | (with_reducible assumption) | ((repeat (first | (with_reducible refine Eq.trans (cell_drew1 _ _) ?_) | (with_reducible refine Eq.trans (World.cell?_alloc_lt _ _ _ (by first | (dsimp only; omega) | (simp only [World.size_alloc, World.size_setCell]; omega))) ?_))); with_reducible assumption) | assumption | go_keep)))
    (first
      | (clear tk2x0; go_at_call 14; refine (HQ.out _).mono ?_; rintro e w6 ⟨rfl, bb⟩; replace bb := nextw (w0 := w5) (by exact ⟨rfl, rfl, rfl, Nat.le_refl _, fun _ _ => rfl⟩) bb; replace B_a := Lib.hid (Box3.below B_a.out bb B_a.out.lt); replace HB := Lib.hid (nextw HB.out bb); clear bb c0a c1a c2a; have c0a := B_a.out.c0; have c1a := B_a.out.c1; have c2a := B_a.out.c2; have tk2x1 : True := trivial)
      | (clear tk2x1; go_at_call 21; refine (HD.out _).mono ?_; rintro e w7 ⟨rfl, bb⟩; replace bb := nextw (w0 := w6) (by exact ⟨rfl, rfl, rfl, Nat.le_refl _, fun _ _ => rfl⟩) bb; replace B_a := Lib.hid (Box3.below B_a.out bb B_a.out.lt); replace HB := Lib.hid (nextw HB.out bb); clear bb c0a c1a c2a; have c0a := B_a.out.c0; have c1a := B_a.out.c1; have c2a := B_a.out.c2; have tk2x2 : True := trivial))
  clear c0a c1a c2a
  go_wp2
  go_ret
  exact ⟨rfl, nextw HB.out (by exact ⟨rfl, rfl, rfl, Nat.le_refl _, fun _ _ => rfl⟩)⟩

/-- The floor is one number. -/
def floorV (v : V3) : Int := let n := quad v; let u := (match n with | 0 => v | 1 => unrot v | 2 => unrot (unrot v) | _ => unrot (unrot (unrot v))); 64 * n + 64 * u.y / (u.x + u.d)
theorem floor_one {v : V3} {h : Int} (hf : FloorAt v h) : h = floorV v := by
  obtain ⟨n, u, hn, rfl, hu, u1, u2, rfl⟩ := hf
  have hd := hu.lo
  have q0 : quad u = 0 := quad_zero ⟨u1, u2⟩
  have e : ∀ t : V3, unrot (rot t) = t := fun t => V3.eq rfl (by show - -t.y = t.y; omega) rfl
  obtain rfl | rfl | rfl | rfl : n = 0 ∨ n = 1 ∨ n = 2 ∨ n = 3 := by omega
  · show _ = floorV u
    unfold floorV
    rw [q0]; rfl
  · have q : quad (rot u) = 1 := by unfold quad; show (if 0 < -u.y ∧ 0 ≤ u.x then 0 else if -u.y ≤ 0 ∧ 0 < u.x then 1 else _) = 1; rw [if_neg (by omega), if_pos (by omega)]
    show _ = floorV (rot u)
    unfold floorV
    rw [q]; simp only [e]
  · have q : quad (rot (rot u)) = 2 := by unfold quad; show (if 0 < -u.x ∧ 0 ≤ -u.y then 0 else if -u.x ≤ 0 ∧ 0 < -u.y then 1 else if -u.x < 0 ∧ -u.y ≤ 0 then 2 else 3) = 2; rw [if_neg (by omega), if_neg (by omega), if_pos (by omega)]
    show _ = floorV (rot (rot u))
    unfold floorV
    rw [q]; simp only [e]
  · have q : quad (rot (rot (rot u))) = 3 := by unfold quad; show (if 0 < - -u.y ∧ 0 ≤ -u.x then 0 else if - -u.y ≤ 0 ∧ 0 < -u.x then 1 else if - -u.y < 0 ∧ -u.x ≤ 0 then 2 else 3) = 3; rw [if_neg (by omega), if_neg (by omega), if_neg (by omega)]
    show _ = floorV (rot (rot (rot u)))
    unfold floorV
    rw [q]; simp only [e]
theorem floor_is (v : V3) (hv : Ok v) : ∃ h, FloorAt v h := by
  have : ∀ (n : Nat) (u : V3), Ok u → FlAt v n u → ∃ h, FloorAt v h := by
    intro n
    generalize hm : 3 - n = m
    induction m generalizing n with
    | zero =>
      intro u hu hs
      by_cases hq : 0 < u.x ∧ 0 ≤ u.y
      · exact ⟨_, n, u, hs.n_le, hs.at_, hu, hq.1, hq.2, rfl⟩
      · have := (hs.next hq).1.n_le; omega
    | succ m ih =>
      intro u hu hs
      by_cases hq : 0 < u.x ∧ 0 ≤ u.y
      · exact ⟨_, n, u, hs.n_le, hs.at_, hu, hq.1, hq.2, rfl⟩
      · exact ih (n + 1) (by omega) (unrot u) (hs.next hq).1.ok (hs.next hq).1
  exact this 0 v hv ⟨hv, rfl, by omega⟩
theorem Floor_is (v : V3) (hv : Ok v) (w : World) : Calls Try.prog 29 #[vv v] w fun e w' => e = .returned (.tuple #[.int .i64 (floorV v), .int .i64 0]) ∧ Below w.heap.size w w' :=
  (Floor_ok v hv w).mono fun _ _ ⟨_, he, hf, hb⟩ => ⟨floor_one hf ▸ he, hb⟩
theorem Floors_any (v : V3) (hf : Fit v) (w : World) :
    Calls Try.prog 8 #[vv v] w fun e w' => e = .returned (.bool true) ∧ Below w.heap.size w w' := by
  by_cases hv : Ok v
  · obtain ⟨h, hh⟩ := floor_is v hv
    obtain rfl := floor_one hh
    obtain ⟨h0, h1, hr, hs⟩ := floor_all hh
    by_cases hl : floorV v < 255
    · exact Floors_most v hv _ (Lib.hid (Floor_is v hv)) h0 h1 hr hl (hs hl) w
    · have hl2 : floorV v = 255 := by omega
      have hF := Floor_is v hv
      rw [hl2] at hF hr
      exact Floors_last v hv (Lib.hid hF) hr w
  · exact Floors_bad v hf hv w
end Go.Proofs.Ytincejndchdcdaa
