/- The law HeadingTurns. -/
import Derived.Test.YtincejndchdcdaaHRises
namespace Go.Proofs.Ytincejndchdcdaa
open Go Go.RowKit Hd

theorem Beam_at {h m : Int} {L : V3} (e : prod (dir h) (dir m) = L) (w : World) :
    Calls Try.prog 16 #[.int .i64 h, .int .i64 m] w fun e w' => e = .returned (vv L) ∧ Below w.heap.size w w' := e ▸ Beam_any h m w
theorem Turn_far {a b : V3} (ha : Ok a) (hb : Ok b) (hm : 67108864 < (prod a b).d) (w : World) :
    Calls Try.prog 24 #[vv a, vv b] w fun e w' => e = .returned (.tuple #[vv ⟨0, 0, 0⟩, .int .i64 2]) ∧ Below w.heap.size w w' := Turn_range a b ha hb hm w
theorem dprod_ok (h m : Int) : Ok (prod (dir h) (dir m)) := Ok.low (pd_pos (dir_ok h).1.lo (dir_ok m).1.lo) (p_circle (dir_ok h).1.eq (dir_ok m).1.eq) (dir_prod h m)

set_option maxRecDepth 100000 in
set_option maxHeartbeats 4000000 in
theorem Turns_near (a b c : Int) (a0 : 0 ≤ a) (a1 : a ≤ 255) (b0 : 0 ≤ b) (b1 : b ≤ 255) (c0 : 0 ≤ c) (c1 : c ≤ 255) (hm : (prod (prod (dir a) (dir b)) (dir c)).d ≤ 67108864) (w : World) :
    Calls Try.prog 6 #[.int .u8 a, .int .u8 b, .int .u8 c] w fun e w' => e = .returned (.bool true) ∧ Below w.heap.size w w' := by
  have hx := dprod_ok a b
  have ht := dprod_ok b c
  have hxd := dir_prod a b
  have htd := dir_prod b c
  have hua := prod_assoc (dir_ok a).1 (dir_ok b).1 (dir_ok c).1
  have hu := (dir_ok a).1
  have hv := (dir_ok b).1
  have hw := (dir_ok c).1
  have hr := prod_rot (a := dir a) (b := dir b) hu.eq hv.eq
  have hc := prod_comm (dir b) (dir a)
  have h64 := dir_64 a
  obtain ⟨X, hX⟩ : ∃ X, prod (dir a) (dir b) = X := ⟨_, rfl⟩
  obtain ⟨T, hT⟩ : ∃ T, prod (dir b) (dir c) = T := ⟨_, rfl⟩
  have HBm := Lib.hid (fun w => Beam_at hX w)
  have hb64 : prod (dir (a + 64)) (dir b) = rot X := by rw [h64, hr, hX]
  have HB6 := Lib.hid (fun w => Beam_at hb64 w)
  rw [hX] at hx hxd hua hc hm
  rw [hT] at ht htd hua
  have HDa := Lib.hid (fun w => Dir_any a w)
  have HDb := Lib.hid (fun w => Dir_any b w)
  have HDc := Lib.hid (fun w => Dir_any c w)
  generalize dir a = U at *
  generalize dir b = V at *
  generalize dir c = Q at *
  have HTx := Lib.hid (fun w => Turn_at hu hv hX hxd w)
  have HTy := Lib.hid (fun w => Turn_at hv hu hc hxd w)
  have HTt := Lib.hid (fun w => Turn_at hv hw hT htd w)
  obtain ⟨S, hS⟩ : ∃ S, prod X Q = S := ⟨_, rfl⟩
  rw [hS] at hua hm
  have HTz := Lib.hid (fun w => Turn_at hx hw hS hm w)
  have HTs := Lib.hid (fun w => Turn_at hu ht hua.symm hm w)
  have by1 := hx.by_
  have bd1 := hx.hi
  clear hx ht hxd htd hua hu hv hw hr hc h64 hX hT hb64 hS hm
  have HA := Lib.hid (fun w => awake_any w)
  obtain ⟨ux, uy, ud⟩ := U
  obtain ⟨vx, vy, vd⟩ := V
  obtain ⟨qx, qy, qd⟩ := Q
  obtain ⟨xx, xy, xd⟩ := X
  obtain ⟨tx, ty, td⟩ := T
  obtain ⟨sx, sy, sd⟩ := S
  simp only [rot] at HB6 by1 bd1
  have HB := Lib.hid (Below.refl w.heap.size w)
  go_enter Try.func6, Try.ntmps6
  go_wp2_with fail
  refine (HA.out _).mono ?_
  rintro e w1 ⟨rfl, bb⟩
  replace bb := nextw (w0 := w) (by exact ⟨rfl, rfl, rfl, Nat.le_refl _, fun _ _ => rfl⟩) bb
  replace HB := Lib.hid (nextw HB.out bb)
  clear bb
  go_wp2_with fail
  refine (HDa.out _).mono ?_
  rintro e w2 ⟨rfl, bb⟩
  replace bb := nextw (w0 := w1) (by exact ⟨rfl, rfl, rfl, Nat.le_refl _, fun _ _ => rfl⟩) bb
  replace HB := Lib.hid (nextw HB.out bb)
  clear bb
  go_wp2_with fail
  refine (HDb.out _).mono ?_
  rintro e w3 ⟨rfl, bb⟩
  replace bb := nextw (w0 := w2) (by exact ⟨rfl, rfl, rfl, Nat.le_refl _, fun _ _ => rfl⟩) bb
  replace HB := Lib.hid (nextw HB.out bb)
  clear bb
  go_wp2_with fail
  refine (HDc.out _).mono ?_
  rintro e w4 ⟨rfl, bb⟩
  replace bb := nextw (w0 := w3) (by exact ⟨rfl, rfl, rfl, Nat.le_refl _, fun _ _ => rfl⟩) bb
  replace HB := Lib.hid (nextw HB.out bb)
  clear bb
  have B_u : Box3 (((w4.alloc (.cells #[.int .i64 ux, .int .i64 uy, .int .i64 ud] 24)).alloc (.cells #[.int .i64 vx, .int .i64 vy, .int .i64 vd] 24)).alloc (.cells #[.int .i64 qx, .int .i64 qy, .int .i64 qd] 24)) (w4.heap.size) ux uy ud := by have h := (Box3.alloc (Box3.alloc (Box3.new w4 ux uy ud) (.cells #[.int .i64 vx, .int .i64 vy, .int .i64 vd] 24)) (.cells #[.int .i64 qx, .int .i64 qy, .int .i64 qd] 24)); simpa using h
  replace B_u := Lib.hid B_u
  have B_v : Box3 (((w4.alloc (.cells #[.int .i64 ux, .int .i64 uy, .int .i64 ud] 24)).alloc (.cells #[.int .i64 vx, .int .i64 vy, .int .i64 vd] 24)).alloc (.cells #[.int .i64 qx, .int .i64 qy, .int .i64 qd] 24)) (w4.heap.size + 1) vx vy vd := by have h := (Box3.alloc (Box3.new (w4.alloc (.cells #[.int .i64 ux, .int .i64 uy, .int .i64 ud] 24)) vx vy vd) (.cells #[.int .i64 qx, .int .i64 qy, .int .i64 qd] 24)); simpa using h
  replace B_v := Lib.hid B_v
  have B_q : Box3 (((w4.alloc (.cells #[.int .i64 ux, .int .i64 uy, .int .i64 ud] 24)).alloc (.cells #[.int .i64 vx, .int .i64 vy, .int .i64 vd] 24)).alloc (.cells #[.int .i64 qx, .int .i64 qy, .int .i64 qd] 24)) (w4.heap.size + 1 + 1) qx qy qd := by have h := (Box3.new ((w4.alloc (.cells #[.int .i64 ux, .int .i64 uy, .int .i64 ud] 24)).alloc (.cells #[.int .i64 vx, .int .i64 vy, .int .i64 vd] 24)) qx qy qd); simpa using h
  replace B_q := Lib.hid B_q
  have bb : Below w4.heap.size w4 (((w4.alloc (.cells #[.int .i64 ux, .int .i64 uy, .int .i64 ud] 24)).alloc (.cells #[.int .i64 vx, .int .i64 vy, .int .i64 vd] 24)).alloc (.cells #[.int .i64 qx, .int .i64 qy, .int .i64 qd] 24)) := ((((Below.refl w4.heap.size w4).alloc (by simp <;> omega) _).alloc (by simp <;> omega) _).alloc (by simp <;> omega) _)
  replace HB := Lib.hid (nextw HB.out bb)
  clear bb
  go_upto_region 4 with (fail)
  generalize ((w4.alloc (.cells #[.int .i64 ux, .int .i64 uy, .int .i64 ud] 24)).alloc (.cells #[.int .i64 vx, .int .i64 vy, .int .i64 vd] 24)).alloc (.cells #[.int .i64 qx, .int .i64 qy, .int .i64 qd] 24) = WU at *
  clear HA HDa HDb HDc
  have c0u := B_u.out.c0
  have c1u := B_u.out.c1
  have c2u := B_u.out.c2
  have c0v := B_v.out.c0
  have c1v := B_v.out.c1
  have c2v := B_v.out.c2
  go_wp2_with fail
  refine (HTx.out _).mono ?_
  clear c0u c1u c2u c0v c1v c2v
  rintro e w5 ⟨rfl, bb⟩
  replace bb := nextw (w0 := WU) (by exact ⟨rfl, rfl, rfl, Nat.le_refl _, fun _ _ => rfl⟩) bb
  replace B_u := Lib.hid (Box3.below B_u.out bb B_u.out.lt)
  replace B_v := Lib.hid (Box3.below B_v.out bb B_v.out.lt)
  replace B_q := Lib.hid (Box3.below B_q.out bb B_q.out.lt)
  replace HB := Lib.hid (nextw HB.out bb)
  clear bb
  have lt_xu := B_u.out.lt
  have lt_xv := B_v.out.lt
  have lt_xq := B_q.out.lt
  have B_x := Lib.hid (Box3.new w5 xx xy xd)
  replace B_u := Lib.hid (Box3.alloc B_u.out (.cells #[.int .i64 xx, .int .i64 xy, .int .i64 xd] 24))
  replace B_v := Lib.hid (Box3.alloc B_v.out (.cells #[.int .i64 xx, .int .i64 xy, .int .i64 xd] 24))
  replace B_q := Lib.hid (Box3.alloc B_q.out (.cells #[.int .i64 xx, .int .i64 xy, .int .i64 xd] 24))
  replace HB := Lib.hid (nextw HB.out ((Below.refl w5.heap.size w5).alloc (Nat.le_refl _) (.cells #[.int .i64 xx, .int .i64 xy, .int .i64 xd] 24)))
  go_upto_region 5 with (fail)
  generalize w5.alloc (.cells #[.int .i64 xx, .int .i64 xy, .int .i64 xd] 24) = WX at *
  have c0u := B_u.out.c0
  have c1u := B_u.out.c1
  have c2u := B_u.out.c2
  have c0v := B_v.out.c0
  have c1v := B_v.out.c1
  have c2v := B_v.out.c2
  go_wp2_with fail
  refine (HTy.out _).mono ?_
  clear c0u c1u c2u c0v c1v c2v
  rintro e w6 ⟨rfl, bb⟩
  replace bb := nextw (w0 := WX) (by exact ⟨rfl, rfl, rfl, Nat.le_refl _, fun _ _ => rfl⟩) bb
  replace B_u := Lib.hid (Box3.below B_u.out bb B_u.out.lt)
  replace B_v := Lib.hid (Box3.below B_v.out bb B_v.out.lt)
  replace B_q := Lib.hid (Box3.below B_q.out bb B_q.out.lt)
  replace B_x := Lib.hid (Box3.below B_x.out bb B_x.out.lt)
  replace HB := Lib.hid (nextw HB.out bb)
  clear bb
  have lt_yu := B_u.out.lt
  have lt_yv := B_v.out.lt
  have lt_yq := B_q.out.lt
  have lt_yx := B_x.out.lt
  have B_y := Lib.hid (Box3.new w6 xx xy xd)
  replace B_u := Lib.hid (Box3.alloc B_u.out (.cells #[.int .i64 xx, .int .i64 xy, .int .i64 xd] 24))
  replace B_v := Lib.hid (Box3.alloc B_v.out (.cells #[.int .i64 xx, .int .i64 xy, .int .i64 xd] 24))
  replace B_q := Lib.hid (Box3.alloc B_q.out (.cells #[.int .i64 xx, .int .i64 xy, .int .i64 xd] 24))
  replace B_x := Lib.hid (Box3.alloc B_x.out (.cells #[.int .i64 xx, .int .i64 xy, .int .i64 xd] 24))
  replace HB := Lib.hid (nextw HB.out ((Below.refl w6.heap.size w6).alloc (Nat.le_refl _) (.cells #[.int .i64 xx, .int .i64 xy, .int .i64 xd] 24)))
  go_upto_region 6 with (fail)
  generalize w6.alloc (.cells #[.int .i64 xx, .int .i64 xy, .int .i64 xd] 24) = WY at *
  clear HTx HTy
  have e1 : IntKind.i64.wrap a = a := by rw [IntKind.wrap_i64]; omega
  have e2 : IntKind.i64.wrap b = b := by rw [IntKind.wrap_i64]; omega
  go_wp2_with fail
  have c0x := B_x.out.c0
  have c1x := B_x.out.c1
  have c2x := B_x.out.c2
  have c0y := B_y.out.c0
  have c1y := B_y.out.c1
  have c2y := B_y.out.c2
  have tk1x0 : True := trivial
  go_region_held3 (fun w' => w'.cell? ⟨w5.heap.size, 0, none⟩ = some (.int .i64 xx) ∧ w'.cell? ⟨w5.heap.size, 1, none⟩ = some (.int .i64 xy) ∧ w'.cell? ⟨w5.heap.size, 2, none⟩ = some (.int .i64 xd) ∧ w'.cell? ⟨w6.heap.size, 0, none⟩ = some (.int .i64 xx) ∧ w'.cell? ⟨w6.heap.size, 1, none⟩ = some (.int .i64 xy) ∧ w'.cell? ⟨w6.heap.size, 2, none⟩ = some (.int .i64 xd)) (((try dsimp only); (repeat' apply And.intro) <;> (first | (with_reducible assumption) | ((repeat (first | (with_reducible refine Eq.trans (cell_drew1 _ _) ?_) | (with_reducible refine Eq.trans (World.cell?_alloc_lt _ _ _ (by first | (dsimp only; omega) | (simp only [World.size_alloc, World.size_setCell]; omega))) ?_))); with_reducible assumption) | assumption | go_keep)))
    (first
      | (clear tk1x0; go_at_call 16; refine (HBm.out _).mono ?_; rintro e w7 ⟨rfl, bb⟩; replace bb := nextw (w0 := WY) (by exact ⟨rfl, rfl, rfl, Nat.le_refl _, fun _ _ => rfl⟩) bb; replace B_u := Lib.hid (Box3.below B_u.out bb B_u.out.lt); replace B_v := Lib.hid (Box3.below B_v.out bb B_v.out.lt); replace B_q := Lib.hid (Box3.below B_q.out bb B_q.out.lt); replace B_x := Lib.hid (Box3.below B_x.out bb B_x.out.lt); replace B_y := Lib.hid (Box3.below B_y.out bb B_y.out.lt); replace HB := Lib.hid (nextw HB.out bb); clear bb c0x c1x c2x c0y c1y c2y; have c0x := B_x.out.c0; have c1x := B_x.out.c1; have c2x := B_x.out.c2; have c0y := B_y.out.c0; have c1y := B_y.out.c1; have c2y := B_y.out.c2; have tk1x1 : True := trivial))
  clear c0x c1x c2x c0y c1y c2y
  clear e1 e2 HBm B_y
  go_upto_region 8 with (fail)
  have c0x := B_x.out.c0
  have c1x := B_x.out.c1
  have c2x := B_x.out.c2
  have c0q := B_q.out.c0
  have c1q := B_q.out.c1
  have c2q := B_q.out.c2
  go_wp2_with fail
  refine (HTz.out _).mono ?_
  clear c0x c1x c2x c0q c1q c2q
  rintro e w8 ⟨rfl, bb⟩
  replace bb := nextw (w0 := w7) (by exact ⟨rfl, rfl, rfl, Nat.le_refl _, fun _ _ => rfl⟩) bb
  replace B_u := Lib.hid (Box3.below B_u.out bb B_u.out.lt)
  replace B_v := Lib.hid (Box3.below B_v.out bb B_v.out.lt)
  replace B_q := Lib.hid (Box3.below B_q.out bb B_q.out.lt)
  replace B_x := Lib.hid (Box3.below B_x.out bb B_x.out.lt)
  replace HB := Lib.hid (nextw HB.out bb)
  clear bb
  have lt_zu := B_u.out.lt
  have lt_zv := B_v.out.lt
  have lt_zq := B_q.out.lt
  have lt_zx := B_x.out.lt
  have B_z := Lib.hid (Box3.new w8 sx sy sd)
  replace B_u := Lib.hid (Box3.alloc B_u.out (.cells #[.int .i64 sx, .int .i64 sy, .int .i64 sd] 24))
  replace B_v := Lib.hid (Box3.alloc B_v.out (.cells #[.int .i64 sx, .int .i64 sy, .int .i64 sd] 24))
  replace B_q := Lib.hid (Box3.alloc B_q.out (.cells #[.int .i64 sx, .int .i64 sy, .int .i64 sd] 24))
  replace B_x := Lib.hid (Box3.alloc B_x.out (.cells #[.int .i64 sx, .int .i64 sy, .int .i64 sd] 24))
  replace HB := Lib.hid (nextw HB.out ((Below.refl w8.heap.size w8).alloc (Nat.le_refl _) (.cells #[.int .i64 sx, .int .i64 sy, .int .i64 sd] 24)))
  go_upto_region 9 with (fail)
  generalize w8.alloc (.cells #[.int .i64 sx, .int .i64 sy, .int .i64 sd] 24) = WZ at *
  have c0v := B_v.out.c0
  have c1v := B_v.out.c1
  have c2v := B_v.out.c2
  have c0q := B_q.out.c0
  have c1q := B_q.out.c1
  have c2q := B_q.out.c2
  go_wp2_with fail
  refine (HTt.out _).mono ?_
  clear c0v c1v c2v c0q c1q c2q
  rintro e w9 ⟨rfl, bb⟩
  replace bb := nextw (w0 := WZ) (by exact ⟨rfl, rfl, rfl, Nat.le_refl _, fun _ _ => rfl⟩) bb
  replace B_u := Lib.hid (Box3.below B_u.out bb B_u.out.lt)
  replace B_v := Lib.hid (Box3.below B_v.out bb B_v.out.lt)
  replace B_q := Lib.hid (Box3.below B_q.out bb B_q.out.lt)
  replace B_x := Lib.hid (Box3.below B_x.out bb B_x.out.lt)
  replace B_z := Lib.hid (Box3.below B_z.out bb B_z.out.lt)
  replace HB := Lib.hid (nextw HB.out bb)
  clear bb
  have lt_tu := B_u.out.lt
  have lt_tv := B_v.out.lt
  have lt_tq := B_q.out.lt
  have lt_tx := B_x.out.lt
  have lt_tz := B_z.out.lt
  have B_t := Lib.hid (Box3.new w9 tx ty td)
  replace B_u := Lib.hid (Box3.alloc B_u.out (.cells #[.int .i64 tx, .int .i64 ty, .int .i64 td] 24))
  replace B_v := Lib.hid (Box3.alloc B_v.out (.cells #[.int .i64 tx, .int .i64 ty, .int .i64 td] 24))
  replace B_q := Lib.hid (Box3.alloc B_q.out (.cells #[.int .i64 tx, .int .i64 ty, .int .i64 td] 24))
  replace B_x := Lib.hid (Box3.alloc B_x.out (.cells #[.int .i64 tx, .int .i64 ty, .int .i64 td] 24))
  replace B_z := Lib.hid (Box3.alloc B_z.out (.cells #[.int .i64 tx, .int .i64 ty, .int .i64 td] 24))
  replace HB := Lib.hid (nextw HB.out ((Below.refl w9.heap.size w9).alloc (Nat.le_refl _) (.cells #[.int .i64 tx, .int .i64 ty, .int .i64 td] 24)))
  go_upto_region 10 with (fail)
  generalize w9.alloc (.cells #[.int .i64 tx, .int .i64 ty, .int .i64 td] 24) = WT at *
  have c0u := B_u.out.c0
  have c1u := B_u.out.c1
  have c2u := B_u.out.c2
  have c0t := B_t.out.c0
  have c1t := B_t.out.c1
  have c2t := B_t.out.c2
  go_wp2_with fail
  refine (HTs.out _).mono ?_
  clear c0u c1u c2u c0t c1t c2t
  rintro e w10 ⟨rfl, bb⟩
  replace bb := nextw (w0 := WT) (by exact ⟨rfl, rfl, rfl, Nat.le_refl _, fun _ _ => rfl⟩) bb
  replace B_u := Lib.hid (Box3.below B_u.out bb B_u.out.lt)
  replace B_v := Lib.hid (Box3.below B_v.out bb B_v.out.lt)
  replace B_q := Lib.hid (Box3.below B_q.out bb B_q.out.lt)
  replace B_x := Lib.hid (Box3.below B_x.out bb B_x.out.lt)
  replace B_z := Lib.hid (Box3.below B_z.out bb B_z.out.lt)
  replace B_t := Lib.hid (Box3.below B_t.out bb B_t.out.lt)
  replace HB := Lib.hid (nextw HB.out bb)
  clear bb
  have lt_su := B_u.out.lt
  have lt_sv := B_v.out.lt
  have lt_sq := B_q.out.lt
  have lt_sx := B_x.out.lt
  have lt_sz := B_z.out.lt
  have lt_st := B_t.out.lt
  have B_s := Lib.hid (Box3.new w10 sx sy sd)
  replace B_u := Lib.hid (Box3.alloc B_u.out (.cells #[.int .i64 sx, .int .i64 sy, .int .i64 sd] 24))
  replace B_v := Lib.hid (Box3.alloc B_v.out (.cells #[.int .i64 sx, .int .i64 sy, .int .i64 sd] 24))
  replace B_q := Lib.hid (Box3.alloc B_q.out (.cells #[.int .i64 sx, .int .i64 sy, .int .i64 sd] 24))
  replace B_x := Lib.hid (Box3.alloc B_x.out (.cells #[.int .i64 sx, .int .i64 sy, .int .i64 sd] 24))
  replace B_z := Lib.hid (Box3.alloc B_z.out (.cells #[.int .i64 sx, .int .i64 sy, .int .i64 sd] 24))
  replace B_t := Lib.hid (Box3.alloc B_t.out (.cells #[.int .i64 sx, .int .i64 sy, .int .i64 sd] 24))
  replace HB := Lib.hid (nextw HB.out ((Below.refl w10.heap.size w10).alloc (Nat.le_refl _) (.cells #[.int .i64 sx, .int .i64 sy, .int .i64 sd] 24)))
  go_upto_region 11 with (fail)
  generalize w10.alloc (.cells #[.int .i64 sx, .int .i64 sy, .int .i64 sd] 24) = WS at *
  clear HTz HTt HTs B_u B_v B_q B_t
  have e1 : IntKind.i64.wrap a = a := by rw [IntKind.wrap_i64]; omega
  have e2 : IntKind.i64.wrap b = b := by rw [IntKind.wrap_i64]; omega
  have e3 : IntKind.i64.wrap (a + 64) = a + 64 := by rw [IntKind.wrap_i64]; omega
  have e4 : IntKind.i64.wrap (-xy) = -xy := by rw [IntKind.wrap_i64]; omega
  clear by1 bd1 a0 a1 b0 b1 c0 c1
  go_wp2_with fail
  have c0z := B_z.out.c0
  have c1z := B_z.out.c1
  have c2z := B_z.out.c2
  have c0s := B_s.out.c0
  have c1s := B_s.out.c1
  have c2s := B_s.out.c2
  have c0x := B_x.out.c0
  have c1x := B_x.out.c1
  have c2x := B_x.out.c2
  have tk2x0 : True := trivial
  go_region_held3 (fun w' => w'.cell? ⟨w8.heap.size, 0, none⟩ = some (.int .i64 sx) ∧ w'.cell? ⟨w8.heap.size, 1, none⟩ = some (.int .i64 sy) ∧ w'.cell? ⟨w8.heap.size, 2, none⟩ = some (.int .i64 sd) ∧ w'.cell? ⟨w10.heap.size, 0, none⟩ = some (.int .i64 sx) ∧ w'.cell? ⟨w10.heap.size, 1, none⟩ = some (.int .i64 sy) ∧ w'.cell? ⟨w10.heap.size, 2, none⟩ = some (.int .i64 sd) ∧ w'.cell? ⟨w5.heap.size, 0, none⟩ = some (.int .i64 xx) ∧ w'.cell? ⟨w5.heap.size, 1, none⟩ = some (.int .i64 xy) ∧ w'.cell? ⟨w5.heap.size, 2, none⟩ = some (.int .i64 xd)) (((try dsimp only); (repeat' apply And.intro) <;> (first | (with_reducible assumption) | ((repeat (first | (with_reducible refine Eq.trans (cell_drew1 _ _) ?_) | (with_reducible refine Eq.trans (World.cell?_alloc_lt _ _ _ (by first | (dsimp only; omega) | (simp only [World.size_alloc, World.size_setCell]; omega))) ?_))); with_reducible assumption) | assumption | go_keep)))
    (first
      | (clear tk2x0; go_at_call 16; refine (HB6.out _).mono ?_; rintro e w11 ⟨rfl, bb⟩; replace bb := nextw (w0 := WS) (by exact ⟨rfl, rfl, rfl, Nat.le_refl _, fun _ _ => rfl⟩) bb; replace B_x := Lib.hid (Box3.below B_x.out bb B_x.out.lt); replace B_z := Lib.hid (Box3.below B_z.out bb B_z.out.lt); replace B_s := Lib.hid (Box3.below B_s.out bb B_s.out.lt); replace HB := Lib.hid (nextw HB.out bb); clear bb c0z c1z c2z c0s c1s c2s c0x c1x c2x; have c0z := B_z.out.c0; have c1z := B_z.out.c1; have c2z := B_z.out.c2; have c0s := B_s.out.c0; have c1s := B_s.out.c1; have c2s := B_s.out.c2; have c0x := B_x.out.c0; have c1x := B_x.out.c1; have c2x := B_x.out.c2; have tk2x1 : True := trivial))
  clear c0z c1z c2z c0s c1s c2s c0x c1x c2x
  go_wp2
  go_ret
  exact ⟨rfl, nextw HB.out (by exact ⟨rfl, rfl, rfl, Nat.le_refl _, fun _ _ => rfl⟩)⟩

set_option maxRecDepth 100000 in
set_option maxHeartbeats 4000000 in
theorem Turns_far (a b c : Int) (a0 : 0 ≤ a) (a1 : a ≤ 255) (b0 : 0 ≤ b) (b1 : b ≤ 255) (c0 : 0 ≤ c) (c1 : c ≤ 255) (hm : 67108864 < (prod (prod (dir a) (dir b)) (dir c)).d) (w : World) :
    Calls Try.prog 6 #[.int .u8 a, .int .u8 b, .int .u8 c] w fun e w' => e = .returned (.bool true) ∧ Below w.heap.size w w' := by
  have hx := dprod_ok a b
  have ht := dprod_ok b c
  have hxd := dir_prod a b
  have htd := dir_prod b c
  have hua := prod_assoc (dir_ok a).1 (dir_ok b).1 (dir_ok c).1
  have hu := (dir_ok a).1
  have hv := (dir_ok b).1
  have hw := (dir_ok c).1
  have hr := prod_rot (a := dir a) (b := dir b) hu.eq hv.eq
  have hc := prod_comm (dir b) (dir a)
  have h64 := dir_64 a
  obtain ⟨X, hX⟩ : ∃ X, prod (dir a) (dir b) = X := ⟨_, rfl⟩
  obtain ⟨T, hT⟩ : ∃ T, prod (dir b) (dir c) = T := ⟨_, rfl⟩
  have HBm := Lib.hid (fun w => Beam_at hX w)
  have hb64 : prod (dir (a + 64)) (dir b) = rot X := by rw [h64, hr, hX]
  have HB6 := Lib.hid (fun w => Beam_at hb64 w)
  rw [hX] at hx hxd hua hc hm
  rw [hT] at ht htd hua
  have HDa := Lib.hid (fun w => Dir_any a w)
  have HDb := Lib.hid (fun w => Dir_any b w)
  have HDc := Lib.hid (fun w => Dir_any c w)
  generalize dir a = U at *
  generalize dir b = V at *
  generalize dir c = Q at *
  have HTx := Lib.hid (fun w => Turn_at hu hv hX hxd w)
  have HTy := Lib.hid (fun w => Turn_at hv hu hc hxd w)
  have HTt := Lib.hid (fun w => Turn_at hv hw hT htd w)
  obtain ⟨S, hS⟩ : ∃ S, prod X Q = S := ⟨_, rfl⟩
  rw [hS] at hua hm
  have HTz := Lib.hid (fun w => Turn_far hx hw (by rw [hS]; exact hm) w)
  have HTs := Lib.hid (fun w => Turn_far hu ht (by rw [← hua]; exact hm) w)
  have by1 := hx.by_
  have bd1 := hx.hi
  clear hx ht hxd htd hua hu hv hw hr hc h64 hX hT hb64 hS hm
  have HA := Lib.hid (fun w => awake_any w)
  obtain ⟨ux, uy, ud⟩ := U
  obtain ⟨vx, vy, vd⟩ := V
  obtain ⟨qx, qy, qd⟩ := Q
  obtain ⟨xx, xy, xd⟩ := X
  obtain ⟨tx, ty, td⟩ := T
  simp only [rot] at HB6 by1 bd1
  have HB := Lib.hid (Below.refl w.heap.size w)
  go_enter Try.func6, Try.ntmps6
  go_wp2_with fail
  refine (HA.out _).mono ?_
  rintro e w1 ⟨rfl, bb⟩
  replace bb := nextw (w0 := w) (by exact ⟨rfl, rfl, rfl, Nat.le_refl _, fun _ _ => rfl⟩) bb
  replace HB := Lib.hid (nextw HB.out bb)
  clear bb
  go_wp2_with fail
  refine (HDa.out _).mono ?_
  rintro e w2 ⟨rfl, bb⟩
  replace bb := nextw (w0 := w1) (by exact ⟨rfl, rfl, rfl, Nat.le_refl _, fun _ _ => rfl⟩) bb
  replace HB := Lib.hid (nextw HB.out bb)
  clear bb
  go_wp2_with fail
  refine (HDb.out _).mono ?_
  rintro e w3 ⟨rfl, bb⟩
  replace bb := nextw (w0 := w2) (by exact ⟨rfl, rfl, rfl, Nat.le_refl _, fun _ _ => rfl⟩) bb
  replace HB := Lib.hid (nextw HB.out bb)
  clear bb
  go_wp2_with fail
  refine (HDc.out _).mono ?_
  rintro e w4 ⟨rfl, bb⟩
  replace bb := nextw (w0 := w3) (by exact ⟨rfl, rfl, rfl, Nat.le_refl _, fun _ _ => rfl⟩) bb
  replace HB := Lib.hid (nextw HB.out bb)
  clear bb
  have B_u : Box3 (((w4.alloc (.cells #[.int .i64 ux, .int .i64 uy, .int .i64 ud] 24)).alloc (.cells #[.int .i64 vx, .int .i64 vy, .int .i64 vd] 24)).alloc (.cells #[.int .i64 qx, .int .i64 qy, .int .i64 qd] 24)) (w4.heap.size) ux uy ud := by have h := (Box3.alloc (Box3.alloc (Box3.new w4 ux uy ud) (.cells #[.int .i64 vx, .int .i64 vy, .int .i64 vd] 24)) (.cells #[.int .i64 qx, .int .i64 qy, .int .i64 qd] 24)); simpa using h
  replace B_u := Lib.hid B_u
  have B_v : Box3 (((w4.alloc (.cells #[.int .i64 ux, .int .i64 uy, .int .i64 ud] 24)).alloc (.cells #[.int .i64 vx, .int .i64 vy, .int .i64 vd] 24)).alloc (.cells #[.int .i64 qx, .int .i64 qy, .int .i64 qd] 24)) (w4.heap.size + 1) vx vy vd := by have h := (Box3.alloc (Box3.new (w4.alloc (.cells #[.int .i64 ux, .int .i64 uy, .int .i64 ud] 24)) vx vy vd) (.cells #[.int .i64 qx, .int .i64 qy, .int .i64 qd] 24)); simpa using h
  replace B_v := Lib.hid B_v
  have B_q : Box3 (((w4.alloc (.cells #[.int .i64 ux, .int .i64 uy, .int .i64 ud] 24)).alloc (.cells #[.int .i64 vx, .int .i64 vy, .int .i64 vd] 24)).alloc (.cells #[.int .i64 qx, .int .i64 qy, .int .i64 qd] 24)) (w4.heap.size + 1 + 1) qx qy qd := by have h := (Box3.new ((w4.alloc (.cells #[.int .i64 ux, .int .i64 uy, .int .i64 ud] 24)).alloc (.cells #[.int .i64 vx, .int .i64 vy, .int .i64 vd] 24)) qx qy qd); simpa using h
  replace B_q := Lib.hid B_q
  have bb : Below w4.heap.size w4 (((w4.alloc (.cells #[.int .i64 ux, .int .i64 uy, .int .i64 ud] 24)).alloc (.cells #[.int .i64 vx, .int .i64 vy, .int .i64 vd] 24)).alloc (.cells #[.int .i64 qx, .int .i64 qy, .int .i64 qd] 24)) := ((((Below.refl w4.heap.size w4).alloc (by simp <;> omega) _).alloc (by simp <;> omega) _).alloc (by simp <;> omega) _)
  replace HB := Lib.hid (nextw HB.out bb)
  clear bb
  go_upto_region 4 with (fail)
  generalize ((w4.alloc (.cells #[.int .i64 ux, .int .i64 uy, .int .i64 ud] 24)).alloc (.cells #[.int .i64 vx, .int .i64 vy, .int .i64 vd] 24)).alloc (.cells #[.int .i64 qx, .int .i64 qy, .int .i64 qd] 24) = WU at *
  clear HA HDa HDb HDc
  have c0u := B_u.out.c0
  have c1u := B_u.out.c1
  have c2u := B_u.out.c2
  have c0v := B_v.out.c0
  have c1v := B_v.out.c1
  have c2v := B_v.out.c2
  go_wp2_with fail
  refine (HTx.out _).mono ?_
  clear c0u c1u c2u c0v c1v c2v
  rintro e w5 ⟨rfl, bb⟩
  replace bb := nextw (w0 := WU) (by exact ⟨rfl, rfl, rfl, Nat.le_refl _, fun _ _ => rfl⟩) bb
  replace B_u := Lib.hid (Box3.below B_u.out bb B_u.out.lt)
  replace B_v := Lib.hid (Box3.below B_v.out bb B_v.out.lt)
  replace B_q := Lib.hid (Box3.below B_q.out bb B_q.out.lt)
  replace HB := Lib.hid (nextw HB.out bb)
  clear bb
  have lt_xu := B_u.out.lt
  have lt_xv := B_v.out.lt
  have lt_xq := B_q.out.lt
  have B_x := Lib.hid (Box3.new w5 xx xy xd)
  replace B_u := Lib.hid (Box3.alloc B_u.out (.cells #[.int .i64 xx, .int .i64 xy, .int .i64 xd] 24))
  replace B_v := Lib.hid (Box3.alloc B_v.out (.cells #[.int .i64 xx, .int .i64 xy, .int .i64 xd] 24))
  replace B_q := Lib.hid (Box3.alloc B_q.out (.cells #[.int .i64 xx, .int .i64 xy, .int .i64 xd] 24))
  replace HB := Lib.hid (nextw HB.out ((Below.refl w5.heap.size w5).alloc (Nat.le_refl _) (.cells #[.int .i64 xx, .int .i64 xy, .int .i64 xd] 24)))
  go_upto_region 5 with (fail)
  generalize w5.alloc (.cells #[.int .i64 xx, .int .i64 xy, .int .i64 xd] 24) = WX at *
  have c0u := B_u.out.c0
  have c1u := B_u.out.c1
  have c2u := B_u.out.c2
  have c0v := B_v.out.c0
  have c1v := B_v.out.c1
  have c2v := B_v.out.c2
  go_wp2_with fail
  refine (HTy.out _).mono ?_
  clear c0u c1u c2u c0v c1v c2v
  rintro e w6 ⟨rfl, bb⟩
  replace bb := nextw (w0 := WX) (by exact ⟨rfl, rfl, rfl, Nat.le_refl _, fun _ _ => rfl⟩) bb
  replace B_u := Lib.hid (Box3.below B_u.out bb B_u.out.lt)
  replace B_v := Lib.hid (Box3.below B_v.out bb B_v.out.lt)
  replace B_q := Lib.hid (Box3.below B_q.out bb B_q.out.lt)
  replace B_x := Lib.hid (Box3.below B_x.out bb B_x.out.lt)
  replace HB := Lib.hid (nextw HB.out bb)
  clear bb
  have lt_yu := B_u.out.lt
  have lt_yv := B_v.out.lt
  have lt_yq := B_q.out.lt
  have lt_yx := B_x.out.lt
  have B_y := Lib.hid (Box3.new w6 xx xy xd)
  replace B_u := Lib.hid (Box3.alloc B_u.out (.cells #[.int .i64 xx, .int .i64 xy, .int .i64 xd] 24))
  replace B_v := Lib.hid (Box3.alloc B_v.out (.cells #[.int .i64 xx, .int .i64 xy, .int .i64 xd] 24))
  replace B_q := Lib.hid (Box3.alloc B_q.out (.cells #[.int .i64 xx, .int .i64 xy, .int .i64 xd] 24))
  replace B_x := Lib.hid (Box3.alloc B_x.out (.cells #[.int .i64 xx, .int .i64 xy, .int .i64 xd] 24))
  replace HB := Lib.hid (nextw HB.out ((Below.refl w6.heap.size w6).alloc (Nat.le_refl _) (.cells #[.int .i64 xx, .int .i64 xy, .int .i64 xd] 24)))
  go_upto_region 6 with (fail)
  generalize w6.alloc (.cells #[.int .i64 xx, .int .i64 xy, .int .i64 xd] 24) = WY at *
  clear HTx HTy
  have e1 : IntKind.i64.wrap a = a := by rw [IntKind.wrap_i64]; omega
  have e2 : IntKind.i64.wrap b = b := by rw [IntKind.wrap_i64]; omega
  go_wp2_with fail
  have c0x := B_x.out.c0
  have c1x := B_x.out.c1
  have c2x := B_x.out.c2
  have c0y := B_y.out.c0
  have c1y := B_y.out.c1
  have c2y := B_y.out.c2
  have tk1x0 : True := trivial
  go_region_held3 (fun w' => w'.cell? ⟨w5.heap.size, 0, none⟩ = some (.int .i64 xx) ∧ w'.cell? ⟨w5.heap.size, 1, none⟩ = some (.int .i64 xy) ∧ w'.cell? ⟨w5.heap.size, 2, none⟩ = some (.int .i64 xd) ∧ w'.cell? ⟨w6.heap.size, 0, none⟩ = some (.int .i64 xx) ∧ w'.cell? ⟨w6.heap.size, 1, none⟩ = some (.int .i64 xy) ∧ w'.cell? ⟨w6.heap.size, 2, none⟩ = some (.int .i64 xd)) (((try dsimp only); (repeat' apply And.intro) <;> (first | (with_reducible assumption) | ((repeat (first | (with_reducible refine Eq.trans (cell_drew1 _ _) ?_) | (with_reducible refine Eq.trans (World.cell?_alloc_lt _ _ _ (by first | (dsimp only; omega) | (simp only [World.size_alloc, World.size_setCell]; omega))) ?_))); with_reducible assumption) | assumption | go_keep)))
    (first
      | (clear tk1x0; go_at_call 16; refine (HBm.out _).mono ?_; rintro e w7 ⟨rfl, bb⟩; replace bb := nextw (w0 := WY) (by exact ⟨rfl, rfl, rfl, Nat.le_refl _, fun _ _ => rfl⟩) bb; replace B_u := Lib.hid (Box3.below B_u.out bb B_u.out.lt); replace B_v := Lib.hid (Box3.below B_v.out bb B_v.out.lt); replace B_q := Lib.hid (Box3.below B_q.out bb B_q.out.lt); replace B_x := Lib.hid (Box3.below B_x.out bb B_x.out.lt); replace B_y := Lib.hid (Box3.below B_y.out bb B_y.out.lt); replace HB := Lib.hid (nextw HB.out bb); clear bb c0x c1x c2x c0y c1y c2y; have c0x := B_x.out.c0; have c1x := B_x.out.c1; have c2x := B_x.out.c2; have c0y := B_y.out.c0; have c1y := B_y.out.c1; have c2y := B_y.out.c2; have tk1x1 : True := trivial))
  clear c0x c1x c2x c0y c1y c2y
  clear e1 e2 HBm B_y
  go_upto_region 8 with (fail)
  have c0x := B_x.out.c0
  have c1x := B_x.out.c1
  have c2x := B_x.out.c2
  have c0q := B_q.out.c0
  have c1q := B_q.out.c1
  have c2q := B_q.out.c2
  go_wp2_with fail
  refine (HTz.out _).mono ?_
  clear c0x c1x c2x c0q c1q c2q
  rintro e w8 ⟨rfl, bb⟩
  replace bb := nextw (w0 := w7) (by exact ⟨rfl, rfl, rfl, Nat.le_refl _, fun _ _ => rfl⟩) bb
  replace B_u := Lib.hid (Box3.below B_u.out bb B_u.out.lt)
  replace B_v := Lib.hid (Box3.below B_v.out bb B_v.out.lt)
  replace B_q := Lib.hid (Box3.below B_q.out bb B_q.out.lt)
  replace B_x := Lib.hid (Box3.below B_x.out bb B_x.out.lt)
  replace HB := Lib.hid (nextw HB.out bb)
  clear bb
  have lt_zu := B_u.out.lt
  have lt_zv := B_v.out.lt
  have lt_zq := B_q.out.lt
  have lt_zx := B_x.out.lt
  have B_z := Lib.hid (Box3.new w8 0 0 0)
  replace B_u := Lib.hid (Box3.alloc B_u.out (.cells #[.int .i64 0, .int .i64 0, .int .i64 0] 24))
  replace B_v := Lib.hid (Box3.alloc B_v.out (.cells #[.int .i64 0, .int .i64 0, .int .i64 0] 24))
  replace B_q := Lib.hid (Box3.alloc B_q.out (.cells #[.int .i64 0, .int .i64 0, .int .i64 0] 24))
  replace B_x := Lib.hid (Box3.alloc B_x.out (.cells #[.int .i64 0, .int .i64 0, .int .i64 0] 24))
  replace HB := Lib.hid (nextw HB.out ((Below.refl w8.heap.size w8).alloc (Nat.le_refl _) (.cells #[.int .i64 0, .int .i64 0, .int .i64 0] 24)))
  go_upto_region 9 with (fail)
  generalize w8.alloc (.cells #[.int .i64 0, .int .i64 0, .int .i64 0] 24) = WZ at *
  have c0v := B_v.out.c0
  have c1v := B_v.out.c1
  have c2v := B_v.out.c2
  have c0q := B_q.out.c0
  have c1q := B_q.out.c1
  have c2q := B_q.out.c2
  go_wp2_with fail
  refine (HTt.out _).mono ?_
  clear c0v c1v c2v c0q c1q c2q
  rintro e w9 ⟨rfl, bb⟩
  replace bb := nextw (w0 := WZ) (by exact ⟨rfl, rfl, rfl, Nat.le_refl _, fun _ _ => rfl⟩) bb
  replace B_u := Lib.hid (Box3.below B_u.out bb B_u.out.lt)
  replace B_v := Lib.hid (Box3.below B_v.out bb B_v.out.lt)
  replace B_q := Lib.hid (Box3.below B_q.out bb B_q.out.lt)
  replace B_x := Lib.hid (Box3.below B_x.out bb B_x.out.lt)
  replace B_z := Lib.hid (Box3.below B_z.out bb B_z.out.lt)
  replace HB := Lib.hid (nextw HB.out bb)
  clear bb
  have lt_tu := B_u.out.lt
  have lt_tv := B_v.out.lt
  have lt_tq := B_q.out.lt
  have lt_tx := B_x.out.lt
  have lt_tz := B_z.out.lt
  have B_t := Lib.hid (Box3.new w9 tx ty td)
  replace B_u := Lib.hid (Box3.alloc B_u.out (.cells #[.int .i64 tx, .int .i64 ty, .int .i64 td] 24))
  replace B_v := Lib.hid (Box3.alloc B_v.out (.cells #[.int .i64 tx, .int .i64 ty, .int .i64 td] 24))
  replace B_q := Lib.hid (Box3.alloc B_q.out (.cells #[.int .i64 tx, .int .i64 ty, .int .i64 td] 24))
  replace B_x := Lib.hid (Box3.alloc B_x.out (.cells #[.int .i64 tx, .int .i64 ty, .int .i64 td] 24))
  replace B_z := Lib.hid (Box3.alloc B_z.out (.cells #[.int .i64 tx, .int .i64 ty, .int .i64 td] 24))
  replace HB := Lib.hid (nextw HB.out ((Below.refl w9.heap.size w9).alloc (Nat.le_refl _) (.cells #[.int .i64 tx, .int .i64 ty, .int .i64 td] 24)))
  go_upto_region 10 with (fail)
  generalize w9.alloc (.cells #[.int .i64 tx, .int .i64 ty, .int .i64 td] 24) = WT at *
  have c0u := B_u.out.c0
  have c1u := B_u.out.c1
  have c2u := B_u.out.c2
  have c0t := B_t.out.c0
  have c1t := B_t.out.c1
  have c2t := B_t.out.c2
  go_wp2_with fail
  refine (HTs.out _).mono ?_
  clear c0u c1u c2u c0t c1t c2t
  rintro e w10 ⟨rfl, bb⟩
  replace bb := nextw (w0 := WT) (by exact ⟨rfl, rfl, rfl, Nat.le_refl _, fun _ _ => rfl⟩) bb
  replace B_u := Lib.hid (Box3.below B_u.out bb B_u.out.lt)
  replace B_v := Lib.hid (Box3.below B_v.out bb B_v.out.lt)
  replace B_q := Lib.hid (Box3.below B_q.out bb B_q.out.lt)
  replace B_x := Lib.hid (Box3.below B_x.out bb B_x.out.lt)
  replace B_z := Lib.hid (Box3.below B_z.out bb B_z.out.lt)
  replace B_t := Lib.hid (Box3.below B_t.out bb B_t.out.lt)
  replace HB := Lib.hid (nextw HB.out bb)
  clear bb
  have lt_su := B_u.out.lt
  have lt_sv := B_v.out.lt
  have lt_sq := B_q.out.lt
  have lt_sx := B_x.out.lt
  have lt_sz := B_z.out.lt
  have lt_st := B_t.out.lt
  have B_s := Lib.hid (Box3.new w10 0 0 0)
  replace B_u := Lib.hid (Box3.alloc B_u.out (.cells #[.int .i64 0, .int .i64 0, .int .i64 0] 24))
  replace B_v := Lib.hid (Box3.alloc B_v.out (.cells #[.int .i64 0, .int .i64 0, .int .i64 0] 24))
  replace B_q := Lib.hid (Box3.alloc B_q.out (.cells #[.int .i64 0, .int .i64 0, .int .i64 0] 24))
  replace B_x := Lib.hid (Box3.alloc B_x.out (.cells #[.int .i64 0, .int .i64 0, .int .i64 0] 24))
  replace B_z := Lib.hid (Box3.alloc B_z.out (.cells #[.int .i64 0, .int .i64 0, .int .i64 0] 24))
  replace B_t := Lib.hid (Box3.alloc B_t.out (.cells #[.int .i64 0, .int .i64 0, .int .i64 0] 24))
  replace HB := Lib.hid (nextw HB.out ((Below.refl w10.heap.size w10).alloc (Nat.le_refl _) (.cells #[.int .i64 0, .int .i64 0, .int .i64 0] 24)))
  go_upto_region 11 with (fail)
  generalize w10.alloc (.cells #[.int .i64 0, .int .i64 0, .int .i64 0] 24) = WS at *
  clear HTz HTt HTs B_u B_v B_q B_t
  have e1 : IntKind.i64.wrap a = a := by rw [IntKind.wrap_i64]; omega
  have e2 : IntKind.i64.wrap b = b := by rw [IntKind.wrap_i64]; omega
  have e3 : IntKind.i64.wrap (a + 64) = a + 64 := by rw [IntKind.wrap_i64]; omega
  have e4 : IntKind.i64.wrap (-xy) = -xy := by rw [IntKind.wrap_i64]; omega
  clear by1 bd1 a0 a1 b0 b1 c0 c1
  go_wp2_with fail
  have c0z := B_z.out.c0
  have c1z := B_z.out.c1
  have c2z := B_z.out.c2
  have c0s := B_s.out.c0
  have c1s := B_s.out.c1
  have c2s := B_s.out.c2
  have c0x := B_x.out.c0
  have c1x := B_x.out.c1
  have c2x := B_x.out.c2
  have tk2x0 : True := trivial
  go_region_held3 (fun w' => w'.cell? ⟨w8.heap.size, 0, none⟩ = some (.int .i64 0) ∧ w'.cell? ⟨w8.heap.size, 1, none⟩ = some (.int .i64 0) ∧ w'.cell? ⟨w8.heap.size, 2, none⟩ = some (.int .i64 0) ∧ w'.cell? ⟨w10.heap.size, 0, none⟩ = some (.int .i64 0) ∧ w'.cell? ⟨w10.heap.size, 1, none⟩ = some (.int .i64 0) ∧ w'.cell? ⟨w10.heap.size, 2, none⟩ = some (.int .i64 0) ∧ w'.cell? ⟨w5.heap.size, 0, none⟩ = some (.int .i64 xx) ∧ w'.cell? ⟨w5.heap.size, 1, none⟩ = some (.int .i64 xy) ∧ w'.cell? ⟨w5.heap.size, 2, none⟩ = some (.int .i64 xd)) (((try dsimp only); (repeat' apply And.intro) <;> (first | (with_reducible assumption) | ((repeat (first | (with_reducible refine Eq.trans (cell_drew1 _ _) ?_) | (with_reducible refine Eq.trans (World.cell?_alloc_lt _ _ _ (by first | (dsimp only; omega) | (simp only [World.size_alloc, World.size_setCell]; omega))) ?_))); with_reducible assumption) | assumption | go_keep)))
    (first
      | (clear tk2x0; go_at_call 16; refine (HB6.out _).mono ?_; rintro e w11 ⟨rfl, bb⟩; replace bb := nextw (w0 := WS) (by exact ⟨rfl, rfl, rfl, Nat.le_refl _, fun _ _ => rfl⟩) bb; replace B_x := Lib.hid (Box3.below B_x.out bb B_x.out.lt); replace B_z := Lib.hid (Box3.below B_z.out bb B_z.out.lt); replace B_s := Lib.hid (Box3.below B_s.out bb B_s.out.lt); replace HB := Lib.hid (nextw HB.out bb); clear bb c0z c1z c2z c0s c1s c2s c0x c1x c2x; have c0z := B_z.out.c0; have c1z := B_z.out.c1; have c2z := B_z.out.c2; have c0s := B_s.out.c0; have c1s := B_s.out.c1; have c2s := B_s.out.c2; have c0x := B_x.out.c0; have c1x := B_x.out.c1; have c2x := B_x.out.c2; have tk2x1 : True := trivial))
  clear c0z c1z c2z c0s c1s c2s c0x c1x c2x
  go_wp2
  go_ret
  exact ⟨rfl, nextw HB.out (by exact ⟨rfl, rfl, rfl, Nat.le_refl _, fun _ _ => rfl⟩)⟩

theorem Turns_any (a b c : Int) (a0 : 0 ≤ a) (a1 : a ≤ 255) (b0 : 0 ≤ b) (b1 : b ≤ 255) (c0 : 0 ≤ c) (c1 : c ≤ 255) (w : World) :
    Calls Try.prog 6 #[.int .u8 a, .int .u8 b, .int .u8 c] w fun e w' => e = .returned (.bool true) ∧ Below w.heap.size w w' := by
  rcases Int.lt_or_le 67108864 (prod (prod (dir a) (dir b)) (dir c)).d with h | h
  · exact Turns_far a b c a0 a1 b0 b1 c0 c1 h w
  · exact Turns_near a b c a0 a1 b0 b1 c0 c1 h w
end Go.Proofs.Ytincejndchdcdaa
