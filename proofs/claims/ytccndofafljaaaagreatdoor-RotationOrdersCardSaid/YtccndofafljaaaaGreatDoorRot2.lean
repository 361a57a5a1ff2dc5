/- Package rotation: Norm, Of, Inverse. -/
import Derived.Test.YtccndofafljaaaaGreatDoorRot1
import Derived.Test.YtccndofafljaaaaGreatDoorGcd3

set_option linter.unusedVariables false
set_option linter.unusedSimpArgs false

namespace Go.Proofs.YtccndofafljaaaaGreatDoor
open Go Go.RowKit Num

set_option maxRecDepth 100000 in
set_option maxHeartbeats 8000000 in
theorem Norm_neg {v : Value} {p q : Int} {k : Nat} {w : World} (h : Fd w v p q k) (f : k ≤ 20000) (g : nzQ p q < 0 ∨ nzQ p q = 0 ∧ p < 0) :
    Calls Tryz.prog 40 #[v] w fun e w' => ∃ v', e = .returned v' ∧ Gc w' v' (cnP p q) (cnQ p q) (k + 2) ∧ Below w.heap.size w w' := by
  have HG := Lib.hid g
  clear g
  obtain ⟨sx, Ax, kx, cx, tx, Cx, lx, dx, rfl, hnx, hdx⟩ := h.shape
  have V_xn := Lib.hid hnx
  have V_xd := Lib.hid hdx
  clear h hnx hdx
  have hb0 : Below w.heap.size w ((w.alloc (.cells #[.bool sx, (.slice Ax kx cx), .bool tx, (.slice Cx lx dx)] 26)).alloc (.cells #[.bool false, (.slice none 0 0), .bool false, (.slice none 0 0)] 26)) := (Below.alloc (Below.alloc (Below.refl w.heap.size w) (by simp <;> omega) _) (by simp <;> omega) _)
  have B_x : BoxR ((w.alloc (.cells #[.bool sx, (.slice Ax kx cx), .bool tx, (.slice Cx lx dx)] 26)).alloc (.cells #[.bool false, (.slice none 0 0), .bool false, (.slice none 0 0)] 26)) (w.heap.size) sx (.slice Ax kx cx) tx (.slice Cx lx dx) := by have h := BoxR.alloc (BoxR.new w sx (.slice Ax kx cx) tx (.slice Cx lx dx)) (.cells #[.bool false, (.slice none 0 0), .bool false, (.slice none 0 0)] 26); simpa using h
  replace B_x := Lib.hid B_x
  have B_r : BoxR ((w.alloc (.cells #[.bool sx, (.slice Ax kx cx), .bool tx, (.slice Cx lx dx)] 26)).alloc (.cells #[.bool false, (.slice none 0 0), .bool false, (.slice none 0 0)] 26)) (w.heap.size + 1) false (.slice none 0 0) false (.slice none 0 0) := by have h := BoxR.new (w.alloc (.cells #[.bool sx, (.slice Ax kx cx), .bool tx, (.slice Cx lx dx)] 26)) false (.slice none 0 0) false (.slice none 0 0); simpa using h
  replace B_r := Lib.hid B_r
  replace V_xn := Lib.hid (Rd.below V_xn.out hb0)
  replace V_xd := Lib.hid (Rd.below V_xd.out hb0)
  have HB := Lib.hid hb0
  clear hb0
  have c0x := B_x.out.c0
  have c1x := B_x.out.c1
  have c2x := B_x.out.c2
  have c3x := B_x.out.c3
  have c0r := B_r.out.c0
  have c1r := B_r.out.c1
  have c2r := B_r.out.c2
  have c3r := B_r.out.c3
  go_enter Tryz.func40, Tryz.ntmps40
  go_wp2_with fail
  clear c0x c1x c2x c3x c0r c1r c2r c3r
  generalize (w.alloc (.cells #[.bool sx, (.slice Ax kx cx), .bool tx, (.slice Cx lx dx)] 26)).alloc (.cells #[.bool false, (.slice none 0 0), .bool false, (.slice none 0 0)] 26) = W0 at *
  refine (nonzero_f (Fd.mk (Rd.below V_xn.out (by exact ⟨rfl, rfl, rfl, Nat.le_refl _, fun _ _ => rfl⟩)) (Rd.below V_xd.out (by exact ⟨rfl, rfl, rfl, Nat.le_refl _, fun _ _ => rfl⟩))) (by omega)).mono ?_
  rintro e w1 ⟨vz, rfl, rz, bb⟩
  replace bb := nextw (w0 := W0) (by exact ⟨rfl, rfl, rfl, Nat.le_refl _, fun _ _ => rfl⟩) bb
  replace B_x := Lib.hid (BoxR.below B_x.out bb B_x.out.lt)
  replace B_r := Lib.hid (BoxR.below B_r.out bb B_r.out.lt)
  replace V_xn := Lib.hid (Rd.below V_xn.out bb)
  replace V_xd := Lib.hid (Rd.below V_xd.out bb)
  replace HB := Lib.hid (nextw HB.out bb)
  clear bb
  clear V_xn V_xd
  obtain ⟨sz, Az, kz, cz, tz, Cz, lz, dz, rfl, hnz, hdz⟩ := rz.shape
  have V_zn := Lib.hid hnz
  have V_zd := Lib.hid hdz
  clear rz hnz hdz
  have Z1x := Lib.hid B_x.out.lt
  have Z2r := Lib.hid B_r.out.lt
  have hb0 : Below w1.heap.size w1 (w1.alloc (.cells #[.bool sz, (.slice Az kz cz), .bool tz, (.slice Cz lz dz)] 26)) := (Below.alloc (Below.refl w1.heap.size w1) (by simp <;> omega) _)
  have B_z : BoxR (w1.alloc (.cells #[.bool sz, (.slice Az kz cz), .bool tz, (.slice Cz lz dz)] 26)) (w1.heap.size) sz (.slice Az kz cz) tz (.slice Cz lz dz) := by have h := BoxR.new w1 sz (.slice Az kz cz) tz (.slice Cz lz dz); simpa using h
  replace B_z := Lib.hid B_z
  replace B_x := Lib.hid (BoxR.below B_x.out hb0 B_x.out.lt)
  replace B_r := Lib.hid (BoxR.below B_r.out hb0 B_r.out.lt)
  replace V_zn := Lib.hid (Rd.below V_zn.out hb0)
  replace V_zd := Lib.hid (Rd.below V_zd.out hb0)
  replace HB := Lib.hid (nextw HB.out hb0)
  clear hb0
  have c0z := B_z.out.c0
  have c1z := B_z.out.c1
  have c2z := B_z.out.c2
  have c3z := B_z.out.c3
  have c0r := B_r.out.c0
  have c1r := B_r.out.c1
  have c2r := B_r.out.c2
  have c3r := B_r.out.c3
  go_wp2_with fail
  clear c0z c1z c2z c3z c0r c1r c2r c3r
  generalize w1.alloc (.cells #[.bool sz, (.slice Az kz cz), .bool tz, (.slice Cz lz dz)] 26) = W1 at *
  refine (Gcd_rd (Rd.below V_zn.out (by exact ⟨rfl, rfl, rfl, Nat.le_refl _, fun _ _ => rfl⟩)) (Rd.below V_zd.out (by exact ⟨rfl, rfl, rfl, Nat.le_refl _, fun _ _ => rfl⟩)) (by omega) (by omega)).mono ?_
  rintro e w2 ⟨vg, rfl, rg, bb⟩
  replace bb := nextw (w0 := W1) (by exact ⟨rfl, rfl, rfl, Nat.le_refl _, fun _ _ => rfl⟩) bb
  replace B_x := Lib.hid (BoxR.below B_x.out bb B_x.out.lt)
  replace B_r := Lib.hid (BoxR.below B_r.out bb B_r.out.lt)
  replace B_z := Lib.hid (BoxR.below B_z.out bb B_z.out.lt)
  replace V_zn := Lib.hid (Rd.below V_zn.out bb)
  replace V_zd := Lib.hid (Rd.below V_zd.out bb)
  replace HB := Lib.hid (nextw HB.out bb)
  clear bb
  obtain ⟨sg, Ag, kg, cg, rfl⟩ := rg.shape
  have V_g := Lib.hid rg
  clear rg
  have Z3x := Lib.hid B_x.out.lt
  have Z4r := Lib.hid B_r.out.lt
  have Z5z := Lib.hid B_z.out.lt
  have hb0 : Below w2.heap.size w2 (w2.alloc (.cells #[.bool sg, (.slice Ag kg cg)] 24)) := (Below.alloc (Below.refl w2.heap.size w2) (by simp <;> omega) _)
  have B_g : Box (w2.alloc (.cells #[.bool sg, (.slice Ag kg cg)] 24)) (w2.heap.size) sg (.slice Ag kg cg) := by have h := Box.new w2 sg (.slice Ag kg cg); simpa using h
  replace B_g := Lib.hid B_g
  replace B_x := Lib.hid (BoxR.below B_x.out hb0 B_x.out.lt)
  replace B_r := Lib.hid (BoxR.below B_r.out hb0 B_r.out.lt)
  replace B_z := Lib.hid (BoxR.below B_z.out hb0 B_z.out.lt)
  replace V_zn := Lib.hid (Rd.below V_zn.out hb0)
  replace V_zd := Lib.hid (Rd.below V_zd.out hb0)
  replace V_g := Lib.hid (Rc.below V_g.out hb0)
  replace HB := Lib.hid (nextw HB.out hb0)
  clear hb0
  have c0z := B_z.out.c0
  have c1z := B_z.out.c1
  have c2z := B_z.out.c2
  have c3z := B_z.out.c3
  have f0z := B_z.out.f0
  have f1z := B_z.out.f1
  have f2z := B_z.out.f2
  have f3z := B_z.out.f3
  have c0g := B_g.out.c0
  have c1g := B_g.out.c1
  have f0g := B_g.out.f0
  have f1g := B_g.out.f1
  have c0r := B_r.out.c0
  have c1r := B_r.out.c1
  have c2r := B_r.out.c2
  have c3r := B_r.out.c3
  have f0r := B_r.out.f0
  have f1r := B_r.out.f1
  have f2r := B_r.out.f2
  have f3r := B_r.out.f3
  go_wp2_with fail
  clear c0z c1z c2z c3z f0z f1z f2z f3z c0g c1g f0g f1g c0r c1r c2r c3r f0r f1r f2r f3r
  generalize w2.alloc (.cells #[.bool sg, (.slice Ag kg cg)] 24) = W2 at *
  refine (isNeg_yes (Fd.mk (Rd.below V_zn.out (by exact ⟨rfl, rfl, rfl, Nat.le_refl _, fun _ _ => rfl⟩)) (Rd.below V_zd.out (by exact ⟨rfl, rfl, rfl, Nat.le_refl _, fun _ _ => rfl⟩))) HG.out).mono ?_
  rintro e w3 ⟨rfl, bb⟩
  replace bb := nextw (w0 := W2) (by exact ⟨rfl, rfl, rfl, Nat.le_refl _, fun _ _ => rfl⟩) bb
  replace B_x := Lib.hid (BoxR.below B_x.out bb B_x.out.lt)
  replace B_r := Lib.hid (BoxR.below B_r.out bb B_r.out.lt)
  replace B_z := Lib.hid (BoxR.below B_z.out bb B_z.out.lt)
  replace B_g := Lib.hid (Box.below B_g.out bb B_g.out.lt)
  replace V_zn := Lib.hid (Rd.below V_zn.out bb)
  replace V_zd := Lib.hid (Rd.below V_zd.out bb)
  replace V_g := Lib.hid (Rc.below V_g.out bb)
  replace HB := Lib.hid (nextw HB.out bb)
  clear bb
  have ed : (-((Nat.gcd p.natAbs (nzQ p q).natAbs : Nat) : Int)) = dvR p (nzQ p q) := by unfold dvR; first | (rw [if_pos HG.out]; rfl) | (rw [if_neg HG.out]; rfl)
  have hd : (-((Nat.gcd p.natAbs (nzQ p q).natAbs : Nat) : Int)) ≠ 0 := by rw [ed]; exact dv_ne (nz_ne p q)
  have HD := Lib.hid hd
  clear hd
  have HE := Lib.hid ed
  clear ed
  have c0g := B_g.out.c0
  have c1g := B_g.out.c1
  have f0g := B_g.out.f0
  have f1g := B_g.out.f1
  go_wp2_with fail
  refine (Neg_rd (Rc.rd (Rc.below V_g.out (by exact ⟨rfl, rfl, rfl, Nat.le_refl _, fun _ _ => rfl⟩))) (by omega)).mono ?_
  rintro e w4 ⟨vd, rfl, rd, bb⟩
  replace bb := nextw (w0 := w3) (by exact ⟨rfl, rfl, rfl, Nat.le_refl _, fun _ _ => rfl⟩) bb
  clear c0g c1g f0g f1g
  replace B_x := Lib.hid (BoxR.below B_x.out bb B_x.out.lt)
  replace B_r := Lib.hid (BoxR.below B_r.out bb B_r.out.lt)
  replace B_z := Lib.hid (BoxR.below B_z.out bb B_z.out.lt)
  replace B_g := Lib.hid (Box.below B_g.out bb B_g.out.lt)
  replace V_zn := Lib.hid (Rd.below V_zn.out bb)
  replace V_zd := Lib.hid (Rd.below V_zd.out bb)
  replace V_g := Lib.hid (Rc.below V_g.out bb)
  replace HB := Lib.hid (nextw HB.out bb)
  clear bb
  obtain ⟨sd, Ad, kd, cd, rfl⟩ := rd.shape
  have V_d := Lib.hid rd
  clear rd V_g
  have c0g := B_g.out.c0
  have c1g := B_g.out.c1
  have f0g := B_g.out.f0
  have f1g := B_g.out.f1
  have bS := Box.store B_g.out sd (.slice Ad kd cd)
  have s0 := bS.c0
  have s1 := bS.c1
  clear bS
  go_wp2_with fail
  clear s0 s1
  have z1x := Z1x.out
  have z2r := Z2r.out
  have z3x := Z3x.out
  have z4r := Z4r.out
  have z5z := Z5z.out
  clear c0g c1g f0g f1g
  replace V_zn := Lib.hid (Box.keepsRd B_g.out V_zn.out sd (.slice Ad kd cd))
  replace V_zd := Lib.hid (Box.keepsRd B_g.out V_zd.out sd (.slice Ad kd cd))
  replace V_d := Lib.hid (Box.keepsRc B_g.out V_d.out sd (.slice Ad kd cd))
  replace B_x := Lib.hid (BoxR.far (y := w2.heap.size) B_x.out (by omega) (.bool sd) (.slice Ad kd cd))
  replace B_r := Lib.hid (BoxR.far (y := w2.heap.size) B_r.out (by omega) (.bool sd) (.slice Ad kd cd))
  replace B_z := Lib.hid (BoxR.far (y := w2.heap.size) B_z.out (by omega) (.bool sd) (.slice Ad kd cd))
  replace HB := Lib.hid (Below.store HB.out (x := w2.heap.size) (by omega) (.bool sd) (.slice Ad kd cd))
  replace B_g := Lib.hid (Box.store B_g.out sd (.slice Ad kd cd))
  generalize ((w4.setCell ⟨w2.heap.size, 0, none⟩ (.bool sd)).setCell ⟨w2.heap.size, 1, none⟩ (.slice Ad kd cd)) = W3 at *
  clear z1x z2r z3x z4r z5z
  have c0z := B_z.out.c0
  have c1z := B_z.out.c1
  have c2z := B_z.out.c2
  have c3z := B_z.out.c3
  have f0z := B_z.out.f0
  have f1z := B_z.out.f1
  have f2z := B_z.out.f2
  have f3z := B_z.out.f3
  have c0g := B_g.out.c0
  have c1g := B_g.out.c1
  have f0g := B_g.out.f0
  have f1g := B_g.out.f1
  have c0r := B_r.out.c0
  have c1r := B_r.out.c1
  have c2r := B_r.out.c2
  have c3r := B_r.out.c3
  have f0r := B_r.out.f0
  have f1r := B_r.out.f1
  have f2r := B_r.out.f2
  have f3r := B_r.out.f3
  go_wp2
  have c0z := B_z.out.c0
  have c1z := B_z.out.c1
  have c2z := B_z.out.c2
  have c3z := B_z.out.c3
  have c0g := B_g.out.c0
  have c1g := B_g.out.c1
  have z1x := Z1x.out
  have z2r := Z2r.out
  have z3x := Z3x.out
  have z4r := Z4r.out
  have z5z := Z5z.out
  have tk1x0 : True := trivial
  first | (go_region_held3 (fun w' => w'.cell? ⟨w1.heap.size, 0, none⟩ = some (.bool sz) ∧ w'.cell? ⟨w1.heap.size, 1, none⟩ = some (.slice Az kz cz) ∧ w'.cell? ⟨w1.heap.size, 2, none⟩ = some (.bool tz) ∧ w'.cell? ⟨w1.heap.size, 3, none⟩ = some (.slice Cz lz dz) ∧ w'.cell? ⟨w2.heap.size, 0, none⟩ = some (.bool sd) ∧ w'.cell? ⟨w2.heap.size, 1, none⟩ = some (.slice Ad kd cd)) (((try dsimp only); (repeat' apply And.intro) <;> (first | (with_reducible assumption) | ((repeat (first | (with_reducible refine Eq.trans (cell_drew1 _ _) ?_) | (with_reducible refine Eq.trans (cell_set4 (by omega) _ _ _ _) ?_))); with_reducible assumption) | assumption | go_keep)))
    (first
      | (clear tk1x0; go_at_call 62; refine (rquotient_rd (Rd.below V_zn.out (by exact ⟨rfl, rfl, rfl, Nat.le_refl _, fun _ _ => rfl⟩)) (Rc.rd (Rc.below V_d.out (by exact ⟨rfl, rfl, rfl, Nat.le_refl _, fun _ _ => rfl⟩))) (by omega) (by omega) HD.out).mono ?_; rintro e w5 ⟨vu, rfl, ru, bb⟩; replace bb := nextw (w0 := W3) (by exact ⟨rfl, rfl, rfl, Nat.le_refl _, fun _ _ => rfl⟩) bb; replace B_x := Lib.hid (BoxR.below B_x.out bb B_x.out.lt); replace B_r := Lib.hid (BoxR.below B_r.out bb B_r.out.lt); replace B_z := Lib.hid (BoxR.below B_z.out bb B_z.out.lt); replace B_g := Lib.hid (Box.below B_g.out bb B_g.out.lt); replace V_zn := Lib.hid (Rd.below V_zn.out bb); replace V_zd := Lib.hid (Rd.below V_zd.out bb); replace V_d := Lib.hid (Rc.below V_d.out bb); replace HB := Lib.hid (nextw HB.out bb); clear bb; replace ru := Lib.hid ru; have V_u := ru; clear ru; obtain ⟨su, Au, ku, cu, rfl⟩ := V_u.out.shape; clear c0z c1z c2z c3z c0g c1g; have c0z := B_z.out.c0; have c1z := B_z.out.c1; have c2z := B_z.out.c2; have c3z := B_z.out.c3; have c0g := B_g.out.c0; have c1g := B_g.out.c1; have tk1x1 : True := trivial)
      | (clear tk1x1; go_at_call 62; refine (rquotient_rd (Rd.below V_zd.out (by exact ⟨rfl, rfl, rfl, Nat.le_refl _, fun _ _ => rfl⟩)) (Rc.rd (Rc.below V_d.out (by exact ⟨rfl, rfl, rfl, Nat.le_refl _, fun _ _ => rfl⟩))) (by omega) (by omega) HD.out).mono ?_; rintro e w6 ⟨vt, rfl, rt, bb⟩; replace bb := nextw (w0 := w5) (by exact ⟨rfl, rfl, rfl, Nat.le_refl _, fun _ _ => rfl⟩) bb; replace B_x := Lib.hid (BoxR.below B_x.out bb B_x.out.lt); replace B_r := Lib.hid (BoxR.below B_r.out bb B_r.out.lt); replace B_z := Lib.hid (BoxR.below B_z.out bb B_z.out.lt); replace B_g := Lib.hid (Box.below B_g.out bb B_g.out.lt); replace V_zn := Lib.hid (Rd.below V_zn.out bb); replace V_zd := Lib.hid (Rd.below V_zd.out bb); replace V_d := Lib.hid (Rc.below V_d.out bb); replace V_u := Lib.hid (Rc.below V_u.out bb); replace HB := Lib.hid (nextw HB.out bb); clear bb; replace rt := Lib.hid rt; have V_t := rt; clear rt; obtain ⟨st, At, kt, ct, rfl⟩ := V_t.out.shape; have c0r := B_r.out.c0; have c1r := B_r.out.c1; have c2r := B_r.out.c2; have c3r := B_r.out.c3; have f0r := B_r.out.f0; have f1r := B_r.out.f1; have f2r := B_r.out.f2; have f3r := B_r.out.f3; clear c0z c1z c2z c3z c0g c1g; have c0z := B_z.out.c0; have c1z := B_z.out.c1; have c2z := B_z.out.c2; have c3z := B_z.out.c3; have c0g := B_g.out.c0; have c1g := B_g.out.c1; have tk1x2 : True := trivial))) | fail
  all_goals (clear z1x z2r z3x z4r z5z)
  all_goals
    skip
    have K_u := V_u
    have K_t := V_t
    replace K_u := Lib.hid (BoxR.keepsRc B_r.out K_u.out (.bool su) (.slice Au ku cu) (.bool st) (.slice At kt ct))
    replace K_t := Lib.hid (BoxR.keepsRc B_r.out K_t.out (.bool su) (.slice Au ku cu) (.bool st) (.slice At kt ct))
    have HB1 := Lib.hid (Below.store4 HB.out (y := w.heap.size + 1) (by omega) (.bool su) (.slice Au ku cu) (.bool st) (.slice At kt ct))
    have N0r := Lib.hid (BoxR.store B_r.out su (.slice Au ku cu) st (.slice At kt ct))
    have s0r := N0r.out.c0
    have s1r := N0r.out.c1
    have s2r := N0r.out.c2
    have s3r := N0r.out.c3
    simp only [st4] at s0r s1r s2r s3r
    have HBF := HB1
    have c0r := B_r.out.c0
    have c1r := B_r.out.c1
    have c2r := B_r.out.c2
    have c3r := B_r.out.c3
    have f0r := B_r.out.f0
    have f1r := B_r.out.f1
    have f2r := B_r.out.f2
    have f3r := B_r.out.f3
    go_wp2_with fail
    exact bodyPost_ret (v := .agg #[.bool su, (.slice Au ku cu), .bool st, (.slice At kt ct)]) (by simp [results, Tryz.results40, go_sem, s0r, s1r, s2r, s3r]) rfl ⟨_, rfl, Gc.mk ((Rc.below K_u.out (by exact ⟨rfl, rfl, rfl, Nat.le_refl _, fun _ _ => rfl⟩)).of_eq (by unfold cnP; rw [← HE.out])) ((Rc.below K_t.out (by exact ⟨rfl, rfl, rfl, Nat.le_refl _, fun _ _ => rfl⟩)).of_eq (by unfold cnQ; rw [← HE.out])), (nextw HBF.out (by exact ⟨rfl, rfl, rfl, Nat.le_refl _, fun _ _ => rfl⟩))⟩

set_option maxRecDepth 100000 in
set_option maxHeartbeats 8000000 in
theorem Norm_pos {v : Value} {p q : Int} {k : Nat} {w : World} (h : Fd w v p q k) (f : k ≤ 20000) (g : ¬ (nzQ p q < 0 ∨ nzQ p q = 0 ∧ p < 0)) :
    Calls Tryz.prog 40 #[v] w fun e w' => ∃ v', e = .returned v' ∧ Gc w' v' (cnP p q) (cnQ p q) (k + 2) ∧ Below w.heap.size w w' := by
  have HG := Lib.hid g
  clear g
  obtain ⟨sx, Ax, kx, cx, tx, Cx, lx, dx, rfl, hnx, hdx⟩ := h.shape
  have V_xn := Lib.hid hnx
  have V_xd := Lib.hid hdx
  clear h hnx hdx
  have hb0 : Below w.heap.size w ((w.alloc (.cells #[.bool sx, (.slice Ax kx cx), .bool tx, (.slice Cx lx dx)] 26)).alloc (.cells #[.bool false, (.slice none 0 0), .bool false, (.slice none 0 0)] 26)) := (Below.alloc (Below.alloc (Below.refl w.heap.size w) (by simp <;> omega) _) (by simp <;> omega) _)
  have B_x : BoxR ((w.alloc (.cells #[.bool sx, (.slice Ax kx cx), .bool tx, (.slice Cx lx dx)] 26)).alloc (.cells #[.bool false, (.slice none 0 0), .bool false, (.slice none 0 0)] 26)) (w.heap.size) sx (.slice Ax kx cx) tx (.slice Cx lx dx) := by have h := BoxR.alloc (BoxR.new w sx (.slice Ax kx cx) tx (.slice Cx lx dx)) (.cells #[.bool false, (.slice none 0 0), .bool false, (.slice none 0 0)] 26); simpa using h
  replace B_x := Lib.hid B_x
  have B_r : BoxR ((w.alloc (.cells #[.bool sx, (.slice Ax kx cx), .bool tx, (.slice Cx lx dx)] 26)).alloc (.cells #[.bool false, (.slice none 0 0), .bool false, (.slice none 0 0)] 26)) (w.heap.size + 1) false (.slice none 0 0) false (.slice none 0 0) := by have h := BoxR.new (w.alloc (.cells #[.bool sx, (.slice Ax kx cx), .bool tx, (.slice Cx lx dx)] 26)) false (.slice none 0 0) false (.slice none 0 0); simpa using h
  replace B_r := Lib.hid B_r
  replace V_xn := Lib.hid (Rd.below V_xn.out hb0)
  replace V_xd := Lib.hid (Rd.below V_xd.out hb0)
  have HB := Lib.hid hb0
  clear hb0
  have c0x := B_x.out.c0
  have c1x := B_x.out.c1
  have c2x := B_x.out.c2
  have c3x := B_x.out.c3
  have c0r := B_r.out.c0
  have c1r := B_r.out.c1
  have c2r := B_r.out.c2
  have c3r := B_r.out.c3
  go_enter Tryz.func40, Tryz.ntmps40
  go_wp2_with fail
  clear c0x c1x c2x c3x c0r c1r c2r c3r
  generalize (w.alloc (.cells #[.bool sx, (.slice Ax kx cx), .bool tx, (.slice Cx lx dx)] 26)).alloc (.cells #[.bool false, (.slice none 0 0), .bool false, (.slice none 0 0)] 26) = W0 at *
  refine (nonzero_f (Fd.mk (Rd.below V_xn.out (by exact ⟨rfl, rfl, rfl, Nat.le_refl _, fun _ _ => rfl⟩)) (Rd.below V_xd.out (by exact ⟨rfl, rfl, rfl, Nat.le_refl _, fun _ _ => rfl⟩))) (by omega)).mono ?_
  rintro e w1 ⟨vz, rfl, rz, bb⟩
  replace bb := nextw (w0 := W0) (by exact ⟨rfl, rfl, rfl, Nat.le_refl _, fun _ _ => rfl⟩) bb
  replace B_x := Lib.hid (BoxR.below B_x.out bb B_x.out.lt)
  replace B_r := Lib.hid (BoxR.below B_r.out bb B_r.out.lt)
  replace V_xn := Lib.hid (Rd.below V_xn.out bb)
  replace V_xd := Lib.hid (Rd.below V_xd.out bb)
  replace HB := Lib.hid (nextw HB.out bb)
  clear bb
  clear V_xn V_xd
  obtain ⟨sz, Az, kz, cz, tz, Cz, lz, dz, rfl, hnz, hdz⟩ := rz.shape
  have V_zn := Lib.hid hnz
  have V_zd := Lib.hid hdz
  clear rz hnz hdz
  have Z1x := Lib.hid B_x.out.lt
  have Z2r := Lib.hid B_r.out.lt
  have hb0 : Below w1.heap.size w1 (w1.alloc (.cells #[.bool sz, (.slice Az kz cz), .bool tz, (.slice Cz lz dz)] 26)) := (Below.alloc (Below.refl w1.heap.size w1) (by simp <;> omega) _)
  have B_z : BoxR (w1.alloc (.cells #[.bool sz, (.slice Az kz cz), .bool tz, (.slice Cz lz dz)] 26)) (w1.heap.size) sz (.slice Az kz cz) tz (.slice Cz lz dz) := by have h := BoxR.new w1 sz (.slice Az kz cz) tz (.slice Cz lz dz); simpa using h
  replace B_z := Lib.hid B_z
  replace B_x := Lib.hid (BoxR.below B_x.out hb0 B_x.out.lt)
  replace B_r := Lib.hid (BoxR.below B_r.out hb0 B_r.out.lt)
  replace V_zn := Lib.hid (Rd.below V_zn.out hb0)
  replace V_zd := Lib.hid (Rd.below V_zd.out hb0)
  replace HB := Lib.hid (nextw HB.out hb0)
  clear hb0
  have c0z := B_z.out.c0
  have c1z := B_z.out.c1
  have c2z := B_z.out.c2
  have c3z := B_z.out.c3
  have c0r := B_r.out.c0
  have c1r := B_r.out.c1
  have c2r := B_r.out.c2
  have c3r := B_r.out.c3
  go_wp2_with fail
  clear c0z c1z c2z c3z c0r c1r c2r c3r
  generalize w1.alloc (.cells #[.bool sz, (.slice Az kz cz), .bool tz, (.slice Cz lz dz)] 26) = W1 at *
  refine (Gcd_rd (Rd.below V_zn.out (by exact ⟨rfl, rfl, rfl, Nat.le_refl _, fun _ _ => rfl⟩)) (Rd.below V_zd.out (by exact ⟨rfl, rfl, rfl, Nat.le_refl _, fun _ _ => rfl⟩)) (by omega) (by omega)).mono ?_
  rintro e w2 ⟨vg, rfl, rg, bb⟩
  replace bb := nextw (w0 := W1) (by exact ⟨rfl, rfl, rfl, Nat.le_refl _, fun _ _ => rfl⟩) bb
  replace B_x := Lib.hid (BoxR.below B_x.out bb B_x.out.lt)
  replace B_r := Lib.hid (BoxR.below B_r.out bb B_r.out.lt)
  replace B_z := Lib.hid (BoxR.below B_z.out bb B_z.out.lt)
  replace V_zn := Lib.hid (Rd.below V_zn.out bb)
  replace V_zd := Lib.hid (Rd.below V_zd.out bb)
  replace HB := Lib.hid (nextw HB.out bb)
  clear bb
  obtain ⟨sg, Ag, kg, cg, rfl⟩ := rg.shape
  have V_g := Lib.hid rg
  clear rg
  have Z3x := Lib.hid B_x.out.lt
  have Z4r := Lib.hid B_r.out.lt
  have Z5z := Lib.hid B_z.out.lt
  have hb0 : Below w2.heap.size w2 (w2.alloc (.cells #[.bool sg, (.slice Ag kg cg)] 24)) := (Below.alloc (Below.refl w2.heap.size w2) (by simp <;> omega) _)
  have B_g : Box (w2.alloc (.cells #[.bool sg, (.slice Ag kg cg)] 24)) (w2.heap.size) sg (.slice Ag kg cg) := by have h := Box.new w2 sg (.slice Ag kg cg); simpa using h
  replace B_g := Lib.hid B_g
  replace B_x := Lib.hid (BoxR.below B_x.out hb0 B_x.out.lt)
  replace B_r := Lib.hid (BoxR.below B_r.out hb0 B_r.out.lt)
  replace B_z := Lib.hid (BoxR.below B_z.out hb0 B_z.out.lt)
  replace V_zn := Lib.hid (Rd.below V_zn.out hb0)
  replace V_zd := Lib.hid (Rd.below V_zd.out hb0)
  replace V_g := Lib.hid (Rc.below V_g.out hb0)
  replace HB := Lib.hid (nextw HB.out hb0)
  clear hb0
  have c0z := B_z.out.c0
  have c1z := B_z.out.c1
  have c2z := B_z.out.c2
  have c3z := B_z.out.c3
  have f0z := B_z.out.f0
  have f1z := B_z.out.f1
  have f2z := B_z.out.f2
  have f3z := B_z.out.f3
  have c0g := B_g.out.c0
  have c1g := B_g.out.c1
  have f0g := B_g.out.f0
  have f1g := B_g.out.f1
  have c0r := B_r.out.c0
  have c1r := B_r.out.c1
  have c2r := B_r.out.c2
  have c3r := B_r.out.c3
  have f0r := B_r.out.f0
  have f1r := B_r.out.f1
  have f2r := B_r.out.f2
  have f3r := B_r.out.f3
  go_wp2_with fail
  clear c0z c1z c2z c3z f0z f1z f2z f3z c0g c1g f0g f1g c0r c1r c2r c3r f0r f1r f2r f3r
  generalize w2.alloc (.cells #[.bool sg, (.slice Ag kg cg)] 24) = W2 at *
  refine (isNeg_no (Fd.mk (Rd.below V_zn.out (by exact ⟨rfl, rfl, rfl, Nat.le_refl _, fun _ _ => rfl⟩)) (Rd.below V_zd.out (by exact ⟨rfl, rfl, rfl, Nat.le_refl _, fun _ _ => rfl⟩))) HG.out).mono ?_
  rintro e w3 ⟨rfl, bb⟩
  replace bb := nextw (w0 := W2) (by exact ⟨rfl, rfl, rfl, Nat.le_refl _, fun _ _ => rfl⟩) bb
  replace B_x := Lib.hid (BoxR.below B_x.out bb B_x.out.lt)
  replace B_r := Lib.hid (BoxR.below B_r.out bb B_r.out.lt)
  replace B_z := Lib.hid (BoxR.below B_z.out bb B_z.out.lt)
  replace B_g := Lib.hid (Box.below B_g.out bb B_g.out.lt)
  replace V_zn := Lib.hid (Rd.below V_zn.out bb)
  replace V_zd := Lib.hid (Rd.below V_zd.out bb)
  replace V_g := Lib.hid (Rc.below V_g.out bb)
  replace HB := Lib.hid (nextw HB.out bb)
  clear bb
  have ed : ((Nat.gcd p.natAbs (nzQ p q).natAbs : Nat) : Int) = dvR p (nzQ p q) := by unfold dvR; first | (rw [if_pos HG.out]; rfl) | (rw [if_neg HG.out]; rfl)
  have hd : ((Nat.gcd p.natAbs (nzQ p q).natAbs : Nat) : Int) ≠ 0 := by rw [ed]; exact dv_ne (nz_ne p q)
  have HD := Lib.hid hd
  clear hd
  have HE := Lib.hid ed
  clear ed
  have c0z := B_z.out.c0
  have c1z := B_z.out.c1
  have c2z := B_z.out.c2
  have c3z := B_z.out.c3
  have f0z := B_z.out.f0
  have f1z := B_z.out.f1
  have f2z := B_z.out.f2
  have f3z := B_z.out.f3
  have c0g := B_g.out.c0
  have c1g := B_g.out.c1
  have f0g := B_g.out.f0
  have f1g := B_g.out.f1
  have c0r := B_r.out.c0
  have c1r := B_r.out.c1
  have c2r := B_r.out.c2
  have c3r := B_r.out.c3
  have f0r := B_r.out.f0
  have f1r := B_r.out.f1
  have f2r := B_r.out.f2
  have f3r := B_r.out.f3
  go_wp2
  have c0z := B_z.out.c0
  have c1z := B_z.out.c1
  have c2z := B_z.out.c2
  have c3z := B_z.out.c3
  have c0g := B_g.out.c0
  have c1g := B_g.out.c1
  have z1x := Z1x.out
  have z2r := Z2r.out
  have z3x := Z3x.out
  have z4r := Z4r.out
  have z5z := Z5z.out
  have tk1x0 : True := trivial
  first | (go_region_held3 (fun w' => w'.cell? ⟨w1.heap.size, 0, none⟩ = some (.bool sz) ∧ w'.cell? ⟨w1.heap.size, 1, none⟩ = some (.slice Az kz cz) ∧ w'.cell? ⟨w1.heap.size, 2, none⟩ = some (.bool tz) ∧ w'.cell? ⟨w1.heap.size, 3, none⟩ = some (.slice Cz lz dz) ∧ w'.cell? ⟨w2.heap.size, 0, none⟩ = some (.bool sg) ∧ w'.cell? ⟨w2.heap.size, 1, none⟩ = some (.slice Ag kg cg)) (((try dsimp only); (repeat' apply And.intro) <;> (first | (with_reducible assumption) | ((repeat (first | (with_reducible refine Eq.trans (cell_drew1 _ _) ?_) | (with_reducible refine Eq.trans (cell_set4 (by omega) _ _ _ _) ?_))); with_reducible assumption) | assumption | go_keep)))
    (first
      | (clear tk1x0; go_at_call 62; refine (rquotient_rd (Rd.below V_zn.out (by exact ⟨rfl, rfl, rfl, Nat.le_refl _, fun _ _ => rfl⟩)) (Rc.rd (Rc.below V_g.out (by exact ⟨rfl, rfl, rfl, Nat.le_refl _, fun _ _ => rfl⟩))) (by omega) (by omega) HD.out).mono ?_; rintro e w4 ⟨vu, rfl, ru, bb⟩; replace bb := nextw (w0 := w3) (by exact ⟨rfl, rfl, rfl, Nat.le_refl _, fun _ _ => rfl⟩) bb; replace B_x := Lib.hid (BoxR.below B_x.out bb B_x.out.lt); replace B_r := Lib.hid (BoxR.below B_r.out bb B_r.out.lt); replace B_z := Lib.hid (BoxR.below B_z.out bb B_z.out.lt); replace B_g := Lib.hid (Box.below B_g.out bb B_g.out.lt); replace V_zn := Lib.hid (Rd.below V_zn.out bb); replace V_zd := Lib.hid (Rd.below V_zd.out bb); replace V_g := Lib.hid (Rc.below V_g.out bb); replace HB := Lib.hid (nextw HB.out bb); clear bb; replace ru := Lib.hid ru; have V_u := ru; clear ru; obtain ⟨su, Au, ku, cu, rfl⟩ := V_u.out.shape; clear c0z c1z c2z c3z c0g c1g; have c0z := B_z.out.c0; have c1z := B_z.out.c1; have c2z := B_z.out.c2; have c3z := B_z.out.c3; have c0g := B_g.out.c0; have c1g := B_g.out.c1; have tk1x1 : True := trivial)
      | (clear tk1x1; go_at_call 62; refine (rquotient_rd (Rd.below V_zd.out (by exact ⟨rfl, rfl, rfl, Nat.le_refl _, fun _ _ => rfl⟩)) (Rc.rd (Rc.below V_g.out (by exact ⟨rfl, rfl, rfl, Nat.le_refl _, fun _ _ => rfl⟩))) (by omega) (by omega) HD.out).mono ?_; rintro e w5 ⟨vt, rfl, rt, bb⟩; replace bb := nextw (w0 := w4) (by exact ⟨rfl, rfl, rfl, Nat.le_refl _, fun _ _ => rfl⟩) bb; replace B_x := Lib.hid (BoxR.below B_x.out bb B_x.out.lt); replace B_r := Lib.hid (BoxR.below B_r.out bb B_r.out.lt); replace B_z := Lib.hid (BoxR.below B_z.out bb B_z.out.lt); replace B_g := Lib.hid (Box.below B_g.out bb B_g.out.lt); replace V_zn := Lib.hid (Rd.below V_zn.out bb); replace V_zd := Lib.hid (Rd.below V_zd.out bb); replace V_g := Lib.hid (Rc.below V_g.out bb); replace V_u := Lib.hid (Rc.below V_u.out bb); replace HB := Lib.hid (nextw HB.out bb); clear bb; replace rt := Lib.hid rt; have V_t := rt; clear rt; obtain ⟨st, At, kt, ct, rfl⟩ := V_t.out.shape; have c0r := B_r.out.c0; have c1r := B_r.out.c1; have c2r := B_r.out.c2; have c3r := B_r.out.c3; have f0r := B_r.out.f0; have f1r := B_r.out.f1; have f2r := B_r.out.f2; have f3r := B_r.out.f3; clear c0z c1z c2z c3z c0g c1g; have c0z := B_z.out.c0; have c1z := B_z.out.c1; have c2z := B_z.out.c2; have c3z := B_z.out.c3; have c0g := B_g.out.c0; have c1g := B_g.out.c1; have tk1x2 : True := trivial))) | fail
  all_goals (clear z1x z2r z3x z4r z5z)
  all_goals
    skip
    have K_u := V_u
    have K_t := V_t
    replace K_u := Lib.hid (BoxR.keepsRc B_r.out K_u.out (.bool su) (.slice Au ku cu) (.bool st) (.slice At kt ct))
    replace K_t := Lib.hid (BoxR.keepsRc B_r.out K_t.out (.bool su) (.slice Au ku cu) (.bool st) (.slice At kt ct))
    have HB1 := Lib.hid (Below.store4 HB.out (y := w.heap.size + 1) (by omega) (.bool su) (.slice Au ku cu) (.bool st) (.slice At kt ct))
    have N0r := Lib.hid (BoxR.store B_r.out su (.slice Au ku cu) st (.slice At kt ct))
    have s0r := N0r.out.c0
    have s1r := N0r.out.c1
    have s2r := N0r.out.c2
    have s3r := N0r.out.c3
    simp only [st4] at s0r s1r s2r s3r
    have HBF := HB1
    have c0r := B_r.out.c0
    have c1r := B_r.out.c1
    have c2r := B_r.out.c2
    have c3r := B_r.out.c3
    have f0r := B_r.out.f0
    have f1r := B_r.out.f1
    have f2r := B_r.out.f2
    have f3r := B_r.out.f3
    go_wp2_with fail
    exact bodyPost_ret (v := .agg #[.bool su, (.slice Au ku cu), .bool st, (.slice At kt ct)]) (by simp [results, Tryz.results40, go_sem, s0r, s1r, s2r, s3r]) rfl ⟨_, rfl, Gc.mk ((Rc.below K_u.out (by exact ⟨rfl, rfl, rfl, Nat.le_refl _, fun _ _ => rfl⟩)).of_eq (by unfold cnP; rw [← HE.out])) ((Rc.below K_t.out (by exact ⟨rfl, rfl, rfl, Nat.le_refl _, fun _ _ => rfl⟩)).of_eq (by unfold cnQ; rw [← HE.out])), (nextw HBF.out (by exact ⟨rfl, rfl, rfl, Nat.le_refl _, fun _ _ => rfl⟩))⟩

theorem Norm_r {v : Value} {p q : Int} {k : Nat} {w : World} (h : Fd w v p q k) (f : k ≤ 20000) : Calls Tryz.prog 40 #[v] w fun e w' => ∃ v', e = .returned v' ∧ Gc w' v' (cnP p q) (cnQ p q) (k + 2) ∧ Below w.heap.size w w' := by
  by_cases g : nzQ p q < 0 ∨ nzQ p q = 0 ∧ p < 0
  · exact Norm_neg h f g
  · exact Norm_pos h f g

set_option maxRecDepth 100000 in
set_option maxHeartbeats 4000000 in
theorem Of_r (n d : Int) {w : World} (h1 : -9223372036854775808 ≤ n) (h2 : n ≤ 9223372036854775807) (g1 : -9223372036854775808 ≤ d) (g2 : d ≤ 9223372036854775807) :
    Calls Tryz.prog 12 #[.int .i64 n, .int .i64 d] w fun e w' => ∃ v', e = .returned v' ∧ Gc w' v' (cnP n d) (cnQ n d) 4 ∧ Below w.heap.size w w' := by
  have hb0 : Below w.heap.size w (w.alloc (.cells #[.bool false, (.slice none 0 0), .bool false, (.slice none 0 0)] 26)) := (Below.alloc (Below.refl w.heap.size w) (by simp <;> omega) _)
  have B_r : BoxR (w.alloc (.cells #[.bool false, (.slice none 0 0), .bool false, (.slice none 0 0)] 26)) (w.heap.size) false (.slice none 0 0) false (.slice none 0 0) := by have h := BoxR.new w false (.slice none 0 0) false (.slice none 0 0); simpa using h
  replace B_r := Lib.hid B_r
  have HB := Lib.hid hb0
  clear hb0
  have c0r := B_r.out.c0
  have c1r := B_r.out.c1
  have c2r := B_r.out.c2
  have c3r := B_r.out.c3
  go_enter Tryz.func12, Tryz.ntmps12
  go_wp2_with fail
  clear c0r c1r c2r c3r
  generalize w.alloc (.cells #[.bool false, (.slice none 0 0), .bool false, (.slice none 0 0)] 26) = W0 at *
  refine (Of_rc n h1 h2).mono ?_
  rintro e w1 ⟨va, rfl, ra, bb⟩
  replace bb := nextw (w0 := W0) (by exact ⟨rfl, rfl, rfl, Nat.le_refl _, fun _ _ => rfl⟩) bb
  replace B_r := Lib.hid (BoxR.below B_r.out bb B_r.out.lt)
  replace HB := Lib.hid (nextw HB.out bb)
  clear bb
  have V_a := Lib.hid ra
  clear ra
  go_wp2_with fail
  refine (Of_rc d g1 g2).mono ?_
  rintro e w2 ⟨vb, rfl, rb, bb⟩
  replace bb := nextw (w0 := w1) (by exact ⟨rfl, rfl, rfl, Nat.le_refl _, fun _ _ => rfl⟩) bb
  replace B_r := Lib.hid (BoxR.below B_r.out bb B_r.out.lt)
  replace V_a := Lib.hid (Rc.below V_a.out bb)
  replace HB := Lib.hid (nextw HB.out bb)
  clear bb
  have V_b := Lib.hid rb
  clear rb
  obtain ⟨sa, Aa, ka, ca, rfl⟩ := V_a.out.shape
  obtain ⟨sb, Ab, kb, cb, rfl⟩ := V_b.out.shape
  go_wp2_with fail
  refine (Norm_r (Fd.mk (Rc.rd (Rc.below V_a.out (by exact ⟨rfl, rfl, rfl, Nat.le_refl _, fun _ _ => rfl⟩))) (Rc.rd (Rc.below V_b.out (by exact ⟨rfl, rfl, rfl, Nat.le_refl _, fun _ _ => rfl⟩)))) (by omega)).mono ?_
  rintro e w3 ⟨vq, rfl, rq, bb⟩
  replace bb := nextw (w0 := w2) (by exact ⟨rfl, rfl, rfl, Nat.le_refl _, fun _ _ => rfl⟩) bb
  replace B_r := Lib.hid (BoxR.below B_r.out bb B_r.out.lt)
  replace V_a := Lib.hid (Rc.below V_a.out bb)
  replace V_b := Lib.hid (Rc.below V_b.out bb)
  replace HB := Lib.hid (nextw HB.out bb)
  clear bb
  obtain ⟨sq, Aq, kq, cq, tq, Cq, lq, dq, rfl⟩ := rq.shape
  have V_q := Lib.hid rq
  clear rq
  skip
  have K_q := V_q
  replace K_q := Lib.hid (BoxR.keepsGc B_r.out K_q.out (.bool sq) (.slice Aq kq cq) (.bool tq) (.slice Cq lq dq))
  have HB1 := Lib.hid (Below.store4 HB.out (y := w.heap.size) (by omega) (.bool sq) (.slice Aq kq cq) (.bool tq) (.slice Cq lq dq))
  have N0r := Lib.hid (BoxR.store B_r.out sq (.slice Aq kq cq) tq (.slice Cq lq dq))
  have s0r := N0r.out.c0
  have s1r := N0r.out.c1
  have s2r := N0r.out.c2
  have s3r := N0r.out.c3
  simp only [st4] at s0r s1r s2r s3r
  have HBF := HB1
  have c0r := B_r.out.c0
  have c1r := B_r.out.c1
  have c2r := B_r.out.c2
  have c3r := B_r.out.c3
  have f0r := B_r.out.f0
  have f1r := B_r.out.f1
  have f2r := B_r.out.f2
  have f3r := B_r.out.f3
  go_wp2_with fail
  exact bodyPost_ret (v := .agg #[.bool sq, (.slice Aq kq cq), .bool tq, (.slice Cq lq dq)]) (by simp [results, Tryz.results12, go_sem, s0r, s1r, s2r, s3r]) rfl ⟨_, rfl, (Gc.below K_q.out (by exact ⟨rfl, rfl, rfl, Nat.le_refl _, fun _ _ => rfl⟩)), (nextw HBF.out (by exact ⟨rfl, rfl, rfl, Nat.le_refl _, fun _ _ => rfl⟩))⟩

set_option maxRecDepth 100000 in
set_option maxHeartbeats 4000000 in
theorem Inverse_r {v : Value} {p q : Int} {k : Nat} {w : World} (h : Fd w v p q k) (f : k ≤ 20000) :
    Calls Tryz.prog 16 #[v] w fun e w' => ∃ v', e = .returned v' ∧ Gc w' v' (inP p q) (inQ p q) (k + 2) ∧ Below w.heap.size w w' := by
  obtain ⟨sx, Ax, kx, cx, tx, Cx, lx, dx, rfl, hnx, hdx⟩ := h.shape
  have V_xn := Lib.hid hnx
  have V_xd := Lib.hid hdx
  clear h hnx hdx
  have hb0 : Below w.heap.size w ((w.alloc (.cells #[.bool sx, (.slice Ax kx cx), .bool tx, (.slice Cx lx dx)] 26)).alloc (.cells #[.bool false, (.slice none 0 0), .bool false, (.slice none 0 0)] 26)) := (Below.alloc (Below.alloc (Below.refl w.heap.size w) (by simp <;> omega) _) (by simp <;> omega) _)
  have B_x : BoxR ((w.alloc (.cells #[.bool sx, (.slice Ax kx cx), .bool tx, (.slice Cx lx dx)] 26)).alloc (.cells #[.bool false, (.slice none 0 0), .bool false, (.slice none 0 0)] 26)) (w.heap.size) sx (.slice Ax kx cx) tx (.slice Cx lx dx) := by have h := BoxR.alloc (BoxR.new w sx (.slice Ax kx cx) tx (.slice Cx lx dx)) (.cells #[.bool false, (.slice none 0 0), .bool false, (.slice none 0 0)] 26); simpa using h
  replace B_x := Lib.hid B_x
  have B_r : BoxR ((w.alloc (.cells #[.bool sx, (.slice Ax kx cx), .bool tx, (.slice Cx lx dx)] 26)).alloc (.cells #[.bool false, (.slice none 0 0), .bool false, (.slice none 0 0)] 26)) (w.heap.size + 1) false (.slice none 0 0) false (.slice none 0 0) := by have h := BoxR.new (w.alloc (.cells #[.bool sx, (.slice Ax kx cx), .bool tx, (.slice Cx lx dx)] 26)) false (.slice none 0 0) false (.slice none 0 0); simpa using h
  replace B_r := Lib.hid B_r
  replace V_xn := Lib.hid (Rd.below V_xn.out hb0)
  replace V_xd := Lib.hid (Rd.below V_xd.out hb0)
  have HB := Lib.hid hb0
  clear hb0
  have c0x := B_x.out.c0
  have c1x := B_x.out.c1
  have c2x := B_x.out.c2
  have c3x := B_x.out.c3
  have f0x := B_x.out.f0
  have f1x := B_x.out.f1
  have f2x := B_x.out.f2
  have f3x := B_x.out.f3
  have c0r := B_r.out.c0
  have c1r := B_r.out.c1
  have c2r := B_r.out.c2
  have c3r := B_r.out.c3
  have f0r := B_r.out.f0
  have f1r := B_r.out.f1
  have f2r := B_r.out.f2
  have f3r := B_r.out.f3
  go_enter Tryz.func16, Tryz.ntmps16
  go_wp2
  clear c0x c1x c2x c3x f0x f1x f2x f3x c0r c1r c2r c3r f0r f1r f2r f3r
  generalize (w.alloc (.cells #[.bool sx, (.slice Ax kx cx), .bool tx, (.slice Cx lx dx)] 26)).alloc (.cells #[.bool false, (.slice none 0 0), .bool false, (.slice none 0 0)] 26) = W0 at *
  have c0x := B_x.out.c0
  have c1x := B_x.out.c1
  have c2x := B_x.out.c2
  have c3x := B_x.out.c3
  have tk1x0 : True := trivial
  first | (go_region_held3 (fun w' => w'.cell? ⟨w.heap.size, 0, none⟩ = some (.bool sx) ∧ w'.cell? ⟨w.heap.size, 1, none⟩ = some (.slice Ax kx cx) ∧ w'.cell? ⟨w.heap.size, 2, none⟩ = some (.bool tx) ∧ w'.cell? ⟨w.heap.size, 3, none⟩ = some (.slice Cx lx dx)) (((try dsimp only); (repeat' apply And.intro) <;> (first | (with_reducible assumption) | ((repeat (first | (with_reducible refine Eq.trans (cell_drew1 _ _) ?_) | (with_reducible refine Eq.trans (cell_set4 (by omega) _ _ _ _) ?_))); with_reducible assumption) | assumption | go_keep)))
    (first
      | (clear tk1x0; go_at_call 47; refine (Neg_rd (Rd.below V_xn.out (by exact ⟨rfl, rfl, rfl, Nat.le_refl _, fun _ _ => rfl⟩)) (by omega)).mono ?_; rintro e w1 ⟨vp, rfl, rp, bb⟩; replace bb := nextw (w0 := W0) (by exact ⟨rfl, rfl, rfl, Nat.le_refl _, fun _ _ => rfl⟩) bb; clear V_xn; replace B_x := Lib.hid (BoxR.below B_x.out bb B_x.out.lt); replace B_r := Lib.hid (BoxR.below B_r.out bb B_r.out.lt); replace V_xd := Lib.hid (Rd.below V_xd.out bb); replace HB := Lib.hid (nextw HB.out bb); clear bb; replace rp := Lib.hid rp; have V_p := rp; clear rp; obtain ⟨sp, Ap, kp, cp, rfl⟩ := V_p.out.shape; clear c0x c1x c2x c3x; have c0x := B_x.out.c0; have c1x := B_x.out.c1; have c2x := B_x.out.c2; have c3x := B_x.out.c3; have tk1x1 : True := trivial)
      | (clear tk1x1; go_at_call 40; refine (Norm_r (Fd.mk (Rc.rd (Rc.below V_p.out (by exact ⟨rfl, rfl, rfl, Nat.le_refl _, fun _ _ => rfl⟩))) (Rd.below V_xd.out (by exact ⟨rfl, rfl, rfl, Nat.le_refl _, fun _ _ => rfl⟩))) (by omega)).mono ?_; rintro e w2 ⟨vq, rfl, rq, bb⟩; replace bb := nextw (w0 := w1) (by exact ⟨rfl, rfl, rfl, Nat.le_refl _, fun _ _ => rfl⟩) bb; clear V_xd V_p; replace B_x := Lib.hid (BoxR.below B_x.out bb B_x.out.lt); replace B_r := Lib.hid (BoxR.below B_r.out bb B_r.out.lt); replace HB := Lib.hid (nextw HB.out bb); clear bb; replace rq := Lib.hid rq; have V_q := rq; clear rq; obtain ⟨sq, Aq, kq, cq, tq, Cq, lq, dq, rfl⟩ := V_q.out.shape; have c0r := B_r.out.c0; have c1r := B_r.out.c1; have c2r := B_r.out.c2; have c3r := B_r.out.c3; have f0r := B_r.out.f0; have f1r := B_r.out.f1; have f2r := B_r.out.f2; have f3r := B_r.out.f3; clear c0x c1x c2x c3x; have c0x := B_x.out.c0; have c1x := B_x.out.c1; have c2x := B_x.out.c2; have c3x := B_x.out.c3; have tk1x2 : True := trivial))) | fail
  all_goals
    skip
    have K_q := V_q
    replace K_q := Lib.hid (BoxR.keepsGc B_r.out K_q.out (.bool sq) (.slice Aq kq cq) (.bool tq) (.slice Cq lq dq))
    have HB1 := Lib.hid (Below.store4 HB.out (y := w.heap.size + 1) (by omega) (.bool sq) (.slice Aq kq cq) (.bool tq) (.slice Cq lq dq))
    have N0r := Lib.hid (BoxR.store B_r.out sq (.slice Aq kq cq) tq (.slice Cq lq dq))
    have s0r := N0r.out.c0
    have s1r := N0r.out.c1
    have s2r := N0r.out.c2
    have s3r := N0r.out.c3
    simp only [st4] at s0r s1r s2r s3r
    have HBF := HB1
    have c0r := B_r.out.c0
    have c1r := B_r.out.c1
    have c2r := B_r.out.c2
    have c3r := B_r.out.c3
    have f0r := B_r.out.f0
    have f1r := B_r.out.f1
    have f2r := B_r.out.f2
    have f3r := B_r.out.f3
    go_wp2_with fail
    exact bodyPost_ret (v := .agg #[.bool sq, (.slice Aq kq cq), .bool tq, (.slice Cq lq dq)]) (by simp [results, Tryz.results16, go_sem, s0r, s1r, s2r, s3r]) rfl ⟨_, rfl, (Gc.below K_q.out (by exact ⟨rfl, rfl, rfl, Nat.le_refl _, fun _ _ => rfl⟩)), (nextw HBF.out (by exact ⟨rfl, rfl, rfl, Nat.le_refl _, fun _ _ => rfl⟩))⟩
end Go.Proofs.YtccndofafljaaaaGreatDoor
