/- Package rotation: direction, Cosine, Sine. -/
import Derived.Test.YtccndofafljaaaaGreatDoorRot3

set_option linter.unusedVariables false
set_option linter.unusedSimpArgs false

namespace Go.Proofs.YtccndofafljaaaaGreatDoor
open Go Go.RowKit Num

set_option maxRecDepth 100000 in
set_option maxHeartbeats 16000000 in
theorem direction_r {v : Value} {p q : Int} {k : Nat} {w : World} (h : Fd w v p q k) (f : k ≤ 3000) :
    Calls Tryz.prog 48 #[v] w fun e w' => ∃ x y d, e = .returned (.tuple #[x, y, d]) ∧ Rd w' x (nzQ p q * nzQ p q - p * p) (4 * k + 9) ∧ Rd w' y (p * nzQ p q + nzQ p q * p) (4 * k + 9) ∧ Rd w' d (p * p + nzQ p q * nzQ p q) (4 * k + 9) ∧ Below w.heap.size w w' := by
  obtain ⟨sx, Ax, kx, cx, tx, Cx, lx, dx, rfl, hnx, hdx⟩ := h.shape
  have V_xn := Lib.hid hnx
  have V_xd := Lib.hid hdx
  clear h hnx hdx
  have hb0 : Below w.heap.size w ((((w.alloc (.cells #[.bool sx, (.slice Ax kx cx), .bool tx, (.slice Cx lx dx)] 26)).alloc (.cells #[.bool false, (.slice none 0 0)] 24)).alloc (.cells #[.bool false, (.slice none 0 0)] 24)).alloc (.cells #[.bool false, (.slice none 0 0)] 24)) := (Below.alloc (Below.alloc (Below.alloc (Below.alloc (Below.refl w.heap.size w) (by simp <;> omega) _) (by simp <;> omega) _) (by simp <;> omega) _) (by simp <;> omega) _)
  have B_x : BoxR ((((w.alloc (.cells #[.bool sx, (.slice Ax kx cx), .bool tx, (.slice Cx lx dx)] 26)).alloc (.cells #[.bool false, (.slice none 0 0)] 24)).alloc (.cells #[.bool false, (.slice none 0 0)] 24)).alloc (.cells #[.bool false, (.slice none 0 0)] 24)) (w.heap.size) sx (.slice Ax kx cx) tx (.slice Cx lx dx) := by have h := BoxR.alloc (BoxR.alloc (BoxR.alloc (BoxR.new w sx (.slice Ax kx cx) tx (.slice Cx lx dx)) (.cells #[.bool false, (.slice none 0 0)] 24)) (.cells #[.bool false, (.slice none 0 0)] 24)) (.cells #[.bool false, (.slice none 0 0)] 24); simpa using h
  replace B_x := Lib.hid B_x
  have B_X : Box ((((w.alloc (.cells #[.bool sx, (.slice Ax kx cx), .bool tx, (.slice Cx lx dx)] 26)).alloc (.cells #[.bool false, (.slice none 0 0)] 24)).alloc (.cells #[.bool false, (.slice none 0 0)] 24)).alloc (.cells #[.bool false, (.slice none 0 0)] 24)) (w.heap.size + 1) false (.slice none 0 0) := by have h := Box.alloc (Box.alloc (Box.new (w.alloc (.cells #[.bool sx, (.slice Ax kx cx), .bool tx, (.slice Cx lx dx)] 26)) false (.slice none 0 0)) (.cells #[.bool false, (.slice none 0 0)] 24)) (.cells #[.bool false, (.slice none 0 0)] 24); simpa using h
  replace B_X := Lib.hid B_X
  have B_Y : Box ((((w.alloc (.cells #[.bool sx, (.slice Ax kx cx), .bool tx, (.slice Cx lx dx)] 26)).alloc (.cells #[.bool false, (.slice none 0 0)] 24)).alloc (.cells #[.bool false, (.slice none 0 0)] 24)).alloc (.cells #[.bool false, (.slice none 0 0)] 24)) (w.heap.size + 1 + 1) false (.slice none 0 0) := by have h := Box.alloc (Box.new ((w.alloc (.cells #[.bool sx, (.slice Ax kx cx), .bool tx, (.slice Cx lx dx)] 26)).alloc (.cells #[.bool false, (.slice none 0 0)] 24)) false (.slice none 0 0)) (.cells #[.bool false, (.slice none 0 0)] 24); simpa using h
  replace B_Y := Lib.hid B_Y
  have B_D : Box ((((w.alloc (.cells #[.bool sx, (.slice Ax kx cx), .bool tx, (.slice Cx lx dx)] 26)).alloc (.cells #[.bool false, (.slice none 0 0)] 24)).alloc (.cells #[.bool false, (.slice none 0 0)] 24)).alloc (.cells #[.bool false, (.slice none 0 0)] 24)) (w.heap.size + 1 + 1 + 1) false (.slice none 0 0) := by have h := Box.new (((w.alloc (.cells #[.bool sx, (.slice Ax kx cx), .bool tx, (.slice Cx lx dx)] 26)).alloc (.cells #[.bool false, (.slice none 0 0)] 24)).alloc (.cells #[.bool false, (.slice none 0 0)] 24)) false (.slice none 0 0); simpa using h
  replace B_D := Lib.hid B_D
  replace V_xn := Lib.hid (Rd.below V_xn.out hb0)
  replace V_xd := Lib.hid (Rd.below V_xd.out hb0)
  have HB := Lib.hid hb0
  clear hb0
  have c0x := B_x.out.c0
  have c1x := B_x.out.c1
  have c2x := B_x.out.c2
  have c3x := B_x.out.c3
  have c0X := B_X.out.c0
  have c1X := B_X.out.c1
  have c0Y := B_Y.out.c0
  have c1Y := B_Y.out.c1
  have c0D := B_D.out.c0
  have c1D := B_D.out.c1
  go_enter Tryz.func48, Tryz.ntmps48
  go_wp2_with fail
  clear c0x c1x c2x c3x c0X c1X c0Y c1Y c0D c1D
  generalize (((w.alloc (.cells #[.bool sx, (.slice Ax kx cx), .bool tx, (.slice Cx lx dx)] 26)).alloc (.cells #[.bool false, (.slice none 0 0)] 24)).alloc (.cells #[.bool false, (.slice none 0 0)] 24)).alloc (.cells #[.bool false, (.slice none 0 0)] 24) = W0 at *
  refine (nonzero_f (Fd.mk (Rd.below V_xn.out (by exact ⟨rfl, rfl, rfl, Nat.le_refl _, fun _ _ => rfl⟩)) (Rd.below V_xd.out (by exact ⟨rfl, rfl, rfl, Nat.le_refl _, fun _ _ => rfl⟩))) (by omega)).mono ?_
  rintro e w1 ⟨vz, rfl, rz, bb⟩
  replace bb := nextw (w0 := W0) (by exact ⟨rfl, rfl, rfl, Nat.le_refl _, fun _ _ => rfl⟩) bb
  replace B_x := Lib.hid (BoxR.below B_x.out bb B_x.out.lt)
  replace B_X := Lib.hid (Box.below B_X.out bb B_X.out.lt)
  replace B_Y := Lib.hid (Box.below B_Y.out bb B_Y.out.lt)
  replace B_D := Lib.hid (Box.below B_D.out bb B_D.out.lt)
  replace V_xn := Lib.hid (Rd.below V_xn.out bb)
  replace V_xd := Lib.hid (Rd.below V_xd.out bb)
  replace HB := Lib.hid (nextw HB.out bb)
  clear bb
  clear V_xn V_xd
  obtain ⟨sz, Az, kz, cz, tz, Cz, lz, dz, rfl, hnz, hdz⟩ := rz.shape
  have V_zn := Lib.hid hnz
  have V_zd := Lib.hid hdz
  clear rz hnz hdz
  have Z1x := Lib.hid B_x.out.lt
  have Z2X := Lib.hid B_X.out.lt
  have Z3Y := Lib.hid B_Y.out.lt
  have Z4D := Lib.hid B_D.out.lt
  have hb0 : Below w1.heap.size w1 (w1.alloc (.cells #[.bool sz, (.slice Az kz cz), .bool tz, (.slice Cz lz dz)] 26)) := (Below.alloc (Below.refl w1.heap.size w1) (by simp <;> omega) _)
  have B_z : BoxR (w1.alloc (.cells #[.bool sz, (.slice Az kz cz), .bool tz, (.slice Cz lz dz)] 26)) (w1.heap.size) sz (.slice Az kz cz) tz (.slice Cz lz dz) := by have h := BoxR.new w1 sz (.slice Az kz cz) tz (.slice Cz lz dz); simpa using h
  replace B_z := Lib.hid B_z
  replace B_x := Lib.hid (BoxR.below B_x.out hb0 B_x.out.lt)
  replace B_X := Lib.hid (Box.below B_X.out hb0 B_X.out.lt)
  replace B_Y := Lib.hid (Box.below B_Y.out hb0 B_Y.out.lt)
  replace B_D := Lib.hid (Box.below B_D.out hb0 B_D.out.lt)
  replace V_zn := Lib.hid (Rd.below V_zn.out hb0)
  replace V_zd := Lib.hid (Rd.below V_zd.out hb0)
  replace HB := Lib.hid (nextw HB.out hb0)
  clear hb0
  have c0z := B_z.out.c0
  have c1z := B_z.out.c1
  have c2z := B_z.out.c2
  have c3z := B_z.out.c3
  go_wp2_with fail
  clear c0z c1z c2z c3z
  generalize w1.alloc (.cells #[.bool sz, (.slice Az kz cz), .bool tz, (.slice Cz lz dz)] 26) = W1 at *
  refine (product_r (Fd.mk (Rd.below V_zn.out (by exact ⟨rfl, rfl, rfl, Nat.le_refl _, fun _ _ => rfl⟩)) (Rd.below V_zd.out (by exact ⟨rfl, rfl, rfl, Nat.le_refl _, fun _ _ => rfl⟩))) (Fd.mk (Rd.below V_zn.out (by exact ⟨rfl, rfl, rfl, Nat.le_refl _, fun _ _ => rfl⟩)) (Rd.below V_zd.out (by exact ⟨rfl, rfl, rfl, Nat.le_refl _, fun _ _ => rfl⟩))) (by omega) (by omega)).mono ?_
  rintro e w2 ⟨vs, rfl, rs, bb⟩
  replace bb := nextw (w0 := W1) (by exact ⟨rfl, rfl, rfl, Nat.le_refl _, fun _ _ => rfl⟩) bb
  replace B_x := Lib.hid (BoxR.below B_x.out bb B_x.out.lt)
  replace B_X := Lib.hid (Box.below B_X.out bb B_X.out.lt)
  replace B_Y := Lib.hid (Box.below B_Y.out bb B_Y.out.lt)
  replace B_D := Lib.hid (Box.below B_D.out bb B_D.out.lt)
  replace B_z := Lib.hid (BoxR.below B_z.out bb B_z.out.lt)
  replace V_zn := Lib.hid (Rd.below V_zn.out bb)
  replace V_zd := Lib.hid (Rd.below V_zd.out bb)
  replace HB := Lib.hid (nextw HB.out bb)
  clear bb
  obtain ⟨ss, As, ks, cs, ts, Cs, ls, ds, rfl, hns, hds⟩ := rs.parts
  have V_sn := Lib.hid hns
  have V_sd := Lib.hid hds
  clear rs hns hds
  have Z5x := Lib.hid B_x.out.lt
  have Z6X := Lib.hid B_X.out.lt
  have Z7Y := Lib.hid B_Y.out.lt
  have Z8D := Lib.hid B_D.out.lt
  have Z9z := Lib.hid B_z.out.lt
  have hb0 : Below w2.heap.size w2 (w2.alloc (.cells #[.bool ss, (.slice As ks cs), .bool ts, (.slice Cs ls ds)] 26)) := (Below.alloc (Below.refl w2.heap.size w2) (by simp <;> omega) _)
  have B_s : BoxR (w2.alloc (.cells #[.bool ss, (.slice As ks cs), .bool ts, (.slice Cs ls ds)] 26)) (w2.heap.size) ss (.slice As ks cs) ts (.slice Cs ls ds) := by have h := BoxR.new w2 ss (.slice As ks cs) ts (.slice Cs ls ds); simpa using h
  replace B_s := Lib.hid B_s
  replace B_x := Lib.hid (BoxR.below B_x.out hb0 B_x.out.lt)
  replace B_X := Lib.hid (Box.below B_X.out hb0 B_X.out.lt)
  replace B_Y := Lib.hid (Box.below B_Y.out hb0 B_Y.out.lt)
  replace B_D := Lib.hid (Box.below B_D.out hb0 B_D.out.lt)
  replace B_z := Lib.hid (BoxR.below B_z.out hb0 B_z.out.lt)
  replace V_zn := Lib.hid (Rd.below V_zn.out hb0)
  replace V_zd := Lib.hid (Rd.below V_zd.out hb0)
  replace V_sn := Lib.hid (Rc.below V_sn.out hb0)
  replace V_sd := Lib.hid (Rc.below V_sd.out hb0)
  replace HB := Lib.hid (nextw HB.out hb0)
  clear hb0
  have c0z := B_z.out.c0
  have c1z := B_z.out.c1
  have c2z := B_z.out.c2
  have c3z := B_z.out.c3
  have f0z := B_z.out.f0
  have f1z := B_z.out.f1
  have f2z := B_z.out.f2
  have f3z := B_z.out.f3
  have c0s := B_s.out.c0
  have c1s := B_s.out.c1
  have c2s := B_s.out.c2
  have c3s := B_s.out.c3
  have f0s := B_s.out.f0
  have f1s := B_s.out.f1
  have f2s := B_s.out.f2
  have f3s := B_s.out.f3
  have c0X := B_X.out.c0
  have c1X := B_X.out.c1
  have f0X := B_X.out.f0
  have f1X := B_X.out.f1
  have c0Y := B_Y.out.c0
  have c1Y := B_Y.out.c1
  have f0Y := B_Y.out.f0
  have f1Y := B_Y.out.f1
  have c0D := B_D.out.c0
  have c1D := B_D.out.c1
  have f0D := B_D.out.f0
  have f1D := B_D.out.f1
  go_wp2
  clear c0z c1z c2z c3z f0z f1z f2z f3z c0s c1s c2s c3s f0s f1s f2s f3s c0X c1X f0X f1X c0Y c1Y f0Y f1Y c0D c1D f0D f1D
  generalize w2.alloc (.cells #[.bool ss, (.slice As ks cs), .bool ts, (.slice Cs ls ds)] 26) = W2 at *
  have c0z := B_z.out.c0
  have c1z := B_z.out.c1
  have c2z := B_z.out.c2
  have c3z := B_z.out.c3
  have c0s := B_s.out.c0
  have c1s := B_s.out.c1
  have c2s := B_s.out.c2
  have c3s := B_s.out.c3
  have z1x := Z1x.out
  have z2X := Z2X.out
  have z3Y := Z3Y.out
  have z4D := Z4D.out
  have z5x := Z5x.out
  have z6X := Z6X.out
  have z7Y := Z7Y.out
  have z8D := Z8D.out
  have z9z := Z9z.out
  have tk1x0 : True := trivial
  first | (go_region_held3 (fun w' => w'.cell? ⟨w1.heap.size, 0, none⟩ = some (.bool sz) ∧ w'.cell? ⟨w1.heap.size, 1, none⟩ = some (.slice Az kz cz) ∧ w'.cell? ⟨w1.heap.size, 2, none⟩ = some (.bool tz) ∧ w'.cell? ⟨w1.heap.size, 3, none⟩ = some (.slice Cz lz dz) ∧ w'.cell? ⟨w2.heap.size, 0, none⟩ = some (.bool ss) ∧ w'.cell? ⟨w2.heap.size, 1, none⟩ = some (.slice As ks cs) ∧ w'.cell? ⟨w2.heap.size, 2, none⟩ = some (.bool ts) ∧ w'.cell? ⟨w2.heap.size, 3, none⟩ = some (.slice Cs ls ds)) (((try dsimp only); (repeat' apply And.intro) <;> (first | (with_reducible assumption) | ((repeat (first | (with_reducible refine Eq.trans (cell_drew1 _ _) ?_) | (with_reducible refine Eq.trans (far2 (by omega) _ _) ?_))); with_reducible assumption) | assumption | go_keep)))
    (first
      | (clear tk1x0; go_at_call 46; refine (Mul_rd (Rd.below V_zn.out (by exact ⟨rfl, rfl, rfl, Nat.le_refl _, fun _ _ => rfl⟩)) (Rd.below V_zn.out (by exact ⟨rfl, rfl, rfl, Nat.le_refl _, fun _ _ => rfl⟩)) (by omega) (by omega)).mono ?_; rintro e w3 ⟨va1, rfl, ra1, bb⟩; replace bb := nextw (w0 := W2) (by exact ⟨rfl, rfl, rfl, Nat.le_refl _, fun _ _ => rfl⟩) bb; clear V_zn; replace B_x := Lib.hid (BoxR.below B_x.out bb B_x.out.lt); replace B_X := Lib.hid (Box.below B_X.out bb B_X.out.lt); replace B_Y := Lib.hid (Box.below B_Y.out bb B_Y.out.lt); replace B_D := Lib.hid (Box.below B_D.out bb B_D.out.lt); replace B_z := Lib.hid (BoxR.below B_z.out bb B_z.out.lt); replace B_s := Lib.hid (BoxR.below B_s.out bb B_s.out.lt); replace V_zd := Lib.hid (Rd.below V_zd.out bb); replace V_sn := Lib.hid (Rc.below V_sn.out bb); replace V_sd := Lib.hid (Rc.below V_sd.out bb); replace HB := Lib.hid (nextw HB.out bb); clear bb; replace ra1 := Lib.hid ra1; have V_a1 := ra1; clear ra1; obtain ⟨sa1, Aa1, ka1, ca1, rfl⟩ := V_a1.out.shape; clear c0z c1z c2z c3z c0s c1s c2s c3s; have c0z := B_z.out.c0; have c1z := B_z.out.c1; have c2z := B_z.out.c2; have c3z := B_z.out.c3; have c0s := B_s.out.c0; have c1s := B_s.out.c1; have c2s := B_s.out.c2; have c3s := B_s.out.c3; have tk1x1 : True := trivial)
      | (clear tk1x1; go_at_call 46; refine (Mul_rd (Rd.below V_zd.out (by exact ⟨rfl, rfl, rfl, Nat.le_refl _, fun _ _ => rfl⟩)) (Rd.below V_zd.out (by exact ⟨rfl, rfl, rfl, Nat.le_refl _, fun _ _ => rfl⟩)) (by omega) (by omega)).mono ?_; rintro e w4 ⟨va2, rfl, ra2, bb⟩; replace bb := nextw (w0 := w3) (by exact ⟨rfl, rfl, rfl, Nat.le_refl _, fun _ _ => rfl⟩) bb; clear V_zd; replace B_x := Lib.hid (BoxR.below B_x.out bb B_x.out.lt); replace B_X := Lib.hid (Box.below B_X.out bb B_X.out.lt); replace B_Y := Lib.hid (Box.below B_Y.out bb B_Y.out.lt); replace B_D := Lib.hid (Box.below B_D.out bb B_D.out.lt); replace B_z := Lib.hid (BoxR.below B_z.out bb B_z.out.lt); replace B_s := Lib.hid (BoxR.below B_s.out bb B_s.out.lt); replace V_sn := Lib.hid (Rc.below V_sn.out bb); replace V_sd := Lib.hid (Rc.below V_sd.out bb); replace V_a1 := Lib.hid (Rc.below V_a1.out bb); replace HB := Lib.hid (nextw HB.out bb); clear bb; replace ra2 := Lib.hid ra2; have V_a2 := ra2; clear ra2; obtain ⟨sa2, Aa2, ka2, ca2, rfl⟩ := V_a2.out.shape; clear c0z c1z c2z c3z c0s c1s c2s c3s; have c0z := B_z.out.c0; have c1z := B_z.out.c1; have c2z := B_z.out.c2; have c3z := B_z.out.c3; have c0s := B_s.out.c0; have c1s := B_s.out.c1; have c2s := B_s.out.c2; have c3s := B_s.out.c3; have tk1x2 : True := trivial)
      | (clear tk1x2; go_at_call 52; refine (Add_rd (Rc.rd (Rc.below V_a1.out (by exact ⟨rfl, rfl, rfl, Nat.le_refl _, fun _ _ => rfl⟩))) (Rc.rd (Rc.below V_a2.out (by exact ⟨rfl, rfl, rfl, Nat.le_refl _, fun _ _ => rfl⟩))) (by omega) (by omega)).mono ?_; rintro e w5 ⟨va3, rfl, ra3, bb⟩; replace bb := nextw (w0 := w4) (by exact ⟨rfl, rfl, rfl, Nat.le_refl _, fun _ _ => rfl⟩) bb; clear V_a1 V_a2; replace B_x := Lib.hid (BoxR.below B_x.out bb B_x.out.lt); replace B_X := Lib.hid (Box.below B_X.out bb B_X.out.lt); replace B_Y := Lib.hid (Box.below B_Y.out bb B_Y.out.lt); replace B_D := Lib.hid (Box.below B_D.out bb B_D.out.lt); replace B_z := Lib.hid (BoxR.below B_z.out bb B_z.out.lt); replace B_s := Lib.hid (BoxR.below B_s.out bb B_s.out.lt); replace V_sn := Lib.hid (Rc.below V_sn.out bb); replace V_sd := Lib.hid (Rc.below V_sd.out bb); replace HB := Lib.hid (nextw HB.out bb); clear bb; replace ra3 := Lib.hid ra3; have V_a3 := ra3; clear ra3; obtain ⟨sa3, Aa3, ka3, ca3, rfl⟩ := V_a3.out.shape; have c0X := B_X.out.c0; have c1X := B_X.out.c1; have c0Y := B_Y.out.c0; have c1Y := B_Y.out.c1; have c0D := B_D.out.c0; have c1D := B_D.out.c1; have f0X := B_X.out.f0; have f1X := B_X.out.f1; have f0Y := B_Y.out.f0; have f1Y := B_Y.out.f1; have f0D := B_D.out.f0; have f1D := B_D.out.f1; clear c0z c1z c2z c3z c0s c1s c2s c3s; have c0z := B_z.out.c0; have c1z := B_z.out.c1; have c2z := B_z.out.c2; have c3z := B_z.out.c3; have c0s := B_s.out.c0; have c1s := B_s.out.c1; have c2s := B_s.out.c2; have c3s := B_s.out.c3; have tk1x3 : True := trivial))) | fail
  all_goals (clear z1x z2X z3Y z4D z5x z6X z7Y z8D z9z)
  all_goals
    skip
    have K_sn := V_sn
    have K_sd := V_sd
    have K_a3 := V_a3
    replace K_sn := Lib.hid (Box.keepsRc B_X.out K_sn.out ts (.slice Cs ls ds))
    replace K_sd := Lib.hid (Box.keepsRc B_X.out K_sd.out ts (.slice Cs ls ds))
    replace K_a3 := Lib.hid (Box.keepsRc B_X.out K_a3.out ts (.slice Cs ls ds))
    have HB1 := Lib.hid (Below.store HB.out (x := w.heap.size + 1) (by omega) (.bool ts) (.slice Cs ls ds))
    have N0Y := Lib.hid (Box.far (y := w.heap.size + 1) B_Y.out (by omega) (.bool ts) (.slice Cs ls ds))
    have N0D := Lib.hid (Box.far (y := w.heap.size + 1) B_D.out (by omega) (.bool ts) (.slice Cs ls ds))
    have N0X := Lib.hid (Box.store B_X.out ts (.slice Cs ls ds))
    replace K_sn := Lib.hid (Box.keepsRc N0Y.out K_sn.out ss (.slice As ks cs))
    replace K_sd := Lib.hid (Box.keepsRc N0Y.out K_sd.out ss (.slice As ks cs))
    replace K_a3 := Lib.hid (Box.keepsRc N0Y.out K_a3.out ss (.slice As ks cs))
    have HB2 := Lib.hid (Below.store HB1.out (x := w.heap.size + 1 + 1) (by omega) (.bool ss) (.slice As ks cs))
    have N1X := Lib.hid (Box.far (y := w.heap.size + 1 + 1) N0X.out (by omega) (.bool ss) (.slice As ks cs))
    have N1D := Lib.hid (Box.far (y := w.heap.size + 1 + 1) N0D.out (by omega) (.bool ss) (.slice As ks cs))
    have N1Y := Lib.hid (Box.store N0Y.out ss (.slice As ks cs))
    replace K_sn := Lib.hid (Box.keepsRc N1D.out K_sn.out sa3 (.slice Aa3 ka3 ca3))
    replace K_sd := Lib.hid (Box.keepsRc N1D.out K_sd.out sa3 (.slice Aa3 ka3 ca3))
    replace K_a3 := Lib.hid (Box.keepsRc N1D.out K_a3.out sa3 (.slice Aa3 ka3 ca3))
    have HB3 := Lib.hid (Below.store HB2.out (x := w.heap.size + 1 + 1 + 1) (by omega) (.bool sa3) (.slice Aa3 ka3 ca3))
    have N2X := Lib.hid (Box.far (y := w.heap.size + 1 + 1 + 1) N1X.out (by omega) (.bool sa3) (.slice Aa3 ka3 ca3))
    have N2Y := Lib.hid (Box.far (y := w.heap.size + 1 + 1 + 1) N1Y.out (by omega) (.bool sa3) (.slice Aa3 ka3 ca3))
    have N2D := Lib.hid (Box.store N1D.out sa3 (.slice Aa3 ka3 ca3))
    have s0X := N2X.out.c0
    have s1X := N2X.out.c1
    have s0Y := N2Y.out.c0
    have s1Y := N2Y.out.c1
    have s0D := N2D.out.c0
    have s1D := N2D.out.c1
    have HBF := HB3
    have c0X := B_X.out.c0
    have c1X := B_X.out.c1
    have f0X := B_X.out.f0
    have f1X := B_X.out.f1
    have c0Y := B_Y.out.c0
    have c1Y := B_Y.out.c1
    have f0Y := B_Y.out.f0
    have f1Y := B_Y.out.f1
    have c0D := B_D.out.c0
    have c1D := B_D.out.c1
    have f0D := B_D.out.f0
    have f1D := B_D.out.f1
    have p00Y := N0Y.out.c0
    have r00Y := N0Y.out.f0
    have p01Y := N0Y.out.c1
    have r01Y := N0Y.out.f1
    have p00D := N0D.out.c0
    have r00D := N0D.out.f0
    have p01D := N0D.out.c1
    have r01D := N0D.out.f1
    have p10D := N1D.out.c0
    have r10D := N1D.out.f0
    have p11D := N1D.out.c1
    have r11D := N1D.out.f1
    go_wp2_with fail
    exact bodyPost_ret (v := .tuple #[.agg #[.bool ts, (.slice Cs ls ds)], .agg #[.bool ss, (.slice As ks cs)], .agg #[.bool sa3, (.slice Aa3 ka3 ca3)]]) (by simp [results, Tryz.results48, go_sem, s0X, s1X, s0Y, s1Y, s0D, s1D]) rfl ⟨_, _, _, rfl, ((Rc.below K_sd.out (by exact ⟨rfl, rfl, rfl, Nat.le_refl _, fun _ _ => rfl⟩)).of_eq (by unfold prQ; rw [nz_nz])).rd.more (by omega), ((Rc.below K_sn.out (by exact ⟨rfl, rfl, rfl, Nat.le_refl _, fun _ _ => rfl⟩)).of_eq (by unfold prP; rw [nz_nz])).rd.more (by omega), (Rc.below K_a3.out (by exact ⟨rfl, rfl, rfl, Nat.le_refl _, fun _ _ => rfl⟩)).rd.more (by omega), (nextw HBF.out (by exact ⟨rfl, rfl, rfl, Nat.le_refl _, fun _ _ => rfl⟩))⟩

set_option maxRecDepth 100000 in
set_option maxHeartbeats 8000000 in
theorem Cosine_r {v : Value} {p q : Int} {k : Nat} {w : World} (h : Fd w v p q k) (f : k ≤ 3000) :
    Calls Tryz.prog 17 #[v] w fun e w' => ∃ v', e = .returned v' ∧ Qc w' v' (cosQ p q) (4 * k + 11) ∧ Below w.heap.size w w' := by
  obtain ⟨sx, Ax, kx, cx, tx, Cx, lx, dx, rfl, hnx, hdx⟩ := h.shape
  have V_xn := Lib.hid hnx
  have V_xd := Lib.hid hdx
  clear h hnx hdx
  have hb0 : Below w.heap.size w ((w.alloc (.cells #[.bool sx, (.slice Ax kx cx), .bool tx, (.slice Cx lx dx)] 26)).alloc (.cells #[.bool false, (.slice none 0 0), .bool false, (.slice none 0 0)] 35)) := (Below.alloc (Below.alloc (Below.refl w.heap.size w) (by simp <;> omega) _) (by simp <;> omega) _)
  have B_x : BoxR ((w.alloc (.cells #[.bool sx, (.slice Ax kx cx), .bool tx, (.slice Cx lx dx)] 26)).alloc (.cells #[.bool false, (.slice none 0 0), .bool false, (.slice none 0 0)] 35)) (w.heap.size) sx (.slice Ax kx cx) tx (.slice Cx lx dx) := by have h := BoxR.alloc (BoxR.new w sx (.slice Ax kx cx) tx (.slice Cx lx dx)) (.cells #[.bool false, (.slice none 0 0), .bool false, (.slice none 0 0)] 35); simpa using h
  replace B_x := Lib.hid B_x
  have B_r : Box4 ((w.alloc (.cells #[.bool sx, (.slice Ax kx cx), .bool tx, (.slice Cx lx dx)] 26)).alloc (.cells #[.bool false, (.slice none 0 0), .bool false, (.slice none 0 0)] 35)) (w.heap.size + 1) false (.slice none 0 0) false (.slice none 0 0) := by have h := Box4.new (w.alloc (.cells #[.bool sx, (.slice Ax kx cx), .bool tx, (.slice Cx lx dx)] 26)) false (.slice none 0 0) false (.slice none 0 0); simpa using h
  replace B_r := Lib.hid B_r
  replace V_xn := Lib.hid (Rd.below V_xn.out hb0)
  replace V_xd := Lib.hid (Rd.below V_xd.out hb0)
  have HB := Lib.hid hb0
  clear hb0
  have c0x := B_x.out.c0
  have c1x := B_x.out.c1
  have c2x := B_x.out.c2
  have c3x := B_x.out.c3
  have c0r := B_r.out.c0
  have c1r := B_r.out.c1
  have c2r := B_r.out.c2
  have c3r := B_r.out.c3
  go_enter Tryz.func17, Tryz.ntmps17
  go_wp2_with fail
  clear c0x c1x c2x c3x c0r c1r c2r c3r
  generalize (w.alloc (.cells #[.bool sx, (.slice Ax kx cx), .bool tx, (.slice Cx lx dx)] 26)).alloc (.cells #[.bool false, (.slice none 0 0), .bool false, (.slice none 0 0)] 35) = W0 at *
  refine (direction_r (Fd.mk (Rd.below V_xn.out (by exact ⟨rfl, rfl, rfl, Nat.le_refl _, fun _ _ => rfl⟩)) (Rd.below V_xd.out (by exact ⟨rfl, rfl, rfl, Nat.le_refl _, fun _ _ => rfl⟩))) (by omega)).mono ?_
  rintro e w1 ⟨va, vb, vd, rfl, ra, rb, rd, bb⟩
  replace bb := nextw (w0 := W0) (by exact ⟨rfl, rfl, rfl, Nat.le_refl _, fun _ _ => rfl⟩) bb
  replace B_x := Lib.hid (BoxR.below B_x.out bb B_x.out.lt)
  replace B_r := Lib.hid (Box4.below B_r.out bb B_r.out.lt)
  replace V_xn := Lib.hid (Rd.below V_xn.out bb)
  replace V_xd := Lib.hid (Rd.below V_xd.out bb)
  replace HB := Lib.hid (nextw HB.out bb)
  clear bb
  obtain ⟨sa, Aa, ka, ca, rfl, -⟩ := ra.shape
  obtain ⟨sb, Ab, kb, cb, rfl, -⟩ := rb.shape
  obtain ⟨sd, Ad, kd, cd, rfl, -⟩ := rd.shape
  clear V_xn V_xd
  have V_a := Lib.hid ra
  have V_b := Lib.hid rb
  have V_d := Lib.hid rd
  clear ra rb rd
  have Z1x := Lib.hid B_x.out.lt
  have Z2r := Lib.hid B_r.out.lt
  have hb0 : Below w1.heap.size w1 (((w1.alloc (.cells #[.bool sa, (.slice Aa ka ca)] 24)).alloc (.cells #[.bool sb, (.slice Ab kb cb)] 24)).alloc (.cells #[.bool sd, (.slice Ad kd cd)] 24)) := (Below.alloc (Below.alloc (Below.alloc (Below.refl w1.heap.size w1) (by simp <;> omega) _) (by simp <;> omega) _) (by simp <;> omega) _)
  have B_a : Box (((w1.alloc (.cells #[.bool sa, (.slice Aa ka ca)] 24)).alloc (.cells #[.bool sb, (.slice Ab kb cb)] 24)).alloc (.cells #[.bool sd, (.slice Ad kd cd)] 24)) (w1.heap.size) sa (.slice Aa ka ca) := by have h := Box.alloc (Box.alloc (Box.new w1 sa (.slice Aa ka ca)) (.cells #[.bool sb, (.slice Ab kb cb)] 24)) (.cells #[.bool sd, (.slice Ad kd cd)] 24); simpa using h
  replace B_a := Lib.hid B_a
  have B_b : Box (((w1.alloc (.cells #[.bool sa, (.slice Aa ka ca)] 24)).alloc (.cells #[.bool sb, (.slice Ab kb cb)] 24)).alloc (.cells #[.bool sd, (.slice Ad kd cd)] 24)) (w1.heap.size + 1) sb (.slice Ab kb cb) := by have h := Box.alloc (Box.new (w1.alloc (.cells #[.bool sa, (.slice Aa ka ca)] 24)) sb (.slice Ab kb cb)) (.cells #[.bool sd, (.slice Ad kd cd)] 24); simpa using h
  replace B_b := Lib.hid B_b
  have B_d : Box (((w1.alloc (.cells #[.bool sa, (.slice Aa ka ca)] 24)).alloc (.cells #[.bool sb, (.slice Ab kb cb)] 24)).alloc (.cells #[.bool sd, (.slice Ad kd cd)] 24)) (w1.heap.size + 1 + 1) sd (.slice Ad kd cd) := by have h := Box.new ((w1.alloc (.cells #[.bool sa, (.slice Aa ka ca)] 24)).alloc (.cells #[.bool sb, (.slice Ab kb cb)] 24)) sd (.slice Ad kd cd); simpa using h
  replace B_d := Lib.hid B_d
  replace B_x := Lib.hid (BoxR.below B_x.out hb0 B_x.out.lt)
  replace B_r := Lib.hid (Box4.below B_r.out hb0 B_r.out.lt)
  replace V_a := Lib.hid (Rd.below V_a.out hb0)
  replace V_b := Lib.hid (Rd.below V_b.out hb0)
  replace V_d := Lib.hid (Rd.below V_d.out hb0)
  replace HB := Lib.hid (nextw HB.out hb0)
  clear hb0
  have c0a := B_a.out.c0
  have c1a := B_a.out.c1
  have c0d := B_d.out.c0
  have c1d := B_d.out.c1
  go_wp2_with fail
  clear c0a c1a c0d c1d
  generalize ((w1.alloc (.cells #[.bool sa, (.slice Aa ka ca)] 24)).alloc (.cells #[.bool sb, (.slice Ab kb cb)] 24)).alloc (.cells #[.bool sd, (.slice Ad kd cd)] 24) = W1 at *
  refine (New_rd (Rd.below V_a.out (by exact ⟨rfl, rfl, rfl, Nat.le_refl _, fun _ _ => rfl⟩)) (Rd.below V_d.out (by exact ⟨rfl, rfl, rfl, Nat.le_refl _, fun _ _ => rfl⟩)) (by omega)).mono ?_
  rintro e w2 ⟨vq, rfl, rq, bb⟩
  replace bb := nextw (w0 := W1) (by exact ⟨rfl, rfl, rfl, Nat.le_refl _, fun _ _ => rfl⟩) bb
  replace B_x := Lib.hid (BoxR.below B_x.out bb B_x.out.lt)
  replace B_r := Lib.hid (Box4.below B_r.out bb B_r.out.lt)
  replace B_a := Lib.hid (Box.below B_a.out bb B_a.out.lt)
  replace B_b := Lib.hid (Box.below B_b.out bb B_b.out.lt)
  replace B_d := Lib.hid (Box.below B_d.out bb B_d.out.lt)
  replace V_a := Lib.hid (Rd.below V_a.out bb)
  replace V_b := Lib.hid (Rd.below V_b.out bb)
  replace V_d := Lib.hid (Rd.below V_d.out bb)
  replace HB := Lib.hid (nextw HB.out bb)
  clear bb
  obtain ⟨sq, Aq, kq, cq, tq, Cq, lq, dq, rfl⟩ := rq.shape
  have V_q := Lib.hid rq
  clear rq
  skip
  have K_q := V_q
  replace K_q := Lib.hid (Box4.keepsQc B_r.out K_q.out (.bool sq) (.slice Aq kq cq) (.bool tq) (.slice Cq lq dq))
  have HB1 := Lib.hid (Below.store4 HB.out (y := w.heap.size + 1) (by omega) (.bool sq) (.slice Aq kq cq) (.bool tq) (.slice Cq lq dq))
  have N0r := Lib.hid (Box4.store B_r.out sq (.slice Aq kq cq) tq (.slice Cq lq dq))
  have s0r := N0r.out.c0
  have s1r := N0r.out.c1
  have s2r := N0r.out.c2
  have s3r := N0r.out.c3
  simp only [st4] at s0r s1r s2r s3r
  have HBF := HB1
  have c0r := B_r.out.c0
  have c1r := B_r.out.c1
  have c2r := B_r.out.c2
  have c3r := B_r.out.c3
  have f0r := B_r.out.f0
  have f1r := B_r.out.f1
  have f2r := B_r.out.f2
  have f3r := B_r.out.f3
  go_wp2_with fail
  exact bodyPost_ret (v := .agg #[.bool sq, (.slice Aq kq cq), .bool tq, (.slice Cq lq dq)]) (by simp [results, Tryz.results17, go_sem, s0r, s1r, s2r, s3r]) rfl ⟨_, rfl, (Qc.below K_q.out (by exact ⟨rfl, rfl, rfl, Nat.le_refl _, fun _ _ => rfl⟩)).more (by omega), (nextw HBF.out (by exact ⟨rfl, rfl, rfl, Nat.le_refl _, fun _ _ => rfl⟩))⟩

set_option maxRecDepth 100000 in
set_option maxHeartbeats 8000000 in
theorem Sine_r {v : Value} {p q : Int} {k : Nat} {w : World} (h : Fd w v p q k) (f : k ≤ 3000) :
    Calls Tryz.prog 18 #[v] w fun e w' => ∃ v', e = .returned v' ∧ Qc w' v' (sinQ p q) (4 * k + 11) ∧ Below w.heap.size w w' := by
  obtain ⟨sx, Ax, kx, cx, tx, Cx, lx, dx, rfl, hnx, hdx⟩ := h.shape
  have V_xn := Lib.hid hnx
  have V_xd := Lib.hid hdx
  clear h hnx hdx
  have hb0 : Below w.heap.size w ((w.alloc (.cells #[.bool sx, (.slice Ax kx cx), .bool tx, (.slice Cx lx dx)] 26)).alloc (.cells #[.bool false, (.slice none 0 0), .bool false, (.slice none 0 0)] 35)) := (Below.alloc (Below.alloc (Below.refl w.heap.size w) (by simp <;> omega) _) (by simp <;> omega) _)
  have B_x : BoxR ((w.alloc (.cells #[.bool sx, (.slice Ax kx cx), .bool tx, (.slice Cx lx dx)] 26)).alloc (.cells #[.bool false, (.slice none 0 0), .bool false, (.slice none 0 0)] 35)) (w.heap.size) sx (.slice Ax kx cx) tx (.slice Cx lx dx) := by have h := BoxR.alloc (BoxR.new w sx (.slice Ax kx cx) tx (.slice Cx lx dx)) (.cells #[.bool false, (.slice none 0 0), .bool false, (.slice none 0 0)] 35); simpa using h
  replace B_x := Lib.hid B_x
  have B_r : Box4 ((w.alloc (.cells #[.bool sx, (.slice Ax kx cx), .bool tx, (.slice Cx lx dx)] 26)).alloc (.cells #[.bool false, (.slice none 0 0), .bool false, (.slice none 0 0)] 35)) (w.heap.size + 1) false (.slice none 0 0) false (.slice none 0 0) := by have h := Box4.new (w.alloc (.cells #[.bool sx, (.slice Ax kx cx), .bool tx, (.slice Cx lx dx)] 26)) false (.slice none 0 0) false (.slice none 0 0); simpa using h
  replace B_r := Lib.hid B_r
  replace V_xn := Lib.hid (Rd.below V_xn.out hb0)
  replace V_xd := Lib.hid (Rd.below V_xd.out hb0)
  have HB := Lib.hid hb0
  clear hb0
  have c0x := B_x.out.c0
  have c1x := B_x.out.c1
  have c2x := B_x.out.c2
  have c3x := B_x.out.c3
  have c0r := B_r.out.c0
  have c1r := B_r.out.c1
  have c2r := B_r.out.c2
  have c3r := B_r.out.c3
  go_enter Tryz.func18, Tryz.ntmps18
  go_wp2_with fail
  clear c0x c1x c2x c3x c0r c1r c2r c3r
  generalize (w.alloc (.cells #[.bool sx, (.slice Ax kx cx), .bool tx, (.slice Cx lx dx)] 26)).alloc (.cells #[.bool false, (.slice none 0 0), .bool false, (.slice none 0 0)] 35) = W0 at *
  refine (direction_r (Fd.mk (Rd.below V_xn.out (by exact ⟨rfl, rfl, rfl, Nat.le_refl _, fun _ _ => rfl⟩)) (Rd.below V_xd.out (by exact ⟨rfl, rfl, rfl, Nat.le_refl _, fun _ _ => rfl⟩))) (by omega)).mono ?_
  rintro e w1 ⟨va, vb, vd, rfl, ra, rb, rd, bb⟩
  replace bb := nextw (w0 := W0) (by exact ⟨rfl, rfl, rfl, Nat.le_refl _, fun _ _ => rfl⟩) bb
  replace B_x := Lib.hid (BoxR.below B_x.out bb B_x.out.lt)
  replace B_r := Lib.hid (Box4.below B_r.out bb B_r.out.lt)
  replace V_xn := Lib.hid (Rd.below V_xn.out bb)
  replace V_xd := Lib.hid (Rd.below V_xd.out bb)
  replace HB := Lib.hid (nextw HB.out bb)
  clear bb
  obtain ⟨sa, Aa, ka, ca, rfl, -⟩ := ra.shape
  obtain ⟨sb, Ab, kb, cb, rfl, -⟩ := rb.shape
  obtain ⟨sd, Ad, kd, cd, rfl, -⟩ := rd.shape
  clear V_xn V_xd
  have V_a := Lib.hid ra
  have V_b := Lib.hid rb
  have V_d := Lib.hid rd
  clear ra rb rd
  have Z1x := Lib.hid B_x.out.lt
  have Z2r := Lib.hid B_r.out.lt
  have hb0 : Below w1.heap.size w1 (((w1.alloc (.cells #[.bool sa, (.slice Aa ka ca)] 24)).alloc (.cells #[.bool sb, (.slice Ab kb cb)] 24)).alloc (.cells #[.bool sd, (.slice Ad kd cd)] 24)) := (Below.alloc (Below.alloc (Below.alloc (Below.refl w1.heap.size w1) (by simp <;> omega) _) (by simp <;> omega) _) (by simp <;> omega) _)
  have B_a : Box (((w1.alloc (.cells #[.bool sa, (.slice Aa ka ca)] 24)).alloc (.cells #[.bool sb, (.slice Ab kb cb)] 24)).alloc (.cells #[.bool sd, (.slice Ad kd cd)] 24)) (w1.heap.size) sa (.slice Aa ka ca) := by have h := Box.alloc (Box.alloc (Box.new w1 sa (.slice Aa ka ca)) (.cells #[.bool sb, (.slice Ab kb cb)] 24)) (.cells #[.bool sd, (.slice Ad kd cd)] 24); simpa using h
  replace B_a := Lib.hid B_a
  have B_b : Box (((w1.alloc (.cells #[.bool sa, (.slice Aa ka ca)] 24)).alloc (.cells #[.bool sb, (.slice Ab kb cb)] 24)).alloc (.cells #[.bool sd, (.slice Ad kd cd)] 24)) (w1.heap.size + 1) sb (.slice Ab kb cb) := by have h := Box.alloc (Box.new (w1.alloc (.cells #[.bool sa, (.slice Aa ka ca)] 24)) sb (.slice Ab kb cb)) (.cells #[.bool sd, (.slice Ad kd cd)] 24); simpa using h
  replace B_b := Lib.hid B_b
  have B_d : Box (((w1.alloc (.cells #[.bool sa, (.slice Aa ka ca)] 24)).alloc (.cells #[.bool sb, (.slice Ab kb cb)] 24)).alloc (.cells #[.bool sd, (.slice Ad kd cd)] 24)) (w1.heap.size + 1 + 1) sd (.slice Ad kd cd) := by have h := Box.new ((w1.alloc (.cells #[.bool sa, (.slice Aa ka ca)] 24)).alloc (.cells #[.bool sb, (.slice Ab kb cb)] 24)) sd (.slice Ad kd cd); simpa using h
  replace B_d := Lib.hid B_d
  replace B_x := Lib.hid (BoxR.below B_x.out hb0 B_x.out.lt)
  replace B_r := Lib.hid (Box4.below B_r.out hb0 B_r.out.lt)
  replace V_a := Lib.hid (Rd.below V_a.out hb0)
  replace V_b := Lib.hid (Rd.below V_b.out hb0)
  replace V_d := Lib.hid (Rd.below V_d.out hb0)
  replace HB := Lib.hid (nextw HB.out hb0)
  clear hb0
  have c0b := B_b.out.c0
  have c1b := B_b.out.c1
  have c0d := B_d.out.c0
  have c1d := B_d.out.c1
  go_wp2_with fail
  clear c0b c1b c0d c1d
  generalize ((w1.alloc (.cells #[.bool sa, (.slice Aa ka ca)] 24)).alloc (.cells #[.bool sb, (.slice Ab kb cb)] 24)).alloc (.cells #[.bool sd, (.slice Ad kd cd)] 24) = W1 at *
  refine (New_rd (Rd.below V_b.out (by exact ⟨rfl, rfl, rfl, Nat.le_refl _, fun _ _ => rfl⟩)) (Rd.below V_d.out (by exact ⟨rfl, rfl, rfl, Nat.le_refl _, fun _ _ => rfl⟩)) (by omega)).mono ?_
  rintro e w2 ⟨vq, rfl, rq, bb⟩
  replace bb := nextw (w0 := W1) (by exact ⟨rfl, rfl, rfl, Nat.le_refl _, fun _ _ => rfl⟩) bb
  replace B_x := Lib.hid (BoxR.below B_x.out bb B_x.out.lt)
  replace B_r := Lib.hid (Box4.below B_r.out bb B_r.out.lt)
  replace B_a := Lib.hid (Box.below B_a.out bb B_a.out.lt)
  replace B_b := Lib.hid (Box.below B_b.out bb B_b.out.lt)
  replace B_d := Lib.hid (Box.below B_d.out bb B_d.out.lt)
  replace V_a := Lib.hid (Rd.below V_a.out bb)
  replace V_b := Lib.hid (Rd.below V_b.out bb)
  replace V_d := Lib.hid (Rd.below V_d.out bb)
  replace HB := Lib.hid (nextw HB.out bb)
  clear bb
  obtain ⟨sq, Aq, kq, cq, tq, Cq, lq, dq, rfl⟩ := rq.shape
  have V_q := Lib.hid rq
  clear rq
  skip
  have K_q := V_q
  replace K_q := Lib.hid (Box4.keepsQc B_r.out K_q.out (.bool sq) (.slice Aq kq cq) (.bool tq) (.slice Cq lq dq))
  have HB1 := Lib.hid (Below.store4 HB.out (y := w.heap.size + 1) (by omega) (.bool sq) (.slice Aq kq cq) (.bool tq) (.slice Cq lq dq))
  have N0r := Lib.hid (Box4.store B_r.out sq (.slice Aq kq cq) tq (.slice Cq lq dq))
  have s0r := N0r.out.c0
  have s1r := N0r.out.c1
  have s2r := N0r.out.c2
  have s3r := N0r.out.c3
  simp only [st4] at s0r s1r s2r s3r
  have HBF := HB1
  have c0r := B_r.out.c0
  have c1r := B_r.out.c1
  have c2r := B_r.out.c2
  have c3r := B_r.out.c3
  have f0r := B_r.out.f0
  have f1r := B_r.out.f1
  have f2r := B_r.out.f2
  have f3r := B_r.out.f3
  go_wp2_with fail
  exact bodyPost_ret (v := .agg #[.bool sq, (.slice Aq kq cq), .bool tq, (.slice Cq lq dq)]) (by simp [results, Tryz.results18, go_sem, s0r, s1r, s2r, s3r]) rfl ⟨_, rfl, (Qc.below K_q.out (by exact ⟨rfl, rfl, rfl, Nat.le_refl _, fun _ _ => rfl⟩)).more (by omega), (nextw HBF.out (by exact ⟨rfl, rfl, rfl, Nat.le_refl _, fun _ _ => rfl⟩))⟩
end Go.Proofs.YtccndofafljaaaaGreatDoor
