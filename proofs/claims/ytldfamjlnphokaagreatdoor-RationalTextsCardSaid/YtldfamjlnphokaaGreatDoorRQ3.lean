/- The reference of layer 2: part, Floor, Whole, Div. -/
import Derived.Test.YtldfamjlnphokaaGreatDoorRQ2
import Derived.Test.YtldfamjlnphokaaGreatDoorRDn

set_option linter.unusedVariables false
set_option linter.unusedSimpArgs false

namespace Go.Proofs.YtldfamjlnphokaaGreatDoor
open Go Go.RowKit Num

theorem den_pos2 (r : Rat) : (0 : Int) < r.den := by have := r.den_pos; omega
theorem floor_nd (r : Rat) : r.num / (r.den : Int) = r.floor := by rw [Rat.floor_def]
theorem cmpI_self' (a : Int) : cmpI a a = 0 := by unfold cmpI; rw [if_neg (by omega), if_neg (by omega)]
theorem cmpI_zero' {a b : Int} (h : cmpI a b = 0) : a = b := by unfold cmpI at h; repeat' split at h <;> omega
theorem RCmp_one {v1 v2 : Value} {z1 z2 : Int} {n1 n2 : Nat} {w : World} (h1 : Rd w v1 z1 n1) (h2 : Rd w v2 z2 n2) (f1 : n1 ≤ 10000) (f2 : n2 ≤ 10000) (h : z1 = z2) :
    Calls Tryz.prog 66 #[v1, v2] w fun e w' => e = .returned (.int .i64 0) ∧ Below w.heap.size w w' := by
  subst h
  exact (RCmp_rd h1 h2 (by omega) (by omega)).mono fun e w' ⟨he, hb⟩ => ⟨by rw [he, cmpI_self'], hb⟩

set_option maxRecDepth 100000 in
set_option maxHeartbeats 4000000 in
theorem part_any {v1 v2 : Value} {z1 z2 : Int} {n1 n2 : Nat} {w : World} (h1 : Rd w v1 z1 n1) (h2 : Rd w v2 z2 n2) (f1 : n1 ≤ 10000) (f2 : n2 ≤ 10000) (h0 : 0 < z2) :
    Calls Tryz.prog 69 #[v1, v2] w fun e w' => ∃ v, e = .returned v ∧ Rc w' v (z1 / z2) n1 ∧ Below w.heap.size w w' := by
  have H0 := Lib.hid h0
  clear h0
  obtain ⟨sx, Ax, kx, cx, rfl, -⟩ := h1.shape
  obtain ⟨sy, Ay, ky, cy, rfl, -⟩ := h2.shape
  have V_x := Lib.hid h1
  have V_y := Lib.hid h2
  clear h1 h2
  have hb0 : Below w.heap.size w (((w.alloc (.cells #[.bool sx, (.slice Ax kx cx)] 24)).alloc (.cells #[.bool sy, (.slice Ay ky cy)] 24)).alloc (.cells #[.bool false, (.slice none 0 0)] 24)) := (Below.alloc (Below.alloc (Below.alloc (Below.refl w.heap.size w) (by simp <;> omega) _) (by simp <;> omega) _) (by simp <;> omega) _)
  have B_x : Box (((w.alloc (.cells #[.bool sx, (.slice Ax kx cx)] 24)).alloc (.cells #[.bool sy, (.slice Ay ky cy)] 24)).alloc (.cells #[.bool false, (.slice none 0 0)] 24)) (w.heap.size) sx (.slice Ax kx cx) := by have h := Box.alloc (Box.alloc (Box.new w sx (.slice Ax kx cx)) (.cells #[.bool sy, (.slice Ay ky cy)] 24)) (.cells #[.bool false, (.slice none 0 0)] 24); simpa using h
  replace B_x := Lib.hid B_x
  have B_y : Box (((w.alloc (.cells #[.bool sx, (.slice Ax kx cx)] 24)).alloc (.cells #[.bool sy, (.slice Ay ky cy)] 24)).alloc (.cells #[.bool false, (.slice none 0 0)] 24)) (w.heap.size + 1) sy (.slice Ay ky cy) := by have h := Box.alloc (Box.new (w.alloc (.cells #[.bool sx, (.slice Ax kx cx)] 24)) sy (.slice Ay ky cy)) (.cells #[.bool false, (.slice none 0 0)] 24); simpa using h
  replace B_y := Lib.hid B_y
  have B_r : Box (((w.alloc (.cells #[.bool sx, (.slice Ax kx cx)] 24)).alloc (.cells #[.bool sy, (.slice Ay ky cy)] 24)).alloc (.cells #[.bool false, (.slice none 0 0)] 24)) (w.heap.size + 1 + 1) false (.slice none 0 0) := by have h := Box.new ((w.alloc (.cells #[.bool sx, (.slice Ax kx cx)] 24)).alloc (.cells #[.bool sy, (.slice Ay ky cy)] 24)) false (.slice none 0 0); simpa using h
  replace B_r := Lib.hid B_r
  replace V_x := Lib.hid (Rd.below V_x.out hb0)
  replace V_y := Lib.hid (Rd.below V_y.out hb0)
  have HB := Lib.hid hb0
  clear hb0
  have c0x := B_x.out.c0
  have c1x := B_x.out.c1
  have c0y := B_y.out.c0
  have c1y := B_y.out.c1
  have c0r := B_r.out.c0
  have c1r := B_r.out.c1
  go_enter Tryz.func69, Tryz.ntmps69
  go_wp2_with fail
  clear c0x c1x c0y c1y c0r c1r
  generalize ((w.alloc (.cells #[.bool sx, (.slice Ax kx cx)] 24)).alloc (.cells #[.bool sy, (.slice Ay ky cy)] 24)).alloc (.cells #[.bool false, (.slice none 0 0)] 24) = W0 at *
  refine (RDivMod_rd (Rd.below V_x.out (by exact ⟨rfl, rfl, rfl, Nat.le_refl _, fun _ _ => rfl⟩)) (Rd.below V_y.out (by exact ⟨rfl, rfl, rfl, Nat.le_refl _, fun _ _ => rfl⟩)) f1 f2 H0.out).mono ?_
  rintro e w1 ⟨vq, su, Au, ku, cu, rfl, rq, bb⟩
  replace bb := nextw (w0 := W0) (by exact ⟨rfl, rfl, rfl, Nat.le_refl _, fun _ _ => rfl⟩) bb
  replace B_x := Lib.hid (Box.below B_x.out bb B_x.out.lt)
  replace B_y := Lib.hid (Box.below B_y.out bb B_y.out.lt)
  replace B_r := Lib.hid (Box.below B_r.out bb B_r.out.lt)
  replace V_x := Lib.hid (Rd.below V_x.out bb)
  replace V_y := Lib.hid (Rd.below V_y.out bb)
  replace HB := Lib.hid (nextw HB.out bb)
  clear bb
  obtain ⟨sq, Aq, kq, cq, rfl⟩ := rq.shape
  have V_q := Lib.hid rq
  clear rq
  have Z1x := Lib.hid B_x.out.lt
  have Z2y := Lib.hid B_y.out.lt
  have Z3r := Lib.hid B_r.out.lt
  have hb0 : Below w1.heap.size w1 ((w1.alloc (.cells #[.bool sq, (.slice Aq kq cq)] 24)).alloc (.cells #[.bool su, (.slice Au ku cu)] 24)) := (Below.alloc (Below.alloc (Below.refl w1.heap.size w1) (by simp <;> omega) _) (by simp <;> omega) _)
  have B_q : Box ((w1.alloc (.cells #[.bool sq, (.slice Aq kq cq)] 24)).alloc (.cells #[.bool su, (.slice Au ku cu)] 24)) (w1.heap.size) sq (.slice Aq kq cq) := by have h := Box.alloc (Box.new w1 sq (.slice Aq kq cq)) (.cells #[.bool su, (.slice Au ku cu)] 24); simpa using h
  replace B_q := Lib.hid B_q
  have B_u : Box ((w1.alloc (.cells #[.bool sq, (.slice Aq kq cq)] 24)).alloc (.cells #[.bool su, (.slice Au ku cu)] 24)) (w1.heap.size + 1) su (.slice Au ku cu) := by have h := Box.new (w1.alloc (.cells #[.bool sq, (.slice Aq kq cq)] 24)) su (.slice Au ku cu); simpa using h
  replace B_u := Lib.hid B_u
  replace B_x := Lib.hid (Box.below B_x.out hb0 B_x.out.lt)
  replace B_y := Lib.hid (Box.below B_y.out hb0 B_y.out.lt)
  replace B_r := Lib.hid (Box.below B_r.out hb0 B_r.out.lt)
  replace V_x := Lib.hid (Rd.below V_x.out hb0)
  replace V_y := Lib.hid (Rd.below V_y.out hb0)
  replace V_q := Lib.hid (Rc.below V_q.out hb0)
  replace HB := Lib.hid (nextw HB.out hb0)
  clear hb0
  have c0q := B_q.out.c0
  have c1q := B_q.out.c1
  have c0u := B_u.out.c0
  have c1u := B_u.out.c1
  have c0r := B_r.out.c0
  have c1r := B_r.out.c1
  skip
  have K_q := V_q
  replace K_q := Lib.hid (Box.keepsRc B_r.out K_q.out sq (.slice Aq kq cq))
  have HB1 := Lib.hid (Below.store HB.out (x := w.heap.size + 1 + 1) (by omega) (.bool sq) (.slice Aq kq cq))
  have N0r := Lib.hid (Box.store B_r.out sq (.slice Aq kq cq))
  have s0r := N0r.out.c0
  have s1r := N0r.out.c1
  have HBF := HB1
  have c0r := B_r.out.c0
  have c1r := B_r.out.c1
  have f0r := B_r.out.f0
  have f1r := B_r.out.f1
  go_wp2_with fail
  exact bodyPost_ret (v := .agg #[.bool sq, (.slice Aq kq cq)]) (by simp [results, Tryz.results69, go_sem, s0r, s1r]) rfl ⟨_, rfl, (Rc.below K_q.out (by exact ⟨rfl, rfl, rfl, Nat.le_refl _, fun _ _ => rfl⟩)), (nextw HBF.out (by exact ⟨rfl, rfl, rfl, Nat.le_refl _, fun _ _ => rfl⟩))⟩

set_option maxRecDepth 100000 in
set_option maxHeartbeats 8000000 in
theorem RFloorQ_q {v : Value} {r : Rat} {k : Nat} {w : World} (h : Qd w v r k) (f : k ≤ 2000) :
    Calls Tryz.prog 37 #[v] w fun e w' => ∃ v', e = .returned v' ∧ Rc w' v' r.floor (k + 2) ∧ Below w.heap.size w w' := by
  obtain ⟨sx, Ax, kx, cx, tx, Cx, lx, dx, rfl⟩ := h.form4
  have V_x := Lib.hid h
  clear h
  have HS := Lib.hid (floor_nd r)
  have H0 := Lib.hid (den_pos2 r)
  have hb0 : Below w.heap.size w ((w.alloc (.cells #[.bool sx, (.slice Ax kx cx), .bool tx, (.slice Cx lx dx)] 26)).alloc (.cells #[.bool false, (.slice none 0 0)] 24)) := (Below.alloc (Below.alloc (Below.refl w.heap.size w) (by simp <;> omega) _) (by simp <;> omega) _)
  have B_x : Box4 ((w.alloc (.cells #[.bool sx, (.slice Ax kx cx), .bool tx, (.slice Cx lx dx)] 26)).alloc (.cells #[.bool false, (.slice none 0 0)] 24)) (w.heap.size) sx (.slice Ax kx cx) tx (.slice Cx lx dx) := by have h := Box4.alloc (Box4.new w sx (.slice Ax kx cx) tx (.slice Cx lx dx)) (.cells #[.bool false, (.slice none 0 0)] 24); simpa using h
  replace B_x := Lib.hid B_x
  have B_r : Box ((w.alloc (.cells #[.bool sx, (.slice Ax kx cx), .bool tx, (.slice Cx lx dx)] 26)).alloc (.cells #[.bool false, (.slice none 0 0)] 24)) (w.heap.size + 1) false (.slice none 0 0) := by have h := Box.new (w.alloc (.cells #[.bool sx, (.slice Ax kx cx), .bool tx, (.slice Cx lx dx)] 26)) false (.slice none 0 0); simpa using h
  replace B_r := Lib.hid B_r
  replace V_x := Lib.hid (Qd.below V_x.out hb0)
  have HB := Lib.hid hb0
  clear hb0
  have c0x := B_x.out.c0
  have c1x := B_x.out.c1
  have c2x := B_x.out.c2
  have c3x := B_x.out.c3
  have c0r := B_r.out.c0
  have c1r := B_r.out.c1
  go_enter Tryz.func37, Tryz.ntmps37
  go_wp2_with fail
  clear c0x c1x c2x c3x c0r c1r
  generalize (w.alloc (.cells #[.bool sx, (.slice Ax kx cx), .bool tx, (.slice Cx lx dx)] 26)).alloc (.cells #[.bool false, (.slice none 0 0)] 24) = W0 at *
  refine (RNormQ_q (Qd.below V_x.out (by exact ⟨rfl, rfl, rfl, Nat.le_refl _, fun _ _ => rfl⟩)) (by omega)).mono ?_
  rintro e w1 ⟨vy, rfl, ry, bb⟩
  replace bb := nextw (w0 := W0) (by exact ⟨rfl, rfl, rfl, Nat.le_refl _, fun _ _ => rfl⟩) bb
  replace B_x := Lib.hid (Box4.below B_x.out bb B_x.out.lt)
  replace B_r := Lib.hid (Box.below B_r.out bb B_r.out.lt)
  replace V_x := Lib.hid (Qd.below V_x.out bb)
  replace HB := Lib.hid (nextw HB.out bb)
  clear bb
  clear V_x
  obtain ⟨sy, Ay, ky, cy, ty, Cy, ly, dy, rfl, hny, hdy⟩ := ry.parts
  have V_yn := Lib.hid hny
  have V_yd := Lib.hid hdy
  clear ry hny hdy
  have Z1x := Lib.hid B_x.out.lt
  have Z2r := Lib.hid B_r.out.lt
  have hb0 : Below w1.heap.size w1 (w1.alloc (.cells #[.bool sy, (.slice Ay ky cy), .bool ty, (.slice Cy ly dy)] 26)) := (Below.alloc (Below.refl w1.heap.size w1) (by simp <;> omega) _)
  have B_y : Box4 (w1.alloc (.cells #[.bool sy, (.slice Ay ky cy), .bool ty, (.slice Cy ly dy)] 26)) (w1.heap.size) sy (.slice Ay ky cy) ty (.slice Cy ly dy) := by have h := Box4.new w1 sy (.slice Ay ky cy) ty (.slice Cy ly dy); simpa using h
  replace B_y := Lib.hid B_y
  replace B_x := Lib.hid (Box4.below B_x.out hb0 B_x.out.lt)
  replace B_r := Lib.hid (Box.below B_r.out hb0 B_r.out.lt)
  replace V_yn := Lib.hid (Rc.below V_yn.out hb0)
  replace V_yd := Lib.hid (Rc.below V_yd.out hb0)
  replace HB := Lib.hid (nextw HB.out hb0)
  clear hb0
  have c0y := B_y.out.c0
  have c1y := B_y.out.c1
  have c2y := B_y.out.c2
  have c3y := B_y.out.c3
  have f0y := B_y.out.f0
  have f1y := B_y.out.f1
  have f2y := B_y.out.f2
  have f3y := B_y.out.f3
  have c0r := B_r.out.c0
  have c1r := B_r.out.c1
  have f0r := B_r.out.f0
  have f1r := B_r.out.f1
  go_wp2_with fail
  clear c0y c1y c2y c3y f0y f1y f2y f3y c0r c1r f0r f1r
  generalize w1.alloc (.cells #[.bool sy, (.slice Ay ky cy), .bool ty, (.slice Cy ly dy)] 26) = W1 at *
  refine (part_any (Rc.rd (Rc.below V_yn.out (by exact ⟨rfl, rfl, rfl, Nat.le_refl _, fun _ _ => rfl⟩))) (Rc.rd (Rc.below V_yd.out (by exact ⟨rfl, rfl, rfl, Nat.le_refl _, fun _ _ => rfl⟩))) (by omega) (by omega) H0.out).mono ?_
  rintro e w2 ⟨vq, rfl, rq, bb⟩
  replace bb := nextw (w0 := W1) (by exact ⟨rfl, rfl, rfl, Nat.le_refl _, fun _ _ => rfl⟩) bb
  replace B_x := Lib.hid (Box4.below B_x.out bb B_x.out.lt)
  replace B_r := Lib.hid (Box.below B_r.out bb B_r.out.lt)
  replace B_y := Lib.hid (Box4.below B_y.out bb B_y.out.lt)
  replace V_yn := Lib.hid (Rc.below V_yn.out bb)
  replace V_yd := Lib.hid (Rc.below V_yd.out bb)
  replace HB := Lib.hid (nextw HB.out bb)
  clear bb
  obtain ⟨sq, Aq, kq, cq, rfl⟩ := rq.shape
  have V_q := Lib.hid rq
  clear rq
  skip
  have K_q := V_q
  replace K_q := Lib.hid (Box.keepsRc B_r.out K_q.out sq (.slice Aq kq cq))
  have HB1 := Lib.hid (Below.store HB.out (x := w.heap.size + 1) (by omega) (.bool sq) (.slice Aq kq cq))
  have N0r := Lib.hid (Box.store B_r.out sq (.slice Aq kq cq))
  have s0r := N0r.out.c0
  have s1r := N0r.out.c1
  have HBF := HB1
  have c0r := B_r.out.c0
  have c1r := B_r.out.c1
  have f0r := B_r.out.f0
  have f1r := B_r.out.f1
  go_wp2_with fail
  exact bodyPost_ret (v := .agg #[.bool sq, (.slice Aq kq cq)]) (by simp [results, Tryz.results37, go_sem, s0r, s1r]) rfl ⟨_, rfl, (Rc.below K_q.out (by exact ⟨rfl, rfl, rfl, Nat.le_refl _, fun _ _ => rfl⟩)).of_eq HS.out, (nextw HBF.out (by exact ⟨rfl, rfl, rfl, Nat.le_refl _, fun _ _ => rfl⟩))⟩

set_option maxRecDepth 100000 in
set_option maxHeartbeats 8000000 in
theorem RWhole_yes {v : Value} {r : Rat} {k : Nat} {w : World} (h : Qd w v r k) (f : k ≤ 2000) (h0 : r.den = 1) :
    Calls Tryz.prog 32 #[v] w fun e w' => ∃ v', e = .returned (.tuple #[v', .bool true]) ∧ Rc w' v' r.num (k + 2) ∧ Below w.heap.size w w' := by
  obtain ⟨sx, Ax, kx, cx, tx, Cx, lx, dx, rfl⟩ := h.form4
  have V_x := Lib.hid h
  clear h
  have HW := Lib.hid (show (r.den : Int) = 1 by omega)
  clear h0
  have hb0 : Below w.heap.size w ((w.alloc (.cells #[.bool sx, (.slice Ax kx cx), .bool tx, (.slice Cx lx dx)] 26)).alloc (.cells #[.bool false, (.slice none 0 0)] 24)) := (Below.alloc (Below.alloc (Below.refl w.heap.size w) (by simp <;> omega) _) (by simp <;> omega) _)
  have B_x : Box4 ((w.alloc (.cells #[.bool sx, (.slice Ax kx cx), .bool tx, (.slice Cx lx dx)] 26)).alloc (.cells #[.bool false, (.slice none 0 0)] 24)) (w.heap.size) sx (.slice Ax kx cx) tx (.slice Cx lx dx) := by have h := Box4.alloc (Box4.new w sx (.slice Ax kx cx) tx (.slice Cx lx dx)) (.cells #[.bool false, (.slice none 0 0)] 24); simpa using h
  replace B_x := Lib.hid B_x
  have B_r : Box ((w.alloc (.cells #[.bool sx, (.slice Ax kx cx), .bool tx, (.slice Cx lx dx)] 26)).alloc (.cells #[.bool false, (.slice none 0 0)] 24)) (w.heap.size + 1) false (.slice none 0 0) := by have h := Box.new (w.alloc (.cells #[.bool sx, (.slice Ax kx cx), .bool tx, (.slice Cx lx dx)] 26)) false (.slice none 0 0); simpa using h
  replace B_r := Lib.hid B_r
  replace V_x := Lib.hid (Qd.below V_x.out hb0)
  have HB := Lib.hid hb0
  clear hb0
  have c0x := B_x.out.c0
  have c1x := B_x.out.c1
  have c2x := B_x.out.c2
  have c3x := B_x.out.c3
  have c0r := B_r.out.c0
  have c1r := B_r.out.c1
  go_enter Tryz.func32, Tryz.ntmps32
  go_wp2_with fail
  clear c0x c1x c2x c3x c0r c1r
  generalize (w.alloc (.cells #[.bool sx, (.slice Ax kx cx), .bool tx, (.slice Cx lx dx)] 26)).alloc (.cells #[.bool false, (.slice none 0 0)] 24) = W0 at *
  refine (RNormQ_q (Qd.below V_x.out (by exact ⟨rfl, rfl, rfl, Nat.le_refl _, fun _ _ => rfl⟩)) (by omega)).mono ?_
  rintro e w1 ⟨vy, rfl, ry, bb⟩
  replace bb := nextw (w0 := W0) (by exact ⟨rfl, rfl, rfl, Nat.le_refl _, fun _ _ => rfl⟩) bb
  replace B_x := Lib.hid (Box4.below B_x.out bb B_x.out.lt)
  replace B_r := Lib.hid (Box.below B_r.out bb B_r.out.lt)
  replace V_x := Lib.hid (Qd.below V_x.out bb)
  replace HB := Lib.hid (nextw HB.out bb)
  clear bb
  clear V_x
  obtain ⟨sy, Ay, ky, cy, ty, Cy, ly, dy, rfl, hny, hdy⟩ := ry.parts
  have V_yn := Lib.hid hny
  have V_yd := Lib.hid hdy
  clear ry hny hdy
  have Z1x := Lib.hid B_x.out.lt
  have Z2r := Lib.hid B_r.out.lt
  have hb0 : Below w1.heap.size w1 (w1.alloc (.cells #[.bool sy, (.slice Ay ky cy), .bool ty, (.slice Cy ly dy)] 26)) := (Below.alloc (Below.refl w1.heap.size w1) (by simp <;> omega) _)
  have B_y : Box4 (w1.alloc (.cells #[.bool sy, (.slice Ay ky cy), .bool ty, (.slice Cy ly dy)] 26)) (w1.heap.size) sy (.slice Ay ky cy) ty (.slice Cy ly dy) := by have h := Box4.new w1 sy (.slice Ay ky cy) ty (.slice Cy ly dy); simpa using h
  replace B_y := Lib.hid B_y
  replace B_x := Lib.hid (Box4.below B_x.out hb0 B_x.out.lt)
  replace B_r := Lib.hid (Box.below B_r.out hb0 B_r.out.lt)
  replace V_yn := Lib.hid (Rc.below V_yn.out hb0)
  replace V_yd := Lib.hid (Rc.below V_yd.out hb0)
  replace HB := Lib.hid (nextw HB.out hb0)
  clear hb0
  have c0y := B_y.out.c0
  have c1y := B_y.out.c1
  have c2y := B_y.out.c2
  have c3y := B_y.out.c3
  have f0y := B_y.out.f0
  have f1y := B_y.out.f1
  have f2y := B_y.out.f2
  have f3y := B_y.out.f3
  have c0r := B_r.out.c0
  have c1r := B_r.out.c1
  have f0r := B_r.out.f0
  have f1r := B_r.out.f1
  go_wp2
  clear c0y c1y c2y c3y f0y f1y f2y f3y c0r c1r f0r f1r
  generalize w1.alloc (.cells #[.bool sy, (.slice Ay ky cy), .bool ty, (.slice Cy ly dy)] 26) = W1 at *
  have c0y := B_y.out.c0
  have c1y := B_y.out.c1
  have c2y := B_y.out.c2
  have c3y := B_y.out.c3
  have z1x := Z1x.out
  have z2r := Z2r.out
  have tk0 : True := trivial
  first | (go_region_held3 (fun w' => w'.cell? ⟨w1.heap.size, 0, none⟩ = some (.bool sy) ∧ w'.cell? ⟨w1.heap.size, 1, none⟩ = some (.slice Ay ky cy) ∧ w'.cell? ⟨w1.heap.size, 2, none⟩ = some (.bool ty) ∧ w'.cell? ⟨w1.heap.size, 3, none⟩ = some (.slice Cy ly dy)) (((try dsimp only); (repeat' apply And.intro) <;> (first | (with_reducible assumption) | ((repeat (first | (with_reducible refine Eq.trans (cell_drew1 _ _) ?_) | (with_reducible refine Eq.trans (cell_set4 (by omega) _ _ _ _) ?_))); with_reducible assumption) | assumption | go_keep)))
    (first
      | (have _t := tk0; clear _t tk0; go_at_call 67; refine (ROne_rc).mono ?_; rintro e w2 ⟨vi, rfl, ri, bb⟩; replace bb := nextw (w0 := W1) (by exact ⟨rfl, rfl, rfl, Nat.le_refl _, fun _ _ => rfl⟩) bb; replace B_x := Lib.hid (Box4.below B_x.out bb B_x.out.lt); replace B_r := Lib.hid (Box.below B_r.out bb B_r.out.lt); replace B_y := Lib.hid (Box4.below B_y.out bb B_y.out.lt); replace V_yn := Lib.hid (Rc.below V_yn.out bb); replace V_yd := Lib.hid (Rc.below V_yd.out bb); replace HB := Lib.hid (nextw HB.out bb); clear bb; replace ri := Lib.hid ri; have V_i := ri; clear ri; have c0y := B_y.out.c0; have c1y := B_y.out.c1; have c2y := B_y.out.c2; have c3y := B_y.out.c3; have tk1 : True := trivial)
      | (have _t := tk1; clear _t tk1; go_at_call 66; refine (RCmp_one (Rc.rd (Rc.below V_yd.out (by exact ⟨rfl, rfl, rfl, Nat.le_refl _, fun _ _ => rfl⟩))) (Rc.rd (Rc.below V_i.out (by exact ⟨rfl, rfl, rfl, Nat.le_refl _, fun _ _ => rfl⟩))) (by omega) (by omega) HW.out).mono ?_; rintro e w3 ⟨rfl, bb⟩; replace bb := nextw (w0 := w2) (by exact ⟨rfl, rfl, rfl, Nat.le_refl _, fun _ _ => rfl⟩) bb; clear V_yd V_i; replace B_x := Lib.hid (Box4.below B_x.out bb B_x.out.lt); replace B_r := Lib.hid (Box.below B_r.out bb B_r.out.lt); replace B_y := Lib.hid (Box4.below B_y.out bb B_y.out.lt); replace V_yn := Lib.hid (Rc.below V_yn.out bb); replace HB := Lib.hid (nextw HB.out bb); clear bb; have c0y := B_y.out.c0; have c1y := B_y.out.c1; have c2y := B_y.out.c2; have c3y := B_y.out.c3; have tk2 : True := trivial))) | fail
  all_goals (clear z1x z2r)
  have c0y := B_y.out.c0
  have c1y := B_y.out.c1
  have c2y := B_y.out.c2
  have c3y := B_y.out.c3
  have f0y := B_y.out.f0
  have f1y := B_y.out.f1
  have f2y := B_y.out.f2
  have f3y := B_y.out.f3
  have c0r := B_r.out.c0
  have c1r := B_r.out.c1
  have f0r := B_r.out.f0
  have f1r := B_r.out.f1
  skip
  have K_yn := V_yn
  replace K_yn := Lib.hid (Box.keepsRc B_r.out K_yn.out sy (.slice Ay ky cy))
  have HB1 := Lib.hid (Below.store HB.out (x := w.heap.size + 1) (by omega) (.bool sy) (.slice Ay ky cy))
  have N0r := Lib.hid (Box.store B_r.out sy (.slice Ay ky cy))
  have s0r := N0r.out.c0
  have s1r := N0r.out.c1
  have HBF := HB1
  have c0r := B_r.out.c0
  have c1r := B_r.out.c1
  have f0r := B_r.out.f0
  have f1r := B_r.out.f1
  go_wp2_with fail
  exact bodyPost_ret (v := .tuple #[.agg #[.bool sy, (.slice Ay ky cy)], .bool true]) (by simp [results, Tryz.results32, go_sem, s0r, s1r]) rfl ⟨_, rfl, (Rc.below K_yn.out (by exact ⟨rfl, rfl, rfl, Nat.le_refl _, fun _ _ => rfl⟩)), (nextw HBF.out (by exact ⟨rfl, rfl, rfl, Nat.le_refl _, fun _ _ => rfl⟩))⟩

theorem RCmp_nz {v1 v2 : Value} {z1 z2 : Int} {n1 n2 : Nat} {w : World} (h1 : Rd w v1 z1 n1) (h2 : Rd w v2 z2 n2) (f1 : n1 ≤ 10000) (f2 : n2 ≤ 10000) (h : z1 ≠ z2) :
    Calls Tryz.prog 66 #[v1, v2] w fun e w' => ∃ c : Int, (c == 0) = false ∧ e = .returned (.int .i64 c) ∧ Below w.heap.size w w' :=
  (RCmp_rd h1 h2 (by omega) (by omega)).mono fun e w' ⟨he, hb⟩ => ⟨_, by rw [beq_eq_false_iff_ne]; exact fun h3 => h (cmpI_zero' h3), he, hb⟩

set_option maxRecDepth 100000 in
set_option maxHeartbeats 8000000 in
theorem RWhole_no {v : Value} {r : Rat} {k : Nat} {w : World} (h : Qd w v r k) (f : k ≤ 2000) (h0 : r.den ≠ 1) :
    Calls Tryz.prog 32 #[v] w fun e w' => ∃ v', e = .returned (.tuple #[v', .bool false]) ∧ Rc w' v' 0 (k + 2) ∧ Below w.heap.size w w' := by
  obtain ⟨sx, Ax, kx, cx, tx, Cx, lx, dx, rfl⟩ := h.form4
  have V_x := Lib.hid h
  clear h
  have HW := Lib.hid (show (r.den : Int) ≠ 1 by omega)
  clear h0
  have hb0 : Below w.heap.size w ((w.alloc (.cells #[.bool sx, (.slice Ax kx cx), .bool tx, (.slice Cx lx dx)] 26)).alloc (.cells #[.bool false, (.slice none 0 0)] 24)) := (Below.alloc (Below.alloc (Below.refl w.heap.size w) (by simp <;> omega) _) (by simp <;> omega) _)
  have B_x : Box4 ((w.alloc (.cells #[.bool sx, (.slice Ax kx cx), .bool tx, (.slice Cx lx dx)] 26)).alloc (.cells #[.bool false, (.slice none 0 0)] 24)) (w.heap.size) sx (.slice Ax kx cx) tx (.slice Cx lx dx) := by have h := Box4.alloc (Box4.new w sx (.slice Ax kx cx) tx (.slice Cx lx dx)) (.cells #[.bool false, (.slice none 0 0)] 24); simpa using h
  replace B_x := Lib.hid B_x
  have B_r : Box ((w.alloc (.cells #[.bool sx, (.slice Ax kx cx), .bool tx, (.slice Cx lx dx)] 26)).alloc (.cells #[.bool false, (.slice none 0 0)] 24)) (w.heap.size + 1) false (.slice none 0 0) := by have h := Box.new (w.alloc (.cells #[.bool sx, (.slice Ax kx cx), .bool tx, (.slice Cx lx dx)] 26)) false (.slice none 0 0); simpa using h
  replace B_r := Lib.hid B_r
  replace V_x := Lib.hid (Qd.below V_x.out hb0)
  have HB := Lib.hid hb0
  clear hb0
  have c0x := B_x.out.c0
  have c1x := B_x.out.c1
  have c2x := B_x.out.c2
  have c3x := B_x.out.c3
  have c0r := B_r.out.c0
  have c1r := B_r.out.c1
  go_enter Tryz.func32, Tryz.ntmps32
  go_wp2_with fail
  clear c0x c1x c2x c3x c0r c1r
  generalize (w.alloc (.cells #[.bool sx, (.slice Ax kx cx), .bool tx, (.slice Cx lx dx)] 26)).alloc (.cells #[.bool false, (.slice none 0 0)] 24) = W0 at *
  refine (RNormQ_q (Qd.below V_x.out (by exact ⟨rfl, rfl, rfl, Nat.le_refl _, fun _ _ => rfl⟩)) (by omega)).mono ?_
  rintro e w1 ⟨vy, rfl, ry, bb⟩
  replace bb := nextw (w0 := W0) (by exact ⟨rfl, rfl, rfl, Nat.le_refl _, fun _ _ => rfl⟩) bb
  replace B_x := Lib.hid (Box4.below B_x.out bb B_x.out.lt)
  replace B_r := Lib.hid (Box.below B_r.out bb B_r.out.lt)
  replace V_x := Lib.hid (Qd.below V_x.out bb)
  replace HB := Lib.hid (nextw HB.out bb)
  clear bb
  clear V_x
  obtain ⟨sy, Ay, ky, cy, ty, Cy, ly, dy, rfl, hny, hdy⟩ := ry.parts
  have V_yn := Lib.hid hny
  have V_yd := Lib.hid hdy
  clear ry hny hdy
  have Z1x := Lib.hid B_x.out.lt
  have Z2r := Lib.hid B_r.out.lt
  have hb0 : Below w1.heap.size w1 (w1.alloc (.cells #[.bool sy, (.slice Ay ky cy), .bool ty, (.slice Cy ly dy)] 26)) := (Below.alloc (Below.refl w1.heap.size w1) (by simp <;> omega) _)
  have B_y : Box4 (w1.alloc (.cells #[.bool sy, (.slice Ay ky cy), .bool ty, (.slice Cy ly dy)] 26)) (w1.heap.size) sy (.slice Ay ky cy) ty (.slice Cy ly dy) := by have h := Box4.new w1 sy (.slice Ay ky cy) ty (.slice Cy ly dy); simpa using h
  replace B_y := Lib.hid B_y
  replace B_x := Lib.hid (Box4.below B_x.out hb0 B_x.out.lt)
  replace B_r := Lib.hid (Box.below B_r.out hb0 B_r.out.lt)
  replace V_yn := Lib.hid (Rc.below V_yn.out hb0)
  replace V_yd := Lib.hid (Rc.below V_yd.out hb0)
  replace HB := Lib.hid (nextw HB.out hb0)
  clear hb0
  have c0y := B_y.out.c0
  have c1y := B_y.out.c1
  have c2y := B_y.out.c2
  have c3y := B_y.out.c3
  have f0y := B_y.out.f0
  have f1y := B_y.out.f1
  have f2y := B_y.out.f2
  have f3y := B_y.out.f3
  have c0r := B_r.out.c0
  have c1r := B_r.out.c1
  have f0r := B_r.out.f0
  have f1r := B_r.out.f1
  go_wp2
  clear c0y c1y c2y c3y f0y f1y f2y f3y c0r c1r f0r f1r
  generalize w1.alloc (.cells #[.bool sy, (.slice Ay ky cy), .bool ty, (.slice Cy ly dy)] 26) = W1 at *
  have c0y := B_y.out.c0
  have c1y := B_y.out.c1
  have c2y := B_y.out.c2
  have c3y := B_y.out.c3
  have z1x := Z1x.out
  have z2r := Z2r.out
  have tk0 : True := trivial
  first | (go_region_held3 (fun w' => w'.cell? ⟨w1.heap.size, 0, none⟩ = some (.bool sy) ∧ w'.cell? ⟨w1.heap.size, 1, none⟩ = some (.slice Ay ky cy) ∧ w'.cell? ⟨w1.heap.size, 2, none⟩ = some (.bool ty) ∧ w'.cell? ⟨w1.heap.size, 3, none⟩ = some (.slice Cy ly dy)) (((try dsimp only); (repeat' apply And.intro) <;> (first | (with_reducible assumption) | ((repeat (first | (with_reducible refine Eq.trans (cell_drew1 _ _) ?_) | (with_reducible refine Eq.trans (cell_set4 (by omega) _ _ _ _) ?_))); with_reducible assumption) | assumption | go_keep)))
    (first
      | (have _t := tk0; clear _t tk0; go_at_call 67; refine (ROne_rc).mono ?_; rintro e w2 ⟨vi, rfl, ri, bb⟩; replace bb := nextw (w0 := W1) (by exact ⟨rfl, rfl, rfl, Nat.le_refl _, fun _ _ => rfl⟩) bb; replace B_x := Lib.hid (Box4.below B_x.out bb B_x.out.lt); replace B_r := Lib.hid (Box.below B_r.out bb B_r.out.lt); replace B_y := Lib.hid (Box4.below B_y.out bb B_y.out.lt); replace V_yn := Lib.hid (Rc.below V_yn.out bb); replace V_yd := Lib.hid (Rc.below V_yd.out bb); replace HB := Lib.hid (nextw HB.out bb); clear bb; replace ri := Lib.hid ri; have V_i := ri; clear ri; have c0y := B_y.out.c0; have c1y := B_y.out.c1; have c2y := B_y.out.c2; have c3y := B_y.out.c3; have tk1 : True := trivial)
      | (have _t := tk1; clear _t tk1; go_at_call 66; refine (RCmp_nz (Rc.rd (Rc.below V_yd.out (by exact ⟨rfl, rfl, rfl, Nat.le_refl _, fun _ _ => rfl⟩))) (Rc.rd (Rc.below V_i.out (by exact ⟨rfl, rfl, rfl, Nat.le_refl _, fun _ _ => rfl⟩))) (by omega) (by omega) HW.out).mono ?_; rintro e w3 ⟨cs, hcs, rfl, bb⟩; replace bb := nextw (w0 := w2) (by exact ⟨rfl, rfl, rfl, Nat.le_refl _, fun _ _ => rfl⟩) bb; clear V_yd V_i; replace B_x := Lib.hid (Box4.below B_x.out bb B_x.out.lt); replace B_r := Lib.hid (Box.below B_r.out bb B_r.out.lt); replace B_y := Lib.hid (Box4.below B_y.out bb B_y.out.lt); replace V_yn := Lib.hid (Rc.below V_yn.out bb); replace HB := Lib.hid (nextw HB.out bb); clear bb; have c0y := B_y.out.c0; have c1y := B_y.out.c1; have c2y := B_y.out.c2; have c3y := B_y.out.c3; have tk2 : True := trivial))) | fail
  all_goals (clear z1x z2r)
  have c0y := B_y.out.c0
  have c1y := B_y.out.c1
  have c2y := B_y.out.c2
  have c3y := B_y.out.c3
  have f0y := B_y.out.f0
  have f1y := B_y.out.f1
  have f2y := B_y.out.f2
  have f3y := B_y.out.f3
  have c0r := B_r.out.c0
  have c1r := B_r.out.c1
  have f0r := B_r.out.f0
  have f1r := B_r.out.f1
  skip
  have HB1 := Lib.hid (Below.store HB.out (x := w.heap.size + 1) (by omega) (.bool false) (.slice none 0 0))
  have N0r := Lib.hid (Box.store B_r.out false (.slice none 0 0))
  have s0r := N0r.out.c0
  have s1r := N0r.out.c1
  have HBF := HB1
  have c0r := B_r.out.c0
  have c1r := B_r.out.c1
  have f0r := B_r.out.f0
  have f1r := B_r.out.f1
  go_wp2_with fail
  exact bodyPost_ret (v := .tuple #[.agg #[.bool false, (.slice none 0 0)], .bool false]) (by simp [results, Tryz.results32, go_sem, s0r, s1r]) rfl ⟨_, rfl, Rc_zero _ _, (nextw HBF.out (by exact ⟨rfl, rfl, rfl, Nat.le_refl _, fun _ _ => rfl⟩))⟩

set_option maxRecDepth 100000 in
set_option maxHeartbeats 8000000 in
theorem RDivQ_zero {v1 v2 : Value} {r1 r2 : Rat} {k1 k2 : Nat} {w : World} (h1 : Qd w v1 r1 k1) (h2 : Qd w v2 r2 k2) (f1 : k1 ≤ 800) (f2 : k2 ≤ 800) (h0 : r2 = 0) :
    Calls Tryz.prog 30 #[v1, v2] w fun e w' => ∃ v', e = .returned (.tuple #[v', .int .i64 10]) ∧ v' = .agg #[.bool false, .slice none 0 0, .bool false, .slice none 0 0] ∧ Below w.heap.size w w' := by
  have H0 := Lib.hid h0
  clear h0
  obtain ⟨sa, Aa, ka, ca, ta, Ca, la, da, rfl⟩ := h1.form4
  obtain ⟨sb, Ab, kb, cb, tb, Cb, lb, db, rfl⟩ := h2.form4
  have V_a := Lib.hid h1
  have V_b := Lib.hid h2
  clear h1 h2
  have HC := Lib.hid (div_nd r1 r2)
  have hb0 : Below w.heap.size w (((w.alloc (.cells #[.bool sa, (.slice Aa ka ca), .bool ta, (.slice Ca la da)] 26)).alloc (.cells #[.bool sb, (.slice Ab kb cb), .bool tb, (.slice Cb lb db)] 26)).alloc (.cells #[.bool false, (.slice none 0 0), .bool false, (.slice none 0 0)] 26)) := (Below.alloc (Below.alloc (Below.alloc (Below.refl w.heap.size w) (by simp <;> omega) _) (by simp <;> omega) _) (by simp <;> omega) _)
  have B_a : Box4 (((w.alloc (.cells #[.bool sa, (.slice Aa ka ca), .bool ta, (.slice Ca la da)] 26)).alloc (.cells #[.bool sb, (.slice Ab kb cb), .bool tb, (.slice Cb lb db)] 26)).alloc (.cells #[.bool false, (.slice none 0 0), .bool false, (.slice none 0 0)] 26)) (w.heap.size) sa (.slice Aa ka ca) ta (.slice Ca la da) := by have h := Box4.alloc (Box4.alloc (Box4.new w sa (.slice Aa ka ca) ta (.slice Ca la da)) (.cells #[.bool sb, (.slice Ab kb cb), .bool tb, (.slice Cb lb db)] 26)) (.cells #[.bool false, (.slice none 0 0), .bool false, (.slice none 0 0)] 26); simpa using h
  replace B_a := Lib.hid B_a
  have B_b : Box4 (((w.alloc (.cells #[.bool sa, (.slice Aa ka ca), .bool ta, (.slice Ca la da)] 26)).alloc (.cells #[.bool sb, (.slice Ab kb cb), .bool tb, (.slice Cb lb db)] 26)).alloc (.cells #[.bool false, (.slice none 0 0), .bool false, (.slice none 0 0)] 26)) (w.heap.size + 1) sb (.slice Ab kb cb) tb (.slice Cb lb db) := by have h := Box4.alloc (Box4.new (w.alloc (.cells #[.bool sa, (.slice Aa ka ca), .bool ta, (.slice Ca la da)] 26)) sb (.slice Ab kb cb) tb (.slice Cb lb db)) (.cells #[.bool false, (.slice none 0 0), .bool false, (.slice none 0 0)] 26); simpa using h
  replace B_b := Lib.hid B_b
  have B_r : Box4 (((w.alloc (.cells #[.bool sa, (.slice Aa ka ca), .bool ta, (.slice Ca la da)] 26)).alloc (.cells #[.bool sb, (.slice Ab kb cb), .bool tb, (.slice Cb lb db)] 26)).alloc (.cells #[.bool false, (.slice none 0 0), .bool false, (.slice none 0 0)] 26)) (w.heap.size + 1 + 1) false (.slice none 0 0) false (.slice none 0 0) := by have h := Box4.new ((w.alloc (.cells #[.bool sa, (.slice Aa ka ca), .bool ta, (.slice Ca la da)] 26)).alloc (.cells #[.bool sb, (.slice Ab kb cb), .bool tb, (.slice Cb lb db)] 26)) false (.slice none 0 0) false (.slice none 0 0); simpa using h
  replace B_r := Lib.hid B_r
  replace V_a := Lib.hid (Qd.below V_a.out hb0)
  replace V_b := Lib.hid (Qd.below V_b.out hb0)
  have HB := Lib.hid hb0
  clear hb0
  have c0a := B_a.out.c0
  have c1a := B_a.out.c1
  have c2a := B_a.out.c2
  have c3a := B_a.out.c3
  have c0b := B_b.out.c0
  have c1b := B_b.out.c1
  have c2b := B_b.out.c2
  have c3b := B_b.out.c3
  have c0r := B_r.out.c0
  have c1r := B_r.out.c1
  have c2r := B_r.out.c2
  have c3r := B_r.out.c3
  go_enter Tryz.func30, Tryz.ntmps30
  go_wp2_with fail
  clear c0a c1a c2a c3a c0b c1b c2b c3b c0r c1r c2r c3r
  generalize ((w.alloc (.cells #[.bool sa, (.slice Aa ka ca), .bool ta, (.slice Ca la da)] 26)).alloc (.cells #[.bool sb, (.slice Ab kb cb), .bool tb, (.slice Cb lb db)] 26)).alloc (.cells #[.bool false, (.slice none 0 0), .bool false, (.slice none 0 0)] 26) = W0 at *
  refine (RNormQ_q (Qd.below V_a.out (by exact ⟨rfl, rfl, rfl, Nat.le_refl _, fun _ _ => rfl⟩)) (by omega)).mono ?_
  rintro e w1 ⟨vx, rfl, rx, bb⟩
  replace bb := nextw (w0 := W0) (by exact ⟨rfl, rfl, rfl, Nat.le_refl _, fun _ _ => rfl⟩) bb
  replace B_a := Lib.hid (Box4.below B_a.out bb B_a.out.lt)
  replace B_b := Lib.hid (Box4.below B_b.out bb B_b.out.lt)
  replace B_r := Lib.hid (Box4.below B_r.out bb B_r.out.lt)
  replace V_a := Lib.hid (Qd.below V_a.out bb)
  replace V_b := Lib.hid (Qd.below V_b.out bb)
  replace HB := Lib.hid (nextw HB.out bb)
  clear bb
  clear V_a
  obtain ⟨sx, Ax, kx, cx, tx, Cx, lx, dx, rfl, hnx, hdx⟩ := rx.parts
  have V_xn := Lib.hid hnx
  have V_xd := Lib.hid hdx
  clear rx hnx hdx
  have Z1a := Lib.hid B_a.out.lt
  have Z2b := Lib.hid B_b.out.lt
  have Z3r := Lib.hid B_r.out.lt
  have hb0 : Below w1.heap.size w1 (w1.alloc (.cells #[.bool sx, (.slice Ax kx cx), .bool tx, (.slice Cx lx dx)] 26)) := (Below.alloc (Below.refl w1.heap.size w1) (by simp <;> omega) _)
  have B_x : Box4 (w1.alloc (.cells #[.bool sx, (.slice Ax kx cx), .bool tx, (.slice Cx lx dx)] 26)) (w1.heap.size) sx (.slice Ax kx cx) tx (.slice Cx lx dx) := by have h := Box4.new w1 sx (.slice Ax kx cx) tx (.slice Cx lx dx); simpa using h
  replace B_x := Lib.hid B_x
  replace B_a := Lib.hid (Box4.below B_a.out hb0 B_a.out.lt)
  replace B_b := Lib.hid (Box4.below B_b.out hb0 B_b.out.lt)
  replace B_r := Lib.hid (Box4.below B_r.out hb0 B_r.out.lt)
  replace V_b := Lib.hid (Qd.below V_b.out hb0)
  replace V_xn := Lib.hid (Rc.below V_xn.out hb0)
  replace V_xd := Lib.hid (Rc.below V_xd.out hb0)
  replace HB := Lib.hid (nextw HB.out hb0)
  clear hb0
  have c0b := B_b.out.c0
  have c1b := B_b.out.c1
  have c2b := B_b.out.c2
  have c3b := B_b.out.c3
  have c0x := B_x.out.c0
  have c1x := B_x.out.c1
  have c2x := B_x.out.c2
  have c3x := B_x.out.c3
  have c0r := B_r.out.c0
  have c1r := B_r.out.c1
  have c2r := B_r.out.c2
  have c3r := B_r.out.c3
  go_wp2_with fail
  clear c0b c1b c2b c3b c0x c1x c2x c3x c0r c1r c2r c3r
  generalize w1.alloc (.cells #[.bool sx, (.slice Ax kx cx), .bool tx, (.slice Cx lx dx)] 26) = W1 at *
  refine (RNormQ_q (Qd.below V_b.out (by exact ⟨rfl, rfl, rfl, Nat.le_refl _, fun _ _ => rfl⟩)) (by omega)).mono ?_
  rintro e w2 ⟨vy, rfl, ry, bb⟩
  replace bb := nextw (w0 := W1) (by exact ⟨rfl, rfl, rfl, Nat.le_refl _, fun _ _ => rfl⟩) bb
  replace B_a := Lib.hid (Box4.below B_a.out bb B_a.out.lt)
  replace B_b := Lib.hid (Box4.below B_b.out bb B_b.out.lt)
  replace B_r := Lib.hid (Box4.below B_r.out bb B_r.out.lt)
  replace B_x := Lib.hid (Box4.below B_x.out bb B_x.out.lt)
  replace V_b := Lib.hid (Qd.below V_b.out bb)
  replace V_xn := Lib.hid (Rc.below V_xn.out bb)
  replace V_xd := Lib.hid (Rc.below V_xd.out bb)
  replace HB := Lib.hid (nextw HB.out bb)
  clear bb
  clear V_b
  obtain ⟨sy, Ay, ky, cy, ty, Cy, ly, dy, rfl, hny, hdy⟩ := ry.parts
  have V_yn := Lib.hid hny
  have V_yd := Lib.hid hdy
  clear ry hny hdy
  have Z4a := Lib.hid B_a.out.lt
  have Z5b := Lib.hid B_b.out.lt
  have Z6r := Lib.hid B_r.out.lt
  have Z7x := Lib.hid B_x.out.lt
  have hb0 : Below w2.heap.size w2 (w2.alloc (.cells #[.bool sy, (.slice Ay ky cy), .bool ty, (.slice Cy ly dy)] 26)) := (Below.alloc (Below.refl w2.heap.size w2) (by simp <;> omega) _)
  have B_y : Box4 (w2.alloc (.cells #[.bool sy, (.slice Ay ky cy), .bool ty, (.slice Cy ly dy)] 26)) (w2.heap.size) sy (.slice Ay ky cy) ty (.slice Cy ly dy) := by have h := Box4.new w2 sy (.slice Ay ky cy) ty (.slice Cy ly dy); simpa using h
  replace B_y := Lib.hid B_y
  replace B_a := Lib.hid (Box4.below B_a.out hb0 B_a.out.lt)
  replace B_b := Lib.hid (Box4.below B_b.out hb0 B_b.out.lt)
  replace B_r := Lib.hid (Box4.below B_r.out hb0 B_r.out.lt)
  replace B_x := Lib.hid (Box4.below B_x.out hb0 B_x.out.lt)
  replace V_xn := Lib.hid (Rc.below V_xn.out hb0)
  replace V_xd := Lib.hid (Rc.below V_xd.out hb0)
  replace V_yn := Lib.hid (Rc.below V_yn.out hb0)
  replace V_yd := Lib.hid (Rc.below V_yd.out hb0)
  replace HB := Lib.hid (nextw HB.out hb0)
  clear hb0
  have c0x := B_x.out.c0
  have c1x := B_x.out.c1
  have c2x := B_x.out.c2
  have c3x := B_x.out.c3
  have f0x := B_x.out.f0
  have f1x := B_x.out.f1
  have f2x := B_x.out.f2
  have f3x := B_x.out.f3
  have c0y := B_y.out.c0
  have c1y := B_y.out.c1
  have c2y := B_y.out.c2
  have c3y := B_y.out.c3
  have f0y := B_y.out.f0
  have f1y := B_y.out.f1
  have f2y := B_y.out.f2
  have f3y := B_y.out.f3
  have c0r := B_r.out.c0
  have c1r := B_r.out.c1
  have c2r := B_r.out.c2
  have c3r := B_r.out.c3
  have f0r := B_r.out.f0
  have f1r := B_r.out.f1
  have f2r := B_r.out.f2
  have f3r := B_r.out.f3
  go_wp2_with fail
  clear c0x c1x c2x c3x f0x f1x f2x f3x c0y c1y c2y c3y f0y f1y f2y f3y c0r c1r c2r c3r f0r f1r f2r f3r
  generalize w2.alloc (.cells #[.bool sy, (.slice Ay ky cy), .bool ty, (.slice Cy ly dy)] 26) = W2 at *
  refine (RSignQ_q (Qc.qd (Qc.mk (Rc.below V_yn.out (by exact ⟨rfl, rfl, rfl, Nat.le_refl _, fun _ _ => rfl⟩)) (Rc.below V_yd.out (by exact ⟨rfl, rfl, rfl, Nat.le_refl _, fun _ _ => rfl⟩)))) (by omega)).mono ?_
  rintro e w3 ⟨rfl, bb⟩
  replace bb := nextw (w0 := W2) (by exact ⟨rfl, rfl, rfl, Nat.le_refl _, fun _ _ => rfl⟩) bb
  replace B_a := Lib.hid (Box4.below B_a.out bb B_a.out.lt)
  replace B_b := Lib.hid (Box4.below B_b.out bb B_b.out.lt)
  replace B_r := Lib.hid (Box4.below B_r.out bb B_r.out.lt)
  replace B_x := Lib.hid (Box4.below B_x.out bb B_x.out.lt)
  replace B_y := Lib.hid (Box4.below B_y.out bb B_y.out.lt)
  replace V_xn := Lib.hid (Rc.below V_xn.out bb)
  replace V_xd := Lib.hid (Rc.below V_xd.out bb)
  replace V_yn := Lib.hid (Rc.below V_yn.out bb)
  replace V_yd := Lib.hid (Rc.below V_yd.out bb)
  replace HB := Lib.hid (nextw HB.out bb)
  clear bb
  have c0x := B_x.out.c0
  have c1x := B_x.out.c1
  have c2x := B_x.out.c2
  have c3x := B_x.out.c3
  have f0x := B_x.out.f0
  have f1x := B_x.out.f1
  have f2x := B_x.out.f2
  have f3x := B_x.out.f3
  have c0y := B_y.out.c0
  have c1y := B_y.out.c1
  have c2y := B_y.out.c2
  have c3y := B_y.out.c3
  have f0y := B_y.out.f0
  have f1y := B_y.out.f1
  have f2y := B_y.out.f2
  have f3y := B_y.out.f3
  have c0r := B_r.out.c0
  have c1r := B_r.out.c1
  have c2r := B_r.out.c2
  have c3r := B_r.out.c3
  have f0r := B_r.out.f0
  have f1r := B_r.out.f1
  have f2r := B_r.out.f2
  have f3r := B_r.out.f3
  rw [sgn_ne.2 H0.out]
  skip
  have HB1 := Lib.hid (Below.store4 HB.out (y := w.heap.size + 1 + 1) (by omega) (.bool false) (.slice none 0 0) (.bool false) (.slice none 0 0))
  have N0r := Lib.hid (Box4.store B_r.out false (.slice none 0 0) false (.slice none 0 0))
  have s0r := N0r.out.c0
  have s1r := N0r.out.c1
  have s2r := N0r.out.c2
  have s3r := N0r.out.c3
  simp only [st4] at s0r s1r s2r s3r
  have HBF := HB1
  have c0r := B_r.out.c0
  have c1r := B_r.out.c1
  have c2r := B_r.out.c2
  have c3r := B_r.out.c3
  have f0r := B_r.out.f0
  have f1r := B_r.out.f1
  have f2r := B_r.out.f2
  have f3r := B_r.out.f3
  go_wp2_with fail
  exact bodyPost_ret (v := .tuple #[.agg #[.bool false, (.slice none 0 0), .bool false, (.slice none 0 0)], .int .i64 10]) (by simp [results, Tryz.results30, go_sem, s0r, s1r, s2r, s3r]) rfl ⟨_, rfl, rfl, (nextw HBF.out (by exact ⟨rfl, rfl, rfl, Nat.le_refl _, fun _ _ => rfl⟩))⟩

set_option maxRecDepth 100000 in
set_option maxHeartbeats 8000000 in
theorem RDivQ_q {v1 v2 : Value} {r1 r2 : Rat} {k1 k2 : Nat} {w : World} (h1 : Qd w v1 r1 k1) (h2 : Qd w v2 r2 k2) (f1 : k1 ≤ 800) (f2 : k2 ≤ 800) (h0 : r2 ≠ 0) :
    Calls Tryz.prog 30 #[v1, v2] w fun e w' => ∃ v', e = .returned (.tuple #[v', .int .i64 0]) ∧ Qc w' v' (r1 / r2) (k1 + k2 + 6) ∧ Below w.heap.size w w' := by
  have H0 := Lib.hid h0
  clear h0
  obtain ⟨sa, Aa, ka, ca, ta, Ca, la, da, rfl⟩ := h1.form4
  obtain ⟨sb, Ab, kb, cb, tb, Cb, lb, db, rfl⟩ := h2.form4
  have V_a := Lib.hid h1
  have V_b := Lib.hid h2
  clear h1 h2
  have HC := Lib.hid (div_nd r1 r2)
  have hb0 : Below w.heap.size w (((w.alloc (.cells #[.bool sa, (.slice Aa ka ca), .bool ta, (.slice Ca la da)] 26)).alloc (.cells #[.bool sb, (.slice Ab kb cb), .bool tb, (.slice Cb lb db)] 26)).alloc (.cells #[.bool false, (.slice none 0 0), .bool false, (.slice none 0 0)] 26)) := (Below.alloc (Below.alloc (Below.alloc (Below.refl w.heap.size w) (by simp <;> omega) _) (by simp <;> omega) _) (by simp <;> omega) _)
  have B_a : Box4 (((w.alloc (.cells #[.bool sa, (.slice Aa ka ca), .bool ta, (.slice Ca la da)] 26)).alloc (.cells #[.bool sb, (.slice Ab kb cb), .bool tb, (.slice Cb lb db)] 26)).alloc (.cells #[.bool false, (.slice none 0 0), .bool false, (.slice none 0 0)] 26)) (w.heap.size) sa (.slice Aa ka ca) ta (.slice Ca la da) := by have h := Box4.alloc (Box4.alloc (Box4.new w sa (.slice Aa ka ca) ta (.slice Ca la da)) (.cells #[.bool sb, (.slice Ab kb cb), .bool tb, (.slice Cb lb db)] 26)) (.cells #[.bool false, (.slice none 0 0), .bool false, (.slice none 0 0)] 26); simpa using h
  replace B_a := Lib.hid B_a
  have B_b : Box4 (((w.alloc (.cells #[.bool sa, (.slice Aa ka ca), .bool ta, (.slice Ca la da)] 26)).alloc (.cells #[.bool sb, (.slice Ab kb cb), .bool tb, (.slice Cb lb db)] 26)).alloc (.cells #[.bool false, (.slice none 0 0), .bool false, (.slice none 0 0)] 26)) (w.heap.size + 1) sb (.slice Ab kb cb) tb (.slice Cb lb db) := by have h := Box4.alloc (Box4.new (w.alloc (.cells #[.bool sa, (.slice Aa ka ca), .bool ta, (.slice Ca la da)] 26)) sb (.slice Ab kb cb) tb (.slice Cb lb db)) (.cells #[.bool false, (.slice none 0 0), .bool false, (.slice none 0 0)] 26); simpa using h
  replace B_b := Lib.hid B_b
  have B_r : Box4 (((w.alloc (.cells #[.bool sa, (.slice Aa ka ca), .bool ta, (.slice Ca la da)] 26)).alloc (.cells #[.bool sb, (.slice Ab kb cb), .bool tb, (.slice Cb lb db)] 26)).alloc (.cells #[.bool false, (.slice none 0 0), .bool false, (.slice none 0 0)] 26)) (w.heap.size + 1 + 1) false (.slice none 0 0) false (.slice none 0 0) := by have h := Box4.new ((w.alloc (.cells #[.bool sa, (.slice Aa ka ca), .bool ta, (.slice Ca la da)] 26)).alloc (.cells #[.bool sb, (.slice Ab kb cb), .bool tb, (.slice Cb lb db)] 26)) false (.slice none 0 0) false (.slice none 0 0); simpa using h
  replace B_r := Lib.hid B_r
  replace V_a := Lib.hid (Qd.below V_a.out hb0)
  replace V_b := Lib.hid (Qd.below V_b.out hb0)
  have HB := Lib.hid hb0
  clear hb0
  have c0a := B_a.out.c0
  have c1a := B_a.out.c1
  have c2a := B_a.out.c2
  have c3a := B_a.out.c3
  have c0b := B_b.out.c0
  have c1b := B_b.out.c1
  have c2b := B_b.out.c2
  have c3b := B_b.out.c3
  have c0r := B_r.out.c0
  have c1r := B_r.out.c1
  have c2r := B_r.out.c2
  have c3r := B_r.out.c3
  go_enter Tryz.func30, Tryz.ntmps30
  go_wp2_with fail
  clear c0a c1a c2a c3a c0b c1b c2b c3b c0r c1r c2r c3r
  generalize ((w.alloc (.cells #[.bool sa, (.slice Aa ka ca), .bool ta, (.slice Ca la da)] 26)).alloc (.cells #[.bool sb, (.slice Ab kb cb), .bool tb, (.slice Cb lb db)] 26)).alloc (.cells #[.bool false, (.slice none 0 0), .bool false, (.slice none 0 0)] 26) = W0 at *
  refine (RNormQ_q (Qd.below V_a.out (by exact ⟨rfl, rfl, rfl, Nat.le_refl _, fun _ _ => rfl⟩)) (by omega)).mono ?_
  rintro e w1 ⟨vx, rfl, rx, bb⟩
  replace bb := nextw (w0 := W0) (by exact ⟨rfl, rfl, rfl, Nat.le_refl _, fun _ _ => rfl⟩) bb
  replace B_a := Lib.hid (Box4.below B_a.out bb B_a.out.lt)
  replace B_b := Lib.hid (Box4.below B_b.out bb B_b.out.lt)
  replace B_r := Lib.hid (Box4.below B_r.out bb B_r.out.lt)
  replace V_a := Lib.hid (Qd.below V_a.out bb)
  replace V_b := Lib.hid (Qd.below V_b.out bb)
  replace HB := Lib.hid (nextw HB.out bb)
  clear bb
  clear V_a
  obtain ⟨sx, Ax, kx, cx, tx, Cx, lx, dx, rfl, hnx, hdx⟩ := rx.parts
  have V_xn := Lib.hid hnx
  have V_xd := Lib.hid hdx
  clear rx hnx hdx
  have Z1a := Lib.hid B_a.out.lt
  have Z2b := Lib.hid B_b.out.lt
  have Z3r := Lib.hid B_r.out.lt
  have hb0 : Below w1.heap.size w1 (w1.alloc (.cells #[.bool sx, (.slice Ax kx cx), .bool tx, (.slice Cx lx dx)] 26)) := (Below.alloc (Below.refl w1.heap.size w1) (by simp <;> omega) _)
  have B_x : Box4 (w1.alloc (.cells #[.bool sx, (.slice Ax kx cx), .bool tx, (.slice Cx lx dx)] 26)) (w1.heap.size) sx (.slice Ax kx cx) tx (.slice Cx lx dx) := by have h := Box4.new w1 sx (.slice Ax kx cx) tx (.slice Cx lx dx); simpa using h
  replace B_x := Lib.hid B_x
  replace B_a := Lib.hid (Box4.below B_a.out hb0 B_a.out.lt)
  replace B_b := Lib.hid (Box4.below B_b.out hb0 B_b.out.lt)
  replace B_r := Lib.hid (Box4.below B_r.out hb0 B_r.out.lt)
  replace V_b := Lib.hid (Qd.below V_b.out hb0)
  replace V_xn := Lib.hid (Rc.below V_xn.out hb0)
  replace V_xd := Lib.hid (Rc.below V_xd.out hb0)
  replace HB := Lib.hid (nextw HB.out hb0)
  clear hb0
  have c0b := B_b.out.c0
  have c1b := B_b.out.c1
  have c2b := B_b.out.c2
  have c3b := B_b.out.c3
  have c0x := B_x.out.c0
  have c1x := B_x.out.c1
  have c2x := B_x.out.c2
  have c3x := B_x.out.c3
  have c0r := B_r.out.c0
  have c1r := B_r.out.c1
  have c2r := B_r.out.c2
  have c3r := B_r.out.c3
  go_wp2_with fail
  clear c0b c1b c2b c3b c0x c1x c2x c3x c0r c1r c2r c3r
  generalize w1.alloc (.cells #[.bool sx, (.slice Ax kx cx), .bool tx, (.slice Cx lx dx)] 26) = W1 at *
  refine (RNormQ_q (Qd.below V_b.out (by exact ⟨rfl, rfl, rfl, Nat.le_refl _, fun _ _ => rfl⟩)) (by omega)).mono ?_
  rintro e w2 ⟨vy, rfl, ry, bb⟩
  replace bb := nextw (w0 := W1) (by exact ⟨rfl, rfl, rfl, Nat.le_refl _, fun _ _ => rfl⟩) bb
  replace B_a := Lib.hid (Box4.below B_a.out bb B_a.out.lt)
  replace B_b := Lib.hid (Box4.below B_b.out bb B_b.out.lt)
  replace B_r := Lib.hid (Box4.below B_r.out bb B_r.out.lt)
  replace B_x := Lib.hid (Box4.below B_x.out bb B_x.out.lt)
  replace V_b := Lib.hid (Qd.below V_b.out bb)
  replace V_xn := Lib.hid (Rc.below V_xn.out bb)
  replace V_xd := Lib.hid (Rc.below V_xd.out bb)
  replace HB := Lib.hid (nextw HB.out bb)
  clear bb
  clear V_b
  obtain ⟨sy, Ay, ky, cy, ty, Cy, ly, dy, rfl, hny, hdy⟩ := ry.parts
  have V_yn := Lib.hid hny
  have V_yd := Lib.hid hdy
  clear ry hny hdy
  have Z4a := Lib.hid B_a.out.lt
  have Z5b := Lib.hid B_b.out.lt
  have Z6r := Lib.hid B_r.out.lt
  have Z7x := Lib.hid B_x.out.lt
  have hb0 : Below w2.heap.size w2 (w2.alloc (.cells #[.bool sy, (.slice Ay ky cy), .bool ty, (.slice Cy ly dy)] 26)) := (Below.alloc (Below.refl w2.heap.size w2) (by simp <;> omega) _)
  have B_y : Box4 (w2.alloc (.cells #[.bool sy, (.slice Ay ky cy), .bool ty, (.slice Cy ly dy)] 26)) (w2.heap.size) sy (.slice Ay ky cy) ty (.slice Cy ly dy) := by have h := Box4.new w2 sy (.slice Ay ky cy) ty (.slice Cy ly dy); simpa using h
  replace B_y := Lib.hid B_y
  replace B_a := Lib.hid (Box4.below B_a.out hb0 B_a.out.lt)
  replace B_b := Lib.hid (Box4.below B_b.out hb0 B_b.out.lt)
  replace B_r := Lib.hid (Box4.below B_r.out hb0 B_r.out.lt)
  replace B_x := Lib.hid (Box4.below B_x.out hb0 B_x.out.lt)
  replace V_xn := Lib.hid (Rc.below V_xn.out hb0)
  replace V_xd := Lib.hid (Rc.below V_xd.out hb0)
  replace V_yn := Lib.hid (Rc.below V_yn.out hb0)
  replace V_yd := Lib.hid (Rc.below V_yd.out hb0)
  replace HB := Lib.hid (nextw HB.out hb0)
  clear hb0
  have c0x := B_x.out.c0
  have c1x := B_x.out.c1
  have c2x := B_x.out.c2
  have c3x := B_x.out.c3
  have f0x := B_x.out.f0
  have f1x := B_x.out.f1
  have f2x := B_x.out.f2
  have f3x := B_x.out.f3
  have c0y := B_y.out.c0
  have c1y := B_y.out.c1
  have c2y := B_y.out.c2
  have c3y := B_y.out.c3
  have f0y := B_y.out.f0
  have f1y := B_y.out.f1
  have f2y := B_y.out.f2
  have f3y := B_y.out.f3
  have c0r := B_r.out.c0
  have c1r := B_r.out.c1
  have c2r := B_r.out.c2
  have c3r := B_r.out.c3
  have f0r := B_r.out.f0
  have f1r := B_r.out.f1
  have f2r := B_r.out.f2
  have f3r := B_r.out.f3
  go_wp2_with fail
  clear c0x c1x c2x c3x f0x f1x f2x f3x c0y c1y c2y c3y f0y f1y f2y f3y c0r c1r c2r c3r f0r f1r f2r f3r
  generalize w2.alloc (.cells #[.bool sy, (.slice Ay ky cy), .bool ty, (.slice Cy ly dy)] 26) = W2 at *
  refine (RSignQ_q (Qc.qd (Qc.mk (Rc.below V_yn.out (by exact ⟨rfl, rfl, rfl, Nat.le_refl _, fun _ _ => rfl⟩)) (Rc.below V_yd.out (by exact ⟨rfl, rfl, rfl, Nat.le_refl _, fun _ _ => rfl⟩)))) (by omega)).mono ?_
  rintro e w3 ⟨rfl, bb⟩
  replace bb := nextw (w0 := W2) (by exact ⟨rfl, rfl, rfl, Nat.le_refl _, fun _ _ => rfl⟩) bb
  replace B_a := Lib.hid (Box4.below B_a.out bb B_a.out.lt)
  replace B_b := Lib.hid (Box4.below B_b.out bb B_b.out.lt)
  replace B_r := Lib.hid (Box4.below B_r.out bb B_r.out.lt)
  replace B_x := Lib.hid (Box4.below B_x.out bb B_x.out.lt)
  replace B_y := Lib.hid (Box4.below B_y.out bb B_y.out.lt)
  replace V_xn := Lib.hid (Rc.below V_xn.out bb)
  replace V_xd := Lib.hid (Rc.below V_xd.out bb)
  replace V_yn := Lib.hid (Rc.below V_yn.out bb)
  replace V_yd := Lib.hid (Rc.below V_yd.out bb)
  replace HB := Lib.hid (nextw HB.out bb)
  clear bb
  have c0x := B_x.out.c0
  have c1x := B_x.out.c1
  have c2x := B_x.out.c2
  have c3x := B_x.out.c3
  have f0x := B_x.out.f0
  have f1x := B_x.out.f1
  have f2x := B_x.out.f2
  have f3x := B_x.out.f3
  have c0y := B_y.out.c0
  have c1y := B_y.out.c1
  have c2y := B_y.out.c2
  have c3y := B_y.out.c3
  have f0y := B_y.out.f0
  have f1y := B_y.out.f1
  have f2y := B_y.out.f2
  have f3y := B_y.out.f3
  have c0r := B_r.out.c0
  have c1r := B_r.out.c1
  have c2r := B_r.out.c2
  have c3r := B_r.out.c3
  have f0r := B_r.out.f0
  have f1r := B_r.out.f1
  have f2r := B_r.out.f2
  have f3r := B_r.out.f3
  have hz := sgn_nz H0.out
  generalize sgnQ r2 = sg at *
  go_wp2
  have c0x := B_x.out.c0
  have c1x := B_x.out.c1
  have c2x := B_x.out.c2
  have c3x := B_x.out.c3
  have c0y := B_y.out.c0
  have c1y := B_y.out.c1
  have c2y := B_y.out.c2
  have c3y := B_y.out.c3
  have z1a := Z1a.out
  have z2b := Z2b.out
  have z3r := Z3r.out
  have z4a := Z4a.out
  have z5b := Z5b.out
  have z6r := Z6r.out
  have z7x := Z7x.out
  have tk0 : True := trivial
  first | (go_region_held3 (fun w' => w'.cell? ⟨w1.heap.size, 0, none⟩ = some (.bool sx) ∧ w'.cell? ⟨w1.heap.size, 1, none⟩ = some (.slice Ax kx cx) ∧ w'.cell? ⟨w1.heap.size, 2, none⟩ = some (.bool tx) ∧ w'.cell? ⟨w1.heap.size, 3, none⟩ = some (.slice Cx lx dx) ∧ w'.cell? ⟨w2.heap.size, 0, none⟩ = some (.bool sy) ∧ w'.cell? ⟨w2.heap.size, 1, none⟩ = some (.slice Ay ky cy) ∧ w'.cell? ⟨w2.heap.size, 2, none⟩ = some (.bool ty) ∧ w'.cell? ⟨w2.heap.size, 3, none⟩ = some (.slice Cy ly dy)) (((try dsimp only); (repeat' apply And.intro) <;> (first | (with_reducible assumption) | ((repeat (first | (with_reducible refine Eq.trans (cell_drew1 _ _) ?_) | (with_reducible refine Eq.trans (cell_set4 (by omega) _ _ _ _) ?_))); with_reducible assumption) | assumption | go_keep)))
    (first
      | (have _t := tk0; clear _t tk0; go_at_call 62; refine (RMul_rd (Rc.rd (Rc.below V_xn.out (by exact ⟨rfl, rfl, rfl, Nat.le_refl _, fun _ _ => rfl⟩))) (Rc.rd (Rc.below V_yd.out (by exact ⟨rfl, rfl, rfl, Nat.le_refl _, fun _ _ => rfl⟩))) (by omega) (by omega)).mono ?_; rintro e w4 ⟨vp1, rfl, rp1, bb⟩; replace bb := nextw (w0 := w3) (by exact ⟨rfl, rfl, rfl, Nat.le_refl _, fun _ _ => rfl⟩) bb; clear V_xn V_yd; replace B_a := Lib.hid (Box4.below B_a.out bb B_a.out.lt); replace B_b := Lib.hid (Box4.below B_b.out bb B_b.out.lt); replace B_r := Lib.hid (Box4.below B_r.out bb B_r.out.lt); replace B_x := Lib.hid (Box4.below B_x.out bb B_x.out.lt); replace B_y := Lib.hid (Box4.below B_y.out bb B_y.out.lt); replace V_xd := Lib.hid (Rc.below V_xd.out bb); replace V_yn := Lib.hid (Rc.below V_yn.out bb); replace HB := Lib.hid (nextw HB.out bb); clear bb; replace rp1 := Lib.hid rp1; have V_p1 := rp1; clear rp1; have c0x := B_x.out.c0; have c1x := B_x.out.c1; have c2x := B_x.out.c2; have c3x := B_x.out.c3; have c0y := B_y.out.c0; have c1y := B_y.out.c1; have c2y := B_y.out.c2; have c3y := B_y.out.c3; have tk1 : True := trivial)
      | (have _t := tk1; clear _t tk1; go_at_call 62; refine (RMul_rd (Rc.rd (Rc.below V_xd.out (by exact ⟨rfl, rfl, rfl, Nat.le_refl _, fun _ _ => rfl⟩))) (Rc.rd (Rc.below V_yn.out (by exact ⟨rfl, rfl, rfl, Nat.le_refl _, fun _ _ => rfl⟩))) (by omega) (by omega)).mono ?_; rintro e w5 ⟨vp2, rfl, rp2, bb⟩; replace bb := nextw (w0 := w4) (by exact ⟨rfl, rfl, rfl, Nat.le_refl _, fun _ _ => rfl⟩) bb; clear V_xd V_yn; replace B_a := Lib.hid (Box4.below B_a.out bb B_a.out.lt); replace B_b := Lib.hid (Box4.below B_b.out bb B_b.out.lt); replace B_r := Lib.hid (Box4.below B_r.out bb B_r.out.lt); replace B_x := Lib.hid (Box4.below B_x.out bb B_x.out.lt); replace B_y := Lib.hid (Box4.below B_y.out bb B_y.out.lt); replace V_p1 := Lib.hid (Rc.below V_p1.out bb); replace HB := Lib.hid (nextw HB.out bb); clear bb; replace rp2 := Lib.hid rp2; have V_p2 := rp2; clear rp2; have c0x := B_x.out.c0; have c1x := B_x.out.c1; have c2x := B_x.out.c2; have c3x := B_x.out.c3; have c0y := B_y.out.c0; have c1y := B_y.out.c1; have c2y := B_y.out.c2; have c3y := B_y.out.c3; have tk2 : True := trivial)
      | (have _t := tk2; clear _t tk2; go_at_call 52; refine (RNew_rd (k := (k1 + k2 + 4)) ((Rc.rd (Rc.below V_p1.out (by exact ⟨rfl, rfl, rfl, Nat.le_refl _, fun _ _ => rfl⟩))).more (by omega)) ((Rc.rd (Rc.below V_p2.out (by exact ⟨rfl, rfl, rfl, Nat.le_refl _, fun _ _ => rfl⟩))).more (by omega)) (by omega)).mono ?_; rintro e w6 ⟨vq, rfl, rq, bb⟩; replace bb := nextw (w0 := w5) (by exact ⟨rfl, rfl, rfl, Nat.le_refl _, fun _ _ => rfl⟩) bb; clear V_p1 V_p2; replace B_a := Lib.hid (Box4.below B_a.out bb B_a.out.lt); replace B_b := Lib.hid (Box4.below B_b.out bb B_b.out.lt); replace B_r := Lib.hid (Box4.below B_r.out bb B_r.out.lt); replace B_x := Lib.hid (Box4.below B_x.out bb B_x.out.lt); replace B_y := Lib.hid (Box4.below B_y.out bb B_y.out.lt); replace HB := Lib.hid (nextw HB.out bb); clear bb; replace rq := Lib.hid rq; have V_q := rq; clear rq; obtain ⟨sq, Aq, kq, cq, tq, Cq, lq, dq, rfl⟩ := V_q.out.shape; have c0r := B_r.out.c0; have c1r := B_r.out.c1; have c2r := B_r.out.c2; have c3r := B_r.out.c3; have f0r := B_r.out.f0; have f1r := B_r.out.f1; have f2r := B_r.out.f2; have f3r := B_r.out.f3; have c0x := B_x.out.c0; have c1x := B_x.out.c1; have c2x := B_x.out.c2; have c3x := B_x.out.c3; have c0y := B_y.out.c0; have c1y := B_y.out.c1; have c2y := B_y.out.c2; have c3y := B_y.out.c3; have tk3 : True := trivial))) | fail
  all_goals (clear z1a z2b z3r z4a z5b z6r z7x)
  all_goals
    skip
    have K_q := V_q
    replace K_q := Lib.hid (Box4.keepsQc B_r.out K_q.out (.bool sq) (.slice Aq kq cq) (.bool tq) (.slice Cq lq dq))
    have HB1 := Lib.hid (Below.store4 HB.out (y := w.heap.size + 1 + 1) (by omega) (.bool sq) (.slice Aq kq cq) (.bool tq) (.slice Cq lq dq))
    have N0r := Lib.hid (Box4.store B_r.out sq (.slice Aq kq cq) tq (.slice Cq lq dq))
    have s0r := N0r.out.c0
    have s1r := N0r.out.c1
    have s2r := N0r.out.c2
    have s3r := N0r.out.c3
    simp only [st4] at s0r s1r s2r s3r
    have HBF := HB1
    have c0r := B_r.out.c0
    have c1r := B_r.out.c1
    have c2r := B_r.out.c2
    have c3r := B_r.out.c3
    have f0r := B_r.out.f0
    have f1r := B_r.out.f1
    have f2r := B_r.out.f2
    have f3r := B_r.out.f3
    go_wp2_with fail
    exact bodyPost_ret (v := .tuple #[.agg #[.bool sq, (.slice Aq kq cq), .bool tq, (.slice Cq lq dq)], .int .i64 0]) (by simp [results, Tryz.results30, go_sem, s0r, s1r, s2r, s3r]) rfl ⟨_, rfl, (Qc.below K_q.out (by exact ⟨rfl, rfl, rfl, Nat.le_refl _, fun _ _ => rfl⟩)).of_eq HC.out, (nextw HBF.out (by exact ⟨rfl, rfl, rfl, Nat.le_refl _, fun _ _ => rfl⟩))⟩
end Go.Proofs.YtldfamjlnphokaaGreatDoor
