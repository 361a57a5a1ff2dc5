/- Package rational: Norm, Of, Sign, Cmp, Add, Mul, Sub. -/
import Derived.Test.YtccndofafljaaaaGreatDoorQ2
import Derived.Test.YtccndofafljaaaaGreatDoorBInt

set_option linter.unusedVariables false
set_option linter.unusedSimpArgs false

namespace Go.Proofs.YtccndofafljaaaaGreatDoor
open Go Go.RowKit Num

set_option maxRecDepth 100000 in
set_option maxHeartbeats 4000000 in
theorem Norm_q {v : Value} {r : Rat} {k : Nat} {w : World} (h : Qd w v r k) (f : k ≤ 10000) :
    Calls Tryz.prog 55 #[v] w fun e w' => ∃ v', e = .returned v' ∧ Qc w' v' r (k + 2) ∧ Below w.heap.size w w' := by
  obtain ⟨a, b, h, rfl⟩ := h
  obtain ⟨sx, Ax, kx, cx, tx, Cx, lx, dx, rfl, hnx, hdx⟩ := h.shape
  have V_xn := Lib.hid hnx
  have V_xd := Lib.hid hdx
  clear h hnx hdx
  have hb0 : Below w.heap.size w ((w.alloc (.cells #[.bool sx, (.slice Ax kx cx), .bool tx, (.slice Cx lx dx)] 35)).alloc (.cells #[.bool false, (.slice none 0 0), .bool false, (.slice none 0 0)] 35)) := (Below.alloc (Below.alloc (Below.refl w.heap.size w) (by simp <;> omega) _) (by simp <;> omega) _)
  have B_x : Box4 ((w.alloc (.cells #[.bool sx, (.slice Ax kx cx), .bool tx, (.slice Cx lx dx)] 35)).alloc (.cells #[.bool false, (.slice none 0 0), .bool false, (.slice none 0 0)] 35)) (w.heap.size) sx (.slice Ax kx cx) tx (.slice Cx lx dx) := by have h := Box4.alloc (Box4.new w sx (.slice Ax kx cx) tx (.slice Cx lx dx)) (.cells #[.bool false, (.slice none 0 0), .bool false, (.slice none 0 0)] 35); simpa using h
  replace B_x := Lib.hid B_x
  have B_r : Box4 ((w.alloc (.cells #[.bool sx, (.slice Ax kx cx), .bool tx, (.slice Cx lx dx)] 35)).alloc (.cells #[.bool false, (.slice none 0 0), .bool false, (.slice none 0 0)] 35)) (w.heap.size + 1) false (.slice none 0 0) false (.slice none 0 0) := by have h := Box4.new (w.alloc (.cells #[.bool sx, (.slice Ax kx cx), .bool tx, (.slice Cx lx dx)] 35)) false (.slice none 0 0) false (.slice none 0 0); simpa using h
  replace B_r := Lib.hid B_r
  replace V_xn := Lib.hid (Rd.below V_xn.out hb0)
  replace V_xd := Lib.hid (Rd.below V_xd.out hb0)
  have HB := Lib.hid hb0
  clear hb0
  have c0x := B_x.out.c0
  have c1x := B_x.out.c1
  have c2x := B_x.out.c2
  have c3x := B_x.out.c3
  have c0r := B_r.out.c0
  have c1r := B_r.out.c1
  have c2r := B_r.out.c2
  have c3r := B_r.out.c3
  go_enter Tryz.func55, Tryz.ntmps55
  go_wp2_with fail
  clear c0x c1x c2x c3x c0r c1r c2r c3r
  generalize (w.alloc (.cells #[.bool sx, (.slice Ax kx cx), .bool tx, (.slice Cx lx dx)] 35)).alloc (.cells #[.bool false, (.slice none 0 0), .bool false, (.slice none 0 0)] 35) = W0 at *
  refine (New_rd (Rd.below V_xn.out (by exact ⟨rfl, rfl, rfl, Nat.le_refl _, fun _ _ => rfl⟩)) (Rd.below V_xd.out (by exact ⟨rfl, rfl, rfl, Nat.le_refl _, fun _ _ => rfl⟩)) (by omega)).mono ?_
  rintro e w1 ⟨vq, rfl, rq, bb⟩
  replace bb := nextw (w0 := W0) (by exact ⟨rfl, rfl, rfl, Nat.le_refl _, fun _ _ => rfl⟩) bb
  replace B_x := Lib.hid (Box4.below B_x.out bb B_x.out.lt)
  replace B_r := Lib.hid (Box4.below B_r.out bb B_r.out.lt)
  replace V_xn := Lib.hid (Rd.below V_xn.out bb)
  replace V_xd := Lib.hid (Rd.below V_xd.out bb)
  replace HB := Lib.hid (nextw HB.out bb)
  clear bb
  obtain ⟨sq, Aq, kq, cq, tq, Cq, lq, dq, rfl⟩ := rq.shape
  have V_q := Lib.hid rq
  clear rq
  skip
  have K_q := V_q
  replace K_q := Lib.hid (Box4.keepsQc B_r.out K_q.out (.bool sq) (.slice Aq kq cq) (.bool tq) (.slice Cq lq dq))
  have HB1 := Lib.hid (Below.store4 HB.out (y := w.heap.size + 1) (by omega) (.bool sq) (.slice Aq kq cq) (.bool tq) (.slice Cq lq dq))
  have N0r := Lib.hid (Box4.store B_r.out sq (.slice Aq kq cq) tq (.slice Cq lq dq))
  have s0r := N0r.out.c0
  have s1r := N0r.out.c1
  have s2r := N0r.out.c2
  have s3r := N0r.out.c3
  simp only [st4] at s0r s1r s2r s3r
  have HBF := HB1
  have c0r := B_r.out.c0
  have c1r := B_r.out.c1
  have c2r := B_r.out.c2
  have c3r := B_r.out.c3
  have f0r := B_r.out.f0
  have f1r := B_r.out.f1
  have f2r := B_r.out.f2
  have f3r := B_r.out.f3
  go_wp2_with fail
  exact bodyPost_ret (v := .agg #[.bool sq, (.slice Aq kq cq), .bool tq, (.slice Cq lq dq)]) (by simp [results, Tryz.results55, go_sem, s0r, s1r, s2r, s3r]) rfl ⟨_, rfl, (Qc.below K_q.out (by exact ⟨rfl, rfl, rfl, Nat.le_refl _, fun _ _ => rfl⟩)), (nextw HBF.out (by exact ⟨rfl, rfl, rfl, Nat.le_refl _, fun _ _ => rfl⟩))⟩

set_option maxRecDepth 100000 in
set_option maxHeartbeats 4000000 in
theorem Of_q (n d : Int) {w : World} (h1 : -9223372036854775808 ≤ n) (h2 : n ≤ 9223372036854775807) (g1 : -9223372036854775808 ≤ d) (g2 : d ≤ 9223372036854775807) :
    Calls Tryz.prog 20 #[.int .i64 n, .int .i64 d] w fun e w' => ∃ v', e = .returned v' ∧ Qc w' v' (Rat.divInt n d) 4 ∧ Below w.heap.size w w' := by
  have hb0 : Below w.heap.size w (w.alloc (.cells #[.bool false, (.slice none 0 0), .bool false, (.slice none 0 0)] 35)) := (Below.alloc (Below.refl w.heap.size w) (by simp <;> omega) _)
  have B_r : Box4 (w.alloc (.cells #[.bool false, (.slice none 0 0), .bool false, (.slice none 0 0)] 35)) (w.heap.size) false (.slice none 0 0) false (.slice none 0 0) := by have h := Box4.new w false (.slice none 0 0) false (.slice none 0 0); simpa using h
  replace B_r := Lib.hid B_r
  have HB := Lib.hid hb0
  clear hb0
  have c0r := B_r.out.c0
  have c1r := B_r.out.c1
  have c2r := B_r.out.c2
  have c3r := B_r.out.c3
  go_enter Tryz.func20, Tryz.ntmps20
  go_wp2_with fail
  clear c0r c1r c2r c3r
  generalize w.alloc (.cells #[.bool false, (.slice none 0 0), .bool false, (.slice none 0 0)] 35) = W0 at *
  refine (Of_rc n h1 h2).mono ?_
  rintro e w1 ⟨va, rfl, ra, bb⟩
  replace bb := nextw (w0 := W0) (by exact ⟨rfl, rfl, rfl, Nat.le_refl _, fun _ _ => rfl⟩) bb
  replace B_r := Lib.hid (Box4.below B_r.out bb B_r.out.lt)
  replace HB := Lib.hid (nextw HB.out bb)
  clear bb
  have V_a := Lib.hid ra
  clear ra
  go_wp2_with fail
  refine (Of_rc d g1 g2).mono ?_
  rintro e w2 ⟨vb, rfl, rb, bb⟩
  replace bb := nextw (w0 := w1) (by exact ⟨rfl, rfl, rfl, Nat.le_refl _, fun _ _ => rfl⟩) bb
  replace B_r := Lib.hid (Box4.below B_r.out bb B_r.out.lt)
  replace V_a := Lib.hid (Rc.below V_a.out bb)
  replace HB := Lib.hid (nextw HB.out bb)
  clear bb
  have V_b := Lib.hid rb
  clear rb
  go_wp2_with fail
  refine (New_rd (Rc.rd (Rc.below V_a.out (by exact ⟨rfl, rfl, rfl, Nat.le_refl _, fun _ _ => rfl⟩))) (Rc.rd (Rc.below V_b.out (by exact ⟨rfl, rfl, rfl, Nat.le_refl _, fun _ _ => rfl⟩))) (by omega)).mono ?_
  rintro e w3 ⟨vq, rfl, rq, bb⟩
  replace bb := nextw (w0 := w2) (by exact ⟨rfl, rfl, rfl, Nat.le_refl _, fun _ _ => rfl⟩) bb
  replace B_r := Lib.hid (Box4.below B_r.out bb B_r.out.lt)
  replace V_a := Lib.hid (Rc.below V_a.out bb)
  replace V_b := Lib.hid (Rc.below V_b.out bb)
  replace HB := Lib.hid (nextw HB.out bb)
  clear bb
  obtain ⟨sq, Aq, kq, cq, tq, Cq, lq, dq, rfl⟩ := rq.shape
  have V_q := Lib.hid rq
  clear rq
  skip
  have K_q := V_q
  replace K_q := Lib.hid (Box4.keepsQc B_r.out K_q.out (.bool sq) (.slice Aq kq cq) (.bool tq) (.slice Cq lq dq))
  have HB1 := Lib.hid (Below.store4 HB.out (y := w.heap.size) (by omega) (.bool sq) (.slice Aq kq cq) (.bool tq) (.slice Cq lq dq))
  have N0r := Lib.hid (Box4.store B_r.out sq (.slice Aq kq cq) tq (.slice Cq lq dq))
  have s0r := N0r.out.c0
  have s1r := N0r.out.c1
  have s2r := N0r.out.c2
  have s3r := N0r.out.c3
  simp only [st4] at s0r s1r s2r s3r
  have HBF := HB1
  have c0r := B_r.out.c0
  have c1r := B_r.out.c1
  have c2r := B_r.out.c2
  have c3r := B_r.out.c3
  have f0r := B_r.out.f0
  have f1r := B_r.out.f1
  have f2r := B_r.out.f2
  have f3r := B_r.out.f3
  go_wp2_with fail
  exact bodyPost_ret (v := .agg #[.bool sq, (.slice Aq kq cq), .bool tq, (.slice Cq lq dq)]) (by simp [results, Tryz.results20, go_sem, s0r, s1r, s2r, s3r]) rfl ⟨_, rfl, (Qc.below K_q.out (by exact ⟨rfl, rfl, rfl, Nat.le_refl _, fun _ _ => rfl⟩)), (nextw HBF.out (by exact ⟨rfl, rfl, rfl, Nat.le_refl _, fun _ _ => rfl⟩))⟩

set_option maxRecDepth 100000 in
set_option maxHeartbeats 4000000 in
theorem Cmp_q {v1 v2 : Value} {r1 r2 : Rat} {k1 k2 : Nat} {w : World} (h1 : Qd w v1 r1 k1) (h2 : Qd w v2 r2 k2) (f1 : k1 ≤ 4000) (f2 : k2 ≤ 4000) :
    Calls Tryz.prog 23 #[v1, v2] w fun e w' => e = .returned (.int .i64 (cmpQ r1 r2)) ∧ Below w.heap.size w w' := by
  obtain ⟨a1, b1, h1, rfl⟩ := h1
  obtain ⟨a2, b2, h2, rfl⟩ := h2
  obtain ⟨sx, Ax, kx, cx, tx, Cx, lx, dx, rfl, hnx, hdx⟩ := h1.shape
  obtain ⟨sy, Ay, ky, cy, ty, Cy, ly, dy, rfl, hny, hdy⟩ := h2.shape
  have V_xn := Lib.hid hnx
  have V_xd := Lib.hid hdx
  have V_yn := Lib.hid hny
  have V_yd := Lib.hid hdy
  clear h1 hnx hdx h2 hny hdy
  have hb0 : Below w.heap.size w ((w.alloc (.cells #[.bool sx, (.slice Ax kx cx), .bool tx, (.slice Cx lx dx)] 35)).alloc (.cells #[.bool sy, (.slice Ay ky cy), .bool ty, (.slice Cy ly dy)] 35)) := (Below.alloc (Below.alloc (Below.refl w.heap.size w) (by simp <;> omega) _) (by simp <;> omega) _)
  have B_x : Box4 ((w.alloc (.cells #[.bool sx, (.slice Ax kx cx), .bool tx, (.slice Cx lx dx)] 35)).alloc (.cells #[.bool sy, (.slice Ay ky cy), .bool ty, (.slice Cy ly dy)] 35)) (w.heap.size) sx (.slice Ax kx cx) tx (.slice Cx lx dx) := by have h := Box4.alloc (Box4.new w sx (.slice Ax kx cx) tx (.slice Cx lx dx)) (.cells #[.bool sy, (.slice Ay ky cy), .bool ty, (.slice Cy ly dy)] 35); simpa using h
  replace B_x := Lib.hid B_x
  have B_y : Box4 ((w.alloc (.cells #[.bool sx, (.slice Ax kx cx), .bool tx, (.slice Cx lx dx)] 35)).alloc (.cells #[.bool sy, (.slice Ay ky cy), .bool ty, (.slice Cy ly dy)] 35)) (w.heap.size + 1) sy (.slice Ay ky cy) ty (.slice Cy ly dy) := by have h := Box4.new (w.alloc (.cells #[.bool sx, (.slice Ax kx cx), .bool tx, (.slice Cx lx dx)] 35)) sy (.slice Ay ky cy) ty (.slice Cy ly dy); simpa using h
  replace B_y := Lib.hid B_y
  replace V_xn := Lib.hid (Rd.below V_xn.out hb0)
  replace V_xd := Lib.hid (Rd.below V_xd.out hb0)
  replace V_yn := Lib.hid (Rd.below V_yn.out hb0)
  replace V_yd := Lib.hid (Rd.below V_yd.out hb0)
  have HB := Lib.hid hb0
  clear hb0
  have c0x := B_x.out.c0
  have c1x := B_x.out.c1
  have c2x := B_x.out.c2
  have c3x := B_x.out.c3
  have c0y := B_y.out.c0
  have c1y := B_y.out.c1
  have c2y := B_y.out.c2
  have c3y := B_y.out.c3
  go_enter Tryz.func23, Tryz.ntmps23
  go_wp2_with fail
  clear c0x c1x c2x c3x c0y c1y c2y c3y
  generalize (w.alloc (.cells #[.bool sx, (.slice Ax kx cx), .bool tx, (.slice Cx lx dx)] 35)).alloc (.cells #[.bool sy, (.slice Ay ky cy), .bool ty, (.slice Cy ly dy)] 35) = W0 at *
  refine (fraction_fd (Fd.mk (Rd.below V_xn.out (by exact ⟨rfl, rfl, rfl, Nat.le_refl _, fun _ _ => rfl⟩)) (Rd.below V_xd.out (by exact ⟨rfl, rfl, rfl, Nat.le_refl _, fun _ _ => rfl⟩))) (by omega)).mono ?_
  rintro e w1 ⟨vn, vd, rfl, rn, rd, bb⟩
  replace bb := nextw (w0 := W0) (by exact ⟨rfl, rfl, rfl, Nat.le_refl _, fun _ _ => rfl⟩) bb
  replace B_x := Lib.hid (Box4.below B_x.out bb B_x.out.lt)
  replace B_y := Lib.hid (Box4.below B_y.out bb B_y.out.lt)
  replace V_xn := Lib.hid (Rd.below V_xn.out bb)
  replace V_xd := Lib.hid (Rd.below V_xd.out bb)
  replace V_yn := Lib.hid (Rd.below V_yn.out bb)
  replace V_yd := Lib.hid (Rd.below V_yd.out bb)
  replace HB := Lib.hid (nextw HB.out bb)
  clear bb
  obtain ⟨sn, An, kn, cn, rfl, -⟩ := rn.shape
  obtain ⟨sd, Ad, kd, cd, rfl, -⟩ := rd.shape
  clear V_xn V_xd
  have V_n := Lib.hid rn
  have V_d := Lib.hid rd
  clear rn rd
  have Z1x := Lib.hid B_x.out.lt
  have Z2y := Lib.hid B_y.out.lt
  have hb0 : Below w1.heap.size w1 ((w1.alloc (.cells #[.bool sn, (.slice An kn cn)] 24)).alloc (.cells #[.bool sd, (.slice Ad kd cd)] 24)) := (Below.alloc (Below.alloc (Below.refl w1.heap.size w1) (by simp <;> omega) _) (by simp <;> omega) _)
  have B_n : Box ((w1.alloc (.cells #[.bool sn, (.slice An kn cn)] 24)).alloc (.cells #[.bool sd, (.slice Ad kd cd)] 24)) (w1.heap.size) sn (.slice An kn cn) := by have h := Box.alloc (Box.new w1 sn (.slice An kn cn)) (.cells #[.bool sd, (.slice Ad kd cd)] 24); simpa using h
  replace B_n := Lib.hid B_n
  have B_d : Box ((w1.alloc (.cells #[.bool sn, (.slice An kn cn)] 24)).alloc (.cells #[.bool sd, (.slice Ad kd cd)] 24)) (w1.heap.size + 1) sd (.slice Ad kd cd) := by have h := Box.new (w1.alloc (.cells #[.bool sn, (.slice An kn cn)] 24)) sd (.slice Ad kd cd); simpa using h
  replace B_d := Lib.hid B_d
  replace B_x := Lib.hid (Box4.below B_x.out hb0 B_x.out.lt)
  replace B_y := Lib.hid (Box4.below B_y.out hb0 B_y.out.lt)
  replace V_yn := Lib.hid (Rd.below V_yn.out hb0)
  replace V_yd := Lib.hid (Rd.below V_yd.out hb0)
  replace V_n := Lib.hid (Rd.below V_n.out hb0)
  replace V_d := Lib.hid (Rd.below V_d.out hb0)
  replace HB := Lib.hid (nextw HB.out hb0)
  clear hb0
  have c0y := B_y.out.c0
  have c1y := B_y.out.c1
  have c2y := B_y.out.c2
  have c3y := B_y.out.c3
  have c0n := B_n.out.c0
  have c1n := B_n.out.c1
  have c0d := B_d.out.c0
  have c1d := B_d.out.c1
  go_wp2_with fail
  clear c0y c1y c2y c3y c0n c1n c0d c1d
  generalize (w1.alloc (.cells #[.bool sn, (.slice An kn cn)] 24)).alloc (.cells #[.bool sd, (.slice Ad kd cd)] 24) = W1 at *
  refine (fraction_fd (Fd.mk (Rd.below V_yn.out (by exact ⟨rfl, rfl, rfl, Nat.le_refl _, fun _ _ => rfl⟩)) (Rd.below V_yd.out (by exact ⟨rfl, rfl, rfl, Nat.le_refl _, fun _ _ => rfl⟩))) (by omega)).mono ?_
  rintro e w2 ⟨vm, ve, rfl, rm, re, bb⟩
  replace bb := nextw (w0 := W1) (by exact ⟨rfl, rfl, rfl, Nat.le_refl _, fun _ _ => rfl⟩) bb
  replace B_x := Lib.hid (Box4.below B_x.out bb B_x.out.lt)
  replace B_y := Lib.hid (Box4.below B_y.out bb B_y.out.lt)
  replace B_n := Lib.hid (Box.below B_n.out bb B_n.out.lt)
  replace B_d := Lib.hid (Box.below B_d.out bb B_d.out.lt)
  replace V_yn := Lib.hid (Rd.below V_yn.out bb)
  replace V_yd := Lib.hid (Rd.below V_yd.out bb)
  replace V_n := Lib.hid (Rd.below V_n.out bb)
  replace V_d := Lib.hid (Rd.below V_d.out bb)
  replace HB := Lib.hid (nextw HB.out bb)
  clear bb
  obtain ⟨sm, Am, km, cm, rfl, -⟩ := rm.shape
  obtain ⟨se, Ae, ke, ce, rfl, -⟩ := re.shape
  clear V_yn V_yd
  have V_m := Lib.hid rm
  have V_e := Lib.hid re
  clear rm re
  have Z3x := Lib.hid B_x.out.lt
  have Z4y := Lib.hid B_y.out.lt
  have Z5n := Lib.hid B_n.out.lt
  have Z6d := Lib.hid B_d.out.lt
  have hb0 : Below w2.heap.size w2 ((w2.alloc (.cells #[.bool sm, (.slice Am km cm)] 24)).alloc (.cells #[.bool se, (.slice Ae ke ce)] 24)) := (Below.alloc (Below.alloc (Below.refl w2.heap.size w2) (by simp <;> omega) _) (by simp <;> omega) _)
  have B_m : Box ((w2.alloc (.cells #[.bool sm, (.slice Am km cm)] 24)).alloc (.cells #[.bool se, (.slice Ae ke ce)] 24)) (w2.heap.size) sm (.slice Am km cm) := by have h := Box.alloc (Box.new w2 sm (.slice Am km cm)) (.cells #[.bool se, (.slice Ae ke ce)] 24); simpa using h
  replace B_m := Lib.hid B_m
  have B_e : Box ((w2.alloc (.cells #[.bool sm, (.slice Am km cm)] 24)).alloc (.cells #[.bool se, (.slice Ae ke ce)] 24)) (w2.heap.size + 1) se (.slice Ae ke ce) := by have h := Box.new (w2.alloc (.cells #[.bool sm, (.slice Am km cm)] 24)) se (.slice Ae ke ce); simpa using h
  replace B_e := Lib.hid B_e
  replace B_x := Lib.hid (Box4.below B_x.out hb0 B_x.out.lt)
  replace B_y := Lib.hid (Box4.below B_y.out hb0 B_y.out.lt)
  replace B_n := Lib.hid (Box.below B_n.out hb0 B_n.out.lt)
  replace B_d := Lib.hid (Box.below B_d.out hb0 B_d.out.lt)
  replace V_n := Lib.hid (Rd.below V_n.out hb0)
  replace V_d := Lib.hid (Rd.below V_d.out hb0)
  replace V_m := Lib.hid (Rd.below V_m.out hb0)
  replace V_e := Lib.hid (Rd.below V_e.out hb0)
  replace HB := Lib.hid (nextw HB.out hb0)
  clear hb0
  have c0n := B_n.out.c0
  have c1n := B_n.out.c1
  have c0d := B_d.out.c0
  have c1d := B_d.out.c1
  have c0m := B_m.out.c0
  have c1m := B_m.out.c1
  have c0e := B_e.out.c0
  have c1e := B_e.out.c1
  go_wp2
  clear c0n c1n c0d c1d c0m c1m c0e c1e
  generalize (w2.alloc (.cells #[.bool sm, (.slice Am km cm)] 24)).alloc (.cells #[.bool se, (.slice Ae ke ce)] 24) = W2 at *
  have HD1 := Lib.hid (frD_pos a1 b1)
  have HD2 := Lib.hid (frD_pos a2 b2)
  have hc : cmpI (frN a1 b1 * frD a2 b2) (frN a2 b2 * frD a1 b1) = cmpQ (Rat.divInt a1 b1) (Rat.divInt a2 b2) := by rw [← fr_eq a1 b1, ← fr_eq a2 b2]; rw [← cmp_fr HD1.out HD2.out]; unfold cmpI; repeat' split <;> omega
  have HC := Lib.hid hc
  clear hc
  have c0n := B_n.out.c0
  have c1n := B_n.out.c1
  have c0d := B_d.out.c0
  have c1d := B_d.out.c1
  have c0m := B_m.out.c0
  have c1m := B_m.out.c1
  have c0e := B_e.out.c0
  have c1e := B_e.out.c1
  have z1x := Z1x.out
  have z2y := Z2y.out
  have z3x := Z3x.out
  have z4y := Z4y.out
  have z5n := Z5n.out
  have z6d := Z6d.out
  have tk0 : True := trivial
  first | (go_region_held3 (fun w' => w'.cell? ⟨w1.heap.size, 0, none⟩ = some (.bool sn) ∧ w'.cell? ⟨w1.heap.size, 1, none⟩ = some (.slice An kn cn) ∧ w'.cell? ⟨w1.heap.size + 1, 0, none⟩ = some (.bool sd) ∧ w'.cell? ⟨w1.heap.size + 1, 1, none⟩ = some (.slice Ad kd cd) ∧ w'.cell? ⟨w2.heap.size, 0, none⟩ = some (.bool sm) ∧ w'.cell? ⟨w2.heap.size, 1, none⟩ = some (.slice Am km cm) ∧ w'.cell? ⟨w2.heap.size + 1, 0, none⟩ = some (.bool se) ∧ w'.cell? ⟨w2.heap.size + 1, 1, none⟩ = some (.slice Ae ke ce)) (((try dsimp only); (repeat' apply And.intro) <;> (first | (with_reducible assumption) | ((repeat (first | (with_reducible refine Eq.trans (cell_drew1 _ _) ?_) | (with_reducible refine Eq.trans (cell_set4 (by omega) _ _ _ _) ?_))); with_reducible assumption) | assumption | go_keep)))
    (first
      | (have _t := tk0; clear _t tk0; go_at_call 46; refine (Mul_rd (Rd.below V_n.out (by exact ⟨rfl, rfl, rfl, Nat.le_refl _, fun _ _ => rfl⟩)) (Rd.below V_e.out (by exact ⟨rfl, rfl, rfl, Nat.le_refl _, fun _ _ => rfl⟩)) (by omega) (by omega)).mono ?_; rintro e w3 ⟨vp1, rfl, rp1, bb⟩; replace bb := nextw (w0 := W2) (by exact ⟨rfl, rfl, rfl, Nat.le_refl _, fun _ _ => rfl⟩) bb; replace B_x := Lib.hid (Box4.below B_x.out bb B_x.out.lt); replace B_y := Lib.hid (Box4.below B_y.out bb B_y.out.lt); replace B_n := Lib.hid (Box.below B_n.out bb B_n.out.lt); replace B_d := Lib.hid (Box.below B_d.out bb B_d.out.lt); replace B_m := Lib.hid (Box.below B_m.out bb B_m.out.lt); replace B_e := Lib.hid (Box.below B_e.out bb B_e.out.lt); replace V_n := Lib.hid (Rd.below V_n.out bb); replace V_d := Lib.hid (Rd.below V_d.out bb); replace V_m := Lib.hid (Rd.below V_m.out bb); replace V_e := Lib.hid (Rd.below V_e.out bb); replace HB := Lib.hid (nextw HB.out bb); clear bb; replace rp1 := Lib.hid rp1; have V_p1 := rp1; clear rp1; have c0n := B_n.out.c0; have c1n := B_n.out.c1; have c0d := B_d.out.c0; have c1d := B_d.out.c1; have c0m := B_m.out.c0; have c1m := B_m.out.c1; have c0e := B_e.out.c0; have c1e := B_e.out.c1; have tk1 : True := trivial)
      | (have _t := tk1; clear _t tk1; go_at_call 46; refine (Mul_rd (Rd.below V_m.out (by exact ⟨rfl, rfl, rfl, Nat.le_refl _, fun _ _ => rfl⟩)) (Rd.below V_d.out (by exact ⟨rfl, rfl, rfl, Nat.le_refl _, fun _ _ => rfl⟩)) (by omega) (by omega)).mono ?_; rintro e w4 ⟨vp2, rfl, rp2, bb⟩; replace bb := nextw (w0 := w3) (by exact ⟨rfl, rfl, rfl, Nat.le_refl _, fun _ _ => rfl⟩) bb; replace B_x := Lib.hid (Box4.below B_x.out bb B_x.out.lt); replace B_y := Lib.hid (Box4.below B_y.out bb B_y.out.lt); replace B_n := Lib.hid (Box.below B_n.out bb B_n.out.lt); replace B_d := Lib.hid (Box.below B_d.out bb B_d.out.lt); replace B_m := Lib.hid (Box.below B_m.out bb B_m.out.lt); replace B_e := Lib.hid (Box.below B_e.out bb B_e.out.lt); replace V_n := Lib.hid (Rd.below V_n.out bb); replace V_d := Lib.hid (Rd.below V_d.out bb); replace V_m := Lib.hid (Rd.below V_m.out bb); replace V_e := Lib.hid (Rd.below V_e.out bb); replace V_p1 := Lib.hid (Rc.below V_p1.out bb); replace HB := Lib.hid (nextw HB.out bb); clear bb; replace rp2 := Lib.hid rp2; have V_p2 := rp2; clear rp2; have c0n := B_n.out.c0; have c1n := B_n.out.c1; have c0d := B_d.out.c0; have c1d := B_d.out.c1; have c0m := B_m.out.c0; have c1m := B_m.out.c1; have c0e := B_e.out.c0; have c1e := B_e.out.c1; have tk2 : True := trivial)
      | (have _t := tk2; clear _t tk2; go_at_call 45; refine (Cmp_rd (Rc.rd (Rc.below V_p1.out (by exact ⟨rfl, rfl, rfl, Nat.le_refl _, fun _ _ => rfl⟩))) (Rc.rd (Rc.below V_p2.out (by exact ⟨rfl, rfl, rfl, Nat.le_refl _, fun _ _ => rfl⟩))) (by omega) (by omega)).mono ?_; rintro e w5 ⟨rfl, bb⟩; replace bb := nextw (w0 := w4) (by exact ⟨rfl, rfl, rfl, Nat.le_refl _, fun _ _ => rfl⟩) bb; replace B_x := Lib.hid (Box4.below B_x.out bb B_x.out.lt); replace B_y := Lib.hid (Box4.below B_y.out bb B_y.out.lt); replace B_n := Lib.hid (Box.below B_n.out bb B_n.out.lt); replace B_d := Lib.hid (Box.below B_d.out bb B_d.out.lt); replace B_m := Lib.hid (Box.below B_m.out bb B_m.out.lt); replace B_e := Lib.hid (Box.below B_e.out bb B_e.out.lt); replace V_n := Lib.hid (Rd.below V_n.out bb); replace V_d := Lib.hid (Rd.below V_d.out bb); replace V_m := Lib.hid (Rd.below V_m.out bb); replace V_e := Lib.hid (Rd.below V_e.out bb); replace V_p1 := Lib.hid (Rc.below V_p1.out bb); replace V_p2 := Lib.hid (Rc.below V_p2.out bb); replace HB := Lib.hid (nextw HB.out bb); clear bb; have c0n := B_n.out.c0; have c1n := B_n.out.c1; have c0d := B_d.out.c0; have c1d := B_d.out.c1; have c0m := B_m.out.c0; have c1m := B_m.out.c1; have c0e := B_e.out.c0; have c1e := B_e.out.c1; have tk3 : True := trivial))) | fail
  all_goals (clear z1x z2y z3x z4y z5n z6d)
  have HBo := HB.out
  go_wp2
  go_ret
  exact ⟨ret_int HC.out, nextw HBo (by exact ⟨rfl, rfl, rfl, Nat.le_refl _, fun _ _ => rfl⟩)⟩

set_option maxRecDepth 100000 in
set_option maxHeartbeats 8000000 in
theorem Add_q {v1 v2 : Value} {r1 r2 : Rat} {k1 k2 : Nat} {w : World} (h1 : Qd w v1 r1 k1) (h2 : Qd w v2 r2 k2) (f1 : k1 ≤ 4000) (f2 : k2 ≤ 4000) :
    Calls Tryz.prog 21 #[v1, v2] w fun e w' => ∃ v', e = .returned v' ∧ Qc w' v' (r1 + r2) (2 * k1 + 2 * k2 + 11) ∧ Below w.heap.size w w' := by
  obtain ⟨a1, b1, h1, rfl⟩ := h1
  obtain ⟨a2, b2, h2, rfl⟩ := h2
  obtain ⟨sx, Ax, kx, cx, tx, Cx, lx, dx, rfl, hnx, hdx⟩ := h1.shape
  obtain ⟨sy, Ay, ky, cy, ty, Cy, ly, dy, rfl, hny, hdy⟩ := h2.shape
  have V_xn := Lib.hid hnx
  have V_xd := Lib.hid hdx
  have V_yn := Lib.hid hny
  have V_yd := Lib.hid hdy
  clear h1 hnx hdx h2 hny hdy
  have hb0 : Below w.heap.size w (((w.alloc (.cells #[.bool sx, (.slice Ax kx cx), .bool tx, (.slice Cx lx dx)] 35)).alloc (.cells #[.bool sy, (.slice Ay ky cy), .bool ty, (.slice Cy ly dy)] 35)).alloc (.cells #[.bool false, (.slice none 0 0), .bool false, (.slice none 0 0)] 35)) := (Below.alloc (Below.alloc (Below.alloc (Below.refl w.heap.size w) (by simp <;> omega) _) (by simp <;> omega) _) (by simp <;> omega) _)
  have B_x : Box4 (((w.alloc (.cells #[.bool sx, (.slice Ax kx cx), .bool tx, (.slice Cx lx dx)] 35)).alloc (.cells #[.bool sy, (.slice Ay ky cy), .bool ty, (.slice Cy ly dy)] 35)).alloc (.cells #[.bool false, (.slice none 0 0), .bool false, (.slice none 0 0)] 35)) (w.heap.size) sx (.slice Ax kx cx) tx (.slice Cx lx dx) := by have h := Box4.alloc (Box4.alloc (Box4.new w sx (.slice Ax kx cx) tx (.slice Cx lx dx)) (.cells #[.bool sy, (.slice Ay ky cy), .bool ty, (.slice Cy ly dy)] 35)) (.cells #[.bool false, (.slice none 0 0), .bool false, (.slice none 0 0)] 35); simpa using h
  replace B_x := Lib.hid B_x
  have B_y : Box4 (((w.alloc (.cells #[.bool sx, (.slice Ax kx cx), .bool tx, (.slice Cx lx dx)] 35)).alloc (.cells #[.bool sy, (.slice Ay ky cy), .bool ty, (.slice Cy ly dy)] 35)).alloc (.cells #[.bool false, (.slice none 0 0), .bool false, (.slice none 0 0)] 35)) (w.heap.size + 1) sy (.slice Ay ky cy) ty (.slice Cy ly dy) := by have h := Box4.alloc (Box4.new (w.alloc (.cells #[.bool sx, (.slice Ax kx cx), .bool tx, (.slice Cx lx dx)] 35)) sy (.slice Ay ky cy) ty (.slice Cy ly dy)) (.cells #[.bool false, (.slice none 0 0), .bool false, (.slice none 0 0)] 35); simpa using h
  replace B_y := Lib.hid B_y
  have B_r : Box4 (((w.alloc (.cells #[.bool sx, (.slice Ax kx cx), .bool tx, (.slice Cx lx dx)] 35)).alloc (.cells #[.bool sy, (.slice Ay ky cy), .bool ty, (.slice Cy ly dy)] 35)).alloc (.cells #[.bool false, (.slice none 0 0), .bool false, (.slice none 0 0)] 35)) (w.heap.size + 1 + 1) false (.slice none 0 0) false (.slice none 0 0) := by have h := Box4.new ((w.alloc (.cells #[.bool sx, (.slice Ax kx cx), .bool tx, (.slice Cx lx dx)] 35)).alloc (.cells #[.bool sy, (.slice Ay ky cy), .bool ty, (.slice Cy ly dy)] 35)) false (.slice none 0 0) false (.slice none 0 0); simpa using h
  replace B_r := Lib.hid B_r
  replace V_xn := Lib.hid (Rd.below V_xn.out hb0)
  replace V_xd := Lib.hid (Rd.below V_xd.out hb0)
  replace V_yn := Lib.hid (Rd.below V_yn.out hb0)
  replace V_yd := Lib.hid (Rd.below V_yd.out hb0)
  have HB := Lib.hid hb0
  clear hb0
  have c0x := B_x.out.c0
  have c1x := B_x.out.c1
  have c2x := B_x.out.c2
  have c3x := B_x.out.c3
  have c0y := B_y.out.c0
  have c1y := B_y.out.c1
  have c2y := B_y.out.c2
  have c3y := B_y.out.c3
  have c0r := B_r.out.c0
  have c1r := B_r.out.c1
  have c2r := B_r.out.c2
  have c3r := B_r.out.c3
  go_enter Tryz.func21, Tryz.ntmps21
  go_wp2_with fail
  clear c0x c1x c2x c3x c0y c1y c2y c3y c0r c1r c2r c3r
  generalize ((w.alloc (.cells #[.bool sx, (.slice Ax kx cx), .bool tx, (.slice Cx lx dx)] 35)).alloc (.cells #[.bool sy, (.slice Ay ky cy), .bool ty, (.slice Cy ly dy)] 35)).alloc (.cells #[.bool false, (.slice none 0 0), .bool false, (.slice none 0 0)] 35) = W0 at *
  refine (fraction_fd (Fd.mk (Rd.below V_xn.out (by exact ⟨rfl, rfl, rfl, Nat.le_refl _, fun _ _ => rfl⟩)) (Rd.below V_xd.out (by exact ⟨rfl, rfl, rfl, Nat.le_refl _, fun _ _ => rfl⟩))) (by omega)).mono ?_
  rintro e w1 ⟨vn, vd, rfl, rn, rd, bb⟩
  replace bb := nextw (w0 := W0) (by exact ⟨rfl, rfl, rfl, Nat.le_refl _, fun _ _ => rfl⟩) bb
  replace B_x := Lib.hid (Box4.below B_x.out bb B_x.out.lt)
  replace B_y := Lib.hid (Box4.below B_y.out bb B_y.out.lt)
  replace B_r := Lib.hid (Box4.below B_r.out bb B_r.out.lt)
  replace V_xn := Lib.hid (Rd.below V_xn.out bb)
  replace V_xd := Lib.hid (Rd.below V_xd.out bb)
  replace V_yn := Lib.hid (Rd.below V_yn.out bb)
  replace V_yd := Lib.hid (Rd.below V_yd.out bb)
  replace HB := Lib.hid (nextw HB.out bb)
  clear bb
  obtain ⟨sn, An, kn, cn, rfl, -⟩ := rn.shape
  obtain ⟨sd, Ad, kd, cd, rfl, -⟩ := rd.shape
  clear V_xn V_xd
  have V_n := Lib.hid rn
  have V_d := Lib.hid rd
  clear rn rd
  have Z1x := Lib.hid B_x.out.lt
  have Z2y := Lib.hid B_y.out.lt
  have Z3r := Lib.hid B_r.out.lt
  have hb0 : Below w1.heap.size w1 ((w1.alloc (.cells #[.bool sn, (.slice An kn cn)] 24)).alloc (.cells #[.bool sd, (.slice Ad kd cd)] 24)) := (Below.alloc (Below.alloc (Below.refl w1.heap.size w1) (by simp <;> omega) _) (by simp <;> omega) _)
  have B_n : Box ((w1.alloc (.cells #[.bool sn, (.slice An kn cn)] 24)).alloc (.cells #[.bool sd, (.slice Ad kd cd)] 24)) (w1.heap.size) sn (.slice An kn cn) := by have h := Box.alloc (Box.new w1 sn (.slice An kn cn)) (.cells #[.bool sd, (.slice Ad kd cd)] 24); simpa using h
  replace B_n := Lib.hid B_n
  have B_d : Box ((w1.alloc (.cells #[.bool sn, (.slice An kn cn)] 24)).alloc (.cells #[.bool sd, (.slice Ad kd cd)] 24)) (w1.heap.size + 1) sd (.slice Ad kd cd) := by have h := Box.new (w1.alloc (.cells #[.bool sn, (.slice An kn cn)] 24)) sd (.slice Ad kd cd); simpa using h
  replace B_d := Lib.hid B_d
  replace B_x := Lib.hid (Box4.below B_x.out hb0 B_x.out.lt)
  replace B_y := Lib.hid (Box4.below B_y.out hb0 B_y.out.lt)
  replace B_r := Lib.hid (Box4.below B_r.out hb0 B_r.out.lt)
  replace V_yn := Lib.hid (Rd.below V_yn.out hb0)
  replace V_yd := Lib.hid (Rd.below V_yd.out hb0)
  replace V_n := Lib.hid (Rd.below V_n.out hb0)
  replace V_d := Lib.hid (Rd.below V_d.out hb0)
  replace HB := Lib.hid (nextw HB.out hb0)
  clear hb0
  have c0y := B_y.out.c0
  have c1y := B_y.out.c1
  have c2y := B_y.out.c2
  have c3y := B_y.out.c3
  have c0n := B_n.out.c0
  have c1n := B_n.out.c1
  have c0d := B_d.out.c0
  have c1d := B_d.out.c1
  go_wp2_with fail
  clear c0y c1y c2y c3y c0n c1n c0d c1d
  generalize (w1.alloc (.cells #[.bool sn, (.slice An kn cn)] 24)).alloc (.cells #[.bool sd, (.slice Ad kd cd)] 24) = W1 at *
  refine (fraction_fd (Fd.mk (Rd.below V_yn.out (by exact ⟨rfl, rfl, rfl, Nat.le_refl _, fun _ _ => rfl⟩)) (Rd.below V_yd.out (by exact ⟨rfl, rfl, rfl, Nat.le_refl _, fun _ _ => rfl⟩))) (by omega)).mono ?_
  rintro e w2 ⟨vm, ve, rfl, rm, re, bb⟩
  replace bb := nextw (w0 := W1) (by exact ⟨rfl, rfl, rfl, Nat.le_refl _, fun _ _ => rfl⟩) bb
  replace B_x := Lib.hid (Box4.below B_x.out bb B_x.out.lt)
  replace B_y := Lib.hid (Box4.below B_y.out bb B_y.out.lt)
  replace B_r := Lib.hid (Box4.below B_r.out bb B_r.out.lt)
  replace B_n := Lib.hid (Box.below B_n.out bb B_n.out.lt)
  replace B_d := Lib.hid (Box.below B_d.out bb B_d.out.lt)
  replace V_yn := Lib.hid (Rd.below V_yn.out bb)
  replace V_yd := Lib.hid (Rd.below V_yd.out bb)
  replace V_n := Lib.hid (Rd.below V_n.out bb)
  replace V_d := Lib.hid (Rd.below V_d.out bb)
  replace HB := Lib.hid (nextw HB.out bb)
  clear bb
  obtain ⟨sm, Am, km, cm, rfl, -⟩ := rm.shape
  obtain ⟨se, Ae, ke, ce, rfl, -⟩ := re.shape
  clear V_yn V_yd
  have V_m := Lib.hid rm
  have V_e := Lib.hid re
  clear rm re
  have Z4x := Lib.hid B_x.out.lt
  have Z5y := Lib.hid B_y.out.lt
  have Z6r := Lib.hid B_r.out.lt
  have Z7n := Lib.hid B_n.out.lt
  have Z8d := Lib.hid B_d.out.lt
  have hb0 : Below w2.heap.size w2 ((w2.alloc (.cells #[.bool sm, (.slice Am km cm)] 24)).alloc (.cells #[.bool se, (.slice Ae ke ce)] 24)) := (Below.alloc (Below.alloc (Below.refl w2.heap.size w2) (by simp <;> omega) _) (by simp <;> omega) _)
  have B_m : Box ((w2.alloc (.cells #[.bool sm, (.slice Am km cm)] 24)).alloc (.cells #[.bool se, (.slice Ae ke ce)] 24)) (w2.heap.size) sm (.slice Am km cm) := by have h := Box.alloc (Box.new w2 sm (.slice Am km cm)) (.cells #[.bool se, (.slice Ae ke ce)] 24); simpa using h
  replace B_m := Lib.hid B_m
  have B_e : Box ((w2.alloc (.cells #[.bool sm, (.slice Am km cm)] 24)).alloc (.cells #[.bool se, (.slice Ae ke ce)] 24)) (w2.heap.size + 1) se (.slice Ae ke ce) := by have h := Box.new (w2.alloc (.cells #[.bool sm, (.slice Am km cm)] 24)) se (.slice Ae ke ce); simpa using h
  replace B_e := Lib.hid B_e
  replace B_x := Lib.hid (Box4.below B_x.out hb0 B_x.out.lt)
  replace B_y := Lib.hid (Box4.below B_y.out hb0 B_y.out.lt)
  replace B_r := Lib.hid (Box4.below B_r.out hb0 B_r.out.lt)
  replace B_n := Lib.hid (Box.below B_n.out hb0 B_n.out.lt)
  replace B_d := Lib.hid (Box.below B_d.out hb0 B_d.out.lt)
  replace V_n := Lib.hid (Rd.below V_n.out hb0)
  replace V_d := Lib.hid (Rd.below V_d.out hb0)
  replace V_m := Lib.hid (Rd.below V_m.out hb0)
  replace V_e := Lib.hid (Rd.below V_e.out hb0)
  replace HB := Lib.hid (nextw HB.out hb0)
  clear hb0
  have c0n := B_n.out.c0
  have c1n := B_n.out.c1
  have c0d := B_d.out.c0
  have c1d := B_d.out.c1
  have c0m := B_m.out.c0
  have c1m := B_m.out.c1
  have c0e := B_e.out.c0
  have c1e := B_e.out.c1
  have c0r := B_r.out.c0
  have c1r := B_r.out.c1
  have c2r := B_r.out.c2
  have c3r := B_r.out.c3
  go_wp2
  clear c0n c1n c0d c1d c0m c1m c0e c1e c0r c1r c2r c3r
  generalize (w2.alloc (.cells #[.bool sm, (.slice Am km cm)] 24)).alloc (.cells #[.bool se, (.slice Ae ke ce)] 24) = W2 at *
  have HD1 := Lib.hid (frD_pos a1 b1)
  have HD2 := Lib.hid (frD_pos a2 b2)
  have hc : Rat.divInt (frN a1 b1 * frD a2 b2 + frN a2 b2 * frD a1 b1) (frD a1 b1 * frD a2 b2) = Rat.divInt a1 b1 + Rat.divInt a2 b2 := by rw [add_fr HD1.out HD2.out, fr_eq, fr_eq]
  have HC := Lib.hid hc
  clear hc
  have c0n := B_n.out.c0
  have c1n := B_n.out.c1
  have c0d := B_d.out.c0
  have c1d := B_d.out.c1
  have c0m := B_m.out.c0
  have c1m := B_m.out.c1
  have c0e := B_e.out.c0
  have c1e := B_e.out.c1
  have z1x := Z1x.out
  have z2y := Z2y.out
  have z3r := Z3r.out
  have z4x := Z4x.out
  have z5y := Z5y.out
  have z6r := Z6r.out
  have z7n := Z7n.out
  have z8d := Z8d.out
  have tk0 : True := trivial
  first | (go_region_held3 (fun w' => w'.cell? ⟨w1.heap.size, 0, none⟩ = some (.bool sn) ∧ w'.cell? ⟨w1.heap.size, 1, none⟩ = some (.slice An kn cn) ∧ w'.cell? ⟨w1.heap.size + 1, 0, none⟩ = some (.bool sd) ∧ w'.cell? ⟨w1.heap.size + 1, 1, none⟩ = some (.slice Ad kd cd) ∧ w'.cell? ⟨w2.heap.size, 0, none⟩ = some (.bool sm) ∧ w'.cell? ⟨w2.heap.size, 1, none⟩ = some (.slice Am km cm) ∧ w'.cell? ⟨w2.heap.size + 1, 0, none⟩ = some (.bool se) ∧ w'.cell? ⟨w2.heap.size + 1, 1, none⟩ = some (.slice Ae ke ce)) (((try dsimp only); (repeat' apply And.intro) <;> (first | (with_reducible assumption) | ((repeat (first | (with_reducible refine Eq.trans (cell_drew1 _ _) ?_) | (with_reducible refine Eq.trans (cell_set4 (by omega) _ _ _ _) ?_))); with_reducible assumption) | assumption | go_keep)))
    (first
      | (have _t := tk0; clear _t tk0; go_at_call 46; refine (Mul_rd (Rd.below V_n.out (by exact ⟨rfl, rfl, rfl, Nat.le_refl _, fun _ _ => rfl⟩)) (Rd.below V_e.out (by exact ⟨rfl, rfl, rfl, Nat.le_refl _, fun _ _ => rfl⟩)) (by omega) (by omega)).mono ?_; rintro e w3 ⟨vp1, rfl, rp1, bb⟩; replace bb := nextw (w0 := W2) (by exact ⟨rfl, rfl, rfl, Nat.le_refl _, fun _ _ => rfl⟩) bb; clear V_n; replace B_x := Lib.hid (Box4.below B_x.out bb B_x.out.lt); replace B_y := Lib.hid (Box4.below B_y.out bb B_y.out.lt); replace B_r := Lib.hid (Box4.below B_r.out bb B_r.out.lt); replace B_n := Lib.hid (Box.below B_n.out bb B_n.out.lt); replace B_d := Lib.hid (Box.below B_d.out bb B_d.out.lt); replace B_m := Lib.hid (Box.below B_m.out bb B_m.out.lt); replace B_e := Lib.hid (Box.below B_e.out bb B_e.out.lt); replace V_d := Lib.hid (Rd.below V_d.out bb); replace V_m := Lib.hid (Rd.below V_m.out bb); replace V_e := Lib.hid (Rd.below V_e.out bb); replace HB := Lib.hid (nextw HB.out bb); clear bb; replace rp1 := Lib.hid rp1; have V_p1 := rp1; clear rp1; have c0n := B_n.out.c0; have c1n := B_n.out.c1; have c0d := B_d.out.c0; have c1d := B_d.out.c1; have c0m := B_m.out.c0; have c1m := B_m.out.c1; have c0e := B_e.out.c0; have c1e := B_e.out.c1; have tk1 : True := trivial)
      | (have _t := tk1; clear _t tk1; go_at_call 46; refine (Mul_rd (Rd.below V_m.out (by exact ⟨rfl, rfl, rfl, Nat.le_refl _, fun _ _ => rfl⟩)) (Rd.below V_d.out (by exact ⟨rfl, rfl, rfl, Nat.le_refl _, fun _ _ => rfl⟩)) (by omega) (by omega)).mono ?_; rintro e w4 ⟨vp2, rfl, rp2, bb⟩; replace bb := nextw (w0 := w3) (by exact ⟨rfl, rfl, rfl, Nat.le_refl _, fun _ _ => rfl⟩) bb; clear V_m; replace B_x := Lib.hid (Box4.below B_x.out bb B_x.out.lt); replace B_y := Lib.hid (Box4.below B_y.out bb B_y.out.lt); replace B_r := Lib.hid (Box4.below B_r.out bb B_r.out.lt); replace B_n := Lib.hid (Box.below B_n.out bb B_n.out.lt); replace B_d := Lib.hid (Box.below B_d.out bb B_d.out.lt); replace B_m := Lib.hid (Box.below B_m.out bb B_m.out.lt); replace B_e := Lib.hid (Box.below B_e.out bb B_e.out.lt); replace V_d := Lib.hid (Rd.below V_d.out bb); replace V_e := Lib.hid (Rd.below V_e.out bb); replace V_p1 := Lib.hid (Rc.below V_p1.out bb); replace HB := Lib.hid (nextw HB.out bb); clear bb; replace rp2 := Lib.hid rp2; have V_p2 := rp2; clear rp2; have c0n := B_n.out.c0; have c1n := B_n.out.c1; have c0d := B_d.out.c0; have c1d := B_d.out.c1; have c0m := B_m.out.c0; have c1m := B_m.out.c1; have c0e := B_e.out.c0; have c1e := B_e.out.c1; have tk2 : True := trivial)
      | (have _t := tk2; clear _t tk2; go_at_call 52; refine (Add_rd (Rc.rd (Rc.below V_p1.out (by exact ⟨rfl, rfl, rfl, Nat.le_refl _, fun _ _ => rfl⟩))) (Rc.rd (Rc.below V_p2.out (by exact ⟨rfl, rfl, rfl, Nat.le_refl _, fun _ _ => rfl⟩))) (by omega) (by omega)).mono ?_; rintro e w5 ⟨vp3, rfl, rp3, bb⟩; replace bb := nextw (w0 := w4) (by exact ⟨rfl, rfl, rfl, Nat.le_refl _, fun _ _ => rfl⟩) bb; clear V_p1 V_p2; replace B_x := Lib.hid (Box4.below B_x.out bb B_x.out.lt); replace B_y := Lib.hid (Box4.below B_y.out bb B_y.out.lt); replace B_r := Lib.hid (Box4.below B_r.out bb B_r.out.lt); replace B_n := Lib.hid (Box.below B_n.out bb B_n.out.lt); replace B_d := Lib.hid (Box.below B_d.out bb B_d.out.lt); replace B_m := Lib.hid (Box.below B_m.out bb B_m.out.lt); replace B_e := Lib.hid (Box.below B_e.out bb B_e.out.lt); replace V_d := Lib.hid (Rd.below V_d.out bb); replace V_e := Lib.hid (Rd.below V_e.out bb); replace HB := Lib.hid (nextw HB.out bb); clear bb; replace rp3 := Lib.hid rp3; have V_p3 := rp3; clear rp3; have c0n := B_n.out.c0; have c1n := B_n.out.c1; have c0d := B_d.out.c0; have c1d := B_d.out.c1; have c0m := B_m.out.c0; have c1m := B_m.out.c1; have c0e := B_e.out.c0; have c1e := B_e.out.c1; have tk3 : True := trivial)
      | (have _t := tk3; clear _t tk3; go_at_call 46; refine (Mul_rd (Rd.below V_d.out (by exact ⟨rfl, rfl, rfl, Nat.le_refl _, fun _ _ => rfl⟩)) (Rd.below V_e.out (by exact ⟨rfl, rfl, rfl, Nat.le_refl _, fun _ _ => rfl⟩)) (by omega) (by omega)).mono ?_; rintro e w6 ⟨vp4, rfl, rp4, bb⟩; replace bb := nextw (w0 := w5) (by exact ⟨rfl, rfl, rfl, Nat.le_refl _, fun _ _ => rfl⟩) bb; clear V_d V_e; replace B_x := Lib.hid (Box4.below B_x.out bb B_x.out.lt); replace B_y := Lib.hid (Box4.below B_y.out bb B_y.out.lt); replace B_r := Lib.hid (Box4.below B_r.out bb B_r.out.lt); replace B_n := Lib.hid (Box.below B_n.out bb B_n.out.lt); replace B_d := Lib.hid (Box.below B_d.out bb B_d.out.lt); replace B_m := Lib.hid (Box.below B_m.out bb B_m.out.lt); replace B_e := Lib.hid (Box.below B_e.out bb B_e.out.lt); replace V_p3 := Lib.hid (Rc.below V_p3.out bb); replace HB := Lib.hid (nextw HB.out bb); clear bb; replace rp4 := Lib.hid rp4; have V_p4 := rp4; clear rp4; have c0n := B_n.out.c0; have c1n := B_n.out.c1; have c0d := B_d.out.c0; have c1d := B_d.out.c1; have c0m := B_m.out.c0; have c1m := B_m.out.c1; have c0e := B_e.out.c0; have c1e := B_e.out.c1; have tk4 : True := trivial)
      | (have _t := tk4; clear _t tk4; go_at_call 49; refine (New_rd (k := (k1 + 2 + (k2 + 2) + (k2 + 2 + (k1 + 2)) + 1)) ((Rc.rd (Rc.below V_p3.out (by exact ⟨rfl, rfl, rfl, Nat.le_refl _, fun _ _ => rfl⟩))).more (by omega)) ((Rc.rd (Rc.below V_p4.out (by exact ⟨rfl, rfl, rfl, Nat.le_refl _, fun _ _ => rfl⟩))).more (by omega)) (by omega)).mono ?_; rintro e w7 ⟨vq, rfl, rq, bb⟩; replace bb := nextw (w0 := w6) (by exact ⟨rfl, rfl, rfl, Nat.le_refl _, fun _ _ => rfl⟩) bb; clear V_p3 V_p4; replace B_x := Lib.hid (Box4.below B_x.out bb B_x.out.lt); replace B_y := Lib.hid (Box4.below B_y.out bb B_y.out.lt); replace B_r := Lib.hid (Box4.below B_r.out bb B_r.out.lt); replace B_n := Lib.hid (Box.below B_n.out bb B_n.out.lt); replace B_d := Lib.hid (Box.below B_d.out bb B_d.out.lt); replace B_m := Lib.hid (Box.below B_m.out bb B_m.out.lt); replace B_e := Lib.hid (Box.below B_e.out bb B_e.out.lt); replace HB := Lib.hid (nextw HB.out bb); clear bb; replace rq := Lib.hid rq; have V_q := rq; clear rq; obtain ⟨sq, Aq, kq, cq, tq, Cq, lq, dq, rfl⟩ := V_q.out.shape; have c0r := B_r.out.c0; have c1r := B_r.out.c1; have c2r := B_r.out.c2; have c3r := B_r.out.c3; have f0r := B_r.out.f0; have f1r := B_r.out.f1; have f2r := B_r.out.f2; have f3r := B_r.out.f3; have c0n := B_n.out.c0; have c1n := B_n.out.c1; have c0d := B_d.out.c0; have c1d := B_d.out.c1; have c0m := B_m.out.c0; have c1m := B_m.out.c1; have c0e := B_e.out.c0; have c1e := B_e.out.c1; have tk5 : True := trivial))) | fail
  all_goals (clear z1x z2y z3r z4x z5y z6r z7n z8d)
  all_goals
    skip
    have K_q := V_q
    replace K_q := Lib.hid (Box4.keepsQc B_r.out K_q.out (.bool sq) (.slice Aq kq cq) (.bool tq) (.slice Cq lq dq))
    have HB1 := Lib.hid (Below.store4 HB.out (y := w.heap.size + 1 + 1) (by omega) (.bool sq) (.slice Aq kq cq) (.bool tq) (.slice Cq lq dq))
    have N0r := Lib.hid (Box4.store B_r.out sq (.slice Aq kq cq) tq (.slice Cq lq dq))
    have s0r := N0r.out.c0
    have s1r := N0r.out.c1
    have s2r := N0r.out.c2
    have s3r := N0r.out.c3
    simp only [st4] at s0r s1r s2r s3r
    have HBF := HB1
    have c0r := B_r.out.c0
    have c1r := B_r.out.c1
    have c2r := B_r.out.c2
    have c3r := B_r.out.c3
    have f0r := B_r.out.f0
    have f1r := B_r.out.f1
    have f2r := B_r.out.f2
    have f3r := B_r.out.f3
    go_wp2_with fail
    exact bodyPost_ret (v := .agg #[.bool sq, (.slice Aq kq cq), .bool tq, (.slice Cq lq dq)]) (by simp [results, Tryz.results21, go_sem, s0r, s1r, s2r, s3r]) rfl ⟨_, rfl, ((Qc.below K_q.out (by exact ⟨rfl, rfl, rfl, Nat.le_refl _, fun _ _ => rfl⟩)).of_eq HC.out).more (by omega), (nextw HBF.out (by exact ⟨rfl, rfl, rfl, Nat.le_refl _, fun _ _ => rfl⟩))⟩

set_option maxRecDepth 100000 in
set_option maxHeartbeats 8000000 in
theorem Mul_q {v1 v2 : Value} {r1 r2 : Rat} {k1 k2 : Nat} {w : World} (h1 : Qd w v1 r1 k1) (h2 : Qd w v2 r2 k2) (f1 : k1 ≤ 4000) (f2 : k2 ≤ 4000) :
    Calls Tryz.prog 22 #[v1, v2] w fun e w' => ∃ v', e = .returned v' ∧ Qc w' v' (r1 * r2) (k1 + k2 + 2) ∧ Below w.heap.size w w' := by
  obtain ⟨a1, b1, h1, rfl⟩ := h1
  obtain ⟨a2, b2, h2, rfl⟩ := h2
  obtain ⟨sx, Ax, kx, cx, tx, Cx, lx, dx, rfl, hnx, hdx⟩ := h1.shape
  obtain ⟨sy, Ay, ky, cy, ty, Cy, ly, dy, rfl, hny, hdy⟩ := h2.shape
  have V_xn := Lib.hid hnx
  have V_xd := Lib.hid hdx
  have V_yn := Lib.hid hny
  have V_yd := Lib.hid hdy
  clear h1 hnx hdx h2 hny hdy
  have hb0 : Below w.heap.size w (((w.alloc (.cells #[.bool sx, (.slice Ax kx cx), .bool tx, (.slice Cx lx dx)] 35)).alloc (.cells #[.bool sy, (.slice Ay ky cy), .bool ty, (.slice Cy ly dy)] 35)).alloc (.cells #[.bool false, (.slice none 0 0), .bool false, (.slice none 0 0)] 35)) := (Below.alloc (Below.alloc (Below.alloc (Below.refl w.heap.size w) (by simp <;> omega) _) (by simp <;> omega) _) (by simp <;> omega) _)
  have B_x : Box4 (((w.alloc (.cells #[.bool sx, (.slice Ax kx cx), .bool tx, (.slice Cx lx dx)] 35)).alloc (.cells #[.bool sy, (.slice Ay ky cy), .bool ty, (.slice Cy ly dy)] 35)).alloc (.cells #[.bool false, (.slice none 0 0), .bool false, (.slice none 0 0)] 35)) (w.heap.size) sx (.slice Ax kx cx) tx (.slice Cx lx dx) := by have h := Box4.alloc (Box4.alloc (Box4.new w sx (.slice Ax kx cx) tx (.slice Cx lx dx)) (.cells #[.bool sy, (.slice Ay ky cy), .bool ty, (.slice Cy ly dy)] 35)) (.cells #[.bool false, (.slice none 0 0), .bool false, (.slice none 0 0)] 35); simpa using h
  replace B_x := Lib.hid B_x
  have B_y : Box4 (((w.alloc (.cells #[.bool sx, (.slice Ax kx cx), .bool tx, (.slice Cx lx dx)] 35)).alloc (.cells #[.bool sy, (.slice Ay ky cy), .bool ty, (.slice Cy ly dy)] 35)).alloc (.cells #[.bool false, (.slice none 0 0), .bool false, (.slice none 0 0)] 35)) (w.heap.size + 1) sy (.slice Ay ky cy) ty (.slice Cy ly dy) := by have h := Box4.alloc (Box4.new (w.alloc (.cells #[.bool sx, (.slice Ax kx cx), .bool tx, (.slice Cx lx dx)] 35)) sy (.slice Ay ky cy) ty (.slice Cy ly dy)) (.cells #[.bool false, (.slice none 0 0), .bool false, (.slice none 0 0)] 35); simpa using h
  replace B_y := Lib.hid B_y
  have B_r : Box4 (((w.alloc (.cells #[.bool sx, (.slice Ax kx cx), .bool tx, (.slice Cx lx dx)] 35)).alloc (.cells #[.bool sy, (.slice Ay ky cy), .bool ty, (.slice Cy ly dy)] 35)).alloc (.cells #[.bool false, (.slice none 0 0), .bool false, (.slice none 0 0)] 35)) (w.heap.size + 1 + 1) false (.slice none 0 0) false (.slice none 0 0) := by have h := Box4.new ((w.alloc (.cells #[.bool sx, (.slice Ax kx cx), .bool tx, (.slice Cx lx dx)] 35)).alloc (.cells #[.bool sy, (.slice Ay ky cy), .bool ty, (.slice Cy ly dy)] 35)) false (.slice none 0 0) false (.slice none 0 0); simpa using h
  replace B_r := Lib.hid B_r
  replace V_xn := Lib.hid (Rd.below V_xn.out hb0)
  replace V_xd := Lib.hid (Rd.below V_xd.out hb0)
  replace V_yn := Lib.hid (Rd.below V_yn.out hb0)
  replace V_yd := Lib.hid (Rd.below V_yd.out hb0)
  have HB := Lib.hid hb0
  clear hb0
  have c0x := B_x.out.c0
  have c1x := B_x.out.c1
  have c2x := B_x.out.c2
  have c3x := B_x.out.c3
  have f0x := B_x.out.f0
  have f1x := B_x.out.f1
  have f2x := B_x.out.f2
  have f3x := B_x.out.f3
  have c0y := B_y.out.c0
  have c1y := B_y.out.c1
  have c2y := B_y.out.c2
  have c3y := B_y.out.c3
  have f0y := B_y.out.f0
  have f1y := B_y.out.f1
  have f2y := B_y.out.f2
  have f3y := B_y.out.f3
  have c0r := B_r.out.c0
  have c1r := B_r.out.c1
  have c2r := B_r.out.c2
  have c3r := B_r.out.c3
  have f0r := B_r.out.f0
  have f1r := B_r.out.f1
  have f2r := B_r.out.f2
  have f3r := B_r.out.f3
  go_enter Tryz.func22, Tryz.ntmps22
  go_wp2
  clear c0x c1x c2x c3x f0x f1x f2x f3x c0y c1y c2y c3y f0y f1y f2y f3y c0r c1r c2r c3r f0r f1r f2r f3r
  generalize ((w.alloc (.cells #[.bool sx, (.slice Ax kx cx), .bool tx, (.slice Cx lx dx)] 35)).alloc (.cells #[.bool sy, (.slice Ay ky cy), .bool ty, (.slice Cy ly dy)] 35)).alloc (.cells #[.bool false, (.slice none 0 0), .bool false, (.slice none 0 0)] 35) = W0 at *
  have HC := Lib.hid (mul_fr a1 b1 a2 b2)
  have c0x := B_x.out.c0
  have c1x := B_x.out.c1
  have c2x := B_x.out.c2
  have c3x := B_x.out.c3
  have c0y := B_y.out.c0
  have c1y := B_y.out.c1
  have c2y := B_y.out.c2
  have c3y := B_y.out.c3
  have tk0 : True := trivial
  first | (go_region_held3 (fun w' => w'.cell? ⟨w.heap.size, 0, none⟩ = some (.bool sx) ∧ w'.cell? ⟨w.heap.size, 1, none⟩ = some (.slice Ax kx cx) ∧ w'.cell? ⟨w.heap.size, 2, none⟩ = some (.bool tx) ∧ w'.cell? ⟨w.heap.size, 3, none⟩ = some (.slice Cx lx dx) ∧ w'.cell? ⟨w.heap.size + 1, 0, none⟩ = some (.bool sy) ∧ w'.cell? ⟨w.heap.size + 1, 1, none⟩ = some (.slice Ay ky cy) ∧ w'.cell? ⟨w.heap.size + 1, 2, none⟩ = some (.bool ty) ∧ w'.cell? ⟨w.heap.size + 1, 3, none⟩ = some (.slice Cy ly dy)) (((try dsimp only); (repeat' apply And.intro) <;> (first | (with_reducible assumption) | ((repeat (first | (with_reducible refine Eq.trans (cell_drew1 _ _) ?_) | (with_reducible refine Eq.trans (cell_set4 (by omega) _ _ _ _) ?_))); with_reducible assumption) | assumption | go_keep)))
    (first
      | (have _t := tk0; clear _t tk0; go_at_call 46; refine (Mul_rd (Rd.below V_xn.out (by exact ⟨rfl, rfl, rfl, Nat.le_refl _, fun _ _ => rfl⟩)) (Rd.below V_yn.out (by exact ⟨rfl, rfl, rfl, Nat.le_refl _, fun _ _ => rfl⟩)) (by omega) (by omega)).mono ?_; rintro e w1 ⟨vp1, rfl, rp1, bb⟩; replace bb := nextw (w0 := W0) (by exact ⟨rfl, rfl, rfl, Nat.le_refl _, fun _ _ => rfl⟩) bb; clear V_xn V_yn; replace B_x := Lib.hid (Box4.below B_x.out bb B_x.out.lt); replace B_y := Lib.hid (Box4.below B_y.out bb B_y.out.lt); replace B_r := Lib.hid (Box4.below B_r.out bb B_r.out.lt); replace V_xd := Lib.hid (Rd.below V_xd.out bb); replace V_yd := Lib.hid (Rd.below V_yd.out bb); replace HB := Lib.hid (nextw HB.out bb); clear bb; replace rp1 := Lib.hid rp1; have V_p1 := rp1; clear rp1; have c0x := B_x.out.c0; have c1x := B_x.out.c1; have c2x := B_x.out.c2; have c3x := B_x.out.c3; have c0y := B_y.out.c0; have c1y := B_y.out.c1; have c2y := B_y.out.c2; have c3y := B_y.out.c3; have tk1 : True := trivial)
      | (have _t := tk1; clear _t tk1; go_at_call 46; refine (Mul_rd (Rd.below V_xd.out (by exact ⟨rfl, rfl, rfl, Nat.le_refl _, fun _ _ => rfl⟩)) (Rd.below V_yd.out (by exact ⟨rfl, rfl, rfl, Nat.le_refl _, fun _ _ => rfl⟩)) (by omega) (by omega)).mono ?_; rintro e w2 ⟨vp2, rfl, rp2, bb⟩; replace bb := nextw (w0 := w1) (by exact ⟨rfl, rfl, rfl, Nat.le_refl _, fun _ _ => rfl⟩) bb; clear V_xd V_yd; replace B_x := Lib.hid (Box4.below B_x.out bb B_x.out.lt); replace B_y := Lib.hid (Box4.below B_y.out bb B_y.out.lt); replace B_r := Lib.hid (Box4.below B_r.out bb B_r.out.lt); replace V_p1 := Lib.hid (Rc.below V_p1.out bb); replace HB := Lib.hid (nextw HB.out bb); clear bb; replace rp2 := Lib.hid rp2; have V_p2 := rp2; clear rp2; have c0x := B_x.out.c0; have c1x := B_x.out.c1; have c2x := B_x.out.c2; have c3x := B_x.out.c3; have c0y := B_y.out.c0; have c1y := B_y.out.c1; have c2y := B_y.out.c2; have c3y := B_y.out.c3; have tk2 : True := trivial)
      | (have _t := tk2; clear _t tk2; go_at_call 49; refine (New_rd (k := k1 + k2) (Rc.rd (Rc.below V_p1.out (by exact ⟨rfl, rfl, rfl, Nat.le_refl _, fun _ _ => rfl⟩))) (Rc.rd (Rc.below V_p2.out (by exact ⟨rfl, rfl, rfl, Nat.le_refl _, fun _ _ => rfl⟩))) (by omega)).mono ?_; rintro e w3 ⟨vq, rfl, rq, bb⟩; replace bb := nextw (w0 := w2) (by exact ⟨rfl, rfl, rfl, Nat.le_refl _, fun _ _ => rfl⟩) bb; clear V_p1 V_p2; replace B_x := Lib.hid (Box4.below B_x.out bb B_x.out.lt); replace B_y := Lib.hid (Box4.below B_y.out bb B_y.out.lt); replace B_r := Lib.hid (Box4.below B_r.out bb B_r.out.lt); replace HB := Lib.hid (nextw HB.out bb); clear bb; replace rq := Lib.hid rq; have V_q := rq; clear rq; obtain ⟨sq, Aq, kq, cq, tq, Cq, lq, dq, rfl⟩ := V_q.out.shape; have c0r := B_r.out.c0; have c1r := B_r.out.c1; have c2r := B_r.out.c2; have c3r := B_r.out.c3; have f0r := B_r.out.f0; have f1r := B_r.out.f1; have f2r := B_r.out.f2; have f3r := B_r.out.f3; have c0x := B_x.out.c0; have c1x := B_x.out.c1; have c2x := B_x.out.c2; have c3x := B_x.out.c3; have c0y := B_y.out.c0; have c1y := B_y.out.c1; have c2y := B_y.out.c2; have c3y := B_y.out.c3; have tk3 : True := trivial))) | fail
  all_goals
    skip
    have K_q := V_q
    replace K_q := Lib.hid (Box4.keepsQc B_r.out K_q.out (.bool sq) (.slice Aq kq cq) (.bool tq) (.slice Cq lq dq))
    have HB1 := Lib.hid (Below.store4 HB.out (y := w.heap.size + 1 + 1) (by omega) (.bool sq) (.slice Aq kq cq) (.bool tq) (.slice Cq lq dq))
    have N0r := Lib.hid (Box4.store B_r.out sq (.slice Aq kq cq) tq (.slice Cq lq dq))
    have s0r := N0r.out.c0
    have s1r := N0r.out.c1
    have s2r := N0r.out.c2
    have s3r := N0r.out.c3
    simp only [st4] at s0r s1r s2r s3r
    have HBF := HB1
    have c0r := B_r.out.c0
    have c1r := B_r.out.c1
    have c2r := B_r.out.c2
    have c3r := B_r.out.c3
    have f0r := B_r.out.f0
    have f1r := B_r.out.f1
    have f2r := B_r.out.f2
    have f3r := B_r.out.f3
    go_wp2_with fail
    exact bodyPost_ret (v := .agg #[.bool sq, (.slice Aq kq cq), .bool tq, (.slice Cq lq dq)]) (by simp [results, Tryz.results22, go_sem, s0r, s1r, s2r, s3r]) rfl ⟨_, rfl, (Qc.below K_q.out (by exact ⟨rfl, rfl, rfl, Nat.le_refl _, fun _ _ => rfl⟩)).of_eq HC.out, (nextw HBF.out (by exact ⟨rfl, rfl, rfl, Nat.le_refl _, fun _ _ => rfl⟩))⟩

set_option maxRecDepth 100000 in
set_option maxHeartbeats 8000000 in
theorem Sub_q {v1 v2 : Value} {r1 r2 : Rat} {k1 k2 : Nat} {w : World} (h1 : Qd w v1 r1 k1) (h2 : Qd w v2 r2 k2) (f1 : k1 ≤ 4000) (f2 : k2 ≤ 4000) :
    Calls Tryz.prog 50 #[v1, v2] w fun e w' => ∃ v', e = .returned v' ∧ Qc w' v' (r1 - r2) (2 * k1 + 2 * k2 + 11) ∧ Below w.heap.size w w' := by
  obtain ⟨a1, b1, h1, rfl⟩ := h1
  obtain ⟨a2, b2, h2, rfl⟩ := h2
  obtain ⟨sx, Ax, kx, cx, tx, Cx, lx, dx, rfl, hnx, hdx⟩ := h1.shape
  obtain ⟨sy, Ay, ky, cy, ty, Cy, ly, dy, rfl, hny, hdy⟩ := h2.shape
  have V_xn := Lib.hid hnx
  have V_xd := Lib.hid hdx
  have V_yn := Lib.hid hny
  have V_yd := Lib.hid hdy
  clear h1 hnx hdx h2 hny hdy
  have hb0 : Below w.heap.size w (((w.alloc (.cells #[.bool sx, (.slice Ax kx cx), .bool tx, (.slice Cx lx dx)] 35)).alloc (.cells #[.bool sy, (.slice Ay ky cy), .bool ty, (.slice Cy ly dy)] 35)).alloc (.cells #[.bool false, (.slice none 0 0), .bool false, (.slice none 0 0)] 35)) := (Below.alloc (Below.alloc (Below.alloc (Below.refl w.heap.size w) (by simp <;> omega) _) (by simp <;> omega) _) (by simp <;> omega) _)
  have B_x : Box4 (((w.alloc (.cells #[.bool sx, (.slice Ax kx cx), .bool tx, (.slice Cx lx dx)] 35)).alloc (.cells #[.bool sy, (.slice Ay ky cy), .bool ty, (.slice Cy ly dy)] 35)).alloc (.cells #[.bool false, (.slice none 0 0), .bool false, (.slice none 0 0)] 35)) (w.heap.size) sx (.slice Ax kx cx) tx (.slice Cx lx dx) := by have h := Box4.alloc (Box4.alloc (Box4.new w sx (.slice Ax kx cx) tx (.slice Cx lx dx)) (.cells #[.bool sy, (.slice Ay ky cy), .bool ty, (.slice Cy ly dy)] 35)) (.cells #[.bool false, (.slice none 0 0), .bool false, (.slice none 0 0)] 35); simpa using h
  replace B_x := Lib.hid B_x
  have B_y : Box4 (((w.alloc (.cells #[.bool sx, (.slice Ax kx cx), .bool tx, (.slice Cx lx dx)] 35)).alloc (.cells #[.bool sy, (.slice Ay ky cy), .bool ty, (.slice Cy ly dy)] 35)).alloc (.cells #[.bool false, (.slice none 0 0), .bool false, (.slice none 0 0)] 35)) (w.heap.size + 1) sy (.slice Ay ky cy) ty (.slice Cy ly dy) := by have h := Box4.alloc (Box4.new (w.alloc (.cells #[.bool sx, (.slice Ax kx cx), .bool tx, (.slice Cx lx dx)] 35)) sy (.slice Ay ky cy) ty (.slice Cy ly dy)) (.cells #[.bool false, (.slice none 0 0), .bool false, (.slice none 0 0)] 35); simpa using h
  replace B_y := Lib.hid B_y
  have B_r : Box4 (((w.alloc (.cells #[.bool sx, (.slice Ax kx cx), .bool tx, (.slice Cx lx dx)] 35)).alloc (.cells #[.bool sy, (.slice Ay ky cy), .bool ty, (.slice Cy ly dy)] 35)).alloc (.cells #[.bool false, (.slice none 0 0), .bool false, (.slice none 0 0)] 35)) (w.heap.size + 1 + 1) false (.slice none 0 0) false (.slice none 0 0) := by have h := Box4.new ((w.alloc (.cells #[.bool sx, (.slice Ax kx cx), .bool tx, (.slice Cx lx dx)] 35)).alloc (.cells #[.bool sy, (.slice Ay ky cy), .bool ty, (.slice Cy ly dy)] 35)) false (.slice none 0 0) false (.slice none 0 0); simpa using h
  replace B_r := Lib.hid B_r
  replace V_xn := Lib.hid (Rd.below V_xn.out hb0)
  replace V_xd := Lib.hid (Rd.below V_xd.out hb0)
  replace V_yn := Lib.hid (Rd.below V_yn.out hb0)
  replace V_yd := Lib.hid (Rd.below V_yd.out hb0)
  have HB := Lib.hid hb0
  clear hb0
  have c0x := B_x.out.c0
  have c1x := B_x.out.c1
  have c2x := B_x.out.c2
  have c3x := B_x.out.c3
  have f0x := B_x.out.f0
  have f1x := B_x.out.f1
  have f2x := B_x.out.f2
  have f3x := B_x.out.f3
  have c0y := B_y.out.c0
  have c1y := B_y.out.c1
  have c2y := B_y.out.c2
  have c3y := B_y.out.c3
  have f0y := B_y.out.f0
  have f1y := B_y.out.f1
  have f2y := B_y.out.f2
  have f3y := B_y.out.f3
  have c0r := B_r.out.c0
  have c1r := B_r.out.c1
  have c2r := B_r.out.c2
  have c3r := B_r.out.c3
  have f0r := B_r.out.f0
  have f1r := B_r.out.f1
  have f2r := B_r.out.f2
  have f3r := B_r.out.f3
  go_enter Tryz.func50, Tryz.ntmps50
  go_wp2
  clear c0x c1x c2x c3x f0x f1x f2x f3x c0y c1y c2y c3y f0y f1y f2y f3y c0r c1r c2r c3r f0r f1r f2r f3r
  generalize ((w.alloc (.cells #[.bool sx, (.slice Ax kx cx), .bool tx, (.slice Cx lx dx)] 35)).alloc (.cells #[.bool sy, (.slice Ay ky cy), .bool ty, (.slice Cy ly dy)] 35)).alloc (.cells #[.bool false, (.slice none 0 0), .bool false, (.slice none 0 0)] 35) = W0 at *
  have hc : Rat.divInt a1 b1 + Rat.divInt (-a2) b2 = Rat.divInt a1 b1 - Rat.divInt a2 b2 := by rw [neg_fr, ← Rat.sub_eq_add_neg]
  have HC := Lib.hid hc
  clear hc
  have c0x := B_x.out.c0
  have c1x := B_x.out.c1
  have c2x := B_x.out.c2
  have c3x := B_x.out.c3
  have c0y := B_y.out.c0
  have c1y := B_y.out.c1
  have c2y := B_y.out.c2
  have c3y := B_y.out.c3
  have tk0 : True := trivial
  first | (go_region_held3 (fun w' => w'.cell? ⟨w.heap.size, 0, none⟩ = some (.bool sx) ∧ w'.cell? ⟨w.heap.size, 1, none⟩ = some (.slice Ax kx cx) ∧ w'.cell? ⟨w.heap.size, 2, none⟩ = some (.bool tx) ∧ w'.cell? ⟨w.heap.size, 3, none⟩ = some (.slice Cx lx dx) ∧ w'.cell? ⟨w.heap.size + 1, 0, none⟩ = some (.bool sy) ∧ w'.cell? ⟨w.heap.size + 1, 1, none⟩ = some (.slice Ay ky cy) ∧ w'.cell? ⟨w.heap.size + 1, 2, none⟩ = some (.bool ty) ∧ w'.cell? ⟨w.heap.size + 1, 3, none⟩ = some (.slice Cy ly dy)) (((try dsimp only); (repeat' apply And.intro) <;> (first | (with_reducible assumption) | ((repeat (first | (with_reducible refine Eq.trans (cell_drew1 _ _) ?_) | (with_reducible refine Eq.trans (cell_set4 (by omega) _ _ _ _) ?_))); with_reducible assumption) | assumption | go_keep)))
    (first
      | (have _t := tk0; clear _t tk0; go_at_call 47; refine (Neg_rd (Rd.below V_yn.out (by exact ⟨rfl, rfl, rfl, Nat.le_refl _, fun _ _ => rfl⟩)) (by omega)).mono ?_; rintro e w1 ⟨vp, rfl, rp, bb⟩; replace bb := nextw (w0 := W0) (by exact ⟨rfl, rfl, rfl, Nat.le_refl _, fun _ _ => rfl⟩) bb; clear V_yn; replace B_x := Lib.hid (Box4.below B_x.out bb B_x.out.lt); replace B_y := Lib.hid (Box4.below B_y.out bb B_y.out.lt); replace B_r := Lib.hid (Box4.below B_r.out bb B_r.out.lt); replace V_xn := Lib.hid (Rd.below V_xn.out bb); replace V_xd := Lib.hid (Rd.below V_xd.out bb); replace V_yd := Lib.hid (Rd.below V_yd.out bb); replace HB := Lib.hid (nextw HB.out bb); clear bb; replace rp := Lib.hid rp; have V_p := rp; clear rp; obtain ⟨sp, Ap, kp, cp, rfl⟩ := V_p.out.shape; have c0x := B_x.out.c0; have c1x := B_x.out.c1; have c2x := B_x.out.c2; have c3x := B_x.out.c3; have c0y := B_y.out.c0; have c1y := B_y.out.c1; have c2y := B_y.out.c2; have c3y := B_y.out.c3; have tk1 : True := trivial)
      | (have _t := tk1; clear _t tk1; go_at_call 21; refine (Add_q (Fd.mk (Rd.below V_xn.out (by exact ⟨rfl, rfl, rfl, Nat.le_refl _, fun _ _ => rfl⟩)) (Rd.below V_xd.out (by exact ⟨rfl, rfl, rfl, Nat.le_refl _, fun _ _ => rfl⟩))).qd (Fd.mk (Rc.rd (Rc.below V_p.out (by exact ⟨rfl, rfl, rfl, Nat.le_refl _, fun _ _ => rfl⟩))) (Rd.below V_yd.out (by exact ⟨rfl, rfl, rfl, Nat.le_refl _, fun _ _ => rfl⟩))).qd f1 f2).mono ?_; rintro e w2 ⟨vq, rfl, rq, bb⟩; replace bb := nextw (w0 := w1) (by exact ⟨rfl, rfl, rfl, Nat.le_refl _, fun _ _ => rfl⟩) bb; clear V_xn V_xd V_yd V_p; replace B_x := Lib.hid (Box4.below B_x.out bb B_x.out.lt); replace B_y := Lib.hid (Box4.below B_y.out bb B_y.out.lt); replace B_r := Lib.hid (Box4.below B_r.out bb B_r.out.lt); replace HB := Lib.hid (nextw HB.out bb); clear bb; replace rq := Lib.hid rq; have V_q := rq; clear rq; obtain ⟨sq, Aq, kq, cq, tq, Cq, lq, dq, rfl⟩ := V_q.out.shape; have c0r := B_r.out.c0; have c1r := B_r.out.c1; have c2r := B_r.out.c2; have c3r := B_r.out.c3; have f0r := B_r.out.f0; have f1r := B_r.out.f1; have f2r := B_r.out.f2; have f3r := B_r.out.f3; have c0x := B_x.out.c0; have c1x := B_x.out.c1; have c2x := B_x.out.c2; have c3x := B_x.out.c3; have c0y := B_y.out.c0; have c1y := B_y.out.c1; have c2y := B_y.out.c2; have c3y := B_y.out.c3; have tk2 : True := trivial))) | fail
  all_goals
    skip
    have K_q := V_q
    replace K_q := Lib.hid (Box4.keepsQc B_r.out K_q.out (.bool sq) (.slice Aq kq cq) (.bool tq) (.slice Cq lq dq))
    have HB1 := Lib.hid (Below.store4 HB.out (y := w.heap.size + 1 + 1) (by omega) (.bool sq) (.slice Aq kq cq) (.bool tq) (.slice Cq lq dq))
    have N0r := Lib.hid (Box4.store B_r.out sq (.slice Aq kq cq) tq (.slice Cq lq dq))
    have s0r := N0r.out.c0
    have s1r := N0r.out.c1
    have s2r := N0r.out.c2
    have s3r := N0r.out.c3
    simp only [st4] at s0r s1r s2r s3r
    have HBF := HB1
    have c0r := B_r.out.c0
    have c1r := B_r.out.c1
    have c2r := B_r.out.c2
    have c3r := B_r.out.c3
    have f0r := B_r.out.f0
    have f1r := B_r.out.f1
    have f2r := B_r.out.f2
    have f3r := B_r.out.f3
    go_wp2_with fail
    exact bodyPost_ret (v := .agg #[.bool sq, (.slice Aq kq cq), .bool tq, (.slice Cq lq dq)]) (by simp [results, Tryz.results50, go_sem, s0r, s1r, s2r, s3r]) rfl ⟨_, rfl, (Qc.below K_q.out (by exact ⟨rfl, rfl, rfl, Nat.le_refl _, fun _ _ => rfl⟩)).of_eq HC.out, (nextw HBF.out (by exact ⟨rfl, rfl, rfl, Nat.le_refl _, fun _ _ => rfl⟩))⟩
end Go.Proofs.YtccndofafljaaaaGreatDoor
