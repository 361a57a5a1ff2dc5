/- Package rational: Neg, Floor, Whole, Div; the comparison of package wayfinderbase: Rational. -/
import Derived.Test.YtccndofafljaaaaDoorQ3
import Derived.Test.YtccndofafljaaaaDoorQMath2

set_option linter.unusedVariables false
set_option linter.unusedSimpArgs false

namespace Go.Proofs.YtccndofafljaaaaDoor
open Go Go.RowKit Num

theorem Qc.parts {w : World} {v : Value} {r : Rat} {k : Nat} (h : Qc w v r k) : ∃ s A n c t C n' c', v = .agg #[.bool s, .slice A n c, .bool t, .slice C n' c'] ∧ Rc w (.agg #[.bool s, .slice A n c]) r.num k ∧ Rc w (.agg #[.bool t, .slice C n' c']) (r.den : Int) k := by
  obtain ⟨s, m, t, n, rfl, h1, h2⟩ := h
  obtain ⟨s', A, n, c, e1⟩ := h1.shape
  obtain ⟨t', C, n', c', e2⟩ := h2.shape
  simp only [Value.agg.injEq, Array.mk.injEq, List.cons.injEq, and_true, Value.bool.injEq] at e1 e2
  obtain ⟨rfl, rfl⟩ := e1
  obtain ⟨rfl, rfl⟩ := e2
  exact ⟨s, A, n, c, t, C, n', c', rfl, h1, h2⟩
theorem Rc.nat {w : World} {v : Value} {a b : Int} {n k : Nat} (h : Rc w v a n) (e : a = b) (hk : n ≤ k) : Rc w v b k := by subst e; exact h.more hk
theorem Rc_zero (w : World) (n : Nat) : Rc w (.agg #[.bool false, .slice none 0 0]) 0 n := ⟨⟨.slice none 0 0, rfl, by rw [Int.natAbs_zero, digs_zero]; exact U32.nil none (Nat.zero_le _)⟩, by rw [Int.natAbs_zero]; exact Nat.pow_pos (by omega)⟩
theorem Rc.rc {w : World} {v : Value} {z : Int} {n : Nat} (h : Rc w v z n) : Rc w v z n := h

set_option maxRecDepth 100000 in
set_option maxHeartbeats 4000000 in
theorem BRat_q {v1 v2 : Value} {r1 r2 : Rat} {k1 k2 : Nat} {w : World} (h1 : Qc w v1 r1 k1) (h2 : Qc w v2 r2 k2) (f1 : k1 ≤ 50000) (f2 : k2 ≤ 50000) (h : r1 = r2) :
    Calls Tryd.prog 19 #[v1, v2] w fun e w' => e = .returned (.bool true) ∧ Below w.heap.size w w' := by
  subst h
  obtain ⟨sx, Ax, kx, cx, tx, Cx, lx, dx, rfl, hnx, hdx⟩ := h1.parts
  obtain ⟨sy, Ay, ky, cy, ty, Cy, ly, dy, rfl, hny, hdy⟩ := h2.parts
  have V_xn := Lib.hid hnx
  have V_xd := Lib.hid hdx
  have V_yn := Lib.hid hny
  have V_yd := Lib.hid hdy
  clear h1 hnx hdx h2 hny hdy
  have hb0 : Below w.heap.size w ((w.alloc (.cells #[.bool sx, (.slice Ax kx cx), .bool tx, (.slice Cx lx dx)] 38)).alloc (.cells #[.bool sy, (.slice Ay ky cy), .bool ty, (.slice Cy ly dy)] 38)) := (Below.alloc (Below.alloc (Below.refl w.heap.size w) (by simp <;> omega) _) (by simp <;> omega) _)
  have B_x : Box4 ((w.alloc (.cells #[.bool sx, (.slice Ax kx cx), .bool tx, (.slice Cx lx dx)] 38)).alloc (.cells #[.bool sy, (.slice Ay ky cy), .bool ty, (.slice Cy ly dy)] 38)) (w.heap.size) sx (.slice Ax kx cx) tx (.slice Cx lx dx) := by have h := Box4.alloc (Box4.new w sx (.slice Ax kx cx) tx (.slice Cx lx dx)) (.cells #[.bool sy, (.slice Ay ky cy), .bool ty, (.slice Cy ly dy)] 38); simpa using h
  replace B_x := Lib.hid B_x
  have B_y : Box4 ((w.alloc (.cells #[.bool sx, (.slice Ax kx cx), .bool tx, (.slice Cx lx dx)] 38)).alloc (.cells #[.bool sy, (.slice Ay ky cy), .bool ty, (.slice Cy ly dy)] 38)) (w.heap.size + 1) sy (.slice Ay ky cy) ty (.slice Cy ly dy) := by have h := Box4.new (w.alloc (.cells #[.bool sx, (.slice Ax kx cx), .bool tx, (.slice Cx lx dx)] 38)) sy (.slice Ay ky cy) ty (.slice Cy ly dy); simpa using h
  replace B_y := Lib.hid B_y
  replace V_xn := Lib.hid (Rc.below V_xn.out hb0)
  replace V_xd := Lib.hid (Rc.below V_xd.out hb0)
  replace V_yn := Lib.hid (Rc.below V_yn.out hb0)
  replace V_yd := Lib.hid (Rc.below V_yd.out hb0)
  have HB := Lib.hid hb0
  clear hb0
  have c0x := B_x.out.c0
  have c1x := B_x.out.c1
  have c2x := B_x.out.c2
  have c3x := B_x.out.c3
  have c0y := B_y.out.c0
  have c1y := B_y.out.c1
  have c2y := B_y.out.c2
  have c3y := B_y.out.c3
  go_enter Tryd.func19, Tryd.ntmps19
  go_wp2_with fail
  clear c0x c1x c2x c3x c0y c1y c2y c3y
  generalize (w.alloc (.cells #[.bool sx, (.slice Ax kx cx), .bool tx, (.slice Cx lx dx)] 38)).alloc (.cells #[.bool sy, (.slice Ay ky cy), .bool ty, (.slice Cy ly dy)] 38) = W0 at *
  refine (BInt_rc (Rc.below V_xn.out (by exact ⟨rfl, rfl, rfl, Nat.le_refl _, fun _ _ => rfl⟩)) (Rc.below V_yn.out (by exact ⟨rfl, rfl, rfl, Nat.le_refl _, fun _ _ => rfl⟩)) (by omega) (by omega) rfl).mono ?_
  rintro e w1 ⟨rfl, bb⟩
  replace bb := nextw (w0 := W0) (by exact ⟨rfl, rfl, rfl, Nat.le_refl _, fun _ _ => rfl⟩) bb
  replace B_x := Lib.hid (Box4.below B_x.out bb B_x.out.lt)
  replace B_y := Lib.hid (Box4.below B_y.out bb B_y.out.lt)
  replace V_xn := Lib.hid (Rc.below V_xn.out bb)
  replace V_xd := Lib.hid (Rc.below V_xd.out bb)
  replace V_yn := Lib.hid (Rc.below V_yn.out bb)
  replace V_yd := Lib.hid (Rc.below V_yd.out bb)
  replace HB := Lib.hid (nextw HB.out bb)
  clear bb
  have c0x := B_x.out.c0
  have c1x := B_x.out.c1
  have c2x := B_x.out.c2
  have c3x := B_x.out.c3
  have c0y := B_y.out.c0
  have c1y := B_y.out.c1
  have c2y := B_y.out.c2
  have c3y := B_y.out.c3
  go_wp2_with fail
  refine (BInt_rc (Rc.below V_xd.out (by exact ⟨rfl, rfl, rfl, Nat.le_refl _, fun _ _ => rfl⟩)) (Rc.below V_yd.out (by exact ⟨rfl, rfl, rfl, Nat.le_refl _, fun _ _ => rfl⟩)) (by omega) (by omega) rfl).mono ?_
  rintro e w2 ⟨rfl, bb⟩
  replace bb := nextw (w0 := w1) (by exact ⟨rfl, rfl, rfl, Nat.le_refl _, fun _ _ => rfl⟩) bb
  clear c0x c1x c2x c3x c0y c1y c2y c3y
  replace B_x := Lib.hid (Box4.below B_x.out bb B_x.out.lt)
  replace B_y := Lib.hid (Box4.below B_y.out bb B_y.out.lt)
  replace V_xn := Lib.hid (Rc.below V_xn.out bb)
  replace V_xd := Lib.hid (Rc.below V_xd.out bb)
  replace V_yn := Lib.hid (Rc.below V_yn.out bb)
  replace V_yd := Lib.hid (Rc.below V_yd.out bb)
  replace HB := Lib.hid (nextw HB.out bb)
  clear bb
  have HBo := HB.out
  go_wp2
  go_ret
  exact ⟨rfl, nextw HBo (by exact ⟨rfl, rfl, rfl, Nat.le_refl _, fun _ _ => rfl⟩)⟩

theorem Sign_rd_nz {v1 : Value} {z1 : Int} {n1 : Nat} {w : World} (h1 : Rd w v1 z1 n1) (h : z1 ≠ 0) :
    Calls Tryd.prog 44 #[v1] w fun e w' => ∃ c : Int, (c == 0) = false ∧ e = .returned (.int .i64 c) ∧ Below w.heap.size w w' :=
  (Sign_rd h1).mono fun e w' ⟨he, hb⟩ => ⟨_, by rw [beq_eq_false_iff_ne]; unfold sgn; repeat' split <;> omega, he, hb⟩

set_option maxRecDepth 100000 in
set_option maxHeartbeats 4000000 in
theorem Div_zero {v1 v2 : Value} {r1 r2 : Rat} {k1 k2 : Nat} {w : World} (h1 : Qd w v1 r1 k1) (h2 : Qd w v2 r2 k2) (f1 : k1 ≤ 4000) (f2 : k2 ≤ 4000) (h0 : r2 = 0) :
    Calls Tryd.prog 22 #[v1, v2] w fun e w' => ∃ v', e = .returned (.tuple #[v', .int .i64 10]) ∧ v' = .agg #[.bool false, .slice none 0 0, .bool false, .slice none 0 0] ∧ Below w.heap.size w w' := by
  have H0 := Lib.hid h0
  clear h0
  obtain ⟨a1, b1, h1, rfl⟩ := h1
  obtain ⟨a2, b2, h2, rfl⟩ := h2
  obtain ⟨sx, Ax, kx, cx, tx, Cx, lx, dx, rfl, hnx, hdx⟩ := h1.shape
  obtain ⟨sy, Ay, ky, cy, ty, Cy, ly, dy, rfl, hny, hdy⟩ := h2.shape
  have V_xn := Lib.hid hnx
  have V_xd := Lib.hid hdx
  have V_yn := Lib.hid hny
  have V_yd := Lib.hid hdy
  clear h1 hnx hdx h2 hny hdy
  have hb0 : Below w.heap.size w (((w.alloc (.cells #[.bool sx, (.slice Ax kx cx), .bool tx, (.slice Cx lx dx)] 38)).alloc (.cells #[.bool sy, (.slice Ay ky cy), .bool ty, (.slice Cy ly dy)] 38)).alloc (.cells #[.bool false, (.slice none 0 0), .bool false, (.slice none 0 0)] 38)) := (Below.alloc (Below.alloc (Below.alloc (Below.refl w.heap.size w) (by simp <;> omega) _) (by simp <;> omega) _) (by simp <;> omega) _)
  have B_x : Box4 (((w.alloc (.cells #[.bool sx, (.slice Ax kx cx), .bool tx, (.slice Cx lx dx)] 38)).alloc (.cells #[.bool sy, (.slice Ay ky cy), .bool ty, (.slice Cy ly dy)] 38)).alloc (.cells #[.bool false, (.slice none 0 0), .bool false, (.slice none 0 0)] 38)) (w.heap.size) sx (.slice Ax kx cx) tx (.slice Cx lx dx) := by have h := Box4.alloc (Box4.alloc (Box4.new w sx (.slice Ax kx cx) tx (.slice Cx lx dx)) (.cells #[.bool sy, (.slice Ay ky cy), .bool ty, (.slice Cy ly dy)] 38)) (.cells #[.bool false, (.slice none 0 0), .bool false, (.slice none 0 0)] 38); simpa using h
  replace B_x := Lib.hid B_x
  have B_y : Box4 (((w.alloc (.cells #[.bool sx, (.slice Ax kx cx), .bool tx, (.slice Cx lx dx)] 38)).alloc (.cells #[.bool sy, (.slice Ay ky cy), .bool ty, (.slice Cy ly dy)] 38)).alloc (.cells #[.bool false, (.slice none 0 0), .bool false, (.slice none 0 0)] 38)) (w.heap.size + 1) sy (.slice Ay ky cy) ty (.slice Cy ly dy) := by have h := Box4.alloc (Box4.new (w.alloc (.cells #[.bool sx, (.slice Ax kx cx), .bool tx, (.slice Cx lx dx)] 38)) sy (.slice Ay ky cy) ty (.slice Cy ly dy)) (.cells #[.bool false, (.slice none 0 0), .bool false, (.slice none 0 0)] 38); simpa using h
  replace B_y := Lib.hid B_y
  have B_r : Box4 (((w.alloc (.cells #[.bool sx, (.slice Ax kx cx), .bool tx, (.slice Cx lx dx)] 38)).alloc (.cells #[.bool sy, (.slice Ay ky cy), .bool ty, (.slice Cy ly dy)] 38)).alloc (.cells #[.bool false, (.slice none 0 0), .bool false, (.slice none 0 0)] 38)) (w.heap.size + 1 + 1) false (.slice none 0 0) false (.slice none 0 0) := by have h := Box4.new ((w.alloc (.cells #[.bool sx, (.slice Ax kx cx), .bool tx, (.slice Cx lx dx)] 38)).alloc (.cells #[.bool sy, (.slice Ay ky cy), .bool ty, (.slice Cy ly dy)] 38)) false (.slice none 0 0) false (.slice none 0 0); simpa using h
  replace B_r := Lib.hid B_r
  replace V_xn := Lib.hid (Rd.below V_xn.out hb0)
  replace V_xd := Lib.hid (Rd.below V_xd.out hb0)
  replace V_yn := Lib.hid (Rd.below V_yn.out hb0)
  replace V_yd := Lib.hid (Rd.below V_yd.out hb0)
  have HB := Lib.hid hb0
  clear hb0
  have c0x := B_x.out.c0
  have c1x := B_x.out.c1
  have c2x := B_x.out.c2
  have c3x := B_x.out.c3
  have c0y := B_y.out.c0
  have c1y := B_y.out.c1
  have c2y := B_y.out.c2
  have c3y := B_y.out.c3
  have c0r := B_r.out.c0
  have c1r := B_r.out.c1
  have c2r := B_r.out.c2
  have c3r := B_r.out.c3
  go_enter Tryd.func22, Tryd.ntmps22
  go_wp2_with fail
  clear c0x c1x c2x c3x c0y c1y c2y c3y c0r c1r c2r c3r
  generalize ((w.alloc (.cells #[.bool sx, (.slice Ax kx cx), .bool tx, (.slice Cx lx dx)] 38)).alloc (.cells #[.bool sy, (.slice Ay ky cy), .bool ty, (.slice Cy ly dy)] 38)).alloc (.cells #[.bool false, (.slice none 0 0), .bool false, (.slice none 0 0)] 38) = W0 at *
  refine (Sign_q (Fd.qd (Fd.mk (Rd.below V_yn.out (by exact ⟨rfl, rfl, rfl, Nat.le_refl _, fun _ _ => rfl⟩)) (Rd.below V_yd.out (by exact ⟨rfl, rfl, rfl, Nat.le_refl _, fun _ _ => rfl⟩)))) (by omega)).mono ?_
  rintro e w1 ⟨rfl, bb⟩
  replace bb := nextw (w0 := W0) (by exact ⟨rfl, rfl, rfl, Nat.le_refl _, fun _ _ => rfl⟩) bb
  replace B_x := Lib.hid (Box4.below B_x.out bb B_x.out.lt)
  replace B_y := Lib.hid (Box4.below B_y.out bb B_y.out.lt)
  replace B_r := Lib.hid (Box4.below B_r.out bb B_r.out.lt)
  replace V_xn := Lib.hid (Rd.below V_xn.out bb)
  replace V_xd := Lib.hid (Rd.below V_xd.out bb)
  replace V_yn := Lib.hid (Rd.below V_yn.out bb)
  replace V_yd := Lib.hid (Rd.below V_yd.out bb)
  replace HB := Lib.hid (nextw HB.out bb)
  clear bb
  rw [sgn_ne.2 H0.out]
  skip
  have HB1 := Lib.hid (Below.store4 HB.out (y := w.heap.size + 1 + 1) (by omega) (.bool false) (.slice none 0 0) (.bool false) (.slice none 0 0))
  have N0r := Lib.hid (Box4.store B_r.out false (.slice none 0 0) false (.slice none 0 0))
  have s0r := N0r.out.c0
  have s1r := N0r.out.c1
  have s2r := N0r.out.c2
  have s3r := N0r.out.c3
  simp only [st4] at s0r s1r s2r s3r
  have HBF := HB1
  have c0r := B_r.out.c0
  have c1r := B_r.out.c1
  have c2r := B_r.out.c2
  have c3r := B_r.out.c3
  have f0r := B_r.out.f0
  have f1r := B_r.out.f1
  have f2r := B_r.out.f2
  have f3r := B_r.out.f3
  go_wp2_with fail
  exact bodyPost_ret (v := .tuple #[.agg #[.bool false, (.slice none 0 0), .bool false, (.slice none 0 0)], .int .i64 10]) (by simp [results, Tryd.results22, go_sem, s0r, s1r, s2r, s3r]) rfl ⟨_, rfl, rfl, (nextw HBF.out (by exact ⟨rfl, rfl, rfl, Nat.le_refl _, fun _ _ => rfl⟩))⟩

set_option maxRecDepth 100000 in
set_option maxHeartbeats 4000000 in
theorem Div_q {v1 v2 : Value} {r1 r2 : Rat} {k1 k2 : Nat} {w : World} (h1 : Qd w v1 r1 k1) (h2 : Qd w v2 r2 k2) (f1 : k1 ≤ 4000) (f2 : k2 ≤ 4000) (h0 : r2 ≠ 0) :
    Calls Tryd.prog 22 #[v1, v2] w fun e w' => ∃ v', e = .returned (.tuple #[v', .int .i64 0]) ∧ Qc w' v' (r1 / r2) (k1 + k2 + 2) ∧ Below w.heap.size w w' := by
  have H0 := Lib.hid h0
  clear h0
  obtain ⟨a1, b1, h1, rfl⟩ := h1
  obtain ⟨a2, b2, h2, rfl⟩ := h2
  obtain ⟨sx, Ax, kx, cx, tx, Cx, lx, dx, rfl, hnx, hdx⟩ := h1.shape
  obtain ⟨sy, Ay, ky, cy, ty, Cy, ly, dy, rfl, hny, hdy⟩ := h2.shape
  have V_xn := Lib.hid hnx
  have V_xd := Lib.hid hdx
  have V_yn := Lib.hid hny
  have V_yd := Lib.hid hdy
  clear h1 hnx hdx h2 hny hdy
  have hb0 : Below w.heap.size w (((w.alloc (.cells #[.bool sx, (.slice Ax kx cx), .bool tx, (.slice Cx lx dx)] 38)).alloc (.cells #[.bool sy, (.slice Ay ky cy), .bool ty, (.slice Cy ly dy)] 38)).alloc (.cells #[.bool false, (.slice none 0 0), .bool false, (.slice none 0 0)] 38)) := (Below.alloc (Below.alloc (Below.alloc (Below.refl w.heap.size w) (by simp <;> omega) _) (by simp <;> omega) _) (by simp <;> omega) _)
  have B_x : Box4 (((w.alloc (.cells #[.bool sx, (.slice Ax kx cx), .bool tx, (.slice Cx lx dx)] 38)).alloc (.cells #[.bool sy, (.slice Ay ky cy), .bool ty, (.slice Cy ly dy)] 38)).alloc (.cells #[.bool false, (.slice none 0 0), .bool false, (.slice none 0 0)] 38)) (w.heap.size) sx (.slice Ax kx cx) tx (.slice Cx lx dx) := by have h := Box4.alloc (Box4.alloc (Box4.new w sx (.slice Ax kx cx) tx (.slice Cx lx dx)) (.cells #[.bool sy, (.slice Ay ky cy), .bool ty, (.slice Cy ly dy)] 38)) (.cells #[.bool false, (.slice none 0 0), .bool false, (.slice none 0 0)] 38); simpa using h
  replace B_x := Lib.hid B_x
  have B_y : Box4 (((w.alloc (.cells #[.bool sx, (.slice Ax kx cx), .bool tx, (.slice Cx lx dx)] 38)).alloc (.cells #[.bool sy, (.slice Ay ky cy), .bool ty, (.slice Cy ly dy)] 38)).alloc (.cells #[.bool false, (.slice none 0 0), .bool false, (.slice none 0 0)] 38)) (w.heap.size + 1) sy (.slice Ay ky cy) ty (.slice Cy ly dy) := by have h := Box4.alloc (Box4.new (w.alloc (.cells #[.bool sx, (.slice Ax kx cx), .bool tx, (.slice Cx lx dx)] 38)) sy (.slice Ay ky cy) ty (.slice Cy ly dy)) (.cells #[.bool false, (.slice none 0 0), .bool false, (.slice none 0 0)] 38); simpa using h
  replace B_y := Lib.hid B_y
  have B_r : Box4 (((w.alloc (.cells #[.bool sx, (.slice Ax kx cx), .bool tx, (.slice Cx lx dx)] 38)).alloc (.cells #[.bool sy, (.slice Ay ky cy), .bool ty, (.slice Cy ly dy)] 38)).alloc (.cells #[.bool false, (.slice none 0 0), .bool false, (.slice none 0 0)] 38)) (w.heap.size + 1 + 1) false (.slice none 0 0) false (.slice none 0 0) := by have h := Box4.new ((w.alloc (.cells #[.bool sx, (.slice Ax kx cx), .bool tx, (.slice Cx lx dx)] 38)).alloc (.cells #[.bool sy, (.slice Ay ky cy), .bool ty, (.slice Cy ly dy)] 38)) false (.slice none 0 0) false (.slice none 0 0); simpa using h
  replace B_r := Lib.hid B_r
  replace V_xn := Lib.hid (Rd.below V_xn.out hb0)
  replace V_xd := Lib.hid (Rd.below V_xd.out hb0)
  replace V_yn := Lib.hid (Rd.below V_yn.out hb0)
  replace V_yd := Lib.hid (Rd.below V_yd.out hb0)
  have HB := Lib.hid hb0
  clear hb0
  have c0x := B_x.out.c0
  have c1x := B_x.out.c1
  have c2x := B_x.out.c2
  have c3x := B_x.out.c3
  have c0y := B_y.out.c0
  have c1y := B_y.out.c1
  have c2y := B_y.out.c2
  have c3y := B_y.out.c3
  have c0r := B_r.out.c0
  have c1r := B_r.out.c1
  have c2r := B_r.out.c2
  have c3r := B_r.out.c3
  go_enter Tryd.func22, Tryd.ntmps22
  go_wp2_with fail
  clear c0x c1x c2x c3x c0y c1y c2y c3y c0r c1r c2r c3r
  generalize ((w.alloc (.cells #[.bool sx, (.slice Ax kx cx), .bool tx, (.slice Cx lx dx)] 38)).alloc (.cells #[.bool sy, (.slice Ay ky cy), .bool ty, (.slice Cy ly dy)] 38)).alloc (.cells #[.bool false, (.slice none 0 0), .bool false, (.slice none 0 0)] 38) = W0 at *
  refine (Sign_q (Fd.qd (Fd.mk (Rd.below V_yn.out (by exact ⟨rfl, rfl, rfl, Nat.le_refl _, fun _ _ => rfl⟩)) (Rd.below V_yd.out (by exact ⟨rfl, rfl, rfl, Nat.le_refl _, fun _ _ => rfl⟩)))) (by omega)).mono ?_
  rintro e w1 ⟨rfl, bb⟩
  replace bb := nextw (w0 := W0) (by exact ⟨rfl, rfl, rfl, Nat.le_refl _, fun _ _ => rfl⟩) bb
  replace B_x := Lib.hid (Box4.below B_x.out bb B_x.out.lt)
  replace B_y := Lib.hid (Box4.below B_y.out bb B_y.out.lt)
  replace B_r := Lib.hid (Box4.below B_r.out bb B_r.out.lt)
  replace V_xn := Lib.hid (Rd.below V_xn.out bb)
  replace V_xd := Lib.hid (Rd.below V_xd.out bb)
  replace V_yn := Lib.hid (Rd.below V_yn.out bb)
  replace V_yd := Lib.hid (Rd.below V_yd.out bb)
  replace HB := Lib.hid (nextw HB.out bb)
  clear bb
  have hz := sgn_nz H0.out
  have HE := Lib.hid (div_fr a1 b1 a2 b2)
  generalize sgnQ (Rat.divInt a2 b2) = sg at *
  have c0x := B_x.out.c0
  have c1x := B_x.out.c1
  have c2x := B_x.out.c2
  have c3x := B_x.out.c3
  have c0y := B_y.out.c0
  have c1y := B_y.out.c1
  have c2y := B_y.out.c2
  have c3y := B_y.out.c3
  go_wp2_with fail
  refine (Mul_q (Fd.qd (Fd.mk (Rd.below V_xn.out (by exact ⟨rfl, rfl, rfl, Nat.le_refl _, fun _ _ => rfl⟩)) (Rd.below V_xd.out (by exact ⟨rfl, rfl, rfl, Nat.le_refl _, fun _ _ => rfl⟩)))) (Fd.qd (Fd.mk (Rd.below V_yd.out (by exact ⟨rfl, rfl, rfl, Nat.le_refl _, fun _ _ => rfl⟩)) (Rd.below V_yn.out (by exact ⟨rfl, rfl, rfl, Nat.le_refl _, fun _ _ => rfl⟩)))) f1 f2).mono ?_
  rintro e w2 ⟨vq, rfl, rq, bb⟩
  replace bb := nextw (w0 := w1) (by exact ⟨rfl, rfl, rfl, Nat.le_refl _, fun _ _ => rfl⟩) bb
  clear c0x c1x c2x c3x c0y c1y c2y c3y
  replace B_x := Lib.hid (Box4.below B_x.out bb B_x.out.lt)
  replace B_y := Lib.hid (Box4.below B_y.out bb B_y.out.lt)
  replace B_r := Lib.hid (Box4.below B_r.out bb B_r.out.lt)
  replace V_xn := Lib.hid (Rd.below V_xn.out bb)
  replace V_xd := Lib.hid (Rd.below V_xd.out bb)
  replace V_yn := Lib.hid (Rd.below V_yn.out bb)
  replace V_yd := Lib.hid (Rd.below V_yd.out bb)
  replace HB := Lib.hid (nextw HB.out bb)
  clear bb
  obtain ⟨sq, Aq, kq, cq, tq, Cq, lq, dq, rfl⟩ := rq.shape
  have V_q := Lib.hid rq
  clear rq hz
  skip
  have K_q := V_q
  replace K_q := Lib.hid (Box4.keepsQc B_r.out K_q.out (.bool sq) (.slice Aq kq cq) (.bool tq) (.slice Cq lq dq))
  have HB1 := Lib.hid (Below.store4 HB.out (y := w.heap.size + 1 + 1) (by omega) (.bool sq) (.slice Aq kq cq) (.bool tq) (.slice Cq lq dq))
  have N0r := Lib.hid (Box4.store B_r.out sq (.slice Aq kq cq) tq (.slice Cq lq dq))
  have s0r := N0r.out.c0
  have s1r := N0r.out.c1
  have s2r := N0r.out.c2
  have s3r := N0r.out.c3
  simp only [st4] at s0r s1r s2r s3r
  have HBF := HB1
  have c0r := B_r.out.c0
  have c1r := B_r.out.c1
  have c2r := B_r.out.c2
  have c3r := B_r.out.c3
  have f0r := B_r.out.f0
  have f1r := B_r.out.f1
  have f2r := B_r.out.f2
  have f3r := B_r.out.f3
  go_wp2_with fail
  exact bodyPost_ret (v := .tuple #[.agg #[.bool sq, (.slice Aq kq cq), .bool tq, (.slice Cq lq dq)], .int .i64 0]) (by simp [results, Tryd.results22, go_sem, s0r, s1r, s2r, s3r]) rfl ⟨_, rfl, (Qc.below K_q.out (by exact ⟨rfl, rfl, rfl, Nat.le_refl _, fun _ _ => rfl⟩)).of_eq HE.out, (nextw HBF.out (by exact ⟨rfl, rfl, rfl, Nat.le_refl _, fun _ _ => rfl⟩))⟩
end Go.Proofs.YtccndofafljaaaaDoor
