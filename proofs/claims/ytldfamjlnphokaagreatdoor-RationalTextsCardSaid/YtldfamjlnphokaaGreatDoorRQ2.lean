/- The reference of layer 2: Norm, Of, Sign, Neg, Mul, Add, Sub, Cmp. -/
import Derived.Test.YtldfamjlnphokaaGreatDoorRQ1
import Derived.Test.YtldfamjlnphokaaGreatDoorQMath2
import Derived.Test.YtldfamjlnphokaaGreatDoorQ5
import Derived.Test.YtldfamjlnphokaaGreatDoorRAdd3
import Derived.Test.YtldfamjlnphokaaGreatDoorRMul

set_option linter.unusedVariables false
set_option linter.unusedSimpArgs false

namespace Go.Proofs.YtldfamjlnphokaaGreatDoor
open Go Go.RowKit Num

theorem field_num (s t : Bool) (A B : Option Addr) (k c k2 c2 : Nat) (w : World) : Sem.run Tryz.prog (Instr.field 26 (.agg #[.bool s, .slice A k c, .bool t, .slice B k2 c2]) 0) w = .ok (.agg #[.bool s, .slice A k c]) w := by kernel_rfl
theorem Qd.form4 {w : World} {v : Value} {r : Rat} {k : Nat} (h : Qd w v r k) : ∃ s A n c t C n' c', v = .agg #[.bool s, .slice A n c, .bool t, .slice C n' c'] := by
  obtain ⟨a, b, h, -⟩ := h
  obtain ⟨s, A, n, c, t, C, n', c', e, -, -⟩ := h.shape
  exact ⟨s, A, n, c, t, C, n', c', e⟩
theorem sgn_num (r : Rat) : sgn r.num = sgnQ r := by
  have h := sgn_fr r.num r.den
  rw [Rat.num_divInt_den] at h
  rw [← h]
  have : sgnI (r.den : Int) = 1 := by have := r.den_pos; unfold sgnI; rw [if_neg (by omega), if_neg (by omega)]
  rw [this, Int.mul_one]; rfl
theorem den_pos' (r : Rat) : (0 : Int) < r.den := by have := r.den_pos; omega
theorem add_nd (x y : Rat) : Rat.divInt (x.num * y.den + y.num * x.den) (x.den * y.den) = x + y := by
  rw [add_fr (den_pos' x) (den_pos' y), Rat.num_divInt_den, Rat.num_divInt_den]
theorem mul_nd (x y : Rat) : Rat.divInt (x.num * y.num) (x.den * y.den) = x * y := by
  rw [mul_fr, Rat.num_divInt_den, Rat.num_divInt_den]
theorem div_nd (x y : Rat) : Rat.divInt (x.num * y.den) (x.den * y.num) = x / y := by
  rw [mul_fr, div_fr, Rat.num_divInt_den, Rat.num_divInt_den]
theorem neg_nd (x : Rat) : Rat.divInt (-x.num) x.den = -x := by
  rw [neg_fr, Rat.num_divInt_den]
theorem sgn_sub (x y : Rat) : sgnQ (x - y) = cmpQ x y := by
  unfold sgnQ
  have h := cmp_add (x - y) 0 y
  rw [Rat.zero_add, Rat.sub_add_cancel] at h
  exact h.symm

set_option maxRecDepth 100000 in
set_option maxHeartbeats 4000000 in
theorem RNormQ_q {v : Value} {r : Rat} {k : Nat} {w : World} (h : Qd w v r k) (f : k ≤ 2000) :
    Calls Tryz.prog 17 #[v] w fun e w' => ∃ v', e = .returned v' ∧ Qc w' v' r (k + 2) ∧ Below w.heap.size w w' := by
  obtain ⟨a, b, h, rfl⟩ := h
  obtain ⟨sx, Ax, kx, cx, tx, Cx, lx, dx, rfl, hnx, hdx⟩ := h.shape
  have V_xn := Lib.hid hnx
  have V_xd := Lib.hid hdx
  clear h hnx hdx
  have hb0 : Below w.heap.size w ((w.alloc (.cells #[.bool sx, (.slice Ax kx cx), .bool tx, (.slice Cx lx dx)] 26)).alloc (.cells #[.bool false, (.slice none 0 0), .bool false, (.slice none 0 0)] 26)) := (Below.alloc (Below.alloc (Below.refl w.heap.size w) (by simp <;> omega) _) (by simp <;> omega) _)
  have B_x : Box4 ((w.alloc (.cells #[.bool sx, (.slice Ax kx cx), .bool tx, (.slice Cx lx dx)] 26)).alloc (.cells #[.bool false, (.slice none 0 0), .bool false, (.slice none 0 0)] 26)) (w.heap.size) sx (.slice Ax kx cx) tx (.slice Cx lx dx) := by have h := Box4.alloc (Box4.new w sx (.slice Ax kx cx) tx (.slice Cx lx dx)) (.cells #[.bool false, (.slice none 0 0), .bool false, (.slice none 0 0)] 26); simpa using h
  replace B_x := Lib.hid B_x
  have B_r : Box4 ((w.alloc (.cells #[.bool sx, (.slice Ax kx cx), .bool tx, (.slice Cx lx dx)] 26)).alloc (.cells #[.bool false, (.slice none 0 0), .bool false, (.slice none 0 0)] 26)) (w.heap.size + 1) false (.slice none 0 0) false (.slice none 0 0) := by have h := Box4.new (w.alloc (.cells #[.bool sx, (.slice Ax kx cx), .bool tx, (.slice Cx lx dx)] 26)) false (.slice none 0 0) false (.slice none 0 0); simpa using h
  replace B_r := Lib.hid B_r
  replace V_xn := Lib.hid (Rd.below V_xn.out hb0)
  replace V_xd := Lib.hid (Rd.below V_xd.out hb0)
  have HB := Lib.hid hb0
  clear hb0
  have c0x := B_x.out.c0
  have c1x := B_x.out.c1
  have c2x := B_x.out.c2
  have c3x := B_x.out.c3
  have c0r := B_r.out.c0
  have c1r := B_r.out.c1
  have c2r := B_r.out.c2
  have c3r := B_r.out.c3
  go_enter Tryz.func17, Tryz.ntmps17
  go_wp2_with fail
  clear c0x c1x c2x c3x c0r c1r c2r c3r
  generalize (w.alloc (.cells #[.bool sx, (.slice Ax kx cx), .bool tx, (.slice Cx lx dx)] 26)).alloc (.cells #[.bool false, (.slice none 0 0), .bool false, (.slice none 0 0)] 26) = W0 at *
  refine (RNew_rd (Rd.below V_xn.out (by exact ⟨rfl, rfl, rfl, Nat.le_refl _, fun _ _ => rfl⟩)) (Rd.below V_xd.out (by exact ⟨rfl, rfl, rfl, Nat.le_refl _, fun _ _ => rfl⟩)) (by omega)).mono ?_
  rintro e w1 ⟨vq, rfl, rq, bb⟩
  replace bb := nextw (w0 := W0) (by exact ⟨rfl, rfl, rfl, Nat.le_refl _, fun _ _ => rfl⟩) bb
  replace B_x := Lib.hid (Box4.below B_x.out bb B_x.out.lt)
  replace B_r := Lib.hid (Box4.below B_r.out bb B_r.out.lt)
  replace V_xn := Lib.hid (Rd.below V_xn.out bb)
  replace V_xd := Lib.hid (Rd.below V_xd.out bb)
  replace HB := Lib.hid (nextw HB.out bb)
  clear bb
  obtain ⟨sq, Aq, kq, cq, tq, Cq, lq, dq, rfl⟩ := rq.shape
  have V_q := Lib.hid rq
  clear rq
  skip
  have K_q := V_q
  replace K_q := Lib.hid (Box4.keepsQc B_r.out K_q.out (.bool sq) (.slice Aq kq cq) (.bool tq) (.slice Cq lq dq))
  have HB1 := Lib.hid (Below.store4 HB.out (y := w.heap.size + 1) (by omega) (.bool sq) (.slice Aq kq cq) (.bool tq) (.slice Cq lq dq))
  have N0r := Lib.hid (Box4.store B_r.out sq (.slice Aq kq cq) tq (.slice Cq lq dq))
  have s0r := N0r.out.c0
  have s1r := N0r.out.c1
  have s2r := N0r.out.c2
  have s3r := N0r.out.c3
  simp only [st4] at s0r s1r s2r s3r
  have HBF := HB1
  have c0r := B_r.out.c0
  have c1r := B_r.out.c1
  have c2r := B_r.out.c2
  have c3r := B_r.out.c3
  have f0r := B_r.out.f0
  have f1r := B_r.out.f1
  have f2r := B_r.out.f2
  have f3r := B_r.out.f3
  go_wp2_with fail
  exact bodyPost_ret (v := .agg #[.bool sq, (.slice Aq kq cq), .bool tq, (.slice Cq lq dq)]) (by simp [results, Tryz.results17, go_sem, s0r, s1r, s2r, s3r]) rfl ⟨_, rfl, (Qc.below K_q.out (by exact ⟨rfl, rfl, rfl, Nat.le_refl _, fun _ _ => rfl⟩)), (nextw HBF.out (by exact ⟨rfl, rfl, rfl, Nat.le_refl _, fun _ _ => rfl⟩))⟩

set_option maxRecDepth 100000 in
set_option maxHeartbeats 4000000 in
theorem ROf_q (n d : Int) {w : World} (h1 : -9223372036854775808 ≤ n) (h2 : n ≤ 9223372036854775807) (g1 : -9223372036854775808 ≤ d) (g2 : d ≤ 9223372036854775807) :
    Calls Tryz.prog 15 #[.int .i64 n, .int .i64 d] w fun e w' => ∃ v', e = .returned v' ∧ Qc w' v' (Rat.divInt n d) 4 ∧ Below w.heap.size w w' := by
  have hb0 : Below w.heap.size w (w.alloc (.cells #[.bool false, (.slice none 0 0), .bool false, (.slice none 0 0)] 26)) := (Below.alloc (Below.refl w.heap.size w) (by simp <;> omega) _)
  have B_r : Box4 (w.alloc (.cells #[.bool false, (.slice none 0 0), .bool false, (.slice none 0 0)] 26)) (w.heap.size) false (.slice none 0 0) false (.slice none 0 0) := by have h := Box4.new w false (.slice none 0 0) false (.slice none 0 0); simpa using h
  replace B_r := Lib.hid B_r
  have HB := Lib.hid hb0
  clear hb0
  have c0r := B_r.out.c0
  have c1r := B_r.out.c1
  have c2r := B_r.out.c2
  have c3r := B_r.out.c3
  go_enter Tryz.func15, Tryz.ntmps15
  go_wp2_with fail
  clear c0r c1r c2r c3r
  generalize w.alloc (.cells #[.bool false, (.slice none 0 0), .bool false, (.slice none 0 0)] 26) = W0 at *
  refine (ROf_rc n h1 h2).mono ?_
  rintro e w1 ⟨va, rfl, ra, bb⟩
  replace bb := nextw (w0 := W0) (by exact ⟨rfl, rfl, rfl, Nat.le_refl _, fun _ _ => rfl⟩) bb
  replace B_r := Lib.hid (Box4.below B_r.out bb B_r.out.lt)
  replace HB := Lib.hid (nextw HB.out bb)
  clear bb
  have V_a := Lib.hid ra
  clear ra
  go_wp2_with fail
  refine (ROf_rc d g1 g2).mono ?_
  rintro e w2 ⟨vb, rfl, rb, bb⟩
  replace bb := nextw (w0 := w1) (by exact ⟨rfl, rfl, rfl, Nat.le_refl _, fun _ _ => rfl⟩) bb
  replace B_r := Lib.hid (Box4.below B_r.out bb B_r.out.lt)
  replace V_a := Lib.hid (Rc.below V_a.out bb)
  replace HB := Lib.hid (nextw HB.out bb)
  clear bb
  have V_b := Lib.hid rb
  clear rb
  go_wp2_with fail
  refine (RNew_rd (Rc.rd (Rc.below V_a.out (by exact ⟨rfl, rfl, rfl, Nat.le_refl _, fun _ _ => rfl⟩))) (Rc.rd (Rc.below V_b.out (by exact ⟨rfl, rfl, rfl, Nat.le_refl _, fun _ _ => rfl⟩))) (by omega)).mono ?_
  rintro e w3 ⟨vq, rfl, rq, bb⟩
  replace bb := nextw (w0 := w2) (by exact ⟨rfl, rfl, rfl, Nat.le_refl _, fun _ _ => rfl⟩) bb
  replace B_r := Lib.hid (Box4.below B_r.out bb B_r.out.lt)
  replace V_a := Lib.hid (Rc.below V_a.out bb)
  replace V_b := Lib.hid (Rc.below V_b.out bb)
  replace HB := Lib.hid (nextw HB.out bb)
  clear bb
  obtain ⟨sq, Aq, kq, cq, tq, Cq, lq, dq, rfl⟩ := rq.shape
  have V_q := Lib.hid rq
  clear rq
  skip
  have K_q := V_q
  replace K_q := Lib.hid (Box4.keepsQc B_r.out K_q.out (.bool sq) (.slice Aq kq cq) (.bool tq) (.slice Cq lq dq))
  have HB1 := Lib.hid (Below.store4 HB.out (y := w.heap.size) (by omega) (.bool sq) (.slice Aq kq cq) (.bool tq) (.slice Cq lq dq))
  have N0r := Lib.hid (Box4.store B_r.out sq (.slice Aq kq cq) tq (.slice Cq lq dq))
  have s0r := N0r.out.c0
  have s1r := N0r.out.c1
  have s2r := N0r.out.c2
  have s3r := N0r.out.c3
  simp only [st4] at s0r s1r s2r s3r
  have HBF := HB1
  have c0r := B_r.out.c0
  have c1r := B_r.out.c1
  have c2r := B_r.out.c2
  have c3r := B_r.out.c3
  have f0r := B_r.out.f0
  have f1r := B_r.out.f1
  have f2r := B_r.out.f2
  have f3r := B_r.out.f3
  go_wp2_with fail
  exact bodyPost_ret (v := .agg #[.bool sq, (.slice Aq kq cq), .bool tq, (.slice Cq lq dq)]) (by simp [results, Tryz.results15, go_sem, s0r, s1r, s2r, s3r]) rfl ⟨_, rfl, (Qc.below K_q.out (by exact ⟨rfl, rfl, rfl, Nat.le_refl _, fun _ _ => rfl⟩)), (nextw HBF.out (by exact ⟨rfl, rfl, rfl, Nat.le_refl _, fun _ _ => rfl⟩))⟩

set_option maxRecDepth 100000 in
set_option maxHeartbeats 4000000 in
theorem RSignQ_q {v : Value} {r : Rat} {k : Nat} {w : World} (h : Qd w v r k) (f : k ≤ 2000) :
    Calls Tryz.prog 20 #[v] w fun e w' => e = .returned (.int .i64 (sgnQ r)) ∧ Below w.heap.size w w' := by
  obtain ⟨sx, Ax, kx, cx, tx, Cx, lx, dx, rfl⟩ := h.form4
  have V_x := Lib.hid h
  clear h
  have HS := Lib.hid (sgn_num r)
  have hb0 : Below w.heap.size w (w.alloc (.cells #[.bool sx, (.slice Ax kx cx), .bool tx, (.slice Cx lx dx)] 26)) := (Below.alloc (Below.refl w.heap.size w) (by simp <;> omega) _)
  have B_x : Box4 (w.alloc (.cells #[.bool sx, (.slice Ax kx cx), .bool tx, (.slice Cx lx dx)] 26)) (w.heap.size) sx (.slice Ax kx cx) tx (.slice Cx lx dx) := by have h := Box4.new w sx (.slice Ax kx cx) tx (.slice Cx lx dx); simpa using h
  replace B_x := Lib.hid B_x
  replace V_x := Lib.hid (Qd.below V_x.out hb0)
  have HB := Lib.hid hb0
  clear hb0
  have c0x := B_x.out.c0
  have c1x := B_x.out.c1
  have c2x := B_x.out.c2
  have c3x := B_x.out.c3
  go_enter Tryz.func20, Tryz.ntmps20
  go_wp2_with fail
  clear c0x c1x c2x c3x
  generalize w.alloc (.cells #[.bool sx, (.slice Ax kx cx), .bool tx, (.slice Cx lx dx)] 26) = W0 at *
  refine (RNormQ_q (Qd.below V_x.out (by exact ⟨rfl, rfl, rfl, Nat.le_refl _, fun _ _ => rfl⟩)) (by omega)).mono ?_
  rintro e w1 ⟨vy, rfl, ry, bb⟩
  replace bb := nextw (w0 := W0) (by exact ⟨rfl, rfl, rfl, Nat.le_refl _, fun _ _ => rfl⟩) bb
  replace B_x := Lib.hid (Box4.below B_x.out bb B_x.out.lt)
  replace V_x := Lib.hid (Qd.below V_x.out bb)
  replace HB := Lib.hid (nextw HB.out bb)
  clear bb
  clear V_x
  obtain ⟨sy, Ay, ky, cy, ty, Cy, ly, dy, rfl, hny, hdy⟩ := ry.parts
  have V_yn := Lib.hid hny
  have V_yd := Lib.hid hdy
  clear ry hny hdy
  go_wp2_with fail
  rw [field_num]
  go_wp2_with fail
  refine (RSign_rd (Rc.rd (Rc.below V_yn.out (by exact ⟨rfl, rfl, rfl, Nat.le_refl _, fun _ _ => rfl⟩))) (by omega)).mono ?_
  rintro e w2 ⟨rfl, bb⟩
  replace bb := nextw (w0 := w1) (by exact ⟨rfl, rfl, rfl, Nat.le_refl _, fun _ _ => rfl⟩) bb
  replace B_x := Lib.hid (Box4.below B_x.out bb B_x.out.lt)
  replace V_yn := Lib.hid (Rc.below V_yn.out bb)
  replace V_yd := Lib.hid (Rc.below V_yd.out bb)
  replace HB := Lib.hid (nextw HB.out bb)
  clear bb
  have HBo := HB.out
  go_wp2
  go_ret
  exact ⟨ret_int HS.out, nextw HBo (by exact ⟨rfl, rfl, rfl, Nat.le_refl _, fun _ _ => rfl⟩)⟩

set_option maxRecDepth 100000 in
set_option maxHeartbeats 8000000 in
theorem RNegQ_q {v : Value} {r : Rat} {k : Nat} {w : World} (h : Qd w v r k) (f : k ≤ 2000) :
    Calls Tryz.prog 28 #[v] w fun e w' => ∃ v', e = .returned v' ∧ Qc w' v' (-r) (k + 4) ∧ Below w.heap.size w w' := by
  obtain ⟨sx, Ax, kx, cx, tx, Cx, lx, dx, rfl⟩ := h.form4
  have V_x := Lib.hid h
  clear h
  have HC := Lib.hid (neg_nd r)
  have hb0 : Below w.heap.size w ((w.alloc (.cells #[.bool sx, (.slice Ax kx cx), .bool tx, (.slice Cx lx dx)] 26)).alloc (.cells #[.bool false, (.slice none 0 0), .bool false, (.slice none 0 0)] 26)) := (Below.alloc (Below.alloc (Below.refl w.heap.size w) (by simp <;> omega) _) (by simp <;> omega) _)
  have B_x : Box4 ((w.alloc (.cells #[.bool sx, (.slice Ax kx cx), .bool tx, (.slice Cx lx dx)] 26)).alloc (.cells #[.bool false, (.slice none 0 0), .bool false, (.slice none 0 0)] 26)) (w.heap.size) sx (.slice Ax kx cx) tx (.slice Cx lx dx) := by have h := Box4.alloc (Box4.new w sx (.slice Ax kx cx) tx (.slice Cx lx dx)) (.cells #[.bool false, (.slice none 0 0), .bool false, (.slice none 0 0)] 26); simpa using h
  replace B_x := Lib.hid B_x
  have B_r : Box4 ((w.alloc (.cells #[.bool sx, (.slice Ax kx cx), .bool tx, (.slice Cx lx dx)] 26)).alloc (.cells #[.bool false, (.slice none 0 0), .bool false, (.slice none 0 0)] 26)) (w.heap.size + 1) false (.slice none 0 0) false (.slice none 0 0) := by have h := Box4.new (w.alloc (.cells #[.bool sx, (.slice Ax kx cx), .bool tx, (.slice Cx lx dx)] 26)) false (.slice none 0 0) false (.slice none 0 0); simpa using h
  replace B_r := Lib.hid B_r
  replace V_x := Lib.hid (Qd.below V_x.out hb0)
  have HB := Lib.hid hb0
  clear hb0
  have c0x := B_x.out.c0
  have c1x := B_x.out.c1
  have c2x := B_x.out.c2
  have c3x := B_x.out.c3
  have c0r := B_r.out.c0
  have c1r := B_r.out.c1
  have c2r := B_r.out.c2
  have c3r := B_r.out.c3
  go_enter Tryz.func28, Tryz.ntmps28
  go_wp2_with fail
  clear c0x c1x c2x c3x c0r c1r c2r c3r
  generalize (w.alloc (.cells #[.bool sx, (.slice Ax kx cx), .bool tx, (.slice Cx lx dx)] 26)).alloc (.cells #[.bool false, (.slice none 0 0), .bool false, (.slice none 0 0)] 26) = W0 at *
  refine (RNormQ_q (Qd.below V_x.out (by exact ⟨rfl, rfl, rfl, Nat.le_refl _, fun _ _ => rfl⟩)) (by omega)).mono ?_
  rintro e w1 ⟨vy, rfl, ry, bb⟩
  replace bb := nextw (w0 := W0) (by exact ⟨rfl, rfl, rfl, Nat.le_refl _, fun _ _ => rfl⟩) bb
  replace B_x := Lib.hid (Box4.below B_x.out bb B_x.out.lt)
  replace B_r := Lib.hid (Box4.below B_r.out bb B_r.out.lt)
  replace V_x := Lib.hid (Qd.below V_x.out bb)
  replace HB := Lib.hid (nextw HB.out bb)
  clear bb
  clear V_x
  obtain ⟨sy, Ay, ky, cy, ty, Cy, ly, dy, rfl, hny, hdy⟩ := ry.parts
  have V_yn := Lib.hid hny
  have V_yd := Lib.hid hdy
  clear ry hny hdy
  have Z1x := Lib.hid B_x.out.lt
  have Z2r := Lib.hid B_r.out.lt
  have hb0 : Below w1.heap.size w1 (w1.alloc (.cells #[.bool sy, (.slice Ay ky cy), .bool ty, (.slice Cy ly dy)] 26)) := (Below.alloc (Below.refl w1.heap.size w1) (by simp <;> omega) _)
  have B_y : Box4 (w1.alloc (.cells #[.bool sy, (.slice Ay ky cy), .bool ty, (.slice Cy ly dy)] 26)) (w1.heap.size) sy (.slice Ay ky cy) ty (.slice Cy ly dy) := by have h := Box4.new w1 sy (.slice Ay ky cy) ty (.slice Cy ly dy); simpa using h
  replace B_y := Lib.hid B_y
  replace B_x := Lib.hid (Box4.below B_x.out hb0 B_x.out.lt)
  replace B_r := Lib.hid (Box4.below B_r.out hb0 B_r.out.lt)
  replace V_yn := Lib.hid (Rc.below V_yn.out hb0)
  replace V_yd := Lib.hid (Rc.below V_yd.out hb0)
  replace HB := Lib.hid (nextw HB.out hb0)
  clear hb0
  have c0y := B_y.out.c0
  have c1y := B_y.out.c1
  have c2y := B_y.out.c2
  have c3y := B_y.out.c3
  have f0y := B_y.out.f0
  have f1y := B_y.out.f1
  have f2y := B_y.out.f2
  have f3y := B_y.out.f3
  have c0r := B_r.out.c0
  have c1r := B_r.out.c1
  have c2r := B_r.out.c2
  have c3r := B_r.out.c3
  have f0r := B_r.out.f0
  have f1r := B_r.out.f1
  have f2r := B_r.out.f2
  have f3r := B_r.out.f3
  go_wp2
  clear c0y c1y c2y c3y f0y f1y f2y f3y c0r c1r c2r c3r f0r f1r f2r f3r
  generalize w1.alloc (.cells #[.bool sy, (.slice Ay ky cy), .bool ty, (.slice Cy ly dy)] 26) = W1 at *
  have c0y := B_y.out.c0
  have c1y := B_y.out.c1
  have c2y := B_y.out.c2
  have c3y := B_y.out.c3
  have z1x := Z1x.out
  have z2r := Z2r.out
  have tk0 : True := trivial
  first | (go_region_held3 (fun w' => w'.cell? ⟨w1.heap.size, 0, none⟩ = some (.bool sy) ∧ w'.cell? ⟨w1.heap.size, 1, none⟩ = some (.slice Ay ky cy) ∧ w'.cell? ⟨w1.heap.size, 2, none⟩ = some (.bool ty) ∧ w'.cell? ⟨w1.heap.size, 3, none⟩ = some (.slice Cy ly dy)) (((try dsimp only); (repeat' apply And.intro) <;> (first | (with_reducible assumption) | ((repeat (first | (with_reducible refine Eq.trans (cell_drew1 _ _) ?_) | (with_reducible refine Eq.trans (cell_set4 (by omega) _ _ _ _) ?_))); with_reducible assumption) | assumption | go_keep)))
    (first
      | (have _t := tk0; clear _t tk0; go_at_call 64; refine (RNeg_rd (Rc.rd (Rc.below V_yn.out (by exact ⟨rfl, rfl, rfl, Nat.le_refl _, fun _ _ => rfl⟩))) (by omega)).mono ?_; rintro e w2 ⟨vp, rfl, rp, bb⟩; replace bb := nextw (w0 := W1) (by exact ⟨rfl, rfl, rfl, Nat.le_refl _, fun _ _ => rfl⟩) bb; clear V_yn; replace B_x := Lib.hid (Box4.below B_x.out bb B_x.out.lt); replace B_r := Lib.hid (Box4.below B_r.out bb B_r.out.lt); replace B_y := Lib.hid (Box4.below B_y.out bb B_y.out.lt); replace V_yd := Lib.hid (Rc.below V_yd.out bb); replace HB := Lib.hid (nextw HB.out bb); clear bb; replace rp := Lib.hid rp; have V_p := rp; clear rp; obtain ⟨sp, Ap, kp, cp, rfl⟩ := V_p.out.shape; have c0y := B_y.out.c0; have c1y := B_y.out.c1; have c2y := B_y.out.c2; have c3y := B_y.out.c3; have tk1 : True := trivial)
      | (have _t := tk1; clear _t tk1; go_at_call 52; refine (RNew_rd (k := (k + 2)) ((Rc.rd (Rc.below V_p.out (by exact ⟨rfl, rfl, rfl, Nat.le_refl _, fun _ _ => rfl⟩))).more (by omega)) ((Rc.rd (Rc.below V_yd.out (by exact ⟨rfl, rfl, rfl, Nat.le_refl _, fun _ _ => rfl⟩))).more (by omega)) (by omega)).mono ?_; rintro e w3 ⟨vq, rfl, rq, bb⟩; replace bb := nextw (w0 := w2) (by exact ⟨rfl, rfl, rfl, Nat.le_refl _, fun _ _ => rfl⟩) bb; clear V_yd V_p; replace B_x := Lib.hid (Box4.below B_x.out bb B_x.out.lt); replace B_r := Lib.hid (Box4.below B_r.out bb B_r.out.lt); replace B_y := Lib.hid (Box4.below B_y.out bb B_y.out.lt); replace HB := Lib.hid (nextw HB.out bb); clear bb; replace rq := Lib.hid rq; have V_q := rq; clear rq; obtain ⟨sq, Aq, kq, cq, tq, Cq, lq, dq, rfl⟩ := V_q.out.shape; have c0r := B_r.out.c0; have c1r := B_r.out.c1; have c2r := B_r.out.c2; have c3r := B_r.out.c3; have f0r := B_r.out.f0; have f1r := B_r.out.f1; have f2r := B_r.out.f2; have f3r := B_r.out.f3; have c0y := B_y.out.c0; have c1y := B_y.out.c1; have c2y := B_y.out.c2; have c3y := B_y.out.c3; have tk2 : True := trivial))) | fail
  all_goals (clear z1x z2r)
  all_goals
    skip
    have K_q := V_q
    replace K_q := Lib.hid (Box4.keepsQc B_r.out K_q.out (.bool sq) (.slice Aq kq cq) (.bool tq) (.slice Cq lq dq))
    have HB1 := Lib.hid (Below.store4 HB.out (y := w.heap.size + 1) (by omega) (.bool sq) (.slice Aq kq cq) (.bool tq) (.slice Cq lq dq))
    have N0r := Lib.hid (Box4.store B_r.out sq (.slice Aq kq cq) tq (.slice Cq lq dq))
    have s0r := N0r.out.c0
    have s1r := N0r.out.c1
    have s2r := N0r.out.c2
    have s3r := N0r.out.c3
    simp only [st4] at s0r s1r s2r s3r
    have HBF := HB1
    have c0r := B_r.out.c0
    have c1r := B_r.out.c1
    have c2r := B_r.out.c2
    have c3r := B_r.out.c3
    have f0r := B_r.out.f0
    have f1r := B_r.out.f1
    have f2r := B_r.out.f2
    have f3r := B_r.out.f3
    go_wp2_with fail
    exact bodyPost_ret (v := .agg #[.bool sq, (.slice Aq kq cq), .bool tq, (.slice Cq lq dq)]) (by simp [results, Tryz.results28, go_sem, s0r, s1r, s2r, s3r]) rfl ⟨_, rfl, (Qc.below K_q.out (by exact ⟨rfl, rfl, rfl, Nat.le_refl _, fun _ _ => rfl⟩)).of_eq HC.out, (nextw HBF.out (by exact ⟨rfl, rfl, rfl, Nat.le_refl _, fun _ _ => rfl⟩))⟩

set_option maxRecDepth 100000 in
set_option maxHeartbeats 8000000 in
theorem RMulQ_q {v1 v2 : Value} {r1 r2 : Rat} {k1 k2 : Nat} {w : World} (h1 : Qd w v1 r1 k1) (h2 : Qd w v2 r2 k2) (f1 : k1 ≤ 800) (f2 : k2 ≤ 800) :
    Calls Tryz.prog 26 #[v1, v2] w fun e w' => ∃ v', e = .returned v' ∧ Qc w' v' (r1 * r2) (k1 + k2 + 6) ∧ Below w.heap.size w w' := by
  obtain ⟨sa, Aa, ka, ca, ta, Ca, la, da, rfl⟩ := h1.form4
  obtain ⟨sb, Ab, kb, cb, tb, Cb, lb, db, rfl⟩ := h2.form4
  have V_a := Lib.hid h1
  have V_b := Lib.hid h2
  clear h1 h2
  have HC := Lib.hid (mul_nd r1 r2)
  have hb0 : Below w.heap.size w (((w.alloc (.cells #[.bool sa, (.slice Aa ka ca), .bool ta, (.slice Ca la da)] 26)).alloc (.cells #[.bool sb, (.slice Ab kb cb), .bool tb, (.slice Cb lb db)] 26)).alloc (.cells #[.bool false, (.slice none 0 0), .bool false, (.slice none 0 0)] 26)) := (Below.alloc (Below.alloc (Below.alloc (Below.refl w.heap.size w) (by simp <;> omega) _) (by simp <;> omega) _) (by simp <;> omega) _)
  have B_a : Box4 (((w.alloc (.cells #[.bool sa, (.slice Aa ka ca), .bool ta, (.slice Ca la da)] 26)).alloc (.cells #[.bool sb, (.slice Ab kb cb), .bool tb, (.slice Cb lb db)] 26)).alloc (.cells #[.bool false, (.slice none 0 0), .bool false, (.slice none 0 0)] 26)) (w.heap.size) sa (.slice Aa ka ca) ta (.slice Ca la da) := by have h := Box4.alloc (Box4.alloc (Box4.new w sa (.slice Aa ka ca) ta (.slice Ca la da)) (.cells #[.bool sb, (.slice Ab kb cb), .bool tb, (.slice Cb lb db)] 26)) (.cells #[.bool false, (.slice none 0 0), .bool false, (.slice none 0 0)] 26); simpa using h
  replace B_a := Lib.hid B_a
  have B_b : Box4 (((w.alloc (.cells #[.bool sa, (.slice Aa ka ca), .bool ta, (.slice Ca la da)] 26)).alloc (.cells #[.bool sb, (.slice Ab kb cb), .bool tb, (.slice Cb lb db)] 26)).alloc (.cells #[.bool false, (.slice none 0 0), .bool false, (.slice none 0 0)] 26)) (w.heap.size + 1) sb (.slice Ab kb cb) tb (.slice Cb lb db) := by have h := Box4.alloc (Box4.new (w.alloc (.cells #[.bool sa, (.slice Aa ka ca), .bool ta, (.slice Ca la da)] 26)) sb (.slice Ab kb cb) tb (.slice Cb lb db)) (.cells #[.bool false, (.slice none 0 0), .bool false, (.slice none 0 0)] 26); simpa using h
  replace B_b := Lib.hid B_b
  have B_r : Box4 (((w.alloc (.cells #[.bool sa, (.slice Aa ka ca), .bool ta, (.slice Ca la da)] 26)).alloc (.cells #[.bool sb, (.slice Ab kb cb), .bool tb, (.slice Cb lb db)] 26)).alloc (.cells #[.bool false, (.slice none 0 0), .bool false, (.slice none 0 0)] 26)) (w.heap.size + 1 + 1) false (.slice none 0 0) false (.slice none 0 0) := by have h := Box4.new ((w.alloc (.cells #[.bool sa, (.slice Aa ka ca), .bool ta, (.slice Ca la da)] 26)).alloc (.cells #[.bool sb, (.slice Ab kb cb), .bool tb, (.slice Cb lb db)] 26)) false (.slice none 0 0) false (.slice none 0 0); simpa using h
  replace B_r := Lib.hid B_r
  replace V_a := Lib.hid (Qd.below V_a.out hb0)
  replace V_b := Lib.hid (Qd.below V_b.out hb0)
  have HB := Lib.hid hb0
  clear hb0
  have c0a := B_a.out.c0
  have c1a := B_a.out.c1
  have c2a := B_a.out.c2
  have c3a := B_a.out.c3
  have c0b := B_b.out.c0
  have c1b := B_b.out.c1
  have c2b := B_b.out.c2
  have c3b := B_b.out.c3
  have c0r := B_r.out.c0
  have c1r := B_r.out.c1
  have c2r := B_r.out.c2
  have c3r := B_r.out.c3
  go_enter Tryz.func26, Tryz.ntmps26
  go_wp2_with fail
  clear c0a c1a c2a c3a c0b c1b c2b c3b c0r c1r c2r c3r
  generalize ((w.alloc (.cells #[.bool sa, (.slice Aa ka ca), .bool ta, (.slice Ca la da)] 26)).alloc (.cells #[.bool sb, (.slice Ab kb cb), .bool tb, (.slice Cb lb db)] 26)).alloc (.cells #[.bool false, (.slice none 0 0), .bool false, (.slice none 0 0)] 26) = W0 at *
  refine (RNormQ_q (Qd.below V_a.out (by exact ⟨rfl, rfl, rfl, Nat.le_refl _, fun _ _ => rfl⟩)) (by omega)).mono ?_
  rintro e w1 ⟨vx, rfl, rx, bb⟩
  replace bb := nextw (w0 := W0) (by exact ⟨rfl, rfl, rfl, Nat.le_refl _, fun _ _ => rfl⟩) bb
  replace B_a := Lib.hid (Box4.below B_a.out bb B_a.out.lt)
  replace B_b := Lib.hid (Box4.below B_b.out bb B_b.out.lt)
  replace B_r := Lib.hid (Box4.below B_r.out bb B_r.out.lt)
  replace V_a := Lib.hid (Qd.below V_a.out bb)
  replace V_b := Lib.hid (Qd.below V_b.out bb)
  replace HB := Lib.hid (nextw HB.out bb)
  clear bb
  clear V_a
  obtain ⟨sx, Ax, kx, cx, tx, Cx, lx, dx, rfl, hnx, hdx⟩ := rx.parts
  have V_xn := Lib.hid hnx
  have V_xd := Lib.hid hdx
  clear rx hnx hdx
  have Z1a := Lib.hid B_a.out.lt
  have Z2b := Lib.hid B_b.out.lt
  have Z3r := Lib.hid B_r.out.lt
  have hb0 : Below w1.heap.size w1 (w1.alloc (.cells #[.bool sx, (.slice Ax kx cx), .bool tx, (.slice Cx lx dx)] 26)) := (Below.alloc (Below.refl w1.heap.size w1) (by simp <;> omega) _)
  have B_x : Box4 (w1.alloc (.cells #[.bool sx, (.slice Ax kx cx), .bool tx, (.slice Cx lx dx)] 26)) (w1.heap.size) sx (.slice Ax kx cx) tx (.slice Cx lx dx) := by have h := Box4.new w1 sx (.slice Ax kx cx) tx (.slice Cx lx dx); simpa using h
  replace B_x := Lib.hid B_x
  replace B_a := Lib.hid (Box4.below B_a.out hb0 B_a.out.lt)
  replace B_b := Lib.hid (Box4.below B_b.out hb0 B_b.out.lt)
  replace B_r := Lib.hid (Box4.below B_r.out hb0 B_r.out.lt)
  replace V_b := Lib.hid (Qd.below V_b.out hb0)
  replace V_xn := Lib.hid (Rc.below V_xn.out hb0)
  replace V_xd := Lib.hid (Rc.below V_xd.out hb0)
  replace HB := Lib.hid (nextw HB.out hb0)
  clear hb0
  have c0b := B_b.out.c0
  have c1b := B_b.out.c1
  have c2b := B_b.out.c2
  have c3b := B_b.out.c3
  have c0x := B_x.out.c0
  have c1x := B_x.out.c1
  have c2x := B_x.out.c2
  have c3x := B_x.out.c3
  have c0r := B_r.out.c0
  have c1r := B_r.out.c1
  have c2r := B_r.out.c2
  have c3r := B_r.out.c3
  go_wp2_with fail
  clear c0b c1b c2b c3b c0x c1x c2x c3x c0r c1r c2r c3r
  generalize w1.alloc (.cells #[.bool sx, (.slice Ax kx cx), .bool tx, (.slice Cx lx dx)] 26) = W1 at *
  refine (RNormQ_q (Qd.below V_b.out (by exact ⟨rfl, rfl, rfl, Nat.le_refl _, fun _ _ => rfl⟩)) (by omega)).mono ?_
  rintro e w2 ⟨vy, rfl, ry, bb⟩
  replace bb := nextw (w0 := W1) (by exact ⟨rfl, rfl, rfl, Nat.le_refl _, fun _ _ => rfl⟩) bb
  replace B_a := Lib.hid (Box4.below B_a.out bb B_a.out.lt)
  replace B_b := Lib.hid (Box4.below B_b.out bb B_b.out.lt)
  replace B_r := Lib.hid (Box4.below B_r.out bb B_r.out.lt)
  replace B_x := Lib.hid (Box4.below B_x.out bb B_x.out.lt)
  replace V_b := Lib.hid (Qd.below V_b.out bb)
  replace V_xn := Lib.hid (Rc.below V_xn.out bb)
  replace V_xd := Lib.hid (Rc.below V_xd.out bb)
  replace HB := Lib.hid (nextw HB.out bb)
  clear bb
  clear V_b
  obtain ⟨sy, Ay, ky, cy, ty, Cy, ly, dy, rfl, hny, hdy⟩ := ry.parts
  have V_yn := Lib.hid hny
  have V_yd := Lib.hid hdy
  clear ry hny hdy
  have Z4a := Lib.hid B_a.out.lt
  have Z5b := Lib.hid B_b.out.lt
  have Z6r := Lib.hid B_r.out.lt
  have Z7x := Lib.hid B_x.out.lt
  have hb0 : Below w2.heap.size w2 (w2.alloc (.cells #[.bool sy, (.slice Ay ky cy), .bool ty, (.slice Cy ly dy)] 26)) := (Below.alloc (Below.refl w2.heap.size w2) (by simp <;> omega) _)
  have B_y : Box4 (w2.alloc (.cells #[.bool sy, (.slice Ay ky cy), .bool ty, (.slice Cy ly dy)] 26)) (w2.heap.size) sy (.slice Ay ky cy) ty (.slice Cy ly dy) := by have h := Box4.new w2 sy (.slice Ay ky cy) ty (.slice Cy ly dy); simpa using h
  replace B_y := Lib.hid B_y
  replace B_a := Lib.hid (Box4.below B_a.out hb0 B_a.out.lt)
  replace B_b := Lib.hid (Box4.below B_b.out hb0 B_b.out.lt)
  replace B_r := Lib.hid (Box4.below B_r.out hb0 B_r.out.lt)
  replace B_x := Lib.hid (Box4.below B_x.out hb0 B_x.out.lt)
  replace V_xn := Lib.hid (Rc.below V_xn.out hb0)
  replace V_xd := Lib.hid (Rc.below V_xd.out hb0)
  replace V_yn := Lib.hid (Rc.below V_yn.out hb0)
  replace V_yd := Lib.hid (Rc.below V_yd.out hb0)
  replace HB := Lib.hid (nextw HB.out hb0)
  clear hb0
  have c0x := B_x.out.c0
  have c1x := B_x.out.c1
  have c2x := B_x.out.c2
  have c3x := B_x.out.c3
  have f0x := B_x.out.f0
  have f1x := B_x.out.f1
  have f2x := B_x.out.f2
  have f3x := B_x.out.f3
  have c0y := B_y.out.c0
  have c1y := B_y.out.c1
  have c2y := B_y.out.c2
  have c3y := B_y.out.c3
  have f0y := B_y.out.f0
  have f1y := B_y.out.f1
  have f2y := B_y.out.f2
  have f3y := B_y.out.f3
  have c0r := B_r.out.c0
  have c1r := B_r.out.c1
  have c2r := B_r.out.c2
  have c3r := B_r.out.c3
  have f0r := B_r.out.f0
  have f1r := B_r.out.f1
  have f2r := B_r.out.f2
  have f3r := B_r.out.f3
  go_wp2
  clear c0x c1x c2x c3x f0x f1x f2x f3x c0y c1y c2y c3y f0y f1y f2y f3y c0r c1r c2r c3r f0r f1r f2r f3r
  generalize w2.alloc (.cells #[.bool sy, (.slice Ay ky cy), .bool ty, (.slice Cy ly dy)] 26) = W2 at *
  have c0x := B_x.out.c0
  have c1x := B_x.out.c1
  have c2x := B_x.out.c2
  have c3x := B_x.out.c3
  have c0y := B_y.out.c0
  have c1y := B_y.out.c1
  have c2y := B_y.out.c2
  have c3y := B_y.out.c3
  have z1a := Z1a.out
  have z2b := Z2b.out
  have z3r := Z3r.out
  have z4a := Z4a.out
  have z5b := Z5b.out
  have z6r := Z6r.out
  have z7x := Z7x.out
  have tk0 : True := trivial
  first | (go_region_held3 (fun w' => w'.cell? ⟨w1.heap.size, 0, none⟩ = some (.bool sx) ∧ w'.cell? ⟨w1.heap.size, 1, none⟩ = some (.slice Ax kx cx) ∧ w'.cell? ⟨w1.heap.size, 2, none⟩ = some (.bool tx) ∧ w'.cell? ⟨w1.heap.size, 3, none⟩ = some (.slice Cx lx dx) ∧ w'.cell? ⟨w2.heap.size, 0, none⟩ = some (.bool sy) ∧ w'.cell? ⟨w2.heap.size, 1, none⟩ = some (.slice Ay ky cy) ∧ w'.cell? ⟨w2.heap.size, 2, none⟩ = some (.bool ty) ∧ w'.cell? ⟨w2.heap.size, 3, none⟩ = some (.slice Cy ly dy)) (((try dsimp only); (repeat' apply And.intro) <;> (first | (with_reducible assumption) | ((repeat (first | (with_reducible refine Eq.trans (cell_drew1 _ _) ?_) | (with_reducible refine Eq.trans (cell_set4 (by omega) _ _ _ _) ?_))); with_reducible assumption) | assumption | go_keep)))
    (first
      | (have _t := tk0; clear _t tk0; go_at_call 62; refine (RMul_rd (Rc.rd (Rc.below V_xn.out (by exact ⟨rfl, rfl, rfl, Nat.le_refl _, fun _ _ => rfl⟩))) (Rc.rd (Rc.below V_yn.out (by exact ⟨rfl, rfl, rfl, Nat.le_refl _, fun _ _ => rfl⟩))) (by omega) (by omega)).mono ?_; rintro e w3 ⟨vp1, rfl, rp1, bb⟩; replace bb := nextw (w0 := W2) (by exact ⟨rfl, rfl, rfl, Nat.le_refl _, fun _ _ => rfl⟩) bb; clear V_xn V_yn; replace B_a := Lib.hid (Box4.below B_a.out bb B_a.out.lt); replace B_b := Lib.hid (Box4.below B_b.out bb B_b.out.lt); replace B_r := Lib.hid (Box4.below B_r.out bb B_r.out.lt); replace B_x := Lib.hid (Box4.below B_x.out bb B_x.out.lt); replace B_y := Lib.hid (Box4.below B_y.out bb B_y.out.lt); replace V_xd := Lib.hid (Rc.below V_xd.out bb); replace V_yd := Lib.hid (Rc.below V_yd.out bb); replace HB := Lib.hid (nextw HB.out bb); clear bb; replace rp1 := Lib.hid rp1; have V_p1 := rp1; clear rp1; have c0x := B_x.out.c0; have c1x := B_x.out.c1; have c2x := B_x.out.c2; have c3x := B_x.out.c3; have c0y := B_y.out.c0; have c1y := B_y.out.c1; have c2y := B_y.out.c2; have c3y := B_y.out.c3; have tk1 : True := trivial)
      | (have _t := tk1; clear _t tk1; go_at_call 62; refine (RMul_rd (Rc.rd (Rc.below V_xd.out (by exact ⟨rfl, rfl, rfl, Nat.le_refl _, fun _ _ => rfl⟩))) (Rc.rd (Rc.below V_yd.out (by exact ⟨rfl, rfl, rfl, Nat.le_refl _, fun _ _ => rfl⟩))) (by omega) (by omega)).mono ?_; rintro e w4 ⟨vp2, rfl, rp2, bb⟩; replace bb := nextw (w0 := w3) (by exact ⟨rfl, rfl, rfl, Nat.le_refl _, fun _ _ => rfl⟩) bb; clear V_xd V_yd; replace B_a := Lib.hid (Box4.below B_a.out bb B_a.out.lt); replace B_b := Lib.hid (Box4.below B_b.out bb B_b.out.lt); replace B_r := Lib.hid (Box4.below B_r.out bb B_r.out.lt); replace B_x := Lib.hid (Box4.below B_x.out bb B_x.out.lt); replace B_y := Lib.hid (Box4.below B_y.out bb B_y.out.lt); replace V_p1 := Lib.hid (Rc.below V_p1.out bb); replace HB := Lib.hid (nextw HB.out bb); clear bb; replace rp2 := Lib.hid rp2; have V_p2 := rp2; clear rp2; have c0x := B_x.out.c0; have c1x := B_x.out.c1; have c2x := B_x.out.c2; have c3x := B_x.out.c3; have c0y := B_y.out.c0; have c1y := B_y.out.c1; have c2y := B_y.out.c2; have c3y := B_y.out.c3; have tk2 : True := trivial)
      | (have _t := tk2; clear _t tk2; go_at_call 52; refine (RNew_rd (k := (k1 + k2 + 4)) ((Rc.rd (Rc.below V_p1.out (by exact ⟨rfl, rfl, rfl, Nat.le_refl _, fun _ _ => rfl⟩))).more (by omega)) ((Rc.rd (Rc.below V_p2.out (by exact ⟨rfl, rfl, rfl, Nat.le_refl _, fun _ _ => rfl⟩))).more (by omega)) (by omega)).mono ?_; rintro e w5 ⟨vq, rfl, rq, bb⟩; replace bb := nextw (w0 := w4) (by exact ⟨rfl, rfl, rfl, Nat.le_refl _, fun _ _ => rfl⟩) bb; clear V_p1 V_p2; replace B_a := Lib.hid (Box4.below B_a.out bb B_a.out.lt); replace B_b := Lib.hid (Box4.below B_b.out bb B_b.out.lt); replace B_r := Lib.hid (Box4.below B_r.out bb B_r.out.lt); replace B_x := Lib.hid (Box4.below B_x.out bb B_x.out.lt); replace B_y := Lib.hid (Box4.below B_y.out bb B_y.out.lt); replace HB := Lib.hid (nextw HB.out bb); clear bb; replace rq := Lib.hid rq; have V_q := rq; clear rq; obtain ⟨sq, Aq, kq, cq, tq, Cq, lq, dq, rfl⟩ := V_q.out.shape; have c0r := B_r.out.c0; have c1r := B_r.out.c1; have c2r := B_r.out.c2; have c3r := B_r.out.c3; have f0r := B_r.out.f0; have f1r := B_r.out.f1; have f2r := B_r.out.f2; have f3r := B_r.out.f3; have c0x := B_x.out.c0; have c1x := B_x.out.c1; have c2x := B_x.out.c2; have c3x := B_x.out.c3; have c0y := B_y.out.c0; have c1y := B_y.out.c1; have c2y := B_y.out.c2; have c3y := B_y.out.c3; have tk3 : True := trivial))) | fail
  all_goals (clear z1a z2b z3r z4a z5b z6r z7x)
  all_goals
    skip
    have K_q := V_q
    replace K_q := Lib.hid (Box4.keepsQc B_r.out K_q.out (.bool sq) (.slice Aq kq cq) (.bool tq) (.slice Cq lq dq))
    have HB1 := Lib.hid (Below.store4 HB.out (y := w.heap.size + 1 + 1) (by omega) (.bool sq) (.slice Aq kq cq) (.bool tq) (.slice Cq lq dq))
    have N0r := Lib.hid (Box4.store B_r.out sq (.slice Aq kq cq) tq (.slice Cq lq dq))
    have s0r := N0r.out.c0
    have s1r := N0r.out.c1
    have s2r := N0r.out.c2
    have s3r := N0r.out.c3
    simp only [st4] at s0r s1r s2r s3r
    have HBF := HB1
    have c0r := B_r.out.c0
    have c1r := B_r.out.c1
    have c2r := B_r.out.c2
    have c3r := B_r.out.c3
    have f0r := B_r.out.f0
    have f1r := B_r.out.f1
    have f2r := B_r.out.f2
    have f3r := B_r.out.f3
    go_wp2_with fail
    exact bodyPost_ret (v := .agg #[.bool sq, (.slice Aq kq cq), .bool tq, (.slice Cq lq dq)]) (by simp [results, Tryz.results26, go_sem, s0r, s1r, s2r, s3r]) rfl ⟨_, rfl, (Qc.below K_q.out (by exact ⟨rfl, rfl, rfl, Nat.le_refl _, fun _ _ => rfl⟩)).of_eq HC.out, (nextw HBF.out (by exact ⟨rfl, rfl, rfl, Nat.le_refl _, fun _ _ => rfl⟩))⟩

set_option maxRecDepth 100000 in
set_option maxHeartbeats 8000000 in
theorem RAddQ_q {v1 v2 : Value} {r1 r2 : Rat} {k1 k2 : Nat} {w : World} (h1 : Qd w v1 r1 k1) (h2 : Qd w v2 r2 k2) (f1 : k1 ≤ 800) (f2 : k2 ≤ 800) :
    Calls Tryz.prog 22 #[v1, v2] w fun e w' => ∃ v', e = .returned v' ∧ Qc w' v' (r1 + r2) (2 * k1 + 2 * k2 + 11) ∧ Below w.heap.size w w' := by
  obtain ⟨sa, Aa, ka, ca, ta, Ca, la, da, rfl⟩ := h1.form4
  obtain ⟨sb, Ab, kb, cb, tb, Cb, lb, db, rfl⟩ := h2.form4
  have V_a := Lib.hid h1
  have V_b := Lib.hid h2
  clear h1 h2
  have HC := Lib.hid (add_nd r1 r2)
  have hb0 : Below w.heap.size w (((w.alloc (.cells #[.bool sa, (.slice Aa ka ca), .bool ta, (.slice Ca la da)] 26)).alloc (.cells #[.bool sb, (.slice Ab kb cb), .bool tb, (.slice Cb lb db)] 26)).alloc (.cells #[.bool false, (.slice none 0 0), .bool false, (.slice none 0 0)] 26)) := (Below.alloc (Below.alloc (Below.alloc (Below.refl w.heap.size w) (by simp <;> omega) _) (by simp <;> omega) _) (by simp <;> omega) _)
  have B_a : Box4 (((w.alloc (.cells #[.bool sa, (.slice Aa ka ca), .bool ta, (.slice Ca la da)] 26)).alloc (.cells #[.bool sb, (.slice Ab kb cb), .bool tb, (.slice Cb lb db)] 26)).alloc (.cells #[.bool false, (.slice none 0 0), .bool false, (.slice none 0 0)] 26)) (w.heap.size) sa (.slice Aa ka ca) ta (.slice Ca la da) := by have h := Box4.alloc (Box4.alloc (Box4.new w sa (.slice Aa ka ca) ta (.slice Ca la da)) (.cells #[.bool sb, (.slice Ab kb cb), .bool tb, (.slice Cb lb db)] 26)) (.cells #[.bool false, (.slice none 0 0), .bool false, (.slice none 0 0)] 26); simpa using h
  replace B_a := Lib.hid B_a
  have B_b : Box4 (((w.alloc (.cells #[.bool sa, (.slice Aa ka ca), .bool ta, (.slice Ca la da)] 26)).alloc (.cells #[.bool sb, (.slice Ab kb cb), .bool tb, (.slice Cb lb db)] 26)).alloc (.cells #[.bool false, (.slice none 0 0), .bool false, (.slice none 0 0)] 26)) (w.heap.size + 1) sb (.slice Ab kb cb) tb (.slice Cb lb db) := by have h := Box4.alloc (Box4.new (w.alloc (.cells #[.bool sa, (.slice Aa ka ca), .bool ta, (.slice Ca la da)] 26)) sb (.slice Ab kb cb) tb (.slice Cb lb db)) (.cells #[.bool false, (.slice none 0 0), .bool false, (.slice none 0 0)] 26); simpa using h
  replace B_b := Lib.hid B_b
  have B_r : Box4 (((w.alloc (.cells #[.bool sa, (.slice Aa ka ca), .bool ta, (.slice Ca la da)] 26)).alloc (.cells #[.bool sb, (.slice Ab kb cb), .bool tb, (.slice Cb lb db)] 26)).alloc (.cells #[.bool false, (.slice none 0 0), .bool false, (.slice none 0 0)] 26)) (w.heap.size + 1 + 1) false (.slice none 0 0) false (.slice none 0 0) := by have h := Box4.new ((w.alloc (.cells #[.bool sa, (.slice Aa ka ca), .bool ta, (.slice Ca la da)] 26)).alloc (.cells #[.bool sb, (.slice Ab kb cb), .bool tb, (.slice Cb lb db)] 26)) false (.slice none 0 0) false (.slice none 0 0); simpa using h
  replace B_r := Lib.hid B_r
  replace V_a := Lib.hid (Qd.below V_a.out hb0)
  replace V_b := Lib.hid (Qd.below V_b.out hb0)
  have HB := Lib.hid hb0
  clear hb0
  have c0a := B_a.out.c0
  have c1a := B_a.out.c1
  have c2a := B_a.out.c2
  have c3a := B_a.out.c3
  have c0b := B_b.out.c0
  have c1b := B_b.out.c1
  have c2b := B_b.out.c2
  have c3b := B_b.out.c3
  have c0r := B_r.out.c0
  have c1r := B_r.out.c1
  have c2r := B_r.out.c2
  have c3r := B_r.out.c3
  go_enter Tryz.func22, Tryz.ntmps22
  go_wp2_with fail
  clear c0a c1a c2a c3a c0b c1b c2b c3b c0r c1r c2r c3r
  generalize ((w.alloc (.cells #[.bool sa, (.slice Aa ka ca), .bool ta, (.slice Ca la da)] 26)).alloc (.cells #[.bool sb, (.slice Ab kb cb), .bool tb, (.slice Cb lb db)] 26)).alloc (.cells #[.bool false, (.slice none 0 0), .bool false, (.slice none 0 0)] 26) = W0 at *
  refine (RNormQ_q (Qd.below V_a.out (by exact ⟨rfl, rfl, rfl, Nat.le_refl _, fun _ _ => rfl⟩)) (by omega)).mono ?_
  rintro e w1 ⟨vx, rfl, rx, bb⟩
  replace bb := nextw (w0 := W0) (by exact ⟨rfl, rfl, rfl, Nat.le_refl _, fun _ _ => rfl⟩) bb
  replace B_a := Lib.hid (Box4.below B_a.out bb B_a.out.lt)
  replace B_b := Lib.hid (Box4.below B_b.out bb B_b.out.lt)
  replace B_r := Lib.hid (Box4.below B_r.out bb B_r.out.lt)
  replace V_a := Lib.hid (Qd.below V_a.out bb)
  replace V_b := Lib.hid (Qd.below V_b.out bb)
  replace HB := Lib.hid (nextw HB.out bb)
  clear bb
  clear V_a
  obtain ⟨sx, Ax, kx, cx, tx, Cx, lx, dx, rfl, hnx, hdx⟩ := rx.parts
  have V_xn := Lib.hid hnx
  have V_xd := Lib.hid hdx
  clear rx hnx hdx
  have Z1a := Lib.hid B_a.out.lt
  have Z2b := Lib.hid B_b.out.lt
  have Z3r := Lib.hid B_r.out.lt
  have hb0 : Below w1.heap.size w1 (w1.alloc (.cells #[.bool sx, (.slice Ax kx cx), .bool tx, (.slice Cx lx dx)] 26)) := (Below.alloc (Below.refl w1.heap.size w1) (by simp <;> omega) _)
  have B_x : Box4 (w1.alloc (.cells #[.bool sx, (.slice Ax kx cx), .bool tx, (.slice Cx lx dx)] 26)) (w1.heap.size) sx (.slice Ax kx cx) tx (.slice Cx lx dx) := by have h := Box4.new w1 sx (.slice Ax kx cx) tx (.slice Cx lx dx); simpa using h
  replace B_x := Lib.hid B_x
  replace B_a := Lib.hid (Box4.below B_a.out hb0 B_a.out.lt)
  replace B_b := Lib.hid (Box4.below B_b.out hb0 B_b.out.lt)
  replace B_r := Lib.hid (Box4.below B_r.out hb0 B_r.out.lt)
  replace V_b := Lib.hid (Qd.below V_b.out hb0)
  replace V_xn := Lib.hid (Rc.below V_xn.out hb0)
  replace V_xd := Lib.hid (Rc.below V_xd.out hb0)
  replace HB := Lib.hid (nextw HB.out hb0)
  clear hb0
  have c0b := B_b.out.c0
  have c1b := B_b.out.c1
  have c2b := B_b.out.c2
  have c3b := B_b.out.c3
  have c0x := B_x.out.c0
  have c1x := B_x.out.c1
  have c2x := B_x.out.c2
  have c3x := B_x.out.c3
  have c0r := B_r.out.c0
  have c1r := B_r.out.c1
  have c2r := B_r.out.c2
  have c3r := B_r.out.c3
  go_wp2_with fail
  clear c0b c1b c2b c3b c0x c1x c2x c3x c0r c1r c2r c3r
  generalize w1.alloc (.cells #[.bool sx, (.slice Ax kx cx), .bool tx, (.slice Cx lx dx)] 26) = W1 at *
  refine (RNormQ_q (Qd.below V_b.out (by exact ⟨rfl, rfl, rfl, Nat.le_refl _, fun _ _ => rfl⟩)) (by omega)).mono ?_
  rintro e w2 ⟨vy, rfl, ry, bb⟩
  replace bb := nextw (w0 := W1) (by exact ⟨rfl, rfl, rfl, Nat.le_refl _, fun _ _ => rfl⟩) bb
  replace B_a := Lib.hid (Box4.below B_a.out bb B_a.out.lt)
  replace B_b := Lib.hid (Box4.below B_b.out bb B_b.out.lt)
  replace B_r := Lib.hid (Box4.below B_r.out bb B_r.out.lt)
  replace B_x := Lib.hid (Box4.below B_x.out bb B_x.out.lt)
  replace V_b := Lib.hid (Qd.below V_b.out bb)
  replace V_xn := Lib.hid (Rc.below V_xn.out bb)
  replace V_xd := Lib.hid (Rc.below V_xd.out bb)
  replace HB := Lib.hid (nextw HB.out bb)
  clear bb
  clear V_b
  obtain ⟨sy, Ay, ky, cy, ty, Cy, ly, dy, rfl, hny, hdy⟩ := ry.parts
  have V_yn := Lib.hid hny
  have V_yd := Lib.hid hdy
  clear ry hny hdy
  have Z4a := Lib.hid B_a.out.lt
  have Z5b := Lib.hid B_b.out.lt
  have Z6r := Lib.hid B_r.out.lt
  have Z7x := Lib.hid B_x.out.lt
  have hb0 : Below w2.heap.size w2 (w2.alloc (.cells #[.bool sy, (.slice Ay ky cy), .bool ty, (.slice Cy ly dy)] 26)) := (Below.alloc (Below.refl w2.heap.size w2) (by simp <;> omega) _)
  have B_y : Box4 (w2.alloc (.cells #[.bool sy, (.slice Ay ky cy), .bool ty, (.slice Cy ly dy)] 26)) (w2.heap.size) sy (.slice Ay ky cy) ty (.slice Cy ly dy) := by have h := Box4.new w2 sy (.slice Ay ky cy) ty (.slice Cy ly dy); simpa using h
  replace B_y := Lib.hid B_y
  replace B_a := Lib.hid (Box4.below B_a.out hb0 B_a.out.lt)
  replace B_b := Lib.hid (Box4.below B_b.out hb0 B_b.out.lt)
  replace B_r := Lib.hid (Box4.below B_r.out hb0 B_r.out.lt)
  replace B_x := Lib.hid (Box4.below B_x.out hb0 B_x.out.lt)
  replace V_xn := Lib.hid (Rc.below V_xn.out hb0)
  replace V_xd := Lib.hid (Rc.below V_xd.out hb0)
  replace V_yn := Lib.hid (Rc.below V_yn.out hb0)
  replace V_yd := Lib.hid (Rc.below V_yd.out hb0)
  replace HB := Lib.hid (nextw HB.out hb0)
  clear hb0
  have c0x := B_x.out.c0
  have c1x := B_x.out.c1
  have c2x := B_x.out.c2
  have c3x := B_x.out.c3
  have f0x := B_x.out.f0
  have f1x := B_x.out.f1
  have f2x := B_x.out.f2
  have f3x := B_x.out.f3
  have c0y := B_y.out.c0
  have c1y := B_y.out.c1
  have c2y := B_y.out.c2
  have c3y := B_y.out.c3
  have f0y := B_y.out.f0
  have f1y := B_y.out.f1
  have f2y := B_y.out.f2
  have f3y := B_y.out.f3
  have c0r := B_r.out.c0
  have c1r := B_r.out.c1
  have c2r := B_r.out.c2
  have c3r := B_r.out.c3
  have f0r := B_r.out.f0
  have f1r := B_r.out.f1
  have f2r := B_r.out.f2
  have f3r := B_r.out.f3
  go_wp2
  clear c0x c1x c2x c3x f0x f1x f2x f3x c0y c1y c2y c3y f0y f1y f2y f3y c0r c1r c2r c3r f0r f1r f2r f3r
  generalize w2.alloc (.cells #[.bool sy, (.slice Ay ky cy), .bool ty, (.slice Cy ly dy)] 26) = W2 at *
  have c0x := B_x.out.c0
  have c1x := B_x.out.c1
  have c2x := B_x.out.c2
  have c3x := B_x.out.c3
  have c0y := B_y.out.c0
  have c1y := B_y.out.c1
  have c2y := B_y.out.c2
  have c3y := B_y.out.c3
  have z1a := Z1a.out
  have z2b := Z2b.out
  have z3r := Z3r.out
  have z4a := Z4a.out
  have z5b := Z5b.out
  have z6r := Z6r.out
  have z7x := Z7x.out
  have tk0 : True := trivial
  first | (go_region_held3 (fun w' => w'.cell? ⟨w1.heap.size, 0, none⟩ = some (.bool sx) ∧ w'.cell? ⟨w1.heap.size, 1, none⟩ = some (.slice Ax kx cx) ∧ w'.cell? ⟨w1.heap.size, 2, none⟩ = some (.bool tx) ∧ w'.cell? ⟨w1.heap.size, 3, none⟩ = some (.slice Cx lx dx) ∧ w'.cell? ⟨w2.heap.size, 0, none⟩ = some (.bool sy) ∧ w'.cell? ⟨w2.heap.size, 1, none⟩ = some (.slice Ay ky cy) ∧ w'.cell? ⟨w2.heap.size, 2, none⟩ = some (.bool ty) ∧ w'.cell? ⟨w2.heap.size, 3, none⟩ = some (.slice Cy ly dy)) (((try dsimp only); (repeat' apply And.intro) <;> (first | (with_reducible assumption) | ((repeat (first | (with_reducible refine Eq.trans (cell_drew1 _ _) ?_) | (with_reducible refine Eq.trans (cell_set4 (by omega) _ _ _ _) ?_))); with_reducible assumption) | assumption | go_keep)))
    (first
      | (have _t := tk0; clear _t tk0; go_at_call 62; refine (RMul_rd (Rc.rd (Rc.below V_xn.out (by exact ⟨rfl, rfl, rfl, Nat.le_refl _, fun _ _ => rfl⟩))) (Rc.rd (Rc.below V_yd.out (by exact ⟨rfl, rfl, rfl, Nat.le_refl _, fun _ _ => rfl⟩))) (by omega) (by omega)).mono ?_; rintro e w3 ⟨vp1, rfl, rp1, bb⟩; replace bb := nextw (w0 := W2) (by exact ⟨rfl, rfl, rfl, Nat.le_refl _, fun _ _ => rfl⟩) bb; clear V_xn; replace B_a := Lib.hid (Box4.below B_a.out bb B_a.out.lt); replace B_b := Lib.hid (Box4.below B_b.out bb B_b.out.lt); replace B_r := Lib.hid (Box4.below B_r.out bb B_r.out.lt); replace B_x := Lib.hid (Box4.below B_x.out bb B_x.out.lt); replace B_y := Lib.hid (Box4.below B_y.out bb B_y.out.lt); replace V_xd := Lib.hid (Rc.below V_xd.out bb); replace V_yn := Lib.hid (Rc.below V_yn.out bb); replace V_yd := Lib.hid (Rc.below V_yd.out bb); replace HB := Lib.hid (nextw HB.out bb); clear bb; replace rp1 := Lib.hid rp1; have V_p1 := rp1; clear rp1; have c0x := B_x.out.c0; have c1x := B_x.out.c1; have c2x := B_x.out.c2; have c3x := B_x.out.c3; have c0y := B_y.out.c0; have c1y := B_y.out.c1; have c2y := B_y.out.c2; have c3y := B_y.out.c3; have tk1 : True := trivial)
      | (have _t := tk1; clear _t tk1; go_at_call 62; refine (RMul_rd (Rc.rd (Rc.below V_yn.out (by exact ⟨rfl, rfl, rfl, Nat.le_refl _, fun _ _ => rfl⟩))) (Rc.rd (Rc.below V_xd.out (by exact ⟨rfl, rfl, rfl, Nat.le_refl _, fun _ _ => rfl⟩))) (by omega) (by omega)).mono ?_; rintro e w4 ⟨vp2, rfl, rp2, bb⟩; replace bb := nextw (w0 := w3) (by exact ⟨rfl, rfl, rfl, Nat.le_refl _, fun _ _ => rfl⟩) bb; clear V_yn; replace B_a := Lib.hid (Box4.below B_a.out bb B_a.out.lt); replace B_b := Lib.hid (Box4.below B_b.out bb B_b.out.lt); replace B_r := Lib.hid (Box4.below B_r.out bb B_r.out.lt); replace B_x := Lib.hid (Box4.below B_x.out bb B_x.out.lt); replace B_y := Lib.hid (Box4.below B_y.out bb B_y.out.lt); replace V_xd := Lib.hid (Rc.below V_xd.out bb); replace V_yd := Lib.hid (Rc.below V_yd.out bb); replace V_p1 := Lib.hid (Rc.below V_p1.out bb); replace HB := Lib.hid (nextw HB.out bb); clear bb; replace rp2 := Lib.hid rp2; have V_p2 := rp2; clear rp2; have c0x := B_x.out.c0; have c1x := B_x.out.c1; have c2x := B_x.out.c2; have c3x := B_x.out.c3; have c0y := B_y.out.c0; have c1y := B_y.out.c1; have c2y := B_y.out.c2; have c3y := B_y.out.c3; have tk2 : True := trivial)
      | (have _t := tk2; clear _t tk2; go_at_call 61; refine (RAdd_rd (Rc.rd (Rc.below V_p1.out (by exact ⟨rfl, rfl, rfl, Nat.le_refl _, fun _ _ => rfl⟩))) (Rc.rd (Rc.below V_p2.out (by exact ⟨rfl, rfl, rfl, Nat.le_refl _, fun _ _ => rfl⟩))) (by omega) (by omega)).mono ?_; rintro e w5 ⟨vp3, rfl, rp3, bb⟩; replace bb := nextw (w0 := w4) (by exact ⟨rfl, rfl, rfl, Nat.le_refl _, fun _ _ => rfl⟩) bb; clear V_p1 V_p2; replace B_a := Lib.hid (Box4.below B_a.out bb B_a.out.lt); replace B_b := Lib.hid (Box4.below B_b.out bb B_b.out.lt); replace B_r := Lib.hid (Box4.below B_r.out bb B_r.out.lt); replace B_x := Lib.hid (Box4.below B_x.out bb B_x.out.lt); replace B_y := Lib.hid (Box4.below B_y.out bb B_y.out.lt); replace V_xd := Lib.hid (Rc.below V_xd.out bb); replace V_yd := Lib.hid (Rc.below V_yd.out bb); replace HB := Lib.hid (nextw HB.out bb); clear bb; replace rp3 := Lib.hid rp3; have V_p3 := rp3; clear rp3; have c0x := B_x.out.c0; have c1x := B_x.out.c1; have c2x := B_x.out.c2; have c3x := B_x.out.c3; have c0y := B_y.out.c0; have c1y := B_y.out.c1; have c2y := B_y.out.c2; have c3y := B_y.out.c3; have tk3 : True := trivial)
      | (have _t := tk3; clear _t tk3; go_at_call 62; refine (RMul_rd (Rc.rd (Rc.below V_xd.out (by exact ⟨rfl, rfl, rfl, Nat.le_refl _, fun _ _ => rfl⟩))) (Rc.rd (Rc.below V_yd.out (by exact ⟨rfl, rfl, rfl, Nat.le_refl _, fun _ _ => rfl⟩))) (by omega) (by omega)).mono ?_; rintro e w6 ⟨vp4, rfl, rp4, bb⟩; replace bb := nextw (w0 := w5) (by exact ⟨rfl, rfl, rfl, Nat.le_refl _, fun _ _ => rfl⟩) bb; clear V_xd V_yd; replace B_a := Lib.hid (Box4.below B_a.out bb B_a.out.lt); replace B_b := Lib.hid (Box4.below B_b.out bb B_b.out.lt); replace B_r := Lib.hid (Box4.below B_r.out bb B_r.out.lt); replace B_x := Lib.hid (Box4.below B_x.out bb B_x.out.lt); replace B_y := Lib.hid (Box4.below B_y.out bb B_y.out.lt); replace V_p3 := Lib.hid (Rc.below V_p3.out bb); replace HB := Lib.hid (nextw HB.out bb); clear bb; replace rp4 := Lib.hid rp4; have V_p4 := rp4; clear rp4; have c0x := B_x.out.c0; have c1x := B_x.out.c1; have c2x := B_x.out.c2; have c3x := B_x.out.c3; have c0y := B_y.out.c0; have c1y := B_y.out.c1; have c2y := B_y.out.c2; have c3y := B_y.out.c3; have tk4 : True := trivial)
      | (have _t := tk4; clear _t tk4; go_at_call 52; refine (RNew_rd (k := (2 * k1 + 2 * k2 + 9)) ((Rc.rd (Rc.below V_p3.out (by exact ⟨rfl, rfl, rfl, Nat.le_refl _, fun _ _ => rfl⟩))).more (by omega)) ((Rc.rd (Rc.below V_p4.out (by exact ⟨rfl, rfl, rfl, Nat.le_refl _, fun _ _ => rfl⟩))).more (by omega)) (by omega)).mono ?_; rintro e w7 ⟨vq, rfl, rq, bb⟩; replace bb := nextw (w0 := w6) (by exact ⟨rfl, rfl, rfl, Nat.le_refl _, fun _ _ => rfl⟩) bb; clear V_p3 V_p4; replace B_a := Lib.hid (Box4.below B_a.out bb B_a.out.lt); replace B_b := Lib.hid (Box4.below B_b.out bb B_b.out.lt); replace B_r := Lib.hid (Box4.below B_r.out bb B_r.out.lt); replace B_x := Lib.hid (Box4.below B_x.out bb B_x.out.lt); replace B_y := Lib.hid (Box4.below B_y.out bb B_y.out.lt); replace HB := Lib.hid (nextw HB.out bb); clear bb; replace rq := Lib.hid rq; have V_q := rq; clear rq; obtain ⟨sq, Aq, kq, cq, tq, Cq, lq, dq, rfl⟩ := V_q.out.shape; have c0r := B_r.out.c0; have c1r := B_r.out.c1; have c2r := B_r.out.c2; have c3r := B_r.out.c3; have f0r := B_r.out.f0; have f1r := B_r.out.f1; have f2r := B_r.out.f2; have f3r := B_r.out.f3; have c0x := B_x.out.c0; have c1x := B_x.out.c1; have c2x := B_x.out.c2; have c3x := B_x.out.c3; have c0y := B_y.out.c0; have c1y := B_y.out.c1; have c2y := B_y.out.c2; have c3y := B_y.out.c3; have tk5 : True := trivial))) | fail
  all_goals (clear z1a z2b z3r z4a z5b z6r z7x)
  all_goals
    skip
    have K_q := V_q
    replace K_q := Lib.hid (Box4.keepsQc B_r.out K_q.out (.bool sq) (.slice Aq kq cq) (.bool tq) (.slice Cq lq dq))
    have HB1 := Lib.hid (Below.store4 HB.out (y := w.heap.size + 1 + 1) (by omega) (.bool sq) (.slice Aq kq cq) (.bool tq) (.slice Cq lq dq))
    have N0r := Lib.hid (Box4.store B_r.out sq (.slice Aq kq cq) tq (.slice Cq lq dq))
    have s0r := N0r.out.c0
    have s1r := N0r.out.c1
    have s2r := N0r.out.c2
    have s3r := N0r.out.c3
    simp only [st4] at s0r s1r s2r s3r
    have HBF := HB1
    have c0r := B_r.out.c0
    have c1r := B_r.out.c1
    have c2r := B_r.out.c2
    have c3r := B_r.out.c3
    have f0r := B_r.out.f0
    have f1r := B_r.out.f1
    have f2r := B_r.out.f2
    have f3r := B_r.out.f3
    go_wp2_with fail
    exact bodyPost_ret (v := .agg #[.bool sq, (.slice Aq kq cq), .bool tq, (.slice Cq lq dq)]) (by simp [results, Tryz.results22, go_sem, s0r, s1r, s2r, s3r]) rfl ⟨_, rfl, (Qc.below K_q.out (by exact ⟨rfl, rfl, rfl, Nat.le_refl _, fun _ _ => rfl⟩)).of_eq HC.out, (nextw HBF.out (by exact ⟨rfl, rfl, rfl, Nat.le_refl _, fun _ _ => rfl⟩))⟩

set_option maxRecDepth 100000 in
set_option maxHeartbeats 8000000 in
theorem RSubQ_q {v1 v2 : Value} {r1 r2 : Rat} {k1 k2 : Nat} {w : World} (h1 : Qd w v1 r1 k1) (h2 : Qd w v2 r2 k2) (f1 : k1 ≤ 700) (f2 : k2 ≤ 700) :
    Calls Tryz.prog 24 #[v1, v2] w fun e w' => ∃ v', e = .returned v' ∧ Qc w' v' (r1 - r2) (2 * k1 + 2 * k2 + 19) ∧ Below w.heap.size w w' := by
  obtain ⟨sa, Aa, ka, ca, ta, Ca, la, da, rfl⟩ := h1.form4
  obtain ⟨sb, Ab, kb, cb, tb, Cb, lb, db, rfl⟩ := h2.form4
  have V_a := Lib.hid h1
  have V_b := Lib.hid h2
  clear h1 h2
  have HC := Lib.hid (Rat.sub_eq_add_neg r1 r2)
  have hb0 : Below w.heap.size w (((w.alloc (.cells #[.bool sa, (.slice Aa ka ca), .bool ta, (.slice Ca la da)] 26)).alloc (.cells #[.bool sb, (.slice Ab kb cb), .bool tb, (.slice Cb lb db)] 26)).alloc (.cells #[.bool false, (.slice none 0 0), .bool false, (.slice none 0 0)] 26)) := (Below.alloc (Below.alloc (Below.alloc (Below.refl w.heap.size w) (by simp <;> omega) _) (by simp <;> omega) _) (by simp <;> omega) _)
  have B_a : Box4 (((w.alloc (.cells #[.bool sa, (.slice Aa ka ca), .bool ta, (.slice Ca la da)] 26)).alloc (.cells #[.bool sb, (.slice Ab kb cb), .bool tb, (.slice Cb lb db)] 26)).alloc (.cells #[.bool false, (.slice none 0 0), .bool false, (.slice none 0 0)] 26)) (w.heap.size) sa (.slice Aa ka ca) ta (.slice Ca la da) := by have h := Box4.alloc (Box4.alloc (Box4.new w sa (.slice Aa ka ca) ta (.slice Ca la da)) (.cells #[.bool sb, (.slice Ab kb cb), .bool tb, (.slice Cb lb db)] 26)) (.cells #[.bool false, (.slice none 0 0), .bool false, (.slice none 0 0)] 26); simpa using h
  replace B_a := Lib.hid B_a
  have B_b : Box4 (((w.alloc (.cells #[.bool sa, (.slice Aa ka ca), .bool ta, (.slice Ca la da)] 26)).alloc (.cells #[.bool sb, (.slice Ab kb cb), .bool tb, (.slice Cb lb db)] 26)).alloc (.cells #[.bool false, (.slice none 0 0), .bool false, (.slice none 0 0)] 26)) (w.heap.size + 1) sb (.slice Ab kb cb) tb (.slice Cb lb db) := by have h := Box4.alloc (Box4.new (w.alloc (.cells #[.bool sa, (.slice Aa ka ca), .bool ta, (.slice Ca la da)] 26)) sb (.slice Ab kb cb) tb (.slice Cb lb db)) (.cells #[.bool false, (.slice none 0 0), .bool false, (.slice none 0 0)] 26); simpa using h
  replace B_b := Lib.hid B_b
  have B_r : Box4 (((w.alloc (.cells #[.bool sa, (.slice Aa ka ca), .bool ta, (.slice Ca la da)] 26)).alloc (.cells #[.bool sb, (.slice Ab kb cb), .bool tb, (.slice Cb lb db)] 26)).alloc (.cells #[.bool false, (.slice none 0 0), .bool false, (.slice none 0 0)] 26)) (w.heap.size + 1 + 1) false (.slice none 0 0) false (.slice none 0 0) := by have h := Box4.new ((w.alloc (.cells #[.bool sa, (.slice Aa ka ca), .bool ta, (.slice Ca la da)] 26)).alloc (.cells #[.bool sb, (.slice Ab kb cb), .bool tb, (.slice Cb lb db)] 26)) false (.slice none 0 0) false (.slice none 0 0); simpa using h
  replace B_r := Lib.hid B_r
  replace V_a := Lib.hid (Qd.below V_a.out hb0)
  replace V_b := Lib.hid (Qd.below V_b.out hb0)
  have HB := Lib.hid hb0
  clear hb0
  have c0a := B_a.out.c0
  have c1a := B_a.out.c1
  have c2a := B_a.out.c2
  have c3a := B_a.out.c3
  have c0b := B_b.out.c0
  have c1b := B_b.out.c1
  have c2b := B_b.out.c2
  have c3b := B_b.out.c3
  have c0r := B_r.out.c0
  have c1r := B_r.out.c1
  have c2r := B_r.out.c2
  have c3r := B_r.out.c3
  go_enter Tryz.func24, Tryz.ntmps24
  go_wp2_with fail
  clear c0a c1a c2a c3a c0b c1b c2b c3b c0r c1r c2r c3r
  generalize ((w.alloc (.cells #[.bool sa, (.slice Aa ka ca), .bool ta, (.slice Ca la da)] 26)).alloc (.cells #[.bool sb, (.slice Ab kb cb), .bool tb, (.slice Cb lb db)] 26)).alloc (.cells #[.bool false, (.slice none 0 0), .bool false, (.slice none 0 0)] 26) = W0 at *
  have c0a := B_a.out.c0
  have c1a := B_a.out.c1
  have c2a := B_a.out.c2
  have c3a := B_a.out.c3
  have f0a := B_a.out.f0
  have f1a := B_a.out.f1
  have f2a := B_a.out.f2
  have f3a := B_a.out.f3
  have c0b := B_b.out.c0
  have c1b := B_b.out.c1
  have c2b := B_b.out.c2
  have c3b := B_b.out.c3
  have f0b := B_b.out.f0
  have f1b := B_b.out.f1
  have f2b := B_b.out.f2
  have f3b := B_b.out.f3
  have c0r := B_r.out.c0
  have c1r := B_r.out.c1
  have c2r := B_r.out.c2
  have c3r := B_r.out.c3
  have f0r := B_r.out.f0
  have f1r := B_r.out.f1
  have f2r := B_r.out.f2
  have f3r := B_r.out.f3
  go_wp2
  have c0a := B_a.out.c0
  have c1a := B_a.out.c1
  have c2a := B_a.out.c2
  have c3a := B_a.out.c3
  have c0b := B_b.out.c0
  have c1b := B_b.out.c1
  have c2b := B_b.out.c2
  have c3b := B_b.out.c3
  have tk0 : True := trivial
  first | (go_region_held3 (fun w' => w'.cell? ⟨w.heap.size, 0, none⟩ = some (.bool sa) ∧ w'.cell? ⟨w.heap.size, 1, none⟩ = some (.slice Aa ka ca) ∧ w'.cell? ⟨w.heap.size, 2, none⟩ = some (.bool ta) ∧ w'.cell? ⟨w.heap.size, 3, none⟩ = some (.slice Ca la da) ∧ w'.cell? ⟨w.heap.size + 1, 0, none⟩ = some (.bool sb) ∧ w'.cell? ⟨w.heap.size + 1, 1, none⟩ = some (.slice Ab kb cb) ∧ w'.cell? ⟨w.heap.size + 1, 2, none⟩ = some (.bool tb) ∧ w'.cell? ⟨w.heap.size + 1, 3, none⟩ = some (.slice Cb lb db)) (((try dsimp only); (repeat' apply And.intro) <;> (first | (with_reducible assumption) | ((repeat (first | (with_reducible refine Eq.trans (cell_drew1 _ _) ?_) | (with_reducible refine Eq.trans (cell_set4 (by omega) _ _ _ _) ?_))); with_reducible assumption) | assumption | go_keep)))
    (first
      | (have _t := tk0; clear _t tk0; go_at_call 28; refine (RNegQ_q (Qd.below V_b.out (by exact ⟨rfl, rfl, rfl, Nat.le_refl _, fun _ _ => rfl⟩)) (by omega)).mono ?_; rintro e w1 ⟨vn, rfl, rn, bb⟩; replace bb := nextw (w0 := W0) (by exact ⟨rfl, rfl, rfl, Nat.le_refl _, fun _ _ => rfl⟩) bb; clear V_b; replace B_a := Lib.hid (Box4.below B_a.out bb B_a.out.lt); replace B_b := Lib.hid (Box4.below B_b.out bb B_b.out.lt); replace B_r := Lib.hid (Box4.below B_r.out bb B_r.out.lt); replace V_a := Lib.hid (Qd.below V_a.out bb); replace HB := Lib.hid (nextw HB.out bb); clear bb; replace rn := Lib.hid rn; have V_n := rn; clear rn; obtain ⟨sn, An, kn, cn, tn, Cn, ln, dn, rfl⟩ := V_n.out.shape; have c0a := B_a.out.c0; have c1a := B_a.out.c1; have c2a := B_a.out.c2; have c3a := B_a.out.c3; have c0b := B_b.out.c0; have c1b := B_b.out.c1; have c2b := B_b.out.c2; have c3b := B_b.out.c3; have tk1 : True := trivial)
      | (have _t := tk1; clear _t tk1; go_at_call 22; refine (RAddQ_q (Qd.below V_a.out (by exact ⟨rfl, rfl, rfl, Nat.le_refl _, fun _ _ => rfl⟩)) (Qc.qd (Qc.below V_n.out (by exact ⟨rfl, rfl, rfl, Nat.le_refl _, fun _ _ => rfl⟩))) (by omega) (by omega)).mono ?_; rintro e w2 ⟨vq, rfl, rq, bb⟩; replace bb := nextw (w0 := w1) (by exact ⟨rfl, rfl, rfl, Nat.le_refl _, fun _ _ => rfl⟩) bb; clear V_a V_n; replace B_a := Lib.hid (Box4.below B_a.out bb B_a.out.lt); replace B_b := Lib.hid (Box4.below B_b.out bb B_b.out.lt); replace B_r := Lib.hid (Box4.below B_r.out bb B_r.out.lt); replace HB := Lib.hid (nextw HB.out bb); clear bb; replace rq := Lib.hid rq; have V_q := rq; clear rq; obtain ⟨sq, Aq, kq, cq, tq, Cq, lq, dq, rfl⟩ := V_q.out.shape; have c0r := B_r.out.c0; have c1r := B_r.out.c1; have c2r := B_r.out.c2; have c3r := B_r.out.c3; have f0r := B_r.out.f0; have f1r := B_r.out.f1; have f2r := B_r.out.f2; have f3r := B_r.out.f3; have c0a := B_a.out.c0; have c1a := B_a.out.c1; have c2a := B_a.out.c2; have c3a := B_a.out.c3; have c0b := B_b.out.c0; have c1b := B_b.out.c1; have c2b := B_b.out.c2; have c3b := B_b.out.c3; have tk2 : True := trivial))) | fail
  all_goals
    skip
    have K_q := V_q
    replace K_q := Lib.hid (Box4.keepsQc B_r.out K_q.out (.bool sq) (.slice Aq kq cq) (.bool tq) (.slice Cq lq dq))
    have HB1 := Lib.hid (Below.store4 HB.out (y := w.heap.size + 1 + 1) (by omega) (.bool sq) (.slice Aq kq cq) (.bool tq) (.slice Cq lq dq))
    have N0r := Lib.hid (Box4.store B_r.out sq (.slice Aq kq cq) tq (.slice Cq lq dq))
    have s0r := N0r.out.c0
    have s1r := N0r.out.c1
    have s2r := N0r.out.c2
    have s3r := N0r.out.c3
    simp only [st4] at s0r s1r s2r s3r
    have HBF := HB1
    have c0r := B_r.out.c0
    have c1r := B_r.out.c1
    have c2r := B_r.out.c2
    have c3r := B_r.out.c3
    have f0r := B_r.out.f0
    have f1r := B_r.out.f1
    have f2r := B_r.out.f2
    have f3r := B_r.out.f3
    go_wp2_with fail
    exact bodyPost_ret (v := .agg #[.bool sq, (.slice Aq kq cq), .bool tq, (.slice Cq lq dq)]) (by simp [results, Tryz.results24, go_sem, s0r, s1r, s2r, s3r]) rfl ⟨_, rfl, ((Qc.below K_q.out (by exact ⟨rfl, rfl, rfl, Nat.le_refl _, fun _ _ => rfl⟩)).of_eq HC.out.symm).more (by omega), (nextw HBF.out (by exact ⟨rfl, rfl, rfl, Nat.le_refl _, fun _ _ => rfl⟩))⟩

set_option maxRecDepth 100000 in
set_option maxHeartbeats 4000000 in
theorem RCmpQ_q {v1 v2 : Value} {r1 r2 : Rat} {k1 k2 : Nat} {w : World} (h1 : Qd w v1 r1 k1) (h2 : Qd w v2 r2 k2) (f1 : k1 ≤ 400) (f2 : k2 ≤ 400) :
    Calls Tryz.prog 34 #[v1, v2] w fun e w' => e = .returned (.int .i64 (cmpQ r1 r2)) ∧ Below w.heap.size w w' := by
  obtain ⟨sa, Aa, ka, ca, ta, Ca, la, da, rfl⟩ := h1.form4
  obtain ⟨sb, Ab, kb, cb, tb, Cb, lb, db, rfl⟩ := h2.form4
  have V_a := Lib.hid h1
  have V_b := Lib.hid h2
  clear h1 h2
  have HC := Lib.hid (sgn_sub r1 r2)
  have hb0 : Below w.heap.size w ((w.alloc (.cells #[.bool sa, (.slice Aa ka ca), .bool ta, (.slice Ca la da)] 26)).alloc (.cells #[.bool sb, (.slice Ab kb cb), .bool tb, (.slice Cb lb db)] 26)) := (Below.alloc (Below.alloc (Below.refl w.heap.size w) (by simp <;> omega) _) (by simp <;> omega) _)
  have B_a : Box4 ((w.alloc (.cells #[.bool sa, (.slice Aa ka ca), .bool ta, (.slice Ca la da)] 26)).alloc (.cells #[.bool sb, (.slice Ab kb cb), .bool tb, (.slice Cb lb db)] 26)) (w.heap.size) sa (.slice Aa ka ca) ta (.slice Ca la da) := by have h := Box4.alloc (Box4.new w sa (.slice Aa ka ca) ta (.slice Ca la da)) (.cells #[.bool sb, (.slice Ab kb cb), .bool tb, (.slice Cb lb db)] 26); simpa using h
  replace B_a := Lib.hid B_a
  have B_b : Box4 ((w.alloc (.cells #[.bool sa, (.slice Aa ka ca), .bool ta, (.slice Ca la da)] 26)).alloc (.cells #[.bool sb, (.slice Ab kb cb), .bool tb, (.slice Cb lb db)] 26)) (w.heap.size + 1) sb (.slice Ab kb cb) tb (.slice Cb lb db) := by have h := Box4.new (w.alloc (.cells #[.bool sa, (.slice Aa ka ca), .bool ta, (.slice Ca la da)] 26)) sb (.slice Ab kb cb) tb (.slice Cb lb db); simpa using h
  replace B_b := Lib.hid B_b
  replace V_a := Lib.hid (Qd.below V_a.out hb0)
  replace V_b := Lib.hid (Qd.below V_b.out hb0)
  have HB := Lib.hid hb0
  clear hb0
  have c0a := B_a.out.c0
  have c1a := B_a.out.c1
  have c2a := B_a.out.c2
  have c3a := B_a.out.c3
  have c0b := B_b.out.c0
  have c1b := B_b.out.c1
  have c2b := B_b.out.c2
  have c3b := B_b.out.c3
  go_enter Tryz.func34, Tryz.ntmps34
  go_wp2_with fail
  clear c0a c1a c2a c3a c0b c1b c2b c3b
  generalize (w.alloc (.cells #[.bool sa, (.slice Aa ka ca), .bool ta, (.slice Ca la da)] 26)).alloc (.cells #[.bool sb, (.slice Ab kb cb), .bool tb, (.slice Cb lb db)] 26) = W0 at *
  refine (RSubQ_q (Qd.below V_a.out (by exact ⟨rfl, rfl, rfl, Nat.le_refl _, fun _ _ => rfl⟩)) (Qd.below V_b.out (by exact ⟨rfl, rfl, rfl, Nat.le_refl _, fun _ _ => rfl⟩)) (by omega) (by omega)).mono ?_
  rintro e w1 ⟨vq, rfl, rq, bb⟩
  replace bb := nextw (w0 := W0) (by exact ⟨rfl, rfl, rfl, Nat.le_refl _, fun _ _ => rfl⟩) bb
  replace B_a := Lib.hid (Box4.below B_a.out bb B_a.out.lt)
  replace B_b := Lib.hid (Box4.below B_b.out bb B_b.out.lt)
  replace V_a := Lib.hid (Qd.below V_a.out bb)
  replace V_b := Lib.hid (Qd.below V_b.out bb)
  replace HB := Lib.hid (nextw HB.out bb)
  clear bb
  obtain ⟨sq, Aq, kq, cq, tq, Cq, lq, dq, rfl⟩ := rq.shape
  have V_q := Lib.hid rq
  clear rq
  go_wp2_with fail
  refine (RSignQ_q (Qc.qd (Qc.below V_q.out (by exact ⟨rfl, rfl, rfl, Nat.le_refl _, fun _ _ => rfl⟩))) (by omega)).mono ?_
  rintro e w2 ⟨rfl, bb⟩
  replace bb := nextw (w0 := w1) (by exact ⟨rfl, rfl, rfl, Nat.le_refl _, fun _ _ => rfl⟩) bb
  replace B_a := Lib.hid (Box4.below B_a.out bb B_a.out.lt)
  replace B_b := Lib.hid (Box4.below B_b.out bb B_b.out.lt)
  replace V_a := Lib.hid (Qd.below V_a.out bb)
  replace V_b := Lib.hid (Qd.below V_b.out bb)
  replace V_q := Lib.hid (Qc.below V_q.out bb)
  replace HB := Lib.hid (nextw HB.out bb)
  clear bb
  have HBo := HB.out
  go_wp2
  go_ret
  exact ⟨ret_int HC.out, nextw HBo (by exact ⟨rfl, rfl, rfl, Nat.le_refl _, fun _ _ => rfl⟩)⟩
end Go.Proofs.YtldfamjlnphokaaGreatDoor
