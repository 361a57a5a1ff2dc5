/- Package rational: quotient, fraction. -/
import Derived.Test.YtccndofafljaaaaGreatDoorQBox
import Derived.Test.YtccndofafljaaaaGreatDoorNegI

set_option linter.unusedVariables false
set_option linter.unusedSimpArgs false

namespace Go.Proofs.YtccndofafljaaaaGreatDoor
open Go Go.RowKit Num

theorem cell_drew1 (w : World) (a : Addr) : w.drew.cell? a = w.cell? a := rfl
theorem cell_set4 {w : World} {x y o : Nat} (hne : x ≠ y) (u0 u1 u2 u3 : Value) : ((((w.setCell ⟨y, 0, none⟩ u0).setCell ⟨y, 1, none⟩ u1).setCell ⟨y, 2, none⟩ u2).setCell ⟨y, 3, none⟩ u3).cell? ⟨x, o, none⟩ = w.cell? ⟨x, o, none⟩ := cell_st4 hne u0 u1 u2 u3
theorem Rd_zero (w : World) (n : Nat) : Rd w (.agg #[.bool false, .slice none 0 0]) 0 n := ⟨false, _, [], rfl, U32.nil none (Nat.zero_le _), rfl, Nat.zero_le _⟩
theorem Rd.to {w : World} {v : Value} {z z' : Int} {n n' : Nat} (h : Rd w v z n) (hz : z = z') (hn : n ≤ n') : Rd w v z' n' := by subst hz; exact h.more hn

set_option maxRecDepth 100000 in
set_option maxHeartbeats 4000000 in
theorem quotient_rd {v1 v2 : Value} {z1 z2 : Int} {n1 n2 : Nat} {w : World} (h1 : Rd w v1 z1 n1) (h2 : Rd w v2 z2 n2) (f1 : n1 ≤ 50000) (f2 : n2 ≤ 50000) (h0 : z2 ≠ 0) :
    Calls Tryz.prog 70 #[v1, v2] w fun e w' => ∃ v, e = .returned v ∧ Rc w' v (z1 / z2) n1 ∧ Below w.heap.size w w' := by
  have H0 := Lib.hid h0
  clear h0
  obtain ⟨sx, Ax, kx, cx, rfl, -⟩ := h1.shape
  obtain ⟨sy, Ay, ky, cy, rfl, -⟩ := h2.shape
  have V_x := Lib.hid h1
  have V_y := Lib.hid h2
  clear h1 h2
  have hb0 : Below w.heap.size w (((w.alloc (.cells #[.bool sx, (.slice Ax kx cx)] 24)).alloc (.cells #[.bool sy, (.slice Ay ky cy)] 24)).alloc (.cells #[.bool false, (.slice none 0 0)] 24)) := (Below.alloc (Below.alloc (Below.alloc (Below.refl w.heap.size w) (by simp <;> omega) _) (by simp <;> omega) _) (by simp <;> omega) _)
  have B_x : Box (((w.alloc (.cells #[.bool sx, (.slice Ax kx cx)] 24)).alloc (.cells #[.bool sy, (.slice Ay ky cy)] 24)).alloc (.cells #[.bool false, (.slice none 0 0)] 24)) (w.heap.size) sx (.slice Ax kx cx) := by have h := Box.alloc (Box.alloc (Box.new w sx (.slice Ax kx cx)) (.cells #[.bool sy, (.slice Ay ky cy)] 24)) (.cells #[.bool false, (.slice none 0 0)] 24); simpa using h
  replace B_x := Lib.hid B_x
  have B_y : Box (((w.alloc (.cells #[.bool sx, (.slice Ax kx cx)] 24)).alloc (.cells #[.bool sy, (.slice Ay ky cy)] 24)).alloc (.cells #[.bool false, (.slice none 0 0)] 24)) (w.heap.size + 1) sy (.slice Ay ky cy) := by have h := Box.alloc (Box.new (w.alloc (.cells #[.bool sx, (.slice Ax kx cx)] 24)) sy (.slice Ay ky cy)) (.cells #[.bool false, (.slice none 0 0)] 24); simpa using h
  replace B_y := Lib.hid B_y
  have B_r : Box (((w.alloc (.cells #[.bool sx, (.slice Ax kx cx)] 24)).alloc (.cells #[.bool sy, (.slice Ay ky cy)] 24)).alloc (.cells #[.bool false, (.slice none 0 0)] 24)) (w.heap.size + 1 + 1) false (.slice none 0 0) := by have h := Box.new ((w.alloc (.cells #[.bool sx, (.slice Ax kx cx)] 24)).alloc (.cells #[.bool sy, (.slice Ay ky cy)] 24)) false (.slice none 0 0); simpa using h
  replace B_r := Lib.hid B_r
  replace V_x := Lib.hid (Rd.below V_x.out hb0)
  replace V_y := Lib.hid (Rd.below V_y.out hb0)
  have HB := Lib.hid hb0
  clear hb0
  have c0x := B_x.out.c0
  have c1x := B_x.out.c1
  have c0y := B_y.out.c0
  have c1y := B_y.out.c1
  have c0r := B_r.out.c0
  have c1r := B_r.out.c1
  go_enter Tryz.func70, Tryz.ntmps70
  go_wp2_with fail
  clear c0x c1x c0y c1y c0r c1r
  generalize ((w.alloc (.cells #[.bool sx, (.slice Ax kx cx)] 24)).alloc (.cells #[.bool sy, (.slice Ay ky cy)] 24)).alloc (.cells #[.bool false, (.slice none 0 0)] 24) = W0 at *
  refine (DivMod_rd (Rd.below V_x.out (by exact ⟨rfl, rfl, rfl, Nat.le_refl _, fun _ _ => rfl⟩)) (Rd.below V_y.out (by exact ⟨rfl, rfl, rfl, Nat.le_refl _, fun _ _ => rfl⟩)) (by omega) (by omega) H0.out).mono ?_
  rintro e w1 ⟨vq, vu, rfl, rq, ru, bb⟩
  replace bb := nextw (w0 := W0) (by exact ⟨rfl, rfl, rfl, Nat.le_refl _, fun _ _ => rfl⟩) bb
  replace B_x := Lib.hid (Box.below B_x.out bb B_x.out.lt)
  replace B_y := Lib.hid (Box.below B_y.out bb B_y.out.lt)
  replace B_r := Lib.hid (Box.below B_r.out bb B_r.out.lt)
  replace V_x := Lib.hid (Rd.below V_x.out bb)
  replace V_y := Lib.hid (Rd.below V_y.out bb)
  replace HB := Lib.hid (nextw HB.out bb)
  clear bb
  obtain ⟨sq, Aq, kq, cq, rfl⟩ := rq.shape
  obtain ⟨su, Au, ku, cu, rfl⟩ := ru.shape
  have V_q := Lib.hid rq
  clear rq ru
  have Z1x := Lib.hid B_x.out.lt
  have Z2y := Lib.hid B_y.out.lt
  have Z3r := Lib.hid B_r.out.lt
  have hb0 : Below w1.heap.size w1 ((w1.alloc (.cells #[.bool sq, (.slice Aq kq cq)] 24)).alloc (.cells #[.bool su, (.slice Au ku cu)] 24)) := (Below.alloc (Below.alloc (Below.refl w1.heap.size w1) (by simp <;> omega) _) (by simp <;> omega) _)
  have B_q : Box ((w1.alloc (.cells #[.bool sq, (.slice Aq kq cq)] 24)).alloc (.cells #[.bool su, (.slice Au ku cu)] 24)) (w1.heap.size) sq (.slice Aq kq cq) := by have h := Box.alloc (Box.new w1 sq (.slice Aq kq cq)) (.cells #[.bool su, (.slice Au ku cu)] 24); simpa using h
  replace B_q := Lib.hid B_q
  have B_u : Box ((w1.alloc (.cells #[.bool sq, (.slice Aq kq cq)] 24)).alloc (.cells #[.bool su, (.slice Au ku cu)] 24)) (w1.heap.size + 1) su (.slice Au ku cu) := by have h := Box.new (w1.alloc (.cells #[.bool sq, (.slice Aq kq cq)] 24)) su (.slice Au ku cu); simpa using h
  replace B_u := Lib.hid B_u
  replace B_x := Lib.hid (Box.below B_x.out hb0 B_x.out.lt)
  replace B_y := Lib.hid (Box.below B_y.out hb0 B_y.out.lt)
  replace B_r := Lib.hid (Box.below B_r.out hb0 B_r.out.lt)
  replace V_x := Lib.hid (Rd.below V_x.out hb0)
  replace V_y := Lib.hid (Rd.below V_y.out hb0)
  replace V_q := Lib.hid (Rc.below V_q.out hb0)
  replace HB := Lib.hid (nextw HB.out hb0)
  clear hb0
  have c0q := B_q.out.c0
  have c1q := B_q.out.c1
  have c0u := B_u.out.c0
  have c1u := B_u.out.c1
  skip
  have K_q := V_q
  replace K_q := Lib.hid (Box.keepsRc B_r.out K_q.out sq (.slice Aq kq cq))
  have HB1 := Lib.hid (Below.store HB.out (x := w.heap.size + 1 + 1) (by omega) (.bool sq) (.slice Aq kq cq))
  have N0r := Lib.hid (Box.store B_r.out sq (.slice Aq kq cq))
  have s0r := N0r.out.c0
  have s1r := N0r.out.c1
  have HBF := HB1
  have c0r := B_r.out.c0
  have c1r := B_r.out.c1
  have f0r := B_r.out.f0
  have f1r := B_r.out.f1
  go_wp2_with fail
  exact bodyPost_ret (v := .agg #[.bool sq, (.slice Aq kq cq)]) (by simp [results, Tryz.results70, go_sem, s0r, s1r]) rfl ⟨_, rfl, (Rc.below K_q.out (by exact ⟨rfl, rfl, rfl, Nat.le_refl _, fun _ _ => rfl⟩)), (nextw HBF.out (by exact ⟨rfl, rfl, rfl, Nat.le_refl _, fun _ _ => rfl⟩))⟩

set_option maxRecDepth 100000 in
set_option maxHeartbeats 4000000 in
theorem fraction_zero {v : Value} {a b : Int} {k : Nat} {w : World} (h : Fd w v a b k) (f : k ≤ 50000) (h0 : b = 0) :
    Calls Tryz.prog 51 #[v] w fun e w' => ∃ n d, e = .returned (.tuple #[n, d]) ∧ Rd w' n (frN a b) (k + 2) ∧ Rd w' d (frD a b) (k + 2) ∧ Below w.heap.size w w' := by
  have H0 := Lib.hid h0
  clear h0
  obtain ⟨sx, Ax, kx, cx, tx, Cx, lx, dx, rfl, hnx, hdx⟩ := h.shape
  have V_xn := Lib.hid hnx
  have V_xd := Lib.hid hdx
  clear h hnx hdx
  have hb0 : Below w.heap.size w (((w.alloc (.cells #[.bool sx, (.slice Ax kx cx), .bool tx, (.slice Cx lx dx)] 35)).alloc (.cells #[.bool false, (.slice none 0 0)] 24)).alloc (.cells #[.bool false, (.slice none 0 0)] 24)) := (Below.alloc (Below.alloc (Below.alloc (Below.refl w.heap.size w) (by simp <;> omega) _) (by simp <;> omega) _) (by simp <;> omega) _)
  have B_x : Box4 (((w.alloc (.cells #[.bool sx, (.slice Ax kx cx), .bool tx, (.slice Cx lx dx)] 35)).alloc (.cells #[.bool false, (.slice none 0 0)] 24)).alloc (.cells #[.bool false, (.slice none 0 0)] 24)) (w.heap.size) sx (.slice Ax kx cx) tx (.slice Cx lx dx) := by have h := Box4.alloc (Box4.alloc (Box4.new w sx (.slice Ax kx cx) tx (.slice Cx lx dx)) (.cells #[.bool false, (.slice none 0 0)] 24)) (.cells #[.bool false, (.slice none 0 0)] 24); simpa using h
  replace B_x := Lib.hid B_x
  have B_n : Box (((w.alloc (.cells #[.bool sx, (.slice Ax kx cx), .bool tx, (.slice Cx lx dx)] 35)).alloc (.cells #[.bool false, (.slice none 0 0)] 24)).alloc (.cells #[.bool false, (.slice none 0 0)] 24)) (w.heap.size + 1) false (.slice none 0 0) := by have h := Box.alloc (Box.new (w.alloc (.cells #[.bool sx, (.slice Ax kx cx), .bool tx, (.slice Cx lx dx)] 35)) false (.slice none 0 0)) (.cells #[.bool false, (.slice none 0 0)] 24); simpa using h
  replace B_n := Lib.hid B_n
  have B_d : Box (((w.alloc (.cells #[.bool sx, (.slice Ax kx cx), .bool tx, (.slice Cx lx dx)] 35)).alloc (.cells #[.bool false, (.slice none 0 0)] 24)).alloc (.cells #[.bool false, (.slice none 0 0)] 24)) (w.heap.size + 1 + 1) false (.slice none 0 0) := by have h := Box.new ((w.alloc (.cells #[.bool sx, (.slice Ax kx cx), .bool tx, (.slice Cx lx dx)] 35)).alloc (.cells #[.bool false, (.slice none 0 0)] 24)) false (.slice none 0 0); simpa using h
  replace B_d := Lib.hid B_d
  replace V_xn := Lib.hid (Rd.below V_xn.out hb0)
  replace V_xd := Lib.hid (Rd.below V_xd.out hb0)
  have HB := Lib.hid hb0
  clear hb0
  have c0x := B_x.out.c0
  have c1x := B_x.out.c1
  have c2x := B_x.out.c2
  have c3x := B_x.out.c3
  have c0n := B_n.out.c0
  have c1n := B_n.out.c1
  have c0d := B_d.out.c0
  have c1d := B_d.out.c1
  go_enter Tryz.func51, Tryz.ntmps51
  go_wp2_with fail
  clear c0x c1x c2x c3x c0n c1n c0d c1d
  generalize ((w.alloc (.cells #[.bool sx, (.slice Ax kx cx), .bool tx, (.slice Cx lx dx)] 35)).alloc (.cells #[.bool false, (.slice none 0 0)] 24)).alloc (.cells #[.bool false, (.slice none 0 0)] 24) = W0 at *
  refine (Sign_rd_eq (Rd.below V_xd.out (by exact ⟨rfl, rfl, rfl, Nat.le_refl _, fun _ _ => rfl⟩)) H0.out).mono ?_
  rintro e w1 ⟨rfl, bb⟩
  replace bb := nextw (w0 := W0) (by exact ⟨rfl, rfl, rfl, Nat.le_refl _, fun _ _ => rfl⟩) bb
  replace B_x := Lib.hid (Box4.below B_x.out bb B_x.out.lt)
  replace B_n := Lib.hid (Box.below B_n.out bb B_n.out.lt)
  replace B_d := Lib.hid (Box.below B_d.out bb B_d.out.lt)
  replace V_xn := Lib.hid (Rd.below V_xn.out bb)
  replace V_xd := Lib.hid (Rd.below V_xd.out bb)
  replace HB := Lib.hid (nextw HB.out bb)
  clear bb
  have c0n := B_n.out.c0
  have c1n := B_n.out.c1
  have f0n := B_n.out.f0
  have f1n := B_n.out.f1
  have c0d := B_d.out.c0
  have c1d := B_d.out.c1
  have f0d := B_d.out.f0
  have f1d := B_d.out.f1
  go_wp2_with fail
  refine (Of_rc 1 (by omega) (by omega)).mono ?_
  rintro e w2 ⟨vo, rfl, ro, bb⟩
  replace bb := nextw (w0 := w1) (by exact ⟨rfl, rfl, rfl, Nat.le_refl _, fun _ _ => rfl⟩) bb
  clear c0n c1n f0n f1n c0d c1d f0d f1d
  replace B_x := Lib.hid (Box4.below B_x.out bb B_x.out.lt)
  replace B_n := Lib.hid (Box.below B_n.out bb B_n.out.lt)
  replace B_d := Lib.hid (Box.below B_d.out bb B_d.out.lt)
  replace V_xn := Lib.hid (Rd.below V_xn.out bb)
  replace V_xd := Lib.hid (Rd.below V_xd.out bb)
  replace HB := Lib.hid (nextw HB.out bb)
  clear bb
  obtain ⟨so, Ao, ko, co, rfl⟩ := ro.shape
  have V_o := Lib.hid ro
  clear ro
  have en : frN a b = 0 := by unfold frN; rw [if_pos H0.out]
  have ed : frD a b = 1 := by unfold frD; rw [if_pos H0.out]
  have HN := Lib.hid en
  have HD := Lib.hid ed
  clear en ed
  skip
  have K_o := V_o
  replace K_o := Lib.hid (Box.keepsRc B_n.out K_o.out false (.slice none 0 0))
  have HB1 := Lib.hid (Below.store HB.out (x := w.heap.size + 1) (by omega) (.bool false) (.slice none 0 0))
  have N0d := Lib.hid (Box.far (y := w.heap.size + 1) B_d.out (by omega) (.bool false) (.slice none 0 0))
  have N0n := Lib.hid (Box.store B_n.out false (.slice none 0 0))
  replace K_o := Lib.hid (Box.keepsRc N0d.out K_o.out so (.slice Ao ko co))
  have HB2 := Lib.hid (Below.store HB1.out (x := w.heap.size + 1 + 1) (by omega) (.bool so) (.slice Ao ko co))
  have N1n := Lib.hid (Box.far (y := w.heap.size + 1 + 1) N0n.out (by omega) (.bool so) (.slice Ao ko co))
  have N1d := Lib.hid (Box.store N0d.out so (.slice Ao ko co))
  have s0n := N1n.out.c0
  have s1n := N1n.out.c1
  have s0d := N1d.out.c0
  have s1d := N1d.out.c1
  have HBF := HB2
  have c0n := B_n.out.c0
  have c1n := B_n.out.c1
  have f0n := B_n.out.f0
  have f1n := B_n.out.f1
  have c0d := B_d.out.c0
  have c1d := B_d.out.c1
  have f0d := B_d.out.f0
  have f1d := B_d.out.f1
  have p00d := N0d.out.c0
  have r00d := N0d.out.f0
  have p01d := N0d.out.c1
  have r01d := N0d.out.f1
  go_wp2_with fail
  exact bodyPost_ret (v := .tuple #[.agg #[.bool false, (.slice none 0 0)], .agg #[.bool so, (.slice Ao ko co)]]) (by simp [results, Tryz.results51, go_sem, s0n, s1n, s0d, s1d]) rfl ⟨_, _, rfl, (Rd_zero _ 0).to HN.out.symm (by omega), (Rc.below K_o.out (by exact ⟨rfl, rfl, rfl, Nat.le_refl _, fun _ _ => rfl⟩)).rd.to HD.out.symm (by omega), (nextw HBF.out (by exact ⟨rfl, rfl, rfl, Nat.le_refl _, fun _ _ => rfl⟩))⟩

set_option maxRecDepth 100000 in
set_option maxHeartbeats 4000000 in
theorem fraction_neg {v : Value} {a b : Int} {k : Nat} {w : World} (h : Fd w v a b k) (f : k ≤ 50000) (h0 : b < 0) :
    Calls Tryz.prog 51 #[v] w fun e w' => ∃ n d, e = .returned (.tuple #[n, d]) ∧ Rd w' n (frN a b) (k + 2) ∧ Rd w' d (frD a b) (k + 2) ∧ Below w.heap.size w w' := by
  have H0 := Lib.hid h0
  clear h0
  obtain ⟨sx, Ax, kx, cx, tx, Cx, lx, dx, rfl, hnx, hdx⟩ := h.shape
  have V_xn := Lib.hid hnx
  have V_xd := Lib.hid hdx
  clear h hnx hdx
  have hb0 : Below w.heap.size w (((w.alloc (.cells #[.bool sx, (.slice Ax kx cx), .bool tx, (.slice Cx lx dx)] 35)).alloc (.cells #[.bool false, (.slice none 0 0)] 24)).alloc (.cells #[.bool false, (.slice none 0 0)] 24)) := (Below.alloc (Below.alloc (Below.alloc (Below.refl w.heap.size w) (by simp <;> omega) _) (by simp <;> omega) _) (by simp <;> omega) _)
  have B_x : Box4 (((w.alloc (.cells #[.bool sx, (.slice Ax kx cx), .bool tx, (.slice Cx lx dx)] 35)).alloc (.cells #[.bool false, (.slice none 0 0)] 24)).alloc (.cells #[.bool false, (.slice none 0 0)] 24)) (w.heap.size) sx (.slice Ax kx cx) tx (.slice Cx lx dx) := by have h := Box4.alloc (Box4.alloc (Box4.new w sx (.slice Ax kx cx) tx (.slice Cx lx dx)) (.cells #[.bool false, (.slice none 0 0)] 24)) (.cells #[.bool false, (.slice none 0 0)] 24); simpa using h
  replace B_x := Lib.hid B_x
  have B_n : Box (((w.alloc (.cells #[.bool sx, (.slice Ax kx cx), .bool tx, (.slice Cx lx dx)] 35)).alloc (.cells #[.bool false, (.slice none 0 0)] 24)).alloc (.cells #[.bool false, (.slice none 0 0)] 24)) (w.heap.size + 1) false (.slice none 0 0) := by have h := Box.alloc (Box.new (w.alloc (.cells #[.bool sx, (.slice Ax kx cx), .bool tx, (.slice Cx lx dx)] 35)) false (.slice none 0 0)) (.cells #[.bool false, (.slice none 0 0)] 24); simpa using h
  replace B_n := Lib.hid B_n
  have B_d : Box (((w.alloc (.cells #[.bool sx, (.slice Ax kx cx), .bool tx, (.slice Cx lx dx)] 35)).alloc (.cells #[.bool false, (.slice none 0 0)] 24)).alloc (.cells #[.bool false, (.slice none 0 0)] 24)) (w.heap.size + 1 + 1) false (.slice none 0 0) := by have h := Box.new ((w.alloc (.cells #[.bool sx, (.slice Ax kx cx), .bool tx, (.slice Cx lx dx)] 35)).alloc (.cells #[.bool false, (.slice none 0 0)] 24)) false (.slice none 0 0); simpa using h
  replace B_d := Lib.hid B_d
  replace V_xn := Lib.hid (Rd.below V_xn.out hb0)
  replace V_xd := Lib.hid (Rd.below V_xd.out hb0)
  have HB := Lib.hid hb0
  clear hb0
  have c0x := B_x.out.c0
  have c1x := B_x.out.c1
  have c2x := B_x.out.c2
  have c3x := B_x.out.c3
  have c0n := B_n.out.c0
  have c1n := B_n.out.c1
  have c0d := B_d.out.c0
  have c1d := B_d.out.c1
  go_enter Tryz.func51, Tryz.ntmps51
  go_wp2_with fail
  clear c0x c1x c2x c3x c0n c1n c0d c1d
  generalize ((w.alloc (.cells #[.bool sx, (.slice Ax kx cx), .bool tx, (.slice Cx lx dx)] 35)).alloc (.cells #[.bool false, (.slice none 0 0)] 24)).alloc (.cells #[.bool false, (.slice none 0 0)] 24) = W0 at *
  refine (Sign_rd_lt (Rd.below V_xd.out (by exact ⟨rfl, rfl, rfl, Nat.le_refl _, fun _ _ => rfl⟩)) H0.out).mono ?_
  rintro e w1 ⟨rfl, bb⟩
  replace bb := nextw (w0 := W0) (by exact ⟨rfl, rfl, rfl, Nat.le_refl _, fun _ _ => rfl⟩) bb
  replace B_x := Lib.hid (Box4.below B_x.out bb B_x.out.lt)
  replace B_n := Lib.hid (Box.below B_n.out bb B_n.out.lt)
  replace B_d := Lib.hid (Box.below B_d.out bb B_d.out.lt)
  replace V_xn := Lib.hid (Rd.below V_xn.out bb)
  replace V_xd := Lib.hid (Rd.below V_xd.out bb)
  replace HB := Lib.hid (nextw HB.out bb)
  clear bb
  have c0x := B_x.out.c0
  have c1x := B_x.out.c1
  have c2x := B_x.out.c2
  have c3x := B_x.out.c3
  have f0x := B_x.out.f0
  have f1x := B_x.out.f1
  have f2x := B_x.out.f2
  have f3x := B_x.out.f3
  have c0n := B_n.out.c0
  have c1n := B_n.out.c1
  have f0n := B_n.out.f0
  have f1n := B_n.out.f1
  have c0d := B_d.out.c0
  have c1d := B_d.out.c1
  have f0d := B_d.out.f0
  have f1d := B_d.out.f1
  go_wp2
  have c0x := B_x.out.c0
  have c1x := B_x.out.c1
  have c2x := B_x.out.c2
  have c3x := B_x.out.c3
  have tk0 : True := trivial
  first | (go_region_held3 (fun w' => w'.cell? ⟨w.heap.size, 0, none⟩ = some (.bool sx) ∧ w'.cell? ⟨w.heap.size, 1, none⟩ = some (.slice Ax kx cx) ∧ w'.cell? ⟨w.heap.size, 2, none⟩ = some (.bool tx) ∧ w'.cell? ⟨w.heap.size, 3, none⟩ = some (.slice Cx lx dx)) (((try dsimp only); (repeat' apply And.intro) <;> (first | (with_reducible assumption) | ((repeat (first | (with_reducible refine Eq.trans (cell_drew1 _ _) ?_) | (with_reducible refine Eq.trans (far2 (by omega) _ _) ?_))); with_reducible assumption) | assumption | go_keep)))
    (first
      | (have _t := tk0; clear _t tk0; go_at_call 47; refine (Neg_rd (Rd.below V_xn.out (by exact ⟨rfl, rfl, rfl, Nat.le_refl _, fun _ _ => rfl⟩)) (by omega)).mono ?_; rintro e w2 ⟨vp, rfl, rp, bb⟩; replace bb := nextw (w0 := w1) (by exact ⟨rfl, rfl, rfl, Nat.le_refl _, fun _ _ => rfl⟩) bb; replace B_x := Lib.hid (Box4.below B_x.out bb B_x.out.lt); replace B_n := Lib.hid (Box.below B_n.out bb B_n.out.lt); replace B_d := Lib.hid (Box.below B_d.out bb B_d.out.lt); replace V_xn := Lib.hid (Rd.below V_xn.out bb); replace V_xd := Lib.hid (Rd.below V_xd.out bb); replace HB := Lib.hid (nextw HB.out bb); clear bb; replace rp := Lib.hid rp; have V_p := rp; clear rp; obtain ⟨sp, Ap, kp, cp, rfl⟩ := V_p.out.shape; have c0n := B_n.out.c0; have c1n := B_n.out.c1; have c0d := B_d.out.c0; have c1d := B_d.out.c1; have f0n := B_n.out.f0; have f1n := B_n.out.f1; have f0d := B_d.out.f0; have f1d := B_d.out.f1; have c0x := B_x.out.c0; have c1x := B_x.out.c1; have c2x := B_x.out.c2; have c3x := B_x.out.c3; have tk1 : True := trivial)
      | (have _t := tk1; clear _t tk1; go_at_call 47; refine (Neg_rd (Rd.below V_xd.out (by exact ⟨rfl, rfl, rfl, Nat.le_refl _, fun _ _ => rfl⟩)) (by omega)).mono ?_; rintro e w3 ⟨vq, rfl, rq, bb⟩; replace bb := nextw (w0 := w2) (by exact ⟨rfl, rfl, rfl, Nat.le_refl _, fun _ _ => rfl⟩) bb; replace B_x := Lib.hid (Box4.below B_x.out bb B_x.out.lt); replace B_n := Lib.hid (Box.below B_n.out bb B_n.out.lt); replace B_d := Lib.hid (Box.below B_d.out bb B_d.out.lt); replace V_xn := Lib.hid (Rd.below V_xn.out bb); replace V_xd := Lib.hid (Rd.below V_xd.out bb); replace V_p := Lib.hid (Rc.below V_p.out bb); replace HB := Lib.hid (nextw HB.out bb); clear bb; replace rq := Lib.hid rq; have V_q := rq; clear rq; obtain ⟨sq, Aq, kq, cq, rfl⟩ := V_q.out.shape; have c0n := B_n.out.c0; have c1n := B_n.out.c1; have c0d := B_d.out.c0; have c1d := B_d.out.c1; have f0n := B_n.out.f0; have f1n := B_n.out.f1; have f0d := B_d.out.f0; have f1d := B_d.out.f1; have c0x := B_x.out.c0; have c1x := B_x.out.c1; have c2x := B_x.out.c2; have c3x := B_x.out.c3; have tk2 : True := trivial))) | fail
  all_goals
    have en : frN a b = -a := by have := H0.out; unfold frN; rw [if_neg (by omega), if_pos H0.out]
    have ed : frD a b = -b := by have := H0.out; unfold frD; rw [if_neg (by omega), if_pos H0.out]
    have HN := Lib.hid en
    have HD := Lib.hid ed
    clear en ed
    skip
    have K_p := V_p
    have K_q := V_q
    replace K_p := Lib.hid (Box.keepsRc B_n.out K_p.out sp (.slice Ap kp cp))
    replace K_q := Lib.hid (Box.keepsRc B_n.out K_q.out sp (.slice Ap kp cp))
    have HB1 := Lib.hid (Below.store HB.out (x := w.heap.size + 1) (by omega) (.bool sp) (.slice Ap kp cp))
    have N0d := Lib.hid (Box.far (y := w.heap.size + 1) B_d.out (by omega) (.bool sp) (.slice Ap kp cp))
    have N0n := Lib.hid (Box.store B_n.out sp (.slice Ap kp cp))
    replace K_p := Lib.hid (Box.keepsRc N0d.out K_p.out sq (.slice Aq kq cq))
    replace K_q := Lib.hid (Box.keepsRc N0d.out K_q.out sq (.slice Aq kq cq))
    have HB2 := Lib.hid (Below.store HB1.out (x := w.heap.size + 1 + 1) (by omega) (.bool sq) (.slice Aq kq cq))
    have N1n := Lib.hid (Box.far (y := w.heap.size + 1 + 1) N0n.out (by omega) (.bool sq) (.slice Aq kq cq))
    have N1d := Lib.hid (Box.store N0d.out sq (.slice Aq kq cq))
    have s0n := N1n.out.c0
    have s1n := N1n.out.c1
    have s0d := N1d.out.c0
    have s1d := N1d.out.c1
    have HBF := HB2
    have c0n := B_n.out.c0
    have c1n := B_n.out.c1
    have f0n := B_n.out.f0
    have f1n := B_n.out.f1
    have c0d := B_d.out.c0
    have c1d := B_d.out.c1
    have f0d := B_d.out.f0
    have f1d := B_d.out.f1
    have p00d := N0d.out.c0
    have r00d := N0d.out.f0
    have p01d := N0d.out.c1
    have r01d := N0d.out.f1
    go_wp2_with fail
    exact bodyPost_ret (v := .tuple #[.agg #[.bool sp, (.slice Ap kp cp)], .agg #[.bool sq, (.slice Aq kq cq)]]) (by simp [results, Tryz.results51, go_sem, s0n, s1n, s0d, s1d]) rfl ⟨_, _, rfl, (Rc.below K_p.out (by exact ⟨rfl, rfl, rfl, Nat.le_refl _, fun _ _ => rfl⟩)).rd.to HN.out.symm (by omega), (Rc.below K_q.out (by exact ⟨rfl, rfl, rfl, Nat.le_refl _, fun _ _ => rfl⟩)).rd.to HD.out.symm (by omega), (nextw HBF.out (by exact ⟨rfl, rfl, rfl, Nat.le_refl _, fun _ _ => rfl⟩))⟩

set_option maxRecDepth 100000 in
set_option maxHeartbeats 4000000 in
theorem fraction_pos {v : Value} {a b : Int} {k : Nat} {w : World} (h : Fd w v a b k) (f : k ≤ 50000) (h0 : 0 < b) :
    Calls Tryz.prog 51 #[v] w fun e w' => ∃ n d, e = .returned (.tuple #[n, d]) ∧ Rd w' n (frN a b) (k + 2) ∧ Rd w' d (frD a b) (k + 2) ∧ Below w.heap.size w w' := by
  have H0 := Lib.hid h0
  clear h0
  obtain ⟨sx, Ax, kx, cx, tx, Cx, lx, dx, rfl, hnx, hdx⟩ := h.shape
  have V_xn := Lib.hid hnx
  have V_xd := Lib.hid hdx
  clear h hnx hdx
  have hb0 : Below w.heap.size w (((w.alloc (.cells #[.bool sx, (.slice Ax kx cx), .bool tx, (.slice Cx lx dx)] 35)).alloc (.cells #[.bool false, (.slice none 0 0)] 24)).alloc (.cells #[.bool false, (.slice none 0 0)] 24)) := (Below.alloc (Below.alloc (Below.alloc (Below.refl w.heap.size w) (by simp <;> omega) _) (by simp <;> omega) _) (by simp <;> omega) _)
  have B_x : Box4 (((w.alloc (.cells #[.bool sx, (.slice Ax kx cx), .bool tx, (.slice Cx lx dx)] 35)).alloc (.cells #[.bool false, (.slice none 0 0)] 24)).alloc (.cells #[.bool false, (.slice none 0 0)] 24)) (w.heap.size) sx (.slice Ax kx cx) tx (.slice Cx lx dx) := by have h := Box4.alloc (Box4.alloc (Box4.new w sx (.slice Ax kx cx) tx (.slice Cx lx dx)) (.cells #[.bool false, (.slice none 0 0)] 24)) (.cells #[.bool false, (.slice none 0 0)] 24); simpa using h
  replace B_x := Lib.hid B_x
  have B_n : Box (((w.alloc (.cells #[.bool sx, (.slice Ax kx cx), .bool tx, (.slice Cx lx dx)] 35)).alloc (.cells #[.bool false, (.slice none 0 0)] 24)).alloc (.cells #[.bool false, (.slice none 0 0)] 24)) (w.heap.size + 1) false (.slice none 0 0) := by have h := Box.alloc (Box.new (w.alloc (.cells #[.bool sx, (.slice Ax kx cx), .bool tx, (.slice Cx lx dx)] 35)) false (.slice none 0 0)) (.cells #[.bool false, (.slice none 0 0)] 24); simpa using h
  replace B_n := Lib.hid B_n
  have B_d : Box (((w.alloc (.cells #[.bool sx, (.slice Ax kx cx), .bool tx, (.slice Cx lx dx)] 35)).alloc (.cells #[.bool false, (.slice none 0 0)] 24)).alloc (.cells #[.bool false, (.slice none 0 0)] 24)) (w.heap.size + 1 + 1) false (.slice none 0 0) := by have h := Box.new ((w.alloc (.cells #[.bool sx, (.slice Ax kx cx), .bool tx, (.slice Cx lx dx)] 35)).alloc (.cells #[.bool false, (.slice none 0 0)] 24)) false (.slice none 0 0); simpa using h
  replace B_d := Lib.hid B_d
  replace V_xn := Lib.hid (Rd.below V_xn.out hb0)
  replace V_xd := Lib.hid (Rd.below V_xd.out hb0)
  have HB := Lib.hid hb0
  clear hb0
  have c0x := B_x.out.c0
  have c1x := B_x.out.c1
  have c2x := B_x.out.c2
  have c3x := B_x.out.c3
  have c0n := B_n.out.c0
  have c1n := B_n.out.c1
  have c0d := B_d.out.c0
  have c1d := B_d.out.c1
  go_enter Tryz.func51, Tryz.ntmps51
  go_wp2_with fail
  clear c0x c1x c2x c3x c0n c1n c0d c1d
  generalize ((w.alloc (.cells #[.bool sx, (.slice Ax kx cx), .bool tx, (.slice Cx lx dx)] 35)).alloc (.cells #[.bool false, (.slice none 0 0)] 24)).alloc (.cells #[.bool false, (.slice none 0 0)] 24) = W0 at *
  refine (Sign_rd_gt (Rd.below V_xd.out (by exact ⟨rfl, rfl, rfl, Nat.le_refl _, fun _ _ => rfl⟩)) H0.out).mono ?_
  rintro e w1 ⟨rfl, bb⟩
  replace bb := nextw (w0 := W0) (by exact ⟨rfl, rfl, rfl, Nat.le_refl _, fun _ _ => rfl⟩) bb
  replace B_x := Lib.hid (Box4.below B_x.out bb B_x.out.lt)
  replace B_n := Lib.hid (Box.below B_n.out bb B_n.out.lt)
  replace B_d := Lib.hid (Box.below B_d.out bb B_d.out.lt)
  replace V_xn := Lib.hid (Rd.below V_xn.out bb)
  replace V_xd := Lib.hid (Rd.below V_xd.out bb)
  replace HB := Lib.hid (nextw HB.out bb)
  clear bb
  have c0x := B_x.out.c0
  have c1x := B_x.out.c1
  have c2x := B_x.out.c2
  have c3x := B_x.out.c3
  have f0x := B_x.out.f0
  have f1x := B_x.out.f1
  have f2x := B_x.out.f2
  have f3x := B_x.out.f3
  have c0n := B_n.out.c0
  have c1n := B_n.out.c1
  have f0n := B_n.out.f0
  have f1n := B_n.out.f1
  have c0d := B_d.out.c0
  have c1d := B_d.out.c1
  have f0d := B_d.out.f0
  have f1d := B_d.out.f1
  go_wp2
  go_region
  clear c0x c1x c2x c3x f0x f1x f2x f3x c0n c1n f0n f1n c0d c1d f0d f1d
  have en : frN a b = a := by have := H0.out; unfold frN; rw [if_neg (by omega), if_neg (by omega)]
  have ed : frD a b = b := by have := H0.out; unfold frD; rw [if_neg (by omega), if_neg (by omega)]
  have HN := Lib.hid en
  have HD := Lib.hid ed
  clear en ed
  skip
  have K_xn := V_xn
  have K_xd := V_xd
  replace K_xn := Lib.hid (Box.keepsRd B_n.out K_xn.out sx (.slice Ax kx cx))
  replace K_xd := Lib.hid (Box.keepsRd B_n.out K_xd.out sx (.slice Ax kx cx))
  have HB1 := Lib.hid (Below.store HB.out (x := w.heap.size + 1) (by omega) (.bool sx) (.slice Ax kx cx))
  have N0d := Lib.hid (Box.far (y := w.heap.size + 1) B_d.out (by omega) (.bool sx) (.slice Ax kx cx))
  have N0n := Lib.hid (Box.store B_n.out sx (.slice Ax kx cx))
  replace K_xn := Lib.hid (Box.keepsRd N0d.out K_xn.out tx (.slice Cx lx dx))
  replace K_xd := Lib.hid (Box.keepsRd N0d.out K_xd.out tx (.slice Cx lx dx))
  have HB2 := Lib.hid (Below.store HB1.out (x := w.heap.size + 1 + 1) (by omega) (.bool tx) (.slice Cx lx dx))
  have N1n := Lib.hid (Box.far (y := w.heap.size + 1 + 1) N0n.out (by omega) (.bool tx) (.slice Cx lx dx))
  have N1d := Lib.hid (Box.store N0d.out tx (.slice Cx lx dx))
  have s0n := N1n.out.c0
  have s1n := N1n.out.c1
  have s0d := N1d.out.c0
  have s1d := N1d.out.c1
  have HBF := HB2
  have c0n := B_n.out.c0
  have c1n := B_n.out.c1
  have f0n := B_n.out.f0
  have f1n := B_n.out.f1
  have c0d := B_d.out.c0
  have c1d := B_d.out.c1
  have f0d := B_d.out.f0
  have f1d := B_d.out.f1
  have p00d := N0d.out.c0
  have r00d := N0d.out.f0
  have p01d := N0d.out.c1
  have r01d := N0d.out.f1
  go_wp2_with fail
  exact bodyPost_ret (v := .tuple #[.agg #[.bool sx, (.slice Ax kx cx)], .agg #[.bool tx, (.slice Cx lx dx)]]) (by simp [results, Tryz.results51, go_sem, s0n, s1n, s0d, s1d]) rfl ⟨_, _, rfl, (Rd.below K_xn.out (by exact ⟨rfl, rfl, rfl, Nat.le_refl _, fun _ _ => rfl⟩)).to HN.out.symm (by omega), (Rd.below K_xd.out (by exact ⟨rfl, rfl, rfl, Nat.le_refl _, fun _ _ => rfl⟩)).to HD.out.symm (by omega), (nextw HBF.out (by exact ⟨rfl, rfl, rfl, Nat.le_refl _, fun _ _ => rfl⟩))⟩

theorem fraction_fd {v : Value} {a b : Int} {k : Nat} {w : World} (h : Fd w v a b k) (f : k ≤ 50000) : Calls Tryz.prog 51 #[v] w fun e w' => ∃ n d, e = .returned (.tuple #[n, d]) ∧ Rd w' n (frN a b) (k + 2) ∧ Rd w' d (frD a b) (k + 2) ∧ Below w.heap.size w w' := by
  rcases Int.lt_trichotomy b 0 with h0 | h0 | h0
  · exact fraction_neg h f h0
  · exact fraction_zero h f h0
  · exact fraction_pos h f h0
end Go.Proofs.YtccndofafljaaaaGreatDoor
