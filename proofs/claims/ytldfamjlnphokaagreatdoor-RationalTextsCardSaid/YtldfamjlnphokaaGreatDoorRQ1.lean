/- The reference of layer 2: One, part, New. -/
import Derived.Test.YtldfamjlnphokaaGreatDoorRDm
import Derived.Test.YtldfamjlnphokaaGreatDoorRGcd
import Derived.Test.YtldfamjlnphokaaGreatDoorQ2

set_option linter.unusedVariables false
set_option linter.unusedSimpArgs false

namespace Go.Proofs.YtldfamjlnphokaaGreatDoor
open Go Go.RowKit Num

set_option maxRecDepth 100000 in
set_option maxHeartbeats 4000000 in
theorem ROne_rc {w : World} :
    Calls Tryz.prog 67 #[] w fun e w' => ∃ v, e = .returned v ∧ Rc w' v 1 2 ∧ Below w.heap.size w w' := by
  have hb0 : Below w.heap.size w (w.alloc (.cells #[.bool false, (.slice none 0 0)] 24)) := (Below.alloc (Below.refl w.heap.size w) (by simp <;> omega) _)
  have B_r : Box (w.alloc (.cells #[.bool false, (.slice none 0 0)] 24)) (w.heap.size) false (.slice none 0 0) := by have h := Box.new w false (.slice none 0 0); simpa using h
  replace B_r := Lib.hid B_r
  have HB := Lib.hid hb0
  clear hb0
  have c0r := B_r.out.c0
  have c1r := B_r.out.c1
  have f0r := B_r.out.f0
  have f1r := B_r.out.f1
  go_enter Tryz.func67, Tryz.ntmps67
  go_wp2_with fail
  clear c0r c1r f0r f1r
  generalize w.alloc (.cells #[.bool false, (.slice none 0 0)] 24) = W0 at *
  refine (ROf_rc 1 (by omega) (by omega)).mono ?_
  rintro e w1 ⟨vo, rfl, ro, bb⟩
  replace bb := nextw (w0 := W0) (by exact ⟨rfl, rfl, rfl, Nat.le_refl _, fun _ _ => rfl⟩) bb
  replace B_r := Lib.hid (Box.below B_r.out bb B_r.out.lt)
  replace HB := Lib.hid (nextw HB.out bb)
  clear bb
  obtain ⟨so, Ao, ko, co, rfl⟩ := ro.shape
  have V_o := Lib.hid ro
  clear ro
  skip
  have K_o := V_o
  replace K_o := Lib.hid (Box.keepsRc B_r.out K_o.out so (.slice Ao ko co))
  have HB1 := Lib.hid (Below.store HB.out (x := w.heap.size) (by omega) (.bool so) (.slice Ao ko co))
  have N0r := Lib.hid (Box.store B_r.out so (.slice Ao ko co))
  have s0r := N0r.out.c0
  have s1r := N0r.out.c1
  have HBF := HB1
  have c0r := B_r.out.c0
  have c1r := B_r.out.c1
  have f0r := B_r.out.f0
  have f1r := B_r.out.f1
  go_wp2_with fail
  exact bodyPost_ret (v := .agg #[.bool so, (.slice Ao ko co)]) (by simp [results, Tryz.results67, go_sem, s0r, s1r]) rfl ⟨_, rfl, (Rc.below K_o.out (by exact ⟨rfl, rfl, rfl, Nat.le_refl _, fun _ _ => rfl⟩)), (nextw HBF.out (by exact ⟨rfl, rfl, rfl, Nat.le_refl _, fun _ _ => rfl⟩))⟩

set_option maxRecDepth 100000 in
set_option maxHeartbeats 4000000 in
theorem part_rd {v1 v2 : Value} {z1 z2 : Int} {n1 n2 : Nat} {w : World} (h1 : Rd w v1 z1 n1) (h2 : Rd w v2 z2 n2) (f1 : n1 ≤ 10000) (f2 : n2 ≤ 10000) (h0 : 0 < z2) (hm : z1 % z2 = 0) :
    Calls Tryz.prog 69 #[v1, v2] w fun e w' => ∃ v, e = .returned v ∧ Rc w' v (z1 / z2) n1 ∧ Below w.heap.size w w' := by
  have H0 := Lib.hid h0
  have HM := Lib.hid hm
  clear h0 hm
  obtain ⟨sx, Ax, kx, cx, rfl, -⟩ := h1.shape
  obtain ⟨sy, Ay, ky, cy, rfl, -⟩ := h2.shape
  have V_x := Lib.hid h1
  have V_y := Lib.hid h2
  clear h1 h2
  have hb0 : Below w.heap.size w (((w.alloc (.cells #[.bool sx, (.slice Ax kx cx)] 24)).alloc (.cells #[.bool sy, (.slice Ay ky cy)] 24)).alloc (.cells #[.bool false, (.slice none 0 0)] 24)) := (Below.alloc (Below.alloc (Below.alloc (Below.refl w.heap.size w) (by simp <;> omega) _) (by simp <;> omega) _) (by simp <;> omega) _)
  have B_x : Box (((w.alloc (.cells #[.bool sx, (.slice Ax kx cx)] 24)).alloc (.cells #[.bool sy, (.slice Ay ky cy)] 24)).alloc (.cells #[.bool false, (.slice none 0 0)] 24)) (w.heap.size) sx (.slice Ax kx cx) := by have h := Box.alloc (Box.alloc (Box.new w sx (.slice Ax kx cx)) (.cells #[.bool sy, (.slice Ay ky cy)] 24)) (.cells #[.bool false, (.slice none 0 0)] 24); simpa using h
  replace B_x := Lib.hid B_x
  have B_y : Box (((w.alloc (.cells #[.bool sx, (.slice Ax kx cx)] 24)).alloc (.cells #[.bool sy, (.slice Ay ky cy)] 24)).alloc (.cells #[.bool false, (.slice none 0 0)] 24)) (w.heap.size + 1) sy (.slice Ay ky cy) := by have h := Box.alloc (Box.new (w.alloc (.cells #[.bool sx, (.slice Ax kx cx)] 24)) sy (.slice Ay ky cy)) (.cells #[.bool false, (.slice none 0 0)] 24); simpa using h
  replace B_y := Lib.hid B_y
  have B_r : Box (((w.alloc (.cells #[.bool sx, (.slice Ax kx cx)] 24)).alloc (.cells #[.bool sy, (.slice Ay ky cy)] 24)).alloc (.cells #[.bool false, (.slice none 0 0)] 24)) (w.heap.size + 1 + 1) false (.slice none 0 0) := by have h := Box.new ((w.alloc (.cells #[.bool sx, (.slice Ax kx cx)] 24)).alloc (.cells #[.bool sy, (.slice Ay ky cy)] 24)) false (.slice none 0 0); simpa using h
  replace B_r := Lib.hid B_r
  replace V_x := Lib.hid (Rd.below V_x.out hb0)
  replace V_y := Lib.hid (Rd.below V_y.out hb0)
  have HB := Lib.hid hb0
  clear hb0
  have c0x := B_x.out.c0
  have c1x := B_x.out.c1
  have c0y := B_y.out.c0
  have c1y := B_y.out.c1
  have c0r := B_r.out.c0
  have c1r := B_r.out.c1
  go_enter Tryz.func69, Tryz.ntmps69
  go_wp2_with fail
  clear c0x c1x c0y c1y c0r c1r
  generalize ((w.alloc (.cells #[.bool sx, (.slice Ax kx cx)] 24)).alloc (.cells #[.bool sy, (.slice Ay ky cy)] 24)).alloc (.cells #[.bool false, (.slice none 0 0)] 24) = W0 at *
  refine (RDivMod0_rd (Rd.below V_x.out (by exact ⟨rfl, rfl, rfl, Nat.le_refl _, fun _ _ => rfl⟩)) (Rd.below V_y.out (by exact ⟨rfl, rfl, rfl, Nat.le_refl _, fun _ _ => rfl⟩)) f1 f2 H0.out HM.out).mono ?_
  rintro e w1 ⟨vq, su, Au, ku, cu, rfl, rq, bb⟩
  replace bb := nextw (w0 := W0) (by exact ⟨rfl, rfl, rfl, Nat.le_refl _, fun _ _ => rfl⟩) bb
  replace B_x := Lib.hid (Box.below B_x.out bb B_x.out.lt)
  replace B_y := Lib.hid (Box.below B_y.out bb B_y.out.lt)
  replace B_r := Lib.hid (Box.below B_r.out bb B_r.out.lt)
  replace V_x := Lib.hid (Rd.below V_x.out bb)
  replace V_y := Lib.hid (Rd.below V_y.out bb)
  replace HB := Lib.hid (nextw HB.out bb)
  clear bb
  obtain ⟨sq, Aq, kq, cq, rfl⟩ := rq.shape
  have V_q := Lib.hid rq
  clear rq
  have Z1x := Lib.hid B_x.out.lt
  have Z2y := Lib.hid B_y.out.lt
  have Z3r := Lib.hid B_r.out.lt
  have hb0 : Below w1.heap.size w1 ((w1.alloc (.cells #[.bool sq, (.slice Aq kq cq)] 24)).alloc (.cells #[.bool su, (.slice Au ku cu)] 24)) := (Below.alloc (Below.alloc (Below.refl w1.heap.size w1) (by simp <;> omega) _) (by simp <;> omega) _)
  have B_q : Box ((w1.alloc (.cells #[.bool sq, (.slice Aq kq cq)] 24)).alloc (.cells #[.bool su, (.slice Au ku cu)] 24)) (w1.heap.size) sq (.slice Aq kq cq) := by have h := Box.alloc (Box.new w1 sq (.slice Aq kq cq)) (.cells #[.bool su, (.slice Au ku cu)] 24); simpa using h
  replace B_q := Lib.hid B_q
  have B_u : Box ((w1.alloc (.cells #[.bool sq, (.slice Aq kq cq)] 24)).alloc (.cells #[.bool su, (.slice Au ku cu)] 24)) (w1.heap.size + 1) su (.slice Au ku cu) := by have h := Box.new (w1.alloc (.cells #[.bool sq, (.slice Aq kq cq)] 24)) su (.slice Au ku cu); simpa using h
  replace B_u := Lib.hid B_u
  replace B_x := Lib.hid (Box.below B_x.out hb0 B_x.out.lt)
  replace B_y := Lib.hid (Box.below B_y.out hb0 B_y.out.lt)
  replace B_r := Lib.hid (Box.below B_r.out hb0 B_r.out.lt)
  replace V_x := Lib.hid (Rd.below V_x.out hb0)
  replace V_y := Lib.hid (Rd.below V_y.out hb0)
  replace V_q := Lib.hid (Rc.below V_q.out hb0)
  replace HB := Lib.hid (nextw HB.out hb0)
  clear hb0
  have c0q := B_q.out.c0
  have c1q := B_q.out.c1
  have c0u := B_u.out.c0
  have c1u := B_u.out.c1
  have c0r := B_r.out.c0
  have c1r := B_r.out.c1
  skip
  have K_q := V_q
  replace K_q := Lib.hid (Box.keepsRc B_r.out K_q.out sq (.slice Aq kq cq))
  have HB1 := Lib.hid (Below.store HB.out (x := w.heap.size + 1 + 1) (by omega) (.bool sq) (.slice Aq kq cq))
  have N0r := Lib.hid (Box.store B_r.out sq (.slice Aq kq cq))
  have s0r := N0r.out.c0
  have s1r := N0r.out.c1
  have HBF := HB1
  have c0r := B_r.out.c0
  have c1r := B_r.out.c1
  have f0r := B_r.out.f0
  have f1r := B_r.out.f1
  go_wp2_with fail
  exact bodyPost_ret (v := .agg #[.bool sq, (.slice Aq kq cq)]) (by simp [results, Tryz.results69, go_sem, s0r, s1r]) rfl ⟨_, rfl, (Rc.below K_q.out (by exact ⟨rfl, rfl, rfl, Nat.le_refl _, fun _ _ => rfl⟩)), (nextw HBF.out (by exact ⟨rfl, rfl, rfl, Nat.le_refl _, fun _ _ => rfl⟩))⟩

set_option maxRecDepth 100000 in
set_option maxHeartbeats 4000000 in
theorem RNew_a {v1 v2 : Value} {a b : Int} {k : Nat} {w : World} (h1 : Rd w v1 a k) (h2 : Rd w v2 b k) (f : k ≤ 5000) (ha : a = 0) :
    Calls Tryz.prog 52 #[v1, v2] w fun e w' => ∃ v, e = .returned v ∧ Qc w' v (Rat.divInt a b) (k + 2) ∧ Below w.heap.size w w' := by
  have HA := Lib.hid ha
  clear ha
  obtain ⟨sx, Ax, kx, cx, rfl, -⟩ := h1.shape
  obtain ⟨sy, Ay, ky, cy, rfl, -⟩ := h2.shape
  have V_x := Lib.hid h1
  have V_y := Lib.hid h2
  clear h1 h2
  have hb0 : Below w.heap.size w (((w.alloc (.cells #[.bool sx, (.slice Ax kx cx)] 24)).alloc (.cells #[.bool sy, (.slice Ay ky cy)] 24)).alloc (.cells #[.bool false, (.slice none 0 0), .bool false, (.slice none 0 0)] 26)) := (Below.alloc (Below.alloc (Below.alloc (Below.refl w.heap.size w) (by simp <;> omega) _) (by simp <;> omega) _) (by simp <;> omega) _)
  have B_x : Box (((w.alloc (.cells #[.bool sx, (.slice Ax kx cx)] 24)).alloc (.cells #[.bool sy, (.slice Ay ky cy)] 24)).alloc (.cells #[.bool false, (.slice none 0 0), .bool false, (.slice none 0 0)] 26)) (w.heap.size) sx (.slice Ax kx cx) := by have h := Box.alloc (Box.alloc (Box.new w sx (.slice Ax kx cx)) (.cells #[.bool sy, (.slice Ay ky cy)] 24)) (.cells #[.bool false, (.slice none 0 0), .bool false, (.slice none 0 0)] 26); simpa using h
  replace B_x := Lib.hid B_x
  have B_y : Box (((w.alloc (.cells #[.bool sx, (.slice Ax kx cx)] 24)).alloc (.cells #[.bool sy, (.slice Ay ky cy)] 24)).alloc (.cells #[.bool false, (.slice none 0 0), .bool false, (.slice none 0 0)] 26)) (w.heap.size + 1) sy (.slice Ay ky cy) := by have h := Box.alloc (Box.new (w.alloc (.cells #[.bool sx, (.slice Ax kx cx)] 24)) sy (.slice Ay ky cy)) (.cells #[.bool false, (.slice none 0 0), .bool false, (.slice none 0 0)] 26); simpa using h
  replace B_y := Lib.hid B_y
  have B_r : Box4 (((w.alloc (.cells #[.bool sx, (.slice Ax kx cx)] 24)).alloc (.cells #[.bool sy, (.slice Ay ky cy)] 24)).alloc (.cells #[.bool false, (.slice none 0 0), .bool false, (.slice none 0 0)] 26)) (w.heap.size + 1 + 1) false (.slice none 0 0) false (.slice none 0 0) := by have h := Box4.new ((w.alloc (.cells #[.bool sx, (.slice Ax kx cx)] 24)).alloc (.cells #[.bool sy, (.slice Ay ky cy)] 24)) false (.slice none 0 0) false (.slice none 0 0); simpa using h
  replace B_r := Lib.hid B_r
  replace V_x := Lib.hid (Rd.below V_x.out hb0)
  replace V_y := Lib.hid (Rd.below V_y.out hb0)
  have HB := Lib.hid hb0
  clear hb0
  have c0x := B_x.out.c0
  have c1x := B_x.out.c1
  have f0x := B_x.out.f0
  have f1x := B_x.out.f1
  have c0y := B_y.out.c0
  have c1y := B_y.out.c1
  have f0y := B_y.out.f0
  have f1y := B_y.out.f1
  have c0r := B_r.out.c0
  have c1r := B_r.out.c1
  have c2r := B_r.out.c2
  have c3r := B_r.out.c3
  have f0r := B_r.out.f0
  have f1r := B_r.out.f1
  have f2r := B_r.out.f2
  have f3r := B_r.out.f3
  go_enter Tryz.func52, Tryz.ntmps52
  go_wp2_with fail
  clear c0x c1x f0x f1x c0y c1y f0y f1y c0r c1r c2r c3r f0r f1r f2r f3r
  generalize ((w.alloc (.cells #[.bool sx, (.slice Ax kx cx)] 24)).alloc (.cells #[.bool sy, (.slice Ay ky cy)] 24)).alloc (.cells #[.bool false, (.slice none 0 0), .bool false, (.slice none 0 0)] 26) = W0 at *
  refine (RSign_eq (Rd.below V_x.out (by exact ⟨rfl, rfl, rfl, Nat.le_refl _, fun _ _ => rfl⟩)) (by omega) HA.out).mono ?_
  rintro e w1 ⟨rfl, bb⟩
  replace bb := nextw (w0 := W0) (by exact ⟨rfl, rfl, rfl, Nat.le_refl _, fun _ _ => rfl⟩) bb
  replace B_x := Lib.hid (Box.below B_x.out bb B_x.out.lt)
  replace B_y := Lib.hid (Box.below B_y.out bb B_y.out.lt)
  replace B_r := Lib.hid (Box4.below B_r.out bb B_r.out.lt)
  replace V_x := Lib.hid (Rd.below V_x.out bb)
  replace V_y := Lib.hid (Rd.below V_y.out bb)
  replace HB := Lib.hid (nextw HB.out bb)
  clear bb
  have c0x := B_x.out.c0
  have c1x := B_x.out.c1
  have f0x := B_x.out.f0
  have f1x := B_x.out.f1
  have c0y := B_y.out.c0
  have c1y := B_y.out.c1
  have f0y := B_y.out.f0
  have f1y := B_y.out.f1
  have c0r := B_r.out.c0
  have c1r := B_r.out.c1
  have c2r := B_r.out.c2
  have c3r := B_r.out.c3
  have f0r := B_r.out.f0
  have f1r := B_r.out.f1
  have f2r := B_r.out.f2
  have f3r := B_r.out.f3
  go_wp2_with fail
  refine (ROf_rc 0 (by omega) (by omega)).mono ?_
  rintro e w2 ⟨vo, rfl, ro, bb⟩
  replace bb := nextw (w0 := w1) (by exact ⟨rfl, rfl, rfl, Nat.le_refl _, fun _ _ => rfl⟩) bb
  clear c0x c1x f0x f1x c0y c1y f0y f1y c0r c1r c2r c3r f0r f1r f2r f3r
  replace B_x := Lib.hid (Box.below B_x.out bb B_x.out.lt)
  replace B_y := Lib.hid (Box.below B_y.out bb B_y.out.lt)
  replace B_r := Lib.hid (Box4.below B_r.out bb B_r.out.lt)
  replace V_x := Lib.hid (Rd.below V_x.out bb)
  replace V_y := Lib.hid (Rd.below V_y.out bb)
  replace HB := Lib.hid (nextw HB.out bb)
  clear bb
  obtain ⟨so, Ao, ko, co, rfl⟩ := ro.shape
  have V_o := Lib.hid ro
  clear ro
  go_wp2_with fail
  refine (ROne_rc).mono ?_
  rintro e w3 ⟨vi, rfl, ri, bb⟩
  replace bb := nextw (w0 := w2) (by exact ⟨rfl, rfl, rfl, Nat.le_refl _, fun _ _ => rfl⟩) bb
  replace B_x := Lib.hid (Box.below B_x.out bb B_x.out.lt)
  replace B_y := Lib.hid (Box.below B_y.out bb B_y.out.lt)
  replace B_r := Lib.hid (Box4.below B_r.out bb B_r.out.lt)
  replace V_x := Lib.hid (Rd.below V_x.out bb)
  replace V_y := Lib.hid (Rd.below V_y.out bb)
  replace V_o := Lib.hid (Rc.below V_o.out bb)
  replace HB := Lib.hid (nextw HB.out bb)
  clear bb
  obtain ⟨si, Ai, ki, ci, rfl⟩ := ri.shape
  have V_i := Lib.hid ri
  clear ri
  have hq : Rat.divInt a b = 0 := by rw [HA.out]; exact Rat.zero_divInt b
  have HQ := Lib.hid hq
  clear hq
  skip
  have K_o := V_o
  have K_i := V_i
  replace K_o := Lib.hid (Box4.keepsRc B_r.out K_o.out (.bool so) (.slice Ao ko co) (.bool si) (.slice Ai ki ci))
  replace K_i := Lib.hid (Box4.keepsRc B_r.out K_i.out (.bool so) (.slice Ao ko co) (.bool si) (.slice Ai ki ci))
  have HB1 := Lib.hid (Below.store4 HB.out (y := w.heap.size + 1 + 1) (by omega) (.bool so) (.slice Ao ko co) (.bool si) (.slice Ai ki ci))
  have N0r := Lib.hid (Box4.store B_r.out so (.slice Ao ko co) si (.slice Ai ki ci))
  have s0r := N0r.out.c0
  have s1r := N0r.out.c1
  have s2r := N0r.out.c2
  have s3r := N0r.out.c3
  simp only [st4] at s0r s1r s2r s3r
  have HBF := HB1
  have c0r := B_r.out.c0
  have c1r := B_r.out.c1
  have c2r := B_r.out.c2
  have c3r := B_r.out.c3
  have f0r := B_r.out.f0
  have f1r := B_r.out.f1
  have f2r := B_r.out.f2
  have f3r := B_r.out.f3
  go_wp2_with fail
  exact bodyPost_ret (v := .agg #[.bool so, (.slice Ao ko co), .bool si, (.slice Ai ki ci)]) (by simp [results, Tryz.results52, go_sem, s0r, s1r, s2r, s3r]) rfl ⟨_, rfl, Qc.mk (((Rc.below K_o.out (by exact ⟨rfl, rfl, rfl, Nat.le_refl _, fun _ _ => rfl⟩)).more (by omega)).of_eq (by rw [HQ.out]; rfl)) (((Rc.below K_i.out (by exact ⟨rfl, rfl, rfl, Nat.le_refl _, fun _ _ => rfl⟩)).more (by omega)).of_eq (by rw [HQ.out]; rfl)), (nextw HBF.out (by exact ⟨rfl, rfl, rfl, Nat.le_refl _, fun _ _ => rfl⟩))⟩

set_option maxRecDepth 100000 in
set_option maxHeartbeats 4000000 in
theorem RNew_blt {v1 v2 : Value} {a b : Int} {k : Nat} {w : World} (h1 : Rd w v1 a k) (h2 : Rd w v2 b k) (f : k ≤ 5000) (ha : a < 0) (hb : b = 0) :
    Calls Tryz.prog 52 #[v1, v2] w fun e w' => ∃ v, e = .returned v ∧ Qc w' v (Rat.divInt a b) (k + 2) ∧ Below w.heap.size w w' := by
  have HA := Lib.hid ha
  have HBB := Lib.hid hb
  clear ha hb
  obtain ⟨sx, Ax, kx, cx, rfl, -⟩ := h1.shape
  obtain ⟨sy, Ay, ky, cy, rfl, -⟩ := h2.shape
  have V_x := Lib.hid h1
  have V_y := Lib.hid h2
  clear h1 h2
  have hb0 : Below w.heap.size w (((w.alloc (.cells #[.bool sx, (.slice Ax kx cx)] 24)).alloc (.cells #[.bool sy, (.slice Ay ky cy)] 24)).alloc (.cells #[.bool false, (.slice none 0 0), .bool false, (.slice none 0 0)] 26)) := (Below.alloc (Below.alloc (Below.alloc (Below.refl w.heap.size w) (by simp <;> omega) _) (by simp <;> omega) _) (by simp <;> omega) _)
  have B_x : Box (((w.alloc (.cells #[.bool sx, (.slice Ax kx cx)] 24)).alloc (.cells #[.bool sy, (.slice Ay ky cy)] 24)).alloc (.cells #[.bool false, (.slice none 0 0), .bool false, (.slice none 0 0)] 26)) (w.heap.size) sx (.slice Ax kx cx) := by have h := Box.alloc (Box.alloc (Box.new w sx (.slice Ax kx cx)) (.cells #[.bool sy, (.slice Ay ky cy)] 24)) (.cells #[.bool false, (.slice none 0 0), .bool false, (.slice none 0 0)] 26); simpa using h
  replace B_x := Lib.hid B_x
  have B_y : Box (((w.alloc (.cells #[.bool sx, (.slice Ax kx cx)] 24)).alloc (.cells #[.bool sy, (.slice Ay ky cy)] 24)).alloc (.cells #[.bool false, (.slice none 0 0), .bool false, (.slice none 0 0)] 26)) (w.heap.size + 1) sy (.slice Ay ky cy) := by have h := Box.alloc (Box.new (w.alloc (.cells #[.bool sx, (.slice Ax kx cx)] 24)) sy (.slice Ay ky cy)) (.cells #[.bool false, (.slice none 0 0), .bool false, (.slice none 0 0)] 26); simpa using h
  replace B_y := Lib.hid B_y
  have B_r : Box4 (((w.alloc (.cells #[.bool sx, (.slice Ax kx cx)] 24)).alloc (.cells #[.bool sy, (.slice Ay ky cy)] 24)).alloc (.cells #[.bool false, (.slice none 0 0), .bool false, (.slice none 0 0)] 26)) (w.heap.size + 1 + 1) false (.slice none 0 0) false (.slice none 0 0) := by have h := Box4.new ((w.alloc (.cells #[.bool sx, (.slice Ax kx cx)] 24)).alloc (.cells #[.bool sy, (.slice Ay ky cy)] 24)) false (.slice none 0 0) false (.slice none 0 0); simpa using h
  replace B_r := Lib.hid B_r
  replace V_x := Lib.hid (Rd.below V_x.out hb0)
  replace V_y := Lib.hid (Rd.below V_y.out hb0)
  have HB := Lib.hid hb0
  clear hb0
  have c0x := B_x.out.c0
  have c1x := B_x.out.c1
  have f0x := B_x.out.f0
  have f1x := B_x.out.f1
  have c0y := B_y.out.c0
  have c1y := B_y.out.c1
  have f0y := B_y.out.f0
  have f1y := B_y.out.f1
  have c0r := B_r.out.c0
  have c1r := B_r.out.c1
  have c2r := B_r.out.c2
  have c3r := B_r.out.c3
  have f0r := B_r.out.f0
  have f1r := B_r.out.f1
  have f2r := B_r.out.f2
  have f3r := B_r.out.f3
  go_enter Tryz.func52, Tryz.ntmps52
  go_wp2_with fail
  clear c0x c1x f0x f1x c0y c1y f0y f1y c0r c1r c2r c3r f0r f1r f2r f3r
  generalize ((w.alloc (.cells #[.bool sx, (.slice Ax kx cx)] 24)).alloc (.cells #[.bool sy, (.slice Ay ky cy)] 24)).alloc (.cells #[.bool false, (.slice none 0 0), .bool false, (.slice none 0 0)] 26) = W0 at *
  refine (RSign_lt (Rd.below V_x.out (by exact ⟨rfl, rfl, rfl, Nat.le_refl _, fun _ _ => rfl⟩)) (by omega) HA.out).mono ?_
  rintro e w1 ⟨rfl, bb⟩
  replace bb := nextw (w0 := W0) (by exact ⟨rfl, rfl, rfl, Nat.le_refl _, fun _ _ => rfl⟩) bb
  replace B_x := Lib.hid (Box.below B_x.out bb B_x.out.lt)
  replace B_y := Lib.hid (Box.below B_y.out bb B_y.out.lt)
  replace B_r := Lib.hid (Box4.below B_r.out bb B_r.out.lt)
  replace V_x := Lib.hid (Rd.below V_x.out bb)
  replace V_y := Lib.hid (Rd.below V_y.out bb)
  replace HB := Lib.hid (nextw HB.out bb)
  clear bb
  have c0x := B_x.out.c0
  have c1x := B_x.out.c1
  have f0x := B_x.out.f0
  have f1x := B_x.out.f1
  have c0y := B_y.out.c0
  have c1y := B_y.out.c1
  have f0y := B_y.out.f0
  have f1y := B_y.out.f1
  have c0r := B_r.out.c0
  have c1r := B_r.out.c1
  have c2r := B_r.out.c2
  have c3r := B_r.out.c3
  have f0r := B_r.out.f0
  have f1r := B_r.out.f1
  have f2r := B_r.out.f2
  have f3r := B_r.out.f3
  go_wp2_with fail
  refine (RSign_eq (Rd.below V_y.out (by exact ⟨rfl, rfl, rfl, Nat.le_refl _, fun _ _ => rfl⟩)) (by omega) HBB.out).mono ?_
  rintro e w2 ⟨rfl, bb⟩
  replace bb := nextw (w0 := w1) (by exact ⟨rfl, rfl, rfl, Nat.le_refl _, fun _ _ => rfl⟩) bb
  clear c0x c1x f0x f1x c0y c1y f0y f1y c0r c1r c2r c3r f0r f1r f2r f3r
  replace B_x := Lib.hid (Box.below B_x.out bb B_x.out.lt)
  replace B_y := Lib.hid (Box.below B_y.out bb B_y.out.lt)
  replace B_r := Lib.hid (Box4.below B_r.out bb B_r.out.lt)
  replace V_x := Lib.hid (Rd.below V_x.out bb)
  replace V_y := Lib.hid (Rd.below V_y.out bb)
  replace HB := Lib.hid (nextw HB.out bb)
  clear bb
  have c0r := B_r.out.c0
  have c1r := B_r.out.c1
  have c2r := B_r.out.c2
  have c3r := B_r.out.c3
  have f0r := B_r.out.f0
  have f1r := B_r.out.f1
  have f2r := B_r.out.f2
  have f3r := B_r.out.f3
  go_wp2_with fail
  refine (ROf_rc 0 (by omega) (by omega)).mono ?_
  rintro e w3 ⟨vo, rfl, ro, bb⟩
  replace bb := nextw (w0 := w2) (by exact ⟨rfl, rfl, rfl, Nat.le_refl _, fun _ _ => rfl⟩) bb
  clear c0r c1r c2r c3r f0r f1r f2r f3r
  replace B_x := Lib.hid (Box.below B_x.out bb B_x.out.lt)
  replace B_y := Lib.hid (Box.below B_y.out bb B_y.out.lt)
  replace B_r := Lib.hid (Box4.below B_r.out bb B_r.out.lt)
  replace V_x := Lib.hid (Rd.below V_x.out bb)
  replace V_y := Lib.hid (Rd.below V_y.out bb)
  replace HB := Lib.hid (nextw HB.out bb)
  clear bb
  obtain ⟨so, Ao, ko, co, rfl⟩ := ro.shape
  have V_o := Lib.hid ro
  clear ro
  go_wp2_with fail
  refine (ROne_rc).mono ?_
  rintro e w4 ⟨vi, rfl, ri, bb⟩
  replace bb := nextw (w0 := w3) (by exact ⟨rfl, rfl, rfl, Nat.le_refl _, fun _ _ => rfl⟩) bb
  replace B_x := Lib.hid (Box.below B_x.out bb B_x.out.lt)
  replace B_y := Lib.hid (Box.below B_y.out bb B_y.out.lt)
  replace B_r := Lib.hid (Box4.below B_r.out bb B_r.out.lt)
  replace V_x := Lib.hid (Rd.below V_x.out bb)
  replace V_y := Lib.hid (Rd.below V_y.out bb)
  replace V_o := Lib.hid (Rc.below V_o.out bb)
  replace HB := Lib.hid (nextw HB.out bb)
  clear bb
  obtain ⟨si, Ai, ki, ci, rfl⟩ := ri.shape
  have V_i := Lib.hid ri
  clear ri
  have hq : Rat.divInt a b = 0 := by rw [HBB.out]; exact Rat.divInt_zero a
  have HQ := Lib.hid hq
  clear hq
  skip
  have K_o := V_o
  have K_i := V_i
  replace K_o := Lib.hid (Box4.keepsRc B_r.out K_o.out (.bool so) (.slice Ao ko co) (.bool si) (.slice Ai ki ci))
  replace K_i := Lib.hid (Box4.keepsRc B_r.out K_i.out (.bool so) (.slice Ao ko co) (.bool si) (.slice Ai ki ci))
  have HB1 := Lib.hid (Below.store4 HB.out (y := w.heap.size + 1 + 1) (by omega) (.bool so) (.slice Ao ko co) (.bool si) (.slice Ai ki ci))
  have N0r := Lib.hid (Box4.store B_r.out so (.slice Ao ko co) si (.slice Ai ki ci))
  have s0r := N0r.out.c0
  have s1r := N0r.out.c1
  have s2r := N0r.out.c2
  have s3r := N0r.out.c3
  simp only [st4] at s0r s1r s2r s3r
  have HBF := HB1
  have c0r := B_r.out.c0
  have c1r := B_r.out.c1
  have c2r := B_r.out.c2
  have c3r := B_r.out.c3
  have f0r := B_r.out.f0
  have f1r := B_r.out.f1
  have f2r := B_r.out.f2
  have f3r := B_r.out.f3
  go_wp2_with fail
  exact bodyPost_ret (v := .agg #[.bool so, (.slice Ao ko co), .bool si, (.slice Ai ki ci)]) (by simp [results, Tryz.results52, go_sem, s0r, s1r, s2r, s3r]) rfl ⟨_, rfl, Qc.mk (((Rc.below K_o.out (by exact ⟨rfl, rfl, rfl, Nat.le_refl _, fun _ _ => rfl⟩)).more (by omega)).of_eq (by rw [HQ.out]; rfl)) (((Rc.below K_i.out (by exact ⟨rfl, rfl, rfl, Nat.le_refl _, fun _ _ => rfl⟩)).more (by omega)).of_eq (by rw [HQ.out]; rfl)), (nextw HBF.out (by exact ⟨rfl, rfl, rfl, Nat.le_refl _, fun _ _ => rfl⟩))⟩

set_option maxRecDepth 100000 in
set_option maxHeartbeats 8000000 in
theorem RNew_ltlt {v1 v2 : Value} {a b : Int} {k : Nat} {w : World} (h1 : Rd w v1 a k) (h2 : Rd w v2 b k) (f : k ≤ 5000) (ha : a < 0) (hb : b < 0) :
    Calls Tryz.prog 52 #[v1, v2] w fun e w' => ∃ v, e = .returned v ∧ Qc w' v (Rat.divInt a b) (k + 2) ∧ Below w.heap.size w w' := by
  have HA := Lib.hid ha
  have HBB := Lib.hid hb
  clear ha hb
  obtain ⟨sx, Ax, kx, cx, rfl, -⟩ := h1.shape
  obtain ⟨sy, Ay, ky, cy, rfl, -⟩ := h2.shape
  have V_x := Lib.hid h1
  have V_y := Lib.hid h2
  clear h1 h2
  have hb0 : Below w.heap.size w (((w.alloc (.cells #[.bool sx, (.slice Ax kx cx)] 24)).alloc (.cells #[.bool sy, (.slice Ay ky cy)] 24)).alloc (.cells #[.bool false, (.slice none 0 0), .bool false, (.slice none 0 0)] 26)) := (Below.alloc (Below.alloc (Below.alloc (Below.refl w.heap.size w) (by simp <;> omega) _) (by simp <;> omega) _) (by simp <;> omega) _)
  have B_x : Box (((w.alloc (.cells #[.bool sx, (.slice Ax kx cx)] 24)).alloc (.cells #[.bool sy, (.slice Ay ky cy)] 24)).alloc (.cells #[.bool false, (.slice none 0 0), .bool false, (.slice none 0 0)] 26)) (w.heap.size) sx (.slice Ax kx cx) := by have h := Box.alloc (Box.alloc (Box.new w sx (.slice Ax kx cx)) (.cells #[.bool sy, (.slice Ay ky cy)] 24)) (.cells #[.bool false, (.slice none 0 0), .bool false, (.slice none 0 0)] 26); simpa using h
  replace B_x := Lib.hid B_x
  have B_y : Box (((w.alloc (.cells #[.bool sx, (.slice Ax kx cx)] 24)).alloc (.cells #[.bool sy, (.slice Ay ky cy)] 24)).alloc (.cells #[.bool false, (.slice none 0 0), .bool false, (.slice none 0 0)] 26)) (w.heap.size + 1) sy (.slice Ay ky cy) := by have h := Box.alloc (Box.new (w.alloc (.cells #[.bool sx, (.slice Ax kx cx)] 24)) sy (.slice Ay ky cy)) (.cells #[.bool false, (.slice none 0 0), .bool false, (.slice none 0 0)] 26); simpa using h
  replace B_y := Lib.hid B_y
  have B_r : Box4 (((w.alloc (.cells #[.bool sx, (.slice Ax kx cx)] 24)).alloc (.cells #[.bool sy, (.slice Ay ky cy)] 24)).alloc (.cells #[.bool false, (.slice none 0 0), .bool false, (.slice none 0 0)] 26)) (w.heap.size + 1 + 1) false (.slice none 0 0) false (.slice none 0 0) := by have h := Box4.new ((w.alloc (.cells #[.bool sx, (.slice Ax kx cx)] 24)).alloc (.cells #[.bool sy, (.slice Ay ky cy)] 24)) false (.slice none 0 0) false (.slice none 0 0); simpa using h
  replace B_r := Lib.hid B_r
  replace V_x := Lib.hid (Rd.below V_x.out hb0)
  replace V_y := Lib.hid (Rd.below V_y.out hb0)
  have HB := Lib.hid hb0
  clear hb0
  have c0x := B_x.out.c0
  have c1x := B_x.out.c1
  have f0x := B_x.out.f0
  have f1x := B_x.out.f1
  have c0y := B_y.out.c0
  have c1y := B_y.out.c1
  have f0y := B_y.out.f0
  have f1y := B_y.out.f1
  have c0r := B_r.out.c0
  have c1r := B_r.out.c1
  have c2r := B_r.out.c2
  have c3r := B_r.out.c3
  have f0r := B_r.out.f0
  have f1r := B_r.out.f1
  have f2r := B_r.out.f2
  have f3r := B_r.out.f3
  go_enter Tryz.func52, Tryz.ntmps52
  go_wp2_with fail
  clear c0x c1x f0x f1x c0y c1y f0y f1y c0r c1r c2r c3r f0r f1r f2r f3r
  generalize ((w.alloc (.cells #[.bool sx, (.slice Ax kx cx)] 24)).alloc (.cells #[.bool sy, (.slice Ay ky cy)] 24)).alloc (.cells #[.bool false, (.slice none 0 0), .bool false, (.slice none 0 0)] 26) = W0 at *
  refine (RSign_lt (Rd.below V_x.out (by exact ⟨rfl, rfl, rfl, Nat.le_refl _, fun _ _ => rfl⟩)) (by omega) HA.out).mono ?_
  rintro e w1 ⟨rfl, bb⟩
  replace bb := nextw (w0 := W0) (by exact ⟨rfl, rfl, rfl, Nat.le_refl _, fun _ _ => rfl⟩) bb
  replace B_x := Lib.hid (Box.below B_x.out bb B_x.out.lt)
  replace B_y := Lib.hid (Box.below B_y.out bb B_y.out.lt)
  replace B_r := Lib.hid (Box4.below B_r.out bb B_r.out.lt)
  replace V_x := Lib.hid (Rd.below V_x.out bb)
  replace V_y := Lib.hid (Rd.below V_y.out bb)
  replace HB := Lib.hid (nextw HB.out bb)
  clear bb
  have c0x := B_x.out.c0
  have c1x := B_x.out.c1
  have f0x := B_x.out.f0
  have f1x := B_x.out.f1
  have c0y := B_y.out.c0
  have c1y := B_y.out.c1
  have f0y := B_y.out.f0
  have f1y := B_y.out.f1
  have c0r := B_r.out.c0
  have c1r := B_r.out.c1
  have c2r := B_r.out.c2
  have c3r := B_r.out.c3
  have f0r := B_r.out.f0
  have f1r := B_r.out.f1
  have f2r := B_r.out.f2
  have f3r := B_r.out.f3
  go_wp2_with fail
  refine (RSign_lt (Rd.below V_y.out (by exact ⟨rfl, rfl, rfl, Nat.le_refl _, fun _ _ => rfl⟩)) (by omega) HBB.out).mono ?_
  rintro e w2 ⟨rfl, bb⟩
  replace bb := nextw (w0 := w1) (by exact ⟨rfl, rfl, rfl, Nat.le_refl _, fun _ _ => rfl⟩) bb
  clear c0x c1x f0x f1x c0y c1y f0y f1y c0r c1r c2r c3r f0r f1r f2r f3r
  replace B_x := Lib.hid (Box.below B_x.out bb B_x.out.lt)
  replace B_y := Lib.hid (Box.below B_y.out bb B_y.out.lt)
  replace B_r := Lib.hid (Box4.below B_r.out bb B_r.out.lt)
  replace V_x := Lib.hid (Rd.below V_x.out bb)
  replace V_y := Lib.hid (Rd.below V_y.out bb)
  replace HB := Lib.hid (nextw HB.out bb)
  clear bb
  have c0x := B_x.out.c0
  have c1x := B_x.out.c1
  have f0x := B_x.out.f0
  have f1x := B_x.out.f1
  have c0y := B_y.out.c0
  have c1y := B_y.out.c1
  have f0y := B_y.out.f0
  have f1y := B_y.out.f1
  have c0r := B_r.out.c0
  have c1r := B_r.out.c1
  have c2r := B_r.out.c2
  have c3r := B_r.out.c3
  have f0r := B_r.out.f0
  have f1r := B_r.out.f1
  have f2r := B_r.out.f2
  have f3r := B_r.out.f3
  go_wp2_with fail
  refine (RSign_lt (Rd.below V_y.out (by exact ⟨rfl, rfl, rfl, Nat.le_refl _, fun _ _ => rfl⟩)) (by omega) HBB.out).mono ?_
  rintro e w3 ⟨rfl, bb⟩
  replace bb := nextw (w0 := w2) (by exact ⟨rfl, rfl, rfl, Nat.le_refl _, fun _ _ => rfl⟩) bb
  clear c0x c1x f0x f1x c0y c1y f0y f1y c0r c1r c2r c3r f0r f1r f2r f3r
  replace B_x := Lib.hid (Box.below B_x.out bb B_x.out.lt)
  replace B_y := Lib.hid (Box.below B_y.out bb B_y.out.lt)
  replace B_r := Lib.hid (Box4.below B_r.out bb B_r.out.lt)
  replace V_x := Lib.hid (Rd.below V_x.out bb)
  replace V_y := Lib.hid (Rd.below V_y.out bb)
  replace HB := Lib.hid (nextw HB.out bb)
  clear bb
  have c0x := B_x.out.c0
  have c1x := B_x.out.c1
  have f0x := B_x.out.f0
  have f1x := B_x.out.f1
  have c0y := B_y.out.c0
  have c1y := B_y.out.c1
  have f0y := B_y.out.f0
  have f1y := B_y.out.f1
  have c0r := B_r.out.c0
  have c1r := B_r.out.c1
  have c2r := B_r.out.c2
  have c3r := B_r.out.c3
  have f0r := B_r.out.f0
  have f1r := B_r.out.f1
  have f2r := B_r.out.f2
  have f3r := B_r.out.f3
  go_wp2_with fail
  refine (RNeg_rd (Rd.below V_x.out (by exact ⟨rfl, rfl, rfl, Nat.le_refl _, fun _ _ => rfl⟩)) (by omega)).mono ?_
  rintro e w4 ⟨vp, rfl, rp, bb⟩
  replace bb := nextw (w0 := w3) (by exact ⟨rfl, rfl, rfl, Nat.le_refl _, fun _ _ => rfl⟩) bb
  clear c0x c1x f0x f1x c0y c1y f0y f1y c0r c1r c2r c3r f0r f1r f2r f3r
  replace B_x := Lib.hid (Box.below B_x.out bb B_x.out.lt)
  replace B_y := Lib.hid (Box.below B_y.out bb B_y.out.lt)
  replace B_r := Lib.hid (Box4.below B_r.out bb B_r.out.lt)
  replace V_x := Lib.hid (Rd.below V_x.out bb)
  replace V_y := Lib.hid (Rd.below V_y.out bb)
  replace HB := Lib.hid (nextw HB.out bb)
  clear bb
  obtain ⟨sp, Ap, kp, cp, rfl⟩ := rp.shape
  clear V_x
  have V_x := Lib.hid (Rc.rd rp)
  clear rp
  have c0x := B_x.out.c0
  have c1x := B_x.out.c1
  have f0x := B_x.out.f0
  have f1x := B_x.out.f1
  have c0y := B_y.out.c0
  have c1y := B_y.out.c1
  have f0y := B_y.out.f0
  have f1y := B_y.out.f1
  have c0r := B_r.out.c0
  have c1r := B_r.out.c1
  have c2r := B_r.out.c2
  have c3r := B_r.out.c3
  have f0r := B_r.out.f0
  have f1r := B_r.out.f1
  have f2r := B_r.out.f2
  have f3r := B_r.out.f3
  go_wp2_with fail
  clear c0x c1x f0x f1x c0y c1y f0y f1y c0r c1r c2r c3r f0r f1r f2r f3r
  replace V_y := Lib.hid (Box.keepsRd B_x.out V_y.out sp (.slice Ap kp cp))
  replace V_x := Lib.hid (Box.keepsRd B_x.out V_x.out sp (.slice Ap kp cp))
  replace B_y := Lib.hid (Box.far (y := w.heap.size) B_y.out (by omega) (.bool sp) (.slice Ap kp cp))
  replace B_r := Lib.hid (Box4.far (y := w.heap.size) B_r.out (by omega) (.bool sp) (.slice Ap kp cp))
  replace HB := Lib.hid (Below.store HB.out (x := w.heap.size) (by omega) (.bool sp) (.slice Ap kp cp))
  replace B_x := Lib.hid (Box.store B_x.out sp (.slice Ap kp cp))
  generalize ((w4.setCell ⟨w.heap.size, 0, none⟩ (.bool sp)).setCell ⟨w.heap.size, 1, none⟩ (.slice Ap kp cp)) = W1 at *
  have c0x := B_x.out.c0
  have c1x := B_x.out.c1
  have f0x := B_x.out.f0
  have f1x := B_x.out.f1
  have c0y := B_y.out.c0
  have c1y := B_y.out.c1
  have f0y := B_y.out.f0
  have f1y := B_y.out.f1
  have c0r := B_r.out.c0
  have c1r := B_r.out.c1
  have c2r := B_r.out.c2
  have c3r := B_r.out.c3
  have f0r := B_r.out.f0
  have f1r := B_r.out.f1
  have f2r := B_r.out.f2
  have f3r := B_r.out.f3
  refine (RNeg_rd (Rd.below V_y.out (by exact ⟨rfl, rfl, rfl, Nat.le_refl _, fun _ _ => rfl⟩)) (by omega)).mono ?_
  rintro e w5 ⟨vq, rfl, rq, bb⟩
  replace bb := nextw (w0 := W1) (by exact ⟨rfl, rfl, rfl, Nat.le_refl _, fun _ _ => rfl⟩) bb
  clear c0x c1x f0x f1x c0y c1y f0y f1y c0r c1r c2r c3r f0r f1r f2r f3r
  replace B_x := Lib.hid (Box.below B_x.out bb B_x.out.lt)
  replace B_y := Lib.hid (Box.below B_y.out bb B_y.out.lt)
  replace B_r := Lib.hid (Box4.below B_r.out bb B_r.out.lt)
  replace V_y := Lib.hid (Rd.below V_y.out bb)
  replace V_x := Lib.hid (Rd.below V_x.out bb)
  replace HB := Lib.hid (nextw HB.out bb)
  clear bb
  obtain ⟨sq, Aq, kq, cq, rfl⟩ := rq.shape
  clear V_y
  have V_y := Lib.hid (Rc.rd rq)
  clear rq
  have c0x := B_x.out.c0
  have c1x := B_x.out.c1
  have f0x := B_x.out.f0
  have f1x := B_x.out.f1
  have c0y := B_y.out.c0
  have c1y := B_y.out.c1
  have f0y := B_y.out.f0
  have f1y := B_y.out.f1
  have c0r := B_r.out.c0
  have c1r := B_r.out.c1
  have c2r := B_r.out.c2
  have c3r := B_r.out.c3
  have f0r := B_r.out.f0
  have f1r := B_r.out.f1
  have f2r := B_r.out.f2
  have f3r := B_r.out.f3
  go_wp2_with fail
  clear c0x c1x f0x f1x c0y c1y f0y f1y c0r c1r c2r c3r f0r f1r f2r f3r
  replace V_x := Lib.hid (Box.keepsRd B_y.out V_x.out sq (.slice Aq kq cq))
  replace V_y := Lib.hid (Box.keepsRd B_y.out V_y.out sq (.slice Aq kq cq))
  replace B_x := Lib.hid (Box.far (y := w.heap.size + 1) B_x.out (by omega) (.bool sq) (.slice Aq kq cq))
  replace B_r := Lib.hid (Box4.far (y := w.heap.size + 1) B_r.out (by omega) (.bool sq) (.slice Aq kq cq))
  replace HB := Lib.hid (Below.store HB.out (x := w.heap.size + 1) (by omega) (.bool sq) (.slice Aq kq cq))
  replace B_y := Lib.hid (Box.store B_y.out sq (.slice Aq kq cq))
  generalize ((w5.setCell ⟨w.heap.size + 1, 0, none⟩ (.bool sq)).setCell ⟨w.heap.size + 1, 1, none⟩ (.slice Aq kq cq)) = W2 at *
  have c0x := B_x.out.c0
  have c1x := B_x.out.c1
  have f0x := B_x.out.f0
  have f1x := B_x.out.f1
  have c0y := B_y.out.c0
  have c1y := B_y.out.c1
  have f0y := B_y.out.f0
  have f1y := B_y.out.f1
  have c0r := B_r.out.c0
  have c1r := B_r.out.c1
  have c2r := B_r.out.c2
  have c3r := B_r.out.c3
  have f0r := B_r.out.f0
  have f1r := B_r.out.f1
  have f2r := B_r.out.f2
  have f3r := B_r.out.f3
  obtain ⟨A, hA⟩ : ∃ A, -a = A := ⟨_, rfl⟩
  obtain ⟨B, hB⟩ : ∃ B, -b = B := ⟨_, rfl⟩
  have hf : Rat.divInt A B = Rat.divInt a b := by rw [← hA, ← hB]; exact Rat.neg_divInt_neg a b
  have hB0 : 0 < B := by have := HBB.out; omega
  rw [hA] at V_x
  rw [hB] at V_y
  have e1 : A / ((Nat.gcd A.natAbs B.natAbs : Nat) : Int) = (Rat.divInt a b).num := by rw [← hf, new_num hB0]; rfl
  have e2 : B / ((Nat.gcd A.natAbs B.natAbs : Nat) : Int) = ((Rat.divInt a b).den : Int) := by rw [← hf, new_den hB0]; rfl
  have e3 : 0 < ((Nat.gcd A.natAbs B.natAbs : Nat) : Int) := by have := gcd_pos (a := A) hB0; rw [gcd_nat] at this; omega
  have e4 : A % ((Nat.gcd A.natAbs B.natAbs : Nat) : Int) = 0 := Int.emod_eq_zero_of_dvd (show (Int.gcd A B : Int) ∣ A from Int.gcd_dvd_left ..)
  have e5 : B % ((Nat.gcd A.natAbs B.natAbs : Nat) : Int) = 0 := Int.emod_eq_zero_of_dvd (show (Int.gcd A B : Int) ∣ B from Int.gcd_dvd_right ..)
  have E1 := Lib.hid e1
  have E2 := Lib.hid e2
  have E3 := Lib.hid e3
  have E4 := Lib.hid e4
  have E5 := Lib.hid e5
  clear e1 e2 e3 e4 e5 hf hB0 hA hB
  refine (RGcd_rd (Rd.below V_x.out (by exact ⟨rfl, rfl, rfl, Nat.le_refl _, fun _ _ => rfl⟩)) (Rd.below V_y.out (by exact ⟨rfl, rfl, rfl, Nat.le_refl _, fun _ _ => rfl⟩)) (by omega) (by omega)).mono ?_
  rintro e w6 ⟨vg, rfl, rg, bb⟩
  replace bb := nextw (w0 := W2) (by exact ⟨rfl, rfl, rfl, Nat.le_refl _, fun _ _ => rfl⟩) bb
  clear c0x c1x f0x f1x c0y c1y f0y f1y c0r c1r c2r c3r f0r f1r f2r f3r
  replace B_x := Lib.hid (Box.below B_x.out bb B_x.out.lt)
  replace B_y := Lib.hid (Box.below B_y.out bb B_y.out.lt)
  replace B_r := Lib.hid (Box4.below B_r.out bb B_r.out.lt)
  replace V_x := Lib.hid (Rd.below V_x.out bb)
  replace V_y := Lib.hid (Rd.below V_y.out bb)
  replace HB := Lib.hid (nextw HB.out bb)
  clear bb
  obtain ⟨sg, Ag, kg, cg, rfl⟩ := rg.shape
  have V_g := Lib.hid rg
  clear rg
  have Z1x := Lib.hid B_x.out.lt
  have Z2y := Lib.hid B_y.out.lt
  have Z3r := Lib.hid B_r.out.lt
  have hb0 : Below w6.heap.size w6 (w6.alloc (.cells #[.bool sg, (.slice Ag kg cg)] 24)) := (Below.alloc (Below.refl w6.heap.size w6) (by simp <;> omega) _)
  have B_g : Box (w6.alloc (.cells #[.bool sg, (.slice Ag kg cg)] 24)) (w6.heap.size) sg (.slice Ag kg cg) := by have h := Box.new w6 sg (.slice Ag kg cg); simpa using h
  replace B_g := Lib.hid B_g
  replace B_x := Lib.hid (Box.below B_x.out hb0 B_x.out.lt)
  replace B_y := Lib.hid (Box.below B_y.out hb0 B_y.out.lt)
  replace B_r := Lib.hid (Box4.below B_r.out hb0 B_r.out.lt)
  replace V_x := Lib.hid (Rd.below V_x.out hb0)
  replace V_y := Lib.hid (Rd.below V_y.out hb0)
  replace V_g := Lib.hid (Rc.below V_g.out hb0)
  replace HB := Lib.hid (nextw HB.out hb0)
  clear hb0
  have c0x := B_x.out.c0
  have c1x := B_x.out.c1
  have c0y := B_y.out.c0
  have c1y := B_y.out.c1
  have c0g := B_g.out.c0
  have c1g := B_g.out.c1
  have c0r := B_r.out.c0
  have c1r := B_r.out.c1
  have c2r := B_r.out.c2
  have c3r := B_r.out.c3
  go_wp2
  clear c0x c1x c0y c1y c0g c1g c0r c1r c2r c3r
  generalize w6.alloc (.cells #[.bool sg, (.slice Ag kg cg)] 24) = W3 at *
  have c0x := B_x.out.c0
  have c1x := B_x.out.c1
  have c0y := B_y.out.c0
  have c1y := B_y.out.c1
  have c0g := B_g.out.c0
  have c1g := B_g.out.c1
  have z1x := Z1x.out
  have z2y := Z2y.out
  have z3r := Z3r.out
  have tk0 : True := trivial
  first | (go_region_held3 (fun w' => w'.cell? ⟨w.heap.size, 0, none⟩ = some (.bool sp) ∧ w'.cell? ⟨w.heap.size, 1, none⟩ = some (.slice Ap kp cp) ∧ w'.cell? ⟨w.heap.size + 1, 0, none⟩ = some (.bool sq) ∧ w'.cell? ⟨w.heap.size + 1, 1, none⟩ = some (.slice Aq kq cq) ∧ w'.cell? ⟨w6.heap.size, 0, none⟩ = some (.bool sg) ∧ w'.cell? ⟨w6.heap.size, 1, none⟩ = some (.slice Ag kg cg)) (((try dsimp only); (repeat' apply And.intro) <;> (first | (with_reducible assumption) | ((repeat (first | (with_reducible refine Eq.trans (cell_drew1 _ _) ?_) | (with_reducible refine Eq.trans (cell_set4 (by omega) _ _ _ _) ?_))); with_reducible assumption) | assumption | go_keep)))
    (first
      | (have _t := tk0; clear _t tk0; go_at_call 69; refine (part_rd (Rd.below V_x.out (by exact ⟨rfl, rfl, rfl, Nat.le_refl _, fun _ _ => rfl⟩)) (Rc.rd (Rc.below V_g.out (by exact ⟨rfl, rfl, rfl, Nat.le_refl _, fun _ _ => rfl⟩))) (by omega) (by omega) E3.out E4.out).mono ?_; rintro e w7 ⟨vp, rfl, rp, bb⟩; replace bb := nextw (w0 := W3) (by exact ⟨rfl, rfl, rfl, Nat.le_refl _, fun _ _ => rfl⟩) bb; replace B_x := Lib.hid (Box.below B_x.out bb B_x.out.lt); replace B_y := Lib.hid (Box.below B_y.out bb B_y.out.lt); replace B_r := Lib.hid (Box4.below B_r.out bb B_r.out.lt); replace B_g := Lib.hid (Box.below B_g.out bb B_g.out.lt); replace V_x := Lib.hid (Rd.below V_x.out bb); replace V_y := Lib.hid (Rd.below V_y.out bb); replace V_g := Lib.hid (Rc.below V_g.out bb); replace HB := Lib.hid (nextw HB.out bb); clear bb; replace rp := Lib.hid rp; have V_p := rp; clear rp; obtain ⟨s1, A1, k1, c1, rfl⟩ := V_p.out.shape; have c0x := B_x.out.c0; have c1x := B_x.out.c1; have c0y := B_y.out.c0; have c1y := B_y.out.c1; have c0g := B_g.out.c0; have c1g := B_g.out.c1; have tk1 : True := trivial)
      | (have _t := tk1; clear _t tk1; go_at_call 69; refine (part_rd (Rd.below V_y.out (by exact ⟨rfl, rfl, rfl, Nat.le_refl _, fun _ _ => rfl⟩)) (Rc.rd (Rc.below V_g.out (by exact ⟨rfl, rfl, rfl, Nat.le_refl _, fun _ _ => rfl⟩))) (by omega) (by omega) E3.out E5.out).mono ?_; rintro e w8 ⟨vq, rfl, rq, bb⟩; replace bb := nextw (w0 := w7) (by exact ⟨rfl, rfl, rfl, Nat.le_refl _, fun _ _ => rfl⟩) bb; replace B_x := Lib.hid (Box.below B_x.out bb B_x.out.lt); replace B_y := Lib.hid (Box.below B_y.out bb B_y.out.lt); replace B_r := Lib.hid (Box4.below B_r.out bb B_r.out.lt); replace B_g := Lib.hid (Box.below B_g.out bb B_g.out.lt); replace V_x := Lib.hid (Rd.below V_x.out bb); replace V_y := Lib.hid (Rd.below V_y.out bb); replace V_g := Lib.hid (Rc.below V_g.out bb); replace V_p := Lib.hid (Rc.below V_p.out bb); replace HB := Lib.hid (nextw HB.out bb); clear bb; replace rq := Lib.hid rq; have V_q := rq; clear rq; obtain ⟨s2, A2, k2, c2, rfl⟩ := V_q.out.shape; have c0r := B_r.out.c0; have c1r := B_r.out.c1; have c2r := B_r.out.c2; have c3r := B_r.out.c3; have f0r := B_r.out.f0; have f1r := B_r.out.f1; have f2r := B_r.out.f2; have f3r := B_r.out.f3; have c0x := B_x.out.c0; have c1x := B_x.out.c1; have c0y := B_y.out.c0; have c1y := B_y.out.c1; have c0g := B_g.out.c0; have c1g := B_g.out.c1; have tk2 : True := trivial))) | fail
  all_goals (clear z1x z2y z3r)
  all_goals
    skip
    have K_p := V_p
    have K_q := V_q
    replace K_p := Lib.hid (Box4.keepsRc B_r.out K_p.out (.bool s1) (.slice A1 k1 c1) (.bool s2) (.slice A2 k2 c2))
    replace K_q := Lib.hid (Box4.keepsRc B_r.out K_q.out (.bool s1) (.slice A1 k1 c1) (.bool s2) (.slice A2 k2 c2))
    have HB1 := Lib.hid (Below.store4 HB.out (y := w.heap.size + 1 + 1) (by omega) (.bool s1) (.slice A1 k1 c1) (.bool s2) (.slice A2 k2 c2))
    have N0r := Lib.hid (Box4.store B_r.out s1 (.slice A1 k1 c1) s2 (.slice A2 k2 c2))
    have s0r := N0r.out.c0
    have s1r := N0r.out.c1
    have s2r := N0r.out.c2
    have s3r := N0r.out.c3
    simp only [st4] at s0r s1r s2r s3r
    have HBF := HB1
    have c0r := B_r.out.c0
    have c1r := B_r.out.c1
    have c2r := B_r.out.c2
    have c3r := B_r.out.c3
    have f0r := B_r.out.f0
    have f1r := B_r.out.f1
    have f2r := B_r.out.f2
    have f3r := B_r.out.f3
    go_wp2_with fail
    exact bodyPost_ret (v := .agg #[.bool s1, (.slice A1 k1 c1), .bool s2, (.slice A2 k2 c2)]) (by simp [results, Tryz.results52, go_sem, s0r, s1r, s2r, s3r]) rfl ⟨_, rfl, Qc.mk (((Rc.below K_p.out (by exact ⟨rfl, rfl, rfl, Nat.le_refl _, fun _ _ => rfl⟩)).of_eq E1.out).more (by omega)) (((Rc.below K_q.out (by exact ⟨rfl, rfl, rfl, Nat.le_refl _, fun _ _ => rfl⟩)).of_eq E2.out).more (by omega)), (nextw HBF.out (by exact ⟨rfl, rfl, rfl, Nat.le_refl _, fun _ _ => rfl⟩))⟩

set_option maxRecDepth 100000 in
set_option maxHeartbeats 8000000 in
theorem RNew_ltgt {v1 v2 : Value} {a b : Int} {k : Nat} {w : World} (h1 : Rd w v1 a k) (h2 : Rd w v2 b k) (f : k ≤ 5000) (ha : a < 0) (hb : 0 < b) :
    Calls Tryz.prog 52 #[v1, v2] w fun e w' => ∃ v, e = .returned v ∧ Qc w' v (Rat.divInt a b) (k + 2) ∧ Below w.heap.size w w' := by
  have HA := Lib.hid ha
  have HBB := Lib.hid hb
  clear ha hb
  obtain ⟨sx, Ax, kx, cx, rfl, -⟩ := h1.shape
  obtain ⟨sy, Ay, ky, cy, rfl, -⟩ := h2.shape
  have V_x := Lib.hid h1
  have V_y := Lib.hid h2
  clear h1 h2
  have hb0 : Below w.heap.size w (((w.alloc (.cells #[.bool sx, (.slice Ax kx cx)] 24)).alloc (.cells #[.bool sy, (.slice Ay ky cy)] 24)).alloc (.cells #[.bool false, (.slice none 0 0), .bool false, (.slice none 0 0)] 26)) := (Below.alloc (Below.alloc (Below.alloc (Below.refl w.heap.size w) (by simp <;> omega) _) (by simp <;> omega) _) (by simp <;> omega) _)
  have B_x : Box (((w.alloc (.cells #[.bool sx, (.slice Ax kx cx)] 24)).alloc (.cells #[.bool sy, (.slice Ay ky cy)] 24)).alloc (.cells #[.bool false, (.slice none 0 0), .bool false, (.slice none 0 0)] 26)) (w.heap.size) sx (.slice Ax kx cx) := by have h := Box.alloc (Box.alloc (Box.new w sx (.slice Ax kx cx)) (.cells #[.bool sy, (.slice Ay ky cy)] 24)) (.cells #[.bool false, (.slice none 0 0), .bool false, (.slice none 0 0)] 26); simpa using h
  replace B_x := Lib.hid B_x
  have B_y : Box (((w.alloc (.cells #[.bool sx, (.slice Ax kx cx)] 24)).alloc (.cells #[.bool sy, (.slice Ay ky cy)] 24)).alloc (.cells #[.bool false, (.slice none 0 0), .bool false, (.slice none 0 0)] 26)) (w.heap.size + 1) sy (.slice Ay ky cy) := by have h := Box.alloc (Box.new (w.alloc (.cells #[.bool sx, (.slice Ax kx cx)] 24)) sy (.slice Ay ky cy)) (.cells #[.bool false, (.slice none 0 0), .bool false, (.slice none 0 0)] 26); simpa using h
  replace B_y := Lib.hid B_y
  have B_r : Box4 (((w.alloc (.cells #[.bool sx, (.slice Ax kx cx)] 24)).alloc (.cells #[.bool sy, (.slice Ay ky cy)] 24)).alloc (.cells #[.bool false, (.slice none 0 0), .bool false, (.slice none 0 0)] 26)) (w.heap.size + 1 + 1) false (.slice none 0 0) false (.slice none 0 0) := by have h := Box4.new ((w.alloc (.cells #[.bool sx, (.slice Ax kx cx)] 24)).alloc (.cells #[.bool sy, (.slice Ay ky cy)] 24)) false (.slice none 0 0) false (.slice none 0 0); simpa using h
  replace B_r := Lib.hid B_r
  replace V_x := Lib.hid (Rd.below V_x.out hb0)
  replace V_y := Lib.hid (Rd.below V_y.out hb0)
  have HB := Lib.hid hb0
  clear hb0
  have c0x := B_x.out.c0
  have c1x := B_x.out.c1
  have f0x := B_x.out.f0
  have f1x := B_x.out.f1
  have c0y := B_y.out.c0
  have c1y := B_y.out.c1
  have f0y := B_y.out.f0
  have f1y := B_y.out.f1
  have c0r := B_r.out.c0
  have c1r := B_r.out.c1
  have c2r := B_r.out.c2
  have c3r := B_r.out.c3
  have f0r := B_r.out.f0
  have f1r := B_r.out.f1
  have f2r := B_r.out.f2
  have f3r := B_r.out.f3
  go_enter Tryz.func52, Tryz.ntmps52
  go_wp2_with fail
  clear c0x c1x f0x f1x c0y c1y f0y f1y c0r c1r c2r c3r f0r f1r f2r f3r
  generalize ((w.alloc (.cells #[.bool sx, (.slice Ax kx cx)] 24)).alloc (.cells #[.bool sy, (.slice Ay ky cy)] 24)).alloc (.cells #[.bool false, (.slice none 0 0), .bool false, (.slice none 0 0)] 26) = W0 at *
  refine (RSign_lt (Rd.below V_x.out (by exact ⟨rfl, rfl, rfl, Nat.le_refl _, fun _ _ => rfl⟩)) (by omega) HA.out).mono ?_
  rintro e w1 ⟨rfl, bb⟩
  replace bb := nextw (w0 := W0) (by exact ⟨rfl, rfl, rfl, Nat.le_refl _, fun _ _ => rfl⟩) bb
  replace B_x := Lib.hid (Box.below B_x.out bb B_x.out.lt)
  replace B_y := Lib.hid (Box.below B_y.out bb B_y.out.lt)
  replace B_r := Lib.hid (Box4.below B_r.out bb B_r.out.lt)
  replace V_x := Lib.hid (Rd.below V_x.out bb)
  replace V_y := Lib.hid (Rd.below V_y.out bb)
  replace HB := Lib.hid (nextw HB.out bb)
  clear bb
  have c0x := B_x.out.c0
  have c1x := B_x.out.c1
  have f0x := B_x.out.f0
  have f1x := B_x.out.f1
  have c0y := B_y.out.c0
  have c1y := B_y.out.c1
  have f0y := B_y.out.f0
  have f1y := B_y.out.f1
  have c0r := B_r.out.c0
  have c1r := B_r.out.c1
  have c2r := B_r.out.c2
  have c3r := B_r.out.c3
  have f0r := B_r.out.f0
  have f1r := B_r.out.f1
  have f2r := B_r.out.f2
  have f3r := B_r.out.f3
  go_wp2_with fail
  refine (RSign_gt (Rd.below V_y.out (by exact ⟨rfl, rfl, rfl, Nat.le_refl _, fun _ _ => rfl⟩)) (by omega) HBB.out).mono ?_
  rintro e w2 ⟨rfl, bb⟩
  replace bb := nextw (w0 := w1) (by exact ⟨rfl, rfl, rfl, Nat.le_refl _, fun _ _ => rfl⟩) bb
  clear c0x c1x f0x f1x c0y c1y f0y f1y c0r c1r c2r c3r f0r f1r f2r f3r
  replace B_x := Lib.hid (Box.below B_x.out bb B_x.out.lt)
  replace B_y := Lib.hid (Box.below B_y.out bb B_y.out.lt)
  replace B_r := Lib.hid (Box4.below B_r.out bb B_r.out.lt)
  replace V_x := Lib.hid (Rd.below V_x.out bb)
  replace V_y := Lib.hid (Rd.below V_y.out bb)
  replace HB := Lib.hid (nextw HB.out bb)
  clear bb
  have c0x := B_x.out.c0
  have c1x := B_x.out.c1
  have f0x := B_x.out.f0
  have f1x := B_x.out.f1
  have c0y := B_y.out.c0
  have c1y := B_y.out.c1
  have f0y := B_y.out.f0
  have f1y := B_y.out.f1
  have c0r := B_r.out.c0
  have c1r := B_r.out.c1
  have c2r := B_r.out.c2
  have c3r := B_r.out.c3
  have f0r := B_r.out.f0
  have f1r := B_r.out.f1
  have f2r := B_r.out.f2
  have f3r := B_r.out.f3
  go_wp2_with fail
  refine (RSign_gt (Rd.below V_y.out (by exact ⟨rfl, rfl, rfl, Nat.le_refl _, fun _ _ => rfl⟩)) (by omega) HBB.out).mono ?_
  rintro e w3 ⟨rfl, bb⟩
  replace bb := nextw (w0 := w2) (by exact ⟨rfl, rfl, rfl, Nat.le_refl _, fun _ _ => rfl⟩) bb
  clear c0x c1x f0x f1x c0y c1y f0y f1y c0r c1r c2r c3r f0r f1r f2r f3r
  replace B_x := Lib.hid (Box.below B_x.out bb B_x.out.lt)
  replace B_y := Lib.hid (Box.below B_y.out bb B_y.out.lt)
  replace B_r := Lib.hid (Box4.below B_r.out bb B_r.out.lt)
  replace V_x := Lib.hid (Rd.below V_x.out bb)
  replace V_y := Lib.hid (Rd.below V_y.out bb)
  replace HB := Lib.hid (nextw HB.out bb)
  clear bb
  have c0x := B_x.out.c0
  have c1x := B_x.out.c1
  have f0x := B_x.out.f0
  have f1x := B_x.out.f1
  have c0y := B_y.out.c0
  have c1y := B_y.out.c1
  have f0y := B_y.out.f0
  have f1y := B_y.out.f1
  have c0r := B_r.out.c0
  have c1r := B_r.out.c1
  have c2r := B_r.out.c2
  have c3r := B_r.out.c3
  have f0r := B_r.out.f0
  have f1r := B_r.out.f1
  have f2r := B_r.out.f2
  have f3r := B_r.out.f3
  obtain ⟨A, hA⟩ : ∃ A, a = A := ⟨_, rfl⟩
  obtain ⟨B, hB⟩ : ∃ B, b = B := ⟨_, rfl⟩
  have hf : Rat.divInt A B = Rat.divInt a b := by rw [← hA, ← hB]
  have hB0 : 0 < B := by have := HBB.out; omega
  rw [hA] at V_x
  rw [hB] at V_y
  have e1 : A / ((Nat.gcd A.natAbs B.natAbs : Nat) : Int) = (Rat.divInt a b).num := by rw [← hf, new_num hB0]; rfl
  have e2 : B / ((Nat.gcd A.natAbs B.natAbs : Nat) : Int) = ((Rat.divInt a b).den : Int) := by rw [← hf, new_den hB0]; rfl
  have e3 : 0 < ((Nat.gcd A.natAbs B.natAbs : Nat) : Int) := by have := gcd_pos (a := A) hB0; rw [gcd_nat] at this; omega
  have e4 : A % ((Nat.gcd A.natAbs B.natAbs : Nat) : Int) = 0 := Int.emod_eq_zero_of_dvd (show (Int.gcd A B : Int) ∣ A from Int.gcd_dvd_left ..)
  have e5 : B % ((Nat.gcd A.natAbs B.natAbs : Nat) : Int) = 0 := Int.emod_eq_zero_of_dvd (show (Int.gcd A B : Int) ∣ B from Int.gcd_dvd_right ..)
  have E1 := Lib.hid e1
  have E2 := Lib.hid e2
  have E3 := Lib.hid e3
  have E4 := Lib.hid e4
  have E5 := Lib.hid e5
  clear e1 e2 e3 e4 e5 hf hB0 hA hB
  go_wp2_with fail
  refine (RGcd_rd (Rd.below V_x.out (by exact ⟨rfl, rfl, rfl, Nat.le_refl _, fun _ _ => rfl⟩)) (Rd.below V_y.out (by exact ⟨rfl, rfl, rfl, Nat.le_refl _, fun _ _ => rfl⟩)) (by omega) (by omega)).mono ?_
  rintro e w4 ⟨vg, rfl, rg, bb⟩
  replace bb := nextw (w0 := w3) (by exact ⟨rfl, rfl, rfl, Nat.le_refl _, fun _ _ => rfl⟩) bb
  clear c0x c1x f0x f1x c0y c1y f0y f1y c0r c1r c2r c3r f0r f1r f2r f3r
  replace B_x := Lib.hid (Box.below B_x.out bb B_x.out.lt)
  replace B_y := Lib.hid (Box.below B_y.out bb B_y.out.lt)
  replace B_r := Lib.hid (Box4.below B_r.out bb B_r.out.lt)
  replace V_x := Lib.hid (Rd.below V_x.out bb)
  replace V_y := Lib.hid (Rd.below V_y.out bb)
  replace HB := Lib.hid (nextw HB.out bb)
  clear bb
  obtain ⟨sg, Ag, kg, cg, rfl⟩ := rg.shape
  have V_g := Lib.hid rg
  clear rg
  have Z1x := Lib.hid B_x.out.lt
  have Z2y := Lib.hid B_y.out.lt
  have Z3r := Lib.hid B_r.out.lt
  have hb0 : Below w4.heap.size w4 (w4.alloc (.cells #[.bool sg, (.slice Ag kg cg)] 24)) := (Below.alloc (Below.refl w4.heap.size w4) (by simp <;> omega) _)
  have B_g : Box (w4.alloc (.cells #[.bool sg, (.slice Ag kg cg)] 24)) (w4.heap.size) sg (.slice Ag kg cg) := by have h := Box.new w4 sg (.slice Ag kg cg); simpa using h
  replace B_g := Lib.hid B_g
  replace B_x := Lib.hid (Box.below B_x.out hb0 B_x.out.lt)
  replace B_y := Lib.hid (Box.below B_y.out hb0 B_y.out.lt)
  replace B_r := Lib.hid (Box4.below B_r.out hb0 B_r.out.lt)
  replace V_x := Lib.hid (Rd.below V_x.out hb0)
  replace V_y := Lib.hid (Rd.below V_y.out hb0)
  replace V_g := Lib.hid (Rc.below V_g.out hb0)
  replace HB := Lib.hid (nextw HB.out hb0)
  clear hb0
  have c0x := B_x.out.c0
  have c1x := B_x.out.c1
  have c0y := B_y.out.c0
  have c1y := B_y.out.c1
  have c0g := B_g.out.c0
  have c1g := B_g.out.c1
  have c0r := B_r.out.c0
  have c1r := B_r.out.c1
  have c2r := B_r.out.c2
  have c3r := B_r.out.c3
  go_wp2
  clear c0x c1x c0y c1y c0g c1g c0r c1r c2r c3r
  generalize w4.alloc (.cells #[.bool sg, (.slice Ag kg cg)] 24) = W3 at *
  have c0x := B_x.out.c0
  have c1x := B_x.out.c1
  have c0y := B_y.out.c0
  have c1y := B_y.out.c1
  have c0g := B_g.out.c0
  have c1g := B_g.out.c1
  have z1x := Z1x.out
  have z2y := Z2y.out
  have z3r := Z3r.out
  have tk0 : True := trivial
  first | (go_region_held3 (fun w' => w'.cell? ⟨w.heap.size, 0, none⟩ = some (.bool sx) ∧ w'.cell? ⟨w.heap.size, 1, none⟩ = some (.slice Ax kx cx) ∧ w'.cell? ⟨w.heap.size + 1, 0, none⟩ = some (.bool sy) ∧ w'.cell? ⟨w.heap.size + 1, 1, none⟩ = some (.slice Ay ky cy) ∧ w'.cell? ⟨w4.heap.size, 0, none⟩ = some (.bool sg) ∧ w'.cell? ⟨w4.heap.size, 1, none⟩ = some (.slice Ag kg cg)) (((try dsimp only); (repeat' apply And.intro) <;> (first | (with_reducible assumption) | ((repeat (first | (with_reducible refine Eq.trans (cell_drew1 _ _) ?_) | (with_reducible refine Eq.trans (cell_set4 (by omega) _ _ _ _) ?_))); with_reducible assumption) | assumption | go_keep)))
    (first
      | (have _t := tk0; clear _t tk0; go_at_call 69; refine (part_rd (Rd.below V_x.out (by exact ⟨rfl, rfl, rfl, Nat.le_refl _, fun _ _ => rfl⟩)) (Rc.rd (Rc.below V_g.out (by exact ⟨rfl, rfl, rfl, Nat.le_refl _, fun _ _ => rfl⟩))) (by omega) (by omega) E3.out E4.out).mono ?_; rintro e w5 ⟨vp, rfl, rp, bb⟩; replace bb := nextw (w0 := W3) (by exact ⟨rfl, rfl, rfl, Nat.le_refl _, fun _ _ => rfl⟩) bb; replace B_x := Lib.hid (Box.below B_x.out bb B_x.out.lt); replace B_y := Lib.hid (Box.below B_y.out bb B_y.out.lt); replace B_r := Lib.hid (Box4.below B_r.out bb B_r.out.lt); replace B_g := Lib.hid (Box.below B_g.out bb B_g.out.lt); replace V_x := Lib.hid (Rd.below V_x.out bb); replace V_y := Lib.hid (Rd.below V_y.out bb); replace V_g := Lib.hid (Rc.below V_g.out bb); replace HB := Lib.hid (nextw HB.out bb); clear bb; replace rp := Lib.hid rp; have V_p := rp; clear rp; obtain ⟨s1, A1, k1, c1, rfl⟩ := V_p.out.shape; have c0x := B_x.out.c0; have c1x := B_x.out.c1; have c0y := B_y.out.c0; have c1y := B_y.out.c1; have c0g := B_g.out.c0; have c1g := B_g.out.c1; have tk1 : True := trivial)
      | (have _t := tk1; clear _t tk1; go_at_call 69; refine (part_rd (Rd.below V_y.out (by exact ⟨rfl, rfl, rfl, Nat.le_refl _, fun _ _ => rfl⟩)) (Rc.rd (Rc.below V_g.out (by exact ⟨rfl, rfl, rfl, Nat.le_refl _, fun _ _ => rfl⟩))) (by omega) (by omega) E3.out E5.out).mono ?_; rintro e w6 ⟨vq, rfl, rq, bb⟩; replace bb := nextw (w0 := w5) (by exact ⟨rfl, rfl, rfl, Nat.le_refl _, fun _ _ => rfl⟩) bb; replace B_x := Lib.hid (Box.below B_x.out bb B_x.out.lt); replace B_y := Lib.hid (Box.below B_y.out bb B_y.out.lt); replace B_r := Lib.hid (Box4.below B_r.out bb B_r.out.lt); replace B_g := Lib.hid (Box.below B_g.out bb B_g.out.lt); replace V_x := Lib.hid (Rd.below V_x.out bb); replace V_y := Lib.hid (Rd.below V_y.out bb); replace V_g := Lib.hid (Rc.below V_g.out bb); replace V_p := Lib.hid (Rc.below V_p.out bb); replace HB := Lib.hid (nextw HB.out bb); clear bb; replace rq := Lib.hid rq; have V_q := rq; clear rq; obtain ⟨s2, A2, k2, c2, rfl⟩ := V_q.out.shape; have c0r := B_r.out.c0; have c1r := B_r.out.c1; have c2r := B_r.out.c2; have c3r := B_r.out.c3; have f0r := B_r.out.f0; have f1r := B_r.out.f1; have f2r := B_r.out.f2; have f3r := B_r.out.f3; have c0x := B_x.out.c0; have c1x := B_x.out.c1; have c0y := B_y.out.c0; have c1y := B_y.out.c1; have c0g := B_g.out.c0; have c1g := B_g.out.c1; have tk2 : True := trivial))) | fail
  all_goals (clear z1x z2y z3r)
  all_goals
    skip
    have K_p := V_p
    have K_q := V_q
    replace K_p := Lib.hid (Box4.keepsRc B_r.out K_p.out (.bool s1) (.slice A1 k1 c1) (.bool s2) (.slice A2 k2 c2))
    replace K_q := Lib.hid (Box4.keepsRc B_r.out K_q.out (.bool s1) (.slice A1 k1 c1) (.bool s2) (.slice A2 k2 c2))
    have HB1 := Lib.hid (Below.store4 HB.out (y := w.heap.size + 1 + 1) (by omega) (.bool s1) (.slice A1 k1 c1) (.bool s2) (.slice A2 k2 c2))
    have N0r := Lib.hid (Box4.store B_r.out s1 (.slice A1 k1 c1) s2 (.slice A2 k2 c2))
    have s0r := N0r.out.c0
    have s1r := N0r.out.c1
    have s2r := N0r.out.c2
    have s3r := N0r.out.c3
    simp only [st4] at s0r s1r s2r s3r
    have HBF := HB1
    have c0r := B_r.out.c0
    have c1r := B_r.out.c1
    have c2r := B_r.out.c2
    have c3r := B_r.out.c3
    have f0r := B_r.out.f0
    have f1r := B_r.out.f1
    have f2r := B_r.out.f2
    have f3r := B_r.out.f3
    go_wp2_with fail
    exact bodyPost_ret (v := .agg #[.bool s1, (.slice A1 k1 c1), .bool s2, (.slice A2 k2 c2)]) (by simp [results, Tryz.results52, go_sem, s0r, s1r, s2r, s3r]) rfl ⟨_, rfl, Qc.mk (((Rc.below K_p.out (by exact ⟨rfl, rfl, rfl, Nat.le_refl _, fun _ _ => rfl⟩)).of_eq E1.out).more (by omega)) (((Rc.below K_q.out (by exact ⟨rfl, rfl, rfl, Nat.le_refl _, fun _ _ => rfl⟩)).of_eq E2.out).more (by omega)), (nextw HBF.out (by exact ⟨rfl, rfl, rfl, Nat.le_refl _, fun _ _ => rfl⟩))⟩

set_option maxRecDepth 100000 in
set_option maxHeartbeats 4000000 in
theorem RNew_bgt {v1 v2 : Value} {a b : Int} {k : Nat} {w : World} (h1 : Rd w v1 a k) (h2 : Rd w v2 b k) (f : k ≤ 5000) (ha : 0 < a) (hb : b = 0) :
    Calls Tryz.prog 52 #[v1, v2] w fun e w' => ∃ v, e = .returned v ∧ Qc w' v (Rat.divInt a b) (k + 2) ∧ Below w.heap.size w w' := by
  have HA := Lib.hid ha
  have HBB := Lib.hid hb
  clear ha hb
  obtain ⟨sx, Ax, kx, cx, rfl, -⟩ := h1.shape
  obtain ⟨sy, Ay, ky, cy, rfl, -⟩ := h2.shape
  have V_x := Lib.hid h1
  have V_y := Lib.hid h2
  clear h1 h2
  have hb0 : Below w.heap.size w (((w.alloc (.cells #[.bool sx, (.slice Ax kx cx)] 24)).alloc (.cells #[.bool sy, (.slice Ay ky cy)] 24)).alloc (.cells #[.bool false, (.slice none 0 0), .bool false, (.slice none 0 0)] 26)) := (Below.alloc (Below.alloc (Below.alloc (Below.refl w.heap.size w) (by simp <;> omega) _) (by simp <;> omega) _) (by simp <;> omega) _)
  have B_x : Box (((w.alloc (.cells #[.bool sx, (.slice Ax kx cx)] 24)).alloc (.cells #[.bool sy, (.slice Ay ky cy)] 24)).alloc (.cells #[.bool false, (.slice none 0 0), .bool false, (.slice none 0 0)] 26)) (w.heap.size) sx (.slice Ax kx cx) := by have h := Box.alloc (Box.alloc (Box.new w sx (.slice Ax kx cx)) (.cells #[.bool sy, (.slice Ay ky cy)] 24)) (.cells #[.bool false, (.slice none 0 0), .bool false, (.slice none 0 0)] 26); simpa using h
  replace B_x := Lib.hid B_x
  have B_y : Box (((w.alloc (.cells #[.bool sx, (.slice Ax kx cx)] 24)).alloc (.cells #[.bool sy, (.slice Ay ky cy)] 24)).alloc (.cells #[.bool false, (.slice none 0 0), .bool false, (.slice none 0 0)] 26)) (w.heap.size + 1) sy (.slice Ay ky cy) := by have h := Box.alloc (Box.new (w.alloc (.cells #[.bool sx, (.slice Ax kx cx)] 24)) sy (.slice Ay ky cy)) (.cells #[.bool false, (.slice none 0 0), .bool false, (.slice none 0 0)] 26); simpa using h
  replace B_y := Lib.hid B_y
  have B_r : Box4 (((w.alloc (.cells #[.bool sx, (.slice Ax kx cx)] 24)).alloc (.cells #[.bool sy, (.slice Ay ky cy)] 24)).alloc (.cells #[.bool false, (.slice none 0 0), .bool false, (.slice none 0 0)] 26)) (w.heap.size + 1 + 1) false (.slice none 0 0) false (.slice none 0 0) := by have h := Box4.new ((w.alloc (.cells #[.bool sx, (.slice Ax kx cx)] 24)).alloc (.cells #[.bool sy, (.slice Ay ky cy)] 24)) false (.slice none 0 0) false (.slice none 0 0); simpa using h
  replace B_r := Lib.hid B_r
  replace V_x := Lib.hid (Rd.below V_x.out hb0)
  replace V_y := Lib.hid (Rd.below V_y.out hb0)
  have HB := Lib.hid hb0
  clear hb0
  have c0x := B_x.out.c0
  have c1x := B_x.out.c1
  have f0x := B_x.out.f0
  have f1x := B_x.out.f1
  have c0y := B_y.out.c0
  have c1y := B_y.out.c1
  have f0y := B_y.out.f0
  have f1y := B_y.out.f1
  have c0r := B_r.out.c0
  have c1r := B_r.out.c1
  have c2r := B_r.out.c2
  have c3r := B_r.out.c3
  have f0r := B_r.out.f0
  have f1r := B_r.out.f1
  have f2r := B_r.out.f2
  have f3r := B_r.out.f3
  go_enter Tryz.func52, Tryz.ntmps52
  go_wp2_with fail
  clear c0x c1x f0x f1x c0y c1y f0y f1y c0r c1r c2r c3r f0r f1r f2r f3r
  generalize ((w.alloc (.cells #[.bool sx, (.slice Ax kx cx)] 24)).alloc (.cells #[.bool sy, (.slice Ay ky cy)] 24)).alloc (.cells #[.bool false, (.slice none 0 0), .bool false, (.slice none 0 0)] 26) = W0 at *
  refine (RSign_gt (Rd.below V_x.out (by exact ⟨rfl, rfl, rfl, Nat.le_refl _, fun _ _ => rfl⟩)) (by omega) HA.out).mono ?_
  rintro e w1 ⟨rfl, bb⟩
  replace bb := nextw (w0 := W0) (by exact ⟨rfl, rfl, rfl, Nat.le_refl _, fun _ _ => rfl⟩) bb
  replace B_x := Lib.hid (Box.below B_x.out bb B_x.out.lt)
  replace B_y := Lib.hid (Box.below B_y.out bb B_y.out.lt)
  replace B_r := Lib.hid (Box4.below B_r.out bb B_r.out.lt)
  replace V_x := Lib.hid (Rd.below V_x.out bb)
  replace V_y := Lib.hid (Rd.below V_y.out bb)
  replace HB := Lib.hid (nextw HB.out bb)
  clear bb
  have c0x := B_x.out.c0
  have c1x := B_x.out.c1
  have f0x := B_x.out.f0
  have f1x := B_x.out.f1
  have c0y := B_y.out.c0
  have c1y := B_y.out.c1
  have f0y := B_y.out.f0
  have f1y := B_y.out.f1
  have c0r := B_r.out.c0
  have c1r := B_r.out.c1
  have c2r := B_r.out.c2
  have c3r := B_r.out.c3
  have f0r := B_r.out.f0
  have f1r := B_r.out.f1
  have f2r := B_r.out.f2
  have f3r := B_r.out.f3
  go_wp2_with fail
  refine (RSign_eq (Rd.below V_y.out (by exact ⟨rfl, rfl, rfl, Nat.le_refl _, fun _ _ => rfl⟩)) (by omega) HBB.out).mono ?_
  rintro e w2 ⟨rfl, bb⟩
  replace bb := nextw (w0 := w1) (by exact ⟨rfl, rfl, rfl, Nat.le_refl _, fun _ _ => rfl⟩) bb
  clear c0x c1x f0x f1x c0y c1y f0y f1y c0r c1r c2r c3r f0r f1r f2r f3r
  replace B_x := Lib.hid (Box.below B_x.out bb B_x.out.lt)
  replace B_y := Lib.hid (Box.below B_y.out bb B_y.out.lt)
  replace B_r := Lib.hid (Box4.below B_r.out bb B_r.out.lt)
  replace V_x := Lib.hid (Rd.below V_x.out bb)
  replace V_y := Lib.hid (Rd.below V_y.out bb)
  replace HB := Lib.hid (nextw HB.out bb)
  clear bb
  have c0r := B_r.out.c0
  have c1r := B_r.out.c1
  have c2r := B_r.out.c2
  have c3r := B_r.out.c3
  have f0r := B_r.out.f0
  have f1r := B_r.out.f1
  have f2r := B_r.out.f2
  have f3r := B_r.out.f3
  go_wp2_with fail
  refine (ROf_rc 0 (by omega) (by omega)).mono ?_
  rintro e w3 ⟨vo, rfl, ro, bb⟩
  replace bb := nextw (w0 := w2) (by exact ⟨rfl, rfl, rfl, Nat.le_refl _, fun _ _ => rfl⟩) bb
  clear c0r c1r c2r c3r f0r f1r f2r f3r
  replace B_x := Lib.hid (Box.below B_x.out bb B_x.out.lt)
  replace B_y := Lib.hid (Box.below B_y.out bb B_y.out.lt)
  replace B_r := Lib.hid (Box4.below B_r.out bb B_r.out.lt)
  replace V_x := Lib.hid (Rd.below V_x.out bb)
  replace V_y := Lib.hid (Rd.below V_y.out bb)
  replace HB := Lib.hid (nextw HB.out bb)
  clear bb
  obtain ⟨so, Ao, ko, co, rfl⟩ := ro.shape
  have V_o := Lib.hid ro
  clear ro
  go_wp2_with fail
  refine (ROne_rc).mono ?_
  rintro e w4 ⟨vi, rfl, ri, bb⟩
  replace bb := nextw (w0 := w3) (by exact ⟨rfl, rfl, rfl, Nat.le_refl _, fun _ _ => rfl⟩) bb
  replace B_x := Lib.hid (Box.below B_x.out bb B_x.out.lt)
  replace B_y := Lib.hid (Box.below B_y.out bb B_y.out.lt)
  replace B_r := Lib.hid (Box4.below B_r.out bb B_r.out.lt)
  replace V_x := Lib.hid (Rd.below V_x.out bb)
  replace V_y := Lib.hid (Rd.below V_y.out bb)
  replace V_o := Lib.hid (Rc.below V_o.out bb)
  replace HB := Lib.hid (nextw HB.out bb)
  clear bb
  obtain ⟨si, Ai, ki, ci, rfl⟩ := ri.shape
  have V_i := Lib.hid ri
  clear ri
  have hq : Rat.divInt a b = 0 := by rw [HBB.out]; exact Rat.divInt_zero a
  have HQ := Lib.hid hq
  clear hq
  skip
  have K_o := V_o
  have K_i := V_i
  replace K_o := Lib.hid (Box4.keepsRc B_r.out K_o.out (.bool so) (.slice Ao ko co) (.bool si) (.slice Ai ki ci))
  replace K_i := Lib.hid (Box4.keepsRc B_r.out K_i.out (.bool so) (.slice Ao ko co) (.bool si) (.slice Ai ki ci))
  have HB1 := Lib.hid (Below.store4 HB.out (y := w.heap.size + 1 + 1) (by omega) (.bool so) (.slice Ao ko co) (.bool si) (.slice Ai ki ci))
  have N0r := Lib.hid (Box4.store B_r.out so (.slice Ao ko co) si (.slice Ai ki ci))
  have s0r := N0r.out.c0
  have s1r := N0r.out.c1
  have s2r := N0r.out.c2
  have s3r := N0r.out.c3
  simp only [st4] at s0r s1r s2r s3r
  have HBF := HB1
  have c0r := B_r.out.c0
  have c1r := B_r.out.c1
  have c2r := B_r.out.c2
  have c3r := B_r.out.c3
  have f0r := B_r.out.f0
  have f1r := B_r.out.f1
  have f2r := B_r.out.f2
  have f3r := B_r.out.f3
  go_wp2_with fail
  exact bodyPost_ret (v := .agg #[.bool so, (.slice Ao ko co), .bool si, (.slice Ai ki ci)]) (by simp [results, Tryz.results52, go_sem, s0r, s1r, s2r, s3r]) rfl ⟨_, rfl, Qc.mk (((Rc.below K_o.out (by exact ⟨rfl, rfl, rfl, Nat.le_refl _, fun _ _ => rfl⟩)).more (by omega)).of_eq (by rw [HQ.out]; rfl)) (((Rc.below K_i.out (by exact ⟨rfl, rfl, rfl, Nat.le_refl _, fun _ _ => rfl⟩)).more (by omega)).of_eq (by rw [HQ.out]; rfl)), (nextw HBF.out (by exact ⟨rfl, rfl, rfl, Nat.le_refl _, fun _ _ => rfl⟩))⟩

set_option maxRecDepth 100000 in
set_option maxHeartbeats 8000000 in
theorem RNew_gtlt {v1 v2 : Value} {a b : Int} {k : Nat} {w : World} (h1 : Rd w v1 a k) (h2 : Rd w v2 b k) (f : k ≤ 5000) (ha : 0 < a) (hb : b < 0) :
    Calls Tryz.prog 52 #[v1, v2] w fun e w' => ∃ v, e = .returned v ∧ Qc w' v (Rat.divInt a b) (k + 2) ∧ Below w.heap.size w w' := by
  have HA := Lib.hid ha
  have HBB := Lib.hid hb
  clear ha hb
  obtain ⟨sx, Ax, kx, cx, rfl, -⟩ := h1.shape
  obtain ⟨sy, Ay, ky, cy, rfl, -⟩ := h2.shape
  have V_x := Lib.hid h1
  have V_y := Lib.hid h2
  clear h1 h2
  have hb0 : Below w.heap.size w (((w.alloc (.cells #[.bool sx, (.slice Ax kx cx)] 24)).alloc (.cells #[.bool sy, (.slice Ay ky cy)] 24)).alloc (.cells #[.bool false, (.slice none 0 0), .bool false, (.slice none 0 0)] 26)) := (Below.alloc (Below.alloc (Below.alloc (Below.refl w.heap.size w) (by simp <;> omega) _) (by simp <;> omega) _) (by simp <;> omega) _)
  have B_x : Box (((w.alloc (.cells #[.bool sx, (.slice Ax kx cx)] 24)).alloc (.cells #[.bool sy, (.slice Ay ky cy)] 24)).alloc (.cells #[.bool false, (.slice none 0 0), .bool false, (.slice none 0 0)] 26)) (w.heap.size) sx (.slice Ax kx cx) := by have h := Box.alloc (Box.alloc (Box.new w sx (.slice Ax kx cx)) (.cells #[.bool sy, (.slice Ay ky cy)] 24)) (.cells #[.bool false, (.slice none 0 0), .bool false, (.slice none 0 0)] 26); simpa using h
  replace B_x := Lib.hid B_x
  have B_y : Box (((w.alloc (.cells #[.bool sx, (.slice Ax kx cx)] 24)).alloc (.cells #[.bool sy, (.slice Ay ky cy)] 24)).alloc (.cells #[.bool false, (.slice none 0 0), .bool false, (.slice none 0 0)] 26)) (w.heap.size + 1) sy (.slice Ay ky cy) := by have h := Box.alloc (Box.new (w.alloc (.cells #[.bool sx, (.slice Ax kx cx)] 24)) sy (.slice Ay ky cy)) (.cells #[.bool false, (.slice none 0 0), .bool false, (.slice none 0 0)] 26); simpa using h
  replace B_y := Lib.hid B_y
  have B_r : Box4 (((w.alloc (.cells #[.bool sx, (.slice Ax kx cx)] 24)).alloc (.cells #[.bool sy, (.slice Ay ky cy)] 24)).alloc (.cells #[.bool false, (.slice none 0 0), .bool false, (.slice none 0 0)] 26)) (w.heap.size + 1 + 1) false (.slice none 0 0) false (.slice none 0 0) := by have h := Box4.new ((w.alloc (.cells #[.bool sx, (.slice Ax kx cx)] 24)).alloc (.cells #[.bool sy, (.slice Ay ky cy)] 24)) false (.slice none 0 0) false (.slice none 0 0); simpa using h
  replace B_r := Lib.hid B_r
  replace V_x := Lib.hid (Rd.below V_x.out hb0)
  replace V_y := Lib.hid (Rd.below V_y.out hb0)
  have HB := Lib.hid hb0
  clear hb0
  have c0x := B_x.out.c0
  have c1x := B_x.out.c1
  have f0x := B_x.out.f0
  have f1x := B_x.out.f1
  have c0y := B_y.out.c0
  have c1y := B_y.out.c1
  have f0y := B_y.out.f0
  have f1y := B_y.out.f1
  have c0r := B_r.out.c0
  have c1r := B_r.out.c1
  have c2r := B_r.out.c2
  have c3r := B_r.out.c3
  have f0r := B_r.out.f0
  have f1r := B_r.out.f1
  have f2r := B_r.out.f2
  have f3r := B_r.out.f3
  go_enter Tryz.func52, Tryz.ntmps52
  go_wp2_with fail
  clear c0x c1x f0x f1x c0y c1y f0y f1y c0r c1r c2r c3r f0r f1r f2r f3r
  generalize ((w.alloc (.cells #[.bool sx, (.slice Ax kx cx)] 24)).alloc (.cells #[.bool sy, (.slice Ay ky cy)] 24)).alloc (.cells #[.bool false, (.slice none 0 0), .bool false, (.slice none 0 0)] 26) = W0 at *
  refine (RSign_gt (Rd.below V_x.out (by exact ⟨rfl, rfl, rfl, Nat.le_refl _, fun _ _ => rfl⟩)) (by omega) HA.out).mono ?_
  rintro e w1 ⟨rfl, bb⟩
  replace bb := nextw (w0 := W0) (by exact ⟨rfl, rfl, rfl, Nat.le_refl _, fun _ _ => rfl⟩) bb
  replace B_x := Lib.hid (Box.below B_x.out bb B_x.out.lt)
  replace B_y := Lib.hid (Box.below B_y.out bb B_y.out.lt)
  replace B_r := Lib.hid (Box4.below B_r.out bb B_r.out.lt)
  replace V_x := Lib.hid (Rd.below V_x.out bb)
  replace V_y := Lib.hid (Rd.below V_y.out bb)
  replace HB := Lib.hid (nextw HB.out bb)
  clear bb
  have c0x := B_x.out.c0
  have c1x := B_x.out.c1
  have f0x := B_x.out.f0
  have f1x := B_x.out.f1
  have c0y := B_y.out.c0
  have c1y := B_y.out.c1
  have f0y := B_y.out.f0
  have f1y := B_y.out.f1
  have c0r := B_r.out.c0
  have c1r := B_r.out.c1
  have c2r := B_r.out.c2
  have c3r := B_r.out.c3
  have f0r := B_r.out.f0
  have f1r := B_r.out.f1
  have f2r := B_r.out.f2
  have f3r := B_r.out.f3
  go_wp2_with fail
  refine (RSign_lt (Rd.below V_y.out (by exact ⟨rfl, rfl, rfl, Nat.le_refl _, fun _ _ => rfl⟩)) (by omega) HBB.out).mono ?_
  rintro e w2 ⟨rfl, bb⟩
  replace bb := nextw (w0 := w1) (by exact ⟨rfl, rfl, rfl, Nat.le_refl _, fun _ _ => rfl⟩) bb
  clear c0x c1x f0x f1x c0y c1y f0y f1y c0r c1r c2r c3r f0r f1r f2r f3r
  replace B_x := Lib.hid (Box.below B_x.out bb B_x.out.lt)
  replace B_y := Lib.hid (Box.below B_y.out bb B_y.out.lt)
  replace B_r := Lib.hid (Box4.below B_r.out bb B_r.out.lt)
  replace V_x := Lib.hid (Rd.below V_x.out bb)
  replace V_y := Lib.hid (Rd.below V_y.out bb)
  replace HB := Lib.hid (nextw HB.out bb)
  clear bb
  have c0x := B_x.out.c0
  have c1x := B_x.out.c1
  have f0x := B_x.out.f0
  have f1x := B_x.out.f1
  have c0y := B_y.out.c0
  have c1y := B_y.out.c1
  have f0y := B_y.out.f0
  have f1y := B_y.out.f1
  have c0r := B_r.out.c0
  have c1r := B_r.out.c1
  have c2r := B_r.out.c2
  have c3r := B_r.out.c3
  have f0r := B_r.out.f0
  have f1r := B_r.out.f1
  have f2r := B_r.out.f2
  have f3r := B_r.out.f3
  go_wp2_with fail
  refine (RSign_lt (Rd.below V_y.out (by exact ⟨rfl, rfl, rfl, Nat.le_refl _, fun _ _ => rfl⟩)) (by omega) HBB.out).mono ?_
  rintro e w3 ⟨rfl, bb⟩
  replace bb := nextw (w0 := w2) (by exact ⟨rfl, rfl, rfl, Nat.le_refl _, fun _ _ => rfl⟩) bb
  clear c0x c1x f0x f1x c0y c1y f0y f1y c0r c1r c2r c3r f0r f1r f2r f3r
  replace B_x := Lib.hid (Box.below B_x.out bb B_x.out.lt)
  replace B_y := Lib.hid (Box.below B_y.out bb B_y.out.lt)
  replace B_r := Lib.hid (Box4.below B_r.out bb B_r.out.lt)
  replace V_x := Lib.hid (Rd.below V_x.out bb)
  replace V_y := Lib.hid (Rd.below V_y.out bb)
  replace HB := Lib.hid (nextw HB.out bb)
  clear bb
  have c0x := B_x.out.c0
  have c1x := B_x.out.c1
  have f0x := B_x.out.f0
  have f1x := B_x.out.f1
  have c0y := B_y.out.c0
  have c1y := B_y.out.c1
  have f0y := B_y.out.f0
  have f1y := B_y.out.f1
  have c0r := B_r.out.c0
  have c1r := B_r.out.c1
  have c2r := B_r.out.c2
  have c3r := B_r.out.c3
  have f0r := B_r.out.f0
  have f1r := B_r.out.f1
  have f2r := B_r.out.f2
  have f3r := B_r.out.f3
  go_wp2_with fail
  refine (RNeg_rd (Rd.below V_x.out (by exact ⟨rfl, rfl, rfl, Nat.le_refl _, fun _ _ => rfl⟩)) (by omega)).mono ?_
  rintro e w4 ⟨vp, rfl, rp, bb⟩
  replace bb := nextw (w0 := w3) (by exact ⟨rfl, rfl, rfl, Nat.le_refl _, fun _ _ => rfl⟩) bb
  clear c0x c1x f0x f1x c0y c1y f0y f1y c0r c1r c2r c3r f0r f1r f2r f3r
  replace B_x := Lib.hid (Box.below B_x.out bb B_x.out.lt)
  replace B_y := Lib.hid (Box.below B_y.out bb B_y.out.lt)
  replace B_r := Lib.hid (Box4.below B_r.out bb B_r.out.lt)
  replace V_x := Lib.hid (Rd.below V_x.out bb)
  replace V_y := Lib.hid (Rd.below V_y.out bb)
  replace HB := Lib.hid (nextw HB.out bb)
  clear bb
  obtain ⟨sp, Ap, kp, cp, rfl⟩ := rp.shape
  clear V_x
  have V_x := Lib.hid (Rc.rd rp)
  clear rp
  have c0x := B_x.out.c0
  have c1x := B_x.out.c1
  have f0x := B_x.out.f0
  have f1x := B_x.out.f1
  have c0y := B_y.out.c0
  have c1y := B_y.out.c1
  have f0y := B_y.out.f0
  have f1y := B_y.out.f1
  have c0r := B_r.out.c0
  have c1r := B_r.out.c1
  have c2r := B_r.out.c2
  have c3r := B_r.out.c3
  have f0r := B_r.out.f0
  have f1r := B_r.out.f1
  have f2r := B_r.out.f2
  have f3r := B_r.out.f3
  go_wp2_with fail
  clear c0x c1x f0x f1x c0y c1y f0y f1y c0r c1r c2r c3r f0r f1r f2r f3r
  replace V_y := Lib.hid (Box.keepsRd B_x.out V_y.out sp (.slice Ap kp cp))
  replace V_x := Lib.hid (Box.keepsRd B_x.out V_x.out sp (.slice Ap kp cp))
  replace B_y := Lib.hid (Box.far (y := w.heap.size) B_y.out (by omega) (.bool sp) (.slice Ap kp cp))
  replace B_r := Lib.hid (Box4.far (y := w.heap.size) B_r.out (by omega) (.bool sp) (.slice Ap kp cp))
  replace HB := Lib.hid (Below.store HB.out (x := w.heap.size) (by omega) (.bool sp) (.slice Ap kp cp))
  replace B_x := Lib.hid (Box.store B_x.out sp (.slice Ap kp cp))
  generalize ((w4.setCell ⟨w.heap.size, 0, none⟩ (.bool sp)).setCell ⟨w.heap.size, 1, none⟩ (.slice Ap kp cp)) = W1 at *
  have c0x := B_x.out.c0
  have c1x := B_x.out.c1
  have f0x := B_x.out.f0
  have f1x := B_x.out.f1
  have c0y := B_y.out.c0
  have c1y := B_y.out.c1
  have f0y := B_y.out.f0
  have f1y := B_y.out.f1
  have c0r := B_r.out.c0
  have c1r := B_r.out.c1
  have c2r := B_r.out.c2
  have c3r := B_r.out.c3
  have f0r := B_r.out.f0
  have f1r := B_r.out.f1
  have f2r := B_r.out.f2
  have f3r := B_r.out.f3
  refine (RNeg_rd (Rd.below V_y.out (by exact ⟨rfl, rfl, rfl, Nat.le_refl _, fun _ _ => rfl⟩)) (by omega)).mono ?_
  rintro e w5 ⟨vq, rfl, rq, bb⟩
  replace bb := nextw (w0 := W1) (by exact ⟨rfl, rfl, rfl, Nat.le_refl _, fun _ _ => rfl⟩) bb
  clear c0x c1x f0x f1x c0y c1y f0y f1y c0r c1r c2r c3r f0r f1r f2r f3r
  replace B_x := Lib.hid (Box.below B_x.out bb B_x.out.lt)
  replace B_y := Lib.hid (Box.below B_y.out bb B_y.out.lt)
  replace B_r := Lib.hid (Box4.below B_r.out bb B_r.out.lt)
  replace V_y := Lib.hid (Rd.below V_y.out bb)
  replace V_x := Lib.hid (Rd.below V_x.out bb)
  replace HB := Lib.hid (nextw HB.out bb)
  clear bb
  obtain ⟨sq, Aq, kq, cq, rfl⟩ := rq.shape
  clear V_y
  have V_y := Lib.hid (Rc.rd rq)
  clear rq
  have c0x := B_x.out.c0
  have c1x := B_x.out.c1
  have f0x := B_x.out.f0
  have f1x := B_x.out.f1
  have c0y := B_y.out.c0
  have c1y := B_y.out.c1
  have f0y := B_y.out.f0
  have f1y := B_y.out.f1
  have c0r := B_r.out.c0
  have c1r := B_r.out.c1
  have c2r := B_r.out.c2
  have c3r := B_r.out.c3
  have f0r := B_r.out.f0
  have f1r := B_r.out.f1
  have f2r := B_r.out.f2
  have f3r := B_r.out.f3
  go_wp2_with fail
  clear c0x c1x f0x f1x c0y c1y f0y f1y c0r c1r c2r c3r f0r f1r f2r f3r
  replace V_x := Lib.hid (Box.keepsRd B_y.out V_x.out sq (.slice Aq kq cq))
  replace V_y := Lib.hid (Box.keepsRd B_y.out V_y.out sq (.slice Aq kq cq))
  replace B_x := Lib.hid (Box.far (y := w.heap.size + 1) B_x.out (by omega) (.bool sq) (.slice Aq kq cq))
  replace B_r := Lib.hid (Box4.far (y := w.heap.size + 1) B_r.out (by omega) (.bool sq) (.slice Aq kq cq))
  replace HB := Lib.hid (Below.store HB.out (x := w.heap.size + 1) (by omega) (.bool sq) (.slice Aq kq cq))
  replace B_y := Lib.hid (Box.store B_y.out sq (.slice Aq kq cq))
  generalize ((w5.setCell ⟨w.heap.size + 1, 0, none⟩ (.bool sq)).setCell ⟨w.heap.size + 1, 1, none⟩ (.slice Aq kq cq)) = W2 at *
  have c0x := B_x.out.c0
  have c1x := B_x.out.c1
  have f0x := B_x.out.f0
  have f1x := B_x.out.f1
  have c0y := B_y.out.c0
  have c1y := B_y.out.c1
  have f0y := B_y.out.f0
  have f1y := B_y.out.f1
  have c0r := B_r.out.c0
  have c1r := B_r.out.c1
  have c2r := B_r.out.c2
  have c3r := B_r.out.c3
  have f0r := B_r.out.f0
  have f1r := B_r.out.f1
  have f2r := B_r.out.f2
  have f3r := B_r.out.f3
  obtain ⟨A, hA⟩ : ∃ A, -a = A := ⟨_, rfl⟩
  obtain ⟨B, hB⟩ : ∃ B, -b = B := ⟨_, rfl⟩
  have hf : Rat.divInt A B = Rat.divInt a b := by rw [← hA, ← hB]; exact Rat.neg_divInt_neg a b
  have hB0 : 0 < B := by have := HBB.out; omega
  rw [hA] at V_x
  rw [hB] at V_y
  have e1 : A / ((Nat.gcd A.natAbs B.natAbs : Nat) : Int) = (Rat.divInt a b).num := by rw [← hf, new_num hB0]; rfl
  have e2 : B / ((Nat.gcd A.natAbs B.natAbs : Nat) : Int) = ((Rat.divInt a b).den : Int) := by rw [← hf, new_den hB0]; rfl
  have e3 : 0 < ((Nat.gcd A.natAbs B.natAbs : Nat) : Int) := by have := gcd_pos (a := A) hB0; rw [gcd_nat] at this; omega
  have e4 : A % ((Nat.gcd A.natAbs B.natAbs : Nat) : Int) = 0 := Int.emod_eq_zero_of_dvd (show (Int.gcd A B : Int) ∣ A from Int.gcd_dvd_left ..)
  have e5 : B % ((Nat.gcd A.natAbs B.natAbs : Nat) : Int) = 0 := Int.emod_eq_zero_of_dvd (show (Int.gcd A B : Int) ∣ B from Int.gcd_dvd_right ..)
  have E1 := Lib.hid e1
  have E2 := Lib.hid e2
  have E3 := Lib.hid e3
  have E4 := Lib.hid e4
  have E5 := Lib.hid e5
  clear e1 e2 e3 e4 e5 hf hB0 hA hB
  refine (RGcd_rd (Rd.below V_x.out (by exact ⟨rfl, rfl, rfl, Nat.le_refl _, fun _ _ => rfl⟩)) (Rd.below V_y.out (by exact ⟨rfl, rfl, rfl, Nat.le_refl _, fun _ _ => rfl⟩)) (by omega) (by omega)).mono ?_
  rintro e w6 ⟨vg, rfl, rg, bb⟩
  replace bb := nextw (w0 := W2) (by exact ⟨rfl, rfl, rfl, Nat.le_refl _, fun _ _ => rfl⟩) bb
  clear c0x c1x f0x f1x c0y c1y f0y f1y c0r c1r c2r c3r f0r f1r f2r f3r
  replace B_x := Lib.hid (Box.below B_x.out bb B_x.out.lt)
  replace B_y := Lib.hid (Box.below B_y.out bb B_y.out.lt)
  replace B_r := Lib.hid (Box4.below B_r.out bb B_r.out.lt)
  replace V_x := Lib.hid (Rd.below V_x.out bb)
  replace V_y := Lib.hid (Rd.below V_y.out bb)
  replace HB := Lib.hid (nextw HB.out bb)
  clear bb
  obtain ⟨sg, Ag, kg, cg, rfl⟩ := rg.shape
  have V_g := Lib.hid rg
  clear rg
  have Z1x := Lib.hid B_x.out.lt
  have Z2y := Lib.hid B_y.out.lt
  have Z3r := Lib.hid B_r.out.lt
  have hb0 : Below w6.heap.size w6 (w6.alloc (.cells #[.bool sg, (.slice Ag kg cg)] 24)) := (Below.alloc (Below.refl w6.heap.size w6) (by simp <;> omega) _)
  have B_g : Box (w6.alloc (.cells #[.bool sg, (.slice Ag kg cg)] 24)) (w6.heap.size) sg (.slice Ag kg cg) := by have h := Box.new w6 sg (.slice Ag kg cg); simpa using h
  replace B_g := Lib.hid B_g
  replace B_x := Lib.hid (Box.below B_x.out hb0 B_x.out.lt)
  replace B_y := Lib.hid (Box.below B_y.out hb0 B_y.out.lt)
  replace B_r := Lib.hid (Box4.below B_r.out hb0 B_r.out.lt)
  replace V_x := Lib.hid (Rd.below V_x.out hb0)
  replace V_y := Lib.hid (Rd.below V_y.out hb0)
  replace V_g := Lib.hid (Rc.below V_g.out hb0)
  replace HB := Lib.hid (nextw HB.out hb0)
  clear hb0
  have c0x := B_x.out.c0
  have c1x := B_x.out.c1
  have c0y := B_y.out.c0
  have c1y := B_y.out.c1
  have c0g := B_g.out.c0
  have c1g := B_g.out.c1
  have c0r := B_r.out.c0
  have c1r := B_r.out.c1
  have c2r := B_r.out.c2
  have c3r := B_r.out.c3
  go_wp2
  clear c0x c1x c0y c1y c0g c1g c0r c1r c2r c3r
  generalize w6.alloc (.cells #[.bool sg, (.slice Ag kg cg)] 24) = W3 at *
  have c0x := B_x.out.c0
  have c1x := B_x.out.c1
  have c0y := B_y.out.c0
  have c1y := B_y.out.c1
  have c0g := B_g.out.c0
  have c1g := B_g.out.c1
  have z1x := Z1x.out
  have z2y := Z2y.out
  have z3r := Z3r.out
  have tk0 : True := trivial
  first | (go_region_held3 (fun w' => w'.cell? ⟨w.heap.size, 0, none⟩ = some (.bool sp) ∧ w'.cell? ⟨w.heap.size, 1, none⟩ = some (.slice Ap kp cp) ∧ w'.cell? ⟨w.heap.size + 1, 0, none⟩ = some (.bool sq) ∧ w'.cell? ⟨w.heap.size + 1, 1, none⟩ = some (.slice Aq kq cq) ∧ w'.cell? ⟨w6.heap.size, 0, none⟩ = some (.bool sg) ∧ w'.cell? ⟨w6.heap.size, 1, none⟩ = some (.slice Ag kg cg)) (((try dsimp only); (repeat' apply And.intro) <;> (first | (with_reducible assumption) | ((repeat (first | (with_reducible refine Eq.trans (cell_drew1 _ _) ?_) | (with_reducible refine Eq.trans (cell_set4 (by omega) _ _ _ _) ?_))); with_reducible assumption) | assumption | go_keep)))
    (first
      | (have _t := tk0; clear _t tk0; go_at_call 69; refine (part_rd (Rd.below V_x.out (by exact ⟨rfl, rfl, rfl, Nat.le_refl _, fun _ _ => rfl⟩)) (Rc.rd (Rc.below V_g.out (by exact ⟨rfl, rfl, rfl, Nat.le_refl _, fun _ _ => rfl⟩))) (by omega) (by omega) E3.out E4.out).mono ?_; rintro e w7 ⟨vp, rfl, rp, bb⟩; replace bb := nextw (w0 := W3) (by exact ⟨rfl, rfl, rfl, Nat.le_refl _, fun _ _ => rfl⟩) bb; replace B_x := Lib.hid (Box.below B_x.out bb B_x.out.lt); replace B_y := Lib.hid (Box.below B_y.out bb B_y.out.lt); replace B_r := Lib.hid (Box4.below B_r.out bb B_r.out.lt); replace B_g := Lib.hid (Box.below B_g.out bb B_g.out.lt); replace V_x := Lib.hid (Rd.below V_x.out bb); replace V_y := Lib.hid (Rd.below V_y.out bb); replace V_g := Lib.hid (Rc.below V_g.out bb); replace HB := Lib.hid (nextw HB.out bb); clear bb; replace rp := Lib.hid rp; have V_p := rp; clear rp; obtain ⟨s1, A1, k1, c1, rfl⟩ := V_p.out.shape; have c0x := B_x.out.c0; have c1x := B_x.out.c1; have c0y := B_y.out.c0; have c1y := B_y.out.c1; have c0g := B_g.out.c0; have c1g := B_g.out.c1; have tk1 : True := trivial)
      | (have _t := tk1; clear _t tk1; go_at_call 69; refine (part_rd (Rd.below V_y.out (by exact ⟨rfl, rfl, rfl, Nat.le_refl _, fun _ _ => rfl⟩)) (Rc.rd (Rc.below V_g.out (by exact ⟨rfl, rfl, rfl, Nat.le_refl _, fun _ _ => rfl⟩))) (by omega) (by omega) E3.out E5.out).mono ?_; rintro e w8 ⟨vq, rfl, rq, bb⟩; replace bb := nextw (w0 := w7) (by exact ⟨rfl, rfl, rfl, Nat.le_refl _, fun _ _ => rfl⟩) bb; replace B_x := Lib.hid (Box.below B_x.out bb B_x.out.lt); replace B_y := Lib.hid (Box.below B_y.out bb B_y.out.lt); replace B_r := Lib.hid (Box4.below B_r.out bb B_r.out.lt); replace B_g := Lib.hid (Box.below B_g.out bb B_g.out.lt); replace V_x := Lib.hid (Rd.below V_x.out bb); replace V_y := Lib.hid (Rd.below V_y.out bb); replace V_g := Lib.hid (Rc.below V_g.out bb); replace V_p := Lib.hid (Rc.below V_p.out bb); replace HB := Lib.hid (nextw HB.out bb); clear bb; replace rq := Lib.hid rq; have V_q := rq; clear rq; obtain ⟨s2, A2, k2, c2, rfl⟩ := V_q.out.shape; have c0r := B_r.out.c0; have c1r := B_r.out.c1; have c2r := B_r.out.c2; have c3r := B_r.out.c3; have f0r := B_r.out.f0; have f1r := B_r.out.f1; have f2r := B_r.out.f2; have f3r := B_r.out.f3; have c0x := B_x.out.c0; have c1x := B_x.out.c1; have c0y := B_y.out.c0; have c1y := B_y.out.c1; have c0g := B_g.out.c0; have c1g := B_g.out.c1; have tk2 : True := trivial))) | fail
  all_goals (clear z1x z2y z3r)
  all_goals
    skip
    have K_p := V_p
    have K_q := V_q
    replace K_p := Lib.hid (Box4.keepsRc B_r.out K_p.out (.bool s1) (.slice A1 k1 c1) (.bool s2) (.slice A2 k2 c2))
    replace K_q := Lib.hid (Box4.keepsRc B_r.out K_q.out (.bool s1) (.slice A1 k1 c1) (.bool s2) (.slice A2 k2 c2))
    have HB1 := Lib.hid (Below.store4 HB.out (y := w.heap.size + 1 + 1) (by omega) (.bool s1) (.slice A1 k1 c1) (.bool s2) (.slice A2 k2 c2))
    have N0r := Lib.hid (Box4.store B_r.out s1 (.slice A1 k1 c1) s2 (.slice A2 k2 c2))
    have s0r := N0r.out.c0
    have s1r := N0r.out.c1
    have s2r := N0r.out.c2
    have s3r := N0r.out.c3
    simp only [st4] at s0r s1r s2r s3r
    have HBF := HB1
    have c0r := B_r.out.c0
    have c1r := B_r.out.c1
    have c2r := B_r.out.c2
    have c3r := B_r.out.c3
    have f0r := B_r.out.f0
    have f1r := B_r.out.f1
    have f2r := B_r.out.f2
    have f3r := B_r.out.f3
    go_wp2_with fail
    exact bodyPost_ret (v := .agg #[.bool s1, (.slice A1 k1 c1), .bool s2, (.slice A2 k2 c2)]) (by simp [results, Tryz.results52, go_sem, s0r, s1r, s2r, s3r]) rfl ⟨_, rfl, Qc.mk (((Rc.below K_p.out (by exact ⟨rfl, rfl, rfl, Nat.le_refl _, fun _ _ => rfl⟩)).of_eq E1.out).more (by omega)) (((Rc.below K_q.out (by exact ⟨rfl, rfl, rfl, Nat.le_refl _, fun _ _ => rfl⟩)).of_eq E2.out).more (by omega)), (nextw HBF.out (by exact ⟨rfl, rfl, rfl, Nat.le_refl _, fun _ _ => rfl⟩))⟩

set_option maxRecDepth 100000 in
set_option maxHeartbeats 8000000 in
theorem RNew_gtgt {v1 v2 : Value} {a b : Int} {k : Nat} {w : World} (h1 : Rd w v1 a k) (h2 : Rd w v2 b k) (f : k ≤ 5000) (ha : 0 < a) (hb : 0 < b) :
    Calls Tryz.prog 52 #[v1, v2] w fun e w' => ∃ v, e = .returned v ∧ Qc w' v (Rat.divInt a b) (k + 2) ∧ Below w.heap.size w w' := by
  have HA := Lib.hid ha
  have HBB := Lib.hid hb
  clear ha hb
  obtain ⟨sx, Ax, kx, cx, rfl, -⟩ := h1.shape
  obtain ⟨sy, Ay, ky, cy, rfl, -⟩ := h2.shape
  have V_x := Lib.hid h1
  have V_y := Lib.hid h2
  clear h1 h2
  have hb0 : Below w.heap.size w (((w.alloc (.cells #[.bool sx, (.slice Ax kx cx)] 24)).alloc (.cells #[.bool sy, (.slice Ay ky cy)] 24)).alloc (.cells #[.bool false, (.slice none 0 0), .bool false, (.slice none 0 0)] 26)) := (Below.alloc (Below.alloc (Below.alloc (Below.refl w.heap.size w) (by simp <;> omega) _) (by simp <;> omega) _) (by simp <;> omega) _)
  have B_x : Box (((w.alloc (.cells #[.bool sx, (.slice Ax kx cx)] 24)).alloc (.cells #[.bool sy, (.slice Ay ky cy)] 24)).alloc (.cells #[.bool false, (.slice none 0 0), .bool false, (.slice none 0 0)] 26)) (w.heap.size) sx (.slice Ax kx cx) := by have h := Box.alloc (Box.alloc (Box.new w sx (.slice Ax kx cx)) (.cells #[.bool sy, (.slice Ay ky cy)] 24)) (.cells #[.bool false, (.slice none 0 0), .bool false, (.slice none 0 0)] 26); simpa using h
  replace B_x := Lib.hid B_x
  have B_y : Box (((w.alloc (.cells #[.bool sx, (.slice Ax kx cx)] 24)).alloc (.cells #[.bool sy, (.slice Ay ky cy)] 24)).alloc (.cells #[.bool false, (.slice none 0 0), .bool false, (.slice none 0 0)] 26)) (w.heap.size + 1) sy (.slice Ay ky cy) := by have h := Box.alloc (Box.new (w.alloc (.cells #[.bool sx, (.slice Ax kx cx)] 24)) sy (.slice Ay ky cy)) (.cells #[.bool false, (.slice none 0 0), .bool false, (.slice none 0 0)] 26); simpa using h
  replace B_y := Lib.hid B_y
  have B_r : Box4 (((w.alloc (.cells #[.bool sx, (.slice Ax kx cx)] 24)).alloc (.cells #[.bool sy, (.slice Ay ky cy)] 24)).alloc (.cells #[.bool false, (.slice none 0 0), .bool false, (.slice none 0 0)] 26)) (w.heap.size + 1 + 1) false (.slice none 0 0) false (.slice none 0 0) := by have h := Box4.new ((w.alloc (.cells #[.bool sx, (.slice Ax kx cx)] 24)).alloc (.cells #[.bool sy, (.slice Ay ky cy)] 24)) false (.slice none 0 0) false (.slice none 0 0); simpa using h
  replace B_r := Lib.hid B_r
  replace V_x := Lib.hid (Rd.below V_x.out hb0)
  replace V_y := Lib.hid (Rd.below V_y.out hb0)
  have HB := Lib.hid hb0
  clear hb0
  have c0x := B_x.out.c0
  have c1x := B_x.out.c1
  have f0x := B_x.out.f0
  have f1x := B_x.out.f1
  have c0y := B_y.out.c0
  have c1y := B_y.out.c1
  have f0y := B_y.out.f0
  have f1y := B_y.out.f1
  have c0r := B_r.out.c0
  have c1r := B_r.out.c1
  have c2r := B_r.out.c2
  have c3r := B_r.out.c3
  have f0r := B_r.out.f0
  have f1r := B_r.out.f1
  have f2r := B_r.out.f2
  have f3r := B_r.out.f3
  go_enter Tryz.func52, Tryz.ntmps52
  go_wp2_with fail
  clear c0x c1x f0x f1x c0y c1y f0y f1y c0r c1r c2r c3r f0r f1r f2r f3r
  generalize ((w.alloc (.cells #[.bool sx, (.slice Ax kx cx)] 24)).alloc (.cells #[.bool sy, (.slice Ay ky cy)] 24)).alloc (.cells #[.bool false, (.slice none 0 0), .bool false, (.slice none 0 0)] 26) = W0 at *
  refine (RSign_gt (Rd.below V_x.out (by exact ⟨rfl, rfl, rfl, Nat.le_refl _, fun _ _ => rfl⟩)) (by omega) HA.out).mono ?_
  rintro e w1 ⟨rfl, bb⟩
  replace bb := nextw (w0 := W0) (by exact ⟨rfl, rfl, rfl, Nat.le_refl _, fun _ _ => rfl⟩) bb
  replace B_x := Lib.hid (Box.below B_x.out bb B_x.out.lt)
  replace B_y := Lib.hid (Box.below B_y.out bb B_y.out.lt)
  replace B_r := Lib.hid (Box4.below B_r.out bb B_r.out.lt)
  replace V_x := Lib.hid (Rd.below V_x.out bb)
  replace V_y := Lib.hid (Rd.below V_y.out bb)
  replace HB := Lib.hid (nextw HB.out bb)
  clear bb
  have c0x := B_x.out.c0
  have c1x := B_x.out.c1
  have f0x := B_x.out.f0
  have f1x := B_x.out.f1
  have c0y := B_y.out.c0
  have c1y := B_y.out.c1
  have f0y := B_y.out.f0
  have f1y := B_y.out.f1
  have c0r := B_r.out.c0
  have c1r := B_r.out.c1
  have c2r := B_r.out.c2
  have c3r := B_r.out.c3
  have f0r := B_r.out.f0
  have f1r := B_r.out.f1
  have f2r := B_r.out.f2
  have f3r := B_r.out.f3
  go_wp2_with fail
  refine (RSign_gt (Rd.below V_y.out (by exact ⟨rfl, rfl, rfl, Nat.le_refl _, fun _ _ => rfl⟩)) (by omega) HBB.out).mono ?_
  rintro e w2 ⟨rfl, bb⟩
  replace bb := nextw (w0 := w1) (by exact ⟨rfl, rfl, rfl, Nat.le_refl _, fun _ _ => rfl⟩) bb
  clear c0x c1x f0x f1x c0y c1y f0y f1y c0r c1r c2r c3r f0r f1r f2r f3r
  replace B_x := Lib.hid (Box.below B_x.out bb B_x.out.lt)
  replace B_y := Lib.hid (Box.below B_y.out bb B_y.out.lt)
  replace B_r := Lib.hid (Box4.below B_r.out bb B_r.out.lt)
  replace V_x := Lib.hid (Rd.below V_x.out bb)
  replace V_y := Lib.hid (Rd.below V_y.out bb)
  replace HB := Lib.hid (nextw HB.out bb)
  clear bb
  have c0x := B_x.out.c0
  have c1x := B_x.out.c1
  have f0x := B_x.out.f0
  have f1x := B_x.out.f1
  have c0y := B_y.out.c0
  have c1y := B_y.out.c1
  have f0y := B_y.out.f0
  have f1y := B_y.out.f1
  have c0r := B_r.out.c0
  have c1r := B_r.out.c1
  have c2r := B_r.out.c2
  have c3r := B_r.out.c3
  have f0r := B_r.out.f0
  have f1r := B_r.out.f1
  have f2r := B_r.out.f2
  have f3r := B_r.out.f3
  go_wp2_with fail
  refine (RSign_gt (Rd.below V_y.out (by exact ⟨rfl, rfl, rfl, Nat.le_refl _, fun _ _ => rfl⟩)) (by omega) HBB.out).mono ?_
  rintro e w3 ⟨rfl, bb⟩
  replace bb := nextw (w0 := w2) (by exact ⟨rfl, rfl, rfl, Nat.le_refl _, fun _ _ => rfl⟩) bb
  clear c0x c1x f0x f1x c0y c1y f0y f1y c0r c1r c2r c3r f0r f1r f2r f3r
  replace B_x := Lib.hid (Box.below B_x.out bb B_x.out.lt)
  replace B_y := Lib.hid (Box.below B_y.out bb B_y.out.lt)
  replace B_r := Lib.hid (Box4.below B_r.out bb B_r.out.lt)
  replace V_x := Lib.hid (Rd.below V_x.out bb)
  replace V_y := Lib.hid (Rd.below V_y.out bb)
  replace HB := Lib.hid (nextw HB.out bb)
  clear bb
  have c0x := B_x.out.c0
  have c1x := B_x.out.c1
  have f0x := B_x.out.f0
  have f1x := B_x.out.f1
  have c0y := B_y.out.c0
  have c1y := B_y.out.c1
  have f0y := B_y.out.f0
  have f1y := B_y.out.f1
  have c0r := B_r.out.c0
  have c1r := B_r.out.c1
  have c2r := B_r.out.c2
  have c3r := B_r.out.c3
  have f0r := B_r.out.f0
  have f1r := B_r.out.f1
  have f2r := B_r.out.f2
  have f3r := B_r.out.f3
  obtain ⟨A, hA⟩ : ∃ A, a = A := ⟨_, rfl⟩
  obtain ⟨B, hB⟩ : ∃ B, b = B := ⟨_, rfl⟩
  have hf : Rat.divInt A B = Rat.divInt a b := by rw [← hA, ← hB]
  have hB0 : 0 < B := by have := HBB.out; omega
  rw [hA] at V_x
  rw [hB] at V_y
  have e1 : A / ((Nat.gcd A.natAbs B.natAbs : Nat) : Int) = (Rat.divInt a b).num := by rw [← hf, new_num hB0]; rfl
  have e2 : B / ((Nat.gcd A.natAbs B.natAbs : Nat) : Int) = ((Rat.divInt a b).den : Int) := by rw [← hf, new_den hB0]; rfl
  have e3 : 0 < ((Nat.gcd A.natAbs B.natAbs : Nat) : Int) := by have := gcd_pos (a := A) hB0; rw [gcd_nat] at this; omega
  have e4 : A % ((Nat.gcd A.natAbs B.natAbs : Nat) : Int) = 0 := Int.emod_eq_zero_of_dvd (show (Int.gcd A B : Int) ∣ A from Int.gcd_dvd_left ..)
  have e5 : B % ((Nat.gcd A.natAbs B.natAbs : Nat) : Int) = 0 := Int.emod_eq_zero_of_dvd (show (Int.gcd A B : Int) ∣ B from Int.gcd_dvd_right ..)
  have E1 := Lib.hid e1
  have E2 := Lib.hid e2
  have E3 := Lib.hid e3
  have E4 := Lib.hid e4
  have E5 := Lib.hid e5
  clear e1 e2 e3 e4 e5 hf hB0 hA hB
  go_wp2_with fail
  refine (RGcd_rd (Rd.below V_x.out (by exact ⟨rfl, rfl, rfl, Nat.le_refl _, fun _ _ => rfl⟩)) (Rd.below V_y.out (by exact ⟨rfl, rfl, rfl, Nat.le_refl _, fun _ _ => rfl⟩)) (by omega) (by omega)).mono ?_
  rintro e w4 ⟨vg, rfl, rg, bb⟩
  replace bb := nextw (w0 := w3) (by exact ⟨rfl, rfl, rfl, Nat.le_refl _, fun _ _ => rfl⟩) bb
  clear c0x c1x f0x f1x c0y c1y f0y f1y c0r c1r c2r c3r f0r f1r f2r f3r
  replace B_x := Lib.hid (Box.below B_x.out bb B_x.out.lt)
  replace B_y := Lib.hid (Box.below B_y.out bb B_y.out.lt)
  replace B_r := Lib.hid (Box4.below B_r.out bb B_r.out.lt)
  replace V_x := Lib.hid (Rd.below V_x.out bb)
  replace V_y := Lib.hid (Rd.below V_y.out bb)
  replace HB := Lib.hid (nextw HB.out bb)
  clear bb
  obtain ⟨sg, Ag, kg, cg, rfl⟩ := rg.shape
  have V_g := Lib.hid rg
  clear rg
  have Z1x := Lib.hid B_x.out.lt
  have Z2y := Lib.hid B_y.out.lt
  have Z3r := Lib.hid B_r.out.lt
  have hb0 : Below w4.heap.size w4 (w4.alloc (.cells #[.bool sg, (.slice Ag kg cg)] 24)) := (Below.alloc (Below.refl w4.heap.size w4) (by simp <;> omega) _)
  have B_g : Box (w4.alloc (.cells #[.bool sg, (.slice Ag kg cg)] 24)) (w4.heap.size) sg (.slice Ag kg cg) := by have h := Box.new w4 sg (.slice Ag kg cg); simpa using h
  replace B_g := Lib.hid B_g
  replace B_x := Lib.hid (Box.below B_x.out hb0 B_x.out.lt)
  replace B_y := Lib.hid (Box.below B_y.out hb0 B_y.out.lt)
  replace B_r := Lib.hid (Box4.below B_r.out hb0 B_r.out.lt)
  replace V_x := Lib.hid (Rd.below V_x.out hb0)
  replace V_y := Lib.hid (Rd.below V_y.out hb0)
  replace V_g := Lib.hid (Rc.below V_g.out hb0)
  replace HB := Lib.hid (nextw HB.out hb0)
  clear hb0
  have c0x := B_x.out.c0
  have c1x := B_x.out.c1
  have c0y := B_y.out.c0
  have c1y := B_y.out.c1
  have c0g := B_g.out.c0
  have c1g := B_g.out.c1
  have c0r := B_r.out.c0
  have c1r := B_r.out.c1
  have c2r := B_r.out.c2
  have c3r := B_r.out.c3
  go_wp2
  clear c0x c1x c0y c1y c0g c1g c0r c1r c2r c3r
  generalize w4.alloc (.cells #[.bool sg, (.slice Ag kg cg)] 24) = W3 at *
  have c0x := B_x.out.c0
  have c1x := B_x.out.c1
  have c0y := B_y.out.c0
  have c1y := B_y.out.c1
  have c0g := B_g.out.c0
  have c1g := B_g.out.c1
  have z1x := Z1x.out
  have z2y := Z2y.out
  have z3r := Z3r.out
  have tk0 : True := trivial
  first | (go_region_held3 (fun w' => w'.cell? ⟨w.heap.size, 0, none⟩ = some (.bool sx) ∧ w'.cell? ⟨w.heap.size, 1, none⟩ = some (.slice Ax kx cx) ∧ w'.cell? ⟨w.heap.size + 1, 0, none⟩ = some (.bool sy) ∧ w'.cell? ⟨w.heap.size + 1, 1, none⟩ = some (.slice Ay ky cy) ∧ w'.cell? ⟨w4.heap.size, 0, none⟩ = some (.bool sg) ∧ w'.cell? ⟨w4.heap.size, 1, none⟩ = some (.slice Ag kg cg)) (((try dsimp only); (repeat' apply And.intro) <;> (first | (with_reducible assumption) | ((repeat (first | (with_reducible refine Eq.trans (cell_drew1 _ _) ?_) | (with_reducible refine Eq.trans (cell_set4 (by omega) _ _ _ _) ?_))); with_reducible assumption) | assumption | go_keep)))
    (first
      | (have _t := tk0; clear _t tk0; go_at_call 69; refine (part_rd (Rd.below V_x.out (by exact ⟨rfl, rfl, rfl, Nat.le_refl _, fun _ _ => rfl⟩)) (Rc.rd (Rc.below V_g.out (by exact ⟨rfl, rfl, rfl, Nat.le_refl _, fun _ _ => rfl⟩))) (by omega) (by omega) E3.out E4.out).mono ?_; rintro e w5 ⟨vp, rfl, rp, bb⟩; replace bb := nextw (w0 := W3) (by exact ⟨rfl, rfl, rfl, Nat.le_refl _, fun _ _ => rfl⟩) bb; replace B_x := Lib.hid (Box.below B_x.out bb B_x.out.lt); replace B_y := Lib.hid (Box.below B_y.out bb B_y.out.lt); replace B_r := Lib.hid (Box4.below B_r.out bb B_r.out.lt); replace B_g := Lib.hid (Box.below B_g.out bb B_g.out.lt); replace V_x := Lib.hid (Rd.below V_x.out bb); replace V_y := Lib.hid (Rd.below V_y.out bb); replace V_g := Lib.hid (Rc.below V_g.out bb); replace HB := Lib.hid (nextw HB.out bb); clear bb; replace rp := Lib.hid rp; have V_p := rp; clear rp; obtain ⟨s1, A1, k1, c1, rfl⟩ := V_p.out.shape; have c0x := B_x.out.c0; have c1x := B_x.out.c1; have c0y := B_y.out.c0; have c1y := B_y.out.c1; have c0g := B_g.out.c0; have c1g := B_g.out.c1; have tk1 : True := trivial)
      | (have _t := tk1; clear _t tk1; go_at_call 69; refine (part_rd (Rd.below V_y.out (by exact ⟨rfl, rfl, rfl, Nat.le_refl _, fun _ _ => rfl⟩)) (Rc.rd (Rc.below V_g.out (by exact ⟨rfl, rfl, rfl, Nat.le_refl _, fun _ _ => rfl⟩))) (by omega) (by omega) E3.out E5.out).mono ?_; rintro e w6 ⟨vq, rfl, rq, bb⟩; replace bb := nextw (w0 := w5) (by exact ⟨rfl, rfl, rfl, Nat.le_refl _, fun _ _ => rfl⟩) bb; replace B_x := Lib.hid (Box.below B_x.out bb B_x.out.lt); replace B_y := Lib.hid (Box.below B_y.out bb B_y.out.lt); replace B_r := Lib.hid (Box4.below B_r.out bb B_r.out.lt); replace B_g := Lib.hid (Box.below B_g.out bb B_g.out.lt); replace V_x := Lib.hid (Rd.below V_x.out bb); replace V_y := Lib.hid (Rd.below V_y.out bb); replace V_g := Lib.hid (Rc.below V_g.out bb); replace V_p := Lib.hid (Rc.below V_p.out bb); replace HB := Lib.hid (nextw HB.out bb); clear bb; replace rq := Lib.hid rq; have V_q := rq; clear rq; obtain ⟨s2, A2, k2, c2, rfl⟩ := V_q.out.shape; have c0r := B_r.out.c0; have c1r := B_r.out.c1; have c2r := B_r.out.c2; have c3r := B_r.out.c3; have f0r := B_r.out.f0; have f1r := B_r.out.f1; have f2r := B_r.out.f2; have f3r := B_r.out.f3; have c0x := B_x.out.c0; have c1x := B_x.out.c1; have c0y := B_y.out.c0; have c1y := B_y.out.c1; have c0g := B_g.out.c0; have c1g := B_g.out.c1; have tk2 : True := trivial))) | fail
  all_goals (clear z1x z2y z3r)
  all_goals
    skip
    have K_p := V_p
    have K_q := V_q
    replace K_p := Lib.hid (Box4.keepsRc B_r.out K_p.out (.bool s1) (.slice A1 k1 c1) (.bool s2) (.slice A2 k2 c2))
    replace K_q := Lib.hid (Box4.keepsRc B_r.out K_q.out (.bool s1) (.slice A1 k1 c1) (.bool s2) (.slice A2 k2 c2))
    have HB1 := Lib.hid (Below.store4 HB.out (y := w.heap.size + 1 + 1) (by omega) (.bool s1) (.slice A1 k1 c1) (.bool s2) (.slice A2 k2 c2))
    have N0r := Lib.hid (Box4.store B_r.out s1 (.slice A1 k1 c1) s2 (.slice A2 k2 c2))
    have s0r := N0r.out.c0
    have s1r := N0r.out.c1
    have s2r := N0r.out.c2
    have s3r := N0r.out.c3
    simp only [st4] at s0r s1r s2r s3r
    have HBF := HB1
    have c0r := B_r.out.c0
    have c1r := B_r.out.c1
    have c2r := B_r.out.c2
    have c3r := B_r.out.c3
    have f0r := B_r.out.f0
    have f1r := B_r.out.f1
    have f2r := B_r.out.f2
    have f3r := B_r.out.f3
    go_wp2_with fail
    exact bodyPost_ret (v := .agg #[.bool s1, (.slice A1 k1 c1), .bool s2, (.slice A2 k2 c2)]) (by simp [results, Tryz.results52, go_sem, s0r, s1r, s2r, s3r]) rfl ⟨_, rfl, Qc.mk (((Rc.below K_p.out (by exact ⟨rfl, rfl, rfl, Nat.le_refl _, fun _ _ => rfl⟩)).of_eq E1.out).more (by omega)) (((Rc.below K_q.out (by exact ⟨rfl, rfl, rfl, Nat.le_refl _, fun _ _ => rfl⟩)).of_eq E2.out).more (by omega)), (nextw HBF.out (by exact ⟨rfl, rfl, rfl, Nat.le_refl _, fun _ _ => rfl⟩))⟩

theorem RNew_rd {v1 v2 : Value} {a b : Int} {k : Nat} {w : World} (h1 : Rd w v1 a k) (h2 : Rd w v2 b k) (f : k ≤ 5000) : Calls Tryz.prog 52 #[v1, v2] w fun e w' => ∃ v, e = .returned v ∧ Qc w' v (Rat.divInt a b) (k + 2) ∧ Below w.heap.size w w' := by
  rcases Int.lt_trichotomy a 0 with ha | ha | ha <;> rcases Int.lt_trichotomy b 0 with hb | hb | hb
  · exact RNew_ltlt h1 h2 f ha hb
  · exact RNew_blt h1 h2 f ha hb
  · exact RNew_ltgt h1 h2 f ha hb
  · exact RNew_a h1 h2 f ha
  · exact RNew_a h1 h2 f ha
  · exact RNew_a h1 h2 f ha
  · exact RNew_gtlt h1 h2 f ha hb
  · exact RNew_bgt h1 h2 f ha hb
  · exact RNew_gtgt h1 h2 f ha hb
end Go.Proofs.YtldfamjlnphokaaGreatDoor
