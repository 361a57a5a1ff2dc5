/- Package rational: New. -/
import Derived.Test.YtccndofafljaaaaGreatDoorQ1
import Derived.Test.YtccndofafljaaaaGreatDoorGcd3

set_option linter.unusedVariables false
set_option linter.unusedSimpArgs false

namespace Go.Proofs.YtccndofafljaaaaGreatDoor
open Go Go.RowKit Num

set_option maxRecDepth 100000 in
set_option maxHeartbeats 4000000 in
theorem New_rd {v1 v2 : Value} {a b : Int} {k : Nat} {w : World} (h1 : Rd w v1 a k) (h2 : Rd w v2 b k) (f : k ≤ 20000) :
    Calls Tryz.prog 49 #[v1, v2] w fun e w' => ∃ v, e = .returned v ∧ Qc w' v (Rat.divInt a b) (k + 2) ∧ Below w.heap.size w w' := by
  obtain ⟨sx, Ax, kx, cx, rfl, -⟩ := h1.shape
  obtain ⟨sy, Ay, ky, cy, rfl, -⟩ := h2.shape
  have V_x := Lib.hid h1
  have V_y := Lib.hid h2
  clear h1 h2
  have hb0 : Below w.heap.size w (((w.alloc (.cells #[.bool sx, (.slice Ax kx cx)] 24)).alloc (.cells #[.bool sy, (.slice Ay ky cy)] 24)).alloc (.cells #[.bool false, (.slice none 0 0), .bool false, (.slice none 0 0)] 35)) := (Below.alloc (Below.alloc (Below.alloc (Below.refl w.heap.size w) (by simp <;> omega) _) (by simp <;> omega) _) (by simp <;> omega) _)
  have B_x : Box (((w.alloc (.cells #[.bool sx, (.slice Ax kx cx)] 24)).alloc (.cells #[.bool sy, (.slice Ay ky cy)] 24)).alloc (.cells #[.bool false, (.slice none 0 0), .bool false, (.slice none 0 0)] 35)) (w.heap.size) sx (.slice Ax kx cx) := by have h := Box.alloc (Box.alloc (Box.new w sx (.slice Ax kx cx)) (.cells #[.bool sy, (.slice Ay ky cy)] 24)) (.cells #[.bool false, (.slice none 0 0), .bool false, (.slice none 0 0)] 35); simpa using h
  replace B_x := Lib.hid B_x
  have B_y : Box (((w.alloc (.cells #[.bool sx, (.slice Ax kx cx)] 24)).alloc (.cells #[.bool sy, (.slice Ay ky cy)] 24)).alloc (.cells #[.bool false, (.slice none 0 0), .bool false, (.slice none 0 0)] 35)) (w.heap.size + 1) sy (.slice Ay ky cy) := by have h := Box.alloc (Box.new (w.alloc (.cells #[.bool sx, (.slice Ax kx cx)] 24)) sy (.slice Ay ky cy)) (.cells #[.bool false, (.slice none 0 0), .bool false, (.slice none 0 0)] 35); simpa using h
  replace B_y := Lib.hid B_y
  have B_r : Box4 (((w.alloc (.cells #[.bool sx, (.slice Ax kx cx)] 24)).alloc (.cells #[.bool sy, (.slice Ay ky cy)] 24)).alloc (.cells #[.bool false, (.slice none 0 0), .bool false, (.slice none 0 0)] 35)) (w.heap.size + 1 + 1) false (.slice none 0 0) false (.slice none 0 0) := by have h := Box4.new ((w.alloc (.cells #[.bool sx, (.slice Ax kx cx)] 24)).alloc (.cells #[.bool sy, (.slice Ay ky cy)] 24)) false (.slice none 0 0) false (.slice none 0 0); simpa using h
  replace B_r := Lib.hid B_r
  replace V_x := Lib.hid (Rd.below V_x.out hb0)
  replace V_y := Lib.hid (Rd.below V_y.out hb0)
  have HB := Lib.hid hb0
  clear hb0
  have c0x := B_x.out.c0
  have c1x := B_x.out.c1
  have c0y := B_y.out.c0
  have c1y := B_y.out.c1
  have c0r := B_r.out.c0
  have c1r := B_r.out.c1
  have c2r := B_r.out.c2
  have c3r := B_r.out.c3
  go_enter Tryz.func49, Tryz.ntmps49
  go_wp2_with fail
  clear c0x c1x c0y c1y c0r c1r c2r c3r
  generalize ((w.alloc (.cells #[.bool sx, (.slice Ax kx cx)] 24)).alloc (.cells #[.bool sy, (.slice Ay ky cy)] 24)).alloc (.cells #[.bool false, (.slice none 0 0), .bool false, (.slice none 0 0)] 35) = W0 at *
  refine (fraction_fd (Fd.mk (Rd.below V_x.out (by exact ⟨rfl, rfl, rfl, Nat.le_refl _, fun _ _ => rfl⟩)) (Rd.below V_y.out (by exact ⟨rfl, rfl, rfl, Nat.le_refl _, fun _ _ => rfl⟩))) (by omega)).mono ?_
  rintro e w1 ⟨vn, vd, rfl, rn, rd, bb⟩
  replace bb := nextw (w0 := W0) (by exact ⟨rfl, rfl, rfl, Nat.le_refl _, fun _ _ => rfl⟩) bb
  replace B_x := Lib.hid (Box.below B_x.out bb B_x.out.lt)
  replace B_y := Lib.hid (Box.below B_y.out bb B_y.out.lt)
  replace B_r := Lib.hid (Box4.below B_r.out bb B_r.out.lt)
  replace V_x := Lib.hid (Rd.below V_x.out bb)
  replace V_y := Lib.hid (Rd.below V_y.out bb)
  replace HB := Lib.hid (nextw HB.out bb)
  clear bb
  obtain ⟨sn, An, kn, cn, rfl, -⟩ := rn.shape
  obtain ⟨sd, Ad, kd, cd, rfl, -⟩ := rd.shape
  clear V_x V_y
  have V_n := Lib.hid rn
  have V_d := Lib.hid rd
  clear rn rd
  have Z1x := Lib.hid B_x.out.lt
  have Z2y := Lib.hid B_y.out.lt
  have Z3r := Lib.hid B_r.out.lt
  have hb0 : Below w1.heap.size w1 ((w1.alloc (.cells #[.bool sn, (.slice An kn cn)] 24)).alloc (.cells #[.bool sd, (.slice Ad kd cd)] 24)) := (Below.alloc (Below.alloc (Below.refl w1.heap.size w1) (by simp <;> omega) _) (by simp <;> omega) _)
  have B_n : Box ((w1.alloc (.cells #[.bool sn, (.slice An kn cn)] 24)).alloc (.cells #[.bool sd, (.slice Ad kd cd)] 24)) (w1.heap.size) sn (.slice An kn cn) := by have h := Box.alloc (Box.new w1 sn (.slice An kn cn)) (.cells #[.bool sd, (.slice Ad kd cd)] 24); simpa using h
  replace B_n := Lib.hid B_n
  have B_d : Box ((w1.alloc (.cells #[.bool sn, (.slice An kn cn)] 24)).alloc (.cells #[.bool sd, (.slice Ad kd cd)] 24)) (w1.heap.size + 1) sd (.slice Ad kd cd) := by have h := Box.new (w1.alloc (.cells #[.bool sn, (.slice An kn cn)] 24)) sd (.slice Ad kd cd); simpa using h
  replace B_d := Lib.hid B_d
  replace B_x := Lib.hid (Box.below B_x.out hb0 B_x.out.lt)
  replace B_y := Lib.hid (Box.below B_y.out hb0 B_y.out.lt)
  replace B_r := Lib.hid (Box4.below B_r.out hb0 B_r.out.lt)
  replace V_n := Lib.hid (Rd.below V_n.out hb0)
  replace V_d := Lib.hid (Rd.below V_d.out hb0)
  replace HB := Lib.hid (nextw HB.out hb0)
  clear hb0
  have c0n := B_n.out.c0
  have c1n := B_n.out.c1
  have c0d := B_d.out.c0
  have c1d := B_d.out.c1
  go_wp2_with fail
  clear c0n c1n c0d c1d
  generalize (w1.alloc (.cells #[.bool sn, (.slice An kn cn)] 24)).alloc (.cells #[.bool sd, (.slice Ad kd cd)] 24) = W1 at *
  refine (Gcd_rd (Rd.below V_n.out (by exact ⟨rfl, rfl, rfl, Nat.le_refl _, fun _ _ => rfl⟩)) (Rd.below V_d.out (by exact ⟨rfl, rfl, rfl, Nat.le_refl _, fun _ _ => rfl⟩)) (by omega) (by omega)).mono ?_
  rintro e w2 ⟨vg, rfl, rg, bb⟩
  replace bb := nextw (w0 := W1) (by exact ⟨rfl, rfl, rfl, Nat.le_refl _, fun _ _ => rfl⟩) bb
  replace B_x := Lib.hid (Box.below B_x.out bb B_x.out.lt)
  replace B_y := Lib.hid (Box.below B_y.out bb B_y.out.lt)
  replace B_r := Lib.hid (Box4.below B_r.out bb B_r.out.lt)
  replace B_n := Lib.hid (Box.below B_n.out bb B_n.out.lt)
  replace B_d := Lib.hid (Box.below B_d.out bb B_d.out.lt)
  replace V_n := Lib.hid (Rd.below V_n.out bb)
  replace V_d := Lib.hid (Rd.below V_d.out bb)
  replace HB := Lib.hid (nextw HB.out bb)
  clear bb
  obtain ⟨sg, Ag, kg, cg, rfl⟩ := rg.shape
  have V_g := Lib.hid rg
  clear rg
  have Z4x := Lib.hid B_x.out.lt
  have Z5y := Lib.hid B_y.out.lt
  have Z6r := Lib.hid B_r.out.lt
  have Z7n := Lib.hid B_n.out.lt
  have Z8d := Lib.hid B_d.out.lt
  have hb0 : Below w2.heap.size w2 (w2.alloc (.cells #[.bool sg, (.slice Ag kg cg)] 24)) := (Below.alloc (Below.refl w2.heap.size w2) (by simp <;> omega) _)
  have B_g : Box (w2.alloc (.cells #[.bool sg, (.slice Ag kg cg)] 24)) (w2.heap.size) sg (.slice Ag kg cg) := by have h := Box.new w2 sg (.slice Ag kg cg); simpa using h
  replace B_g := Lib.hid B_g
  replace B_x := Lib.hid (Box.below B_x.out hb0 B_x.out.lt)
  replace B_y := Lib.hid (Box.below B_y.out hb0 B_y.out.lt)
  replace B_r := Lib.hid (Box4.below B_r.out hb0 B_r.out.lt)
  replace B_n := Lib.hid (Box.below B_n.out hb0 B_n.out.lt)
  replace B_d := Lib.hid (Box.below B_d.out hb0 B_d.out.lt)
  replace V_n := Lib.hid (Rd.below V_n.out hb0)
  replace V_d := Lib.hid (Rd.below V_d.out hb0)
  replace V_g := Lib.hid (Rc.below V_g.out hb0)
  replace HB := Lib.hid (nextw HB.out hb0)
  clear hb0
  have c0n := B_n.out.c0
  have c1n := B_n.out.c1
  have c0d := B_d.out.c0
  have c1d := B_d.out.c1
  have c0g := B_g.out.c0
  have c1g := B_g.out.c1
  have c0r := B_r.out.c0
  have c1r := B_r.out.c1
  have c2r := B_r.out.c2
  have c3r := B_r.out.c3
  go_wp2
  clear c0n c1n c0d c1d c0g c1g c0r c1r c2r c3r
  generalize w2.alloc (.cells #[.bool sg, (.slice Ag kg cg)] 24) = W2 at *
  have hp := frD_pos a b
  have e1 : frN a b / ((Nat.gcd (frN a b).natAbs (frD a b).natAbs : Nat) : Int) = (Rat.divInt a b).num := by rw [← fr_eq, new_num hp]; rfl
  have e2 : frD a b / ((Nat.gcd (frN a b).natAbs (frD a b).natAbs : Nat) : Int) = ((Rat.divInt a b).den : Int) := by rw [← fr_eq, new_den hp]; rfl
  have e3 : ((Nat.gcd (frN a b).natAbs (frD a b).natAbs : Nat) : Int) ≠ 0 := by have := gcd_pos (a := frN a b) hp; rw [gcd_nat] at this; omega
  have E1 := Lib.hid e1
  have E2 := Lib.hid e2
  have E3 := Lib.hid e3
  clear hp e1 e2 e3
  have c0n := B_n.out.c0
  have c1n := B_n.out.c1
  have c0d := B_d.out.c0
  have c1d := B_d.out.c1
  have c0g := B_g.out.c0
  have c1g := B_g.out.c1
  have z1x := Z1x.out
  have z2y := Z2y.out
  have z3r := Z3r.out
  have z4x := Z4x.out
  have z5y := Z5y.out
  have z6r := Z6r.out
  have z7n := Z7n.out
  have z8d := Z8d.out
  have tk0 : True := trivial
  first | (go_region_held3 (fun w' => w'.cell? ⟨w1.heap.size, 0, none⟩ = some (.bool sn) ∧ w'.cell? ⟨w1.heap.size, 1, none⟩ = some (.slice An kn cn) ∧ w'.cell? ⟨w1.heap.size + 1, 0, none⟩ = some (.bool sd) ∧ w'.cell? ⟨w1.heap.size + 1, 1, none⟩ = some (.slice Ad kd cd) ∧ w'.cell? ⟨w2.heap.size, 0, none⟩ = some (.bool sg) ∧ w'.cell? ⟨w2.heap.size, 1, none⟩ = some (.slice Ag kg cg)) (((try dsimp only); (repeat' apply And.intro) <;> (first | (with_reducible assumption) | ((repeat (first | (with_reducible refine Eq.trans (cell_drew1 _ _) ?_) | (with_reducible refine Eq.trans (cell_set4 (by omega) _ _ _ _) ?_))); with_reducible assumption) | assumption | go_keep)))
    (first
      | (have _t := tk0; clear _t tk0; go_at_call 70; refine (quotient_rd (Rd.below V_n.out (by exact ⟨rfl, rfl, rfl, Nat.le_refl _, fun _ _ => rfl⟩)) (Rc.rd (Rc.below V_g.out (by exact ⟨rfl, rfl, rfl, Nat.le_refl _, fun _ _ => rfl⟩))) (by omega) (by omega) E3.out).mono ?_; rintro e w3 ⟨vp, rfl, rp, bb⟩; replace bb := nextw (w0 := W2) (by exact ⟨rfl, rfl, rfl, Nat.le_refl _, fun _ _ => rfl⟩) bb; replace B_x := Lib.hid (Box.below B_x.out bb B_x.out.lt); replace B_y := Lib.hid (Box.below B_y.out bb B_y.out.lt); replace B_r := Lib.hid (Box4.below B_r.out bb B_r.out.lt); replace B_n := Lib.hid (Box.below B_n.out bb B_n.out.lt); replace B_d := Lib.hid (Box.below B_d.out bb B_d.out.lt); replace B_g := Lib.hid (Box.below B_g.out bb B_g.out.lt); replace V_n := Lib.hid (Rd.below V_n.out bb); replace V_d := Lib.hid (Rd.below V_d.out bb); replace V_g := Lib.hid (Rc.below V_g.out bb); replace HB := Lib.hid (nextw HB.out bb); clear bb; replace rp := Lib.hid rp; have V_p := rp; clear rp; obtain ⟨sp, Ap, kp, cp, rfl⟩ := V_p.out.shape; have c0n := B_n.out.c0; have c1n := B_n.out.c1; have c0d := B_d.out.c0; have c1d := B_d.out.c1; have c0g := B_g.out.c0; have c1g := B_g.out.c1; have tk1 : True := trivial)
      | (have _t := tk1; clear _t tk1; go_at_call 70; refine (quotient_rd (Rd.below V_d.out (by exact ⟨rfl, rfl, rfl, Nat.le_refl _, fun _ _ => rfl⟩)) (Rc.rd (Rc.below V_g.out (by exact ⟨rfl, rfl, rfl, Nat.le_refl _, fun _ _ => rfl⟩))) (by omega) (by omega) E3.out).mono ?_; rintro e w4 ⟨vq, rfl, rq, bb⟩; replace bb := nextw (w0 := w3) (by exact ⟨rfl, rfl, rfl, Nat.le_refl _, fun _ _ => rfl⟩) bb; replace B_x := Lib.hid (Box.below B_x.out bb B_x.out.lt); replace B_y := Lib.hid (Box.below B_y.out bb B_y.out.lt); replace B_r := Lib.hid (Box4.below B_r.out bb B_r.out.lt); replace B_n := Lib.hid (Box.below B_n.out bb B_n.out.lt); replace B_d := Lib.hid (Box.below B_d.out bb B_d.out.lt); replace B_g := Lib.hid (Box.below B_g.out bb B_g.out.lt); replace V_n := Lib.hid (Rd.below V_n.out bb); replace V_d := Lib.hid (Rd.below V_d.out bb); replace V_g := Lib.hid (Rc.below V_g.out bb); replace V_p := Lib.hid (Rc.below V_p.out bb); replace HB := Lib.hid (nextw HB.out bb); clear bb; replace rq := Lib.hid rq; have V_q := rq; clear rq; obtain ⟨sq, Aq, kq, cq, rfl⟩ := V_q.out.shape; have c0r := B_r.out.c0; have c1r := B_r.out.c1; have c2r := B_r.out.c2; have c3r := B_r.out.c3; have f0r := B_r.out.f0; have f1r := B_r.out.f1; have f2r := B_r.out.f2; have f3r := B_r.out.f3; have c0n := B_n.out.c0; have c1n := B_n.out.c1; have c0d := B_d.out.c0; have c1d := B_d.out.c1; have c0g := B_g.out.c0; have c1g := B_g.out.c1; have tk2 : True := trivial))) | fail
  all_goals (clear z1x z2y z3r z4x z5y z6r z7n z8d)
  all_goals
    skip
    have K_p := V_p
    have K_q := V_q
    replace K_p := Lib.hid (Box4.keepsRc B_r.out K_p.out (.bool sp) (.slice Ap kp cp) (.bool sq) (.slice Aq kq cq))
    replace K_q := Lib.hid (Box4.keepsRc B_r.out K_q.out (.bool sp) (.slice Ap kp cp) (.bool sq) (.slice Aq kq cq))
    have HB1 := Lib.hid (Below.store4 HB.out (y := w.heap.size + 1 + 1) (by omega) (.bool sp) (.slice Ap kp cp) (.bool sq) (.slice Aq kq cq))
    have N0r := Lib.hid (Box4.store B_r.out sp (.slice Ap kp cp) sq (.slice Aq kq cq))
    have s0r := N0r.out.c0
    have s1r := N0r.out.c1
    have s2r := N0r.out.c2
    have s3r := N0r.out.c3
    simp only [st4] at s0r s1r s2r s3r
    have HBF := HB1
    have c0r := B_r.out.c0
    have c1r := B_r.out.c1
    have c2r := B_r.out.c2
    have c3r := B_r.out.c3
    have f0r := B_r.out.f0
    have f1r := B_r.out.f1
    have f2r := B_r.out.f2
    have f3r := B_r.out.f3
    go_wp2_with fail
    exact bodyPost_ret (v := .agg #[.bool sp, (.slice Ap kp cp), .bool sq, (.slice Aq kq cq)]) (by simp [results, Tryz.results49, go_sem, s0r, s1r, s2r, s3r]) rfl ⟨_, rfl, Qc.mk ((Rc.below K_p.out (by exact ⟨rfl, rfl, rfl, Nat.le_refl _, fun _ _ => rfl⟩)).of_eq E1.out) ((Rc.below K_q.out (by exact ⟨rfl, rfl, rfl, Nat.le_refl _, fun _ _ => rfl⟩)).of_eq E2.out), (nextw HBF.out (by exact ⟨rfl, rfl, rfl, Nat.le_refl _, fun _ _ => rfl⟩))⟩
end Go.Proofs.YtccndofafljaaaaGreatDoor
