/- The reference: DivMod for a positive divisor. -/
import Derived.Test.YtldfamjlnphokaaGreatDoorRDm
import Derived.Deep.DeepCutAuto

set_option linter.unusedVariables false
set_option linter.unusedSimpArgs false

namespace Go.Proofs.YtldfamjlnphokaaGreatDoor
open Go Go.RowKit Num

set_option maxRecDepth 100000 in
set_option maxHeartbeats 8000000 in
theorem RDM_minus {m v2 : Value} {z1 z2 : Int} {n1 n2 : Nat} {w : World} (h1 : Rd w (.agg #[.bool true, m]) z1 n1) (h2 : Rd w v2 z2 n2) (f1 : n1 ≤ 10000) (f2 : n2 ≤ 10000) (h0 : 0 < z2) (h : z1 % z2 ≠ 0) :
    Calls Tryz.prog 103 #[.agg #[.bool true, m], v2] w fun e w' => ∃ v s A k c, e = .returned (.tuple #[v, .agg #[.bool s, .slice A k c], .int .i64 0]) ∧ Rc w' v (z1 / z2) n1 ∧ Below w.heap.size w w' := by
  obtain ⟨A1, k1, c1, rfl⟩ : ∃ A k c, m = .slice A k c := by obtain ⟨s', A, k, c, e, -⟩ := h1.shape; simp only [Value.agg.injEq, Array.mk.injEq, List.cons.injEq, and_true] at e; exact ⟨A, k, c, e.2⟩
  obtain ⟨sy, Ay, ky, cy, rfl, -⟩ := h2.shape
  obtain rfl := h2.plus h0
  have hzw := h1.abs
  obtain ⟨lx, N, ux, vx, hlx, hNn, ix⟩ := h1.sgnd
  obtain ⟨ly, D, uy, vy, hly, hDn, iy⟩ := h2.sgnd
  have hD : z2 = (D : Int) := by rw [← iy]; rfl
  have hD0 : 0 < D := by omega
  have hc : N % D ≠ 0 := by
    intro hc
    refine h ?_
    rw [hD, ← ix]
    have := (dmA (s := true) hD0 (Or.inr hc)).2
    rw [← this, hc]
    rfl
  obtain ⟨e1, e2⟩ := dmB hD0 hc
  rw [ix, ← hD] at e1
  have HE1 := Lib.hid e1
  have HE2 := Lib.hid e2
  clear e1 e2 hc
  have HVX := Lib.hid vx
  have HVY := Lib.hid vy
  have HD0 := Lib.hid hD0
  have HNN1 := Lib.hid hNn
  have HDN := Lib.hid hDn
  have HZW := Lib.hid hzw
  have H0 := Lib.hid h0
  have V_y := Lib.hid h2
  have V_xm := Lib.hid ux
  have V_ym := Lib.hid uy
  clear h1 h2 ux uy vx vy ix iy hD hD0 hNn hDn hzw h0 h
  have hb0 : Below w.heap.size w ((((w.alloc (.cells #[.bool true, (.slice A1 k1 c1)] 24)).alloc (.cells #[.bool false, (.slice Ay ky cy)] 24)).alloc (.cells #[.bool false, (.slice none 0 0)] 24)).alloc (.cells #[.bool false, (.slice none 0 0)] 24)) := (Below.alloc (Below.alloc (Below.alloc (Below.alloc (Below.refl w.heap.size w) (by simp <;> omega) _) (by simp <;> omega) _) (by simp <;> omega) _) (by simp <;> omega) _)
  have B_x : Box ((((w.alloc (.cells #[.bool true, (.slice A1 k1 c1)] 24)).alloc (.cells #[.bool false, (.slice Ay ky cy)] 24)).alloc (.cells #[.bool false, (.slice none 0 0)] 24)).alloc (.cells #[.bool false, (.slice none 0 0)] 24)) (w.heap.size) true (.slice A1 k1 c1) := by have h := Box.alloc (Box.alloc (Box.alloc (Box.new w true (.slice A1 k1 c1)) (.cells #[.bool false, (.slice Ay ky cy)] 24)) (.cells #[.bool false, (.slice none 0 0)] 24)) (.cells #[.bool false, (.slice none 0 0)] 24); simpa using h
  replace B_x := Lib.hid B_x
  have B_y : Box ((((w.alloc (.cells #[.bool true, (.slice A1 k1 c1)] 24)).alloc (.cells #[.bool false, (.slice Ay ky cy)] 24)).alloc (.cells #[.bool false, (.slice none 0 0)] 24)).alloc (.cells #[.bool false, (.slice none 0 0)] 24)) (w.heap.size + 1) false (.slice Ay ky cy) := by have h := Box.alloc (Box.alloc (Box.new (w.alloc (.cells #[.bool true, (.slice A1 k1 c1)] 24)) false (.slice Ay ky cy)) (.cells #[.bool false, (.slice none 0 0)] 24)) (.cells #[.bool false, (.slice none 0 0)] 24); simpa using h
  replace B_y := Lib.hid B_y
  have B_q : Box ((((w.alloc (.cells #[.bool true, (.slice A1 k1 c1)] 24)).alloc (.cells #[.bool false, (.slice Ay ky cy)] 24)).alloc (.cells #[.bool false, (.slice none 0 0)] 24)).alloc (.cells #[.bool false, (.slice none 0 0)] 24)) (w.heap.size + 1 + 1) false (.slice none 0 0) := by have h := Box.alloc (Box.new ((w.alloc (.cells #[.bool true, (.slice A1 k1 c1)] 24)).alloc (.cells #[.bool false, (.slice Ay ky cy)] 24)) false (.slice none 0 0)) (.cells #[.bool false, (.slice none 0 0)] 24); simpa using h
  replace B_q := Lib.hid B_q
  have B_r : Box ((((w.alloc (.cells #[.bool true, (.slice A1 k1 c1)] 24)).alloc (.cells #[.bool false, (.slice Ay ky cy)] 24)).alloc (.cells #[.bool false, (.slice none 0 0)] 24)).alloc (.cells #[.bool false, (.slice none 0 0)] 24)) (w.heap.size + 1 + 1 + 1) false (.slice none 0 0) := by have h := Box.new (((w.alloc (.cells #[.bool true, (.slice A1 k1 c1)] 24)).alloc (.cells #[.bool false, (.slice Ay ky cy)] 24)).alloc (.cells #[.bool false, (.slice none 0 0)] 24)) false (.slice none 0 0); simpa using h
  replace B_r := Lib.hid B_r
  replace V_y := Lib.hid (Rd.below V_y.out hb0)
  replace V_xm := Lib.hid (U32.below V_xm.out hb0)
  replace V_ym := Lib.hid (U32.below V_ym.out hb0)
  have HB := Lib.hid hb0
  clear hb0
  have c0x := B_x.out.c0
  have c1x := B_x.out.c1
  have c0y := B_y.out.c0
  have c1y := B_y.out.c1
  have c0q := B_q.out.c0
  have c1q := B_q.out.c1
  have c0r := B_r.out.c0
  have c1r := B_r.out.c1
  go_enter Tryz.func103, Tryz.ntmps103
  go_wp2_with fail
  clear c0x c1x c0y c1y c0q c1q c0r c1r
  generalize (((w.alloc (.cells #[.bool true, (.slice A1 k1 c1)] 24)).alloc (.cells #[.bool false, (.slice Ay ky cy)] 24)).alloc (.cells #[.bool false, (.slice none 0 0)] 24)).alloc (.cells #[.bool false, (.slice none 0 0)] 24) = W0 at *
  refine (RSign_gt (Rd.below V_y.out (by exact ⟨rfl, rfl, rfl, Nat.le_refl _, fun _ _ => rfl⟩)) (by omega) H0.out).mono ?_
  rintro e w1 ⟨rfl, bb⟩
  replace bb := nextw (w0 := W0) (by exact ⟨rfl, rfl, rfl, Nat.le_refl _, fun _ _ => rfl⟩) bb
  replace B_x := Lib.hid (Box.below B_x.out bb B_x.out.lt)
  replace B_y := Lib.hid (Box.below B_y.out bb B_y.out.lt)
  replace B_q := Lib.hid (Box.below B_q.out bb B_q.out.lt)
  replace B_r := Lib.hid (Box.below B_r.out bb B_r.out.lt)
  replace V_y := Lib.hid (Rd.below V_y.out bb)
  replace V_xm := Lib.hid (U32.below V_xm.out bb)
  replace V_ym := Lib.hid (U32.below V_ym.out bb)
  replace HB := Lib.hid (nextw HB.out bb)
  clear bb
  have c0x := B_x.out.c0
  have c1x := B_x.out.c1
  have c0y := B_y.out.c0
  have c1y := B_y.out.c1
  go_wp2
  have c0x := B_x.out.c0
  have c1x := B_x.out.c1
  have c0y := B_y.out.c0
  have c1y := B_y.out.c1
  have tk0 : True := trivial
  first | (go_region_held3 (fun w' => w'.cell? ⟨w.heap.size, 0, none⟩ = some (.bool true) ∧ w'.cell? ⟨w.heap.size, 1, none⟩ = some (.slice A1 k1 c1) ∧ w'.cell? ⟨w.heap.size + 1, 0, none⟩ = some (.bool false) ∧ w'.cell? ⟨w.heap.size + 1, 1, none⟩ = some (.slice Ay ky cy)) (((try dsimp only); (repeat' apply And.intro) <;> (first | (with_reducible assumption) | ((repeat (first | (with_reducible refine Eq.trans (cell_drew1 _ _) ?_) | (with_reducible refine Eq.trans (cell_set4 (by omega) _ _ _ _) ?_))); with_reducible assumption) | assumption | go_keep)))
    (first
      | (have _t := tk0; clear _t tk0; go_at_call 94; refine (rtrim_mag (U32.below V_xm.out (by exact ⟨rfl, rfl, rfl, Nat.le_refl _, fun _ _ => rfl⟩)) HVX.out (by omega)).mono ?_; rintro e w2 ⟨m1, rfl, hm1, bb⟩; replace bb := nextw (w0 := w1) (by exact ⟨rfl, rfl, rfl, Nat.le_refl _, fun _ _ => rfl⟩) bb; clear V_xm; replace B_x := Lib.hid (Box.below B_x.out bb B_x.out.lt); replace B_y := Lib.hid (Box.below B_y.out bb B_y.out.lt); replace B_q := Lib.hid (Box.below B_q.out bb B_q.out.lt); replace B_r := Lib.hid (Box.below B_r.out bb B_r.out.lt); replace V_y := Lib.hid (Rd.below V_y.out bb); replace V_ym := Lib.hid (U32.below V_ym.out bb); replace HB := Lib.hid (nextw HB.out bb); clear bb; replace hm1 := Lib.hid hm1; have V_a := hm1; clear hm1; have c0x := B_x.out.c0; have c1x := B_x.out.c1; have c0y := B_y.out.c0; have c1y := B_y.out.c1; have tk1 : True := trivial)
      | (have _t := tk1; clear _t tk1; go_at_call 94; refine (rtrim_mag (U32.below V_ym.out (by exact ⟨rfl, rfl, rfl, Nat.le_refl _, fun _ _ => rfl⟩)) HVY.out (by omega)).mono ?_; rintro e w3 ⟨m2, rfl, hm2, bb⟩; replace bb := nextw (w0 := w2) (by exact ⟨rfl, rfl, rfl, Nat.le_refl _, fun _ _ => rfl⟩) bb; clear V_ym; replace B_x := Lib.hid (Box.below B_x.out bb B_x.out.lt); replace B_y := Lib.hid (Box.below B_y.out bb B_y.out.lt); replace B_q := Lib.hid (Box.below B_q.out bb B_q.out.lt); replace B_r := Lib.hid (Box.below B_r.out bb B_r.out.lt); replace V_y := Lib.hid (Rd.below V_y.out bb); replace V_a := Lib.hid (U32.below V_a.out bb); replace HB := Lib.hid (nextw HB.out bb); clear bb; replace hm2 := Lib.hid hm2; have V_b := hm2; clear hm2; have c0x := B_x.out.c0; have c1x := B_x.out.c1; have c0y := B_y.out.c0; have c1y := B_y.out.c1; have tk2 : True := trivial)
      | (have _t := tk2; clear _t tk2; go_at_call 125; refine (rdivide_mag (U32.below V_a.out (by exact ⟨rfl, rfl, rfl, Nat.le_refl _, fun _ _ => rfl⟩)) (U32.below V_b.out (by exact ⟨rfl, rfl, rfl, Nat.le_refl _, fun _ _ => rfl⟩)) HD0.out (slot_len HNN1.out (by omega)) (slot_len HDN.out (by omega))).mono ?_; rintro e w4 ⟨Aq, kq, cq, Au, ku, cu, rfl, hq, hu, bb⟩; replace bb := nextw (w0 := w3) (by exact ⟨rfl, rfl, rfl, Nat.le_refl _, fun _ _ => rfl⟩) bb; clear V_a V_b; replace B_x := Lib.hid (Box.below B_x.out bb B_x.out.lt); replace B_y := Lib.hid (Box.below B_y.out bb B_y.out.lt); replace B_q := Lib.hid (Box.below B_q.out bb B_q.out.lt); replace B_r := Lib.hid (Box.below B_r.out bb B_r.out.lt); replace V_y := Lib.hid (Rd.below V_y.out bb); replace HB := Lib.hid (nextw HB.out bb); clear bb; replace hq := Lib.hid hq; have V_qm := hq; clear hq; replace hu := Lib.hid hu; have V_um := hu; clear hu; have c0x := B_x.out.c0; have c1x := B_x.out.c1; have c0y := B_y.out.c0; have c1y := B_y.out.c1; have tk3 : True := trivial))) | fail
  all_goals
    have c0x := B_x.out.c0
    have c1x := B_x.out.c1
    have c0y := B_y.out.c0
    have c1y := B_y.out.c1
    go_wp2_with fail
    refine (RNorm_rd (n1 := n1) (z1 := (sgnd true (N / D))) (Rd_of_mag (U32.below V_qm.out (by exact ⟨rfl, rfl, rfl, Nat.le_refl _, fun _ _ => rfl⟩)) (ndiv_words HNN1.out) rfl) (by omega)).mono ?_
    rintro e w5 ⟨vQ, rfl, rQ, bb⟩
    replace bb := nextw (w0 := w4) (by exact ⟨rfl, rfl, rfl, Nat.le_refl _, fun _ _ => rfl⟩) bb
    clear c0x c1x c0y c1y
    replace B_x := Lib.hid (Box.below B_x.out bb B_x.out.lt)
    replace B_y := Lib.hid (Box.below B_y.out bb B_y.out.lt)
    replace B_q := Lib.hid (Box.below B_q.out bb B_q.out.lt)
    replace B_r := Lib.hid (Box.below B_r.out bb B_r.out.lt)
    replace V_y := Lib.hid (Rd.below V_y.out bb)
    replace V_qm := Lib.hid (U32.below V_qm.out bb)
    replace V_um := Lib.hid (U32.below V_um.out bb)
    replace HB := Lib.hid (nextw HB.out bb)
    clear bb
    obtain ⟨sQ, AQ, kQ, cQ, rfl⟩ := rQ.shape
    have V_Q := Lib.hid rQ
    clear rQ V_qm
    have Z1x := Lib.hid B_x.out.lt
    have Z2y := Lib.hid B_y.out.lt
    have Z3q := Lib.hid B_q.out.lt
    have Z4r := Lib.hid B_r.out.lt
    have hb0 : Below w5.heap.size w5 (w5.alloc (.cells #[.bool sQ, (.slice AQ kQ cQ)] 24)) := (Below.alloc (Below.refl w5.heap.size w5) (by simp <;> omega) _)
    have B_Q : Box (w5.alloc (.cells #[.bool sQ, (.slice AQ kQ cQ)] 24)) (w5.heap.size) sQ (.slice AQ kQ cQ) := by have h := Box.new w5 sQ (.slice AQ kQ cQ); simpa using h
    replace B_Q := Lib.hid B_Q
    replace B_x := Lib.hid (Box.below B_x.out hb0 B_x.out.lt)
    replace B_y := Lib.hid (Box.below B_y.out hb0 B_y.out.lt)
    replace B_q := Lib.hid (Box.below B_q.out hb0 B_q.out.lt)
    replace B_r := Lib.hid (Box.below B_r.out hb0 B_r.out.lt)
    replace V_y := Lib.hid (Rd.below V_y.out hb0)
    replace V_um := Lib.hid (U32.below V_um.out hb0)
    replace V_Q := Lib.hid (Rc.below V_Q.out hb0)
    replace HB := Lib.hid (nextw HB.out hb0)
    clear hb0
    have c0x := B_x.out.c0
    have c1x := B_x.out.c1
    have c0y := B_y.out.c0
    have c1y := B_y.out.c1
    go_wp2_with fail
    clear c0x c1x c0y c1y
    generalize w5.alloc (.cells #[.bool sQ, (.slice AQ kQ cQ)] 24) = W1 at *
    refine (RNorm_rd (n1 := n1) (z1 := (sgnd true (N % D))) (Rd_of_mag (U32.below V_um.out (by exact ⟨rfl, rfl, rfl, Nat.le_refl _, fun _ _ => rfl⟩)) (nmod_words HNN1.out) rfl) (by omega)).mono ?_
    rintro e w6 ⟨vR, rfl, rR, bb⟩
    replace bb := nextw (w0 := W1) (by exact ⟨rfl, rfl, rfl, Nat.le_refl _, fun _ _ => rfl⟩) bb
    replace B_x := Lib.hid (Box.below B_x.out bb B_x.out.lt)
    replace B_y := Lib.hid (Box.below B_y.out bb B_y.out.lt)
    replace B_q := Lib.hid (Box.below B_q.out bb B_q.out.lt)
    replace B_r := Lib.hid (Box.below B_r.out bb B_r.out.lt)
    replace B_Q := Lib.hid (Box.below B_Q.out bb B_Q.out.lt)
    replace V_y := Lib.hid (Rd.below V_y.out bb)
    replace V_um := Lib.hid (U32.below V_um.out bb)
    replace V_Q := Lib.hid (Rc.below V_Q.out bb)
    replace HB := Lib.hid (nextw HB.out bb)
    clear bb
    obtain ⟨AR, kR, cR, rfl⟩ := rR.minus HE2.out
    have V_R := Lib.hid rR
    clear rR V_um
    have Z5x := Lib.hid B_x.out.lt
    have Z6y := Lib.hid B_y.out.lt
    have Z7q := Lib.hid B_q.out.lt
    have Z8r := Lib.hid B_r.out.lt
    have Z9Q := Lib.hid B_Q.out.lt
    have hb0 : Below w6.heap.size w6 (w6.alloc (.cells #[.bool true, (.slice AR kR cR)] 24)) := (Below.alloc (Below.refl w6.heap.size w6) (by simp <;> omega) _)
    have B_R : Box (w6.alloc (.cells #[.bool true, (.slice AR kR cR)] 24)) (w6.heap.size) true (.slice AR kR cR) := by have h := Box.new w6 true (.slice AR kR cR); simpa using h
    replace B_R := Lib.hid B_R
    replace B_x := Lib.hid (Box.below B_x.out hb0 B_x.out.lt)
    replace B_y := Lib.hid (Box.below B_y.out hb0 B_y.out.lt)
    replace B_q := Lib.hid (Box.below B_q.out hb0 B_q.out.lt)
    replace B_r := Lib.hid (Box.below B_r.out hb0 B_r.out.lt)
    replace B_Q := Lib.hid (Box.below B_Q.out hb0 B_Q.out.lt)
    replace V_y := Lib.hid (Rd.below V_y.out hb0)
    replace V_Q := Lib.hid (Rc.below V_Q.out hb0)
    replace V_R := Lib.hid (Rc.below V_R.out hb0)
    replace HB := Lib.hid (nextw HB.out hb0)
    clear hb0
    have c0x := B_x.out.c0
    have c1x := B_x.out.c1
    have f0x := B_x.out.f0
    have f1x := B_x.out.f1
    have c0y := B_y.out.c0
    have c1y := B_y.out.c1
    have f0y := B_y.out.f0
    have f1y := B_y.out.f1
    have c0Q := B_Q.out.c0
    have c1Q := B_Q.out.c1
    have f0Q := B_Q.out.f0
    have f1Q := B_Q.out.f1
    have c0R := B_R.out.c0
    have c1R := B_R.out.c1
    have f0R := B_R.out.f0
    have f1R := B_R.out.f1
    have c0q := B_q.out.c0
    have c1q := B_q.out.c1
    have f0q := B_q.out.f0
    have f1q := B_q.out.f1
    have c0r := B_r.out.c0
    have c1r := B_r.out.c1
    have f0r := B_r.out.f0
    have f1r := B_r.out.f1
    go_wp2
    clear c0x c1x f0x f1x c0y c1y f0y f1y c0Q c1Q f0Q f1Q c0R c1R f0R f1R c0q c1q f0q f1q c0r c1r f0r f1r
    generalize w6.alloc (.cells #[.bool true, (.slice AR kR cR)] 24) = W2 at *
    have c0q := B_q.out.c0
    have c1q := B_q.out.c1
    have f0q := B_q.out.f0
    have f1q := B_q.out.f1
    have c0r := B_r.out.c0
    have c1r := B_r.out.c1
    have f0r := B_r.out.f0
    have f1r := B_r.out.f1
    go_upto_region 7 with fail
    go_cut [] (fun wx => ∃ sb Ab kb cb, Box wx (w6.heap.size) sb (.slice Ab kb cb) ∧ Box wx (w.heap.size + 1) false (.slice Ay ky cy) ∧ Box wx (w5.heap.size) sQ (.slice AQ kQ cQ) ∧ Box wx (w.heap.size + 1 + 1) false (.slice none 0 0) ∧ Box wx (w.heap.size + 1 + 1 + 1) false (.slice none 0 0) ∧ Rc wx (.agg #[.bool sQ, (.slice AQ kQ cQ)]) (sgnd true (N / D)) n1 ∧ Below w.heap.size w wx)
    clear c0q c1q f0q f1q c0r c1r f0r f1r
    case first =>
      have c0R := B_R.out.c0
      have c1R := B_R.out.c1
      have c0y := B_y.out.c0
      have c1y := B_y.out.c1
      have z1x := Z1x.out
      have z2y := Z2y.out
      have z3q := Z3q.out
      have z4r := Z4r.out
      have z5x := Z5x.out
      have z6y := Z6y.out
      have z7q := Z7q.out
      have z8r := Z8r.out
      have z9Q := Z9Q.out
      have tk0 : True := trivial
      first | (go_region_with (first
      | (have _t := tk0; clear _t tk0; go_at_call 116; refine (RAbs_rd (Rd.below V_y.out (by exact ⟨rfl, rfl, rfl, Nat.le_refl _, fun _ _ => rfl⟩)) (by omega)).mono ?_; rintro e w7 ⟨va, rfl, ra, bb⟩; replace bb := nextw (w0 := W2) (by exact ⟨rfl, rfl, rfl, Nat.le_refl _, fun _ _ => rfl⟩) bb; clear V_y; replace B_x := Lib.hid (Box.below B_x.out bb B_x.out.lt); replace B_y := Lib.hid (Box.below B_y.out bb B_y.out.lt); replace B_q := Lib.hid (Box.below B_q.out bb B_q.out.lt); replace B_r := Lib.hid (Box.below B_r.out bb B_r.out.lt); replace B_Q := Lib.hid (Box.below B_Q.out bb B_Q.out.lt); replace B_R := Lib.hid (Box.below B_R.out bb B_R.out.lt); replace V_Q := Lib.hid (Rc.below V_Q.out bb); replace V_R := Lib.hid (Rc.below V_R.out bb); replace HB := Lib.hid (nextw HB.out bb); clear bb; replace ra := Lib.hid ra; have V_a := ra; clear ra; have c0R := B_R.out.c0; have c1R := B_R.out.c1; have c0y := B_y.out.c0; have c1y := B_y.out.c1; have tk1 : True := trivial)
      | (have _t := tk1; clear _t tk1; go_at_call 61; refine (RAdd_rd (Rc.rd (Rc.below V_R.out (by exact ⟨rfl, rfl, rfl, Nat.le_refl _, fun _ _ => rfl⟩))) (Rc.rd (Rc.below V_a.out (by exact ⟨rfl, rfl, rfl, Nat.le_refl _, fun _ _ => rfl⟩))) (by omega) (by omega)).mono ?_; rintro e w8 ⟨vb, rfl, rb, bb⟩; replace bb := nextw (w0 := w7) (by exact ⟨rfl, rfl, rfl, Nat.le_refl _, fun _ _ => rfl⟩) bb; clear V_R V_a; replace B_x := Lib.hid (Box.below B_x.out bb B_x.out.lt); replace B_y := Lib.hid (Box.below B_y.out bb B_y.out.lt); replace B_q := Lib.hid (Box.below B_q.out bb B_q.out.lt); replace B_r := Lib.hid (Box.below B_r.out bb B_r.out.lt); replace B_Q := Lib.hid (Box.below B_Q.out bb B_Q.out.lt); replace B_R := Lib.hid (Box.below B_R.out bb B_R.out.lt); replace V_Q := Lib.hid (Rc.below V_Q.out bb); replace HB := Lib.hid (nextw HB.out bb); clear bb; replace rb := Lib.hid rb; have V_b := rb; clear rb; obtain ⟨sb, Ab, kb, cb, rfl⟩ := V_b.out.shape; have c0R := B_R.out.c0; have c1R := B_R.out.c1; have f0R := B_R.out.f0; have f1R := B_R.out.f1; have c0R := B_R.out.c0; have c1R := B_R.out.c1; have c0y := B_y.out.c0; have c1y := B_y.out.c1; have tk2 : True := trivial))) | fail
      all_goals (clear z1x z2y z3q z4r z5x z6y z7q z8r z9Q)
      all_goals
        clear V_b
        have z1x := Z1x.out
        have z2y := Z2y.out
        have z3q := Z3q.out
        have z4r := Z4r.out
        have z5x := Z5x.out
        have z6y := Z6y.out
        have z7q := Z7q.out
        have z8r := Z8r.out
        have z9Q := Z9Q.out
        replace V_Q := Lib.hid (Box.keepsRc B_R.out V_Q.out sb (.slice Ab kb cb))
        replace B_x := Lib.hid (Box.far (y := w6.heap.size) B_x.out (by omega) (.bool sb) (.slice Ab kb cb))
        replace B_y := Lib.hid (Box.far (y := w6.heap.size) B_y.out (by omega) (.bool sb) (.slice Ab kb cb))
        replace B_q := Lib.hid (Box.far (y := w6.heap.size) B_q.out (by omega) (.bool sb) (.slice Ab kb cb))
        replace B_r := Lib.hid (Box.far (y := w6.heap.size) B_r.out (by omega) (.bool sb) (.slice Ab kb cb))
        replace B_Q := Lib.hid (Box.far (y := w6.heap.size) B_Q.out (by omega) (.bool sb) (.slice Ab kb cb))
        replace HB := Lib.hid (Below.store HB.out (x := w6.heap.size) (by omega) (.bool sb) (.slice Ab kb cb))
        replace B_R := Lib.hid (Box.store B_R.out sb (.slice Ab kb cb))
        generalize ((w8.setCell ⟨w6.heap.size, 0, none⟩ (.bool sb)).setCell ⟨w6.heap.size, 1, none⟩ (.slice Ab kb cb)) = W3 at *
        clear z1x z2y z3q z4r z5x z6y z7q z8r z9Q
        go_wp2_with fail
        go_meet
        exact ⟨_, _, _, _, B_R.out, B_y.out, B_Q.out, B_q.out, B_r.out, V_Q.out, HB.out⟩
    case rest =>
      clear B_x B_y B_q B_r B_Q B_R V_y V_Q V_R HB
      obtain ⟨sb, Ab, kb, cb, B_R, B_y, B_Q, B_q, B_r, V_Q, HB⟩ := hcut
      replace B_R := Lib.hid B_R
      replace B_y := Lib.hid B_y
      replace B_Q := Lib.hid B_Q
      replace B_q := Lib.hid B_q
      replace B_r := Lib.hid B_r
      replace V_Q := Lib.hid V_Q
      replace HB := Lib.hid HB
      generalize wc = W3 at *
      have c0y := B_y.out.c0
      have c1y := B_y.out.c1
      have f0y := B_y.out.f0
      have f1y := B_y.out.f1
      have c0Q := B_Q.out.c0
      have c1Q := B_Q.out.c1
      have f0Q := B_Q.out.f0
      have f1Q := B_Q.out.f1
      have c0q := B_q.out.c0
      have c1q := B_q.out.c1
      have f0q := B_q.out.f0
      have f1q := B_q.out.f1
      have c0r := B_r.out.c0
      have c1r := B_r.out.c1
      have f0r := B_r.out.f0
      have f1r := B_r.out.f1
      go_wp2
      have c0Q := B_Q.out.c0
      have c1Q := B_Q.out.c1
      have z1x := Z1x.out
      have z2y := Z2y.out
      have z3q := Z3q.out
      have z4r := Z4r.out
      have z5x := Z5x.out
      have z6y := Z6y.out
      have z7q := Z7q.out
      have z8r := Z8r.out
      have z9Q := Z9Q.out
      have tk0 : True := trivial
      first | (go_region_with (first
      | (have _t := tk0; clear _t tk0; go_at_call 53; refine (ROf_rc 1 (by omega) (by omega)).mono ?_; rintro e w9 ⟨vo, rfl, ro, bb⟩; replace bb := nextw (w0 := W3) (by exact ⟨rfl, rfl, rfl, Nat.le_refl _, fun _ _ => rfl⟩) bb; replace B_R := Lib.hid (Box.below B_R.out bb B_R.out.lt); replace B_y := Lib.hid (Box.below B_y.out bb B_y.out.lt); replace B_Q := Lib.hid (Box.below B_Q.out bb B_Q.out.lt); replace B_q := Lib.hid (Box.below B_q.out bb B_q.out.lt); replace B_r := Lib.hid (Box.below B_r.out bb B_r.out.lt); replace V_Q := Lib.hid (Rc.below V_Q.out bb); replace HB := Lib.hid (nextw HB.out bb); clear bb; replace ro := Lib.hid ro; have V_o := ro; clear ro; have c0Q := B_Q.out.c0; have c1Q := B_Q.out.c1; have tk1 : True := trivial)
      | (have _t := tk1; clear _t tk1; go_at_call 126; refine (RSub_rd (Rc.rd (Rc.below V_Q.out (by exact ⟨rfl, rfl, rfl, Nat.le_refl _, fun _ _ => rfl⟩))) (Rc.rd (Rc.below V_o.out (by exact ⟨rfl, rfl, rfl, Nat.le_refl _, fun _ _ => rfl⟩))) (by omega) (by omega)).mono ?_; rintro e w10 ⟨vp, rfl, rp, bb⟩; replace bb := nextw (w0 := w9) (by exact ⟨rfl, rfl, rfl, Nat.le_refl _, fun _ _ => rfl⟩) bb; clear V_Q V_o; replace B_R := Lib.hid (Box.below B_R.out bb B_R.out.lt); replace B_y := Lib.hid (Box.below B_y.out bb B_y.out.lt); replace B_Q := Lib.hid (Box.below B_Q.out bb B_Q.out.lt); replace B_q := Lib.hid (Box.below B_q.out bb B_q.out.lt); replace B_r := Lib.hid (Box.below B_r.out bb B_r.out.lt); replace HB := Lib.hid (nextw HB.out bb); clear bb; replace rp := Lib.hid rp; have V_p := rp; clear rp; obtain ⟨sp, Ap, kp, cp, rfl⟩ := V_p.out.shape; have c0Q := B_Q.out.c0; have c1Q := B_Q.out.c1; have f0Q := B_Q.out.f0; have f1Q := B_Q.out.f1; have c0Q := B_Q.out.c0; have c1Q := B_Q.out.c1; have tk2 : True := trivial))) | fail
      all_goals (clear z1x z2y z3q z4r z5x z6y z7q z8r z9Q)
      all_goals
        have z1x := Z1x.out
        have z2y := Z2y.out
        have z3q := Z3q.out
        have z4r := Z4r.out
        have z5x := Z5x.out
        have z6y := Z6y.out
        have z7q := Z7q.out
        have z8r := Z8r.out
        have z9Q := Z9Q.out
        replace V_p := Lib.hid (Box.keepsRc B_Q.out V_p.out sp (.slice Ap kp cp))
        replace B_R := Lib.hid (Box.far (y := w5.heap.size) B_R.out (by omega) (.bool sp) (.slice Ap kp cp))
        replace B_y := Lib.hid (Box.far (y := w5.heap.size) B_y.out (by omega) (.bool sp) (.slice Ap kp cp))
        replace B_q := Lib.hid (Box.far (y := w5.heap.size) B_q.out (by omega) (.bool sp) (.slice Ap kp cp))
        replace B_r := Lib.hid (Box.far (y := w5.heap.size) B_r.out (by omega) (.bool sp) (.slice Ap kp cp))
        replace HB := Lib.hid (Below.store HB.out (x := w5.heap.size) (by omega) (.bool sp) (.slice Ap kp cp))
        replace B_Q := Lib.hid (Box.store B_Q.out sp (.slice Ap kp cp))
        generalize ((w10.setCell ⟨w5.heap.size, 0, none⟩ (.bool sp)).setCell ⟨w5.heap.size, 1, none⟩ (.slice Ap kp cp)) = W4 at *
        clear z1x z2y z3q z4r z5x z6y z7q z8r z9Q
        have c0Q := B_Q.out.c0
        have c1Q := B_Q.out.c1
        have f0Q := B_Q.out.f0
        have f1Q := B_Q.out.f1
        have c0R := B_R.out.c0
        have c1R := B_R.out.c1
        have f0R := B_R.out.f0
        have f1R := B_R.out.f1
        have c0q := B_q.out.c0
        have c1q := B_q.out.c1
        have f0q := B_q.out.f0
        have f1q := B_q.out.f1
        have c0r := B_r.out.c0
        have c1r := B_r.out.c1
        have f0r := B_r.out.f0
        have f1r := B_r.out.f1
        have na1x := Nat.ne_of_lt Z1x.out
        have nb1x := Nat.ne_of_gt Z1x.out
        have na2y := Nat.ne_of_lt Z2y.out
        have nb2y := Nat.ne_of_gt Z2y.out
        have na3q := Nat.ne_of_lt Z3q.out
        have nb3q := Nat.ne_of_gt Z3q.out
        have na4r := Nat.ne_of_lt Z4r.out
        have nb4r := Nat.ne_of_gt Z4r.out
        have na5x := Nat.ne_of_lt Z5x.out
        have nb5x := Nat.ne_of_gt Z5x.out
        have na6y := Nat.ne_of_lt Z6y.out
        have nb6y := Nat.ne_of_gt Z6y.out
        have na7q := Nat.ne_of_lt Z7q.out
        have nb7q := Nat.ne_of_gt Z7q.out
        have na8r := Nat.ne_of_lt Z8r.out
        have nb8r := Nat.ne_of_gt Z8r.out
        have na9Q := Nat.ne_of_lt Z9Q.out
        have nb9Q := Nat.ne_of_gt Z9Q.out
        go_wp2
        go_region
        clear c0Q c1Q f0Q f1Q c0R c1R f0R f1R c0q c1q f0q f1q c0r c1r f0r f1r
        skip
        have K_p := V_p
        replace K_p := Lib.hid (Box.keepsRc B_q.out K_p.out sp (.slice Ap kp cp))
        have HB1 := Lib.hid (Below.store HB.out (x := w.heap.size + 1 + 1) (by omega) (.bool sp) (.slice Ap kp cp))
        have N0r := Lib.hid (Box.far (y := w.heap.size + 1 + 1) B_r.out (by omega) (.bool sp) (.slice Ap kp cp))
        have N0q := Lib.hid (Box.store B_q.out sp (.slice Ap kp cp))
        replace K_p := Lib.hid (Box.keepsRc N0r.out K_p.out sb (.slice Ab kb cb))
        have HB2 := Lib.hid (Below.store HB1.out (x := w.heap.size + 1 + 1 + 1) (by omega) (.bool sb) (.slice Ab kb cb))
        have N1q := Lib.hid (Box.far (y := w.heap.size + 1 + 1 + 1) N0q.out (by omega) (.bool sb) (.slice Ab kb cb))
        have N1r := Lib.hid (Box.store N0r.out sb (.slice Ab kb cb))
        have s0q := N1q.out.c0
        have s1q := N1q.out.c1
        have s0r := N1r.out.c0
        have s1r := N1r.out.c1
        have HBF := HB2
        have c0q := B_q.out.c0
        have c1q := B_q.out.c1
        have f0q := B_q.out.f0
        have f1q := B_q.out.f1
        have c0r := B_r.out.c0
        have c1r := B_r.out.c1
        have f0r := B_r.out.f0
        have f1r := B_r.out.f1
        have p00r := N0r.out.c0
        have r00r := N0r.out.f0
        have p01r := N0r.out.c1
        have r01r := N0r.out.f1
        go_wp2_with fail
        exact bodyPost_ret (v := .tuple #[.agg #[.bool sp, (.slice Ap kp cp)], .agg #[.bool sb, (.slice Ab kb cb)], .int .i64 0]) (by simp [results, Tryz.results103, go_sem, s0q, s1q, s0r, s1r]) rfl ⟨_, _, _, _, _, rfl, (Rc.below K_p.out (by exact ⟨rfl, rfl, rfl, Nat.le_refl _, fun _ _ => rfl⟩)).shrink HE1.out (quot_words HZW.out), (nextw HBF.out (by exact ⟨rfl, rfl, rfl, Nat.le_refl _, fun _ _ => rfl⟩))⟩

theorem RDivMod_rd {v1 v2 : Value} {z1 z2 : Int} {n1 n2 : Nat} {w : World} (h1 : Rd w v1 z1 n1) (h2 : Rd w v2 z2 n2) (f1 : n1 ≤ 10000) (f2 : n2 ≤ 10000) (h0 : 0 < z2) :
    Calls Tryz.prog 103 #[v1, v2] w fun e w' => ∃ v s A k c, e = .returned (.tuple #[v, .agg #[.bool s, .slice A k c], .int .i64 0]) ∧ Rc w' v (z1 / z2) n1 ∧ Below w.heap.size w w' := by
  by_cases h : z1 % z2 = 0
  · exact RDivMod0_rd h1 h2 f1 f2 h0 h
  · obtain ⟨s, m, l, rfl, hu, hz, hl⟩ := id h1
    cases s
    · exact RDM_plus h1 h2 f1 f2 h0
    · exact RDM_minus h1 h2 f1 f2 h0 h
end Go.Proofs.YtldfamjlnphokaaGreatDoor
