/- The reference: Add, of whole numbers. -/
import Derived.Test.YtldfamjlnphokaaGreatDoorRMul
import Derived.Test.YtldfamjlnphokaaGreatDoorRefC
import Derived.Test.YtldfamjlnphokaaGreatDoorNegI

set_option linter.unusedVariables false
set_option linter.unusedSimpArgs false

namespace Go.Proofs.YtldfamjlnphokaaGreatDoor
open Go Go.RowKit Num

theorem radd_mag {v1 v2 : Value} {a b : Nat} {w : World} (h1 : U32 w v1 (digs a)) (h2 : U32 w v2 (digs b)) (f1 : (digs a).length ≤ 500000) (f2 : (digs b).length ≤ 500000) :
    Calls Tryz.prog 99 #[v1, v2] w fun e w' => ∃ A k c, e = .returned (.slice A k c) ∧ U32 w' (.slice A k c) (digs (a + b)) ∧ Below w.heap.size w w' :=
  (radd_any v1 v2 _ _ w h1 h2 f1 f2).mono fun e w' ⟨A, c, he, hm, hb⟩ => ⟨A, _, c, he, by rw [val_digs, val_digs] at hm ⊢; exact hm, hb⟩
theorem rsub_mag {v1 v2 : Value} {a b : Nat} {w : World} (h1 : U32 w v1 (digs a)) (h2 : U32 w v2 (digs b)) (f1 : (digs a).length ≤ 500000) (hle : b ≤ a) :
    Calls Tryz.prog 101 #[v1, v2] w fun e w' => ∃ A k c, e = .returned (.slice A k c) ∧ U32 w' (.slice A k c) (digs (a - b)) ∧ Below w.heap.size w w' :=
  (rsub_any v1 v2 _ _ w h1 h2 f1 (length_mono hle) (by rw [val_digs, val_digs]; exact hle)).mono fun e w' ⟨A, c, he, hm, hb⟩ => ⟨A, _, c, he, by rw [val_digs, val_digs] at hm ⊢; exact hm, hb⟩
theorem rcmp_lt {v1 v2 : Value} {a b : Nat} {w : World} (h1 : U32 w v1 (digs a)) (h2 : U32 w v2 (digs b)) (f1 : (digs a).length ≤ 500000) (f2 : (digs b).length ≤ 500000) (h : a < b) :
    Calls Tryz.prog 100 #[v1, v2] w fun e w' => e = .returned (.int .i64 (-1)) ∧ Below w.heap.size w w' :=
  (rcmp_any v1 v2 a b w h1 h2 (by omega) (by omega)).mono fun e w' ⟨he, n, hw⟩ => ⟨by rw [he]; unfold cmpI; rw [if_pos (by omega)], by subst hw; exact ⟨rfl, rfl, rfl, Nat.le_refl _, fun _ _ => rfl⟩⟩
theorem rcmp_ge {v1 v2 : Value} {a b : Nat} {w : World} (h1 : U32 w v1 (digs a)) (h2 : U32 w v2 (digs b)) (f1 : (digs a).length ≤ 500000) (f2 : (digs b).length ≤ 500000) (h : b ≤ a) :
    Calls Tryz.prog 100 #[v1, v2] w fun e w' => ∃ c : Int, 0 ≤ c ∧ e = .returned (.int .i64 c) ∧ Below w.heap.size w w' :=
  (rcmp_any v1 v2 a b w h1 h2 (by omega) (by omega)).mono fun e w' ⟨he, n, hw⟩ => ⟨_, by unfold cmpI; repeat' split <;> omega, he, by subst hw; exact ⟨rfl, rfl, rfl, Nat.le_refl _, fun _ _ => rfl⟩⟩
set_option maxRecDepth 100000 in
set_option maxHeartbeats 8000000 in
theorem RAdd_rd {v1 v2 : Value} {z1 z2 : Int} {n1 n2 : Nat} {w : World} (h1 : Rd w v1 z1 n1) (h2 : Rd w v2 z2 n2) (f1 : n1 ≤ 20000) (f2 : n2 ≤ 20000) :
    Calls Tryz.prog 61 #[v1, v2] w fun e w' => ∃ v, e = .returned v ∧ Rc w' v (z1 + z2) (n1 + n2 + 1) ∧ Below w.heap.size w w' := by
  obtain ⟨s1, A1, k1, c1, rfl, -⟩ := h1.shape
  obtain ⟨s2, A2, k2, c2, rfl, -⟩ := h2.shape
  have HA := Lib.hid (And.intro h1.abs h2.abs)
  have V_x := Lib.hid h1
  have V_y := Lib.hid h2
  clear h1 h2
  have hb0 : Below w.heap.size w (((w.alloc (.cells #[.bool s1, (.slice A1 k1 c1)] 24)).alloc (.cells #[.bool s2, (.slice A2 k2 c2)] 24)).alloc (.cells #[.bool false, (.slice none 0 0)] 24)) := (Below.alloc (Below.alloc (Below.alloc (Below.refl w.heap.size w) (by simp <;> omega) _) (by simp <;> omega) _) (by simp <;> omega) _)
  have B_x : Box (((w.alloc (.cells #[.bool s1, (.slice A1 k1 c1)] 24)).alloc (.cells #[.bool s2, (.slice A2 k2 c2)] 24)).alloc (.cells #[.bool false, (.slice none 0 0)] 24)) (w.heap.size) s1 (.slice A1 k1 c1) := by have h := Box.alloc (Box.alloc (Box.new w s1 (.slice A1 k1 c1)) (.cells #[.bool s2, (.slice A2 k2 c2)] 24)) (.cells #[.bool false, (.slice none 0 0)] 24); simpa using h
  replace B_x := Lib.hid B_x
  have B_y : Box (((w.alloc (.cells #[.bool s1, (.slice A1 k1 c1)] 24)).alloc (.cells #[.bool s2, (.slice A2 k2 c2)] 24)).alloc (.cells #[.bool false, (.slice none 0 0)] 24)) (w.heap.size + 1) s2 (.slice A2 k2 c2) := by have h := Box.alloc (Box.new (w.alloc (.cells #[.bool s1, (.slice A1 k1 c1)] 24)) s2 (.slice A2 k2 c2)) (.cells #[.bool false, (.slice none 0 0)] 24); simpa using h
  replace B_y := Lib.hid B_y
  have B_r : Box (((w.alloc (.cells #[.bool s1, (.slice A1 k1 c1)] 24)).alloc (.cells #[.bool s2, (.slice A2 k2 c2)] 24)).alloc (.cells #[.bool false, (.slice none 0 0)] 24)) (w.heap.size + 2) false (.slice none 0 0) := by have h := Box.new ((w.alloc (.cells #[.bool s1, (.slice A1 k1 c1)] 24)).alloc (.cells #[.bool s2, (.slice A2 k2 c2)] 24)) false (.slice none 0 0); simpa using h
  replace B_r := Lib.hid B_r
  replace V_x := Lib.hid (Rd.below V_x.out hb0)
  replace V_y := Lib.hid (Rd.below V_y.out hb0)
  have HB := Lib.hid hb0
  clear hb0
  have c0x := B_x.out.c0
  have c1x := B_x.out.c1
  have f0x := B_x.out.f0
  have f1x := B_x.out.f1
  have c0y := B_y.out.c0
  have c1y := B_y.out.c1
  have f0y := B_y.out.f0
  have f1y := B_y.out.f1
  have c0r := B_r.out.c0
  have c1r := B_r.out.c1
  have f0r := B_r.out.f0
  have f1r := B_r.out.f1
  go_enter Tryz.func61, Tryz.ntmps61
  go_wp2_with fail
  clear c0x c1x f0x f1x c0y c1y f0y f1y c0r c1r f0r f1r
  generalize ((w.alloc (.cells #[.bool s1, (.slice A1 k1 c1)] 24)).alloc (.cells #[.bool s2, (.slice A2 k2 c2)] 24)).alloc (.cells #[.bool false, (.slice none 0 0)] 24) = W0 at *
  refine (RNorm_rd (Rd.below V_x.out (by exact ⟨rfl, rfl, rfl, Nat.le_refl _, fun _ _ => rfl⟩)) (by omega)).mono ?_
  rintro e w1 ⟨va, rfl, ra, bb⟩
  replace bb := nextw (w0 := W0) (by exact ⟨rfl, rfl, rfl, Nat.le_refl _, fun _ _ => rfl⟩) bb
  replace B_x := Lib.hid (Box.below B_x.out bb B_x.out.lt)
  replace B_y := Lib.hid (Box.below B_y.out bb B_y.out.lt)
  replace B_r := Lib.hid (Box.below B_r.out bb B_r.out.lt)
  replace V_x := Lib.hid (Rd.below V_x.out bb)
  replace V_y := Lib.hid (Rd.below V_y.out bb)
  replace HB := Lib.hid (nextw HB.out bb)
  clear bb
  obtain ⟨P1, p1, rfl⟩ := ra.form
  obtain ⟨g1, hg1⟩ : ∃ g, decide (z1 < 0) = g := ⟨_, rfl⟩
  obtain ⟨q1, hq1⟩ : ∃ q, (digs z1.natAbs).length = q := ⟨_, rfl⟩
  rw [hg1, hq1] at ra ⊢
  have G1 := Lib.hid hg1
  clear hg1 hq1
  have V_a := Lib.hid ra
  clear ra V_x
  have c0x := B_x.out.c0
  have c1x := B_x.out.c1
  have f0x := B_x.out.f0
  have f1x := B_x.out.f1
  have c0y := B_y.out.c0
  have c1y := B_y.out.c1
  have f0y := B_y.out.f0
  have f1y := B_y.out.f1
  have c0r := B_r.out.c0
  have c1r := B_r.out.c1
  have f0r := B_r.out.f0
  have f1r := B_r.out.f1
  go_wp2_with fail
  clear c0x c1x f0x f1x c0y c1y f0y f1y c0r c1r f0r f1r
  replace V_y := Lib.hid (Box.keepsRd B_x.out V_y.out g1 (.slice P1 q1 p1))
  replace V_a := Lib.hid (Box.keepsRc B_x.out V_a.out g1 (.slice P1 q1 p1))
  replace B_y := Lib.hid (Box.far (y := w.heap.size) B_y.out (by omega) (.bool g1) (.slice P1 q1 p1))
  replace B_r := Lib.hid (Box.far (y := w.heap.size) B_r.out (by omega) (.bool g1) (.slice P1 q1 p1))
  replace HB := Lib.hid (Below.store HB.out (x := w.heap.size) (by omega) (.bool g1) (.slice P1 q1 p1))
  replace B_x := Lib.hid (Box.store B_x.out g1 (.slice P1 q1 p1))
  generalize ((w1.setCell ⟨w.heap.size, 0, none⟩ (.bool g1)).setCell ⟨w.heap.size, 1, none⟩ (.slice P1 q1 p1)) = W1 at *
  refine (RNorm_rd (Rd.below V_y.out (by exact ⟨rfl, rfl, rfl, Nat.le_refl _, fun _ _ => rfl⟩)) (by omega)).mono ?_
  rintro e w2 ⟨vb, rfl, rb, bb⟩
  replace bb := nextw (w0 := W1) (by exact ⟨rfl, rfl, rfl, Nat.le_refl _, fun _ _ => rfl⟩) bb
  replace B_x := Lib.hid (Box.below B_x.out bb B_x.out.lt)
  replace B_y := Lib.hid (Box.below B_y.out bb B_y.out.lt)
  replace B_r := Lib.hid (Box.below B_r.out bb B_r.out.lt)
  replace V_y := Lib.hid (Rd.below V_y.out bb)
  replace V_a := Lib.hid (Rc.below V_a.out bb)
  replace HB := Lib.hid (nextw HB.out bb)
  clear bb
  obtain ⟨P2, p2, rfl⟩ := rb.form
  obtain ⟨g2, hg2⟩ : ∃ g, decide (z2 < 0) = g := ⟨_, rfl⟩
  obtain ⟨q2, hq2⟩ : ∃ q, (digs z2.natAbs).length = q := ⟨_, rfl⟩
  rw [hg2, hq2] at rb ⊢
  have G2 := Lib.hid hg2
  clear hg2 hq2
  have V_b := Lib.hid rb
  clear rb V_y
  have c0x := B_x.out.c0
  have c1x := B_x.out.c1
  have f0x := B_x.out.f0
  have f1x := B_x.out.f1
  have c0y := B_y.out.c0
  have c1y := B_y.out.c1
  have f0y := B_y.out.f0
  have f1y := B_y.out.f1
  have c0r := B_r.out.c0
  have c1r := B_r.out.c1
  have f0r := B_r.out.f0
  have f1r := B_r.out.f1
  replace V_a := Lib.hid (Box.keepsRc B_y.out V_a.out g2 (.slice P2 q2 p2))
  replace V_b := Lib.hid (Box.keepsRc B_y.out V_b.out g2 (.slice P2 q2 p2))
  replace B_x := Lib.hid (Box.far (y := w.heap.size + 1) B_x.out (by omega) (.bool g2) (.slice P2 q2 p2))
  replace B_r := Lib.hid (Box.far (y := w.heap.size + 1) B_r.out (by omega) (.bool g2) (.slice P2 q2 p2))
  replace HB := Lib.hid (Below.store HB.out (x := w.heap.size + 1) (by omega) (.bool g2) (.slice P2 q2 p2))
  replace B_y := Lib.hid (Box.store B_y.out g2 (.slice P2 q2 p2))
  have C0x := B_x.out.c0
  have C1x := B_x.out.c1
  have C0y := B_y.out.c0
  have C1y := B_y.out.c1
  have C0r := B_r.out.c0
  have C1r := B_r.out.c1
  have l1 := digs_length_le HA.out.1
  have l2 := digs_length_le HA.out.2
  cases g1 <;> cases g2
  · go_wp2
    clear c0x c1x f0x f1x c0y c1y f0y f1y c0r c1r f0r f1r C0x C1x C0y C1y C0r C1r
    generalize ((w2.setCell ⟨w.heap.size + 1, 0, none⟩ (.bool false)).setCell ⟨w.heap.size + 1, 1, none⟩ (.slice P2 q2 p2)) = W2 at *
    have hz : sgnd false (z1.natAbs + z2.natAbs) = z1 + z2 := by
      have e1 := of_decide_eq_false G1.out
      have e2 := of_decide_eq_false G2.out
      simp only [sgnd, Bool.false_eq_true, if_false, if_true]
      omega
    have HZ := Lib.hid hz
    clear hz
    have c0x := B_x.out.c0
    have c1x := B_x.out.c1
    have c0y := B_y.out.c0
    have c1y := B_y.out.c1
    go_wp2
    have c0x := B_x.out.c0
    have c1x := B_x.out.c1
    have c0y := B_y.out.c0
    have c1y := B_y.out.c1
    have tk0 : True := trivial
    first | (go_region_held3 (fun w' => w'.cell? ⟨w.heap.size, 0, none⟩ = some (.bool false) ∧ w'.cell? ⟨w.heap.size, 1, none⟩ = some (.slice P1 q1 p1) ∧ w'.cell? ⟨w.heap.size + 1, 0, none⟩ = some (.bool false) ∧ w'.cell? ⟨w.heap.size + 1, 1, none⟩ = some (.slice P2 q2 p2)) (((try dsimp only); (repeat' apply And.intro) <;> (first | assumption | (refine Eq.trans (far2 (by omega) _ _) ?_; assumption) | go_keep)))
    (first
      | (have _t := tk0; clear _t tk0; go_at_call 99; refine (radd_mag (U32.below V_a.out.u32 (by exact ⟨rfl, rfl, rfl, Nat.le_refl _, fun _ _ => rfl⟩)) (U32.below V_b.out.u32 (by exact ⟨rfl, rfl, rfl, Nat.le_refl _, fun _ _ => rfl⟩)) (by omega) (by omega)).mono ?_; rintro e w11 ⟨A3, k3, c3, rfl, u3, bb⟩; replace bb := nextw (w0 := W2) (by exact ⟨rfl, rfl, rfl, Nat.le_refl _, fun _ _ => rfl⟩) bb; replace B_x := Lib.hid (Box.below B_x.out bb B_x.out.lt); replace B_y := Lib.hid (Box.below B_y.out bb B_y.out.lt); replace B_r := Lib.hid (Box.below B_r.out bb B_r.out.lt); replace V_a := Lib.hid (Rc.below V_a.out bb); replace V_b := Lib.hid (Rc.below V_b.out bb); replace HB := Lib.hid (nextw HB.out bb); clear bb; replace u3 := Lib.hid u3; have V_m := u3; clear u3; have c0x := B_x.out.c0; have c1x := B_x.out.c1; have c0y := B_y.out.c0; have c1y := B_y.out.c1; have tk1 : True := trivial)
      | (have _t := tk1; clear _t tk1; go_at_call 90; refine (RNorm_rd (Rd_of_mag (U32.below V_m.out (by exact ⟨rfl, rfl, rfl, Nat.le_refl _, fun _ _ => rfl⟩)) (lt_sum HA.out.1 HA.out.2) HZ.out) (by omega)).mono ?_; rintro e w12 ⟨vr, rfl, rr, bb⟩; replace bb := nextw (w0 := w11) (by exact ⟨rfl, rfl, rfl, Nat.le_refl _, fun _ _ => rfl⟩) bb; replace B_x := Lib.hid (Box.below B_x.out bb B_x.out.lt); replace B_y := Lib.hid (Box.below B_y.out bb B_y.out.lt); replace B_r := Lib.hid (Box.below B_r.out bb B_r.out.lt); replace V_a := Lib.hid (Rc.below V_a.out bb); replace V_b := Lib.hid (Rc.below V_b.out bb); replace V_m := Lib.hid (U32.below V_m.out bb); replace HB := Lib.hid (nextw HB.out bb); clear bb; replace rr := Lib.hid rr; have V_r := rr; clear rr; obtain ⟨sr, Ar, kr, cr, rfl⟩ := V_r.out.shape; have c0r := B_r.out.c0; have c1r := B_r.out.c1; have f0r := B_r.out.f0; have f1r := B_r.out.f1; have c0x := B_x.out.c0; have c1x := B_x.out.c1; have c0y := B_y.out.c0; have c1y := B_y.out.c1; have tk2 : True := trivial))) | fail
    all_goals
      clear V_m V_a V_b
      have bS := Box.store B_r.out sr (.slice Ar kr cr)
      have s0 := bS.c0
      have s1 := bS.c1
      have K_r := Lib.hid (Box.keepsRc B_r.out V_r.out sr (.slice Ar kr cr))
      have HBF := Lib.hid (Below.store HB.out (x := w.heap.size + 2) (by omega) (.bool sr) (.slice Ar kr cr))
      clear bS
      have c0r := B_r.out.c0
      have c1r := B_r.out.c1
      have f0r := B_r.out.f0
      have f1r := B_r.out.f1
      go_wp2_with fail
      generalize (w12.setCell ⟨w.heap.size + 2, 0, none⟩ (.bool sr)).setCell ⟨w.heap.size + 2, 1, none⟩ (.slice Ar kr cr) = WF at *
      go_wp2
      exact bodyPost_ret (v := .agg #[.bool sr, (.slice Ar kr cr)]) (by simp [results, Tryz.results61, go_sem, s0, s1]) rfl ⟨_, rfl, ⟨K_r.out.1, add_words HA.out.1 HA.out.2⟩, HBF.out⟩
  · go_wp2_with fail
    clear c0x c1x f0x f1x c0y c1y f0y f1y c0r c1r f0r f1r C0x C1x C0y C1y C0r C1r
    generalize ((w2.setCell ⟨w.heap.size + 1, 0, none⟩ (.bool true)).setCell ⟨w.heap.size + 1, 1, none⟩ (.slice P2 q2 p2)) = W2 at *
    by_cases hlt : z1.natAbs < z2.natAbs
    · refine (rcmp_lt (U32.below V_a.out.u32 (by exact ⟨rfl, rfl, rfl, Nat.le_refl _, fun _ _ => rfl⟩)) (U32.below V_b.out.u32 (by exact ⟨rfl, rfl, rfl, Nat.le_refl _, fun _ _ => rfl⟩)) (by omega) (by omega) hlt).mono ?_
      rintro e w5 ⟨rfl, bb⟩
      replace bb := nextw (w0 := W2) (by exact ⟨rfl, rfl, rfl, Nat.le_refl _, fun _ _ => rfl⟩) bb
      replace B_x := Lib.hid (Box.below B_x.out bb B_x.out.lt)
      replace B_y := Lib.hid (Box.below B_y.out bb B_y.out.lt)
      replace B_r := Lib.hid (Box.below B_r.out bb B_r.out.lt)
      replace V_a := Lib.hid (Rc.below V_a.out bb)
      replace V_b := Lib.hid (Rc.below V_b.out bb)
      replace HB := Lib.hid (nextw HB.out bb)
      clear bb
      have hz : sgnd true (z2.natAbs - z1.natAbs) = z1 + z2 := by
        have e1 := of_decide_eq_false G1.out
        have e2 := of_decide_eq_true G2.out
        simp only [sgnd, Bool.false_eq_true, if_false, if_true]
        omega
      have HLT := Lib.hid hlt
      clear hlt
      have HZ := Lib.hid hz
      clear hz
      have c0x := B_x.out.c0
      have c1x := B_x.out.c1
      have c0y := B_y.out.c0
      have c1y := B_y.out.c1
      go_wp2
      have c0x := B_x.out.c0
      have c1x := B_x.out.c1
      have c0y := B_y.out.c0
      have c1y := B_y.out.c1
      have tk0 : True := trivial
      first | (go_region_held3 (fun w' => w'.cell? ⟨w.heap.size, 0, none⟩ = some (.bool false) ∧ w'.cell? ⟨w.heap.size, 1, none⟩ = some (.slice P1 q1 p1) ∧ w'.cell? ⟨w.heap.size + 1, 0, none⟩ = some (.bool true) ∧ w'.cell? ⟨w.heap.size + 1, 1, none⟩ = some (.slice P2 q2 p2)) (((try dsimp only); (repeat' apply And.intro) <;> (first | assumption | (refine Eq.trans (far2 (by omega) _ _) ?_; assumption) | go_keep)))
    (first
      | (have _t := tk0; clear _t tk0; go_at_call 101; refine (rsub_mag (U32.below V_b.out.u32 (by exact ⟨rfl, rfl, rfl, Nat.le_refl _, fun _ _ => rfl⟩)) (U32.below V_a.out.u32 (by exact ⟨rfl, rfl, rfl, Nat.le_refl _, fun _ _ => rfl⟩)) (by omega) (Nat.le_of_lt HLT.out)).mono ?_; rintro e w11 ⟨A3, k3, c3, rfl, u3, bb⟩; replace bb := nextw (w0 := w5) (by exact ⟨rfl, rfl, rfl, Nat.le_refl _, fun _ _ => rfl⟩) bb; replace B_x := Lib.hid (Box.below B_x.out bb B_x.out.lt); replace B_y := Lib.hid (Box.below B_y.out bb B_y.out.lt); replace B_r := Lib.hid (Box.below B_r.out bb B_r.out.lt); replace V_a := Lib.hid (Rc.below V_a.out bb); replace V_b := Lib.hid (Rc.below V_b.out bb); replace HB := Lib.hid (nextw HB.out bb); clear bb; replace u3 := Lib.hid u3; have V_m := u3; clear u3; have c0x := B_x.out.c0; have c1x := B_x.out.c1; have c0y := B_y.out.c0; have c1y := B_y.out.c1; have tk1 : True := trivial)
      | (have _t := tk1; clear _t tk1; go_at_call 90; refine (RNorm_rd (Rd_of_mag (U32.below V_m.out (by exact ⟨rfl, rfl, rfl, Nat.le_refl _, fun _ _ => rfl⟩)) (Nat.lt_of_le_of_lt (Nat.le_trans (Nat.sub_le _ _) (Nat.le_add_left _ _)) (lt_sum HA.out.1 HA.out.2)) HZ.out) (by omega)).mono ?_; rintro e w12 ⟨vr, rfl, rr, bb⟩; replace bb := nextw (w0 := w11) (by exact ⟨rfl, rfl, rfl, Nat.le_refl _, fun _ _ => rfl⟩) bb; replace B_x := Lib.hid (Box.below B_x.out bb B_x.out.lt); replace B_y := Lib.hid (Box.below B_y.out bb B_y.out.lt); replace B_r := Lib.hid (Box.below B_r.out bb B_r.out.lt); replace V_a := Lib.hid (Rc.below V_a.out bb); replace V_b := Lib.hid (Rc.below V_b.out bb); replace V_m := Lib.hid (U32.below V_m.out bb); replace HB := Lib.hid (nextw HB.out bb); clear bb; replace rr := Lib.hid rr; have V_r := rr; clear rr; obtain ⟨sr, Ar, kr, cr, rfl⟩ := V_r.out.shape; have c0r := B_r.out.c0; have c1r := B_r.out.c1; have f0r := B_r.out.f0; have f1r := B_r.out.f1; have c0x := B_x.out.c0; have c1x := B_x.out.c1; have c0y := B_y.out.c0; have c1y := B_y.out.c1; have tk2 : True := trivial))) | fail
      all_goals
        clear V_m V_a V_b
        have bS := Box.store B_r.out sr (.slice Ar kr cr)
        have s0 := bS.c0
        have s1 := bS.c1
        have K_r := Lib.hid (Box.keepsRc B_r.out V_r.out sr (.slice Ar kr cr))
        have HBF := Lib.hid (Below.store HB.out (x := w.heap.size + 2) (by omega) (.bool sr) (.slice Ar kr cr))
        clear bS
        have c0r := B_r.out.c0
        have c1r := B_r.out.c1
        have f0r := B_r.out.f0
        have f1r := B_r.out.f1
        go_wp2_with fail
        generalize (w12.setCell ⟨w.heap.size + 2, 0, none⟩ (.bool sr)).setCell ⟨w.heap.size + 2, 1, none⟩ (.slice Ar kr cr) = WF at *
        go_wp2
        exact bodyPost_ret (v := .agg #[.bool sr, (.slice Ar kr cr)]) (by simp [results, Tryz.results61, go_sem, s0, s1]) rfl ⟨_, rfl, ⟨K_r.out.1, add_words HA.out.1 HA.out.2⟩, HBF.out⟩
    · refine (rcmp_ge (U32.below V_a.out.u32 (by exact ⟨rfl, rfl, rfl, Nat.le_refl _, fun _ _ => rfl⟩)) (U32.below V_b.out.u32 (by exact ⟨rfl, rfl, rfl, Nat.le_refl _, fun _ _ => rfl⟩)) (by omega) (by omega) (by omega)).mono ?_
      rintro e w5 ⟨cc, hcc, rfl, bb⟩
      replace bb := nextw (w0 := W2) (by exact ⟨rfl, rfl, rfl, Nat.le_refl _, fun _ _ => rfl⟩) bb
      replace B_x := Lib.hid (Box.below B_x.out bb B_x.out.lt)
      replace B_y := Lib.hid (Box.below B_y.out bb B_y.out.lt)
      replace B_r := Lib.hid (Box.below B_r.out bb B_r.out.lt)
      replace V_a := Lib.hid (Rc.below V_a.out bb)
      replace V_b := Lib.hid (Rc.below V_b.out bb)
      replace HB := Lib.hid (nextw HB.out bb)
      clear bb
      have hz : sgnd false (z1.natAbs - z2.natAbs) = z1 + z2 := by
        have e1 := of_decide_eq_false G1.out
        have e2 := of_decide_eq_true G2.out
        simp only [sgnd, Bool.false_eq_true, if_false, if_true]
        omega
      have HLT := Lib.hid hlt
      clear hlt
      have HZ := Lib.hid hz
      clear hz
      have c0x := B_x.out.c0
      have c1x := B_x.out.c1
      have c0y := B_y.out.c0
      have c1y := B_y.out.c1
      go_wp2
      have c0x := B_x.out.c0
      have c1x := B_x.out.c1
      have c0y := B_y.out.c0
      have c1y := B_y.out.c1
      have tk0 : True := trivial
      first | (go_region_held3 (fun w' => w'.cell? ⟨w.heap.size, 0, none⟩ = some (.bool false) ∧ w'.cell? ⟨w.heap.size, 1, none⟩ = some (.slice P1 q1 p1) ∧ w'.cell? ⟨w.heap.size + 1, 0, none⟩ = some (.bool true) ∧ w'.cell? ⟨w.heap.size + 1, 1, none⟩ = some (.slice P2 q2 p2)) (((try dsimp only); (repeat' apply And.intro) <;> (first | assumption | (refine Eq.trans (far2 (by omega) _ _) ?_; assumption) | go_keep)))
    (first
      | (have _t := tk0; clear _t tk0; go_at_call 101; refine (rsub_mag (U32.below V_a.out.u32 (by exact ⟨rfl, rfl, rfl, Nat.le_refl _, fun _ _ => rfl⟩)) (U32.below V_b.out.u32 (by exact ⟨rfl, rfl, rfl, Nat.le_refl _, fun _ _ => rfl⟩)) (by omega) (Nat.le_of_not_lt HLT.out)).mono ?_; rintro e w11 ⟨A3, k3, c3, rfl, u3, bb⟩; replace bb := nextw (w0 := w5) (by exact ⟨rfl, rfl, rfl, Nat.le_refl _, fun _ _ => rfl⟩) bb; replace B_x := Lib.hid (Box.below B_x.out bb B_x.out.lt); replace B_y := Lib.hid (Box.below B_y.out bb B_y.out.lt); replace B_r := Lib.hid (Box.below B_r.out bb B_r.out.lt); replace V_a := Lib.hid (Rc.below V_a.out bb); replace V_b := Lib.hid (Rc.below V_b.out bb); replace HB := Lib.hid (nextw HB.out bb); clear bb; replace u3 := Lib.hid u3; have V_m := u3; clear u3; have c0x := B_x.out.c0; have c1x := B_x.out.c1; have c0y := B_y.out.c0; have c1y := B_y.out.c1; have tk1 : True := trivial)
      | (have _t := tk1; clear _t tk1; go_at_call 90; refine (RNorm_rd (Rd_of_mag (U32.below V_m.out (by exact ⟨rfl, rfl, rfl, Nat.le_refl _, fun _ _ => rfl⟩)) (Nat.lt_of_le_of_lt (Nat.le_trans (Nat.sub_le _ _) (Nat.le_add_right _ _)) (lt_sum HA.out.1 HA.out.2)) HZ.out) (by omega)).mono ?_; rintro e w12 ⟨vr, rfl, rr, bb⟩; replace bb := nextw (w0 := w11) (by exact ⟨rfl, rfl, rfl, Nat.le_refl _, fun _ _ => rfl⟩) bb; replace B_x := Lib.hid (Box.below B_x.out bb B_x.out.lt); replace B_y := Lib.hid (Box.below B_y.out bb B_y.out.lt); replace B_r := Lib.hid (Box.below B_r.out bb B_r.out.lt); replace V_a := Lib.hid (Rc.below V_a.out bb); replace V_b := Lib.hid (Rc.below V_b.out bb); replace V_m := Lib.hid (U32.below V_m.out bb); replace HB := Lib.hid (nextw HB.out bb); clear bb; replace rr := Lib.hid rr; have V_r := rr; clear rr; obtain ⟨sr, Ar, kr, cr, rfl⟩ := V_r.out.shape; have c0r := B_r.out.c0; have c1r := B_r.out.c1; have f0r := B_r.out.f0; have f1r := B_r.out.f1; have c0x := B_x.out.c0; have c1x := B_x.out.c1; have c0y := B_y.out.c0; have c1y := B_y.out.c1; have tk2 : True := trivial))) | fail
      all_goals
        clear V_m V_a V_b
        have bS := Box.store B_r.out sr (.slice Ar kr cr)
        have s0 := bS.c0
        have s1 := bS.c1
        have K_r := Lib.hid (Box.keepsRc B_r.out V_r.out sr (.slice Ar kr cr))
        have HBF := Lib.hid (Below.store HB.out (x := w.heap.size + 2) (by omega) (.bool sr) (.slice Ar kr cr))
        clear bS
        have c0r := B_r.out.c0
        have c1r := B_r.out.c1
        have f0r := B_r.out.f0
        have f1r := B_r.out.f1
        go_wp2_with fail
        generalize (w12.setCell ⟨w.heap.size + 2, 0, none⟩ (.bool sr)).setCell ⟨w.heap.size + 2, 1, none⟩ (.slice Ar kr cr) = WF at *
        go_wp2
        exact bodyPost_ret (v := .agg #[.bool sr, (.slice Ar kr cr)]) (by simp [results, Tryz.results61, go_sem, s0, s1]) rfl ⟨_, rfl, ⟨K_r.out.1, add_words HA.out.1 HA.out.2⟩, HBF.out⟩
  · go_wp2_with fail
    clear c0x c1x f0x f1x c0y c1y f0y f1y c0r c1r f0r f1r C0x C1x C0y C1y C0r C1r
    generalize ((w2.setCell ⟨w.heap.size + 1, 0, none⟩ (.bool false)).setCell ⟨w.heap.size + 1, 1, none⟩ (.slice P2 q2 p2)) = W2 at *
    by_cases hlt : z1.natAbs < z2.natAbs
    · refine (rcmp_lt (U32.below V_a.out.u32 (by exact ⟨rfl, rfl, rfl, Nat.le_refl _, fun _ _ => rfl⟩)) (U32.below V_b.out.u32 (by exact ⟨rfl, rfl, rfl, Nat.le_refl _, fun _ _ => rfl⟩)) (by omega) (by omega) hlt).mono ?_
      rintro e w5 ⟨rfl, bb⟩
      replace bb := nextw (w0 := W2) (by exact ⟨rfl, rfl, rfl, Nat.le_refl _, fun _ _ => rfl⟩) bb
      replace B_x := Lib.hid (Box.below B_x.out bb B_x.out.lt)
      replace B_y := Lib.hid (Box.below B_y.out bb B_y.out.lt)
      replace B_r := Lib.hid (Box.below B_r.out bb B_r.out.lt)
      replace V_a := Lib.hid (Rc.below V_a.out bb)
      replace V_b := Lib.hid (Rc.below V_b.out bb)
      replace HB := Lib.hid (nextw HB.out bb)
      clear bb
      have hz : sgnd false (z2.natAbs - z1.natAbs) = z1 + z2 := by
        have e1 := of_decide_eq_true G1.out
        have e2 := of_decide_eq_false G2.out
        simp only [sgnd, Bool.false_eq_true, if_false, if_true]
        omega
      have HLT := Lib.hid hlt
      clear hlt
      have HZ := Lib.hid hz
      clear hz
      have c0x := B_x.out.c0
      have c1x := B_x.out.c1
      have c0y := B_y.out.c0
      have c1y := B_y.out.c1
      go_wp2
      have c0x := B_x.out.c0
      have c1x := B_x.out.c1
      have c0y := B_y.out.c0
      have c1y := B_y.out.c1
      have tk0 : True := trivial
      first | (go_region_held3 (fun w' => w'.cell? ⟨w.heap.size, 0, none⟩ = some (.bool true) ∧ w'.cell? ⟨w.heap.size, 1, none⟩ = some (.slice P1 q1 p1) ∧ w'.cell? ⟨w.heap.size + 1, 0, none⟩ = some (.bool false) ∧ w'.cell? ⟨w.heap.size + 1, 1, none⟩ = some (.slice P2 q2 p2)) (((try dsimp only); (repeat' apply And.intro) <;> (first | assumption | (refine Eq.trans (far2 (by omega) _ _) ?_; assumption) | go_keep)))
    (first
      | (have _t := tk0; clear _t tk0; go_at_call 101; refine (rsub_mag (U32.below V_b.out.u32 (by exact ⟨rfl, rfl, rfl, Nat.le_refl _, fun _ _ => rfl⟩)) (U32.below V_a.out.u32 (by exact ⟨rfl, rfl, rfl, Nat.le_refl _, fun _ _ => rfl⟩)) (by omega) (Nat.le_of_lt HLT.out)).mono ?_; rintro e w11 ⟨A3, k3, c3, rfl, u3, bb⟩; replace bb := nextw (w0 := w5) (by exact ⟨rfl, rfl, rfl, Nat.le_refl _, fun _ _ => rfl⟩) bb; replace B_x := Lib.hid (Box.below B_x.out bb B_x.out.lt); replace B_y := Lib.hid (Box.below B_y.out bb B_y.out.lt); replace B_r := Lib.hid (Box.below B_r.out bb B_r.out.lt); replace V_a := Lib.hid (Rc.below V_a.out bb); replace V_b := Lib.hid (Rc.below V_b.out bb); replace HB := Lib.hid (nextw HB.out bb); clear bb; replace u3 := Lib.hid u3; have V_m := u3; clear u3; have c0x := B_x.out.c0; have c1x := B_x.out.c1; have c0y := B_y.out.c0; have c1y := B_y.out.c1; have tk1 : True := trivial)
      | (have _t := tk1; clear _t tk1; go_at_call 90; refine (RNorm_rd (Rd_of_mag (U32.below V_m.out (by exact ⟨rfl, rfl, rfl, Nat.le_refl _, fun _ _ => rfl⟩)) (Nat.lt_of_le_of_lt (Nat.le_trans (Nat.sub_le _ _) (Nat.le_add_left _ _)) (lt_sum HA.out.1 HA.out.2)) HZ.out) (by omega)).mono ?_; rintro e w12 ⟨vr, rfl, rr, bb⟩; replace bb := nextw (w0 := w11) (by exact ⟨rfl, rfl, rfl, Nat.le_refl _, fun _ _ => rfl⟩) bb; replace B_x := Lib.hid (Box.below B_x.out bb B_x.out.lt); replace B_y := Lib.hid (Box.below B_y.out bb B_y.out.lt); replace B_r := Lib.hid (Box.below B_r.out bb B_r.out.lt); replace V_a := Lib.hid (Rc.below V_a.out bb); replace V_b := Lib.hid (Rc.below V_b.out bb); replace V_m := Lib.hid (U32.below V_m.out bb); replace HB := Lib.hid (nextw HB.out bb); clear bb; replace rr := Lib.hid rr; have V_r := rr; clear rr; obtain ⟨sr, Ar, kr, cr, rfl⟩ := V_r.out.shape; have c0r := B_r.out.c0; have c1r := B_r.out.c1; have f0r := B_r.out.f0; have f1r := B_r.out.f1; have c0x := B_x.out.c0; have c1x := B_x.out.c1; have c0y := B_y.out.c0; have c1y := B_y.out.c1; have tk2 : True := trivial))) | fail
      all_goals
        clear V_m V_a V_b
        have bS := Box.store B_r.out sr (.slice Ar kr cr)
        have s0 := bS.c0
        have s1 := bS.c1
        have K_r := Lib.hid (Box.keepsRc B_r.out V_r.out sr (.slice Ar kr cr))
        have HBF := Lib.hid (Below.store HB.out (x := w.heap.size + 2) (by omega) (.bool sr) (.slice Ar kr cr))
        clear bS
        have c0r := B_r.out.c0
        have c1r := B_r.out.c1
        have f0r := B_r.out.f0
        have f1r := B_r.out.f1
        go_wp2_with fail
        generalize (w12.setCell ⟨w.heap.size + 2, 0, none⟩ (.bool sr)).setCell ⟨w.heap.size + 2, 1, none⟩ (.slice Ar kr cr) = WF at *
        go_wp2
        exact bodyPost_ret (v := .agg #[.bool sr, (.slice Ar kr cr)]) (by simp [results, Tryz.results61, go_sem, s0, s1]) rfl ⟨_, rfl, ⟨K_r.out.1, add_words HA.out.1 HA.out.2⟩, HBF.out⟩
    · refine (rcmp_ge (U32.below V_a.out.u32 (by exact ⟨rfl, rfl, rfl, Nat.le_refl _, fun _ _ => rfl⟩)) (U32.below V_b.out.u32 (by exact ⟨rfl, rfl, rfl, Nat.le_refl _, fun _ _ => rfl⟩)) (by omega) (by omega) (by omega)).mono ?_
      rintro e w5 ⟨cc, hcc, rfl, bb⟩
      replace bb := nextw (w0 := W2) (by exact ⟨rfl, rfl, rfl, Nat.le_refl _, fun _ _ => rfl⟩) bb
      replace B_x := Lib.hid (Box.below B_x.out bb B_x.out.lt)
      replace B_y := Lib.hid (Box.below B_y.out bb B_y.out.lt)
      replace B_r := Lib.hid (Box.below B_r.out bb B_r.out.lt)
      replace V_a := Lib.hid (Rc.below V_a.out bb)
      replace V_b := Lib.hid (Rc.below V_b.out bb)
      replace HB := Lib.hid (nextw HB.out bb)
      clear bb
      have hz : sgnd true (z1.natAbs - z2.natAbs) = z1 + z2 := by
        have e1 := of_decide_eq_true G1.out
        have e2 := of_decide_eq_false G2.out
        simp only [sgnd, Bool.false_eq_true, if_false, if_true]
        omega
      have HLT := Lib.hid hlt
      clear hlt
      have HZ := Lib.hid hz
      clear hz
      have c0x := B_x.out.c0
      have c1x := B_x.out.c1
      have c0y := B_y.out.c0
      have c1y := B_y.out.c1
      go_wp2
      have c0x := B_x.out.c0
      have c1x := B_x.out.c1
      have c0y := B_y.out.c0
      have c1y := B_y.out.c1
      have tk0 : True := trivial
      first | (go_region_held3 (fun w' => w'.cell? ⟨w.heap.size, 0, none⟩ = some (.bool true) ∧ w'.cell? ⟨w.heap.size, 1, none⟩ = some (.slice P1 q1 p1) ∧ w'.cell? ⟨w.heap.size + 1, 0, none⟩ = some (.bool false) ∧ w'.cell? ⟨w.heap.size + 1, 1, none⟩ = some (.slice P2 q2 p2)) (((try dsimp only); (repeat' apply And.intro) <;> (first | assumption | (refine Eq.trans (far2 (by omega) _ _) ?_; assumption) | go_keep)))
    (first
      | (have _t := tk0; clear _t tk0; go_at_call 101; refine (rsub_mag (U32.below V_a.out.u32 (by exact ⟨rfl, rfl, rfl, Nat.le_refl _, fun _ _ => rfl⟩)) (U32.below V_b.out.u32 (by exact ⟨rfl, rfl, rfl, Nat.le_refl _, fun _ _ => rfl⟩)) (by omega) (Nat.le_of_not_lt HLT.out)).mono ?_; rintro e w11 ⟨A3, k3, c3, rfl, u3, bb⟩; replace bb := nextw (w0 := w5) (by exact ⟨rfl, rfl, rfl, Nat.le_refl _, fun _ _ => rfl⟩) bb; replace B_x := Lib.hid (Box.below B_x.out bb B_x.out.lt); replace B_y := Lib.hid (Box.below B_y.out bb B_y.out.lt); replace B_r := Lib.hid (Box.below B_r.out bb B_r.out.lt); replace V_a := Lib.hid (Rc.below V_a.out bb); replace V_b := Lib.hid (Rc.below V_b.out bb); replace HB := Lib.hid (nextw HB.out bb); clear bb; replace u3 := Lib.hid u3; have V_m := u3; clear u3; have c0x := B_x.out.c0; have c1x := B_x.out.c1; have c0y := B_y.out.c0; have c1y := B_y.out.c1; have tk1 : True := trivial)
      | (have _t := tk1; clear _t tk1; go_at_call 90; refine (RNorm_rd (Rd_of_mag (U32.below V_m.out (by exact ⟨rfl, rfl, rfl, Nat.le_refl _, fun _ _ => rfl⟩)) (Nat.lt_of_le_of_lt (Nat.le_trans (Nat.sub_le _ _) (Nat.le_add_right _ _)) (lt_sum HA.out.1 HA.out.2)) HZ.out) (by omega)).mono ?_; rintro e w12 ⟨vr, rfl, rr, bb⟩; replace bb := nextw (w0 := w11) (by exact ⟨rfl, rfl, rfl, Nat.le_refl _, fun _ _ => rfl⟩) bb; replace B_x := Lib.hid (Box.below B_x.out bb B_x.out.lt); replace B_y := Lib.hid (Box.below B_y.out bb B_y.out.lt); replace B_r := Lib.hid (Box.below B_r.out bb B_r.out.lt); replace V_a := Lib.hid (Rc.below V_a.out bb); replace V_b := Lib.hid (Rc.below V_b.out bb); replace V_m := Lib.hid (U32.below V_m.out bb); replace HB := Lib.hid (nextw HB.out bb); clear bb; replace rr := Lib.hid rr; have V_r := rr; clear rr; obtain ⟨sr, Ar, kr, cr, rfl⟩ := V_r.out.shape; have c0r := B_r.out.c0; have c1r := B_r.out.c1; have f0r := B_r.out.f0; have f1r := B_r.out.f1; have c0x := B_x.out.c0; have c1x := B_x.out.c1; have c0y := B_y.out.c0; have c1y := B_y.out.c1; have tk2 : True := trivial))) | fail
      all_goals
        clear V_m V_a V_b
        have bS := Box.store B_r.out sr (.slice Ar kr cr)
        have s0 := bS.c0
        have s1 := bS.c1
        have K_r := Lib.hid (Box.keepsRc B_r.out V_r.out sr (.slice Ar kr cr))
        have HBF := Lib.hid (Below.store HB.out (x := w.heap.size + 2) (by omega) (.bool sr) (.slice Ar kr cr))
        clear bS
        have c0r := B_r.out.c0
        have c1r := B_r.out.c1
        have f0r := B_r.out.f0
        have f1r := B_r.out.f1
        go_wp2_with fail
        generalize (w12.setCell ⟨w.heap.size + 2, 0, none⟩ (.bool sr)).setCell ⟨w.heap.size + 2, 1, none⟩ (.slice Ar kr cr) = WF at *
        go_wp2
        exact bodyPost_ret (v := .agg #[.bool sr, (.slice Ar kr cr)]) (by simp [results, Tryz.results61, go_sem, s0, s1]) rfl ⟨_, rfl, ⟨K_r.out.1, add_words HA.out.1 HA.out.2⟩, HBF.out⟩
  · go_wp2
    clear c0x c1x f0x f1x c0y c1y f0y f1y c0r c1r f0r f1r C0x C1x C0y C1y C0r C1r
    generalize ((w2.setCell ⟨w.heap.size + 1, 0, none⟩ (.bool true)).setCell ⟨w.heap.size + 1, 1, none⟩ (.slice P2 q2 p2)) = W2 at *
    have hz : sgnd true (z1.natAbs + z2.natAbs) = z1 + z2 := by
      have e1 := of_decide_eq_true G1.out
      have e2 := of_decide_eq_true G2.out
      simp only [sgnd, Bool.false_eq_true, if_false, if_true]
      omega
    have HZ := Lib.hid hz
    clear hz
    have c0x := B_x.out.c0
    have c1x := B_x.out.c1
    have c0y := B_y.out.c0
    have c1y := B_y.out.c1
    go_wp2
    have c0x := B_x.out.c0
    have c1x := B_x.out.c1
    have c0y := B_y.out.c0
    have c1y := B_y.out.c1
    have tk0 : True := trivial
    first | (go_region_held3 (fun w' => w'.cell? ⟨w.heap.size, 0, none⟩ = some (.bool true) ∧ w'.cell? ⟨w.heap.size, 1, none⟩ = some (.slice P1 q1 p1) ∧ w'.cell? ⟨w.heap.size + 1, 0, none⟩ = some (.bool true) ∧ w'.cell? ⟨w.heap.size + 1, 1, none⟩ = some (.slice P2 q2 p2)) (((try dsimp only); (repeat' apply And.intro) <;> (first | assumption | (refine Eq.trans (far2 (by omega) _ _) ?_; assumption) | go_keep)))
    (first
      | (have _t := tk0; clear _t tk0; go_at_call 99; refine (radd_mag (U32.below V_a.out.u32 (by exact ⟨rfl, rfl, rfl, Nat.le_refl _, fun _ _ => rfl⟩)) (U32.below V_b.out.u32 (by exact ⟨rfl, rfl, rfl, Nat.le_refl _, fun _ _ => rfl⟩)) (by omega) (by omega)).mono ?_; rintro e w11 ⟨A3, k3, c3, rfl, u3, bb⟩; replace bb := nextw (w0 := W2) (by exact ⟨rfl, rfl, rfl, Nat.le_refl _, fun _ _ => rfl⟩) bb; replace B_x := Lib.hid (Box.below B_x.out bb B_x.out.lt); replace B_y := Lib.hid (Box.below B_y.out bb B_y.out.lt); replace B_r := Lib.hid (Box.below B_r.out bb B_r.out.lt); replace V_a := Lib.hid (Rc.below V_a.out bb); replace V_b := Lib.hid (Rc.below V_b.out bb); replace HB := Lib.hid (nextw HB.out bb); clear bb; replace u3 := Lib.hid u3; have V_m := u3; clear u3; have c0x := B_x.out.c0; have c1x := B_x.out.c1; have c0y := B_y.out.c0; have c1y := B_y.out.c1; have tk1 : True := trivial)
      | (have _t := tk1; clear _t tk1; go_at_call 90; refine (RNorm_rd (Rd_of_mag (U32.below V_m.out (by exact ⟨rfl, rfl, rfl, Nat.le_refl _, fun _ _ => rfl⟩)) (lt_sum HA.out.1 HA.out.2) HZ.out) (by omega)).mono ?_; rintro e w12 ⟨vr, rfl, rr, bb⟩; replace bb := nextw (w0 := w11) (by exact ⟨rfl, rfl, rfl, Nat.le_refl _, fun _ _ => rfl⟩) bb; replace B_x := Lib.hid (Box.below B_x.out bb B_x.out.lt); replace B_y := Lib.hid (Box.below B_y.out bb B_y.out.lt); replace B_r := Lib.hid (Box.below B_r.out bb B_r.out.lt); replace V_a := Lib.hid (Rc.below V_a.out bb); replace V_b := Lib.hid (Rc.below V_b.out bb); replace V_m := Lib.hid (U32.below V_m.out bb); replace HB := Lib.hid (nextw HB.out bb); clear bb; replace rr := Lib.hid rr; have V_r := rr; clear rr; obtain ⟨sr, Ar, kr, cr, rfl⟩ := V_r.out.shape; have c0r := B_r.out.c0; have c1r := B_r.out.c1; have f0r := B_r.out.f0; have f1r := B_r.out.f1; have c0x := B_x.out.c0; have c1x := B_x.out.c1; have c0y := B_y.out.c0; have c1y := B_y.out.c1; have tk2 : True := trivial))) | fail
    all_goals
      clear V_m V_a V_b
      have bS := Box.store B_r.out sr (.slice Ar kr cr)
      have s0 := bS.c0
      have s1 := bS.c1
      have K_r := Lib.hid (Box.keepsRc B_r.out V_r.out sr (.slice Ar kr cr))
      have HBF := Lib.hid (Below.store HB.out (x := w.heap.size + 2) (by omega) (.bool sr) (.slice Ar kr cr))
      clear bS
      have c0r := B_r.out.c0
      have c1r := B_r.out.c1
      have f0r := B_r.out.f0
      have f1r := B_r.out.f1
      go_wp2_with fail
      generalize (w12.setCell ⟨w.heap.size + 2, 0, none⟩ (.bool sr)).setCell ⟨w.heap.size + 2, 1, none⟩ (.slice Ar kr cr) = WF at *
      go_wp2
      exact bodyPost_ret (v := .agg #[.bool sr, (.slice Ar kr cr)]) (by simp [results, Tryz.results61, go_sem, s0, s1]) rfl ⟨_, rfl, ⟨K_r.out.1, add_words HA.out.1 HA.out.2⟩, HBF.out⟩
end Go.Proofs.YtldfamjlnphokaaGreatDoor
