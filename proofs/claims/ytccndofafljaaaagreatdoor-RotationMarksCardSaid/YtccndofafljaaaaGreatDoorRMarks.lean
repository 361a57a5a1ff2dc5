/- The law RotationMarks: the walk. -/
import Derived.Test.YtccndofafljaaaaGreatDoorRAwake
import Derived.Test.YtccndofafljaaaaGreatDoorRDir

set_option linter.unusedVariables false
set_option linter.unusedSimpArgs false

namespace Go.Proofs.YtccndofafljaaaaGreatDoor
open Go Go.RowKit Num

theorem int_bounds {n : Int} (h : (Lit.int .i64 n).wf = true) : -9223372036854775808 ≤ n ∧ n ≤ 9223372036854775807 := by
  have h1 : IntKind.i64.min ≤ n ∧ n ≤ 9223372036854775807 := by simpa [Lit.wf] using h
  have h2 : IntKind.i64.min = -9223372036854775808 := by decide
  omega
/-- A variable of the type Vector, as a fact that stays. -/
def Vc (w : World) (x : Nat) (a b c : Int) : Prop := Box3 w x a b c
theorem Vc.below {w w' : World} {x : Nat} {a b c : Int} (h : Vc w x a b c) (hb : Below w.heap.size w w') : Vc w' x a b c := Box3.below h hb (Box3.lt h)
theorem Vc.box {w : World} {x : Nat} {a b c : Int} (h : Vc w x a b c) : Box3 w x a b c := h
theorem dr_bound (h : Int) : -8192 ≤ drX h ∧ drX h ≤ 8192 ∧ -8192 ≤ drY h ∧ drY h ≤ 8192 ∧ 1 ≤ drD h ∧ drD h ≤ 8192 := by
  have a := xI_bound (h % 256 / 64).toNat (k := h % 256 % 64) (by omega) (by omega)
  have b := kk_bound (k := h % 256 % 64) (by omega) (by omega)
  unfold drX drY drD; omega
theorem prod_bound {x y : Int} (h1 : -8192 ≤ x) (h2 : x ≤ 8192) (g1 : -8192 ≤ y) (g2 : y ≤ 8192) : -67108864 ≤ x * y ∧ x * y ≤ 67108864 := by
  have h : (x * y).natAbs ≤ 8192 * 8192 := by rw [Int.natAbs_mul]; exact Nat.mul_le_mul (by omega) (by omega)
  omega
theorem mk_cs (h : Int) : cosQ (mkP h) (mkQ h) = Rat.divInt (drX h) (drD h) ∧ sinQ (mkP h) (mkQ h) = Rat.divInt (drY h) (drD h) := by
  have k1 : 0 ≤ h % 256 % 64 := by omega
  have k2 : h % 256 % 64 < 64 := by omega
  have j1 : (h % 256 / 64).toNat < 4 := by omega
  unfold mkP mkQ drX drY drD
  generalize h % 256 % 64 = k at *
  generalize (h % 256 / 64).toNat = n at *
  have kb := kk_bound k1 k2
  have hd : (4096 + k * k : Int) ≠ 0 := by omega
  obtain rfl | rfl | rfl | rfl : n = 0 ∨ n = 1 ∨ n = 2 ∨ n = 3 := by omega
  all_goals simp only [qI, pI, xI, yI]
  · have z : nzQ k 64 = 64 := nz_id (by omega)
    have e : k * k + 64 * 64 ≠ 0 := by omega
    unfold cosQ sinQ; rw [z]
    exact ⟨(Rat.divInt_eq_divInt_iff e hd).2 (by grind), (Rat.divInt_eq_divInt_iff e hd).2 (by grind)⟩
  · have z : nzQ (64 + k) (64 - k) = 64 - k := nz_id (by omega)
    have e : (64 + k) * (64 + k) + (64 - k) * (64 - k) ≠ 0 := by have h0 : (64 + k) * (64 + k) + (64 - k) * (64 - k) = 2 * (4096 + k * k) := (by grind); omega
    unfold cosQ sinQ; rw [z]
    exact ⟨(Rat.divInt_eq_divInt_iff e hd).2 (by grind), (Rat.divInt_eq_divInt_iff e hd).2 (by grind)⟩
  · have z : nzQ 128 (-2 * k) = -2 * k := nz_id (by omega)
    have e : 128 * 128 + (-2 * k) * (-2 * k) ≠ 0 := by have h0 : 128 * 128 + (-2 * k) * (-2 * k) = 4 * (4096 + k * k) := (by grind); omega
    unfold cosQ sinQ; rw [z]
    exact ⟨(Rat.divInt_eq_divInt_iff e hd).2 (by grind), (Rat.divInt_eq_divInt_iff e hd).2 (by grind)⟩
  · have z : nzQ (128 - 2 * k) (-128 - 2 * k) = -128 - 2 * k := nz_id (by omega)
    have e : (128 - 2 * k) * (128 - 2 * k) + (-128 - 2 * k) * (-128 - 2 * k) ≠ 0 := by have h0 : (128 - 2 * k) * (128 - 2 * k) + (-128 - 2 * k) * (-128 - 2 * k) = 8 * (4096 + k * k) := (by grind); omega
    unfold cosQ sinQ; rw [z]
    exact ⟨(Rat.divInt_eq_divInt_iff e hd).2 (by grind), (Rat.divInt_eq_divInt_iff e hd).2 (by grind)⟩
theorem mk_cos (h : Int) : cosQ (cnP (mkP h) (mkQ h)) (cnQ (mkP h) (mkQ h)) = Rat.divInt (drX h) (drD h) := by rw [(cs_cn _ _).1, (mk_cs h).1]
theorem mk_sin (h : Int) : sinQ (cnP (mkP h) (mkQ h)) (cnQ (mkP h) (mkQ h)) = Rat.divInt (drY h) (drD h) := by rw [(cs_cn _ _).2, (mk_cs h).2]
theorem frac_ne {d : Int} (h : 1 ≤ d) : (d : Rat) ≠ 0 := by
  intro e
  have := Rat.intCast_inj.1 (show (d : Rat) = ((0 : Int) : Rat) from e)
  omega
theorem two_cos {x y d x2 y2 d2 : Int} (h : 1 ≤ d) (h2 : 1 ≤ d2) : Rat.divInt x d * Rat.divInt x2 d2 - Rat.divInt y d * Rat.divInt y2 d2 = Rat.divInt (x * x2 - y * y2) (d * d2) := by
  have a := frac_ne h
  have b := frac_ne h2
  simp only [divInt_q, Rat.intCast_sub, Rat.intCast_mul]
  generalize (d : Rat) = u at *
  generalize (d2 : Rat) = v at *
  grind
theorem two_sin {x y d x2 y2 d2 : Int} (h : 1 ≤ d) (h2 : 1 ≤ d2) : Rat.divInt y d * Rat.divInt x2 d2 + Rat.divInt x d * Rat.divInt y2 d2 = Rat.divInt (x * y2 + y * x2) (d * d2) := by
  have a := frac_ne h
  have b := frac_ne h2
  simp only [divInt_q, Rat.intCast_add, Rat.intCast_mul]
  generalize (d : Rat) = u at *
  generalize (d2 : Rat) = v at *
  grind
theorem both_cos (h k : Int) : cosQ (thP (cnP (mkP h) (mkQ h)) (cnQ (mkP h) (mkQ h)) (cnP (mkP k) (mkQ k)) (cnQ (mkP k) (mkQ k))) (thQ (cnP (mkP h) (mkQ h)) (cnQ (mkP h) (mkQ h)) (cnP (mkP k) (mkQ k)) (cnQ (mkP k) (mkQ k))) = Rat.divInt (drX h * drX k - drY h * drY k) (drD h * drD k) := by
  rw [(cs_th _ _ _ _).1, mk_cos, mk_cos, mk_sin, mk_sin]
  exact two_cos (dr_bound h).2.2.2.2.1 (dr_bound k).2.2.2.2.1
theorem both_sin (h k : Int) : sinQ (thP (cnP (mkP h) (mkQ h)) (cnQ (mkP h) (mkQ h)) (cnP (mkP k) (mkQ k)) (cnQ (mkP k) (mkQ k))) (thQ (cnP (mkP h) (mkQ h)) (cnQ (mkP h) (mkQ h)) (cnP (mkP k) (mkQ k)) (cnQ (mkP k) (mkQ k))) = Rat.divInt (drX h * drY k + drY h * drX k) (drD h * drD k) := by
  rw [(cs_th _ _ _ _).2, mk_cos, mk_cos, mk_sin, mk_sin]
  exact two_sin (dr_bound h).2.2.2.2.1 (dr_bound k).2.2.2.2.1

set_option maxRecDepth 100000 in
set_option maxHeartbeats 16000000 in
theorem Marks_any (h k : Int) {w : World} (h1 : -9223372036854775808 ≤ h) (h2 : h ≤ 9223372036854775807) (g1 : -9223372036854775808 ≤ k) (g2 : k ≤ 9223372036854775807) (htab : Tab10 w) :
    Calls Tryz.prog 7 #[.int .i64 h, .int .i64 k] w fun e w' => e = .returned (.bool true) ∧ Below w.heap.size w w' := by
  obtain ⟨x1, e1⟩ : ∃ x, drX h = x := ⟨_, rfl⟩
  obtain ⟨y1, e2⟩ : ∃ x, drY h = x := ⟨_, rfl⟩
  obtain ⟨d1, e3⟩ : ∃ x, drD h = x := ⟨_, rfl⟩
  obtain ⟨x2, e4⟩ : ∃ x, drX k = x := ⟨_, rfl⟩
  obtain ⟨y2, e5⟩ : ∃ x, drY k = x := ⟨_, rfl⟩
  obtain ⟨d2, e6⟩ : ∃ x, drD k = x := ⟨_, rfl⟩
  have b1 := dr_bound h
  have b2 := dr_bound k
  have C1 := Lib.hid (mk_cos h)
  have S1 := Lib.hid (mk_sin h)
  have C2 := Lib.hid (both_cos h k)
  have S2 := Lib.hid (both_sin h k)
  have DH := Lib.hid (fun w => direction_v h (w := w) h1 h2)
  have DK := Lib.hid (fun w => direction_v k (w := w) g1 g2)
  rw [e1, e2, e3] at b1 DH
  rw [e4, e5, e6] at b2 DK
  rw [e1, e3] at C1
  rw [e2, e3] at S1
  rw [e1, e2, e3, e4, e5, e6] at C2 S2
  clear e1 e2 e3 e4 e5 e6
  have MH := Lib.hid (fun w => Mark_r h (w := w) h1 h2)
  have MK := Lib.hid (fun w => Mark_r k (w := w) g1 g2)
  obtain ⟨P1, f1⟩ : ∃ x, cnP (mkP h) (mkQ h) = x := ⟨_, rfl⟩
  obtain ⟨Q1, f2⟩ : ∃ x, cnQ (mkP h) (mkQ h) = x := ⟨_, rfl⟩
  obtain ⟨P2, f3⟩ : ∃ x, cnP (mkP k) (mkQ k) = x := ⟨_, rfl⟩
  obtain ⟨Q2, f4⟩ : ∃ x, cnQ (mkP k) (mkQ k) = x := ⟨_, rfl⟩
  rw [f1, f2] at C1 S1 MH
  rw [f3, f4] at MK
  rw [f1, f2, f3, f4] at C2 S2
  clear f1 f2 f3 f4 h1 h2 g1 g2
  obtain ⟨a1, a2, a3, a4, a5, a6⟩ := b1
  obtain ⟨a7, a8, a9, a10, a11, a12⟩ := b2
  have q1 := prod_bound a1 a2 a7 a8
  have q2 := prod_bound a3 a4 a9 a10
  have q3 := prod_bound a1 a2 a9 a10
  have q4 := prod_bound a3 a4 a7 a8
  have q5 := prod_bound (show -8192 ≤ d1 by omega) a6 (show -8192 ≤ d2 by omega) a12
  have HQ := Lib.hid (And.intro q1 (And.intro q2 (And.intro q3 (And.intro q4 q5))))
  have HA := Lib.hid (And.intro a1 (And.intro a2 (And.intro a3 (And.intro a4 (And.intro a5 a6)))))
  clear q1 q2 q3 q4 q5 a1 a2 a3 a4 a5 a6 a7 a8 a9 a10 a11 a12
  have V_tab := Lib.hid htab
  clear htab
  have HB := Lib.hid (Below.refl w.heap.size w)
  go_enter Tryz.func7, Tryz.ntmps7
  go_wp2_with fail
  refine (awakeR _ (tab_below V_tab.out (by exact ⟨rfl, rfl, rfl, Nat.le_refl _, fun _ _ => rfl⟩))).mono ?_
  rintro e w1 ⟨rfl, bb⟩
  replace bb := nextw (w0 := w) (by exact ⟨rfl, rfl, rfl, Nat.le_refl _, fun _ _ => rfl⟩) bb
  replace V_tab := Lib.hid (tab_below V_tab.out bb)
  replace HB := Lib.hid (nextw HB.out bb)
  clear bb
  clear V_tab
  go_wp2_with fail
  refine (DH.out _).mono ?_
  rintro e w2 ⟨rfl, bb⟩
  replace bb := nextw (w0 := w1) (by exact ⟨rfl, rfl, rfl, Nat.le_refl _, fun _ _ => rfl⟩) bb
  replace HB := Lib.hid (nextw HB.out bb)
  clear bb
  have hb0 : Below w2.heap.size w2 (w2.alloc (.cells #[.int .i64 (x1), .int .i64 (y1), .int .i64 (d1)] 58)) := (Below.refl _ _).alloc (Nat.le_refl _) _
  have V_v : Hid (Vc (w2.alloc (.cells #[.int .i64 (x1), .int .i64 (y1), .int .i64 (d1)] 58)) w2.heap.size (x1) (y1) (d1)) := Lib.hid (Box3.new w2 (x1) (y1) (d1))
  replace HB := Lib.hid (nextw HB.out hb0)
  clear hb0
  go_wp2_with fail
  generalize w2.alloc (.cells #[.int .i64 (x1), .int .i64 (y1), .int .i64 (d1)] 58) = W1 at *
  refine (DK.out _).mono ?_
  rintro e w3 ⟨rfl, bb⟩
  replace bb := nextw (w0 := W1) (by exact ⟨rfl, rfl, rfl, Nat.le_refl _, fun _ _ => rfl⟩) bb
  replace V_v := Lib.hid (Vc.below V_v.out bb)
  replace HB := Lib.hid (nextw HB.out bb)
  clear bb
  have hb1 : Below w3.heap.size w3 (w3.alloc (.cells #[.int .i64 (x2), .int .i64 (y2), .int .i64 (d2)] 58)) := (Below.refl _ _).alloc (Nat.le_refl _) _
  have T_v := Vc.below V_v.out hb1
  have T_u := Box3.new w3 x2 y2 d2
  have c0v := T_v.box.c0
  have c1v := T_v.box.c1
  have c2v := T_v.box.c2
  have c0u := T_u.c0
  have c1u := T_u.c1
  have c2u := T_u.c2
  have f0u := T_u.f0
  have f1u := T_u.f1
  have f2u := T_u.f2
  clear hb1 T_v T_u
  obtain ⟨q1, q2, q3, q4, q5⟩ := HQ.out
  have hb0 : Below w3.heap.size w3 (w3.alloc (.cells #[.int .i64 (x1 * x2 - y1 * y2), .int .i64 (x1 * y2 + y1 * x2), .int .i64 (d1 * d2)] 58)) := (Below.refl _ _).alloc (Nat.le_refl _) _
  have V_u : Hid (Vc (w3.alloc (.cells #[.int .i64 (x1 * x2 - y1 * y2), .int .i64 (x1 * y2 + y1 * x2), .int .i64 (d1 * d2)] 58)) w3.heap.size (x1 * x2 - y1 * y2) (x1 * y2 + y1 * x2) (d1 * d2)) := Lib.hid (Box3.new w3 (x1 * x2 - y1 * y2) (x1 * y2 + y1 * x2) (d1 * d2))
  replace V_v := Lib.hid (Vc.below V_v.out hb0)
  replace HB := Lib.hid (nextw HB.out hb0)
  clear hb0
  go_wp2_with fail
  clear c0v c1v c2v c0u c1u c2u f0u f1u f2u q1 q2 q3 q4 q5
  generalize w3.alloc (.cells #[.int .i64 (x1 * x2 - y1 * y2), .int .i64 (x1 * y2 + y1 * x2), .int .i64 (d1 * d2)] 58) = W3 at *
  refine (MH.out _).mono ?_
  rintro e w4 ⟨va, rfl, ra, bb⟩
  replace bb := nextw (w0 := W3) (by exact ⟨rfl, rfl, rfl, Nat.le_refl _, fun _ _ => rfl⟩) bb
  replace V_v := Lib.hid (Vc.below V_v.out bb)
  replace V_u := Lib.hid (Vc.below V_u.out bb)
  replace HB := Lib.hid (nextw HB.out bb)
  clear bb
  obtain ⟨sa, Aa, ka, ca, ta, Ca, la, da, rfl⟩ := ra.shape
  have V_a := Lib.hid ra
  clear ra
  go_wp2_with fail
  refine (MK.out _).mono ?_
  rintro e w5 ⟨vb, rfl, rb, bb⟩
  replace bb := nextw (w0 := w4) (by exact ⟨rfl, rfl, rfl, Nat.le_refl _, fun _ _ => rfl⟩) bb
  replace V_v := Lib.hid (Vc.below V_v.out bb)
  replace V_u := Lib.hid (Vc.below V_u.out bb)
  replace V_a := Lib.hid (Gc.below V_a.out bb)
  replace HB := Lib.hid (nextw HB.out bb)
  clear bb
  obtain ⟨sb, Ab, kb, cb, tb, Cb, lb, db, rfl⟩ := rb.shape
  have V_b := Lib.hid rb
  clear rb
  have hb0 : Below w5.heap.size w5 ((w5.alloc (.cells #[.bool sa, (.slice Aa ka ca), .bool ta, (.slice Ca la da)] 26)).alloc (.cells #[.bool sb, (.slice Ab kb cb), .bool tb, (.slice Cb lb db)] 26)) := (Below.alloc (Below.alloc (Below.refl w5.heap.size w5) (by simp <;> omega) _) (by simp <;> omega) _)
  have B_a : BoxR ((w5.alloc (.cells #[.bool sa, (.slice Aa ka ca), .bool ta, (.slice Ca la da)] 26)).alloc (.cells #[.bool sb, (.slice Ab kb cb), .bool tb, (.slice Cb lb db)] 26)) (w5.heap.size) sa (.slice Aa ka ca) ta (.slice Ca la da) := by have h := BoxR.alloc (BoxR.new w5 sa (.slice Aa ka ca) ta (.slice Ca la da)) (.cells #[.bool sb, (.slice Ab kb cb), .bool tb, (.slice Cb lb db)] 26); simpa using h
  replace B_a := Lib.hid B_a
  have B_b : BoxR ((w5.alloc (.cells #[.bool sa, (.slice Aa ka ca), .bool ta, (.slice Ca la da)] 26)).alloc (.cells #[.bool sb, (.slice Ab kb cb), .bool tb, (.slice Cb lb db)] 26)) (w5.heap.size + 1) sb (.slice Ab kb cb) tb (.slice Cb lb db) := by have h := BoxR.new (w5.alloc (.cells #[.bool sa, (.slice Aa ka ca), .bool ta, (.slice Ca la da)] 26)) sb (.slice Ab kb cb) tb (.slice Cb lb db); simpa using h
  replace B_b := Lib.hid B_b
  replace V_v := Lib.hid (Vc.below V_v.out hb0)
  replace V_u := Lib.hid (Vc.below V_u.out hb0)
  replace V_a := Lib.hid (Gc.below V_a.out hb0)
  replace V_b := Lib.hid (Gc.below V_b.out hb0)
  replace HB := Lib.hid (nextw HB.out hb0)
  clear hb0
  have c0a := B_a.out.c0
  have c1a := B_a.out.c1
  have c2a := B_a.out.c2
  have c3a := B_a.out.c3
  have c0b := B_b.out.c0
  have c1b := B_b.out.c1
  have c2b := B_b.out.c2
  have c3b := B_b.out.c3
  go_wp2_with fail
  clear c0a c1a c2a c3a c0b c1b c2b c3b
  generalize (w5.alloc (.cells #[.bool sa, (.slice Aa ka ca), .bool ta, (.slice Ca la da)] 26)).alloc (.cells #[.bool sb, (.slice Ab kb cb), .bool tb, (.slice Cb lb db)] 26) = W4 at *
  refine (Then_r (Gc.fd (Gc.below V_a.out (by exact ⟨rfl, rfl, rfl, Nat.le_refl _, fun _ _ => rfl⟩))) (Gc.fd (Gc.below V_b.out (by exact ⟨rfl, rfl, rfl, Nat.le_refl _, fun _ _ => rfl⟩))) (by omega) (by omega)).mono ?_
  rintro e w6 ⟨vg, rfl, rg, bb⟩
  replace bb := nextw (w0 := W4) (by exact ⟨rfl, rfl, rfl, Nat.le_refl _, fun _ _ => rfl⟩) bb
  replace B_a := Lib.hid (BoxR.below B_a.out bb B_a.out.lt)
  replace B_b := Lib.hid (BoxR.below B_b.out bb B_b.out.lt)
  replace V_v := Lib.hid (Vc.below V_v.out bb)
  replace V_u := Lib.hid (Vc.below V_u.out bb)
  replace V_a := Lib.hid (Gc.below V_a.out bb)
  replace V_b := Lib.hid (Gc.below V_b.out bb)
  replace HB := Lib.hid (nextw HB.out bb)
  clear bb
  obtain ⟨sg, Ag, kg, cg, tg, Cg, lg, dg, rfl⟩ := rg.shape
  have V_g := Lib.hid rg
  clear rg V_b B_b
  have hb0 : Below w6.heap.size w6 (w6.alloc (.cells #[.bool sg, (.slice Ag kg cg), .bool tg, (.slice Cg lg dg)] 26)) := (Below.alloc (Below.refl w6.heap.size w6) (by simp <;> omega) _)
  have B_g : BoxR (w6.alloc (.cells #[.bool sg, (.slice Ag kg cg), .bool tg, (.slice Cg lg dg)] 26)) (w6.heap.size) sg (.slice Ag kg cg) tg (.slice Cg lg dg) := by have h := BoxR.new w6 sg (.slice Ag kg cg) tg (.slice Cg lg dg); simpa using h
  replace B_g := Lib.hid B_g
  replace B_a := Lib.hid (BoxR.below B_a.out hb0 B_a.out.lt)
  replace V_v := Lib.hid (Vc.below V_v.out hb0)
  replace V_u := Lib.hid (Vc.below V_u.out hb0)
  replace V_a := Lib.hid (Gc.below V_a.out hb0)
  replace V_g := Lib.hid (Gc.below V_g.out hb0)
  replace HB := Lib.hid (nextw HB.out hb0)
  clear hb0
  have c0a := B_a.out.c0
  have c1a := B_a.out.c1
  have c2a := B_a.out.c2
  have c3a := B_a.out.c3
  have c0g := B_g.out.c0
  have c1g := B_g.out.c1
  have c2g := B_g.out.c2
  have c3g := B_g.out.c3
  have c0v := V_v.out.box.c0
  have c1v := V_v.out.box.c1
  have c2v := V_v.out.box.c2
  have c0u := V_u.out.box.c0
  have c1u := V_u.out.box.c1
  have c2u := V_u.out.box.c2
  obtain ⟨q1, q2, q3, q4, q5⟩ := HQ.out
  obtain ⟨a1, a2, a3, a4, a5, a6⟩ := HA.out
  go_wp2
  clear c0a c1a c2a c3a c0g c1g c2g c3g
  generalize w6.alloc (.cells #[.bool sg, (.slice Ag kg cg), .bool tg, (.slice Cg lg dg)] 26) = W5 at *
  clear c0v c1v c2v c0u c1u c2u
  have c0a := B_a.out.c0
  have c1a := B_a.out.c1
  have c2a := B_a.out.c2
  have c3a := B_a.out.c3
  have c0g := B_g.out.c0
  have c1g := B_g.out.c1
  have c2g := B_g.out.c2
  have c3g := B_g.out.c3
  have c0v := V_v.out.box.c0
  have c1v := V_v.out.box.c1
  have c2v := V_v.out.box.c2
  have c0u := V_u.out.box.c0
  have c1u := V_u.out.box.c1
  have c2u := V_u.out.box.c2
  have tk1x0 : True := trivial
  first | (go_region_held3 (fun w' => w'.cell? ⟨w5.heap.size, 0, none⟩ = some (.bool sa) ∧ w'.cell? ⟨w5.heap.size, 1, none⟩ = some (.slice Aa ka ca) ∧ w'.cell? ⟨w5.heap.size, 2, none⟩ = some (.bool ta) ∧ w'.cell? ⟨w5.heap.size, 3, none⟩ = some (.slice Ca la da) ∧ w'.cell? ⟨w6.heap.size, 0, none⟩ = some (.bool sg) ∧ w'.cell? ⟨w6.heap.size, 1, none⟩ = some (.slice Ag kg cg) ∧ w'.cell? ⟨w6.heap.size, 2, none⟩ = some (.bool tg) ∧ w'.cell? ⟨w6.heap.size, 3, none⟩ = some (.slice Cg lg dg) ∧ w'.cell? ⟨w2.heap.size, 0, none⟩ = some (.int .i64 (x1)) ∧ w'.cell? ⟨w2.heap.size, 1, none⟩ = some (.int .i64 (y1)) ∧ w'.cell? ⟨w2.heap.size, 2, none⟩ = some (.int .i64 (d1)) ∧ w'.cell? ⟨w3.heap.size, 0, none⟩ = some (.int .i64 (x1 * x2 - y1 * y2)) ∧ w'.cell? ⟨w3.heap.size, 1, none⟩ = some (.int .i64 (x1 * y2 + y1 * x2)) ∧ w'.cell? ⟨w3.heap.size, 2, none⟩ = some (.int .i64 (d1 * d2))) (((try dsimp only); (repeat' apply And.intro) <;> (first | (with_reducible assumption) | ((repeat (first | (with_reducible refine Eq.trans (cell_drew1 _ _) ?_) | (with_reducible refine Eq.trans (cell_set4 (by omega) _ _ _ _) ?_))); with_reducible assumption) | assumption | go_keep)))
    (first
      | (clear tk1x0; go_at_call 17; refine (Cosine_r (Gc.fd (Gc.below V_a.out (by exact ⟨rfl, rfl, rfl, Nat.le_refl _, fun _ _ => rfl⟩))) (by omega)).mono ?_; rintro e w7 ⟨vm1, rfl, rm1, bb⟩; replace bb := nextw (w0 := W5) (by exact ⟨rfl, rfl, rfl, Nat.le_refl _, fun _ _ => rfl⟩) bb; replace B_a := Lib.hid (BoxR.below B_a.out bb B_a.out.lt); replace B_g := Lib.hid (BoxR.below B_g.out bb B_g.out.lt); replace V_v := Lib.hid (Vc.below V_v.out bb); replace V_u := Lib.hid (Vc.below V_u.out bb); replace V_a := Lib.hid (Gc.below V_a.out bb); replace V_g := Lib.hid (Gc.below V_g.out bb); replace HB := Lib.hid (nextw HB.out bb); clear bb; replace rm1 := Lib.hid rm1; have V_m1 := rm1; clear rm1; clear c0a c1a c2a c3a c0g c1g c2g c3g; have c0a := B_a.out.c0; have c1a := B_a.out.c1; have c2a := B_a.out.c2; have c3a := B_a.out.c3; have c0g := B_g.out.c0; have c1g := B_g.out.c1; have c2g := B_g.out.c2; have c3g := B_g.out.c3; clear c0v; have c0v := V_v.out.box.c0; clear c1v; have c1v := V_v.out.box.c1; clear c2v; have c2v := V_v.out.box.c2; clear c0u; have c0u := V_u.out.box.c0; clear c1u; have c1u := V_u.out.box.c1; clear c2u; have c2u := V_u.out.box.c2; have tk1x1 : True := trivial)
      | (clear tk1x1; go_at_call 20; refine (Of_q (x1) (d1) (by omega) (by omega) (by omega) (by omega)).mono ?_; rintro e w8 ⟨vm2, rfl, rm2, bb⟩; replace bb := nextw (w0 := w7) (by exact ⟨rfl, rfl, rfl, Nat.le_refl _, fun _ _ => rfl⟩) bb; replace B_a := Lib.hid (BoxR.below B_a.out bb B_a.out.lt); replace B_g := Lib.hid (BoxR.below B_g.out bb B_g.out.lt); replace V_v := Lib.hid (Vc.below V_v.out bb); replace V_u := Lib.hid (Vc.below V_u.out bb); replace V_a := Lib.hid (Gc.below V_a.out bb); replace V_g := Lib.hid (Gc.below V_g.out bb); replace V_m1 := Lib.hid (Qc.below V_m1.out bb); replace HB := Lib.hid (nextw HB.out bb); clear bb; replace rm2 := Lib.hid rm2; have V_m2 := rm2; clear rm2; clear c0a c1a c2a c3a c0g c1g c2g c3g; have c0a := B_a.out.c0; have c1a := B_a.out.c1; have c2a := B_a.out.c2; have c3a := B_a.out.c3; have c0g := B_g.out.c0; have c1g := B_g.out.c1; have c2g := B_g.out.c2; have c3g := B_g.out.c3; clear c0v; have c0v := V_v.out.box.c0; clear c1v; have c1v := V_v.out.box.c1; clear c2v; have c2v := V_v.out.box.c2; clear c0u; have c0u := V_u.out.box.c0; clear c1u; have c1u := V_u.out.box.c1; clear c2u; have c2u := V_u.out.box.c2; have tk1x2 : True := trivial)
      | (clear tk1x2; go_at_call 24; refine (BRat_q (Qc.below V_m1.out (by exact ⟨rfl, rfl, rfl, Nat.le_refl _, fun _ _ => rfl⟩)) (Qc.below V_m2.out (by exact ⟨rfl, rfl, rfl, Nat.le_refl _, fun _ _ => rfl⟩)) (by omega) (by omega) (C1.out)).mono ?_; rintro e w9 ⟨rfl, bb⟩; replace bb := nextw (w0 := w8) (by exact ⟨rfl, rfl, rfl, Nat.le_refl _, fun _ _ => rfl⟩) bb; clear V_m1 V_m2; replace B_a := Lib.hid (BoxR.below B_a.out bb B_a.out.lt); replace B_g := Lib.hid (BoxR.below B_g.out bb B_g.out.lt); replace V_v := Lib.hid (Vc.below V_v.out bb); replace V_u := Lib.hid (Vc.below V_u.out bb); replace V_a := Lib.hid (Gc.below V_a.out bb); replace V_g := Lib.hid (Gc.below V_g.out bb); replace HB := Lib.hid (nextw HB.out bb); clear bb; clear c0a c1a c2a c3a c0g c1g c2g c3g; have c0a := B_a.out.c0; have c1a := B_a.out.c1; have c2a := B_a.out.c2; have c3a := B_a.out.c3; have c0g := B_g.out.c0; have c1g := B_g.out.c1; have c2g := B_g.out.c2; have c3g := B_g.out.c3; clear c0v; have c0v := V_v.out.box.c0; clear c1v; have c1v := V_v.out.box.c1; clear c2v; have c2v := V_v.out.box.c2; clear c0u; have c0u := V_u.out.box.c0; clear c1u; have c1u := V_u.out.box.c1; clear c2u; have c2u := V_u.out.box.c2; have tk1x3 : True := trivial)
      | (clear tk1x3; go_at_call 18; refine (Sine_r (Gc.fd (Gc.below V_a.out (by exact ⟨rfl, rfl, rfl, Nat.le_refl _, fun _ _ => rfl⟩))) (by omega)).mono ?_; rintro e w10 ⟨vn1, rfl, rn1, bb⟩; replace bb := nextw (w0 := w9) (by exact ⟨rfl, rfl, rfl, Nat.le_refl _, fun _ _ => rfl⟩) bb; replace B_a := Lib.hid (BoxR.below B_a.out bb B_a.out.lt); replace B_g := Lib.hid (BoxR.below B_g.out bb B_g.out.lt); replace V_v := Lib.hid (Vc.below V_v.out bb); replace V_u := Lib.hid (Vc.below V_u.out bb); replace V_a := Lib.hid (Gc.below V_a.out bb); replace V_g := Lib.hid (Gc.below V_g.out bb); replace HB := Lib.hid (nextw HB.out bb); clear bb; replace rn1 := Lib.hid rn1; have V_n1 := rn1; clear rn1; clear c0a c1a c2a c3a c0g c1g c2g c3g; have c0a := B_a.out.c0; have c1a := B_a.out.c1; have c2a := B_a.out.c2; have c3a := B_a.out.c3; have c0g := B_g.out.c0; have c1g := B_g.out.c1; have c2g := B_g.out.c2; have c3g := B_g.out.c3; clear c0v; have c0v := V_v.out.box.c0; clear c1v; have c1v := V_v.out.box.c1; clear c2v; have c2v := V_v.out.box.c2; clear c0u; have c0u := V_u.out.box.c0; clear c1u; have c1u := V_u.out.box.c1; clear c2u; have c2u := V_u.out.box.c2; have tk1x4 : True := trivial)
      | (clear tk1x4; go_at_call 20; refine (Of_q (y1) (d1) (by omega) (by omega) (by omega) (by omega)).mono ?_; rintro e w11 ⟨vn2, rfl, rn2, bb⟩; replace bb := nextw (w0 := w10) (by exact ⟨rfl, rfl, rfl, Nat.le_refl _, fun _ _ => rfl⟩) bb; replace B_a := Lib.hid (BoxR.below B_a.out bb B_a.out.lt); replace B_g := Lib.hid (BoxR.below B_g.out bb B_g.out.lt); replace V_v := Lib.hid (Vc.below V_v.out bb); replace V_u := Lib.hid (Vc.below V_u.out bb); replace V_a := Lib.hid (Gc.below V_a.out bb); replace V_g := Lib.hid (Gc.below V_g.out bb); replace V_n1 := Lib.hid (Qc.below V_n1.out bb); replace HB := Lib.hid (nextw HB.out bb); clear bb; replace rn2 := Lib.hid rn2; have V_n2 := rn2; clear rn2; clear c0a c1a c2a c3a c0g c1g c2g c3g; have c0a := B_a.out.c0; have c1a := B_a.out.c1; have c2a := B_a.out.c2; have c3a := B_a.out.c3; have c0g := B_g.out.c0; have c1g := B_g.out.c1; have c2g := B_g.out.c2; have c3g := B_g.out.c3; clear c0v; have c0v := V_v.out.box.c0; clear c1v; have c1v := V_v.out.box.c1; clear c2v; have c2v := V_v.out.box.c2; clear c0u; have c0u := V_u.out.box.c0; clear c1u; have c1u := V_u.out.box.c1; clear c2u; have c2u := V_u.out.box.c2; have tk1x5 : True := trivial)
      | (clear tk1x5; go_at_call 24; refine (BRat_q (Qc.below V_n1.out (by exact ⟨rfl, rfl, rfl, Nat.le_refl _, fun _ _ => rfl⟩)) (Qc.below V_n2.out (by exact ⟨rfl, rfl, rfl, Nat.le_refl _, fun _ _ => rfl⟩)) (by omega) (by omega) (S1.out)).mono ?_; rintro e w12 ⟨rfl, bb⟩; replace bb := nextw (w0 := w11) (by exact ⟨rfl, rfl, rfl, Nat.le_refl _, fun _ _ => rfl⟩) bb; clear V_n1 V_n2; replace B_a := Lib.hid (BoxR.below B_a.out bb B_a.out.lt); replace B_g := Lib.hid (BoxR.below B_g.out bb B_g.out.lt); replace V_v := Lib.hid (Vc.below V_v.out bb); replace V_u := Lib.hid (Vc.below V_u.out bb); replace V_a := Lib.hid (Gc.below V_a.out bb); replace V_g := Lib.hid (Gc.below V_g.out bb); replace HB := Lib.hid (nextw HB.out bb); clear bb; clear c0a c1a c2a c3a c0g c1g c2g c3g; have c0a := B_a.out.c0; have c1a := B_a.out.c1; have c2a := B_a.out.c2; have c3a := B_a.out.c3; have c0g := B_g.out.c0; have c1g := B_g.out.c1; have c2g := B_g.out.c2; have c3g := B_g.out.c3; clear c0v; have c0v := V_v.out.box.c0; clear c1v; have c1v := V_v.out.box.c1; clear c2v; have c2v := V_v.out.box.c2; clear c0u; have c0u := V_u.out.box.c0; clear c1u; have c1u := V_u.out.box.c1; clear c2u; have c2u := V_u.out.box.c2; have tk1x6 : True := trivial)
      | (clear tk1x6; go_at_call 17; refine (Cosine_r (Gc.fd (Gc.below V_g.out (by exact ⟨rfl, rfl, rfl, Nat.le_refl _, fun _ _ => rfl⟩))) (by omega)).mono ?_; rintro e w13 ⟨vp1, rfl, rp1, bb⟩; replace bb := nextw (w0 := w12) (by exact ⟨rfl, rfl, rfl, Nat.le_refl _, fun _ _ => rfl⟩) bb; replace B_a := Lib.hid (BoxR.below B_a.out bb B_a.out.lt); replace B_g := Lib.hid (BoxR.below B_g.out bb B_g.out.lt); replace V_v := Lib.hid (Vc.below V_v.out bb); replace V_u := Lib.hid (Vc.below V_u.out bb); replace V_a := Lib.hid (Gc.below V_a.out bb); replace V_g := Lib.hid (Gc.below V_g.out bb); replace HB := Lib.hid (nextw HB.out bb); clear bb; replace rp1 := Lib.hid rp1; have V_p1 := rp1; clear rp1; clear c0a c1a c2a c3a c0g c1g c2g c3g; have c0a := B_a.out.c0; have c1a := B_a.out.c1; have c2a := B_a.out.c2; have c3a := B_a.out.c3; have c0g := B_g.out.c0; have c1g := B_g.out.c1; have c2g := B_g.out.c2; have c3g := B_g.out.c3; clear c0v; have c0v := V_v.out.box.c0; clear c1v; have c1v := V_v.out.box.c1; clear c2v; have c2v := V_v.out.box.c2; clear c0u; have c0u := V_u.out.box.c0; clear c1u; have c1u := V_u.out.box.c1; clear c2u; have c2u := V_u.out.box.c2; have tk1x7 : True := trivial)
      | (clear tk1x7; go_at_call 20; refine (Of_q (x1 * x2 - y1 * y2) (d1 * d2) (by omega) (by omega) (by omega) (by omega)).mono ?_; rintro e w14 ⟨vp2, rfl, rp2, bb⟩; replace bb := nextw (w0 := w13) (by exact ⟨rfl, rfl, rfl, Nat.le_refl _, fun _ _ => rfl⟩) bb; replace B_a := Lib.hid (BoxR.below B_a.out bb B_a.out.lt); replace B_g := Lib.hid (BoxR.below B_g.out bb B_g.out.lt); replace V_v := Lib.hid (Vc.below V_v.out bb); replace V_u := Lib.hid (Vc.below V_u.out bb); replace V_a := Lib.hid (Gc.below V_a.out bb); replace V_g := Lib.hid (Gc.below V_g.out bb); replace V_p1 := Lib.hid (Qc.below V_p1.out bb); replace HB := Lib.hid (nextw HB.out bb); clear bb; replace rp2 := Lib.hid rp2; have V_p2 := rp2; clear rp2; clear c0a c1a c2a c3a c0g c1g c2g c3g; have c0a := B_a.out.c0; have c1a := B_a.out.c1; have c2a := B_a.out.c2; have c3a := B_a.out.c3; have c0g := B_g.out.c0; have c1g := B_g.out.c1; have c2g := B_g.out.c2; have c3g := B_g.out.c3; clear c0v; have c0v := V_v.out.box.c0; clear c1v; have c1v := V_v.out.box.c1; clear c2v; have c2v := V_v.out.box.c2; clear c0u; have c0u := V_u.out.box.c0; clear c1u; have c1u := V_u.out.box.c1; clear c2u; have c2u := V_u.out.box.c2; have tk1x8 : True := trivial)
      | (clear tk1x8; go_at_call 24; refine (BRat_q (Qc.below V_p1.out (by exact ⟨rfl, rfl, rfl, Nat.le_refl _, fun _ _ => rfl⟩)) (Qc.below V_p2.out (by exact ⟨rfl, rfl, rfl, Nat.le_refl _, fun _ _ => rfl⟩)) (by omega) (by omega) (C2.out)).mono ?_; rintro e w15 ⟨rfl, bb⟩; replace bb := nextw (w0 := w14) (by exact ⟨rfl, rfl, rfl, Nat.le_refl _, fun _ _ => rfl⟩) bb; clear V_p1 V_p2; replace B_a := Lib.hid (BoxR.below B_a.out bb B_a.out.lt); replace B_g := Lib.hid (BoxR.below B_g.out bb B_g.out.lt); replace V_v := Lib.hid (Vc.below V_v.out bb); replace V_u := Lib.hid (Vc.below V_u.out bb); replace V_a := Lib.hid (Gc.below V_a.out bb); replace V_g := Lib.hid (Gc.below V_g.out bb); replace HB := Lib.hid (nextw HB.out bb); clear bb; clear c0a c1a c2a c3a c0g c1g c2g c3g; have c0a := B_a.out.c0; have c1a := B_a.out.c1; have c2a := B_a.out.c2; have c3a := B_a.out.c3; have c0g := B_g.out.c0; have c1g := B_g.out.c1; have c2g := B_g.out.c2; have c3g := B_g.out.c3; clear c0v; have c0v := V_v.out.box.c0; clear c1v; have c1v := V_v.out.box.c1; clear c2v; have c2v := V_v.out.box.c2; clear c0u; have c0u := V_u.out.box.c0; clear c1u; have c1u := V_u.out.box.c1; clear c2u; have c2u := V_u.out.box.c2; have tk1x9 : True := trivial)
      | (clear tk1x9; go_at_call 18; refine (Sine_r (Gc.fd (Gc.below V_g.out (by exact ⟨rfl, rfl, rfl, Nat.le_refl _, fun _ _ => rfl⟩))) (by omega)).mono ?_; rintro e w16 ⟨vq1, rfl, rq1, bb⟩; replace bb := nextw (w0 := w15) (by exact ⟨rfl, rfl, rfl, Nat.le_refl _, fun _ _ => rfl⟩) bb; replace B_a := Lib.hid (BoxR.below B_a.out bb B_a.out.lt); replace B_g := Lib.hid (BoxR.below B_g.out bb B_g.out.lt); replace V_v := Lib.hid (Vc.below V_v.out bb); replace V_u := Lib.hid (Vc.below V_u.out bb); replace V_a := Lib.hid (Gc.below V_a.out bb); replace V_g := Lib.hid (Gc.below V_g.out bb); replace HB := Lib.hid (nextw HB.out bb); clear bb; replace rq1 := Lib.hid rq1; have V_q1 := rq1; clear rq1; clear c0a c1a c2a c3a c0g c1g c2g c3g; have c0a := B_a.out.c0; have c1a := B_a.out.c1; have c2a := B_a.out.c2; have c3a := B_a.out.c3; have c0g := B_g.out.c0; have c1g := B_g.out.c1; have c2g := B_g.out.c2; have c3g := B_g.out.c3; clear c0v; have c0v := V_v.out.box.c0; clear c1v; have c1v := V_v.out.box.c1; clear c2v; have c2v := V_v.out.box.c2; clear c0u; have c0u := V_u.out.box.c0; clear c1u; have c1u := V_u.out.box.c1; clear c2u; have c2u := V_u.out.box.c2; have tk1x10 : True := trivial)
      | (clear tk1x10; go_at_call 20; refine (Of_q (x1 * y2 + y1 * x2) (d1 * d2) (by omega) (by omega) (by omega) (by omega)).mono ?_; rintro e w17 ⟨vq2, rfl, rq2, bb⟩; replace bb := nextw (w0 := w16) (by exact ⟨rfl, rfl, rfl, Nat.le_refl _, fun _ _ => rfl⟩) bb; replace B_a := Lib.hid (BoxR.below B_a.out bb B_a.out.lt); replace B_g := Lib.hid (BoxR.below B_g.out bb B_g.out.lt); replace V_v := Lib.hid (Vc.below V_v.out bb); replace V_u := Lib.hid (Vc.below V_u.out bb); replace V_a := Lib.hid (Gc.below V_a.out bb); replace V_g := Lib.hid (Gc.below V_g.out bb); replace V_q1 := Lib.hid (Qc.below V_q1.out bb); replace HB := Lib.hid (nextw HB.out bb); clear bb; replace rq2 := Lib.hid rq2; have V_q2 := rq2; clear rq2; clear c0a c1a c2a c3a c0g c1g c2g c3g; have c0a := B_a.out.c0; have c1a := B_a.out.c1; have c2a := B_a.out.c2; have c3a := B_a.out.c3; have c0g := B_g.out.c0; have c1g := B_g.out.c1; have c2g := B_g.out.c2; have c3g := B_g.out.c3; clear c0v; have c0v := V_v.out.box.c0; clear c1v; have c1v := V_v.out.box.c1; clear c2v; have c2v := V_v.out.box.c2; clear c0u; have c0u := V_u.out.box.c0; clear c1u; have c1u := V_u.out.box.c1; clear c2u; have c2u := V_u.out.box.c2; have tk1x11 : True := trivial)
      | (clear tk1x11; go_at_call 24; refine (BRat_q (Qc.below V_q1.out (by exact ⟨rfl, rfl, rfl, Nat.le_refl _, fun _ _ => rfl⟩)) (Qc.below V_q2.out (by exact ⟨rfl, rfl, rfl, Nat.le_refl _, fun _ _ => rfl⟩)) (by omega) (by omega) (S2.out)).mono ?_; rintro e w18 ⟨rfl, bb⟩; replace bb := nextw (w0 := w17) (by exact ⟨rfl, rfl, rfl, Nat.le_refl _, fun _ _ => rfl⟩) bb; clear V_q1 V_q2; replace B_a := Lib.hid (BoxR.below B_a.out bb B_a.out.lt); replace B_g := Lib.hid (BoxR.below B_g.out bb B_g.out.lt); replace V_v := Lib.hid (Vc.below V_v.out bb); replace V_u := Lib.hid (Vc.below V_u.out bb); replace V_a := Lib.hid (Gc.below V_a.out bb); replace V_g := Lib.hid (Gc.below V_g.out bb); replace HB := Lib.hid (nextw HB.out bb); clear bb; clear c0a c1a c2a c3a c0g c1g c2g c3g; have c0a := B_a.out.c0; have c1a := B_a.out.c1; have c2a := B_a.out.c2; have c3a := B_a.out.c3; have c0g := B_g.out.c0; have c1g := B_g.out.c1; have c2g := B_g.out.c2; have c3g := B_g.out.c3; clear c0v; have c0v := V_v.out.box.c0; clear c1v; have c1v := V_v.out.box.c1; clear c2v; have c2v := V_v.out.box.c2; clear c0u; have c0u := V_u.out.box.c0; clear c1u; have c1u := V_u.out.box.c1; clear c2u; have c2u := V_u.out.box.c2; have tk1x12 : True := trivial))) | fail
  have HBo := HB.out
  go_wp2
  go_ret
  exact ⟨rfl, nextw HBo (by exact ⟨rfl, rfl, rfl, Nat.le_refl _, fun _ _ => rfl⟩)⟩
end Go.Proofs.YtccndofafljaaaaGreatDoor
