/- Package rotation: Power. -/
import Derived.Test.YtccndofafljaaaaGreatDoorRot3
import Derived.Test.YtccndofafljaaaaGreatDoorRotPow

set_option linter.unusedVariables false
set_option linter.unusedSimpArgs false

namespace Go.Proofs.YtccndofafljaaaaGreatDoor
open Go Go.RowKit Num

theorem and_all : ∀ i : Fin 7, ∀ n : Fin 65, bits BinOp.and IntKind.i64 ((n.val : Nat) : Int) ((64 / 2 ^ i.val : Nat) : Int) = if (n.val / 2 ^ (6 - i.val)) % 2 = 1 then ((64 / 2 ^ i.val : Nat) : Int) else 0 := by decide +kernel
theorem and_bit (i : Nat) (n : Int) (hi : i < 7) (h0 : 0 ≤ n) (h1 : n ≤ 64) : bits BinOp.and IntKind.i64 n ((64 / 2 ^ i : Nat) : Int) = if (n.toNat / 2 ^ (6 - i)) % 2 = 1 then ((64 / 2 ^ i : Nat) : Int) else 0 := by
  have h := and_all ⟨i, hi⟩ ⟨n.toNat, by omega⟩
  simp only at h
  rwa [show ((n.toNat : Nat) : Int) = n by omega] at h
theorem bit_fine : ∀ i : Fin 7, 1 ≤ 64 / 2 ^ i.val ∧ 64 / 2 ^ i.val ≤ 64 ∧ 64 / 2 ^ i.val / 2 = 64 / 2 ^ (i.val + 1) ∧ 2 ^ (i.val + 1) = 2 * 2 ^ i.val ∧ 2 ^ (7 - i.val) = 2 ^ (6 - i.val) * 2 ∧ 7 - (i.val + 1) = 6 - i.val ∧ 2 ^ i.val ≤ 64 := by decide
theorem bit_ok (i : Nat) (h : i < 7) : 1 ≤ 64 / 2 ^ i ∧ 64 / 2 ^ i ≤ 64 ∧ 64 / 2 ^ i / 2 = 64 / 2 ^ (i + 1) ∧ 2 ^ (i + 1) = 2 * 2 ^ i ∧ 2 ^ (7 - i) = 2 ^ (6 - i) * 2 ∧ 7 - (i + 1) = 6 - i ∧ 2 ^ i ≤ 64 := bit_fine ⟨i, h⟩
theorem half_step {N a b : Nat} (h : b = a * 2) : N / a = 2 * (N / b) + N / a % 2 := by
  subst h
  rw [← Nat.div_div_eq_div_mul]; omega

set_option maxRecDepth 100000 in
set_option maxHeartbeats 8000000 in
theorem Power_pos {v : Value} {p q : Int} {k : Nat} {w : World} (n : Int) (h : Fd w v p q k) (f : k ≤ 10) (n1 : 0 ≤ n) (n2 : n ≤ 64) :
    Calls Tryz.prog 37 #[v, .int .i64 n] w fun e w' => ∃ v', e = .returned (.tuple #[v', .int .i64 0]) ∧ Gc w' v' (cnP (cpw (cnP p q) (cnQ p q) n.toNat).1 (cpw (cnP p q) (cnQ p q) n.toNat).2) (cnQ (cpw (cnP p q) (cnQ p q) n.toNat).1 (cpw (cnP p q) (cnQ p q) n.toNat).2) 4000 ∧ Below w.heap.size w w' := by
  obtain ⟨sx, Ax, kx, cx, tx, Cx, lx, dx, rfl, hnx, hdx⟩ := h.shape
  have V_xn := Lib.hid hnx
  have V_xd := Lib.hid hdx
  clear h hnx hdx
  have hne0 := Lib.hid (cn_ne p q)
  have hb0 : Below w.heap.size w ((w.alloc (.cells #[.bool sx, (.slice Ax kx cx), .bool tx, (.slice Cx lx dx)] 26)).alloc (.cells #[.bool false, (.slice none 0 0), .bool false, (.slice none 0 0)] 26)) := (Below.alloc (Below.alloc (Below.refl w.heap.size w) (by simp <;> omega) _) (by simp <;> omega) _)
  have B_x : BoxR ((w.alloc (.cells #[.bool sx, (.slice Ax kx cx), .bool tx, (.slice Cx lx dx)] 26)).alloc (.cells #[.bool false, (.slice none 0 0), .bool false, (.slice none 0 0)] 26)) (w.heap.size) sx (.slice Ax kx cx) tx (.slice Cx lx dx) := by have h := BoxR.alloc (BoxR.new w sx (.slice Ax kx cx) tx (.slice Cx lx dx)) (.cells #[.bool false, (.slice none 0 0), .bool false, (.slice none 0 0)] 26); simpa using h
  replace B_x := Lib.hid B_x
  have B_r : BoxR ((w.alloc (.cells #[.bool sx, (.slice Ax kx cx), .bool tx, (.slice Cx lx dx)] 26)).alloc (.cells #[.bool false, (.slice none 0 0), .bool false, (.slice none 0 0)] 26)) (w.heap.size + 1) false (.slice none 0 0) false (.slice none 0 0) := by have h := BoxR.new (w.alloc (.cells #[.bool sx, (.slice Ax kx cx), .bool tx, (.slice Cx lx dx)] 26)) false (.slice none 0 0) false (.slice none 0 0); simpa using h
  replace B_r := Lib.hid B_r
  replace V_xn := Lib.hid (Rd.below V_xn.out hb0)
  replace V_xd := Lib.hid (Rd.below V_xd.out hb0)
  have HB := Lib.hid hb0
  clear hb0
  have c0x := B_x.out.c0
  have c1x := B_x.out.c1
  have c2x := B_x.out.c2
  have c3x := B_x.out.c3
  have c0r := B_r.out.c0
  have c1r := B_r.out.c1
  have c2r := B_r.out.c2
  have c3r := B_r.out.c3
  go_enter Tryz.func37, Tryz.ntmps37
  go_wp2_with fail
  clear c0x c1x c2x c3x c0r c1r c2r c3r
  generalize (w.alloc (.cells #[.bool sx, (.slice Ax kx cx), .bool tx, (.slice Cx lx dx)] 26)).alloc (.cells #[.bool false, (.slice none 0 0), .bool false, (.slice none 0 0)] 26) = W0 at *
  refine (Norm_r (Fd.mk (Rd.below V_xn.out (by exact ⟨rfl, rfl, rfl, Nat.le_refl _, fun _ _ => rfl⟩)) (Rd.below V_xd.out (by exact ⟨rfl, rfl, rfl, Nat.le_refl _, fun _ _ => rfl⟩))) (by omega)).mono ?_
  rintro e w1 ⟨vf, rfl, rf, bb⟩
  replace bb := nextw (w0 := W0) (by exact ⟨rfl, rfl, rfl, Nat.le_refl _, fun _ _ => rfl⟩) bb
  replace B_x := Lib.hid (BoxR.below B_x.out bb B_x.out.lt)
  replace B_r := Lib.hid (BoxR.below B_r.out bb B_r.out.lt)
  replace V_xn := Lib.hid (Rd.below V_xn.out bb)
  replace V_xd := Lib.hid (Rd.below V_xd.out bb)
  replace HB := Lib.hid (nextw HB.out bb)
  clear bb
  obtain ⟨sf, Af, kf, cf, tf, Cf, lf, df, rfl⟩ := rf.shape
  have V_f := Lib.hid rf
  clear rf V_xn V_xd B_x
  have hb0 : Below w1.heap.size w1 (w1.alloc (.cells #[.bool sf, (.slice Af kf cf), .bool tf, (.slice Cf lf df)] 26)) := (Below.alloc (Below.refl w1.heap.size w1) (by simp <;> omega) _)
  have B_f : BoxR (w1.alloc (.cells #[.bool sf, (.slice Af kf cf), .bool tf, (.slice Cf lf df)] 26)) (w1.heap.size) sf (.slice Af kf cf) tf (.slice Cf lf df) := by have h := BoxR.new w1 sf (.slice Af kf cf) tf (.slice Cf lf df); simpa using h
  replace B_f := Lib.hid B_f
  replace B_r := Lib.hid (BoxR.below B_r.out hb0 B_r.out.lt)
  replace V_f := Lib.hid (Gc.below V_f.out hb0)
  replace HB := Lib.hid (nextw HB.out hb0)
  clear hb0
  have c0f := B_f.out.c0
  have c1f := B_f.out.c1
  have c2f := B_f.out.c2
  have c3f := B_f.out.c3
  have f0f := B_f.out.f0
  have f1f := B_f.out.f1
  have f2f := B_f.out.f2
  have f3f := B_f.out.f3
  go_wp2_with fail
  clear c0f c1f c2f c3f f0f f1f f2f f3f
  generalize w1.alloc (.cells #[.bool sf, (.slice Af kf cf), .bool tf, (.slice Cf lf df)] 26) = W1 at *
  obtain ⟨P, hP⟩ : ∃ x, cnP p q = x := ⟨_, rfl⟩
  obtain ⟨Q, hQ⟩ : ∃ x, cnQ p q = x := ⟨_, rfl⟩
  have HP := Lib.hid hP
  have HQ := Lib.hid hQ
  have hne : ¬ (P = 0 ∧ Q = 0) := by rw [← hP, ← hQ]; exact cn_ne _ _
  have HNE := Lib.hid hne
  rw [hP, hQ] at V_f
  clear hP hQ hne hne0
  have n3 := n1
  have n4 := n2
  obtain ⟨N, hN⟩ : ∃ x, n = x := ⟨_, rfl⟩
  subst hN
  refine (identity_g).mono ?_
  rintro e w2 ⟨va, rfl, ra, bb⟩
  replace bb := nextw (w0 := W1) (by exact ⟨rfl, rfl, rfl, Nat.le_refl _, fun _ _ => rfl⟩) bb
  replace B_r := Lib.hid (BoxR.below B_r.out bb B_r.out.lt)
  replace B_f := Lib.hid (BoxR.below B_f.out bb B_f.out.lt)
  replace V_f := Lib.hid (Gc.below V_f.out bb)
  replace HB := Lib.hid (nextw HB.out bb)
  clear bb
  obtain ⟨sa, Aa, ka, ca, ta, Ca, la, da, rfl⟩ := ra.shape
  have V_a := Lib.hid ra
  clear ra
  have HFA := Lib.hid B_f.out.lt
  have HRA := Lib.hid B_r.out.lt
  have hb0 : Below w2.heap.size w2 (w2.alloc (.cells #[.bool sa, (.slice Aa ka ca), .bool ta, (.slice Ca la da)] 26)) := (Below.alloc (Below.refl w2.heap.size w2) (by simp <;> omega) _)
  have B_a : BoxR (w2.alloc (.cells #[.bool sa, (.slice Aa ka ca), .bool ta, (.slice Ca la da)] 26)) (w2.heap.size) sa (.slice Aa ka ca) ta (.slice Ca la da) := by have h := BoxR.new w2 sa (.slice Aa ka ca) ta (.slice Ca la da); simpa using h
  replace B_a := Lib.hid B_a
  replace B_r := Lib.hid (BoxR.below B_r.out hb0 B_r.out.lt)
  replace B_f := Lib.hid (BoxR.below B_f.out hb0 B_f.out.lt)
  replace V_f := Lib.hid (Gc.below V_f.out hb0)
  replace V_a := Lib.hid (Gc.below V_a.out hb0)
  replace HB := Lib.hid (nextw HB.out hb0)
  clear hb0
  have c0f := B_f.out.c0
  have c1f := B_f.out.c1
  have c2f := B_f.out.c2
  have c3f := B_f.out.c3
  have c0a := B_a.out.c0
  have c1a := B_a.out.c1
  have c2a := B_a.out.c2
  have c3a := B_a.out.c3
  go_wp2_with fail
  clear c0f c1f c2f c3f c0a c1a c2a c3a
  generalize w2.alloc (.cells #[.bool sa, (.slice Aa ka ca), .bool ta, (.slice Ca la da)] 26) = W2 at *
  have hza : w.heap.size + 1 < w2.heap.size := HRA.out
  have hfa : w1.heap.size < w2.heap.size := HFA.out
  have HZ := Lib.hid (And.intro hza hfa)
  clear hza hfa
  go_loopw [8] (fun b wr => ∃ (i K : Nat) (s : Bool) (A : Option Addr) (u c : Nat) (t : Bool) (C : Option Addr) (l d : Nat), i ≤ 7 ∧ K + 28 ≤ 30 * 2 ^ i ∧ b = .int .i64 ((64 / 2 ^ i : Nat) : Int) ∧ BoxR wr w2.heap.size s (.slice A u c) t (.slice C l d) ∧ Gc wr (.agg #[.bool s, .slice A u c, .bool t, .slice C l d]) (cpw P Q (n.toNat / 2 ^ (7 - i))).1 (cpw P Q (n.toNat / 2 ^ (7 - i))).2 K ∧ BoxR wr w1.heap.size sf (.slice Af kf cf) tf (.slice Cf lf df) ∧ Gc wr (.agg #[.bool sf, (.slice Af kf cf), .bool tf, (.slice Cf lf df)]) P Q (k + 2) ∧ BoxR wr (w.heap.size + 1) false (.slice none 0 0) false (.slice none 0 0) ∧ Below w.heap.size w wr) (fun b _ => (RowKit.intOf b).toNat)
  case atStart =>
    have e0 : n.toNat / 2 ^ (7 - 0) = 0 := Nat.div_eq_of_lt (by simp only [Nat.sub_zero]; omega)
    refine ⟨0, 2, _, _, _, _, _, _, _, _, by omega, by omega, rfl, B_a.out, ?_, B_f.out, V_f.out, B_r.out, HB.out⟩
    rw [e0]; exact V_a.out
  case round =>
    clear V_a B_a V_f B_f B_r HB
    obtain ⟨i, K, s, A, u, c, t, C, l, d, hi, hK, rfl, ba, va, bf, vf, br, bb⟩ := hrel
    have B_a := Lib.hid ba
    have V_a := Lib.hid va
    have B_f := Lib.hid bf
    have V_f := Lib.hid vf
    have B_r := Lib.hid br
    have HB := Lib.hid bb
    clear ba va bf vf br bb
    by_cases hi7 : i < 7
    · have HT := Lib.hid (bit_ok i hi7)
      have hand := and_bit i n hi7 n3 n4
      obtain ⟨E, hE⟩ : ∃ x, n.toNat / 2 ^ (7 - i) = x := ⟨_, rfl⟩
      have hs := half_step (N := n.toNat) HT.out.2.2.2.2.1
      rw [hE] at hs
      rw [hE] at V_a
      have h1 := HT.out.1
      have h2 := HT.out.2.1
      skip
      have hpw : 2 ^ i ≤ 64 := HT.out.2.2.2.2.2.2
      obtain ⟨B, hB⟩ : ∃ x, 64 / 2 ^ i = x := ⟨_, rfl⟩
      have HB2 : Hid (64 / 2 ^ (i + 1) = B / 2 ∧ True) := by have h3 := HT.out.2.2.1; rw [hB] at h3; exact ⟨h3.symm, trivial⟩
      rw [hB] at h1 h2 hand
      rw [hB]
      clear hB hE
      by_cases hodd : n.toNat / 2 ^ (6 - i) % 2 = 1
      · rw [if_pos hodd] at hand
        have HE : Hid (n.toNat / 2 ^ (6 - i) = E + E + 1) := by unfold Hid; rw [hodd] at hs; omega
        clear hs hodd
        have c0a := B_a.out.c0
        have c1a := B_a.out.c1
        have c2a := B_a.out.c2
        have c3a := B_a.out.c3
        have f0a := B_a.out.f0
        have f1a := B_a.out.f1
        have f2a := B_a.out.f2
        have f3a := B_a.out.f3
        have c0f := B_f.out.c0
        have c1f := B_f.out.c1
        have c2f := B_f.out.c2
        have c3f := B_f.out.c3
        have f0f := B_f.out.f0
        have f1f := B_f.out.f1
        have f2f := B_f.out.f2
        have f3f := B_f.out.f3
        go_wp2_with fail
        refine (product_r (Gc.fd (Gc.below V_a.out (by exact ⟨rfl, rfl, rfl, Nat.le_refl _, fun _ _ => rfl⟩))) (Gc.fd (Gc.below V_a.out (by exact ⟨rfl, rfl, rfl, Nat.le_refl _, fun _ _ => rfl⟩))) (by omega) (by omega)).mono ?_
        rintro e w3 ⟨vq, rfl, rq, bb⟩
        replace bb := nextw (w0 := wr) (by exact ⟨rfl, rfl, rfl, Nat.le_refl _, fun _ _ => rfl⟩) bb
        clear c0a c1a c2a c3a f0a f1a f2a f3a c0f c1f c2f c3f f0f f1f f2f f3f
        replace B_r := Lib.hid (BoxR.below B_r.out bb B_r.out.lt)
        replace B_f := Lib.hid (BoxR.below B_f.out bb B_f.out.lt)
        replace B_a := Lib.hid (BoxR.below B_a.out bb B_a.out.lt)
        replace V_f := Lib.hid (Gc.below V_f.out bb)
        replace V_a := Lib.hid (Gc.below V_a.out bb)
        replace HB := Lib.hid (nextw HB.out bb)
        clear bb
        have e1 := cpw_pr HNE.out E E
        replace rq := rq.of_eq e1.1 e1.2
        clear e1
        obtain ⟨sq, Aq, kq, cq, tq, Cq, lq, dq, rfl⟩ := rq.shape
        have V_q := Lib.hid rq
        clear rq V_a
        have c0a := B_a.out.c0
        have c1a := B_a.out.c1
        have c2a := B_a.out.c2
        have c3a := B_a.out.c3
        have f0a := B_a.out.f0
        have f1a := B_a.out.f1
        have f2a := B_a.out.f2
        have f3a := B_a.out.f3
        have c0f := B_f.out.c0
        have c1f := B_f.out.c1
        have c2f := B_f.out.c2
        have c3f := B_f.out.c3
        have f0f := B_f.out.f0
        have f1f := B_f.out.f1
        have f2f := B_f.out.f2
        have f3f := B_f.out.f3
        have bS := BoxR.store B_a.out sq (.slice Aq kq cq) tq (.slice Cq lq dq)
        have s0 := bS.c0
        have s1 := bS.c1
        have s2 := bS.c2
        have s3 := bS.c3
        have s4 := bS.f0
        have s5 := bS.f1
        have s6 := bS.f2
        have s7 := bS.f3
        have bF := BoxR.far4 (y := w2.heap.size) B_f.out (by have := HZ.out.2; omega) (.bool sq) (.slice Aq kq cq) (.bool tq) (.slice Cq lq dq)
        have g0 := bF.c0
        have g1 := bF.c1
        have g2 := bF.c2
        have g3 := bF.c3
        clear bS bF
        simp only [st4] at s0 s1 s2 s3 s4 s5 s6 s7 g0 g1 g2 g3
        go_wp2_with fail
        clear s0 s1 s2 s3 s4 s5 s6 s7 g0 g1 g2 g3
        have hza := HZ.out.1
        have hfa := HZ.out.2
        clear c0a c1a c2a c3a f0a f1a f2a f3a c0f c1f c2f c3f f0f f1f f2f f3f
        replace V_f := Lib.hid (BoxR.keepsGc B_a.out V_f.out (.bool sq) (.slice Aq kq cq) (.bool tq) (.slice Cq lq dq))
        replace V_q := Lib.hid (BoxR.keepsGc B_a.out V_q.out (.bool sq) (.slice Aq kq cq) (.bool tq) (.slice Cq lq dq))
        replace B_r := Lib.hid (BoxR.far4 (y := w2.heap.size) B_r.out (by omega) (.bool sq) (.slice Aq kq cq) (.bool tq) (.slice Cq lq dq))
        replace B_f := Lib.hid (BoxR.far4 (y := w2.heap.size) B_f.out (by omega) (.bool sq) (.slice Aq kq cq) (.bool tq) (.slice Cq lq dq))
        replace HB := Lib.hid (Below.store4 HB.out (y := w2.heap.size) (by omega) (.bool sq) (.slice Aq kq cq) (.bool tq) (.slice Cq lq dq))
        replace B_a := Lib.hid (BoxR.store B_a.out sq (.slice Aq kq cq) tq (.slice Cq lq dq))
        simp only [st4] at V_f V_q B_r B_f B_a HB
        generalize (((w3.setCell ⟨w2.heap.size, 0, none⟩ (.bool sq)).setCell ⟨w2.heap.size, 1, none⟩ (.slice Aq kq cq)).setCell ⟨w2.heap.size, 2, none⟩ (.bool tq)).setCell ⟨w2.heap.size, 3, none⟩ (.slice Cq lq dq) = W3 at *
        clear hza hfa
        refine (product_r (Gc.fd (Gc.below V_q.out (by exact ⟨rfl, rfl, rfl, Nat.le_refl _, fun _ _ => rfl⟩))) (Gc.fd (Gc.below V_f.out (by exact ⟨rfl, rfl, rfl, Nat.le_refl _, fun _ _ => rfl⟩))) (by omega) (by omega)).mono ?_
        rintro e w4 ⟨vy, rfl, ry, bb⟩
        replace bb := nextw (w0 := W3) (by exact ⟨rfl, rfl, rfl, Nat.le_refl _, fun _ _ => rfl⟩) bb
        replace B_r := Lib.hid (BoxR.below B_r.out bb B_r.out.lt)
        replace B_f := Lib.hid (BoxR.below B_f.out bb B_f.out.lt)
        replace B_a := Lib.hid (BoxR.below B_a.out bb B_a.out.lt)
        replace V_f := Lib.hid (Gc.below V_f.out bb)
        replace V_q := Lib.hid (Gc.below V_q.out bb)
        replace HB := Lib.hid (nextw HB.out bb)
        clear bb
        have e1 := cpw_pr HNE.out (E + E) 1
        rw [(cpw_one P Q).1, (cpw_one P Q).2] at e1
        replace ry := ry.of_eq e1.1 e1.2
        clear e1
        obtain ⟨sy, Ay, ky, cy, ty, Cy, ly, dy, rfl⟩ := ry.shape
        have V_y := Lib.hid ry
        clear ry V_q
        have c0a := B_a.out.c0
        have c1a := B_a.out.c1
        have c2a := B_a.out.c2
        have c3a := B_a.out.c3
        have f0a := B_a.out.f0
        have f1a := B_a.out.f1
        have f2a := B_a.out.f2
        have f3a := B_a.out.f3
        have hza := HZ.out.1
        have hfa := HZ.out.2
        go_wp2_with fail
        clear c0a c1a c2a c3a f0a f1a f2a f3a
        replace V_f := Lib.hid (BoxR.keepsGc B_a.out V_f.out (.bool sy) (.slice Ay ky cy) (.bool ty) (.slice Cy ly dy))
        replace V_y := Lib.hid (BoxR.keepsGc B_a.out V_y.out (.bool sy) (.slice Ay ky cy) (.bool ty) (.slice Cy ly dy))
        replace B_r := Lib.hid (BoxR.far4 (y := w2.heap.size) B_r.out (by omega) (.bool sy) (.slice Ay ky cy) (.bool ty) (.slice Cy ly dy))
        replace B_f := Lib.hid (BoxR.far4 (y := w2.heap.size) B_f.out (by omega) (.bool sy) (.slice Ay ky cy) (.bool ty) (.slice Cy ly dy))
        replace HB := Lib.hid (Below.store4 HB.out (y := w2.heap.size) (by omega) (.bool sy) (.slice Ay ky cy) (.bool ty) (.slice Cy ly dy))
        replace B_a := Lib.hid (BoxR.store B_a.out sy (.slice Ay ky cy) ty (.slice Cy ly dy))
        simp only [st4] at V_f V_y B_r B_f B_a HB
        generalize (((w4.setCell ⟨w2.heap.size, 0, none⟩ (.bool sy)).setCell ⟨w2.heap.size, 1, none⟩ (.slice Ay ky cy)).setCell ⟨w2.heap.size, 2, none⟩ (.bool ty)).setCell ⟨w2.heap.size, 3, none⟩ (.slice Cy ly dy) = W4 at *
        clear hza hfa
        go_roundw
        case rel => exact ⟨i + 1, _, _, _, _, _, _, _, _, _, by omega, (by rw [HT.out.2.2.2.1]; omega), by rw [HB2.out.1, Int.natCast_ediv]; rfl, B_a.out, (V_y.out.of_eq (by rw [HT.out.2.2.2.2.2.1, HE.out]) (by rw [HT.out.2.2.2.2.2.1, HE.out])), B_f.out, V_f.out, B_r.out, HB.out⟩
        case measure => simp only [RowKit.intOf]; omega
      · rw [if_neg hodd] at hand
        have HE : Hid (n.toNat / 2 ^ (6 - i) = E + E) := by unfold Hid; have : n.toNat / 2 ^ (6 - i) % 2 = 0 := (by omega); rw [this] at hs; omega
        clear hs hodd
        have c0a := B_a.out.c0
        have c1a := B_a.out.c1
        have c2a := B_a.out.c2
        have c3a := B_a.out.c3
        have f0a := B_a.out.f0
        have f1a := B_a.out.f1
        have f2a := B_a.out.f2
        have f3a := B_a.out.f3
        have c0f := B_f.out.c0
        have c1f := B_f.out.c1
        have c2f := B_f.out.c2
        have c3f := B_f.out.c3
        have f0f := B_f.out.f0
        have f1f := B_f.out.f1
        have f2f := B_f.out.f2
        have f3f := B_f.out.f3
        go_wp2_with fail
        refine (product_r (Gc.fd (Gc.below V_a.out (by exact ⟨rfl, rfl, rfl, Nat.le_refl _, fun _ _ => rfl⟩))) (Gc.fd (Gc.below V_a.out (by exact ⟨rfl, rfl, rfl, Nat.le_refl _, fun _ _ => rfl⟩))) (by omega) (by omega)).mono ?_
        rintro e w3 ⟨vq, rfl, rq, bb⟩
        replace bb := nextw (w0 := wr) (by exact ⟨rfl, rfl, rfl, Nat.le_refl _, fun _ _ => rfl⟩) bb
        clear c0a c1a c2a c3a f0a f1a f2a f3a c0f c1f c2f c3f f0f f1f f2f f3f
        replace B_r := Lib.hid (BoxR.below B_r.out bb B_r.out.lt)
        replace B_f := Lib.hid (BoxR.below B_f.out bb B_f.out.lt)
        replace B_a := Lib.hid (BoxR.below B_a.out bb B_a.out.lt)
        replace V_f := Lib.hid (Gc.below V_f.out bb)
        replace V_a := Lib.hid (Gc.below V_a.out bb)
        replace HB := Lib.hid (nextw HB.out bb)
        clear bb
        have e1 := cpw_pr HNE.out E E
        replace rq := rq.of_eq e1.1 e1.2
        clear e1
        obtain ⟨sq, Aq, kq, cq, tq, Cq, lq, dq, rfl⟩ := rq.shape
        have V_q := Lib.hid rq
        clear rq V_a
        have c0a := B_a.out.c0
        have c1a := B_a.out.c1
        have c2a := B_a.out.c2
        have c3a := B_a.out.c3
        have f0a := B_a.out.f0
        have f1a := B_a.out.f1
        have f2a := B_a.out.f2
        have f3a := B_a.out.f3
        have c0f := B_f.out.c0
        have c1f := B_f.out.c1
        have c2f := B_f.out.c2
        have c3f := B_f.out.c3
        have f0f := B_f.out.f0
        have f1f := B_f.out.f1
        have f2f := B_f.out.f2
        have f3f := B_f.out.f3
        have bS := BoxR.store B_a.out sq (.slice Aq kq cq) tq (.slice Cq lq dq)
        have s0 := bS.c0
        have s1 := bS.c1
        have s2 := bS.c2
        have s3 := bS.c3
        have s4 := bS.f0
        have s5 := bS.f1
        have s6 := bS.f2
        have s7 := bS.f3
        have bF := BoxR.far4 (y := w2.heap.size) B_f.out (by have := HZ.out.2; omega) (.bool sq) (.slice Aq kq cq) (.bool tq) (.slice Cq lq dq)
        have g0 := bF.c0
        have g1 := bF.c1
        have g2 := bF.c2
        have g3 := bF.c3
        clear bS bF
        simp only [st4] at s0 s1 s2 s3 s4 s5 s6 s7 g0 g1 g2 g3
        go_wp2_with fail
        clear s0 s1 s2 s3 s4 s5 s6 s7 g0 g1 g2 g3
        have hza := HZ.out.1
        have hfa := HZ.out.2
        clear c0a c1a c2a c3a f0a f1a f2a f3a c0f c1f c2f c3f f0f f1f f2f f3f
        replace V_f := Lib.hid (BoxR.keepsGc B_a.out V_f.out (.bool sq) (.slice Aq kq cq) (.bool tq) (.slice Cq lq dq))
        replace V_q := Lib.hid (BoxR.keepsGc B_a.out V_q.out (.bool sq) (.slice Aq kq cq) (.bool tq) (.slice Cq lq dq))
        replace B_r := Lib.hid (BoxR.far4 (y := w2.heap.size) B_r.out (by omega) (.bool sq) (.slice Aq kq cq) (.bool tq) (.slice Cq lq dq))
        replace B_f := Lib.hid (BoxR.far4 (y := w2.heap.size) B_f.out (by omega) (.bool sq) (.slice Aq kq cq) (.bool tq) (.slice Cq lq dq))
        replace HB := Lib.hid (Below.store4 HB.out (y := w2.heap.size) (by omega) (.bool sq) (.slice Aq kq cq) (.bool tq) (.slice Cq lq dq))
        replace B_a := Lib.hid (BoxR.store B_a.out sq (.slice Aq kq cq) tq (.slice Cq lq dq))
        simp only [st4] at V_f V_q B_r B_f B_a HB
        generalize (((w3.setCell ⟨w2.heap.size, 0, none⟩ (.bool sq)).setCell ⟨w2.heap.size, 1, none⟩ (.slice Aq kq cq)).setCell ⟨w2.heap.size, 2, none⟩ (.bool tq)).setCell ⟨w2.heap.size, 3, none⟩ (.slice Cq lq dq) = W3 at *
        clear hza hfa
        go_roundw
        case rel => exact ⟨i + 1, _, _, _, _, _, _, _, _, _, by omega, (by rw [HT.out.2.2.2.1]; omega), by rw [HB2.out.1, Int.natCast_ediv]; rfl, B_a.out, (V_q.out.of_eq (by rw [HT.out.2.2.2.2.2.1, HE.out]) (by rw [HT.out.2.2.2.2.2.1, HE.out])), B_f.out, V_f.out, B_r.out, HB.out⟩
        case measure => simp only [RowKit.intOf]; omega
    · obtain rfl : i = 7 := by omega
      have c0a := B_a.out.c0
      have c1a := B_a.out.c1
      have c2a := B_a.out.c2
      have c3a := B_a.out.c3
      have f0a := B_a.out.f0
      have f1a := B_a.out.f1
      have f2a := B_a.out.f2
      have f3a := B_a.out.f3
      have c0r := B_r.out.c0
      have c1r := B_r.out.c1
      have c2r := B_r.out.c2
      have c3r := B_r.out.c3
      have f0r := B_r.out.f0
      have f1r := B_r.out.f1
      have f2r := B_r.out.f2
      have f3r := B_r.out.f3
      rw [show ((64 / 2 ^ 7 : Nat) : Int) = 0 by decide]
      go_wp2_with fail
      refine (Norm_r (Gc.fd (Gc.below V_a.out (by exact ⟨rfl, rfl, rfl, Nat.le_refl _, fun _ _ => rfl⟩))) (by omega)).mono ?_
      rintro e w3 ⟨vz, rfl, rz, bb⟩
      replace bb := nextw (w0 := wr) (by exact ⟨rfl, rfl, rfl, Nat.le_refl _, fun _ _ => rfl⟩) bb
      clear c0a c1a c2a c3a f0a f1a f2a f3a c0r c1r c2r c3r f0r f1r f2r f3r
      replace B_r := Lib.hid (BoxR.below B_r.out bb B_r.out.lt)
      replace B_f := Lib.hid (BoxR.below B_f.out bb B_f.out.lt)
      replace B_a := Lib.hid (BoxR.below B_a.out bb B_a.out.lt)
      replace V_f := Lib.hid (Gc.below V_f.out bb)
      replace V_a := Lib.hid (Gc.below V_a.out bb)
      replace HB := Lib.hid (nextw HB.out bb)
      clear bb
      obtain ⟨sz, Az, kz, cz, tz, Cz, lz, dz, rfl⟩ := rz.shape
      have V_z := Lib.hid rz
      clear rz
      skip
      have K_z := V_z
      replace K_z := Lib.hid (BoxR.keepsGc B_r.out K_z.out (.bool sz) (.slice Az kz cz) (.bool tz) (.slice Cz lz dz))
      have HB1 := Lib.hid (Below.store4 HB.out (y := w.heap.size + 1) (by omega) (.bool sz) (.slice Az kz cz) (.bool tz) (.slice Cz lz dz))
      have N0r := Lib.hid (BoxR.store B_r.out sz (.slice Az kz cz) tz (.slice Cz lz dz))
      have s0r := N0r.out.c0
      have s1r := N0r.out.c1
      have s2r := N0r.out.c2
      have s3r := N0r.out.c3
      simp only [st4] at s0r s1r s2r s3r
      have HBF := HB1
      have c0r := B_r.out.c0
      have c1r := B_r.out.c1
      have c2r := B_r.out.c2
      have c3r := B_r.out.c3
      have f0r := B_r.out.f0
      have f1r := B_r.out.f1
      have f2r := B_r.out.f2
      have f3r := B_r.out.f3
      go_wp2_with fail
      exact bodyPost_ret (v := .tuple #[.agg #[.bool sz, (.slice Az kz cz), .bool tz, (.slice Cz lz dz)], .int .i64 0]) (by simp [results, Tryz.results37, go_sem, s0r, s1r, s2r, s3r]) rfl ⟨_, rfl, (((Gc.below K_z.out (by exact ⟨rfl, rfl, rfl, Nat.le_refl _, fun _ _ => rfl⟩)).more (by omega)).of_eq (by rw [HP.out, HQ.out]; simp only [Nat.sub_self, Nat.pow_zero, Nat.div_one]) (by rw [HP.out, HQ.out]; simp only [Nat.sub_self, Nat.pow_zero, Nat.div_one])), (nextw HBF.out (by exact ⟨rfl, rfl, rfl, Nat.le_refl _, fun _ _ => rfl⟩))⟩

set_option maxRecDepth 100000 in
set_option maxHeartbeats 8000000 in
theorem Power_neg {v : Value} {p q : Int} {k : Nat} {w : World} (n : Int) (h : Fd w v p q k) (f : k ≤ 10) (n1 : n < 0) (n2 : -64 ≤ n) :
    Calls Tryz.prog 37 #[v, .int .i64 n] w fun e w' => ∃ v', e = .returned (.tuple #[v', .int .i64 0]) ∧ Gc w' v' (cnP (cpw (inP (cnP p q) (cnQ p q)) (inQ (cnP p q) (cnQ p q)) (-n).toNat).1 (cpw (inP (cnP p q) (cnQ p q)) (inQ (cnP p q) (cnQ p q)) (-n).toNat).2) (cnQ (cpw (inP (cnP p q) (cnQ p q)) (inQ (cnP p q) (cnQ p q)) (-n).toNat).1 (cpw (inP (cnP p q) (cnQ p q)) (inQ (cnP p q) (cnQ p q)) (-n).toNat).2) 4000 ∧ Below w.heap.size w w' := by
  obtain ⟨sx, Ax, kx, cx, tx, Cx, lx, dx, rfl, hnx, hdx⟩ := h.shape
  have V_xn := Lib.hid hnx
  have V_xd := Lib.hid hdx
  clear h hnx hdx
  have hne0 := Lib.hid (cn_ne p q)
  have hb0 : Below w.heap.size w ((w.alloc (.cells #[.bool sx, (.slice Ax kx cx), .bool tx, (.slice Cx lx dx)] 26)).alloc (.cells #[.bool false, (.slice none 0 0), .bool false, (.slice none 0 0)] 26)) := (Below.alloc (Below.alloc (Below.refl w.heap.size w) (by simp <;> omega) _) (by simp <;> omega) _)
  have B_x : BoxR ((w.alloc (.cells #[.bool sx, (.slice Ax kx cx), .bool tx, (.slice Cx lx dx)] 26)).alloc (.cells #[.bool false, (.slice none 0 0), .bool false, (.slice none 0 0)] 26)) (w.heap.size) sx (.slice Ax kx cx) tx (.slice Cx lx dx) := by have h := BoxR.alloc (BoxR.new w sx (.slice Ax kx cx) tx (.slice Cx lx dx)) (.cells #[.bool false, (.slice none 0 0), .bool false, (.slice none 0 0)] 26); simpa using h
  replace B_x := Lib.hid B_x
  have B_r : BoxR ((w.alloc (.cells #[.bool sx, (.slice Ax kx cx), .bool tx, (.slice Cx lx dx)] 26)).alloc (.cells #[.bool false, (.slice none 0 0), .bool false, (.slice none 0 0)] 26)) (w.heap.size + 1) false (.slice none 0 0) false (.slice none 0 0) := by have h := BoxR.new (w.alloc (.cells #[.bool sx, (.slice Ax kx cx), .bool tx, (.slice Cx lx dx)] 26)) false (.slice none 0 0) false (.slice none 0 0); simpa using h
  replace B_r := Lib.hid B_r
  replace V_xn := Lib.hid (Rd.below V_xn.out hb0)
  replace V_xd := Lib.hid (Rd.below V_xd.out hb0)
  have HB := Lib.hid hb0
  clear hb0
  have c0x := B_x.out.c0
  have c1x := B_x.out.c1
  have c2x := B_x.out.c2
  have c3x := B_x.out.c3
  have c0r := B_r.out.c0
  have c1r := B_r.out.c1
  have c2r := B_r.out.c2
  have c3r := B_r.out.c3
  go_enter Tryz.func37, Tryz.ntmps37
  go_wp2_with fail
  clear c0x c1x c2x c3x c0r c1r c2r c3r
  generalize (w.alloc (.cells #[.bool sx, (.slice Ax kx cx), .bool tx, (.slice Cx lx dx)] 26)).alloc (.cells #[.bool false, (.slice none 0 0), .bool false, (.slice none 0 0)] 26) = W0 at *
  refine (Norm_r (Fd.mk (Rd.below V_xn.out (by exact ⟨rfl, rfl, rfl, Nat.le_refl _, fun _ _ => rfl⟩)) (Rd.below V_xd.out (by exact ⟨rfl, rfl, rfl, Nat.le_refl _, fun _ _ => rfl⟩))) (by omega)).mono ?_
  rintro e w1 ⟨vf, rfl, rf, bb⟩
  replace bb := nextw (w0 := W0) (by exact ⟨rfl, rfl, rfl, Nat.le_refl _, fun _ _ => rfl⟩) bb
  replace B_x := Lib.hid (BoxR.below B_x.out bb B_x.out.lt)
  replace B_r := Lib.hid (BoxR.below B_r.out bb B_r.out.lt)
  replace V_xn := Lib.hid (Rd.below V_xn.out bb)
  replace V_xd := Lib.hid (Rd.below V_xd.out bb)
  replace HB := Lib.hid (nextw HB.out bb)
  clear bb
  obtain ⟨sf, Af, kf, cf, tf, Cf, lf, df, rfl⟩ := rf.shape
  have V_f := Lib.hid rf
  clear rf V_xn V_xd B_x
  have HR1 := Lib.hid B_r.out.lt
  have hb0 : Below w1.heap.size w1 (w1.alloc (.cells #[.bool sf, (.slice Af kf cf), .bool tf, (.slice Cf lf df)] 26)) := (Below.alloc (Below.refl w1.heap.size w1) (by simp <;> omega) _)
  have B_f : BoxR (w1.alloc (.cells #[.bool sf, (.slice Af kf cf), .bool tf, (.slice Cf lf df)] 26)) (w1.heap.size) sf (.slice Af kf cf) tf (.slice Cf lf df) := by have h := BoxR.new w1 sf (.slice Af kf cf) tf (.slice Cf lf df); simpa using h
  replace B_f := Lib.hid B_f
  replace B_r := Lib.hid (BoxR.below B_r.out hb0 B_r.out.lt)
  replace V_f := Lib.hid (Gc.below V_f.out hb0)
  replace HB := Lib.hid (nextw HB.out hb0)
  clear hb0
  have c0f := B_f.out.c0
  have c1f := B_f.out.c1
  have c2f := B_f.out.c2
  have c3f := B_f.out.c3
  have f0f := B_f.out.f0
  have f1f := B_f.out.f1
  have f2f := B_f.out.f2
  have f3f := B_f.out.f3
  go_wp2_with fail
  clear c0f c1f c2f c3f f0f f1f f2f f3f
  generalize w1.alloc (.cells #[.bool sf, (.slice Af kf cf), .bool tf, (.slice Cf lf df)] 26) = W1 at *
  refine (Inverse_r (Gc.fd (Gc.below V_f.out (by exact ⟨rfl, rfl, rfl, Nat.le_refl _, fun _ _ => rfl⟩))) (by omega)).mono ?_
  rintro e w2 ⟨vg, rfl, rg, bb⟩
  replace bb := nextw (w0 := W1) (by exact ⟨rfl, rfl, rfl, Nat.le_refl _, fun _ _ => rfl⟩) bb
  replace B_r := Lib.hid (BoxR.below B_r.out bb B_r.out.lt)
  replace B_f := Lib.hid (BoxR.below B_f.out bb B_f.out.lt)
  replace V_f := Lib.hid (Gc.below V_f.out bb)
  replace HB := Lib.hid (nextw HB.out bb)
  clear bb
  obtain ⟨sg, Ag, kg, cg, tg, Cg, lg, dg, rfl⟩ := rg.shape
  have V_g := Lib.hid rg
  clear rg V_f
  have c0f := B_f.out.c0
  have c1f := B_f.out.c1
  have c2f := B_f.out.c2
  have c3f := B_f.out.c3
  have f0f := B_f.out.f0
  have f1f := B_f.out.f1
  have f2f := B_f.out.f2
  have f3f := B_f.out.f3
  have bS := BoxR.store B_f.out sg (.slice Ag kg cg) tg (.slice Cg lg dg)
  have s0 := bS.c0
  have s1 := bS.c1
  have s2 := bS.c2
  have s3 := bS.c3
  clear bS
  simp only [st4] at s0 s1 s2 s3
  go_wp2_with fail
  clear s0 s1 s2 s3
  have hzr := HR1.out
  clear c0f c1f c2f c3f f0f f1f f2f f3f
  replace V_g := Lib.hid (BoxR.keepsGc B_f.out V_g.out (.bool sg) (.slice Ag kg cg) (.bool tg) (.slice Cg lg dg))
  replace B_r := Lib.hid (BoxR.far4 (y := w1.heap.size) B_r.out (by omega) (.bool sg) (.slice Ag kg cg) (.bool tg) (.slice Cg lg dg))
  replace HB := Lib.hid (Below.store4 HB.out (y := w1.heap.size) (by omega) (.bool sg) (.slice Ag kg cg) (.bool tg) (.slice Cg lg dg))
  replace B_f := Lib.hid (BoxR.store B_f.out sg (.slice Ag kg cg) tg (.slice Cg lg dg))
  simp only [st4] at V_g B_r B_f HB
  generalize (((w2.setCell ⟨w1.heap.size, 0, none⟩ (.bool sg)).setCell ⟨w1.heap.size, 1, none⟩ (.slice Ag kg cg)).setCell ⟨w1.heap.size, 2, none⟩ (.bool tg)).setCell ⟨w1.heap.size, 3, none⟩ (.slice Cg lg dg) = W1b at *
  clear hzr
  have V_f := V_g
  clear V_g
  obtain ⟨P, hP⟩ : ∃ x, inP (cnP p q) (cnQ p q) = x := ⟨_, rfl⟩
  obtain ⟨Q, hQ⟩ : ∃ x, inQ (cnP p q) (cnQ p q) = x := ⟨_, rfl⟩
  have HP := Lib.hid hP
  have HQ := Lib.hid hQ
  have hne : ¬ (P = 0 ∧ Q = 0) := by rw [← hP, ← hQ]; exact cn_ne _ _
  have HNE := Lib.hid hne
  rw [hP, hQ] at V_f
  clear hP hQ hne hne0
  obtain ⟨N, hN⟩ : ∃ x, -n = x := ⟨_, rfl⟩
  have n3 : 0 ≤ N := by omega
  have n4 : N ≤ 64 := by omega
  refine (identity_g).mono ?_
  rintro e w3 ⟨va, rfl, ra, bb⟩
  replace bb := nextw (w0 := W1b) (by exact ⟨rfl, rfl, rfl, Nat.le_refl _, fun _ _ => rfl⟩) bb
  replace B_r := Lib.hid (BoxR.below B_r.out bb B_r.out.lt)
  replace B_f := Lib.hid (BoxR.below B_f.out bb B_f.out.lt)
  replace V_f := Lib.hid (Gc.below V_f.out bb)
  replace HB := Lib.hid (nextw HB.out bb)
  clear bb
  obtain ⟨sa, Aa, ka, ca, ta, Ca, la, da, rfl⟩ := ra.shape
  have V_a := Lib.hid ra
  clear ra
  have HFA := Lib.hid B_f.out.lt
  have HRA := Lib.hid B_r.out.lt
  have hb0 : Below w3.heap.size w3 (w3.alloc (.cells #[.bool sa, (.slice Aa ka ca), .bool ta, (.slice Ca la da)] 26)) := (Below.alloc (Below.refl w3.heap.size w3) (by simp <;> omega) _)
  have B_a : BoxR (w3.alloc (.cells #[.bool sa, (.slice Aa ka ca), .bool ta, (.slice Ca la da)] 26)) (w3.heap.size) sa (.slice Aa ka ca) ta (.slice Ca la da) := by have h := BoxR.new w3 sa (.slice Aa ka ca) ta (.slice Ca la da); simpa using h
  replace B_a := Lib.hid B_a
  replace B_r := Lib.hid (BoxR.below B_r.out hb0 B_r.out.lt)
  replace B_f := Lib.hid (BoxR.below B_f.out hb0 B_f.out.lt)
  replace V_f := Lib.hid (Gc.below V_f.out hb0)
  replace V_a := Lib.hid (Gc.below V_a.out hb0)
  replace HB := Lib.hid (nextw HB.out hb0)
  clear hb0
  have c0f := B_f.out.c0
  have c1f := B_f.out.c1
  have c2f := B_f.out.c2
  have c3f := B_f.out.c3
  have c0a := B_a.out.c0
  have c1a := B_a.out.c1
  have c2a := B_a.out.c2
  have c3a := B_a.out.c3
  go_wp2_with fail
  clear c0f c1f c2f c3f c0a c1a c2a c3a
  generalize w3.alloc (.cells #[.bool sa, (.slice Aa ka ca), .bool ta, (.slice Ca la da)] 26) = W2 at *
  try rw [hN]
  have hza : w.heap.size + 1 < w3.heap.size := HRA.out
  have hfa : w1.heap.size < w3.heap.size := HFA.out
  have HZ := Lib.hid (And.intro hza hfa)
  clear hza hfa
  go_loopw [8] (fun b wr => ∃ (i K : Nat) (s : Bool) (A : Option Addr) (u c : Nat) (t : Bool) (C : Option Addr) (l d : Nat), i ≤ 7 ∧ K + 28 ≤ 30 * 2 ^ i ∧ b = .int .i64 ((64 / 2 ^ i : Nat) : Int) ∧ BoxR wr w3.heap.size s (.slice A u c) t (.slice C l d) ∧ Gc wr (.agg #[.bool s, .slice A u c, .bool t, .slice C l d]) (cpw P Q (N.toNat / 2 ^ (7 - i))).1 (cpw P Q (N.toNat / 2 ^ (7 - i))).2 K ∧ BoxR wr w1.heap.size sg (.slice Ag kg cg) tg (.slice Cg lg dg) ∧ Gc wr (.agg #[.bool sg, (.slice Ag kg cg), .bool tg, (.slice Cg lg dg)]) P Q (k + 2 + 2) ∧ BoxR wr (w.heap.size + 1) false (.slice none 0 0) false (.slice none 0 0) ∧ Below w.heap.size w wr) (fun b _ => (RowKit.intOf b).toNat)
  case atStart =>
    have e0 : N.toNat / 2 ^ (7 - 0) = 0 := Nat.div_eq_of_lt (by simp only [Nat.sub_zero]; omega)
    refine ⟨0, 2, _, _, _, _, _, _, _, _, by omega, by omega, rfl, B_a.out, ?_, B_f.out, V_f.out, B_r.out, HB.out⟩
    rw [e0]; exact V_a.out
  case round =>
    clear V_a B_a V_f B_f B_r HB
    obtain ⟨i, K, s, A, u, c, t, C, l, d, hi, hK, rfl, ba, va, bf, vf, br, bb⟩ := hrel
    have B_a := Lib.hid ba
    have V_a := Lib.hid va
    have B_f := Lib.hid bf
    have V_f := Lib.hid vf
    have B_r := Lib.hid br
    have HB := Lib.hid bb
    clear ba va bf vf br bb
    by_cases hi7 : i < 7
    · have HT := Lib.hid (bit_ok i hi7)
      have hand := and_bit i N hi7 n3 n4
      obtain ⟨E, hE⟩ : ∃ x, N.toNat / 2 ^ (7 - i) = x := ⟨_, rfl⟩
      have hs := half_step (N := N.toNat) HT.out.2.2.2.2.1
      rw [hE] at hs
      rw [hE] at V_a
      have h1 := HT.out.1
      have h2 := HT.out.2.1
      skip
      have hpw : 2 ^ i ≤ 64 := HT.out.2.2.2.2.2.2
      obtain ⟨B, hB⟩ : ∃ x, 64 / 2 ^ i = x := ⟨_, rfl⟩
      have HB2 : Hid (64 / 2 ^ (i + 1) = B / 2 ∧ True) := by have h3 := HT.out.2.2.1; rw [hB] at h3; exact ⟨h3.symm, trivial⟩
      rw [hB] at h1 h2 hand
      rw [hB]
      clear hB hE
      by_cases hodd : N.toNat / 2 ^ (6 - i) % 2 = 1
      · rw [if_pos hodd] at hand
        have HE : Hid (N.toNat / 2 ^ (6 - i) = E + E + 1) := by unfold Hid; rw [hodd] at hs; omega
        clear hs hodd
        have c0a := B_a.out.c0
        have c1a := B_a.out.c1
        have c2a := B_a.out.c2
        have c3a := B_a.out.c3
        have f0a := B_a.out.f0
        have f1a := B_a.out.f1
        have f2a := B_a.out.f2
        have f3a := B_a.out.f3
        have c0f := B_f.out.c0
        have c1f := B_f.out.c1
        have c2f := B_f.out.c2
        have c3f := B_f.out.c3
        have f0f := B_f.out.f0
        have f1f := B_f.out.f1
        have f2f := B_f.out.f2
        have f3f := B_f.out.f3
        go_wp2_with fail
        refine (product_r (Gc.fd (Gc.below V_a.out (by exact ⟨rfl, rfl, rfl, Nat.le_refl _, fun _ _ => rfl⟩))) (Gc.fd (Gc.below V_a.out (by exact ⟨rfl, rfl, rfl, Nat.le_refl _, fun _ _ => rfl⟩))) (by omega) (by omega)).mono ?_
        rintro e w4 ⟨vq, rfl, rq, bb⟩
        replace bb := nextw (w0 := wr) (by exact ⟨rfl, rfl, rfl, Nat.le_refl _, fun _ _ => rfl⟩) bb
        clear c0a c1a c2a c3a f0a f1a f2a f3a c0f c1f c2f c3f f0f f1f f2f f3f
        replace B_r := Lib.hid (BoxR.below B_r.out bb B_r.out.lt)
        replace B_f := Lib.hid (BoxR.below B_f.out bb B_f.out.lt)
        replace B_a := Lib.hid (BoxR.below B_a.out bb B_a.out.lt)
        replace V_f := Lib.hid (Gc.below V_f.out bb)
        replace V_a := Lib.hid (Gc.below V_a.out bb)
        replace HB := Lib.hid (nextw HB.out bb)
        clear bb
        have e1 := cpw_pr HNE.out E E
        replace rq := rq.of_eq e1.1 e1.2
        clear e1
        obtain ⟨sq, Aq, kq, cq, tq, Cq, lq, dq, rfl⟩ := rq.shape
        have V_q := Lib.hid rq
        clear rq V_a
        have c0a := B_a.out.c0
        have c1a := B_a.out.c1
        have c2a := B_a.out.c2
        have c3a := B_a.out.c3
        have f0a := B_a.out.f0
        have f1a := B_a.out.f1
        have f2a := B_a.out.f2
        have f3a := B_a.out.f3
        have c0f := B_f.out.c0
        have c1f := B_f.out.c1
        have c2f := B_f.out.c2
        have c3f := B_f.out.c3
        have f0f := B_f.out.f0
        have f1f := B_f.out.f1
        have f2f := B_f.out.f2
        have f3f := B_f.out.f3
        have bS := BoxR.store B_a.out sq (.slice Aq kq cq) tq (.slice Cq lq dq)
        have s0 := bS.c0
        have s1 := bS.c1
        have s2 := bS.c2
        have s3 := bS.c3
        have s4 := bS.f0
        have s5 := bS.f1
        have s6 := bS.f2
        have s7 := bS.f3
        have bF := BoxR.far4 (y := w3.heap.size) B_f.out (by have := HZ.out.2; omega) (.bool sq) (.slice Aq kq cq) (.bool tq) (.slice Cq lq dq)
        have g0 := bF.c0
        have g1 := bF.c1
        have g2 := bF.c2
        have g3 := bF.c3
        clear bS bF
        simp only [st4] at s0 s1 s2 s3 s4 s5 s6 s7 g0 g1 g2 g3
        go_wp2_with fail
        clear s0 s1 s2 s3 s4 s5 s6 s7 g0 g1 g2 g3
        have hza := HZ.out.1
        have hfa := HZ.out.2
        clear c0a c1a c2a c3a f0a f1a f2a f3a c0f c1f c2f c3f f0f f1f f2f f3f
        replace V_f := Lib.hid (BoxR.keepsGc B_a.out V_f.out (.bool sq) (.slice Aq kq cq) (.bool tq) (.slice Cq lq dq))
        replace V_q := Lib.hid (BoxR.keepsGc B_a.out V_q.out (.bool sq) (.slice Aq kq cq) (.bool tq) (.slice Cq lq dq))
        replace B_r := Lib.hid (BoxR.far4 (y := w3.heap.size) B_r.out (by omega) (.bool sq) (.slice Aq kq cq) (.bool tq) (.slice Cq lq dq))
        replace B_f := Lib.hid (BoxR.far4 (y := w3.heap.size) B_f.out (by omega) (.bool sq) (.slice Aq kq cq) (.bool tq) (.slice Cq lq dq))
        replace HB := Lib.hid (Below.store4 HB.out (y := w3.heap.size) (by omega) (.bool sq) (.slice Aq kq cq) (.bool tq) (.slice Cq lq dq))
        replace B_a := Lib.hid (BoxR.store B_a.out sq (.slice Aq kq cq) tq (.slice Cq lq dq))
        simp only [st4] at V_f V_q B_r B_f B_a HB
        generalize (((w4.setCell ⟨w3.heap.size, 0, none⟩ (.bool sq)).setCell ⟨w3.heap.size, 1, none⟩ (.slice Aq kq cq)).setCell ⟨w3.heap.size, 2, none⟩ (.bool tq)).setCell ⟨w3.heap.size, 3, none⟩ (.slice Cq lq dq) = W3 at *
        clear hza hfa
        refine (product_r (Gc.fd (Gc.below V_q.out (by exact ⟨rfl, rfl, rfl, Nat.le_refl _, fun _ _ => rfl⟩))) (Gc.fd (Gc.below V_f.out (by exact ⟨rfl, rfl, rfl, Nat.le_refl _, fun _ _ => rfl⟩))) (by omega) (by omega)).mono ?_
        rintro e w5 ⟨vy, rfl, ry, bb⟩
        replace bb := nextw (w0 := W3) (by exact ⟨rfl, rfl, rfl, Nat.le_refl _, fun _ _ => rfl⟩) bb
        replace B_r := Lib.hid (BoxR.below B_r.out bb B_r.out.lt)
        replace B_f := Lib.hid (BoxR.below B_f.out bb B_f.out.lt)
        replace B_a := Lib.hid (BoxR.below B_a.out bb B_a.out.lt)
        replace V_f := Lib.hid (Gc.below V_f.out bb)
        replace V_q := Lib.hid (Gc.below V_q.out bb)
        replace HB := Lib.hid (nextw HB.out bb)
        clear bb
        have e1 := cpw_pr HNE.out (E + E) 1
        rw [(cpw_one P Q).1, (cpw_one P Q).2] at e1
        replace ry := ry.of_eq e1.1 e1.2
        clear e1
        obtain ⟨sy, Ay, ky, cy, ty, Cy, ly, dy, rfl⟩ := ry.shape
        have V_y := Lib.hid ry
        clear ry V_q
        have c0a := B_a.out.c0
        have c1a := B_a.out.c1
        have c2a := B_a.out.c2
        have c3a := B_a.out.c3
        have f0a := B_a.out.f0
        have f1a := B_a.out.f1
        have f2a := B_a.out.f2
        have f3a := B_a.out.f3
        have hza := HZ.out.1
        have hfa := HZ.out.2
        go_wp2_with fail
        clear c0a c1a c2a c3a f0a f1a f2a f3a
        replace V_f := Lib.hid (BoxR.keepsGc B_a.out V_f.out (.bool sy) (.slice Ay ky cy) (.bool ty) (.slice Cy ly dy))
        replace V_y := Lib.hid (BoxR.keepsGc B_a.out V_y.out (.bool sy) (.slice Ay ky cy) (.bool ty) (.slice Cy ly dy))
        replace B_r := Lib.hid (BoxR.far4 (y := w3.heap.size) B_r.out (by omega) (.bool sy) (.slice Ay ky cy) (.bool ty) (.slice Cy ly dy))
        replace B_f := Lib.hid (BoxR.far4 (y := w3.heap.size) B_f.out (by omega) (.bool sy) (.slice Ay ky cy) (.bool ty) (.slice Cy ly dy))
        replace HB := Lib.hid (Below.store4 HB.out (y := w3.heap.size) (by omega) (.bool sy) (.slice Ay ky cy) (.bool ty) (.slice Cy ly dy))
        replace B_a := Lib.hid (BoxR.store B_a.out sy (.slice Ay ky cy) ty (.slice Cy ly dy))
        simp only [st4] at V_f V_y B_r B_f B_a HB
        generalize (((w5.setCell ⟨w3.heap.size, 0, none⟩ (.bool sy)).setCell ⟨w3.heap.size, 1, none⟩ (.slice Ay ky cy)).setCell ⟨w3.heap.size, 2, none⟩ (.bool ty)).setCell ⟨w3.heap.size, 3, none⟩ (.slice Cy ly dy) = W4 at *
        clear hza hfa
        go_roundw
        case rel => exact ⟨i + 1, _, _, _, _, _, _, _, _, _, by omega, (by rw [HT.out.2.2.2.1]; omega), by rw [HB2.out.1, Int.natCast_ediv]; rfl, B_a.out, (V_y.out.of_eq (by rw [HT.out.2.2.2.2.2.1, HE.out]) (by rw [HT.out.2.2.2.2.2.1, HE.out])), B_f.out, V_f.out, B_r.out, HB.out⟩
        case measure => simp only [RowKit.intOf]; omega
      · rw [if_neg hodd] at hand
        have HE : Hid (N.toNat / 2 ^ (6 - i) = E + E) := by unfold Hid; have : N.toNat / 2 ^ (6 - i) % 2 = 0 := (by omega); rw [this] at hs; omega
        clear hs hodd
        have c0a := B_a.out.c0
        have c1a := B_a.out.c1
        have c2a := B_a.out.c2
        have c3a := B_a.out.c3
        have f0a := B_a.out.f0
        have f1a := B_a.out.f1
        have f2a := B_a.out.f2
        have f3a := B_a.out.f3
        have c0f := B_f.out.c0
        have c1f := B_f.out.c1
        have c2f := B_f.out.c2
        have c3f := B_f.out.c3
        have f0f := B_f.out.f0
        have f1f := B_f.out.f1
        have f2f := B_f.out.f2
        have f3f := B_f.out.f3
        go_wp2_with fail
        refine (product_r (Gc.fd (Gc.below V_a.out (by exact ⟨rfl, rfl, rfl, Nat.le_refl _, fun _ _ => rfl⟩))) (Gc.fd (Gc.below V_a.out (by exact ⟨rfl, rfl, rfl, Nat.le_refl _, fun _ _ => rfl⟩))) (by omega) (by omega)).mono ?_
        rintro e w4 ⟨vq, rfl, rq, bb⟩
        replace bb := nextw (w0 := wr) (by exact ⟨rfl, rfl, rfl, Nat.le_refl _, fun _ _ => rfl⟩) bb
        clear c0a c1a c2a c3a f0a f1a f2a f3a c0f c1f c2f c3f f0f f1f f2f f3f
        replace B_r := Lib.hid (BoxR.below B_r.out bb B_r.out.lt)
        replace B_f := Lib.hid (BoxR.below B_f.out bb B_f.out.lt)
        replace B_a := Lib.hid (BoxR.below B_a.out bb B_a.out.lt)
        replace V_f := Lib.hid (Gc.below V_f.out bb)
        replace V_a := Lib.hid (Gc.below V_a.out bb)
        replace HB := Lib.hid (nextw HB.out bb)
        clear bb
        have e1 := cpw_pr HNE.out E E
        replace rq := rq.of_eq e1.1 e1.2
        clear e1
        obtain ⟨sq, Aq, kq, cq, tq, Cq, lq, dq, rfl⟩ := rq.shape
        have V_q := Lib.hid rq
        clear rq V_a
        have c0a := B_a.out.c0
        have c1a := B_a.out.c1
        have c2a := B_a.out.c2
        have c3a := B_a.out.c3
        have f0a := B_a.out.f0
        have f1a := B_a.out.f1
        have f2a := B_a.out.f2
        have f3a := B_a.out.f3
        have c0f := B_f.out.c0
        have c1f := B_f.out.c1
        have c2f := B_f.out.c2
        have c3f := B_f.out.c3
        have f0f := B_f.out.f0
        have f1f := B_f.out.f1
        have f2f := B_f.out.f2
        have f3f := B_f.out.f3
        have bS := BoxR.store B_a.out sq (.slice Aq kq cq) tq (.slice Cq lq dq)
        have s0 := bS.c0
        have s1 := bS.c1
        have s2 := bS.c2
        have s3 := bS.c3
        have s4 := bS.f0
        have s5 := bS.f1
        have s6 := bS.f2
        have s7 := bS.f3
        have bF := BoxR.far4 (y := w3.heap.size) B_f.out (by have := HZ.out.2; omega) (.bool sq) (.slice Aq kq cq) (.bool tq) (.slice Cq lq dq)
        have g0 := bF.c0
        have g1 := bF.c1
        have g2 := bF.c2
        have g3 := bF.c3
        clear bS bF
        simp only [st4] at s0 s1 s2 s3 s4 s5 s6 s7 g0 g1 g2 g3
        go_wp2_with fail
        clear s0 s1 s2 s3 s4 s5 s6 s7 g0 g1 g2 g3
        have hza := HZ.out.1
        have hfa := HZ.out.2
        clear c0a c1a c2a c3a f0a f1a f2a f3a c0f c1f c2f c3f f0f f1f f2f f3f
        replace V_f := Lib.hid (BoxR.keepsGc B_a.out V_f.out (.bool sq) (.slice Aq kq cq) (.bool tq) (.slice Cq lq dq))
        replace V_q := Lib.hid (BoxR.keepsGc B_a.out V_q.out (.bool sq) (.slice Aq kq cq) (.bool tq) (.slice Cq lq dq))
        replace B_r := Lib.hid (BoxR.far4 (y := w3.heap.size) B_r.out (by omega) (.bool sq) (.slice Aq kq cq) (.bool tq) (.slice Cq lq dq))
        replace B_f := Lib.hid (BoxR.far4 (y := w3.heap.size) B_f.out (by omega) (.bool sq) (.slice Aq kq cq) (.bool tq) (.slice Cq lq dq))
        replace HB := Lib.hid (Below.store4 HB.out (y := w3.heap.size) (by omega) (.bool sq) (.slice Aq kq cq) (.bool tq) (.slice Cq lq dq))
        replace B_a := Lib.hid (BoxR.store B_a.out sq (.slice Aq kq cq) tq (.slice Cq lq dq))
        simp only [st4] at V_f V_q B_r B_f B_a HB
        generalize (((w4.setCell ⟨w3.heap.size, 0, none⟩ (.bool sq)).setCell ⟨w3.heap.size, 1, none⟩ (.slice Aq kq cq)).setCell ⟨w3.heap.size, 2, none⟩ (.bool tq)).setCell ⟨w3.heap.size, 3, none⟩ (.slice Cq lq dq) = W3 at *
        clear hza hfa
        go_roundw
        case rel => exact ⟨i + 1, _, _, _, _, _, _, _, _, _, by omega, (by rw [HT.out.2.2.2.1]; omega), by rw [HB2.out.1, Int.natCast_ediv]; rfl, B_a.out, (V_q.out.of_eq (by rw [HT.out.2.2.2.2.2.1, HE.out]) (by rw [HT.out.2.2.2.2.2.1, HE.out])), B_f.out, V_f.out, B_r.out, HB.out⟩
        case measure => simp only [RowKit.intOf]; omega
    · obtain rfl : i = 7 := by omega
      have c0a := B_a.out.c0
      have c1a := B_a.out.c1
      have c2a := B_a.out.c2
      have c3a := B_a.out.c3
      have f0a := B_a.out.f0
      have f1a := B_a.out.f1
      have f2a := B_a.out.f2
      have f3a := B_a.out.f3
      have c0r := B_r.out.c0
      have c1r := B_r.out.c1
      have c2r := B_r.out.c2
      have c3r := B_r.out.c3
      have f0r := B_r.out.f0
      have f1r := B_r.out.f1
      have f2r := B_r.out.f2
      have f3r := B_r.out.f3
      rw [show ((64 / 2 ^ 7 : Nat) : Int) = 0 by decide]
      go_wp2_with fail
      refine (Norm_r (Gc.fd (Gc.below V_a.out (by exact ⟨rfl, rfl, rfl, Nat.le_refl _, fun _ _ => rfl⟩))) (by omega)).mono ?_
      rintro e w4 ⟨vz, rfl, rz, bb⟩
      replace bb := nextw (w0 := wr) (by exact ⟨rfl, rfl, rfl, Nat.le_refl _, fun _ _ => rfl⟩) bb
      clear c0a c1a c2a c3a f0a f1a f2a f3a c0r c1r c2r c3r f0r f1r f2r f3r
      replace B_r := Lib.hid (BoxR.below B_r.out bb B_r.out.lt)
      replace B_f := Lib.hid (BoxR.below B_f.out bb B_f.out.lt)
      replace B_a := Lib.hid (BoxR.below B_a.out bb B_a.out.lt)
      replace V_f := Lib.hid (Gc.below V_f.out bb)
      replace V_a := Lib.hid (Gc.below V_a.out bb)
      replace HB := Lib.hid (nextw HB.out bb)
      clear bb
      obtain ⟨sz, Az, kz, cz, tz, Cz, lz, dz, rfl⟩ := rz.shape
      have V_z := Lib.hid rz
      clear rz
      skip
      have K_z := V_z
      replace K_z := Lib.hid (BoxR.keepsGc B_r.out K_z.out (.bool sz) (.slice Az kz cz) (.bool tz) (.slice Cz lz dz))
      have HB1 := Lib.hid (Below.store4 HB.out (y := w.heap.size + 1) (by omega) (.bool sz) (.slice Az kz cz) (.bool tz) (.slice Cz lz dz))
      have N0r := Lib.hid (BoxR.store B_r.out sz (.slice Az kz cz) tz (.slice Cz lz dz))
      have s0r := N0r.out.c0
      have s1r := N0r.out.c1
      have s2r := N0r.out.c2
      have s3r := N0r.out.c3
      simp only [st4] at s0r s1r s2r s3r
      have HBF := HB1
      have c0r := B_r.out.c0
      have c1r := B_r.out.c1
      have c2r := B_r.out.c2
      have c3r := B_r.out.c3
      have f0r := B_r.out.f0
      have f1r := B_r.out.f1
      have f2r := B_r.out.f2
      have f3r := B_r.out.f3
      go_wp2_with fail
      exact bodyPost_ret (v := .tuple #[.agg #[.bool sz, (.slice Az kz cz), .bool tz, (.slice Cz lz dz)], .int .i64 0]) (by simp [results, Tryz.results37, go_sem, s0r, s1r, s2r, s3r]) rfl ⟨_, rfl, (((Gc.below K_z.out (by exact ⟨rfl, rfl, rfl, Nat.le_refl _, fun _ _ => rfl⟩)).more (by omega)).of_eq (by rw [HP.out, HQ.out]; simp only [Nat.sub_self, Nat.pow_zero, Nat.div_one]; rw [hN]) (by rw [HP.out, HQ.out]; simp only [Nat.sub_self, Nat.pow_zero, Nat.div_one]; rw [hN])), (nextw HBF.out (by exact ⟨rfl, rfl, rfl, Nat.le_refl _, fun _ _ => rfl⟩))⟩

theorem Power_r {v : Value} {p q : Int} {k : Nat} {w : World} (n : Int) (h : Fd w v p q k) (f : k ≤ 10) (n1 : -64 ≤ n) (n2 : n ≤ 64) :
    Calls Tryz.prog 37 #[v, .int .i64 n] w fun e w' => ∃ v', e = .returned (.tuple #[v', .int .i64 0]) ∧ Gc w' v' (pwP p q n) (pwQ p q n) 4000 ∧ Below w.heap.size w w' := by
  unfold pwP pwQ
  by_cases g : n < 0
  · simp only [if_pos g]
    exact Power_neg n h f g n1
  · simp only [if_neg g]
    exact Power_pos n h f (by omega) n2
end Go.Proofs.YtccndofafljaaaaGreatDoor
