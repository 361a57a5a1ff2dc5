/- the reference's Support. -/
import Derived.Test.YtpjbkadhmjlpfaaZ36
set_option linter.unusedVariables false
set_option linter.unusedSimpArgs false
namespace Go.Proofs.Ytpjbkadhmjlpfaa
open Go Go.RowKit Hd

theorem ret_i {a b : Int} (h : a = b) : Ending.returned (.int .i64 a) = .returned (.int .i64 b) := by rw [h]
/-- The support as the reference answers. -/
def supX (x y : Int) (l : List P2) (a b : Int) : Int := if OkZ x y l ∧ Wi a 65536 ∧ Wi b 65536 then dt a b x y + spr l a b else 0
theorem nd_bd {a b : Int} {p : P2} (ha : Wi a 65536 ∧ Wi b 65536) (hp : Wi p.1 33554432 ∧ Wi p.2 33554432) : Wi (nd (a, b) p) 4398046511104 := by
  obtain ⟨c1, c2⟩ := wi_mul ha.1 hp.1
  obtain ⟨d1, d2⟩ := wi_mul ha.2 hp.2
  unfold nd dt
  exact ⟨by dsimp only; omega, by dsimp only; omega⟩
theorem mxl_bd {a b : Int} {cl : List P2} (h : ∀ p ∈ cl, Wi p.1 33554432 ∧ Wi p.2 33554432) (h0 : 0 < cl.length) (k : Nat) (hk : k ≤ cl.length) (ha : Wi a 65536 ∧ Wi b 65536) : Wi (mxl (a, b) cl k) 4398046511104 := by
  induction k with
  | zero => exact nd_bd ha (h _ (getD_mem h0))
  | succ k ih =>
    have h1 := ih (by omega)
    have h2 := nd_bd ha (h _ (getD_mem (z := z2) (show k < cl.length by omega)))
    unfold mxl
    split
    · exact h2
    · exact h1

set_option maxRecDepth 100000 in
set_option maxHeartbeats 4000000 in
theorem RSup_is (x y a b : Int) (A : Option Addr) (n c : Nat) (l : List P2)  (hn : n ≤ 200) (w : World) {lo_L hi_L : Nat} (L : PL w lo_L hi_L A n c l) :
    Calls Try.prog 35 #[.agg #[.int .i64 x, .int .i64 y, .slice A n c], .agg #[.int .i64 a, .int .i64 b]] w fun e w' => e = .returned (.int .i64 (supX x y l a b)) ∧ Below w.heap.size w w' := by
  have hiL_L : hi_L ≤ w.heap.size := L.top
  replace L := Lib.hid L
  by_cases dd0 : OkZ x y l
  · skip
    by_cases dd1 : Wi a 65536
    · skip
      have dd1a := dd1.1
      have dd1b := dd1.2
      by_cases dd2 : Wi b 65536
      · skip
        have dd2a := dd2.1
        have dd2b := dd2.2
        have H1 := Lib.hid (fun w => Rwithin_is a 65536 (by omega) w)
        have H2 := Lib.hid (fun w => Rwithin_is b 65536 (by omega) w)
        obtain ⟨cl3, hcl3⟩ : ∃ m, cornL (x, y) (canL l) = m := ⟨_, rfl⟩
        have HQ3 := Lib.hid hcl3
        have HLB3 : Hid (∀ p ∈ cl3, Wi p.1 33554432 ∧ Wi p.2 33554432) := by rw [← hcl3]; exact corn_all (M := 16777216) (S := 16777216) (okz_x dd0) (okz_y dd0) (okz_cs dd0)
        have hlencl3 : cl3.length ≤ 1000 := by rw [← hcl3]; exact corn_16 _ (Nat.le_trans (okz_cl dd0) (by decide))
        have hposcl3 : 0 < cl3.length := by rw [← hcl3, corn_len]; omega
        have HCC3 := Lib.hid (fun (w : World) (lo hi : Nat) (M : PL w lo hi A n c l) => RCorners_w0 x y A n c l (by omega) dd0 w M)
        rw [hcl3] at HCC3
        clear hcl3
        obtain ⟨HB, B_z0, B_z1⟩ := box2 w 24 #[.int .i64 x, .int .i64 y, .slice A n c] 39 #[.int .i64 a, .int .i64 b]
        replace L := Lib.hid (PL.below L.out HB.out)
        go_enter Try.func35, Try.ntmps35
        go_upto_region 1 with (fail)
        generalize (w.alloc (.cells #[.int .i64 x, .int .i64 y, .slice A n c] 24)).alloc (.cells #[.int .i64 a, .int .i64 b] 39) = W0 at *
        obtain ⟨c0z0, c1z0, c2z0⟩ := cells3 B_z0
        go_wp2_with fail
        refine (RValid_yes dd0 (by omega) _ (PL.below L.out (by exact sm))).mono ?_
        clear c0z0 c1z0 c2z0
        rintro e w1 ⟨rfl, bb⟩
        replace bb := nextw (w0 := W0) (by exact sm) bb
        replace B_z0 := mv B_z0 bb
        replace B_z1 := mv B_z1 bb
        replace L := Lib.hid (PL.below L.out bb)
        replace HB := nx HB bb
        clear bb
        obtain ⟨c0z1, c1z1⟩ := cells2 B_z1
        go_wp2_with fail
        refine (H1.out _).mono ?_
        clear c0z1 c1z1
        rintro e w2 ⟨rfl, bb⟩
        replace bb := nextw (w0 := w1) (by exact sm) bb
        replace B_z0 := mv B_z0 bb
        replace B_z1 := mv B_z1 bb
        replace L := Lib.hid (PL.below L.out bb)
        replace HB := nx HB bb
        clear bb
        obtain ⟨c0z1, c1z1⟩ := cells2 B_z1
        go_wp2_with fail
        refine (H2.out _).mono ?_
        clear c0z1 c1z1
        rintro e w3 ⟨rfl, bb⟩
        replace bb := nextw (w0 := w2) (by exact sm) bb
        replace B_z0 := mv B_z0 bb
        replace B_z1 := mv B_z1 bb
        replace L := Lib.hid (PL.below L.out bb)
        replace HB := nx HB bb
        clear bb
        obtain ⟨c0z0, c1z0, c2z0⟩ := cells3 B_z0
        have sp_z0_LC3 : Hid (w.heap.size < w3.heap.size) := B_z0.out.lt
        have sp_z1_LC3 : Hid (w.heap.size + 1 < w3.heap.size) := B_z1.out.lt
        have lw_LC3 : Hid (w.heap.size ≤ w3.heap.size) := HB.out.size
        go_wp2_with fail
        refine (HCC3.out _ _ _ (PL.below L.out (by exact sm))).mono ?_
        clear c0z0 c1z0 c2z0
        rintro e w4 ⟨AC3, cC3, rfl, LC3, bb⟩
        replace bb := nextw (w0 := w3) (by exact sm) bb
        replace B_z0 := mv B_z0 bb
        replace B_z1 := mv B_z1 bb
        replace L := Lib.hid (PL.below L.out bb)
        replace HB := nx HB bb
        clear bb
        replace LC3 := Lib.hid LC3
        obtain ⟨lo_LC3, hi_LC3, hlo_LC3, hhi_LC3, LC3⟩ : ∃ lo hi, w3.heap.size ≤ lo ∧ hi ≤ w4.heap.size ∧ Hid (PL w4 lo hi AC3 cl3.length cC3 cl3) := ⟨_, _, Nat.le_refl _, Nat.le_refl _, LC3⟩
        have hb_z0_LC3 : w.heap.size < lo_LC3 := by have := sp_z0_LC3.out; omega
        have hb_z1_LC3 : w.heap.size + 1 < lo_LC3 := by have := sp_z1_LC3.out; omega
        have hw_LC3 : w.heap.size ≤ lo_LC3 := by have := lw_LC3.out; omega
        have hlq0LC3 : 0 < cl3.length := by omega
        obtain ⟨g_LC3, o_LC3, eA_LC3, -, -, -⟩ := LC3.out.elem hlq0LC3
        subst eA_LC3
        obtain ⟨⟨x_q0LC3, y_q0LC3⟩, hpq0LC3⟩ : ∃ q, cl3.getD 0 z2 = q := ⟨_, rfl⟩
        have HPq0LC3 := Lib.hid hpq0LC3
        have HLq0LC3 := Lib.hid hlq0LC3
        have hmq0LC3 : (x_q0LC3, y_q0LC3) ∈ cl3 := by rw [← hpq0LC3]; exact getD_mem (by have := LC3.out.len; omega)
        clear hpq0LC3 hlq0LC3
        have bdq0LC3 := HLB3.out _ hmq0LC3
        have bd1q0LC3 := bdq0LC3.1.1
        have bd2q0LC3 := bdq0LC3.1.2
        have bd3q0LC3 := bdq0LC3.2.1
        have bd4q0LC3 := bdq0LC3.2.2
        dsimp only at bd1q0LC3 bd2q0LC3 bd3q0LC3 bd4q0LC3
        clear bdq0LC3
        obtain ⟨mb0q0LC3a, mb0q0LC3b⟩ := @wi_mul a x_q0LC3 65536 33554432 ⟨by omega, by omega⟩ ⟨by omega, by omega⟩
        obtain ⟨mb1q0LC3a, mb1q0LC3b⟩ := @wi_mul b y_q0LC3 65536 33554432 ⟨by omega, by omega⟩ ⟨by omega, by omega⟩
        go_upto_region 4 with (fail)
        have wq4x0 : IntKind.i64.wrap (a * x_q0LC3) = a * x_q0LC3 := by rw [IntKind.wrap_i64]; omega
        have wq4x1 : IntKind.i64.wrap (b * y_q0LC3) = b * y_q0LC3 := by rw [IntKind.wrap_i64]; omega
        have wq4x2 : IntKind.i64.wrap ((a * x_q0LC3) + (b * y_q0LC3)) = (a * x_q0LC3) + (b * y_q0LC3) := by rw [IntKind.wrap_i64]; omega
        obtain ⟨c0z1, c1z1⟩ := cells2 B_z1
        have e0q0LC3 : w4.cell? ⟨g_LC3, o_LC3, none⟩ = some (.int .i64 x_q0LC3) := by have h := (PL.el LC3.out HLq0LC3.out HPq0LC3.out).1; simpa using h
        have e1q0LC3 : w4.cell? ⟨g_LC3, o_LC3 + 1, none⟩ = some (.int .i64 y_q0LC3) := by have h := (PL.el LC3.out HLq0LC3.out HPq0LC3.out).2; simpa using h
        go_quiet (fail)
        clear c0z1 c1z1 e0q0LC3 e1q0LC3
        have bb : Below w4.heap.size w4 (w4.drewN nq) := bel_drewN (Below.refl _ _) _
        generalize w4.drewN nq = w5q at *
        replace B_z0 := mv B_z0 bb
        replace B_z1 := mv B_z1 bb
        replace L := Lib.hid (PL.below L.out bb)
        replace LC3 := Lib.hid (PL.below LC3.out bb)
        replace HB := nx HB bb
        clear bb
        go_wp2_with fail
        go_loopw [6, 7] (fun a0 kk wx => ∃ (k : Nat), k ≤ cl3.length ∧ kk = .int .i64 k ∧ a0 = (.int .i64 (mxl (a, b) cl3 k)) ∧ Hid (PL wx lo_L hi_L A n c l) ∧ Hid (PL wx lo_LC3 hi_LC3 (some ⟨g_LC3, o_LC3, none⟩) cl3.length cC3 cl3) ∧ Hid (Bx wx (w.heap.size) 24 #[.int .i64 x, .int .i64 y, .slice A n c]) ∧ Hid (Bx wx (w.heap.size + 1) 39 #[.int .i64 a, .int .i64 b]) ∧ Hid (Below w.heap.size w wx)) (fun _ kk _ => cl3.length - (intOf kk).toNat)
        case atStart => exact ⟨0, by omega, rfl, (by rw [show (a * x_q0LC3 + b * y_q0LC3) = nd (a, b) (cl3.getD 0 z2) from by rw [HPq0LC3.out]; rfl]; rfl), L, LC3, B_z0, B_z1, HB⟩
        case round =>
          clear L LC3 B_z0 B_z1 HB
          obtain ⟨k, hk, rfl, rfl, L, LC3, B_z0, B_z1, HB⟩ := hrel
          by_cases hlt : k < cl3.length
          · skip
            have hlq1LC3 : k < cl3.length := hlt
            obtain ⟨⟨x_q1LC3, y_q1LC3⟩, hpq1LC3⟩ : ∃ q, cl3.getD k z2 = q := ⟨_, rfl⟩
            have HPq1LC3 := Lib.hid hpq1LC3
            have HLq1LC3 := Lib.hid hlq1LC3
            have hmq1LC3 : (x_q1LC3, y_q1LC3) ∈ cl3 := by rw [← hpq1LC3]; exact getD_mem (by have := LC3.out.len; omega)
            clear hpq1LC3 hlq1LC3
            have bdq1LC3 := HLB3.out _ hmq1LC3
            have bd1q1LC3 := bdq1LC3.1.1
            have bd2q1LC3 := bdq1LC3.1.2
            have bd3q1LC3 := bdq1LC3.2.1
            have bd4q1LC3 := bdq1LC3.2.2
            dsimp only at bd1q1LC3 bd2q1LC3 bd3q1LC3 bd4q1LC3
            clear bdq1LC3
            obtain ⟨mb0q1LC3a, mb0q1LC3b⟩ := @wi_mul a x_q1LC3 65536 33554432 ⟨by omega, by omega⟩ ⟨by omega, by omega⟩
            obtain ⟨mb1q1LC3a, mb1q1LC3b⟩ := @wi_mul b y_q1LC3 65536 33554432 ⟨by omega, by omega⟩ ⟨by omega, by omega⟩
            have hsb := mxl_bd HLB3.out hposcl3 k (by omega) (show Wi a 65536 ∧ Wi b 65536 from ⟨⟨by omega, by omega⟩, by omega, by omega⟩)
            have HMX : Hid (mxl (a, b) cl3 (k + 1) = if mxl (a, b) cl3 k < (a * x_q1LC3 + b * y_q1LC3) then (a * x_q1LC3 + b * y_q1LC3) else mxl (a, b) cl3 k) := by unfold Hid; rw [show (a * x_q1LC3 + b * y_q1LC3) = nd (a, b) (cl3.getD k z2) from by rw [HPq1LC3.out]; rfl]; rfl
            generalize mxl (a, b) cl3 k = M0 at *
            obtain ⟨hsb1, hsb2⟩ := hsb
            obtain ⟨MX0, mx0⟩ : ∃ m, (if M0 < ((a * x_q1LC3) + (b * y_q1LC3)) then ((a * x_q1LC3) + (b * y_q1LC3)) else M0) = m := ⟨_, rfl⟩
            replace mx0 := Lib.hid mx0
            have mxo0 := mx0.out
            go_upto_region 8 with (fail)
            have wq8x0 : IntKind.i64.wrap (a * x_q1LC3) = a * x_q1LC3 := by rw [IntKind.wrap_i64]; omega
            have wq8x1 : IntKind.i64.wrap (b * y_q1LC3) = b * y_q1LC3 := by rw [IntKind.wrap_i64]; omega
            have wq8x2 : IntKind.i64.wrap ((a * x_q1LC3) + (b * y_q1LC3)) = (a * x_q1LC3) + (b * y_q1LC3) := by rw [IntKind.wrap_i64]; omega
            obtain ⟨c0z1, c1z1⟩ := cells2 B_z1
            have e0q1LC3 : wr.cell? ⟨g_LC3, o_LC3 + k * 2, none⟩ = some (.int .i64 x_q1LC3) := (PL.el LC3.out HLq1LC3.out HPq1LC3.out).1
            have e1q1LC3 : wr.cell? ⟨g_LC3, o_LC3 + k * 2 + 1, none⟩ = some (.int .i64 y_q1LC3) := (PL.el LC3.out HLq1LC3.out HPq1LC3.out).2
            go_quiet (fail)
            clear c0z1 c1z1 e0q1LC3 e1q1LC3
            have bb : Below wr.heap.size wr (wr.drewN nq) := bel_drewN (Below.refl _ _) _
            generalize wr.drewN nq = w6q at *
            replace B_z0 := mv B_z0 bb
            replace B_z1 := mv B_z1 bb
            replace L := Lib.hid (PL.below L.out bb)
            replace LC3 := Lib.hid (PL.below LC3.out bb)
            replace HB := nx HB bb
            clear bb
            clear mxo0
            have HFM : Hid (max M0 (a * x_q1LC3 + b * y_q1LC3) = mxl (a, b) cl3 (k + 1)) := by unfold Hid; rw [HMX.out, Int.max_def]; split <;> split <;> omega
            go_wp2_with fail
            go_roundw
            case rel => exact ⟨k + 1, by omega, by go_num, by rw [HFM.out], L, LC3, B_z0, B_z1, HB⟩
            case measure => simp only [intOf]; omega
          · skip
            have hkn : cl3.length = k := by omega
            subst hkn
            have HE : Hid (mxl (a, b) cl3 cl3.length = supX x y l a b) := by unfold Hid supX; rw [if_pos ⟨dd0, dd1, dd2⟩, ← HQ3.out, sup_corn _ _ (canL_ss l), spr_can]; rfl
            go_wp2
            go_ret
            exact ⟨ret_i HE.out, nextw HB.out (by exact sm)⟩
      · skip
        have H5 := Lib.hid (fun w => Rwithin_is a 65536 (by omega) w)
        have H6 := Lib.hid (fun w => Rwithin_is b 65536 (by omega) w)
        obtain ⟨HB, B_z0, B_z1⟩ := box2 w 24 #[.int .i64 x, .int .i64 y, .slice A n c] 39 #[.int .i64 a, .int .i64 b]
        replace L := Lib.hid (PL.below L.out HB.out)
        go_enter Try.func35, Try.ntmps35
        go_upto_region 1 with (fail)
        generalize (w.alloc (.cells #[.int .i64 x, .int .i64 y, .slice A n c] 24)).alloc (.cells #[.int .i64 a, .int .i64 b] 39) = W0 at *
        obtain ⟨c0z0, c1z0, c2z0⟩ := cells3 B_z0
        go_wp2_with fail
        refine (RValid_yes dd0 (by omega) _ (PL.below L.out (by exact sm))).mono ?_
        clear c0z0 c1z0 c2z0
        rintro e w7 ⟨rfl, bb⟩
        replace bb := nextw (w0 := W0) (by exact sm) bb
        replace B_z0 := mv B_z0 bb
        replace B_z1 := mv B_z1 bb
        replace L := Lib.hid (PL.below L.out bb)
        replace HB := nx HB bb
        clear bb
        obtain ⟨c0z1, c1z1⟩ := cells2 B_z1
        go_wp2_with fail
        refine (H5.out _).mono ?_
        clear c0z1 c1z1
        rintro e w8 ⟨rfl, bb⟩
        replace bb := nextw (w0 := w7) (by exact sm) bb
        replace B_z0 := mv B_z0 bb
        replace B_z1 := mv B_z1 bb
        replace L := Lib.hid (PL.below L.out bb)
        replace HB := nx HB bb
        clear bb
        obtain ⟨c0z1, c1z1⟩ := cells2 B_z1
        go_wp2_with fail
        refine (H6.out _).mono ?_
        clear c0z1 c1z1
        rintro e w9 ⟨rfl, bb⟩
        replace bb := nextw (w0 := w8) (by exact sm) bb
        replace B_z0 := mv B_z0 bb
        replace B_z1 := mv B_z1 bb
        replace L := Lib.hid (PL.below L.out bb)
        replace HB := nx HB bb
        clear bb
        have HE : Hid (supX x y l a b = 0) := if_neg (fun h => dd2 h.2.2)
        go_wp2
        go_ret
        exact ⟨ret_i HE.out.symm, nextw HB.out (by exact sm)⟩
    · skip
      have H8 := Lib.hid (fun w => Rwithin_is a 65536 (by omega) w)
      obtain ⟨HB, B_z0, B_z1⟩ := box2 w 24 #[.int .i64 x, .int .i64 y, .slice A n c] 39 #[.int .i64 a, .int .i64 b]
      replace L := Lib.hid (PL.below L.out HB.out)
      go_enter Try.func35, Try.ntmps35
      go_upto_region 1 with (fail)
      generalize (w.alloc (.cells #[.int .i64 x, .int .i64 y, .slice A n c] 24)).alloc (.cells #[.int .i64 a, .int .i64 b] 39) = W0 at *
      obtain ⟨c0z0, c1z0, c2z0⟩ := cells3 B_z0
      go_wp2_with fail
      refine (RValid_yes dd0 (by omega) _ (PL.below L.out (by exact sm))).mono ?_
      clear c0z0 c1z0 c2z0
      rintro e w10 ⟨rfl, bb⟩
      replace bb := nextw (w0 := W0) (by exact sm) bb
      replace B_z0 := mv B_z0 bb
      replace B_z1 := mv B_z1 bb
      replace L := Lib.hid (PL.below L.out bb)
      replace HB := nx HB bb
      clear bb
      obtain ⟨c0z1, c1z1⟩ := cells2 B_z1
      go_wp2_with fail
      refine (H8.out _).mono ?_
      clear c0z1 c1z1
      rintro e w11 ⟨rfl, bb⟩
      replace bb := nextw (w0 := w10) (by exact sm) bb
      replace B_z0 := mv B_z0 bb
      replace B_z1 := mv B_z1 bb
      replace L := Lib.hid (PL.below L.out bb)
      replace HB := nx HB bb
      clear bb
      have HE : Hid (supX x y l a b = 0) := if_neg (fun h => dd1 h.2.1)
      go_wp2
      go_ret
      exact ⟨ret_i HE.out.symm, nextw HB.out (by exact sm)⟩
  · skip
    obtain ⟨HB, B_z0, B_z1⟩ := box2 w 24 #[.int .i64 x, .int .i64 y, .slice A n c] 39 #[.int .i64 a, .int .i64 b]
    replace L := Lib.hid (PL.below L.out HB.out)
    go_enter Try.func35, Try.ntmps35
    go_upto_region 1 with (fail)
    generalize (w.alloc (.cells #[.int .i64 x, .int .i64 y, .slice A n c] 24)).alloc (.cells #[.int .i64 a, .int .i64 b] 39) = W0 at *
    obtain ⟨c0z0, c1z0, c2z0⟩ := cells3 B_z0
    go_wp2_with fail
    refine (RValid_no dd0 (by omega) _ (PL.below L.out (by exact sm))).mono ?_
    clear c0z0 c1z0 c2z0
    rintro e w12 ⟨rfl, bb⟩
    replace bb := nextw (w0 := W0) (by exact sm) bb
    replace B_z0 := mv B_z0 bb
    replace B_z1 := mv B_z1 bb
    replace L := Lib.hid (PL.below L.out bb)
    replace HB := nx HB bb
    clear bb
    have HE : Hid (supX x y l a b = 0) := if_neg (fun h => dd0 h.1)
    go_wp2
    go_ret
    exact ⟨ret_i HE.out.symm, nextw HB.out (by exact sm)⟩
end Go.Proofs.Ytpjbkadhmjlpfaa
