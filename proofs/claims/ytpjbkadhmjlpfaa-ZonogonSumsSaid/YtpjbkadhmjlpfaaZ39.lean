/- the reference's Same. -/
import Derived.Test.YtpjbkadhmjlpfaaZ38
set_option linter.unusedVariables false
set_option linter.unusedSimpArgs false
namespace Go.Proofs.Ytpjbkadhmjlpfaa
open Go Go.RowKit Hd

/-- Both are valid and have the same corners. -/
def SameC (x y : Int) (l : List P2) (u v : Int) (l2 : List P2) : Prop := OkZ x y l ∧ OkZ u v l2 ∧ cornL (x, y) (canL l) = cornL (u, v) (canL l2)
instance (x y : Int) (l : List P2) (u v : Int) (l2 : List P2) : Decidable (SameC x y l u v l2) := inferInstanceAs (Decidable (_ ∧ _ ∧ _))
theorem sameC_iff (x y : Int) (l : List P2) (u v : Int) (l2 : List P2) : SameC x y l u v l2 ↔ OkZ x y l ∧ OkZ u v l2 ∧ x = u ∧ y = v ∧ canL l = canL l2 := by
  constructor
  · rintro ⟨h1, h2, h3⟩
    obtain ⟨a, b⟩ := corn_inj h3
    injection a with a1 a2
    exact ⟨h1, h2, a1, a2, b⟩
  · rintro ⟨h1, h2, rfl, rfl, b⟩
    exact ⟨h1, h2, by rw [b]⟩

set_option maxRecDepth 100000 in
set_option maxHeartbeats 4000000 in
theorem RSame_is (x y u v : Int) (A : Option Addr) (n c : Nat) (l : List P2) (A2 : Option Addr) (n2 c2 : Nat) (l2 : List P2)  (hn : n ≤ 200) (hn2 : n2 ≤ 200) (w : World) {lo_L hi_L : Nat} (L : PL w lo_L hi_L A n c l) {lo_L2 hi_L2 : Nat} (L2 : PL w lo_L2 hi_L2 A2 n2 c2 l2) :
    Calls Try.prog 39 #[.agg #[.int .i64 x, .int .i64 y, .slice A n c], .agg #[.int .i64 u, .int .i64 v, .slice A2 n2 c2]] w fun e w' => e = .returned (.bool (decide (SameC x y l u v l2))) ∧ Below w.heap.size w w' := by
  have hiL_L : hi_L ≤ w.heap.size := L.top
  replace L := Lib.hid L
  have hiL_L2 : hi_L2 ≤ w.heap.size := L2.top
  replace L2 := Lib.hid L2
  by_cases dd0 : OkZ x y l
  · skip
    obtain ⟨cl0, hcl0⟩ : ∃ m, cornL (x, y) (canL l) = m := ⟨_, rfl⟩
    have HQ0 := Lib.hid hcl0
    have HLB0 : Hid (∀ p ∈ cl0, Wi p.1 33554432 ∧ Wi p.2 33554432) := by rw [← hcl0]; exact corn_all (M := 16777216) (S := 16777216) (okz_x dd0) (okz_y dd0) (okz_cs dd0)
    have hlencl0 : cl0.length ≤ 1000 := by rw [← hcl0]; exact corn_16 _ (Nat.le_trans (okz_cl dd0) (by decide))
    have hposcl0 : 0 < cl0.length := by rw [← hcl0, corn_len]; omega
    have HCC0 := Lib.hid (fun (w : World) (lo hi : Nat) (M : PL w lo hi A n c l) => RCorners_w0 x y A n c l (by omega) dd0 w M)
    rw [hcl0] at HCC0
    have hnecl0 : ¬ (cl0 = []) := by intro e; rw [e] at hposcl0; simp at hposcl0
    have hne2cl0 : ¬ ([] = cl0) := fun e => hnecl0 e.symm
    clear hcl0
    by_cases dd1 : OkZ u v l2
    · skip
      obtain ⟨cl1, hcl1⟩ : ∃ m, cornL (u, v) (canL l2) = m := ⟨_, rfl⟩
      have HQ1 := Lib.hid hcl1
      have HLB1 : Hid (∀ p ∈ cl1, Wi p.1 33554432 ∧ Wi p.2 33554432) := by rw [← hcl1]; exact corn_all (M := 16777216) (S := 16777216) (okz_x dd1) (okz_y dd1) (okz_cs dd1)
      have hlencl1 : cl1.length ≤ 1000 := by rw [← hcl1]; exact corn_16 _ (Nat.le_trans (okz_cl dd1) (by decide))
      have hposcl1 : 0 < cl1.length := by rw [← hcl1, corn_len]; omega
      have HCC1 := Lib.hid (fun (w : World) (lo hi : Nat) (M : PL w lo hi A2 n2 c2 l2) => RCorners_w0 u v A2 n2 c2 l2 (by omega) dd1 w M)
      rw [hcl1] at HCC1
      have hnecl1 : ¬ (cl1 = []) := by intro e; rw [e] at hposcl1; simp at hposcl1
      have hne2cl1 : ¬ ([] = cl1) := fun e => hnecl1 e.symm
      clear hcl1
      by_cases dd2 : ((cl0.length : Nat) : Int) = ((cl1.length : Nat) : Int)
      · skip
        have hle1 : cl0.length ≤ cl1.length := by omega
        have hle2 : cl1.length ≤ cl0.length := by omega
        by_cases dd3 : ((cl0.length : Nat) : Int) = 0
        · skip
          exfalso; omega
        · skip
          replace dd2 := Lib.hid dd2
          obtain ⟨HB, B_z0, B_z1⟩ := box2 w 24 #[.int .i64 x, .int .i64 y, .slice A n c] 24 #[.int .i64 u, .int .i64 v, .slice A2 n2 c2]
          replace L := Lib.hid (PL.below L.out HB.out)
          replace L2 := Lib.hid (PL.below L2.out HB.out)
          go_enter Try.func39, Try.ntmps39
          go_upto_region 1 with (fail)
          generalize (w.alloc (.cells #[.int .i64 x, .int .i64 y, .slice A n c] 24)).alloc (.cells #[.int .i64 u, .int .i64 v, .slice A2 n2 c2] 24) = W0 at *
          obtain ⟨c0z0, c1z0, c2z0⟩ := cells3 B_z0
          have sp_z0_LC0 : Hid (w.heap.size < W0.heap.size) := B_z0.out.lt
          have sp_z1_LC0 : Hid (w.heap.size + 1 < W0.heap.size) := B_z1.out.lt
          have lw_LC0 : Hid (w.heap.size ≤ W0.heap.size) := HB.out.size
          go_wp2_with fail
          refine (HCC0.out _ _ _ (PL.below L.out (by exact sm))).mono ?_
          clear c0z0 c1z0 c2z0
          rintro e w1 ⟨AC0, cC0, rfl, LC0, bb⟩
          replace bb := nextw (w0 := W0) (by exact sm) bb
          replace B_z0 := mv B_z0 bb
          replace B_z1 := mv B_z1 bb
          replace L := Lib.hid (PL.below L.out bb)
          replace L2 := Lib.hid (PL.below L2.out bb)
          replace HB := nx HB bb
          clear bb
          replace LC0 := Lib.hid LC0
          obtain ⟨lo_LC0, hi_LC0, hlo_LC0, hhi_LC0, LC0⟩ : ∃ lo hi, W0.heap.size ≤ lo ∧ hi ≤ w1.heap.size ∧ Hid (PL w1 lo hi AC0 cl0.length cC0 cl0) := ⟨_, _, Nat.le_refl _, Nat.le_refl _, LC0⟩
          have hb_z0_LC0 : w.heap.size < lo_LC0 := by have := sp_z0_LC0.out; omega
          have hb_z1_LC0 : w.heap.size + 1 < lo_LC0 := by have := sp_z1_LC0.out; omega
          have hw_LC0 : w.heap.size ≤ lo_LC0 := by have := lw_LC0.out; omega
          obtain ⟨c0z1, c1z1, c2z1⟩ := cells3 B_z1
          have sp_z0_LC1 : Hid (w.heap.size < w1.heap.size) := B_z0.out.lt
          have sp_z1_LC1 : Hid (w.heap.size + 1 < w1.heap.size) := B_z1.out.lt
          have lw_LC1 : Hid (w.heap.size ≤ w1.heap.size) := HB.out.size
          go_wp2_with fail
          refine (HCC1.out _ _ _ (PL.below L2.out (by exact sm))).mono ?_
          clear c0z1 c1z1 c2z1
          rintro e w2 ⟨AC1, cC1, rfl, LC1, bb⟩
          replace bb := nextw (w0 := w1) (by exact sm) bb
          replace B_z0 := mv B_z0 bb
          replace B_z1 := mv B_z1 bb
          replace L := Lib.hid (PL.below L.out bb)
          replace L2 := Lib.hid (PL.below L2.out bb)
          replace LC0 := Lib.hid (PL.below LC0.out bb)
          replace HB := nx HB bb
          clear bb
          replace LC1 := Lib.hid LC1
          obtain ⟨lo_LC1, hi_LC1, hlo_LC1, hhi_LC1, LC1⟩ : ∃ lo hi, w1.heap.size ≤ lo ∧ hi ≤ w2.heap.size ∧ Hid (PL w2 lo hi AC1 cl1.length cC1 cl1) := ⟨_, _, Nat.le_refl _, Nat.le_refl _, LC1⟩
          have hb_z0_LC1 : w.heap.size < lo_LC1 := by have := sp_z0_LC1.out; omega
          have hb_z1_LC1 : w.heap.size + 1 < lo_LC1 := by have := sp_z1_LC1.out; omega
          have hw_LC1 : w.heap.size ≤ lo_LC1 := by have := lw_LC1.out; omega
          go_upto_region 3 with (fail)
          have od2 : (((cl0.length : Nat) : Int) == ((cl1.length : Nat) : Int)) = true := decide_eq_true dd2.out
          go_wp2_with fail
          go_loopw [7] (fun  kk wx => ∃ (k : Nat), k ≤ cl0.length ∧ kk = .int .i64 k ∧ Hid (cl0.take k = cl1.take k) ∧ Hid (PL wx lo_L hi_L A n c l) ∧ Hid (PL wx lo_L2 hi_L2 A2 n2 c2 l2) ∧ Hid (PL wx lo_LC0 hi_LC0 AC0 cl0.length cC0 cl0) ∧ Hid (PL wx lo_LC1 hi_LC1 AC1 cl1.length cC1 cl1) ∧ Hid (Bx wx (w.heap.size) 24 #[.int .i64 x, .int .i64 y, .slice A n c]) ∧ Hid (Bx wx (w.heap.size + 1) 24 #[.int .i64 u, .int .i64 v, .slice A2 n2 c2]) ∧ Hid (Below w.heap.size w wx)) (fun  kk _ => cl0.length - (intOf kk).toNat)
          case atStart => exact ⟨0, by omega, rfl, Lib.hid (by simp), L, L2, LC0, LC1, B_z0, B_z1, HB⟩
          case round =>
            clear L L2 LC0 LC1 B_z0 B_z1 HB
            obtain ⟨k, hk, rfl, HK, L, L2, LC0, LC1, B_z0, B_z1, HB⟩ := hrel
            by_cases hlt : k < cl0.length
            · skip
              have hlq0LC0 : k < cl0.length := by omega
              obtain ⟨g_LC0, o_LC0, eA_LC0, -, -, -⟩ := LC0.out.elem hlq0LC0
              subst eA_LC0
              obtain ⟨⟨x_q0LC0, y_q0LC0⟩, hpq0LC0⟩ : ∃ q, cl0.getD k z2 = q := ⟨_, rfl⟩
              have HPq0LC0 := Lib.hid hpq0LC0
              have HLq0LC0 := Lib.hid hlq0LC0
              have hmq0LC0 : (x_q0LC0, y_q0LC0) ∈ cl0 := by rw [← hpq0LC0]; exact getD_mem (by have := LC0.out.len; omega)
              clear hpq0LC0 hlq0LC0
              have hlq1LC1 : k < cl1.length := by omega
              obtain ⟨g_LC1, o_LC1, eA_LC1, -, -, -⟩ := LC1.out.elem hlq1LC1
              subst eA_LC1
              obtain ⟨⟨x_q1LC1, y_q1LC1⟩, hpq1LC1⟩ : ∃ q, cl1.getD k z2 = q := ⟨_, rfl⟩
              have HPq1LC1 := Lib.hid hpq1LC1
              have HLq1LC1 := Lib.hid hlq1LC1
              have hmq1LC1 : (x_q1LC1, y_q1LC1) ∈ cl1 := by rw [← hpq1LC1]; exact getD_mem (by have := LC1.out.len; omega)
              clear hpq1LC1 hlq1LC1
              by_cases dd5 : x_q0LC0 = x_q1LC1
              · skip
                by_cases dd6 : y_q0LC0 = y_q1LC1
                · skip
                  replace dd5 := Lib.hid dd5
                  replace dd6 := Lib.hid dd6
                  go_upto_region 8 with (fail)
                  have e0q0LC0 : wr.cell? ⟨g_LC0, o_LC0 + k * 2, none⟩ = some (.int .i64 x_q0LC0) := (PL.el LC0.out HLq0LC0.out HPq0LC0.out).1
                  have e1q0LC0 : wr.cell? ⟨g_LC0, o_LC0 + k * 2 + 1, none⟩ = some (.int .i64 y_q0LC0) := (PL.el LC0.out HLq0LC0.out HPq0LC0.out).2
                  have e0q1LC1 : wr.cell? ⟨g_LC1, o_LC1 + k * 2, none⟩ = some (.int .i64 x_q1LC1) := (PL.el LC1.out HLq1LC1.out HPq1LC1.out).1
                  have e1q1LC1 : wr.cell? ⟨g_LC1, o_LC1 + k * 2 + 1, none⟩ = some (.int .i64 y_q1LC1) := (PL.el LC1.out HLq1LC1.out HPq1LC1.out).2
                  have od5 : (x_q0LC0 == x_q1LC1) = true := decide_eq_true dd5.out
                  have od6 : (y_q0LC0 == y_q1LC1) = true := decide_eq_true dd6.out
                  go_quiet (fail)
                  clear e0q0LC0 e1q0LC0 e0q1LC1 e1q1LC1
                  have bb : Below wr.heap.size wr (wr.drewN nq) := bel_drewN (Below.refl _ _) _
                  generalize wr.drewN nq = w3q at *
                  replace B_z0 := mv B_z0 bb
                  replace B_z1 := mv B_z1 bb
                  replace L := Lib.hid (PL.below L.out bb)
                  replace L2 := Lib.hid (PL.below L2.out bb)
                  replace LC0 := Lib.hid (PL.below LC0.out bb)
                  replace LC1 := Lib.hid (PL.below LC1.out bb)
                  replace HB := nx HB bb
                  clear bb
                  have HK2 : Hid (cl0.take (k + 1) = cl1.take (k + 1)) := by unfold Hid; rw [take_snoc cl0 z2 (k := k) (by omega), take_snoc cl1 z2 (k := k) (by omega), HK.out, HPq0LC0.out, HPq1LC1.out, dd5.out, dd6.out]
                  go_wp2_with fail
                  go_roundw
                  case rel => exact ⟨k + 1, by omega, by go_num, HK2, L, L2, LC0, LC1, B_z0, B_z1, HB⟩
                  case measure => simp only [intOf]; omega
                · skip
                  replace dd5 := Lib.hid dd5
                  go_upto_region 8 with (fail)
                  have e0q0LC0 : wr.cell? ⟨g_LC0, o_LC0 + k * 2, none⟩ = some (.int .i64 x_q0LC0) := (PL.el LC0.out HLq0LC0.out HPq0LC0.out).1
                  have e1q0LC0 : wr.cell? ⟨g_LC0, o_LC0 + k * 2 + 1, none⟩ = some (.int .i64 y_q0LC0) := (PL.el LC0.out HLq0LC0.out HPq0LC0.out).2
                  have e0q1LC1 : wr.cell? ⟨g_LC1, o_LC1 + k * 2, none⟩ = some (.int .i64 x_q1LC1) := (PL.el LC1.out HLq1LC1.out HPq1LC1.out).1
                  have e1q1LC1 : wr.cell? ⟨g_LC1, o_LC1 + k * 2 + 1, none⟩ = some (.int .i64 y_q1LC1) := (PL.el LC1.out HLq1LC1.out HPq1LC1.out).2
                  have od5 : (x_q0LC0 == x_q1LC1) = true := decide_eq_true dd5.out
                  have od6 : (y_q0LC0 == y_q1LC1) = false := decide_eq_false dd6
                  go_quiet (fail)
                  clear e0q0LC0 e1q0LC0 e0q1LC1 e1q1LC1
                  have bb : Below wr.heap.size wr (wr.drewN nq) := bel_drewN (Below.refl _ _) _
                  generalize wr.drewN nq = w4q at *
                  replace B_z0 := mv B_z0 bb
                  replace B_z1 := mv B_z1 bb
                  replace L := Lib.hid (PL.below L.out bb)
                  replace L2 := Lib.hid (PL.below L2.out bb)
                  replace LC0 := Lib.hid (PL.below LC0.out bb)
                  replace LC1 := Lib.hid (PL.below LC1.out bb)
                  replace HB := nx HB bb
                  clear bb
                  have HE : Hid (¬ SameC x y l u v l2) := fun h => by have h3 := h.2.2; rw [HQ0.out, HQ1.out] at h3; have h4 := HPq0LC0.out; rw [h3, HPq1LC1.out] at h4; injection h4 with h5 h6; have e0 := dd2.out; have e1 := dd3; have e2 := dd5.out; have e3 := dd6; omega
                  go_wp2
                  go_ret
                  exact ⟨rb (decide_eq_false HE.out).symm, nextw HB.out (by exact sm)⟩
              · skip
                go_upto_region 8 with (fail)
                have e0q0LC0 : wr.cell? ⟨g_LC0, o_LC0 + k * 2, none⟩ = some (.int .i64 x_q0LC0) := (PL.el LC0.out HLq0LC0.out HPq0LC0.out).1
                have e1q0LC0 : wr.cell? ⟨g_LC0, o_LC0 + k * 2 + 1, none⟩ = some (.int .i64 y_q0LC0) := (PL.el LC0.out HLq0LC0.out HPq0LC0.out).2
                have e0q1LC1 : wr.cell? ⟨g_LC1, o_LC1 + k * 2, none⟩ = some (.int .i64 x_q1LC1) := (PL.el LC1.out HLq1LC1.out HPq1LC1.out).1
                have e1q1LC1 : wr.cell? ⟨g_LC1, o_LC1 + k * 2 + 1, none⟩ = some (.int .i64 y_q1LC1) := (PL.el LC1.out HLq1LC1.out HPq1LC1.out).2
                have od5 : (x_q0LC0 == x_q1LC1) = false := decide_eq_false dd5
                go_quiet (fail)
                clear e0q0LC0 e1q0LC0 e0q1LC1 e1q1LC1
                have bb : Below wr.heap.size wr (wr.drewN nq) := bel_drewN (Below.refl _ _) _
                generalize wr.drewN nq = w5q at *
                replace B_z0 := mv B_z0 bb
                replace B_z1 := mv B_z1 bb
                replace L := Lib.hid (PL.below L.out bb)
                replace L2 := Lib.hid (PL.below L2.out bb)
                replace LC0 := Lib.hid (PL.below LC0.out bb)
                replace LC1 := Lib.hid (PL.below LC1.out bb)
                replace HB := nx HB bb
                clear bb
                have HE : Hid (¬ SameC x y l u v l2) := fun h => by have h3 := h.2.2; rw [HQ0.out, HQ1.out] at h3; have h4 := HPq0LC0.out; rw [h3, HPq1LC1.out] at h4; injection h4 with h5 h6; have e0 := dd2.out; have e1 := dd3; have e2 := dd5; omega
                go_wp2
                go_ret
                exact ⟨rb (decide_eq_false HE.out).symm, nextw HB.out (by exact sm)⟩
            · skip
              have hkn : cl0.length = k := by omega
              subst hkn
              have HE : Hid (SameC x y l u v l2) := ⟨dd0, dd1, by rw [HQ0.out, HQ1.out]; have h := HK.out; rw [List.take_of_length_le (by omega), List.take_of_length_le (by omega)] at h; exact h⟩
              go_wp2
              go_ret
              exact ⟨rb (decide_eq_true HE.out).symm, nextw HB.out (by exact sm)⟩
      · skip
        obtain ⟨HB, B_z0, B_z1⟩ := box2 w 24 #[.int .i64 x, .int .i64 y, .slice A n c] 24 #[.int .i64 u, .int .i64 v, .slice A2 n2 c2]
        replace L := Lib.hid (PL.below L.out HB.out)
        replace L2 := Lib.hid (PL.below L2.out HB.out)
        go_enter Try.func39, Try.ntmps39
        go_upto_region 1 with (fail)
        generalize (w.alloc (.cells #[.int .i64 x, .int .i64 y, .slice A n c] 24)).alloc (.cells #[.int .i64 u, .int .i64 v, .slice A2 n2 c2] 24) = W0 at *
        obtain ⟨c0z0, c1z0, c2z0⟩ := cells3 B_z0
        have sp_z0_LC0 : Hid (w.heap.size < W0.heap.size) := B_z0.out.lt
        have sp_z1_LC0 : Hid (w.heap.size + 1 < W0.heap.size) := B_z1.out.lt
        have lw_LC0 : Hid (w.heap.size ≤ W0.heap.size) := HB.out.size
        go_wp2_with fail
        refine (HCC0.out _ _ _ (PL.below L.out (by exact sm))).mono ?_
        clear c0z0 c1z0 c2z0
        rintro e w6 ⟨AC0, cC0, rfl, LC0, bb⟩
        replace bb := nextw (w0 := W0) (by exact sm) bb
        replace B_z0 := mv B_z0 bb
        replace B_z1 := mv B_z1 bb
        replace L := Lib.hid (PL.below L.out bb)
        replace L2 := Lib.hid (PL.below L2.out bb)
        replace HB := nx HB bb
        clear bb
        replace LC0 := Lib.hid LC0
        obtain ⟨lo_LC0, hi_LC0, hlo_LC0, hhi_LC0, LC0⟩ : ∃ lo hi, W0.heap.size ≤ lo ∧ hi ≤ w6.heap.size ∧ Hid (PL w6 lo hi AC0 cl0.length cC0 cl0) := ⟨_, _, Nat.le_refl _, Nat.le_refl _, LC0⟩
        have hb_z0_LC0 : w.heap.size < lo_LC0 := by have := sp_z0_LC0.out; omega
        have hb_z1_LC0 : w.heap.size + 1 < lo_LC0 := by have := sp_z1_LC0.out; omega
        have hw_LC0 : w.heap.size ≤ lo_LC0 := by have := lw_LC0.out; omega
        obtain ⟨c0z1, c1z1, c2z1⟩ := cells3 B_z1
        have sp_z0_LC1 : Hid (w.heap.size < w6.heap.size) := B_z0.out.lt
        have sp_z1_LC1 : Hid (w.heap.size + 1 < w6.heap.size) := B_z1.out.lt
        have lw_LC1 : Hid (w.heap.size ≤ w6.heap.size) := HB.out.size
        go_wp2_with fail
        refine (HCC1.out _ _ _ (PL.below L2.out (by exact sm))).mono ?_
        clear c0z1 c1z1 c2z1
        rintro e w7 ⟨AC1, cC1, rfl, LC1, bb⟩
        replace bb := nextw (w0 := w6) (by exact sm) bb
        replace B_z0 := mv B_z0 bb
        replace B_z1 := mv B_z1 bb
        replace L := Lib.hid (PL.below L.out bb)
        replace L2 := Lib.hid (PL.below L2.out bb)
        replace LC0 := Lib.hid (PL.below LC0.out bb)
        replace HB := nx HB bb
        clear bb
        replace LC1 := Lib.hid LC1
        obtain ⟨lo_LC1, hi_LC1, hlo_LC1, hhi_LC1, LC1⟩ : ∃ lo hi, w6.heap.size ≤ lo ∧ hi ≤ w7.heap.size ∧ Hid (PL w7 lo hi AC1 cl1.length cC1 cl1) := ⟨_, _, Nat.le_refl _, Nat.le_refl _, LC1⟩
        have hb_z0_LC1 : w.heap.size < lo_LC1 := by have := sp_z0_LC1.out; omega
        have hb_z1_LC1 : w.heap.size + 1 < lo_LC1 := by have := sp_z1_LC1.out; omega
        have hw_LC1 : w.heap.size ≤ lo_LC1 := by have := lw_LC1.out; omega
        go_upto_region 3 with (fail)
        have od2 : (((cl0.length : Nat) : Int) == ((cl1.length : Nat) : Int)) = false := decide_eq_false dd2
        have HE : Hid (¬ SameC x y l u v l2) := fun h => by have h3 := h.2.2; rw [HQ0.out, HQ1.out] at h3; have h4 := congrArg List.length h3; have e0 := dd2; omega
        go_wp2
        go_ret
        exact ⟨rb (decide_eq_false HE.out).symm, nextw HB.out (by exact sm)⟩
    · skip
      by_cases dd2 : ((cl0.length : Nat) : Int) = 0
      · skip
        exfalso; omega
      · skip
        obtain ⟨HB, B_z0, B_z1⟩ := box2 w 24 #[.int .i64 x, .int .i64 y, .slice A n c] 24 #[.int .i64 u, .int .i64 v, .slice A2 n2 c2]
        replace L := Lib.hid (PL.below L.out HB.out)
        replace L2 := Lib.hid (PL.below L2.out HB.out)
        go_enter Try.func39, Try.ntmps39
        go_upto_region 1 with (fail)
        generalize (w.alloc (.cells #[.int .i64 x, .int .i64 y, .slice A n c] 24)).alloc (.cells #[.int .i64 u, .int .i64 v, .slice A2 n2 c2] 24) = W0 at *
        obtain ⟨c0z0, c1z0, c2z0⟩ := cells3 B_z0
        have sp_z0_LC0 : Hid (w.heap.size < W0.heap.size) := B_z0.out.lt
        have sp_z1_LC0 : Hid (w.heap.size + 1 < W0.heap.size) := B_z1.out.lt
        have lw_LC0 : Hid (w.heap.size ≤ W0.heap.size) := HB.out.size
        go_wp2_with fail
        refine (HCC0.out _ _ _ (PL.below L.out (by exact sm))).mono ?_
        clear c0z0 c1z0 c2z0
        rintro e w8 ⟨AC0, cC0, rfl, LC0, bb⟩
        replace bb := nextw (w0 := W0) (by exact sm) bb
        replace B_z0 := mv B_z0 bb
        replace B_z1 := mv B_z1 bb
        replace L := Lib.hid (PL.below L.out bb)
        replace L2 := Lib.hid (PL.below L2.out bb)
        replace HB := nx HB bb
        clear bb
        replace LC0 := Lib.hid LC0
        obtain ⟨lo_LC0, hi_LC0, hlo_LC0, hhi_LC0, LC0⟩ : ∃ lo hi, W0.heap.size ≤ lo ∧ hi ≤ w8.heap.size ∧ Hid (PL w8 lo hi AC0 cl0.length cC0 cl0) := ⟨_, _, Nat.le_refl _, Nat.le_refl _, LC0⟩
        have hb_z0_LC0 : w.heap.size < lo_LC0 := by have := sp_z0_LC0.out; omega
        have hb_z1_LC0 : w.heap.size + 1 < lo_LC0 := by have := sp_z1_LC0.out; omega
        have hw_LC0 : w.heap.size ≤ lo_LC0 := by have := lw_LC0.out; omega
        obtain ⟨c0z1, c1z1, c2z1⟩ := cells3 B_z1
        go_wp2_with fail
        refine (RCorners_w1 u v A2 n2 c2 l2 (by omega) dd1 _ (PL.below L2.out (by exact sm))).mono ?_
        clear c0z1 c1z1 c2z1
        rintro e w9 ⟨rfl, bb⟩
        replace bb := nextw (w0 := w8) (by exact sm) bb
        replace B_z0 := mv B_z0 bb
        replace B_z1 := mv B_z1 bb
        replace L := Lib.hid (PL.below L.out bb)
        replace L2 := Lib.hid (PL.below L2.out bb)
        replace LC0 := Lib.hid (PL.below LC0.out bb)
        replace HB := nx HB bb
        clear bb
        go_upto_region 3 with (fail)
        have od2 : (((cl0.length : Nat) : Int) == 0) = false := decide_eq_false dd2
        have HE : Hid (¬ SameC x y l u v l2) := fun h => dd1 h.2.1
        go_wp2
        go_ret
        exact ⟨rb (decide_eq_false HE.out).symm, nextw HB.out (by exact sm)⟩
  · skip
    by_cases dd1 : OkZ u v l2
    · skip
      obtain ⟨cl1, hcl1⟩ : ∃ m, cornL (u, v) (canL l2) = m := ⟨_, rfl⟩
      have HQ1 := Lib.hid hcl1
      have HLB1 : Hid (∀ p ∈ cl1, Wi p.1 33554432 ∧ Wi p.2 33554432) := by rw [← hcl1]; exact corn_all (M := 16777216) (S := 16777216) (okz_x dd1) (okz_y dd1) (okz_cs dd1)
      have hlencl1 : cl1.length ≤ 1000 := by rw [← hcl1]; exact corn_16 _ (Nat.le_trans (okz_cl dd1) (by decide))
      have hposcl1 : 0 < cl1.length := by rw [← hcl1, corn_len]; omega
      have HCC1 := Lib.hid (fun (w : World) (lo hi : Nat) (M : PL w lo hi A2 n2 c2 l2) => RCorners_w0 u v A2 n2 c2 l2 (by omega) dd1 w M)
      rw [hcl1] at HCC1
      have hnecl1 : ¬ (cl1 = []) := by intro e; rw [e] at hposcl1; simp at hposcl1
      have hne2cl1 : ¬ ([] = cl1) := fun e => hnecl1 e.symm
      clear hcl1
      by_cases dd2 : 0 = ((cl1.length : Nat) : Int)
      · skip
        exfalso; omega
      · skip
        obtain ⟨HB, B_z0, B_z1⟩ := box2 w 24 #[.int .i64 x, .int .i64 y, .slice A n c] 24 #[.int .i64 u, .int .i64 v, .slice A2 n2 c2]
        replace L := Lib.hid (PL.below L.out HB.out)
        replace L2 := Lib.hid (PL.below L2.out HB.out)
        go_enter Try.func39, Try.ntmps39
        go_upto_region 1 with (fail)
        generalize (w.alloc (.cells #[.int .i64 x, .int .i64 y, .slice A n c] 24)).alloc (.cells #[.int .i64 u, .int .i64 v, .slice A2 n2 c2] 24) = W0 at *
        obtain ⟨c0z0, c1z0, c2z0⟩ := cells3 B_z0
        go_wp2_with fail
        refine (RCorners_w1 x y A n c l (by omega) dd0 _ (PL.below L.out (by exact sm))).mono ?_
        clear c0z0 c1z0 c2z0
        rintro e w10 ⟨rfl, bb⟩
        replace bb := nextw (w0 := W0) (by exact sm) bb
        replace B_z0 := mv B_z0 bb
        replace B_z1 := mv B_z1 bb
        replace L := Lib.hid (PL.below L.out bb)
        replace L2 := Lib.hid (PL.below L2.out bb)
        replace HB := nx HB bb
        clear bb
        obtain ⟨c0z1, c1z1, c2z1⟩ := cells3 B_z1
        have sp_z0_LC1 : Hid (w.heap.size < w10.heap.size) := B_z0.out.lt
        have sp_z1_LC1 : Hid (w.heap.size + 1 < w10.heap.size) := B_z1.out.lt
        have lw_LC1 : Hid (w.heap.size ≤ w10.heap.size) := HB.out.size
        go_wp2_with fail
        refine (HCC1.out _ _ _ (PL.below L2.out (by exact sm))).mono ?_
        clear c0z1 c1z1 c2z1
        rintro e w11 ⟨AC1, cC1, rfl, LC1, bb⟩
        replace bb := nextw (w0 := w10) (by exact sm) bb
        replace B_z0 := mv B_z0 bb
        replace B_z1 := mv B_z1 bb
        replace L := Lib.hid (PL.below L.out bb)
        replace L2 := Lib.hid (PL.below L2.out bb)
        replace HB := nx HB bb
        clear bb
        replace LC1 := Lib.hid LC1
        obtain ⟨lo_LC1, hi_LC1, hlo_LC1, hhi_LC1, LC1⟩ : ∃ lo hi, w10.heap.size ≤ lo ∧ hi ≤ w11.heap.size ∧ Hid (PL w11 lo hi AC1 cl1.length cC1 cl1) := ⟨_, _, Nat.le_refl _, Nat.le_refl _, LC1⟩
        have hb_z0_LC1 : w.heap.size < lo_LC1 := by have := sp_z0_LC1.out; omega
        have hb_z1_LC1 : w.heap.size + 1 < lo_LC1 := by have := sp_z1_LC1.out; omega
        have hw_LC1 : w.heap.size ≤ lo_LC1 := by have := lw_LC1.out; omega
        go_upto_region 3 with (fail)
        have od2 : (0 == ((cl1.length : Nat) : Int)) = false := decide_eq_false dd2
        have HE : Hid (¬ SameC x y l u v l2) := fun h => dd0 h.1
        go_wp2
        go_ret
        exact ⟨rb (decide_eq_false HE.out).symm, nextw HB.out (by exact sm)⟩
    · skip
      obtain ⟨HB, B_z0, B_z1⟩ := box2 w 24 #[.int .i64 x, .int .i64 y, .slice A n c] 24 #[.int .i64 u, .int .i64 v, .slice A2 n2 c2]
      replace L := Lib.hid (PL.below L.out HB.out)
      replace L2 := Lib.hid (PL.below L2.out HB.out)
      go_enter Try.func39, Try.ntmps39
      go_upto_region 1 with (fail)
      generalize (w.alloc (.cells #[.int .i64 x, .int .i64 y, .slice A n c] 24)).alloc (.cells #[.int .i64 u, .int .i64 v, .slice A2 n2 c2] 24) = W0 at *
      obtain ⟨c0z0, c1z0, c2z0⟩ := cells3 B_z0
      go_wp2_with fail
      refine (RCorners_w1 x y A n c l (by omega) dd0 _ (PL.below L.out (by exact sm))).mono ?_
      clear c0z0 c1z0 c2z0
      rintro e w12 ⟨rfl, bb⟩
      replace bb := nextw (w0 := W0) (by exact sm) bb
      replace B_z0 := mv B_z0 bb
      replace B_z1 := mv B_z1 bb
      replace L := Lib.hid (PL.below L.out bb)
      replace L2 := Lib.hid (PL.below L2.out bb)
      replace HB := nx HB bb
      clear bb
      obtain ⟨c0z1, c1z1, c2z1⟩ := cells3 B_z1
      go_wp2_with fail
      refine (RCorners_w1 u v A2 n2 c2 l2 (by omega) dd1 _ (PL.below L2.out (by exact sm))).mono ?_
      clear c0z1 c1z1 c2z1
      rintro e w13 ⟨rfl, bb⟩
      replace bb := nextw (w0 := w12) (by exact sm) bb
      replace B_z0 := mv B_z0 bb
      replace B_z1 := mv B_z1 bb
      replace L := Lib.hid (PL.below L.out bb)
      replace L2 := Lib.hid (PL.below L2.out bb)
      replace HB := nx HB bb
      clear bb
      have HE : Hid (¬ SameC x y l u v l2) := fun h => dd0 h.1
      go_wp2
      go_ret
      exact ⟨rb (decide_eq_false HE.out).symm, nextw HB.out (by exact sm)⟩
end Go.Proofs.Ytpjbkadhmjlpfaa
