/- the law Sums. -/
import Derived.Test.YtpjbkadhmjlpfaaZ44
set_option linter.unusedVariables false
set_option linter.unusedSimpArgs false
namespace Go.Proofs.Ytpjbkadhmjlpfaa
open Go Go.RowKit Hd

theorem corn_hl {z : P2} {C : List P2} {p : P2} (hp : p ∈ cornL z C) : Hl C (subP p z) := by
  obtain ⟨i, hi, e⟩ := getD_of hp
  have hl := corn_len z C
  rw [corn_get z C i (by omega)] at e
  intro n
  have a := cor_le n z C i (by omega)
  have b := cor_ge n z C i (by omega)
  rw [e] at a b
  rw [nd_sub]
  rcases mg_cs (nd n p - nd n z) with ⟨e2, _⟩ | ⟨e2, _⟩ <;> omega
theorem sum_has {x y u v X Y : Int} {l l2 cs cA cB : List P2} (hX : x + u = X) (hY : y + v = Y) (hcs : canL (l ++ l2) = cs) (hcA : cornL (x, y) (canL l) = cA) (hcB : cornL (u, v) (canL l2) = cB) (h3 : OkZ X Y cs) {a b c d : Int} (hp : (a, b) ∈ cA) (hq : (c, d) ∈ cB) : HasP X Y cs (a + c) (b + d) := by
  subst hcA
  subst hcB
  have k1 := corn_hl hp
  have k2 := corn_hl hq
  have key : Hl cs (a + c - X, b + d - Y) := fun n => by
    have e : nd n (a + c - X, b + d - Y) = nd n (subP (a, b) (x, y)) + nd n (subP (c, d) (u, v)) := by subst hX; subst hY; unfold nd dt subP; grind
    have t1 := k1 n
    have t2 := k2 n
    rw [spr_can] at t1 t2
    rw [e, ← hcs, spr_can, spr_append]
    have := mg_tri (nd n (subP (a, b) (x, y))) (nd n (subP (c, d) (u, v)))
    omega
  have r := (Rc_iff cs (a + c - X, b + d - Y)).2 key
  obtain ⟨s1, s2⟩ := okz_sb h3
  have q1 := r.1
  have q2 := r.2.1
  have m1 := mg_cs (a + c - X)
  have m2 := mg_cs (b + d - Y)
  obtain ⟨⟨x1, x2⟩, ⟨y1, y2⟩, -⟩ := (id h3 : OkZ X Y cs)
  dsimp only at q1 q2
  exact ⟨h3, ⟨by omega, by omega⟩, ⟨by omega, by omega⟩, r⟩

set_option maxRecDepth 100000 in
set_option maxHeartbeats 4000000 in
theorem Sums_at (x y u v i : Int) (A : Option Addr) (n c : Nat) (l : List P2) (A2 : Option Addr) (n2 c2 : Nat) (l2 : List P2)  (X Y : Int) (cs cA cB : List P2) (hX : x + u = X) (hY : y + v = Y) (hcs : canL (l ++ l2) = cs) (hcA : cornL (x, y) (canL l) = cA) (hcB : cornL (u, v) (canL l2) = cB) (iN : Nat) (hi : i = ((iN : Nat) : Int)) (hi2 : iN ≤ 255) (w : World) {lo_L hi_L : Nat} (L : PL w lo_L hi_L A n c l) {lo_L2 hi_L2 : Nat} (L2 : PL w lo_L2 hi_L2 A2 n2 c2 l2) :
    Calls Try.prog 5 #[.agg #[.int .i64 x, .int .i64 y, .slice A n c], .agg #[.int .i64 u, .int .i64 v, .slice A2 n2 c2], .int .u8 i] w fun e w' => e = .returned (.bool true) ∧ Below w.heap.size w w' := by
  have hiL_L : hi_L ≤ w.heap.size := L.top
  replace L := Lib.hid L
  have hiL_L2 : hi_L2 ≤ w.heap.size := L2.top
  replace L2 := Lib.hid L2
  by_cases dd0 : ((n : Nat) : Int) ≤ 40
  · skip
    by_cases dd1 : ((n2 : Nat) : Int) ≤ 40
    · skip
      by_cases dd2 : OkZ x y l
      · skip
        have dd2x1 := dd2.1.1
        have dd2x2 := dd2.1.2
        have dd2y1 := dd2.2.1.1
        have dd2y2 := dd2.2.1.2
        by_cases dd3 : OkZ u v l2
        · skip
          have dd3x1 := dd3.1.1
          have dd3x2 := dd3.1.2
          have dd3y1 := dd3.2.1.1
          have dd3y2 := dd3.2.1.2
          by_cases dd4 : OkZ X Y cs
          · skip
            have dd4x1 := dd4.1.1
            have dd4x2 := dd4.1.2
            have dd4y1 := dd4.2.1.1
            have dd4y2 := dd4.2.1.2
            have hxl : Hid (OkZ x y l) := Lib.hid dd2
            have hul : Hid (OkZ u v l2) := Lib.hid dd3
            have hd3 : OkZ (x + u) (y + v) (canL (l ++ l2)) := by rw [hX, hY, hcs]; exact dd4
            have SuY := Lib.hid (fun (w : World) (lo hi lo2 hi2 : Nat) (M : PL w lo hi A n c l) (M2 : PL w lo2 hi2 A2 n2 c2 l2) => Sum_ok x y A n c l u v A2 n2 c2 l2 (by omega) (by omega) dd2 dd3 hd3 w M M2)
            have RSuY := Lib.hid (fun (w : World) (lo hi lo2 hi2 : Nat) (M : PL w lo hi A n c l) (M2 : PL w lo2 hi2 A2 n2 c2 l2) => RSum_w0 x y u v A n c l A2 n2 c2 l2 (by omega) (by omega) dd2 dd3 hd3 w M M2)
            rw [hX, hY, hcs] at SuY RSuY
            have hsl : cs.length ≤ 80 := by rw [← hcs]; have h1 := can_len (l ++ l2) _ ((okz_sb dd2).app (okz_sb dd3)); have h2 := okz_len dd2; have h3 := okz_len dd3; rw [List.length_append] at h1; omega
            have RCcA := Lib.hid (fun (w : World) (lo hi : Nat) (M : PL w lo hi A n c l) => RCorners_w0 x y A n c l (by omega) dd2 w M)
            rw [hcA] at RCcA
            have hposcA : 0 < cA.length := by rw [← hcA, corn_len]; omega
            have hllcA : cA.length ≤ 1000 := by rw [← hcA]; exact corn_16 _ (Nat.le_trans (okz_cl dd2) (by decide))
            have HLBcA : Hid (∀ p ∈ cA, Wi p.1 33554432 ∧ Wi p.2 33554432) := by rw [← hcA]; exact corn_all (M := 16777216) (S := 16777216) (okz_x dd2) (okz_y dd2) (okz_cs dd2)
            have RCcB := Lib.hid (fun (w : World) (lo hi : Nat) (M : PL w lo hi A2 n2 c2 l2) => RCorners_w0 u v A2 n2 c2 l2 (by omega) dd3 w M)
            rw [hcB] at RCcB
            have hposcB : 0 < cB.length := by rw [← hcB, corn_len]; omega
            have hllcB : cB.length ≤ 1000 := by rw [← hcB]; exact corn_16 _ (Nat.le_trans (okz_cl dd3) (by decide))
            have HLBcB : Hid (∀ p ∈ cB, Wi p.1 33554432 ∧ Wi p.2 33554432) := by rw [← hcB]; exact corn_all (M := 16777216) (S := 16777216) (okz_x dd3) (okz_y dd3) (okz_cs dd3)
            have HSH := Lib.hid (fun (a b c d : Int) (hp : (a, b) ∈ cA) (hq : (c, d) ∈ cB) => sum_has hX hY hcs hcA hcB dd4 hp hq)
            have H0 := Lib.hid (fun w => awake_w0 w)
            obtain ⟨HB, B_z0, B_z1⟩ := box2 w 24 #[.int .i64 x, .int .i64 y, .slice A n c] 24 #[.int .i64 u, .int .i64 v, .slice A2 n2 c2]
            replace L := Lib.hid (PL.below L.out HB.out)
            replace L2 := Lib.hid (PL.below L2.out HB.out)
            go_enter Try.func5, Try.ntmps5
            go_upto_region 1 with (fail)
            generalize (w.alloc (.cells #[.int .i64 x, .int .i64 y, .slice A n c] 24)).alloc (.cells #[.int .i64 u, .int .i64 v, .slice A2 n2 c2] 24) = W0 at *
            go_wp2_with fail
            refine (H0.out _).mono ?_
            rintro e w1 ⟨rfl, bb⟩
            replace bb := nextw (w0 := W0) (by exact sm) bb
            replace B_z0 := mv B_z0 bb
            replace B_z1 := mv B_z1 bb
            replace L := Lib.hid (PL.below L.out bb)
            replace L2 := Lib.hid (PL.below L2.out bb)
            replace HB := nx HB bb
            clear bb
            obtain ⟨c0z0, c1z0, c2z0⟩ := cells3 B_z0
            go_wp2_with fail
            refine (few_w0 x y _ _ _ l _ (PL.below L.out (by exact sm))).mono ?_
            clear c0z0 c1z0 c2z0
            rintro e w2 ⟨rfl, bb⟩
            replace bb := nextw (w0 := w1) (by exact sm) bb
            replace B_z0 := mv B_z0 bb
            replace B_z1 := mv B_z1 bb
            replace L := Lib.hid (PL.below L.out bb)
            replace L2 := Lib.hid (PL.below L2.out bb)
            replace HB := nx HB bb
            clear bb
            obtain ⟨c0z1, c1z1, c2z1⟩ := cells3 B_z1
            go_wp2_with fail
            refine (few_w0 u v _ _ _ l2 _ (PL.below L2.out (by exact sm))).mono ?_
            clear c0z1 c1z1 c2z1
            rintro e w3 ⟨rfl, bb⟩
            replace bb := nextw (w0 := w2) (by exact sm) bb
            replace B_z0 := mv B_z0 bb
            replace B_z1 := mv B_z1 bb
            replace L := Lib.hid (PL.below L.out bb)
            replace L2 := Lib.hid (PL.below L2.out bb)
            replace HB := nx HB bb
            clear bb
            obtain ⟨c0z0, c1z0, c2z0⟩ := cells3 B_z0
            obtain ⟨c0z1, c1z1, c2z1⟩ := cells3 B_z1
            have sp_z0_LC3 : Hid (w.heap.size < w3.heap.size) := B_z0.out.lt
            have sp_z1_LC3 : Hid (w.heap.size + 1 < w3.heap.size) := B_z1.out.lt
            have lw_LC3 : Hid (w.heap.size ≤ w3.heap.size) := HB.out.size
            go_wp2_with fail
            refine (SuY.out _ _ _ _ _ (PL.below L.out (by exact sm)) (PL.below L2.out (by exact sm))).mono ?_
            clear c0z0 c1z0 c2z0 c0z1 c1z1 c2z1
            rintro e w4 ⟨AC3, cC3, rfl, LC3, bb⟩
            replace bb := nextw (w0 := w3) (by exact sm) bb
            replace B_z0 := mv B_z0 bb
            replace B_z1 := mv B_z1 bb
            replace L := Lib.hid (PL.below L.out bb)
            replace L2 := Lib.hid (PL.below L2.out bb)
            replace HB := nx HB bb
            clear bb
            replace LC3 := Lib.hid LC3
            obtain ⟨lo_LC3, hi_LC3, hlo_LC3, hhi_LC3, LC3⟩ : ∃ lo hi, w3.heap.size ≤ lo ∧ hi ≤ w4.heap.size ∧ Hid (PL w4 lo hi AC3 cs.length cC3 cs) := ⟨_, _, Nat.le_refl _, Nat.le_refl _, LC3⟩
            have hb_z0_LC3 : w.heap.size < lo_LC3 := by have := sp_z0_LC3.out; omega
            have hb_z1_LC3 : w.heap.size + 1 < lo_LC3 := by have := sp_z1_LC3.out; omega
            have hw_LC3 : w.heap.size ≤ lo_LC3 := by have := lw_LC3.out; omega
            have ltL_z2L : hi_L ≤ w4.heap.size := L.out.top
            have ltL_z2L2 : hi_L2 ≤ w4.heap.size := L2.out.top
            have ltL_z2LC3 : hi_LC3 ≤ w4.heap.size := LC3.out.top
            have lt_z2z0 := B_z0.out.lt
            have lt_z2z1 := B_z1.out.lt
            obtain ⟨bb, B_z2⟩ := box1 w4 24 #[.int .i64 X, .int .i64 Y, .slice AC3 cs.length cC3]
            replace bb := bb.out
            replace B_z0 := mv B_z0 bb
            replace B_z1 := mv B_z1 bb
            replace L := Lib.hid (PL.below L.out bb)
            replace L2 := Lib.hid (PL.below L2.out bb)
            replace LC3 := Lib.hid (PL.below LC3.out bb)
            replace HB := nx HB bb
            clear bb
            go_upto_region 4 with (fail)
            generalize w4.alloc (.cells #[.int .i64 X, .int .i64 Y, .slice AC3 cs.length cC3] 24) = WN3x106 at *
            obtain ⟨c0z0, c1z0, c2z0⟩ := cells3 B_z0
            obtain ⟨c0z1, c1z1, c2z1⟩ := cells3 B_z1
            have sp_z0_LC4 : Hid (w.heap.size < WN3x106.heap.size) := B_z0.out.lt
            have sp_z1_LC4 : Hid (w.heap.size + 1 < WN3x106.heap.size) := B_z1.out.lt
            have sp_z2_LC4 : Hid (w4.heap.size < WN3x106.heap.size) := B_z2.out.lt
            have lw_LC4 : Hid (w.heap.size ≤ WN3x106.heap.size) := HB.out.size
            go_wp2_with fail
            refine (RSuY.out _ _ _ _ _ (PL.below L.out (by exact sm)) (PL.below L2.out (by exact sm))).mono ?_
            clear c0z0 c1z0 c2z0 c0z1 c1z1 c2z1
            rintro e w5 ⟨AC4, cC4, rfl, LC4, bb⟩
            replace bb := nextw (w0 := WN3x106) (by exact sm) bb
            replace B_z0 := mv B_z0 bb
            replace B_z1 := mv B_z1 bb
            replace B_z2 := mv B_z2 bb
            replace L := Lib.hid (PL.below L.out bb)
            replace L2 := Lib.hid (PL.below L2.out bb)
            replace LC3 := Lib.hid (PL.below LC3.out bb)
            replace HB := nx HB bb
            clear bb
            replace LC4 := Lib.hid LC4
            obtain ⟨lo_LC4, hi_LC4, hlo_LC4, hhi_LC4, LC4⟩ : ∃ lo hi, WN3x106.heap.size ≤ lo ∧ hi ≤ w5.heap.size ∧ Hid (PL w5 lo hi AC4 cs.length cC4 cs) := ⟨_, _, Nat.le_refl _, Nat.le_refl _, LC4⟩
            have hb_z0_LC4 : w.heap.size < lo_LC4 := by have := sp_z0_LC4.out; omega
            have hb_z1_LC4 : w.heap.size + 1 < lo_LC4 := by have := sp_z1_LC4.out; omega
            have hb_z2_LC4 : w4.heap.size < lo_LC4 := by have := sp_z2_LC4.out; omega
            have hw_LC4 : w.heap.size ≤ lo_LC4 := by have := lw_LC4.out; omega
            have ltL_z3L : hi_L ≤ w5.heap.size := L.out.top
            have ltL_z3L2 : hi_L2 ≤ w5.heap.size := L2.out.top
            have ltL_z3LC3 : hi_LC3 ≤ w5.heap.size := LC3.out.top
            have ltL_z3LC4 : hi_LC4 ≤ w5.heap.size := LC4.out.top
            have lt_z3z0 := B_z0.out.lt
            have lt_z3z1 := B_z1.out.lt
            have lt_z3z2 := B_z2.out.lt
            obtain ⟨bb, B_z3⟩ := box1 w5 24 #[.int .i64 X, .int .i64 Y, .slice AC4 cs.length cC4]
            replace bb := bb.out
            replace B_z0 := mv B_z0 bb
            replace B_z1 := mv B_z1 bb
            replace B_z2 := mv B_z2 bb
            replace L := Lib.hid (PL.below L.out bb)
            replace L2 := Lib.hid (PL.below L2.out bb)
            replace LC3 := Lib.hid (PL.below LC3.out bb)
            replace LC4 := Lib.hid (PL.below LC4.out bb)
            replace HB := nx HB bb
            clear bb
            go_upto_region 5 with (fail)
            generalize w5.alloc (.cells #[.int .i64 X, .int .i64 Y, .slice AC4 cs.length cC4] 24) = WN4x147 at *
            obtain ⟨c0z2, c1z2, c2z2⟩ := cells3 B_z2
            obtain ⟨c0z3, c1z3, c2z3⟩ := cells3 B_z3
            go_wp2_with fail
            refine (zonS _ X Y cs (by omega) (PL.below LC3.out (by exact sm)) (PL.below LC4.out (by exact sm))).mono ?_
            clear c0z2 c1z2 c2z2 c0z3 c1z3 c2z3
            rintro e w6 ⟨rfl, bb⟩
            replace bb := nextw (w0 := WN4x147) (by exact sm) bb
            replace B_z0 := mv B_z0 bb
            replace B_z1 := mv B_z1 bb
            replace B_z2 := mv B_z2 bb
            replace B_z3 := mv B_z3 bb
            replace L := Lib.hid (PL.below L.out bb)
            replace L2 := Lib.hid (PL.below L2.out bb)
            replace LC3 := Lib.hid (PL.below LC3.out bb)
            replace LC4 := Lib.hid (PL.below LC4.out bb)
            replace HB := nx HB bb
            clear bb
            obtain ⟨c0z0, c1z0, c2z0⟩ := cells3 B_z0
            have sp_z0_LC6 : Hid (w.heap.size < w6.heap.size) := B_z0.out.lt
            have sp_z1_LC6 : Hid (w.heap.size + 1 < w6.heap.size) := B_z1.out.lt
            have sp_z2_LC6 : Hid (w4.heap.size < w6.heap.size) := B_z2.out.lt
            have sp_z3_LC6 : Hid (w5.heap.size < w6.heap.size) := B_z3.out.lt
            have lw_LC6 : Hid (w.heap.size ≤ w6.heap.size) := HB.out.size
            go_wp2_with fail
            refine (RCcA.out _ _ _ (PL.below L.out (by exact sm))).mono ?_
            clear c0z0 c1z0 c2z0
            rintro e w7 ⟨AC6, cC6, rfl, LC6, bb⟩
            replace bb := nextw (w0 := w6) (by exact sm) bb
            replace B_z0 := mv B_z0 bb
            replace B_z1 := mv B_z1 bb
            replace B_z2 := mv B_z2 bb
            replace B_z3 := mv B_z3 bb
            replace L := Lib.hid (PL.below L.out bb)
            replace L2 := Lib.hid (PL.below L2.out bb)
            replace LC3 := Lib.hid (PL.below LC3.out bb)
            replace LC4 := Lib.hid (PL.below LC4.out bb)
            replace HB := nx HB bb
            clear bb
            replace LC6 := Lib.hid LC6
            obtain ⟨lo_LC6, hi_LC6, hlo_LC6, hhi_LC6, LC6⟩ : ∃ lo hi, w6.heap.size ≤ lo ∧ hi ≤ w7.heap.size ∧ Hid (PL w7 lo hi AC6 cA.length cC6 cA) := ⟨_, _, Nat.le_refl _, Nat.le_refl _, LC6⟩
            have hb_z0_LC6 : w.heap.size < lo_LC6 := by have := sp_z0_LC6.out; omega
            have hb_z1_LC6 : w.heap.size + 1 < lo_LC6 := by have := sp_z1_LC6.out; omega
            have hb_z2_LC6 : w4.heap.size < lo_LC6 := by have := sp_z2_LC6.out; omega
            have hb_z3_LC6 : w5.heap.size < lo_LC6 := by have := sp_z3_LC6.out; omega
            have hw_LC6 : w.heap.size ≤ lo_LC6 := by have := lw_LC6.out; omega
            have hA0 : ¬ (((cA.length : Nat) : Int) = 0) := by omega
            have hA1 : ¬ (cA.length = 0) := by omega
            have hmA : iN % cA.length < cA.length := Nat.mod_lt _ (by omega)
            have hlq0LC6 : (iN % cA.length) < cA.length := Nat.mod_lt _ (by omega)
            obtain ⟨g_LC6, o_LC6, eA_LC6, -, -, -⟩ := LC6.out.elem hlq0LC6
            subst eA_LC6
            obtain ⟨⟨x_q0LC6, y_q0LC6⟩, hpq0LC6⟩ : ∃ q, cA.getD (iN % cA.length) z2 = q := ⟨_, rfl⟩
            have HPq0LC6 := Lib.hid hpq0LC6
            have HLq0LC6 := Lib.hid hlq0LC6
            have hmq0LC6 : (x_q0LC6, y_q0LC6) ∈ cA := by rw [← hpq0LC6]; exact getD_mem (by have := LC6.out.len; omega)
            clear hpq0LC6 hlq0LC6
            have bdq0LC6 := HLBcA.out _ hmq0LC6
            have bd1q0LC6 := bdq0LC6.1.1
            have bd2q0LC6 := bdq0LC6.1.2
            have bd3q0LC6 := bdq0LC6.2.1
            have bd4q0LC6 := bdq0LC6.2.2
            dsimp only at bd1q0LC6 bd2q0LC6 bd3q0LC6 bd4q0LC6
            clear bdq0LC6
            obtain ⟨c0z1, c1z1, c2z1⟩ := cells3 B_z1
            have sp_z0_LC7 : Hid (w.heap.size < w7.heap.size) := B_z0.out.lt
            have sp_z1_LC7 : Hid (w.heap.size + 1 < w7.heap.size) := B_z1.out.lt
            have sp_z2_LC7 : Hid (w4.heap.size < w7.heap.size) := B_z2.out.lt
            have sp_z3_LC7 : Hid (w5.heap.size < w7.heap.size) := B_z3.out.lt
            have lw_LC7 : Hid (w.heap.size ≤ w7.heap.size) := HB.out.size
            go_wp2_with fail
            refine (RCcB.out _ _ _ (PL.below L2.out (by exact sm))).mono ?_
            clear c0z1 c1z1 c2z1
            rintro e w8 ⟨AC7, cC7, rfl, LC7, bb⟩
            replace bb := nextw (w0 := w7) (by exact sm) bb
            replace B_z0 := mv B_z0 bb
            replace B_z1 := mv B_z1 bb
            replace B_z2 := mv B_z2 bb
            replace B_z3 := mv B_z3 bb
            replace L := Lib.hid (PL.below L.out bb)
            replace L2 := Lib.hid (PL.below L2.out bb)
            replace LC3 := Lib.hid (PL.below LC3.out bb)
            replace LC4 := Lib.hid (PL.below LC4.out bb)
            replace LC6 := Lib.hid (PL.below LC6.out bb)
            replace HB := nx HB bb
            clear bb
            replace LC7 := Lib.hid LC7
            obtain ⟨lo_LC7, hi_LC7, hlo_LC7, hhi_LC7, LC7⟩ : ∃ lo hi, w7.heap.size ≤ lo ∧ hi ≤ w8.heap.size ∧ Hid (PL w8 lo hi AC7 cB.length cC7 cB) := ⟨_, _, Nat.le_refl _, Nat.le_refl _, LC7⟩
            have hb_z0_LC7 : w.heap.size < lo_LC7 := by have := sp_z0_LC7.out; omega
            have hb_z1_LC7 : w.heap.size + 1 < lo_LC7 := by have := sp_z1_LC7.out; omega
            have hb_z2_LC7 : w4.heap.size < lo_LC7 := by have := sp_z2_LC7.out; omega
            have hb_z3_LC7 : w5.heap.size < lo_LC7 := by have := sp_z3_LC7.out; omega
            have hw_LC7 : w.heap.size ≤ lo_LC7 := by have := lw_LC7.out; omega
            have hB0 : ¬ (((cB.length : Nat) : Int) = 0) := by omega
            have hB1 : ¬ (cB.length = 0) := by omega
            have hmB : iN / 8 % cB.length < cB.length := Nat.mod_lt _ (by omega)
            have hmC : (0 : Int) ≤ ((iN : Nat) : Int) / 8 % ((cB.length : Nat) : Int) := Int.emod_nonneg _ (by omega)
            have hmD : ((iN : Nat) : Int) / 8 % ((cB.length : Nat) : Int) < ((cB.length : Nat) : Int) := Int.emod_lt_of_pos _ (by omega)
            have hmE : (((iN : Nat) : Int) / 8 % ((cB.length : Nat) : Int)).toNat = iN / 8 % cB.length := by rw [show ((iN : Nat) : Int) / 8 % ((cB.length : Nat) : Int) = ((iN / 8 % cB.length : Nat) : Int) from rfl]; rfl
            have hlq1LC7 : (iN / 8 % cB.length) < cB.length := Nat.mod_lt _ (by omega)
            obtain ⟨g_LC7, o_LC7, eA_LC7, -, -, -⟩ := LC7.out.elem hlq1LC7
            subst eA_LC7
            obtain ⟨⟨x_q1LC7, y_q1LC7⟩, hpq1LC7⟩ : ∃ q, cB.getD (iN / 8 % cB.length) z2 = q := ⟨_, rfl⟩
            have HPq1LC7 := Lib.hid hpq1LC7
            have HLq1LC7 := Lib.hid hlq1LC7
            have hmq1LC7 : (x_q1LC7, y_q1LC7) ∈ cB := by rw [← hpq1LC7]; exact getD_mem (by have := LC7.out.len; omega)
            clear hpq1LC7 hlq1LC7
            have bdq1LC7 := HLBcB.out _ hmq1LC7
            have bd1q1LC7 := bdq1LC7.1.1
            have bd2q1LC7 := bdq1LC7.1.2
            have bd3q1LC7 := bdq1LC7.2.1
            have bd4q1LC7 := bdq1LC7.2.2
            dsimp only at bd1q1LC7 bd2q1LC7 bd3q1LC7 bd4q1LC7
            clear bdq1LC7
            have e0q0LC6 : w8.cell? ⟨g_LC6, o_LC6 + (iN % cA.length) * 2, none⟩ = some (.int .i64 x_q0LC6) := (PL.el LC6.out HLq0LC6.out HPq0LC6.out).1
            have e1q0LC6 : w8.cell? ⟨g_LC6, o_LC6 + (iN % cA.length) * 2 + 1, none⟩ = some (.int .i64 y_q0LC6) := (PL.el LC6.out HLq0LC6.out HPq0LC6.out).2
            have ltL_z4L : hi_L ≤ w8.heap.size := L.out.top
            have ltL_z4L2 : hi_L2 ≤ w8.heap.size := L2.out.top
            have ltL_z4LC3 : hi_LC3 ≤ w8.heap.size := LC3.out.top
            have ltL_z4LC4 : hi_LC4 ≤ w8.heap.size := LC4.out.top
            have ltL_z4LC6 : hi_LC6 ≤ w8.heap.size := LC6.out.top
            have ltL_z4LC7 : hi_LC7 ≤ w8.heap.size := LC7.out.top
            have lt_z4z0 := B_z0.out.lt
            have lt_z4z1 := B_z1.out.lt
            have lt_z4z2 := B_z2.out.lt
            have lt_z4z3 := B_z3.out.lt
            obtain ⟨bb, B_z4⟩ := box1 w8 39 #[.int .i64 x_q0LC6, .int .i64 y_q0LC6]
            replace bb := bb.out
            replace B_z0 := mv B_z0 bb
            replace B_z1 := mv B_z1 bb
            replace B_z2 := mv B_z2 bb
            replace B_z3 := mv B_z3 bb
            replace L := Lib.hid (PL.below L.out bb)
            replace L2 := Lib.hid (PL.below L2.out bb)
            replace LC3 := Lib.hid (PL.below LC3.out bb)
            replace LC4 := Lib.hid (PL.below LC4.out bb)
            replace LC6 := Lib.hid (PL.below LC6.out bb)
            replace LC7 := Lib.hid (PL.below LC7.out bb)
            replace HB := nx HB bb
            clear bb
            go_upto_region 12 with (fail)
            clear e0q0LC6 e1q0LC6
            generalize w8.alloc (.cells #[.int .i64 x_q0LC6, .int .i64 y_q0LC6] 39) = WN11x282 at *
            have e0q1LC7 : WN11x282.cell? ⟨g_LC7, o_LC7 + (iN / 8 % cB.length) * 2, none⟩ = some (.int .i64 x_q1LC7) := (PL.el LC7.out HLq1LC7.out HPq1LC7.out).1
            have e1q1LC7 : WN11x282.cell? ⟨g_LC7, o_LC7 + (iN / 8 % cB.length) * 2 + 1, none⟩ = some (.int .i64 y_q1LC7) := (PL.el LC7.out HLq1LC7.out HPq1LC7.out).2
            have ltL_z5L : hi_L ≤ WN11x282.heap.size := L.out.top
            have ltL_z5L2 : hi_L2 ≤ WN11x282.heap.size := L2.out.top
            have ltL_z5LC3 : hi_LC3 ≤ WN11x282.heap.size := LC3.out.top
            have ltL_z5LC4 : hi_LC4 ≤ WN11x282.heap.size := LC4.out.top
            have ltL_z5LC6 : hi_LC6 ≤ WN11x282.heap.size := LC6.out.top
            have ltL_z5LC7 : hi_LC7 ≤ WN11x282.heap.size := LC7.out.top
            have lt_z5z0 := B_z0.out.lt
            have lt_z5z1 := B_z1.out.lt
            have lt_z5z2 := B_z2.out.lt
            have lt_z5z3 := B_z3.out.lt
            have lt_z5z4 := B_z4.out.lt
            obtain ⟨bb, B_z5⟩ := box1 WN11x282 39 #[.int .i64 x_q1LC7, .int .i64 y_q1LC7]
            replace bb := bb.out
            replace B_z0 := mv B_z0 bb
            replace B_z1 := mv B_z1 bb
            replace B_z2 := mv B_z2 bb
            replace B_z3 := mv B_z3 bb
            replace B_z4 := mv B_z4 bb
            replace L := Lib.hid (PL.below L.out bb)
            replace L2 := Lib.hid (PL.below L2.out bb)
            replace LC3 := Lib.hid (PL.below LC3.out bb)
            replace LC4 := Lib.hid (PL.below LC4.out bb)
            replace LC6 := Lib.hid (PL.below LC6.out bb)
            replace LC7 := Lib.hid (PL.below LC7.out bb)
            replace HB := nx HB bb
            clear bb
            go_upto_region 13 with (fail)
            clear e0q1LC7 e1q1LC7
            generalize WN11x282.alloc (.cells #[.int .i64 x_q1LC7, .int .i64 y_q1LC7] 39) = WN12x311 at *
            obtain ⟨c0z2, c1z2, c2z2⟩ := cells3 B_z2
            obtain ⟨c0z4, c1z4⟩ := cells2 B_z4
            obtain ⟨c0z5, c1z5⟩ := cells2 B_z5
            go_wp2_with fail
            refine (Has_q X Y (x_q0LC6 + x_q1LC7) (y_q0LC6 + y_q1LC7) _ _ _ cs (by omega) _ (PL.below LC3.out (by exact sm))).mono ?_
            clear c0z2 c1z2 c2z2 c0z4 c1z4 c0z5 c1z5
            rintro e w9 ⟨rfl, bb⟩
            replace bb := nextw (w0 := WN12x311) (by exact sm) bb
            replace B_z0 := mv B_z0 bb
            replace B_z1 := mv B_z1 bb
            replace B_z2 := mv B_z2 bb
            replace B_z3 := mv B_z3 bb
            replace B_z4 := mv B_z4 bb
            replace B_z5 := mv B_z5 bb
            replace L := Lib.hid (PL.below L.out bb)
            replace L2 := Lib.hid (PL.below L2.out bb)
            replace LC3 := Lib.hid (PL.below LC3.out bb)
            replace LC4 := Lib.hid (PL.below LC4.out bb)
            replace LC6 := Lib.hid (PL.below LC6.out bb)
            replace LC7 := Lib.hid (PL.below LC7.out bb)
            replace HB := nx HB bb
            clear bb
            have HH : Hid (HasP X Y cs (x_q0LC6 + x_q1LC7) (y_q0LC6 + y_q1LC7)) := Lib.hid (HSH.out _ _ _ _ hmq0LC6 hmq1LC7)
            go_wp2
            go_ret
            exact ⟨rb (decide_eq_true HH.out), nextw HB.out (by exact sm)⟩
          · skip
            have hxl : Hid (OkZ x y l) := Lib.hid dd2
            have hul : Hid (OkZ u v l2) := Lib.hid dd3
            have hd3 : ¬ OkZ (x + u) (y + v) (canL (l ++ l2)) := by rw [hX, hY, hcs]; exact dd4
            have SuN := Lib.hid (fun (w : World) (lo hi lo2 hi2 : Nat) (M : PL w lo hi A n c l) (M2 : PL w lo2 hi2 A2 n2 c2 l2) => Sum_full x y A n c l u v A2 n2 c2 l2 (by omega) (by omega) dd2 dd3 hd3 w M M2)
            have RSuN := Lib.hid (fun (w : World) (lo hi lo2 hi2 : Nat) (M : PL w lo hi A n c l) (M2 : PL w lo2 hi2 A2 n2 c2 l2) => RSum_w3 x y u v A n c l A2 n2 c2 l2 (by omega) (by omega) dd2 dd3 hd3 w M M2)
            have hsl : cs.length ≤ 80 := by rw [← hcs]; have h1 := can_len (l ++ l2) _ ((okz_sb dd2).app (okz_sb dd3)); have h2 := okz_len dd2; have h3 := okz_len dd3; rw [List.length_append] at h1; omega
            have H9 := Lib.hid (fun w => awake_w0 w)
            obtain ⟨HB, B_z0, B_z1⟩ := box2 w 24 #[.int .i64 x, .int .i64 y, .slice A n c] 24 #[.int .i64 u, .int .i64 v, .slice A2 n2 c2]
            replace L := Lib.hid (PL.below L.out HB.out)
            replace L2 := Lib.hid (PL.below L2.out HB.out)
            go_enter Try.func5, Try.ntmps5
            go_upto_region 1 with (fail)
            generalize (w.alloc (.cells #[.int .i64 x, .int .i64 y, .slice A n c] 24)).alloc (.cells #[.int .i64 u, .int .i64 v, .slice A2 n2 c2] 24) = W0 at *
            go_wp2_with fail
            refine (H9.out _).mono ?_
            rintro e w10 ⟨rfl, bb⟩
            replace bb := nextw (w0 := W0) (by exact sm) bb
            replace B_z0 := mv B_z0 bb
            replace B_z1 := mv B_z1 bb
            replace L := Lib.hid (PL.below L.out bb)
            replace L2 := Lib.hid (PL.below L2.out bb)
            replace HB := nx HB bb
            clear bb
            obtain ⟨c0z0, c1z0, c2z0⟩ := cells3 B_z0
            go_wp2_with fail
            refine (few_w0 x y _ _ _ l _ (PL.below L.out (by exact sm))).mono ?_
            clear c0z0 c1z0 c2z0
            rintro e w11 ⟨rfl, bb⟩
            replace bb := nextw (w0 := w10) (by exact sm) bb
            replace B_z0 := mv B_z0 bb
            replace B_z1 := mv B_z1 bb
            replace L := Lib.hid (PL.below L.out bb)
            replace L2 := Lib.hid (PL.below L2.out bb)
            replace HB := nx HB bb
            clear bb
            obtain ⟨c0z1, c1z1, c2z1⟩ := cells3 B_z1
            go_wp2_with fail
            refine (few_w0 u v _ _ _ l2 _ (PL.below L2.out (by exact sm))).mono ?_
            clear c0z1 c1z1 c2z1
            rintro e w12 ⟨rfl, bb⟩
            replace bb := nextw (w0 := w11) (by exact sm) bb
            replace B_z0 := mv B_z0 bb
            replace B_z1 := mv B_z1 bb
            replace L := Lib.hid (PL.below L.out bb)
            replace L2 := Lib.hid (PL.below L2.out bb)
            replace HB := nx HB bb
            clear bb
            obtain ⟨c0z0, c1z0, c2z0⟩ := cells3 B_z0
            obtain ⟨c0z1, c1z1, c2z1⟩ := cells3 B_z1
            go_wp2_with fail
            refine (SuN.out _ _ _ _ _ (PL.below L.out (by exact sm)) (PL.below L2.out (by exact sm))).mono ?_
            clear c0z0 c1z0 c2z0 c0z1 c1z1 c2z1
            rintro e w13 ⟨rfl, bb⟩
            replace bb := nextw (w0 := w12) (by exact sm) bb
            replace B_z0 := mv B_z0 bb
            replace B_z1 := mv B_z1 bb
            replace L := Lib.hid (PL.below L.out bb)
            replace L2 := Lib.hid (PL.below L2.out bb)
            replace HB := nx HB bb
            clear bb
            have ltL_z2L : hi_L ≤ w13.heap.size := L.out.top
            have ltL_z2L2 : hi_L2 ≤ w13.heap.size := L2.out.top
            have lt_z2z0 := B_z0.out.lt
            have lt_z2z1 := B_z1.out.lt
            obtain ⟨bb, B_z2⟩ := box1 w13 24 #[.int .i64 0, .int .i64 0, .slice none 0 0]
            replace bb := bb.out
            replace B_z0 := mv B_z0 bb
            replace B_z1 := mv B_z1 bb
            replace L := Lib.hid (PL.below L.out bb)
            replace L2 := Lib.hid (PL.below L2.out bb)
            replace HB := nx HB bb
            clear bb
            go_upto_region 4 with (fail)
            generalize w13.alloc (.cells #[.int .i64 0, .int .i64 0, .slice none 0 0] 24) = WN3x427 at *
            obtain ⟨c0z0, c1z0, c2z0⟩ := cells3 B_z0
            obtain ⟨c0z1, c1z1, c2z1⟩ := cells3 B_z1
            go_wp2_with fail
            refine (RSuN.out _ _ _ _ _ (PL.below L.out (by exact sm)) (PL.below L2.out (by exact sm))).mono ?_
            clear c0z0 c1z0 c2z0 c0z1 c1z1 c2z1
            rintro e w14 ⟨rfl, bb⟩
            replace bb := nextw (w0 := WN3x427) (by exact sm) bb
            replace B_z0 := mv B_z0 bb
            replace B_z1 := mv B_z1 bb
            replace B_z2 := mv B_z2 bb
            replace L := Lib.hid (PL.below L.out bb)
            replace L2 := Lib.hid (PL.below L2.out bb)
            replace HB := nx HB bb
            clear bb
            have ltL_z3L : hi_L ≤ w14.heap.size := L.out.top
            have ltL_z3L2 : hi_L2 ≤ w14.heap.size := L2.out.top
            have lt_z3z0 := B_z0.out.lt
            have lt_z3z1 := B_z1.out.lt
            have lt_z3z2 := B_z2.out.lt
            obtain ⟨bb, B_z3⟩ := box1 w14 24 #[.int .i64 0, .int .i64 0, .slice none 0 0]
            replace bb := bb.out
            replace B_z0 := mv B_z0 bb
            replace B_z1 := mv B_z1 bb
            replace B_z2 := mv B_z2 bb
            replace L := Lib.hid (PL.below L.out bb)
            replace L2 := Lib.hid (PL.below L2.out bb)
            replace HB := nx HB bb
            clear bb
            go_upto_region 5 with (fail)
            generalize w14.alloc (.cells #[.int .i64 0, .int .i64 0, .slice none 0 0] 24) = WN4x455 at *
            obtain ⟨c0z2, c1z2, c2z2⟩ := cells3 B_z2
            obtain ⟨c0z3, c1z3, c2z3⟩ := cells3 B_z3
            go_wp2_with fail
            refine (zonN _).mono ?_
            clear c0z2 c1z2 c2z2 c0z3 c1z3 c2z3
            rintro e w15 ⟨rfl, bb⟩
            replace bb := nextw (w0 := WN4x455) (by exact sm) bb
            replace B_z0 := mv B_z0 bb
            replace B_z1 := mv B_z1 bb
            replace B_z2 := mv B_z2 bb
            replace B_z3 := mv B_z3 bb
            replace L := Lib.hid (PL.below L.out bb)
            replace L2 := Lib.hid (PL.below L2.out bb)
            replace HB := nx HB bb
            clear bb
            go_wp2
            go_ret
            exact ⟨rfl, nextw HB.out (by exact sm)⟩
        · skip
          have H15 := Lib.hid (fun w => awake_w0 w)
          obtain ⟨HB, B_z0, B_z1⟩ := box2 w 24 #[.int .i64 x, .int .i64 y, .slice A n c] 24 #[.int .i64 u, .int .i64 v, .slice A2 n2 c2]
          replace L := Lib.hid (PL.below L.out HB.out)
          replace L2 := Lib.hid (PL.below L2.out HB.out)
          go_enter Try.func5, Try.ntmps5
          go_upto_region 1 with (fail)
          generalize (w.alloc (.cells #[.int .i64 x, .int .i64 y, .slice A n c] 24)).alloc (.cells #[.int .i64 u, .int .i64 v, .slice A2 n2 c2] 24) = W0 at *
          go_wp2_with fail
          refine (H15.out _).mono ?_
          rintro e w16 ⟨rfl, bb⟩
          replace bb := nextw (w0 := W0) (by exact sm) bb
          replace B_z0 := mv B_z0 bb
          replace B_z1 := mv B_z1 bb
          replace L := Lib.hid (PL.below L.out bb)
          replace L2 := Lib.hid (PL.below L2.out bb)
          replace HB := nx HB bb
          clear bb
          obtain ⟨c0z0, c1z0, c2z0⟩ := cells3 B_z0
          go_wp2_with fail
          refine (few_w0 x y _ _ _ l _ (PL.below L.out (by exact sm))).mono ?_
          clear c0z0 c1z0 c2z0
          rintro e w17 ⟨rfl, bb⟩
          replace bb := nextw (w0 := w16) (by exact sm) bb
          replace B_z0 := mv B_z0 bb
          replace B_z1 := mv B_z1 bb
          replace L := Lib.hid (PL.below L.out bb)
          replace L2 := Lib.hid (PL.below L2.out bb)
          replace HB := nx HB bb
          clear bb
          obtain ⟨c0z1, c1z1, c2z1⟩ := cells3 B_z1
          go_wp2_with fail
          refine (few_w0 u v _ _ _ l2 _ (PL.below L2.out (by exact sm))).mono ?_
          clear c0z1 c1z1 c2z1
          rintro e w18 ⟨rfl, bb⟩
          replace bb := nextw (w0 := w17) (by exact sm) bb
          replace B_z0 := mv B_z0 bb
          replace B_z1 := mv B_z1 bb
          replace L := Lib.hid (PL.below L.out bb)
          replace L2 := Lib.hid (PL.below L2.out bb)
          replace HB := nx HB bb
          clear bb
          obtain ⟨c0z0, c1z0, c2z0⟩ := cells3 B_z0
          obtain ⟨c0z1, c1z1, c2z1⟩ := cells3 B_z1
          go_wp2_with fail
          refine (Sum_w2 x y u v A n c l A2 n2 c2 l2 (by omega) (by omega) dd2 dd3 _ (PL.below L.out (by exact sm)) (PL.below L2.out (by exact sm))).mono ?_
          clear c0z0 c1z0 c2z0 c0z1 c1z1 c2z1
          rintro e w19 ⟨rfl, bb⟩
          replace bb := nextw (w0 := w18) (by exact sm) bb
          replace B_z0 := mv B_z0 bb
          replace B_z1 := mv B_z1 bb
          replace L := Lib.hid (PL.below L.out bb)
          replace L2 := Lib.hid (PL.below L2.out bb)
          replace HB := nx HB bb
          clear bb
          have ltL_z2L : hi_L ≤ w19.heap.size := L.out.top
          have ltL_z2L2 : hi_L2 ≤ w19.heap.size := L2.out.top
          have lt_z2z0 := B_z0.out.lt
          have lt_z2z1 := B_z1.out.lt
          obtain ⟨bb, B_z2⟩ := box1 w19 24 #[.int .i64 0, .int .i64 0, .slice none 0 0]
          replace bb := bb.out
          replace B_z0 := mv B_z0 bb
          replace B_z1 := mv B_z1 bb
          replace L := Lib.hid (PL.below L.out bb)
          replace L2 := Lib.hid (PL.below L2.out bb)
          replace HB := nx HB bb
          clear bb
          go_upto_region 4 with (fail)
          generalize w19.alloc (.cells #[.int .i64 0, .int .i64 0, .slice none 0 0] 24) = WN3x544 at *
          obtain ⟨c0z0, c1z0, c2z0⟩ := cells3 B_z0
          obtain ⟨c0z1, c1z1, c2z1⟩ := cells3 B_z1
          go_wp2_with fail
          refine (RSum_w2 x y u v A n c l A2 n2 c2 l2 (by omega) (by omega) dd2 dd3 _ (PL.below L.out (by exact sm)) (PL.below L2.out (by exact sm))).mono ?_
          clear c0z0 c1z0 c2z0 c0z1 c1z1 c2z1
          rintro e w20 ⟨rfl, bb⟩
          replace bb := nextw (w0 := WN3x544) (by exact sm) bb
          replace B_z0 := mv B_z0 bb
          replace B_z1 := mv B_z1 bb
          replace B_z2 := mv B_z2 bb
          replace L := Lib.hid (PL.below L.out bb)
          replace L2 := Lib.hid (PL.below L2.out bb)
          replace HB := nx HB bb
          clear bb
          have ltL_z3L : hi_L ≤ w20.heap.size := L.out.top
          have ltL_z3L2 : hi_L2 ≤ w20.heap.size := L2.out.top
          have lt_z3z0 := B_z0.out.lt
          have lt_z3z1 := B_z1.out.lt
          have lt_z3z2 := B_z2.out.lt
          obtain ⟨bb, B_z3⟩ := box1 w20 24 #[.int .i64 0, .int .i64 0, .slice none 0 0]
          replace bb := bb.out
          replace B_z0 := mv B_z0 bb
          replace B_z1 := mv B_z1 bb
          replace B_z2 := mv B_z2 bb
          replace L := Lib.hid (PL.below L.out bb)
          replace L2 := Lib.hid (PL.below L2.out bb)
          replace HB := nx HB bb
          clear bb
          go_upto_region 5 with (fail)
          generalize w20.alloc (.cells #[.int .i64 0, .int .i64 0, .slice none 0 0] 24) = WN4x572 at *
          obtain ⟨c0z2, c1z2, c2z2⟩ := cells3 B_z2
          obtain ⟨c0z3, c1z3, c2z3⟩ := cells3 B_z3
          go_wp2_with fail
          refine (zonN _).mono ?_
          clear c0z2 c1z2 c2z2 c0z3 c1z3 c2z3
          rintro e w21 ⟨rfl, bb⟩
          replace bb := nextw (w0 := WN4x572) (by exact sm) bb
          replace B_z0 := mv B_z0 bb
          replace B_z1 := mv B_z1 bb
          replace B_z2 := mv B_z2 bb
          replace B_z3 := mv B_z3 bb
          replace L := Lib.hid (PL.below L.out bb)
          replace L2 := Lib.hid (PL.below L2.out bb)
          replace HB := nx HB bb
          clear bb
          go_wp2
          go_ret
          exact ⟨rfl, nextw HB.out (by exact sm)⟩
      · skip
        have H21 := Lib.hid (fun w => awake_w0 w)
        obtain ⟨HB, B_z0, B_z1⟩ := box2 w 24 #[.int .i64 x, .int .i64 y, .slice A n c] 24 #[.int .i64 u, .int .i64 v, .slice A2 n2 c2]
        replace L := Lib.hid (PL.below L.out HB.out)
        replace L2 := Lib.hid (PL.below L2.out HB.out)
        go_enter Try.func5, Try.ntmps5
        go_upto_region 1 with (fail)
        generalize (w.alloc (.cells #[.int .i64 x, .int .i64 y, .slice A n c] 24)).alloc (.cells #[.int .i64 u, .int .i64 v, .slice A2 n2 c2] 24) = W0 at *
        go_wp2_with fail
        refine (H21.out _).mono ?_
        rintro e w22 ⟨rfl, bb⟩
        replace bb := nextw (w0 := W0) (by exact sm) bb
        replace B_z0 := mv B_z0 bb
        replace B_z1 := mv B_z1 bb
        replace L := Lib.hid (PL.below L.out bb)
        replace L2 := Lib.hid (PL.below L2.out bb)
        replace HB := nx HB bb
        clear bb
        obtain ⟨c0z0, c1z0, c2z0⟩ := cells3 B_z0
        go_wp2_with fail
        refine (few_w0 x y _ _ _ l _ (PL.below L.out (by exact sm))).mono ?_
        clear c0z0 c1z0 c2z0
        rintro e w23 ⟨rfl, bb⟩
        replace bb := nextw (w0 := w22) (by exact sm) bb
        replace B_z0 := mv B_z0 bb
        replace B_z1 := mv B_z1 bb
        replace L := Lib.hid (PL.below L.out bb)
        replace L2 := Lib.hid (PL.below L2.out bb)
        replace HB := nx HB bb
        clear bb
        obtain ⟨c0z1, c1z1, c2z1⟩ := cells3 B_z1
        go_wp2_with fail
        refine (few_w0 u v _ _ _ l2 _ (PL.below L2.out (by exact sm))).mono ?_
        clear c0z1 c1z1 c2z1
        rintro e w24 ⟨rfl, bb⟩
        replace bb := nextw (w0 := w23) (by exact sm) bb
        replace B_z0 := mv B_z0 bb
        replace B_z1 := mv B_z1 bb
        replace L := Lib.hid (PL.below L.out bb)
        replace L2 := Lib.hid (PL.below L2.out bb)
        replace HB := nx HB bb
        clear bb
        obtain ⟨c0z0, c1z0, c2z0⟩ := cells3 B_z0
        obtain ⟨c0z1, c1z1, c2z1⟩ := cells3 B_z1
        go_wp2_with fail
        refine (Sum_w1 x y u v A n c l A2 n2 c2 l2 (by omega) (by omega) dd2 _ (PL.below L.out (by exact sm)) (PL.below L2.out (by exact sm))).mono ?_
        clear c0z0 c1z0 c2z0 c0z1 c1z1 c2z1
        rintro e w25 ⟨rfl, bb⟩
        replace bb := nextw (w0 := w24) (by exact sm) bb
        replace B_z0 := mv B_z0 bb
        replace B_z1 := mv B_z1 bb
        replace L := Lib.hid (PL.below L.out bb)
        replace L2 := Lib.hid (PL.below L2.out bb)
        replace HB := nx HB bb
        clear bb
        have ltL_z2L : hi_L ≤ w25.heap.size := L.out.top
        have ltL_z2L2 : hi_L2 ≤ w25.heap.size := L2.out.top
        have lt_z2z0 := B_z0.out.lt
        have lt_z2z1 := B_z1.out.lt
        obtain ⟨bb, B_z2⟩ := box1 w25 24 #[.int .i64 0, .int .i64 0, .slice none 0 0]
        replace bb := bb.out
        replace B_z0 := mv B_z0 bb
        replace B_z1 := mv B_z1 bb
        replace L := Lib.hid (PL.below L.out bb)
        replace L2 := Lib.hid (PL.below L2.out bb)
        replace HB := nx HB bb
        clear bb
        go_upto_region 4 with (fail)
        generalize w25.alloc (.cells #[.int .i64 0, .int .i64 0, .slice none 0 0] 24) = WN3x661 at *
        obtain ⟨c0z0, c1z0, c2z0⟩ := cells3 B_z0
        obtain ⟨c0z1, c1z1, c2z1⟩ := cells3 B_z1
        go_wp2_with fail
        refine (RSum_w1 x y u v A n c l A2 n2 c2 l2 (by omega) (by omega) dd2 _ (PL.below L.out (by exact sm)) (PL.below L2.out (by exact sm))).mono ?_
        clear c0z0 c1z0 c2z0 c0z1 c1z1 c2z1
        rintro e w26 ⟨rfl, bb⟩
        replace bb := nextw (w0 := WN3x661) (by exact sm) bb
        replace B_z0 := mv B_z0 bb
        replace B_z1 := mv B_z1 bb
        replace B_z2 := mv B_z2 bb
        replace L := Lib.hid (PL.below L.out bb)
        replace L2 := Lib.hid (PL.below L2.out bb)
        replace HB := nx HB bb
        clear bb
        have ltL_z3L : hi_L ≤ w26.heap.size := L.out.top
        have ltL_z3L2 : hi_L2 ≤ w26.heap.size := L2.out.top
        have lt_z3z0 := B_z0.out.lt
        have lt_z3z1 := B_z1.out.lt
        have lt_z3z2 := B_z2.out.lt
        obtain ⟨bb, B_z3⟩ := box1 w26 24 #[.int .i64 0, .int .i64 0, .slice none 0 0]
        replace bb := bb.out
        replace B_z0 := mv B_z0 bb
        replace B_z1 := mv B_z1 bb
        replace B_z2 := mv B_z2 bb
        replace L := Lib.hid (PL.below L.out bb)
        replace L2 := Lib.hid (PL.below L2.out bb)
        replace HB := nx HB bb
        clear bb
        go_upto_region 5 with (fail)
        generalize w26.alloc (.cells #[.int .i64 0, .int .i64 0, .slice none 0 0] 24) = WN4x689 at *
        obtain ⟨c0z2, c1z2, c2z2⟩ := cells3 B_z2
        obtain ⟨c0z3, c1z3, c2z3⟩ := cells3 B_z3
        go_wp2_with fail
        refine (zonN _).mono ?_
        clear c0z2 c1z2 c2z2 c0z3 c1z3 c2z3
        rintro e w27 ⟨rfl, bb⟩
        replace bb := nextw (w0 := WN4x689) (by exact sm) bb
        replace B_z0 := mv B_z0 bb
        replace B_z1 := mv B_z1 bb
        replace B_z2 := mv B_z2 bb
        replace B_z3 := mv B_z3 bb
        replace L := Lib.hid (PL.below L.out bb)
        replace L2 := Lib.hid (PL.below L2.out bb)
        replace HB := nx HB bb
        clear bb
        go_wp2
        go_ret
        exact ⟨rfl, nextw HB.out (by exact sm)⟩
    · skip
      replace dd1 : 40 < ((n2 : Nat) : Int) := by omega
      have dd1n : ¬ (((n2 : Nat) : Int) ≤ 40) := by omega
      have dd1o : decide (((n2 : Nat) : Int) ≤ 40) = false := decide_eq_false dd1n
      have H27 := Lib.hid (fun w => awake_w0 w)
      have H30 := Lib.hid (fun w => awake_w0 w)
      obtain ⟨HB, B_z0, B_z1⟩ := box2 w 24 #[.int .i64 x, .int .i64 y, .slice A n c] 24 #[.int .i64 u, .int .i64 v, .slice A2 n2 c2]
      replace L := Lib.hid (PL.below L.out HB.out)
      replace L2 := Lib.hid (PL.below L2.out HB.out)
      go_enter Try.func5, Try.ntmps5
      go_upto_region 1 with (fail)
      generalize (w.alloc (.cells #[.int .i64 x, .int .i64 y, .slice A n c] 24)).alloc (.cells #[.int .i64 u, .int .i64 v, .slice A2 n2 c2] 24) = W0 at *
      go_wp2_with fail
      refine (H27.out _).mono ?_
      rintro e w28 ⟨rfl, bb⟩
      replace bb := nextw (w0 := W0) (by exact sm) bb
      replace B_z0 := mv B_z0 bb
      replace B_z1 := mv B_z1 bb
      replace L := Lib.hid (PL.below L.out bb)
      replace L2 := Lib.hid (PL.below L2.out bb)
      replace HB := nx HB bb
      clear bb
      obtain ⟨c0z0, c1z0, c2z0⟩ := cells3 B_z0
      go_wp2_with fail
      refine (few_w0 x y _ _ _ l _ (PL.below L.out (by exact sm))).mono ?_
      clear c0z0 c1z0 c2z0
      rintro e w29 ⟨rfl, bb⟩
      replace bb := nextw (w0 := w28) (by exact sm) bb
      replace B_z0 := mv B_z0 bb
      replace B_z1 := mv B_z1 bb
      replace L := Lib.hid (PL.below L.out bb)
      replace L2 := Lib.hid (PL.below L2.out bb)
      replace HB := nx HB bb
      clear bb
      obtain ⟨c0z1, c1z1, c2z1⟩ := cells3 B_z1
      go_wp2_with fail
      refine (few_w0 u v _ _ _ l2 _ (PL.below L2.out (by exact sm))).mono ?_
      clear c0z1 c1z1 c2z1
      rintro e w30 ⟨rfl, bb⟩
      replace bb := nextw (w0 := w29) (by exact sm) bb
      replace B_z0 := mv B_z0 bb
      replace B_z1 := mv B_z1 bb
      replace L := Lib.hid (PL.below L.out bb)
      replace L2 := Lib.hid (PL.below L2.out bb)
      replace HB := nx HB bb
      clear bb
      go_wp2_with fail
      refine (H30.out _).mono ?_
      rintro e w31 ⟨rfl, bb⟩
      replace bb := nextw (w0 := w30) (by exact sm) bb
      replace B_z0 := mv B_z0 bb
      replace B_z1 := mv B_z1 bb
      replace L := Lib.hid (PL.below L.out bb)
      replace L2 := Lib.hid (PL.below L2.out bb)
      replace HB := nx HB bb
      clear bb
      go_wp2
      go_ret
      exact ⟨rfl, nextw HB.out (by exact sm)⟩
  · skip
    replace dd0 : 40 < ((n : Nat) : Int) := by omega
    have dd0n : ¬ (((n : Nat) : Int) ≤ 40) := by omega
    have dd0o : decide (((n : Nat) : Int) ≤ 40) = false := decide_eq_false dd0n
    have H31 := Lib.hid (fun w => awake_w0 w)
    have H33 := Lib.hid (fun w => awake_w0 w)
    obtain ⟨HB, B_z0, B_z1⟩ := box2 w 24 #[.int .i64 x, .int .i64 y, .slice A n c] 24 #[.int .i64 u, .int .i64 v, .slice A2 n2 c2]
    replace L := Lib.hid (PL.below L.out HB.out)
    replace L2 := Lib.hid (PL.below L2.out HB.out)
    go_enter Try.func5, Try.ntmps5
    go_upto_region 1 with (fail)
    generalize (w.alloc (.cells #[.int .i64 x, .int .i64 y, .slice A n c] 24)).alloc (.cells #[.int .i64 u, .int .i64 v, .slice A2 n2 c2] 24) = W0 at *
    go_wp2_with fail
    refine (H31.out _).mono ?_
    rintro e w32 ⟨rfl, bb⟩
    replace bb := nextw (w0 := W0) (by exact sm) bb
    replace B_z0 := mv B_z0 bb
    replace B_z1 := mv B_z1 bb
    replace L := Lib.hid (PL.below L.out bb)
    replace L2 := Lib.hid (PL.below L2.out bb)
    replace HB := nx HB bb
    clear bb
    obtain ⟨c0z0, c1z0, c2z0⟩ := cells3 B_z0
    go_wp2_with fail
    refine (few_w0 x y _ _ _ l _ (PL.below L.out (by exact sm))).mono ?_
    clear c0z0 c1z0 c2z0
    rintro e w33 ⟨rfl, bb⟩
    replace bb := nextw (w0 := w32) (by exact sm) bb
    replace B_z0 := mv B_z0 bb
    replace B_z1 := mv B_z1 bb
    replace L := Lib.hid (PL.below L.out bb)
    replace L2 := Lib.hid (PL.below L2.out bb)
    replace HB := nx HB bb
    clear bb
    go_wp2_with fail
    refine (H33.out _).mono ?_
    rintro e w34 ⟨rfl, bb⟩
    replace bb := nextw (w0 := w33) (by exact sm) bb
    replace B_z0 := mv B_z0 bb
    replace B_z1 := mv B_z1 bb
    replace L := Lib.hid (PL.below L.out bb)
    replace L2 := Lib.hid (PL.below L2.out bb)
    replace HB := nx HB bb
    clear bb
    go_wp2
    go_ret
    exact ⟨rfl, nextw HB.out (by exact sm)⟩

theorem Sums_any (x y u v i : Int) (hi : 0 ≤ i ∧ i ≤ 255) (A : Option Addr) (n c : Nat) (l : List P2) (A2 : Option Addr) (n2 c2 : Nat) (l2 : List P2) (w : World) {lo hi : Nat} (L : PL w lo hi A n c l) {lo2 hi2 : Nat} (L2 : PL w lo2 hi2 A2 n2 c2 l2) :
    Calls Try.prog 5 #[.agg #[.int .i64 x, .int .i64 y, .slice A n c], .agg #[.int .i64 u, .int .i64 v, .slice A2 n2 c2], .int .u8 i] w fun e w' => e = .returned (.bool true) ∧ Below w.heap.size w w' :=
  Sums_at x y u v i A n c l A2 n2 c2 l2 _ _ _ _ _ rfl rfl rfl rfl rfl i.toNat (by omega) (by omega) w L L2
end Go.Proofs.Ytpjbkadhmjlpfaa
