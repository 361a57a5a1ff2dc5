/- the law MatchesReference. -/
import Derived.Test.YtpjbkadhmjlpfaaZ44
set_option linter.unusedVariables false
set_option linter.unusedSimpArgs false
namespace Go.Proofs.Ytpjbkadhmjlpfaa
open Go Go.RowKit Hd

set_option maxRecDepth 100000 in
set_option maxHeartbeats 4000000 in
theorem LMatch_w0 (x y : Int) (A : Option Addr) (n c : Nat) (l : List P2)  (b0 b1 b2 b3 AR : Int) (cn cl : List P2) (hb0 : x - spr l 1 0 = b0) (hb1 : y - spr l 0 1 = b1) (hb2 : x + spr l 1 0 = b2) (hb3 : y + spr l 0 1 = b3) (hAR : areaX x y l = AR) (hcn : canL l = cn) (hcl : cornL (x, y) (canL l) = cl) (dd0 : ((n : Nat) : Int) ≤ 40) (dd1 : OkZ x y l) (w : World) {lo_L hi_L : Nat} (L : PL w lo_L hi_L A n c l) :
    Calls Try.prog 3 #[.agg #[.int .i64 x, .int .i64 y, .slice A n c]] w fun e w' => e = .returned (.bool true) ∧ Below w.heap.size w w' := by
  replace L := Lib.hid L
  have H0 := Lib.hid (fun w => awake_w0 w)
  have dd1x1 := dd1.1.1
  have dd1x2 := dd1.1.2
  have dd1y1 := dd1.2.1.1
  have dd1y2 := dd1.2.1.2
  have NormY := Lib.hid (fun (w : World) (lo hi : Nat) (M : PL w lo hi A n c l) => Norm_w0 x y A n c l (by omega) dd1 w M)
  have RNormY := Lib.hid (fun (w : World) (lo hi : Nat) (M : PL w lo hi A n c l) => RNorm_w0 x y A n c l (by omega) dd1 w M)
  have BdY := Lib.hid (fun (w : World) (lo hi : Nat) (M : PL w lo hi A n c l) => Bounds_q A n c l (by omega) dd1 w M)
  have RBdY := Lib.hid (fun (w : World) (lo hi : Nat) (M : PL w lo hi A n c l) => RBounds_q A n c l (by omega) dd1 w M)
  have CoY := Lib.hid (fun (w : World) (lo hi : Nat) (M : PL w lo hi A n c l) => Corners_yes x y A n c l (by omega) dd1 w M)
  have RCoY := Lib.hid (fun (w : World) (lo hi : Nat) (M : PL w lo hi A n c l) => RCorners_w0 x y A n c l (by omega) dd1 w M)
  have HAR := Lib.hid (fun (w : World) (lo hi : Nat) (M : PL w lo hi A n c l) => Area_q x y A n c l (by omega) w M)
  have HRA := Lib.hid (fun (w : World) (lo hi : Nat) (M : PL w lo hi A n c l) => RArea_is x y A n c l (by omega) w M)
  have hnn : cn.length ≤ 16 := by rw [← hcn]; exact okz_cl dd1
  have hll : cl.length ≤ 1000 := by rw [← hcl]; exact corn_16 _ (Nat.le_trans (okz_cl dd1) (by decide))
  rw [hb0, hb1, hb2, hb3] at BdY RBdY
  rw [hAR] at HAR HRA
  rw [hcl] at CoY RCoY
  rw [hcn] at NormY RNormY
  clear hAR hb0 hb1 hb2 hb3 hcn hcl
  obtain ⟨HB, B_z0⟩ := box1 w 24 #[.int .i64 x, .int .i64 y, .slice A n c]
  replace L := Lib.hid (PL.below L.out HB.out)
  go_enter Try.func3, Try.ntmps3
  go_upto_region 1 with (fail)
  generalize w.alloc (.cells #[.int .i64 x, .int .i64 y, .slice A n c] 24) = W0 at *
  go_wp2_with fail
  refine (H0.out _).mono ?_
  rintro e w1 ⟨rfl, bb⟩
  replace bb := nextw (w0 := W0) (by exact sm) bb
  replace B_z0 := mv B_z0 bb
  replace L := Lib.hid (PL.below L.out bb)
  replace HB := nx HB bb
  clear bb
  obtain ⟨c0z0, c1z0, c2z0⟩ := cells3 B_z0
  go_wp2_with fail
  refine (few_w0 x y _ _ _ l _ (PL.below L.out (by exact sm))).mono ?_
  clear c0z0 c1z0 c2z0
  rintro e w2 ⟨rfl, bb⟩
  replace bb := nextw (w0 := w1) (by exact sm) bb
  replace B_z0 := mv B_z0 bb
  replace L := Lib.hid (PL.below L.out bb)
  replace HB := nx HB bb
  clear bb
  obtain ⟨c0z0, c1z0, c2z0⟩ := cells3 B_z0
  have sp_z0_LC2 : Hid (w.heap.size < w2.heap.size) := B_z0.out.lt
  have lw_LC2 : Hid (w.heap.size ≤ w2.heap.size) := HB.out.size
  go_wp2_with fail
  refine (NormY.out _ _ _ (PL.below L.out (by exact sm))).mono ?_
  clear c0z0 c1z0 c2z0
  rintro e w3 ⟨AC2, cC2, rfl, LC2, bb⟩
  replace bb := nextw (w0 := w2) (by exact sm) bb
  replace B_z0 := mv B_z0 bb
  replace L := Lib.hid (PL.below L.out bb)
  replace HB := nx HB bb
  clear bb
  replace LC2 := Lib.hid LC2
  have lt_z1z0 := B_z0.out.lt
  obtain ⟨bb, B_z1⟩ := box1 w3 24 #[.int .i64 x, .int .i64 y, .slice AC2 cn.length cC2]
  replace bb := bb.out
  replace B_z0 := mv B_z0 bb
  replace L := Lib.hid (PL.below L.out bb)
  replace LC2 := Lib.hid (PL.below LC2.out bb)
  replace HB := nx HB bb
  clear bb
  go_upto_region 4 with (fail)
  generalize w3.alloc (.cells #[.int .i64 x, .int .i64 y, .slice AC2 cn.length cC2] 24) = WN2 at *
  obtain ⟨c0z0, c1z0, c2z0⟩ := cells3 B_z0
  have sp_z0_LC3 : Hid (w.heap.size < WN2.heap.size) := B_z0.out.lt
  have sp_z1_LC3 : Hid (w3.heap.size < WN2.heap.size) := B_z1.out.lt
  have lw_LC3 : Hid (w.heap.size ≤ WN2.heap.size) := HB.out.size
  go_wp2_with fail
  refine (RNormY.out _ _ _ (PL.below L.out (by exact sm))).mono ?_
  clear c0z0 c1z0 c2z0
  rintro e w4 ⟨AC3, cC3, rfl, LC3, bb⟩
  replace bb := nextw (w0 := WN2) (by exact sm) bb
  replace B_z0 := mv B_z0 bb
  replace B_z1 := mv B_z1 bb
  replace L := Lib.hid (PL.below L.out bb)
  replace LC2 := Lib.hid (PL.below LC2.out bb)
  replace HB := nx HB bb
  clear bb
  replace LC3 := Lib.hid LC3
  have lt_z2z0 := B_z0.out.lt
  have lt_z2z1 := B_z1.out.lt
  obtain ⟨bb, B_z2⟩ := box1 w4 24 #[.int .i64 x, .int .i64 y, .slice AC3 cn.length cC3]
  replace bb := bb.out
  replace B_z0 := mv B_z0 bb
  replace B_z1 := mv B_z1 bb
  replace L := Lib.hid (PL.below L.out bb)
  replace LC2 := Lib.hid (PL.below LC2.out bb)
  replace LC3 := Lib.hid (PL.below LC3.out bb)
  replace HB := nx HB bb
  clear bb
  go_upto_region 5 with (fail)
  generalize w4.alloc (.cells #[.int .i64 x, .int .i64 y, .slice AC3 cn.length cC3] 24) = WN3 at *
  obtain ⟨c0z0, c1z0, c2z0⟩ := cells3 B_z0
  go_wp2_with fail
  refine (BdY.out _ _ _ (PL.below L.out (by exact sm))).mono ?_
  clear c0z0 c1z0 c2z0
  rintro e w5 ⟨rfl, bb⟩
  replace bb := nextw (w0 := WN3) (by exact sm) bb
  replace B_z0 := mv B_z0 bb
  replace B_z1 := mv B_z1 bb
  replace B_z2 := mv B_z2 bb
  replace L := Lib.hid (PL.below L.out bb)
  replace LC2 := Lib.hid (PL.below LC2.out bb)
  replace LC3 := Lib.hid (PL.below LC3.out bb)
  replace HB := nx HB bb
  clear bb
  have lt_z3z0 := B_z0.out.lt
  have lt_z3z1 := B_z1.out.lt
  have lt_z3z2 := B_z2.out.lt
  obtain ⟨bb, B_z3⟩ := box1 w5 31 #[.int .i64 b0, .int .i64 b1, .int .i64 b2, .int .i64 b3]
  replace bb := bb.out
  replace B_z0 := mv B_z0 bb
  replace B_z1 := mv B_z1 bb
  replace B_z2 := mv B_z2 bb
  replace L := Lib.hid (PL.below L.out bb)
  replace LC2 := Lib.hid (PL.below LC2.out bb)
  replace LC3 := Lib.hid (PL.below LC3.out bb)
  replace HB := nx HB bb
  clear bb
  go_upto_region 6 with (fail)
  generalize w5.alloc (.cells #[.int .i64 b0, .int .i64 b1, .int .i64 b2, .int .i64 b3] 31) = WN4 at *
  obtain ⟨c0z0, c1z0, c2z0⟩ := cells3 B_z0
  go_wp2_with fail
  refine (RBdY.out _ _ _ (PL.below L.out (by exact sm))).mono ?_
  clear c0z0 c1z0 c2z0
  rintro e w6 ⟨rfl, bb⟩
  replace bb := nextw (w0 := WN4) (by exact sm) bb
  replace B_z0 := mv B_z0 bb
  replace B_z1 := mv B_z1 bb
  replace B_z2 := mv B_z2 bb
  replace B_z3 := mv B_z3 bb
  replace L := Lib.hid (PL.below L.out bb)
  replace LC2 := Lib.hid (PL.below LC2.out bb)
  replace LC3 := Lib.hid (PL.below LC3.out bb)
  replace HB := nx HB bb
  clear bb
  have lt_z4z0 := B_z0.out.lt
  have lt_z4z1 := B_z1.out.lt
  have lt_z4z2 := B_z2.out.lt
  have lt_z4z3 := B_z3.out.lt
  obtain ⟨bb, B_z4⟩ := box1 w6 31 #[.int .i64 b0, .int .i64 b1, .int .i64 b2, .int .i64 b3]
  replace bb := bb.out
  replace B_z0 := mv B_z0 bb
  replace B_z1 := mv B_z1 bb
  replace B_z2 := mv B_z2 bb
  replace B_z3 := mv B_z3 bb
  replace L := Lib.hid (PL.below L.out bb)
  replace LC2 := Lib.hid (PL.below LC2.out bb)
  replace LC3 := Lib.hid (PL.below LC3.out bb)
  replace HB := nx HB bb
  clear bb
  go_upto_region 7 with (fail)
  generalize w6.alloc (.cells #[.int .i64 b0, .int .i64 b1, .int .i64 b2, .int .i64 b3] 31) = WN5 at *
  have sp_z0_LC11 : Hid (w.heap.size < WN5.heap.size) := B_z0.out.lt
  have sp_z1_LC11 : Hid (w3.heap.size < WN5.heap.size) := B_z1.out.lt
  have sp_z2_LC11 : Hid (w4.heap.size < WN5.heap.size) := B_z2.out.lt
  have sp_z3_LC11 : Hid (w5.heap.size < WN5.heap.size) := B_z3.out.lt
  have sp_z4_LC11 : Hid (w6.heap.size < WN5.heap.size) := B_z4.out.lt
  have lw_LC11 : Hid (w.heap.size ≤ WN5.heap.size) := HB.out.size
  have sp_z0_LC12 : Hid (w.heap.size < WN5.heap.size) := B_z0.out.lt
  have sp_z1_LC12 : Hid (w3.heap.size < WN5.heap.size) := B_z1.out.lt
  have sp_z2_LC12 : Hid (w4.heap.size < WN5.heap.size) := B_z2.out.lt
  have sp_z3_LC12 : Hid (w5.heap.size < WN5.heap.size) := B_z3.out.lt
  have sp_z4_LC12 : Hid (w6.heap.size < WN5.heap.size) := B_z4.out.lt
  have lw_LC12 : Hid (w.heap.size ≤ WN5.heap.size) := HB.out.size
  obtain ⟨c0z0, c1z0, c2z0⟩ := cells3 B_z0
  obtain ⟨c0z1, c1z1, c2z1⟩ := cells3 B_z1
  obtain ⟨c0z2, c1z2, c2z2⟩ := cells3 B_z2
  obtain ⟨c0z3, c1z3, c2z3, c3z3⟩ := cells4 B_z3
  obtain ⟨c0z4, c1z4, c2z4, c3z4⟩ := cells4 B_z4
  have tk1x0 : True := trivial
  go_region_held3 (fun w' => w'.cell? ⟨w.heap.size, 0, none⟩ = some (.int .i64 x) ∧ w'.cell? ⟨w.heap.size, 1, none⟩ = some (.int .i64 y) ∧ w'.cell? ⟨w.heap.size, 2, none⟩ = some (.slice A n c) ∧ w'.cell? ⟨w3.heap.size, 0, none⟩ = some (.int .i64 x) ∧ w'.cell? ⟨w3.heap.size, 1, none⟩ = some (.int .i64 y) ∧ w'.cell? ⟨w3.heap.size, 2, none⟩ = some (.slice AC2 cn.length cC2) ∧ w'.cell? ⟨w4.heap.size, 0, none⟩ = some (.int .i64 x) ∧ w'.cell? ⟨w4.heap.size, 1, none⟩ = some (.int .i64 y) ∧ w'.cell? ⟨w4.heap.size, 2, none⟩ = some (.slice AC3 cn.length cC3) ∧ w'.cell? ⟨w5.heap.size, 0, none⟩ = some (.int .i64 b0) ∧ w'.cell? ⟨w5.heap.size, 1, none⟩ = some (.int .i64 b1) ∧ w'.cell? ⟨w5.heap.size, 2, none⟩ = some (.int .i64 b2) ∧ w'.cell? ⟨w5.heap.size, 3, none⟩ = some (.int .i64 b3) ∧ w'.cell? ⟨w6.heap.size, 0, none⟩ = some (.int .i64 b0) ∧ w'.cell? ⟨w6.heap.size, 1, none⟩ = some (.int .i64 b1) ∧ w'.cell? ⟨w6.heap.size, 2, none⟩ = some (.int .i64 b2) ∧ w'.cell? ⟨w6.heap.size, 3, none⟩ = some (.int .i64 b3)) (((try dsimp only); (repeat' apply And.intro) <;> (first | (with_reducible assumption) | ((repeat (first | (with_reducible refine Eq.trans (cell_drew1 _ _) ?_) | (with_reducible refine Eq.trans (cell_far (by omega) _ _ _) ?_) | (with_reducible refine Eq.trans (World.cell?_alloc_lt _ _ _ (by first | (dsimp only; omega) | (simp only [World.size_alloc, World.size_setCell]; omega))) ?_))); with_reducible assumption) | assumption | go_keep)))
    (first
      | (clear tk1x0; go_at_call 19; refine (Valid_yes dd1 (by omega) _ (PL.below L.out (by exact sm))).mono ?_; rintro e w7 ⟨rfl, bb⟩; replace bb := nextw (w0 := WN5) (by exact sm) bb; replace B_z0 := mv B_z0 bb; replace B_z1 := mv B_z1 bb; replace B_z2 := mv B_z2 bb; replace B_z3 := mv B_z3 bb; replace B_z4 := mv B_z4 bb; replace L := Lib.hid (PL.below L.out bb); replace LC2 := Lib.hid (PL.below LC2.out bb); replace LC3 := Lib.hid (PL.below LC3.out bb); replace HB := nx HB bb; clear bb c0z0 c1z0 c2z0 c0z1 c1z1 c2z1 c0z2 c1z2 c2z2 c0z3 c1z3 c2z3 c3z3 c0z4 c1z4 c2z4 c3z4; have c0z0 : w7.cell? ⟨w.heap.size, 0, none⟩ = some (.int .i64 x) := B_z0.out.cell 0 rfl; have c1z0 : w7.cell? ⟨w.heap.size, 1, none⟩ = some (.int .i64 y) := B_z0.out.cell 1 rfl; have c2z0 : w7.cell? ⟨w.heap.size, 2, none⟩ = some (.slice A n c) := B_z0.out.cell 2 rfl; have c0z1 : w7.cell? ⟨w3.heap.size, 0, none⟩ = some (.int .i64 x) := B_z1.out.cell 0 rfl; have c1z1 : w7.cell? ⟨w3.heap.size, 1, none⟩ = some (.int .i64 y) := B_z1.out.cell 1 rfl; have c2z1 : w7.cell? ⟨w3.heap.size, 2, none⟩ = some (.slice AC2 cn.length cC2) := B_z1.out.cell 2 rfl; have c0z2 : w7.cell? ⟨w4.heap.size, 0, none⟩ = some (.int .i64 x) := B_z2.out.cell 0 rfl; have c1z2 : w7.cell? ⟨w4.heap.size, 1, none⟩ = some (.int .i64 y) := B_z2.out.cell 1 rfl; have c2z2 : w7.cell? ⟨w4.heap.size, 2, none⟩ = some (.slice AC3 cn.length cC3) := B_z2.out.cell 2 rfl; have c0z3 : w7.cell? ⟨w5.heap.size, 0, none⟩ = some (.int .i64 b0) := B_z3.out.cell 0 rfl; have c1z3 : w7.cell? ⟨w5.heap.size, 1, none⟩ = some (.int .i64 b1) := B_z3.out.cell 1 rfl; have c2z3 : w7.cell? ⟨w5.heap.size, 2, none⟩ = some (.int .i64 b2) := B_z3.out.cell 2 rfl; have c3z3 : w7.cell? ⟨w5.heap.size, 3, none⟩ = some (.int .i64 b3) := B_z3.out.cell 3 rfl; have c0z4 : w7.cell? ⟨w6.heap.size, 0, none⟩ = some (.int .i64 b0) := B_z4.out.cell 0 rfl; have c1z4 : w7.cell? ⟨w6.heap.size, 1, none⟩ = some (.int .i64 b1) := B_z4.out.cell 1 rfl; have c2z4 : w7.cell? ⟨w6.heap.size, 2, none⟩ = some (.int .i64 b2) := B_z4.out.cell 2 rfl; have c3z4 : w7.cell? ⟨w6.heap.size, 3, none⟩ = some (.int .i64 b3) := B_z4.out.cell 3 rfl; have tk1x1 : True := trivial)
      | (clear tk1x1; go_at_call 20; refine (RValid_yes dd1 (by omega) _ (PL.below L.out (by exact sm))).mono ?_; rintro e w8 ⟨rfl, bb⟩; replace bb := nextw (w0 := w7) (by exact sm) bb; replace B_z0 := mv B_z0 bb; replace B_z1 := mv B_z1 bb; replace B_z2 := mv B_z2 bb; replace B_z3 := mv B_z3 bb; replace B_z4 := mv B_z4 bb; replace L := Lib.hid (PL.below L.out bb); replace LC2 := Lib.hid (PL.below LC2.out bb); replace LC3 := Lib.hid (PL.below LC3.out bb); replace HB := nx HB bb; clear bb c0z0 c1z0 c2z0 c0z1 c1z1 c2z1 c0z2 c1z2 c2z2 c0z3 c1z3 c2z3 c3z3 c0z4 c1z4 c2z4 c3z4; have c0z0 : w8.cell? ⟨w.heap.size, 0, none⟩ = some (.int .i64 x) := B_z0.out.cell 0 rfl; have c1z0 : w8.cell? ⟨w.heap.size, 1, none⟩ = some (.int .i64 y) := B_z0.out.cell 1 rfl; have c2z0 : w8.cell? ⟨w.heap.size, 2, none⟩ = some (.slice A n c) := B_z0.out.cell 2 rfl; have c0z1 : w8.cell? ⟨w3.heap.size, 0, none⟩ = some (.int .i64 x) := B_z1.out.cell 0 rfl; have c1z1 : w8.cell? ⟨w3.heap.size, 1, none⟩ = some (.int .i64 y) := B_z1.out.cell 1 rfl; have c2z1 : w8.cell? ⟨w3.heap.size, 2, none⟩ = some (.slice AC2 cn.length cC2) := B_z1.out.cell 2 rfl; have c0z2 : w8.cell? ⟨w4.heap.size, 0, none⟩ = some (.int .i64 x) := B_z2.out.cell 0 rfl; have c1z2 : w8.cell? ⟨w4.heap.size, 1, none⟩ = some (.int .i64 y) := B_z2.out.cell 1 rfl; have c2z2 : w8.cell? ⟨w4.heap.size, 2, none⟩ = some (.slice AC3 cn.length cC3) := B_z2.out.cell 2 rfl; have c0z3 : w8.cell? ⟨w5.heap.size, 0, none⟩ = some (.int .i64 b0) := B_z3.out.cell 0 rfl; have c1z3 : w8.cell? ⟨w5.heap.size, 1, none⟩ = some (.int .i64 b1) := B_z3.out.cell 1 rfl; have c2z3 : w8.cell? ⟨w5.heap.size, 2, none⟩ = some (.int .i64 b2) := B_z3.out.cell 2 rfl; have c3z3 : w8.cell? ⟨w5.heap.size, 3, none⟩ = some (.int .i64 b3) := B_z3.out.cell 3 rfl; have c0z4 : w8.cell? ⟨w6.heap.size, 0, none⟩ = some (.int .i64 b0) := B_z4.out.cell 0 rfl; have c1z4 : w8.cell? ⟨w6.heap.size, 1, none⟩ = some (.int .i64 b1) := B_z4.out.cell 1 rfl; have c2z4 : w8.cell? ⟨w6.heap.size, 2, none⟩ = some (.int .i64 b2) := B_z4.out.cell 2 rfl; have c3z4 : w8.cell? ⟨w6.heap.size, 3, none⟩ = some (.int .i64 b3) := B_z4.out.cell 3 rfl; have tk1x2 : True := trivial)
      | (clear tk1x2; go_at_call 21; refine (zonS _ x y cn (by omega) (PL.below LC2.out (by exact sm)) (PL.below LC3.out (by exact sm))).mono ?_; rintro e w9 ⟨rfl, bb⟩; replace bb := nextw (w0 := w8) (by exact sm) bb; replace B_z0 := mv B_z0 bb; replace B_z1 := mv B_z1 bb; replace B_z2 := mv B_z2 bb; replace B_z3 := mv B_z3 bb; replace B_z4 := mv B_z4 bb; replace L := Lib.hid (PL.below L.out bb); replace LC2 := Lib.hid (PL.below LC2.out bb); replace LC3 := Lib.hid (PL.below LC3.out bb); replace HB := nx HB bb; clear bb c0z0 c1z0 c2z0 c0z1 c1z1 c2z1 c0z2 c1z2 c2z2 c0z3 c1z3 c2z3 c3z3 c0z4 c1z4 c2z4 c3z4; have c0z0 : w9.cell? ⟨w.heap.size, 0, none⟩ = some (.int .i64 x) := B_z0.out.cell 0 rfl; have c1z0 : w9.cell? ⟨w.heap.size, 1, none⟩ = some (.int .i64 y) := B_z0.out.cell 1 rfl; have c2z0 : w9.cell? ⟨w.heap.size, 2, none⟩ = some (.slice A n c) := B_z0.out.cell 2 rfl; have c0z1 : w9.cell? ⟨w3.heap.size, 0, none⟩ = some (.int .i64 x) := B_z1.out.cell 0 rfl; have c1z1 : w9.cell? ⟨w3.heap.size, 1, none⟩ = some (.int .i64 y) := B_z1.out.cell 1 rfl; have c2z1 : w9.cell? ⟨w3.heap.size, 2, none⟩ = some (.slice AC2 cn.length cC2) := B_z1.out.cell 2 rfl; have c0z2 : w9.cell? ⟨w4.heap.size, 0, none⟩ = some (.int .i64 x) := B_z2.out.cell 0 rfl; have c1z2 : w9.cell? ⟨w4.heap.size, 1, none⟩ = some (.int .i64 y) := B_z2.out.cell 1 rfl; have c2z2 : w9.cell? ⟨w4.heap.size, 2, none⟩ = some (.slice AC3 cn.length cC3) := B_z2.out.cell 2 rfl; have c0z3 : w9.cell? ⟨w5.heap.size, 0, none⟩ = some (.int .i64 b0) := B_z3.out.cell 0 rfl; have c1z3 : w9.cell? ⟨w5.heap.size, 1, none⟩ = some (.int .i64 b1) := B_z3.out.cell 1 rfl; have c2z3 : w9.cell? ⟨w5.heap.size, 2, none⟩ = some (.int .i64 b2) := B_z3.out.cell 2 rfl; have c3z3 : w9.cell? ⟨w5.heap.size, 3, none⟩ = some (.int .i64 b3) := B_z3.out.cell 3 rfl; have c0z4 : w9.cell? ⟨w6.heap.size, 0, none⟩ = some (.int .i64 b0) := B_z4.out.cell 0 rfl; have c1z4 : w9.cell? ⟨w6.heap.size, 1, none⟩ = some (.int .i64 b1) := B_z4.out.cell 1 rfl; have c2z4 : w9.cell? ⟨w6.heap.size, 2, none⟩ = some (.int .i64 b2) := B_z4.out.cell 2 rfl; have c3z4 : w9.cell? ⟨w6.heap.size, 3, none⟩ = some (.int .i64 b3) := B_z4.out.cell 3 rfl; have tk1x3 : True := trivial)
      | (clear tk1x3; go_at_call 22; refine (HAR.out _ _ _ (PL.below L.out (by exact sm))).mono ?_; rintro e w10 ⟨rfl, bb⟩; replace bb := nextw (w0 := w9) (by exact sm) bb; replace B_z0 := mv B_z0 bb; replace B_z1 := mv B_z1 bb; replace B_z2 := mv B_z2 bb; replace B_z3 := mv B_z3 bb; replace B_z4 := mv B_z4 bb; replace L := Lib.hid (PL.below L.out bb); replace LC2 := Lib.hid (PL.below LC2.out bb); replace LC3 := Lib.hid (PL.below LC3.out bb); replace HB := nx HB bb; clear bb c0z0 c1z0 c2z0 c0z1 c1z1 c2z1 c0z2 c1z2 c2z2 c0z3 c1z3 c2z3 c3z3 c0z4 c1z4 c2z4 c3z4; have c0z0 : w10.cell? ⟨w.heap.size, 0, none⟩ = some (.int .i64 x) := B_z0.out.cell 0 rfl; have c1z0 : w10.cell? ⟨w.heap.size, 1, none⟩ = some (.int .i64 y) := B_z0.out.cell 1 rfl; have c2z0 : w10.cell? ⟨w.heap.size, 2, none⟩ = some (.slice A n c) := B_z0.out.cell 2 rfl; have c0z1 : w10.cell? ⟨w3.heap.size, 0, none⟩ = some (.int .i64 x) := B_z1.out.cell 0 rfl; have c1z1 : w10.cell? ⟨w3.heap.size, 1, none⟩ = some (.int .i64 y) := B_z1.out.cell 1 rfl; have c2z1 : w10.cell? ⟨w3.heap.size, 2, none⟩ = some (.slice AC2 cn.length cC2) := B_z1.out.cell 2 rfl; have c0z2 : w10.cell? ⟨w4.heap.size, 0, none⟩ = some (.int .i64 x) := B_z2.out.cell 0 rfl; have c1z2 : w10.cell? ⟨w4.heap.size, 1, none⟩ = some (.int .i64 y) := B_z2.out.cell 1 rfl; have c2z2 : w10.cell? ⟨w4.heap.size, 2, none⟩ = some (.slice AC3 cn.length cC3) := B_z2.out.cell 2 rfl; have c0z3 : w10.cell? ⟨w5.heap.size, 0, none⟩ = some (.int .i64 b0) := B_z3.out.cell 0 rfl; have c1z3 : w10.cell? ⟨w5.heap.size, 1, none⟩ = some (.int .i64 b1) := B_z3.out.cell 1 rfl; have c2z3 : w10.cell? ⟨w5.heap.size, 2, none⟩ = some (.int .i64 b2) := B_z3.out.cell 2 rfl; have c3z3 : w10.cell? ⟨w5.heap.size, 3, none⟩ = some (.int .i64 b3) := B_z3.out.cell 3 rfl; have c0z4 : w10.cell? ⟨w6.heap.size, 0, none⟩ = some (.int .i64 b0) := B_z4.out.cell 0 rfl; have c1z4 : w10.cell? ⟨w6.heap.size, 1, none⟩ = some (.int .i64 b1) := B_z4.out.cell 1 rfl; have c2z4 : w10.cell? ⟨w6.heap.size, 2, none⟩ = some (.int .i64 b2) := B_z4.out.cell 2 rfl; have c3z4 : w10.cell? ⟨w6.heap.size, 3, none⟩ = some (.int .i64 b3) := B_z4.out.cell 3 rfl; have tk1x4 : True := trivial)
      | (clear tk1x4; go_at_call 23; refine (HRA.out _ _ _ (PL.below L.out (by exact sm))).mono ?_; rintro e w11 ⟨rfl, bb⟩; replace bb := nextw (w0 := w10) (by exact sm) bb; replace B_z0 := mv B_z0 bb; replace B_z1 := mv B_z1 bb; replace B_z2 := mv B_z2 bb; replace B_z3 := mv B_z3 bb; replace B_z4 := mv B_z4 bb; replace L := Lib.hid (PL.below L.out bb); replace LC2 := Lib.hid (PL.below LC2.out bb); replace LC3 := Lib.hid (PL.below LC3.out bb); replace HB := nx HB bb; clear bb c0z0 c1z0 c2z0 c0z1 c1z1 c2z1 c0z2 c1z2 c2z2 c0z3 c1z3 c2z3 c3z3 c0z4 c1z4 c2z4 c3z4; have c0z0 : w11.cell? ⟨w.heap.size, 0, none⟩ = some (.int .i64 x) := B_z0.out.cell 0 rfl; have c1z0 : w11.cell? ⟨w.heap.size, 1, none⟩ = some (.int .i64 y) := B_z0.out.cell 1 rfl; have c2z0 : w11.cell? ⟨w.heap.size, 2, none⟩ = some (.slice A n c) := B_z0.out.cell 2 rfl; have c0z1 : w11.cell? ⟨w3.heap.size, 0, none⟩ = some (.int .i64 x) := B_z1.out.cell 0 rfl; have c1z1 : w11.cell? ⟨w3.heap.size, 1, none⟩ = some (.int .i64 y) := B_z1.out.cell 1 rfl; have c2z1 : w11.cell? ⟨w3.heap.size, 2, none⟩ = some (.slice AC2 cn.length cC2) := B_z1.out.cell 2 rfl; have c0z2 : w11.cell? ⟨w4.heap.size, 0, none⟩ = some (.int .i64 x) := B_z2.out.cell 0 rfl; have c1z2 : w11.cell? ⟨w4.heap.size, 1, none⟩ = some (.int .i64 y) := B_z2.out.cell 1 rfl; have c2z2 : w11.cell? ⟨w4.heap.size, 2, none⟩ = some (.slice AC3 cn.length cC3) := B_z2.out.cell 2 rfl; have c0z3 : w11.cell? ⟨w5.heap.size, 0, none⟩ = some (.int .i64 b0) := B_z3.out.cell 0 rfl; have c1z3 : w11.cell? ⟨w5.heap.size, 1, none⟩ = some (.int .i64 b1) := B_z3.out.cell 1 rfl; have c2z3 : w11.cell? ⟨w5.heap.size, 2, none⟩ = some (.int .i64 b2) := B_z3.out.cell 2 rfl; have c3z3 : w11.cell? ⟨w5.heap.size, 3, none⟩ = some (.int .i64 b3) := B_z3.out.cell 3 rfl; have c0z4 : w11.cell? ⟨w6.heap.size, 0, none⟩ = some (.int .i64 b0) := B_z4.out.cell 0 rfl; have c1z4 : w11.cell? ⟨w6.heap.size, 1, none⟩ = some (.int .i64 b1) := B_z4.out.cell 1 rfl; have c2z4 : w11.cell? ⟨w6.heap.size, 2, none⟩ = some (.int .i64 b2) := B_z4.out.cell 2 rfl; have c3z4 : w11.cell? ⟨w6.heap.size, 3, none⟩ = some (.int .i64 b3) := B_z4.out.cell 3 rfl; have tk1x5 : True := trivial)
      | (clear tk1x5; go_at_call 25; refine (CoY.out _ _ _ (PL.below L.out (by exact sm))).mono ?_; rintro e w12 ⟨AC11, cC11, rfl, LC11, bb⟩; replace bb := nextw (w0 := w11) (by exact sm) bb; replace B_z0 := mv B_z0 bb; replace B_z1 := mv B_z1 bb; replace B_z2 := mv B_z2 bb; replace B_z3 := mv B_z3 bb; replace B_z4 := mv B_z4 bb; replace L := Lib.hid (PL.below L.out bb); replace LC2 := Lib.hid (PL.below LC2.out bb); replace LC3 := Lib.hid (PL.below LC3.out bb); replace HB := nx HB bb; clear bb c0z0 c1z0 c2z0 c0z1 c1z1 c2z1 c0z2 c1z2 c2z2 c0z3 c1z3 c2z3 c3z3 c0z4 c1z4 c2z4 c3z4; replace LC11 := Lib.hid LC11; have c0z0 : w12.cell? ⟨w.heap.size, 0, none⟩ = some (.int .i64 x) := B_z0.out.cell 0 rfl; have c1z0 : w12.cell? ⟨w.heap.size, 1, none⟩ = some (.int .i64 y) := B_z0.out.cell 1 rfl; have c2z0 : w12.cell? ⟨w.heap.size, 2, none⟩ = some (.slice A n c) := B_z0.out.cell 2 rfl; have c0z1 : w12.cell? ⟨w3.heap.size, 0, none⟩ = some (.int .i64 x) := B_z1.out.cell 0 rfl; have c1z1 : w12.cell? ⟨w3.heap.size, 1, none⟩ = some (.int .i64 y) := B_z1.out.cell 1 rfl; have c2z1 : w12.cell? ⟨w3.heap.size, 2, none⟩ = some (.slice AC2 cn.length cC2) := B_z1.out.cell 2 rfl; have c0z2 : w12.cell? ⟨w4.heap.size, 0, none⟩ = some (.int .i64 x) := B_z2.out.cell 0 rfl; have c1z2 : w12.cell? ⟨w4.heap.size, 1, none⟩ = some (.int .i64 y) := B_z2.out.cell 1 rfl; have c2z2 : w12.cell? ⟨w4.heap.size, 2, none⟩ = some (.slice AC3 cn.length cC3) := B_z2.out.cell 2 rfl; have c0z3 : w12.cell? ⟨w5.heap.size, 0, none⟩ = some (.int .i64 b0) := B_z3.out.cell 0 rfl; have c1z3 : w12.cell? ⟨w5.heap.size, 1, none⟩ = some (.int .i64 b1) := B_z3.out.cell 1 rfl; have c2z3 : w12.cell? ⟨w5.heap.size, 2, none⟩ = some (.int .i64 b2) := B_z3.out.cell 2 rfl; have c3z3 : w12.cell? ⟨w5.heap.size, 3, none⟩ = some (.int .i64 b3) := B_z3.out.cell 3 rfl; have c0z4 : w12.cell? ⟨w6.heap.size, 0, none⟩ = some (.int .i64 b0) := B_z4.out.cell 0 rfl; have c1z4 : w12.cell? ⟨w6.heap.size, 1, none⟩ = some (.int .i64 b1) := B_z4.out.cell 1 rfl; have c2z4 : w12.cell? ⟨w6.heap.size, 2, none⟩ = some (.int .i64 b2) := B_z4.out.cell 2 rfl; have c3z4 : w12.cell? ⟨w6.heap.size, 3, none⟩ = some (.int .i64 b3) := B_z4.out.cell 3 rfl; have tk1x6 : True := trivial)
      | (clear tk1x6; go_at_call 26; refine (RCoY.out _ _ _ (PL.below L.out (by exact sm))).mono ?_; rintro e w13 ⟨AC12, cC12, rfl, LC12, bb⟩; replace bb := nextw (w0 := w12) (by exact sm) bb; replace B_z0 := mv B_z0 bb; replace B_z1 := mv B_z1 bb; replace B_z2 := mv B_z2 bb; replace B_z3 := mv B_z3 bb; replace B_z4 := mv B_z4 bb; replace L := Lib.hid (PL.below L.out bb); replace LC2 := Lib.hid (PL.below LC2.out bb); replace LC3 := Lib.hid (PL.below LC3.out bb); replace LC11 := Lib.hid (PL.below LC11.out bb); replace HB := nx HB bb; clear bb c0z0 c1z0 c2z0 c0z1 c1z1 c2z1 c0z2 c1z2 c2z2 c0z3 c1z3 c2z3 c3z3 c0z4 c1z4 c2z4 c3z4; replace LC12 := Lib.hid LC12; have c0z0 : w13.cell? ⟨w.heap.size, 0, none⟩ = some (.int .i64 x) := B_z0.out.cell 0 rfl; have c1z0 : w13.cell? ⟨w.heap.size, 1, none⟩ = some (.int .i64 y) := B_z0.out.cell 1 rfl; have c2z0 : w13.cell? ⟨w.heap.size, 2, none⟩ = some (.slice A n c) := B_z0.out.cell 2 rfl; have c0z1 : w13.cell? ⟨w3.heap.size, 0, none⟩ = some (.int .i64 x) := B_z1.out.cell 0 rfl; have c1z1 : w13.cell? ⟨w3.heap.size, 1, none⟩ = some (.int .i64 y) := B_z1.out.cell 1 rfl; have c2z1 : w13.cell? ⟨w3.heap.size, 2, none⟩ = some (.slice AC2 cn.length cC2) := B_z1.out.cell 2 rfl; have c0z2 : w13.cell? ⟨w4.heap.size, 0, none⟩ = some (.int .i64 x) := B_z2.out.cell 0 rfl; have c1z2 : w13.cell? ⟨w4.heap.size, 1, none⟩ = some (.int .i64 y) := B_z2.out.cell 1 rfl; have c2z2 : w13.cell? ⟨w4.heap.size, 2, none⟩ = some (.slice AC3 cn.length cC3) := B_z2.out.cell 2 rfl; have c0z3 : w13.cell? ⟨w5.heap.size, 0, none⟩ = some (.int .i64 b0) := B_z3.out.cell 0 rfl; have c1z3 : w13.cell? ⟨w5.heap.size, 1, none⟩ = some (.int .i64 b1) := B_z3.out.cell 1 rfl; have c2z3 : w13.cell? ⟨w5.heap.size, 2, none⟩ = some (.int .i64 b2) := B_z3.out.cell 2 rfl; have c3z3 : w13.cell? ⟨w5.heap.size, 3, none⟩ = some (.int .i64 b3) := B_z3.out.cell 3 rfl; have c0z4 : w13.cell? ⟨w6.heap.size, 0, none⟩ = some (.int .i64 b0) := B_z4.out.cell 0 rfl; have c1z4 : w13.cell? ⟨w6.heap.size, 1, none⟩ = some (.int .i64 b1) := B_z4.out.cell 1 rfl; have c2z4 : w13.cell? ⟨w6.heap.size, 2, none⟩ = some (.int .i64 b2) := B_z4.out.cell 2 rfl; have c3z4 : w13.cell? ⟨w6.heap.size, 3, none⟩ = some (.int .i64 b3) := B_z4.out.cell 3 rfl; have tk1x7 : True := trivial)
      | (clear tk1x7; go_at_call 24; refine (ptsS _ cl (by omega) (PL.below LC11.out (by exact sm)) (PL.below LC12.out (by exact sm))).mono ?_; rintro e w14 ⟨rfl, bb⟩; replace bb := nextw (w0 := w13) (by exact sm) bb; replace B_z0 := mv B_z0 bb; replace B_z1 := mv B_z1 bb; replace B_z2 := mv B_z2 bb; replace B_z3 := mv B_z3 bb; replace B_z4 := mv B_z4 bb; replace L := Lib.hid (PL.below L.out bb); replace LC2 := Lib.hid (PL.below LC2.out bb); replace LC3 := Lib.hid (PL.below LC3.out bb); replace LC11 := Lib.hid (PL.below LC11.out bb); replace LC12 := Lib.hid (PL.below LC12.out bb); replace HB := nx HB bb; clear bb c0z0 c1z0 c2z0 c0z1 c1z1 c2z1 c0z2 c1z2 c2z2 c0z3 c1z3 c2z3 c3z3 c0z4 c1z4 c2z4 c3z4; have c0z0 : w14.cell? ⟨w.heap.size, 0, none⟩ = some (.int .i64 x) := B_z0.out.cell 0 rfl; have c1z0 : w14.cell? ⟨w.heap.size, 1, none⟩ = some (.int .i64 y) := B_z0.out.cell 1 rfl; have c2z0 : w14.cell? ⟨w.heap.size, 2, none⟩ = some (.slice A n c) := B_z0.out.cell 2 rfl; have c0z1 : w14.cell? ⟨w3.heap.size, 0, none⟩ = some (.int .i64 x) := B_z1.out.cell 0 rfl; have c1z1 : w14.cell? ⟨w3.heap.size, 1, none⟩ = some (.int .i64 y) := B_z1.out.cell 1 rfl; have c2z1 : w14.cell? ⟨w3.heap.size, 2, none⟩ = some (.slice AC2 cn.length cC2) := B_z1.out.cell 2 rfl; have c0z2 : w14.cell? ⟨w4.heap.size, 0, none⟩ = some (.int .i64 x) := B_z2.out.cell 0 rfl; have c1z2 : w14.cell? ⟨w4.heap.size, 1, none⟩ = some (.int .i64 y) := B_z2.out.cell 1 rfl; have c2z2 : w14.cell? ⟨w4.heap.size, 2, none⟩ = some (.slice AC3 cn.length cC3) := B_z2.out.cell 2 rfl; have c0z3 : w14.cell? ⟨w5.heap.size, 0, none⟩ = some (.int .i64 b0) := B_z3.out.cell 0 rfl; have c1z3 : w14.cell? ⟨w5.heap.size, 1, none⟩ = some (.int .i64 b1) := B_z3.out.cell 1 rfl; have c2z3 : w14.cell? ⟨w5.heap.size, 2, none⟩ = some (.int .i64 b2) := B_z3.out.cell 2 rfl; have c3z3 : w14.cell? ⟨w5.heap.size, 3, none⟩ = some (.int .i64 b3) := B_z3.out.cell 3 rfl; have c0z4 : w14.cell? ⟨w6.heap.size, 0, none⟩ = some (.int .i64 b0) := B_z4.out.cell 0 rfl; have c1z4 : w14.cell? ⟨w6.heap.size, 1, none⟩ = some (.int .i64 b1) := B_z4.out.cell 1 rfl; have c2z4 : w14.cell? ⟨w6.heap.size, 2, none⟩ = some (.int .i64 b2) := B_z4.out.cell 2 rfl; have c3z4 : w14.cell? ⟨w6.heap.size, 3, none⟩ = some (.int .i64 b3) := B_z4.out.cell 3 rfl; have tk1x8 : True := trivial))
  clear c0z0 c1z0 c2z0 c0z1 c1z1 c2z1 c0z2 c1z2 c2z2 c0z3 c1z3 c2z3 c3z3 c0z4 c1z4 c2z4 c3z4
  go_wp2
  go_ret
  exact ⟨(by first | rfl | exact rbt (by omega) | exact rbf (by omega)), nextw HB.out (by exact sm)⟩

set_option maxRecDepth 100000 in
set_option maxHeartbeats 4000000 in
theorem LMatch_w1 (x y : Int) (A : Option Addr) (n c : Nat) (l : List P2)  (b0 b1 b2 b3 AR : Int) (cn cl : List P2) (hb0 : x - spr l 1 0 = b0) (hb1 : y - spr l 0 1 = b1) (hb2 : x + spr l 1 0 = b2) (hb3 : y + spr l 0 1 = b3) (hAR : areaX x y l = AR) (hcn : canL l = cn) (hcl : cornL (x, y) (canL l) = cl) (dd0 : 40 < ((n : Nat) : Int)) (w : World) {lo_L hi_L : Nat} (L : PL w lo_L hi_L A n c l) :
    Calls Try.prog 3 #[.agg #[.int .i64 x, .int .i64 y, .slice A n c]] w fun e w' => e = .returned (.bool true) ∧ Below w.heap.size w w' := by
  replace L := Lib.hid L
  have H0 := Lib.hid (fun w => awake_w0 w)
  have H2 := Lib.hid (fun w => awake_w0 w)
  have dd0n : ¬ (((n : Nat) : Int) ≤ 40) := by omega
  have dd0o : decide (((n : Nat) : Int) ≤ 40) = false := decide_eq_false dd0n
  obtain ⟨HB, B_z0⟩ := box1 w 24 #[.int .i64 x, .int .i64 y, .slice A n c]
  replace L := Lib.hid (PL.below L.out HB.out)
  go_enter Try.func3, Try.ntmps3
  go_upto_region 1 with (fail)
  generalize w.alloc (.cells #[.int .i64 x, .int .i64 y, .slice A n c] 24) = W0 at *
  go_wp2_with fail
  refine (H0.out _).mono ?_
  rintro e w1 ⟨rfl, bb⟩
  replace bb := nextw (w0 := W0) (by exact sm) bb
  replace B_z0 := mv B_z0 bb
  replace L := Lib.hid (PL.below L.out bb)
  replace HB := nx HB bb
  clear bb
  obtain ⟨c0z0, c1z0, c2z0⟩ := cells3 B_z0
  go_wp2_with fail
  refine (few_w0 x y _ _ _ l _ (PL.below L.out (by exact sm))).mono ?_
  clear c0z0 c1z0 c2z0
  rintro e w2 ⟨rfl, bb⟩
  replace bb := nextw (w0 := w1) (by exact sm) bb
  replace B_z0 := mv B_z0 bb
  replace L := Lib.hid (PL.below L.out bb)
  replace HB := nx HB bb
  clear bb
  go_wp2_with fail
  refine (H2.out _).mono ?_
  rintro e w3 ⟨rfl, bb⟩
  replace bb := nextw (w0 := w2) (by exact sm) bb
  replace B_z0 := mv B_z0 bb
  replace L := Lib.hid (PL.below L.out bb)
  replace HB := nx HB bb
  clear bb
  go_wp2
  go_ret
  exact ⟨(by first | rfl | exact rbt (by omega) | exact rbf (by omega)), nextw HB.out (by exact sm)⟩

set_option maxRecDepth 100000 in
set_option maxHeartbeats 4000000 in
theorem LMatch_w2 (x y : Int) (A : Option Addr) (n c : Nat) (l : List P2)  (b0 b1 b2 b3 AR : Int) (cn cl : List P2) (hb0 : x - spr l 1 0 = b0) (hb1 : y - spr l 0 1 = b1) (hb2 : x + spr l 1 0 = b2) (hb3 : y + spr l 0 1 = b3) (hAR : areaX x y l = AR) (hcn : canL l = cn) (hcl : cornL (x, y) (canL l) = cl) (dd0 : ((n : Nat) : Int) ≤ 40) (dd1 : ¬ (OkZ x y l)) (w : World) {lo_L hi_L : Nat} (L : PL w lo_L hi_L A n c l) :
    Calls Try.prog 3 #[.agg #[.int .i64 x, .int .i64 y, .slice A n c]] w fun e w' => e = .returned (.bool true) ∧ Below w.heap.size w w' := by
  replace L := Lib.hid L
  have H0 := Lib.hid (fun w => awake_w0 w)
  have HAR := Lib.hid (fun (w : World) (lo hi : Nat) (M : PL w lo hi A n c l) => Area_q x y A n c l (by omega) w M)
  have HRA := Lib.hid (fun (w : World) (lo hi : Nat) (M : PL w lo hi A n c l) => RArea_is x y A n c l (by omega) w M)
  rw [hAR] at HAR HRA
  clear hAR hb0 hb1 hb2 hb3 hcn hcl
  obtain ⟨HB, B_z0⟩ := box1 w 24 #[.int .i64 x, .int .i64 y, .slice A n c]
  replace L := Lib.hid (PL.below L.out HB.out)
  go_enter Try.func3, Try.ntmps3
  go_upto_region 1 with (fail)
  generalize w.alloc (.cells #[.int .i64 x, .int .i64 y, .slice A n c] 24) = W0 at *
  go_wp2_with fail
  refine (H0.out _).mono ?_
  rintro e w1 ⟨rfl, bb⟩
  replace bb := nextw (w0 := W0) (by exact sm) bb
  replace B_z0 := mv B_z0 bb
  replace L := Lib.hid (PL.below L.out bb)
  replace HB := nx HB bb
  clear bb
  obtain ⟨c0z0, c1z0, c2z0⟩ := cells3 B_z0
  go_wp2_with fail
  refine (few_w0 x y _ _ _ l _ (PL.below L.out (by exact sm))).mono ?_
  clear c0z0 c1z0 c2z0
  rintro e w2 ⟨rfl, bb⟩
  replace bb := nextw (w0 := w1) (by exact sm) bb
  replace B_z0 := mv B_z0 bb
  replace L := Lib.hid (PL.below L.out bb)
  replace HB := nx HB bb
  clear bb
  obtain ⟨c0z0, c1z0, c2z0⟩ := cells3 B_z0
  go_wp2_with fail
  refine (Norm_w1 x y A n c l (by omega) dd1 _ (PL.below L.out (by exact sm))).mono ?_
  clear c0z0 c1z0 c2z0
  rintro e w3 ⟨rfl, bb⟩
  replace bb := nextw (w0 := w2) (by exact sm) bb
  replace B_z0 := mv B_z0 bb
  replace L := Lib.hid (PL.below L.out bb)
  replace HB := nx HB bb
  clear bb
  have lt_z1z0 := B_z0.out.lt
  obtain ⟨bb, B_z1⟩ := box1 w3 24 #[.int .i64 0, .int .i64 0, .slice none 0 0]
  replace bb := bb.out
  replace B_z0 := mv B_z0 bb
  replace L := Lib.hid (PL.below L.out bb)
  replace HB := nx HB bb
  clear bb
  go_upto_region 4 with (fail)
  generalize w3.alloc (.cells #[.int .i64 0, .int .i64 0, .slice none 0 0] 24) = WN2 at *
  obtain ⟨c0z0, c1z0, c2z0⟩ := cells3 B_z0
  go_wp2_with fail
  refine (RNorm_w1 x y A n c l (by omega) dd1 _ (PL.below L.out (by exact sm))).mono ?_
  clear c0z0 c1z0 c2z0
  rintro e w4 ⟨rfl, bb⟩
  replace bb := nextw (w0 := WN2) (by exact sm) bb
  replace B_z0 := mv B_z0 bb
  replace B_z1 := mv B_z1 bb
  replace L := Lib.hid (PL.below L.out bb)
  replace HB := nx HB bb
  clear bb
  have lt_z2z0 := B_z0.out.lt
  have lt_z2z1 := B_z1.out.lt
  obtain ⟨bb, B_z2⟩ := box1 w4 24 #[.int .i64 0, .int .i64 0, .slice none 0 0]
  replace bb := bb.out
  replace B_z0 := mv B_z0 bb
  replace B_z1 := mv B_z1 bb
  replace L := Lib.hid (PL.below L.out bb)
  replace HB := nx HB bb
  clear bb
  go_upto_region 5 with (fail)
  generalize w4.alloc (.cells #[.int .i64 0, .int .i64 0, .slice none 0 0] 24) = WN3 at *
  obtain ⟨c0z0, c1z0, c2z0⟩ := cells3 B_z0
  go_wp2_with fail
  refine (Bounds_n A n c l (by omega) dd1 _ (PL.below L.out (by exact sm))).mono ?_
  clear c0z0 c1z0 c2z0
  rintro e w5 ⟨rfl, bb⟩
  replace bb := nextw (w0 := WN3) (by exact sm) bb
  replace B_z0 := mv B_z0 bb
  replace B_z1 := mv B_z1 bb
  replace B_z2 := mv B_z2 bb
  replace L := Lib.hid (PL.below L.out bb)
  replace HB := nx HB bb
  clear bb
  have lt_z3z0 := B_z0.out.lt
  have lt_z3z1 := B_z1.out.lt
  have lt_z3z2 := B_z2.out.lt
  obtain ⟨bb, B_z3⟩ := box1 w5 31 #[.int .i64 0, .int .i64 0, .int .i64 0, .int .i64 0]
  replace bb := bb.out
  replace B_z0 := mv B_z0 bb
  replace B_z1 := mv B_z1 bb
  replace B_z2 := mv B_z2 bb
  replace L := Lib.hid (PL.below L.out bb)
  replace HB := nx HB bb
  clear bb
  go_upto_region 6 with (fail)
  generalize w5.alloc (.cells #[.int .i64 0, .int .i64 0, .int .i64 0, .int .i64 0] 31) = WN4 at *
  obtain ⟨c0z0, c1z0, c2z0⟩ := cells3 B_z0
  go_wp2_with fail
  refine (RBounds_w1 x y A n c l (by omega) dd1 _ (PL.below L.out (by exact sm))).mono ?_
  clear c0z0 c1z0 c2z0
  rintro e w6 ⟨rfl, bb⟩
  replace bb := nextw (w0 := WN4) (by exact sm) bb
  replace B_z0 := mv B_z0 bb
  replace B_z1 := mv B_z1 bb
  replace B_z2 := mv B_z2 bb
  replace B_z3 := mv B_z3 bb
  replace L := Lib.hid (PL.below L.out bb)
  replace HB := nx HB bb
  clear bb
  have lt_z4z0 := B_z0.out.lt
  have lt_z4z1 := B_z1.out.lt
  have lt_z4z2 := B_z2.out.lt
  have lt_z4z3 := B_z3.out.lt
  obtain ⟨bb, B_z4⟩ := box1 w6 31 #[.int .i64 0, .int .i64 0, .int .i64 0, .int .i64 0]
  replace bb := bb.out
  replace B_z0 := mv B_z0 bb
  replace B_z1 := mv B_z1 bb
  replace B_z2 := mv B_z2 bb
  replace B_z3 := mv B_z3 bb
  replace L := Lib.hid (PL.below L.out bb)
  replace HB := nx HB bb
  clear bb
  go_upto_region 7 with (fail)
  generalize w6.alloc (.cells #[.int .i64 0, .int .i64 0, .int .i64 0, .int .i64 0] 31) = WN5 at *
  obtain ⟨c0z0, c1z0, c2z0⟩ := cells3 B_z0
  obtain ⟨c0z1, c1z1, c2z1⟩ := cells3 B_z1
  obtain ⟨c0z2, c1z2, c2z2⟩ := cells3 B_z2
  obtain ⟨c0z3, c1z3, c2z3, c3z3⟩ := cells4 B_z3
  obtain ⟨c0z4, c1z4, c2z4, c3z4⟩ := cells4 B_z4
  have tk1x0 : True := trivial
  go_region_held3 (fun w' => w'.cell? ⟨w.heap.size, 0, none⟩ = some (.int .i64 x) ∧ w'.cell? ⟨w.heap.size, 1, none⟩ = some (.int .i64 y) ∧ w'.cell? ⟨w.heap.size, 2, none⟩ = some (.slice A n c) ∧ w'.cell? ⟨w3.heap.size, 0, none⟩ = some (.int .i64 0) ∧ w'.cell? ⟨w3.heap.size, 1, none⟩ = some (.int .i64 0) ∧ w'.cell? ⟨w3.heap.size, 2, none⟩ = some (.slice none 0 0) ∧ w'.cell? ⟨w4.heap.size, 0, none⟩ = some (.int .i64 0) ∧ w'.cell? ⟨w4.heap.size, 1, none⟩ = some (.int .i64 0) ∧ w'.cell? ⟨w4.heap.size, 2, none⟩ = some (.slice none 0 0) ∧ w'.cell? ⟨w5.heap.size, 0, none⟩ = some (.int .i64 0) ∧ w'.cell? ⟨w5.heap.size, 1, none⟩ = some (.int .i64 0) ∧ w'.cell? ⟨w5.heap.size, 2, none⟩ = some (.int .i64 0) ∧ w'.cell? ⟨w5.heap.size, 3, none⟩ = some (.int .i64 0) ∧ w'.cell? ⟨w6.heap.size, 0, none⟩ = some (.int .i64 0) ∧ w'.cell? ⟨w6.heap.size, 1, none⟩ = some (.int .i64 0) ∧ w'.cell? ⟨w6.heap.size, 2, none⟩ = some (.int .i64 0) ∧ w'.cell? ⟨w6.heap.size, 3, none⟩ = some (.int .i64 0)) (((try dsimp only); (repeat' apply And.intro) <;> (first | (with_reducible assumption) | ((repeat (first | (with_reducible refine Eq.trans (cell_drew1 _ _) ?_) | (with_reducible refine Eq.trans (cell_far (by omega) _ _ _) ?_) | (with_reducible refine Eq.trans (World.cell?_alloc_lt _ _ _ (by first | (dsimp only; omega) | (simp only [World.size_alloc, World.size_setCell]; omega))) ?_))); with_reducible assumption) | assumption | go_keep)))
    (first
      | (clear tk1x0; go_at_call 19; refine (Valid_no dd1 (by omega) _ (PL.below L.out (by exact sm))).mono ?_; rintro e w7 ⟨rfl, bb⟩; replace bb := nextw (w0 := WN5) (by exact sm) bb; replace B_z0 := mv B_z0 bb; replace B_z1 := mv B_z1 bb; replace B_z2 := mv B_z2 bb; replace B_z3 := mv B_z3 bb; replace B_z4 := mv B_z4 bb; replace L := Lib.hid (PL.below L.out bb); replace HB := nx HB bb; clear bb c0z0 c1z0 c2z0 c0z1 c1z1 c2z1 c0z2 c1z2 c2z2 c0z3 c1z3 c2z3 c3z3 c0z4 c1z4 c2z4 c3z4; have c0z0 : w7.cell? ⟨w.heap.size, 0, none⟩ = some (.int .i64 x) := B_z0.out.cell 0 rfl; have c1z0 : w7.cell? ⟨w.heap.size, 1, none⟩ = some (.int .i64 y) := B_z0.out.cell 1 rfl; have c2z0 : w7.cell? ⟨w.heap.size, 2, none⟩ = some (.slice A n c) := B_z0.out.cell 2 rfl; have c0z1 : w7.cell? ⟨w3.heap.size, 0, none⟩ = some (.int .i64 0) := B_z1.out.cell 0 rfl; have c1z1 : w7.cell? ⟨w3.heap.size, 1, none⟩ = some (.int .i64 0) := B_z1.out.cell 1 rfl; have c2z1 : w7.cell? ⟨w3.heap.size, 2, none⟩ = some (.slice none 0 0) := B_z1.out.cell 2 rfl; have c0z2 : w7.cell? ⟨w4.heap.size, 0, none⟩ = some (.int .i64 0) := B_z2.out.cell 0 rfl; have c1z2 : w7.cell? ⟨w4.heap.size, 1, none⟩ = some (.int .i64 0) := B_z2.out.cell 1 rfl; have c2z2 : w7.cell? ⟨w4.heap.size, 2, none⟩ = some (.slice none 0 0) := B_z2.out.cell 2 rfl; have c0z3 : w7.cell? ⟨w5.heap.size, 0, none⟩ = some (.int .i64 0) := B_z3.out.cell 0 rfl; have c1z3 : w7.cell? ⟨w5.heap.size, 1, none⟩ = some (.int .i64 0) := B_z3.out.cell 1 rfl; have c2z3 : w7.cell? ⟨w5.heap.size, 2, none⟩ = some (.int .i64 0) := B_z3.out.cell 2 rfl; have c3z3 : w7.cell? ⟨w5.heap.size, 3, none⟩ = some (.int .i64 0) := B_z3.out.cell 3 rfl; have c0z4 : w7.cell? ⟨w6.heap.size, 0, none⟩ = some (.int .i64 0) := B_z4.out.cell 0 rfl; have c1z4 : w7.cell? ⟨w6.heap.size, 1, none⟩ = some (.int .i64 0) := B_z4.out.cell 1 rfl; have c2z4 : w7.cell? ⟨w6.heap.size, 2, none⟩ = some (.int .i64 0) := B_z4.out.cell 2 rfl; have c3z4 : w7.cell? ⟨w6.heap.size, 3, none⟩ = some (.int .i64 0) := B_z4.out.cell 3 rfl; have tk1x1 : True := trivial)
      | (clear tk1x1; go_at_call 20; refine (RValid_no dd1 (by omega) _ (PL.below L.out (by exact sm))).mono ?_; rintro e w8 ⟨rfl, bb⟩; replace bb := nextw (w0 := w7) (by exact sm) bb; replace B_z0 := mv B_z0 bb; replace B_z1 := mv B_z1 bb; replace B_z2 := mv B_z2 bb; replace B_z3 := mv B_z3 bb; replace B_z4 := mv B_z4 bb; replace L := Lib.hid (PL.below L.out bb); replace HB := nx HB bb; clear bb c0z0 c1z0 c2z0 c0z1 c1z1 c2z1 c0z2 c1z2 c2z2 c0z3 c1z3 c2z3 c3z3 c0z4 c1z4 c2z4 c3z4; have c0z0 : w8.cell? ⟨w.heap.size, 0, none⟩ = some (.int .i64 x) := B_z0.out.cell 0 rfl; have c1z0 : w8.cell? ⟨w.heap.size, 1, none⟩ = some (.int .i64 y) := B_z0.out.cell 1 rfl; have c2z0 : w8.cell? ⟨w.heap.size, 2, none⟩ = some (.slice A n c) := B_z0.out.cell 2 rfl; have c0z1 : w8.cell? ⟨w3.heap.size, 0, none⟩ = some (.int .i64 0) := B_z1.out.cell 0 rfl; have c1z1 : w8.cell? ⟨w3.heap.size, 1, none⟩ = some (.int .i64 0) := B_z1.out.cell 1 rfl; have c2z1 : w8.cell? ⟨w3.heap.size, 2, none⟩ = some (.slice none 0 0) := B_z1.out.cell 2 rfl; have c0z2 : w8.cell? ⟨w4.heap.size, 0, none⟩ = some (.int .i64 0) := B_z2.out.cell 0 rfl; have c1z2 : w8.cell? ⟨w4.heap.size, 1, none⟩ = some (.int .i64 0) := B_z2.out.cell 1 rfl; have c2z2 : w8.cell? ⟨w4.heap.size, 2, none⟩ = some (.slice none 0 0) := B_z2.out.cell 2 rfl; have c0z3 : w8.cell? ⟨w5.heap.size, 0, none⟩ = some (.int .i64 0) := B_z3.out.cell 0 rfl; have c1z3 : w8.cell? ⟨w5.heap.size, 1, none⟩ = some (.int .i64 0) := B_z3.out.cell 1 rfl; have c2z3 : w8.cell? ⟨w5.heap.size, 2, none⟩ = some (.int .i64 0) := B_z3.out.cell 2 rfl; have c3z3 : w8.cell? ⟨w5.heap.size, 3, none⟩ = some (.int .i64 0) := B_z3.out.cell 3 rfl; have c0z4 : w8.cell? ⟨w6.heap.size, 0, none⟩ = some (.int .i64 0) := B_z4.out.cell 0 rfl; have c1z4 : w8.cell? ⟨w6.heap.size, 1, none⟩ = some (.int .i64 0) := B_z4.out.cell 1 rfl; have c2z4 : w8.cell? ⟨w6.heap.size, 2, none⟩ = some (.int .i64 0) := B_z4.out.cell 2 rfl; have c3z4 : w8.cell? ⟨w6.heap.size, 3, none⟩ = some (.int .i64 0) := B_z4.out.cell 3 rfl; have tk1x2 : True := trivial)
      | (clear tk1x2; go_at_call 21; refine (zonN _).mono ?_; rintro e w9 ⟨rfl, bb⟩; replace bb := nextw (w0 := w8) (by exact sm) bb; replace B_z0 := mv B_z0 bb; replace B_z1 := mv B_z1 bb; replace B_z2 := mv B_z2 bb; replace B_z3 := mv B_z3 bb; replace B_z4 := mv B_z4 bb; replace L := Lib.hid (PL.below L.out bb); replace HB := nx HB bb; clear bb c0z0 c1z0 c2z0 c0z1 c1z1 c2z1 c0z2 c1z2 c2z2 c0z3 c1z3 c2z3 c3z3 c0z4 c1z4 c2z4 c3z4; have c0z0 : w9.cell? ⟨w.heap.size, 0, none⟩ = some (.int .i64 x) := B_z0.out.cell 0 rfl; have c1z0 : w9.cell? ⟨w.heap.size, 1, none⟩ = some (.int .i64 y) := B_z0.out.cell 1 rfl; have c2z0 : w9.cell? ⟨w.heap.size, 2, none⟩ = some (.slice A n c) := B_z0.out.cell 2 rfl; have c0z1 : w9.cell? ⟨w3.heap.size, 0, none⟩ = some (.int .i64 0) := B_z1.out.cell 0 rfl; have c1z1 : w9.cell? ⟨w3.heap.size, 1, none⟩ = some (.int .i64 0) := B_z1.out.cell 1 rfl; have c2z1 : w9.cell? ⟨w3.heap.size, 2, none⟩ = some (.slice none 0 0) := B_z1.out.cell 2 rfl; have c0z2 : w9.cell? ⟨w4.heap.size, 0, none⟩ = some (.int .i64 0) := B_z2.out.cell 0 rfl; have c1z2 : w9.cell? ⟨w4.heap.size, 1, none⟩ = some (.int .i64 0) := B_z2.out.cell 1 rfl; have c2z2 : w9.cell? ⟨w4.heap.size, 2, none⟩ = some (.slice none 0 0) := B_z2.out.cell 2 rfl; have c0z3 : w9.cell? ⟨w5.heap.size, 0, none⟩ = some (.int .i64 0) := B_z3.out.cell 0 rfl; have c1z3 : w9.cell? ⟨w5.heap.size, 1, none⟩ = some (.int .i64 0) := B_z3.out.cell 1 rfl; have c2z3 : w9.cell? ⟨w5.heap.size, 2, none⟩ = some (.int .i64 0) := B_z3.out.cell 2 rfl; have c3z3 : w9.cell? ⟨w5.heap.size, 3, none⟩ = some (.int .i64 0) := B_z3.out.cell 3 rfl; have c0z4 : w9.cell? ⟨w6.heap.size, 0, none⟩ = some (.int .i64 0) := B_z4.out.cell 0 rfl; have c1z4 : w9.cell? ⟨w6.heap.size, 1, none⟩ = some (.int .i64 0) := B_z4.out.cell 1 rfl; have c2z4 : w9.cell? ⟨w6.heap.size, 2, none⟩ = some (.int .i64 0) := B_z4.out.cell 2 rfl; have c3z4 : w9.cell? ⟨w6.heap.size, 3, none⟩ = some (.int .i64 0) := B_z4.out.cell 3 rfl; have tk1x3 : True := trivial)
      | (clear tk1x3; go_at_call 22; refine (HAR.out _ _ _ (PL.below L.out (by exact sm))).mono ?_; rintro e w10 ⟨rfl, bb⟩; replace bb := nextw (w0 := w9) (by exact sm) bb; replace B_z0 := mv B_z0 bb; replace B_z1 := mv B_z1 bb; replace B_z2 := mv B_z2 bb; replace B_z3 := mv B_z3 bb; replace B_z4 := mv B_z4 bb; replace L := Lib.hid (PL.below L.out bb); replace HB := nx HB bb; clear bb c0z0 c1z0 c2z0 c0z1 c1z1 c2z1 c0z2 c1z2 c2z2 c0z3 c1z3 c2z3 c3z3 c0z4 c1z4 c2z4 c3z4; have c0z0 : w10.cell? ⟨w.heap.size, 0, none⟩ = some (.int .i64 x) := B_z0.out.cell 0 rfl; have c1z0 : w10.cell? ⟨w.heap.size, 1, none⟩ = some (.int .i64 y) := B_z0.out.cell 1 rfl; have c2z0 : w10.cell? ⟨w.heap.size, 2, none⟩ = some (.slice A n c) := B_z0.out.cell 2 rfl; have c0z1 : w10.cell? ⟨w3.heap.size, 0, none⟩ = some (.int .i64 0) := B_z1.out.cell 0 rfl; have c1z1 : w10.cell? ⟨w3.heap.size, 1, none⟩ = some (.int .i64 0) := B_z1.out.cell 1 rfl; have c2z1 : w10.cell? ⟨w3.heap.size, 2, none⟩ = some (.slice none 0 0) := B_z1.out.cell 2 rfl; have c0z2 : w10.cell? ⟨w4.heap.size, 0, none⟩ = some (.int .i64 0) := B_z2.out.cell 0 rfl; have c1z2 : w10.cell? ⟨w4.heap.size, 1, none⟩ = some (.int .i64 0) := B_z2.out.cell 1 rfl; have c2z2 : w10.cell? ⟨w4.heap.size, 2, none⟩ = some (.slice none 0 0) := B_z2.out.cell 2 rfl; have c0z3 : w10.cell? ⟨w5.heap.size, 0, none⟩ = some (.int .i64 0) := B_z3.out.cell 0 rfl; have c1z3 : w10.cell? ⟨w5.heap.size, 1, none⟩ = some (.int .i64 0) := B_z3.out.cell 1 rfl; have c2z3 : w10.cell? ⟨w5.heap.size, 2, none⟩ = some (.int .i64 0) := B_z3.out.cell 2 rfl; have c3z3 : w10.cell? ⟨w5.heap.size, 3, none⟩ = some (.int .i64 0) := B_z3.out.cell 3 rfl; have c0z4 : w10.cell? ⟨w6.heap.size, 0, none⟩ = some (.int .i64 0) := B_z4.out.cell 0 rfl; have c1z4 : w10.cell? ⟨w6.heap.size, 1, none⟩ = some (.int .i64 0) := B_z4.out.cell 1 rfl; have c2z4 : w10.cell? ⟨w6.heap.size, 2, none⟩ = some (.int .i64 0) := B_z4.out.cell 2 rfl; have c3z4 : w10.cell? ⟨w6.heap.size, 3, none⟩ = some (.int .i64 0) := B_z4.out.cell 3 rfl; have tk1x4 : True := trivial)
      | (clear tk1x4; go_at_call 23; refine (HRA.out _ _ _ (PL.below L.out (by exact sm))).mono ?_; rintro e w11 ⟨rfl, bb⟩; replace bb := nextw (w0 := w10) (by exact sm) bb; replace B_z0 := mv B_z0 bb; replace B_z1 := mv B_z1 bb; replace B_z2 := mv B_z2 bb; replace B_z3 := mv B_z3 bb; replace B_z4 := mv B_z4 bb; replace L := Lib.hid (PL.below L.out bb); replace HB := nx HB bb; clear bb c0z0 c1z0 c2z0 c0z1 c1z1 c2z1 c0z2 c1z2 c2z2 c0z3 c1z3 c2z3 c3z3 c0z4 c1z4 c2z4 c3z4; have c0z0 : w11.cell? ⟨w.heap.size, 0, none⟩ = some (.int .i64 x) := B_z0.out.cell 0 rfl; have c1z0 : w11.cell? ⟨w.heap.size, 1, none⟩ = some (.int .i64 y) := B_z0.out.cell 1 rfl; have c2z0 : w11.cell? ⟨w.heap.size, 2, none⟩ = some (.slice A n c) := B_z0.out.cell 2 rfl; have c0z1 : w11.cell? ⟨w3.heap.size, 0, none⟩ = some (.int .i64 0) := B_z1.out.cell 0 rfl; have c1z1 : w11.cell? ⟨w3.heap.size, 1, none⟩ = some (.int .i64 0) := B_z1.out.cell 1 rfl; have c2z1 : w11.cell? ⟨w3.heap.size, 2, none⟩ = some (.slice none 0 0) := B_z1.out.cell 2 rfl; have c0z2 : w11.cell? ⟨w4.heap.size, 0, none⟩ = some (.int .i64 0) := B_z2.out.cell 0 rfl; have c1z2 : w11.cell? ⟨w4.heap.size, 1, none⟩ = some (.int .i64 0) := B_z2.out.cell 1 rfl; have c2z2 : w11.cell? ⟨w4.heap.size, 2, none⟩ = some (.slice none 0 0) := B_z2.out.cell 2 rfl; have c0z3 : w11.cell? ⟨w5.heap.size, 0, none⟩ = some (.int .i64 0) := B_z3.out.cell 0 rfl; have c1z3 : w11.cell? ⟨w5.heap.size, 1, none⟩ = some (.int .i64 0) := B_z3.out.cell 1 rfl; have c2z3 : w11.cell? ⟨w5.heap.size, 2, none⟩ = some (.int .i64 0) := B_z3.out.cell 2 rfl; have c3z3 : w11.cell? ⟨w5.heap.size, 3, none⟩ = some (.int .i64 0) := B_z3.out.cell 3 rfl; have c0z4 : w11.cell? ⟨w6.heap.size, 0, none⟩ = some (.int .i64 0) := B_z4.out.cell 0 rfl; have c1z4 : w11.cell? ⟨w6.heap.size, 1, none⟩ = some (.int .i64 0) := B_z4.out.cell 1 rfl; have c2z4 : w11.cell? ⟨w6.heap.size, 2, none⟩ = some (.int .i64 0) := B_z4.out.cell 2 rfl; have c3z4 : w11.cell? ⟨w6.heap.size, 3, none⟩ = some (.int .i64 0) := B_z4.out.cell 3 rfl; have tk1x5 : True := trivial)
      | (clear tk1x5; go_at_call 25; refine (Corners_w1 x y A n c l (by omega) dd1 _ (PL.below L.out (by exact sm))).mono ?_; rintro e w12 ⟨rfl, bb⟩; replace bb := nextw (w0 := w11) (by exact sm) bb; replace B_z0 := mv B_z0 bb; replace B_z1 := mv B_z1 bb; replace B_z2 := mv B_z2 bb; replace B_z3 := mv B_z3 bb; replace B_z4 := mv B_z4 bb; replace L := Lib.hid (PL.below L.out bb); replace HB := nx HB bb; clear bb c0z0 c1z0 c2z0 c0z1 c1z1 c2z1 c0z2 c1z2 c2z2 c0z3 c1z3 c2z3 c3z3 c0z4 c1z4 c2z4 c3z4; have c0z0 : w12.cell? ⟨w.heap.size, 0, none⟩ = some (.int .i64 x) := B_z0.out.cell 0 rfl; have c1z0 : w12.cell? ⟨w.heap.size, 1, none⟩ = some (.int .i64 y) := B_z0.out.cell 1 rfl; have c2z0 : w12.cell? ⟨w.heap.size, 2, none⟩ = some (.slice A n c) := B_z0.out.cell 2 rfl; have c0z1 : w12.cell? ⟨w3.heap.size, 0, none⟩ = some (.int .i64 0) := B_z1.out.cell 0 rfl; have c1z1 : w12.cell? ⟨w3.heap.size, 1, none⟩ = some (.int .i64 0) := B_z1.out.cell 1 rfl; have c2z1 : w12.cell? ⟨w3.heap.size, 2, none⟩ = some (.slice none 0 0) := B_z1.out.cell 2 rfl; have c0z2 : w12.cell? ⟨w4.heap.size, 0, none⟩ = some (.int .i64 0) := B_z2.out.cell 0 rfl; have c1z2 : w12.cell? ⟨w4.heap.size, 1, none⟩ = some (.int .i64 0) := B_z2.out.cell 1 rfl; have c2z2 : w12.cell? ⟨w4.heap.size, 2, none⟩ = some (.slice none 0 0) := B_z2.out.cell 2 rfl; have c0z3 : w12.cell? ⟨w5.heap.size, 0, none⟩ = some (.int .i64 0) := B_z3.out.cell 0 rfl; have c1z3 : w12.cell? ⟨w5.heap.size, 1, none⟩ = some (.int .i64 0) := B_z3.out.cell 1 rfl; have c2z3 : w12.cell? ⟨w5.heap.size, 2, none⟩ = some (.int .i64 0) := B_z3.out.cell 2 rfl; have c3z3 : w12.cell? ⟨w5.heap.size, 3, none⟩ = some (.int .i64 0) := B_z3.out.cell 3 rfl; have c0z4 : w12.cell? ⟨w6.heap.size, 0, none⟩ = some (.int .i64 0) := B_z4.out.cell 0 rfl; have c1z4 : w12.cell? ⟨w6.heap.size, 1, none⟩ = some (.int .i64 0) := B_z4.out.cell 1 rfl; have c2z4 : w12.cell? ⟨w6.heap.size, 2, none⟩ = some (.int .i64 0) := B_z4.out.cell 2 rfl; have c3z4 : w12.cell? ⟨w6.heap.size, 3, none⟩ = some (.int .i64 0) := B_z4.out.cell 3 rfl; have tk1x6 : True := trivial)
      | (clear tk1x6; go_at_call 26; refine (RCorners_w1 x y A n c l (by omega) dd1 _ (PL.below L.out (by exact sm))).mono ?_; rintro e w13 ⟨rfl, bb⟩; replace bb := nextw (w0 := w12) (by exact sm) bb; replace B_z0 := mv B_z0 bb; replace B_z1 := mv B_z1 bb; replace B_z2 := mv B_z2 bb; replace B_z3 := mv B_z3 bb; replace B_z4 := mv B_z4 bb; replace L := Lib.hid (PL.below L.out bb); replace HB := nx HB bb; clear bb c0z0 c1z0 c2z0 c0z1 c1z1 c2z1 c0z2 c1z2 c2z2 c0z3 c1z3 c2z3 c3z3 c0z4 c1z4 c2z4 c3z4; have c0z0 : w13.cell? ⟨w.heap.size, 0, none⟩ = some (.int .i64 x) := B_z0.out.cell 0 rfl; have c1z0 : w13.cell? ⟨w.heap.size, 1, none⟩ = some (.int .i64 y) := B_z0.out.cell 1 rfl; have c2z0 : w13.cell? ⟨w.heap.size, 2, none⟩ = some (.slice A n c) := B_z0.out.cell 2 rfl; have c0z1 : w13.cell? ⟨w3.heap.size, 0, none⟩ = some (.int .i64 0) := B_z1.out.cell 0 rfl; have c1z1 : w13.cell? ⟨w3.heap.size, 1, none⟩ = some (.int .i64 0) := B_z1.out.cell 1 rfl; have c2z1 : w13.cell? ⟨w3.heap.size, 2, none⟩ = some (.slice none 0 0) := B_z1.out.cell 2 rfl; have c0z2 : w13.cell? ⟨w4.heap.size, 0, none⟩ = some (.int .i64 0) := B_z2.out.cell 0 rfl; have c1z2 : w13.cell? ⟨w4.heap.size, 1, none⟩ = some (.int .i64 0) := B_z2.out.cell 1 rfl; have c2z2 : w13.cell? ⟨w4.heap.size, 2, none⟩ = some (.slice none 0 0) := B_z2.out.cell 2 rfl; have c0z3 : w13.cell? ⟨w5.heap.size, 0, none⟩ = some (.int .i64 0) := B_z3.out.cell 0 rfl; have c1z3 : w13.cell? ⟨w5.heap.size, 1, none⟩ = some (.int .i64 0) := B_z3.out.cell 1 rfl; have c2z3 : w13.cell? ⟨w5.heap.size, 2, none⟩ = some (.int .i64 0) := B_z3.out.cell 2 rfl; have c3z3 : w13.cell? ⟨w5.heap.size, 3, none⟩ = some (.int .i64 0) := B_z3.out.cell 3 rfl; have c0z4 : w13.cell? ⟨w6.heap.size, 0, none⟩ = some (.int .i64 0) := B_z4.out.cell 0 rfl; have c1z4 : w13.cell? ⟨w6.heap.size, 1, none⟩ = some (.int .i64 0) := B_z4.out.cell 1 rfl; have c2z4 : w13.cell? ⟨w6.heap.size, 2, none⟩ = some (.int .i64 0) := B_z4.out.cell 2 rfl; have c3z4 : w13.cell? ⟨w6.heap.size, 3, none⟩ = some (.int .i64 0) := B_z4.out.cell 3 rfl; have tk1x7 : True := trivial)
      | (clear tk1x7; go_at_call 24; refine (ptsN _).mono ?_; rintro e w14 ⟨rfl, bb⟩; replace bb := nextw (w0 := w13) (by exact sm) bb; replace B_z0 := mv B_z0 bb; replace B_z1 := mv B_z1 bb; replace B_z2 := mv B_z2 bb; replace B_z3 := mv B_z3 bb; replace B_z4 := mv B_z4 bb; replace L := Lib.hid (PL.below L.out bb); replace HB := nx HB bb; clear bb c0z0 c1z0 c2z0 c0z1 c1z1 c2z1 c0z2 c1z2 c2z2 c0z3 c1z3 c2z3 c3z3 c0z4 c1z4 c2z4 c3z4; have c0z0 : w14.cell? ⟨w.heap.size, 0, none⟩ = some (.int .i64 x) := B_z0.out.cell 0 rfl; have c1z0 : w14.cell? ⟨w.heap.size, 1, none⟩ = some (.int .i64 y) := B_z0.out.cell 1 rfl; have c2z0 : w14.cell? ⟨w.heap.size, 2, none⟩ = some (.slice A n c) := B_z0.out.cell 2 rfl; have c0z1 : w14.cell? ⟨w3.heap.size, 0, none⟩ = some (.int .i64 0) := B_z1.out.cell 0 rfl; have c1z1 : w14.cell? ⟨w3.heap.size, 1, none⟩ = some (.int .i64 0) := B_z1.out.cell 1 rfl; have c2z1 : w14.cell? ⟨w3.heap.size, 2, none⟩ = some (.slice none 0 0) := B_z1.out.cell 2 rfl; have c0z2 : w14.cell? ⟨w4.heap.size, 0, none⟩ = some (.int .i64 0) := B_z2.out.cell 0 rfl; have c1z2 : w14.cell? ⟨w4.heap.size, 1, none⟩ = some (.int .i64 0) := B_z2.out.cell 1 rfl; have c2z2 : w14.cell? ⟨w4.heap.size, 2, none⟩ = some (.slice none 0 0) := B_z2.out.cell 2 rfl; have c0z3 : w14.cell? ⟨w5.heap.size, 0, none⟩ = some (.int .i64 0) := B_z3.out.cell 0 rfl; have c1z3 : w14.cell? ⟨w5.heap.size, 1, none⟩ = some (.int .i64 0) := B_z3.out.cell 1 rfl; have c2z3 : w14.cell? ⟨w5.heap.size, 2, none⟩ = some (.int .i64 0) := B_z3.out.cell 2 rfl; have c3z3 : w14.cell? ⟨w5.heap.size, 3, none⟩ = some (.int .i64 0) := B_z3.out.cell 3 rfl; have c0z4 : w14.cell? ⟨w6.heap.size, 0, none⟩ = some (.int .i64 0) := B_z4.out.cell 0 rfl; have c1z4 : w14.cell? ⟨w6.heap.size, 1, none⟩ = some (.int .i64 0) := B_z4.out.cell 1 rfl; have c2z4 : w14.cell? ⟨w6.heap.size, 2, none⟩ = some (.int .i64 0) := B_z4.out.cell 2 rfl; have c3z4 : w14.cell? ⟨w6.heap.size, 3, none⟩ = some (.int .i64 0) := B_z4.out.cell 3 rfl; have tk1x8 : True := trivial))
  clear c0z0 c1z0 c2z0 c0z1 c1z1 c2z1 c0z2 c1z2 c2z2 c0z3 c1z3 c2z3 c3z3 c0z4 c1z4 c2z4 c3z4
  go_wp2
  go_ret
  exact ⟨(by first | rfl | exact rbt (by omega) | exact rbf (by omega)), nextw HB.out (by exact sm)⟩

theorem Matches_any (x y : Int) (A : Option Addr) (n c : Nat) (l : List P2) (w : World) {lo hi : Nat} (L : PL w lo hi A n c l) :
    Calls Try.prog 3 #[.agg #[.int .i64 x, .int .i64 y, .slice A n c]] w fun e w' => e = .returned (.bool true) ∧ Below w.heap.size w w' := by
  by_cases dd0 : ((n : Nat) : Int) ≤ 40
  · skip
    by_cases dd1 : OkZ x y l
    · skip
      exact LMatch_w0 x y A n c l _ _ _ _ _ _ _ rfl rfl rfl rfl rfl rfl rfl dd0 dd1 w L
    · skip
      exact LMatch_w2 x y A n c l _ _ _ _ _ _ _ rfl rfl rfl rfl rfl rfl rfl dd0 dd1 w L
  · skip
    replace dd0 : 40 < ((n : Nat) : Int) := by omega
    exact LMatch_w1 x y A n c l _ _ _ _ _ _ _ rfl rfl rfl rfl rfl rfl rfl dd0 w L
end Go.Proofs.Ytpjbkadhmjlpfaa
