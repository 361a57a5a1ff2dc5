/- wayfinderlaw07.awake. -/
import Derived.Test.YtpjbkadhmjlpfaaZ22
set_option linter.unusedVariables false
set_option linter.unusedSimpArgs false
namespace Go.Proofs.Ytpjbkadhmjlpfaa
open Go Go.RowKit Hd

set_option maxRecDepth 100000 in
set_option maxHeartbeats 8000000 in
theorem awake_w0    (w : World) :
    Calls Try.prog 13 #[] w fun e w' => e = .returned (.bool true) ∧ Below w.heap.size w w' := by
  have HB := Lib.hid (Below.refl w.heap.size w)
  go_enter Try.func13, Try.ntmps13
  go_upto_region 1 with (fail)
  have lw_LC0 : Hid (w.heap.size ≤ w.heap.size) := HB.out.size
  go_wp2_with fail
  refine (OfRect_ex _ ).mono ?_
  rintro e w1 ⟨AC0, cC0, rfl, LC0, bb⟩
  replace bb := nextw (w0 := w) (by exact sm) bb
  replace HB := nx HB bb
  clear bb
  replace LC0 := Lib.hid LC0
  obtain ⟨bb, B_z0⟩ := box1 w1 24 #[.int .i64 4, .int .i64 2, .slice AC0 2 cC0]
  replace bb := bb.out
  replace LC0 := Lib.hid (PL.below LC0.out bb)
  replace HB := nx HB bb
  clear bb
  go_upto_region 2 with (fail)
  generalize w1.alloc (.cells #[.int .i64 4, .int .i64 2, .slice AC0 2 cC0] 24) = WN1 at *
  have sp_z0_LC1 : Hid (w1.heap.size < WN1.heap.size) := B_z0.out.lt
  have lw_LC1 : Hid (w.heap.size ≤ WN1.heap.size) := HB.out.size
  go_wp2_with fail
  refine (OfSeg_ex _ ).mono ?_
  rintro e w2 ⟨AC1, cC1, rfl, LC1, bb⟩
  replace bb := nextw (w0 := WN1) (by exact sm) bb
  replace B_z0 := mv B_z0 bb
  replace LC0 := Lib.hid (PL.below LC0.out bb)
  replace HB := nx HB bb
  clear bb
  replace LC1 := Lib.hid LC1
  have lt_z1z0 := B_z0.out.lt
  obtain ⟨bb, B_z1⟩ := box1 w2 24 #[.int .i64 (-3), .int .i64 5, .slice AC1 1 cC1]
  replace bb := bb.out
  replace B_z0 := mv B_z0 bb
  replace LC0 := Lib.hid (PL.below LC0.out bb)
  replace LC1 := Lib.hid (PL.below LC1.out bb)
  replace HB := nx HB bb
  clear bb
  go_upto_region 3 with (fail)
  generalize w2.alloc (.cells #[.int .i64 (-3), .int .i64 5, .slice AC1 1 cC1] 24) = WN2 at *
  obtain ⟨c0z0, c1z0, c2z0⟩ := cells3 B_z0
  obtain ⟨c0z1, c1z1, c2z1⟩ := cells3 B_z1
  have sp_z0_LC2 : Hid (w1.heap.size < WN2.heap.size) := B_z0.out.lt
  have sp_z1_LC2 : Hid (w2.heap.size < WN2.heap.size) := B_z1.out.lt
  have lw_LC2 : Hid (w.heap.size ≤ WN2.heap.size) := HB.out.size
  go_wp2_with fail
  refine (Sum_ex _ (PL.below LC0.out (by exact sm)) (PL.below LC1.out (by exact sm))).mono ?_
  clear c0z0 c1z0 c2z0 c0z1 c1z1 c2z1
  rintro e w3 ⟨AC2, cC2, rfl, LC2, bb⟩
  replace bb := nextw (w0 := WN2) (by exact sm) bb
  replace B_z0 := mv B_z0 bb
  replace B_z1 := mv B_z1 bb
  replace LC0 := Lib.hid (PL.below LC0.out bb)
  replace LC1 := Lib.hid (PL.below LC1.out bb)
  replace HB := nx HB bb
  clear bb
  replace LC2 := Lib.hid LC2
  have lt_z2z0 := B_z0.out.lt
  have lt_z2z1 := B_z1.out.lt
  obtain ⟨bb, B_z2⟩ := box1 w3 24 #[.int .i64 1, .int .i64 7, .slice AC2 3 cC2]
  replace bb := bb.out
  replace B_z0 := mv B_z0 bb
  replace B_z1 := mv B_z1 bb
  replace LC0 := Lib.hid (PL.below LC0.out bb)
  replace LC1 := Lib.hid (PL.below LC1.out bb)
  replace LC2 := Lib.hid (PL.below LC2.out bb)
  replace HB := nx HB bb
  clear bb
  go_upto_region 4 with (fail)
  generalize w3.alloc (.cells #[.int .i64 1, .int .i64 7, .slice AC2 3 cC2] 24) = WN3 at *
  obtain ⟨c0z2, c1z2, c2z2⟩ := cells3 B_z2
  go_wp2_with fail
  refine (Bounds_ex _ (PL.below LC2.out (by exact sm))).mono ?_
  clear c0z2 c1z2 c2z2
  rintro e w4 ⟨rfl, bb⟩
  replace bb := nextw (w0 := WN3) (by exact sm) bb
  replace B_z0 := mv B_z0 bb
  replace B_z1 := mv B_z1 bb
  replace B_z2 := mv B_z2 bb
  replace LC0 := Lib.hid (PL.below LC0.out bb)
  replace LC1 := Lib.hid (PL.below LC1.out bb)
  replace LC2 := Lib.hid (PL.below LC2.out bb)
  replace HB := nx HB bb
  clear bb
  have lt_z3z0 := B_z0.out.lt
  have lt_z3z1 := B_z1.out.lt
  have lt_z3z2 := B_z2.out.lt
  obtain ⟨bb, B_z3⟩ := box1 w4 31 #[.int .i64 (-6), .int .i64 0, .int .i64 8, .int .i64 14]
  replace bb := bb.out
  replace B_z0 := mv B_z0 bb
  replace B_z1 := mv B_z1 bb
  replace B_z2 := mv B_z2 bb
  replace LC0 := Lib.hid (PL.below LC0.out bb)
  replace LC1 := Lib.hid (PL.below LC1.out bb)
  replace LC2 := Lib.hid (PL.below LC2.out bb)
  replace HB := nx HB bb
  clear bb
  go_upto_region 5 with (fail)
  generalize w4.alloc (.cells #[.int .i64 (-6), .int .i64 0, .int .i64 8, .int .i64 14] 31) = WN4 at *
  have lt_z4z0 := B_z0.out.lt
  have lt_z4z1 := B_z1.out.lt
  have lt_z4z2 := B_z2.out.lt
  have lt_z4z3 := B_z3.out.lt
  obtain ⟨bb, B_z4⟩ := box1 WN4 39 #[.int .i64 (-2), .int .i64 0, .int .i64 1, .int .i64 0, .int .i64 0, .int .i64 (-3)]
  replace bb := bb.out
  replace B_z0 := mv B_z0 bb
  replace B_z1 := mv B_z1 bb
  replace B_z2 := mv B_z2 bb
  replace B_z3 := mv B_z3 bb
  replace LC0 := Lib.hid (PL.below LC0.out bb)
  replace LC1 := Lib.hid (PL.below LC1.out bb)
  replace LC2 := Lib.hid (PL.below LC2.out bb)
  replace HB := nx HB bb
  clear bb
  go_wp2_with fail
  generalize WN4.alloc (.cells #[.int .i64 (-2), .int .i64 0, .int .i64 1, .int .i64 0, .int .i64 0, .int .i64 (-3)] 39) = WA5x98 at *
  have sp_z0_LC4 : Hid (w1.heap.size < WA5x98.heap.size) := B_z0.out.lt
  have sp_z1_LC4 : Hid (w2.heap.size < WA5x98.heap.size) := B_z1.out.lt
  have sp_z2_LC4 : Hid (w3.heap.size < WA5x98.heap.size) := B_z2.out.lt
  have sp_z3_LC4 : Hid (w4.heap.size < WA5x98.heap.size) := B_z3.out.lt
  have sp_z4_LC4 : Hid (WN4.heap.size < WA5x98.heap.size) := B_z4.out.lt
  have lw_LC4 : Hid (w.heap.size ≤ WA5x98.heap.size) := HB.out.size
  refine (Norm_ex _ (PL.below (pl_3 _ B_z4.out) (by exact sm))).mono ?_
  rintro e w5 ⟨AC4, cC4, rfl, LC4, bb⟩
  replace bb := nextw (w0 := WA5x98) (by exact sm) bb
  replace B_z0 := mv B_z0 bb
  replace B_z1 := mv B_z1 bb
  replace B_z2 := mv B_z2 bb
  replace B_z3 := mv B_z3 bb
  replace B_z4 := mv B_z4 bb
  replace LC0 := Lib.hid (PL.below LC0.out bb)
  replace LC1 := Lib.hid (PL.below LC1.out bb)
  replace LC2 := Lib.hid (PL.below LC2.out bb)
  replace HB := nx HB bb
  clear bb
  replace LC4 := Lib.hid LC4
  have lt_z5z0 := B_z0.out.lt
  have lt_z5z1 := B_z1.out.lt
  have lt_z5z2 := B_z2.out.lt
  have lt_z5z3 := B_z3.out.lt
  have lt_z5z4 := B_z4.out.lt
  obtain ⟨bb, B_z5⟩ := box1 w5 24 #[.int .i64 0, .int .i64 0, .slice AC4 2 cC4]
  replace bb := bb.out
  replace B_z0 := mv B_z0 bb
  replace B_z1 := mv B_z1 bb
  replace B_z2 := mv B_z2 bb
  replace B_z3 := mv B_z3 bb
  replace B_z4 := mv B_z4 bb
  replace LC0 := Lib.hid (PL.below LC0.out bb)
  replace LC1 := Lib.hid (PL.below LC1.out bb)
  replace LC2 := Lib.hid (PL.below LC2.out bb)
  replace LC4 := Lib.hid (PL.below LC4.out bb)
  replace HB := nx HB bb
  clear bb
  go_upto_region 6 with (fail)
  generalize w5.alloc (.cells #[.int .i64 0, .int .i64 0, .slice AC4 2 cC4] 24) = WN5 at *
  have lt_z6z0 := B_z0.out.lt
  have lt_z6z1 := B_z1.out.lt
  have lt_z6z2 := B_z2.out.lt
  have lt_z6z3 := B_z3.out.lt
  have lt_z6z4 := B_z4.out.lt
  have lt_z6z5 := B_z5.out.lt
  obtain ⟨bb, B_z6⟩ := box1 WN5 39 #[.int .i64 9, .int .i64 0, .int .i64 1, .int .i64 1, .int .i64 0, .int .i64 9, .int .i64 (-1), .int .i64 2]
  replace bb := bb.out
  replace B_z0 := mv B_z0 bb
  replace B_z1 := mv B_z1 bb
  replace B_z2 := mv B_z2 bb
  replace B_z3 := mv B_z3 bb
  replace B_z4 := mv B_z4 bb
  replace B_z5 := mv B_z5 bb
  replace LC0 := Lib.hid (PL.below LC0.out bb)
  replace LC1 := Lib.hid (PL.below LC1.out bb)
  replace LC2 := Lib.hid (PL.below LC2.out bb)
  replace LC4 := Lib.hid (PL.below LC4.out bb)
  replace HB := nx HB bb
  clear bb
  go_wp2_with fail
  generalize WN5.alloc (.cells #[.int .i64 9, .int .i64 0, .int .i64 1, .int .i64 1, .int .i64 0, .int .i64 9, .int .i64 (-1), .int .i64 2] 39) = WA6x155 at *
  have sp_z0_LC5 : Hid (w1.heap.size < WA6x155.heap.size) := B_z0.out.lt
  have sp_z1_LC5 : Hid (w2.heap.size < WA6x155.heap.size) := B_z1.out.lt
  have sp_z2_LC5 : Hid (w3.heap.size < WA6x155.heap.size) := B_z2.out.lt
  have sp_z3_LC5 : Hid (w4.heap.size < WA6x155.heap.size) := B_z3.out.lt
  have sp_z4_LC5 : Hid (WN4.heap.size < WA6x155.heap.size) := B_z4.out.lt
  have sp_z5_LC5 : Hid (w5.heap.size < WA6x155.heap.size) := B_z5.out.lt
  have sp_z6_LC5 : Hid (WN5.heap.size < WA6x155.heap.size) := B_z6.out.lt
  have lw_LC5 : Hid (w.heap.size ≤ WA6x155.heap.size) := HB.out.size
  refine (Reduce_ex _ (PL.below (pl_4 _ B_z6.out) (by exact sm))).mono ?_
  rintro e w6 ⟨AC5, cC5, rfl, LC5, bb⟩
  replace bb := nextw (w0 := WA6x155) (by exact sm) bb
  replace B_z0 := mv B_z0 bb
  replace B_z1 := mv B_z1 bb
  replace B_z2 := mv B_z2 bb
  replace B_z3 := mv B_z3 bb
  replace B_z4 := mv B_z4 bb
  replace B_z5 := mv B_z5 bb
  replace B_z6 := mv B_z6 bb
  replace LC0 := Lib.hid (PL.below LC0.out bb)
  replace LC1 := Lib.hid (PL.below LC1.out bb)
  replace LC2 := Lib.hid (PL.below LC2.out bb)
  replace LC4 := Lib.hid (PL.below LC4.out bb)
  replace HB := nx HB bb
  clear bb
  replace LC5 := Lib.hid LC5
  have lt_z7z0 := B_z0.out.lt
  have lt_z7z1 := B_z1.out.lt
  have lt_z7z2 := B_z2.out.lt
  have lt_z7z3 := B_z3.out.lt
  have lt_z7z4 := B_z4.out.lt
  have lt_z7z5 := B_z5.out.lt
  have lt_z7z6 := B_z6.out.lt
  obtain ⟨bb, B_z7⟩ := box1 w6 24 #[.int .i64 0, .int .i64 0, .slice AC5 2 cC5]
  replace bb := bb.out
  replace B_z0 := mv B_z0 bb
  replace B_z1 := mv B_z1 bb
  replace B_z2 := mv B_z2 bb
  replace B_z3 := mv B_z3 bb
  replace B_z4 := mv B_z4 bb
  replace B_z5 := mv B_z5 bb
  replace B_z6 := mv B_z6 bb
  replace LC0 := Lib.hid (PL.below LC0.out bb)
  replace LC1 := Lib.hid (PL.below LC1.out bb)
  replace LC2 := Lib.hid (PL.below LC2.out bb)
  replace LC4 := Lib.hid (PL.below LC4.out bb)
  replace LC5 := Lib.hid (PL.below LC5.out bb)
  replace HB := nx HB bb
  clear bb
  go_upto_region 7 with (fail)
  generalize w6.alloc (.cells #[.int .i64 0, .int .i64 0, .slice AC5 2 cC5] 24) = WN6 at *
  obtain ⟨c0z2, c1z2, c2z2⟩ := cells3 B_z2
  have lt_z8z0 := B_z0.out.lt
  have lt_z8z1 := B_z1.out.lt
  have lt_z8z2 := B_z2.out.lt
  have lt_z8z3 := B_z3.out.lt
  have lt_z8z4 := B_z4.out.lt
  have lt_z8z5 := B_z5.out.lt
  have lt_z8z6 := B_z6.out.lt
  have lt_z8z7 := B_z7.out.lt
  obtain ⟨bb, B_z8⟩ := box1 WN6 39 #[.int .i64 4, .int .i64 0, .int .i64 0, .int .i64 2, .int .i64 (-3), .int .i64 5]
  replace bb := bb.out
  replace B_z0 := mv B_z0 bb
  replace B_z1 := mv B_z1 bb
  replace B_z2 := mv B_z2 bb
  replace B_z3 := mv B_z3 bb
  replace B_z4 := mv B_z4 bb
  replace B_z5 := mv B_z5 bb
  replace B_z6 := mv B_z6 bb
  replace B_z7 := mv B_z7 bb
  replace LC0 := Lib.hid (PL.below LC0.out bb)
  replace LC1 := Lib.hid (PL.below LC1.out bb)
  replace LC2 := Lib.hid (PL.below LC2.out bb)
  replace LC4 := Lib.hid (PL.below LC4.out bb)
  replace LC5 := Lib.hid (PL.below LC5.out bb)
  replace HB := nx HB bb
  clear bb
  go_wp2_with fail
  clear c0z2 c1z2 c2z2
  generalize WN6.alloc (.cells #[.int .i64 4, .int .i64 0, .int .i64 0, .int .i64 2, .int .i64 (-3), .int .i64 5] 39) = WA7x228 at *
  refine (Zon_ex _ 1 7 exZ 3 (by decide) (PL.below LC2.out (by exact sm)) (PL.below (pl_3 _ B_z8.out) (by exact sm))).mono ?_
  rintro e w7 ⟨rfl, bb⟩
  replace bb := nextw (w0 := WA7x228) (by exact sm) bb
  replace B_z0 := mv B_z0 bb
  replace B_z1 := mv B_z1 bb
  replace B_z2 := mv B_z2 bb
  replace B_z3 := mv B_z3 bb
  replace B_z4 := mv B_z4 bb
  replace B_z5 := mv B_z5 bb
  replace B_z6 := mv B_z6 bb
  replace B_z7 := mv B_z7 bb
  replace B_z8 := mv B_z8 bb
  replace LC0 := Lib.hid (PL.below LC0.out bb)
  replace LC1 := Lib.hid (PL.below LC1.out bb)
  replace LC2 := Lib.hid (PL.below LC2.out bb)
  replace LC4 := Lib.hid (PL.below LC4.out bb)
  replace LC5 := Lib.hid (PL.below LC5.out bb)
  replace HB := nx HB bb
  clear bb
  obtain ⟨c0z2, c1z2, c2z2⟩ := cells3 B_z2
  go_wp2_with fail
  refine (Support_ex _ (PL.below LC2.out (by exact sm))).mono ?_
  clear c0z2 c1z2 c2z2
  rintro e w8 ⟨rfl, bb⟩
  replace bb := nextw (w0 := w7) (by exact sm) bb
  replace B_z0 := mv B_z0 bb
  replace B_z1 := mv B_z1 bb
  replace B_z2 := mv B_z2 bb
  replace B_z3 := mv B_z3 bb
  replace B_z4 := mv B_z4 bb
  replace B_z5 := mv B_z5 bb
  replace B_z6 := mv B_z6 bb
  replace B_z7 := mv B_z7 bb
  replace B_z8 := mv B_z8 bb
  replace LC0 := Lib.hid (PL.below LC0.out bb)
  replace LC1 := Lib.hid (PL.below LC1.out bb)
  replace LC2 := Lib.hid (PL.below LC2.out bb)
  replace LC4 := Lib.hid (PL.below LC4.out bb)
  replace LC5 := Lib.hid (PL.below LC5.out bb)
  replace HB := nx HB bb
  clear bb
  obtain ⟨c0z3, c1z3, c2z3, c3z3⟩ := cells4 B_z3
  obtain ⟨c0z2, c1z2, c2z2⟩ := cells3 B_z2
  go_wp2_with fail
  refine (Area_ex _ (PL.below LC2.out (by exact sm))).mono ?_
  clear c0z3 c1z3 c2z3 c3z3 c0z2 c1z2 c2z2
  rintro e w9 ⟨rfl, bb⟩
  replace bb := nextw (w0 := w8) (by exact sm) bb
  replace B_z0 := mv B_z0 bb
  replace B_z1 := mv B_z1 bb
  replace B_z2 := mv B_z2 bb
  replace B_z3 := mv B_z3 bb
  replace B_z4 := mv B_z4 bb
  replace B_z5 := mv B_z5 bb
  replace B_z6 := mv B_z6 bb
  replace B_z7 := mv B_z7 bb
  replace B_z8 := mv B_z8 bb
  replace LC0 := Lib.hid (PL.below LC0.out bb)
  replace LC1 := Lib.hid (PL.below LC1.out bb)
  replace LC2 := Lib.hid (PL.below LC2.out bb)
  replace LC4 := Lib.hid (PL.below LC4.out bb)
  replace LC5 := Lib.hid (PL.below LC5.out bb)
  replace HB := nx HB bb
  clear bb
  obtain ⟨c0z5, c1z5, c2z5⟩ := cells3 B_z5
  go_wp2_with fail
  refine (Has_ex _ (PL.below LC4.out (by exact sm))).mono ?_
  clear c0z5 c1z5 c2z5
  rintro e w10 ⟨rfl, bb⟩
  replace bb := nextw (w0 := w9) (by exact sm) bb
  replace B_z0 := mv B_z0 bb
  replace B_z1 := mv B_z1 bb
  replace B_z2 := mv B_z2 bb
  replace B_z3 := mv B_z3 bb
  replace B_z4 := mv B_z4 bb
  replace B_z5 := mv B_z5 bb
  replace B_z6 := mv B_z6 bb
  replace B_z7 := mv B_z7 bb
  replace B_z8 := mv B_z8 bb
  replace LC0 := Lib.hid (PL.below LC0.out bb)
  replace LC1 := Lib.hid (PL.below LC1.out bb)
  replace LC2 := Lib.hid (PL.below LC2.out bb)
  replace LC4 := Lib.hid (PL.below LC4.out bb)
  replace LC5 := Lib.hid (PL.below LC5.out bb)
  replace HB := nx HB bb
  clear bb
  obtain ⟨c0z5, c1z5, c2z5⟩ := cells3 B_z5
  go_wp2_with fail
  refine (Has_ex2 _ (PL.below LC4.out (by exact sm))).mono ?_
  clear c0z5 c1z5 c2z5
  rintro e w11 ⟨rfl, bb⟩
  replace bb := nextw (w0 := w10) (by exact sm) bb
  replace B_z0 := mv B_z0 bb
  replace B_z1 := mv B_z1 bb
  replace B_z2 := mv B_z2 bb
  replace B_z3 := mv B_z3 bb
  replace B_z4 := mv B_z4 bb
  replace B_z5 := mv B_z5 bb
  replace B_z6 := mv B_z6 bb
  replace B_z7 := mv B_z7 bb
  replace B_z8 := mv B_z8 bb
  replace LC0 := Lib.hid (PL.below LC0.out bb)
  replace LC1 := Lib.hid (PL.below LC1.out bb)
  replace LC2 := Lib.hid (PL.below LC2.out bb)
  replace LC4 := Lib.hid (PL.below LC4.out bb)
  replace LC5 := Lib.hid (PL.below LC5.out bb)
  replace HB := nx HB bb
  clear bb
  obtain ⟨c0z5, c1z5, c2z5⟩ := cells3 B_z5
  go_wp2_with fail
  refine (Apart_ex _ (PL.below LC4.out (by exact sm))).mono ?_
  clear c0z5 c1z5 c2z5
  rintro e w12 ⟨rfl, bb⟩
  replace bb := nextw (w0 := w11) (by exact sm) bb
  replace B_z0 := mv B_z0 bb
  replace B_z1 := mv B_z1 bb
  replace B_z2 := mv B_z2 bb
  replace B_z3 := mv B_z3 bb
  replace B_z4 := mv B_z4 bb
  replace B_z5 := mv B_z5 bb
  replace B_z6 := mv B_z6 bb
  replace B_z7 := mv B_z7 bb
  replace B_z8 := mv B_z8 bb
  replace LC0 := Lib.hid (PL.below LC0.out bb)
  replace LC1 := Lib.hid (PL.below LC1.out bb)
  replace LC2 := Lib.hid (PL.below LC2.out bb)
  replace LC4 := Lib.hid (PL.below LC4.out bb)
  replace LC5 := Lib.hid (PL.below LC5.out bb)
  replace HB := nx HB bb
  clear bb
  obtain ⟨c0z7, c1z7, c2z7⟩ := cells3 B_z7
  have lt_z9z0 := B_z0.out.lt
  have lt_z9z1 := B_z1.out.lt
  have lt_z9z2 := B_z2.out.lt
  have lt_z9z3 := B_z3.out.lt
  have lt_z9z4 := B_z4.out.lt
  have lt_z9z5 := B_z5.out.lt
  have lt_z9z6 := B_z6.out.lt
  have lt_z9z7 := B_z7.out.lt
  have lt_z9z8 := B_z8.out.lt
  obtain ⟨bb, B_z9⟩ := box1 w12 39 #[.int .i64 11, .int .i64 0, .int .i64 0, .int .i64 12]
  replace bb := bb.out
  replace B_z0 := mv B_z0 bb
  replace B_z1 := mv B_z1 bb
  replace B_z2 := mv B_z2 bb
  replace B_z3 := mv B_z3 bb
  replace B_z4 := mv B_z4 bb
  replace B_z5 := mv B_z5 bb
  replace B_z6 := mv B_z6 bb
  replace B_z7 := mv B_z7 bb
  replace B_z8 := mv B_z8 bb
  replace LC0 := Lib.hid (PL.below LC0.out bb)
  replace LC1 := Lib.hid (PL.below LC1.out bb)
  replace LC2 := Lib.hid (PL.below LC2.out bb)
  replace LC4 := Lib.hid (PL.below LC4.out bb)
  replace LC5 := Lib.hid (PL.below LC5.out bb)
  replace HB := nx HB bb
  clear bb
  go_wp2_with fail
  clear c0z7 c1z7 c2z7
  generalize w12.alloc (.cells #[.int .i64 11, .int .i64 0, .int .i64 0, .int .i64 12] 39) = WA9x387 at *
  refine (Zon_ex _ 0 0 exM 2 (by decide) (PL.below LC5.out (by exact sm)) (PL.below (pl_2 B_z9.out) (by exact sm))).mono ?_
  rintro e w13 ⟨rfl, bb⟩
  replace bb := nextw (w0 := WA9x387) (by exact sm) bb
  replace B_z0 := mv B_z0 bb
  replace B_z1 := mv B_z1 bb
  replace B_z2 := mv B_z2 bb
  replace B_z3 := mv B_z3 bb
  replace B_z4 := mv B_z4 bb
  replace B_z5 := mv B_z5 bb
  replace B_z6 := mv B_z6 bb
  replace B_z7 := mv B_z7 bb
  replace B_z8 := mv B_z8 bb
  replace B_z9 := mv B_z9 bb
  replace LC0 := Lib.hid (PL.below LC0.out bb)
  replace LC1 := Lib.hid (PL.below LC1.out bb)
  replace LC2 := Lib.hid (PL.below LC2.out bb)
  replace LC4 := Lib.hid (PL.below LC4.out bb)
  replace LC5 := Lib.hid (PL.below LC5.out bb)
  replace HB := nx HB bb
  clear bb
  obtain ⟨c0z2, c1z2, c2z2⟩ := cells3 B_z2
  go_wp2_with fail
  refine (Corners_ex _ (PL.below LC2.out (by exact sm))).mono ?_
  clear c0z2 c1z2 c2z2
  rintro e w14 ⟨AC13, cC13, rfl, bb⟩
  replace bb := nextw (w0 := w13) (by exact sm) bb
  replace B_z0 := mv B_z0 bb
  replace B_z1 := mv B_z1 bb
  replace B_z2 := mv B_z2 bb
  replace B_z3 := mv B_z3 bb
  replace B_z4 := mv B_z4 bb
  replace B_z5 := mv B_z5 bb
  replace B_z6 := mv B_z6 bb
  replace B_z7 := mv B_z7 bb
  replace B_z8 := mv B_z8 bb
  replace B_z9 := mv B_z9 bb
  replace LC0 := Lib.hid (PL.below LC0.out bb)
  replace LC1 := Lib.hid (PL.below LC1.out bb)
  replace LC2 := Lib.hid (PL.below LC2.out bb)
  replace LC4 := Lib.hid (PL.below LC4.out bb)
  replace LC5 := Lib.hid (PL.below LC5.out bb)
  replace HB := nx HB bb
  clear bb
  obtain ⟨c0z5, c1z5, c2z5⟩ := cells3 B_z5
  go_wp2_with fail
  refine (Same_ex _ (PL.below LC4.out (by exact sm))).mono ?_
  clear c0z5 c1z5 c2z5
  rintro e w15 ⟨rfl, bb⟩
  replace bb := nextw (w0 := w14) (by exact sm) bb
  replace B_z0 := mv B_z0 bb
  replace B_z1 := mv B_z1 bb
  replace B_z2 := mv B_z2 bb
  replace B_z3 := mv B_z3 bb
  replace B_z4 := mv B_z4 bb
  replace B_z5 := mv B_z5 bb
  replace B_z6 := mv B_z6 bb
  replace B_z7 := mv B_z7 bb
  replace B_z8 := mv B_z8 bb
  replace B_z9 := mv B_z9 bb
  replace LC0 := Lib.hid (PL.below LC0.out bb)
  replace LC1 := Lib.hid (PL.below LC1.out bb)
  replace LC2 := Lib.hid (PL.below LC2.out bb)
  replace LC4 := Lib.hid (PL.below LC4.out bb)
  replace LC5 := Lib.hid (PL.below LC5.out bb)
  replace HB := nx HB bb
  clear bb
  obtain ⟨c0z5, c1z5, c2z5⟩ := cells3 B_z5
  go_wp2_with fail
  refine (Valid_ex _ (PL.below LC4.out (by exact sm))).mono ?_
  clear c0z5 c1z5 c2z5
  rintro e w16 ⟨rfl, bb⟩
  replace bb := nextw (w0 := w15) (by exact sm) bb
  replace B_z0 := mv B_z0 bb
  replace B_z1 := mv B_z1 bb
  replace B_z2 := mv B_z2 bb
  replace B_z3 := mv B_z3 bb
  replace B_z4 := mv B_z4 bb
  replace B_z5 := mv B_z5 bb
  replace B_z6 := mv B_z6 bb
  replace B_z7 := mv B_z7 bb
  replace B_z8 := mv B_z8 bb
  replace B_z9 := mv B_z9 bb
  replace LC0 := Lib.hid (PL.below LC0.out bb)
  replace LC1 := Lib.hid (PL.below LC1.out bb)
  replace LC2 := Lib.hid (PL.below LC2.out bb)
  replace LC4 := Lib.hid (PL.below LC4.out bb)
  replace LC5 := Lib.hid (PL.below LC5.out bb)
  replace HB := nx HB bb
  clear bb
  go_wp2
  go_ret
  exact ⟨(by first | rfl | exact rbt (by omega) | exact rbf (by omega)), nextw HB.out (by exact sm)⟩
end Go.Proofs.Ytpjbkadhmjlpfaa
