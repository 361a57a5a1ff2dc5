/- The reference's Times: the second range begins later. -/
import Derived.Test.YtkhcogfajihecaaS7
set_option linter.unusedVariables false
set_option linter.unusedSimpArgs false
namespace Go.Proofs.Ytkhcogfajihecaa
open Go Go.RowKit Hd

set_option maxRecDepth 100000 in
set_option maxHeartbeats 4000000 in
theorem Times_xytttt (a b x y d x0 y0 x1 y1 a0 a1 a2 a3 b0 b1 b2 b3 : Int) (h1 : ∀ w, Calls Try.prog 102 #[.int .i64 a, .int .i64 x, .int .i64 x0, .int .i64 x1] w fun e w' => e = .returned (.agg #[.int .i64 a0, .int .i64 a1, .int .i64 a2, .int .i64 a3, .bool false, .bool false]) ∧ Below w.heap.size w w') (h2 : ∀ w, Calls Try.prog 102 #[.int .i64 b, .int .i64 y, .int .i64 y0, .int .i64 y1] w fun e w' => e = .returned (.agg #[.int .i64 b0, .int .i64 b1, .int .i64 b2, .int .i64 b3, .bool false, .bool false]) ∧ Below w.heap.size w w') (a0a : -4194304 ≤ a0) (a0b : a0 ≤ 4194304) (a1a : 0 ≤ a1) (a1b : a1 ≤ 67108864) (a2a : -4194304 ≤ a2) (a2b : a2 ≤ 4194304) (a3a : 0 ≤ a3) (a3b : a3 ≤ 67108864) (b0a : -4194304 ≤ b0) (b0b : b0 ≤ 4194304) (b1a : 0 ≤ b1) (b1b : b1 ≤ 67108864) (b2a : -4194304 ≤ b2) (b2b : b2 ≤ 4194304) (b3a : 0 ≤ b3) (b3b : b3 ≤ 67108864) (g1 : a0 * b1 < b0 * a1) (g2 : b2 * a3 < a2 * b3) (g3 : b0 < 0) (g4 : b2 * 1 < 0 * b3) (w : World) :
    Calls Try.prog 99 #[.agg #[.int .i64 a, .int .i64 b], .agg #[.int .i64 x, .int .i64 y, .int .i64 d], .agg #[.int .i64 x0, .int .i64 y0, .int .i64 x1, .int .i64 y1]] w fun e w' => e = .returned (.agg #[.int .i64 0, .int .i64 0, .int .i64 0, .int .i64 0, .bool true, .bool false]) ∧ Below w.heap.size w w' := by
  have H1 := Lib.hid h1
  have H2 := Lib.hid h2
  clear h1 h2
  have m0 := bnd (a := a0) (b := b1) (by omega) (by omega) (by omega) (by omega)
  have m1 := bnd (a := b0) (b := a1) (by omega) (by omega) (by omega) (by omega)
  have m2 := bnd (a := a2) (b := b3) (by omega) (by omega) (by omega) (by omega)
  have m3 := bnd (a := b2) (b := a3) (by omega) (by omega) (by omega) (by omega)
  have m4 := bnd (a := 0) (b := b3) (by omega) (by omega) (by omega) (by omega)
  have m5 := bnd (a := b2) (b := 1) (by omega) (by omega) (by omega) (by omega)
  have n0 := Lib.hid m0
  have n1 := Lib.hid m1
  have n2 := Lib.hid m2
  have n3 := Lib.hid m3
  have n4 := Lib.hid m4
  have n5 := Lib.hid m5
  clear m0 m1 m2 m3 m4 m5
  replace g1 := Lib.hid g1
  replace g2 := Lib.hid g2
  replace g3 := Lib.hid g3
  replace g4 := Lib.hid g4
  obtain ⟨HB, B_p, B_v, B_r, B_z⟩ := box4 w 43 #[.int .i64 a, .int .i64 b] 59 #[.int .i64 x, .int .i64 y, .int .i64 d] 45 #[.int .i64 x0, .int .i64 y0, .int .i64 x1, .int .i64 y1] 124 #[.int .i64 0, .int .i64 0, .int .i64 0, .int .i64 0, .bool false, .bool false]
  go_enter Try.func99, Try.ntmps99
  go_wp2_with fail
  generalize (((w.alloc (.cells #[.int .i64 a, .int .i64 b] 43)).alloc (.cells #[.int .i64 x, .int .i64 y, .int .i64 d] 59)).alloc (.cells #[.int .i64 x0, .int .i64 y0, .int .i64 x1, .int .i64 y1] 45)).alloc (.cells #[.int .i64 0, .int .i64 0, .int .i64 0, .int .i64 0, .bool false, .bool false] 124) = W0 at *
  obtain ⟨c0p, c1p⟩ := cells2 B_p
  obtain ⟨c0v, c1v, c2v⟩ := cells3 B_v
  obtain ⟨c0r, c1r, c2r, c3r⟩ := cells4 B_r
  refine (H1.out _).mono ?_
  clear c0p c1p c0v c1v c2v c0r c1r c2r c3r
  rintro e w1 ⟨rfl, bb⟩
  replace bb := nextw (w0 := W0) (by exact sm) bb
  replace B_p := mv B_p bb
  replace B_v := mv B_v bb
  replace B_r := mv B_r bb
  replace B_z := mv B_z bb
  replace HB := nx HB bb
  clear bb
  have lt_Ap := B_p.out.lt
  have lt_Av := B_v.out.lt
  have lt_Ar := B_r.out.lt
  have lt_Az := B_z.out.lt
  obtain ⟨bb, B_A⟩ := box1 w1 124 #[.int .i64 a0, .int .i64 a1, .int .i64 a2, .int .i64 a3, .bool false, .bool false]
  replace bb := bb.out
  replace B_p := mv B_p bb
  replace B_v := mv B_v bb
  replace B_r := mv B_r bb
  replace B_z := mv B_z bb
  replace HB := nx HB bb
  clear bb
  go_upto_region 2 with (fail)
  generalize w1.alloc (.cells #[.int .i64 a0, .int .i64 a1, .int .i64 a2, .int .i64 a3, .bool false, .bool false] 124) = WA at *
  obtain ⟨c0p, c1p⟩ := cells2 B_p
  obtain ⟨c0v, c1v, c2v⟩ := cells3 B_v
  obtain ⟨c0r, c1r, c2r, c3r⟩ := cells4 B_r
  go_wp2_with fail
  refine (H2.out _).mono ?_
  clear c0p c1p c0v c1v c2v c0r c1r c2r c3r
  rintro e w2 ⟨rfl, bb⟩
  replace bb := nextw (w0 := WA) (by exact sm) bb
  replace B_p := mv B_p bb
  replace B_v := mv B_v bb
  replace B_r := mv B_r bb
  replace B_z := mv B_z bb
  replace B_A := mv B_A bb
  replace HB := nx HB bb
  clear bb
  clear B_p
  clear B_v
  clear B_r
  have lt_Bz := B_z.out.lt
  have lt_BA := B_A.out.lt
  obtain ⟨bb, B_B⟩ := box1 w2 124 #[.int .i64 b0, .int .i64 b1, .int .i64 b2, .int .i64 b3, .bool false, .bool false]
  replace bb := bb.out
  replace B_z := mv B_z bb
  replace B_A := mv B_A bb
  replace HB := nx HB bb
  clear bb
  go_upto_region 3 with (fail)
  generalize w2.alloc (.cells #[.int .i64 b0, .int .i64 b1, .int .i64 b2, .int .i64 b3, .bool false, .bool false] 124) = WB at *
  obtain ⟨c0A, c1A, c2A, c3A, c4A, c5A⟩ := cells6 B_A
  obtain ⟨c0B, c1B, c2B, c3B, c4B, c5B⟩ := cells6 B_B
  go_upto_region 5 with (fail)
  have k1 := g1.out
  have j0 := n0.out
  have j1 := n1.out
  go_upto_region 10 with (fail)
  clear c0A c1A c2A c3A c4A c5A c0B c1B c2B c3B c4B c5B
  clear k1 j0 j1
  obtain ⟨c0A, c1A, c2A, c3A, c4A, c5A⟩ := cells6 B_A
  obtain ⟨f0A, f1A, f2A, f3A, f4A, f5A⟩ := froz6 B_A
  obtain ⟨c0B, c1B, c2B, c3B, c4B, c5B⟩ := cells6 B_B
  obtain ⟨f0B, f1B, f2B, f3B, f4B, f5B⟩ := froz6 B_B
  have ne_z : Hid ((w.heap.size + 1 + 1 + 1) ≠ (w1.heap.size)) := by unfold Hid; omega
  have ne_B : Hid ((w2.heap.size) ≠ (w1.heap.size)) := by unfold Hid; omega
  have n_A : Hid (Bx ((WB.setCell ⟨w1.heap.size, 0, none⟩ (.int .i64 b0)).setCell ⟨w1.heap.size, 1, none⟩ (.int .i64 b1)) (w1.heap.size) 124 #[.int .i64 b0, .int .i64 b1, .int .i64 a2, .int .i64 a3, .bool false, .bool false]) := ((B_A.out.set 0 (.int .i64 b0)).set 1 (.int .i64 b1))
  have n_z := far2 B_z ne_z.out 0 (.int .i64 b0) 1 (.int .i64 b1)
  have n_B := far2 B_B ne_B.out 0 (.int .i64 b0) 1 (.int .i64 b1)
  have nHB := stb2 HB (y := w1.heap.size) (by omega) 0 (.int .i64 b0) 1 (.int .i64 b1)
  go_region
  clear c0A c1A c2A c3A c4A c5A f0A f1A f2A f3A f4A f5A c0B c1B c2B c3B c4B c5B f0B f1B f2B f3B f4B f5B
  clear ne_z ne_B
  generalize (WB.setCell ⟨w1.heap.size, 0, none⟩ (.int .i64 b0)).setCell ⟨w1.heap.size, 1, none⟩ (.int .i64 b1) = WC at *
  clear B_z
  have B_z := n_z
  clear n_z
  clear B_A
  have B_A := n_A
  clear n_A
  clear B_B
  have B_B := n_B
  clear n_B
  clear HB
  have HB := nHB
  clear nHB
  have bb : Below WC.heap.size WC WC.drew := ⟨rfl, rfl, rfl, Nat.le_refl _, fun _ _ => rfl⟩
  replace B_z := mv B_z bb
  replace B_A := mv B_A bb
  replace B_B := mv B_B bb
  replace HB := nx HB bb
  generalize WC.drew = w3q at *
  clear bb
  obtain ⟨c0A, c1A, c2A, c3A, c4A, c5A⟩ := cells6 B_A
  obtain ⟨c0B, c1B, c2B, c3B, c4B, c5B⟩ := cells6 B_B
  go_upto_region 11 with (fail)
  have k2 := g2.out
  have j2 := n2.out
  have j3 := n3.out
  go_upto_region 12 with (fail)
  clear c0A c1A c2A c3A c4A c5A c0B c1B c2B c3B c4B c5B
  clear k2 j2 j3
  obtain ⟨c0A, c1A, c2A, c3A, c4A, c5A⟩ := cells6 B_A
  obtain ⟨f0A, f1A, f2A, f3A, f4A, f5A⟩ := froz6 B_A
  obtain ⟨c0B, c1B, c2B, c3B, c4B, c5B⟩ := cells6 B_B
  obtain ⟨f0B, f1B, f2B, f3B, f4B, f5B⟩ := froz6 B_B
  have ne_z : Hid ((w.heap.size + 1 + 1 + 1) ≠ (w1.heap.size)) := by unfold Hid; omega
  have ne_B : Hid ((w2.heap.size) ≠ (w1.heap.size)) := by unfold Hid; omega
  have n_A : Hid (Bx ((w3q.setCell ⟨w1.heap.size, 2, none⟩ (.int .i64 b2)).setCell ⟨w1.heap.size, 3, none⟩ (.int .i64 b3)) (w1.heap.size) 124 #[.int .i64 b0, .int .i64 b1, .int .i64 b2, .int .i64 b3, .bool false, .bool false]) := ((B_A.out.set 2 (.int .i64 b2)).set 3 (.int .i64 b3))
  have n_z := far2 B_z ne_z.out 2 (.int .i64 b2) 3 (.int .i64 b3)
  have n_B := far2 B_B ne_B.out 2 (.int .i64 b2) 3 (.int .i64 b3)
  have nHB := stb2 HB (y := w1.heap.size) (by omega) 2 (.int .i64 b2) 3 (.int .i64 b3)
  go_region
  clear c0A c1A c2A c3A c4A c5A f0A f1A f2A f3A f4A f5A c0B c1B c2B c3B c4B c5B f0B f1B f2B f3B f4B f5B
  clear ne_z ne_B
  generalize (w3q.setCell ⟨w1.heap.size, 2, none⟩ (.int .i64 b2)).setCell ⟨w1.heap.size, 3, none⟩ (.int .i64 b3) = WD at *
  clear B_z
  have B_z := n_z
  clear n_z
  clear B_A
  have B_A := n_A
  clear n_A
  clear B_B
  have B_B := n_B
  clear n_B
  clear HB
  have HB := nHB
  clear nHB
  have bb : Below WD.heap.size WD WD.drew := ⟨rfl, rfl, rfl, Nat.le_refl _, fun _ _ => rfl⟩
  replace B_z := mv B_z bb
  replace B_A := mv B_A bb
  replace B_B := mv B_B bb
  replace HB := nx HB bb
  generalize WD.drew = w4q at *
  clear bb
  obtain ⟨c0A, c1A, c2A, c3A, c4A, c5A⟩ := cells6 B_A
  obtain ⟨c0B, c1B, c2B, c3B, c4B, c5B⟩ := cells6 B_B
  go_upto_region 13 with (fail)
  have k3 := g3.out
  go_upto_region 14 with (fail)
  clear c0A c1A c2A c3A c4A c5A c0B c1B c2B c3B c4B c5B
  clear k3
  obtain ⟨c0A, c1A, c2A, c3A, c4A, c5A⟩ := cells6 B_A
  obtain ⟨f0A, f1A, f2A, f3A, f4A, f5A⟩ := froz6 B_A
  have ne_z : Hid ((w.heap.size + 1 + 1 + 1) ≠ (w1.heap.size)) := by unfold Hid; omega
  have ne_B : Hid ((w2.heap.size) ≠ (w1.heap.size)) := by unfold Hid; omega
  have n_A : Hid (Bx ((w4q.setCell ⟨w1.heap.size, 0, none⟩ (.int .i64 0)).setCell ⟨w1.heap.size, 1, none⟩ (.int .i64 1)) (w1.heap.size) 124 #[.int .i64 0, .int .i64 1, .int .i64 b2, .int .i64 b3, .bool false, .bool false]) := ((B_A.out.set 0 (.int .i64 0)).set 1 (.int .i64 1))
  have n_z := far2 B_z ne_z.out 0 (.int .i64 0) 1 (.int .i64 1)
  have n_B := far2 B_B ne_B.out 0 (.int .i64 0) 1 (.int .i64 1)
  have nHB := stb2 HB (y := w1.heap.size) (by omega) 0 (.int .i64 0) 1 (.int .i64 1)
  go_upto_region 15 with (fail)
  clear c0A c1A c2A c3A c4A c5A f0A f1A f2A f3A f4A f5A
  clear ne_z ne_B
  generalize (w4q.setCell ⟨w1.heap.size, 0, none⟩ (.int .i64 0)).setCell ⟨w1.heap.size, 1, none⟩ (.int .i64 1) = WE at *
  clear B_z
  have B_z := n_z
  clear n_z
  clear B_A
  have B_A := n_A
  clear n_A
  clear B_B
  have B_B := n_B
  clear n_B
  clear HB
  have HB := nHB
  clear nHB
  obtain ⟨c0A, c1A, c2A, c3A, c4A, c5A⟩ := cells6 B_A
  have k4 := g4.out
  have j4 := n4.out
  have j5 := n5.out
  go_upto_region 16 with (fail)
  clear k4 j4 j5
  clear c0A c1A c2A c3A c4A c5A
  obtain ⟨s0, s1, s2, s3, s4, s5⟩ := cells6 (stor6 B_z (.int .i64 0) (.int .i64 0) (.int .i64 0) (.int .i64 0) (.bool true) (.bool false))
  have HF := stb6 HB (y := w.heap.size + 1 + 1 + 1) (by omega) 0 (.int .i64 0) 1 (.int .i64 0) 2 (.int .i64 0) 3 (.int .i64 0) 4 (.bool true) 5 (.bool false)
  obtain ⟨c0z, c1z, c2z, c3z, c4z, c5z⟩ := cells6 B_z
  obtain ⟨f0z, f1z, f2z, f3z, f4z, f5z⟩ := froz6 B_z
  obtain ⟨c0A, c1A, c2A, c3A, c4A, c5A⟩ := cells6 B_A
  go_wp2_with fail
  exact bodyPost_ret (v := .agg #[.int .i64 0, .int .i64 0, .int .i64 0, .int .i64 0, .bool true, .bool false]) (by simp [results, Try.results99, go_sem, s0, s1, s2, s3, s4, s5]) rfl ⟨rfl, nextw HF.out (by exact sm)⟩

set_option maxRecDepth 100000 in
set_option maxHeartbeats 4000000 in
theorem Times_xytttf (a b x y d x0 y0 x1 y1 a0 a1 a2 a3 b0 b1 b2 b3 : Int) (h1 : ∀ w, Calls Try.prog 102 #[.int .i64 a, .int .i64 x, .int .i64 x0, .int .i64 x1] w fun e w' => e = .returned (.agg #[.int .i64 a0, .int .i64 a1, .int .i64 a2, .int .i64 a3, .bool false, .bool false]) ∧ Below w.heap.size w w') (h2 : ∀ w, Calls Try.prog 102 #[.int .i64 b, .int .i64 y, .int .i64 y0, .int .i64 y1] w fun e w' => e = .returned (.agg #[.int .i64 b0, .int .i64 b1, .int .i64 b2, .int .i64 b3, .bool false, .bool false]) ∧ Below w.heap.size w w') (a0a : -4194304 ≤ a0) (a0b : a0 ≤ 4194304) (a1a : 0 ≤ a1) (a1b : a1 ≤ 67108864) (a2a : -4194304 ≤ a2) (a2b : a2 ≤ 4194304) (a3a : 0 ≤ a3) (a3b : a3 ≤ 67108864) (b0a : -4194304 ≤ b0) (b0b : b0 ≤ 4194304) (b1a : 0 ≤ b1) (b1b : b1 ≤ 67108864) (b2a : -4194304 ≤ b2) (b2b : b2 ≤ 4194304) (b3a : 0 ≤ b3) (b3b : b3 ≤ 67108864) (g1 : a0 * b1 < b0 * a1) (g2 : b2 * a3 < a2 * b3) (g3 : b0 < 0) (g4 : ¬ b2 * 1 < 0 * b3) (w : World) :
    Calls Try.prog 99 #[.agg #[.int .i64 a, .int .i64 b], .agg #[.int .i64 x, .int .i64 y, .int .i64 d], .agg #[.int .i64 x0, .int .i64 y0, .int .i64 x1, .int .i64 y1]] w fun e w' => e = .returned (.agg #[.int .i64 0, .int .i64 1, .int .i64 b2, .int .i64 b3, .bool false, .bool false]) ∧ Below w.heap.size w w' := by
  have H1 := Lib.hid h1
  have H2 := Lib.hid h2
  clear h1 h2
  have m0 := bnd (a := a0) (b := b1) (by omega) (by omega) (by omega) (by omega)
  have m1 := bnd (a := b0) (b := a1) (by omega) (by omega) (by omega) (by omega)
  have m2 := bnd (a := a2) (b := b3) (by omega) (by omega) (by omega) (by omega)
  have m3 := bnd (a := b2) (b := a3) (by omega) (by omega) (by omega) (by omega)
  have m4 := bnd (a := 0) (b := b3) (by omega) (by omega) (by omega) (by omega)
  have m5 := bnd (a := b2) (b := 1) (by omega) (by omega) (by omega) (by omega)
  have n0 := Lib.hid m0
  have n1 := Lib.hid m1
  have n2 := Lib.hid m2
  have n3 := Lib.hid m3
  have n4 := Lib.hid m4
  have n5 := Lib.hid m5
  clear m0 m1 m2 m3 m4 m5
  replace g1 := Lib.hid g1
  replace g2 := Lib.hid g2
  replace g3 := Lib.hid g3
  replace g4 := Lib.hid g4
  obtain ⟨HB, B_p, B_v, B_r, B_z⟩ := box4 w 43 #[.int .i64 a, .int .i64 b] 59 #[.int .i64 x, .int .i64 y, .int .i64 d] 45 #[.int .i64 x0, .int .i64 y0, .int .i64 x1, .int .i64 y1] 124 #[.int .i64 0, .int .i64 0, .int .i64 0, .int .i64 0, .bool false, .bool false]
  go_enter Try.func99, Try.ntmps99
  go_wp2_with fail
  generalize (((w.alloc (.cells #[.int .i64 a, .int .i64 b] 43)).alloc (.cells #[.int .i64 x, .int .i64 y, .int .i64 d] 59)).alloc (.cells #[.int .i64 x0, .int .i64 y0, .int .i64 x1, .int .i64 y1] 45)).alloc (.cells #[.int .i64 0, .int .i64 0, .int .i64 0, .int .i64 0, .bool false, .bool false] 124) = W0 at *
  obtain ⟨c0p, c1p⟩ := cells2 B_p
  obtain ⟨c0v, c1v, c2v⟩ := cells3 B_v
  obtain ⟨c0r, c1r, c2r, c3r⟩ := cells4 B_r
  refine (H1.out _).mono ?_
  clear c0p c1p c0v c1v c2v c0r c1r c2r c3r
  rintro e w1 ⟨rfl, bb⟩
  replace bb := nextw (w0 := W0) (by exact sm) bb
  replace B_p := mv B_p bb
  replace B_v := mv B_v bb
  replace B_r := mv B_r bb
  replace B_z := mv B_z bb
  replace HB := nx HB bb
  clear bb
  have lt_Ap := B_p.out.lt
  have lt_Av := B_v.out.lt
  have lt_Ar := B_r.out.lt
  have lt_Az := B_z.out.lt
  obtain ⟨bb, B_A⟩ := box1 w1 124 #[.int .i64 a0, .int .i64 a1, .int .i64 a2, .int .i64 a3, .bool false, .bool false]
  replace bb := bb.out
  replace B_p := mv B_p bb
  replace B_v := mv B_v bb
  replace B_r := mv B_r bb
  replace B_z := mv B_z bb
  replace HB := nx HB bb
  clear bb
  go_upto_region 2 with (fail)
  generalize w1.alloc (.cells #[.int .i64 a0, .int .i64 a1, .int .i64 a2, .int .i64 a3, .bool false, .bool false] 124) = WA at *
  obtain ⟨c0p, c1p⟩ := cells2 B_p
  obtain ⟨c0v, c1v, c2v⟩ := cells3 B_v
  obtain ⟨c0r, c1r, c2r, c3r⟩ := cells4 B_r
  go_wp2_with fail
  refine (H2.out _).mono ?_
  clear c0p c1p c0v c1v c2v c0r c1r c2r c3r
  rintro e w2 ⟨rfl, bb⟩
  replace bb := nextw (w0 := WA) (by exact sm) bb
  replace B_p := mv B_p bb
  replace B_v := mv B_v bb
  replace B_r := mv B_r bb
  replace B_z := mv B_z bb
  replace B_A := mv B_A bb
  replace HB := nx HB bb
  clear bb
  clear B_p
  clear B_v
  clear B_r
  have lt_Bz := B_z.out.lt
  have lt_BA := B_A.out.lt
  obtain ⟨bb, B_B⟩ := box1 w2 124 #[.int .i64 b0, .int .i64 b1, .int .i64 b2, .int .i64 b3, .bool false, .bool false]
  replace bb := bb.out
  replace B_z := mv B_z bb
  replace B_A := mv B_A bb
  replace HB := nx HB bb
  clear bb
  go_upto_region 3 with (fail)
  generalize w2.alloc (.cells #[.int .i64 b0, .int .i64 b1, .int .i64 b2, .int .i64 b3, .bool false, .bool false] 124) = WB at *
  obtain ⟨c0A, c1A, c2A, c3A, c4A, c5A⟩ := cells6 B_A
  obtain ⟨c0B, c1B, c2B, c3B, c4B, c5B⟩ := cells6 B_B
  go_upto_region 5 with (fail)
  have k1 := g1.out
  have j0 := n0.out
  have j1 := n1.out
  go_upto_region 10 with (fail)
  clear c0A c1A c2A c3A c4A c5A c0B c1B c2B c3B c4B c5B
  clear k1 j0 j1
  obtain ⟨c0A, c1A, c2A, c3A, c4A, c5A⟩ := cells6 B_A
  obtain ⟨f0A, f1A, f2A, f3A, f4A, f5A⟩ := froz6 B_A
  obtain ⟨c0B, c1B, c2B, c3B, c4B, c5B⟩ := cells6 B_B
  obtain ⟨f0B, f1B, f2B, f3B, f4B, f5B⟩ := froz6 B_B
  have ne_z : Hid ((w.heap.size + 1 + 1 + 1) ≠ (w1.heap.size)) := by unfold Hid; omega
  have ne_B : Hid ((w2.heap.size) ≠ (w1.heap.size)) := by unfold Hid; omega
  have n_A : Hid (Bx ((WB.setCell ⟨w1.heap.size, 0, none⟩ (.int .i64 b0)).setCell ⟨w1.heap.size, 1, none⟩ (.int .i64 b1)) (w1.heap.size) 124 #[.int .i64 b0, .int .i64 b1, .int .i64 a2, .int .i64 a3, .bool false, .bool false]) := ((B_A.out.set 0 (.int .i64 b0)).set 1 (.int .i64 b1))
  have n_z := far2 B_z ne_z.out 0 (.int .i64 b0) 1 (.int .i64 b1)
  have n_B := far2 B_B ne_B.out 0 (.int .i64 b0) 1 (.int .i64 b1)
  have nHB := stb2 HB (y := w1.heap.size) (by omega) 0 (.int .i64 b0) 1 (.int .i64 b1)
  go_region
  clear c0A c1A c2A c3A c4A c5A f0A f1A f2A f3A f4A f5A c0B c1B c2B c3B c4B c5B f0B f1B f2B f3B f4B f5B
  clear ne_z ne_B
  generalize (WB.setCell ⟨w1.heap.size, 0, none⟩ (.int .i64 b0)).setCell ⟨w1.heap.size, 1, none⟩ (.int .i64 b1) = WC at *
  clear B_z
  have B_z := n_z
  clear n_z
  clear B_A
  have B_A := n_A
  clear n_A
  clear B_B
  have B_B := n_B
  clear n_B
  clear HB
  have HB := nHB
  clear nHB
  have bb : Below WC.heap.size WC WC.drew := ⟨rfl, rfl, rfl, Nat.le_refl _, fun _ _ => rfl⟩
  replace B_z := mv B_z bb
  replace B_A := mv B_A bb
  replace B_B := mv B_B bb
  replace HB := nx HB bb
  generalize WC.drew = w3q at *
  clear bb
  obtain ⟨c0A, c1A, c2A, c3A, c4A, c5A⟩ := cells6 B_A
  obtain ⟨c0B, c1B, c2B, c3B, c4B, c5B⟩ := cells6 B_B
  go_upto_region 11 with (fail)
  have k2 := g2.out
  have j2 := n2.out
  have j3 := n3.out
  go_upto_region 12 with (fail)
  clear c0A c1A c2A c3A c4A c5A c0B c1B c2B c3B c4B c5B
  clear k2 j2 j3
  obtain ⟨c0A, c1A, c2A, c3A, c4A, c5A⟩ := cells6 B_A
  obtain ⟨f0A, f1A, f2A, f3A, f4A, f5A⟩ := froz6 B_A
  obtain ⟨c0B, c1B, c2B, c3B, c4B, c5B⟩ := cells6 B_B
  obtain ⟨f0B, f1B, f2B, f3B, f4B, f5B⟩ := froz6 B_B
  have ne_z : Hid ((w.heap.size + 1 + 1 + 1) ≠ (w1.heap.size)) := by unfold Hid; omega
  have ne_B : Hid ((w2.heap.size) ≠ (w1.heap.size)) := by unfold Hid; omega
  have n_A : Hid (Bx ((w3q.setCell ⟨w1.heap.size, 2, none⟩ (.int .i64 b2)).setCell ⟨w1.heap.size, 3, none⟩ (.int .i64 b3)) (w1.heap.size) 124 #[.int .i64 b0, .int .i64 b1, .int .i64 b2, .int .i64 b3, .bool false, .bool false]) := ((B_A.out.set 2 (.int .i64 b2)).set 3 (.int .i64 b3))
  have n_z := far2 B_z ne_z.out 2 (.int .i64 b2) 3 (.int .i64 b3)
  have n_B := far2 B_B ne_B.out 2 (.int .i64 b2) 3 (.int .i64 b3)
  have nHB := stb2 HB (y := w1.heap.size) (by omega) 2 (.int .i64 b2) 3 (.int .i64 b3)
  go_region
  clear c0A c1A c2A c3A c4A c5A f0A f1A f2A f3A f4A f5A c0B c1B c2B c3B c4B c5B f0B f1B f2B f3B f4B f5B
  clear ne_z ne_B
  generalize (w3q.setCell ⟨w1.heap.size, 2, none⟩ (.int .i64 b2)).setCell ⟨w1.heap.size, 3, none⟩ (.int .i64 b3) = WD at *
  clear B_z
  have B_z := n_z
  clear n_z
  clear B_A
  have B_A := n_A
  clear n_A
  clear B_B
  have B_B := n_B
  clear n_B
  clear HB
  have HB := nHB
  clear nHB
  have bb : Below WD.heap.size WD WD.drew := ⟨rfl, rfl, rfl, Nat.le_refl _, fun _ _ => rfl⟩
  replace B_z := mv B_z bb
  replace B_A := mv B_A bb
  replace B_B := mv B_B bb
  replace HB := nx HB bb
  generalize WD.drew = w4q at *
  clear bb
  obtain ⟨c0A, c1A, c2A, c3A, c4A, c5A⟩ := cells6 B_A
  obtain ⟨c0B, c1B, c2B, c3B, c4B, c5B⟩ := cells6 B_B
  go_upto_region 13 with (fail)
  have k3 := g3.out
  go_upto_region 14 with (fail)
  clear c0A c1A c2A c3A c4A c5A c0B c1B c2B c3B c4B c5B
  clear k3
  obtain ⟨c0A, c1A, c2A, c3A, c4A, c5A⟩ := cells6 B_A
  obtain ⟨f0A, f1A, f2A, f3A, f4A, f5A⟩ := froz6 B_A
  have ne_z : Hid ((w.heap.size + 1 + 1 + 1) ≠ (w1.heap.size)) := by unfold Hid; omega
  have ne_B : Hid ((w2.heap.size) ≠ (w1.heap.size)) := by unfold Hid; omega
  have n_A : Hid (Bx ((w4q.setCell ⟨w1.heap.size, 0, none⟩ (.int .i64 0)).setCell ⟨w1.heap.size, 1, none⟩ (.int .i64 1)) (w1.heap.size) 124 #[.int .i64 0, .int .i64 1, .int .i64 b2, .int .i64 b3, .bool false, .bool false]) := ((B_A.out.set 0 (.int .i64 0)).set 1 (.int .i64 1))
  have n_z := far2 B_z ne_z.out 0 (.int .i64 0) 1 (.int .i64 1)
  have n_B := far2 B_B ne_B.out 0 (.int .i64 0) 1 (.int .i64 1)
  have nHB := stb2 HB (y := w1.heap.size) (by omega) 0 (.int .i64 0) 1 (.int .i64 1)
  go_upto_region 15 with (fail)
  clear c0A c1A c2A c3A c4A c5A f0A f1A f2A f3A f4A f5A
  clear ne_z ne_B
  generalize (w4q.setCell ⟨w1.heap.size, 0, none⟩ (.int .i64 0)).setCell ⟨w1.heap.size, 1, none⟩ (.int .i64 1) = WE at *
  clear B_z
  have B_z := n_z
  clear n_z
  clear B_A
  have B_A := n_A
  clear n_A
  clear B_B
  have B_B := n_B
  clear n_B
  clear HB
  have HB := nHB
  clear nHB
  obtain ⟨c0A, c1A, c2A, c3A, c4A, c5A⟩ := cells6 B_A
  have k4 := g4.out
  have j4 := n4.out
  have j5 := n5.out
  go_upto_region 17 with (fail)
  clear k4 j4 j5
  clear c0A c1A c2A c3A c4A c5A
  obtain ⟨s0, s1, s2, s3, s4, s5⟩ := cells6 (stor6 B_z (.int .i64 0) (.int .i64 1) (.int .i64 b2) (.int .i64 b3) (.bool false) (.bool false))
  have HF := stb6 HB (y := w.heap.size + 1 + 1 + 1) (by omega) 0 (.int .i64 0) 1 (.int .i64 1) 2 (.int .i64 b2) 3 (.int .i64 b3) 4 (.bool false) 5 (.bool false)
  obtain ⟨c0z, c1z, c2z, c3z, c4z, c5z⟩ := cells6 B_z
  obtain ⟨f0z, f1z, f2z, f3z, f4z, f5z⟩ := froz6 B_z
  obtain ⟨c0A, c1A, c2A, c3A, c4A, c5A⟩ := cells6 B_A
  go_wp2_with fail
  exact bodyPost_ret (v := .agg #[.int .i64 0, .int .i64 1, .int .i64 b2, .int .i64 b3, .bool false, .bool false]) (by simp [results, Try.results99, go_sem, s0, s1, s2, s3, s4, s5]) rfl ⟨rfl, nextw HF.out (by exact sm)⟩

set_option maxRecDepth 100000 in
set_option maxHeartbeats 4000000 in
theorem Times_xyttft (a b x y d x0 y0 x1 y1 a0 a1 a2 a3 b0 b1 b2 b3 : Int) (h1 : ∀ w, Calls Try.prog 102 #[.int .i64 a, .int .i64 x, .int .i64 x0, .int .i64 x1] w fun e w' => e = .returned (.agg #[.int .i64 a0, .int .i64 a1, .int .i64 a2, .int .i64 a3, .bool false, .bool false]) ∧ Below w.heap.size w w') (h2 : ∀ w, Calls Try.prog 102 #[.int .i64 b, .int .i64 y, .int .i64 y0, .int .i64 y1] w fun e w' => e = .returned (.agg #[.int .i64 b0, .int .i64 b1, .int .i64 b2, .int .i64 b3, .bool false, .bool false]) ∧ Below w.heap.size w w') (a0a : -4194304 ≤ a0) (a0b : a0 ≤ 4194304) (a1a : 0 ≤ a1) (a1b : a1 ≤ 67108864) (a2a : -4194304 ≤ a2) (a2b : a2 ≤ 4194304) (a3a : 0 ≤ a3) (a3b : a3 ≤ 67108864) (b0a : -4194304 ≤ b0) (b0b : b0 ≤ 4194304) (b1a : 0 ≤ b1) (b1b : b1 ≤ 67108864) (b2a : -4194304 ≤ b2) (b2b : b2 ≤ 4194304) (b3a : 0 ≤ b3) (b3b : b3 ≤ 67108864) (g1 : a0 * b1 < b0 * a1) (g2 : b2 * a3 < a2 * b3) (g3 : ¬ b0 < 0) (g4 : b2 * b1 < b0 * b3) (w : World) :
    Calls Try.prog 99 #[.agg #[.int .i64 a, .int .i64 b], .agg #[.int .i64 x, .int .i64 y, .int .i64 d], .agg #[.int .i64 x0, .int .i64 y0, .int .i64 x1, .int .i64 y1]] w fun e w' => e = .returned (.agg #[.int .i64 0, .int .i64 0, .int .i64 0, .int .i64 0, .bool true, .bool false]) ∧ Below w.heap.size w w' := by
  have H1 := Lib.hid h1
  have H2 := Lib.hid h2
  clear h1 h2
  have m0 := bnd (a := a0) (b := b1) (by omega) (by omega) (by omega) (by omega)
  have m1 := bnd (a := b0) (b := a1) (by omega) (by omega) (by omega) (by omega)
  have m2 := bnd (a := a2) (b := b3) (by omega) (by omega) (by omega) (by omega)
  have m3 := bnd (a := b2) (b := a3) (by omega) (by omega) (by omega) (by omega)
  have m4 := bnd (a := b0) (b := b3) (by omega) (by omega) (by omega) (by omega)
  have m5 := bnd (a := b2) (b := b1) (by omega) (by omega) (by omega) (by omega)
  have n0 := Lib.hid m0
  have n1 := Lib.hid m1
  have n2 := Lib.hid m2
  have n3 := Lib.hid m3
  have n4 := Lib.hid m4
  have n5 := Lib.hid m5
  clear m0 m1 m2 m3 m4 m5
  replace g1 := Lib.hid g1
  replace g2 := Lib.hid g2
  replace g3 := Lib.hid g3
  replace g4 := Lib.hid g4
  obtain ⟨HB, B_p, B_v, B_r, B_z⟩ := box4 w 43 #[.int .i64 a, .int .i64 b] 59 #[.int .i64 x, .int .i64 y, .int .i64 d] 45 #[.int .i64 x0, .int .i64 y0, .int .i64 x1, .int .i64 y1] 124 #[.int .i64 0, .int .i64 0, .int .i64 0, .int .i64 0, .bool false, .bool false]
  go_enter Try.func99, Try.ntmps99
  go_wp2_with fail
  generalize (((w.alloc (.cells #[.int .i64 a, .int .i64 b] 43)).alloc (.cells #[.int .i64 x, .int .i64 y, .int .i64 d] 59)).alloc (.cells #[.int .i64 x0, .int .i64 y0, .int .i64 x1, .int .i64 y1] 45)).alloc (.cells #[.int .i64 0, .int .i64 0, .int .i64 0, .int .i64 0, .bool false, .bool false] 124) = W0 at *
  obtain ⟨c0p, c1p⟩ := cells2 B_p
  obtain ⟨c0v, c1v, c2v⟩ := cells3 B_v
  obtain ⟨c0r, c1r, c2r, c3r⟩ := cells4 B_r
  refine (H1.out _).mono ?_
  clear c0p c1p c0v c1v c2v c0r c1r c2r c3r
  rintro e w1 ⟨rfl, bb⟩
  replace bb := nextw (w0 := W0) (by exact sm) bb
  replace B_p := mv B_p bb
  replace B_v := mv B_v bb
  replace B_r := mv B_r bb
  replace B_z := mv B_z bb
  replace HB := nx HB bb
  clear bb
  have lt_Ap := B_p.out.lt
  have lt_Av := B_v.out.lt
  have lt_Ar := B_r.out.lt
  have lt_Az := B_z.out.lt
  obtain ⟨bb, B_A⟩ := box1 w1 124 #[.int .i64 a0, .int .i64 a1, .int .i64 a2, .int .i64 a3, .bool false, .bool false]
  replace bb := bb.out
  replace B_p := mv B_p bb
  replace B_v := mv B_v bb
  replace B_r := mv B_r bb
  replace B_z := mv B_z bb
  replace HB := nx HB bb
  clear bb
  go_upto_region 2 with (fail)
  generalize w1.alloc (.cells #[.int .i64 a0, .int .i64 a1, .int .i64 a2, .int .i64 a3, .bool false, .bool false] 124) = WA at *
  obtain ⟨c0p, c1p⟩ := cells2 B_p
  obtain ⟨c0v, c1v, c2v⟩ := cells3 B_v
  obtain ⟨c0r, c1r, c2r, c3r⟩ := cells4 B_r
  go_wp2_with fail
  refine (H2.out _).mono ?_
  clear c0p c1p c0v c1v c2v c0r c1r c2r c3r
  rintro e w2 ⟨rfl, bb⟩
  replace bb := nextw (w0 := WA) (by exact sm) bb
  replace B_p := mv B_p bb
  replace B_v := mv B_v bb
  replace B_r := mv B_r bb
  replace B_z := mv B_z bb
  replace B_A := mv B_A bb
  replace HB := nx HB bb
  clear bb
  clear B_p
  clear B_v
  clear B_r
  have lt_Bz := B_z.out.lt
  have lt_BA := B_A.out.lt
  obtain ⟨bb, B_B⟩ := box1 w2 124 #[.int .i64 b0, .int .i64 b1, .int .i64 b2, .int .i64 b3, .bool false, .bool false]
  replace bb := bb.out
  replace B_z := mv B_z bb
  replace B_A := mv B_A bb
  replace HB := nx HB bb
  clear bb
  go_upto_region 3 with (fail)
  generalize w2.alloc (.cells #[.int .i64 b0, .int .i64 b1, .int .i64 b2, .int .i64 b3, .bool false, .bool false] 124) = WB at *
  obtain ⟨c0A, c1A, c2A, c3A, c4A, c5A⟩ := cells6 B_A
  obtain ⟨c0B, c1B, c2B, c3B, c4B, c5B⟩ := cells6 B_B
  go_upto_region 5 with (fail)
  have k1 := g1.out
  have j0 := n0.out
  have j1 := n1.out
  go_upto_region 10 with (fail)
  clear c0A c1A c2A c3A c4A c5A c0B c1B c2B c3B c4B c5B
  clear k1 j0 j1
  obtain ⟨c0A, c1A, c2A, c3A, c4A, c5A⟩ := cells6 B_A
  obtain ⟨f0A, f1A, f2A, f3A, f4A, f5A⟩ := froz6 B_A
  obtain ⟨c0B, c1B, c2B, c3B, c4B, c5B⟩ := cells6 B_B
  obtain ⟨f0B, f1B, f2B, f3B, f4B, f5B⟩ := froz6 B_B
  have ne_z : Hid ((w.heap.size + 1 + 1 + 1) ≠ (w1.heap.size)) := by unfold Hid; omega
  have ne_B : Hid ((w2.heap.size) ≠ (w1.heap.size)) := by unfold Hid; omega
  have n_A : Hid (Bx ((WB.setCell ⟨w1.heap.size, 0, none⟩ (.int .i64 b0)).setCell ⟨w1.heap.size, 1, none⟩ (.int .i64 b1)) (w1.heap.size) 124 #[.int .i64 b0, .int .i64 b1, .int .i64 a2, .int .i64 a3, .bool false, .bool false]) := ((B_A.out.set 0 (.int .i64 b0)).set 1 (.int .i64 b1))
  have n_z := far2 B_z ne_z.out 0 (.int .i64 b0) 1 (.int .i64 b1)
  have n_B := far2 B_B ne_B.out 0 (.int .i64 b0) 1 (.int .i64 b1)
  have nHB := stb2 HB (y := w1.heap.size) (by omega) 0 (.int .i64 b0) 1 (.int .i64 b1)
  go_region
  clear c0A c1A c2A c3A c4A c5A f0A f1A f2A f3A f4A f5A c0B c1B c2B c3B c4B c5B f0B f1B f2B f3B f4B f5B
  clear ne_z ne_B
  generalize (WB.setCell ⟨w1.heap.size, 0, none⟩ (.int .i64 b0)).setCell ⟨w1.heap.size, 1, none⟩ (.int .i64 b1) = WC at *
  clear B_z
  have B_z := n_z
  clear n_z
  clear B_A
  have B_A := n_A
  clear n_A
  clear B_B
  have B_B := n_B
  clear n_B
  clear HB
  have HB := nHB
  clear nHB
  have bb : Below WC.heap.size WC WC.drew := ⟨rfl, rfl, rfl, Nat.le_refl _, fun _ _ => rfl⟩
  replace B_z := mv B_z bb
  replace B_A := mv B_A bb
  replace B_B := mv B_B bb
  replace HB := nx HB bb
  generalize WC.drew = w3q at *
  clear bb
  obtain ⟨c0A, c1A, c2A, c3A, c4A, c5A⟩ := cells6 B_A
  obtain ⟨c0B, c1B, c2B, c3B, c4B, c5B⟩ := cells6 B_B
  go_upto_region 11 with (fail)
  have k2 := g2.out
  have j2 := n2.out
  have j3 := n3.out
  go_upto_region 12 with (fail)
  clear c0A c1A c2A c3A c4A c5A c0B c1B c2B c3B c4B c5B
  clear k2 j2 j3
  obtain ⟨c0A, c1A, c2A, c3A, c4A, c5A⟩ := cells6 B_A
  obtain ⟨f0A, f1A, f2A, f3A, f4A, f5A⟩ := froz6 B_A
  obtain ⟨c0B, c1B, c2B, c3B, c4B, c5B⟩ := cells6 B_B
  obtain ⟨f0B, f1B, f2B, f3B, f4B, f5B⟩ := froz6 B_B
  have ne_z : Hid ((w.heap.size + 1 + 1 + 1) ≠ (w1.heap.size)) := by unfold Hid; omega
  have ne_B : Hid ((w2.heap.size) ≠ (w1.heap.size)) := by unfold Hid; omega
  have n_A : Hid (Bx ((w3q.setCell ⟨w1.heap.size, 2, none⟩ (.int .i64 b2)).setCell ⟨w1.heap.size, 3, none⟩ (.int .i64 b3)) (w1.heap.size) 124 #[.int .i64 b0, .int .i64 b1, .int .i64 b2, .int .i64 b3, .bool false, .bool false]) := ((B_A.out.set 2 (.int .i64 b2)).set 3 (.int .i64 b3))
  have n_z := far2 B_z ne_z.out 2 (.int .i64 b2) 3 (.int .i64 b3)
  have n_B := far2 B_B ne_B.out 2 (.int .i64 b2) 3 (.int .i64 b3)
  have nHB := stb2 HB (y := w1.heap.size) (by omega) 2 (.int .i64 b2) 3 (.int .i64 b3)
  go_region
  clear c0A c1A c2A c3A c4A c5A f0A f1A f2A f3A f4A f5A c0B c1B c2B c3B c4B c5B f0B f1B f2B f3B f4B f5B
  clear ne_z ne_B
  generalize (w3q.setCell ⟨w1.heap.size, 2, none⟩ (.int .i64 b2)).setCell ⟨w1.heap.size, 3, none⟩ (.int .i64 b3) = WD at *
  clear B_z
  have B_z := n_z
  clear n_z
  clear B_A
  have B_A := n_A
  clear n_A
  clear B_B
  have B_B := n_B
  clear n_B
  clear HB
  have HB := nHB
  clear nHB
  have bb : Below WD.heap.size WD WD.drew := ⟨rfl, rfl, rfl, Nat.le_refl _, fun _ _ => rfl⟩
  replace B_z := mv B_z bb
  replace B_A := mv B_A bb
  replace B_B := mv B_B bb
  replace HB := nx HB bb
  generalize WD.drew = w4q at *
  clear bb
  obtain ⟨c0A, c1A, c2A, c3A, c4A, c5A⟩ := cells6 B_A
  obtain ⟨c0B, c1B, c2B, c3B, c4B, c5B⟩ := cells6 B_B
  go_upto_region 13 with (fail)
  have k3 := g3.out
  go_upto_region 15 with (fail)
  clear k3
  have k4 := g4.out
  have j4 := n4.out
  have j5 := n5.out
  go_upto_region 16 with (fail)
  clear k4 j4 j5
  clear c0A c1A c2A c3A c4A c5A c0B c1B c2B c3B c4B c5B
  obtain ⟨s0, s1, s2, s3, s4, s5⟩ := cells6 (stor6 B_z (.int .i64 0) (.int .i64 0) (.int .i64 0) (.int .i64 0) (.bool true) (.bool false))
  have HF := stb6 HB (y := w.heap.size + 1 + 1 + 1) (by omega) 0 (.int .i64 0) 1 (.int .i64 0) 2 (.int .i64 0) 3 (.int .i64 0) 4 (.bool true) 5 (.bool false)
  obtain ⟨c0z, c1z, c2z, c3z, c4z, c5z⟩ := cells6 B_z
  obtain ⟨f0z, f1z, f2z, f3z, f4z, f5z⟩ := froz6 B_z
  obtain ⟨c0A, c1A, c2A, c3A, c4A, c5A⟩ := cells6 B_A
  go_wp2_with fail
  exact bodyPost_ret (v := .agg #[.int .i64 0, .int .i64 0, .int .i64 0, .int .i64 0, .bool true, .bool false]) (by simp [results, Try.results99, go_sem, s0, s1, s2, s3, s4, s5]) rfl ⟨rfl, nextw HF.out (by exact sm)⟩

set_option maxRecDepth 100000 in
set_option maxHeartbeats 4000000 in
theorem Times_xyttff (a b x y d x0 y0 x1 y1 a0 a1 a2 a3 b0 b1 b2 b3 : Int) (h1 : ∀ w, Calls Try.prog 102 #[.int .i64 a, .int .i64 x, .int .i64 x0, .int .i64 x1] w fun e w' => e = .returned (.agg #[.int .i64 a0, .int .i64 a1, .int .i64 a2, .int .i64 a3, .bool false, .bool false]) ∧ Below w.heap.size w w') (h2 : ∀ w, Calls Try.prog 102 #[.int .i64 b, .int .i64 y, .int .i64 y0, .int .i64 y1] w fun e w' => e = .returned (.agg #[.int .i64 b0, .int .i64 b1, .int .i64 b2, .int .i64 b3, .bool false, .bool false]) ∧ Below w.heap.size w w') (a0a : -4194304 ≤ a0) (a0b : a0 ≤ 4194304) (a1a : 0 ≤ a1) (a1b : a1 ≤ 67108864) (a2a : -4194304 ≤ a2) (a2b : a2 ≤ 4194304) (a3a : 0 ≤ a3) (a3b : a3 ≤ 67108864) (b0a : -4194304 ≤ b0) (b0b : b0 ≤ 4194304) (b1a : 0 ≤ b1) (b1b : b1 ≤ 67108864) (b2a : -4194304 ≤ b2) (b2b : b2 ≤ 4194304) (b3a : 0 ≤ b3) (b3b : b3 ≤ 67108864) (g1 : a0 * b1 < b0 * a1) (g2 : b2 * a3 < a2 * b3) (g3 : ¬ b0 < 0) (g4 : ¬ b2 * b1 < b0 * b3) (w : World) :
    Calls Try.prog 99 #[.agg #[.int .i64 a, .int .i64 b], .agg #[.int .i64 x, .int .i64 y, .int .i64 d], .agg #[.int .i64 x0, .int .i64 y0, .int .i64 x1, .int .i64 y1]] w fun e w' => e = .returned (.agg #[.int .i64 b0, .int .i64 b1, .int .i64 b2, .int .i64 b3, .bool false, .bool false]) ∧ Below w.heap.size w w' := by
  have H1 := Lib.hid h1
  have H2 := Lib.hid h2
  clear h1 h2
  have m0 := bnd (a := a0) (b := b1) (by omega) (by omega) (by omega) (by omega)
  have m1 := bnd (a := b0) (b := a1) (by omega) (by omega) (by omega) (by omega)
  have m2 := bnd (a := a2) (b := b3) (by omega) (by omega) (by omega) (by omega)
  have m3 := bnd (a := b2) (b := a3) (by omega) (by omega) (by omega) (by omega)
  have m4 := bnd (a := b0) (b := b3) (by omega) (by omega) (by omega) (by omega)
  have m5 := bnd (a := b2) (b := b1) (by omega) (by omega) (by omega) (by omega)
  have n0 := Lib.hid m0
  have n1 := Lib.hid m1
  have n2 := Lib.hid m2
  have n3 := Lib.hid m3
  have n4 := Lib.hid m4
  have n5 := Lib.hid m5
  clear m0 m1 m2 m3 m4 m5
  replace g1 := Lib.hid g1
  replace g2 := Lib.hid g2
  replace g3 := Lib.hid g3
  replace g4 := Lib.hid g4
  obtain ⟨HB, B_p, B_v, B_r, B_z⟩ := box4 w 43 #[.int .i64 a, .int .i64 b] 59 #[.int .i64 x, .int .i64 y, .int .i64 d] 45 #[.int .i64 x0, .int .i64 y0, .int .i64 x1, .int .i64 y1] 124 #[.int .i64 0, .int .i64 0, .int .i64 0, .int .i64 0, .bool false, .bool false]
  go_enter Try.func99, Try.ntmps99
  go_wp2_with fail
  generalize (((w.alloc (.cells #[.int .i64 a, .int .i64 b] 43)).alloc (.cells #[.int .i64 x, .int .i64 y, .int .i64 d] 59)).alloc (.cells #[.int .i64 x0, .int .i64 y0, .int .i64 x1, .int .i64 y1] 45)).alloc (.cells #[.int .i64 0, .int .i64 0, .int .i64 0, .int .i64 0, .bool false, .bool false] 124) = W0 at *
  obtain ⟨c0p, c1p⟩ := cells2 B_p
  obtain ⟨c0v, c1v, c2v⟩ := cells3 B_v
  obtain ⟨c0r, c1r, c2r, c3r⟩ := cells4 B_r
  refine (H1.out _).mono ?_
  clear c0p c1p c0v c1v c2v c0r c1r c2r c3r
  rintro e w1 ⟨rfl, bb⟩
  replace bb := nextw (w0 := W0) (by exact sm) bb
  replace B_p := mv B_p bb
  replace B_v := mv B_v bb
  replace B_r := mv B_r bb
  replace B_z := mv B_z bb
  replace HB := nx HB bb
  clear bb
  have lt_Ap := B_p.out.lt
  have lt_Av := B_v.out.lt
  have lt_Ar := B_r.out.lt
  have lt_Az := B_z.out.lt
  obtain ⟨bb, B_A⟩ := box1 w1 124 #[.int .i64 a0, .int .i64 a1, .int .i64 a2, .int .i64 a3, .bool false, .bool false]
  replace bb := bb.out
  replace B_p := mv B_p bb
  replace B_v := mv B_v bb
  replace B_r := mv B_r bb
  replace B_z := mv B_z bb
  replace HB := nx HB bb
  clear bb
  go_upto_region 2 with (fail)
  generalize w1.alloc (.cells #[.int .i64 a0, .int .i64 a1, .int .i64 a2, .int .i64 a3, .bool false, .bool false] 124) = WA at *
  obtain ⟨c0p, c1p⟩ := cells2 B_p
  obtain ⟨c0v, c1v, c2v⟩ := cells3 B_v
  obtain ⟨c0r, c1r, c2r, c3r⟩ := cells4 B_r
  go_wp2_with fail
  refine (H2.out _).mono ?_
  clear c0p c1p c0v c1v c2v c0r c1r c2r c3r
  rintro e w2 ⟨rfl, bb⟩
  replace bb := nextw (w0 := WA) (by exact sm) bb
  replace B_p := mv B_p bb
  replace B_v := mv B_v bb
  replace B_r := mv B_r bb
  replace B_z := mv B_z bb
  replace B_A := mv B_A bb
  replace HB := nx HB bb
  clear bb
  clear B_p
  clear B_v
  clear B_r
  have lt_Bz := B_z.out.lt
  have lt_BA := B_A.out.lt
  obtain ⟨bb, B_B⟩ := box1 w2 124 #[.int .i64 b0, .int .i64 b1, .int .i64 b2, .int .i64 b3, .bool false, .bool false]
  replace bb := bb.out
  replace B_z := mv B_z bb
  replace B_A := mv B_A bb
  replace HB := nx HB bb
  clear bb
  go_upto_region 3 with (fail)
  generalize w2.alloc (.cells #[.int .i64 b0, .int .i64 b1, .int .i64 b2, .int .i64 b3, .bool false, .bool false] 124) = WB at *
  obtain ⟨c0A, c1A, c2A, c3A, c4A, c5A⟩ := cells6 B_A
  obtain ⟨c0B, c1B, c2B, c3B, c4B, c5B⟩ := cells6 B_B
  go_upto_region 5 with (fail)
  have k1 := g1.out
  have j0 := n0.out
  have j1 := n1.out
  go_upto_region 10 with (fail)
  clear c0A c1A c2A c3A c4A c5A c0B c1B c2B c3B c4B c5B
  clear k1 j0 j1
  obtain ⟨c0A, c1A, c2A, c3A, c4A, c5A⟩ := cells6 B_A
  obtain ⟨f0A, f1A, f2A, f3A, f4A, f5A⟩ := froz6 B_A
  obtain ⟨c0B, c1B, c2B, c3B, c4B, c5B⟩ := cells6 B_B
  obtain ⟨f0B, f1B, f2B, f3B, f4B, f5B⟩ := froz6 B_B
  have ne_z : Hid ((w.heap.size + 1 + 1 + 1) ≠ (w1.heap.size)) := by unfold Hid; omega
  have ne_B : Hid ((w2.heap.size) ≠ (w1.heap.size)) := by unfold Hid; omega
  have n_A : Hid (Bx ((WB.setCell ⟨w1.heap.size, 0, none⟩ (.int .i64 b0)).setCell ⟨w1.heap.size, 1, none⟩ (.int .i64 b1)) (w1.heap.size) 124 #[.int .i64 b0, .int .i64 b1, .int .i64 a2, .int .i64 a3, .bool false, .bool false]) := ((B_A.out.set 0 (.int .i64 b0)).set 1 (.int .i64 b1))
  have n_z := far2 B_z ne_z.out 0 (.int .i64 b0) 1 (.int .i64 b1)
  have n_B := far2 B_B ne_B.out 0 (.int .i64 b0) 1 (.int .i64 b1)
  have nHB := stb2 HB (y := w1.heap.size) (by omega) 0 (.int .i64 b0) 1 (.int .i64 b1)
  go_region
  clear c0A c1A c2A c3A c4A c5A f0A f1A f2A f3A f4A f5A c0B c1B c2B c3B c4B c5B f0B f1B f2B f3B f4B f5B
  clear ne_z ne_B
  generalize (WB.setCell ⟨w1.heap.size, 0, none⟩ (.int .i64 b0)).setCell ⟨w1.heap.size, 1, none⟩ (.int .i64 b1) = WC at *
  clear B_z
  have B_z := n_z
  clear n_z
  clear B_A
  have B_A := n_A
  clear n_A
  clear B_B
  have B_B := n_B
  clear n_B
  clear HB
  have HB := nHB
  clear nHB
  have bb : Below WC.heap.size WC WC.drew := ⟨rfl, rfl, rfl, Nat.le_refl _, fun _ _ => rfl⟩
  replace B_z := mv B_z bb
  replace B_A := mv B_A bb
  replace B_B := mv B_B bb
  replace HB := nx HB bb
  generalize WC.drew = w3q at *
  clear bb
  obtain ⟨c0A, c1A, c2A, c3A, c4A, c5A⟩ := cells6 B_A
  obtain ⟨c0B, c1B, c2B, c3B, c4B, c5B⟩ := cells6 B_B
  go_upto_region 11 with (fail)
  have k2 := g2.out
  have j2 := n2.out
  have j3 := n3.out
  go_upto_region 12 with (fail)
  clear c0A c1A c2A c3A c4A c5A c0B c1B c2B c3B c4B c5B
  clear k2 j2 j3
  obtain ⟨c0A, c1A, c2A, c3A, c4A, c5A⟩ := cells6 B_A
  obtain ⟨f0A, f1A, f2A, f3A, f4A, f5A⟩ := froz6 B_A
  obtain ⟨c0B, c1B, c2B, c3B, c4B, c5B⟩ := cells6 B_B
  obtain ⟨f0B, f1B, f2B, f3B, f4B, f5B⟩ := froz6 B_B
  have ne_z : Hid ((w.heap.size + 1 + 1 + 1) ≠ (w1.heap.size)) := by unfold Hid; omega
  have ne_B : Hid ((w2.heap.size) ≠ (w1.heap.size)) := by unfold Hid; omega
  have n_A : Hid (Bx ((w3q.setCell ⟨w1.heap.size, 2, none⟩ (.int .i64 b2)).setCell ⟨w1.heap.size, 3, none⟩ (.int .i64 b3)) (w1.heap.size) 124 #[.int .i64 b0, .int .i64 b1, .int .i64 b2, .int .i64 b3, .bool false, .bool false]) := ((B_A.out.set 2 (.int .i64 b2)).set 3 (.int .i64 b3))
  have n_z := far2 B_z ne_z.out 2 (.int .i64 b2) 3 (.int .i64 b3)
  have n_B := far2 B_B ne_B.out 2 (.int .i64 b2) 3 (.int .i64 b3)
  have nHB := stb2 HB (y := w1.heap.size) (by omega) 2 (.int .i64 b2) 3 (.int .i64 b3)
  go_region
  clear c0A c1A c2A c3A c4A c5A f0A f1A f2A f3A f4A f5A c0B c1B c2B c3B c4B c5B f0B f1B f2B f3B f4B f5B
  clear ne_z ne_B
  generalize (w3q.setCell ⟨w1.heap.size, 2, none⟩ (.int .i64 b2)).setCell ⟨w1.heap.size, 3, none⟩ (.int .i64 b3) = WD at *
  clear B_z
  have B_z := n_z
  clear n_z
  clear B_A
  have B_A := n_A
  clear n_A
  clear B_B
  have B_B := n_B
  clear n_B
  clear HB
  have HB := nHB
  clear nHB
  have bb : Below WD.heap.size WD WD.drew := ⟨rfl, rfl, rfl, Nat.le_refl _, fun _ _ => rfl⟩
  replace B_z := mv B_z bb
  replace B_A := mv B_A bb
  replace B_B := mv B_B bb
  replace HB := nx HB bb
  generalize WD.drew = w4q at *
  clear bb
  obtain ⟨c0A, c1A, c2A, c3A, c4A, c5A⟩ := cells6 B_A
  obtain ⟨c0B, c1B, c2B, c3B, c4B, c5B⟩ := cells6 B_B
  go_upto_region 13 with (fail)
  have k3 := g3.out
  go_upto_region 15 with (fail)
  clear k3
  have k4 := g4.out
  have j4 := n4.out
  have j5 := n5.out
  go_upto_region 17 with (fail)
  clear k4 j4 j5
  clear c0A c1A c2A c3A c4A c5A c0B c1B c2B c3B c4B c5B
  obtain ⟨s0, s1, s2, s3, s4, s5⟩ := cells6 (stor6 B_z (.int .i64 b0) (.int .i64 b1) (.int .i64 b2) (.int .i64 b3) (.bool false) (.bool false))
  have HF := stb6 HB (y := w.heap.size + 1 + 1 + 1) (by omega) 0 (.int .i64 b0) 1 (.int .i64 b1) 2 (.int .i64 b2) 3 (.int .i64 b3) 4 (.bool false) 5 (.bool false)
  obtain ⟨c0z, c1z, c2z, c3z, c4z, c5z⟩ := cells6 B_z
  obtain ⟨f0z, f1z, f2z, f3z, f4z, f5z⟩ := froz6 B_z
  obtain ⟨c0A, c1A, c2A, c3A, c4A, c5A⟩ := cells6 B_A
  go_wp2_with fail
  exact bodyPost_ret (v := .agg #[.int .i64 b0, .int .i64 b1, .int .i64 b2, .int .i64 b3, .bool false, .bool false]) (by simp [results, Try.results99, go_sem, s0, s1, s2, s3, s4, s5]) rfl ⟨rfl, nextw HF.out (by exact sm)⟩

set_option maxRecDepth 100000 in
set_option maxHeartbeats 4000000 in
theorem Times_xytftt (a b x y d x0 y0 x1 y1 a0 a1 a2 a3 b0 b1 b2 b3 : Int) (h1 : ∀ w, Calls Try.prog 102 #[.int .i64 a, .int .i64 x, .int .i64 x0, .int .i64 x1] w fun e w' => e = .returned (.agg #[.int .i64 a0, .int .i64 a1, .int .i64 a2, .int .i64 a3, .bool false, .bool false]) ∧ Below w.heap.size w w') (h2 : ∀ w, Calls Try.prog 102 #[.int .i64 b, .int .i64 y, .int .i64 y0, .int .i64 y1] w fun e w' => e = .returned (.agg #[.int .i64 b0, .int .i64 b1, .int .i64 b2, .int .i64 b3, .bool false, .bool false]) ∧ Below w.heap.size w w') (a0a : -4194304 ≤ a0) (a0b : a0 ≤ 4194304) (a1a : 0 ≤ a1) (a1b : a1 ≤ 67108864) (a2a : -4194304 ≤ a2) (a2b : a2 ≤ 4194304) (a3a : 0 ≤ a3) (a3b : a3 ≤ 67108864) (b0a : -4194304 ≤ b0) (b0b : b0 ≤ 4194304) (b1a : 0 ≤ b1) (b1b : b1 ≤ 67108864) (b2a : -4194304 ≤ b2) (b2b : b2 ≤ 4194304) (b3a : 0 ≤ b3) (b3b : b3 ≤ 67108864) (g1 : a0 * b1 < b0 * a1) (g2 : ¬ b2 * a3 < a2 * b3) (g3 : b0 < 0) (g4 : a2 * 1 < 0 * a3) (w : World) :
    Calls Try.prog 99 #[.agg #[.int .i64 a, .int .i64 b], .agg #[.int .i64 x, .int .i64 y, .int .i64 d], .agg #[.int .i64 x0, .int .i64 y0, .int .i64 x1, .int .i64 y1]] w fun e w' => e = .returned (.agg #[.int .i64 0, .int .i64 0, .int .i64 0, .int .i64 0, .bool true, .bool false]) ∧ Below w.heap.size w w' := by
  have H1 := Lib.hid h1
  have H2 := Lib.hid h2
  clear h1 h2
  have m0 := bnd (a := a0) (b := b1) (by omega) (by omega) (by omega) (by omega)
  have m1 := bnd (a := b0) (b := a1) (by omega) (by omega) (by omega) (by omega)
  have m2 := bnd (a := a2) (b := b3) (by omega) (by omega) (by omega) (by omega)
  have m3 := bnd (a := b2) (b := a3) (by omega) (by omega) (by omega) (by omega)
  have m4 := bnd (a := 0) (b := a3) (by omega) (by omega) (by omega) (by omega)
  have m5 := bnd (a := a2) (b := 1) (by omega) (by omega) (by omega) (by omega)
  have n0 := Lib.hid m0
  have n1 := Lib.hid m1
  have n2 := Lib.hid m2
  have n3 := Lib.hid m3
  have n4 := Lib.hid m4
  have n5 := Lib.hid m5
  clear m0 m1 m2 m3 m4 m5
  replace g1 := Lib.hid g1
  replace g2 := Lib.hid g2
  replace g3 := Lib.hid g3
  replace g4 := Lib.hid g4
  obtain ⟨HB, B_p, B_v, B_r, B_z⟩ := box4 w 43 #[.int .i64 a, .int .i64 b] 59 #[.int .i64 x, .int .i64 y, .int .i64 d] 45 #[.int .i64 x0, .int .i64 y0, .int .i64 x1, .int .i64 y1] 124 #[.int .i64 0, .int .i64 0, .int .i64 0, .int .i64 0, .bool false, .bool false]
  go_enter Try.func99, Try.ntmps99
  go_wp2_with fail
  generalize (((w.alloc (.cells #[.int .i64 a, .int .i64 b] 43)).alloc (.cells #[.int .i64 x, .int .i64 y, .int .i64 d] 59)).alloc (.cells #[.int .i64 x0, .int .i64 y0, .int .i64 x1, .int .i64 y1] 45)).alloc (.cells #[.int .i64 0, .int .i64 0, .int .i64 0, .int .i64 0, .bool false, .bool false] 124) = W0 at *
  obtain ⟨c0p, c1p⟩ := cells2 B_p
  obtain ⟨c0v, c1v, c2v⟩ := cells3 B_v
  obtain ⟨c0r, c1r, c2r, c3r⟩ := cells4 B_r
  refine (H1.out _).mono ?_
  clear c0p c1p c0v c1v c2v c0r c1r c2r c3r
  rintro e w1 ⟨rfl, bb⟩
  replace bb := nextw (w0 := W0) (by exact sm) bb
  replace B_p := mv B_p bb
  replace B_v := mv B_v bb
  replace B_r := mv B_r bb
  replace B_z := mv B_z bb
  replace HB := nx HB bb
  clear bb
  have lt_Ap := B_p.out.lt
  have lt_Av := B_v.out.lt
  have lt_Ar := B_r.out.lt
  have lt_Az := B_z.out.lt
  obtain ⟨bb, B_A⟩ := box1 w1 124 #[.int .i64 a0, .int .i64 a1, .int .i64 a2, .int .i64 a3, .bool false, .bool false]
  replace bb := bb.out
  replace B_p := mv B_p bb
  replace B_v := mv B_v bb
  replace B_r := mv B_r bb
  replace B_z := mv B_z bb
  replace HB := nx HB bb
  clear bb
  go_upto_region 2 with (fail)
  generalize w1.alloc (.cells #[.int .i64 a0, .int .i64 a1, .int .i64 a2, .int .i64 a3, .bool false, .bool false] 124) = WA at *
  obtain ⟨c0p, c1p⟩ := cells2 B_p
  obtain ⟨c0v, c1v, c2v⟩ := cells3 B_v
  obtain ⟨c0r, c1r, c2r, c3r⟩ := cells4 B_r
  go_wp2_with fail
  refine (H2.out _).mono ?_
  clear c0p c1p c0v c1v c2v c0r c1r c2r c3r
  rintro e w2 ⟨rfl, bb⟩
  replace bb := nextw (w0 := WA) (by exact sm) bb
  replace B_p := mv B_p bb
  replace B_v := mv B_v bb
  replace B_r := mv B_r bb
  replace B_z := mv B_z bb
  replace B_A := mv B_A bb
  replace HB := nx HB bb
  clear bb
  clear B_p
  clear B_v
  clear B_r
  have lt_Bz := B_z.out.lt
  have lt_BA := B_A.out.lt
  obtain ⟨bb, B_B⟩ := box1 w2 124 #[.int .i64 b0, .int .i64 b1, .int .i64 b2, .int .i64 b3, .bool false, .bool false]
  replace bb := bb.out
  replace B_z := mv B_z bb
  replace B_A := mv B_A bb
  replace HB := nx HB bb
  clear bb
  go_upto_region 3 with (fail)
  generalize w2.alloc (.cells #[.int .i64 b0, .int .i64 b1, .int .i64 b2, .int .i64 b3, .bool false, .bool false] 124) = WB at *
  obtain ⟨c0A, c1A, c2A, c3A, c4A, c5A⟩ := cells6 B_A
  obtain ⟨c0B, c1B, c2B, c3B, c4B, c5B⟩ := cells6 B_B
  go_upto_region 5 with (fail)
  have k1 := g1.out
  have j0 := n0.out
  have j1 := n1.out
  go_upto_region 10 with (fail)
  clear c0A c1A c2A c3A c4A c5A c0B c1B c2B c3B c4B c5B
  clear k1 j0 j1
  obtain ⟨c0A, c1A, c2A, c3A, c4A, c5A⟩ := cells6 B_A
  obtain ⟨f0A, f1A, f2A, f3A, f4A, f5A⟩ := froz6 B_A
  obtain ⟨c0B, c1B, c2B, c3B, c4B, c5B⟩ := cells6 B_B
  obtain ⟨f0B, f1B, f2B, f3B, f4B, f5B⟩ := froz6 B_B
  have ne_z : Hid ((w.heap.size + 1 + 1 + 1) ≠ (w1.heap.size)) := by unfold Hid; omega
  have ne_B : Hid ((w2.heap.size) ≠ (w1.heap.size)) := by unfold Hid; omega
  have n_A : Hid (Bx ((WB.setCell ⟨w1.heap.size, 0, none⟩ (.int .i64 b0)).setCell ⟨w1.heap.size, 1, none⟩ (.int .i64 b1)) (w1.heap.size) 124 #[.int .i64 b0, .int .i64 b1, .int .i64 a2, .int .i64 a3, .bool false, .bool false]) := ((B_A.out.set 0 (.int .i64 b0)).set 1 (.int .i64 b1))
  have n_z := far2 B_z ne_z.out 0 (.int .i64 b0) 1 (.int .i64 b1)
  have n_B := far2 B_B ne_B.out 0 (.int .i64 b0) 1 (.int .i64 b1)
  have nHB := stb2 HB (y := w1.heap.size) (by omega) 0 (.int .i64 b0) 1 (.int .i64 b1)
  go_region
  clear c0A c1A c2A c3A c4A c5A f0A f1A f2A f3A f4A f5A c0B c1B c2B c3B c4B c5B f0B f1B f2B f3B f4B f5B
  clear ne_z ne_B
  generalize (WB.setCell ⟨w1.heap.size, 0, none⟩ (.int .i64 b0)).setCell ⟨w1.heap.size, 1, none⟩ (.int .i64 b1) = WC at *
  clear B_z
  have B_z := n_z
  clear n_z
  clear B_A
  have B_A := n_A
  clear n_A
  clear B_B
  have B_B := n_B
  clear n_B
  clear HB
  have HB := nHB
  clear nHB
  have bb : Below WC.heap.size WC WC.drew := ⟨rfl, rfl, rfl, Nat.le_refl _, fun _ _ => rfl⟩
  replace B_z := mv B_z bb
  replace B_A := mv B_A bb
  replace B_B := mv B_B bb
  replace HB := nx HB bb
  generalize WC.drew = w3q at *
  clear bb
  obtain ⟨c0A, c1A, c2A, c3A, c4A, c5A⟩ := cells6 B_A
  obtain ⟨c0B, c1B, c2B, c3B, c4B, c5B⟩ := cells6 B_B
  go_upto_region 11 with (fail)
  have k2 := g2.out
  have j2 := n2.out
  have j3 := n3.out
  go_upto_region 13 with (fail)
  clear k2 j2 j3
  have k3 := g3.out
  go_upto_region 14 with (fail)
  clear c0A c1A c2A c3A c4A c5A c0B c1B c2B c3B c4B c5B
  clear k3
  obtain ⟨c0A, c1A, c2A, c3A, c4A, c5A⟩ := cells6 B_A
  obtain ⟨f0A, f1A, f2A, f3A, f4A, f5A⟩ := froz6 B_A
  have ne_z : Hid ((w.heap.size + 1 + 1 + 1) ≠ (w1.heap.size)) := by unfold Hid; omega
  have ne_B : Hid ((w2.heap.size) ≠ (w1.heap.size)) := by unfold Hid; omega
  have n_A : Hid (Bx ((w3q.setCell ⟨w1.heap.size, 0, none⟩ (.int .i64 0)).setCell ⟨w1.heap.size, 1, none⟩ (.int .i64 1)) (w1.heap.size) 124 #[.int .i64 0, .int .i64 1, .int .i64 a2, .int .i64 a3, .bool false, .bool false]) := ((B_A.out.set 0 (.int .i64 0)).set 1 (.int .i64 1))
  have n_z := far2 B_z ne_z.out 0 (.int .i64 0) 1 (.int .i64 1)
  have n_B := far2 B_B ne_B.out 0 (.int .i64 0) 1 (.int .i64 1)
  have nHB := stb2 HB (y := w1.heap.size) (by omega) 0 (.int .i64 0) 1 (.int .i64 1)
  go_upto_region 15 with (fail)
  clear c0A c1A c2A c3A c4A c5A f0A f1A f2A f3A f4A f5A
  clear ne_z ne_B
  generalize (w3q.setCell ⟨w1.heap.size, 0, none⟩ (.int .i64 0)).setCell ⟨w1.heap.size, 1, none⟩ (.int .i64 1) = WE at *
  clear B_z
  have B_z := n_z
  clear n_z
  clear B_A
  have B_A := n_A
  clear n_A
  clear B_B
  have B_B := n_B
  clear n_B
  clear HB
  have HB := nHB
  clear nHB
  obtain ⟨c0A, c1A, c2A, c3A, c4A, c5A⟩ := cells6 B_A
  have k4 := g4.out
  have j4 := n4.out
  have j5 := n5.out
  go_upto_region 16 with (fail)
  clear k4 j4 j5
  clear c0A c1A c2A c3A c4A c5A
  obtain ⟨s0, s1, s2, s3, s4, s5⟩ := cells6 (stor6 B_z (.int .i64 0) (.int .i64 0) (.int .i64 0) (.int .i64 0) (.bool true) (.bool false))
  have HF := stb6 HB (y := w.heap.size + 1 + 1 + 1) (by omega) 0 (.int .i64 0) 1 (.int .i64 0) 2 (.int .i64 0) 3 (.int .i64 0) 4 (.bool true) 5 (.bool false)
  obtain ⟨c0z, c1z, c2z, c3z, c4z, c5z⟩ := cells6 B_z
  obtain ⟨f0z, f1z, f2z, f3z, f4z, f5z⟩ := froz6 B_z
  obtain ⟨c0A, c1A, c2A, c3A, c4A, c5A⟩ := cells6 B_A
  go_wp2_with fail
  exact bodyPost_ret (v := .agg #[.int .i64 0, .int .i64 0, .int .i64 0, .int .i64 0, .bool true, .bool false]) (by simp [results, Try.results99, go_sem, s0, s1, s2, s3, s4, s5]) rfl ⟨rfl, nextw HF.out (by exact sm)⟩

set_option maxRecDepth 100000 in
set_option maxHeartbeats 4000000 in
theorem Times_xytftf (a b x y d x0 y0 x1 y1 a0 a1 a2 a3 b0 b1 b2 b3 : Int) (h1 : ∀ w, Calls Try.prog 102 #[.int .i64 a, .int .i64 x, .int .i64 x0, .int .i64 x1] w fun e w' => e = .returned (.agg #[.int .i64 a0, .int .i64 a1, .int .i64 a2, .int .i64 a3, .bool false, .bool false]) ∧ Below w.heap.size w w') (h2 : ∀ w, Calls Try.prog 102 #[.int .i64 b, .int .i64 y, .int .i64 y0, .int .i64 y1] w fun e w' => e = .returned (.agg #[.int .i64 b0, .int .i64 b1, .int .i64 b2, .int .i64 b3, .bool false, .bool false]) ∧ Below w.heap.size w w') (a0a : -4194304 ≤ a0) (a0b : a0 ≤ 4194304) (a1a : 0 ≤ a1) (a1b : a1 ≤ 67108864) (a2a : -4194304 ≤ a2) (a2b : a2 ≤ 4194304) (a3a : 0 ≤ a3) (a3b : a3 ≤ 67108864) (b0a : -4194304 ≤ b0) (b0b : b0 ≤ 4194304) (b1a : 0 ≤ b1) (b1b : b1 ≤ 67108864) (b2a : -4194304 ≤ b2) (b2b : b2 ≤ 4194304) (b3a : 0 ≤ b3) (b3b : b3 ≤ 67108864) (g1 : a0 * b1 < b0 * a1) (g2 : ¬ b2 * a3 < a2 * b3) (g3 : b0 < 0) (g4 : ¬ a2 * 1 < 0 * a3) (w : World) :
    Calls Try.prog 99 #[.agg #[.int .i64 a, .int .i64 b], .agg #[.int .i64 x, .int .i64 y, .int .i64 d], .agg #[.int .i64 x0, .int .i64 y0, .int .i64 x1, .int .i64 y1]] w fun e w' => e = .returned (.agg #[.int .i64 0, .int .i64 1, .int .i64 a2, .int .i64 a3, .bool false, .bool false]) ∧ Below w.heap.size w w' := by
  have H1 := Lib.hid h1
  have H2 := Lib.hid h2
  clear h1 h2
  have m0 := bnd (a := a0) (b := b1) (by omega) (by omega) (by omega) (by omega)
  have m1 := bnd (a := b0) (b := a1) (by omega) (by omega) (by omega) (by omega)
  have m2 := bnd (a := a2) (b := b3) (by omega) (by omega) (by omega) (by omega)
  have m3 := bnd (a := b2) (b := a3) (by omega) (by omega) (by omega) (by omega)
  have m4 := bnd (a := 0) (b := a3) (by omega) (by omega) (by omega) (by omega)
  have m5 := bnd (a := a2) (b := 1) (by omega) (by omega) (by omega) (by omega)
  have n0 := Lib.hid m0
  have n1 := Lib.hid m1
  have n2 := Lib.hid m2
  have n3 := Lib.hid m3
  have n4 := Lib.hid m4
  have n5 := Lib.hid m5
  clear m0 m1 m2 m3 m4 m5
  replace g1 := Lib.hid g1
  replace g2 := Lib.hid g2
  replace g3 := Lib.hid g3
  replace g4 := Lib.hid g4
  obtain ⟨HB, B_p, B_v, B_r, B_z⟩ := box4 w 43 #[.int .i64 a, .int .i64 b] 59 #[.int .i64 x, .int .i64 y, .int .i64 d] 45 #[.int .i64 x0, .int .i64 y0, .int .i64 x1, .int .i64 y1] 124 #[.int .i64 0, .int .i64 0, .int .i64 0, .int .i64 0, .bool false, .bool false]
  go_enter Try.func99, Try.ntmps99
  go_wp2_with fail
  generalize (((w.alloc (.cells #[.int .i64 a, .int .i64 b] 43)).alloc (.cells #[.int .i64 x, .int .i64 y, .int .i64 d] 59)).alloc (.cells #[.int .i64 x0, .int .i64 y0, .int .i64 x1, .int .i64 y1] 45)).alloc (.cells #[.int .i64 0, .int .i64 0, .int .i64 0, .int .i64 0, .bool false, .bool false] 124) = W0 at *
  obtain ⟨c0p, c1p⟩ := cells2 B_p
  obtain ⟨c0v, c1v, c2v⟩ := cells3 B_v
  obtain ⟨c0r, c1r, c2r, c3r⟩ := cells4 B_r
  refine (H1.out _).mono ?_
  clear c0p c1p c0v c1v c2v c0r c1r c2r c3r
  rintro e w1 ⟨rfl, bb⟩
  replace bb := nextw (w0 := W0) (by exact sm) bb
  replace B_p := mv B_p bb
  replace B_v := mv B_v bb
  replace B_r := mv B_r bb
  replace B_z := mv B_z bb
  replace HB := nx HB bb
  clear bb
  have lt_Ap := B_p.out.lt
  have lt_Av := B_v.out.lt
  have lt_Ar := B_r.out.lt
  have lt_Az := B_z.out.lt
  obtain ⟨bb, B_A⟩ := box1 w1 124 #[.int .i64 a0, .int .i64 a1, .int .i64 a2, .int .i64 a3, .bool false, .bool false]
  replace bb := bb.out
  replace B_p := mv B_p bb
  replace B_v := mv B_v bb
  replace B_r := mv B_r bb
  replace B_z := mv B_z bb
  replace HB := nx HB bb
  clear bb
  go_upto_region 2 with (fail)
  generalize w1.alloc (.cells #[.int .i64 a0, .int .i64 a1, .int .i64 a2, .int .i64 a3, .bool false, .bool false] 124) = WA at *
  obtain ⟨c0p, c1p⟩ := cells2 B_p
  obtain ⟨c0v, c1v, c2v⟩ := cells3 B_v
  obtain ⟨c0r, c1r, c2r, c3r⟩ := cells4 B_r
  go_wp2_with fail
  refine (H2.out _).mono ?_
  clear c0p c1p c0v c1v c2v c0r c1r c2r c3r
  rintro e w2 ⟨rfl, bb⟩
  replace bb := nextw (w0 := WA) (by exact sm) bb
  replace B_p := mv B_p bb
  replace B_v := mv B_v bb
  replace B_r := mv B_r bb
  replace B_z := mv B_z bb
  replace B_A := mv B_A bb
  replace HB := nx HB bb
  clear bb
  clear B_p
  clear B_v
  clear B_r
  have lt_Bz := B_z.out.lt
  have lt_BA := B_A.out.lt
  obtain ⟨bb, B_B⟩ := box1 w2 124 #[.int .i64 b0, .int .i64 b1, .int .i64 b2, .int .i64 b3, .bool false, .bool false]
  replace bb := bb.out
  replace B_z := mv B_z bb
  replace B_A := mv B_A bb
  replace HB := nx HB bb
  clear bb
  go_upto_region 3 with (fail)
  generalize w2.alloc (.cells #[.int .i64 b0, .int .i64 b1, .int .i64 b2, .int .i64 b3, .bool false, .bool false] 124) = WB at *
  obtain ⟨c0A, c1A, c2A, c3A, c4A, c5A⟩ := cells6 B_A
  obtain ⟨c0B, c1B, c2B, c3B, c4B, c5B⟩ := cells6 B_B
  go_upto_region 5 with (fail)
  have k1 := g1.out
  have j0 := n0.out
  have j1 := n1.out
  go_upto_region 10 with (fail)
  clear c0A c1A c2A c3A c4A c5A c0B c1B c2B c3B c4B c5B
  clear k1 j0 j1
  obtain ⟨c0A, c1A, c2A, c3A, c4A, c5A⟩ := cells6 B_A
  obtain ⟨f0A, f1A, f2A, f3A, f4A, f5A⟩ := froz6 B_A
  obtain ⟨c0B, c1B, c2B, c3B, c4B, c5B⟩ := cells6 B_B
  obtain ⟨f0B, f1B, f2B, f3B, f4B, f5B⟩ := froz6 B_B
  have ne_z : Hid ((w.heap.size + 1 + 1 + 1) ≠ (w1.heap.size)) := by unfold Hid; omega
  have ne_B : Hid ((w2.heap.size) ≠ (w1.heap.size)) := by unfold Hid; omega
  have n_A : Hid (Bx ((WB.setCell ⟨w1.heap.size, 0, none⟩ (.int .i64 b0)).setCell ⟨w1.heap.size, 1, none⟩ (.int .i64 b1)) (w1.heap.size) 124 #[.int .i64 b0, .int .i64 b1, .int .i64 a2, .int .i64 a3, .bool false, .bool false]) := ((B_A.out.set 0 (.int .i64 b0)).set 1 (.int .i64 b1))
  have n_z := far2 B_z ne_z.out 0 (.int .i64 b0) 1 (.int .i64 b1)
  have n_B := far2 B_B ne_B.out 0 (.int .i64 b0) 1 (.int .i64 b1)
  have nHB := stb2 HB (y := w1.heap.size) (by omega) 0 (.int .i64 b0) 1 (.int .i64 b1)
  go_region
  clear c0A c1A c2A c3A c4A c5A f0A f1A f2A f3A f4A f5A c0B c1B c2B c3B c4B c5B f0B f1B f2B f3B f4B f5B
  clear ne_z ne_B
  generalize (WB.setCell ⟨w1.heap.size, 0, none⟩ (.int .i64 b0)).setCell ⟨w1.heap.size, 1, none⟩ (.int .i64 b1) = WC at *
  clear B_z
  have B_z := n_z
  clear n_z
  clear B_A
  have B_A := n_A
  clear n_A
  clear B_B
  have B_B := n_B
  clear n_B
  clear HB
  have HB := nHB
  clear nHB
  have bb : Below WC.heap.size WC WC.drew := ⟨rfl, rfl, rfl, Nat.le_refl _, fun _ _ => rfl⟩
  replace B_z := mv B_z bb
  replace B_A := mv B_A bb
  replace B_B := mv B_B bb
  replace HB := nx HB bb
  generalize WC.drew = w3q at *
  clear bb
  obtain ⟨c0A, c1A, c2A, c3A, c4A, c5A⟩ := cells6 B_A
  obtain ⟨c0B, c1B, c2B, c3B, c4B, c5B⟩ := cells6 B_B
  go_upto_region 11 with (fail)
  have k2 := g2.out
  have j2 := n2.out
  have j3 := n3.out
  go_upto_region 13 with (fail)
  clear k2 j2 j3
  have k3 := g3.out
  go_upto_region 14 with (fail)
  clear c0A c1A c2A c3A c4A c5A c0B c1B c2B c3B c4B c5B
  clear k3
  obtain ⟨c0A, c1A, c2A, c3A, c4A, c5A⟩ := cells6 B_A
  obtain ⟨f0A, f1A, f2A, f3A, f4A, f5A⟩ := froz6 B_A
  have ne_z : Hid ((w.heap.size + 1 + 1 + 1) ≠ (w1.heap.size)) := by unfold Hid; omega
  have ne_B : Hid ((w2.heap.size) ≠ (w1.heap.size)) := by unfold Hid; omega
  have n_A : Hid (Bx ((w3q.setCell ⟨w1.heap.size, 0, none⟩ (.int .i64 0)).setCell ⟨w1.heap.size, 1, none⟩ (.int .i64 1)) (w1.heap.size) 124 #[.int .i64 0, .int .i64 1, .int .i64 a2, .int .i64 a3, .bool false, .bool false]) := ((B_A.out.set 0 (.int .i64 0)).set 1 (.int .i64 1))
  have n_z := far2 B_z ne_z.out 0 (.int .i64 0) 1 (.int .i64 1)
  have n_B := far2 B_B ne_B.out 0 (.int .i64 0) 1 (.int .i64 1)
  have nHB := stb2 HB (y := w1.heap.size) (by omega) 0 (.int .i64 0) 1 (.int .i64 1)
  go_upto_region 15 with (fail)
  clear c0A c1A c2A c3A c4A c5A f0A f1A f2A f3A f4A f5A
  clear ne_z ne_B
  generalize (w3q.setCell ⟨w1.heap.size, 0, none⟩ (.int .i64 0)).setCell ⟨w1.heap.size, 1, none⟩ (.int .i64 1) = WE at *
  clear B_z
  have B_z := n_z
  clear n_z
  clear B_A
  have B_A := n_A
  clear n_A
  clear B_B
  have B_B := n_B
  clear n_B
  clear HB
  have HB := nHB
  clear nHB
  obtain ⟨c0A, c1A, c2A, c3A, c4A, c5A⟩ := cells6 B_A
  have k4 := g4.out
  have j4 := n4.out
  have j5 := n5.out
  go_upto_region 17 with (fail)
  clear k4 j4 j5
  clear c0A c1A c2A c3A c4A c5A
  obtain ⟨s0, s1, s2, s3, s4, s5⟩ := cells6 (stor6 B_z (.int .i64 0) (.int .i64 1) (.int .i64 a2) (.int .i64 a3) (.bool false) (.bool false))
  have HF := stb6 HB (y := w.heap.size + 1 + 1 + 1) (by omega) 0 (.int .i64 0) 1 (.int .i64 1) 2 (.int .i64 a2) 3 (.int .i64 a3) 4 (.bool false) 5 (.bool false)
  obtain ⟨c0z, c1z, c2z, c3z, c4z, c5z⟩ := cells6 B_z
  obtain ⟨f0z, f1z, f2z, f3z, f4z, f5z⟩ := froz6 B_z
  obtain ⟨c0A, c1A, c2A, c3A, c4A, c5A⟩ := cells6 B_A
  go_wp2_with fail
  exact bodyPost_ret (v := .agg #[.int .i64 0, .int .i64 1, .int .i64 a2, .int .i64 a3, .bool false, .bool false]) (by simp [results, Try.results99, go_sem, s0, s1, s2, s3, s4, s5]) rfl ⟨rfl, nextw HF.out (by exact sm)⟩

set_option maxRecDepth 100000 in
set_option maxHeartbeats 4000000 in
theorem Times_xytfft (a b x y d x0 y0 x1 y1 a0 a1 a2 a3 b0 b1 b2 b3 : Int) (h1 : ∀ w, Calls Try.prog 102 #[.int .i64 a, .int .i64 x, .int .i64 x0, .int .i64 x1] w fun e w' => e = .returned (.agg #[.int .i64 a0, .int .i64 a1, .int .i64 a2, .int .i64 a3, .bool false, .bool false]) ∧ Below w.heap.size w w') (h2 : ∀ w, Calls Try.prog 102 #[.int .i64 b, .int .i64 y, .int .i64 y0, .int .i64 y1] w fun e w' => e = .returned (.agg #[.int .i64 b0, .int .i64 b1, .int .i64 b2, .int .i64 b3, .bool false, .bool false]) ∧ Below w.heap.size w w') (a0a : -4194304 ≤ a0) (a0b : a0 ≤ 4194304) (a1a : 0 ≤ a1) (a1b : a1 ≤ 67108864) (a2a : -4194304 ≤ a2) (a2b : a2 ≤ 4194304) (a3a : 0 ≤ a3) (a3b : a3 ≤ 67108864) (b0a : -4194304 ≤ b0) (b0b : b0 ≤ 4194304) (b1a : 0 ≤ b1) (b1b : b1 ≤ 67108864) (b2a : -4194304 ≤ b2) (b2b : b2 ≤ 4194304) (b3a : 0 ≤ b3) (b3b : b3 ≤ 67108864) (g1 : a0 * b1 < b0 * a1) (g2 : ¬ b2 * a3 < a2 * b3) (g3 : ¬ b0 < 0) (g4 : a2 * b1 < b0 * a3) (w : World) :
    Calls Try.prog 99 #[.agg #[.int .i64 a, .int .i64 b], .agg #[.int .i64 x, .int .i64 y, .int .i64 d], .agg #[.int .i64 x0, .int .i64 y0, .int .i64 x1, .int .i64 y1]] w fun e w' => e = .returned (.agg #[.int .i64 0, .int .i64 0, .int .i64 0, .int .i64 0, .bool true, .bool false]) ∧ Below w.heap.size w w' := by
  have H1 := Lib.hid h1
  have H2 := Lib.hid h2
  clear h1 h2
  have m0 := bnd (a := a0) (b := b1) (by omega) (by omega) (by omega) (by omega)
  have m1 := bnd (a := b0) (b := a1) (by omega) (by omega) (by omega) (by omega)
  have m2 := bnd (a := a2) (b := b3) (by omega) (by omega) (by omega) (by omega)
  have m3 := bnd (a := b2) (b := a3) (by omega) (by omega) (by omega) (by omega)
  have m4 := bnd (a := b0) (b := a3) (by omega) (by omega) (by omega) (by omega)
  have m5 := bnd (a := a2) (b := b1) (by omega) (by omega) (by omega) (by omega)
  have n0 := Lib.hid m0
  have n1 := Lib.hid m1
  have n2 := Lib.hid m2
  have n3 := Lib.hid m3
  have n4 := Lib.hid m4
  have n5 := Lib.hid m5
  clear m0 m1 m2 m3 m4 m5
  replace g1 := Lib.hid g1
  replace g2 := Lib.hid g2
  replace g3 := Lib.hid g3
  replace g4 := Lib.hid g4
  obtain ⟨HB, B_p, B_v, B_r, B_z⟩ := box4 w 43 #[.int .i64 a, .int .i64 b] 59 #[.int .i64 x, .int .i64 y, .int .i64 d] 45 #[.int .i64 x0, .int .i64 y0, .int .i64 x1, .int .i64 y1] 124 #[.int .i64 0, .int .i64 0, .int .i64 0, .int .i64 0, .bool false, .bool false]
  go_enter Try.func99, Try.ntmps99
  go_wp2_with fail
  generalize (((w.alloc (.cells #[.int .i64 a, .int .i64 b] 43)).alloc (.cells #[.int .i64 x, .int .i64 y, .int .i64 d] 59)).alloc (.cells #[.int .i64 x0, .int .i64 y0, .int .i64 x1, .int .i64 y1] 45)).alloc (.cells #[.int .i64 0, .int .i64 0, .int .i64 0, .int .i64 0, .bool false, .bool false] 124) = W0 at *
  obtain ⟨c0p, c1p⟩ := cells2 B_p
  obtain ⟨c0v, c1v, c2v⟩ := cells3 B_v
  obtain ⟨c0r, c1r, c2r, c3r⟩ := cells4 B_r
  refine (H1.out _).mono ?_
  clear c0p c1p c0v c1v c2v c0r c1r c2r c3r
  rintro e w1 ⟨rfl, bb⟩
  replace bb := nextw (w0 := W0) (by exact sm) bb
  replace B_p := mv B_p bb
  replace B_v := mv B_v bb
  replace B_r := mv B_r bb
  replace B_z := mv B_z bb
  replace HB := nx HB bb
  clear bb
  have lt_Ap := B_p.out.lt
  have lt_Av := B_v.out.lt
  have lt_Ar := B_r.out.lt
  have lt_Az := B_z.out.lt
  obtain ⟨bb, B_A⟩ := box1 w1 124 #[.int .i64 a0, .int .i64 a1, .int .i64 a2, .int .i64 a3, .bool false, .bool false]
  replace bb := bb.out
  replace B_p := mv B_p bb
  replace B_v := mv B_v bb
  replace B_r := mv B_r bb
  replace B_z := mv B_z bb
  replace HB := nx HB bb
  clear bb
  go_upto_region 2 with (fail)
  generalize w1.alloc (.cells #[.int .i64 a0, .int .i64 a1, .int .i64 a2, .int .i64 a3, .bool false, .bool false] 124) = WA at *
  obtain ⟨c0p, c1p⟩ := cells2 B_p
  obtain ⟨c0v, c1v, c2v⟩ := cells3 B_v
  obtain ⟨c0r, c1r, c2r, c3r⟩ := cells4 B_r
  go_wp2_with fail
  refine (H2.out _).mono ?_
  clear c0p c1p c0v c1v c2v c0r c1r c2r c3r
  rintro e w2 ⟨rfl, bb⟩
  replace bb := nextw (w0 := WA) (by exact sm) bb
  replace B_p := mv B_p bb
  replace B_v := mv B_v bb
  replace B_r := mv B_r bb
  replace B_z := mv B_z bb
  replace B_A := mv B_A bb
  replace HB := nx HB bb
  clear bb
  clear B_p
  clear B_v
  clear B_r
  have lt_Bz := B_z.out.lt
  have lt_BA := B_A.out.lt
  obtain ⟨bb, B_B⟩ := box1 w2 124 #[.int .i64 b0, .int .i64 b1, .int .i64 b2, .int .i64 b3, .bool false, .bool false]
  replace bb := bb.out
  replace B_z := mv B_z bb
  replace B_A := mv B_A bb
  replace HB := nx HB bb
  clear bb
  go_upto_region 3 with (fail)
  generalize w2.alloc (.cells #[.int .i64 b0, .int .i64 b1, .int .i64 b2, .int .i64 b3, .bool false, .bool false] 124) = WB at *
  obtain ⟨c0A, c1A, c2A, c3A, c4A, c5A⟩ := cells6 B_A
  obtain ⟨c0B, c1B, c2B, c3B, c4B, c5B⟩ := cells6 B_B
  go_upto_region 5 with (fail)
  have k1 := g1.out
  have j0 := n0.out
  have j1 := n1.out
  go_upto_region 10 with (fail)
  clear c0A c1A c2A c3A c4A c5A c0B c1B c2B c3B c4B c5B
  clear k1 j0 j1
  obtain ⟨c0A, c1A, c2A, c3A, c4A, c5A⟩ := cells6 B_A
  obtain ⟨f0A, f1A, f2A, f3A, f4A, f5A⟩ := froz6 B_A
  obtain ⟨c0B, c1B, c2B, c3B, c4B, c5B⟩ := cells6 B_B
  obtain ⟨f0B, f1B, f2B, f3B, f4B, f5B⟩ := froz6 B_B
  have ne_z : Hid ((w.heap.size + 1 + 1 + 1) ≠ (w1.heap.size)) := by unfold Hid; omega
  have ne_B : Hid ((w2.heap.size) ≠ (w1.heap.size)) := by unfold Hid; omega
  have n_A : Hid (Bx ((WB.setCell ⟨w1.heap.size, 0, none⟩ (.int .i64 b0)).setCell ⟨w1.heap.size, 1, none⟩ (.int .i64 b1)) (w1.heap.size) 124 #[.int .i64 b0, .int .i64 b1, .int .i64 a2, .int .i64 a3, .bool false, .bool false]) := ((B_A.out.set 0 (.int .i64 b0)).set 1 (.int .i64 b1))
  have n_z := far2 B_z ne_z.out 0 (.int .i64 b0) 1 (.int .i64 b1)
  have n_B := far2 B_B ne_B.out 0 (.int .i64 b0) 1 (.int .i64 b1)
  have nHB := stb2 HB (y := w1.heap.size) (by omega) 0 (.int .i64 b0) 1 (.int .i64 b1)
  go_region
  clear c0A c1A c2A c3A c4A c5A f0A f1A f2A f3A f4A f5A c0B c1B c2B c3B c4B c5B f0B f1B f2B f3B f4B f5B
  clear ne_z ne_B
  generalize (WB.setCell ⟨w1.heap.size, 0, none⟩ (.int .i64 b0)).setCell ⟨w1.heap.size, 1, none⟩ (.int .i64 b1) = WC at *
  clear B_z
  have B_z := n_z
  clear n_z
  clear B_A
  have B_A := n_A
  clear n_A
  clear B_B
  have B_B := n_B
  clear n_B
  clear HB
  have HB := nHB
  clear nHB
  have bb : Below WC.heap.size WC WC.drew := ⟨rfl, rfl, rfl, Nat.le_refl _, fun _ _ => rfl⟩
  replace B_z := mv B_z bb
  replace B_A := mv B_A bb
  replace B_B := mv B_B bb
  replace HB := nx HB bb
  generalize WC.drew = w3q at *
  clear bb
  obtain ⟨c0A, c1A, c2A, c3A, c4A, c5A⟩ := cells6 B_A
  obtain ⟨c0B, c1B, c2B, c3B, c4B, c5B⟩ := cells6 B_B
  go_upto_region 11 with (fail)
  have k2 := g2.out
  have j2 := n2.out
  have j3 := n3.out
  go_upto_region 13 with (fail)
  clear k2 j2 j3
  have k3 := g3.out
  go_upto_region 15 with (fail)
  clear k3
  have k4 := g4.out
  have j4 := n4.out
  have j5 := n5.out
  go_upto_region 16 with (fail)
  clear k4 j4 j5
  clear c0A c1A c2A c3A c4A c5A c0B c1B c2B c3B c4B c5B
  obtain ⟨s0, s1, s2, s3, s4, s5⟩ := cells6 (stor6 B_z (.int .i64 0) (.int .i64 0) (.int .i64 0) (.int .i64 0) (.bool true) (.bool false))
  have HF := stb6 HB (y := w.heap.size + 1 + 1 + 1) (by omega) 0 (.int .i64 0) 1 (.int .i64 0) 2 (.int .i64 0) 3 (.int .i64 0) 4 (.bool true) 5 (.bool false)
  obtain ⟨c0z, c1z, c2z, c3z, c4z, c5z⟩ := cells6 B_z
  obtain ⟨f0z, f1z, f2z, f3z, f4z, f5z⟩ := froz6 B_z
  obtain ⟨c0A, c1A, c2A, c3A, c4A, c5A⟩ := cells6 B_A
  go_wp2_with fail
  exact bodyPost_ret (v := .agg #[.int .i64 0, .int .i64 0, .int .i64 0, .int .i64 0, .bool true, .bool false]) (by simp [results, Try.results99, go_sem, s0, s1, s2, s3, s4, s5]) rfl ⟨rfl, nextw HF.out (by exact sm)⟩

set_option maxRecDepth 100000 in
set_option maxHeartbeats 4000000 in
theorem Times_xytfff (a b x y d x0 y0 x1 y1 a0 a1 a2 a3 b0 b1 b2 b3 : Int) (h1 : ∀ w, Calls Try.prog 102 #[.int .i64 a, .int .i64 x, .int .i64 x0, .int .i64 x1] w fun e w' => e = .returned (.agg #[.int .i64 a0, .int .i64 a1, .int .i64 a2, .int .i64 a3, .bool false, .bool false]) ∧ Below w.heap.size w w') (h2 : ∀ w, Calls Try.prog 102 #[.int .i64 b, .int .i64 y, .int .i64 y0, .int .i64 y1] w fun e w' => e = .returned (.agg #[.int .i64 b0, .int .i64 b1, .int .i64 b2, .int .i64 b3, .bool false, .bool false]) ∧ Below w.heap.size w w') (a0a : -4194304 ≤ a0) (a0b : a0 ≤ 4194304) (a1a : 0 ≤ a1) (a1b : a1 ≤ 67108864) (a2a : -4194304 ≤ a2) (a2b : a2 ≤ 4194304) (a3a : 0 ≤ a3) (a3b : a3 ≤ 67108864) (b0a : -4194304 ≤ b0) (b0b : b0 ≤ 4194304) (b1a : 0 ≤ b1) (b1b : b1 ≤ 67108864) (b2a : -4194304 ≤ b2) (b2b : b2 ≤ 4194304) (b3a : 0 ≤ b3) (b3b : b3 ≤ 67108864) (g1 : a0 * b1 < b0 * a1) (g2 : ¬ b2 * a3 < a2 * b3) (g3 : ¬ b0 < 0) (g4 : ¬ a2 * b1 < b0 * a3) (w : World) :
    Calls Try.prog 99 #[.agg #[.int .i64 a, .int .i64 b], .agg #[.int .i64 x, .int .i64 y, .int .i64 d], .agg #[.int .i64 x0, .int .i64 y0, .int .i64 x1, .int .i64 y1]] w fun e w' => e = .returned (.agg #[.int .i64 b0, .int .i64 b1, .int .i64 a2, .int .i64 a3, .bool false, .bool false]) ∧ Below w.heap.size w w' := by
  have H1 := Lib.hid h1
  have H2 := Lib.hid h2
  clear h1 h2
  have m0 := bnd (a := a0) (b := b1) (by omega) (by omega) (by omega) (by omega)
  have m1 := bnd (a := b0) (b := a1) (by omega) (by omega) (by omega) (by omega)
  have m2 := bnd (a := a2) (b := b3) (by omega) (by omega) (by omega) (by omega)
  have m3 := bnd (a := b2) (b := a3) (by omega) (by omega) (by omega) (by omega)
  have m4 := bnd (a := b0) (b := a3) (by omega) (by omega) (by omega) (by omega)
  have m5 := bnd (a := a2) (b := b1) (by omega) (by omega) (by omega) (by omega)
  have n0 := Lib.hid m0
  have n1 := Lib.hid m1
  have n2 := Lib.hid m2
  have n3 := Lib.hid m3
  have n4 := Lib.hid m4
  have n5 := Lib.hid m5
  clear m0 m1 m2 m3 m4 m5
  replace g1 := Lib.hid g1
  replace g2 := Lib.hid g2
  replace g3 := Lib.hid g3
  replace g4 := Lib.hid g4
  obtain ⟨HB, B_p, B_v, B_r, B_z⟩ := box4 w 43 #[.int .i64 a, .int .i64 b] 59 #[.int .i64 x, .int .i64 y, .int .i64 d] 45 #[.int .i64 x0, .int .i64 y0, .int .i64 x1, .int .i64 y1] 124 #[.int .i64 0, .int .i64 0, .int .i64 0, .int .i64 0, .bool false, .bool false]
  go_enter Try.func99, Try.ntmps99
  go_wp2_with fail
  generalize (((w.alloc (.cells #[.int .i64 a, .int .i64 b] 43)).alloc (.cells #[.int .i64 x, .int .i64 y, .int .i64 d] 59)).alloc (.cells #[.int .i64 x0, .int .i64 y0, .int .i64 x1, .int .i64 y1] 45)).alloc (.cells #[.int .i64 0, .int .i64 0, .int .i64 0, .int .i64 0, .bool false, .bool false] 124) = W0 at *
  obtain ⟨c0p, c1p⟩ := cells2 B_p
  obtain ⟨c0v, c1v, c2v⟩ := cells3 B_v
  obtain ⟨c0r, c1r, c2r, c3r⟩ := cells4 B_r
  refine (H1.out _).mono ?_
  clear c0p c1p c0v c1v c2v c0r c1r c2r c3r
  rintro e w1 ⟨rfl, bb⟩
  replace bb := nextw (w0 := W0) (by exact sm) bb
  replace B_p := mv B_p bb
  replace B_v := mv B_v bb
  replace B_r := mv B_r bb
  replace B_z := mv B_z bb
  replace HB := nx HB bb
  clear bb
  have lt_Ap := B_p.out.lt
  have lt_Av := B_v.out.lt
  have lt_Ar := B_r.out.lt
  have lt_Az := B_z.out.lt
  obtain ⟨bb, B_A⟩ := box1 w1 124 #[.int .i64 a0, .int .i64 a1, .int .i64 a2, .int .i64 a3, .bool false, .bool false]
  replace bb := bb.out
  replace B_p := mv B_p bb
  replace B_v := mv B_v bb
  replace B_r := mv B_r bb
  replace B_z := mv B_z bb
  replace HB := nx HB bb
  clear bb
  go_upto_region 2 with (fail)
  generalize w1.alloc (.cells #[.int .i64 a0, .int .i64 a1, .int .i64 a2, .int .i64 a3, .bool false, .bool false] 124) = WA at *
  obtain ⟨c0p, c1p⟩ := cells2 B_p
  obtain ⟨c0v, c1v, c2v⟩ := cells3 B_v
  obtain ⟨c0r, c1r, c2r, c3r⟩ := cells4 B_r
  go_wp2_with fail
  refine (H2.out _).mono ?_
  clear c0p c1p c0v c1v c2v c0r c1r c2r c3r
  rintro e w2 ⟨rfl, bb⟩
  replace bb := nextw (w0 := WA) (by exact sm) bb
  replace B_p := mv B_p bb
  replace B_v := mv B_v bb
  replace B_r := mv B_r bb
  replace B_z := mv B_z bb
  replace B_A := mv B_A bb
  replace HB := nx HB bb
  clear bb
  clear B_p
  clear B_v
  clear B_r
  have lt_Bz := B_z.out.lt
  have lt_BA := B_A.out.lt
  obtain ⟨bb, B_B⟩ := box1 w2 124 #[.int .i64 b0, .int .i64 b1, .int .i64 b2, .int .i64 b3, .bool false, .bool false]
  replace bb := bb.out
  replace B_z := mv B_z bb
  replace B_A := mv B_A bb
  replace HB := nx HB bb
  clear bb
  go_upto_region 3 with (fail)
  generalize w2.alloc (.cells #[.int .i64 b0, .int .i64 b1, .int .i64 b2, .int .i64 b3, .bool false, .bool false] 124) = WB at *
  obtain ⟨c0A, c1A, c2A, c3A, c4A, c5A⟩ := cells6 B_A
  obtain ⟨c0B, c1B, c2B, c3B, c4B, c5B⟩ := cells6 B_B
  go_upto_region 5 with (fail)
  have k1 := g1.out
  have j0 := n0.out
  have j1 := n1.out
  go_upto_region 10 with (fail)
  clear c0A c1A c2A c3A c4A c5A c0B c1B c2B c3B c4B c5B
  clear k1 j0 j1
  obtain ⟨c0A, c1A, c2A, c3A, c4A, c5A⟩ := cells6 B_A
  obtain ⟨f0A, f1A, f2A, f3A, f4A, f5A⟩ := froz6 B_A
  obtain ⟨c0B, c1B, c2B, c3B, c4B, c5B⟩ := cells6 B_B
  obtain ⟨f0B, f1B, f2B, f3B, f4B, f5B⟩ := froz6 B_B
  have ne_z : Hid ((w.heap.size + 1 + 1 + 1) ≠ (w1.heap.size)) := by unfold Hid; omega
  have ne_B : Hid ((w2.heap.size) ≠ (w1.heap.size)) := by unfold Hid; omega
  have n_A : Hid (Bx ((WB.setCell ⟨w1.heap.size, 0, none⟩ (.int .i64 b0)).setCell ⟨w1.heap.size, 1, none⟩ (.int .i64 b1)) (w1.heap.size) 124 #[.int .i64 b0, .int .i64 b1, .int .i64 a2, .int .i64 a3, .bool false, .bool false]) := ((B_A.out.set 0 (.int .i64 b0)).set 1 (.int .i64 b1))
  have n_z := far2 B_z ne_z.out 0 (.int .i64 b0) 1 (.int .i64 b1)
  have n_B := far2 B_B ne_B.out 0 (.int .i64 b0) 1 (.int .i64 b1)
  have nHB := stb2 HB (y := w1.heap.size) (by omega) 0 (.int .i64 b0) 1 (.int .i64 b1)
  go_region
  clear c0A c1A c2A c3A c4A c5A f0A f1A f2A f3A f4A f5A c0B c1B c2B c3B c4B c5B f0B f1B f2B f3B f4B f5B
  clear ne_z ne_B
  generalize (WB.setCell ⟨w1.heap.size, 0, none⟩ (.int .i64 b0)).setCell ⟨w1.heap.size, 1, none⟩ (.int .i64 b1) = WC at *
  clear B_z
  have B_z := n_z
  clear n_z
  clear B_A
  have B_A := n_A
  clear n_A
  clear B_B
  have B_B := n_B
  clear n_B
  clear HB
  have HB := nHB
  clear nHB
  have bb : Below WC.heap.size WC WC.drew := ⟨rfl, rfl, rfl, Nat.le_refl _, fun _ _ => rfl⟩
  replace B_z := mv B_z bb
  replace B_A := mv B_A bb
  replace B_B := mv B_B bb
  replace HB := nx HB bb
  generalize WC.drew = w3q at *
  clear bb
  obtain ⟨c0A, c1A, c2A, c3A, c4A, c5A⟩ := cells6 B_A
  obtain ⟨c0B, c1B, c2B, c3B, c4B, c5B⟩ := cells6 B_B
  go_upto_region 11 with (fail)
  have k2 := g2.out
  have j2 := n2.out
  have j3 := n3.out
  go_upto_region 13 with (fail)
  clear k2 j2 j3
  have k3 := g3.out
  go_upto_region 15 with (fail)
  clear k3
  have k4 := g4.out
  have j4 := n4.out
  have j5 := n5.out
  go_upto_region 17 with (fail)
  clear k4 j4 j5
  clear c0A c1A c2A c3A c4A c5A c0B c1B c2B c3B c4B c5B
  obtain ⟨s0, s1, s2, s3, s4, s5⟩ := cells6 (stor6 B_z (.int .i64 b0) (.int .i64 b1) (.int .i64 a2) (.int .i64 a3) (.bool false) (.bool false))
  have HF := stb6 HB (y := w.heap.size + 1 + 1 + 1) (by omega) 0 (.int .i64 b0) 1 (.int .i64 b1) 2 (.int .i64 a2) 3 (.int .i64 a3) 4 (.bool false) 5 (.bool false)
  obtain ⟨c0z, c1z, c2z, c3z, c4z, c5z⟩ := cells6 B_z
  obtain ⟨f0z, f1z, f2z, f3z, f4z, f5z⟩ := froz6 B_z
  obtain ⟨c0A, c1A, c2A, c3A, c4A, c5A⟩ := cells6 B_A
  go_wp2_with fail
  exact bodyPost_ret (v := .agg #[.int .i64 b0, .int .i64 b1, .int .i64 a2, .int .i64 a3, .bool false, .bool false]) (by simp [results, Try.results99, go_sem, s0, s1, s2, s3, s4, s5]) rfl ⟨rfl, nextw HF.out (by exact sm)⟩
end Go.Proofs.Ytkhcogfajihecaa
