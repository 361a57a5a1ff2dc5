/- the reference's rect. -/
import Derived.Test.YtpjbkadhmjlpfaaZ25
set_option linter.unusedVariables false
set_option linter.unusedSimpArgs false
namespace Go.Proofs.Ytpjbkadhmjlpfaa
open Go Go.RowKit Hd

theorem bd6_2 {a b c d : Int} (h1 : Wi a 65536) (h2 : Wi b 65536) (h3 : Wi c 65536) (h4 : Wi d 65536) : ∀ p ∈ [(a, b), (c, d)], Bd 65536 p := by
  intro p hp
  simp at hp
  rcases hp with rfl | rfl
  · exact ⟨h1, h2⟩
  · exact ⟨h3, h4⟩
theorem bd6_1 {a b : Int} (h1 : Wi a 65536) (h2 : Wi b 65536) : ∀ p ∈ [(a, b)], Bd 65536 p := by
  intro p hp
  simp at hp
  subst hp
  exact ⟨h1, h2⟩

set_option maxRecDepth 100000 in
set_option maxHeartbeats 4000000 in
theorem Rrect_w0 (x0 y0 x1 y1 : Int)  (hr : OkR x0 y0 x1 y1) (hw : x1 - x0 ≤ 65536) (hh : y1 - y0 ≤ 65536)  (w : World) :
    Calls Try.prog 59 #[.agg #[.int .i64 x0, .int .i64 y0, .int .i64 x1, .int .i64 y1]] w fun e w' => ∃ AC0 cC0, e = .returned (.agg #[.int .i64 (x0 + x1), .int .i64 (y0 + y1), .slice AC0 ((canL ([((x1 - x0), 0), (0, (y1 - y0))])).length) cC0]) ∧ PL w' w.heap.size w'.heap.size AC0 ((canL ([((x1 - x0), 0), (0, (y1 - y0))])).length) cC0 (canL ([((x1 - x0), 0), (0, (y1 - y0))])) ∧ Below w.heap.size w w' := by
  obtain ⟨⟨ra, rb⟩, ⟨rc, rd⟩, ⟨re, rf⟩, ⟨rg, rh⟩, ri, rj⟩ := (id hr : OkR x0 y0 x1 y1)
  obtain ⟨HB, B_z0, B_z1⟩ := box2 w 31 #[.int .i64 x0, .int .i64 y0, .int .i64 x1, .int .i64 y1] 24 #[.int .i64 0, .int .i64 0, .slice none 0 0]
  go_enter Try.func59, Try.ntmps59
  go_upto_region 1 with (fail)
  generalize (w.alloc (.cells #[.int .i64 x0, .int .i64 y0, .int .i64 x1, .int .i64 y1] 31)).alloc (.cells #[.int .i64 0, .int .i64 0, .slice none 0 0] 24) = W0 at *
  obtain ⟨c0z0, c1z0, c2z0, c3z0⟩ := cells4 B_z0
  have lt_z2z0 := B_z0.out.lt
  have lt_z2z1 := B_z1.out.lt
  obtain ⟨bb, B_z2⟩ := box1 W0 39 #[.int .i64 (x1 - x0), .int .i64 0, .int .i64 0, .int .i64 (y1 - y0)]
  replace bb := bb.out
  replace B_z0 := mv B_z0 bb
  replace B_z1 := mv B_z1 bb
  replace HB := nx HB bb
  clear bb
  go_wp2_with fail
  clear c0z0 c1z0 c2z0 c3z0
  generalize W0.alloc (.cells #[.int .i64 (x1 - x0), .int .i64 0, .int .i64 0, .int .i64 (y1 - y0)] 39) = WA1x6 at *
  have sp_z0_LC0 : Hid (w.heap.size < WA1x6.heap.size) := B_z0.out.lt
  have sp_z1_LC0 : Hid (w.heap.size + 1 < WA1x6.heap.size) := B_z1.out.lt
  have sp_z2_LC0 : Hid (W0.heap.size < WA1x6.heap.size) := B_z2.out.lt
  have lw_LC0 : Hid (w.heap.size ≤ WA1x6.heap.size) := HB.out.size
  refine (canon_is (x0 + x1) (y0 + y1) _ _ _ ([((x1 - x0), 0), (0, (y1 - y0))]) (by first | omega | decide) (bd6_2 ⟨by omega, by omega⟩ ⟨by omega, by omega⟩ ⟨by omega, by omega⟩ ⟨by omega, by omega⟩) _ (PL.below (pl_2 B_z2.out) (by exact sm))).mono ?_
  rintro e w1 ⟨AC0, cC0, rfl, LC0, bb⟩
  replace bb := nextw (w0 := WA1x6) (by exact sm) bb
  replace B_z0 := mv B_z0 bb
  replace B_z1 := mv B_z1 bb
  replace B_z2 := mv B_z2 bb
  replace HB := nx HB bb
  clear bb
  replace LC0 := Lib.hid LC0
  obtain ⟨s0, s1, s2⟩ := cells3 (stor3 B_z1 (.int .i64 (x0 + x1)) (.int .i64 (y0 + y1)) (.slice AC0 ((canL ([((x1 - x0), 0), (0, (y1 - y0))])).length) cC0))
  have HF := stb3 HB (y := w.heap.size + 1) (by omega) 0 (.int .i64 (x0 + x1)) 1 (.int .i64 (y0 + y1)) 2 (.slice AC0 ((canL ([((x1 - x0), 0), (0, (y1 - y0))])).length) cC0)
  obtain ⟨c0z1, c1z1, c2z1⟩ := cells3 B_z1
  obtain ⟨f0z1, f1z1, f2z1⟩ := froz3 B_z1
  go_wp2_with fail
  exact bodyPost_ret (v := .agg #[.int .i64 (x0 + x1), .int .i64 (y0 + y1), .slice AC0 ((canL ([((x1 - x0), 0), (0, (y1 - y0))])).length) cC0]) (by simp [results, Try.results59, go_sem, s0, s1, s2]) rfl ⟨AC0, cC0, rfl, PL.outw (PL.below (PL.set (PL.set (PL.set LC0.out (Or.inl sp_z1_LC0.out) 0 (.int .i64 (x0 + x1))) (Or.inl sp_z1_LC0.out) 1 (.int .i64 (y0 + y1))) (Or.inl sp_z1_LC0.out) 2 (.slice AC0 ((canL ([((x1 - x0), 0), (0, (y1 - y0))])).length) cC0)) (by exact sm)) lw_LC0.out, nextw HF.out (by exact sm)⟩

set_option maxRecDepth 100000 in
set_option maxHeartbeats 4000000 in
theorem ROfRect_w0 (x0 y0 x1 y1 : Int)   (dd0 : OkR x0 y0 x1 y1) (dd1 : 65536 < (x1 - x0)) (w : World) :
    Calls Try.prog 28 #[.agg #[.int .i64 x0, .int .i64 y0, .int .i64 x1, .int .i64 y1]] w fun e w' => e = .returned (.tuple #[.agg #[.int .i64 0, .int .i64 0, .slice none 0 0], .int .i64 1]) ∧ Below w.heap.size w w' := by
  have H0 := Lib.hid (fun w => ordered_is x0 y0 x1 y1 w)
  obtain ⟨⟨dd0a, dd0b⟩, ⟨dd0c, dd0d⟩, ⟨dd0e, dd0f⟩, ⟨dd0g, dd0h⟩, dd0i, dd0j⟩ := (id dd0 : OkR x0 y0 x1 y1)
  obtain ⟨HB, B_z0, B_z1⟩ := box2 w 31 #[.int .i64 x0, .int .i64 y0, .int .i64 x1, .int .i64 y1] 24 #[.int .i64 0, .int .i64 0, .slice none 0 0]
  go_enter Try.func28, Try.ntmps28
  go_upto_region 1 with (fail)
  generalize (w.alloc (.cells #[.int .i64 x0, .int .i64 y0, .int .i64 x1, .int .i64 y1] 31)).alloc (.cells #[.int .i64 0, .int .i64 0, .slice none 0 0] 24) = W0 at *
  obtain ⟨c0z0, c1z0, c2z0, c3z0⟩ := cells4 B_z0
  go_wp2_with fail
  refine (H0.out _).mono ?_
  clear c0z0 c1z0 c2z0 c3z0
  rintro e w1 ⟨rfl, bb⟩
  replace bb := nextw (w0 := W0) (by exact sm) bb
  replace B_z0 := mv B_z0 bb
  replace B_z1 := mv B_z1 bb
  replace HB := nx HB bb
  clear bb
  obtain ⟨c0z0, c1z0, c2z0, c3z0⟩ := cells4 B_z0
  obtain ⟨s0, s1, s2⟩ := cells3 (stor3 B_z1 (.int .i64 0) (.int .i64 0) (.slice none 0 0))
  have HF := stb3 HB (y := w.heap.size + 1) (by omega) 0 (.int .i64 0) 1 (.int .i64 0) 2 (.slice none 0 0)
  obtain ⟨c0z1, c1z1, c2z1⟩ := cells3 B_z1
  obtain ⟨f0z1, f1z1, f2z1⟩ := froz3 B_z1
  go_wp2_with fail
  exact bodyPost_ret (v := .tuple #[.agg #[.int .i64 0, .int .i64 0, .slice none 0 0], .int .i64 1]) (by simp [results, Try.results28, go_sem, s0, s1, s2]) rfl ⟨rfl, nextw HF.out (by exact sm)⟩

set_option maxRecDepth 100000 in
set_option maxHeartbeats 4000000 in
theorem ROfRect_w1 (x0 y0 x1 y1 : Int)   (dd0 : ¬ (OkR x0 y0 x1 y1)) (w : World) :
    Calls Try.prog 28 #[.agg #[.int .i64 x0, .int .i64 y0, .int .i64 x1, .int .i64 y1]] w fun e w' => e = .returned (.tuple #[.agg #[.int .i64 0, .int .i64 0, .slice none 0 0], .int .i64 1]) ∧ Below w.heap.size w w' := by
  have H0 := Lib.hid (fun w => ordered_is x0 y0 x1 y1 w)
  obtain ⟨HB, B_z0, B_z1⟩ := box2 w 31 #[.int .i64 x0, .int .i64 y0, .int .i64 x1, .int .i64 y1] 24 #[.int .i64 0, .int .i64 0, .slice none 0 0]
  go_enter Try.func28, Try.ntmps28
  go_upto_region 1 with (fail)
  generalize (w.alloc (.cells #[.int .i64 x0, .int .i64 y0, .int .i64 x1, .int .i64 y1] 31)).alloc (.cells #[.int .i64 0, .int .i64 0, .slice none 0 0] 24) = W0 at *
  obtain ⟨c0z0, c1z0, c2z0, c3z0⟩ := cells4 B_z0
  go_wp2_with fail
  refine (H0.out _).mono ?_
  clear c0z0 c1z0 c2z0 c3z0
  rintro e w1 ⟨rfl, bb⟩
  replace bb := nextw (w0 := W0) (by exact sm) bb
  replace B_z0 := mv B_z0 bb
  replace B_z1 := mv B_z1 bb
  replace HB := nx HB bb
  clear bb
  obtain ⟨s0, s1, s2⟩ := cells3 (stor3 B_z1 (.int .i64 0) (.int .i64 0) (.slice none 0 0))
  have HF := stb3 HB (y := w.heap.size + 1) (by omega) 0 (.int .i64 0) 1 (.int .i64 0) 2 (.slice none 0 0)
  obtain ⟨c0z1, c1z1, c2z1⟩ := cells3 B_z1
  obtain ⟨f0z1, f1z1, f2z1⟩ := froz3 B_z1
  go_wp2_with fail
  exact bodyPost_ret (v := .tuple #[.agg #[.int .i64 0, .int .i64 0, .slice none 0 0], .int .i64 1]) (by simp [results, Try.results28, go_sem, s0, s1, s2]) rfl ⟨rfl, nextw HF.out (by exact sm)⟩

set_option maxRecDepth 100000 in
set_option maxHeartbeats 4000000 in
theorem ROfRect_w2 (x0 y0 x1 y1 : Int)   (dd0 : OkR x0 y0 x1 y1) (dd1 : (x1 - x0) ≤ 65536) (dd2 : 65536 < (y1 - y0)) (w : World) :
    Calls Try.prog 28 #[.agg #[.int .i64 x0, .int .i64 y0, .int .i64 x1, .int .i64 y1]] w fun e w' => e = .returned (.tuple #[.agg #[.int .i64 0, .int .i64 0, .slice none 0 0], .int .i64 1]) ∧ Below w.heap.size w w' := by
  have H0 := Lib.hid (fun w => ordered_is x0 y0 x1 y1 w)
  obtain ⟨⟨dd0a, dd0b⟩, ⟨dd0c, dd0d⟩, ⟨dd0e, dd0f⟩, ⟨dd0g, dd0h⟩, dd0i, dd0j⟩ := (id dd0 : OkR x0 y0 x1 y1)
  obtain ⟨HB, B_z0, B_z1⟩ := box2 w 31 #[.int .i64 x0, .int .i64 y0, .int .i64 x1, .int .i64 y1] 24 #[.int .i64 0, .int .i64 0, .slice none 0 0]
  go_enter Try.func28, Try.ntmps28
  go_upto_region 1 with (fail)
  generalize (w.alloc (.cells #[.int .i64 x0, .int .i64 y0, .int .i64 x1, .int .i64 y1] 31)).alloc (.cells #[.int .i64 0, .int .i64 0, .slice none 0 0] 24) = W0 at *
  obtain ⟨c0z0, c1z0, c2z0, c3z0⟩ := cells4 B_z0
  go_wp2_with fail
  refine (H0.out _).mono ?_
  clear c0z0 c1z0 c2z0 c3z0
  rintro e w1 ⟨rfl, bb⟩
  replace bb := nextw (w0 := W0) (by exact sm) bb
  replace B_z0 := mv B_z0 bb
  replace B_z1 := mv B_z1 bb
  replace HB := nx HB bb
  clear bb
  obtain ⟨c0z0, c1z0, c2z0, c3z0⟩ := cells4 B_z0
  obtain ⟨s0, s1, s2⟩ := cells3 (stor3 B_z1 (.int .i64 0) (.int .i64 0) (.slice none 0 0))
  have HF := stb3 HB (y := w.heap.size + 1) (by omega) 0 (.int .i64 0) 1 (.int .i64 0) 2 (.slice none 0 0)
  obtain ⟨c0z1, c1z1, c2z1⟩ := cells3 B_z1
  obtain ⟨f0z1, f1z1, f2z1⟩ := froz3 B_z1
  go_wp2_with fail
  exact bodyPost_ret (v := .tuple #[.agg #[.int .i64 0, .int .i64 0, .slice none 0 0], .int .i64 1]) (by simp [results, Try.results28, go_sem, s0, s1, s2]) rfl ⟨rfl, nextw HF.out (by exact sm)⟩

set_option maxRecDepth 100000 in
set_option maxHeartbeats 4000000 in
theorem ROfRect_w3 (x0 y0 x1 y1 : Int)   (dd0 : OkR x0 y0 x1 y1) (dd1 : (x1 - x0) ≤ 65536) (dd2 : (y1 - y0) ≤ 65536) (w : World) :
    Calls Try.prog 28 #[.agg #[.int .i64 x0, .int .i64 y0, .int .i64 x1, .int .i64 y1]] w fun e w' => ∃ AC1 cC1, e = .returned (.tuple #[.agg #[.int .i64 (x0 + x1), .int .i64 (y0 + y1), .slice AC1 ((canL ([(x1 - x0, 0), (0, y1 - y0)])).length) cC1], .int .i64 0]) ∧ PL w' w.heap.size w'.heap.size AC1 ((canL ([(x1 - x0, 0), (0, y1 - y0)])).length) cC1 (canL ([(x1 - x0, 0), (0, y1 - y0)])) ∧ Below w.heap.size w w' := by
  have H0 := Lib.hid (fun w => ordered_is x0 y0 x1 y1 w)
  obtain ⟨⟨dd0a, dd0b⟩, ⟨dd0c, dd0d⟩, ⟨dd0e, dd0f⟩, ⟨dd0g, dd0h⟩, dd0i, dd0j⟩ := (id dd0 : OkR x0 y0 x1 y1)
  obtain ⟨HB, B_z0, B_z1⟩ := box2 w 31 #[.int .i64 x0, .int .i64 y0, .int .i64 x1, .int .i64 y1] 24 #[.int .i64 0, .int .i64 0, .slice none 0 0]
  go_enter Try.func28, Try.ntmps28
  go_upto_region 1 with (fail)
  generalize (w.alloc (.cells #[.int .i64 x0, .int .i64 y0, .int .i64 x1, .int .i64 y1] 31)).alloc (.cells #[.int .i64 0, .int .i64 0, .slice none 0 0] 24) = W0 at *
  obtain ⟨c0z0, c1z0, c2z0, c3z0⟩ := cells4 B_z0
  go_wp2_with fail
  refine (H0.out _).mono ?_
  clear c0z0 c1z0 c2z0 c3z0
  rintro e w1 ⟨rfl, bb⟩
  replace bb := nextw (w0 := W0) (by exact sm) bb
  replace B_z0 := mv B_z0 bb
  replace B_z1 := mv B_z1 bb
  replace HB := nx HB bb
  clear bb
  obtain ⟨c0z0, c1z0, c2z0, c3z0⟩ := cells4 B_z0
  have sp_z0_LC1 : Hid (w.heap.size < w1.heap.size) := B_z0.out.lt
  have sp_z1_LC1 : Hid (w.heap.size + 1 < w1.heap.size) := B_z1.out.lt
  have lw_LC1 : Hid (w.heap.size ≤ w1.heap.size) := HB.out.size
  go_wp2_with fail
  refine (Rrect_w0 x0 y0 x1 y1 dd0 dd1 dd2 _).mono ?_
  clear c0z0 c1z0 c2z0 c3z0
  rintro e w2 ⟨AC1, cC1, rfl, LC1, bb⟩
  replace bb := nextw (w0 := w1) (by exact sm) bb
  replace B_z0 := mv B_z0 bb
  replace B_z1 := mv B_z1 bb
  replace HB := nx HB bb
  clear bb
  replace LC1 := Lib.hid LC1
  obtain ⟨s0, s1, s2⟩ := cells3 (stor3 B_z1 (.int .i64 (x0 + x1)) (.int .i64 (y0 + y1)) (.slice AC1 ((canL ([(x1 - x0, 0), (0, y1 - y0)])).length) cC1))
  have HF := stb3 HB (y := w.heap.size + 1) (by omega) 0 (.int .i64 (x0 + x1)) 1 (.int .i64 (y0 + y1)) 2 (.slice AC1 ((canL ([(x1 - x0, 0), (0, y1 - y0)])).length) cC1)
  obtain ⟨c0z1, c1z1, c2z1⟩ := cells3 B_z1
  obtain ⟨f0z1, f1z1, f2z1⟩ := froz3 B_z1
  go_wp2_with fail
  exact bodyPost_ret (v := .tuple #[.agg #[.int .i64 (x0 + x1), .int .i64 (y0 + y1), .slice AC1 ((canL ([(x1 - x0, 0), (0, y1 - y0)])).length) cC1], .int .i64 0]) (by simp [results, Try.results28, go_sem, s0, s1, s2]) rfl ⟨AC1, cC1, rfl, PL.outw (PL.below (PL.set (PL.set (PL.set LC1.out (Or.inl sp_z1_LC1.out) 0 (.int .i64 (x0 + x1))) (Or.inl sp_z1_LC1.out) 1 (.int .i64 (y0 + y1))) (Or.inl sp_z1_LC1.out) 2 (.slice AC1 ((canL ([(x1 - x0, 0), (0, y1 - y0)])).length) cC1)) (by exact sm)) lw_LC1.out, nextw HF.out (by exact sm)⟩

set_option maxRecDepth 100000 in
set_option maxHeartbeats 4000000 in
theorem ROfSeg_w0 (a b c d : Int)   (dd0 : Wi a 2097152) (dd1 : Wi b 2097152) (dd2 : Wi c 2097152) (dd3 : Wi d 2097152) (dd4 : Wi (a - c) 65536) (dd5 : Wi (b - d) 65536) (w : World) :
    Calls Try.prog 30 #[.agg #[.int .i64 a, .int .i64 b], .agg #[.int .i64 c, .int .i64 d]] w fun e w' => ∃ AC6 cC6, e = .returned (.tuple #[.agg #[.int .i64 (a + c), .int .i64 (b + d), .slice AC6 ((canL ([((c - a), (d - b))])).length) cC6], .int .i64 0]) ∧ PL w' w.heap.size w'.heap.size AC6 ((canL ([((c - a), (d - b))])).length) cC6 (canL ([((c - a), (d - b))])) ∧ Below w.heap.size w w' := by
  have H0 := Lib.hid (fun w => Rwithin_is a 2097152 (by omega) w)
  have H1 := Lib.hid (fun w => Rwithin_is b 2097152 (by omega) w)
  have H2 := Lib.hid (fun w => Rwithin_is c 2097152 (by omega) w)
  have H3 := Lib.hid (fun w => Rwithin_is d 2097152 (by omega) w)
  have H4 := Lib.hid (fun w => Rwithin_is (a - c) 65536 (by omega) w)
  have H5 := Lib.hid (fun w => Rwithin_is (b - d) 65536 (by omega) w)
  have dd0x1 := dd0.1
  have dd0x2 := dd0.2
  have dd1x1 := dd1.1
  have dd1x2 := dd1.2
  have dd2x1 := dd2.1
  have dd2x2 := dd2.2
  have dd3x1 := dd3.1
  have dd3x2 := dd3.2
  have dd4x1 := dd4.1
  have dd4x2 := dd4.2
  have dd5x1 := dd5.1
  have dd5x2 := dd5.2
  obtain ⟨HB, B_z0, B_z1, B_z2⟩ := box3 w 39 #[.int .i64 a, .int .i64 b] 39 #[.int .i64 c, .int .i64 d] 24 #[.int .i64 0, .int .i64 0, .slice none 0 0]
  go_enter Try.func30, Try.ntmps30
  go_upto_region 1 with (fail)
  generalize ((w.alloc (.cells #[.int .i64 a, .int .i64 b] 39)).alloc (.cells #[.int .i64 c, .int .i64 d] 39)).alloc (.cells #[.int .i64 0, .int .i64 0, .slice none 0 0] 24) = W0 at *
  obtain ⟨c0z0, c1z0⟩ := cells2 B_z0
  go_wp2_with fail
  refine (H0.out _).mono ?_
  clear c0z0 c1z0
  rintro e w1 ⟨rfl, bb⟩
  replace bb := nextw (w0 := W0) (by exact sm) bb
  replace B_z0 := mv B_z0 bb
  replace B_z1 := mv B_z1 bb
  replace B_z2 := mv B_z2 bb
  replace HB := nx HB bb
  clear bb
  obtain ⟨c0z0, c1z0⟩ := cells2 B_z0
  go_wp2_with fail
  refine (H1.out _).mono ?_
  clear c0z0 c1z0
  rintro e w2 ⟨rfl, bb⟩
  replace bb := nextw (w0 := w1) (by exact sm) bb
  replace B_z0 := mv B_z0 bb
  replace B_z1 := mv B_z1 bb
  replace B_z2 := mv B_z2 bb
  replace HB := nx HB bb
  clear bb
  obtain ⟨c0z1, c1z1⟩ := cells2 B_z1
  go_wp2_with fail
  refine (H2.out _).mono ?_
  clear c0z1 c1z1
  rintro e w3 ⟨rfl, bb⟩
  replace bb := nextw (w0 := w2) (by exact sm) bb
  replace B_z0 := mv B_z0 bb
  replace B_z1 := mv B_z1 bb
  replace B_z2 := mv B_z2 bb
  replace HB := nx HB bb
  clear bb
  obtain ⟨c0z1, c1z1⟩ := cells2 B_z1
  go_wp2_with fail
  refine (H3.out _).mono ?_
  clear c0z1 c1z1
  rintro e w4 ⟨rfl, bb⟩
  replace bb := nextw (w0 := w3) (by exact sm) bb
  replace B_z0 := mv B_z0 bb
  replace B_z1 := mv B_z1 bb
  replace B_z2 := mv B_z2 bb
  replace HB := nx HB bb
  clear bb
  obtain ⟨c0z0, c1z0⟩ := cells2 B_z0
  obtain ⟨c0z1, c1z1⟩ := cells2 B_z1
  go_wp2_with fail
  refine (H4.out _).mono ?_
  clear c0z0 c1z0 c0z1 c1z1
  rintro e w5 ⟨rfl, bb⟩
  replace bb := nextw (w0 := w4) (by exact sm) bb
  replace B_z0 := mv B_z0 bb
  replace B_z1 := mv B_z1 bb
  replace B_z2 := mv B_z2 bb
  replace HB := nx HB bb
  clear bb
  obtain ⟨c0z0, c1z0⟩ := cells2 B_z0
  obtain ⟨c0z1, c1z1⟩ := cells2 B_z1
  go_wp2_with fail
  refine (H5.out _).mono ?_
  clear c0z0 c1z0 c0z1 c1z1
  rintro e w6 ⟨rfl, bb⟩
  replace bb := nextw (w0 := w5) (by exact sm) bb
  replace B_z0 := mv B_z0 bb
  replace B_z1 := mv B_z1 bb
  replace B_z2 := mv B_z2 bb
  replace HB := nx HB bb
  clear bb
  obtain ⟨c0z0, c1z0⟩ := cells2 B_z0
  obtain ⟨c0z1, c1z1⟩ := cells2 B_z1
  have lt_z3z0 := B_z0.out.lt
  have lt_z3z1 := B_z1.out.lt
  have lt_z3z2 := B_z2.out.lt
  obtain ⟨bb, B_z3⟩ := box1 w6 39 #[.int .i64 (c - a), .int .i64 (d - b)]
  replace bb := bb.out
  replace B_z0 := mv B_z0 bb
  replace B_z1 := mv B_z1 bb
  replace B_z2 := mv B_z2 bb
  replace HB := nx HB bb
  clear bb
  go_wp2_with fail
  clear c0z0 c1z0 c0z1 c1z1
  generalize w6.alloc (.cells #[.int .i64 (c - a), .int .i64 (d - b)] 39) = WA3x92 at *
  have sp_z0_LC6 : Hid (w.heap.size < WA3x92.heap.size) := B_z0.out.lt
  have sp_z1_LC6 : Hid (w.heap.size + 1 < WA3x92.heap.size) := B_z1.out.lt
  have sp_z2_LC6 : Hid (w.heap.size + 1 + 1 < WA3x92.heap.size) := B_z2.out.lt
  have sp_z3_LC6 : Hid (w6.heap.size < WA3x92.heap.size) := B_z3.out.lt
  have lw_LC6 : Hid (w.heap.size ≤ WA3x92.heap.size) := HB.out.size
  refine (canon_is (a + c) (b + d) _ _ _ ([((c - a), (d - b))]) (by first | omega | decide) (bd6_1 ⟨by omega, by omega⟩ ⟨by omega, by omega⟩) _ (PL.below (pl_1 B_z3.out) (by exact sm))).mono ?_
  rintro e w7 ⟨AC6, cC6, rfl, LC6, bb⟩
  replace bb := nextw (w0 := WA3x92) (by exact sm) bb
  replace B_z0 := mv B_z0 bb
  replace B_z1 := mv B_z1 bb
  replace B_z2 := mv B_z2 bb
  replace B_z3 := mv B_z3 bb
  replace HB := nx HB bb
  clear bb
  replace LC6 := Lib.hid LC6
  obtain ⟨s0, s1, s2⟩ := cells3 (stor3 B_z2 (.int .i64 (a + c)) (.int .i64 (b + d)) (.slice AC6 ((canL ([((c - a), (d - b))])).length) cC6))
  have HF := stb3 HB (y := w.heap.size + 1 + 1) (by omega) 0 (.int .i64 (a + c)) 1 (.int .i64 (b + d)) 2 (.slice AC6 ((canL ([((c - a), (d - b))])).length) cC6)
  obtain ⟨c0z2, c1z2, c2z2⟩ := cells3 B_z2
  obtain ⟨f0z2, f1z2, f2z2⟩ := froz3 B_z2
  go_wp2_with fail
  exact bodyPost_ret (v := .tuple #[.agg #[.int .i64 (a + c), .int .i64 (b + d), .slice AC6 ((canL ([((c - a), (d - b))])).length) cC6], .int .i64 0]) (by simp [results, Try.results30, go_sem, s0, s1, s2]) rfl ⟨AC6, cC6, rfl, PL.outw (PL.below (PL.set (PL.set (PL.set LC6.out (Or.inl sp_z2_LC6.out) 0 (.int .i64 (a + c))) (Or.inl sp_z2_LC6.out) 1 (.int .i64 (b + d))) (Or.inl sp_z2_LC6.out) 2 (.slice AC6 ((canL ([((c - a), (d - b))])).length) cC6)) (by exact sm)) lw_LC6.out, nextw HF.out (by exact sm)⟩

set_option maxRecDepth 100000 in
set_option maxHeartbeats 4000000 in
theorem ROfSeg_w1 (a b c d : Int)   (dd0 : ¬ (Wi a 2097152)) (w : World) :
    Calls Try.prog 30 #[.agg #[.int .i64 a, .int .i64 b], .agg #[.int .i64 c, .int .i64 d]] w fun e w' => e = .returned (.tuple #[.agg #[.int .i64 0, .int .i64 0, .slice none 0 0], .int .i64 1]) ∧ Below w.heap.size w w' := by
  have H0 := Lib.hid (fun w => Rwithin_is a 2097152 (by omega) w)
  obtain ⟨HB, B_z0, B_z1, B_z2⟩ := box3 w 39 #[.int .i64 a, .int .i64 b] 39 #[.int .i64 c, .int .i64 d] 24 #[.int .i64 0, .int .i64 0, .slice none 0 0]
  go_enter Try.func30, Try.ntmps30
  go_upto_region 1 with (fail)
  generalize ((w.alloc (.cells #[.int .i64 a, .int .i64 b] 39)).alloc (.cells #[.int .i64 c, .int .i64 d] 39)).alloc (.cells #[.int .i64 0, .int .i64 0, .slice none 0 0] 24) = W0 at *
  obtain ⟨c0z0, c1z0⟩ := cells2 B_z0
  go_wp2_with fail
  refine (H0.out _).mono ?_
  clear c0z0 c1z0
  rintro e w1 ⟨rfl, bb⟩
  replace bb := nextw (w0 := W0) (by exact sm) bb
  replace B_z0 := mv B_z0 bb
  replace B_z1 := mv B_z1 bb
  replace B_z2 := mv B_z2 bb
  replace HB := nx HB bb
  clear bb
  obtain ⟨s0, s1, s2⟩ := cells3 (stor3 B_z2 (.int .i64 0) (.int .i64 0) (.slice none 0 0))
  have HF := stb3 HB (y := w.heap.size + 1 + 1) (by omega) 0 (.int .i64 0) 1 (.int .i64 0) 2 (.slice none 0 0)
  obtain ⟨c0z2, c1z2, c2z2⟩ := cells3 B_z2
  obtain ⟨f0z2, f1z2, f2z2⟩ := froz3 B_z2
  go_wp2_with fail
  exact bodyPost_ret (v := .tuple #[.agg #[.int .i64 0, .int .i64 0, .slice none 0 0], .int .i64 1]) (by simp [results, Try.results30, go_sem, s0, s1, s2]) rfl ⟨rfl, nextw HF.out (by exact sm)⟩

set_option maxRecDepth 100000 in
set_option maxHeartbeats 4000000 in
theorem ROfSeg_w2 (a b c d : Int)   (dd0 : Wi a 2097152) (dd1 : ¬ (Wi b 2097152)) (w : World) :
    Calls Try.prog 30 #[.agg #[.int .i64 a, .int .i64 b], .agg #[.int .i64 c, .int .i64 d]] w fun e w' => e = .returned (.tuple #[.agg #[.int .i64 0, .int .i64 0, .slice none 0 0], .int .i64 1]) ∧ Below w.heap.size w w' := by
  have H0 := Lib.hid (fun w => Rwithin_is a 2097152 (by omega) w)
  have H1 := Lib.hid (fun w => Rwithin_is b 2097152 (by omega) w)
  have dd0x1 := dd0.1
  have dd0x2 := dd0.2
  obtain ⟨HB, B_z0, B_z1, B_z2⟩ := box3 w 39 #[.int .i64 a, .int .i64 b] 39 #[.int .i64 c, .int .i64 d] 24 #[.int .i64 0, .int .i64 0, .slice none 0 0]
  go_enter Try.func30, Try.ntmps30
  go_upto_region 1 with (fail)
  generalize ((w.alloc (.cells #[.int .i64 a, .int .i64 b] 39)).alloc (.cells #[.int .i64 c, .int .i64 d] 39)).alloc (.cells #[.int .i64 0, .int .i64 0, .slice none 0 0] 24) = W0 at *
  obtain ⟨c0z0, c1z0⟩ := cells2 B_z0
  go_wp2_with fail
  refine (H0.out _).mono ?_
  clear c0z0 c1z0
  rintro e w1 ⟨rfl, bb⟩
  replace bb := nextw (w0 := W0) (by exact sm) bb
  replace B_z0 := mv B_z0 bb
  replace B_z1 := mv B_z1 bb
  replace B_z2 := mv B_z2 bb
  replace HB := nx HB bb
  clear bb
  obtain ⟨c0z0, c1z0⟩ := cells2 B_z0
  go_wp2_with fail
  refine (H1.out _).mono ?_
  clear c0z0 c1z0
  rintro e w2 ⟨rfl, bb⟩
  replace bb := nextw (w0 := w1) (by exact sm) bb
  replace B_z0 := mv B_z0 bb
  replace B_z1 := mv B_z1 bb
  replace B_z2 := mv B_z2 bb
  replace HB := nx HB bb
  clear bb
  obtain ⟨s0, s1, s2⟩ := cells3 (stor3 B_z2 (.int .i64 0) (.int .i64 0) (.slice none 0 0))
  have HF := stb3 HB (y := w.heap.size + 1 + 1) (by omega) 0 (.int .i64 0) 1 (.int .i64 0) 2 (.slice none 0 0)
  obtain ⟨c0z2, c1z2, c2z2⟩ := cells3 B_z2
  obtain ⟨f0z2, f1z2, f2z2⟩ := froz3 B_z2
  go_wp2_with fail
  exact bodyPost_ret (v := .tuple #[.agg #[.int .i64 0, .int .i64 0, .slice none 0 0], .int .i64 1]) (by simp [results, Try.results30, go_sem, s0, s1, s2]) rfl ⟨rfl, nextw HF.out (by exact sm)⟩

set_option maxRecDepth 100000 in
set_option maxHeartbeats 4000000 in
theorem ROfSeg_w3 (a b c d : Int)   (dd0 : Wi a 2097152) (dd1 : Wi b 2097152) (dd2 : ¬ (Wi c 2097152)) (w : World) :
    Calls Try.prog 30 #[.agg #[.int .i64 a, .int .i64 b], .agg #[.int .i64 c, .int .i64 d]] w fun e w' => e = .returned (.tuple #[.agg #[.int .i64 0, .int .i64 0, .slice none 0 0], .int .i64 1]) ∧ Below w.heap.size w w' := by
  have H0 := Lib.hid (fun w => Rwithin_is a 2097152 (by omega) w)
  have H1 := Lib.hid (fun w => Rwithin_is b 2097152 (by omega) w)
  have H2 := Lib.hid (fun w => Rwithin_is c 2097152 (by omega) w)
  have dd0x1 := dd0.1
  have dd0x2 := dd0.2
  have dd1x1 := dd1.1
  have dd1x2 := dd1.2
  obtain ⟨HB, B_z0, B_z1, B_z2⟩ := box3 w 39 #[.int .i64 a, .int .i64 b] 39 #[.int .i64 c, .int .i64 d] 24 #[.int .i64 0, .int .i64 0, .slice none 0 0]
  go_enter Try.func30, Try.ntmps30
  go_upto_region 1 with (fail)
  generalize ((w.alloc (.cells #[.int .i64 a, .int .i64 b] 39)).alloc (.cells #[.int .i64 c, .int .i64 d] 39)).alloc (.cells #[.int .i64 0, .int .i64 0, .slice none 0 0] 24) = W0 at *
  obtain ⟨c0z0, c1z0⟩ := cells2 B_z0
  go_wp2_with fail
  refine (H0.out _).mono ?_
  clear c0z0 c1z0
  rintro e w1 ⟨rfl, bb⟩
  replace bb := nextw (w0 := W0) (by exact sm) bb
  replace B_z0 := mv B_z0 bb
  replace B_z1 := mv B_z1 bb
  replace B_z2 := mv B_z2 bb
  replace HB := nx HB bb
  clear bb
  obtain ⟨c0z0, c1z0⟩ := cells2 B_z0
  go_wp2_with fail
  refine (H1.out _).mono ?_
  clear c0z0 c1z0
  rintro e w2 ⟨rfl, bb⟩
  replace bb := nextw (w0 := w1) (by exact sm) bb
  replace B_z0 := mv B_z0 bb
  replace B_z1 := mv B_z1 bb
  replace B_z2 := mv B_z2 bb
  replace HB := nx HB bb
  clear bb
  obtain ⟨c0z1, c1z1⟩ := cells2 B_z1
  go_wp2_with fail
  refine (H2.out _).mono ?_
  clear c0z1 c1z1
  rintro e w3 ⟨rfl, bb⟩
  replace bb := nextw (w0 := w2) (by exact sm) bb
  replace B_z0 := mv B_z0 bb
  replace B_z1 := mv B_z1 bb
  replace B_z2 := mv B_z2 bb
  replace HB := nx HB bb
  clear bb
  obtain ⟨s0, s1, s2⟩ := cells3 (stor3 B_z2 (.int .i64 0) (.int .i64 0) (.slice none 0 0))
  have HF := stb3 HB (y := w.heap.size + 1 + 1) (by omega) 0 (.int .i64 0) 1 (.int .i64 0) 2 (.slice none 0 0)
  obtain ⟨c0z2, c1z2, c2z2⟩ := cells3 B_z2
  obtain ⟨f0z2, f1z2, f2z2⟩ := froz3 B_z2
  go_wp2_with fail
  exact bodyPost_ret (v := .tuple #[.agg #[.int .i64 0, .int .i64 0, .slice none 0 0], .int .i64 1]) (by simp [results, Try.results30, go_sem, s0, s1, s2]) rfl ⟨rfl, nextw HF.out (by exact sm)⟩

set_option maxRecDepth 100000 in
set_option maxHeartbeats 4000000 in
theorem ROfSeg_w4 (a b c d : Int)   (dd0 : Wi a 2097152) (dd1 : Wi b 2097152) (dd2 : Wi c 2097152) (dd3 : ¬ (Wi d 2097152)) (w : World) :
    Calls Try.prog 30 #[.agg #[.int .i64 a, .int .i64 b], .agg #[.int .i64 c, .int .i64 d]] w fun e w' => e = .returned (.tuple #[.agg #[.int .i64 0, .int .i64 0, .slice none 0 0], .int .i64 1]) ∧ Below w.heap.size w w' := by
  have H0 := Lib.hid (fun w => Rwithin_is a 2097152 (by omega) w)
  have H1 := Lib.hid (fun w => Rwithin_is b 2097152 (by omega) w)
  have H2 := Lib.hid (fun w => Rwithin_is c 2097152 (by omega) w)
  have H3 := Lib.hid (fun w => Rwithin_is d 2097152 (by omega) w)
  have dd0x1 := dd0.1
  have dd0x2 := dd0.2
  have dd1x1 := dd1.1
  have dd1x2 := dd1.2
  have dd2x1 := dd2.1
  have dd2x2 := dd2.2
  obtain ⟨HB, B_z0, B_z1, B_z2⟩ := box3 w 39 #[.int .i64 a, .int .i64 b] 39 #[.int .i64 c, .int .i64 d] 24 #[.int .i64 0, .int .i64 0, .slice none 0 0]
  go_enter Try.func30, Try.ntmps30
  go_upto_region 1 with (fail)
  generalize ((w.alloc (.cells #[.int .i64 a, .int .i64 b] 39)).alloc (.cells #[.int .i64 c, .int .i64 d] 39)).alloc (.cells #[.int .i64 0, .int .i64 0, .slice none 0 0] 24) = W0 at *
  obtain ⟨c0z0, c1z0⟩ := cells2 B_z0
  go_wp2_with fail
  refine (H0.out _).mono ?_
  clear c0z0 c1z0
  rintro e w1 ⟨rfl, bb⟩
  replace bb := nextw (w0 := W0) (by exact sm) bb
  replace B_z0 := mv B_z0 bb
  replace B_z1 := mv B_z1 bb
  replace B_z2 := mv B_z2 bb
  replace HB := nx HB bb
  clear bb
  obtain ⟨c0z0, c1z0⟩ := cells2 B_z0
  go_wp2_with fail
  refine (H1.out _).mono ?_
  clear c0z0 c1z0
  rintro e w2 ⟨rfl, bb⟩
  replace bb := nextw (w0 := w1) (by exact sm) bb
  replace B_z0 := mv B_z0 bb
  replace B_z1 := mv B_z1 bb
  replace B_z2 := mv B_z2 bb
  replace HB := nx HB bb
  clear bb
  obtain ⟨c0z1, c1z1⟩ := cells2 B_z1
  go_wp2_with fail
  refine (H2.out _).mono ?_
  clear c0z1 c1z1
  rintro e w3 ⟨rfl, bb⟩
  replace bb := nextw (w0 := w2) (by exact sm) bb
  replace B_z0 := mv B_z0 bb
  replace B_z1 := mv B_z1 bb
  replace B_z2 := mv B_z2 bb
  replace HB := nx HB bb
  clear bb
  obtain ⟨c0z1, c1z1⟩ := cells2 B_z1
  go_wp2_with fail
  refine (H3.out _).mono ?_
  clear c0z1 c1z1
  rintro e w4 ⟨rfl, bb⟩
  replace bb := nextw (w0 := w3) (by exact sm) bb
  replace B_z0 := mv B_z0 bb
  replace B_z1 := mv B_z1 bb
  replace B_z2 := mv B_z2 bb
  replace HB := nx HB bb
  clear bb
  obtain ⟨s0, s1, s2⟩ := cells3 (stor3 B_z2 (.int .i64 0) (.int .i64 0) (.slice none 0 0))
  have HF := stb3 HB (y := w.heap.size + 1 + 1) (by omega) 0 (.int .i64 0) 1 (.int .i64 0) 2 (.slice none 0 0)
  obtain ⟨c0z2, c1z2, c2z2⟩ := cells3 B_z2
  obtain ⟨f0z2, f1z2, f2z2⟩ := froz3 B_z2
  go_wp2_with fail
  exact bodyPost_ret (v := .tuple #[.agg #[.int .i64 0, .int .i64 0, .slice none 0 0], .int .i64 1]) (by simp [results, Try.results30, go_sem, s0, s1, s2]) rfl ⟨rfl, nextw HF.out (by exact sm)⟩

set_option maxRecDepth 100000 in
set_option maxHeartbeats 4000000 in
theorem ROfSeg_w5 (a b c d : Int)   (dd0 : Wi a 2097152) (dd1 : Wi b 2097152) (dd2 : Wi c 2097152) (dd3 : Wi d 2097152) (dd4 : ¬ (Wi (a - c) 65536)) (w : World) :
    Calls Try.prog 30 #[.agg #[.int .i64 a, .int .i64 b], .agg #[.int .i64 c, .int .i64 d]] w fun e w' => e = .returned (.tuple #[.agg #[.int .i64 0, .int .i64 0, .slice none 0 0], .int .i64 1]) ∧ Below w.heap.size w w' := by
  have H0 := Lib.hid (fun w => Rwithin_is a 2097152 (by omega) w)
  have H1 := Lib.hid (fun w => Rwithin_is b 2097152 (by omega) w)
  have H2 := Lib.hid (fun w => Rwithin_is c 2097152 (by omega) w)
  have H3 := Lib.hid (fun w => Rwithin_is d 2097152 (by omega) w)
  have H4 := Lib.hid (fun w => Rwithin_is (a - c) 65536 (by omega) w)
  have dd0x1 := dd0.1
  have dd0x2 := dd0.2
  have dd1x1 := dd1.1
  have dd1x2 := dd1.2
  have dd2x1 := dd2.1
  have dd2x2 := dd2.2
  have dd3x1 := dd3.1
  have dd3x2 := dd3.2
  obtain ⟨HB, B_z0, B_z1, B_z2⟩ := box3 w 39 #[.int .i64 a, .int .i64 b] 39 #[.int .i64 c, .int .i64 d] 24 #[.int .i64 0, .int .i64 0, .slice none 0 0]
  go_enter Try.func30, Try.ntmps30
  go_upto_region 1 with (fail)
  generalize ((w.alloc (.cells #[.int .i64 a, .int .i64 b] 39)).alloc (.cells #[.int .i64 c, .int .i64 d] 39)).alloc (.cells #[.int .i64 0, .int .i64 0, .slice none 0 0] 24) = W0 at *
  obtain ⟨c0z0, c1z0⟩ := cells2 B_z0
  go_wp2_with fail
  refine (H0.out _).mono ?_
  clear c0z0 c1z0
  rintro e w1 ⟨rfl, bb⟩
  replace bb := nextw (w0 := W0) (by exact sm) bb
  replace B_z0 := mv B_z0 bb
  replace B_z1 := mv B_z1 bb
  replace B_z2 := mv B_z2 bb
  replace HB := nx HB bb
  clear bb
  obtain ⟨c0z0, c1z0⟩ := cells2 B_z0
  go_wp2_with fail
  refine (H1.out _).mono ?_
  clear c0z0 c1z0
  rintro e w2 ⟨rfl, bb⟩
  replace bb := nextw (w0 := w1) (by exact sm) bb
  replace B_z0 := mv B_z0 bb
  replace B_z1 := mv B_z1 bb
  replace B_z2 := mv B_z2 bb
  replace HB := nx HB bb
  clear bb
  obtain ⟨c0z1, c1z1⟩ := cells2 B_z1
  go_wp2_with fail
  refine (H2.out _).mono ?_
  clear c0z1 c1z1
  rintro e w3 ⟨rfl, bb⟩
  replace bb := nextw (w0 := w2) (by exact sm) bb
  replace B_z0 := mv B_z0 bb
  replace B_z1 := mv B_z1 bb
  replace B_z2 := mv B_z2 bb
  replace HB := nx HB bb
  clear bb
  obtain ⟨c0z1, c1z1⟩ := cells2 B_z1
  go_wp2_with fail
  refine (H3.out _).mono ?_
  clear c0z1 c1z1
  rintro e w4 ⟨rfl, bb⟩
  replace bb := nextw (w0 := w3) (by exact sm) bb
  replace B_z0 := mv B_z0 bb
  replace B_z1 := mv B_z1 bb
  replace B_z2 := mv B_z2 bb
  replace HB := nx HB bb
  clear bb
  obtain ⟨c0z0, c1z0⟩ := cells2 B_z0
  obtain ⟨c0z1, c1z1⟩ := cells2 B_z1
  go_wp2_with fail
  refine (H4.out _).mono ?_
  clear c0z0 c1z0 c0z1 c1z1
  rintro e w5 ⟨rfl, bb⟩
  replace bb := nextw (w0 := w4) (by exact sm) bb
  replace B_z0 := mv B_z0 bb
  replace B_z1 := mv B_z1 bb
  replace B_z2 := mv B_z2 bb
  replace HB := nx HB bb
  clear bb
  obtain ⟨s0, s1, s2⟩ := cells3 (stor3 B_z2 (.int .i64 0) (.int .i64 0) (.slice none 0 0))
  have HF := stb3 HB (y := w.heap.size + 1 + 1) (by omega) 0 (.int .i64 0) 1 (.int .i64 0) 2 (.slice none 0 0)
  obtain ⟨c0z2, c1z2, c2z2⟩ := cells3 B_z2
  obtain ⟨f0z2, f1z2, f2z2⟩ := froz3 B_z2
  go_wp2_with fail
  exact bodyPost_ret (v := .tuple #[.agg #[.int .i64 0, .int .i64 0, .slice none 0 0], .int .i64 1]) (by simp [results, Try.results30, go_sem, s0, s1, s2]) rfl ⟨rfl, nextw HF.out (by exact sm)⟩

set_option maxRecDepth 100000 in
set_option maxHeartbeats 4000000 in
theorem ROfSeg_w6 (a b c d : Int)   (dd0 : Wi a 2097152) (dd1 : Wi b 2097152) (dd2 : Wi c 2097152) (dd3 : Wi d 2097152) (dd4 : Wi (a - c) 65536) (dd5 : ¬ (Wi (b - d) 65536)) (w : World) :
    Calls Try.prog 30 #[.agg #[.int .i64 a, .int .i64 b], .agg #[.int .i64 c, .int .i64 d]] w fun e w' => e = .returned (.tuple #[.agg #[.int .i64 0, .int .i64 0, .slice none 0 0], .int .i64 1]) ∧ Below w.heap.size w w' := by
  have H0 := Lib.hid (fun w => Rwithin_is a 2097152 (by omega) w)
  have H1 := Lib.hid (fun w => Rwithin_is b 2097152 (by omega) w)
  have H2 := Lib.hid (fun w => Rwithin_is c 2097152 (by omega) w)
  have H3 := Lib.hid (fun w => Rwithin_is d 2097152 (by omega) w)
  have H4 := Lib.hid (fun w => Rwithin_is (a - c) 65536 (by omega) w)
  have H5 := Lib.hid (fun w => Rwithin_is (b - d) 65536 (by omega) w)
  have dd0x1 := dd0.1
  have dd0x2 := dd0.2
  have dd1x1 := dd1.1
  have dd1x2 := dd1.2
  have dd2x1 := dd2.1
  have dd2x2 := dd2.2
  have dd3x1 := dd3.1
  have dd3x2 := dd3.2
  have dd4x1 := dd4.1
  have dd4x2 := dd4.2
  obtain ⟨HB, B_z0, B_z1, B_z2⟩ := box3 w 39 #[.int .i64 a, .int .i64 b] 39 #[.int .i64 c, .int .i64 d] 24 #[.int .i64 0, .int .i64 0, .slice none 0 0]
  go_enter Try.func30, Try.ntmps30
  go_upto_region 1 with (fail)
  generalize ((w.alloc (.cells #[.int .i64 a, .int .i64 b] 39)).alloc (.cells #[.int .i64 c, .int .i64 d] 39)).alloc (.cells #[.int .i64 0, .int .i64 0, .slice none 0 0] 24) = W0 at *
  obtain ⟨c0z0, c1z0⟩ := cells2 B_z0
  go_wp2_with fail
  refine (H0.out _).mono ?_
  clear c0z0 c1z0
  rintro e w1 ⟨rfl, bb⟩
  replace bb := nextw (w0 := W0) (by exact sm) bb
  replace B_z0 := mv B_z0 bb
  replace B_z1 := mv B_z1 bb
  replace B_z2 := mv B_z2 bb
  replace HB := nx HB bb
  clear bb
  obtain ⟨c0z0, c1z0⟩ := cells2 B_z0
  go_wp2_with fail
  refine (H1.out _).mono ?_
  clear c0z0 c1z0
  rintro e w2 ⟨rfl, bb⟩
  replace bb := nextw (w0 := w1) (by exact sm) bb
  replace B_z0 := mv B_z0 bb
  replace B_z1 := mv B_z1 bb
  replace B_z2 := mv B_z2 bb
  replace HB := nx HB bb
  clear bb
  obtain ⟨c0z1, c1z1⟩ := cells2 B_z1
  go_wp2_with fail
  refine (H2.out _).mono ?_
  clear c0z1 c1z1
  rintro e w3 ⟨rfl, bb⟩
  replace bb := nextw (w0 := w2) (by exact sm) bb
  replace B_z0 := mv B_z0 bb
  replace B_z1 := mv B_z1 bb
  replace B_z2 := mv B_z2 bb
  replace HB := nx HB bb
  clear bb
  obtain ⟨c0z1, c1z1⟩ := cells2 B_z1
  go_wp2_with fail
  refine (H3.out _).mono ?_
  clear c0z1 c1z1
  rintro e w4 ⟨rfl, bb⟩
  replace bb := nextw (w0 := w3) (by exact sm) bb
  replace B_z0 := mv B_z0 bb
  replace B_z1 := mv B_z1 bb
  replace B_z2 := mv B_z2 bb
  replace HB := nx HB bb
  clear bb
  obtain ⟨c0z0, c1z0⟩ := cells2 B_z0
  obtain ⟨c0z1, c1z1⟩ := cells2 B_z1
  go_wp2_with fail
  refine (H4.out _).mono ?_
  clear c0z0 c1z0 c0z1 c1z1
  rintro e w5 ⟨rfl, bb⟩
  replace bb := nextw (w0 := w4) (by exact sm) bb
  replace B_z0 := mv B_z0 bb
  replace B_z1 := mv B_z1 bb
  replace B_z2 := mv B_z2 bb
  replace HB := nx HB bb
  clear bb
  obtain ⟨c0z0, c1z0⟩ := cells2 B_z0
  obtain ⟨c0z1, c1z1⟩ := cells2 B_z1
  go_wp2_with fail
  refine (H5.out _).mono ?_
  clear c0z0 c1z0 c0z1 c1z1
  rintro e w6 ⟨rfl, bb⟩
  replace bb := nextw (w0 := w5) (by exact sm) bb
  replace B_z0 := mv B_z0 bb
  replace B_z1 := mv B_z1 bb
  replace B_z2 := mv B_z2 bb
  replace HB := nx HB bb
  clear bb
  obtain ⟨s0, s1, s2⟩ := cells3 (stor3 B_z2 (.int .i64 0) (.int .i64 0) (.slice none 0 0))
  have HF := stb3 HB (y := w.heap.size + 1 + 1) (by omega) 0 (.int .i64 0) 1 (.int .i64 0) 2 (.slice none 0 0)
  obtain ⟨c0z2, c1z2, c2z2⟩ := cells3 B_z2
  obtain ⟨f0z2, f1z2, f2z2⟩ := froz3 B_z2
  go_wp2_with fail
  exact bodyPost_ret (v := .tuple #[.agg #[.int .i64 0, .int .i64 0, .slice none 0 0], .int .i64 1]) (by simp [results, Try.results30, go_sem, s0, s1, s2]) rfl ⟨rfl, nextw HF.out (by exact sm)⟩
end Go.Proofs.Ytpjbkadhmjlpfaa
