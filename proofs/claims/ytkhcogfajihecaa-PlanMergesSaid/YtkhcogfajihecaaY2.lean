/- plan's runs, squares, cells of points. -/
import Derived.Test.YtkhcogfajihecaaY1
set_option linter.unusedVariables false
set_option linter.unusedSimpArgs false
namespace Go.Proofs.Ytkhcogfajihecaa
open Go Go.RowKit Hd

set_option maxRecDepth 100000 in
set_option maxHeartbeats 4000000 in
theorem runOf_w0 (lo hi d : Int)  (hl : Wi lo 288230376151711744) (hh : Wi hi 288230376151711744) (hd : 0 < d ∧ d ≤ 1073741824)  (w : World) :
    Calls Try.prog 71 #[.int .i64 lo, .int .i64 hi, .int .i64 d] w fun e w' => e = .returned (.agg #[.int .i64 ((-(fl (-lo) (64 * d))) - 1), .int .i64 (fl hi (64 * d))]) ∧ Below w.heap.size w w' := by
  have hl1 := hl.1
  have hl2 := hl.2
  have hh1 := hh.1
  have hh2 := hh.2
  have hd1 := hd.1
  have hd2 := hd.2
  have hf1 := fdiv_bd (n := -lo) (d := 64 * d) (M := 288230376151711744) ⟨by omega, by omega⟩ (by omega)
  have hf2 := fdiv_bd (n := hi) (d := 64 * d) (M := 288230376151711744) ⟨by omega, by omega⟩ (by omega)
  obtain ⟨hf11, hf12⟩ := hf1
  obtain ⟨hf21, hf22⟩ := hf2
  have H0 := Lib.hid (fun w => floor_is (-lo) (64 * d) ⟨by omega, by omega⟩ ⟨by omega, by omega⟩ w)
  have H1 := Lib.hid (fun w => floor_is hi (64 * d) ⟨by omega, by omega⟩ ⟨by omega, by omega⟩ w)
  obtain ⟨HB, B_z0⟩ := box1 w 91 #[.int .i64 0, .int .i64 0]
  go_enter Try.func71, Try.ntmps71
  go_upto_region 1 with (fail)
  generalize w.alloc (.cells #[.int .i64 0, .int .i64 0] 91) = W0 at *
  go_wp2_with fail
  refine (H0.out _).mono ?_
  rintro e w1 ⟨rfl, bb⟩
  replace bb := nextw (w0 := W0) (by exact sm) bb
  replace B_z0 := mv B_z0 bb
  replace HB := nx HB bb
  clear bb
  go_wp2_with fail
  refine (H1.out _).mono ?_
  rintro e w2 ⟨rfl, bb⟩
  replace bb := nextw (w0 := w1) (by exact sm) bb
  replace B_z0 := mv B_z0 bb
  replace HB := nx HB bb
  clear bb
  obtain ⟨s0, s1⟩ := cells2 (stor2 B_z0 (.int .i64 ((-(fl (-lo) (64 * d))) - 1)) (.int .i64 (fl hi (64 * d))))
  have HF := stb2 HB (y := w.heap.size) (by omega) 0 (.int .i64 ((-(fl (-lo) (64 * d))) - 1)) 1 (.int .i64 (fl hi (64 * d)))
  obtain ⟨c0z0, c1z0⟩ := cells2 B_z0
  obtain ⟨f0z0, f1z0⟩ := froz2 B_z0
  go_wp2_with fail
  exact bodyPost_ret (v := .agg #[.int .i64 ((-(fl (-lo) (64 * d))) - 1), .int .i64 (fl hi (64 * d))]) (by simp [results, Try.results71, go_sem, s0, s1]) rfl ⟨rfl, nextw HF.out (by exact sm)⟩

def runOfV (lo hi d : Int) : Value := .agg #[.int .i64 ((-(fl (-lo) (64 * d))) - 1), .int .i64 (fl hi (64 * d))]
theorem runOf_any (lo hi d : Int) (hl : Wi lo 288230376151711744) (hh : Wi hi 288230376151711744) (hd : 0 < d ∧ d ≤ 1073741824) (w : World) :
    Calls Try.prog 71 #[.int .i64 lo, .int .i64 hi, .int .i64 d] w fun e w' => e = .returned (runOfV lo hi d) ∧ Below w.heap.size w w' := by
  unfold runOfV
  exact runOf_w0 lo hi d   hl hh hd  w 

set_option maxRecDepth 100000 in
set_option maxHeartbeats 4000000 in
theorem length_w0 (a b : Int)  (ha : Wi a 1152921504606846976) (hb : Wi b 1152921504606846976)  (w : World) :
    Calls Try.prog 72 #[.agg #[.int .i64 a, .int .i64 b]] w fun e w' => e = .returned (.int .i64 ((b - a) + 1)) ∧ Below w.heap.size w w' := by
  have ha1 := ha.1
  have ha2 := ha.2
  have hb1 := hb.1
  have hb2 := hb.2
  obtain ⟨HB, B_z0⟩ := box1 w 91 #[.int .i64 a, .int .i64 b]
  go_enter Try.func72, Try.ntmps72
  go_upto_region 1 with (fail)
  generalize w.alloc (.cells #[.int .i64 a, .int .i64 b] 91) = W0 at *
  obtain ⟨c0z0, c1z0⟩ := cells2 B_z0
  go_wp2
  go_ret
  exact ⟨(by first | rfl | exact rbt (by omega) | exact rbf (by omega)), nextw HB.out (by exact sm)⟩

def lengthV (a b : Int) : Value := .int .i64 ((b - a) + 1)
theorem length_any (a b : Int) (ha : Wi a 1152921504606846976) (hb : Wi b 1152921504606846976) (w : World) :
    Calls Try.prog 72 #[.agg #[.int .i64 a, .int .i64 b]] w fun e w' => e = .returned (lengthV a b) ∧ Below w.heap.size w w' := by
  unfold lengthV
  exact length_w0 a b   ha hb  w 

set_option maxRecDepth 100000 in
set_option maxHeartbeats 4000000 in
theorem Square_w0 (a b : Int)   (dd0 : Wi a 16384) (dd1 : Wi b 16384) (w : World) :
    Calls Try.prog 31 #[.agg #[.int .i64 a, .int .i64 b]] w fun e w' => e = .returned (.tuple #[.agg #[.int .i64 (64 * a), .int .i64 (64 * b), .int .i64 ((64 * a) + 64), .int .i64 ((64 * b) + 64)], .bool true]) ∧ Below w.heap.size w w' := by
  have H0 := Lib.hid (fun w => within_is a 16384 (by omega) w)
  have H1 := Lib.hid (fun w => within_is b 16384 (by omega) w)
  have dd0x1 := dd0.1
  have dd0x2 := dd0.2
  have dd1x1 := dd1.1
  have dd1x2 := dd1.2
  obtain ⟨HB, B_z0, B_z1⟩ := box2 w 37 #[.int .i64 a, .int .i64 b] 45 #[.int .i64 0, .int .i64 0, .int .i64 0, .int .i64 0]
  go_enter Try.func31, Try.ntmps31
  go_upto_region 1 with (fail)
  generalize (w.alloc (.cells #[.int .i64 a, .int .i64 b] 37)).alloc (.cells #[.int .i64 0, .int .i64 0, .int .i64 0, .int .i64 0] 45) = W0 at *
  obtain ⟨c0z0, c1z0⟩ := cells2 B_z0
  go_wp2_with fail
  refine (H0.out _).mono ?_
  clear c0z0 c1z0
  rintro e w1 ⟨rfl, bb⟩
  replace bb := nextw (w0 := W0) (by exact sm) bb
  replace B_z0 := mv B_z0 bb
  replace B_z1 := mv B_z1 bb
  replace HB := nx HB bb
  clear bb
  obtain ⟨c0z0, c1z0⟩ := cells2 B_z0
  go_wp2_with fail
  refine (H1.out _).mono ?_
  clear c0z0 c1z0
  rintro e w2 ⟨rfl, bb⟩
  replace bb := nextw (w0 := w1) (by exact sm) bb
  replace B_z0 := mv B_z0 bb
  replace B_z1 := mv B_z1 bb
  replace HB := nx HB bb
  clear bb
  go_upto_region 3 with (fail)
  have wq3x0 : IntKind.i64.wrap (64 * a) = 64 * a := by rw [IntKind.wrap_i64]; omega
  have wq3x1 : IntKind.i64.wrap (64 * b) = 64 * b := by rw [IntKind.wrap_i64]; omega
  obtain ⟨c0z0, c1z0⟩ := cells2 B_z0
  go_quiet (fail)
  clear c0z0 c1z0
  have bb : Below w2.heap.size w2 (w2.drewN nq) := bel_drewN (Below.refl _ _) _
  generalize w2.drewN nq = w3q at *
  replace B_z0 := mv B_z0 bb
  replace B_z1 := mv B_z1 bb
  replace HB := nx HB bb
  clear bb
  obtain ⟨s0, s1, s2, s3⟩ := cells4 (stor4 B_z1 (.int .i64 (64 * a)) (.int .i64 (64 * b)) (.int .i64 ((64 * a) + 64)) (.int .i64 ((64 * b) + 64)))
  have HF := stb4 HB (y := w.heap.size + 1) (by omega) 0 (.int .i64 (64 * a)) 1 (.int .i64 (64 * b)) 2 (.int .i64 ((64 * a) + 64)) 3 (.int .i64 ((64 * b) + 64))
  obtain ⟨c0z1, c1z1, c2z1, c3z1⟩ := cells4 B_z1
  obtain ⟨f0z1, f1z1, f2z1, f3z1⟩ := froz4 B_z1
  go_wp2_with fail
  exact bodyPost_ret (v := .tuple #[.agg #[.int .i64 (64 * a), .int .i64 (64 * b), .int .i64 ((64 * a) + 64), .int .i64 ((64 * b) + 64)], .bool true]) (by simp [results, Try.results31, go_sem, s0, s1, s2, s3]) rfl ⟨rfl, nextw HF.out (by exact sm)⟩

set_option maxRecDepth 100000 in
set_option maxHeartbeats 4000000 in
theorem Square_w1 (a b : Int)   (dd0 : ¬ (Wi a 16384)) (w : World) :
    Calls Try.prog 31 #[.agg #[.int .i64 a, .int .i64 b]] w fun e w' => e = .returned (.tuple #[.agg #[.int .i64 0, .int .i64 0, .int .i64 0, .int .i64 0], .bool false]) ∧ Below w.heap.size w w' := by
  have H0 := Lib.hid (fun w => within_is a 16384 (by omega) w)
  obtain ⟨HB, B_z0, B_z1⟩ := box2 w 37 #[.int .i64 a, .int .i64 b] 45 #[.int .i64 0, .int .i64 0, .int .i64 0, .int .i64 0]
  go_enter Try.func31, Try.ntmps31
  go_upto_region 1 with (fail)
  generalize (w.alloc (.cells #[.int .i64 a, .int .i64 b] 37)).alloc (.cells #[.int .i64 0, .int .i64 0, .int .i64 0, .int .i64 0] 45) = W0 at *
  obtain ⟨c0z0, c1z0⟩ := cells2 B_z0
  go_wp2_with fail
  refine (H0.out _).mono ?_
  clear c0z0 c1z0
  rintro e w1 ⟨rfl, bb⟩
  replace bb := nextw (w0 := W0) (by exact sm) bb
  replace B_z0 := mv B_z0 bb
  replace B_z1 := mv B_z1 bb
  replace HB := nx HB bb
  clear bb
  obtain ⟨s0, s1, s2, s3⟩ := cells4 (stor4 B_z1 (.int .i64 0) (.int .i64 0) (.int .i64 0) (.int .i64 0))
  have HF := stb4 HB (y := w.heap.size + 1) (by omega) 0 (.int .i64 0) 1 (.int .i64 0) 2 (.int .i64 0) 3 (.int .i64 0)
  obtain ⟨c0z1, c1z1, c2z1, c3z1⟩ := cells4 B_z1
  obtain ⟨f0z1, f1z1, f2z1, f3z1⟩ := froz4 B_z1
  go_wp2_with fail
  exact bodyPost_ret (v := .tuple #[.agg #[.int .i64 0, .int .i64 0, .int .i64 0, .int .i64 0], .bool false]) (by simp [results, Try.results31, go_sem, s0, s1, s2, s3]) rfl ⟨rfl, nextw HF.out (by exact sm)⟩

set_option maxRecDepth 100000 in
set_option maxHeartbeats 4000000 in
theorem Square_w2 (a b : Int)   (dd0 : Wi a 16384) (dd1 : ¬ (Wi b 16384)) (w : World) :
    Calls Try.prog 31 #[.agg #[.int .i64 a, .int .i64 b]] w fun e w' => e = .returned (.tuple #[.agg #[.int .i64 0, .int .i64 0, .int .i64 0, .int .i64 0], .bool false]) ∧ Below w.heap.size w w' := by
  have H0 := Lib.hid (fun w => within_is a 16384 (by omega) w)
  have H1 := Lib.hid (fun w => within_is b 16384 (by omega) w)
  have dd0x1 := dd0.1
  have dd0x2 := dd0.2
  obtain ⟨HB, B_z0, B_z1⟩ := box2 w 37 #[.int .i64 a, .int .i64 b] 45 #[.int .i64 0, .int .i64 0, .int .i64 0, .int .i64 0]
  go_enter Try.func31, Try.ntmps31
  go_upto_region 1 with (fail)
  generalize (w.alloc (.cells #[.int .i64 a, .int .i64 b] 37)).alloc (.cells #[.int .i64 0, .int .i64 0, .int .i64 0, .int .i64 0] 45) = W0 at *
  obtain ⟨c0z0, c1z0⟩ := cells2 B_z0
  go_wp2_with fail
  refine (H0.out _).mono ?_
  clear c0z0 c1z0
  rintro e w1 ⟨rfl, bb⟩
  replace bb := nextw (w0 := W0) (by exact sm) bb
  replace B_z0 := mv B_z0 bb
  replace B_z1 := mv B_z1 bb
  replace HB := nx HB bb
  clear bb
  obtain ⟨c0z0, c1z0⟩ := cells2 B_z0
  go_wp2_with fail
  refine (H1.out _).mono ?_
  clear c0z0 c1z0
  rintro e w2 ⟨rfl, bb⟩
  replace bb := nextw (w0 := w1) (by exact sm) bb
  replace B_z0 := mv B_z0 bb
  replace B_z1 := mv B_z1 bb
  replace HB := nx HB bb
  clear bb
  obtain ⟨s0, s1, s2, s3⟩ := cells4 (stor4 B_z1 (.int .i64 0) (.int .i64 0) (.int .i64 0) (.int .i64 0))
  have HF := stb4 HB (y := w.heap.size + 1) (by omega) 0 (.int .i64 0) 1 (.int .i64 0) 2 (.int .i64 0) 3 (.int .i64 0)
  obtain ⟨c0z1, c1z1, c2z1, c3z1⟩ := cells4 B_z1
  obtain ⟨f0z1, f1z1, f2z1, f3z1⟩ := froz4 B_z1
  go_wp2_with fail
  exact bodyPost_ret (v := .tuple #[.agg #[.int .i64 0, .int .i64 0, .int .i64 0, .int .i64 0], .bool false]) (by simp [results, Try.results31, go_sem, s0, s1, s2, s3]) rfl ⟨rfl, nextw HF.out (by exact sm)⟩

def SquareV (a b : Int) : Value := if Wi a 16384 then if Wi b 16384 then .tuple #[.agg #[.int .i64 (64 * a), .int .i64 (64 * b), .int .i64 ((64 * a) + 64), .int .i64 ((64 * b) + 64)], .bool true] else .tuple #[.agg #[.int .i64 0, .int .i64 0, .int .i64 0, .int .i64 0], .bool false] else .tuple #[.agg #[.int .i64 0, .int .i64 0, .int .i64 0, .int .i64 0], .bool false]
theorem Square_any (a b : Int)  (w : World) :
    Calls Try.prog 31 #[.agg #[.int .i64 a, .int .i64 b]] w fun e w' => e = .returned (SquareV a b) ∧ Below w.heap.size w w' := by
  unfold SquareV
  by_cases dd0 : Wi a 16384
  · rw [if_pos dd0]
    by_cases dd1 : Wi b 16384
    · rw [if_pos dd1]
      exact Square_w0 a b    dd0 dd1 w 
    · rw [if_neg dd1]
      exact Square_w2 a b    dd0 dd1 w 
  · rw [if_neg dd0]
    exact Square_w1 a b    dd0 w 

set_option maxRecDepth 100000 in
set_option maxHeartbeats 4000000 in
theorem BSquare_w0 (a b : Int)  (ha : Wi a 1099511627776) (hb : Wi b 1099511627776)  (w : World) :
    Calls Try.prog 64 #[.agg #[.int .i64 a, .int .i64 b]] w fun e w' => e = .returned (.agg #[.int .i64 (a * 64), .int .i64 (b * 64), .int .i64 ((a * 64) + 64), .int .i64 ((b * 64) + 64)]) ∧ Below w.heap.size w w' := by
  have ha1 := ha.1
  have ha2 := ha.2
  have hb1 := hb.1
  have hb2 := hb.2
  obtain ⟨HB, B_z0, B_z1⟩ := box2 w 37 #[.int .i64 a, .int .i64 b] 45 #[.int .i64 0, .int .i64 0, .int .i64 0, .int .i64 0]
  go_enter Try.func64, Try.ntmps64
  go_upto_region 1 with (fail)
  generalize (w.alloc (.cells #[.int .i64 a, .int .i64 b] 37)).alloc (.cells #[.int .i64 0, .int .i64 0, .int .i64 0, .int .i64 0] 45) = W0 at *
  obtain ⟨c0z0, c1z0⟩ := cells2 B_z0
  obtain ⟨s0, s1, s2, s3⟩ := cells4 (stor4 B_z1 (.int .i64 (a * 64)) (.int .i64 (b * 64)) (.int .i64 ((a * 64) + 64)) (.int .i64 ((b * 64) + 64)))
  have HF := stb4 HB (y := w.heap.size + 1) (by omega) 0 (.int .i64 (a * 64)) 1 (.int .i64 (b * 64)) 2 (.int .i64 ((a * 64) + 64)) 3 (.int .i64 ((b * 64) + 64))
  obtain ⟨c0z1, c1z1, c2z1, c3z1⟩ := cells4 B_z1
  obtain ⟨f0z1, f1z1, f2z1, f3z1⟩ := froz4 B_z1
  go_wp2_with fail
  exact bodyPost_ret (v := .agg #[.int .i64 (a * 64), .int .i64 (b * 64), .int .i64 ((a * 64) + 64), .int .i64 ((b * 64) + 64)]) (by simp [results, Try.results64, go_sem, s0, s1, s2, s3]) rfl ⟨rfl, nextw HF.out (by exact sm)⟩

def BSquareV (a b : Int) : Value := .agg #[.int .i64 (a * 64), .int .i64 (b * 64), .int .i64 ((a * 64) + 64), .int .i64 ((b * 64) + 64)]
theorem BSquare_any (a b : Int) (ha : Wi a 1099511627776) (hb : Wi b 1099511627776) (w : World) :
    Calls Try.prog 64 #[.agg #[.int .i64 a, .int .i64 b]] w fun e w' => e = .returned (BSquareV a b) ∧ Below w.heap.size w w' := by
  unfold BSquareV
  exact BSquare_w0 a b   ha hb  w 

set_option maxRecDepth 100000 in
set_option maxHeartbeats 4000000 in
theorem RSquare_w0 (a b : Int)   (dd0 : Wi a 16384) (dd1 : Wi b 16384) (w : World) :
    Calls Try.prog 32 #[.agg #[.int .i64 a, .int .i64 b]] w fun e w' => e = .returned (.tuple #[.agg #[.int .i64 (a * 64), .int .i64 (b * 64), .int .i64 ((a * 64) + 64), .int .i64 ((b * 64) + 64)], .bool true]) ∧ Below w.heap.size w w' := by
  have H0 := Lib.hid (fun w => Size_is a 16384 (by omega) w)
  have H1 := Lib.hid (fun w => Size_is b 16384 (by omega) w)
  have H2 := Lib.hid (fun w => BSquare_w0 a b (wi_up dd0 (by decide)) (wi_up dd1 (by decide)) w)
  have dd0x1 := dd0.1
  have dd0x2 := dd0.2
  have dd1x1 := dd1.1
  have dd1x2 := dd1.2
  obtain ⟨HB, B_z0, B_z1⟩ := box2 w 37 #[.int .i64 a, .int .i64 b] 45 #[.int .i64 0, .int .i64 0, .int .i64 0, .int .i64 0]
  go_enter Try.func32, Try.ntmps32
  go_upto_region 1 with (fail)
  generalize (w.alloc (.cells #[.int .i64 a, .int .i64 b] 37)).alloc (.cells #[.int .i64 0, .int .i64 0, .int .i64 0, .int .i64 0] 45) = W0 at *
  obtain ⟨c0z0, c1z0⟩ := cells2 B_z0
  go_wp2_with fail
  refine (H0.out _).mono ?_
  clear c0z0 c1z0
  rintro e w1 ⟨rfl, bb⟩
  replace bb := nextw (w0 := W0) (by exact sm) bb
  replace B_z0 := mv B_z0 bb
  replace B_z1 := mv B_z1 bb
  replace HB := nx HB bb
  clear bb
  obtain ⟨c0z0, c1z0⟩ := cells2 B_z0
  go_wp2_with fail
  refine (H1.out _).mono ?_
  clear c0z0 c1z0
  rintro e w2 ⟨rfl, bb⟩
  replace bb := nextw (w0 := w1) (by exact sm) bb
  replace B_z0 := mv B_z0 bb
  replace B_z1 := mv B_z1 bb
  replace HB := nx HB bb
  clear bb
  obtain ⟨c0z0, c1z0⟩ := cells2 B_z0
  go_wp2_with fail
  refine (H2.out _).mono ?_
  clear c0z0 c1z0
  rintro e w3 ⟨rfl, bb⟩
  replace bb := nextw (w0 := w2) (by exact sm) bb
  replace B_z0 := mv B_z0 bb
  replace B_z1 := mv B_z1 bb
  replace HB := nx HB bb
  clear bb
  obtain ⟨s0, s1, s2, s3⟩ := cells4 (stor4 B_z1 (.int .i64 (a * 64)) (.int .i64 (b * 64)) (.int .i64 ((a * 64) + 64)) (.int .i64 ((b * 64) + 64)))
  have HF := stb4 HB (y := w.heap.size + 1) (by omega) 0 (.int .i64 (a * 64)) 1 (.int .i64 (b * 64)) 2 (.int .i64 ((a * 64) + 64)) 3 (.int .i64 ((b * 64) + 64))
  obtain ⟨c0z1, c1z1, c2z1, c3z1⟩ := cells4 B_z1
  obtain ⟨f0z1, f1z1, f2z1, f3z1⟩ := froz4 B_z1
  go_wp2_with fail
  exact bodyPost_ret (v := .tuple #[.agg #[.int .i64 (a * 64), .int .i64 (b * 64), .int .i64 ((a * 64) + 64), .int .i64 ((b * 64) + 64)], .bool true]) (by simp [results, Try.results32, go_sem, s0, s1, s2, s3]) rfl ⟨rfl, nextw HF.out (by exact sm)⟩

set_option maxRecDepth 100000 in
set_option maxHeartbeats 4000000 in
theorem RSquare_w1 (a b : Int)   (dd0 : ¬ (Wi a 16384)) (w : World) :
    Calls Try.prog 32 #[.agg #[.int .i64 a, .int .i64 b]] w fun e w' => e = .returned (.tuple #[.agg #[.int .i64 0, .int .i64 0, .int .i64 0, .int .i64 0], .bool false]) ∧ Below w.heap.size w w' := by
  have H0 := Lib.hid (fun w => Size_is a 16384 (by omega) w)
  obtain ⟨HB, B_z0, B_z1⟩ := box2 w 37 #[.int .i64 a, .int .i64 b] 45 #[.int .i64 0, .int .i64 0, .int .i64 0, .int .i64 0]
  go_enter Try.func32, Try.ntmps32
  go_upto_region 1 with (fail)
  generalize (w.alloc (.cells #[.int .i64 a, .int .i64 b] 37)).alloc (.cells #[.int .i64 0, .int .i64 0, .int .i64 0, .int .i64 0] 45) = W0 at *
  obtain ⟨c0z0, c1z0⟩ := cells2 B_z0
  go_wp2_with fail
  refine (H0.out _).mono ?_
  clear c0z0 c1z0
  rintro e w1 ⟨rfl, bb⟩
  replace bb := nextw (w0 := W0) (by exact sm) bb
  replace B_z0 := mv B_z0 bb
  replace B_z1 := mv B_z1 bb
  replace HB := nx HB bb
  clear bb
  obtain ⟨s0, s1, s2, s3⟩ := cells4 (stor4 B_z1 (.int .i64 0) (.int .i64 0) (.int .i64 0) (.int .i64 0))
  have HF := stb4 HB (y := w.heap.size + 1) (by omega) 0 (.int .i64 0) 1 (.int .i64 0) 2 (.int .i64 0) 3 (.int .i64 0)
  obtain ⟨c0z1, c1z1, c2z1, c3z1⟩ := cells4 B_z1
  obtain ⟨f0z1, f1z1, f2z1, f3z1⟩ := froz4 B_z1
  go_wp2_with fail
  exact bodyPost_ret (v := .tuple #[.agg #[.int .i64 0, .int .i64 0, .int .i64 0, .int .i64 0], .bool false]) (by simp [results, Try.results32, go_sem, s0, s1, s2, s3]) rfl ⟨rfl, nextw HF.out (by exact sm)⟩

set_option maxRecDepth 100000 in
set_option maxHeartbeats 4000000 in
theorem RSquare_w2 (a b : Int)   (dd0 : Wi a 16384) (dd1 : ¬ (Wi b 16384)) (w : World) :
    Calls Try.prog 32 #[.agg #[.int .i64 a, .int .i64 b]] w fun e w' => e = .returned (.tuple #[.agg #[.int .i64 0, .int .i64 0, .int .i64 0, .int .i64 0], .bool false]) ∧ Below w.heap.size w w' := by
  have H0 := Lib.hid (fun w => Size_is a 16384 (by omega) w)
  have H1 := Lib.hid (fun w => Size_is b 16384 (by omega) w)
  have dd0x1 := dd0.1
  have dd0x2 := dd0.2
  obtain ⟨HB, B_z0, B_z1⟩ := box2 w 37 #[.int .i64 a, .int .i64 b] 45 #[.int .i64 0, .int .i64 0, .int .i64 0, .int .i64 0]
  go_enter Try.func32, Try.ntmps32
  go_upto_region 1 with (fail)
  generalize (w.alloc (.cells #[.int .i64 a, .int .i64 b] 37)).alloc (.cells #[.int .i64 0, .int .i64 0, .int .i64 0, .int .i64 0] 45) = W0 at *
  obtain ⟨c0z0, c1z0⟩ := cells2 B_z0
  go_wp2_with fail
  refine (H0.out _).mono ?_
  clear c0z0 c1z0
  rintro e w1 ⟨rfl, bb⟩
  replace bb := nextw (w0 := W0) (by exact sm) bb
  replace B_z0 := mv B_z0 bb
  replace B_z1 := mv B_z1 bb
  replace HB := nx HB bb
  clear bb
  obtain ⟨c0z0, c1z0⟩ := cells2 B_z0
  go_wp2_with fail
  refine (H1.out _).mono ?_
  clear c0z0 c1z0
  rintro e w2 ⟨rfl, bb⟩
  replace bb := nextw (w0 := w1) (by exact sm) bb
  replace B_z0 := mv B_z0 bb
  replace B_z1 := mv B_z1 bb
  replace HB := nx HB bb
  clear bb
  obtain ⟨s0, s1, s2, s3⟩ := cells4 (stor4 B_z1 (.int .i64 0) (.int .i64 0) (.int .i64 0) (.int .i64 0))
  have HF := stb4 HB (y := w.heap.size + 1) (by omega) 0 (.int .i64 0) 1 (.int .i64 0) 2 (.int .i64 0) 3 (.int .i64 0)
  obtain ⟨c0z1, c1z1, c2z1, c3z1⟩ := cells4 B_z1
  obtain ⟨f0z1, f1z1, f2z1, f3z1⟩ := froz4 B_z1
  go_wp2_with fail
  exact bodyPost_ret (v := .tuple #[.agg #[.int .i64 0, .int .i64 0, .int .i64 0, .int .i64 0], .bool false]) (by simp [results, Try.results32, go_sem, s0, s1, s2, s3]) rfl ⟨rfl, nextw HF.out (by exact sm)⟩

def RSquareV (a b : Int) : Value := if Wi a 16384 then if Wi b 16384 then .tuple #[.agg #[.int .i64 (a * 64), .int .i64 (b * 64), .int .i64 ((a * 64) + 64), .int .i64 ((b * 64) + 64)], .bool true] else .tuple #[.agg #[.int .i64 0, .int .i64 0, .int .i64 0, .int .i64 0], .bool false] else .tuple #[.agg #[.int .i64 0, .int .i64 0, .int .i64 0, .int .i64 0], .bool false]
theorem RSquare_any (a b : Int)  (w : World) :
    Calls Try.prog 32 #[.agg #[.int .i64 a, .int .i64 b]] w fun e w' => e = .returned (RSquareV a b) ∧ Below w.heap.size w w' := by
  unfold RSquareV
  by_cases dd0 : Wi a 16384
  · rw [if_pos dd0]
    by_cases dd1 : Wi b 16384
    · rw [if_pos dd1]
      exact RSquare_w0 a b    dd0 dd1 w 
    · rw [if_neg dd1]
      exact RSquare_w2 a b    dd0 dd1 w 
  · rw [if_neg dd0]
    exact RSquare_w1 a b    dd0 w 
end Go.Proofs.Ytkhcogfajihecaa
