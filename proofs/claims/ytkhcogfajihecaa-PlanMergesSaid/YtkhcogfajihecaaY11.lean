/- plan's covered and inRow. -/
import Derived.Test.YtkhcogfajihecaaY10
import Derived.Test.YtkhcogfajihecaaYM1
set_option linter.unusedVariables false
set_option linter.unusedSimpArgs false
namespace Go.Proofs.Ytkhcogfajihecaa
open Go Go.RowKit Hd

theorem runOf_is (lo hi d : Int) (hl : Wi lo 288230376151711744) (hh : Wi hi 288230376151711744) (hd : 0 < d ∧ d ≤ 1073741824) (w : World) : Calls Try.prog 71 #[.int .i64 lo, .int .i64 hi, .int .i64 d] w fun e w' => e = .returned (.agg #[.int .i64 (rF lo d), .int .i64 (rL hi d)]) ∧ Below w.heap.size w w' := runOf_w0 lo hi d hl hh hd w
theorem rF_bd {lo d : Int} (h : Wi lo 1152921504606846975) (hd : 0 < d) : -1152921504606846978 ≤ rF lo d ∧ rF lo d ≤ 1152921504606846978 := by
  obtain ⟨a, b⟩ := fdiv_bd (n := -lo) (d := 64 * d) (M := 1152921504606846975) ⟨by have := h.2; omega, by have := h.1; omega⟩ (by omega)
  unfold rF; omega
theorem rL_bd {hi d : Int} (h : Wi hi 1152921504606846975) (hd : 0 < d) : -1152921504606846978 ≤ rL hi d ∧ rL hi d ≤ 1152921504606846978 := by
  obtain ⟨a, b⟩ := fdiv_bd (n := hi) (d := 64 * d) (M := 1152921504606846975) h (by omega)
  unfold rL; omega

set_option maxRecDepth 100000 in
set_option maxHeartbeats 4000000 in
theorem covered_w0 (a b c g lo hi s : Int) (MX0 MX1 : Int) (mx0 : (if (rF ((lo * g) + (c * s)) g) < (rF ((lo * b) + (a * s)) b) then (rF ((lo * g) + (c * s)) g) else (rF ((lo * b) + (a * s)) b)) = MX0) (mx1 : (if (rL ((hi * b) + (a * s)) b) < (rL ((hi * g) + (c * s)) g) then (rL ((hi * g) + (c * s)) g) else (rL ((hi * b) + (a * s)) b)) = MX1) (hb : 1 ≤ b ∧ b ≤ 67108864) (he : 1 ≤ g ∧ g ≤ 67108864) (ha : Wi a 8388608) (hc : Wi c 8388608) (hlo : Wi lo 2097152) (hhi : Wi hi 2097152) (hs : Wi s 67108864)  (w : World) :
    Calls Try.prog 78 #[.agg #[.int .i64 a, .int .i64 b, .int .i64 c, .int .i64 g], .int .i64 lo, .int .i64 hi, .int .i64 s] w fun e w' => e = .returned (.agg #[.int .i64 MX0, .int .i64 MX1]) ∧ Below w.heap.size w w' := by
  obtain ⟨hb1, hb2⟩ := hb
  obtain ⟨he1, he2⟩ := he
  have ha1 := ha.1
  have ha2 := ha.2
  have hc1 := hc.1
  have hc2 := hc.2
  have hlo1 := hlo.1
  have hlo2 := hlo.2
  have hhi1 := hhi.1
  have hhi2 := hhi.2
  have hs1 := hs.1
  have hs2 := hs.2
  have m0 := wi_mul (a := lo) (b := b) (A := 2097152) (B := 67108864) hlo ⟨by omega, by omega⟩
  obtain ⟨m01, m02⟩ := m0
  have m1 := wi_mul (a := a) (b := s) (A := 8388608) (B := 67108864) ha hs
  obtain ⟨m11, m12⟩ := m1
  have m2 := wi_mul (a := hi) (b := b) (A := 2097152) (B := 67108864) hhi ⟨by omega, by omega⟩
  obtain ⟨m21, m22⟩ := m2
  have m3 := wi_mul (a := lo) (b := g) (A := 2097152) (B := 67108864) hlo ⟨by omega, by omega⟩
  obtain ⟨m31, m32⟩ := m3
  have m4 := wi_mul (a := c) (b := s) (A := 8388608) (B := 67108864) hc hs
  obtain ⟨m41, m42⟩ := m4
  have m5 := wi_mul (a := hi) (b := g) (A := 2097152) (B := 67108864) hhi ⟨by omega, by omega⟩
  obtain ⟨m51, m52⟩ := m5
  have H0 := Lib.hid (fun w => runOf_is ((lo * b) + (a * s)) ((hi * b) + (a * s)) b ⟨by omega, by omega⟩ ⟨by omega, by omega⟩ ⟨by omega, by omega⟩ w)
  have H1 := Lib.hid (fun w => runOf_is ((lo * g) + (c * s)) ((hi * g) + (c * s)) g ⟨by omega, by omega⟩ ⟨by omega, by omega⟩ ⟨by omega, by omega⟩ w)
  replace mx0 := Lib.hid mx0
  replace mx1 := Lib.hid mx1
  obtain ⟨HB, B_z0, B_z1⟩ := box2 w 101 #[.int .i64 a, .int .i64 b, .int .i64 c, .int .i64 g] 91 #[.int .i64 0, .int .i64 0]
  go_enter Try.func78, Try.ntmps78
  go_upto_region 1 with (fail)
  generalize (w.alloc (.cells #[.int .i64 a, .int .i64 b, .int .i64 c, .int .i64 g] 101)).alloc (.cells #[.int .i64 0, .int .i64 0] 91) = W0 at *
  obtain ⟨c0z0, c1z0, c2z0, c3z0⟩ := cells4 B_z0
  go_wp2_with fail
  refine (H0.out _).mono ?_
  clear c0z0 c1z0 c2z0 c3z0
  rintro e w1 ⟨rfl, bb⟩
  replace bb := nextw (w0 := W0) (by exact sm) bb
  replace B_z0 := mv B_z0 bb
  replace B_z1 := mv B_z1 bb
  replace HB := nx HB bb
  clear bb
  have lt_z2z0 := B_z0.out.lt
  have lt_z2z1 := B_z1.out.lt
  obtain ⟨bb, B_z2⟩ := box1 w1 91 #[.int .i64 (rF ((lo * b) + (a * s)) b), .int .i64 (rL ((hi * b) + (a * s)) b)]
  replace bb := bb.out
  replace B_z0 := mv B_z0 bb
  replace B_z1 := mv B_z1 bb
  replace HB := nx HB bb
  clear bb
  go_upto_region 2 with (fail)
  generalize w1.alloc (.cells #[.int .i64 (rF ((lo * b) + (a * s)) b), .int .i64 (rL ((hi * b) + (a * s)) b)] 91) = WN1 at *
  obtain ⟨c0z0, c1z0, c2z0, c3z0⟩ := cells4 B_z0
  go_wp2_with fail
  refine (H1.out _).mono ?_
  clear c0z0 c1z0 c2z0 c3z0
  rintro e w2 ⟨rfl, bb⟩
  replace bb := nextw (w0 := WN1) (by exact sm) bb
  replace B_z0 := mv B_z0 bb
  replace B_z1 := mv B_z1 bb
  replace B_z2 := mv B_z2 bb
  replace HB := nx HB bb
  clear bb
  have lt_z3z0 := B_z0.out.lt
  have lt_z3z1 := B_z1.out.lt
  have lt_z3z2 := B_z2.out.lt
  obtain ⟨bb, B_z3⟩ := box1 w2 91 #[.int .i64 (rF ((lo * g) + (c * s)) g), .int .i64 (rL ((hi * g) + (c * s)) g)]
  replace bb := bb.out
  replace B_z0 := mv B_z0 bb
  replace B_z1 := mv B_z1 bb
  replace B_z2 := mv B_z2 bb
  replace HB := nx HB bb
  clear bb
  go_upto_region 3 with (fail)
  generalize w2.alloc (.cells #[.int .i64 (rF ((lo * g) + (c * s)) g), .int .i64 (rL ((hi * g) + (c * s)) g)] 91) = WN2 at *
  have mxo0 := mx0.out
  have mxo1 := mx1.out
  obtain ⟨c0z2, c1z2⟩ := cells2 B_z2
  obtain ⟨c0z3, c1z3⟩ := cells2 B_z3
  obtain ⟨s0, s1⟩ := cells2 (stor2 B_z1 (.int .i64 MX0) (.int .i64 MX1))
  have HF := stb2 HB (y := w.heap.size + 1) (by omega) 0 (.int .i64 MX0) 1 (.int .i64 MX1)
  obtain ⟨c0z1, c1z1⟩ := cells2 B_z1
  obtain ⟨f0z1, f1z1⟩ := froz2 B_z1
  go_wp2_with fail
  exact bodyPost_ret (v := .agg #[.int .i64 MX0, .int .i64 MX1]) (by simp [results, Try.results78, go_sem, s0, s1]) rfl ⟨rfl, nextw HF.out (by exact sm)⟩

theorem covered_is (a b c g lo hi s : Int) (hb : 1 ≤ b ∧ b ≤ 67108864) (he : 1 ≤ g ∧ g ≤ 67108864) (ha : Wi a 8388608) (hc : Wi c 8388608) (hlo : Wi lo 2097152) (hhi : Wi hi 2097152) (hs : Wi s 67108864) (w : World) : Calls Try.prog 78 #[.agg #[.int .i64 a, .int .i64 b, .int .i64 c, .int .i64 g], .int .i64 lo, .int .i64 hi, .int .i64 s] w fun e w' => e = .returned (.agg #[.int .i64 (covF a b c g lo s), .int .i64 (covL a b c g hi s)]) ∧ Below w.heap.size w w' := covered_w0 a b c g lo hi s _ _ rfl rfl hb he ha hc hlo hhi hs w

theorem later_is (a b c d : Int) (h1 : Wi (a * d) 1152921504606846976) (h2 : Wi (c * b) 1152921504606846976) (w : World) : Calls Try.prog 88 #[.agg #[.int .i64 a, .int .i64 b], .agg #[.int .i64 c, .int .i64 d]] w fun e w' => e = .returned (.agg #[.int .i64 (laN a b c d), .int .i64 (laD a b c d)]) ∧ Below w.heap.size w w' := by
  unfold laN laD
  by_cases h : a * d < c * b
  · rw [if_pos h, if_pos h]; exact later_w0 a b c d h1 h2 h w
  · rw [if_neg h, if_neg h]; exact later_w1 a b c d h1 h2 (by omega) w
theorem earlier_is (a b c d : Int) (h1 : Wi (a * d) 1152921504606846976) (h2 : Wi (c * b) 1152921504606846976) (w : World) : Calls Try.prog 89 #[.agg #[.int .i64 a, .int .i64 b], .agg #[.int .i64 c, .int .i64 d]] w fun e w' => e = .returned (.agg #[.int .i64 (eaN a b c d), .int .i64 (eaD a b c d)]) ∧ Below w.heap.size w w' := by
  unfold eaN eaD
  by_cases h : c * b < a * d
  · rw [if_pos h, if_pos h]; exact earlier_w0 a b c d h1 h2 h w
  · rw [if_neg h, if_neg h]; exact earlier_w1 a b c d h1 h2 (by omega) w

set_option maxRecDepth 100000 in
set_option maxHeartbeats 4000000 in
theorem inRow_w0 (a b c g Y x0 y0 x1 y1 s : Int)  (hb : 1 ≤ b ∧ b ≤ 67108864) (he : 1 ≤ g ∧ g ≤ 67108864) (ha : Wi a 8388608) (hc : Wi c 8388608) (hs : Wi s 67108864) (hY : Wi Y 32768) (hy0 : Wi y0 2097152) (hy1 : Wi y1 2097152) (dd0 : s = 0) (w : World) :
    Calls Try.prog 79 #[.agg #[.int .i64 a, .int .i64 b, .int .i64 c, .int .i64 g], .int .i64 Y, .agg #[.int .i64 x0, .int .i64 y0, .int .i64 x1, .int .i64 y1], .int .i64 s] w fun e w' => e = .returned (.agg #[.int .i64 a, .int .i64 b, .int .i64 c, .int .i64 g]) ∧ Below w.heap.size w w' := by
  obtain ⟨hb1, hb2⟩ := hb
  obtain ⟨he1, he2⟩ := he
  have ha1 := ha.1
  have ha2 := ha.2
  have hc1 := hc.1
  have hc2 := hc.2
  have hs1 := hs.1
  have hs2 := hs.2
  have hY1 := hY.1
  have hY2 := hY.2
  have hy01 := hy0.1
  have hy02 := hy0.2
  have hy11 := hy1.1
  have hy12 := hy1.2
  replace dd0 := Lib.hid dd0
  obtain ⟨HB, B_z0, B_z1, B_z2⟩ := box3 w 101 #[.int .i64 a, .int .i64 b, .int .i64 c, .int .i64 g] 45 #[.int .i64 x0, .int .i64 y0, .int .i64 x1, .int .i64 y1] 101 #[.int .i64 0, .int .i64 0, .int .i64 0, .int .i64 0]
  go_enter Try.func79, Try.ntmps79
  go_upto_region 1 with (fail)
  generalize ((w.alloc (.cells #[.int .i64 a, .int .i64 b, .int .i64 c, .int .i64 g] 101)).alloc (.cells #[.int .i64 x0, .int .i64 y0, .int .i64 x1, .int .i64 y1] 45)).alloc (.cells #[.int .i64 0, .int .i64 0, .int .i64 0, .int .i64 0] 101) = W0 at *
  have wq1x0 : IntKind.i64.wrap (64 * Y) = 64 * Y := by rw [IntKind.wrap_i64]; omega
  have wq1x1 : IntKind.i64.wrap ((64 * Y) - y1) = (64 * Y) - y1 := by rw [IntKind.wrap_i64]; omega
  have wq1x2 : IntKind.i64.wrap (Y + 1) = Y + 1 := by rw [IntKind.wrap_i64]; omega
  have wq1x3 : IntKind.i64.wrap (64 * (Y + 1)) = 64 * (Y + 1) := by rw [IntKind.wrap_i64]; omega
  have wq1x4 : IntKind.i64.wrap ((64 * (Y + 1)) - y0) = (64 * (Y + 1)) - y0 := by rw [IntKind.wrap_i64]; omega
  obtain ⟨c0z1, c1z1, c2z1, c3z1⟩ := cells4 B_z1
  go_quiet (fail)
  clear c0z1 c1z1 c2z1 c3z1
  have bb : Below W0.heap.size W0 (W0.drewN nq) := bel_drewN (Below.refl _ _) _
  generalize W0.drewN nq = w1q at *
  replace B_z0 := mv B_z0 bb
  replace B_z1 := mv B_z1 bb
  replace B_z2 := mv B_z2 bb
  replace HB := nx HB bb
  clear bb
  have ddo0 := dd0.out
  obtain ⟨c0z0, c1z0, c2z0, c3z0⟩ := cells4 B_z0
  obtain ⟨s0, s1, s2, s3⟩ := cells4 (stor4 B_z2 (.int .i64 a) (.int .i64 b) (.int .i64 c) (.int .i64 g))
  have HF := stb4 HB (y := w.heap.size + 1 + 1) (by omega) 0 (.int .i64 a) 1 (.int .i64 b) 2 (.int .i64 c) 3 (.int .i64 g)
  obtain ⟨c0z2, c1z2, c2z2, c3z2⟩ := cells4 B_z2
  obtain ⟨f0z2, f1z2, f2z2, f3z2⟩ := froz4 B_z2
  go_wp2_with fail
  exact bodyPost_ret (v := .agg #[.int .i64 a, .int .i64 b, .int .i64 c, .int .i64 g]) (by simp [results, Try.results79, go_sem, s0, s1, s2, s3]) rfl ⟨rfl, nextw HF.out (by exact sm)⟩

set_option maxRecDepth 100000 in
set_option maxHeartbeats 4000000 in
theorem inRow_w1 (a b c g Y x0 y0 x1 y1 s : Int)  (hb : 1 ≤ b ∧ b ≤ 67108864) (he : 1 ≤ g ∧ g ≤ 67108864) (ha : Wi a 8388608) (hc : Wi c 8388608) (hs : Wi s 67108864) (hY : Wi Y 32768) (hy0 : Wi y0 2097152) (hy1 : Wi y1 2097152) (dd0 : ¬ (s = 0)) (dd1 : s < 0) (w : World) :
    Calls Try.prog 79 #[.agg #[.int .i64 a, .int .i64 b, .int .i64 c, .int .i64 g], .int .i64 Y, .agg #[.int .i64 x0, .int .i64 y0, .int .i64 x1, .int .i64 y1], .int .i64 s] w fun e w' => e = .returned (.agg #[.int .i64 (laN a b (-((64 * (Y + 1)) - y0)) (-s)), .int .i64 (laD a b (-((64 * (Y + 1)) - y0)) (-s)), .int .i64 (eaN c g (-((64 * Y) - y1)) (-s)), .int .i64 (eaD c g (-((64 * Y) - y1)) (-s))]) ∧ Below w.heap.size w w' := by
  obtain ⟨hb1, hb2⟩ := hb
  obtain ⟨he1, he2⟩ := he
  have ha1 := ha.1
  have ha2 := ha.2
  have hc1 := hc.1
  have hc2 := hc.2
  have hs1 := hs.1
  have hs2 := hs.2
  have hY1 := hY.1
  have hY2 := hY.2
  have hy01 := hy0.1
  have hy02 := hy0.2
  have hy11 := hy1.1
  have hy12 := hy1.2
  have H0 := Lib.hid (fun w => later_is a b (-((64 * (Y + 1)) - y0)) (-s) (wi_up (wi_mul (a := a) (b := (-s)) (A := 8388608) (B := 67108864) ⟨by omega, by omega⟩ ⟨by omega, by omega⟩) (by decide)) (wi_up (wi_mul (a := (-((64 * (Y + 1)) - y0))) (b := b) (A := 8388608) (B := 67108864) ⟨by omega, by omega⟩ ⟨by omega, by omega⟩) (by decide)) w)
  have H1 := Lib.hid (fun w => earlier_is c g (-((64 * Y) - y1)) (-s) (wi_up (wi_mul (a := c) (b := (-s)) (A := 8388608) (B := 67108864) ⟨by omega, by omega⟩ ⟨by omega, by omega⟩) (by decide)) (wi_up (wi_mul (a := (-((64 * Y) - y1))) (b := g) (A := 8388608) (B := 67108864) ⟨by omega, by omega⟩ ⟨by omega, by omega⟩) (by decide)) w)
  obtain ⟨HB, B_z0, B_z1, B_z2⟩ := box3 w 101 #[.int .i64 a, .int .i64 b, .int .i64 c, .int .i64 g] 45 #[.int .i64 x0, .int .i64 y0, .int .i64 x1, .int .i64 y1] 101 #[.int .i64 0, .int .i64 0, .int .i64 0, .int .i64 0]
  go_enter Try.func79, Try.ntmps79
  go_upto_region 1 with (fail)
  generalize ((w.alloc (.cells #[.int .i64 a, .int .i64 b, .int .i64 c, .int .i64 g] 101)).alloc (.cells #[.int .i64 x0, .int .i64 y0, .int .i64 x1, .int .i64 y1] 45)).alloc (.cells #[.int .i64 0, .int .i64 0, .int .i64 0, .int .i64 0] 101) = W0 at *
  have wq1x0 : IntKind.i64.wrap (64 * Y) = 64 * Y := by rw [IntKind.wrap_i64]; omega
  have wq1x1 : IntKind.i64.wrap ((64 * Y) - y1) = (64 * Y) - y1 := by rw [IntKind.wrap_i64]; omega
  have wq1x2 : IntKind.i64.wrap (Y + 1) = Y + 1 := by rw [IntKind.wrap_i64]; omega
  have wq1x3 : IntKind.i64.wrap (64 * (Y + 1)) = 64 * (Y + 1) := by rw [IntKind.wrap_i64]; omega
  have wq1x4 : IntKind.i64.wrap ((64 * (Y + 1)) - y0) = (64 * (Y + 1)) - y0 := by rw [IntKind.wrap_i64]; omega
  obtain ⟨c0z1, c1z1, c2z1, c3z1⟩ := cells4 B_z1
  go_quiet (fail)
  clear c0z1 c1z1 c2z1 c3z1
  have bb : Below W0.heap.size W0 (W0.drewN nq) := bel_drewN (Below.refl _ _) _
  generalize W0.drewN nq = w1q at *
  replace B_z0 := mv B_z0 bb
  replace B_z1 := mv B_z1 bb
  replace B_z2 := mv B_z2 bb
  replace HB := nx HB bb
  clear bb
  go_upto_region 6 with (fail)
  obtain ⟨f0z2, f1z2, f2z2, f3z2⟩ := froz4 B_z2
  clear f0z2 f1z2 f2z2 f3z2
  obtain ⟨c0z0, c1z0, c2z0, c3z0⟩ := cells4 B_z0
  have tk1x0 : True := trivial
  go_region_held3 (fun w' => w'.cell? ⟨w.heap.size, 0, none⟩ = some (.int .i64 a) ∧ w'.cell? ⟨w.heap.size, 1, none⟩ = some (.int .i64 b) ∧ w'.cell? ⟨w.heap.size, 2, none⟩ = some (.int .i64 c) ∧ w'.cell? ⟨w.heap.size, 3, none⟩ = some (.int .i64 g)) (((try dsimp only); (repeat' apply And.intro) <;> (first | (with_reducible assumption) | ((repeat (first | (with_reducible refine Eq.trans (cell_drew1 _ _) ?_) | (with_reducible refine Eq.trans (cell_far (by omega) _ _ _) ?_) | (with_reducible refine Eq.trans (World.cell?_alloc_lt _ _ _ (by first | (dsimp only; omega) | (simp only [World.size_alloc, World.size_setCell]; omega))) ?_))); with_reducible assumption) | assumption | go_keep)))
    (first
      | (clear tk1x0; go_at_call 88; refine (H0.out _).mono ?_; rintro e w2 ⟨rfl, bb⟩; replace bb := nextw (w0 := w1q) (by exact sm) bb; replace B_z0 := mv B_z0 bb; replace B_z1 := mv B_z1 bb; replace B_z2 := mv B_z2 bb; replace HB := nx HB bb; clear bb c0z0 c1z0 c2z0 c3z0; have c0z2 : w2.cell? ⟨w.heap.size + 1 + 1, 0, none⟩ = some (.int .i64 0) := B_z2.out.cell 0 rfl; have c1z2 : w2.cell? ⟨w.heap.size + 1 + 1, 1, none⟩ = some (.int .i64 0) := B_z2.out.cell 1 rfl; have c2z2 : w2.cell? ⟨w.heap.size + 1 + 1, 2, none⟩ = some (.int .i64 0) := B_z2.out.cell 2 rfl; have c3z2 : w2.cell? ⟨w.heap.size + 1 + 1, 3, none⟩ = some (.int .i64 0) := B_z2.out.cell 3 rfl; have f0z2 : w2.frozen? ⟨w.heap.size + 1 + 1, 0, none⟩ = false := B_z2.out.frozen 0; have f1z2 : w2.frozen? ⟨w.heap.size + 1 + 1, 1, none⟩ = false := B_z2.out.frozen 1; have f2z2 : w2.frozen? ⟨w.heap.size + 1 + 1, 2, none⟩ = false := B_z2.out.frozen 2; have f3z2 : w2.frozen? ⟨w.heap.size + 1 + 1, 3, none⟩ = false := B_z2.out.frozen 3; have c0z0 : w2.cell? ⟨w.heap.size, 0, none⟩ = some (.int .i64 a) := B_z0.out.cell 0 rfl; have c1z0 : w2.cell? ⟨w.heap.size, 1, none⟩ = some (.int .i64 b) := B_z0.out.cell 1 rfl; have c2z0 : w2.cell? ⟨w.heap.size, 2, none⟩ = some (.int .i64 c) := B_z0.out.cell 2 rfl; have c3z0 : w2.cell? ⟨w.heap.size, 3, none⟩ = some (.int .i64 g) := B_z0.out.cell 3 rfl; have tk1x1 : True := trivial)
      | (clear tk1x1; go_at_call 89; refine (H1.out _).mono ?_; rintro e w3 ⟨rfl, bb⟩; replace bb := nextw (w0 := w2) (by exact sm) bb; replace B_z0 := mv B_z0 bb; replace B_z1 := mv B_z1 bb; replace B_z2 := mv B_z2 bb; replace HB := nx HB bb; clear bb c0z0 c1z0 c2z0 c3z0; have c0z2 : w3.cell? ⟨w.heap.size + 1 + 1, 0, none⟩ = some (.int .i64 0) := B_z2.out.cell 0 rfl; have c1z2 : w3.cell? ⟨w.heap.size + 1 + 1, 1, none⟩ = some (.int .i64 0) := B_z2.out.cell 1 rfl; have c2z2 : w3.cell? ⟨w.heap.size + 1 + 1, 2, none⟩ = some (.int .i64 0) := B_z2.out.cell 2 rfl; have c3z2 : w3.cell? ⟨w.heap.size + 1 + 1, 3, none⟩ = some (.int .i64 0) := B_z2.out.cell 3 rfl; have f0z2 : w3.frozen? ⟨w.heap.size + 1 + 1, 0, none⟩ = false := B_z2.out.frozen 0; have f1z2 : w3.frozen? ⟨w.heap.size + 1 + 1, 1, none⟩ = false := B_z2.out.frozen 1; have f2z2 : w3.frozen? ⟨w.heap.size + 1 + 1, 2, none⟩ = false := B_z2.out.frozen 2; have f3z2 : w3.frozen? ⟨w.heap.size + 1 + 1, 3, none⟩ = false := B_z2.out.frozen 3; have c0z0 : w3.cell? ⟨w.heap.size, 0, none⟩ = some (.int .i64 a) := B_z0.out.cell 0 rfl; have c1z0 : w3.cell? ⟨w.heap.size, 1, none⟩ = some (.int .i64 b) := B_z0.out.cell 1 rfl; have c2z0 : w3.cell? ⟨w.heap.size, 2, none⟩ = some (.int .i64 c) := B_z0.out.cell 2 rfl; have c3z0 : w3.cell? ⟨w.heap.size, 3, none⟩ = some (.int .i64 g) := B_z0.out.cell 3 rfl; have tk1x2 : True := trivial))
  clear c0z0 c1z0 c2z0 c3z0
  obtain ⟨s0, s1, s2, s3⟩ := cells4 (stor4 B_z2 (.int .i64 (laN a b (-((64 * (Y + 1)) - y0)) (-s))) (.int .i64 (laD a b (-((64 * (Y + 1)) - y0)) (-s))) (.int .i64 (eaN c g (-((64 * Y) - y1)) (-s))) (.int .i64 (eaD c g (-((64 * Y) - y1)) (-s))))
  have HF := stb4 HB (y := w.heap.size + 1 + 1) (by omega) 0 (.int .i64 (laN a b (-((64 * (Y + 1)) - y0)) (-s))) 1 (.int .i64 (laD a b (-((64 * (Y + 1)) - y0)) (-s))) 2 (.int .i64 (eaN c g (-((64 * Y) - y1)) (-s))) 3 (.int .i64 (eaD c g (-((64 * Y) - y1)) (-s)))
  obtain ⟨c0z2, c1z2, c2z2, c3z2⟩ := cells4 B_z2
  obtain ⟨f0z2, f1z2, f2z2, f3z2⟩ := froz4 B_z2
  go_wp2_with fail
  exact bodyPost_ret (v := .agg #[.int .i64 (laN a b (-((64 * (Y + 1)) - y0)) (-s)), .int .i64 (laD a b (-((64 * (Y + 1)) - y0)) (-s)), .int .i64 (eaN c g (-((64 * Y) - y1)) (-s)), .int .i64 (eaD c g (-((64 * Y) - y1)) (-s))]) (by simp [results, Try.results79, go_sem, s0, s1, s2, s3]) rfl ⟨rfl, nextw HF.out (by exact sm)⟩

set_option maxRecDepth 100000 in
set_option maxHeartbeats 4000000 in
theorem inRow_w2 (a b c g Y x0 y0 x1 y1 s : Int)  (hb : 1 ≤ b ∧ b ≤ 67108864) (he : 1 ≤ g ∧ g ≤ 67108864) (ha : Wi a 8388608) (hc : Wi c 8388608) (hs : Wi s 67108864) (hY : Wi Y 32768) (hy0 : Wi y0 2097152) (hy1 : Wi y1 2097152) (dd0 : ¬ (s = 0)) (dd1 : 0 ≤ s) (w : World) :
    Calls Try.prog 79 #[.agg #[.int .i64 a, .int .i64 b, .int .i64 c, .int .i64 g], .int .i64 Y, .agg #[.int .i64 x0, .int .i64 y0, .int .i64 x1, .int .i64 y1], .int .i64 s] w fun e w' => e = .returned (.agg #[.int .i64 (laN a b ((64 * Y) - y1) s), .int .i64 (laD a b ((64 * Y) - y1) s), .int .i64 (eaN c g ((64 * (Y + 1)) - y0) s), .int .i64 (eaD c g ((64 * (Y + 1)) - y0) s)]) ∧ Below w.heap.size w w' := by
  obtain ⟨hb1, hb2⟩ := hb
  obtain ⟨he1, he2⟩ := he
  have ha1 := ha.1
  have ha2 := ha.2
  have hc1 := hc.1
  have hc2 := hc.2
  have hs1 := hs.1
  have hs2 := hs.2
  have hY1 := hY.1
  have hY2 := hY.2
  have hy01 := hy0.1
  have hy02 := hy0.2
  have hy11 := hy1.1
  have hy12 := hy1.2
  have H0 := Lib.hid (fun w => later_is a b ((64 * Y) - y1) s (wi_up (wi_mul (a := a) (b := s) (A := 8388608) (B := 67108864) ⟨by omega, by omega⟩ ⟨by omega, by omega⟩) (by decide)) (wi_up (wi_mul (a := ((64 * Y) - y1)) (b := b) (A := 8388608) (B := 67108864) ⟨by omega, by omega⟩ ⟨by omega, by omega⟩) (by decide)) w)
  have H1 := Lib.hid (fun w => earlier_is c g ((64 * (Y + 1)) - y0) s (wi_up (wi_mul (a := c) (b := s) (A := 8388608) (B := 67108864) ⟨by omega, by omega⟩ ⟨by omega, by omega⟩) (by decide)) (wi_up (wi_mul (a := ((64 * (Y + 1)) - y0)) (b := g) (A := 8388608) (B := 67108864) ⟨by omega, by omega⟩ ⟨by omega, by omega⟩) (by decide)) w)
  obtain ⟨HB, B_z0, B_z1, B_z2⟩ := box3 w 101 #[.int .i64 a, .int .i64 b, .int .i64 c, .int .i64 g] 45 #[.int .i64 x0, .int .i64 y0, .int .i64 x1, .int .i64 y1] 101 #[.int .i64 0, .int .i64 0, .int .i64 0, .int .i64 0]
  go_enter Try.func79, Try.ntmps79
  go_upto_region 1 with (fail)
  generalize ((w.alloc (.cells #[.int .i64 a, .int .i64 b, .int .i64 c, .int .i64 g] 101)).alloc (.cells #[.int .i64 x0, .int .i64 y0, .int .i64 x1, .int .i64 y1] 45)).alloc (.cells #[.int .i64 0, .int .i64 0, .int .i64 0, .int .i64 0] 101) = W0 at *
  have wq1x0 : IntKind.i64.wrap (64 * Y) = 64 * Y := by rw [IntKind.wrap_i64]; omega
  have wq1x1 : IntKind.i64.wrap ((64 * Y) - y1) = (64 * Y) - y1 := by rw [IntKind.wrap_i64]; omega
  have wq1x2 : IntKind.i64.wrap (Y + 1) = Y + 1 := by rw [IntKind.wrap_i64]; omega
  have wq1x3 : IntKind.i64.wrap (64 * (Y + 1)) = 64 * (Y + 1) := by rw [IntKind.wrap_i64]; omega
  have wq1x4 : IntKind.i64.wrap ((64 * (Y + 1)) - y0) = (64 * (Y + 1)) - y0 := by rw [IntKind.wrap_i64]; omega
  obtain ⟨c0z1, c1z1, c2z1, c3z1⟩ := cells4 B_z1
  go_quiet (fail)
  clear c0z1 c1z1 c2z1 c3z1
  have bb : Below W0.heap.size W0 (W0.drewN nq) := bel_drewN (Below.refl _ _) _
  generalize W0.drewN nq = w1q at *
  replace B_z0 := mv B_z0 bb
  replace B_z1 := mv B_z1 bb
  replace B_z2 := mv B_z2 bb
  replace HB := nx HB bb
  clear bb
  go_upto_region 6 with (fail)
  obtain ⟨f0z2, f1z2, f2z2, f3z2⟩ := froz4 B_z2
  clear f0z2 f1z2 f2z2 f3z2
  obtain ⟨c0z0, c1z0, c2z0, c3z0⟩ := cells4 B_z0
  have tk1x0 : True := trivial
  go_region_held3 (fun w' => w'.cell? ⟨w.heap.size, 0, none⟩ = some (.int .i64 a) ∧ w'.cell? ⟨w.heap.size, 1, none⟩ = some (.int .i64 b) ∧ w'.cell? ⟨w.heap.size, 2, none⟩ = some (.int .i64 c) ∧ w'.cell? ⟨w.heap.size, 3, none⟩ = some (.int .i64 g)) (((try dsimp only); (repeat' apply And.intro) <;> (first | (with_reducible assumption) | ((repeat (first | (with_reducible refine Eq.trans (cell_drew1 _ _) ?_) | (with_reducible refine Eq.trans (cell_far (by omega) _ _ _) ?_) | (with_reducible refine Eq.trans (World.cell?_alloc_lt _ _ _ (by first | (dsimp only; omega) | (simp only [World.size_alloc, World.size_setCell]; omega))) ?_))); with_reducible assumption) | assumption | go_keep)))
    (first
      | (clear tk1x0; go_at_call 88; refine (H0.out _).mono ?_; rintro e w2 ⟨rfl, bb⟩; replace bb := nextw (w0 := w1q) (by exact sm) bb; replace B_z0 := mv B_z0 bb; replace B_z1 := mv B_z1 bb; replace B_z2 := mv B_z2 bb; replace HB := nx HB bb; clear bb c0z0 c1z0 c2z0 c3z0; have c0z2 : w2.cell? ⟨w.heap.size + 1 + 1, 0, none⟩ = some (.int .i64 0) := B_z2.out.cell 0 rfl; have c1z2 : w2.cell? ⟨w.heap.size + 1 + 1, 1, none⟩ = some (.int .i64 0) := B_z2.out.cell 1 rfl; have c2z2 : w2.cell? ⟨w.heap.size + 1 + 1, 2, none⟩ = some (.int .i64 0) := B_z2.out.cell 2 rfl; have c3z2 : w2.cell? ⟨w.heap.size + 1 + 1, 3, none⟩ = some (.int .i64 0) := B_z2.out.cell 3 rfl; have f0z2 : w2.frozen? ⟨w.heap.size + 1 + 1, 0, none⟩ = false := B_z2.out.frozen 0; have f1z2 : w2.frozen? ⟨w.heap.size + 1 + 1, 1, none⟩ = false := B_z2.out.frozen 1; have f2z2 : w2.frozen? ⟨w.heap.size + 1 + 1, 2, none⟩ = false := B_z2.out.frozen 2; have f3z2 : w2.frozen? ⟨w.heap.size + 1 + 1, 3, none⟩ = false := B_z2.out.frozen 3; have c0z0 : w2.cell? ⟨w.heap.size, 0, none⟩ = some (.int .i64 a) := B_z0.out.cell 0 rfl; have c1z0 : w2.cell? ⟨w.heap.size, 1, none⟩ = some (.int .i64 b) := B_z0.out.cell 1 rfl; have c2z0 : w2.cell? ⟨w.heap.size, 2, none⟩ = some (.int .i64 c) := B_z0.out.cell 2 rfl; have c3z0 : w2.cell? ⟨w.heap.size, 3, none⟩ = some (.int .i64 g) := B_z0.out.cell 3 rfl; have tk1x1 : True := trivial)
      | (clear tk1x1; go_at_call 89; refine (H1.out _).mono ?_; rintro e w3 ⟨rfl, bb⟩; replace bb := nextw (w0 := w2) (by exact sm) bb; replace B_z0 := mv B_z0 bb; replace B_z1 := mv B_z1 bb; replace B_z2 := mv B_z2 bb; replace HB := nx HB bb; clear bb c0z0 c1z0 c2z0 c3z0; have c0z2 : w3.cell? ⟨w.heap.size + 1 + 1, 0, none⟩ = some (.int .i64 0) := B_z2.out.cell 0 rfl; have c1z2 : w3.cell? ⟨w.heap.size + 1 + 1, 1, none⟩ = some (.int .i64 0) := B_z2.out.cell 1 rfl; have c2z2 : w3.cell? ⟨w.heap.size + 1 + 1, 2, none⟩ = some (.int .i64 0) := B_z2.out.cell 2 rfl; have c3z2 : w3.cell? ⟨w.heap.size + 1 + 1, 3, none⟩ = some (.int .i64 0) := B_z2.out.cell 3 rfl; have f0z2 : w3.frozen? ⟨w.heap.size + 1 + 1, 0, none⟩ = false := B_z2.out.frozen 0; have f1z2 : w3.frozen? ⟨w.heap.size + 1 + 1, 1, none⟩ = false := B_z2.out.frozen 1; have f2z2 : w3.frozen? ⟨w.heap.size + 1 + 1, 2, none⟩ = false := B_z2.out.frozen 2; have f3z2 : w3.frozen? ⟨w.heap.size + 1 + 1, 3, none⟩ = false := B_z2.out.frozen 3; have c0z0 : w3.cell? ⟨w.heap.size, 0, none⟩ = some (.int .i64 a) := B_z0.out.cell 0 rfl; have c1z0 : w3.cell? ⟨w.heap.size, 1, none⟩ = some (.int .i64 b) := B_z0.out.cell 1 rfl; have c2z0 : w3.cell? ⟨w.heap.size, 2, none⟩ = some (.int .i64 c) := B_z0.out.cell 2 rfl; have c3z0 : w3.cell? ⟨w.heap.size, 3, none⟩ = some (.int .i64 g) := B_z0.out.cell 3 rfl; have tk1x2 : True := trivial))
  clear c0z0 c1z0 c2z0 c3z0
  obtain ⟨s0, s1, s2, s3⟩ := cells4 (stor4 B_z2 (.int .i64 (laN a b ((64 * Y) - y1) s)) (.int .i64 (laD a b ((64 * Y) - y1) s)) (.int .i64 (eaN c g ((64 * (Y + 1)) - y0) s)) (.int .i64 (eaD c g ((64 * (Y + 1)) - y0) s)))
  have HF := stb4 HB (y := w.heap.size + 1 + 1) (by omega) 0 (.int .i64 (laN a b ((64 * Y) - y1) s)) 1 (.int .i64 (laD a b ((64 * Y) - y1) s)) 2 (.int .i64 (eaN c g ((64 * (Y + 1)) - y0) s)) 3 (.int .i64 (eaD c g ((64 * (Y + 1)) - y0) s))
  obtain ⟨c0z2, c1z2, c2z2, c3z2⟩ := cells4 B_z2
  obtain ⟨f0z2, f1z2, f2z2, f3z2⟩ := froz4 B_z2
  go_wp2_with fail
  exact bodyPost_ret (v := .agg #[.int .i64 (laN a b ((64 * Y) - y1) s), .int .i64 (laD a b ((64 * Y) - y1) s), .int .i64 (eaN c g ((64 * (Y + 1)) - y0) s), .int .i64 (eaD c g ((64 * (Y + 1)) - y0) s)]) (by simp [results, Try.results79, go_sem, s0, s1, s2, s3]) rfl ⟨rfl, nextw HF.out (by exact sm)⟩

theorem inRow_is (a b c g Y x0 y0 x1 y1 s : Int) (hb : 1 ≤ b ∧ b ≤ 67108864) (he : 1 ≤ g ∧ g ≤ 67108864) (ha : Wi a 8388608) (hc : Wi c 8388608) (hs : Wi s 67108864) (hY : Wi Y 32768) (hy0 : Wi y0 2097152) (hy1 : Wi y1 2097152) (w : World) : Calls Try.prog 79 #[.agg #[.int .i64 a, .int .i64 b, .int .i64 c, .int .i64 g], .int .i64 Y, .agg #[.int .i64 x0, .int .i64 y0, .int .i64 x1, .int .i64 y1], .int .i64 s] w fun e w' => e = .returned (.agg #[.int .i64 (iaN a b (64 * Y - y1) (64 * (Y + 1) - y0) s), .int .i64 (iaD a b (64 * Y - y1) (64 * (Y + 1) - y0) s), .int .i64 (ieN c g (64 * Y - y1) (64 * (Y + 1) - y0) s), .int .i64 (ieD c g (64 * Y - y1) (64 * (Y + 1) - y0) s)]) ∧ Below w.heap.size w w' := by
  unfold iaN iaD ieN ieD
  by_cases h0 : s = 0
  · rw [if_pos h0, if_pos h0, if_pos h0, if_pos h0]; exact inRow_w0 a b c g Y x0 y0 x1 y1 s hb he ha hc hs hY hy0 hy1 h0 w
  · rw [if_neg h0, if_neg h0, if_neg h0, if_neg h0]
    by_cases h1 : s < 0
    · rw [if_pos h1, if_pos h1, if_pos h1, if_pos h1]; exact inRow_w1 a b c g Y x0 y0 x1 y1 s hb he ha hc hs hY hy0 hy1 h0 h1 w
    · rw [if_neg h1, if_neg h1, if_neg h1, if_neg h1]; exact inRow_w2 a b c g Y x0 y0 x1 y1 s hb he ha hc hs hY hy0 hy1 h0 (by omega) w
end Go.Proofs.Ytkhcogfajihecaa
