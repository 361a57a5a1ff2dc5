/- segment: less, hull, product, overlap, Turn, Gap. -/
import Derived.Test.YtaflgmiagjldhaaS1
set_option linter.unusedVariables false
set_option linter.unusedSimpArgs false
namespace Go.Proofs.Ytaflgmiagjldhaa
open Go Go.RowKit Hd

set_option maxRecDepth 100000 in
set_option maxHeartbeats 1000000 in
theorem less_any (a b c d : Int) (h1 : -9223372036854775808 ≤ a * d ∧ a * d ≤ 9223372036854775807) (h2 : -9223372036854775808 ≤ c * b ∧ c * b ≤ 9223372036854775807) (w : World) :
    Calls Try.prog 41 #[.agg #[.int .i64 a, .int .i64 b], .agg #[.int .i64 c, .int .i64 d]] w fun e w' => e = .returned (.bool (decide (a * d < c * b))) ∧ Below w.heap.size w w' := by
  obtain ⟨HB, B_a, B_b⟩ := box2 w 32 #[.int .i64 a, .int .i64 b] 32 #[.int .i64 c, .int .i64 d]
  go_enter Try.func41, Try.ntmps41
  go_wp2_with fail
  generalize (w.alloc (.cells #[.int .i64 a, .int .i64 b] 32)).alloc (.cells #[.int .i64 c, .int .i64 d] 32) = W0 at *
  obtain ⟨c0a, c1a⟩ := cells2 B_a
  obtain ⟨c0b, c1b⟩ := cells2 B_b
  go_wp2
  go_ret
  exact ⟨rfl, nextw HB.out (by exact sm)⟩

set_option maxRecDepth 100000 in
set_option maxHeartbeats 1000000 in
theorem hull_ll (a b c d : Int) (hx : a < c) (hy : b < d) (w : World) :
    Calls Try.prog 55 #[.agg #[.int .i64 a, .int .i64 b], .agg #[.int .i64 c, .int .i64 d]] w fun e w' => e = .returned (.agg #[.int .i64 (min a c), .int .i64 (min b d), .int .i64 (max a c), .int .i64 (max b d)]) ∧ Below w.heap.size w w' := by
  have e0 : min a c = a := by omega
  have e1 : min b d = b := by omega
  have e2 : max a c = c := by omega
  have e3 : max b d = d := by omega
  rw [e0, e1, e2, e3]
  clear e0 e1 e2 e3
  obtain ⟨HB, B_p, B_q, B_r⟩ := box3 w 23 #[.int .i64 a, .int .i64 b] 23 #[.int .i64 c, .int .i64 d] 29 #[.int .i64 0, .int .i64 0, .int .i64 0, .int .i64 0]
  go_enter Try.func55, Try.ntmps55
  go_upto_region 1 with (fail)
  generalize ((w.alloc (.cells #[.int .i64 a, .int .i64 b] 23)).alloc (.cells #[.int .i64 c, .int .i64 d] 23)).alloc (.cells #[.int .i64 0, .int .i64 0, .int .i64 0, .int .i64 0] 29) = W0 at *
  obtain ⟨c0p, c1p⟩ := cells2 B_p
  obtain ⟨c0q, c1q⟩ := cells2 B_q
  obtain ⟨s0, s1, s2, s3⟩ := cells4 (stor4 B_r (.int .i64 a) (.int .i64 b) (.int .i64 c) (.int .i64 d))
  have HF := stb4 HB (y := w.heap.size + 1 + 1) (by omega) 0 (.int .i64 a) 1 (.int .i64 b) 2 (.int .i64 c) 3 (.int .i64 d)
  obtain ⟨c0r, c1r, c2r, c3r⟩ := cells4 B_r
  obtain ⟨f0r, f1r, f2r, f3r⟩ := froz4 B_r
  go_wp2_with fail
  exact bodyPost_ret (v := .agg #[.int .i64 a, .int .i64 b, .int .i64 c, .int .i64 d]) (by simp [results, Try.results55, go_sem, s0, s1, s2, s3]) rfl ⟨rfl, nextw HF.out (by exact sm)⟩

set_option maxRecDepth 100000 in
set_option maxHeartbeats 1000000 in
theorem hull_le (a b c d : Int) (hx : a < c) (hy : b = d) (w : World) :
    Calls Try.prog 55 #[.agg #[.int .i64 a, .int .i64 b], .agg #[.int .i64 c, .int .i64 d]] w fun e w' => e = .returned (.agg #[.int .i64 (min a c), .int .i64 (min b d), .int .i64 (max a c), .int .i64 (max b d)]) ∧ Below w.heap.size w w' := by
  have e0 : min a c = a := by omega
  have e1 : min b d = b := by omega
  have e2 : max a c = c := by omega
  have e3 : max b d = b := by omega
  rw [e0, e1, e2, e3]
  clear e0 e1 e2 e3
  obtain rfl := hy
  obtain ⟨HB, B_p, B_q, B_r⟩ := box3 w 23 #[.int .i64 a, .int .i64 b] 23 #[.int .i64 c, .int .i64 b] 29 #[.int .i64 0, .int .i64 0, .int .i64 0, .int .i64 0]
  go_enter Try.func55, Try.ntmps55
  go_upto_region 1 with (fail)
  generalize ((w.alloc (.cells #[.int .i64 a, .int .i64 b] 23)).alloc (.cells #[.int .i64 c, .int .i64 b] 23)).alloc (.cells #[.int .i64 0, .int .i64 0, .int .i64 0, .int .i64 0] 29) = W0 at *
  obtain ⟨c0p, c1p⟩ := cells2 B_p
  obtain ⟨c0q, c1q⟩ := cells2 B_q
  obtain ⟨s0, s1, s2, s3⟩ := cells4 (stor4 B_r (.int .i64 a) (.int .i64 b) (.int .i64 c) (.int .i64 b))
  have HF := stb4 HB (y := w.heap.size + 1 + 1) (by omega) 0 (.int .i64 a) 1 (.int .i64 b) 2 (.int .i64 c) 3 (.int .i64 b)
  obtain ⟨c0r, c1r, c2r, c3r⟩ := cells4 B_r
  obtain ⟨f0r, f1r, f2r, f3r⟩ := froz4 B_r
  go_wp2_with fail
  exact bodyPost_ret (v := .agg #[.int .i64 a, .int .i64 b, .int .i64 c, .int .i64 b]) (by simp [results, Try.results55, go_sem, s0, s1, s2, s3]) rfl ⟨rfl, nextw HF.out (by exact sm)⟩

set_option maxRecDepth 100000 in
set_option maxHeartbeats 1000000 in
theorem hull_lg (a b c d : Int) (hx : a < c) (hy : b > d) (w : World) :
    Calls Try.prog 55 #[.agg #[.int .i64 a, .int .i64 b], .agg #[.int .i64 c, .int .i64 d]] w fun e w' => e = .returned (.agg #[.int .i64 (min a c), .int .i64 (min b d), .int .i64 (max a c), .int .i64 (max b d)]) ∧ Below w.heap.size w w' := by
  have e0 : min a c = a := by omega
  have e1 : min b d = d := by omega
  have e2 : max a c = c := by omega
  have e3 : max b d = b := by omega
  rw [e0, e1, e2, e3]
  clear e0 e1 e2 e3
  obtain ⟨HB, B_p, B_q, B_r⟩ := box3 w 23 #[.int .i64 a, .int .i64 b] 23 #[.int .i64 c, .int .i64 d] 29 #[.int .i64 0, .int .i64 0, .int .i64 0, .int .i64 0]
  go_enter Try.func55, Try.ntmps55
  go_upto_region 1 with (fail)
  generalize ((w.alloc (.cells #[.int .i64 a, .int .i64 b] 23)).alloc (.cells #[.int .i64 c, .int .i64 d] 23)).alloc (.cells #[.int .i64 0, .int .i64 0, .int .i64 0, .int .i64 0] 29) = W0 at *
  obtain ⟨c0p, c1p⟩ := cells2 B_p
  obtain ⟨c0q, c1q⟩ := cells2 B_q
  obtain ⟨s0, s1, s2, s3⟩ := cells4 (stor4 B_r (.int .i64 a) (.int .i64 d) (.int .i64 c) (.int .i64 b))
  have HF := stb4 HB (y := w.heap.size + 1 + 1) (by omega) 0 (.int .i64 a) 1 (.int .i64 d) 2 (.int .i64 c) 3 (.int .i64 b)
  obtain ⟨c0r, c1r, c2r, c3r⟩ := cells4 B_r
  obtain ⟨f0r, f1r, f2r, f3r⟩ := froz4 B_r
  go_wp2_with fail
  exact bodyPost_ret (v := .agg #[.int .i64 a, .int .i64 d, .int .i64 c, .int .i64 b]) (by simp [results, Try.results55, go_sem, s0, s1, s2, s3]) rfl ⟨rfl, nextw HF.out (by exact sm)⟩

set_option maxRecDepth 100000 in
set_option maxHeartbeats 1000000 in
theorem hull_el (a b c d : Int) (hx : a = c) (hy : b < d) (w : World) :
    Calls Try.prog 55 #[.agg #[.int .i64 a, .int .i64 b], .agg #[.int .i64 c, .int .i64 d]] w fun e w' => e = .returned (.agg #[.int .i64 (min a c), .int .i64 (min b d), .int .i64 (max a c), .int .i64 (max b d)]) ∧ Below w.heap.size w w' := by
  have e0 : min a c = a := by omega
  have e1 : min b d = b := by omega
  have e2 : max a c = a := by omega
  have e3 : max b d = d := by omega
  rw [e0, e1, e2, e3]
  clear e0 e1 e2 e3
  obtain rfl := hx
  obtain ⟨HB, B_p, B_q, B_r⟩ := box3 w 23 #[.int .i64 a, .int .i64 b] 23 #[.int .i64 a, .int .i64 d] 29 #[.int .i64 0, .int .i64 0, .int .i64 0, .int .i64 0]
  go_enter Try.func55, Try.ntmps55
  go_upto_region 1 with (fail)
  generalize ((w.alloc (.cells #[.int .i64 a, .int .i64 b] 23)).alloc (.cells #[.int .i64 a, .int .i64 d] 23)).alloc (.cells #[.int .i64 0, .int .i64 0, .int .i64 0, .int .i64 0] 29) = W0 at *
  obtain ⟨c0p, c1p⟩ := cells2 B_p
  obtain ⟨c0q, c1q⟩ := cells2 B_q
  obtain ⟨s0, s1, s2, s3⟩ := cells4 (stor4 B_r (.int .i64 a) (.int .i64 b) (.int .i64 a) (.int .i64 d))
  have HF := stb4 HB (y := w.heap.size + 1 + 1) (by omega) 0 (.int .i64 a) 1 (.int .i64 b) 2 (.int .i64 a) 3 (.int .i64 d)
  obtain ⟨c0r, c1r, c2r, c3r⟩ := cells4 B_r
  obtain ⟨f0r, f1r, f2r, f3r⟩ := froz4 B_r
  go_wp2_with fail
  exact bodyPost_ret (v := .agg #[.int .i64 a, .int .i64 b, .int .i64 a, .int .i64 d]) (by simp [results, Try.results55, go_sem, s0, s1, s2, s3]) rfl ⟨rfl, nextw HF.out (by exact sm)⟩

set_option maxRecDepth 100000 in
set_option maxHeartbeats 1000000 in
theorem hull_ee (a b c d : Int) (hx : a = c) (hy : b = d) (w : World) :
    Calls Try.prog 55 #[.agg #[.int .i64 a, .int .i64 b], .agg #[.int .i64 c, .int .i64 d]] w fun e w' => e = .returned (.agg #[.int .i64 (min a c), .int .i64 (min b d), .int .i64 (max a c), .int .i64 (max b d)]) ∧ Below w.heap.size w w' := by
  have e0 : min a c = a := by omega
  have e1 : min b d = b := by omega
  have e2 : max a c = a := by omega
  have e3 : max b d = b := by omega
  rw [e0, e1, e2, e3]
  clear e0 e1 e2 e3
  obtain rfl := hx
  obtain rfl := hy
  obtain ⟨HB, B_p, B_q, B_r⟩ := box3 w 23 #[.int .i64 a, .int .i64 b] 23 #[.int .i64 a, .int .i64 b] 29 #[.int .i64 0, .int .i64 0, .int .i64 0, .int .i64 0]
  go_enter Try.func55, Try.ntmps55
  go_upto_region 1 with (fail)
  generalize ((w.alloc (.cells #[.int .i64 a, .int .i64 b] 23)).alloc (.cells #[.int .i64 a, .int .i64 b] 23)).alloc (.cells #[.int .i64 0, .int .i64 0, .int .i64 0, .int .i64 0] 29) = W0 at *
  obtain ⟨c0p, c1p⟩ := cells2 B_p
  obtain ⟨c0q, c1q⟩ := cells2 B_q
  obtain ⟨s0, s1, s2, s3⟩ := cells4 (stor4 B_r (.int .i64 a) (.int .i64 b) (.int .i64 a) (.int .i64 b))
  have HF := stb4 HB (y := w.heap.size + 1 + 1) (by omega) 0 (.int .i64 a) 1 (.int .i64 b) 2 (.int .i64 a) 3 (.int .i64 b)
  obtain ⟨c0r, c1r, c2r, c3r⟩ := cells4 B_r
  obtain ⟨f0r, f1r, f2r, f3r⟩ := froz4 B_r
  go_wp2_with fail
  exact bodyPost_ret (v := .agg #[.int .i64 a, .int .i64 b, .int .i64 a, .int .i64 b]) (by simp [results, Try.results55, go_sem, s0, s1, s2, s3]) rfl ⟨rfl, nextw HF.out (by exact sm)⟩

set_option maxRecDepth 100000 in
set_option maxHeartbeats 1000000 in
theorem hull_eg (a b c d : Int) (hx : a = c) (hy : b > d) (w : World) :
    Calls Try.prog 55 #[.agg #[.int .i64 a, .int .i64 b], .agg #[.int .i64 c, .int .i64 d]] w fun e w' => e = .returned (.agg #[.int .i64 (min a c), .int .i64 (min b d), .int .i64 (max a c), .int .i64 (max b d)]) ∧ Below w.heap.size w w' := by
  have e0 : min a c = a := by omega
  have e1 : min b d = d := by omega
  have e2 : max a c = a := by omega
  have e3 : max b d = b := by omega
  rw [e0, e1, e2, e3]
  clear e0 e1 e2 e3
  obtain rfl := hx
  obtain ⟨HB, B_p, B_q, B_r⟩ := box3 w 23 #[.int .i64 a, .int .i64 b] 23 #[.int .i64 a, .int .i64 d] 29 #[.int .i64 0, .int .i64 0, .int .i64 0, .int .i64 0]
  go_enter Try.func55, Try.ntmps55
  go_upto_region 1 with (fail)
  generalize ((w.alloc (.cells #[.int .i64 a, .int .i64 b] 23)).alloc (.cells #[.int .i64 a, .int .i64 d] 23)).alloc (.cells #[.int .i64 0, .int .i64 0, .int .i64 0, .int .i64 0] 29) = W0 at *
  obtain ⟨c0p, c1p⟩ := cells2 B_p
  obtain ⟨c0q, c1q⟩ := cells2 B_q
  obtain ⟨s0, s1, s2, s3⟩ := cells4 (stor4 B_r (.int .i64 a) (.int .i64 d) (.int .i64 a) (.int .i64 b))
  have HF := stb4 HB (y := w.heap.size + 1 + 1) (by omega) 0 (.int .i64 a) 1 (.int .i64 d) 2 (.int .i64 a) 3 (.int .i64 b)
  obtain ⟨c0r, c1r, c2r, c3r⟩ := cells4 B_r
  obtain ⟨f0r, f1r, f2r, f3r⟩ := froz4 B_r
  go_wp2_with fail
  exact bodyPost_ret (v := .agg #[.int .i64 a, .int .i64 d, .int .i64 a, .int .i64 b]) (by simp [results, Try.results55, go_sem, s0, s1, s2, s3]) rfl ⟨rfl, nextw HF.out (by exact sm)⟩

set_option maxRecDepth 100000 in
set_option maxHeartbeats 1000000 in
theorem hull_gl (a b c d : Int) (hx : a > c) (hy : b < d) (w : World) :
    Calls Try.prog 55 #[.agg #[.int .i64 a, .int .i64 b], .agg #[.int .i64 c, .int .i64 d]] w fun e w' => e = .returned (.agg #[.int .i64 (min a c), .int .i64 (min b d), .int .i64 (max a c), .int .i64 (max b d)]) ∧ Below w.heap.size w w' := by
  have e0 : min a c = c := by omega
  have e1 : min b d = b := by omega
  have e2 : max a c = a := by omega
  have e3 : max b d = d := by omega
  rw [e0, e1, e2, e3]
  clear e0 e1 e2 e3
  obtain ⟨HB, B_p, B_q, B_r⟩ := box3 w 23 #[.int .i64 a, .int .i64 b] 23 #[.int .i64 c, .int .i64 d] 29 #[.int .i64 0, .int .i64 0, .int .i64 0, .int .i64 0]
  go_enter Try.func55, Try.ntmps55
  go_upto_region 1 with (fail)
  generalize ((w.alloc (.cells #[.int .i64 a, .int .i64 b] 23)).alloc (.cells #[.int .i64 c, .int .i64 d] 23)).alloc (.cells #[.int .i64 0, .int .i64 0, .int .i64 0, .int .i64 0] 29) = W0 at *
  obtain ⟨c0p, c1p⟩ := cells2 B_p
  obtain ⟨c0q, c1q⟩ := cells2 B_q
  obtain ⟨s0, s1, s2, s3⟩ := cells4 (stor4 B_r (.int .i64 c) (.int .i64 b) (.int .i64 a) (.int .i64 d))
  have HF := stb4 HB (y := w.heap.size + 1 + 1) (by omega) 0 (.int .i64 c) 1 (.int .i64 b) 2 (.int .i64 a) 3 (.int .i64 d)
  obtain ⟨c0r, c1r, c2r, c3r⟩ := cells4 B_r
  obtain ⟨f0r, f1r, f2r, f3r⟩ := froz4 B_r
  go_wp2_with fail
  exact bodyPost_ret (v := .agg #[.int .i64 c, .int .i64 b, .int .i64 a, .int .i64 d]) (by simp [results, Try.results55, go_sem, s0, s1, s2, s3]) rfl ⟨rfl, nextw HF.out (by exact sm)⟩

set_option maxRecDepth 100000 in
set_option maxHeartbeats 1000000 in
theorem hull_ge (a b c d : Int) (hx : a > c) (hy : b = d) (w : World) :
    Calls Try.prog 55 #[.agg #[.int .i64 a, .int .i64 b], .agg #[.int .i64 c, .int .i64 d]] w fun e w' => e = .returned (.agg #[.int .i64 (min a c), .int .i64 (min b d), .int .i64 (max a c), .int .i64 (max b d)]) ∧ Below w.heap.size w w' := by
  have e0 : min a c = c := by omega
  have e1 : min b d = b := by omega
  have e2 : max a c = a := by omega
  have e3 : max b d = b := by omega
  rw [e0, e1, e2, e3]
  clear e0 e1 e2 e3
  obtain rfl := hy
  obtain ⟨HB, B_p, B_q, B_r⟩ := box3 w 23 #[.int .i64 a, .int .i64 b] 23 #[.int .i64 c, .int .i64 b] 29 #[.int .i64 0, .int .i64 0, .int .i64 0, .int .i64 0]
  go_enter Try.func55, Try.ntmps55
  go_upto_region 1 with (fail)
  generalize ((w.alloc (.cells #[.int .i64 a, .int .i64 b] 23)).alloc (.cells #[.int .i64 c, .int .i64 b] 23)).alloc (.cells #[.int .i64 0, .int .i64 0, .int .i64 0, .int .i64 0] 29) = W0 at *
  obtain ⟨c0p, c1p⟩ := cells2 B_p
  obtain ⟨c0q, c1q⟩ := cells2 B_q
  obtain ⟨s0, s1, s2, s3⟩ := cells4 (stor4 B_r (.int .i64 c) (.int .i64 b) (.int .i64 a) (.int .i64 b))
  have HF := stb4 HB (y := w.heap.size + 1 + 1) (by omega) 0 (.int .i64 c) 1 (.int .i64 b) 2 (.int .i64 a) 3 (.int .i64 b)
  obtain ⟨c0r, c1r, c2r, c3r⟩ := cells4 B_r
  obtain ⟨f0r, f1r, f2r, f3r⟩ := froz4 B_r
  go_wp2_with fail
  exact bodyPost_ret (v := .agg #[.int .i64 c, .int .i64 b, .int .i64 a, .int .i64 b]) (by simp [results, Try.results55, go_sem, s0, s1, s2, s3]) rfl ⟨rfl, nextw HF.out (by exact sm)⟩

set_option maxRecDepth 100000 in
set_option maxHeartbeats 1000000 in
theorem hull_gg (a b c d : Int) (hx : a > c) (hy : b > d) (w : World) :
    Calls Try.prog 55 #[.agg #[.int .i64 a, .int .i64 b], .agg #[.int .i64 c, .int .i64 d]] w fun e w' => e = .returned (.agg #[.int .i64 (min a c), .int .i64 (min b d), .int .i64 (max a c), .int .i64 (max b d)]) ∧ Below w.heap.size w w' := by
  have e0 : min a c = c := by omega
  have e1 : min b d = d := by omega
  have e2 : max a c = a := by omega
  have e3 : max b d = b := by omega
  rw [e0, e1, e2, e3]
  clear e0 e1 e2 e3
  obtain ⟨HB, B_p, B_q, B_r⟩ := box3 w 23 #[.int .i64 a, .int .i64 b] 23 #[.int .i64 c, .int .i64 d] 29 #[.int .i64 0, .int .i64 0, .int .i64 0, .int .i64 0]
  go_enter Try.func55, Try.ntmps55
  go_upto_region 1 with (fail)
  generalize ((w.alloc (.cells #[.int .i64 a, .int .i64 b] 23)).alloc (.cells #[.int .i64 c, .int .i64 d] 23)).alloc (.cells #[.int .i64 0, .int .i64 0, .int .i64 0, .int .i64 0] 29) = W0 at *
  obtain ⟨c0p, c1p⟩ := cells2 B_p
  obtain ⟨c0q, c1q⟩ := cells2 B_q
  obtain ⟨s0, s1, s2, s3⟩ := cells4 (stor4 B_r (.int .i64 c) (.int .i64 d) (.int .i64 a) (.int .i64 b))
  have HF := stb4 HB (y := w.heap.size + 1 + 1) (by omega) 0 (.int .i64 c) 1 (.int .i64 d) 2 (.int .i64 a) 3 (.int .i64 b)
  obtain ⟨c0r, c1r, c2r, c3r⟩ := cells4 B_r
  obtain ⟨f0r, f1r, f2r, f3r⟩ := froz4 B_r
  go_wp2_with fail
  exact bodyPost_ret (v := .agg #[.int .i64 c, .int .i64 d, .int .i64 a, .int .i64 b]) (by simp [results, Try.results55, go_sem, s0, s1, s2, s3]) rfl ⟨rfl, nextw HF.out (by exact sm)⟩

theorem hull_any (a b c d : Int) (w : World) :
    Calls Try.prog 55 #[.agg #[.int .i64 a, .int .i64 b], .agg #[.int .i64 c, .int .i64 d]] w fun e w' => e = .returned (.agg #[.int .i64 (min a c), .int .i64 (min b d), .int .i64 (max a c), .int .i64 (max b d)]) ∧ Below w.heap.size w w' := by
  rcases Int.lt_trichotomy a c with hx | hx | hx <;> rcases Int.lt_trichotomy b d with hy | hy | hy
  · exact hull_ll a b c d hx hy w
  · exact hull_le a b c d hx hy w
  · exact hull_lg a b c d hx hy w
  · exact hull_el a b c d hx hy w
  · exact hull_ee a b c d hx hy w
  · exact hull_eg a b c d hx hy w
  · exact hull_gl a b c d hx hy w
  · exact hull_ge a b c d hx hy w
  · exact hull_gg a b c d hx hy w

set_option maxRecDepth 100000 in
set_option maxHeartbeats 1000000 in
theorem product_any (a b c d u v : Int) (hp : OkP a b) (hq : OkP c d) (hr : OkP u v) (w : World) :
    Calls Try.prog 52 #[.agg #[.int .i64 a, .int .i64 b], .agg #[.int .i64 c, .int .i64 d], .agg #[.int .i64 u, .int .i64 v]] w fun e w' => e = .returned (.int .i64 (pr a b c d u v)) ∧ Below w.heap.size w w' := by
  obtain ⟨p1, p2, p3, p4⟩ := hp
  obtain ⟨q1, q2, q3, q4⟩ := hq
  obtain ⟨r1, r2, r3, r4⟩ := hr
  have m1 := mul_le (a := c - a) (b := v - b) (A := 4194304) (B := 4194304) (by omega) (by omega) (by omega) (by omega)
  have m2 := mul_le (a := d - b) (b := u - a) (A := 4194304) (B := 4194304) (by omega) (by omega) (by omega) (by omega)
  skip
  obtain ⟨HB, B_p, B_q, B_r⟩ := box3 w 23 #[.int .i64 a, .int .i64 b] 23 #[.int .i64 c, .int .i64 d] 23 #[.int .i64 u, .int .i64 v]
  go_enter Try.func52, Try.ntmps52
  go_wp2_with fail
  generalize ((w.alloc (.cells #[.int .i64 a, .int .i64 b] 23)).alloc (.cells #[.int .i64 c, .int .i64 d] 23)).alloc (.cells #[.int .i64 u, .int .i64 v] 23) = W0 at *
  obtain ⟨c0p, c1p⟩ := cells2 B_p
  obtain ⟨c0q, c1q⟩ := cells2 B_q
  obtain ⟨c0r, c1r⟩ := cells2 B_r
  go_wp2
  go_ret
  exact ⟨rfl, nextw HB.out (by exact sm)⟩

set_option maxRecDepth 100000 in
set_option maxHeartbeats 1000000 in
theorem overlap_0 (a b c d x0 y0 x1 y1 : Int)  (g0 : x1 < a) (w : World) :
    Calls Try.prog 54 #[.agg #[.int .i64 a, .int .i64 b, .int .i64 c, .int .i64 d], .agg #[.int .i64 x0, .int .i64 y0, .int .i64 x1, .int .i64 y1]] w fun e w' => e = .returned (.bool false) ∧ Below w.heap.size w w' := by
  obtain ⟨HB, B_a, B_b⟩ := box2 w 29 #[.int .i64 a, .int .i64 b, .int .i64 c, .int .i64 d] 29 #[.int .i64 x0, .int .i64 y0, .int .i64 x1, .int .i64 y1]
  go_enter Try.func54, Try.ntmps54
  go_wp2_with fail
  generalize (w.alloc (.cells #[.int .i64 a, .int .i64 b, .int .i64 c, .int .i64 d] 29)).alloc (.cells #[.int .i64 x0, .int .i64 y0, .int .i64 x1, .int .i64 y1] 29) = W0 at *
  obtain ⟨c0a, c1a, c2a, c3a⟩ := cells4 B_a
  obtain ⟨c0b, c1b, c2b, c3b⟩ := cells4 B_b
  go_wp2
  go_ret
  exact ⟨(by first | rfl | exact rbt (by omega) | exact rbf (by omega)), nextw HB.out (by exact sm)⟩

set_option maxRecDepth 100000 in
set_option maxHeartbeats 1000000 in
theorem overlap_1 (a b c d x0 y0 x1 y1 : Int) (g0 : a ≤ x1) (g1 : c < x0) (w : World) :
    Calls Try.prog 54 #[.agg #[.int .i64 a, .int .i64 b, .int .i64 c, .int .i64 d], .agg #[.int .i64 x0, .int .i64 y0, .int .i64 x1, .int .i64 y1]] w fun e w' => e = .returned (.bool false) ∧ Below w.heap.size w w' := by
  obtain ⟨HB, B_a, B_b⟩ := box2 w 29 #[.int .i64 a, .int .i64 b, .int .i64 c, .int .i64 d] 29 #[.int .i64 x0, .int .i64 y0, .int .i64 x1, .int .i64 y1]
  go_enter Try.func54, Try.ntmps54
  go_wp2_with fail
  generalize (w.alloc (.cells #[.int .i64 a, .int .i64 b, .int .i64 c, .int .i64 d] 29)).alloc (.cells #[.int .i64 x0, .int .i64 y0, .int .i64 x1, .int .i64 y1] 29) = W0 at *
  obtain ⟨c0a, c1a, c2a, c3a⟩ := cells4 B_a
  obtain ⟨c0b, c1b, c2b, c3b⟩ := cells4 B_b
  go_wp2
  go_ret
  exact ⟨(by first | rfl | exact rbt (by omega) | exact rbf (by omega)), nextw HB.out (by exact sm)⟩

set_option maxRecDepth 100000 in
set_option maxHeartbeats 1000000 in
theorem overlap_2 (a b c d x0 y0 x1 y1 : Int) (g0 : a ≤ x1) (g1 : x0 ≤ c) (g2 : y1 < b) (w : World) :
    Calls Try.prog 54 #[.agg #[.int .i64 a, .int .i64 b, .int .i64 c, .int .i64 d], .agg #[.int .i64 x0, .int .i64 y0, .int .i64 x1, .int .i64 y1]] w fun e w' => e = .returned (.bool false) ∧ Below w.heap.size w w' := by
  obtain ⟨HB, B_a, B_b⟩ := box2 w 29 #[.int .i64 a, .int .i64 b, .int .i64 c, .int .i64 d] 29 #[.int .i64 x0, .int .i64 y0, .int .i64 x1, .int .i64 y1]
  go_enter Try.func54, Try.ntmps54
  go_wp2_with fail
  generalize (w.alloc (.cells #[.int .i64 a, .int .i64 b, .int .i64 c, .int .i64 d] 29)).alloc (.cells #[.int .i64 x0, .int .i64 y0, .int .i64 x1, .int .i64 y1] 29) = W0 at *
  obtain ⟨c0a, c1a, c2a, c3a⟩ := cells4 B_a
  obtain ⟨c0b, c1b, c2b, c3b⟩ := cells4 B_b
  go_wp2
  go_ret
  exact ⟨(by first | rfl | exact rbt (by omega) | exact rbf (by omega)), nextw HB.out (by exact sm)⟩

set_option maxRecDepth 100000 in
set_option maxHeartbeats 1000000 in
theorem overlap_3 (a b c d x0 y0 x1 y1 : Int) (g0 : a ≤ x1) (g1 : x0 ≤ c) (g2 : b ≤ y1) (g3 : d < y0) (w : World) :
    Calls Try.prog 54 #[.agg #[.int .i64 a, .int .i64 b, .int .i64 c, .int .i64 d], .agg #[.int .i64 x0, .int .i64 y0, .int .i64 x1, .int .i64 y1]] w fun e w' => e = .returned (.bool false) ∧ Below w.heap.size w w' := by
  obtain ⟨HB, B_a, B_b⟩ := box2 w 29 #[.int .i64 a, .int .i64 b, .int .i64 c, .int .i64 d] 29 #[.int .i64 x0, .int .i64 y0, .int .i64 x1, .int .i64 y1]
  go_enter Try.func54, Try.ntmps54
  go_wp2_with fail
  generalize (w.alloc (.cells #[.int .i64 a, .int .i64 b, .int .i64 c, .int .i64 d] 29)).alloc (.cells #[.int .i64 x0, .int .i64 y0, .int .i64 x1, .int .i64 y1] 29) = W0 at *
  obtain ⟨c0a, c1a, c2a, c3a⟩ := cells4 B_a
  obtain ⟨c0b, c1b, c2b, c3b⟩ := cells4 B_b
  go_wp2
  go_ret
  exact ⟨(by first | rfl | exact rbt (by omega) | exact rbf (by omega)), nextw HB.out (by exact sm)⟩

set_option maxRecDepth 100000 in
set_option maxHeartbeats 1000000 in
theorem overlap_ok (a b c d x0 y0 x1 y1 : Int) (g0 : a ≤ x1) (g1 : x0 ≤ c) (g2 : b ≤ y1) (g3 : y0 ≤ d) (w : World) :
    Calls Try.prog 54 #[.agg #[.int .i64 a, .int .i64 b, .int .i64 c, .int .i64 d], .agg #[.int .i64 x0, .int .i64 y0, .int .i64 x1, .int .i64 y1]] w fun e w' => e = .returned (.bool true) ∧ Below w.heap.size w w' := by
  obtain ⟨HB, B_a, B_b⟩ := box2 w 29 #[.int .i64 a, .int .i64 b, .int .i64 c, .int .i64 d] 29 #[.int .i64 x0, .int .i64 y0, .int .i64 x1, .int .i64 y1]
  go_enter Try.func54, Try.ntmps54
  go_wp2_with fail
  generalize (w.alloc (.cells #[.int .i64 a, .int .i64 b, .int .i64 c, .int .i64 d] 29)).alloc (.cells #[.int .i64 x0, .int .i64 y0, .int .i64 x1, .int .i64 y1] 29) = W0 at *
  obtain ⟨c0a, c1a, c2a, c3a⟩ := cells4 B_a
  obtain ⟨c0b, c1b, c2b, c3b⟩ := cells4 B_b
  go_wp2
  go_ret
  exact ⟨(by first | rfl | exact rbt (by omega) | exact rbf (by omega)), nextw HB.out (by exact sm)⟩

theorem overlap_t {a b c d x0 y0 x1 y1 : Int} (h : a ≤ x1 ∧ x0 ≤ c ∧ b ≤ y1 ∧ y0 ≤ d) (w : World) :
    Calls Try.prog 54 #[.agg #[.int .i64 a, .int .i64 b, .int .i64 c, .int .i64 d], .agg #[.int .i64 x0, .int .i64 y0, .int .i64 x1, .int .i64 y1]] w fun e w' => e = .returned (.bool true) ∧ Below w.heap.size w w' := overlap_ok a b c d x0 y0 x1 y1 h.1 h.2.1 h.2.2.1 h.2.2.2 w
theorem overlap_f {a b c d x0 y0 x1 y1 : Int} (h : ¬ (a ≤ x1 ∧ x0 ≤ c ∧ b ≤ y1 ∧ y0 ≤ d)) (w : World) :
    Calls Try.prog 54 #[.agg #[.int .i64 a, .int .i64 b, .int .i64 c, .int .i64 d], .agg #[.int .i64 x0, .int .i64 y0, .int .i64 x1, .int .i64 y1]] w fun e w' => e = .returned (.bool false) ∧ Below w.heap.size w w' := by
  by_cases g0 : a ≤ x1
  · by_cases g1 : x0 ≤ c
    · by_cases g2 : b ≤ y1
      · exact overlap_3 a b c d x0 y0 x1 y1 g0 g1 g2 (by omega) w
      · exact overlap_2 a b c d x0 y0 x1 y1 g0 g1 (by omega) w
    · exact overlap_1 a b c d x0 y0 x1 y1 g0 (by omega) w
  · exact overlap_0 a b c d x0 y0 x1 y1 (by omega) w

set_option maxRecDepth 100000 in
set_option maxHeartbeats 1000000 in
theorem Cmp0_l (n : Int) (h : n < 0) (w : World) :
    Calls Try.prog 51 #[.int .i64 n, .int .i64 0] w fun e w' => e = .returned (.int .i64 (-1)) ∧ w = w' := by
  go_enter Try.func51, Try.ntmps51
  go_wp2
  go_ret
  exact ⟨rfl, rfl⟩

set_option maxRecDepth 100000 in
set_option maxHeartbeats 1000000 in
theorem Cmp0_e  (w : World) :
    Calls Try.prog 51 #[.int .i64 0, .int .i64 0] w fun e w' => e = .returned (.int .i64 (0)) ∧ w = w' := by
  go_enter Try.func51, Try.ntmps51
  go_wp2
  go_ret
  exact ⟨rfl, rfl⟩

set_option maxRecDepth 100000 in
set_option maxHeartbeats 1000000 in
theorem Cmp0_g (n : Int) (h : 0 < n) (w : World) :
    Calls Try.prog 51 #[.int .i64 n, .int .i64 0] w fun e w' => e = .returned (.int .i64 (1)) ∧ w = w' := by
  go_enter Try.func51, Try.ntmps51
  go_wp2
  go_ret
  exact ⟨rfl, rfl⟩

theorem Cmp0_any (n : Int) (w : World) : Calls Try.prog 51 #[.int .i64 n, .int .i64 0] w fun e w' => e = .returned (.int .i64 (sgn n)) ∧ w = w' := by
  rcases Int.lt_trichotomy n 0 with h | h | h
  · have e : sgn n = -1 := by unfold sgn; rw [if_pos h]
    rw [e]; exact Cmp0_l n h w
  · subst h; exact Cmp0_e w
  · have e : sgn n = 1 := by unfold sgn; rw [if_neg (by omega), if_pos h]
    rw [e]; exact Cmp0_g n h w

set_option maxRecDepth 100000 in
set_option maxHeartbeats 1000000 in
theorem Turn_0 (a b c d u v : Int)  (hp : ¬ OkP a b) (w : World) :
    Calls Try.prog 28 #[.agg #[.int .i64 a, .int .i64 b], .agg #[.int .i64 c, .int .i64 d], .agg #[.int .i64 u, .int .i64 v]] w fun e w' => e = .returned (.int .i64 0) ∧ Below w.heap.size w w' := by
  have H0 := Lib.hid (fun w => validPoint_f hp w)
  clear hp
  obtain ⟨HB, B_p, B_q, B_r⟩ := box3 w 23 #[.int .i64 a, .int .i64 b] 23 #[.int .i64 c, .int .i64 d] 23 #[.int .i64 u, .int .i64 v]
  go_enter Try.func28, Try.ntmps28
  go_wp2_with fail
  generalize ((w.alloc (.cells #[.int .i64 a, .int .i64 b] 23)).alloc (.cells #[.int .i64 c, .int .i64 d] 23)).alloc (.cells #[.int .i64 u, .int .i64 v] 23) = W0 at *
  obtain ⟨c0p, c1p⟩ := cells2 B_p
  refine (H0.out _).mono ?_
  clear c0p c1p
  rintro e w1 ⟨rfl, bb⟩
  replace bb := nextw (w0 := W0) (by exact sm) bb
  replace B_p := mv B_p bb
  replace B_q := mv B_q bb
  replace B_r := mv B_r bb
  replace HB := nx HB bb
  clear bb
  go_wp2
  go_ret
  exact ⟨rfl, nextw HB.out (by exact sm)⟩

set_option maxRecDepth 100000 in
set_option maxHeartbeats 1000000 in
theorem Turn_1 (a b c d u v : Int) (hp : OkP a b) (hq : ¬ OkP c d) (w : World) :
    Calls Try.prog 28 #[.agg #[.int .i64 a, .int .i64 b], .agg #[.int .i64 c, .int .i64 d], .agg #[.int .i64 u, .int .i64 v]] w fun e w' => e = .returned (.int .i64 0) ∧ Below w.heap.size w w' := by
  have H0 := Lib.hid (fun w => validPoint_t hp w)
  have H1 := Lib.hid (fun w => validPoint_f hq w)
  clear hp hq
  obtain ⟨HB, B_p, B_q, B_r⟩ := box3 w 23 #[.int .i64 a, .int .i64 b] 23 #[.int .i64 c, .int .i64 d] 23 #[.int .i64 u, .int .i64 v]
  go_enter Try.func28, Try.ntmps28
  go_wp2_with fail
  generalize ((w.alloc (.cells #[.int .i64 a, .int .i64 b] 23)).alloc (.cells #[.int .i64 c, .int .i64 d] 23)).alloc (.cells #[.int .i64 u, .int .i64 v] 23) = W0 at *
  obtain ⟨c0p, c1p⟩ := cells2 B_p
  refine (H0.out _).mono ?_
  clear c0p c1p
  rintro e w1 ⟨rfl, bb⟩
  replace bb := nextw (w0 := W0) (by exact sm) bb
  replace B_p := mv B_p bb
  replace B_q := mv B_q bb
  replace B_r := mv B_r bb
  replace HB := nx HB bb
  clear bb
  obtain ⟨c0q, c1q⟩ := cells2 B_q
  go_wp2_with fail
  refine (H1.out _).mono ?_
  clear c0q c1q
  rintro e w2 ⟨rfl, bb⟩
  replace bb := nextw (w0 := w1) (by exact sm) bb
  replace B_p := mv B_p bb
  replace B_q := mv B_q bb
  replace B_r := mv B_r bb
  replace HB := nx HB bb
  clear bb
  go_wp2
  go_ret
  exact ⟨rfl, nextw HB.out (by exact sm)⟩

set_option maxRecDepth 100000 in
set_option maxHeartbeats 1000000 in
theorem Turn_2 (a b c d u v : Int) (hp : OkP a b) (hq : OkP c d) (hr : ¬ OkP u v) (w : World) :
    Calls Try.prog 28 #[.agg #[.int .i64 a, .int .i64 b], .agg #[.int .i64 c, .int .i64 d], .agg #[.int .i64 u, .int .i64 v]] w fun e w' => e = .returned (.int .i64 0) ∧ Below w.heap.size w w' := by
  have H0 := Lib.hid (fun w => validPoint_t hp w)
  have H1 := Lib.hid (fun w => validPoint_t hq w)
  have H2 := Lib.hid (fun w => validPoint_f hr w)
  clear hp hq hr
  obtain ⟨HB, B_p, B_q, B_r⟩ := box3 w 23 #[.int .i64 a, .int .i64 b] 23 #[.int .i64 c, .int .i64 d] 23 #[.int .i64 u, .int .i64 v]
  go_enter Try.func28, Try.ntmps28
  go_wp2_with fail
  generalize ((w.alloc (.cells #[.int .i64 a, .int .i64 b] 23)).alloc (.cells #[.int .i64 c, .int .i64 d] 23)).alloc (.cells #[.int .i64 u, .int .i64 v] 23) = W0 at *
  obtain ⟨c0p, c1p⟩ := cells2 B_p
  refine (H0.out _).mono ?_
  clear c0p c1p
  rintro e w1 ⟨rfl, bb⟩
  replace bb := nextw (w0 := W0) (by exact sm) bb
  replace B_p := mv B_p bb
  replace B_q := mv B_q bb
  replace B_r := mv B_r bb
  replace HB := nx HB bb
  clear bb
  obtain ⟨c0q, c1q⟩ := cells2 B_q
  go_wp2_with fail
  refine (H1.out _).mono ?_
  clear c0q c1q
  rintro e w2 ⟨rfl, bb⟩
  replace bb := nextw (w0 := w1) (by exact sm) bb
  replace B_p := mv B_p bb
  replace B_q := mv B_q bb
  replace B_r := mv B_r bb
  replace HB := nx HB bb
  clear bb
  obtain ⟨c0r, c1r⟩ := cells2 B_r
  go_wp2_with fail
  refine (H2.out _).mono ?_
  clear c0r c1r
  rintro e w3 ⟨rfl, bb⟩
  replace bb := nextw (w0 := w2) (by exact sm) bb
  replace B_p := mv B_p bb
  replace B_q := mv B_q bb
  replace B_r := mv B_r bb
  replace HB := nx HB bb
  clear bb
  go_wp2
  go_ret
  exact ⟨rfl, nextw HB.out (by exact sm)⟩

set_option maxRecDepth 100000 in
set_option maxHeartbeats 1000000 in
theorem Turn_ok (a b c d u v : Int) (hp : OkP a b) (hq : OkP c d) (hr : OkP u v) (w : World) :
    Calls Try.prog 28 #[.agg #[.int .i64 a, .int .i64 b], .agg #[.int .i64 c, .int .i64 d], .agg #[.int .i64 u, .int .i64 v]] w fun e w' => e = .returned (.int .i64 (sgn (pr a b c d u v))) ∧ Below w.heap.size w w' := by
  have H0 := Lib.hid (fun w => validPoint_t hp w)
  have H1 := Lib.hid (fun w => validPoint_t hq w)
  have H2 := Lib.hid (fun w => validPoint_t hr w)
  have HX := Lib.hid (fun w => product_any a b c d u v hp hq hr w)
  have HC := Lib.hid (fun w => Cmp0_any (pr a b c d u v) w)
  generalize pr a b c d u v = n at *
  clear hp hq hr
  obtain ⟨HB, B_p, B_q, B_r⟩ := box3 w 23 #[.int .i64 a, .int .i64 b] 23 #[.int .i64 c, .int .i64 d] 23 #[.int .i64 u, .int .i64 v]
  go_enter Try.func28, Try.ntmps28
  go_wp2_with fail
  generalize ((w.alloc (.cells #[.int .i64 a, .int .i64 b] 23)).alloc (.cells #[.int .i64 c, .int .i64 d] 23)).alloc (.cells #[.int .i64 u, .int .i64 v] 23) = W0 at *
  obtain ⟨c0p, c1p⟩ := cells2 B_p
  refine (H0.out _).mono ?_
  clear c0p c1p
  rintro e w1 ⟨rfl, bb⟩
  replace bb := nextw (w0 := W0) (by exact sm) bb
  replace B_p := mv B_p bb
  replace B_q := mv B_q bb
  replace B_r := mv B_r bb
  replace HB := nx HB bb
  clear bb
  obtain ⟨c0q, c1q⟩ := cells2 B_q
  go_wp2_with fail
  refine (H1.out _).mono ?_
  clear c0q c1q
  rintro e w2 ⟨rfl, bb⟩
  replace bb := nextw (w0 := w1) (by exact sm) bb
  replace B_p := mv B_p bb
  replace B_q := mv B_q bb
  replace B_r := mv B_r bb
  replace HB := nx HB bb
  clear bb
  obtain ⟨c0r, c1r⟩ := cells2 B_r
  go_wp2_with fail
  refine (H2.out _).mono ?_
  clear c0r c1r
  rintro e w3 ⟨rfl, bb⟩
  replace bb := nextw (w0 := w2) (by exact sm) bb
  replace B_p := mv B_p bb
  replace B_q := mv B_q bb
  replace B_r := mv B_r bb
  replace HB := nx HB bb
  clear bb
  obtain ⟨c0p, c1p⟩ := cells2 B_p
  obtain ⟨c0q, c1q⟩ := cells2 B_q
  obtain ⟨c0r, c1r⟩ := cells2 B_r
  go_wp2_with fail
  refine (HX.out _).mono ?_
  clear c0p c1p c0q c1q c0r c1r
  rintro e w4 ⟨rfl, bb⟩
  replace bb := nextw (w0 := w3) (by exact sm) bb
  replace B_p := mv B_p bb
  replace B_q := mv B_q bb
  replace B_r := mv B_r bb
  replace HB := nx HB bb
  clear bb
  go_wp2_with fail
  refine (HC.out _).mono ?_
  rintro e w5 ⟨rfl, rfl⟩
  go_wp2
  go_ret
  exact ⟨rfl, nextw HB.out (by exact sm)⟩

set_option maxRecDepth 100000 in
set_option maxHeartbeats 1000000 in
theorem Gap_0 (a b x0 y0 x1 y1 : Int) (hp : ¬ OkP a b) (w : World) :
    Calls Try.prog 23 #[.agg #[.int .i64 a, .int .i64 b], .agg #[.int .i64 x0, .int .i64 y0, .int .i64 x1, .int .i64 y1]] w fun e w' => e = .returned (.int .i64 0) ∧ Below w.heap.size w w' := by
  have H0 := Lib.hid (fun w => validPoint_f hp w)
  clear hp
  obtain ⟨HB, B_p, B_r⟩ := box2 w 23 #[.int .i64 a, .int .i64 b] 29 #[.int .i64 x0, .int .i64 y0, .int .i64 x1, .int .i64 y1]
  go_enter Try.func23, Try.ntmps23
  go_wp2_with fail
  generalize (w.alloc (.cells #[.int .i64 a, .int .i64 b] 23)).alloc (.cells #[.int .i64 x0, .int .i64 y0, .int .i64 x1, .int .i64 y1] 29) = W0 at *
  obtain ⟨c0p, c1p⟩ := cells2 B_p
  refine (H0.out _).mono ?_
  clear c0p c1p
  rintro e w1 ⟨rfl, bb⟩
  replace bb := nextw (w0 := W0) (by exact sm) bb
  replace B_p := mv B_p bb
  replace B_r := mv B_r bb
  replace HB := nx HB bb
  clear bb
  go_wp2
  go_ret
  exact ⟨rfl, nextw HB.out (by exact sm)⟩

set_option maxRecDepth 100000 in
set_option maxHeartbeats 1000000 in
theorem Gap_1 (a b x0 y0 x1 y1 : Int) (hp : OkP a b) (hr : ¬ OkR x0 y0 x1 y1) (w : World) :
    Calls Try.prog 23 #[.agg #[.int .i64 a, .int .i64 b], .agg #[.int .i64 x0, .int .i64 y0, .int .i64 x1, .int .i64 y1]] w fun e w' => e = .returned (.int .i64 0) ∧ Below w.heap.size w w' := by
  have H0 := Lib.hid (fun w => validPoint_t hp w)
  have H1 := Lib.hid (fun w => ValidRect_f hr w)
  clear hp hr
  obtain ⟨HB, B_p, B_r⟩ := box2 w 23 #[.int .i64 a, .int .i64 b] 29 #[.int .i64 x0, .int .i64 y0, .int .i64 x1, .int .i64 y1]
  go_enter Try.func23, Try.ntmps23
  go_wp2_with fail
  generalize (w.alloc (.cells #[.int .i64 a, .int .i64 b] 23)).alloc (.cells #[.int .i64 x0, .int .i64 y0, .int .i64 x1, .int .i64 y1] 29) = W0 at *
  obtain ⟨c0p, c1p⟩ := cells2 B_p
  refine (H0.out _).mono ?_
  clear c0p c1p
  rintro e w1 ⟨rfl, bb⟩
  replace bb := nextw (w0 := W0) (by exact sm) bb
  replace B_p := mv B_p bb
  replace B_r := mv B_r bb
  replace HB := nx HB bb
  clear bb
  obtain ⟨c0r, c1r, c2r, c3r⟩ := cells4 B_r
  go_wp2_with fail
  refine (H1.out _).mono ?_
  clear c0r c1r c2r c3r
  rintro e w2 ⟨rfl, bb⟩
  replace bb := nextw (w0 := w1) (by exact sm) bb
  replace B_p := mv B_p bb
  replace B_r := mv B_r bb
  replace HB := nx HB bb
  clear bb
  go_wp2
  go_ret
  exact ⟨rfl, nextw HB.out (by exact sm)⟩

set_option maxRecDepth 100000 in
set_option maxHeartbeats 1000000 in
theorem Gap_ok (a b x0 y0 x1 y1 : Int) (hp : OkP a b) (hr : OkR x0 y0 x1 y1) (w : World) :
    Calls Try.prog 23 #[.agg #[.int .i64 a, .int .i64 b], .agg #[.int .i64 x0, .int .i64 y0, .int .i64 x1, .int .i64 y1]] w fun e w' => e = .returned (.int .i64 (gapM a b x0 y0 x1 y1)) ∧ Below w.heap.size w w' := by
  have H0 := Lib.hid (fun w => validPoint_t hp w)
  have H1 := Lib.hid (fun w => ValidRect_t hr w)
  obtain ⟨p1, p2, p3, p4⟩ := hp
  obtain ⟨r1, r2, r3, r4, r5, r6, r7, r8, r9, r10⟩ := hr
  have E1 : off a x0 x1 = if (if x0 - a < a - x1 then a - x1 else x0 - a) < 0 then 0 else if x0 - a < a - x1 then a - x1 else x0 - a := rfl
  have E2 : off b y0 y1 = if (if y0 - b < b - y1 then b - y1 else y0 - b) < 0 then 0 else if y0 - b < b - y1 then b - y1 else y0 - b := rfl
  have o1 := off_pos a x0 x1
  have o2 := off_le p1 p2 r1 r2 r5 r6
  have o3 := off_pos b y0 y1
  have o4 := off_le p3 p4 r3 r4 r7 r8
  rw [show gapM a b x0 y0 x1 y1 = off a x0 x1 * off a x0 x1 + off b y0 y1 * off b y0 y1 from rfl]
  generalize off a x0 x1 = u at *
  generalize off b y0 y1 = v at *
  have m1 := mul_le (a := u) (b := u) (A := 4194304) (B := 4194304) (by omega) (by omega) (by omega) (by omega)
  have m2 := mul_le (a := v) (b := v) (A := 4194304) (B := 4194304) (by omega) (by omega) (by omega) (by omega)
  replace E1 := Lib.hid E1
  replace E2 := Lib.hid E2
  obtain ⟨HB, B_p, B_r⟩ := box2 w 23 #[.int .i64 a, .int .i64 b] 29 #[.int .i64 x0, .int .i64 y0, .int .i64 x1, .int .i64 y1]
  go_enter Try.func23, Try.ntmps23
  go_wp2_with fail
  generalize (w.alloc (.cells #[.int .i64 a, .int .i64 b] 23)).alloc (.cells #[.int .i64 x0, .int .i64 y0, .int .i64 x1, .int .i64 y1] 29) = W0 at *
  obtain ⟨c0p, c1p⟩ := cells2 B_p
  refine (H0.out _).mono ?_
  clear c0p c1p
  rintro e w1 ⟨rfl, bb⟩
  replace bb := nextw (w0 := W0) (by exact sm) bb
  replace B_p := mv B_p bb
  replace B_r := mv B_r bb
  replace HB := nx HB bb
  clear bb
  obtain ⟨c0r, c1r, c2r, c3r⟩ := cells4 B_r
  go_wp2_with fail
  refine (H1.out _).mono ?_
  clear c0r c1r c2r c3r
  rintro e w2 ⟨rfl, bb⟩
  replace bb := nextw (w0 := w1) (by exact sm) bb
  replace B_p := mv B_p bb
  replace B_r := mv B_r bb
  replace HB := nx HB bb
  clear bb
  obtain ⟨c0p, c1p⟩ := cells2 B_p
  obtain ⟨c0r, c1r, c2r, c3r⟩ := cells4 B_r
  go_upto_region 4 with (fail)
  rw [← E1.out]
  clear E1
  go_upto_region 5 with (fail)
  rw [← E2.out]
  clear E2
  go_wp2
  go_ret
  exact ⟨rfl, nextw HB.out (by exact sm)⟩
end Go.Proofs.Ytaflgmiagjldhaa
