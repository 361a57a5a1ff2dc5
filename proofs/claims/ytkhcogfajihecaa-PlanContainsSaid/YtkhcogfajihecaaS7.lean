/- segment: Meets, Before; the reference's Valid, axis. -/
import Derived.Test.YtkhcogfajihecaaS6
set_option linter.unusedVariables false
set_option linter.unusedSimpArgs false
namespace Go.Proofs.Ytkhcogfajihecaa
open Go Go.RowKit Hd

/-- Meets and Before. -/
def meB (a b x y d lo hi x0 y0 x1 y1 : Int) : Bool := decide (0 ≤ lo ∧ lo ≤ hi ∧ hi ≤ 65536) && (visB a b x y d x0 y0 x1 y1 && (!decide (hi * (visS a b x y d x0 y0 x1 y1).j < (visS a b x y d x0 y0 x1 y1).i * d) && !decide ((visS a b x y d x0 y0 x1 y1).o * d < lo * (visS a b x y d x0 y0 x1 y1).u)))
def beB (a b x y d hi x0 y0 x1 y1 : Int) : Bool := decide (0 ≤ hi ∧ hi ≤ 65536) && (visB a b x y d x0 y0 x1 y1 && decide ((visS a b x y d x0 y0 x1 y1).i * d < hi * (visS a b x y d x0 y0 x1 y1).j))

set_option maxRecDepth 100000 in
set_option maxHeartbeats 1000000 in
theorem RValid_0 (a b x y d x0 y0 x1 y1 : Int) (hp : ¬ OkP a b) (w : World) :
    Calls Try.prog 98 #[.agg #[.int .i64 a, .int .i64 b], .agg #[.int .i64 x, .int .i64 y, .int .i64 d], .agg #[.int .i64 x0, .int .i64 y0, .int .i64 x1, .int .i64 y1]] w fun e w' => e = .returned (.bool false) ∧ Below w.heap.size w w' := by
  have H0 := Lib.hid (fun w => RPoint_f hp w)
  clear hp
  obtain ⟨HB, B_p, B_v, B_r⟩ := box3 w 43 #[.int .i64 a, .int .i64 b] 59 #[.int .i64 x, .int .i64 y, .int .i64 d] 45 #[.int .i64 x0, .int .i64 y0, .int .i64 x1, .int .i64 y1]
  go_enter Try.func98, Try.ntmps98
  go_wp2_with fail
  generalize ((w.alloc (.cells #[.int .i64 a, .int .i64 b] 43)).alloc (.cells #[.int .i64 x, .int .i64 y, .int .i64 d] 59)).alloc (.cells #[.int .i64 x0, .int .i64 y0, .int .i64 x1, .int .i64 y1] 45) = W0 at *
  obtain ⟨c0p, c1p⟩ := cells2 B_p
  refine (H0.out _).mono ?_
  clear c0p c1p
  rintro e w1 ⟨rfl, bb⟩
  replace bb := nextw (w0 := W0) (by exact sm) bb
  replace B_p := mv B_p bb
  replace B_v := mv B_v bb
  replace B_r := mv B_r bb
  replace HB := nx HB bb
  clear bb
  go_wp2
  go_ret
  exact ⟨rfl, nextw HB.out (by exact sm)⟩

set_option maxRecDepth 100000 in
set_option maxHeartbeats 1000000 in
theorem RValid_1 (a b x y d x0 y0 x1 y1 : Int) (hp : OkP a b) (hv : ¬ OkV x y d) (w : World) :
    Calls Try.prog 98 #[.agg #[.int .i64 a, .int .i64 b], .agg #[.int .i64 x, .int .i64 y, .int .i64 d], .agg #[.int .i64 x0, .int .i64 y0, .int .i64 x1, .int .i64 y1]] w fun e w' => e = .returned (.bool false) ∧ Below w.heap.size w w' := by
  have H0 := Lib.hid (fun w => RPoint_t hp w)
  have H1 := Lib.hid (fun w => BV_f hv w)
  clear hp hv
  obtain ⟨HB, B_p, B_v, B_r⟩ := box3 w 43 #[.int .i64 a, .int .i64 b] 59 #[.int .i64 x, .int .i64 y, .int .i64 d] 45 #[.int .i64 x0, .int .i64 y0, .int .i64 x1, .int .i64 y1]
  go_enter Try.func98, Try.ntmps98
  go_wp2_with fail
  generalize ((w.alloc (.cells #[.int .i64 a, .int .i64 b] 43)).alloc (.cells #[.int .i64 x, .int .i64 y, .int .i64 d] 59)).alloc (.cells #[.int .i64 x0, .int .i64 y0, .int .i64 x1, .int .i64 y1] 45) = W0 at *
  obtain ⟨c0p, c1p⟩ := cells2 B_p
  refine (H0.out _).mono ?_
  clear c0p c1p
  rintro e w1 ⟨rfl, bb⟩
  replace bb := nextw (w0 := W0) (by exact sm) bb
  replace B_p := mv B_p bb
  replace B_v := mv B_v bb
  replace B_r := mv B_r bb
  replace HB := nx HB bb
  clear bb
  obtain ⟨c0v, c1v, c2v⟩ := cells3 B_v
  go_wp2_with fail
  refine (H1.out _).mono ?_
  clear c0v c1v c2v
  rintro e w2 ⟨rfl, bb⟩
  replace bb := nextw (w0 := w1) (by exact sm) bb
  replace B_p := mv B_p bb
  replace B_v := mv B_v bb
  replace B_r := mv B_r bb
  replace HB := nx HB bb
  clear bb
  go_wp2
  go_ret
  exact ⟨rfl, nextw HB.out (by exact sm)⟩

set_option maxRecDepth 100000 in
set_option maxHeartbeats 1000000 in
theorem RValid_2 (a b x y d x0 y0 x1 y1 : Int) (hp : OkP a b) (hv : OkV x y d) (hr : ¬ OkR x0 y0 x1 y1) (w : World) :
    Calls Try.prog 98 #[.agg #[.int .i64 a, .int .i64 b], .agg #[.int .i64 x, .int .i64 y, .int .i64 d], .agg #[.int .i64 x0, .int .i64 y0, .int .i64 x1, .int .i64 y1]] w fun e w' => e = .returned (.bool false) ∧ Below w.heap.size w w' := by
  have H0 := Lib.hid (fun w => RPoint_t hp w)
  have H1 := Lib.hid (fun w => BV_t hv w)
  have H2 := Lib.hid (fun w => RRect_f hr w)
  clear hp hv hr
  obtain ⟨HB, B_p, B_v, B_r⟩ := box3 w 43 #[.int .i64 a, .int .i64 b] 59 #[.int .i64 x, .int .i64 y, .int .i64 d] 45 #[.int .i64 x0, .int .i64 y0, .int .i64 x1, .int .i64 y1]
  go_enter Try.func98, Try.ntmps98
  go_wp2_with fail
  generalize ((w.alloc (.cells #[.int .i64 a, .int .i64 b] 43)).alloc (.cells #[.int .i64 x, .int .i64 y, .int .i64 d] 59)).alloc (.cells #[.int .i64 x0, .int .i64 y0, .int .i64 x1, .int .i64 y1] 45) = W0 at *
  obtain ⟨c0p, c1p⟩ := cells2 B_p
  refine (H0.out _).mono ?_
  clear c0p c1p
  rintro e w1 ⟨rfl, bb⟩
  replace bb := nextw (w0 := W0) (by exact sm) bb
  replace B_p := mv B_p bb
  replace B_v := mv B_v bb
  replace B_r := mv B_r bb
  replace HB := nx HB bb
  clear bb
  obtain ⟨c0v, c1v, c2v⟩ := cells3 B_v
  go_wp2_with fail
  refine (H1.out _).mono ?_
  clear c0v c1v c2v
  rintro e w2 ⟨rfl, bb⟩
  replace bb := nextw (w0 := w1) (by exact sm) bb
  replace B_p := mv B_p bb
  replace B_v := mv B_v bb
  replace B_r := mv B_r bb
  replace HB := nx HB bb
  clear bb
  obtain ⟨c0r, c1r, c2r, c3r⟩ := cells4 B_r
  go_wp2_with fail
  refine (H2.out _).mono ?_
  clear c0r c1r c2r c3r
  rintro e w3 ⟨rfl, bb⟩
  replace bb := nextw (w0 := w2) (by exact sm) bb
  replace B_p := mv B_p bb
  replace B_v := mv B_v bb
  replace B_r := mv B_r bb
  replace HB := nx HB bb
  clear bb
  go_wp2
  go_ret
  exact ⟨rfl, nextw HB.out (by exact sm)⟩

set_option maxRecDepth 100000 in
set_option maxHeartbeats 1000000 in
theorem RValid_ok (a b x y d x0 y0 x1 y1 : Int) (hp : OkP a b) (hv : OkV x y d) (hr : OkR x0 y0 x1 y1) (w : World) :
    Calls Try.prog 98 #[.agg #[.int .i64 a, .int .i64 b], .agg #[.int .i64 x, .int .i64 y, .int .i64 d], .agg #[.int .i64 x0, .int .i64 y0, .int .i64 x1, .int .i64 y1]] w fun e w' => e = .returned (.bool true) ∧ Below w.heap.size w w' := by
  have H0 := Lib.hid (fun w => RPoint_t hp w)
  have H1 := Lib.hid (fun w => BV_t hv w)
  have H2 := Lib.hid (fun w => RRect_t hr w)
  clear hp hv hr
  obtain ⟨HB, B_p, B_v, B_r⟩ := box3 w 43 #[.int .i64 a, .int .i64 b] 59 #[.int .i64 x, .int .i64 y, .int .i64 d] 45 #[.int .i64 x0, .int .i64 y0, .int .i64 x1, .int .i64 y1]
  go_enter Try.func98, Try.ntmps98
  go_wp2_with fail
  generalize ((w.alloc (.cells #[.int .i64 a, .int .i64 b] 43)).alloc (.cells #[.int .i64 x, .int .i64 y, .int .i64 d] 59)).alloc (.cells #[.int .i64 x0, .int .i64 y0, .int .i64 x1, .int .i64 y1] 45) = W0 at *
  obtain ⟨c0p, c1p⟩ := cells2 B_p
  refine (H0.out _).mono ?_
  clear c0p c1p
  rintro e w1 ⟨rfl, bb⟩
  replace bb := nextw (w0 := W0) (by exact sm) bb
  replace B_p := mv B_p bb
  replace B_v := mv B_v bb
  replace B_r := mv B_r bb
  replace HB := nx HB bb
  clear bb
  obtain ⟨c0v, c1v, c2v⟩ := cells3 B_v
  go_wp2_with fail
  refine (H1.out _).mono ?_
  clear c0v c1v c2v
  rintro e w2 ⟨rfl, bb⟩
  replace bb := nextw (w0 := w1) (by exact sm) bb
  replace B_p := mv B_p bb
  replace B_v := mv B_v bb
  replace B_r := mv B_r bb
  replace HB := nx HB bb
  clear bb
  obtain ⟨c0r, c1r, c2r, c3r⟩ := cells4 B_r
  go_wp2_with fail
  refine (H2.out _).mono ?_
  clear c0r c1r c2r c3r
  rintro e w3 ⟨rfl, bb⟩
  replace bb := nextw (w0 := w2) (by exact sm) bb
  replace B_p := mv B_p bb
  replace B_v := mv B_v bb
  replace B_r := mv B_r bb
  replace HB := nx HB bb
  clear bb
  go_wp2
  go_ret
  exact ⟨rfl, nextw HB.out (by exact sm)⟩

theorem RValid_any (a b x y d x0 y0 x1 y1 : Int) (w : World) : Calls Try.prog 98 #[.agg #[.int .i64 a, .int .i64 b], .agg #[.int .i64 x, .int .i64 y, .int .i64 d], .agg #[.int .i64 x0, .int .i64 y0, .int .i64 x1, .int .i64 y1]] w fun e w' => e = .returned (.bool (decide (Ok3 a b x y d x0 y0 x1 y1))) ∧ Below w.heap.size w w' := by
  by_cases hp : OkP a b
  · by_cases hv : OkV x y d
    · by_cases hr : OkR x0 y0 x1 y1
      · rw [decide_eq_true (show Ok3 a b x y d x0 y0 x1 y1 from ⟨hp, hv, hr⟩)]; exact RValid_ok a b x y d x0 y0 x1 y1 hp hv hr w
      · rw [decide_eq_false (fun h : Ok3 a b x y d x0 y0 x1 y1 => hr h.2.2)]; exact RValid_2 a b x y d x0 y0 x1 y1 hp hv hr w
    · rw [decide_eq_false (fun h : Ok3 a b x y d x0 y0 x1 y1 => hv h.2.1)]; exact RValid_1 a b x y d x0 y0 x1 y1 hp hv w
  · rw [decide_eq_false (fun h : Ok3 a b x y d x0 y0 x1 y1 => hp h.1)]; exact RValid_0 a b x y d x0 y0 x1 y1 hp w

set_option maxRecDepth 100000 in
set_option maxHeartbeats 1000000 in
theorem axis_e1 (p lo hi : Int) (p1 : -2097152 ≤ p) (p2 : p ≤ 2097152) (l1 : -2097152 ≤ lo) (l2 : lo ≤ 2097152) (h1 : -2097152 ≤ hi) (h2 : hi ≤ 2097152) (g : p < lo) (w : World) :
    Calls Try.prog 102 #[.int .i64 p, .int .i64 0, .int .i64 lo, .int .i64 hi] w fun e w' => e = .returned (.agg #[.int .i64 0, .int .i64 0, .int .i64 0, .int .i64 0, .bool true, .bool false]) ∧ Below w.heap.size w w' := by
  obtain ⟨HB, B_z⟩ := box1 w 124 #[.int .i64 0, .int .i64 0, .int .i64 0, .int .i64 0, .bool false, .bool false]
  go_enter Try.func102, Try.ntmps102
  go_upto_region 2 with (fail)
  generalize w.alloc (.cells #[.int .i64 0, .int .i64 0, .int .i64 0, .int .i64 0, .bool false, .bool false] 124) = W0 at *
  obtain ⟨s0, s1, s2, s3, s4, s5⟩ := cells6 (stor6 B_z (.int .i64 0) (.int .i64 0) (.int .i64 0) (.int .i64 0) (.bool true) (.bool false))
  have HF := stb6 HB (y := w.heap.size) (by omega) 0 (.int .i64 0) 1 (.int .i64 0) 2 (.int .i64 0) 3 (.int .i64 0) 4 (.bool true) 5 (.bool false)
  obtain ⟨c0z, c1z, c2z, c3z, c4z, c5z⟩ := cells6 B_z
  obtain ⟨f0z, f1z, f2z, f3z, f4z, f5z⟩ := froz6 B_z
  go_wp2_with fail
  exact bodyPost_ret (v := .agg #[.int .i64 0, .int .i64 0, .int .i64 0, .int .i64 0, .bool true, .bool false]) (by simp [results, Try.results102, go_sem, s0, s1, s2, s3, s4, s5]) rfl ⟨rfl, nextw HF.out (by exact sm)⟩

set_option maxRecDepth 100000 in
set_option maxHeartbeats 1000000 in
theorem axis_e2 (p lo hi : Int) (p1 : -2097152 ≤ p) (p2 : p ≤ 2097152) (l1 : -2097152 ≤ lo) (l2 : lo ≤ 2097152) (h1 : -2097152 ≤ hi) (h2 : hi ≤ 2097152) (g : lo ≤ p) (g2 : hi < p) (w : World) :
    Calls Try.prog 102 #[.int .i64 p, .int .i64 0, .int .i64 lo, .int .i64 hi] w fun e w' => e = .returned (.agg #[.int .i64 0, .int .i64 0, .int .i64 0, .int .i64 0, .bool true, .bool false]) ∧ Below w.heap.size w w' := by
  obtain ⟨HB, B_z⟩ := box1 w 124 #[.int .i64 0, .int .i64 0, .int .i64 0, .int .i64 0, .bool false, .bool false]
  go_enter Try.func102, Try.ntmps102
  go_upto_region 2 with (fail)
  generalize w.alloc (.cells #[.int .i64 0, .int .i64 0, .int .i64 0, .int .i64 0, .bool false, .bool false] 124) = W0 at *
  obtain ⟨s0, s1, s2, s3, s4, s5⟩ := cells6 (stor6 B_z (.int .i64 0) (.int .i64 0) (.int .i64 0) (.int .i64 0) (.bool true) (.bool false))
  have HF := stb6 HB (y := w.heap.size) (by omega) 0 (.int .i64 0) 1 (.int .i64 0) 2 (.int .i64 0) 3 (.int .i64 0) 4 (.bool true) 5 (.bool false)
  obtain ⟨c0z, c1z, c2z, c3z, c4z, c5z⟩ := cells6 B_z
  obtain ⟨f0z, f1z, f2z, f3z, f4z, f5z⟩ := froz6 B_z
  go_wp2_with fail
  exact bodyPost_ret (v := .agg #[.int .i64 0, .int .i64 0, .int .i64 0, .int .i64 0, .bool true, .bool false]) (by simp [results, Try.results102, go_sem, s0, s1, s2, s3, s4, s5]) rfl ⟨rfl, nextw HF.out (by exact sm)⟩

set_option maxRecDepth 100000 in
set_option maxHeartbeats 1000000 in
theorem axis_all (p lo hi : Int) (p1 : -2097152 ≤ p) (p2 : p ≤ 2097152) (l1 : -2097152 ≤ lo) (l2 : lo ≤ 2097152) (h1 : -2097152 ≤ hi) (h2 : hi ≤ 2097152) (g : lo ≤ p) (g2 : p ≤ hi) (w : World) :
    Calls Try.prog 102 #[.int .i64 p, .int .i64 0, .int .i64 lo, .int .i64 hi] w fun e w' => e = .returned (.agg #[.int .i64 0, .int .i64 0, .int .i64 0, .int .i64 0, .bool false, .bool true]) ∧ Below w.heap.size w w' := by
  obtain ⟨HB, B_z⟩ := box1 w 124 #[.int .i64 0, .int .i64 0, .int .i64 0, .int .i64 0, .bool false, .bool false]
  go_enter Try.func102, Try.ntmps102
  go_upto_region 4 with (fail)
  generalize w.alloc (.cells #[.int .i64 0, .int .i64 0, .int .i64 0, .int .i64 0, .bool false, .bool false] 124) = W0 at *
  obtain ⟨s0, s1, s2, s3, s4, s5⟩ := cells6 (stor6 B_z (.int .i64 0) (.int .i64 0) (.int .i64 0) (.int .i64 0) (.bool false) (.bool true))
  have HF := stb6 HB (y := w.heap.size) (by omega) 0 (.int .i64 0) 1 (.int .i64 0) 2 (.int .i64 0) 3 (.int .i64 0) 4 (.bool false) 5 (.bool true)
  obtain ⟨c0z, c1z, c2z, c3z, c4z, c5z⟩ := cells6 B_z
  obtain ⟨f0z, f1z, f2z, f3z, f4z, f5z⟩ := froz6 B_z
  go_wp2_with fail
  exact bodyPost_ret (v := .agg #[.int .i64 0, .int .i64 0, .int .i64 0, .int .i64 0, .bool false, .bool true]) (by simp [results, Try.results102, go_sem, s0, s1, s2, s3, s4, s5]) rfl ⟨rfl, nextw HF.out (by exact sm)⟩

set_option maxRecDepth 100000 in
set_option maxHeartbeats 1000000 in
theorem axis_pos (p x lo hi A X B : Int) (p1 : -2097152 ≤ p) (p2 : p ≤ 2097152) (l1 : -2097152 ≤ lo) (l2 : lo ≤ 2097152) (h1 : -2097152 ≤ hi) (h2 : hi ≤ 2097152) (x1 : 0 < x) (x2 : x ≤ 67108864) (hA : lo - p = A) (hX : x = X) (hB : hi - p = B) (w : World) :
    Calls Try.prog 102 #[.int .i64 p, .int .i64 x, .int .i64 lo, .int .i64 hi] w fun e w' => e = .returned (.agg #[.int .i64 A, .int .i64 X, .int .i64 B, .int .i64 X, .bool false, .bool false]) ∧ Below w.heap.size w w' := by
  subst hA hX hB
  have xz : (x == 0) = false := by rw [beq_eq_false_iff_ne]; omega
  obtain ⟨HB, B_z⟩ := box1 w 124 #[.int .i64 0, .int .i64 0, .int .i64 0, .int .i64 0, .bool false, .bool false]
  go_enter Try.func102, Try.ntmps102
  go_upto_region 7 with (fail)
  generalize w.alloc (.cells #[.int .i64 0, .int .i64 0, .int .i64 0, .int .i64 0, .bool false, .bool false] 124) = W0 at *
  obtain ⟨s0, s1, s2, s3, s4, s5⟩ := cells6 (stor6 B_z (.int .i64 (lo - p)) (.int .i64 x) (.int .i64 (hi - p)) (.int .i64 x) (.bool false) (.bool false))
  have HF := stb6 HB (y := w.heap.size) (by omega) 0 (.int .i64 (lo - p)) 1 (.int .i64 x) 2 (.int .i64 (hi - p)) 3 (.int .i64 x) 4 (.bool false) 5 (.bool false)
  obtain ⟨c0z, c1z, c2z, c3z, c4z, c5z⟩ := cells6 B_z
  obtain ⟨f0z, f1z, f2z, f3z, f4z, f5z⟩ := froz6 B_z
  go_wp2_with fail
  exact bodyPost_ret (v := .agg #[.int .i64 (lo - p), .int .i64 x, .int .i64 (hi - p), .int .i64 x, .bool false, .bool false]) (by simp [results, Try.results102, go_sem, s0, s1, s2, s3, s4, s5]) rfl ⟨rfl, nextw HF.out (by exact sm)⟩

set_option maxRecDepth 100000 in
set_option maxHeartbeats 1000000 in
theorem axis_neg (p x lo hi A X B : Int) (p1 : -2097152 ≤ p) (p2 : p ≤ 2097152) (l1 : -2097152 ≤ lo) (l2 : lo ≤ 2097152) (h1 : -2097152 ≤ hi) (h2 : hi ≤ 2097152) (x1 : x < 0) (x2 : -67108864 ≤ x) (hA : p - hi = A) (hX : -x = X) (hB : p - lo = B) (w : World) :
    Calls Try.prog 102 #[.int .i64 p, .int .i64 x, .int .i64 lo, .int .i64 hi] w fun e w' => e = .returned (.agg #[.int .i64 A, .int .i64 X, .int .i64 B, .int .i64 X, .bool false, .bool false]) ∧ Below w.heap.size w w' := by
  have xz : (x == 0) = false := by rw [beq_eq_false_iff_ne]; omega
  have H := Lib.hid (fun w => axis_pos (-p) (-x) (-hi) (-lo) A X B (by omega) (by omega) (by omega) (by omega) (by omega) (by omega) (by omega) (by omega) (by omega) hX (by omega) w)
  clear hA hX hB
  obtain ⟨HB, B_z⟩ := box1 w 124 #[.int .i64 0, .int .i64 0, .int .i64 0, .int .i64 0, .bool false, .bool false]
  go_enter Try.func102, Try.ntmps102
  go_upto_region 1 with (fail)
  generalize w.alloc (.cells #[.int .i64 0, .int .i64 0, .int .i64 0, .int .i64 0, .bool false, .bool false] 124) = W0 at *
  go_wp2_with fail
  refine (H.out _).mono ?_
  rintro e w1 ⟨rfl, bb⟩
  replace bb := nextw (w0 := W0) (by exact sm) bb
  replace B_z := mv B_z bb
  replace HB := nx HB bb
  clear bb
  obtain ⟨s0, s1, s2, s3, s4, s5⟩ := cells6 (stor6 B_z (.int .i64 A) (.int .i64 X) (.int .i64 B) (.int .i64 X) (.bool false) (.bool false))
  have HF := stb6 HB (y := w.heap.size) (by omega) 0 (.int .i64 A) 1 (.int .i64 X) 2 (.int .i64 B) 3 (.int .i64 X) 4 (.bool false) 5 (.bool false)
  obtain ⟨c0z, c1z, c2z, c3z, c4z, c5z⟩ := cells6 B_z
  obtain ⟨f0z, f1z, f2z, f3z, f4z, f5z⟩ := froz6 B_z
  go_wp2_with fail
  exact bodyPost_ret (v := .agg #[.int .i64 A, .int .i64 X, .int .i64 B, .int .i64 X, .bool false, .bool false]) (by simp [results, Try.results102, go_sem, s0, s1, s2, s3, s4, s5]) rfl ⟨rfl, nextw HF.out (by exact sm)⟩
end Go.Proofs.Ytkhcogfajihecaa
