/- The reference's Cross. -/
import Derived.Test.YtaflgmiagjldhaaS15
set_option linter.unusedVariables false
set_option linter.unusedSimpArgs false
namespace Go.Proofs.Ytaflgmiagjldhaa
open Go Go.RowKit Hd

set_option maxRecDepth 100000 in
set_option maxHeartbeats 1000000 in
theorem RCross_0 (a b c d f g u v : Int) (hp : ¬ OkP a b) (w : World) :
    Calls Try.prog 27 #[.agg #[.int .i64 a, .int .i64 b], .agg #[.int .i64 c, .int .i64 d], .agg #[.int .i64 f, .int .i64 g], .agg #[.int .i64 u, .int .i64 v]] w fun e w' => e = .returned (.bool false) ∧ Below w.heap.size w w' := by
  have H0 := Lib.hid (fun w => RPoint_f hp w)
  clear hp
  obtain ⟨HB, B_p, B_q, B_r, B_s⟩ := box4 w 23 #[.int .i64 a, .int .i64 b] 23 #[.int .i64 c, .int .i64 d] 23 #[.int .i64 f, .int .i64 g] 23 #[.int .i64 u, .int .i64 v]
  go_enter Try.func27, Try.ntmps27
  go_wp2_with fail
  generalize (((w.alloc (.cells #[.int .i64 a, .int .i64 b] 23)).alloc (.cells #[.int .i64 c, .int .i64 d] 23)).alloc (.cells #[.int .i64 f, .int .i64 g] 23)).alloc (.cells #[.int .i64 u, .int .i64 v] 23) = W0 at *
  obtain ⟨c0p, c1p⟩ := cells2 B_p
  refine (H0.out _).mono ?_
  clear c0p c1p
  rintro e w1 ⟨rfl, bb⟩
  replace bb := nextw (w0 := W0) (by exact sm) bb
  replace B_p := mv B_p bb
  replace B_q := mv B_q bb
  replace B_r := mv B_r bb
  replace B_s := mv B_s bb
  replace HB := nx HB bb
  clear bb
  go_wp2
  go_ret
  exact ⟨rfl, nextw HB.out (by exact sm)⟩

set_option maxRecDepth 100000 in
set_option maxHeartbeats 1000000 in
theorem RCross_1 (a b c d f g u v : Int) (hp : OkP a b) (hq : ¬ OkP c d) (w : World) :
    Calls Try.prog 27 #[.agg #[.int .i64 a, .int .i64 b], .agg #[.int .i64 c, .int .i64 d], .agg #[.int .i64 f, .int .i64 g], .agg #[.int .i64 u, .int .i64 v]] w fun e w' => e = .returned (.bool false) ∧ Below w.heap.size w w' := by
  have H0 := Lib.hid (fun w => RPoint_t hp w)
  have H1 := Lib.hid (fun w => RPoint_f hq w)
  clear hp hq
  obtain ⟨HB, B_p, B_q, B_r, B_s⟩ := box4 w 23 #[.int .i64 a, .int .i64 b] 23 #[.int .i64 c, .int .i64 d] 23 #[.int .i64 f, .int .i64 g] 23 #[.int .i64 u, .int .i64 v]
  go_enter Try.func27, Try.ntmps27
  go_wp2_with fail
  generalize (((w.alloc (.cells #[.int .i64 a, .int .i64 b] 23)).alloc (.cells #[.int .i64 c, .int .i64 d] 23)).alloc (.cells #[.int .i64 f, .int .i64 g] 23)).alloc (.cells #[.int .i64 u, .int .i64 v] 23) = W0 at *
  obtain ⟨c0p, c1p⟩ := cells2 B_p
  refine (H0.out _).mono ?_
  clear c0p c1p
  rintro e w1 ⟨rfl, bb⟩
  replace bb := nextw (w0 := W0) (by exact sm) bb
  replace B_p := mv B_p bb
  replace B_q := mv B_q bb
  replace B_r := mv B_r bb
  replace B_s := mv B_s bb
  replace HB := nx HB bb
  clear bb
  obtain ⟨c0q, c1q⟩ := cells2 B_q
  go_wp2_with fail
  refine (H1.out _).mono ?_
  clear c0q c1q
  rintro e w2 ⟨rfl, bb⟩
  replace bb := nextw (w0 := w1) (by exact sm) bb
  replace B_p := mv B_p bb
  replace B_q := mv B_q bb
  replace B_r := mv B_r bb
  replace B_s := mv B_s bb
  replace HB := nx HB bb
  clear bb
  go_wp2
  go_ret
  exact ⟨rfl, nextw HB.out (by exact sm)⟩

set_option maxRecDepth 100000 in
set_option maxHeartbeats 1000000 in
theorem RCross_2 (a b c d f g u v : Int) (hp : OkP a b) (hq : OkP c d) (hr : ¬ OkP f g) (w : World) :
    Calls Try.prog 27 #[.agg #[.int .i64 a, .int .i64 b], .agg #[.int .i64 c, .int .i64 d], .agg #[.int .i64 f, .int .i64 g], .agg #[.int .i64 u, .int .i64 v]] w fun e w' => e = .returned (.bool false) ∧ Below w.heap.size w w' := by
  have H0 := Lib.hid (fun w => RPoint_t hp w)
  have H1 := Lib.hid (fun w => RPoint_t hq w)
  have H2 := Lib.hid (fun w => RPoint_f hr w)
  clear hp hq hr
  obtain ⟨HB, B_p, B_q, B_r, B_s⟩ := box4 w 23 #[.int .i64 a, .int .i64 b] 23 #[.int .i64 c, .int .i64 d] 23 #[.int .i64 f, .int .i64 g] 23 #[.int .i64 u, .int .i64 v]
  go_enter Try.func27, Try.ntmps27
  go_wp2_with fail
  generalize (((w.alloc (.cells #[.int .i64 a, .int .i64 b] 23)).alloc (.cells #[.int .i64 c, .int .i64 d] 23)).alloc (.cells #[.int .i64 f, .int .i64 g] 23)).alloc (.cells #[.int .i64 u, .int .i64 v] 23) = W0 at *
  obtain ⟨c0p, c1p⟩ := cells2 B_p
  refine (H0.out _).mono ?_
  clear c0p c1p
  rintro e w1 ⟨rfl, bb⟩
  replace bb := nextw (w0 := W0) (by exact sm) bb
  replace B_p := mv B_p bb
  replace B_q := mv B_q bb
  replace B_r := mv B_r bb
  replace B_s := mv B_s bb
  replace HB := nx HB bb
  clear bb
  obtain ⟨c0q, c1q⟩ := cells2 B_q
  go_wp2_with fail
  refine (H1.out _).mono ?_
  clear c0q c1q
  rintro e w2 ⟨rfl, bb⟩
  replace bb := nextw (w0 := w1) (by exact sm) bb
  replace B_p := mv B_p bb
  replace B_q := mv B_q bb
  replace B_r := mv B_r bb
  replace B_s := mv B_s bb
  replace HB := nx HB bb
  clear bb
  obtain ⟨c0r, c1r⟩ := cells2 B_r
  go_wp2_with fail
  refine (H2.out _).mono ?_
  clear c0r c1r
  rintro e w3 ⟨rfl, bb⟩
  replace bb := nextw (w0 := w2) (by exact sm) bb
  replace B_p := mv B_p bb
  replace B_q := mv B_q bb
  replace B_r := mv B_r bb
  replace B_s := mv B_s bb
  replace HB := nx HB bb
  clear bb
  go_wp2
  go_ret
  exact ⟨rfl, nextw HB.out (by exact sm)⟩

set_option maxRecDepth 100000 in
set_option maxHeartbeats 1000000 in
theorem RCross_3 (a b c d f g u v : Int) (hp : OkP a b) (hq : OkP c d) (hr : OkP f g) (hs : ¬ OkP u v) (w : World) :
    Calls Try.prog 27 #[.agg #[.int .i64 a, .int .i64 b], .agg #[.int .i64 c, .int .i64 d], .agg #[.int .i64 f, .int .i64 g], .agg #[.int .i64 u, .int .i64 v]] w fun e w' => e = .returned (.bool false) ∧ Below w.heap.size w w' := by
  have H0 := Lib.hid (fun w => RPoint_t hp w)
  have H1 := Lib.hid (fun w => RPoint_t hq w)
  have H2 := Lib.hid (fun w => RPoint_t hr w)
  have H3 := Lib.hid (fun w => RPoint_f hs w)
  clear hp hq hr hs
  obtain ⟨HB, B_p, B_q, B_r, B_s⟩ := box4 w 23 #[.int .i64 a, .int .i64 b] 23 #[.int .i64 c, .int .i64 d] 23 #[.int .i64 f, .int .i64 g] 23 #[.int .i64 u, .int .i64 v]
  go_enter Try.func27, Try.ntmps27
  go_wp2_with fail
  generalize (((w.alloc (.cells #[.int .i64 a, .int .i64 b] 23)).alloc (.cells #[.int .i64 c, .int .i64 d] 23)).alloc (.cells #[.int .i64 f, .int .i64 g] 23)).alloc (.cells #[.int .i64 u, .int .i64 v] 23) = W0 at *
  obtain ⟨c0p, c1p⟩ := cells2 B_p
  refine (H0.out _).mono ?_
  clear c0p c1p
  rintro e w1 ⟨rfl, bb⟩
  replace bb := nextw (w0 := W0) (by exact sm) bb
  replace B_p := mv B_p bb
  replace B_q := mv B_q bb
  replace B_r := mv B_r bb
  replace B_s := mv B_s bb
  replace HB := nx HB bb
  clear bb
  obtain ⟨c0q, c1q⟩ := cells2 B_q
  go_wp2_with fail
  refine (H1.out _).mono ?_
  clear c0q c1q
  rintro e w2 ⟨rfl, bb⟩
  replace bb := nextw (w0 := w1) (by exact sm) bb
  replace B_p := mv B_p bb
  replace B_q := mv B_q bb
  replace B_r := mv B_r bb
  replace B_s := mv B_s bb
  replace HB := nx HB bb
  clear bb
  obtain ⟨c0r, c1r⟩ := cells2 B_r
  go_wp2_with fail
  refine (H2.out _).mono ?_
  clear c0r c1r
  rintro e w3 ⟨rfl, bb⟩
  replace bb := nextw (w0 := w2) (by exact sm) bb
  replace B_p := mv B_p bb
  replace B_q := mv B_q bb
  replace B_r := mv B_r bb
  replace B_s := mv B_s bb
  replace HB := nx HB bb
  clear bb
  obtain ⟨c0s, c1s⟩ := cells2 B_s
  go_wp2_with fail
  refine (H3.out _).mono ?_
  clear c0s c1s
  rintro e w4 ⟨rfl, bb⟩
  replace bb := nextw (w0 := w3) (by exact sm) bb
  replace B_p := mv B_p bb
  replace B_q := mv B_q bb
  replace B_r := mv B_r bb
  replace B_s := mv B_s bb
  replace HB := nx HB bb
  clear bb
  go_wp2
  go_ret
  exact ⟨rfl, nextw HB.out (by exact sm)⟩

set_option maxRecDepth 100000 in
set_option maxHeartbeats 8000000 in
theorem RCross_o0 (a b c d f g u v M0 m0 M1 m1 M2 m2 M3 m3 : Int) (hp : OkP a b) (hq : OkP c d) (hr : OkP f g) (hs : OkP u v) (x0 : (if a < c then c else a) = M0) (y0 : (if u < f then u else f) = m0) (x1 : (if f < u then u else f) = M1) (y1 : (if c < a then c else a) = m1) (x2 : (if b < d then d else b) = M2) (y2 : (if v < g then v else g) = m2) (x3 : (if g < v then v else g) = M3) (y3 : (if d < b then d else b) = m3) (o0 : (M0 < m0)) (w : World) :
    Calls Try.prog 27 #[.agg #[.int .i64 a, .int .i64 b], .agg #[.int .i64 c, .int .i64 d], .agg #[.int .i64 f, .int .i64 g], .agg #[.int .i64 u, .int .i64 v]] w fun e w' => e = .returned (.bool false) ∧ Below w.heap.size w w' := by
  have V0 := Lib.hid (fun w => RPoint_t hp w)
  have V1 := Lib.hid (fun w => RPoint_t hq w)
  have V2 := Lib.hid (fun w => RPoint_t hr w)
  have V3 := Lib.hid (fun w => RPoint_t hs w)
  clear hp hq hr hs
  replace x0 := Lib.hid x0
  replace x1 := Lib.hid x1
  replace x2 := Lib.hid x2
  replace x3 := Lib.hid x3
  replace y0 := Lib.hid y0
  replace y1 := Lib.hid y1
  replace y2 := Lib.hid y2
  replace y3 := Lib.hid y3
  obtain ⟨HB, B_p, B_q, B_r, B_s⟩ := box4 w 23 #[.int .i64 a, .int .i64 b] 23 #[.int .i64 c, .int .i64 d] 23 #[.int .i64 f, .int .i64 g] 23 #[.int .i64 u, .int .i64 v]
  go_enter Try.func27, Try.ntmps27
  go_wp2_with fail
  generalize (((w.alloc (.cells #[.int .i64 a, .int .i64 b] 23)).alloc (.cells #[.int .i64 c, .int .i64 d] 23)).alloc (.cells #[.int .i64 f, .int .i64 g] 23)).alloc (.cells #[.int .i64 u, .int .i64 v] 23) = W0 at *
  obtain ⟨c0p, c1p⟩ := cells2 B_p
  refine (V0.out _).mono ?_
  clear c0p c1p
  rintro e w1 ⟨rfl, bb⟩
  replace bb := nextw (w0 := W0) (by exact sm) bb
  replace B_p := mv B_p bb
  replace B_q := mv B_q bb
  replace B_r := mv B_r bb
  replace B_s := mv B_s bb
  replace HB := nx HB bb
  clear bb
  obtain ⟨c0q, c1q⟩ := cells2 B_q
  go_wp2_with fail
  refine (V1.out _).mono ?_
  clear c0q c1q
  rintro e w2 ⟨rfl, bb⟩
  replace bb := nextw (w0 := w1) (by exact sm) bb
  replace B_p := mv B_p bb
  replace B_q := mv B_q bb
  replace B_r := mv B_r bb
  replace B_s := mv B_s bb
  replace HB := nx HB bb
  clear bb
  obtain ⟨c0r, c1r⟩ := cells2 B_r
  go_wp2_with fail
  refine (V2.out _).mono ?_
  clear c0r c1r
  rintro e w3 ⟨rfl, bb⟩
  replace bb := nextw (w0 := w2) (by exact sm) bb
  replace B_p := mv B_p bb
  replace B_q := mv B_q bb
  replace B_r := mv B_r bb
  replace B_s := mv B_s bb
  replace HB := nx HB bb
  clear bb
  obtain ⟨c0s, c1s⟩ := cells2 B_s
  go_wp2_with fail
  refine (V3.out _).mono ?_
  clear c0s c1s
  rintro e w4 ⟨rfl, bb⟩
  replace bb := nextw (w0 := w3) (by exact sm) bb
  replace B_p := mv B_p bb
  replace B_q := mv B_q bb
  replace B_r := mv B_r bb
  replace B_s := mv B_s bb
  replace HB := nx HB bb
  clear bb
  clear V0 V1 V2 V3
  go_upto_region 3 with (fail)
  have X0 := x0.out
  have X1 := x1.out
  have X2 := x2.out
  have X3 := x3.out
  have Y0 := y0.out
  have Y1 := y1.out
  have Y2 := y2.out
  have Y3 := y3.out
  obtain ⟨c0p, c1p⟩ := cells2 B_p
  obtain ⟨c0q, c1q⟩ := cells2 B_q
  obtain ⟨c0r, c1r⟩ := cells2 B_r
  obtain ⟨c0s, c1s⟩ := cells2 B_s
  go_wp2
  go_ret
  exact ⟨rfl, nextw HB.out (by exact sm)⟩

set_option maxRecDepth 100000 in
set_option maxHeartbeats 8000000 in
theorem RCross_o1 (a b c d f g u v M0 m0 M1 m1 M2 m2 M3 m3 : Int) (hp : OkP a b) (hq : OkP c d) (hr : OkP f g) (hs : OkP u v) (x0 : (if a < c then c else a) = M0) (y0 : (if u < f then u else f) = m0) (x1 : (if f < u then u else f) = M1) (y1 : (if c < a then c else a) = m1) (x2 : (if b < d then d else b) = M2) (y2 : (if v < g then v else g) = m2) (x3 : (if g < v then v else g) = M3) (y3 : (if d < b then d else b) = m3) (o0 : m0 ≤ M0) (o1 : (M1 < m1)) (w : World) :
    Calls Try.prog 27 #[.agg #[.int .i64 a, .int .i64 b], .agg #[.int .i64 c, .int .i64 d], .agg #[.int .i64 f, .int .i64 g], .agg #[.int .i64 u, .int .i64 v]] w fun e w' => e = .returned (.bool false) ∧ Below w.heap.size w w' := by
  have V0 := Lib.hid (fun w => RPoint_t hp w)
  have V1 := Lib.hid (fun w => RPoint_t hq w)
  have V2 := Lib.hid (fun w => RPoint_t hr w)
  have V3 := Lib.hid (fun w => RPoint_t hs w)
  clear hp hq hr hs
  replace x0 := Lib.hid x0
  replace x1 := Lib.hid x1
  replace x2 := Lib.hid x2
  replace x3 := Lib.hid x3
  replace y0 := Lib.hid y0
  replace y1 := Lib.hid y1
  replace y2 := Lib.hid y2
  replace y3 := Lib.hid y3
  obtain ⟨HB, B_p, B_q, B_r, B_s⟩ := box4 w 23 #[.int .i64 a, .int .i64 b] 23 #[.int .i64 c, .int .i64 d] 23 #[.int .i64 f, .int .i64 g] 23 #[.int .i64 u, .int .i64 v]
  go_enter Try.func27, Try.ntmps27
  go_wp2_with fail
  generalize (((w.alloc (.cells #[.int .i64 a, .int .i64 b] 23)).alloc (.cells #[.int .i64 c, .int .i64 d] 23)).alloc (.cells #[.int .i64 f, .int .i64 g] 23)).alloc (.cells #[.int .i64 u, .int .i64 v] 23) = W0 at *
  obtain ⟨c0p, c1p⟩ := cells2 B_p
  refine (V0.out _).mono ?_
  clear c0p c1p
  rintro e w1 ⟨rfl, bb⟩
  replace bb := nextw (w0 := W0) (by exact sm) bb
  replace B_p := mv B_p bb
  replace B_q := mv B_q bb
  replace B_r := mv B_r bb
  replace B_s := mv B_s bb
  replace HB := nx HB bb
  clear bb
  obtain ⟨c0q, c1q⟩ := cells2 B_q
  go_wp2_with fail
  refine (V1.out _).mono ?_
  clear c0q c1q
  rintro e w2 ⟨rfl, bb⟩
  replace bb := nextw (w0 := w1) (by exact sm) bb
  replace B_p := mv B_p bb
  replace B_q := mv B_q bb
  replace B_r := mv B_r bb
  replace B_s := mv B_s bb
  replace HB := nx HB bb
  clear bb
  obtain ⟨c0r, c1r⟩ := cells2 B_r
  go_wp2_with fail
  refine (V2.out _).mono ?_
  clear c0r c1r
  rintro e w3 ⟨rfl, bb⟩
  replace bb := nextw (w0 := w2) (by exact sm) bb
  replace B_p := mv B_p bb
  replace B_q := mv B_q bb
  replace B_r := mv B_r bb
  replace B_s := mv B_s bb
  replace HB := nx HB bb
  clear bb
  obtain ⟨c0s, c1s⟩ := cells2 B_s
  go_wp2_with fail
  refine (V3.out _).mono ?_
  clear c0s c1s
  rintro e w4 ⟨rfl, bb⟩
  replace bb := nextw (w0 := w3) (by exact sm) bb
  replace B_p := mv B_p bb
  replace B_q := mv B_q bb
  replace B_r := mv B_r bb
  replace B_s := mv B_s bb
  replace HB := nx HB bb
  clear bb
  clear V0 V1 V2 V3
  go_upto_region 3 with (fail)
  have X0 := x0.out
  have X1 := x1.out
  have X2 := x2.out
  have X3 := x3.out
  have Y0 := y0.out
  have Y1 := y1.out
  have Y2 := y2.out
  have Y3 := y3.out
  obtain ⟨c0p, c1p⟩ := cells2 B_p
  obtain ⟨c0q, c1q⟩ := cells2 B_q
  obtain ⟨c0r, c1r⟩ := cells2 B_r
  obtain ⟨c0s, c1s⟩ := cells2 B_s
  go_wp2
  go_ret
  exact ⟨rfl, nextw HB.out (by exact sm)⟩

set_option maxRecDepth 100000 in
set_option maxHeartbeats 8000000 in
theorem RCross_o2 (a b c d f g u v M0 m0 M1 m1 M2 m2 M3 m3 : Int) (hp : OkP a b) (hq : OkP c d) (hr : OkP f g) (hs : OkP u v) (x0 : (if a < c then c else a) = M0) (y0 : (if u < f then u else f) = m0) (x1 : (if f < u then u else f) = M1) (y1 : (if c < a then c else a) = m1) (x2 : (if b < d then d else b) = M2) (y2 : (if v < g then v else g) = m2) (x3 : (if g < v then v else g) = M3) (y3 : (if d < b then d else b) = m3) (o0 : m0 ≤ M0) (o1 : m1 ≤ M1) (o2 : (M2 < m2)) (w : World) :
    Calls Try.prog 27 #[.agg #[.int .i64 a, .int .i64 b], .agg #[.int .i64 c, .int .i64 d], .agg #[.int .i64 f, .int .i64 g], .agg #[.int .i64 u, .int .i64 v]] w fun e w' => e = .returned (.bool false) ∧ Below w.heap.size w w' := by
  have V0 := Lib.hid (fun w => RPoint_t hp w)
  have V1 := Lib.hid (fun w => RPoint_t hq w)
  have V2 := Lib.hid (fun w => RPoint_t hr w)
  have V3 := Lib.hid (fun w => RPoint_t hs w)
  clear hp hq hr hs
  replace x0 := Lib.hid x0
  replace x1 := Lib.hid x1
  replace x2 := Lib.hid x2
  replace x3 := Lib.hid x3
  replace y0 := Lib.hid y0
  replace y1 := Lib.hid y1
  replace y2 := Lib.hid y2
  replace y3 := Lib.hid y3
  obtain ⟨HB, B_p, B_q, B_r, B_s⟩ := box4 w 23 #[.int .i64 a, .int .i64 b] 23 #[.int .i64 c, .int .i64 d] 23 #[.int .i64 f, .int .i64 g] 23 #[.int .i64 u, .int .i64 v]
  go_enter Try.func27, Try.ntmps27
  go_wp2_with fail
  generalize (((w.alloc (.cells #[.int .i64 a, .int .i64 b] 23)).alloc (.cells #[.int .i64 c, .int .i64 d] 23)).alloc (.cells #[.int .i64 f, .int .i64 g] 23)).alloc (.cells #[.int .i64 u, .int .i64 v] 23) = W0 at *
  obtain ⟨c0p, c1p⟩ := cells2 B_p
  refine (V0.out _).mono ?_
  clear c0p c1p
  rintro e w1 ⟨rfl, bb⟩
  replace bb := nextw (w0 := W0) (by exact sm) bb
  replace B_p := mv B_p bb
  replace B_q := mv B_q bb
  replace B_r := mv B_r bb
  replace B_s := mv B_s bb
  replace HB := nx HB bb
  clear bb
  obtain ⟨c0q, c1q⟩ := cells2 B_q
  go_wp2_with fail
  refine (V1.out _).mono ?_
  clear c0q c1q
  rintro e w2 ⟨rfl, bb⟩
  replace bb := nextw (w0 := w1) (by exact sm) bb
  replace B_p := mv B_p bb
  replace B_q := mv B_q bb
  replace B_r := mv B_r bb
  replace B_s := mv B_s bb
  replace HB := nx HB bb
  clear bb
  obtain ⟨c0r, c1r⟩ := cells2 B_r
  go_wp2_with fail
  refine (V2.out _).mono ?_
  clear c0r c1r
  rintro e w3 ⟨rfl, bb⟩
  replace bb := nextw (w0 := w2) (by exact sm) bb
  replace B_p := mv B_p bb
  replace B_q := mv B_q bb
  replace B_r := mv B_r bb
  replace B_s := mv B_s bb
  replace HB := nx HB bb
  clear bb
  obtain ⟨c0s, c1s⟩ := cells2 B_s
  go_wp2_with fail
  refine (V3.out _).mono ?_
  clear c0s c1s
  rintro e w4 ⟨rfl, bb⟩
  replace bb := nextw (w0 := w3) (by exact sm) bb
  replace B_p := mv B_p bb
  replace B_q := mv B_q bb
  replace B_r := mv B_r bb
  replace B_s := mv B_s bb
  replace HB := nx HB bb
  clear bb
  clear V0 V1 V2 V3
  go_upto_region 3 with (fail)
  have X0 := x0.out
  have X1 := x1.out
  have X2 := x2.out
  have X3 := x3.out
  have Y0 := y0.out
  have Y1 := y1.out
  have Y2 := y2.out
  have Y3 := y3.out
  obtain ⟨c0p, c1p⟩ := cells2 B_p
  obtain ⟨c0q, c1q⟩ := cells2 B_q
  obtain ⟨c0r, c1r⟩ := cells2 B_r
  obtain ⟨c0s, c1s⟩ := cells2 B_s
  go_wp2
  go_ret
  exact ⟨rfl, nextw HB.out (by exact sm)⟩

set_option maxRecDepth 100000 in
set_option maxHeartbeats 8000000 in
theorem RCross_o3 (a b c d f g u v M0 m0 M1 m1 M2 m2 M3 m3 : Int) (hp : OkP a b) (hq : OkP c d) (hr : OkP f g) (hs : OkP u v) (x0 : (if a < c then c else a) = M0) (y0 : (if u < f then u else f) = m0) (x1 : (if f < u then u else f) = M1) (y1 : (if c < a then c else a) = m1) (x2 : (if b < d then d else b) = M2) (y2 : (if v < g then v else g) = m2) (x3 : (if g < v then v else g) = M3) (y3 : (if d < b then d else b) = m3) (o0 : m0 ≤ M0) (o1 : m1 ≤ M1) (o2 : m2 ≤ M2) (o3 : (M3 < m3)) (w : World) :
    Calls Try.prog 27 #[.agg #[.int .i64 a, .int .i64 b], .agg #[.int .i64 c, .int .i64 d], .agg #[.int .i64 f, .int .i64 g], .agg #[.int .i64 u, .int .i64 v]] w fun e w' => e = .returned (.bool false) ∧ Below w.heap.size w w' := by
  have V0 := Lib.hid (fun w => RPoint_t hp w)
  have V1 := Lib.hid (fun w => RPoint_t hq w)
  have V2 := Lib.hid (fun w => RPoint_t hr w)
  have V3 := Lib.hid (fun w => RPoint_t hs w)
  clear hp hq hr hs
  replace x0 := Lib.hid x0
  replace x1 := Lib.hid x1
  replace x2 := Lib.hid x2
  replace x3 := Lib.hid x3
  replace y0 := Lib.hid y0
  replace y1 := Lib.hid y1
  replace y2 := Lib.hid y2
  replace y3 := Lib.hid y3
  obtain ⟨HB, B_p, B_q, B_r, B_s⟩ := box4 w 23 #[.int .i64 a, .int .i64 b] 23 #[.int .i64 c, .int .i64 d] 23 #[.int .i64 f, .int .i64 g] 23 #[.int .i64 u, .int .i64 v]
  go_enter Try.func27, Try.ntmps27
  go_wp2_with fail
  generalize (((w.alloc (.cells #[.int .i64 a, .int .i64 b] 23)).alloc (.cells #[.int .i64 c, .int .i64 d] 23)).alloc (.cells #[.int .i64 f, .int .i64 g] 23)).alloc (.cells #[.int .i64 u, .int .i64 v] 23) = W0 at *
  obtain ⟨c0p, c1p⟩ := cells2 B_p
  refine (V0.out _).mono ?_
  clear c0p c1p
  rintro e w1 ⟨rfl, bb⟩
  replace bb := nextw (w0 := W0) (by exact sm) bb
  replace B_p := mv B_p bb
  replace B_q := mv B_q bb
  replace B_r := mv B_r bb
  replace B_s := mv B_s bb
  replace HB := nx HB bb
  clear bb
  obtain ⟨c0q, c1q⟩ := cells2 B_q
  go_wp2_with fail
  refine (V1.out _).mono ?_
  clear c0q c1q
  rintro e w2 ⟨rfl, bb⟩
  replace bb := nextw (w0 := w1) (by exact sm) bb
  replace B_p := mv B_p bb
  replace B_q := mv B_q bb
  replace B_r := mv B_r bb
  replace B_s := mv B_s bb
  replace HB := nx HB bb
  clear bb
  obtain ⟨c0r, c1r⟩ := cells2 B_r
  go_wp2_with fail
  refine (V2.out _).mono ?_
  clear c0r c1r
  rintro e w3 ⟨rfl, bb⟩
  replace bb := nextw (w0 := w2) (by exact sm) bb
  replace B_p := mv B_p bb
  replace B_q := mv B_q bb
  replace B_r := mv B_r bb
  replace B_s := mv B_s bb
  replace HB := nx HB bb
  clear bb
  obtain ⟨c0s, c1s⟩ := cells2 B_s
  go_wp2_with fail
  refine (V3.out _).mono ?_
  clear c0s c1s
  rintro e w4 ⟨rfl, bb⟩
  replace bb := nextw (w0 := w3) (by exact sm) bb
  replace B_p := mv B_p bb
  replace B_q := mv B_q bb
  replace B_r := mv B_r bb
  replace B_s := mv B_s bb
  replace HB := nx HB bb
  clear bb
  clear V0 V1 V2 V3
  go_upto_region 3 with (fail)
  have X0 := x0.out
  have X1 := x1.out
  have X2 := x2.out
  have X3 := x3.out
  have Y0 := y0.out
  have Y1 := y1.out
  have Y2 := y2.out
  have Y3 := y3.out
  obtain ⟨c0p, c1p⟩ := cells2 B_p
  obtain ⟨c0q, c1q⟩ := cells2 B_q
  obtain ⟨c0r, c1r⟩ := cells2 B_r
  obtain ⟨c0s, c1s⟩ := cells2 B_s
  go_wp2
  go_ret
  exact ⟨rfl, nextw HB.out (by exact sm)⟩

set_option maxRecDepth 100000 in
set_option maxHeartbeats 8000000 in
theorem RCross_os (a b c d f g u v M0 m0 M1 m1 M2 m2 M3 m3 : Int) (hp : OkP a b) (hq : OkP c d) (hr : OkP f g) (hs : OkP u v) (x0 : (if a < c then c else a) = M0) (y0 : (if u < f then u else f) = m0) (x1 : (if f < u then u else f) = M1) (y1 : (if c < a then c else a) = m1) (x2 : (if b < d then d else b) = M2) (y2 : (if v < g then v else g) = m2) (x3 : (if g < v then v else g) = M3) (y3 : (if d < b then d else b) = m3) (o0 : m0 ≤ M0) (o1 : m1 ≤ M1) (o2 : m2 ≤ M2) (o3 : m3 ≤ M3) (h1 : 0 < sgn (pr a b c d f g) * sgn (pr a b c d u v)) (w : World) :
    Calls Try.prog 27 #[.agg #[.int .i64 a, .int .i64 b], .agg #[.int .i64 c, .int .i64 d], .agg #[.int .i64 f, .int .i64 g], .agg #[.int .i64 u, .int .i64 v]] w fun e w' => e = .returned (.bool false) ∧ Below w.heap.size w w' := by
  have V0 := Lib.hid (fun w => RPoint_t hp w)
  have V1 := Lib.hid (fun w => RPoint_t hq w)
  have V2 := Lib.hid (fun w => RPoint_t hr w)
  have V3 := Lib.hid (fun w => RPoint_t hs w)
  have T1 := Lib.hid (fun w => RTurn_ok a b c d f g hp hq hr w)
  have T2 := Lib.hid (fun w => RTurn_ok a b c d u v hp hq hs w)
  have n1 := sgn_bd (pr a b c d f g)
  have n2 := sgn_bd (pr a b c d u v)
  generalize sgn (pr a b c d f g) = j1 at *
  generalize sgn (pr a b c d u v) = j2 at *
  have ew1 : Hid (IntKind.i64.wrap (j1 * j2) = j1 * j2) := by have e1 := mul_le (a := j1) (b := j2) (A := 1) (B := 1) n1.1 n1.2 n2.1 n2.2; unfold Hid; rw [IntKind.wrap_i64]; omega
  clear n1 n2
  clear hp hq hr hs
  replace x0 := Lib.hid x0
  replace x1 := Lib.hid x1
  replace x2 := Lib.hid x2
  replace x3 := Lib.hid x3
  replace y0 := Lib.hid y0
  replace y1 := Lib.hid y1
  replace y2 := Lib.hid y2
  replace y3 := Lib.hid y3
  obtain ⟨HB, B_p, B_q, B_r, B_s⟩ := box4 w 23 #[.int .i64 a, .int .i64 b] 23 #[.int .i64 c, .int .i64 d] 23 #[.int .i64 f, .int .i64 g] 23 #[.int .i64 u, .int .i64 v]
  go_enter Try.func27, Try.ntmps27
  go_wp2_with fail
  generalize (((w.alloc (.cells #[.int .i64 a, .int .i64 b] 23)).alloc (.cells #[.int .i64 c, .int .i64 d] 23)).alloc (.cells #[.int .i64 f, .int .i64 g] 23)).alloc (.cells #[.int .i64 u, .int .i64 v] 23) = W0 at *
  obtain ⟨c0p, c1p⟩ := cells2 B_p
  refine (V0.out _).mono ?_
  clear c0p c1p
  rintro e w1 ⟨rfl, bb⟩
  replace bb := nextw (w0 := W0) (by exact sm) bb
  replace B_p := mv B_p bb
  replace B_q := mv B_q bb
  replace B_r := mv B_r bb
  replace B_s := mv B_s bb
  replace HB := nx HB bb
  clear bb
  obtain ⟨c0q, c1q⟩ := cells2 B_q
  go_wp2_with fail
  refine (V1.out _).mono ?_
  clear c0q c1q
  rintro e w2 ⟨rfl, bb⟩
  replace bb := nextw (w0 := w1) (by exact sm) bb
  replace B_p := mv B_p bb
  replace B_q := mv B_q bb
  replace B_r := mv B_r bb
  replace B_s := mv B_s bb
  replace HB := nx HB bb
  clear bb
  obtain ⟨c0r, c1r⟩ := cells2 B_r
  go_wp2_with fail
  refine (V2.out _).mono ?_
  clear c0r c1r
  rintro e w3 ⟨rfl, bb⟩
  replace bb := nextw (w0 := w2) (by exact sm) bb
  replace B_p := mv B_p bb
  replace B_q := mv B_q bb
  replace B_r := mv B_r bb
  replace B_s := mv B_s bb
  replace HB := nx HB bb
  clear bb
  obtain ⟨c0s, c1s⟩ := cells2 B_s
  go_wp2_with fail
  refine (V3.out _).mono ?_
  clear c0s c1s
  rintro e w4 ⟨rfl, bb⟩
  replace bb := nextw (w0 := w3) (by exact sm) bb
  replace B_p := mv B_p bb
  replace B_q := mv B_q bb
  replace B_r := mv B_r bb
  replace B_s := mv B_s bb
  replace HB := nx HB bb
  clear bb
  clear V0 V1 V2 V3
  go_upto_region 3 with (fail)
  have X0 := x0.out
  have X1 := x1.out
  have X2 := x2.out
  have X3 := x3.out
  have Y0 := y0.out
  have Y1 := y1.out
  have Y2 := y2.out
  have Y3 := y3.out
  obtain ⟨c0p, c1p⟩ := cells2 B_p
  obtain ⟨c0q, c1q⟩ := cells2 B_q
  obtain ⟨c0r, c1r⟩ := cells2 B_r
  obtain ⟨c0s, c1s⟩ := cells2 B_s
  go_upto_region 5 with (fail)
  skip
  clear x0 y0 X0 Y0 x1 y1 X1 Y1 x2 y2 X2 Y2 x3 y3 X3 Y3
  clear o0 o1 o2 o3
  have e1 := ew1.out
  have dz : decide (j1 * j2 ≤ 0) = false := decide_eq_false (by omega)
  clear c0p c1p c0q c1q c0r c1r c0s c1s
  obtain ⟨c0p, c1p⟩ := cells2 B_p
  obtain ⟨c0q, c1q⟩ := cells2 B_q
  obtain ⟨c0r, c1r⟩ := cells2 B_r
  obtain ⟨c0s, c1s⟩ := cells2 B_s
  refine wp_region_held_drew (S := fun w' => w'.cell? ⟨w.heap.size, 0, none⟩ = some (.int .i64 a) ∧ w'.cell? ⟨w.heap.size, 1, none⟩ = some (.int .i64 b) ∧ w'.cell? ⟨w.heap.size + 1, 0, none⟩ = some (.int .i64 c) ∧ w'.cell? ⟨w.heap.size + 1, 1, none⟩ = some (.int .i64 d) ∧ w'.cell? ⟨w.heap.size + 1 + 1, 0, none⟩ = some (.int .i64 f) ∧ w'.cell? ⟨w.heap.size + 1 + 1, 1, none⟩ = some (.int .i64 g) ∧ w'.cell? ⟨w.heap.size + 1 + 1 + 1, 0, none⟩ = some (.int .i64 u) ∧ w'.cell? ⟨w.heap.size + 1 + 1 + 1, 1, none⟩ = some (.int .i64 v)) (by kernel_rfl) ?_ (fun hH1x0 => ?_)
  · ((try dsimp only); (repeat' apply And.intro) <;> (first | (with_reducible assumption) | ((repeat (first | (with_reducible refine Eq.trans (cell_drew1 _ _) ?_) | (with_reducible refine Eq.trans (cell_far (by omega) _ _ _) ?_) | (with_reducible refine Eq.trans (World.cell?_alloc_lt _ _ _ (by first | (dsimp only; omega) | (simp only [World.size_alloc, World.size_setCell]; omega))) ?_))); with_reducible assumption) | assumption | go_keep))
  refine wpAnyH_take (i := 0) (v := ?hv1x0) rfl (by kernel_rfl) (by kernel_rfl) (by kernel_rfl) (fun _ _ _ h => h) (Or.inl ⟨by kernel_rfl, ?hy1x0⟩) (by assumption) ?hr1x0
  case hy1x0 => (intro w hSw; (try dsimp only at hSw); go_simp <;> with_reducible rfl)
  simp only [Act.put, List.setIfInBounds_toArray, List.set_cons_zero, List.set_cons_succ, List.getElem_toArray, List.getElem_cons_zero, List.getElem_cons_succ]
  refine wpAnyH_take (i := 1) (v := ?hv1x1) rfl (by kernel_rfl) (by kernel_rfl) (by kernel_rfl) (fun _ _ _ h => h) (Or.inl ⟨by kernel_rfl, ?hy1x1⟩) (by assumption) ?hr1x1
  case hy1x1 => (intro w hSw; (try dsimp only at hSw); go_simp <;> with_reducible rfl)
  simp only [Act.put, List.setIfInBounds_toArray, List.set_cons_zero, List.set_cons_succ, List.getElem_toArray, List.getElem_cons_zero, List.getElem_cons_succ]
  refine wpAnyH_take (i := 2) (v := ?hv1x2) rfl (by kernel_rfl) (by kernel_rfl) (by kernel_rfl) (fun _ _ _ h => h) (Or.inl ⟨by kernel_rfl, ?hy1x2⟩) (by assumption) ?hr1x2
  case hy1x2 => (intro w hSw; (try dsimp only at hSw); go_simp <;> with_reducible rfl)
  simp only [Act.put, List.setIfInBounds_toArray, List.set_cons_zero, List.set_cons_succ, List.getElem_toArray, List.getElem_cons_zero, List.getElem_cons_succ]
  refine wpAnyH_take (i := 4) (v := ?hv1x4) rfl (by kernel_rfl) (by kernel_rfl) (by kernel_rfl) (fun _ _ _ h => h) (Or.inl ⟨by kernel_rfl, ?hy1x4⟩) (by assumption) ?hr1x4
  case hy1x4 => (intro w hSw; (try dsimp only at hSw); go_simp <;> with_reducible rfl)
  simp only [Act.put, List.setIfInBounds_toArray, List.set_cons_zero, List.set_cons_succ, List.getElem_toArray, List.getElem_cons_zero, List.getElem_cons_succ]
  refine wpAnyH_take (i := 5) (v := ?hv1x5) rfl (by kernel_rfl) (by kernel_rfl) (by kernel_rfl) (fun _ _ _ h => h) (Or.inl ⟨by kernel_rfl, ?hy1x5⟩) (by assumption) ?hr1x5
  case hy1x5 => (intro w hSw; (try dsimp only at hSw); go_simp <;> with_reducible rfl)
  simp only [Act.put, List.setIfInBounds_toArray, List.set_cons_zero, List.set_cons_succ, List.getElem_toArray, List.getElem_cons_zero, List.getElem_cons_succ]
  refine wpAnyH_take (i := 6) (v := ?hv1x6) rfl (by kernel_rfl) (by kernel_rfl) (by kernel_rfl) (fun _ _ _ h => h) (Or.inl ⟨by kernel_rfl, ?hy1x6⟩) (by assumption) ?hr1x6
  case hy1x6 => (intro w hSw; (try dsimp only at hSw); go_simp <;> with_reducible rfl)
  simp only [Act.put, List.setIfInBounds_toArray, List.set_cons_zero, List.set_cons_succ, List.getElem_toArray, List.getElem_cons_zero, List.getElem_cons_succ]
  refine wpAnyH_ready (rs := [3]) (by kernel_rfl) (by simp) ?_
  refine AllReadyH.cons rfl (fun K hK => ?_) AllReadyH.nil
  go_simp
  go_at_call 29
  refine (T1.out _).mono ?_
  rintro e w5 ⟨rfl, bb⟩
  replace bb := nextw (w0 := w4) (by exact sm) bb
  replace B_p := mv B_p bb
  replace B_q := mv B_q bb
  replace B_r := mv B_r bb
  replace B_s := mv B_s bb
  replace HB := nx HB bb
  clear bb c0p c1p c0q c1q c0r c1r c0s c1s
  have c0p : w5.cell? ⟨w.heap.size, 0, none⟩ = some (.int .i64 a) := B_p.out.cell 0 rfl
  have c1p : w5.cell? ⟨w.heap.size, 1, none⟩ = some (.int .i64 b) := B_p.out.cell 1 rfl
  have c0q : w5.cell? ⟨w.heap.size + 1, 0, none⟩ = some (.int .i64 c) := B_q.out.cell 0 rfl
  have c1q : w5.cell? ⟨w.heap.size + 1, 1, none⟩ = some (.int .i64 d) := B_q.out.cell 1 rfl
  have c0r : w5.cell? ⟨w.heap.size + 1 + 1, 0, none⟩ = some (.int .i64 f) := B_r.out.cell 0 rfl
  have c1r : w5.cell? ⟨w.heap.size + 1 + 1, 1, none⟩ = some (.int .i64 g) := B_r.out.cell 1 rfl
  have c0s : w5.cell? ⟨w.heap.size + 1 + 1 + 1, 0, none⟩ = some (.int .i64 u) := B_s.out.cell 0 rfl
  have c1s : w5.cell? ⟨w.heap.size + 1 + 1 + 1, 1, none⟩ = some (.int .i64 v) := B_s.out.cell 1 rfl
  go_wp2_with fail
  refine hK.out _ _ ?_ (fun hH1x1 => ?_)
  · ((try dsimp only); (repeat' apply And.intro) <;> (first | (with_reducible assumption) | ((repeat (first | (with_reducible refine Eq.trans (cell_drew1 _ _) ?_) | (with_reducible refine Eq.trans (cell_far (by omega) _ _ _) ?_) | (with_reducible refine Eq.trans (World.cell?_alloc_lt _ _ _ (by first | (dsimp only; omega) | (simp only [World.size_alloc, World.size_setCell]; omega))) ?_))); with_reducible assumption) | assumption | go_keep))
  clear hK K hH1x0
  try simp only [Act.put, List.setIfInBounds_toArray, List.set_cons_zero, List.set_cons_succ, List.getElem_toArray, List.getElem_cons_zero, List.getElem_cons_succ]
  refine wpAnyH_ready (rs := [7]) (by kernel_rfl) (by simp) ?_
  refine AllReadyH.cons rfl (fun K hK => ?_) AllReadyH.nil
  go_simp
  go_at_call 29
  refine (T2.out _).mono ?_
  rintro e w6 ⟨rfl, bb⟩
  replace bb := nextw (w0 := w5) (by exact sm) bb
  replace B_p := mv B_p bb
  replace B_q := mv B_q bb
  replace B_r := mv B_r bb
  replace B_s := mv B_s bb
  replace HB := nx HB bb
  clear bb c0p c1p c0q c1q c0r c1r c0s c1s
  have c0p : w6.cell? ⟨w.heap.size, 0, none⟩ = some (.int .i64 a) := B_p.out.cell 0 rfl
  have c1p : w6.cell? ⟨w.heap.size, 1, none⟩ = some (.int .i64 b) := B_p.out.cell 1 rfl
  have c0q : w6.cell? ⟨w.heap.size + 1, 0, none⟩ = some (.int .i64 c) := B_q.out.cell 0 rfl
  have c1q : w6.cell? ⟨w.heap.size + 1, 1, none⟩ = some (.int .i64 d) := B_q.out.cell 1 rfl
  have c0r : w6.cell? ⟨w.heap.size + 1 + 1, 0, none⟩ = some (.int .i64 f) := B_r.out.cell 0 rfl
  have c1r : w6.cell? ⟨w.heap.size + 1 + 1, 1, none⟩ = some (.int .i64 g) := B_r.out.cell 1 rfl
  have c0s : w6.cell? ⟨w.heap.size + 1 + 1 + 1, 0, none⟩ = some (.int .i64 u) := B_s.out.cell 0 rfl
  have c1s : w6.cell? ⟨w.heap.size + 1 + 1 + 1, 1, none⟩ = some (.int .i64 v) := B_s.out.cell 1 rfl
  go_wp2_with fail
  refine hK.out _ _ ?_ (fun hH1x2 => ?_)
  · ((try dsimp only); (repeat' apply And.intro) <;> (first | (with_reducible assumption) | ((repeat (first | (with_reducible refine Eq.trans (cell_drew1 _ _) ?_) | (with_reducible refine Eq.trans (cell_far (by omega) _ _ _) ?_) | (with_reducible refine Eq.trans (World.cell?_alloc_lt _ _ _ (by first | (dsimp only; omega) | (simp only [World.size_alloc, World.size_setCell]; omega))) ?_))); with_reducible assumption) | assumption | go_keep))
  clear hK K hH1x1
  try simp only [Act.put, List.setIfInBounds_toArray, List.set_cons_zero, List.set_cons_succ, List.getElem_toArray, List.getElem_cons_zero, List.getElem_cons_succ]
  refine wpAnyH_take (i := 8) (v := ?hv1x8) rfl (by kernel_rfl) (by kernel_rfl) (by kernel_rfl) (fun _ _ _ h => h) (Or.inl ⟨by kernel_rfl, ?hy1x8⟩) (by assumption) ?hr1x8
  case hy1x8 => (intro w hSw; (try dsimp only at hSw); go_simp <;> with_reducible rfl)
  simp only [Act.put, List.setIfInBounds_toArray, List.set_cons_zero, List.set_cons_succ, List.getElem_toArray, List.getElem_cons_zero, List.getElem_cons_succ]
  refine wpAnyH_take (i := 9) (v := ?hv1x9) rfl (by kernel_rfl) (by kernel_rfl) (by kernel_rfl) (fun _ _ _ h => h) (Or.inl ⟨by kernel_rfl, ?hy1x9⟩) (by assumption) ?hr1x9
  case hy1x9 => (intro w hSw; (try dsimp only at hSw); go_simp <;> with_reducible rfl)
  simp only [Act.put, List.setIfInBounds_toArray, List.set_cons_zero, List.set_cons_succ, List.getElem_toArray, List.getElem_cons_zero, List.getElem_cons_succ]
  refine wpAnyH_take (i := 10) (v := ?hv1x10) rfl (by kernel_rfl) (by kernel_rfl) (by kernel_rfl) (fun _ _ _ h => h) (Or.inl ⟨by kernel_rfl, ?hy1x10⟩) (by assumption) ?hr1x10
  case hy1x10 => (intro w hSw; (try dsimp only at hSw); go_simp <;> with_reducible rfl)
  simp only [Act.put, List.setIfInBounds_toArray, List.set_cons_zero, List.set_cons_succ, List.getElem_toArray, List.getElem_cons_zero, List.getElem_cons_succ]
  refine wpAnyH_take (i := 11) (v := undef) rfl (by kernel_rfl) (by kernel_rfl) (by kernel_rfl) (fun _ _ _ h => h) (Or.inr ⟨by kernel_rfl, rfl⟩) (by assumption) ?_
  simp only [Act.put, List.setIfInBounds_toArray, List.set_cons_zero, List.set_cons_succ, List.getElem_toArray, List.getElem_cons_zero, List.getElem_cons_succ]
  refine wpAnyH_take (i := 12) (v := undef) rfl (by kernel_rfl) (by kernel_rfl) (by kernel_rfl) (fun _ _ _ h => h) (Or.inr ⟨by kernel_rfl, rfl⟩) (by assumption) ?_
  simp only [Act.put, List.setIfInBounds_toArray, List.set_cons_zero, List.set_cons_succ, List.getElem_toArray, List.getElem_cons_zero, List.getElem_cons_succ]
  refine wpAnyH_take (i := 13) (v := undef) rfl (by kernel_rfl) (by kernel_rfl) (by kernel_rfl) (fun _ _ _ h => h) (Or.inr ⟨by kernel_rfl, rfl⟩) (by assumption) ?_
  simp only [Act.put, List.setIfInBounds_toArray, List.set_cons_zero, List.set_cons_succ, List.getElem_toArray, List.getElem_cons_zero, List.getElem_cons_succ]
  refine wpAnyH_take (i := 14) (v := undef) rfl (by kernel_rfl) (by kernel_rfl) (by kernel_rfl) (fun _ _ _ h => h) (Or.inr ⟨by kernel_rfl, rfl⟩) (by assumption) ?_
  simp only [Act.put, List.setIfInBounds_toArray, List.set_cons_zero, List.set_cons_succ, List.getElem_toArray, List.getElem_cons_zero, List.getElem_cons_succ]
  refine wpAnyH_take (i := 15) (v := undef) rfl (by kernel_rfl) (by kernel_rfl) (by kernel_rfl) (fun _ _ _ h => h) (Or.inr ⟨by kernel_rfl, rfl⟩) (by assumption) ?_
  simp only [Act.put, List.setIfInBounds_toArray, List.set_cons_zero, List.set_cons_succ, List.getElem_toArray, List.getElem_cons_zero, List.getElem_cons_succ]
  refine wpAnyH_take (i := 16) (v := undef) rfl (by kernel_rfl) (by kernel_rfl) (by kernel_rfl) (fun _ _ _ h => h) (Or.inr ⟨by kernel_rfl, rfl⟩) (by assumption) ?_
  simp only [Act.put, List.setIfInBounds_toArray, List.set_cons_zero, List.set_cons_succ, List.getElem_toArray, List.getElem_cons_zero, List.getElem_cons_succ]
  refine wpAnyH_take (i := 17) (v := undef) rfl (by kernel_rfl) (by kernel_rfl) (by kernel_rfl) (fun _ _ _ h => h) (Or.inr ⟨by kernel_rfl, rfl⟩) (by assumption) ?_
  simp only [Act.put, List.setIfInBounds_toArray, List.set_cons_zero, List.set_cons_succ, List.getElem_toArray, List.getElem_cons_zero, List.getElem_cons_succ]
  refine wpAnyH_take (i := 18) (v := undef) rfl (by kernel_rfl) (by kernel_rfl) (by kernel_rfl) (fun _ _ _ h => h) (Or.inr ⟨by kernel_rfl, rfl⟩) (by assumption) ?_
  simp only [Act.put, List.setIfInBounds_toArray, List.set_cons_zero, List.set_cons_succ, List.getElem_toArray, List.getElem_cons_zero, List.getElem_cons_succ]
  refine wpAnyH_take (i := 19) (v := undef) rfl (by kernel_rfl) (by kernel_rfl) (by kernel_rfl) (fun _ _ _ h => h) (Or.inr ⟨by kernel_rfl, rfl⟩) (by assumption) ?_
  simp only [Act.put, List.setIfInBounds_toArray, List.set_cons_zero, List.set_cons_succ, List.getElem_toArray, List.getElem_cons_zero, List.getElem_cons_succ]
  refine wpAnyH_take (i := 20) (v := undef) rfl (by kernel_rfl) (by kernel_rfl) (by kernel_rfl) (fun _ _ _ h => h) (Or.inr ⟨by kernel_rfl, rfl⟩) (by assumption) ?_
  simp only [Act.put, List.setIfInBounds_toArray, List.set_cons_zero, List.set_cons_succ, List.getElem_toArray, List.getElem_cons_zero, List.getElem_cons_succ]
  refine wpAnyH_take (i := 21) (v := ?hv1x21) rfl (by kernel_rfl) (by kernel_rfl) (by kernel_rfl) (fun _ _ _ h => h) (Or.inl ⟨by kernel_rfl, ?hy1x21⟩) (by assumption) ?hr1x21
  case hy1x21 => (intro w hSw; (try dsimp only at hSw); go_simp <;> with_reducible rfl)
  simp only [Act.put, List.setIfInBounds_toArray, List.set_cons_zero, List.set_cons_succ, List.getElem_toArray, List.getElem_cons_zero, List.getElem_cons_succ]
  refine wpAnyH_take (i := 22) (v := ?hv1x22) rfl (by kernel_rfl) (by kernel_rfl) (by kernel_rfl) (fun _ _ _ h => h) (Or.inl ⟨by kernel_rfl, ?hy1x22⟩) (by assumption) ?hr1x22
  case hy1x22 => (intro w hSw; (try dsimp only at hSw); go_simp <;> with_reducible rfl)
  simp only [Act.put, List.setIfInBounds_toArray, List.set_cons_zero, List.set_cons_succ, List.getElem_toArray, List.getElem_cons_zero, List.getElem_cons_succ]
  refine wpAnyH_done (by kernel_rfl) ?_ _
  clear hH1x2
  clear c0p c1p c0q c1q c0r c1r c0s c1s
  clear e1 ew1 dz
  go_wp2
  go_ret
  exact ⟨rfl, nextw HB.out (by exact sm)⟩

set_option maxRecDepth 100000 in
set_option maxHeartbeats 8000000 in
theorem RCross_ot (a b c d f g u v M0 m0 M1 m1 M2 m2 M3 m3 : Int) (hp : OkP a b) (hq : OkP c d) (hr : OkP f g) (hs : OkP u v) (x0 : (if a < c then c else a) = M0) (y0 : (if u < f then u else f) = m0) (x1 : (if f < u then u else f) = M1) (y1 : (if c < a then c else a) = m1) (x2 : (if b < d then d else b) = M2) (y2 : (if v < g then v else g) = m2) (x3 : (if g < v then v else g) = M3) (y3 : (if d < b then d else b) = m3) (o0 : m0 ≤ M0) (o1 : m1 ≤ M1) (o2 : m2 ≤ M2) (o3 : m3 ≤ M3) (h1 : sgn (pr a b c d f g) * sgn (pr a b c d u v) ≤ 0) (w : World) :
    Calls Try.prog 27 #[.agg #[.int .i64 a, .int .i64 b], .agg #[.int .i64 c, .int .i64 d], .agg #[.int .i64 f, .int .i64 g], .agg #[.int .i64 u, .int .i64 v]] w fun e w' => e = .returned (.bool (decide (sgn (pr f g u v a b) * sgn (pr f g u v c d) ≤ 0))) ∧ Below w.heap.size w w' := by
  have V0 := Lib.hid (fun w => RPoint_t hp w)
  have V1 := Lib.hid (fun w => RPoint_t hq w)
  have V2 := Lib.hid (fun w => RPoint_t hr w)
  have V3 := Lib.hid (fun w => RPoint_t hs w)
  have T1 := Lib.hid (fun w => RTurn_ok a b c d f g hp hq hr w)
  have T2 := Lib.hid (fun w => RTurn_ok a b c d u v hp hq hs w)
  have n1 := sgn_bd (pr a b c d f g)
  have n2 := sgn_bd (pr a b c d u v)
  generalize sgn (pr a b c d f g) = j1 at *
  generalize sgn (pr a b c d u v) = j2 at *
  have ew1 : Hid (IntKind.i64.wrap (j1 * j2) = j1 * j2) := by have e1 := mul_le (a := j1) (b := j2) (A := 1) (B := 1) n1.1 n1.2 n2.1 n2.2; unfold Hid; rw [IntKind.wrap_i64]; omega
  clear n1 n2
  have T3 := Lib.hid (fun w => RTurn_ok f g u v a b hr hs hp w)
  have T4 := Lib.hid (fun w => RTurn_ok f g u v c d hr hs hq w)
  have n1 := sgn_bd (pr f g u v a b)
  have n2 := sgn_bd (pr f g u v c d)
  generalize sgn (pr f g u v a b) = j3 at *
  generalize sgn (pr f g u v c d) = j4 at *
  have ew2 : Hid (IntKind.i64.wrap (j3 * j4) = j3 * j4) := by have e1 := mul_le (a := j3) (b := j4) (A := 1) (B := 1) n1.1 n1.2 n2.1 n2.2; unfold Hid; rw [IntKind.wrap_i64]; omega
  clear n1 n2
  clear hp hq hr hs
  replace x0 := Lib.hid x0
  replace x1 := Lib.hid x1
  replace x2 := Lib.hid x2
  replace x3 := Lib.hid x3
  replace y0 := Lib.hid y0
  replace y1 := Lib.hid y1
  replace y2 := Lib.hid y2
  replace y3 := Lib.hid y3
  obtain ⟨HB, B_p, B_q, B_r, B_s⟩ := box4 w 23 #[.int .i64 a, .int .i64 b] 23 #[.int .i64 c, .int .i64 d] 23 #[.int .i64 f, .int .i64 g] 23 #[.int .i64 u, .int .i64 v]
  go_enter Try.func27, Try.ntmps27
  go_wp2_with fail
  generalize (((w.alloc (.cells #[.int .i64 a, .int .i64 b] 23)).alloc (.cells #[.int .i64 c, .int .i64 d] 23)).alloc (.cells #[.int .i64 f, .int .i64 g] 23)).alloc (.cells #[.int .i64 u, .int .i64 v] 23) = W0 at *
  obtain ⟨c0p, c1p⟩ := cells2 B_p
  refine (V0.out _).mono ?_
  clear c0p c1p
  rintro e w1 ⟨rfl, bb⟩
  replace bb := nextw (w0 := W0) (by exact sm) bb
  replace B_p := mv B_p bb
  replace B_q := mv B_q bb
  replace B_r := mv B_r bb
  replace B_s := mv B_s bb
  replace HB := nx HB bb
  clear bb
  obtain ⟨c0q, c1q⟩ := cells2 B_q
  go_wp2_with fail
  refine (V1.out _).mono ?_
  clear c0q c1q
  rintro e w2 ⟨rfl, bb⟩
  replace bb := nextw (w0 := w1) (by exact sm) bb
  replace B_p := mv B_p bb
  replace B_q := mv B_q bb
  replace B_r := mv B_r bb
  replace B_s := mv B_s bb
  replace HB := nx HB bb
  clear bb
  obtain ⟨c0r, c1r⟩ := cells2 B_r
  go_wp2_with fail
  refine (V2.out _).mono ?_
  clear c0r c1r
  rintro e w3 ⟨rfl, bb⟩
  replace bb := nextw (w0 := w2) (by exact sm) bb
  replace B_p := mv B_p bb
  replace B_q := mv B_q bb
  replace B_r := mv B_r bb
  replace B_s := mv B_s bb
  replace HB := nx HB bb
  clear bb
  obtain ⟨c0s, c1s⟩ := cells2 B_s
  go_wp2_with fail
  refine (V3.out _).mono ?_
  clear c0s c1s
  rintro e w4 ⟨rfl, bb⟩
  replace bb := nextw (w0 := w3) (by exact sm) bb
  replace B_p := mv B_p bb
  replace B_q := mv B_q bb
  replace B_r := mv B_r bb
  replace B_s := mv B_s bb
  replace HB := nx HB bb
  clear bb
  clear V0 V1 V2 V3
  go_upto_region 3 with (fail)
  have X0 := x0.out
  have X1 := x1.out
  have X2 := x2.out
  have X3 := x3.out
  have Y0 := y0.out
  have Y1 := y1.out
  have Y2 := y2.out
  have Y3 := y3.out
  obtain ⟨c0p, c1p⟩ := cells2 B_p
  obtain ⟨c0q, c1q⟩ := cells2 B_q
  obtain ⟨c0r, c1r⟩ := cells2 B_r
  obtain ⟨c0s, c1s⟩ := cells2 B_s
  go_upto_region 5 with (fail)
  skip
  clear x0 y0 X0 Y0 x1 y1 X1 Y1 x2 y2 X2 Y2 x3 y3 X3 Y3
  clear o0 o1 o2 o3
  have e1 := ew1.out; have e2 := ew2.out
  clear c0p c1p c0q c1q c0r c1r c0s c1s
  obtain ⟨c0p, c1p⟩ := cells2 B_p
  obtain ⟨c0q, c1q⟩ := cells2 B_q
  obtain ⟨c0r, c1r⟩ := cells2 B_r
  obtain ⟨c0s, c1s⟩ := cells2 B_s
  have tk1x0 : True := trivial
  go_region_held3 (fun w' => w'.cell? ⟨w.heap.size, 0, none⟩ = some (.int .i64 a) ∧ w'.cell? ⟨w.heap.size, 1, none⟩ = some (.int .i64 b) ∧ w'.cell? ⟨w.heap.size + 1, 0, none⟩ = some (.int .i64 c) ∧ w'.cell? ⟨w.heap.size + 1, 1, none⟩ = some (.int .i64 d) ∧ w'.cell? ⟨w.heap.size + 1 + 1, 0, none⟩ = some (.int .i64 f) ∧ w'.cell? ⟨w.heap.size + 1 + 1, 1, none⟩ = some (.int .i64 g) ∧ w'.cell? ⟨w.heap.size + 1 + 1 + 1, 0, none⟩ = some (.int .i64 u) ∧ w'.cell? ⟨w.heap.size + 1 + 1 + 1, 1, none⟩ = some (.int .i64 v)) (((try dsimp only); (repeat' apply And.intro) <;> (first | (with_reducible assumption) | ((repeat (first | (with_reducible refine Eq.trans (cell_drew1 _ _) ?_) | (with_reducible refine Eq.trans (cell_far (by omega) _ _ _) ?_) | (with_reducible refine Eq.trans (World.cell?_alloc_lt _ _ _ (by first | (dsimp only; omega) | (simp only [World.size_alloc, World.size_setCell]; omega))) ?_))); with_reducible assumption) | assumption | go_keep)))
    (first
      | (clear tk1x0; go_at_call 29; refine (T1.out _).mono ?_; rintro e w5 ⟨rfl, bb⟩; replace bb := nextw (w0 := w4) (by exact sm) bb; replace B_p := mv B_p bb; replace B_q := mv B_q bb; replace B_r := mv B_r bb; replace B_s := mv B_s bb; replace HB := nx HB bb; clear bb c0p c1p c0q c1q c0r c1r c0s c1s; have c0p : w5.cell? ⟨w.heap.size, 0, none⟩ = some (.int .i64 a) := B_p.out.cell 0 rfl; have c1p : w5.cell? ⟨w.heap.size, 1, none⟩ = some (.int .i64 b) := B_p.out.cell 1 rfl; have c0q : w5.cell? ⟨w.heap.size + 1, 0, none⟩ = some (.int .i64 c) := B_q.out.cell 0 rfl; have c1q : w5.cell? ⟨w.heap.size + 1, 1, none⟩ = some (.int .i64 d) := B_q.out.cell 1 rfl; have c0r : w5.cell? ⟨w.heap.size + 1 + 1, 0, none⟩ = some (.int .i64 f) := B_r.out.cell 0 rfl; have c1r : w5.cell? ⟨w.heap.size + 1 + 1, 1, none⟩ = some (.int .i64 g) := B_r.out.cell 1 rfl; have c0s : w5.cell? ⟨w.heap.size + 1 + 1 + 1, 0, none⟩ = some (.int .i64 u) := B_s.out.cell 0 rfl; have c1s : w5.cell? ⟨w.heap.size + 1 + 1 + 1, 1, none⟩ = some (.int .i64 v) := B_s.out.cell 1 rfl; have tk1x1 : True := trivial)
      | (clear tk1x1; go_at_call 29; refine (T2.out _).mono ?_; rintro e w6 ⟨rfl, bb⟩; replace bb := nextw (w0 := w5) (by exact sm) bb; replace B_p := mv B_p bb; replace B_q := mv B_q bb; replace B_r := mv B_r bb; replace B_s := mv B_s bb; replace HB := nx HB bb; clear bb c0p c1p c0q c1q c0r c1r c0s c1s; have c0p : w6.cell? ⟨w.heap.size, 0, none⟩ = some (.int .i64 a) := B_p.out.cell 0 rfl; have c1p : w6.cell? ⟨w.heap.size, 1, none⟩ = some (.int .i64 b) := B_p.out.cell 1 rfl; have c0q : w6.cell? ⟨w.heap.size + 1, 0, none⟩ = some (.int .i64 c) := B_q.out.cell 0 rfl; have c1q : w6.cell? ⟨w.heap.size + 1, 1, none⟩ = some (.int .i64 d) := B_q.out.cell 1 rfl; have c0r : w6.cell? ⟨w.heap.size + 1 + 1, 0, none⟩ = some (.int .i64 f) := B_r.out.cell 0 rfl; have c1r : w6.cell? ⟨w.heap.size + 1 + 1, 1, none⟩ = some (.int .i64 g) := B_r.out.cell 1 rfl; have c0s : w6.cell? ⟨w.heap.size + 1 + 1 + 1, 0, none⟩ = some (.int .i64 u) := B_s.out.cell 0 rfl; have c1s : w6.cell? ⟨w.heap.size + 1 + 1 + 1, 1, none⟩ = some (.int .i64 v) := B_s.out.cell 1 rfl; have tk1x2 : True := trivial)
      | (clear tk1x2; go_at_call 29; refine (T3.out _).mono ?_; rintro e w7 ⟨rfl, bb⟩; replace bb := nextw (w0 := w6) (by exact sm) bb; replace B_p := mv B_p bb; replace B_q := mv B_q bb; replace B_r := mv B_r bb; replace B_s := mv B_s bb; replace HB := nx HB bb; clear bb c0p c1p c0q c1q c0r c1r c0s c1s; have c0p : w7.cell? ⟨w.heap.size, 0, none⟩ = some (.int .i64 a) := B_p.out.cell 0 rfl; have c1p : w7.cell? ⟨w.heap.size, 1, none⟩ = some (.int .i64 b) := B_p.out.cell 1 rfl; have c0q : w7.cell? ⟨w.heap.size + 1, 0, none⟩ = some (.int .i64 c) := B_q.out.cell 0 rfl; have c1q : w7.cell? ⟨w.heap.size + 1, 1, none⟩ = some (.int .i64 d) := B_q.out.cell 1 rfl; have c0r : w7.cell? ⟨w.heap.size + 1 + 1, 0, none⟩ = some (.int .i64 f) := B_r.out.cell 0 rfl; have c1r : w7.cell? ⟨w.heap.size + 1 + 1, 1, none⟩ = some (.int .i64 g) := B_r.out.cell 1 rfl; have c0s : w7.cell? ⟨w.heap.size + 1 + 1 + 1, 0, none⟩ = some (.int .i64 u) := B_s.out.cell 0 rfl; have c1s : w7.cell? ⟨w.heap.size + 1 + 1 + 1, 1, none⟩ = some (.int .i64 v) := B_s.out.cell 1 rfl; have tk1x3 : True := trivial)
      | (clear tk1x3; go_at_call 29; refine (T4.out _).mono ?_; rintro e w8 ⟨rfl, bb⟩; replace bb := nextw (w0 := w7) (by exact sm) bb; replace B_p := mv B_p bb; replace B_q := mv B_q bb; replace B_r := mv B_r bb; replace B_s := mv B_s bb; replace HB := nx HB bb; clear bb c0p c1p c0q c1q c0r c1r c0s c1s; have c0p : w8.cell? ⟨w.heap.size, 0, none⟩ = some (.int .i64 a) := B_p.out.cell 0 rfl; have c1p : w8.cell? ⟨w.heap.size, 1, none⟩ = some (.int .i64 b) := B_p.out.cell 1 rfl; have c0q : w8.cell? ⟨w.heap.size + 1, 0, none⟩ = some (.int .i64 c) := B_q.out.cell 0 rfl; have c1q : w8.cell? ⟨w.heap.size + 1, 1, none⟩ = some (.int .i64 d) := B_q.out.cell 1 rfl; have c0r : w8.cell? ⟨w.heap.size + 1 + 1, 0, none⟩ = some (.int .i64 f) := B_r.out.cell 0 rfl; have c1r : w8.cell? ⟨w.heap.size + 1 + 1, 1, none⟩ = some (.int .i64 g) := B_r.out.cell 1 rfl; have c0s : w8.cell? ⟨w.heap.size + 1 + 1 + 1, 0, none⟩ = some (.int .i64 u) := B_s.out.cell 0 rfl; have c1s : w8.cell? ⟨w.heap.size + 1 + 1 + 1, 1, none⟩ = some (.int .i64 v) := B_s.out.cell 1 rfl; have tk1x4 : True := trivial))
  clear c0p c1p c0q c1q c0r c1r c0s c1s
  clear e1 ew1 e2 ew2
  go_wp2
  go_ret
  exact ⟨rfl, nextw HB.out (by exact sm)⟩

theorem mxi (x y : Int) : (if x < y then y else x) = max x y := by split <;> omega
theorem mni (x y : Int) : (if y < x then y else x) = min x y := by split <;> omega
theorem RCross_ok (a b c d f g u v : Int) (hp : OkP a b) (hq : OkP c d) (hr : OkP f g) (hs : OkP u v) (w : World) : Calls Try.prog 27 #[.agg #[.int .i64 a, .int .i64 b], .agg #[.int .i64 c, .int .i64 d], .agg #[.int .i64 f, .int .i64 g], .agg #[.int .i64 u, .int .i64 v]] w fun e w' => e = .returned (.bool (decide (Cr a b c d f g u v))) ∧ Below w.heap.size w w' := by
  by_cases o0 : min f u ≤ max a c
  · by_cases o1 : min a c ≤ max f u
    · by_cases o2 : min g v ≤ max b d
      · by_cases o3 : min b d ≤ max g v
        · by_cases h1 : 0 < sgn (pr a b c d f g) * sgn (pr a b c d u v)
          · rw [decide_eq_false (fun h => h.s1 (sgn_pos.1 h1))]
            exact RCross_os a b c d f g u v _ _ _ _ _ _ _ _ hp hq hr hs rfl rfl rfl rfl rfl rfl rfl rfl (by rw [mxi, mni]; exact o0) (by rw [mxi, mni]; exact o1) (by rw [mxi, mni]; exact o2) (by rw [mxi, mni]; exact o3) h1 w
          · have := RCross_ot a b c d f g u v _ _ _ _ _ _ _ _ hp hq hr hs rfl rfl rfl rfl rfl rfl rfl rfl (by rw [mxi, mni]; exact o0) (by rw [mxi, mni]; exact o1) (by rw [mxi, mni]; exact o2) (by rw [mxi, mni]; exact o3) (by omega) w
            rwa [show decide (sgn (pr f g u v a b) * sgn (pr f g u v c d) ≤ 0) = decide (Cr a b c d f g u v) from decide_eq_decide.2 ⟨fun h => ⟨o1, o0, o3, o2, fun g => h1 (sgn_pos.2 g), fun g => by have := sgn_pos.2 g; omega⟩, fun h => by have : ¬ 0 < sgn (pr f g u v a b) * sgn (pr f g u v c d) := fun g => h.s2 (sgn_pos.1 g); omega⟩] at this
        · rw [decide_eq_false (fun h => o3 h.o3)]; exact RCross_o3 a b c d f g u v _ _ _ _ _ _ _ _ hp hq hr hs rfl rfl rfl rfl rfl rfl rfl rfl (by rw [mxi, mni]; exact o0) (by rw [mxi, mni]; exact o1) (by rw [mxi, mni]; exact o2) (by rw [mxi, mni]; omega) w
      · rw [decide_eq_false (fun h => o2 h.o4)]; exact RCross_o2 a b c d f g u v _ _ _ _ _ _ _ _ hp hq hr hs rfl rfl rfl rfl rfl rfl rfl rfl (by rw [mxi, mni]; exact o0) (by rw [mxi, mni]; exact o1) (by rw [mxi, mni]; omega) w
    · rw [decide_eq_false (fun h => o1 h.o1)]; exact RCross_o1 a b c d f g u v _ _ _ _ _ _ _ _ hp hq hr hs rfl rfl rfl rfl rfl rfl rfl rfl (by rw [mxi, mni]; exact o0) (by rw [mxi, mni]; omega) w
  · rw [decide_eq_false (fun h => o0 h.o2)]; exact RCross_o0 a b c d f g u v _ _ _ _ _ _ _ _ hp hq hr hs rfl rfl rfl rfl rfl rfl rfl rfl (by rw [mxi, mni]; omega) w
theorem RCross_any (a b c d f g u v : Int) (w : World) : Calls Try.prog 27 #[.agg #[.int .i64 a, .int .i64 b], .agg #[.int .i64 c, .int .i64 d], .agg #[.int .i64 f, .int .i64 g], .agg #[.int .i64 u, .int .i64 v]] w fun e w' => e = .returned (.bool (decide (Ok4 a b c d f g u v ∧ Cr a b c d f g u v))) ∧ Below w.heap.size w w' := by
  by_cases hp : OkP a b
  · by_cases hq : OkP c d
    · by_cases hr : OkP f g
      · by_cases hs : OkP u v
        · rw [decide_eq_decide.2 (show Ok4 a b c d f g u v ∧ Cr a b c d f g u v ↔ Cr a b c d f g u v from ⟨fun h => h.2, fun h => ⟨⟨hp, hq, hr, hs⟩, h⟩⟩)]; exact RCross_ok a b c d f g u v hp hq hr hs w
        · rw [decide_eq_false (fun h => hs h.1.2.2.2)]; exact RCross_3 a b c d f g u v hp hq hr hs w
      · rw [decide_eq_false (fun h => hr h.1.2.2.1)]; exact RCross_2 a b c d f g u v hp hq hr w
    · rw [decide_eq_false (fun h => hq h.1.2.1)]; exact RCross_1 a b c d f g u v hp hq w
  · rw [decide_eq_false (fun h => hp h.1.1)]; exact RCross_0 a b c d f g u v hp w
end Go.Proofs.Ytaflgmiagjldhaa
