/- segment.Touch. -/
import Derived.Test.YtaflgmiagjldhaaS14
set_option linter.unusedVariables false
set_option linter.unusedSimpArgs false
namespace Go.Proofs.Ytaflgmiagjldhaa
open Go Go.RowKit Hd

theorem ix0 (w : World) (a b c d e f g h : Int) : (Instr.index 45 (.agg #[.int .i64 a, .int .i64 b, .int .i64 c, .int .i64 d, .int .i64 e, .int .i64 f, .int .i64 g, .int .i64 h]) (.int .i64 0)).run Try.prog w = .ok (.agg #[.int .i64 a, .int .i64 b]) w := by rfl
theorem ix1 (w : World) (a b c d e f g h : Int) : (Instr.index 45 (.agg #[.int .i64 a, .int .i64 b, .int .i64 c, .int .i64 d, .int .i64 e, .int .i64 f, .int .i64 g, .int .i64 h]) (.int .i64 1)).run Try.prog w = .ok (.agg #[.int .i64 c, .int .i64 d]) w := by rfl
theorem ix2 (w : World) (a b c d e f g h : Int) : (Instr.index 45 (.agg #[.int .i64 a, .int .i64 b, .int .i64 c, .int .i64 d, .int .i64 e, .int .i64 f, .int .i64 g, .int .i64 h]) (.int .i64 2)).run Try.prog w = .ok (.agg #[.int .i64 e, .int .i64 f]) w := by rfl
theorem ix3 (w : World) (a b c d e f g h : Int) : (Instr.index 45 (.agg #[.int .i64 a, .int .i64 b, .int .i64 c, .int .i64 d, .int .i64 e, .int .i64 f, .int .i64 g, .int .i64 h]) (.int .i64 3)).run Try.prog w = .ok (.agg #[.int .i64 g, .int .i64 h]) w := by rfl

set_option maxRecDepth 100000 in
set_option maxHeartbeats 2000000 in
theorem Touch_p (a b c d x0 y0 x1 y1 k : Int) (hp : ¬ OkP a b) (w : World) :
    Calls Try.prog 25 #[.agg #[.int .i64 a, .int .i64 b], .agg #[.int .i64 c, .int .i64 d], .agg #[.int .i64 x0, .int .i64 y0, .int .i64 x1, .int .i64 y1], .int .i64 k] w fun e w' => e = .returned (.bool false) ∧ Below w.heap.size w w' := by
  have HW := Lib.hid (fun w => validWay_0 a b c d hp w)
  clear hp
  obtain ⟨HB, B_p, B_q, B_r⟩ := box3 w 23 #[.int .i64 a, .int .i64 b] 23 #[.int .i64 c, .int .i64 d] 29 #[.int .i64 x0, .int .i64 y0, .int .i64 x1, .int .i64 y1]
  go_enter Try.func25, Try.ntmps25
  go_wp2_with fail
  generalize ((w.alloc (.cells #[.int .i64 a, .int .i64 b] 23)).alloc (.cells #[.int .i64 c, .int .i64 d] 23)).alloc (.cells #[.int .i64 x0, .int .i64 y0, .int .i64 x1, .int .i64 y1] 29) = W0 at *
  obtain ⟨c0p, c1p⟩ := cells2 B_p
  obtain ⟨c0q, c1q⟩ := cells2 B_q
  refine (HW.out _).mono ?_
  clear c0p c1p c0q c1q
  rintro e w1 ⟨rfl, bb⟩
  replace bb := nextw (w0 := W0) (by exact sm) bb
  replace B_p := mv B_p bb
  replace B_q := mv B_q bb
  replace B_r := mv B_r bb
  replace HB := nx HB bb
  clear bb
  go_wp2
  go_ret
  exact ⟨rfl, nextw HB.out (by exact sm)⟩

set_option maxRecDepth 100000 in
set_option maxHeartbeats 2000000 in
theorem Touch_q (a b c d x0 y0 x1 y1 k : Int) (hp : OkP a b) (hq : ¬ OkP c d) (w : World) :
    Calls Try.prog 25 #[.agg #[.int .i64 a, .int .i64 b], .agg #[.int .i64 c, .int .i64 d], .agg #[.int .i64 x0, .int .i64 y0, .int .i64 x1, .int .i64 y1], .int .i64 k] w fun e w' => e = .returned (.bool false) ∧ Below w.heap.size w w' := by
  have HW := Lib.hid (fun w => validWay_1 a b c d hp hq w)
  clear hp hq
  obtain ⟨HB, B_p, B_q, B_r⟩ := box3 w 23 #[.int .i64 a, .int .i64 b] 23 #[.int .i64 c, .int .i64 d] 29 #[.int .i64 x0, .int .i64 y0, .int .i64 x1, .int .i64 y1]
  go_enter Try.func25, Try.ntmps25
  go_wp2_with fail
  generalize ((w.alloc (.cells #[.int .i64 a, .int .i64 b] 23)).alloc (.cells #[.int .i64 c, .int .i64 d] 23)).alloc (.cells #[.int .i64 x0, .int .i64 y0, .int .i64 x1, .int .i64 y1] 29) = W0 at *
  obtain ⟨c0p, c1p⟩ := cells2 B_p
  obtain ⟨c0q, c1q⟩ := cells2 B_q
  refine (HW.out _).mono ?_
  clear c0p c1p c0q c1q
  rintro e w1 ⟨rfl, bb⟩
  replace bb := nextw (w0 := W0) (by exact sm) bb
  replace B_p := mv B_p bb
  replace B_q := mv B_q bb
  replace B_r := mv B_r bb
  replace HB := nx HB bb
  clear bb
  go_wp2
  go_ret
  exact ⟨rfl, nextw HB.out (by exact sm)⟩

set_option maxRecDepth 100000 in
set_option maxHeartbeats 2000000 in
theorem Touch_w (a b c d x0 y0 x1 y1 k : Int) (hp : OkP a b) (hq : OkP c d) (hw : ¬ ((-1024 ≤ c - a ∧ c - a ≤ 1024) ∧ -1024 ≤ d - b ∧ d - b ≤ 1024)) (w : World) :
    Calls Try.prog 25 #[.agg #[.int .i64 a, .int .i64 b], .agg #[.int .i64 c, .int .i64 d], .agg #[.int .i64 x0, .int .i64 y0, .int .i64 x1, .int .i64 y1], .int .i64 k] w fun e w' => e = .returned (.bool false) ∧ Below w.heap.size w w' := by
  have HW := Lib.hid (fun w => validWay_ok a b c d hp hq w)
  rw [decide_eq_false hw] at HW
  clear hp hq hw
  obtain ⟨HB, B_p, B_q, B_r⟩ := box3 w 23 #[.int .i64 a, .int .i64 b] 23 #[.int .i64 c, .int .i64 d] 29 #[.int .i64 x0, .int .i64 y0, .int .i64 x1, .int .i64 y1]
  go_enter Try.func25, Try.ntmps25
  go_wp2_with fail
  generalize ((w.alloc (.cells #[.int .i64 a, .int .i64 b] 23)).alloc (.cells #[.int .i64 c, .int .i64 d] 23)).alloc (.cells #[.int .i64 x0, .int .i64 y0, .int .i64 x1, .int .i64 y1] 29) = W0 at *
  obtain ⟨c0p, c1p⟩ := cells2 B_p
  obtain ⟨c0q, c1q⟩ := cells2 B_q
  refine (HW.out _).mono ?_
  clear c0p c1p c0q c1q
  rintro e w1 ⟨rfl, bb⟩
  replace bb := nextw (w0 := W0) (by exact sm) bb
  replace B_p := mv B_p bb
  replace B_q := mv B_q bb
  replace B_r := mv B_r bb
  replace HB := nx HB bb
  clear bb
  go_wp2
  go_ret
  exact ⟨rfl, nextw HB.out (by exact sm)⟩

set_option maxRecDepth 100000 in
set_option maxHeartbeats 2000000 in
theorem Touch_r (a b c d x0 y0 x1 y1 k : Int) (hp : OkP a b) (hq : OkP c d) (hw : ((-1024 ≤ c - a ∧ c - a ≤ 1024) ∧ -1024 ≤ d - b ∧ d - b ≤ 1024)) (hr : ¬ OkR x0 y0 x1 y1) (w : World) :
    Calls Try.prog 25 #[.agg #[.int .i64 a, .int .i64 b], .agg #[.int .i64 c, .int .i64 d], .agg #[.int .i64 x0, .int .i64 y0, .int .i64 x1, .int .i64 y1], .int .i64 k] w fun e w' => e = .returned (.bool false) ∧ Below w.heap.size w w' := by
  have HW := Lib.hid (fun w => validWay_ok a b c d hp hq w)
  rw [decide_eq_true hw] at HW
  have HR := Lib.hid (fun w => ValidRect_f hr w)
  clear hp hq hw hr
  obtain ⟨HB, B_p, B_q, B_r⟩ := box3 w 23 #[.int .i64 a, .int .i64 b] 23 #[.int .i64 c, .int .i64 d] 29 #[.int .i64 x0, .int .i64 y0, .int .i64 x1, .int .i64 y1]
  go_enter Try.func25, Try.ntmps25
  go_wp2_with fail
  generalize ((w.alloc (.cells #[.int .i64 a, .int .i64 b] 23)).alloc (.cells #[.int .i64 c, .int .i64 d] 23)).alloc (.cells #[.int .i64 x0, .int .i64 y0, .int .i64 x1, .int .i64 y1] 29) = W0 at *
  obtain ⟨c0p, c1p⟩ := cells2 B_p
  obtain ⟨c0q, c1q⟩ := cells2 B_q
  refine (HW.out _).mono ?_
  clear c0p c1p c0q c1q
  rintro e w1 ⟨rfl, bb⟩
  replace bb := nextw (w0 := W0) (by exact sm) bb
  replace B_p := mv B_p bb
  replace B_q := mv B_q bb
  replace B_r := mv B_r bb
  replace HB := nx HB bb
  clear bb
  obtain ⟨c0r, c1r, c2r, c3r⟩ := cells4 B_r
  go_wp2_with fail
  refine (HR.out _).mono ?_
  clear c0r c1r c2r c3r
  rintro e w2 ⟨rfl, bb⟩
  replace bb := nextw (w0 := w1) (by exact sm) bb
  replace B_p := mv B_p bb
  replace B_q := mv B_q bb
  replace B_r := mv B_r bb
  replace HB := nx HB bb
  clear bb
  go_wp2
  go_ret
  exact ⟨rfl, nextw HB.out (by exact sm)⟩

set_option maxRecDepth 100000 in
set_option maxHeartbeats 2000000 in
theorem Touch_k1 (a b c d x0 y0 x1 y1 k : Int) (hp : OkP a b) (hq : OkP c d) (hw : ((-1024 ≤ c - a ∧ c - a ≤ 1024) ∧ -1024 ≤ d - b ∧ d - b ≤ 1024)) (hr : OkR x0 y0 x1 y1) (hk : k < 0) (w : World) :
    Calls Try.prog 25 #[.agg #[.int .i64 a, .int .i64 b], .agg #[.int .i64 c, .int .i64 d], .agg #[.int .i64 x0, .int .i64 y0, .int .i64 x1, .int .i64 y1], .int .i64 k] w fun e w' => e = .returned (.bool false) ∧ Below w.heap.size w w' := by
  have HW := Lib.hid (fun w => validWay_ok a b c d hp hq w)
  rw [decide_eq_true hw] at HW
  have HR := Lib.hid (fun w => ValidRect_t hr w)
  clear hp hq hw hr
  obtain ⟨HB, B_p, B_q, B_r⟩ := box3 w 23 #[.int .i64 a, .int .i64 b] 23 #[.int .i64 c, .int .i64 d] 29 #[.int .i64 x0, .int .i64 y0, .int .i64 x1, .int .i64 y1]
  go_enter Try.func25, Try.ntmps25
  go_wp2_with fail
  generalize ((w.alloc (.cells #[.int .i64 a, .int .i64 b] 23)).alloc (.cells #[.int .i64 c, .int .i64 d] 23)).alloc (.cells #[.int .i64 x0, .int .i64 y0, .int .i64 x1, .int .i64 y1] 29) = W0 at *
  obtain ⟨c0p, c1p⟩ := cells2 B_p
  obtain ⟨c0q, c1q⟩ := cells2 B_q
  refine (HW.out _).mono ?_
  clear c0p c1p c0q c1q
  rintro e w1 ⟨rfl, bb⟩
  replace bb := nextw (w0 := W0) (by exact sm) bb
  replace B_p := mv B_p bb
  replace B_q := mv B_q bb
  replace B_r := mv B_r bb
  replace HB := nx HB bb
  clear bb
  obtain ⟨c0r, c1r, c2r, c3r⟩ := cells4 B_r
  go_wp2_with fail
  refine (HR.out _).mono ?_
  clear c0r c1r c2r c3r
  rintro e w2 ⟨rfl, bb⟩
  replace bb := nextw (w0 := w1) (by exact sm) bb
  replace B_p := mv B_p bb
  replace B_q := mv B_q bb
  replace B_r := mv B_r bb
  replace HB := nx HB bb
  clear bb
  go_wp2
  go_ret
  exact ⟨rfl, nextw HB.out (by exact sm)⟩

set_option maxRecDepth 100000 in
set_option maxHeartbeats 2000000 in
theorem Touch_k2 (a b c d x0 y0 x1 y1 k : Int) (hp : OkP a b) (hq : OkP c d) (hw : ((-1024 ≤ c - a ∧ c - a ≤ 1024) ∧ -1024 ≤ d - b ∧ d - b ≤ 1024)) (hr : OkR x0 y0 x1 y1) (hk0 : 0 ≤ k) (hk : 1024 < k) (w : World) :
    Calls Try.prog 25 #[.agg #[.int .i64 a, .int .i64 b], .agg #[.int .i64 c, .int .i64 d], .agg #[.int .i64 x0, .int .i64 y0, .int .i64 x1, .int .i64 y1], .int .i64 k] w fun e w' => e = .returned (.bool false) ∧ Below w.heap.size w w' := by
  have HW := Lib.hid (fun w => validWay_ok a b c d hp hq w)
  rw [decide_eq_true hw] at HW
  have HR := Lib.hid (fun w => ValidRect_t hr w)
  clear hp hq hw hr
  obtain ⟨HB, B_p, B_q, B_r⟩ := box3 w 23 #[.int .i64 a, .int .i64 b] 23 #[.int .i64 c, .int .i64 d] 29 #[.int .i64 x0, .int .i64 y0, .int .i64 x1, .int .i64 y1]
  go_enter Try.func25, Try.ntmps25
  go_wp2_with fail
  generalize ((w.alloc (.cells #[.int .i64 a, .int .i64 b] 23)).alloc (.cells #[.int .i64 c, .int .i64 d] 23)).alloc (.cells #[.int .i64 x0, .int .i64 y0, .int .i64 x1, .int .i64 y1] 29) = W0 at *
  obtain ⟨c0p, c1p⟩ := cells2 B_p
  obtain ⟨c0q, c1q⟩ := cells2 B_q
  refine (HW.out _).mono ?_
  clear c0p c1p c0q c1q
  rintro e w1 ⟨rfl, bb⟩
  replace bb := nextw (w0 := W0) (by exact sm) bb
  replace B_p := mv B_p bb
  replace B_q := mv B_q bb
  replace B_r := mv B_r bb
  replace HB := nx HB bb
  clear bb
  obtain ⟨c0r, c1r, c2r, c3r⟩ := cells4 B_r
  go_wp2_with fail
  refine (HR.out _).mono ?_
  clear c0r c1r c2r c3r
  rintro e w2 ⟨rfl, bb⟩
  replace bb := nextw (w0 := w1) (by exact sm) bb
  replace B_p := mv B_p bb
  replace B_q := mv B_q bb
  replace B_r := mv B_r bb
  replace HB := nx HB bb
  clear bb
  go_wp2
  go_ret
  exact ⟨rfl, nextw HB.out (by exact sm)⟩

set_option maxRecDepth 100000 in
set_option maxHeartbeats 8000000 in
theorem Touch_gp (a b c d x0 y0 x1 y1 k : Int) (hp : OkP a b) (hq : OkP c d) (hw : ((-1024 ≤ c - a ∧ c - a ≤ 1024) ∧ -1024 ≤ d - b ∧ d - b ≤ 1024)) (hr : OkR x0 y0 x1 y1) (k0 : 0 ≤ k) (k1 : k ≤ 1024) (h0 : gapM a b x0 y0 x1 y1 ≤ k * k) (w : World) :
    Calls Try.prog 25 #[.agg #[.int .i64 a, .int .i64 b], .agg #[.int .i64 c, .int .i64 d], .agg #[.int .i64 x0, .int .i64 y0, .int .i64 x1, .int .i64 y1], .int .i64 k] w fun e w' => e = .returned (.bool true) ∧ Below w.heap.size w w' := by
  have HW := Lib.hid (fun w => validWay_ok a b c d hp hq w)
  rw [decide_eq_true hw] at HW
  have HR := Lib.hid (fun w => ValidRect_t hr w)
  have HG := Lib.hid (fun w => Gap_ok a b x0 y0 x1 y1 hp hr w)
  have kk := (Way.mk (a := a) (b := b) (c := c) (d := d) hw.1.1 hw.1.2 hw.2.1 hw.2.2 k0 k1).sq
  clear hp hq hw hr
  generalize gapM a b x0 y0 x1 y1 = gp at *
  have ekk : IntKind.i64.wrap (k * k) = k * k := by rw [IntKind.wrap_i64]; omega
  obtain ⟨HB, B_p, B_q, B_r⟩ := box3 w 23 #[.int .i64 a, .int .i64 b] 23 #[.int .i64 c, .int .i64 d] 29 #[.int .i64 x0, .int .i64 y0, .int .i64 x1, .int .i64 y1]
  go_enter Try.func25, Try.ntmps25
  go_wp2_with fail
  generalize ((w.alloc (.cells #[.int .i64 a, .int .i64 b] 23)).alloc (.cells #[.int .i64 c, .int .i64 d] 23)).alloc (.cells #[.int .i64 x0, .int .i64 y0, .int .i64 x1, .int .i64 y1] 29) = W0 at *
  obtain ⟨c0p, c1p⟩ := cells2 B_p
  obtain ⟨c0q, c1q⟩ := cells2 B_q
  refine (HW.out _).mono ?_
  clear c0p c1p c0q c1q
  rintro e w1 ⟨rfl, bb⟩
  replace bb := nextw (w0 := W0) (by exact sm) bb
  replace B_p := mv B_p bb
  replace B_q := mv B_q bb
  replace B_r := mv B_r bb
  replace HB := nx HB bb
  clear bb
  obtain ⟨c0r, c1r, c2r, c3r⟩ := cells4 B_r
  go_wp2_with fail
  refine (HR.out _).mono ?_
  clear c0r c1r c2r c3r
  rintro e w2 ⟨rfl, bb⟩
  replace bb := nextw (w0 := w1) (by exact sm) bb
  replace B_p := mv B_p bb
  replace B_q := mv B_q bb
  replace B_r := mv B_r bb
  replace HB := nx HB bb
  clear bb
  go_upto_region 4 with (fail)
  clear HW HR ekk
  generalize k * k = most at *
  obtain ⟨c0p, c1p⟩ := cells2 B_p
  obtain ⟨c0r, c1r, c2r, c3r⟩ := cells4 B_r
  go_wp2_with fail
  refine (HG.out _).mono ?_
  clear c0p c1p c0r c1r c2r c3r
  rintro e w3 ⟨rfl, bb⟩
  replace bb := nextw (w0 := w2) (by exact sm) bb
  replace B_p := mv B_p bb
  replace B_q := mv B_q bb
  replace B_r := mv B_r bb
  replace HB := nx HB bb
  clear bb
  go_wp2
  go_ret
  exact ⟨rfl, nextw HB.out (by exact sm)⟩

set_option maxRecDepth 100000 in
set_option maxHeartbeats 8000000 in
theorem Touch_gq (a b c d x0 y0 x1 y1 k : Int) (hp : OkP a b) (hq : OkP c d) (hw : ((-1024 ≤ c - a ∧ c - a ≤ 1024) ∧ -1024 ≤ d - b ∧ d - b ≤ 1024)) (hr : OkR x0 y0 x1 y1) (k0 : 0 ≤ k) (k1 : k ≤ 1024) (h0 : ¬ gapM a b x0 y0 x1 y1 ≤ k * k) (h1 : gapM c d x0 y0 x1 y1 ≤ k * k) (w : World) :
    Calls Try.prog 25 #[.agg #[.int .i64 a, .int .i64 b], .agg #[.int .i64 c, .int .i64 d], .agg #[.int .i64 x0, .int .i64 y0, .int .i64 x1, .int .i64 y1], .int .i64 k] w fun e w' => e = .returned (.bool true) ∧ Below w.heap.size w w' := by
  have HW := Lib.hid (fun w => validWay_ok a b c d hp hq w)
  rw [decide_eq_true hw] at HW
  have HR := Lib.hid (fun w => ValidRect_t hr w)
  have HG := Lib.hid (fun w => Gap_ok a b x0 y0 x1 y1 hp hr w)
  have kk := (Way.mk (a := a) (b := b) (c := c) (d := d) hw.1.1 hw.1.2 hw.2.1 hw.2.2 k0 k1).sq
  have HQ := Lib.hid (fun w => Gap_ok c d x0 y0 x1 y1 hq hr w)
  clear hp hq hw hr
  generalize gapM a b x0 y0 x1 y1 = gp at *
  generalize gapM c d x0 y0 x1 y1 = gq at *
  have ekk : IntKind.i64.wrap (k * k) = k * k := by rw [IntKind.wrap_i64]; omega
  obtain ⟨HB, B_p, B_q, B_r⟩ := box3 w 23 #[.int .i64 a, .int .i64 b] 23 #[.int .i64 c, .int .i64 d] 29 #[.int .i64 x0, .int .i64 y0, .int .i64 x1, .int .i64 y1]
  go_enter Try.func25, Try.ntmps25
  go_wp2_with fail
  generalize ((w.alloc (.cells #[.int .i64 a, .int .i64 b] 23)).alloc (.cells #[.int .i64 c, .int .i64 d] 23)).alloc (.cells #[.int .i64 x0, .int .i64 y0, .int .i64 x1, .int .i64 y1] 29) = W0 at *
  obtain ⟨c0p, c1p⟩ := cells2 B_p
  obtain ⟨c0q, c1q⟩ := cells2 B_q
  refine (HW.out _).mono ?_
  clear c0p c1p c0q c1q
  rintro e w1 ⟨rfl, bb⟩
  replace bb := nextw (w0 := W0) (by exact sm) bb
  replace B_p := mv B_p bb
  replace B_q := mv B_q bb
  replace B_r := mv B_r bb
  replace HB := nx HB bb
  clear bb
  obtain ⟨c0r, c1r, c2r, c3r⟩ := cells4 B_r
  go_wp2_with fail
  refine (HR.out _).mono ?_
  clear c0r c1r c2r c3r
  rintro e w2 ⟨rfl, bb⟩
  replace bb := nextw (w0 := w1) (by exact sm) bb
  replace B_p := mv B_p bb
  replace B_q := mv B_q bb
  replace B_r := mv B_r bb
  replace HB := nx HB bb
  clear bb
  go_upto_region 4 with (fail)
  clear HW HR ekk
  generalize k * k = most at *
  obtain ⟨c0p, c1p⟩ := cells2 B_p
  obtain ⟨c0r, c1r, c2r, c3r⟩ := cells4 B_r
  go_wp2_with fail
  refine (HG.out _).mono ?_
  clear c0p c1p c0r c1r c2r c3r
  rintro e w3 ⟨rfl, bb⟩
  replace bb := nextw (w0 := w2) (by exact sm) bb
  replace B_p := mv B_p bb
  replace B_q := mv B_q bb
  replace B_r := mv B_r bb
  replace HB := nx HB bb
  clear bb
  obtain ⟨c0q, c1q⟩ := cells2 B_q
  obtain ⟨c0r, c1r, c2r, c3r⟩ := cells4 B_r
  go_wp2_with fail
  refine (HQ.out _).mono ?_
  clear c0q c1q c0r c1r c2r c3r
  rintro e w4 ⟨rfl, bb⟩
  replace bb := nextw (w0 := w3) (by exact sm) bb
  replace B_p := mv B_p bb
  replace B_q := mv B_q bb
  replace B_r := mv B_r bb
  replace HB := nx HB bb
  clear bb
  go_wp2
  go_ret
  exact ⟨rfl, nextw HB.out (by exact sm)⟩

set_option maxRecDepth 100000 in
set_option maxHeartbeats 8000000 in
theorem Touch_rb (a b c d x0 y0 x1 y1 k : Int) (hp : OkP a b) (hq : OkP c d) (hw : ((-1024 ≤ c - a ∧ c - a ≤ 1024) ∧ -1024 ≤ d - b ∧ d - b ≤ 1024)) (hr : OkR x0 y0 x1 y1) (k0 : 0 ≤ k) (k1 : k ≤ 1024) (h0 : ¬ gapM a b x0 y0 x1 y1 ≤ k * k) (h1 : ¬ gapM c d x0 y0 x1 y1 ≤ k * k) (h2 : runB a b c d x0 y0 x1 y1 = true) (w : World) :
    Calls Try.prog 25 #[.agg #[.int .i64 a, .int .i64 b], .agg #[.int .i64 c, .int .i64 d], .agg #[.int .i64 x0, .int .i64 y0, .int .i64 x1, .int .i64 y1], .int .i64 k] w fun e w' => e = .returned (.bool true) ∧ Below w.heap.size w w' := by
  have HW := Lib.hid (fun w => validWay_ok a b c d hp hq w)
  rw [decide_eq_true hw] at HW
  have HR := Lib.hid (fun w => ValidRect_t hr w)
  have HG := Lib.hid (fun w => Gap_ok a b x0 y0 x1 y1 hp hr w)
  have kk := (Way.mk (a := a) (b := b) (c := c) (d := d) hw.1.1 hw.1.2 hw.2.1 hw.2.2 k0 k1).sq
  have HQ := Lib.hid (fun w => Gap_ok c d x0 y0 x1 y1 hq hr w)
  have HU := Lib.hid (fun w => runsInto_any a b c d x0 y0 x1 y1 hp hq hr hw.1.1 hw.1.2 hw.2.1 hw.2.2 w)
  rw [h2] at HU
  clear hp hq hw hr h2
  generalize gapM a b x0 y0 x1 y1 = gp at *
  generalize gapM c d x0 y0 x1 y1 = gq at *
  have ekk : IntKind.i64.wrap (k * k) = k * k := by rw [IntKind.wrap_i64]; omega
  obtain ⟨HB, B_p, B_q, B_r⟩ := box3 w 23 #[.int .i64 a, .int .i64 b] 23 #[.int .i64 c, .int .i64 d] 29 #[.int .i64 x0, .int .i64 y0, .int .i64 x1, .int .i64 y1]
  go_enter Try.func25, Try.ntmps25
  go_wp2_with fail
  generalize ((w.alloc (.cells #[.int .i64 a, .int .i64 b] 23)).alloc (.cells #[.int .i64 c, .int .i64 d] 23)).alloc (.cells #[.int .i64 x0, .int .i64 y0, .int .i64 x1, .int .i64 y1] 29) = W0 at *
  obtain ⟨c0p, c1p⟩ := cells2 B_p
  obtain ⟨c0q, c1q⟩ := cells2 B_q
  refine (HW.out _).mono ?_
  clear c0p c1p c0q c1q
  rintro e w1 ⟨rfl, bb⟩
  replace bb := nextw (w0 := W0) (by exact sm) bb
  replace B_p := mv B_p bb
  replace B_q := mv B_q bb
  replace B_r := mv B_r bb
  replace HB := nx HB bb
  clear bb
  obtain ⟨c0r, c1r, c2r, c3r⟩ := cells4 B_r
  go_wp2_with fail
  refine (HR.out _).mono ?_
  clear c0r c1r c2r c3r
  rintro e w2 ⟨rfl, bb⟩
  replace bb := nextw (w0 := w1) (by exact sm) bb
  replace B_p := mv B_p bb
  replace B_q := mv B_q bb
  replace B_r := mv B_r bb
  replace HB := nx HB bb
  clear bb
  go_upto_region 4 with (fail)
  clear HW HR ekk
  generalize k * k = most at *
  obtain ⟨c0p, c1p⟩ := cells2 B_p
  obtain ⟨c0r, c1r, c2r, c3r⟩ := cells4 B_r
  go_wp2_with fail
  refine (HG.out _).mono ?_
  clear c0p c1p c0r c1r c2r c3r
  rintro e w3 ⟨rfl, bb⟩
  replace bb := nextw (w0 := w2) (by exact sm) bb
  replace B_p := mv B_p bb
  replace B_q := mv B_q bb
  replace B_r := mv B_r bb
  replace HB := nx HB bb
  clear bb
  obtain ⟨c0q, c1q⟩ := cells2 B_q
  obtain ⟨c0r, c1r, c2r, c3r⟩ := cells4 B_r
  go_wp2_with fail
  refine (HQ.out _).mono ?_
  clear c0q c1q c0r c1r c2r c3r
  rintro e w4 ⟨rfl, bb⟩
  replace bb := nextw (w0 := w3) (by exact sm) bb
  replace B_p := mv B_p bb
  replace B_q := mv B_q bb
  replace B_r := mv B_r bb
  replace HB := nx HB bb
  clear bb
  obtain ⟨c0p, c1p⟩ := cells2 B_p
  obtain ⟨c0q, c1q⟩ := cells2 B_q
  obtain ⟨c0r, c1r, c2r, c3r⟩ := cells4 B_r
  go_wp2_with fail
  refine (HU.out _).mono ?_
  clear c0p c1p c0q c1q c0r c1r c2r c3r
  rintro e w5 ⟨rfl, bb⟩
  replace bb := nextw (w0 := w4) (by exact sm) bb
  replace B_p := mv B_p bb
  replace B_q := mv B_q bb
  replace B_r := mv B_r bb
  replace HB := nx HB bb
  clear bb
  go_wp2
  go_ret
  exact ⟨rfl, nextw HB.out (by exact sm)⟩

set_option maxRecDepth 100000 in
set_option maxHeartbeats 8000000 in
theorem Touch_b0 (a b c d x0 y0 x1 y1 k : Int) (hp : OkP a b) (hq : OkP c d) (hw : ((-1024 ≤ c - a ∧ c - a ≤ 1024) ∧ -1024 ≤ d - b ∧ d - b ≤ 1024)) (hr : OkR x0 y0 x1 y1) (k0 : 0 ≤ k) (k1 : k ≤ 1024) (h0 : ¬ gapM a b x0 y0 x1 y1 ≤ k * k) (h1 : ¬ gapM c d x0 y0 x1 y1 ≤ k * k) (h2 : runB a b c d x0 y0 x1 y1 = false) (n0 : By a b c d x0 y0 (k * k)) (w : World) :
    Calls Try.prog 25 #[.agg #[.int .i64 a, .int .i64 b], .agg #[.int .i64 c, .int .i64 d], .agg #[.int .i64 x0, .int .i64 y0, .int .i64 x1, .int .i64 y1], .int .i64 k] w fun e w' => e = .returned (.bool true) ∧ Below w.heap.size w w' := by
  have HW := Lib.hid (fun w => validWay_ok a b c d hp hq w)
  rw [decide_eq_true hw] at HW
  have HR := Lib.hid (fun w => ValidRect_t hr w)
  have HG := Lib.hid (fun w => Gap_ok a b x0 y0 x1 y1 hp hr w)
  have kk := (Way.mk (a := a) (b := b) (c := c) (d := d) hw.1.1 hw.1.2 hw.2.1 hw.2.2 k0 k1).sq
  have HQ := Lib.hid (fun w => Gap_ok c d x0 y0 x1 y1 hq hr w)
  have HU := Lib.hid (fun w => runsInto_any a b c d x0 y0 x1 y1 hp hq hr hw.1.1 hw.1.2 hw.2.1 hw.2.2 w)
  rw [h2] at HU
  have HB0 := Lib.hid (fun w => passesBy_any a b c d x0 y0 (k * k) hp hq ⟨hr.a1, hr.a2, hr.b1, hr.b2⟩ hw.1.1 hw.1.2 hw.2.1 hw.2.2 kk.1 kk.2 w)
  rw [decide_eq_true n0] at HB0
  clear hp hq hw hr h2 n0
  generalize gapM a b x0 y0 x1 y1 = gp at *
  generalize gapM c d x0 y0 x1 y1 = gq at *
  have ekk : IntKind.i64.wrap (k * k) = k * k := by rw [IntKind.wrap_i64]; omega
  obtain ⟨HB, B_p, B_q, B_r⟩ := box3 w 23 #[.int .i64 a, .int .i64 b] 23 #[.int .i64 c, .int .i64 d] 29 #[.int .i64 x0, .int .i64 y0, .int .i64 x1, .int .i64 y1]
  go_enter Try.func25, Try.ntmps25
  go_wp2_with fail
  generalize ((w.alloc (.cells #[.int .i64 a, .int .i64 b] 23)).alloc (.cells #[.int .i64 c, .int .i64 d] 23)).alloc (.cells #[.int .i64 x0, .int .i64 y0, .int .i64 x1, .int .i64 y1] 29) = W0 at *
  obtain ⟨c0p, c1p⟩ := cells2 B_p
  obtain ⟨c0q, c1q⟩ := cells2 B_q
  refine (HW.out _).mono ?_
  clear c0p c1p c0q c1q
  rintro e w1 ⟨rfl, bb⟩
  replace bb := nextw (w0 := W0) (by exact sm) bb
  replace B_p := mv B_p bb
  replace B_q := mv B_q bb
  replace B_r := mv B_r bb
  replace HB := nx HB bb
  clear bb
  obtain ⟨c0r, c1r, c2r, c3r⟩ := cells4 B_r
  go_wp2_with fail
  refine (HR.out _).mono ?_
  clear c0r c1r c2r c3r
  rintro e w2 ⟨rfl, bb⟩
  replace bb := nextw (w0 := w1) (by exact sm) bb
  replace B_p := mv B_p bb
  replace B_q := mv B_q bb
  replace B_r := mv B_r bb
  replace HB := nx HB bb
  clear bb
  go_upto_region 4 with (fail)
  clear HW HR ekk
  generalize k * k = most at *
  obtain ⟨c0p, c1p⟩ := cells2 B_p
  obtain ⟨c0r, c1r, c2r, c3r⟩ := cells4 B_r
  go_wp2_with fail
  refine (HG.out _).mono ?_
  clear c0p c1p c0r c1r c2r c3r
  rintro e w3 ⟨rfl, bb⟩
  replace bb := nextw (w0 := w2) (by exact sm) bb
  replace B_p := mv B_p bb
  replace B_q := mv B_q bb
  replace B_r := mv B_r bb
  replace HB := nx HB bb
  clear bb
  obtain ⟨c0q, c1q⟩ := cells2 B_q
  obtain ⟨c0r, c1r, c2r, c3r⟩ := cells4 B_r
  go_wp2_with fail
  refine (HQ.out _).mono ?_
  clear c0q c1q c0r c1r c2r c3r
  rintro e w4 ⟨rfl, bb⟩
  replace bb := nextw (w0 := w3) (by exact sm) bb
  replace B_p := mv B_p bb
  replace B_q := mv B_q bb
  replace B_r := mv B_r bb
  replace HB := nx HB bb
  clear bb
  obtain ⟨c0p, c1p⟩ := cells2 B_p
  obtain ⟨c0q, c1q⟩ := cells2 B_q
  obtain ⟨c0r, c1r, c2r, c3r⟩ := cells4 B_r
  go_wp2_with fail
  refine (HU.out _).mono ?_
  clear c0p c1p c0q c1q c0r c1r c2r c3r
  rintro e w5 ⟨rfl, bb⟩
  replace bb := nextw (w0 := w4) (by exact sm) bb
  replace B_p := mv B_p bb
  replace B_q := mv B_q bb
  replace B_r := mv B_r bb
  replace HB := nx HB bb
  clear bb
  obtain ⟨c0r, c1r, c2r, c3r⟩ := cells4 B_r
  go_wp2_with fail
  refine wp_loop_rounds 5 ?_
  clear c0r c1r c2r c3r
  rw [rounds_succ]
  have hix := fun w => ix0 w x0 y0 x1 y0 x0 y1 x1 y1
  have lt_c0p := B_p.out.lt
  have lt_c0q := B_q.out.lt
  have lt_c0r := B_r.out.lt
  obtain ⟨bb, B_c0⟩ := box1 w5 23 #[.int .i64 x0, .int .i64 y0]
  replace bb := bb.out
  replace B_p := mv B_p bb
  replace B_q := mv B_q bb
  replace B_r := mv B_r bb
  replace HB := nx HB bb
  clear bb
  go_upto_region 9 with (fail)
  generalize w5.alloc (.cells #[.int .i64 x0, .int .i64 y0] 23) = WC0 at *
  obtain ⟨c0p, c1p⟩ := cells2 B_p
  obtain ⟨c0q, c1q⟩ := cells2 B_q
  obtain ⟨c0c0, c1c0⟩ := cells2 B_c0
  go_wp2_with fail
  refine (HB0.out _).mono ?_
  clear c0p c1p c0q c1q c0c0 c1c0
  rintro e w6 ⟨rfl, bb⟩
  replace bb := nextw (w0 := WC0) (by exact sm) bb
  replace B_p := mv B_p bb
  replace B_q := mv B_q bb
  replace B_r := mv B_r bb
  replace B_c0 := mv B_c0 bb
  replace HB := nx HB bb
  clear bb
  clear B_c0
  clear hix
  go_wp2
  go_ret
  exact ⟨rfl, nextw HB.out (by exact sm)⟩

set_option maxRecDepth 100000 in
set_option maxHeartbeats 8000000 in
theorem Touch_b1 (a b c d x0 y0 x1 y1 k : Int) (hp : OkP a b) (hq : OkP c d) (hw : ((-1024 ≤ c - a ∧ c - a ≤ 1024) ∧ -1024 ≤ d - b ∧ d - b ≤ 1024)) (hr : OkR x0 y0 x1 y1) (k0 : 0 ≤ k) (k1 : k ≤ 1024) (h0 : ¬ gapM a b x0 y0 x1 y1 ≤ k * k) (h1 : ¬ gapM c d x0 y0 x1 y1 ≤ k * k) (h2 : runB a b c d x0 y0 x1 y1 = false) (n0 : ¬ By a b c d x0 y0 (k * k)) (n1 : By a b c d x1 y0 (k * k)) (w : World) :
    Calls Try.prog 25 #[.agg #[.int .i64 a, .int .i64 b], .agg #[.int .i64 c, .int .i64 d], .agg #[.int .i64 x0, .int .i64 y0, .int .i64 x1, .int .i64 y1], .int .i64 k] w fun e w' => e = .returned (.bool true) ∧ Below w.heap.size w w' := by
  have HW := Lib.hid (fun w => validWay_ok a b c d hp hq w)
  rw [decide_eq_true hw] at HW
  have HR := Lib.hid (fun w => ValidRect_t hr w)
  have HG := Lib.hid (fun w => Gap_ok a b x0 y0 x1 y1 hp hr w)
  have kk := (Way.mk (a := a) (b := b) (c := c) (d := d) hw.1.1 hw.1.2 hw.2.1 hw.2.2 k0 k1).sq
  have HQ := Lib.hid (fun w => Gap_ok c d x0 y0 x1 y1 hq hr w)
  have HU := Lib.hid (fun w => runsInto_any a b c d x0 y0 x1 y1 hp hq hr hw.1.1 hw.1.2 hw.2.1 hw.2.2 w)
  rw [h2] at HU
  have HB0 := Lib.hid (fun w => passesBy_any a b c d x0 y0 (k * k) hp hq ⟨hr.a1, hr.a2, hr.b1, hr.b2⟩ hw.1.1 hw.1.2 hw.2.1 hw.2.2 kk.1 kk.2 w)
  rw [decide_eq_false n0] at HB0
  have HB1 := Lib.hid (fun w => passesBy_any a b c d x1 y0 (k * k) hp hq ⟨hr.c1, hr.c2, hr.b1, hr.b2⟩ hw.1.1 hw.1.2 hw.2.1 hw.2.2 kk.1 kk.2 w)
  rw [decide_eq_true n1] at HB1
  clear hp hq hw hr h2 n0 n1
  generalize gapM a b x0 y0 x1 y1 = gp at *
  generalize gapM c d x0 y0 x1 y1 = gq at *
  have ekk : IntKind.i64.wrap (k * k) = k * k := by rw [IntKind.wrap_i64]; omega
  obtain ⟨HB, B_p, B_q, B_r⟩ := box3 w 23 #[.int .i64 a, .int .i64 b] 23 #[.int .i64 c, .int .i64 d] 29 #[.int .i64 x0, .int .i64 y0, .int .i64 x1, .int .i64 y1]
  go_enter Try.func25, Try.ntmps25
  go_wp2_with fail
  generalize ((w.alloc (.cells #[.int .i64 a, .int .i64 b] 23)).alloc (.cells #[.int .i64 c, .int .i64 d] 23)).alloc (.cells #[.int .i64 x0, .int .i64 y0, .int .i64 x1, .int .i64 y1] 29) = W0 at *
  obtain ⟨c0p, c1p⟩ := cells2 B_p
  obtain ⟨c0q, c1q⟩ := cells2 B_q
  refine (HW.out _).mono ?_
  clear c0p c1p c0q c1q
  rintro e w1 ⟨rfl, bb⟩
  replace bb := nextw (w0 := W0) (by exact sm) bb
  replace B_p := mv B_p bb
  replace B_q := mv B_q bb
  replace B_r := mv B_r bb
  replace HB := nx HB bb
  clear bb
  obtain ⟨c0r, c1r, c2r, c3r⟩ := cells4 B_r
  go_wp2_with fail
  refine (HR.out _).mono ?_
  clear c0r c1r c2r c3r
  rintro e w2 ⟨rfl, bb⟩
  replace bb := nextw (w0 := w1) (by exact sm) bb
  replace B_p := mv B_p bb
  replace B_q := mv B_q bb
  replace B_r := mv B_r bb
  replace HB := nx HB bb
  clear bb
  go_upto_region 4 with (fail)
  clear HW HR ekk
  generalize k * k = most at *
  obtain ⟨c0p, c1p⟩ := cells2 B_p
  obtain ⟨c0r, c1r, c2r, c3r⟩ := cells4 B_r
  go_wp2_with fail
  refine (HG.out _).mono ?_
  clear c0p c1p c0r c1r c2r c3r
  rintro e w3 ⟨rfl, bb⟩
  replace bb := nextw (w0 := w2) (by exact sm) bb
  replace B_p := mv B_p bb
  replace B_q := mv B_q bb
  replace B_r := mv B_r bb
  replace HB := nx HB bb
  clear bb
  obtain ⟨c0q, c1q⟩ := cells2 B_q
  obtain ⟨c0r, c1r, c2r, c3r⟩ := cells4 B_r
  go_wp2_with fail
  refine (HQ.out _).mono ?_
  clear c0q c1q c0r c1r c2r c3r
  rintro e w4 ⟨rfl, bb⟩
  replace bb := nextw (w0 := w3) (by exact sm) bb
  replace B_p := mv B_p bb
  replace B_q := mv B_q bb
  replace B_r := mv B_r bb
  replace HB := nx HB bb
  clear bb
  obtain ⟨c0p, c1p⟩ := cells2 B_p
  obtain ⟨c0q, c1q⟩ := cells2 B_q
  obtain ⟨c0r, c1r, c2r, c3r⟩ := cells4 B_r
  go_wp2_with fail
  refine (HU.out _).mono ?_
  clear c0p c1p c0q c1q c0r c1r c2r c3r
  rintro e w5 ⟨rfl, bb⟩
  replace bb := nextw (w0 := w4) (by exact sm) bb
  replace B_p := mv B_p bb
  replace B_q := mv B_q bb
  replace B_r := mv B_r bb
  replace HB := nx HB bb
  clear bb
  obtain ⟨c0r, c1r, c2r, c3r⟩ := cells4 B_r
  go_wp2_with fail
  refine wp_loop_rounds 5 ?_
  clear c0r c1r c2r c3r
  rw [rounds_succ]
  have hix := fun w => ix0 w x0 y0 x1 y0 x0 y1 x1 y1
  have lt_c0p := B_p.out.lt
  have lt_c0q := B_q.out.lt
  have lt_c0r := B_r.out.lt
  obtain ⟨bb, B_c0⟩ := box1 w5 23 #[.int .i64 x0, .int .i64 y0]
  replace bb := bb.out
  replace B_p := mv B_p bb
  replace B_q := mv B_q bb
  replace B_r := mv B_r bb
  replace HB := nx HB bb
  clear bb
  go_upto_region 9 with (fail)
  generalize w5.alloc (.cells #[.int .i64 x0, .int .i64 y0] 23) = WC0 at *
  obtain ⟨c0p, c1p⟩ := cells2 B_p
  obtain ⟨c0q, c1q⟩ := cells2 B_q
  obtain ⟨c0c0, c1c0⟩ := cells2 B_c0
  go_wp2_with fail
  refine (HB0.out _).mono ?_
  clear c0p c1p c0q c1q c0c0 c1c0
  rintro e w6 ⟨rfl, bb⟩
  replace bb := nextw (w0 := WC0) (by exact sm) bb
  replace B_p := mv B_p bb
  replace B_q := mv B_q bb
  replace B_r := mv B_r bb
  replace B_c0 := mv B_c0 bb
  replace HB := nx HB bb
  clear bb
  clear B_c0
  clear hix
  go_wp2_with fail
  rw [rounds_succ]
  have hix := fun w => ix1 w x0 y0 x1 y0 x0 y1 x1 y1
  have lt_c1p := B_p.out.lt
  have lt_c1q := B_q.out.lt
  have lt_c1r := B_r.out.lt
  obtain ⟨bb, B_c1⟩ := box1 w6 23 #[.int .i64 x1, .int .i64 y0]
  replace bb := bb.out
  replace B_p := mv B_p bb
  replace B_q := mv B_q bb
  replace B_r := mv B_r bb
  replace HB := nx HB bb
  clear bb
  go_upto_region 9 with (fail)
  generalize w6.alloc (.cells #[.int .i64 x1, .int .i64 y0] 23) = WC1 at *
  obtain ⟨c0p, c1p⟩ := cells2 B_p
  obtain ⟨c0q, c1q⟩ := cells2 B_q
  obtain ⟨c0c1, c1c1⟩ := cells2 B_c1
  go_wp2_with fail
  refine (HB1.out _).mono ?_
  clear c0p c1p c0q c1q c0c1 c1c1
  rintro e w7 ⟨rfl, bb⟩
  replace bb := nextw (w0 := WC1) (by exact sm) bb
  replace B_p := mv B_p bb
  replace B_q := mv B_q bb
  replace B_r := mv B_r bb
  replace B_c1 := mv B_c1 bb
  replace HB := nx HB bb
  clear bb
  clear B_c1
  clear hix
  go_wp2
  go_ret
  exact ⟨rfl, nextw HB.out (by exact sm)⟩

set_option maxRecDepth 100000 in
set_option maxHeartbeats 8000000 in
theorem Touch_b2 (a b c d x0 y0 x1 y1 k : Int) (hp : OkP a b) (hq : OkP c d) (hw : ((-1024 ≤ c - a ∧ c - a ≤ 1024) ∧ -1024 ≤ d - b ∧ d - b ≤ 1024)) (hr : OkR x0 y0 x1 y1) (k0 : 0 ≤ k) (k1 : k ≤ 1024) (h0 : ¬ gapM a b x0 y0 x1 y1 ≤ k * k) (h1 : ¬ gapM c d x0 y0 x1 y1 ≤ k * k) (h2 : runB a b c d x0 y0 x1 y1 = false) (n0 : ¬ By a b c d x0 y0 (k * k)) (n1 : ¬ By a b c d x1 y0 (k * k)) (n2 : By a b c d x0 y1 (k * k)) (w : World) :
    Calls Try.prog 25 #[.agg #[.int .i64 a, .int .i64 b], .agg #[.int .i64 c, .int .i64 d], .agg #[.int .i64 x0, .int .i64 y0, .int .i64 x1, .int .i64 y1], .int .i64 k] w fun e w' => e = .returned (.bool true) ∧ Below w.heap.size w w' := by
  have HW := Lib.hid (fun w => validWay_ok a b c d hp hq w)
  rw [decide_eq_true hw] at HW
  have HR := Lib.hid (fun w => ValidRect_t hr w)
  have HG := Lib.hid (fun w => Gap_ok a b x0 y0 x1 y1 hp hr w)
  have kk := (Way.mk (a := a) (b := b) (c := c) (d := d) hw.1.1 hw.1.2 hw.2.1 hw.2.2 k0 k1).sq
  have HQ := Lib.hid (fun w => Gap_ok c d x0 y0 x1 y1 hq hr w)
  have HU := Lib.hid (fun w => runsInto_any a b c d x0 y0 x1 y1 hp hq hr hw.1.1 hw.1.2 hw.2.1 hw.2.2 w)
  rw [h2] at HU
  have HB0 := Lib.hid (fun w => passesBy_any a b c d x0 y0 (k * k) hp hq ⟨hr.a1, hr.a2, hr.b1, hr.b2⟩ hw.1.1 hw.1.2 hw.2.1 hw.2.2 kk.1 kk.2 w)
  rw [decide_eq_false n0] at HB0
  have HB1 := Lib.hid (fun w => passesBy_any a b c d x1 y0 (k * k) hp hq ⟨hr.c1, hr.c2, hr.b1, hr.b2⟩ hw.1.1 hw.1.2 hw.2.1 hw.2.2 kk.1 kk.2 w)
  rw [decide_eq_false n1] at HB1
  have HB2 := Lib.hid (fun w => passesBy_any a b c d x0 y1 (k * k) hp hq ⟨hr.a1, hr.a2, hr.d1, hr.d2⟩ hw.1.1 hw.1.2 hw.2.1 hw.2.2 kk.1 kk.2 w)
  rw [decide_eq_true n2] at HB2
  clear hp hq hw hr h2 n0 n1 n2
  generalize gapM a b x0 y0 x1 y1 = gp at *
  generalize gapM c d x0 y0 x1 y1 = gq at *
  have ekk : IntKind.i64.wrap (k * k) = k * k := by rw [IntKind.wrap_i64]; omega
  obtain ⟨HB, B_p, B_q, B_r⟩ := box3 w 23 #[.int .i64 a, .int .i64 b] 23 #[.int .i64 c, .int .i64 d] 29 #[.int .i64 x0, .int .i64 y0, .int .i64 x1, .int .i64 y1]
  go_enter Try.func25, Try.ntmps25
  go_wp2_with fail
  generalize ((w.alloc (.cells #[.int .i64 a, .int .i64 b] 23)).alloc (.cells #[.int .i64 c, .int .i64 d] 23)).alloc (.cells #[.int .i64 x0, .int .i64 y0, .int .i64 x1, .int .i64 y1] 29) = W0 at *
  obtain ⟨c0p, c1p⟩ := cells2 B_p
  obtain ⟨c0q, c1q⟩ := cells2 B_q
  refine (HW.out _).mono ?_
  clear c0p c1p c0q c1q
  rintro e w1 ⟨rfl, bb⟩
  replace bb := nextw (w0 := W0) (by exact sm) bb
  replace B_p := mv B_p bb
  replace B_q := mv B_q bb
  replace B_r := mv B_r bb
  replace HB := nx HB bb
  clear bb
  obtain ⟨c0r, c1r, c2r, c3r⟩ := cells4 B_r
  go_wp2_with fail
  refine (HR.out _).mono ?_
  clear c0r c1r c2r c3r
  rintro e w2 ⟨rfl, bb⟩
  replace bb := nextw (w0 := w1) (by exact sm) bb
  replace B_p := mv B_p bb
  replace B_q := mv B_q bb
  replace B_r := mv B_r bb
  replace HB := nx HB bb
  clear bb
  go_upto_region 4 with (fail)
  clear HW HR ekk
  generalize k * k = most at *
  obtain ⟨c0p, c1p⟩ := cells2 B_p
  obtain ⟨c0r, c1r, c2r, c3r⟩ := cells4 B_r
  go_wp2_with fail
  refine (HG.out _).mono ?_
  clear c0p c1p c0r c1r c2r c3r
  rintro e w3 ⟨rfl, bb⟩
  replace bb := nextw (w0 := w2) (by exact sm) bb
  replace B_p := mv B_p bb
  replace B_q := mv B_q bb
  replace B_r := mv B_r bb
  replace HB := nx HB bb
  clear bb
  obtain ⟨c0q, c1q⟩ := cells2 B_q
  obtain ⟨c0r, c1r, c2r, c3r⟩ := cells4 B_r
  go_wp2_with fail
  refine (HQ.out _).mono ?_
  clear c0q c1q c0r c1r c2r c3r
  rintro e w4 ⟨rfl, bb⟩
  replace bb := nextw (w0 := w3) (by exact sm) bb
  replace B_p := mv B_p bb
  replace B_q := mv B_q bb
  replace B_r := mv B_r bb
  replace HB := nx HB bb
  clear bb
  obtain ⟨c0p, c1p⟩ := cells2 B_p
  obtain ⟨c0q, c1q⟩ := cells2 B_q
  obtain ⟨c0r, c1r, c2r, c3r⟩ := cells4 B_r
  go_wp2_with fail
  refine (HU.out _).mono ?_
  clear c0p c1p c0q c1q c0r c1r c2r c3r
  rintro e w5 ⟨rfl, bb⟩
  replace bb := nextw (w0 := w4) (by exact sm) bb
  replace B_p := mv B_p bb
  replace B_q := mv B_q bb
  replace B_r := mv B_r bb
  replace HB := nx HB bb
  clear bb
  obtain ⟨c0r, c1r, c2r, c3r⟩ := cells4 B_r
  go_wp2_with fail
  refine wp_loop_rounds 5 ?_
  clear c0r c1r c2r c3r
  rw [rounds_succ]
  have hix := fun w => ix0 w x0 y0 x1 y0 x0 y1 x1 y1
  have lt_c0p := B_p.out.lt
  have lt_c0q := B_q.out.lt
  have lt_c0r := B_r.out.lt
  obtain ⟨bb, B_c0⟩ := box1 w5 23 #[.int .i64 x0, .int .i64 y0]
  replace bb := bb.out
  replace B_p := mv B_p bb
  replace B_q := mv B_q bb
  replace B_r := mv B_r bb
  replace HB := nx HB bb
  clear bb
  go_upto_region 9 with (fail)
  generalize w5.alloc (.cells #[.int .i64 x0, .int .i64 y0] 23) = WC0 at *
  obtain ⟨c0p, c1p⟩ := cells2 B_p
  obtain ⟨c0q, c1q⟩ := cells2 B_q
  obtain ⟨c0c0, c1c0⟩ := cells2 B_c0
  go_wp2_with fail
  refine (HB0.out _).mono ?_
  clear c0p c1p c0q c1q c0c0 c1c0
  rintro e w6 ⟨rfl, bb⟩
  replace bb := nextw (w0 := WC0) (by exact sm) bb
  replace B_p := mv B_p bb
  replace B_q := mv B_q bb
  replace B_r := mv B_r bb
  replace B_c0 := mv B_c0 bb
  replace HB := nx HB bb
  clear bb
  clear B_c0
  clear hix
  go_wp2_with fail
  rw [rounds_succ]
  have hix := fun w => ix1 w x0 y0 x1 y0 x0 y1 x1 y1
  have lt_c1p := B_p.out.lt
  have lt_c1q := B_q.out.lt
  have lt_c1r := B_r.out.lt
  obtain ⟨bb, B_c1⟩ := box1 w6 23 #[.int .i64 x1, .int .i64 y0]
  replace bb := bb.out
  replace B_p := mv B_p bb
  replace B_q := mv B_q bb
  replace B_r := mv B_r bb
  replace HB := nx HB bb
  clear bb
  go_upto_region 9 with (fail)
  generalize w6.alloc (.cells #[.int .i64 x1, .int .i64 y0] 23) = WC1 at *
  obtain ⟨c0p, c1p⟩ := cells2 B_p
  obtain ⟨c0q, c1q⟩ := cells2 B_q
  obtain ⟨c0c1, c1c1⟩ := cells2 B_c1
  go_wp2_with fail
  refine (HB1.out _).mono ?_
  clear c0p c1p c0q c1q c0c1 c1c1
  rintro e w7 ⟨rfl, bb⟩
  replace bb := nextw (w0 := WC1) (by exact sm) bb
  replace B_p := mv B_p bb
  replace B_q := mv B_q bb
  replace B_r := mv B_r bb
  replace B_c1 := mv B_c1 bb
  replace HB := nx HB bb
  clear bb
  clear B_c1
  clear hix
  go_wp2_with fail
  rw [rounds_succ]
  have hix := fun w => ix2 w x0 y0 x1 y0 x0 y1 x1 y1
  have lt_c2p := B_p.out.lt
  have lt_c2q := B_q.out.lt
  have lt_c2r := B_r.out.lt
  obtain ⟨bb, B_c2⟩ := box1 w7 23 #[.int .i64 x0, .int .i64 y1]
  replace bb := bb.out
  replace B_p := mv B_p bb
  replace B_q := mv B_q bb
  replace B_r := mv B_r bb
  replace HB := nx HB bb
  clear bb
  go_upto_region 9 with (fail)
  generalize w7.alloc (.cells #[.int .i64 x0, .int .i64 y1] 23) = WC2 at *
  obtain ⟨c0p, c1p⟩ := cells2 B_p
  obtain ⟨c0q, c1q⟩ := cells2 B_q
  obtain ⟨c0c2, c1c2⟩ := cells2 B_c2
  go_wp2_with fail
  refine (HB2.out _).mono ?_
  clear c0p c1p c0q c1q c0c2 c1c2
  rintro e w8 ⟨rfl, bb⟩
  replace bb := nextw (w0 := WC2) (by exact sm) bb
  replace B_p := mv B_p bb
  replace B_q := mv B_q bb
  replace B_r := mv B_r bb
  replace B_c2 := mv B_c2 bb
  replace HB := nx HB bb
  clear bb
  clear B_c2
  clear hix
  go_wp2
  go_ret
  exact ⟨rfl, nextw HB.out (by exact sm)⟩

set_option maxRecDepth 100000 in
set_option maxHeartbeats 8000000 in
theorem Touch_b3 (a b c d x0 y0 x1 y1 k : Int) (hp : OkP a b) (hq : OkP c d) (hw : ((-1024 ≤ c - a ∧ c - a ≤ 1024) ∧ -1024 ≤ d - b ∧ d - b ≤ 1024)) (hr : OkR x0 y0 x1 y1) (k0 : 0 ≤ k) (k1 : k ≤ 1024) (h0 : ¬ gapM a b x0 y0 x1 y1 ≤ k * k) (h1 : ¬ gapM c d x0 y0 x1 y1 ≤ k * k) (h2 : runB a b c d x0 y0 x1 y1 = false) (n0 : ¬ By a b c d x0 y0 (k * k)) (n1 : ¬ By a b c d x1 y0 (k * k)) (n2 : ¬ By a b c d x0 y1 (k * k)) (n3 : By a b c d x1 y1 (k * k)) (w : World) :
    Calls Try.prog 25 #[.agg #[.int .i64 a, .int .i64 b], .agg #[.int .i64 c, .int .i64 d], .agg #[.int .i64 x0, .int .i64 y0, .int .i64 x1, .int .i64 y1], .int .i64 k] w fun e w' => e = .returned (.bool true) ∧ Below w.heap.size w w' := by
  have HW := Lib.hid (fun w => validWay_ok a b c d hp hq w)
  rw [decide_eq_true hw] at HW
  have HR := Lib.hid (fun w => ValidRect_t hr w)
  have HG := Lib.hid (fun w => Gap_ok a b x0 y0 x1 y1 hp hr w)
  have kk := (Way.mk (a := a) (b := b) (c := c) (d := d) hw.1.1 hw.1.2 hw.2.1 hw.2.2 k0 k1).sq
  have HQ := Lib.hid (fun w => Gap_ok c d x0 y0 x1 y1 hq hr w)
  have HU := Lib.hid (fun w => runsInto_any a b c d x0 y0 x1 y1 hp hq hr hw.1.1 hw.1.2 hw.2.1 hw.2.2 w)
  rw [h2] at HU
  have HB0 := Lib.hid (fun w => passesBy_any a b c d x0 y0 (k * k) hp hq ⟨hr.a1, hr.a2, hr.b1, hr.b2⟩ hw.1.1 hw.1.2 hw.2.1 hw.2.2 kk.1 kk.2 w)
  rw [decide_eq_false n0] at HB0
  have HB1 := Lib.hid (fun w => passesBy_any a b c d x1 y0 (k * k) hp hq ⟨hr.c1, hr.c2, hr.b1, hr.b2⟩ hw.1.1 hw.1.2 hw.2.1 hw.2.2 kk.1 kk.2 w)
  rw [decide_eq_false n1] at HB1
  have HB2 := Lib.hid (fun w => passesBy_any a b c d x0 y1 (k * k) hp hq ⟨hr.a1, hr.a2, hr.d1, hr.d2⟩ hw.1.1 hw.1.2 hw.2.1 hw.2.2 kk.1 kk.2 w)
  rw [decide_eq_false n2] at HB2
  have HB3 := Lib.hid (fun w => passesBy_any a b c d x1 y1 (k * k) hp hq ⟨hr.c1, hr.c2, hr.d1, hr.d2⟩ hw.1.1 hw.1.2 hw.2.1 hw.2.2 kk.1 kk.2 w)
  rw [decide_eq_true n3] at HB3
  clear hp hq hw hr h2 n0 n1 n2 n3
  generalize gapM a b x0 y0 x1 y1 = gp at *
  generalize gapM c d x0 y0 x1 y1 = gq at *
  have ekk : IntKind.i64.wrap (k * k) = k * k := by rw [IntKind.wrap_i64]; omega
  obtain ⟨HB, B_p, B_q, B_r⟩ := box3 w 23 #[.int .i64 a, .int .i64 b] 23 #[.int .i64 c, .int .i64 d] 29 #[.int .i64 x0, .int .i64 y0, .int .i64 x1, .int .i64 y1]
  go_enter Try.func25, Try.ntmps25
  go_wp2_with fail
  generalize ((w.alloc (.cells #[.int .i64 a, .int .i64 b] 23)).alloc (.cells #[.int .i64 c, .int .i64 d] 23)).alloc (.cells #[.int .i64 x0, .int .i64 y0, .int .i64 x1, .int .i64 y1] 29) = W0 at *
  obtain ⟨c0p, c1p⟩ := cells2 B_p
  obtain ⟨c0q, c1q⟩ := cells2 B_q
  refine (HW.out _).mono ?_
  clear c0p c1p c0q c1q
  rintro e w1 ⟨rfl, bb⟩
  replace bb := nextw (w0 := W0) (by exact sm) bb
  replace B_p := mv B_p bb
  replace B_q := mv B_q bb
  replace B_r := mv B_r bb
  replace HB := nx HB bb
  clear bb
  obtain ⟨c0r, c1r, c2r, c3r⟩ := cells4 B_r
  go_wp2_with fail
  refine (HR.out _).mono ?_
  clear c0r c1r c2r c3r
  rintro e w2 ⟨rfl, bb⟩
  replace bb := nextw (w0 := w1) (by exact sm) bb
  replace B_p := mv B_p bb
  replace B_q := mv B_q bb
  replace B_r := mv B_r bb
  replace HB := nx HB bb
  clear bb
  go_upto_region 4 with (fail)
  clear HW HR ekk
  generalize k * k = most at *
  obtain ⟨c0p, c1p⟩ := cells2 B_p
  obtain ⟨c0r, c1r, c2r, c3r⟩ := cells4 B_r
  go_wp2_with fail
  refine (HG.out _).mono ?_
  clear c0p c1p c0r c1r c2r c3r
  rintro e w3 ⟨rfl, bb⟩
  replace bb := nextw (w0 := w2) (by exact sm) bb
  replace B_p := mv B_p bb
  replace B_q := mv B_q bb
  replace B_r := mv B_r bb
  replace HB := nx HB bb
  clear bb
  obtain ⟨c0q, c1q⟩ := cells2 B_q
  obtain ⟨c0r, c1r, c2r, c3r⟩ := cells4 B_r
  go_wp2_with fail
  refine (HQ.out _).mono ?_
  clear c0q c1q c0r c1r c2r c3r
  rintro e w4 ⟨rfl, bb⟩
  replace bb := nextw (w0 := w3) (by exact sm) bb
  replace B_p := mv B_p bb
  replace B_q := mv B_q bb
  replace B_r := mv B_r bb
  replace HB := nx HB bb
  clear bb
  obtain ⟨c0p, c1p⟩ := cells2 B_p
  obtain ⟨c0q, c1q⟩ := cells2 B_q
  obtain ⟨c0r, c1r, c2r, c3r⟩ := cells4 B_r
  go_wp2_with fail
  refine (HU.out _).mono ?_
  clear c0p c1p c0q c1q c0r c1r c2r c3r
  rintro e w5 ⟨rfl, bb⟩
  replace bb := nextw (w0 := w4) (by exact sm) bb
  replace B_p := mv B_p bb
  replace B_q := mv B_q bb
  replace B_r := mv B_r bb
  replace HB := nx HB bb
  clear bb
  obtain ⟨c0r, c1r, c2r, c3r⟩ := cells4 B_r
  go_wp2_with fail
  refine wp_loop_rounds 5 ?_
  clear c0r c1r c2r c3r
  rw [rounds_succ]
  have hix := fun w => ix0 w x0 y0 x1 y0 x0 y1 x1 y1
  have lt_c0p := B_p.out.lt
  have lt_c0q := B_q.out.lt
  have lt_c0r := B_r.out.lt
  obtain ⟨bb, B_c0⟩ := box1 w5 23 #[.int .i64 x0, .int .i64 y0]
  replace bb := bb.out
  replace B_p := mv B_p bb
  replace B_q := mv B_q bb
  replace B_r := mv B_r bb
  replace HB := nx HB bb
  clear bb
  go_upto_region 9 with (fail)
  generalize w5.alloc (.cells #[.int .i64 x0, .int .i64 y0] 23) = WC0 at *
  obtain ⟨c0p, c1p⟩ := cells2 B_p
  obtain ⟨c0q, c1q⟩ := cells2 B_q
  obtain ⟨c0c0, c1c0⟩ := cells2 B_c0
  go_wp2_with fail
  refine (HB0.out _).mono ?_
  clear c0p c1p c0q c1q c0c0 c1c0
  rintro e w6 ⟨rfl, bb⟩
  replace bb := nextw (w0 := WC0) (by exact sm) bb
  replace B_p := mv B_p bb
  replace B_q := mv B_q bb
  replace B_r := mv B_r bb
  replace B_c0 := mv B_c0 bb
  replace HB := nx HB bb
  clear bb
  clear B_c0
  clear hix
  go_wp2_with fail
  rw [rounds_succ]
  have hix := fun w => ix1 w x0 y0 x1 y0 x0 y1 x1 y1
  have lt_c1p := B_p.out.lt
  have lt_c1q := B_q.out.lt
  have lt_c1r := B_r.out.lt
  obtain ⟨bb, B_c1⟩ := box1 w6 23 #[.int .i64 x1, .int .i64 y0]
  replace bb := bb.out
  replace B_p := mv B_p bb
  replace B_q := mv B_q bb
  replace B_r := mv B_r bb
  replace HB := nx HB bb
  clear bb
  go_upto_region 9 with (fail)
  generalize w6.alloc (.cells #[.int .i64 x1, .int .i64 y0] 23) = WC1 at *
  obtain ⟨c0p, c1p⟩ := cells2 B_p
  obtain ⟨c0q, c1q⟩ := cells2 B_q
  obtain ⟨c0c1, c1c1⟩ := cells2 B_c1
  go_wp2_with fail
  refine (HB1.out _).mono ?_
  clear c0p c1p c0q c1q c0c1 c1c1
  rintro e w7 ⟨rfl, bb⟩
  replace bb := nextw (w0 := WC1) (by exact sm) bb
  replace B_p := mv B_p bb
  replace B_q := mv B_q bb
  replace B_r := mv B_r bb
  replace B_c1 := mv B_c1 bb
  replace HB := nx HB bb
  clear bb
  clear B_c1
  clear hix
  go_wp2_with fail
  rw [rounds_succ]
  have hix := fun w => ix2 w x0 y0 x1 y0 x0 y1 x1 y1
  have lt_c2p := B_p.out.lt
  have lt_c2q := B_q.out.lt
  have lt_c2r := B_r.out.lt
  obtain ⟨bb, B_c2⟩ := box1 w7 23 #[.int .i64 x0, .int .i64 y1]
  replace bb := bb.out
  replace B_p := mv B_p bb
  replace B_q := mv B_q bb
  replace B_r := mv B_r bb
  replace HB := nx HB bb
  clear bb
  go_upto_region 9 with (fail)
  generalize w7.alloc (.cells #[.int .i64 x0, .int .i64 y1] 23) = WC2 at *
  obtain ⟨c0p, c1p⟩ := cells2 B_p
  obtain ⟨c0q, c1q⟩ := cells2 B_q
  obtain ⟨c0c2, c1c2⟩ := cells2 B_c2
  go_wp2_with fail
  refine (HB2.out _).mono ?_
  clear c0p c1p c0q c1q c0c2 c1c2
  rintro e w8 ⟨rfl, bb⟩
  replace bb := nextw (w0 := WC2) (by exact sm) bb
  replace B_p := mv B_p bb
  replace B_q := mv B_q bb
  replace B_r := mv B_r bb
  replace B_c2 := mv B_c2 bb
  replace HB := nx HB bb
  clear bb
  clear B_c2
  clear hix
  go_wp2_with fail
  rw [rounds_succ]
  have hix := fun w => ix3 w x0 y0 x1 y0 x0 y1 x1 y1
  have lt_c3p := B_p.out.lt
  have lt_c3q := B_q.out.lt
  have lt_c3r := B_r.out.lt
  obtain ⟨bb, B_c3⟩ := box1 w8 23 #[.int .i64 x1, .int .i64 y1]
  replace bb := bb.out
  replace B_p := mv B_p bb
  replace B_q := mv B_q bb
  replace B_r := mv B_r bb
  replace HB := nx HB bb
  clear bb
  go_upto_region 9 with (fail)
  generalize w8.alloc (.cells #[.int .i64 x1, .int .i64 y1] 23) = WC3 at *
  obtain ⟨c0p, c1p⟩ := cells2 B_p
  obtain ⟨c0q, c1q⟩ := cells2 B_q
  obtain ⟨c0c3, c1c3⟩ := cells2 B_c3
  go_wp2_with fail
  refine (HB3.out _).mono ?_
  clear c0p c1p c0q c1q c0c3 c1c3
  rintro e w9 ⟨rfl, bb⟩
  replace bb := nextw (w0 := WC3) (by exact sm) bb
  replace B_p := mv B_p bb
  replace B_q := mv B_q bb
  replace B_r := mv B_r bb
  replace B_c3 := mv B_c3 bb
  replace HB := nx HB bb
  clear bb
  clear B_c3
  clear hix
  go_wp2
  go_ret
  exact ⟨rfl, nextw HB.out (by exact sm)⟩

set_option maxRecDepth 100000 in
set_option maxHeartbeats 8000000 in
theorem Touch_no (a b c d x0 y0 x1 y1 k : Int) (hp : OkP a b) (hq : OkP c d) (hw : ((-1024 ≤ c - a ∧ c - a ≤ 1024) ∧ -1024 ≤ d - b ∧ d - b ≤ 1024)) (hr : OkR x0 y0 x1 y1) (k0 : 0 ≤ k) (k1 : k ≤ 1024) (h0 : ¬ gapM a b x0 y0 x1 y1 ≤ k * k) (h1 : ¬ gapM c d x0 y0 x1 y1 ≤ k * k) (h2 : runB a b c d x0 y0 x1 y1 = false) (n0 : ¬ By a b c d x0 y0 (k * k)) (n1 : ¬ By a b c d x1 y0 (k * k)) (n2 : ¬ By a b c d x0 y1 (k * k)) (n3 : ¬ By a b c d x1 y1 (k * k)) (w : World) :
    Calls Try.prog 25 #[.agg #[.int .i64 a, .int .i64 b], .agg #[.int .i64 c, .int .i64 d], .agg #[.int .i64 x0, .int .i64 y0, .int .i64 x1, .int .i64 y1], .int .i64 k] w fun e w' => e = .returned (.bool false) ∧ Below w.heap.size w w' := by
  have HW := Lib.hid (fun w => validWay_ok a b c d hp hq w)
  rw [decide_eq_true hw] at HW
  have HR := Lib.hid (fun w => ValidRect_t hr w)
  have HG := Lib.hid (fun w => Gap_ok a b x0 y0 x1 y1 hp hr w)
  have kk := (Way.mk (a := a) (b := b) (c := c) (d := d) hw.1.1 hw.1.2 hw.2.1 hw.2.2 k0 k1).sq
  have HQ := Lib.hid (fun w => Gap_ok c d x0 y0 x1 y1 hq hr w)
  have HU := Lib.hid (fun w => runsInto_any a b c d x0 y0 x1 y1 hp hq hr hw.1.1 hw.1.2 hw.2.1 hw.2.2 w)
  rw [h2] at HU
  have HB0 := Lib.hid (fun w => passesBy_any a b c d x0 y0 (k * k) hp hq ⟨hr.a1, hr.a2, hr.b1, hr.b2⟩ hw.1.1 hw.1.2 hw.2.1 hw.2.2 kk.1 kk.2 w)
  rw [decide_eq_false n0] at HB0
  have HB1 := Lib.hid (fun w => passesBy_any a b c d x1 y0 (k * k) hp hq ⟨hr.c1, hr.c2, hr.b1, hr.b2⟩ hw.1.1 hw.1.2 hw.2.1 hw.2.2 kk.1 kk.2 w)
  rw [decide_eq_false n1] at HB1
  have HB2 := Lib.hid (fun w => passesBy_any a b c d x0 y1 (k * k) hp hq ⟨hr.a1, hr.a2, hr.d1, hr.d2⟩ hw.1.1 hw.1.2 hw.2.1 hw.2.2 kk.1 kk.2 w)
  rw [decide_eq_false n2] at HB2
  have HB3 := Lib.hid (fun w => passesBy_any a b c d x1 y1 (k * k) hp hq ⟨hr.c1, hr.c2, hr.d1, hr.d2⟩ hw.1.1 hw.1.2 hw.2.1 hw.2.2 kk.1 kk.2 w)
  rw [decide_eq_false n3] at HB3
  clear hp hq hw hr h2 n0 n1 n2 n3
  generalize gapM a b x0 y0 x1 y1 = gp at *
  generalize gapM c d x0 y0 x1 y1 = gq at *
  have ekk : IntKind.i64.wrap (k * k) = k * k := by rw [IntKind.wrap_i64]; omega
  obtain ⟨HB, B_p, B_q, B_r⟩ := box3 w 23 #[.int .i64 a, .int .i64 b] 23 #[.int .i64 c, .int .i64 d] 29 #[.int .i64 x0, .int .i64 y0, .int .i64 x1, .int .i64 y1]
  go_enter Try.func25, Try.ntmps25
  go_wp2_with fail
  generalize ((w.alloc (.cells #[.int .i64 a, .int .i64 b] 23)).alloc (.cells #[.int .i64 c, .int .i64 d] 23)).alloc (.cells #[.int .i64 x0, .int .i64 y0, .int .i64 x1, .int .i64 y1] 29) = W0 at *
  obtain ⟨c0p, c1p⟩ := cells2 B_p
  obtain ⟨c0q, c1q⟩ := cells2 B_q
  refine (HW.out _).mono ?_
  clear c0p c1p c0q c1q
  rintro e w1 ⟨rfl, bb⟩
  replace bb := nextw (w0 := W0) (by exact sm) bb
  replace B_p := mv B_p bb
  replace B_q := mv B_q bb
  replace B_r := mv B_r bb
  replace HB := nx HB bb
  clear bb
  obtain ⟨c0r, c1r, c2r, c3r⟩ := cells4 B_r
  go_wp2_with fail
  refine (HR.out _).mono ?_
  clear c0r c1r c2r c3r
  rintro e w2 ⟨rfl, bb⟩
  replace bb := nextw (w0 := w1) (by exact sm) bb
  replace B_p := mv B_p bb
  replace B_q := mv B_q bb
  replace B_r := mv B_r bb
  replace HB := nx HB bb
  clear bb
  go_upto_region 4 with (fail)
  clear HW HR ekk
  generalize k * k = most at *
  obtain ⟨c0p, c1p⟩ := cells2 B_p
  obtain ⟨c0r, c1r, c2r, c3r⟩ := cells4 B_r
  go_wp2_with fail
  refine (HG.out _).mono ?_
  clear c0p c1p c0r c1r c2r c3r
  rintro e w3 ⟨rfl, bb⟩
  replace bb := nextw (w0 := w2) (by exact sm) bb
  replace B_p := mv B_p bb
  replace B_q := mv B_q bb
  replace B_r := mv B_r bb
  replace HB := nx HB bb
  clear bb
  obtain ⟨c0q, c1q⟩ := cells2 B_q
  obtain ⟨c0r, c1r, c2r, c3r⟩ := cells4 B_r
  go_wp2_with fail
  refine (HQ.out _).mono ?_
  clear c0q c1q c0r c1r c2r c3r
  rintro e w4 ⟨rfl, bb⟩
  replace bb := nextw (w0 := w3) (by exact sm) bb
  replace B_p := mv B_p bb
  replace B_q := mv B_q bb
  replace B_r := mv B_r bb
  replace HB := nx HB bb
  clear bb
  obtain ⟨c0p, c1p⟩ := cells2 B_p
  obtain ⟨c0q, c1q⟩ := cells2 B_q
  obtain ⟨c0r, c1r, c2r, c3r⟩ := cells4 B_r
  go_wp2_with fail
  refine (HU.out _).mono ?_
  clear c0p c1p c0q c1q c0r c1r c2r c3r
  rintro e w5 ⟨rfl, bb⟩
  replace bb := nextw (w0 := w4) (by exact sm) bb
  replace B_p := mv B_p bb
  replace B_q := mv B_q bb
  replace B_r := mv B_r bb
  replace HB := nx HB bb
  clear bb
  obtain ⟨c0r, c1r, c2r, c3r⟩ := cells4 B_r
  go_wp2_with fail
  refine wp_loop_rounds 5 ?_
  clear c0r c1r c2r c3r
  rw [rounds_succ]
  have hix := fun w => ix0 w x0 y0 x1 y0 x0 y1 x1 y1
  have lt_c0p := B_p.out.lt
  have lt_c0q := B_q.out.lt
  have lt_c0r := B_r.out.lt
  obtain ⟨bb, B_c0⟩ := box1 w5 23 #[.int .i64 x0, .int .i64 y0]
  replace bb := bb.out
  replace B_p := mv B_p bb
  replace B_q := mv B_q bb
  replace B_r := mv B_r bb
  replace HB := nx HB bb
  clear bb
  go_upto_region 9 with (fail)
  generalize w5.alloc (.cells #[.int .i64 x0, .int .i64 y0] 23) = WC0 at *
  obtain ⟨c0p, c1p⟩ := cells2 B_p
  obtain ⟨c0q, c1q⟩ := cells2 B_q
  obtain ⟨c0c0, c1c0⟩ := cells2 B_c0
  go_wp2_with fail
  refine (HB0.out _).mono ?_
  clear c0p c1p c0q c1q c0c0 c1c0
  rintro e w6 ⟨rfl, bb⟩
  replace bb := nextw (w0 := WC0) (by exact sm) bb
  replace B_p := mv B_p bb
  replace B_q := mv B_q bb
  replace B_r := mv B_r bb
  replace B_c0 := mv B_c0 bb
  replace HB := nx HB bb
  clear bb
  clear B_c0
  clear hix
  go_wp2_with fail
  rw [rounds_succ]
  have hix := fun w => ix1 w x0 y0 x1 y0 x0 y1 x1 y1
  have lt_c1p := B_p.out.lt
  have lt_c1q := B_q.out.lt
  have lt_c1r := B_r.out.lt
  obtain ⟨bb, B_c1⟩ := box1 w6 23 #[.int .i64 x1, .int .i64 y0]
  replace bb := bb.out
  replace B_p := mv B_p bb
  replace B_q := mv B_q bb
  replace B_r := mv B_r bb
  replace HB := nx HB bb
  clear bb
  go_upto_region 9 with (fail)
  generalize w6.alloc (.cells #[.int .i64 x1, .int .i64 y0] 23) = WC1 at *
  obtain ⟨c0p, c1p⟩ := cells2 B_p
  obtain ⟨c0q, c1q⟩ := cells2 B_q
  obtain ⟨c0c1, c1c1⟩ := cells2 B_c1
  go_wp2_with fail
  refine (HB1.out _).mono ?_
  clear c0p c1p c0q c1q c0c1 c1c1
  rintro e w7 ⟨rfl, bb⟩
  replace bb := nextw (w0 := WC1) (by exact sm) bb
  replace B_p := mv B_p bb
  replace B_q := mv B_q bb
  replace B_r := mv B_r bb
  replace B_c1 := mv B_c1 bb
  replace HB := nx HB bb
  clear bb
  clear B_c1
  clear hix
  go_wp2_with fail
  rw [rounds_succ]
  have hix := fun w => ix2 w x0 y0 x1 y0 x0 y1 x1 y1
  have lt_c2p := B_p.out.lt
  have lt_c2q := B_q.out.lt
  have lt_c2r := B_r.out.lt
  obtain ⟨bb, B_c2⟩ := box1 w7 23 #[.int .i64 x0, .int .i64 y1]
  replace bb := bb.out
  replace B_p := mv B_p bb
  replace B_q := mv B_q bb
  replace B_r := mv B_r bb
  replace HB := nx HB bb
  clear bb
  go_upto_region 9 with (fail)
  generalize w7.alloc (.cells #[.int .i64 x0, .int .i64 y1] 23) = WC2 at *
  obtain ⟨c0p, c1p⟩ := cells2 B_p
  obtain ⟨c0q, c1q⟩ := cells2 B_q
  obtain ⟨c0c2, c1c2⟩ := cells2 B_c2
  go_wp2_with fail
  refine (HB2.out _).mono ?_
  clear c0p c1p c0q c1q c0c2 c1c2
  rintro e w8 ⟨rfl, bb⟩
  replace bb := nextw (w0 := WC2) (by exact sm) bb
  replace B_p := mv B_p bb
  replace B_q := mv B_q bb
  replace B_r := mv B_r bb
  replace B_c2 := mv B_c2 bb
  replace HB := nx HB bb
  clear bb
  clear B_c2
  clear hix
  go_wp2_with fail
  rw [rounds_succ]
  have hix := fun w => ix3 w x0 y0 x1 y0 x0 y1 x1 y1
  have lt_c3p := B_p.out.lt
  have lt_c3q := B_q.out.lt
  have lt_c3r := B_r.out.lt
  obtain ⟨bb, B_c3⟩ := box1 w8 23 #[.int .i64 x1, .int .i64 y1]
  replace bb := bb.out
  replace B_p := mv B_p bb
  replace B_q := mv B_q bb
  replace B_r := mv B_r bb
  replace HB := nx HB bb
  clear bb
  go_upto_region 9 with (fail)
  generalize w8.alloc (.cells #[.int .i64 x1, .int .i64 y1] 23) = WC3 at *
  obtain ⟨c0p, c1p⟩ := cells2 B_p
  obtain ⟨c0q, c1q⟩ := cells2 B_q
  obtain ⟨c0c3, c1c3⟩ := cells2 B_c3
  go_wp2_with fail
  refine (HB3.out _).mono ?_
  clear c0p c1p c0q c1q c0c3 c1c3
  rintro e w9 ⟨rfl, bb⟩
  replace bb := nextw (w0 := WC3) (by exact sm) bb
  replace B_p := mv B_p bb
  replace B_q := mv B_q bb
  replace B_r := mv B_r bb
  replace B_c3 := mv B_c3 bb
  replace HB := nx HB bb
  clear bb
  clear B_c3
  clear hix
  go_wp2_with fail
  rw [rounds_succ]
  go_wp2
  go_ret
  exact ⟨rfl, nextw HB.out (by exact sm)⟩

/-- The arguments of Touch are valid. -/
structure TK (a b c d x0 y0 x1 y1 k : Int) : Prop where
  p : OkP a b
  q : OkP c d
  w : ((-1024 ≤ c - a ∧ c - a ≤ 1024) ∧ -1024 ≤ d - b ∧ d - b ≤ 1024)
  r : OkR x0 y0 x1 y1
  k0 : 0 ≤ k
  k1 : k ≤ 1024
instance (a b c d x0 y0 x1 y1 k : Int) : Decidable (TK a b c d x0 y0 x1 y1 k) := decidable_of_iff (OkP a b ∧ OkP c d ∧ ((-1024 ≤ c - a ∧ c - a ≤ 1024) ∧ -1024 ≤ d - b ∧ d - b ≤ 1024) ∧ OkR x0 y0 x1 y1 ∧ 0 ≤ k ∧ k ≤ 1024) ⟨fun h => ⟨h.1, h.2.1, h.2.2.1, h.2.2.2.1, h.2.2.2.2.1, h.2.2.2.2.2⟩, fun h => ⟨h.p, h.q, h.w, h.r, h.k0, h.k1⟩⟩
theorem Touch_any (a b c d x0 y0 x1 y1 k : Int) (w : World) : Calls Try.prog 25 #[.agg #[.int .i64 a, .int .i64 b], .agg #[.int .i64 c, .int .i64 d], .agg #[.int .i64 x0, .int .i64 y0, .int .i64 x1, .int .i64 y1], .int .i64 k] w fun e w' => e = .returned (.bool (decide (TK a b c d x0 y0 x1 y1 k ∧ To a b c d x0 y0 x1 y1 k))) ∧ Below w.heap.size w w' := by
  by_cases hp : OkP a b
  · by_cases hq : OkP c d
    · by_cases hw : ((-1024 ≤ c - a ∧ c - a ≤ 1024) ∧ -1024 ≤ d - b ∧ d - b ≤ 1024)
      · by_cases hr : OkR x0 y0 x1 y1
        · by_cases k0 : 0 ≤ k
          · by_cases k1 : k ≤ 1024
            · have ht : TK a b c d x0 y0 x1 y1 k := ⟨hp, hq, hw, hr, k0, k1⟩
              by_cases h0 : gapM a b x0 y0 x1 y1 ≤ k * k
              · rw [decide_eq_true ⟨ht, .inl h0⟩]; exact Touch_gp a b c d x0 y0 x1 y1 k hp hq hw hr k0 k1 h0 w
              by_cases h1 : gapM c d x0 y0 x1 y1 ≤ k * k
              · rw [decide_eq_true ⟨ht, .inr (.inl h1)⟩]; exact Touch_gq a b c d x0 y0 x1 y1 k hp hq hw hr k0 k1 h0 h1 w
              rcases h2 : runB a b c d x0 y0 x1 y1 with _ | _
              · by_cases n0 : By a b c d x0 y0 (k * k)
                · rw [decide_eq_true ⟨ht, .inr (.inr (.inr (.inl n0)))⟩]; exact Touch_b0 a b c d x0 y0 x1 y1 k hp hq hw hr k0 k1 h0 h1 h2 n0 w
                by_cases n1 : By a b c d x1 y0 (k * k)
                · rw [decide_eq_true ⟨ht, .inr (.inr (.inr (.inr (.inl n1))))⟩]; exact Touch_b1 a b c d x0 y0 x1 y1 k hp hq hw hr k0 k1 h0 h1 h2 n0 n1 w
                by_cases n2 : By a b c d x0 y1 (k * k)
                · rw [decide_eq_true ⟨ht, .inr (.inr (.inr (.inr (.inr (.inl n2)))))⟩]; exact Touch_b2 a b c d x0 y0 x1 y1 k hp hq hw hr k0 k1 h0 h1 h2 n0 n1 n2 w
                by_cases n3 : By a b c d x1 y1 (k * k)
                · rw [decide_eq_true ⟨ht, .inr (.inr (.inr (.inr (.inr (.inr n3)))))⟩]; exact Touch_b3 a b c d x0 y0 x1 y1 k hp hq hw hr k0 k1 h0 h1 h2 n0 n1 n2 n3 w
                rw [decide_eq_false (show ¬ (TK a b c d x0 y0 x1 y1 k ∧ To a b c d x0 y0 x1 y1 k) from ?_)]
                · exact Touch_no a b c d x0 y0 x1 y1 k hp hq hw hr k0 k1 h0 h1 h2 n0 n1 n2 n3 w
                · rintro ⟨-, h | h | h | h | h | h | h⟩
                  · exact h0 h
                  · exact h1 h
                  · rw [h2] at h; cases h
                  · exact n0 h
                  · exact n1 h
                  · exact n2 h
                  · exact n3 h
              · rw [decide_eq_true ⟨ht, .inr (.inr (.inl h2))⟩]; exact Touch_rb a b c d x0 y0 x1 y1 k hp hq hw hr k0 k1 h0 h1 h2 w
            · rw [decide_eq_false (fun h => k1 h.1.k1)]; exact Touch_k2 a b c d x0 y0 x1 y1 k hp hq hw hr k0 (by omega) w
          · rw [decide_eq_false (fun h => k0 h.1.k0)]; exact Touch_k1 a b c d x0 y0 x1 y1 k hp hq hw hr (by omega) w
        · rw [decide_eq_false (fun h => hr h.1.r)]; exact Touch_r a b c d x0 y0 x1 y1 k hp hq hw hr w
      · rw [decide_eq_false (fun h => hw h.1.w)]; exact Touch_w a b c d x0 y0 x1 y1 k hp hq hw w
    · rw [decide_eq_false (fun h => hq h.1.q)]; exact Touch_q a b c d x0 y0 x1 y1 k hp hq w
  · rw [decide_eq_false (fun h => hp h.1.p)]; exact Touch_p a b c d x0 y0 x1 y1 k hp w
end Go.Proofs.Ytaflgmiagjldhaa
