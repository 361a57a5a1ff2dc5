/- segment: onOneSide, Cross. -/
import Derived.Test.YtaflgmiagjldhaaS14
set_option linter.unusedVariables false
set_option linter.unusedSimpArgs false
namespace Go.Proofs.Ytaflgmiagjldhaa
open Go Go.RowKit Hd

theorem sgn_bd (n : Int) : -1 ≤ sgn n ∧ sgn n ≤ 1 := by unfold sgn; repeat' split <;> omega

set_option maxRecDepth 100000 in
set_option maxHeartbeats 4000000 in
theorem onOneSide_sgn (a b c d f g u v : Int) (hp : OkP a b) (hq : OkP c d) (hr : OkP f g) (hs : OkP u v)  (w : World) :
    Calls Try.prog 56 #[.agg #[.int .i64 a, .int .i64 b], .agg #[.int .i64 c, .int .i64 d], .agg #[.int .i64 f, .int .i64 g], .agg #[.int .i64 u, .int .i64 v]] w fun e w' => e = .returned (.bool (decide (0 < sgn (pr a b c d f g) * sgn (pr a b c d u v)))) ∧ Below w.heap.size w w' := by
  have H1 := Lib.hid (fun w => Turn_ok a b c d f g hp hq hr w)
  have H2 := Lib.hid (fun w => Turn_ok a b c d u v hp hq hs w)
  have n1 := sgn_bd (pr a b c d f g)
  have n2 := sgn_bd (pr a b c d u v)
  generalize sgn (pr a b c d f g) = m at *
  generalize sgn (pr a b c d u v) = n at *
  clear hp hq hr hs
  have e1 := mul_le (a := m) (b := n) (A := 1) (B := 1) n1.1 n1.2 n2.1 n2.2
  have ew : IntKind.i64.wrap (m * n) = m * n := by rw [IntKind.wrap_i64]; omega
  clear e1 n1 n2
  obtain ⟨HB, B_p, B_q, B_r, B_s⟩ := box4 w 23 #[.int .i64 a, .int .i64 b] 23 #[.int .i64 c, .int .i64 d] 23 #[.int .i64 f, .int .i64 g] 23 #[.int .i64 u, .int .i64 v]
  go_enter Try.func56, Try.ntmps56
  go_wp2_with fail
  generalize (((w.alloc (.cells #[.int .i64 a, .int .i64 b] 23)).alloc (.cells #[.int .i64 c, .int .i64 d] 23)).alloc (.cells #[.int .i64 f, .int .i64 g] 23)).alloc (.cells #[.int .i64 u, .int .i64 v] 23) = W0 at *
  obtain ⟨c0p, c1p⟩ := cells2 B_p
  obtain ⟨c0q, c1q⟩ := cells2 B_q
  obtain ⟨c0r, c1r⟩ := cells2 B_r
  obtain ⟨c0s, c1s⟩ := cells2 B_s
  have tk1x0 : True := trivial
  go_region_held3 (fun w' => w'.cell? ⟨w.heap.size, 0, none⟩ = some (.int .i64 a) ∧ w'.cell? ⟨w.heap.size, 1, none⟩ = some (.int .i64 b) ∧ w'.cell? ⟨w.heap.size + 1, 0, none⟩ = some (.int .i64 c) ∧ w'.cell? ⟨w.heap.size + 1, 1, none⟩ = some (.int .i64 d) ∧ w'.cell? ⟨w.heap.size + 1 + 1, 0, none⟩ = some (.int .i64 f) ∧ w'.cell? ⟨w.heap.size + 1 + 1, 1, none⟩ = some (.int .i64 g) ∧ w'.cell? ⟨w.heap.size + 1 + 1 + 1, 0, none⟩ = some (.int .i64 u) ∧ w'.cell? ⟨w.heap.size + 1 + 1 + 1, 1, none⟩ = some (.int .i64 v)) (((try dsimp only); (repeat' apply And.intro) <;> (first | (with_reducible assumption) | ((repeat (first | (with_reducible refine Eq.trans (cell_drew1 _ _) ?_) | (with_reducible refine Eq.trans (cell_far (by omega) _ _ _) ?_) | (with_reducible refine Eq.trans (World.cell?_alloc_lt _ _ _ (by first | (dsimp only; omega) | (simp only [World.size_alloc, World.size_setCell]; omega))) ?_))); with_reducible assumption) | assumption | go_keep)))
    (first
      | (clear tk1x0; go_at_call 28; refine (H1.out _).mono ?_; rintro e w1 ⟨rfl, bb⟩; replace bb := nextw (w0 := W0) (by exact sm) bb; replace B_p := mv B_p bb; replace B_q := mv B_q bb; replace B_r := mv B_r bb; replace B_s := mv B_s bb; replace HB := nx HB bb; clear bb c0p c1p c0q c1q c0r c1r c0s c1s; have c0p : w1.cell? ⟨w.heap.size, 0, none⟩ = some (.int .i64 a) := B_p.out.cell 0 rfl; have c1p : w1.cell? ⟨w.heap.size, 1, none⟩ = some (.int .i64 b) := B_p.out.cell 1 rfl; have c0q : w1.cell? ⟨w.heap.size + 1, 0, none⟩ = some (.int .i64 c) := B_q.out.cell 0 rfl; have c1q : w1.cell? ⟨w.heap.size + 1, 1, none⟩ = some (.int .i64 d) := B_q.out.cell 1 rfl; have c0r : w1.cell? ⟨w.heap.size + 1 + 1, 0, none⟩ = some (.int .i64 f) := B_r.out.cell 0 rfl; have c1r : w1.cell? ⟨w.heap.size + 1 + 1, 1, none⟩ = some (.int .i64 g) := B_r.out.cell 1 rfl; have c0s : w1.cell? ⟨w.heap.size + 1 + 1 + 1, 0, none⟩ = some (.int .i64 u) := B_s.out.cell 0 rfl; have c1s : w1.cell? ⟨w.heap.size + 1 + 1 + 1, 1, none⟩ = some (.int .i64 v) := B_s.out.cell 1 rfl; have tk1x1 : True := trivial)
      | (clear tk1x1; go_at_call 28; refine (H2.out _).mono ?_; rintro e w2 ⟨rfl, bb⟩; replace bb := nextw (w0 := w1) (by exact sm) bb; replace B_p := mv B_p bb; replace B_q := mv B_q bb; replace B_r := mv B_r bb; replace B_s := mv B_s bb; replace HB := nx HB bb; clear bb c0p c1p c0q c1q c0r c1r c0s c1s; have c0p : w2.cell? ⟨w.heap.size, 0, none⟩ = some (.int .i64 a) := B_p.out.cell 0 rfl; have c1p : w2.cell? ⟨w.heap.size, 1, none⟩ = some (.int .i64 b) := B_p.out.cell 1 rfl; have c0q : w2.cell? ⟨w.heap.size + 1, 0, none⟩ = some (.int .i64 c) := B_q.out.cell 0 rfl; have c1q : w2.cell? ⟨w.heap.size + 1, 1, none⟩ = some (.int .i64 d) := B_q.out.cell 1 rfl; have c0r : w2.cell? ⟨w.heap.size + 1 + 1, 0, none⟩ = some (.int .i64 f) := B_r.out.cell 0 rfl; have c1r : w2.cell? ⟨w.heap.size + 1 + 1, 1, none⟩ = some (.int .i64 g) := B_r.out.cell 1 rfl; have c0s : w2.cell? ⟨w.heap.size + 1 + 1 + 1, 0, none⟩ = some (.int .i64 u) := B_s.out.cell 0 rfl; have c1s : w2.cell? ⟨w.heap.size + 1 + 1 + 1, 1, none⟩ = some (.int .i64 v) := B_s.out.cell 1 rfl; have tk1x2 : True := trivial))
  clear c0p c1p c0q c1q c0r c1r c0s c1s
  clear ew
  go_wp2
  go_ret
  exact ⟨rfl, nextw HB.out (by exact sm)⟩

theorem onOneSide_any (a b c d f g u v : Int) (hp : OkP a b) (hq : OkP c d) (hr : OkP f g) (hs : OkP u v) (w : World) : Calls Try.prog 56 #[.agg #[.int .i64 a, .int .i64 b], .agg #[.int .i64 c, .int .i64 d], .agg #[.int .i64 f, .int .i64 g], .agg #[.int .i64 u, .int .i64 v]] w fun e w' => e = .returned (.bool (decide (0 < pr a b c d f g * pr a b c d u v))) ∧ Below w.heap.size w w' := by
  have := onOneSide_sgn a b c d f g u v hp hq hr hs w
  rwa [decide_eq_decide.2 (sgn_pos (m := pr a b c d f g) (n := pr a b c d u v))] at this

set_option maxRecDepth 100000 in
set_option maxHeartbeats 1000000 in
theorem Cross_0 (a b c d f g u v : Int) (hp : ¬ OkP a b) (w : World) :
    Calls Try.prog 30 #[.agg #[.int .i64 a, .int .i64 b], .agg #[.int .i64 c, .int .i64 d], .agg #[.int .i64 f, .int .i64 g], .agg #[.int .i64 u, .int .i64 v]] w fun e w' => e = .returned (.bool false) ∧ Below w.heap.size w w' := by
  have H0 := Lib.hid (fun w => validPoint_f hp w)
  clear hp
  obtain ⟨HB, B_p, B_q, B_r, B_s⟩ := box4 w 23 #[.int .i64 a, .int .i64 b] 23 #[.int .i64 c, .int .i64 d] 23 #[.int .i64 f, .int .i64 g] 23 #[.int .i64 u, .int .i64 v]
  go_enter Try.func30, Try.ntmps30
  go_wp2_with fail
  generalize (((w.alloc (.cells #[.int .i64 a, .int .i64 b] 23)).alloc (.cells #[.int .i64 c, .int .i64 d] 23)).alloc (.cells #[.int .i64 f, .int .i64 g] 23)).alloc (.cells #[.int .i64 u, .int .i64 v] 23) = W0 at *
  obtain ⟨c0p, c1p⟩ := cells2 B_p
  refine (H0.out _).mono ?_
  clear c0p c1p
  rintro e w1 ⟨rfl, bb⟩
  replace bb := nextw (w0 := W0) (by exact sm) bb
  replace B_p := mv B_p bb
  replace B_q := mv B_q bb
  replace B_r := mv B_r bb
  replace B_s := mv B_s bb
  replace HB := nx HB bb
  clear bb
  go_wp2
  go_ret
  exact ⟨rfl, nextw HB.out (by exact sm)⟩

set_option maxRecDepth 100000 in
set_option maxHeartbeats 1000000 in
theorem Cross_1 (a b c d f g u v : Int) (hp : OkP a b) (hq : ¬ OkP c d) (w : World) :
    Calls Try.prog 30 #[.agg #[.int .i64 a, .int .i64 b], .agg #[.int .i64 c, .int .i64 d], .agg #[.int .i64 f, .int .i64 g], .agg #[.int .i64 u, .int .i64 v]] w fun e w' => e = .returned (.bool false) ∧ Below w.heap.size w w' := by
  have H0 := Lib.hid (fun w => validPoint_t hp w)
  have H1 := Lib.hid (fun w => validPoint_f hq w)
  clear hp hq
  obtain ⟨HB, B_p, B_q, B_r, B_s⟩ := box4 w 23 #[.int .i64 a, .int .i64 b] 23 #[.int .i64 c, .int .i64 d] 23 #[.int .i64 f, .int .i64 g] 23 #[.int .i64 u, .int .i64 v]
  go_enter Try.func30, Try.ntmps30
  go_wp2_with fail
  generalize (((w.alloc (.cells #[.int .i64 a, .int .i64 b] 23)).alloc (.cells #[.int .i64 c, .int .i64 d] 23)).alloc (.cells #[.int .i64 f, .int .i64 g] 23)).alloc (.cells #[.int .i64 u, .int .i64 v] 23) = W0 at *
  obtain ⟨c0p, c1p⟩ := cells2 B_p
  refine (H0.out _).mono ?_
  clear c0p c1p
  rintro e w1 ⟨rfl, bb⟩
  replace bb := nextw (w0 := W0) (by exact sm) bb
  replace B_p := mv B_p bb
  replace B_q := mv B_q bb
  replace B_r := mv B_r bb
  replace B_s := mv B_s bb
  replace HB := nx HB bb
  clear bb
  obtain ⟨c0q, c1q⟩ := cells2 B_q
  go_wp2_with fail
  refine (H1.out _).mono ?_
  clear c0q c1q
  rintro e w2 ⟨rfl, bb⟩
  replace bb := nextw (w0 := w1) (by exact sm) bb
  replace B_p := mv B_p bb
  replace B_q := mv B_q bb
  replace B_r := mv B_r bb
  replace B_s := mv B_s bb
  replace HB := nx HB bb
  clear bb
  go_wp2
  go_ret
  exact ⟨rfl, nextw HB.out (by exact sm)⟩

set_option maxRecDepth 100000 in
set_option maxHeartbeats 1000000 in
theorem Cross_2 (a b c d f g u v : Int) (hp : OkP a b) (hq : OkP c d) (hr : ¬ OkP f g) (w : World) :
    Calls Try.prog 30 #[.agg #[.int .i64 a, .int .i64 b], .agg #[.int .i64 c, .int .i64 d], .agg #[.int .i64 f, .int .i64 g], .agg #[.int .i64 u, .int .i64 v]] w fun e w' => e = .returned (.bool false) ∧ Below w.heap.size w w' := by
  have H0 := Lib.hid (fun w => validPoint_t hp w)
  have H1 := Lib.hid (fun w => validPoint_t hq w)
  have H2 := Lib.hid (fun w => validPoint_f hr w)
  clear hp hq hr
  obtain ⟨HB, B_p, B_q, B_r, B_s⟩ := box4 w 23 #[.int .i64 a, .int .i64 b] 23 #[.int .i64 c, .int .i64 d] 23 #[.int .i64 f, .int .i64 g] 23 #[.int .i64 u, .int .i64 v]
  go_enter Try.func30, Try.ntmps30
  go_wp2_with fail
  generalize (((w.alloc (.cells #[.int .i64 a, .int .i64 b] 23)).alloc (.cells #[.int .i64 c, .int .i64 d] 23)).alloc (.cells #[.int .i64 f, .int .i64 g] 23)).alloc (.cells #[.int .i64 u, .int .i64 v] 23) = W0 at *
  obtain ⟨c0p, c1p⟩ := cells2 B_p
  refine (H0.out _).mono ?_
  clear c0p c1p
  rintro e w1 ⟨rfl, bb⟩
  replace bb := nextw (w0 := W0) (by exact sm) bb
  replace B_p := mv B_p bb
  replace B_q := mv B_q bb
  replace B_r := mv B_r bb
  replace B_s := mv B_s bb
  replace HB := nx HB bb
  clear bb
  obtain ⟨c0q, c1q⟩ := cells2 B_q
  go_wp2_with fail
  refine (H1.out _).mono ?_
  clear c0q c1q
  rintro e w2 ⟨rfl, bb⟩
  replace bb := nextw (w0 := w1) (by exact sm) bb
  replace B_p := mv B_p bb
  replace B_q := mv B_q bb
  replace B_r := mv B_r bb
  replace B_s := mv B_s bb
  replace HB := nx HB bb
  clear bb
  obtain ⟨c0r, c1r⟩ := cells2 B_r
  go_wp2_with fail
  refine (H2.out _).mono ?_
  clear c0r c1r
  rintro e w3 ⟨rfl, bb⟩
  replace bb := nextw (w0 := w2) (by exact sm) bb
  replace B_p := mv B_p bb
  replace B_q := mv B_q bb
  replace B_r := mv B_r bb
  replace B_s := mv B_s bb
  replace HB := nx HB bb
  clear bb
  go_wp2
  go_ret
  exact ⟨rfl, nextw HB.out (by exact sm)⟩

set_option maxRecDepth 100000 in
set_option maxHeartbeats 1000000 in
theorem Cross_3 (a b c d f g u v : Int) (hp : OkP a b) (hq : OkP c d) (hr : OkP f g) (hs : ¬ OkP u v) (w : World) :
    Calls Try.prog 30 #[.agg #[.int .i64 a, .int .i64 b], .agg #[.int .i64 c, .int .i64 d], .agg #[.int .i64 f, .int .i64 g], .agg #[.int .i64 u, .int .i64 v]] w fun e w' => e = .returned (.bool false) ∧ Below w.heap.size w w' := by
  have H0 := Lib.hid (fun w => validPoint_t hp w)
  have H1 := Lib.hid (fun w => validPoint_t hq w)
  have H2 := Lib.hid (fun w => validPoint_t hr w)
  have H3 := Lib.hid (fun w => validPoint_f hs w)
  clear hp hq hr hs
  obtain ⟨HB, B_p, B_q, B_r, B_s⟩ := box4 w 23 #[.int .i64 a, .int .i64 b] 23 #[.int .i64 c, .int .i64 d] 23 #[.int .i64 f, .int .i64 g] 23 #[.int .i64 u, .int .i64 v]
  go_enter Try.func30, Try.ntmps30
  go_wp2_with fail
  generalize (((w.alloc (.cells #[.int .i64 a, .int .i64 b] 23)).alloc (.cells #[.int .i64 c, .int .i64 d] 23)).alloc (.cells #[.int .i64 f, .int .i64 g] 23)).alloc (.cells #[.int .i64 u, .int .i64 v] 23) = W0 at *
  obtain ⟨c0p, c1p⟩ := cells2 B_p
  refine (H0.out _).mono ?_
  clear c0p c1p
  rintro e w1 ⟨rfl, bb⟩
  replace bb := nextw (w0 := W0) (by exact sm) bb
  replace B_p := mv B_p bb
  replace B_q := mv B_q bb
  replace B_r := mv B_r bb
  replace B_s := mv B_s bb
  replace HB := nx HB bb
  clear bb
  obtain ⟨c0q, c1q⟩ := cells2 B_q
  go_wp2_with fail
  refine (H1.out _).mono ?_
  clear c0q c1q
  rintro e w2 ⟨rfl, bb⟩
  replace bb := nextw (w0 := w1) (by exact sm) bb
  replace B_p := mv B_p bb
  replace B_q := mv B_q bb
  replace B_r := mv B_r bb
  replace B_s := mv B_s bb
  replace HB := nx HB bb
  clear bb
  obtain ⟨c0r, c1r⟩ := cells2 B_r
  go_wp2_with fail
  refine (H2.out _).mono ?_
  clear c0r c1r
  rintro e w3 ⟨rfl, bb⟩
  replace bb := nextw (w0 := w2) (by exact sm) bb
  replace B_p := mv B_p bb
  replace B_q := mv B_q bb
  replace B_r := mv B_r bb
  replace B_s := mv B_s bb
  replace HB := nx HB bb
  clear bb
  obtain ⟨c0s, c1s⟩ := cells2 B_s
  go_wp2_with fail
  refine (H3.out _).mono ?_
  clear c0s c1s
  rintro e w4 ⟨rfl, bb⟩
  replace bb := nextw (w0 := w3) (by exact sm) bb
  replace B_p := mv B_p bb
  replace B_q := mv B_q bb
  replace B_r := mv B_r bb
  replace B_s := mv B_s bb
  replace HB := nx HB bb
  clear bb
  go_wp2
  go_ret
  exact ⟨rfl, nextw HB.out (by exact sm)⟩

set_option maxRecDepth 100000 in
set_option maxHeartbeats 8000000 in
theorem Cross_o (a b c d f g u v : Int) (hp : OkP a b) (hq : OkP c d) (hr : OkP f g) (hs : OkP u v) (ho : ¬ (min a c ≤ max f u ∧ min f u ≤ max a c ∧ min b d ≤ max g v ∧ min g v ≤ max b d)) (w : World) :
    Calls Try.prog 30 #[.agg #[.int .i64 a, .int .i64 b], .agg #[.int .i64 c, .int .i64 d], .agg #[.int .i64 f, .int .i64 g], .agg #[.int .i64 u, .int .i64 v]] w fun e w' => e = .returned (.bool false) ∧ Below w.heap.size w w' := by
  have V0 := Lib.hid (fun w => validPoint_t hp w)
  have V1 := Lib.hid (fun w => validPoint_t hq w)
  have V2 := Lib.hid (fun w => validPoint_t hr w)
  have V3 := Lib.hid (fun w => validPoint_t hs w)
  have H1 := Lib.hid (fun w => hull_any a b c d w)
  have H2 := Lib.hid (fun w => hull_any f g u v w)
  have HO := Lib.hid (fun w => overlap_f ho w)
  clear ho hp hq hr hs
  generalize min a c = e0 at *
  generalize min b d = e1 at *
  generalize max a c = e2 at *
  generalize max b d = e3 at *
  generalize min f u = e4 at *
  generalize min g v = e5 at *
  generalize max f u = e6 at *
  generalize max g v = e7 at *
  obtain ⟨HB, B_p, B_q, B_r, B_s⟩ := box4 w 23 #[.int .i64 a, .int .i64 b] 23 #[.int .i64 c, .int .i64 d] 23 #[.int .i64 f, .int .i64 g] 23 #[.int .i64 u, .int .i64 v]
  go_enter Try.func30, Try.ntmps30
  go_wp2_with fail
  generalize (((w.alloc (.cells #[.int .i64 a, .int .i64 b] 23)).alloc (.cells #[.int .i64 c, .int .i64 d] 23)).alloc (.cells #[.int .i64 f, .int .i64 g] 23)).alloc (.cells #[.int .i64 u, .int .i64 v] 23) = W0 at *
  obtain ⟨c0p, c1p⟩ := cells2 B_p
  refine (V0.out _).mono ?_
  clear c0p c1p
  rintro e w1 ⟨rfl, bb⟩
  replace bb := nextw (w0 := W0) (by exact sm) bb
  replace B_p := mv B_p bb
  replace B_q := mv B_q bb
  replace B_r := mv B_r bb
  replace B_s := mv B_s bb
  replace HB := nx HB bb
  clear bb
  obtain ⟨c0q, c1q⟩ := cells2 B_q
  go_wp2_with fail
  refine (V1.out _).mono ?_
  clear c0q c1q
  rintro e w2 ⟨rfl, bb⟩
  replace bb := nextw (w0 := w1) (by exact sm) bb
  replace B_p := mv B_p bb
  replace B_q := mv B_q bb
  replace B_r := mv B_r bb
  replace B_s := mv B_s bb
  replace HB := nx HB bb
  clear bb
  obtain ⟨c0r, c1r⟩ := cells2 B_r
  go_wp2_with fail
  refine (V2.out _).mono ?_
  clear c0r c1r
  rintro e w3 ⟨rfl, bb⟩
  replace bb := nextw (w0 := w2) (by exact sm) bb
  replace B_p := mv B_p bb
  replace B_q := mv B_q bb
  replace B_r := mv B_r bb
  replace B_s := mv B_s bb
  replace HB := nx HB bb
  clear bb
  obtain ⟨c0s, c1s⟩ := cells2 B_s
  go_wp2_with fail
  refine (V3.out _).mono ?_
  clear c0s c1s
  rintro e w4 ⟨rfl, bb⟩
  replace bb := nextw (w0 := w3) (by exact sm) bb
  replace B_p := mv B_p bb
  replace B_q := mv B_q bb
  replace B_r := mv B_r bb
  replace B_s := mv B_s bb
  replace HB := nx HB bb
  clear bb
  clear V0 V1 V2 V3
  go_upto_region 3 with (fail)
  obtain ⟨c0p, c1p⟩ := cells2 B_p
  obtain ⟨c0q, c1q⟩ := cells2 B_q
  obtain ⟨c0r, c1r⟩ := cells2 B_r
  obtain ⟨c0s, c1s⟩ := cells2 B_s
  refine wp_region_held_drew (S := fun w' => w'.cell? ⟨w.heap.size, 0, none⟩ = some (.int .i64 a) ∧ w'.cell? ⟨w.heap.size, 1, none⟩ = some (.int .i64 b) ∧ w'.cell? ⟨w.heap.size + 1, 0, none⟩ = some (.int .i64 c) ∧ w'.cell? ⟨w.heap.size + 1, 1, none⟩ = some (.int .i64 d) ∧ w'.cell? ⟨w.heap.size + 1 + 1, 0, none⟩ = some (.int .i64 f) ∧ w'.cell? ⟨w.heap.size + 1 + 1, 1, none⟩ = some (.int .i64 g) ∧ w'.cell? ⟨w.heap.size + 1 + 1 + 1, 0, none⟩ = some (.int .i64 u) ∧ w'.cell? ⟨w.heap.size + 1 + 1 + 1, 1, none⟩ = some (.int .i64 v)) (by kernel_rfl) ?_ (fun hH1x0 => ?_)
  · ((try dsimp only); (repeat' apply And.intro) <;> (first | (with_reducible assumption) | ((repeat (first | (with_reducible refine Eq.trans (cell_drew1 _ _) ?_) | (with_reducible refine Eq.trans (cell_far (by omega) _ _ _) ?_) | (with_reducible refine Eq.trans (World.cell?_alloc_lt _ _ _ (by first | (dsimp only; omega) | (simp only [World.size_alloc, World.size_setCell]; omega))) ?_))); with_reducible assumption) | assumption | go_keep))
  refine wpAnyH_take (i := 0) (v := ?hv1x0) rfl (by kernel_rfl) (by kernel_rfl) (by kernel_rfl) (fun _ _ _ h => h) (Or.inl ⟨by kernel_rfl, ?hy1x0⟩) (by assumption) ?hr1x0
  case hy1x0 => (intro w hSw; (try dsimp only at hSw); go_simp <;> with_reducible rfl)
  simp only [Act.put, List.setIfInBounds_toArray, List.set_cons_zero, List.set_cons_succ, List.getElem_toArray, List.getElem_cons_zero, List.getElem_cons_succ]
  refine wpAnyH_take (i := 1) (v := ?hv1x1) rfl (by kernel_rfl) (by kernel_rfl) (by kernel_rfl) (fun _ _ _ h => h) (Or.inl ⟨by kernel_rfl, ?hy1x1⟩) (by assumption) ?hr1x1
  case hy1x1 => (intro w hSw; (try dsimp only at hSw); go_simp <;> with_reducible rfl)
  simp only [Act.put, List.setIfInBounds_toArray, List.set_cons_zero, List.set_cons_succ, List.getElem_toArray, List.getElem_cons_zero, List.getElem_cons_succ]
  refine wpAnyH_take (i := 3) (v := ?hv1x3) rfl (by kernel_rfl) (by kernel_rfl) (by kernel_rfl) (fun _ _ _ h => h) (Or.inl ⟨by kernel_rfl, ?hy1x3⟩) (by assumption) ?hr1x3
  case hy1x3 => (intro w hSw; (try dsimp only at hSw); go_simp <;> with_reducible rfl)
  simp only [Act.put, List.setIfInBounds_toArray, List.set_cons_zero, List.set_cons_succ, List.getElem_toArray, List.getElem_cons_zero, List.getElem_cons_succ]
  refine wpAnyH_take (i := 4) (v := ?hv1x4) rfl (by kernel_rfl) (by kernel_rfl) (by kernel_rfl) (fun _ _ _ h => h) (Or.inl ⟨by kernel_rfl, ?hy1x4⟩) (by assumption) ?hr1x4
  case hy1x4 => (intro w hSw; (try dsimp only at hSw); go_simp <;> with_reducible rfl)
  simp only [Act.put, List.setIfInBounds_toArray, List.set_cons_zero, List.set_cons_succ, List.getElem_toArray, List.getElem_cons_zero, List.getElem_cons_succ]
  refine wpAnyH_ready (rs := [2]) (by kernel_rfl) (by simp) ?_
  refine AllReadyH.cons rfl (fun K hK => ?_) AllReadyH.nil
  go_simp
  go_at_call 55
  refine (H1.out _).mono ?_
  rintro e w5 ⟨rfl, bb⟩
  replace bb := nextw (w0 := w4) (by exact sm) bb
  replace B_p := mv B_p bb
  replace B_q := mv B_q bb
  replace B_r := mv B_r bb
  replace B_s := mv B_s bb
  replace HB := nx HB bb
  clear bb c0p c1p c0q c1q c0r c1r c0s c1s
  have c0p : w5.cell? ⟨w.heap.size, 0, none⟩ = some (.int .i64 a) := B_p.out.cell 0 rfl
  have c1p : w5.cell? ⟨w.heap.size, 1, none⟩ = some (.int .i64 b) := B_p.out.cell 1 rfl
  have c0q : w5.cell? ⟨w.heap.size + 1, 0, none⟩ = some (.int .i64 c) := B_q.out.cell 0 rfl
  have c1q : w5.cell? ⟨w.heap.size + 1, 1, none⟩ = some (.int .i64 d) := B_q.out.cell 1 rfl
  have c0r : w5.cell? ⟨w.heap.size + 1 + 1, 0, none⟩ = some (.int .i64 f) := B_r.out.cell 0 rfl
  have c1r : w5.cell? ⟨w.heap.size + 1 + 1, 1, none⟩ = some (.int .i64 g) := B_r.out.cell 1 rfl
  have c0s : w5.cell? ⟨w.heap.size + 1 + 1 + 1, 0, none⟩ = some (.int .i64 u) := B_s.out.cell 0 rfl
  have c1s : w5.cell? ⟨w.heap.size + 1 + 1 + 1, 1, none⟩ = some (.int .i64 v) := B_s.out.cell 1 rfl
  go_wp2_with fail
  refine hK.out _ _ ?_ (fun hH1x1 => ?_)
  · ((try dsimp only); (repeat' apply And.intro) <;> (first | (with_reducible assumption) | ((repeat (first | (with_reducible refine Eq.trans (cell_drew1 _ _) ?_) | (with_reducible refine Eq.trans (cell_far (by omega) _ _ _) ?_) | (with_reducible refine Eq.trans (World.cell?_alloc_lt _ _ _ (by first | (dsimp only; omega) | (simp only [World.size_alloc, World.size_setCell]; omega))) ?_))); with_reducible assumption) | assumption | go_keep))
  clear hK K hH1x0
  try simp only [Act.put, List.setIfInBounds_toArray, List.set_cons_zero, List.set_cons_succ, List.getElem_toArray, List.getElem_cons_zero, List.getElem_cons_succ]
  refine wpAnyH_ready (rs := [5]) (by kernel_rfl) (by simp) ?_
  refine AllReadyH.cons rfl (fun K hK => ?_) AllReadyH.nil
  go_simp
  go_at_call 55
  refine (H2.out _).mono ?_
  rintro e w6 ⟨rfl, bb⟩
  replace bb := nextw (w0 := w5) (by exact sm) bb
  replace B_p := mv B_p bb
  replace B_q := mv B_q bb
  replace B_r := mv B_r bb
  replace B_s := mv B_s bb
  replace HB := nx HB bb
  clear bb c0p c1p c0q c1q c0r c1r c0s c1s
  have c0p : w6.cell? ⟨w.heap.size, 0, none⟩ = some (.int .i64 a) := B_p.out.cell 0 rfl
  have c1p : w6.cell? ⟨w.heap.size, 1, none⟩ = some (.int .i64 b) := B_p.out.cell 1 rfl
  have c0q : w6.cell? ⟨w.heap.size + 1, 0, none⟩ = some (.int .i64 c) := B_q.out.cell 0 rfl
  have c1q : w6.cell? ⟨w.heap.size + 1, 1, none⟩ = some (.int .i64 d) := B_q.out.cell 1 rfl
  have c0r : w6.cell? ⟨w.heap.size + 1 + 1, 0, none⟩ = some (.int .i64 f) := B_r.out.cell 0 rfl
  have c1r : w6.cell? ⟨w.heap.size + 1 + 1, 1, none⟩ = some (.int .i64 g) := B_r.out.cell 1 rfl
  have c0s : w6.cell? ⟨w.heap.size + 1 + 1 + 1, 0, none⟩ = some (.int .i64 u) := B_s.out.cell 0 rfl
  have c1s : w6.cell? ⟨w.heap.size + 1 + 1 + 1, 1, none⟩ = some (.int .i64 v) := B_s.out.cell 1 rfl
  go_wp2_with fail
  refine hK.out _ _ ?_ (fun hH1x2 => ?_)
  · ((try dsimp only); (repeat' apply And.intro) <;> (first | (with_reducible assumption) | ((repeat (first | (with_reducible refine Eq.trans (cell_drew1 _ _) ?_) | (with_reducible refine Eq.trans (cell_far (by omega) _ _ _) ?_) | (with_reducible refine Eq.trans (World.cell?_alloc_lt _ _ _ (by first | (dsimp only; omega) | (simp only [World.size_alloc, World.size_setCell]; omega))) ?_))); with_reducible assumption) | assumption | go_keep))
  clear hK K hH1x1
  try simp only [Act.put, List.setIfInBounds_toArray, List.set_cons_zero, List.set_cons_succ, List.getElem_toArray, List.getElem_cons_zero, List.getElem_cons_succ]
  refine wpAnyH_ready (rs := [6]) (by kernel_rfl) (by simp) ?_
  refine AllReadyH.cons rfl (fun K hK => ?_) AllReadyH.nil
  go_simp
  go_at_call 54
  refine (HO.out _).mono ?_
  rintro e w7 ⟨rfl, bb⟩
  replace bb := nextw (w0 := w6) (by exact sm) bb
  replace B_p := mv B_p bb
  replace B_q := mv B_q bb
  replace B_r := mv B_r bb
  replace B_s := mv B_s bb
  replace HB := nx HB bb
  clear bb c0p c1p c0q c1q c0r c1r c0s c1s
  have c0p : w7.cell? ⟨w.heap.size, 0, none⟩ = some (.int .i64 a) := B_p.out.cell 0 rfl
  have c1p : w7.cell? ⟨w.heap.size, 1, none⟩ = some (.int .i64 b) := B_p.out.cell 1 rfl
  have c0q : w7.cell? ⟨w.heap.size + 1, 0, none⟩ = some (.int .i64 c) := B_q.out.cell 0 rfl
  have c1q : w7.cell? ⟨w.heap.size + 1, 1, none⟩ = some (.int .i64 d) := B_q.out.cell 1 rfl
  have c0r : w7.cell? ⟨w.heap.size + 1 + 1, 0, none⟩ = some (.int .i64 f) := B_r.out.cell 0 rfl
  have c1r : w7.cell? ⟨w.heap.size + 1 + 1, 1, none⟩ = some (.int .i64 g) := B_r.out.cell 1 rfl
  have c0s : w7.cell? ⟨w.heap.size + 1 + 1 + 1, 0, none⟩ = some (.int .i64 u) := B_s.out.cell 0 rfl
  have c1s : w7.cell? ⟨w.heap.size + 1 + 1 + 1, 1, none⟩ = some (.int .i64 v) := B_s.out.cell 1 rfl
  go_wp2_with fail
  refine hK.out _ _ ?_ (fun hH1x3 => ?_)
  · ((try dsimp only); (repeat' apply And.intro) <;> (first | (with_reducible assumption) | ((repeat (first | (with_reducible refine Eq.trans (cell_drew1 _ _) ?_) | (with_reducible refine Eq.trans (cell_far (by omega) _ _ _) ?_) | (with_reducible refine Eq.trans (World.cell?_alloc_lt _ _ _ (by first | (dsimp only; omega) | (simp only [World.size_alloc, World.size_setCell]; omega))) ?_))); with_reducible assumption) | assumption | go_keep))
  clear hK K hH1x2
  try simp only [Act.put, List.setIfInBounds_toArray, List.set_cons_zero, List.set_cons_succ, List.getElem_toArray, List.getElem_cons_zero, List.getElem_cons_succ]
  refine wpAnyH_take (i := 7) (v := ?hv1x7) rfl (by kernel_rfl) (by kernel_rfl) (by kernel_rfl) (fun _ _ _ h => h) (Or.inl ⟨by kernel_rfl, ?hy1x7⟩) (by assumption) ?hr1x7
  case hy1x7 => (intro w hSw; (try dsimp only at hSw); go_simp <;> with_reducible rfl)
  simp only [Act.put, List.setIfInBounds_toArray, List.set_cons_zero, List.set_cons_succ, List.getElem_toArray, List.getElem_cons_zero, List.getElem_cons_succ]
  refine wpAnyH_take (i := 8) (v := undef) rfl (by kernel_rfl) (by kernel_rfl) (by kernel_rfl) (fun _ _ _ h => h) (Or.inr ⟨by kernel_rfl, rfl⟩) (by assumption) ?_
  simp only [Act.put, List.setIfInBounds_toArray, List.set_cons_zero, List.set_cons_succ, List.getElem_toArray, List.getElem_cons_zero, List.getElem_cons_succ]
  refine wpAnyH_take (i := 9) (v := undef) rfl (by kernel_rfl) (by kernel_rfl) (by kernel_rfl) (fun _ _ _ h => h) (Or.inr ⟨by kernel_rfl, rfl⟩) (by assumption) ?_
  simp only [Act.put, List.setIfInBounds_toArray, List.set_cons_zero, List.set_cons_succ, List.getElem_toArray, List.getElem_cons_zero, List.getElem_cons_succ]
  refine wpAnyH_take (i := 10) (v := undef) rfl (by kernel_rfl) (by kernel_rfl) (by kernel_rfl) (fun _ _ _ h => h) (Or.inr ⟨by kernel_rfl, rfl⟩) (by assumption) ?_
  simp only [Act.put, List.setIfInBounds_toArray, List.set_cons_zero, List.set_cons_succ, List.getElem_toArray, List.getElem_cons_zero, List.getElem_cons_succ]
  refine wpAnyH_take (i := 11) (v := undef) rfl (by kernel_rfl) (by kernel_rfl) (by kernel_rfl) (fun _ _ _ h => h) (Or.inr ⟨by kernel_rfl, rfl⟩) (by assumption) ?_
  simp only [Act.put, List.setIfInBounds_toArray, List.set_cons_zero, List.set_cons_succ, List.getElem_toArray, List.getElem_cons_zero, List.getElem_cons_succ]
  refine wpAnyH_take (i := 12) (v := undef) rfl (by kernel_rfl) (by kernel_rfl) (by kernel_rfl) (fun _ _ _ h => h) (Or.inr ⟨by kernel_rfl, rfl⟩) (by assumption) ?_
  simp only [Act.put, List.setIfInBounds_toArray, List.set_cons_zero, List.set_cons_succ, List.getElem_toArray, List.getElem_cons_zero, List.getElem_cons_succ]
  refine wpAnyH_take (i := 13) (v := undef) rfl (by kernel_rfl) (by kernel_rfl) (by kernel_rfl) (fun _ _ _ h => h) (Or.inr ⟨by kernel_rfl, rfl⟩) (by assumption) ?_
  simp only [Act.put, List.setIfInBounds_toArray, List.set_cons_zero, List.set_cons_succ, List.getElem_toArray, List.getElem_cons_zero, List.getElem_cons_succ]
  refine wpAnyH_take (i := 14) (v := ?hv1x14) rfl (by kernel_rfl) (by kernel_rfl) (by kernel_rfl) (fun _ _ _ h => h) (Or.inl ⟨by kernel_rfl, ?hy1x14⟩) (by assumption) ?hr1x14
  case hy1x14 => (intro w hSw; (try dsimp only at hSw); go_simp <;> with_reducible rfl)
  simp only [Act.put, List.setIfInBounds_toArray, List.set_cons_zero, List.set_cons_succ, List.getElem_toArray, List.getElem_cons_zero, List.getElem_cons_succ]
  refine wpAnyH_take (i := 15) (v := ?hv1x15) rfl (by kernel_rfl) (by kernel_rfl) (by kernel_rfl) (fun _ _ _ h => h) (Or.inl ⟨by kernel_rfl, ?hy1x15⟩) (by assumption) ?hr1x15
  case hy1x15 => (intro w hSw; (try dsimp only at hSw); go_simp <;> with_reducible rfl)
  simp only [Act.put, List.setIfInBounds_toArray, List.set_cons_zero, List.set_cons_succ, List.getElem_toArray, List.getElem_cons_zero, List.getElem_cons_succ]
  refine wpAnyH_take (i := 16) (v := undef) rfl (by kernel_rfl) (by kernel_rfl) (by kernel_rfl) (fun _ _ _ h => h) (Or.inr ⟨by kernel_rfl, rfl⟩) (by assumption) ?_
  simp only [Act.put, List.setIfInBounds_toArray, List.set_cons_zero, List.set_cons_succ, List.getElem_toArray, List.getElem_cons_zero, List.getElem_cons_succ]
  refine wpAnyH_take (i := 17) (v := undef) rfl (by kernel_rfl) (by kernel_rfl) (by kernel_rfl) (fun _ _ _ h => h) (Or.inr ⟨by kernel_rfl, rfl⟩) (by assumption) ?_
  simp only [Act.put, List.setIfInBounds_toArray, List.set_cons_zero, List.set_cons_succ, List.getElem_toArray, List.getElem_cons_zero, List.getElem_cons_succ]
  refine wpAnyH_take (i := 18) (v := undef) rfl (by kernel_rfl) (by kernel_rfl) (by kernel_rfl) (fun _ _ _ h => h) (Or.inr ⟨by kernel_rfl, rfl⟩) (by assumption) ?_
  simp only [Act.put, List.setIfInBounds_toArray, List.set_cons_zero, List.set_cons_succ, List.getElem_toArray, List.getElem_cons_zero, List.getElem_cons_succ]
  refine wpAnyH_take (i := 19) (v := undef) rfl (by kernel_rfl) (by kernel_rfl) (by kernel_rfl) (fun _ _ _ h => h) (Or.inr ⟨by kernel_rfl, rfl⟩) (by assumption) ?_
  simp only [Act.put, List.setIfInBounds_toArray, List.set_cons_zero, List.set_cons_succ, List.getElem_toArray, List.getElem_cons_zero, List.getElem_cons_succ]
  refine wpAnyH_take (i := 20) (v := undef) rfl (by kernel_rfl) (by kernel_rfl) (by kernel_rfl) (fun _ _ _ h => h) (Or.inr ⟨by kernel_rfl, rfl⟩) (by assumption) ?_
  simp only [Act.put, List.setIfInBounds_toArray, List.set_cons_zero, List.set_cons_succ, List.getElem_toArray, List.getElem_cons_zero, List.getElem_cons_succ]
  refine wpAnyH_take (i := 21) (v := undef) rfl (by kernel_rfl) (by kernel_rfl) (by kernel_rfl) (fun _ _ _ h => h) (Or.inr ⟨by kernel_rfl, rfl⟩) (by assumption) ?_
  simp only [Act.put, List.setIfInBounds_toArray, List.set_cons_zero, List.set_cons_succ, List.getElem_toArray, List.getElem_cons_zero, List.getElem_cons_succ]
  refine wpAnyH_take (i := 22) (v := ?hv1x22) rfl (by kernel_rfl) (by kernel_rfl) (by kernel_rfl) (fun _ _ _ h => h) (Or.inl ⟨by kernel_rfl, ?hy1x22⟩) (by assumption) ?hr1x22
  case hy1x22 => (intro w hSw; (try dsimp only at hSw); go_simp <;> with_reducible rfl)
  simp only [Act.put, List.setIfInBounds_toArray, List.set_cons_zero, List.set_cons_succ, List.getElem_toArray, List.getElem_cons_zero, List.getElem_cons_succ]
  refine wpAnyH_take (i := 23) (v := ?hv1x23) rfl (by kernel_rfl) (by kernel_rfl) (by kernel_rfl) (fun _ _ _ h => h) (Or.inl ⟨by kernel_rfl, ?hy1x23⟩) (by assumption) ?hr1x23
  case hy1x23 => (intro w hSw; (try dsimp only at hSw); go_simp <;> with_reducible rfl)
  simp only [Act.put, List.setIfInBounds_toArray, List.set_cons_zero, List.set_cons_succ, List.getElem_toArray, List.getElem_cons_zero, List.getElem_cons_succ]
  refine wpAnyH_done (by kernel_rfl) ?_ _
  clear hH1x3
  clear c0p c1p c0q c1q c0r c1r c0s c1s
  go_wp2
  go_ret
  exact ⟨rfl, nextw HB.out (by exact sm)⟩

set_option maxRecDepth 100000 in
set_option maxHeartbeats 8000000 in
theorem Cross_s (a b c d f g u v : Int) (hp : OkP a b) (hq : OkP c d) (hr : OkP f g) (hs : OkP u v) (ho : (min a c ≤ max f u ∧ min f u ≤ max a c ∧ min b d ≤ max g v ∧ min g v ≤ max b d)) (h1 : 0 < pr a b c d f g * pr a b c d u v) (w : World) :
    Calls Try.prog 30 #[.agg #[.int .i64 a, .int .i64 b], .agg #[.int .i64 c, .int .i64 d], .agg #[.int .i64 f, .int .i64 g], .agg #[.int .i64 u, .int .i64 v]] w fun e w' => e = .returned (.bool false) ∧ Below w.heap.size w w' := by
  have V0 := Lib.hid (fun w => validPoint_t hp w)
  have V1 := Lib.hid (fun w => validPoint_t hq w)
  have V2 := Lib.hid (fun w => validPoint_t hr w)
  have V3 := Lib.hid (fun w => validPoint_t hs w)
  have H1 := Lib.hid (fun w => hull_any a b c d w)
  have H2 := Lib.hid (fun w => hull_any f g u v w)
  have HO := Lib.hid (fun w => overlap_t ho w)
  have H3 := Lib.hid (fun w => onOneSide_any a b c d f g u v hp hq hr hs w)
  rw [decide_eq_true h1] at H3
  clear ho hp hq hr hs h1
  generalize min a c = e0 at *
  generalize min b d = e1 at *
  generalize max a c = e2 at *
  generalize max b d = e3 at *
  generalize min f u = e4 at *
  generalize min g v = e5 at *
  generalize max f u = e6 at *
  generalize max g v = e7 at *
  obtain ⟨HB, B_p, B_q, B_r, B_s⟩ := box4 w 23 #[.int .i64 a, .int .i64 b] 23 #[.int .i64 c, .int .i64 d] 23 #[.int .i64 f, .int .i64 g] 23 #[.int .i64 u, .int .i64 v]
  go_enter Try.func30, Try.ntmps30
  go_wp2_with fail
  generalize (((w.alloc (.cells #[.int .i64 a, .int .i64 b] 23)).alloc (.cells #[.int .i64 c, .int .i64 d] 23)).alloc (.cells #[.int .i64 f, .int .i64 g] 23)).alloc (.cells #[.int .i64 u, .int .i64 v] 23) = W0 at *
  obtain ⟨c0p, c1p⟩ := cells2 B_p
  refine (V0.out _).mono ?_
  clear c0p c1p
  rintro e w1 ⟨rfl, bb⟩
  replace bb := nextw (w0 := W0) (by exact sm) bb
  replace B_p := mv B_p bb
  replace B_q := mv B_q bb
  replace B_r := mv B_r bb
  replace B_s := mv B_s bb
  replace HB := nx HB bb
  clear bb
  obtain ⟨c0q, c1q⟩ := cells2 B_q
  go_wp2_with fail
  refine (V1.out _).mono ?_
  clear c0q c1q
  rintro e w2 ⟨rfl, bb⟩
  replace bb := nextw (w0 := w1) (by exact sm) bb
  replace B_p := mv B_p bb
  replace B_q := mv B_q bb
  replace B_r := mv B_r bb
  replace B_s := mv B_s bb
  replace HB := nx HB bb
  clear bb
  obtain ⟨c0r, c1r⟩ := cells2 B_r
  go_wp2_with fail
  refine (V2.out _).mono ?_
  clear c0r c1r
  rintro e w3 ⟨rfl, bb⟩
  replace bb := nextw (w0 := w2) (by exact sm) bb
  replace B_p := mv B_p bb
  replace B_q := mv B_q bb
  replace B_r := mv B_r bb
  replace B_s := mv B_s bb
  replace HB := nx HB bb
  clear bb
  obtain ⟨c0s, c1s⟩ := cells2 B_s
  go_wp2_with fail
  refine (V3.out _).mono ?_
  clear c0s c1s
  rintro e w4 ⟨rfl, bb⟩
  replace bb := nextw (w0 := w3) (by exact sm) bb
  replace B_p := mv B_p bb
  replace B_q := mv B_q bb
  replace B_r := mv B_r bb
  replace B_s := mv B_s bb
  replace HB := nx HB bb
  clear bb
  clear V0 V1 V2 V3
  go_upto_region 3 with (fail)
  obtain ⟨c0p, c1p⟩ := cells2 B_p
  obtain ⟨c0q, c1q⟩ := cells2 B_q
  obtain ⟨c0r, c1r⟩ := cells2 B_r
  obtain ⟨c0s, c1s⟩ := cells2 B_s
  refine wp_region_held_drew (S := fun w' => w'.cell? ⟨w.heap.size, 0, none⟩ = some (.int .i64 a) ∧ w'.cell? ⟨w.heap.size, 1, none⟩ = some (.int .i64 b) ∧ w'.cell? ⟨w.heap.size + 1, 0, none⟩ = some (.int .i64 c) ∧ w'.cell? ⟨w.heap.size + 1, 1, none⟩ = some (.int .i64 d) ∧ w'.cell? ⟨w.heap.size + 1 + 1, 0, none⟩ = some (.int .i64 f) ∧ w'.cell? ⟨w.heap.size + 1 + 1, 1, none⟩ = some (.int .i64 g) ∧ w'.cell? ⟨w.heap.size + 1 + 1 + 1, 0, none⟩ = some (.int .i64 u) ∧ w'.cell? ⟨w.heap.size + 1 + 1 + 1, 1, none⟩ = some (.int .i64 v)) (by kernel_rfl) ?_ (fun hH1x0 => ?_)
  · ((try dsimp only); (repeat' apply And.intro) <;> (first | (with_reducible assumption) | ((repeat (first | (with_reducible refine Eq.trans (cell_drew1 _ _) ?_) | (with_reducible refine Eq.trans (cell_far (by omega) _ _ _) ?_) | (with_reducible refine Eq.trans (World.cell?_alloc_lt _ _ _ (by first | (dsimp only; omega) | (simp only [World.size_alloc, World.size_setCell]; omega))) ?_))); with_reducible assumption) | assumption | go_keep))
  refine wpAnyH_take (i := 0) (v := ?hv1x0) rfl (by kernel_rfl) (by kernel_rfl) (by kernel_rfl) (fun _ _ _ h => h) (Or.inl ⟨by kernel_rfl, ?hy1x0⟩) (by assumption) ?hr1x0
  case hy1x0 => (intro w hSw; (try dsimp only at hSw); go_simp <;> with_reducible rfl)
  simp only [Act.put, List.setIfInBounds_toArray, List.set_cons_zero, List.set_cons_succ, List.getElem_toArray, List.getElem_cons_zero, List.getElem_cons_succ]
  refine wpAnyH_take (i := 1) (v := ?hv1x1) rfl (by kernel_rfl) (by kernel_rfl) (by kernel_rfl) (fun _ _ _ h => h) (Or.inl ⟨by kernel_rfl, ?hy1x1⟩) (by assumption) ?hr1x1
  case hy1x1 => (intro w hSw; (try dsimp only at hSw); go_simp <;> with_reducible rfl)
  simp only [Act.put, List.setIfInBounds_toArray, List.set_cons_zero, List.set_cons_succ, List.getElem_toArray, List.getElem_cons_zero, List.getElem_cons_succ]
  refine wpAnyH_take (i := 3) (v := ?hv1x3) rfl (by kernel_rfl) (by kernel_rfl) (by kernel_rfl) (fun _ _ _ h => h) (Or.inl ⟨by kernel_rfl, ?hy1x3⟩) (by assumption) ?hr1x3
  case hy1x3 => (intro w hSw; (try dsimp only at hSw); go_simp <;> with_reducible rfl)
  simp only [Act.put, List.setIfInBounds_toArray, List.set_cons_zero, List.set_cons_succ, List.getElem_toArray, List.getElem_cons_zero, List.getElem_cons_succ]
  refine wpAnyH_take (i := 4) (v := ?hv1x4) rfl (by kernel_rfl) (by kernel_rfl) (by kernel_rfl) (fun _ _ _ h => h) (Or.inl ⟨by kernel_rfl, ?hy1x4⟩) (by assumption) ?hr1x4
  case hy1x4 => (intro w hSw; (try dsimp only at hSw); go_simp <;> with_reducible rfl)
  simp only [Act.put, List.setIfInBounds_toArray, List.set_cons_zero, List.set_cons_succ, List.getElem_toArray, List.getElem_cons_zero, List.getElem_cons_succ]
  refine wpAnyH_ready (rs := [2]) (by kernel_rfl) (by simp) ?_
  refine AllReadyH.cons rfl (fun K hK => ?_) AllReadyH.nil
  go_simp
  go_at_call 55
  refine (H1.out _).mono ?_
  rintro e w5 ⟨rfl, bb⟩
  replace bb := nextw (w0 := w4) (by exact sm) bb
  replace B_p := mv B_p bb
  replace B_q := mv B_q bb
  replace B_r := mv B_r bb
  replace B_s := mv B_s bb
  replace HB := nx HB bb
  clear bb c0p c1p c0q c1q c0r c1r c0s c1s
  have c0p : w5.cell? ⟨w.heap.size, 0, none⟩ = some (.int .i64 a) := B_p.out.cell 0 rfl
  have c1p : w5.cell? ⟨w.heap.size, 1, none⟩ = some (.int .i64 b) := B_p.out.cell 1 rfl
  have c0q : w5.cell? ⟨w.heap.size + 1, 0, none⟩ = some (.int .i64 c) := B_q.out.cell 0 rfl
  have c1q : w5.cell? ⟨w.heap.size + 1, 1, none⟩ = some (.int .i64 d) := B_q.out.cell 1 rfl
  have c0r : w5.cell? ⟨w.heap.size + 1 + 1, 0, none⟩ = some (.int .i64 f) := B_r.out.cell 0 rfl
  have c1r : w5.cell? ⟨w.heap.size + 1 + 1, 1, none⟩ = some (.int .i64 g) := B_r.out.cell 1 rfl
  have c0s : w5.cell? ⟨w.heap.size + 1 + 1 + 1, 0, none⟩ = some (.int .i64 u) := B_s.out.cell 0 rfl
  have c1s : w5.cell? ⟨w.heap.size + 1 + 1 + 1, 1, none⟩ = some (.int .i64 v) := B_s.out.cell 1 rfl
  go_wp2_with fail
  refine hK.out _ _ ?_ (fun hH1x1 => ?_)
  · ((try dsimp only); (repeat' apply And.intro) <;> (first | (with_reducible assumption) | ((repeat (first | (with_reducible refine Eq.trans (cell_drew1 _ _) ?_) | (with_reducible refine Eq.trans (cell_far (by omega) _ _ _) ?_) | (with_reducible refine Eq.trans (World.cell?_alloc_lt _ _ _ (by first | (dsimp only; omega) | (simp only [World.size_alloc, World.size_setCell]; omega))) ?_))); with_reducible assumption) | assumption | go_keep))
  clear hK K hH1x0
  try simp only [Act.put, List.setIfInBounds_toArray, List.set_cons_zero, List.set_cons_succ, List.getElem_toArray, List.getElem_cons_zero, List.getElem_cons_succ]
  refine wpAnyH_ready (rs := [5]) (by kernel_rfl) (by simp) ?_
  refine AllReadyH.cons rfl (fun K hK => ?_) AllReadyH.nil
  go_simp
  go_at_call 55
  refine (H2.out _).mono ?_
  rintro e w6 ⟨rfl, bb⟩
  replace bb := nextw (w0 := w5) (by exact sm) bb
  replace B_p := mv B_p bb
  replace B_q := mv B_q bb
  replace B_r := mv B_r bb
  replace B_s := mv B_s bb
  replace HB := nx HB bb
  clear bb c0p c1p c0q c1q c0r c1r c0s c1s
  have c0p : w6.cell? ⟨w.heap.size, 0, none⟩ = some (.int .i64 a) := B_p.out.cell 0 rfl
  have c1p : w6.cell? ⟨w.heap.size, 1, none⟩ = some (.int .i64 b) := B_p.out.cell 1 rfl
  have c0q : w6.cell? ⟨w.heap.size + 1, 0, none⟩ = some (.int .i64 c) := B_q.out.cell 0 rfl
  have c1q : w6.cell? ⟨w.heap.size + 1, 1, none⟩ = some (.int .i64 d) := B_q.out.cell 1 rfl
  have c0r : w6.cell? ⟨w.heap.size + 1 + 1, 0, none⟩ = some (.int .i64 f) := B_r.out.cell 0 rfl
  have c1r : w6.cell? ⟨w.heap.size + 1 + 1, 1, none⟩ = some (.int .i64 g) := B_r.out.cell 1 rfl
  have c0s : w6.cell? ⟨w.heap.size + 1 + 1 + 1, 0, none⟩ = some (.int .i64 u) := B_s.out.cell 0 rfl
  have c1s : w6.cell? ⟨w.heap.size + 1 + 1 + 1, 1, none⟩ = some (.int .i64 v) := B_s.out.cell 1 rfl
  go_wp2_with fail
  refine hK.out _ _ ?_ (fun hH1x2 => ?_)
  · ((try dsimp only); (repeat' apply And.intro) <;> (first | (with_reducible assumption) | ((repeat (first | (with_reducible refine Eq.trans (cell_drew1 _ _) ?_) | (with_reducible refine Eq.trans (cell_far (by omega) _ _ _) ?_) | (with_reducible refine Eq.trans (World.cell?_alloc_lt _ _ _ (by first | (dsimp only; omega) | (simp only [World.size_alloc, World.size_setCell]; omega))) ?_))); with_reducible assumption) | assumption | go_keep))
  clear hK K hH1x1
  try simp only [Act.put, List.setIfInBounds_toArray, List.set_cons_zero, List.set_cons_succ, List.getElem_toArray, List.getElem_cons_zero, List.getElem_cons_succ]
  refine wpAnyH_ready (rs := [6]) (by kernel_rfl) (by simp) ?_
  refine AllReadyH.cons rfl (fun K hK => ?_) AllReadyH.nil
  go_simp
  go_at_call 54
  refine (HO.out _).mono ?_
  rintro e w7 ⟨rfl, bb⟩
  replace bb := nextw (w0 := w6) (by exact sm) bb
  replace B_p := mv B_p bb
  replace B_q := mv B_q bb
  replace B_r := mv B_r bb
  replace B_s := mv B_s bb
  replace HB := nx HB bb
  clear bb c0p c1p c0q c1q c0r c1r c0s c1s
  have c0p : w7.cell? ⟨w.heap.size, 0, none⟩ = some (.int .i64 a) := B_p.out.cell 0 rfl
  have c1p : w7.cell? ⟨w.heap.size, 1, none⟩ = some (.int .i64 b) := B_p.out.cell 1 rfl
  have c0q : w7.cell? ⟨w.heap.size + 1, 0, none⟩ = some (.int .i64 c) := B_q.out.cell 0 rfl
  have c1q : w7.cell? ⟨w.heap.size + 1, 1, none⟩ = some (.int .i64 d) := B_q.out.cell 1 rfl
  have c0r : w7.cell? ⟨w.heap.size + 1 + 1, 0, none⟩ = some (.int .i64 f) := B_r.out.cell 0 rfl
  have c1r : w7.cell? ⟨w.heap.size + 1 + 1, 1, none⟩ = some (.int .i64 g) := B_r.out.cell 1 rfl
  have c0s : w7.cell? ⟨w.heap.size + 1 + 1 + 1, 0, none⟩ = some (.int .i64 u) := B_s.out.cell 0 rfl
  have c1s : w7.cell? ⟨w.heap.size + 1 + 1 + 1, 1, none⟩ = some (.int .i64 v) := B_s.out.cell 1 rfl
  go_wp2_with fail
  refine hK.out _ _ ?_ (fun hH1x3 => ?_)
  · ((try dsimp only); (repeat' apply And.intro) <;> (first | (with_reducible assumption) | ((repeat (first | (with_reducible refine Eq.trans (cell_drew1 _ _) ?_) | (with_reducible refine Eq.trans (cell_far (by omega) _ _ _) ?_) | (with_reducible refine Eq.trans (World.cell?_alloc_lt _ _ _ (by first | (dsimp only; omega) | (simp only [World.size_alloc, World.size_setCell]; omega))) ?_))); with_reducible assumption) | assumption | go_keep))
  clear hK K hH1x2
  try simp only [Act.put, List.setIfInBounds_toArray, List.set_cons_zero, List.set_cons_succ, List.getElem_toArray, List.getElem_cons_zero, List.getElem_cons_succ]
  refine wpAnyH_take (i := 7) (v := ?hv1x7) rfl (by kernel_rfl) (by kernel_rfl) (by kernel_rfl) (fun _ _ _ h => h) (Or.inl ⟨by kernel_rfl, ?hy1x7⟩) (by assumption) ?hr1x7
  case hy1x7 => (intro w hSw; (try dsimp only at hSw); go_simp <;> with_reducible rfl)
  simp only [Act.put, List.setIfInBounds_toArray, List.set_cons_zero, List.set_cons_succ, List.getElem_toArray, List.getElem_cons_zero, List.getElem_cons_succ]
  refine wpAnyH_take (i := 8) (v := ?hv1x8) rfl (by kernel_rfl) (by kernel_rfl) (by kernel_rfl) (fun _ _ _ h => h) (Or.inl ⟨by kernel_rfl, ?hy1x8⟩) (by assumption) ?hr1x8
  case hy1x8 => (intro w hSw; (try dsimp only at hSw); go_simp <;> with_reducible rfl)
  simp only [Act.put, List.setIfInBounds_toArray, List.set_cons_zero, List.set_cons_succ, List.getElem_toArray, List.getElem_cons_zero, List.getElem_cons_succ]
  refine wpAnyH_take (i := 9) (v := ?hv1x9) rfl (by kernel_rfl) (by kernel_rfl) (by kernel_rfl) (fun _ _ _ h => h) (Or.inl ⟨by kernel_rfl, ?hy1x9⟩) (by assumption) ?hr1x9
  case hy1x9 => (intro w hSw; (try dsimp only at hSw); go_simp <;> with_reducible rfl)
  simp only [Act.put, List.setIfInBounds_toArray, List.set_cons_zero, List.set_cons_succ, List.getElem_toArray, List.getElem_cons_zero, List.getElem_cons_succ]
  refine wpAnyH_take (i := 10) (v := ?hv1x10) rfl (by kernel_rfl) (by kernel_rfl) (by kernel_rfl) (fun _ _ _ h => h) (Or.inl ⟨by kernel_rfl, ?hy1x10⟩) (by assumption) ?hr1x10
  case hy1x10 => (intro w hSw; (try dsimp only at hSw); go_simp <;> with_reducible rfl)
  simp only [Act.put, List.setIfInBounds_toArray, List.set_cons_zero, List.set_cons_succ, List.getElem_toArray, List.getElem_cons_zero, List.getElem_cons_succ]
  refine wpAnyH_take (i := 11) (v := ?hv1x11) rfl (by kernel_rfl) (by kernel_rfl) (by kernel_rfl) (fun _ _ _ h => h) (Or.inl ⟨by kernel_rfl, ?hy1x11⟩) (by assumption) ?hr1x11
  case hy1x11 => (intro w hSw; (try dsimp only at hSw); go_simp <;> with_reducible rfl)
  simp only [Act.put, List.setIfInBounds_toArray, List.set_cons_zero, List.set_cons_succ, List.getElem_toArray, List.getElem_cons_zero, List.getElem_cons_succ]
  refine wpAnyH_ready (rs := [12]) (by kernel_rfl) (by simp) ?_
  refine AllReadyH.cons rfl (fun K hK => ?_) AllReadyH.nil
  go_simp
  go_at_call 56
  refine (H3.out _).mono ?_
  rintro e w8 ⟨rfl, bb⟩
  replace bb := nextw (w0 := w7) (by exact sm) bb
  replace B_p := mv B_p bb
  replace B_q := mv B_q bb
  replace B_r := mv B_r bb
  replace B_s := mv B_s bb
  replace HB := nx HB bb
  clear bb c0p c1p c0q c1q c0r c1r c0s c1s
  have c0p : w8.cell? ⟨w.heap.size, 0, none⟩ = some (.int .i64 a) := B_p.out.cell 0 rfl
  have c1p : w8.cell? ⟨w.heap.size, 1, none⟩ = some (.int .i64 b) := B_p.out.cell 1 rfl
  have c0q : w8.cell? ⟨w.heap.size + 1, 0, none⟩ = some (.int .i64 c) := B_q.out.cell 0 rfl
  have c1q : w8.cell? ⟨w.heap.size + 1, 1, none⟩ = some (.int .i64 d) := B_q.out.cell 1 rfl
  have c0r : w8.cell? ⟨w.heap.size + 1 + 1, 0, none⟩ = some (.int .i64 f) := B_r.out.cell 0 rfl
  have c1r : w8.cell? ⟨w.heap.size + 1 + 1, 1, none⟩ = some (.int .i64 g) := B_r.out.cell 1 rfl
  have c0s : w8.cell? ⟨w.heap.size + 1 + 1 + 1, 0, none⟩ = some (.int .i64 u) := B_s.out.cell 0 rfl
  have c1s : w8.cell? ⟨w.heap.size + 1 + 1 + 1, 1, none⟩ = some (.int .i64 v) := B_s.out.cell 1 rfl
  go_wp2_with fail
  refine hK.out _ _ ?_ (fun hH1x4 => ?_)
  · ((try dsimp only); (repeat' apply And.intro) <;> (first | (with_reducible assumption) | ((repeat (first | (with_reducible refine Eq.trans (cell_drew1 _ _) ?_) | (with_reducible refine Eq.trans (cell_far (by omega) _ _ _) ?_) | (with_reducible refine Eq.trans (World.cell?_alloc_lt _ _ _ (by first | (dsimp only; omega) | (simp only [World.size_alloc, World.size_setCell]; omega))) ?_))); with_reducible assumption) | assumption | go_keep))
  clear hK K hH1x3
  try simp only [Act.put, List.setIfInBounds_toArray, List.set_cons_zero, List.set_cons_succ, List.getElem_toArray, List.getElem_cons_zero, List.getElem_cons_succ]
  refine wpAnyH_take (i := 13) (v := ?hv1x13) rfl (by kernel_rfl) (by kernel_rfl) (by kernel_rfl) (fun _ _ _ h => h) (Or.inl ⟨by kernel_rfl, ?hy1x13⟩) (by assumption) ?hr1x13
  case hy1x13 => (intro w hSw; (try dsimp only at hSw); go_simp <;> with_reducible rfl)
  simp only [Act.put, List.setIfInBounds_toArray, List.set_cons_zero, List.set_cons_succ, List.getElem_toArray, List.getElem_cons_zero, List.getElem_cons_succ]
  refine wpAnyH_take (i := 14) (v := ?hv1x14) rfl (by kernel_rfl) (by kernel_rfl) (by kernel_rfl) (fun _ _ _ h => h) (Or.inl ⟨by kernel_rfl, ?hy1x14⟩) (by assumption) ?hr1x14
  case hy1x14 => (intro w hSw; (try dsimp only at hSw); go_simp <;> with_reducible rfl)
  simp only [Act.put, List.setIfInBounds_toArray, List.set_cons_zero, List.set_cons_succ, List.getElem_toArray, List.getElem_cons_zero, List.getElem_cons_succ]
  refine wpAnyH_take (i := 15) (v := ?hv1x15) rfl (by kernel_rfl) (by kernel_rfl) (by kernel_rfl) (fun _ _ _ h => h) (Or.inl ⟨by kernel_rfl, ?hy1x15⟩) (by assumption) ?hr1x15
  case hy1x15 => (intro w hSw; (try dsimp only at hSw); go_simp <;> with_reducible rfl)
  simp only [Act.put, List.setIfInBounds_toArray, List.set_cons_zero, List.set_cons_succ, List.getElem_toArray, List.getElem_cons_zero, List.getElem_cons_succ]
  refine wpAnyH_take (i := 16) (v := undef) rfl (by kernel_rfl) (by kernel_rfl) (by kernel_rfl) (fun _ _ _ h => h) (Or.inr ⟨by kernel_rfl, rfl⟩) (by assumption) ?_
  simp only [Act.put, List.setIfInBounds_toArray, List.set_cons_zero, List.set_cons_succ, List.getElem_toArray, List.getElem_cons_zero, List.getElem_cons_succ]
  refine wpAnyH_take (i := 17) (v := undef) rfl (by kernel_rfl) (by kernel_rfl) (by kernel_rfl) (fun _ _ _ h => h) (Or.inr ⟨by kernel_rfl, rfl⟩) (by assumption) ?_
  simp only [Act.put, List.setIfInBounds_toArray, List.set_cons_zero, List.set_cons_succ, List.getElem_toArray, List.getElem_cons_zero, List.getElem_cons_succ]
  refine wpAnyH_take (i := 18) (v := undef) rfl (by kernel_rfl) (by kernel_rfl) (by kernel_rfl) (fun _ _ _ h => h) (Or.inr ⟨by kernel_rfl, rfl⟩) (by assumption) ?_
  simp only [Act.put, List.setIfInBounds_toArray, List.set_cons_zero, List.set_cons_succ, List.getElem_toArray, List.getElem_cons_zero, List.getElem_cons_succ]
  refine wpAnyH_take (i := 19) (v := undef) rfl (by kernel_rfl) (by kernel_rfl) (by kernel_rfl) (fun _ _ _ h => h) (Or.inr ⟨by kernel_rfl, rfl⟩) (by assumption) ?_
  simp only [Act.put, List.setIfInBounds_toArray, List.set_cons_zero, List.set_cons_succ, List.getElem_toArray, List.getElem_cons_zero, List.getElem_cons_succ]
  refine wpAnyH_take (i := 20) (v := undef) rfl (by kernel_rfl) (by kernel_rfl) (by kernel_rfl) (fun _ _ _ h => h) (Or.inr ⟨by kernel_rfl, rfl⟩) (by assumption) ?_
  simp only [Act.put, List.setIfInBounds_toArray, List.set_cons_zero, List.set_cons_succ, List.getElem_toArray, List.getElem_cons_zero, List.getElem_cons_succ]
  refine wpAnyH_take (i := 21) (v := undef) rfl (by kernel_rfl) (by kernel_rfl) (by kernel_rfl) (fun _ _ _ h => h) (Or.inr ⟨by kernel_rfl, rfl⟩) (by assumption) ?_
  simp only [Act.put, List.setIfInBounds_toArray, List.set_cons_zero, List.set_cons_succ, List.getElem_toArray, List.getElem_cons_zero, List.getElem_cons_succ]
  refine wpAnyH_take (i := 22) (v := ?hv1x22) rfl (by kernel_rfl) (by kernel_rfl) (by kernel_rfl) (fun _ _ _ h => h) (Or.inl ⟨by kernel_rfl, ?hy1x22⟩) (by assumption) ?hr1x22
  case hy1x22 => (intro w hSw; (try dsimp only at hSw); go_simp <;> with_reducible rfl)
  simp only [Act.put, List.setIfInBounds_toArray, List.set_cons_zero, List.set_cons_succ, List.getElem_toArray, List.getElem_cons_zero, List.getElem_cons_succ]
  refine wpAnyH_take (i := 23) (v := ?hv1x23) rfl (by kernel_rfl) (by kernel_rfl) (by kernel_rfl) (fun _ _ _ h => h) (Or.inl ⟨by kernel_rfl, ?hy1x23⟩) (by assumption) ?hr1x23
  case hy1x23 => (intro w hSw; (try dsimp only at hSw); go_simp <;> with_reducible rfl)
  simp only [Act.put, List.setIfInBounds_toArray, List.set_cons_zero, List.set_cons_succ, List.getElem_toArray, List.getElem_cons_zero, List.getElem_cons_succ]
  refine wpAnyH_done (by kernel_rfl) ?_ _
  clear hH1x4
  clear c0p c1p c0q c1q c0r c1r c0s c1s
  go_wp2
  go_ret
  exact ⟨rfl, nextw HB.out (by exact sm)⟩

set_option maxRecDepth 100000 in
set_option maxHeartbeats 8000000 in
theorem Cross_t (a b c d f g u v : Int) (hp : OkP a b) (hq : OkP c d) (hr : OkP f g) (hs : OkP u v) (ho : (min a c ≤ max f u ∧ min f u ≤ max a c ∧ min b d ≤ max g v ∧ min g v ≤ max b d)) (h1 : ¬ 0 < pr a b c d f g * pr a b c d u v) (w : World) :
    Calls Try.prog 30 #[.agg #[.int .i64 a, .int .i64 b], .agg #[.int .i64 c, .int .i64 d], .agg #[.int .i64 f, .int .i64 g], .agg #[.int .i64 u, .int .i64 v]] w fun e w' => e = .returned (.bool (!decide (0 < pr f g u v a b * pr f g u v c d))) ∧ Below w.heap.size w w' := by
  have V0 := Lib.hid (fun w => validPoint_t hp w)
  have V1 := Lib.hid (fun w => validPoint_t hq w)
  have V2 := Lib.hid (fun w => validPoint_t hr w)
  have V3 := Lib.hid (fun w => validPoint_t hs w)
  have H1 := Lib.hid (fun w => hull_any a b c d w)
  have H2 := Lib.hid (fun w => hull_any f g u v w)
  have HO := Lib.hid (fun w => overlap_t ho w)
  have H3 := Lib.hid (fun w => onOneSide_any a b c d f g u v hp hq hr hs w)
  rw [decide_eq_false h1] at H3
  have H4 := Lib.hid (fun w => onOneSide_any f g u v a b c d hr hs hp hq w)
  generalize decide (0 < pr f g u v a b * pr f g u v c d) = t at *
  clear ho hp hq hr hs h1
  generalize min a c = e0 at *
  generalize min b d = e1 at *
  generalize max a c = e2 at *
  generalize max b d = e3 at *
  generalize min f u = e4 at *
  generalize min g v = e5 at *
  generalize max f u = e6 at *
  generalize max g v = e7 at *
  obtain ⟨HB, B_p, B_q, B_r, B_s⟩ := box4 w 23 #[.int .i64 a, .int .i64 b] 23 #[.int .i64 c, .int .i64 d] 23 #[.int .i64 f, .int .i64 g] 23 #[.int .i64 u, .int .i64 v]
  go_enter Try.func30, Try.ntmps30
  go_wp2_with fail
  generalize (((w.alloc (.cells #[.int .i64 a, .int .i64 b] 23)).alloc (.cells #[.int .i64 c, .int .i64 d] 23)).alloc (.cells #[.int .i64 f, .int .i64 g] 23)).alloc (.cells #[.int .i64 u, .int .i64 v] 23) = W0 at *
  obtain ⟨c0p, c1p⟩ := cells2 B_p
  refine (V0.out _).mono ?_
  clear c0p c1p
  rintro e w1 ⟨rfl, bb⟩
  replace bb := nextw (w0 := W0) (by exact sm) bb
  replace B_p := mv B_p bb
  replace B_q := mv B_q bb
  replace B_r := mv B_r bb
  replace B_s := mv B_s bb
  replace HB := nx HB bb
  clear bb
  obtain ⟨c0q, c1q⟩ := cells2 B_q
  go_wp2_with fail
  refine (V1.out _).mono ?_
  clear c0q c1q
  rintro e w2 ⟨rfl, bb⟩
  replace bb := nextw (w0 := w1) (by exact sm) bb
  replace B_p := mv B_p bb
  replace B_q := mv B_q bb
  replace B_r := mv B_r bb
  replace B_s := mv B_s bb
  replace HB := nx HB bb
  clear bb
  obtain ⟨c0r, c1r⟩ := cells2 B_r
  go_wp2_with fail
  refine (V2.out _).mono ?_
  clear c0r c1r
  rintro e w3 ⟨rfl, bb⟩
  replace bb := nextw (w0 := w2) (by exact sm) bb
  replace B_p := mv B_p bb
  replace B_q := mv B_q bb
  replace B_r := mv B_r bb
  replace B_s := mv B_s bb
  replace HB := nx HB bb
  clear bb
  obtain ⟨c0s, c1s⟩ := cells2 B_s
  go_wp2_with fail
  refine (V3.out _).mono ?_
  clear c0s c1s
  rintro e w4 ⟨rfl, bb⟩
  replace bb := nextw (w0 := w3) (by exact sm) bb
  replace B_p := mv B_p bb
  replace B_q := mv B_q bb
  replace B_r := mv B_r bb
  replace B_s := mv B_s bb
  replace HB := nx HB bb
  clear bb
  clear V0 V1 V2 V3
  go_upto_region 3 with (fail)
  obtain ⟨c0p, c1p⟩ := cells2 B_p
  obtain ⟨c0q, c1q⟩ := cells2 B_q
  obtain ⟨c0r, c1r⟩ := cells2 B_r
  obtain ⟨c0s, c1s⟩ := cells2 B_s
  have tk1x0 : True := trivial
  go_region_held3 (fun w' => w'.cell? ⟨w.heap.size, 0, none⟩ = some (.int .i64 a) ∧ w'.cell? ⟨w.heap.size, 1, none⟩ = some (.int .i64 b) ∧ w'.cell? ⟨w.heap.size + 1, 0, none⟩ = some (.int .i64 c) ∧ w'.cell? ⟨w.heap.size + 1, 1, none⟩ = some (.int .i64 d) ∧ w'.cell? ⟨w.heap.size + 1 + 1, 0, none⟩ = some (.int .i64 f) ∧ w'.cell? ⟨w.heap.size + 1 + 1, 1, none⟩ = some (.int .i64 g) ∧ w'.cell? ⟨w.heap.size + 1 + 1 + 1, 0, none⟩ = some (.int .i64 u) ∧ w'.cell? ⟨w.heap.size + 1 + 1 + 1, 1, none⟩ = some (.int .i64 v)) (((try dsimp only); (repeat' apply And.intro) <;> (first | (with_reducible assumption) | ((repeat (first | (with_reducible refine Eq.trans (cell_drew1 _ _) ?_) | (with_reducible refine Eq.trans (cell_far (by omega) _ _ _) ?_) | (with_reducible refine Eq.trans (World.cell?_alloc_lt _ _ _ (by first | (dsimp only; omega) | (simp only [World.size_alloc, World.size_setCell]; omega))) ?_))); with_reducible assumption) | assumption | go_keep)))
    (first
      | (clear tk1x0; go_at_call 55; refine (H1.out _).mono ?_; rintro e w5 ⟨rfl, bb⟩; replace bb := nextw (w0 := w4) (by exact sm) bb; replace B_p := mv B_p bb; replace B_q := mv B_q bb; replace B_r := mv B_r bb; replace B_s := mv B_s bb; replace HB := nx HB bb; clear bb c0p c1p c0q c1q c0r c1r c0s c1s; have c0p : w5.cell? ⟨w.heap.size, 0, none⟩ = some (.int .i64 a) := B_p.out.cell 0 rfl; have c1p : w5.cell? ⟨w.heap.size, 1, none⟩ = some (.int .i64 b) := B_p.out.cell 1 rfl; have c0q : w5.cell? ⟨w.heap.size + 1, 0, none⟩ = some (.int .i64 c) := B_q.out.cell 0 rfl; have c1q : w5.cell? ⟨w.heap.size + 1, 1, none⟩ = some (.int .i64 d) := B_q.out.cell 1 rfl; have c0r : w5.cell? ⟨w.heap.size + 1 + 1, 0, none⟩ = some (.int .i64 f) := B_r.out.cell 0 rfl; have c1r : w5.cell? ⟨w.heap.size + 1 + 1, 1, none⟩ = some (.int .i64 g) := B_r.out.cell 1 rfl; have c0s : w5.cell? ⟨w.heap.size + 1 + 1 + 1, 0, none⟩ = some (.int .i64 u) := B_s.out.cell 0 rfl; have c1s : w5.cell? ⟨w.heap.size + 1 + 1 + 1, 1, none⟩ = some (.int .i64 v) := B_s.out.cell 1 rfl; have tk1x1 : True := trivial)
      | (clear tk1x1; go_at_call 55; refine (H2.out _).mono ?_; rintro e w6 ⟨rfl, bb⟩; replace bb := nextw (w0 := w5) (by exact sm) bb; replace B_p := mv B_p bb; replace B_q := mv B_q bb; replace B_r := mv B_r bb; replace B_s := mv B_s bb; replace HB := nx HB bb; clear bb c0p c1p c0q c1q c0r c1r c0s c1s; have c0p : w6.cell? ⟨w.heap.size, 0, none⟩ = some (.int .i64 a) := B_p.out.cell 0 rfl; have c1p : w6.cell? ⟨w.heap.size, 1, none⟩ = some (.int .i64 b) := B_p.out.cell 1 rfl; have c0q : w6.cell? ⟨w.heap.size + 1, 0, none⟩ = some (.int .i64 c) := B_q.out.cell 0 rfl; have c1q : w6.cell? ⟨w.heap.size + 1, 1, none⟩ = some (.int .i64 d) := B_q.out.cell 1 rfl; have c0r : w6.cell? ⟨w.heap.size + 1 + 1, 0, none⟩ = some (.int .i64 f) := B_r.out.cell 0 rfl; have c1r : w6.cell? ⟨w.heap.size + 1 + 1, 1, none⟩ = some (.int .i64 g) := B_r.out.cell 1 rfl; have c0s : w6.cell? ⟨w.heap.size + 1 + 1 + 1, 0, none⟩ = some (.int .i64 u) := B_s.out.cell 0 rfl; have c1s : w6.cell? ⟨w.heap.size + 1 + 1 + 1, 1, none⟩ = some (.int .i64 v) := B_s.out.cell 1 rfl; have tk1x2 : True := trivial)
      | (clear tk1x2; go_at_call 54; refine (HO.out _).mono ?_; rintro e w7 ⟨rfl, bb⟩; replace bb := nextw (w0 := w6) (by exact sm) bb; replace B_p := mv B_p bb; replace B_q := mv B_q bb; replace B_r := mv B_r bb; replace B_s := mv B_s bb; replace HB := nx HB bb; clear bb c0p c1p c0q c1q c0r c1r c0s c1s; have c0p : w7.cell? ⟨w.heap.size, 0, none⟩ = some (.int .i64 a) := B_p.out.cell 0 rfl; have c1p : w7.cell? ⟨w.heap.size, 1, none⟩ = some (.int .i64 b) := B_p.out.cell 1 rfl; have c0q : w7.cell? ⟨w.heap.size + 1, 0, none⟩ = some (.int .i64 c) := B_q.out.cell 0 rfl; have c1q : w7.cell? ⟨w.heap.size + 1, 1, none⟩ = some (.int .i64 d) := B_q.out.cell 1 rfl; have c0r : w7.cell? ⟨w.heap.size + 1 + 1, 0, none⟩ = some (.int .i64 f) := B_r.out.cell 0 rfl; have c1r : w7.cell? ⟨w.heap.size + 1 + 1, 1, none⟩ = some (.int .i64 g) := B_r.out.cell 1 rfl; have c0s : w7.cell? ⟨w.heap.size + 1 + 1 + 1, 0, none⟩ = some (.int .i64 u) := B_s.out.cell 0 rfl; have c1s : w7.cell? ⟨w.heap.size + 1 + 1 + 1, 1, none⟩ = some (.int .i64 v) := B_s.out.cell 1 rfl; have tk1x3 : True := trivial)
      | (clear tk1x3; go_at_call 56; refine (H3.out _).mono ?_; rintro e w8 ⟨rfl, bb⟩; replace bb := nextw (w0 := w7) (by exact sm) bb; replace B_p := mv B_p bb; replace B_q := mv B_q bb; replace B_r := mv B_r bb; replace B_s := mv B_s bb; replace HB := nx HB bb; clear bb c0p c1p c0q c1q c0r c1r c0s c1s; have c0p : w8.cell? ⟨w.heap.size, 0, none⟩ = some (.int .i64 a) := B_p.out.cell 0 rfl; have c1p : w8.cell? ⟨w.heap.size, 1, none⟩ = some (.int .i64 b) := B_p.out.cell 1 rfl; have c0q : w8.cell? ⟨w.heap.size + 1, 0, none⟩ = some (.int .i64 c) := B_q.out.cell 0 rfl; have c1q : w8.cell? ⟨w.heap.size + 1, 1, none⟩ = some (.int .i64 d) := B_q.out.cell 1 rfl; have c0r : w8.cell? ⟨w.heap.size + 1 + 1, 0, none⟩ = some (.int .i64 f) := B_r.out.cell 0 rfl; have c1r : w8.cell? ⟨w.heap.size + 1 + 1, 1, none⟩ = some (.int .i64 g) := B_r.out.cell 1 rfl; have c0s : w8.cell? ⟨w.heap.size + 1 + 1 + 1, 0, none⟩ = some (.int .i64 u) := B_s.out.cell 0 rfl; have c1s : w8.cell? ⟨w.heap.size + 1 + 1 + 1, 1, none⟩ = some (.int .i64 v) := B_s.out.cell 1 rfl; have tk1x4 : True := trivial)
      | (clear tk1x4; go_at_call 56; refine (H4.out _).mono ?_; rintro e w9 ⟨rfl, bb⟩; replace bb := nextw (w0 := w8) (by exact sm) bb; replace B_p := mv B_p bb; replace B_q := mv B_q bb; replace B_r := mv B_r bb; replace B_s := mv B_s bb; replace HB := nx HB bb; clear bb c0p c1p c0q c1q c0r c1r c0s c1s; have c0p : w9.cell? ⟨w.heap.size, 0, none⟩ = some (.int .i64 a) := B_p.out.cell 0 rfl; have c1p : w9.cell? ⟨w.heap.size, 1, none⟩ = some (.int .i64 b) := B_p.out.cell 1 rfl; have c0q : w9.cell? ⟨w.heap.size + 1, 0, none⟩ = some (.int .i64 c) := B_q.out.cell 0 rfl; have c1q : w9.cell? ⟨w.heap.size + 1, 1, none⟩ = some (.int .i64 d) := B_q.out.cell 1 rfl; have c0r : w9.cell? ⟨w.heap.size + 1 + 1, 0, none⟩ = some (.int .i64 f) := B_r.out.cell 0 rfl; have c1r : w9.cell? ⟨w.heap.size + 1 + 1, 1, none⟩ = some (.int .i64 g) := B_r.out.cell 1 rfl; have c0s : w9.cell? ⟨w.heap.size + 1 + 1 + 1, 0, none⟩ = some (.int .i64 u) := B_s.out.cell 0 rfl; have c1s : w9.cell? ⟨w.heap.size + 1 + 1 + 1, 1, none⟩ = some (.int .i64 v) := B_s.out.cell 1 rfl; have tk1x5 : True := trivial))
  clear c0p c1p c0q c1q c0r c1r c0s c1s
  go_wp2
  go_ret
  exact ⟨rfl, nextw HB.out (by exact sm)⟩

theorem Cross_ok (a b c d f g u v : Int) (hp : OkP a b) (hq : OkP c d) (hr : OkP f g) (hs : OkP u v) (w : World) : Calls Try.prog 30 #[.agg #[.int .i64 a, .int .i64 b], .agg #[.int .i64 c, .int .i64 d], .agg #[.int .i64 f, .int .i64 g], .agg #[.int .i64 u, .int .i64 v]] w fun e w' => e = .returned (.bool (decide (Cr a b c d f g u v))) ∧ Below w.heap.size w w' := by
  by_cases ho : (min a c ≤ max f u ∧ min f u ≤ max a c ∧ min b d ≤ max g v ∧ min g v ≤ max b d)
  · by_cases h1 : 0 < pr a b c d f g * pr a b c d u v
    · rw [decide_eq_false (fun h => h.s1 h1)]; exact Cross_s a b c d f g u v hp hq hr hs ho h1 w
    · have := Cross_t a b c d f g u v hp hq hr hs ho h1 w
      rwa [← decide_not, decide_eq_decide.2 (show ¬ 0 < pr f g u v a b * pr f g u v c d ↔ Cr a b c d f g u v from ⟨fun h => ⟨ho.1, ho.2.1, ho.2.2.1, ho.2.2.2, h1, h⟩, fun h => h.s2⟩)] at this
  · rw [decide_eq_false (fun h => ho ⟨h.o1, h.o2, h.o3, h.o4⟩)]; exact Cross_o a b c d f g u v hp hq hr hs ho w
def Ok4 (a b c d f g u v : Int) : Prop := OkP a b ∧ OkP c d ∧ OkP f g ∧ OkP u v
instance (a b c d f g u v : Int) : Decidable (Ok4 a b c d f g u v) := inferInstanceAs (Decidable (_ ∧ _ ∧ _ ∧ _))
theorem Cross_any (a b c d f g u v : Int) (w : World) : Calls Try.prog 30 #[.agg #[.int .i64 a, .int .i64 b], .agg #[.int .i64 c, .int .i64 d], .agg #[.int .i64 f, .int .i64 g], .agg #[.int .i64 u, .int .i64 v]] w fun e w' => e = .returned (.bool (decide (Ok4 a b c d f g u v ∧ Cr a b c d f g u v))) ∧ Below w.heap.size w w' := by
  by_cases hp : OkP a b
  · by_cases hq : OkP c d
    · by_cases hr : OkP f g
      · by_cases hs : OkP u v
        · rw [decide_eq_decide.2 (show Ok4 a b c d f g u v ∧ Cr a b c d f g u v ↔ Cr a b c d f g u v from ⟨fun h => h.2, fun h => ⟨⟨hp, hq, hr, hs⟩, h⟩⟩)]; exact Cross_ok a b c d f g u v hp hq hr hs w
        · rw [decide_eq_false (fun h => hs h.1.2.2.2)]; exact Cross_3 a b c d f g u v hp hq hr hs w
      · rw [decide_eq_false (fun h => hr h.1.2.2.1)]; exact Cross_2 a b c d f g u v hp hq hr w
    · rw [decide_eq_false (fun h => hq h.1.2.1)]; exact Cross_1 a b c d f g u v hp hq w
  · rw [decide_eq_false (fun h => hp h.1.1)]; exact Cross_0 a b c d f g u v hp w
end Go.Proofs.Ytaflgmiagjldhaa
