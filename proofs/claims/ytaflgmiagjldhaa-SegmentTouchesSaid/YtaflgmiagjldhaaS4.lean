/- segment.cut. -/
import Derived.Test.YtaflgmiagjldhaaS3
import Derived.Test.YtaflgmiagjldhaaSRay
set_option linter.unusedVariables false
set_option linter.unusedSimpArgs false
namespace Go.Proofs.Ytaflgmiagjldhaa
open Go Go.RowKit Hd

theorem less_t {a b c d : Int} (h : a * d < c * b) (h1 : -281474976710656 ≤ a * d ∧ a * d ≤ 281474976710656) (h2 : -281474976710656 ≤ c * b ∧ c * b ≤ 281474976710656) (w : World) :
    Calls Try.prog 41 #[.agg #[.int .i64 a, .int .i64 b], .agg #[.int .i64 c, .int .i64 d]] w fun e w' => e = .returned (.bool true) ∧ Below w.heap.size w w' := by
  have := less_any a b c d (by omega) (by omega) w
  rwa [decide_eq_true h] at this
theorem less_f {a b c d : Int} (h : ¬ a * d < c * b) (h1 : -281474976710656 ≤ a * d ∧ a * d ≤ 281474976710656) (h2 : -281474976710656 ≤ c * b ∧ c * b ≤ 281474976710656) (w : World) :
    Calls Try.prog 41 #[.agg #[.int .i64 a, .int .i64 b], .agg #[.int .i64 c, .int .i64 d]] w fun e w' => e = .returned (.bool false) ∧ Below w.heap.size w w' := by
  have := less_any a b c d (by omega) (by omega) w
  rwa [decide_eq_false h] at this

set_option maxRecDepth 100000 in
set_option maxHeartbeats 1000000 in
theorem cut_z1 (i j o u lo hi : Int) (h : 0 < lo) (w : World) :
    Calls Try.prog 64 #[.agg #[.int .i64 i, .int .i64 j, .int .i64 o, .int .i64 u], .int .i64 0, .int .i64 lo, .int .i64 hi] w fun e w' => e = .returned (.tuple #[.agg #[.int .i64 i, .int .i64 j, .int .i64 o, .int .i64 u], .bool false]) ∧ Below w.heap.size w w' := by
  obtain ⟨HB, B_s, B_r⟩ := box2 w 61 #[.int .i64 i, .int .i64 j, .int .i64 o, .int .i64 u] 61 #[.int .i64 0, .int .i64 0, .int .i64 0, .int .i64 0]
  go_enter Try.func64, Try.ntmps64
  go_upto_region 1 with (fail)
  generalize (w.alloc (.cells #[.int .i64 i, .int .i64 j, .int .i64 o, .int .i64 u] 61)).alloc (.cells #[.int .i64 0, .int .i64 0, .int .i64 0, .int .i64 0] 61) = W0 at *
  obtain ⟨c0s, c1s, c2s, c3s⟩ := cells4 B_s
  obtain ⟨s0, s1, s2, s3⟩ := cells4 (stor4 B_r (.int .i64 i) (.int .i64 j) (.int .i64 o) (.int .i64 u))
  have HF := stb4 HB (y := w.heap.size + 1) (by omega) 0 (.int .i64 i) 1 (.int .i64 j) 2 (.int .i64 o) 3 (.int .i64 u)
  obtain ⟨c0r, c1r, c2r, c3r⟩ := cells4 B_r
  obtain ⟨f0r, f1r, f2r, f3r⟩ := froz4 B_r
  go_wp2_with fail
  exact bodyPost_ret (v := .tuple #[.agg #[.int .i64 i, .int .i64 j, .int .i64 o, .int .i64 u], .bool false]) (by simp [results, Try.results64, go_sem, s0, s1, s2, s3]) rfl ⟨(by first | rfl | (rw [decide_eq_true (by omega)]) | (rw [decide_eq_false (by omega)])), nextw HF.out (by exact sm)⟩

set_option maxRecDepth 100000 in
set_option maxHeartbeats 1000000 in
theorem cut_z2 (i j o u lo hi : Int) (h : lo ≤ 0) (g : hi < 0) (w : World) :
    Calls Try.prog 64 #[.agg #[.int .i64 i, .int .i64 j, .int .i64 o, .int .i64 u], .int .i64 0, .int .i64 lo, .int .i64 hi] w fun e w' => e = .returned (.tuple #[.agg #[.int .i64 i, .int .i64 j, .int .i64 o, .int .i64 u], .bool false]) ∧ Below w.heap.size w w' := by
  obtain ⟨HB, B_s, B_r⟩ := box2 w 61 #[.int .i64 i, .int .i64 j, .int .i64 o, .int .i64 u] 61 #[.int .i64 0, .int .i64 0, .int .i64 0, .int .i64 0]
  go_enter Try.func64, Try.ntmps64
  go_upto_region 1 with (fail)
  generalize (w.alloc (.cells #[.int .i64 i, .int .i64 j, .int .i64 o, .int .i64 u] 61)).alloc (.cells #[.int .i64 0, .int .i64 0, .int .i64 0, .int .i64 0] 61) = W0 at *
  obtain ⟨c0s, c1s, c2s, c3s⟩ := cells4 B_s
  obtain ⟨s0, s1, s2, s3⟩ := cells4 (stor4 B_r (.int .i64 i) (.int .i64 j) (.int .i64 o) (.int .i64 u))
  have HF := stb4 HB (y := w.heap.size + 1) (by omega) 0 (.int .i64 i) 1 (.int .i64 j) 2 (.int .i64 o) 3 (.int .i64 u)
  obtain ⟨c0r, c1r, c2r, c3r⟩ := cells4 B_r
  obtain ⟨f0r, f1r, f2r, f3r⟩ := froz4 B_r
  go_wp2_with fail
  exact bodyPost_ret (v := .tuple #[.agg #[.int .i64 i, .int .i64 j, .int .i64 o, .int .i64 u], .bool (decide (0 ≤ hi))]) (by simp [results, Try.results64, go_sem, s0, s1, s2, s3]) rfl ⟨(by first | rfl | (rw [decide_eq_true (by omega)]) | (rw [decide_eq_false (by omega)])), nextw HF.out (by exact sm)⟩

set_option maxRecDepth 100000 in
set_option maxHeartbeats 1000000 in
theorem cut_z3 (i j o u lo hi : Int) (h : lo ≤ 0) (g : 0 ≤ hi) (w : World) :
    Calls Try.prog 64 #[.agg #[.int .i64 i, .int .i64 j, .int .i64 o, .int .i64 u], .int .i64 0, .int .i64 lo, .int .i64 hi] w fun e w' => e = .returned (.tuple #[.agg #[.int .i64 i, .int .i64 j, .int .i64 o, .int .i64 u], .bool true]) ∧ Below w.heap.size w w' := by
  obtain ⟨HB, B_s, B_r⟩ := box2 w 61 #[.int .i64 i, .int .i64 j, .int .i64 o, .int .i64 u] 61 #[.int .i64 0, .int .i64 0, .int .i64 0, .int .i64 0]
  go_enter Try.func64, Try.ntmps64
  go_upto_region 1 with (fail)
  generalize (w.alloc (.cells #[.int .i64 i, .int .i64 j, .int .i64 o, .int .i64 u] 61)).alloc (.cells #[.int .i64 0, .int .i64 0, .int .i64 0, .int .i64 0] 61) = W0 at *
  obtain ⟨c0s, c1s, c2s, c3s⟩ := cells4 B_s
  obtain ⟨s0, s1, s2, s3⟩ := cells4 (stor4 B_r (.int .i64 i) (.int .i64 j) (.int .i64 o) (.int .i64 u))
  have HF := stb4 HB (y := w.heap.size + 1) (by omega) 0 (.int .i64 i) 1 (.int .i64 j) 2 (.int .i64 o) 3 (.int .i64 u)
  obtain ⟨c0r, c1r, c2r, c3r⟩ := cells4 B_r
  obtain ⟨f0r, f1r, f2r, f3r⟩ := froz4 B_r
  go_wp2_with fail
  exact bodyPost_ret (v := .tuple #[.agg #[.int .i64 i, .int .i64 j, .int .i64 o, .int .i64 u], .bool true]) (by simp [results, Try.results64, go_sem, s0, s1, s2, s3]) rfl ⟨(by first | rfl | (rw [decide_eq_true (by omega)]) | (rw [decide_eq_false (by omega)])), nextw HF.out (by exact sm)⟩

set_option maxRecDepth 100000 in
set_option maxHeartbeats 4000000 in
theorem cut_ptt (i j o u x lo hi : Int) (b : Bd i j o u) (e : Be x lo hi) (hx : 0 < x) (g1 : i * x < lo * j) (g2 : hi * u < o * x) (w : World) :
    Calls Try.prog 64 #[.agg #[.int .i64 i, .int .i64 j, .int .i64 o, .int .i64 u], .int .i64 x, .int .i64 lo, .int .i64 hi] w fun e w' => e = .returned (.tuple #[.agg #[.int .i64 lo, .int .i64 x, .int .i64 hi, .int .i64 x], .bool (!decide (hi * x < lo * x))]) ∧ Below w.heap.size w w' := by
  obtain ⟨b1, b2, b3, b4, b5, b6, b7, b8⟩ := b
  obtain ⟨e1, e2, e3, e4, e5, e6⟩ := e
  have m0 := bnd (a := i) (b := x) (by omega) (by omega) (by omega) (by omega)
  have m1 := bnd (a := lo) (b := j) (by omega) (by omega) (by omega) (by omega)
  have m2 := bnd (a := hi) (b := u) (by omega) (by omega) (by omega) (by omega)
  have m3 := bnd (a := o) (b := x) (by omega) (by omega) (by omega) (by omega)
  have m4 := bnd (a := hi) (b := x) (by omega) (by omega) (by omega) (by omega)
  have m5 := bnd (a := lo) (b := x) (by omega) (by omega) (by omega) (by omega)
  have H1 := Lib.hid (fun w => less_t (a := i) (b := j) (c := lo) (d := x) g1 m0 m1 w)
  have H2 := Lib.hid (fun w => less_t (a := hi) (b := x) (c := o) (d := u) g2 m2 m3 w)
  have H3 := Lib.hid (fun w => less_any hi x lo x (by omega) (by omega) w)
  generalize decide (hi * x < lo * x) = t at *
  clear m0 m1 m2 m3 m4 m5 g1 g2
  obtain ⟨HB, B_s, B_r⟩ := box2 w 61 #[.int .i64 i, .int .i64 j, .int .i64 o, .int .i64 u] 61 #[.int .i64 0, .int .i64 0, .int .i64 0, .int .i64 0]
  go_enter Try.func64, Try.ntmps64
  go_upto_region 1 with (fail)
  generalize (w.alloc (.cells #[.int .i64 i, .int .i64 j, .int .i64 o, .int .i64 u] 61)).alloc (.cells #[.int .i64 0, .int .i64 0, .int .i64 0, .int .i64 0] 61) = W0 at *
  have lt_fs := B_s.out.lt
  have lt_fr := B_r.out.lt
  obtain ⟨bb, B_f⟩ := box1 W0 32 #[.int .i64 lo, .int .i64 x]
  replace bb := bb.out
  replace B_s := mv B_s bb
  replace B_r := mv B_r bb
  replace HB := nx HB bb
  clear bb
  go_upto_region 6 with (fail)
  generalize W0.alloc (.cells #[.int .i64 lo, .int .i64 x] 32) = WF at *
  obtain ⟨c0s, c1s, c2s, c3s⟩ := cells4 B_s
  obtain ⟨c0f, c1f⟩ := cells2 B_f
  go_wp2_with fail
  refine (H1.out _).mono ?_
  clear c0s c1s c2s c3s c0f c1f
  rintro e w1 ⟨rfl, bb⟩
  replace bb := nextw (w0 := WF) (by exact sm) bb
  replace B_s := mv B_s bb
  replace B_r := mv B_r bb
  replace B_f := mv B_f bb
  replace HB := nx HB bb
  clear bb
  obtain ⟨c0f, c1f⟩ := cells2 B_f
  obtain ⟨f0f, f1f⟩ := froz2 B_f
  obtain ⟨c0s, c1s, c2s, c3s⟩ := cells4 B_s
  obtain ⟨f0s, f1s, f2s, f3s⟩ := froz4 B_s
  have ne_r : Hid ((w.heap.size + 1) ≠ (w.heap.size)) := by unfold Hid; omega
  have ne_f : Hid ((W0.heap.size) ≠ (w.heap.size)) := by unfold Hid; omega
  have n_s : Hid (Bx ((w1.setCell ⟨w.heap.size, 0, none⟩ (.int .i64 lo)).setCell ⟨w.heap.size, 1, none⟩ (.int .i64 x)) (w.heap.size) 61 #[.int .i64 lo, .int .i64 x, .int .i64 o, .int .i64 u]) := ((B_s.out.set 0 (.int .i64 lo)).set 1 (.int .i64 x))
  have n_r := far2 B_r ne_r.out 0 (.int .i64 lo) 1 (.int .i64 x)
  have n_f := far2 B_f ne_f.out 0 (.int .i64 lo) 1 (.int .i64 x)
  have nHB := stb2 HB (y := w.heap.size) (by omega) 0 (.int .i64 lo) 1 (.int .i64 x)
  go_upto_region 8 with (fail)
  clear c0f c1f f0f f1f c0s c1s c2s c3s f0s f1s f2s f3s
  clear ne_r ne_f
  generalize (w1.setCell ⟨w.heap.size, 0, none⟩ (.int .i64 lo)).setCell ⟨w.heap.size, 1, none⟩ (.int .i64 x) = WS at *
  clear B_s
  have B_s := n_s
  clear n_s
  clear B_r
  have B_r := n_r
  clear n_r
  clear B_f
  have B_f := n_f
  clear n_f
  clear HB
  have HB := nHB
  clear nHB
  clear B_f
  have lt_ls := B_s.out.lt
  have lt_lr := B_r.out.lt
  obtain ⟨bb, B_l⟩ := box1 WS 32 #[.int .i64 hi, .int .i64 x]
  replace bb := bb.out
  replace B_s := mv B_s bb
  replace B_r := mv B_r bb
  replace HB := nx HB bb
  clear bb
  go_upto_region 9 with (fail)
  generalize WS.alloc (.cells #[.int .i64 hi, .int .i64 x] 32) = WL at *
  obtain ⟨c0s, c1s, c2s, c3s⟩ := cells4 B_s
  obtain ⟨c0l, c1l⟩ := cells2 B_l
  go_wp2_with fail
  refine (H2.out _).mono ?_
  clear c0s c1s c2s c3s c0l c1l
  rintro e w2 ⟨rfl, bb⟩
  replace bb := nextw (w0 := WL) (by exact sm) bb
  replace B_s := mv B_s bb
  replace B_r := mv B_r bb
  replace B_l := mv B_l bb
  replace HB := nx HB bb
  clear bb
  obtain ⟨c0l, c1l⟩ := cells2 B_l
  obtain ⟨f0l, f1l⟩ := froz2 B_l
  obtain ⟨c0s, c1s, c2s, c3s⟩ := cells4 B_s
  obtain ⟨f0s, f1s, f2s, f3s⟩ := froz4 B_s
  have ne_r : Hid ((w.heap.size + 1) ≠ (w.heap.size)) := by unfold Hid; omega
  have ne_l : Hid ((WS.heap.size) ≠ (w.heap.size)) := by unfold Hid; omega
  have n_s : Hid (Bx ((w2.setCell ⟨w.heap.size, 2, none⟩ (.int .i64 hi)).setCell ⟨w.heap.size, 3, none⟩ (.int .i64 x)) (w.heap.size) 61 #[.int .i64 lo, .int .i64 x, .int .i64 hi, .int .i64 x]) := ((B_s.out.set 2 (.int .i64 hi)).set 3 (.int .i64 x))
  have n_r := far2 B_r ne_r.out 2 (.int .i64 hi) 3 (.int .i64 x)
  have n_l := far2 B_l ne_l.out 2 (.int .i64 hi) 3 (.int .i64 x)
  have nHB := stb2 HB (y := w.heap.size) (by omega) 2 (.int .i64 hi) 3 (.int .i64 x)
  go_upto_region 11 with (fail)
  clear c0l c1l f0l f1l c0s c1s c2s c3s f0s f1s f2s f3s
  clear ne_r ne_l
  generalize (w2.setCell ⟨w.heap.size, 2, none⟩ (.int .i64 hi)).setCell ⟨w.heap.size, 3, none⟩ (.int .i64 x) = WT at *
  clear B_s
  have B_s := n_s
  clear n_s
  clear B_r
  have B_r := n_r
  clear n_r
  clear B_l
  have B_l := n_l
  clear n_l
  clear HB
  have HB := nHB
  clear nHB
  clear B_l
  obtain ⟨c0s, c1s, c2s, c3s⟩ := cells4 B_s
  have tk1x0 : True := trivial
  go_region_held3 (fun w' => w'.cell? ⟨w.heap.size, 0, none⟩ = some (.int .i64 lo) ∧ w'.cell? ⟨w.heap.size, 1, none⟩ = some (.int .i64 x) ∧ w'.cell? ⟨w.heap.size, 2, none⟩ = some (.int .i64 hi) ∧ w'.cell? ⟨w.heap.size, 3, none⟩ = some (.int .i64 x)) (((try dsimp only); (repeat' apply And.intro) <;> (first | (with_reducible assumption) | ((repeat (first | (with_reducible refine Eq.trans (cell_drew1 _ _) ?_) | (with_reducible refine Eq.trans (cell_far (by omega) _ _ _) ?_) | (with_reducible refine Eq.trans (World.cell?_alloc_lt _ _ _ (by first | (dsimp only; omega) | (simp only [World.size_alloc, World.size_setCell]; omega))) ?_))); with_reducible assumption) | assumption | go_keep)))
    (first
      | (clear tk1x0; go_at_call 41; refine (H3.out _).mono ?_; rintro e w3 ⟨rfl, bb⟩; replace bb := nextw (w0 := WT) (by exact sm) bb; replace B_s := mv B_s bb; replace B_r := mv B_r bb; replace HB := nx HB bb; clear bb c0s c1s c2s c3s; have c0r : w3.cell? ⟨w.heap.size + 1, 0, none⟩ = some (.int .i64 0) := B_r.out.cell 0 rfl; have c1r : w3.cell? ⟨w.heap.size + 1, 1, none⟩ = some (.int .i64 0) := B_r.out.cell 1 rfl; have c2r : w3.cell? ⟨w.heap.size + 1, 2, none⟩ = some (.int .i64 0) := B_r.out.cell 2 rfl; have c3r : w3.cell? ⟨w.heap.size + 1, 3, none⟩ = some (.int .i64 0) := B_r.out.cell 3 rfl; have f0r : w3.frozen? ⟨w.heap.size + 1, 0, none⟩ = false := B_r.out.frozen 0; have f1r : w3.frozen? ⟨w.heap.size + 1, 1, none⟩ = false := B_r.out.frozen 1; have f2r : w3.frozen? ⟨w.heap.size + 1, 2, none⟩ = false := B_r.out.frozen 2; have f3r : w3.frozen? ⟨w.heap.size + 1, 3, none⟩ = false := B_r.out.frozen 3; have c0s : w3.cell? ⟨w.heap.size, 0, none⟩ = some (.int .i64 lo) := B_s.out.cell 0 rfl; have c1s : w3.cell? ⟨w.heap.size, 1, none⟩ = some (.int .i64 x) := B_s.out.cell 1 rfl; have c2s : w3.cell? ⟨w.heap.size, 2, none⟩ = some (.int .i64 hi) := B_s.out.cell 2 rfl; have c3s : w3.cell? ⟨w.heap.size, 3, none⟩ = some (.int .i64 x) := B_s.out.cell 3 rfl; have tk1x1 : True := trivial))
  all_goals
    obtain ⟨s0, s1, s2, s3⟩ := cells4 (stor4 B_r (.int .i64 lo) (.int .i64 x) (.int .i64 hi) (.int .i64 x))
    have HF := stb4 HB (y := w.heap.size + 1) (by omega) 0 (.int .i64 lo) 1 (.int .i64 x) 2 (.int .i64 hi) 3 (.int .i64 x)
    obtain ⟨c0r, c1r, c2r, c3r⟩ := cells4 B_r
    obtain ⟨f0r, f1r, f2r, f3r⟩ := froz4 B_r
    go_wp2_with fail
    exact bodyPost_ret (v := .tuple #[.agg #[.int .i64 lo, .int .i64 x, .int .i64 hi, .int .i64 x], .bool (!t)]) (by simp [results, Try.results64, go_sem, s0, s1, s2, s3]) rfl ⟨rfl, nextw HF.out (by exact sm)⟩

set_option maxRecDepth 100000 in
set_option maxHeartbeats 4000000 in
theorem cut_ptf (i j o u x lo hi : Int) (b : Bd i j o u) (e : Be x lo hi) (hx : 0 < x) (g1 : i * x < lo * j) (g2 : ¬ hi * u < o * x) (w : World) :
    Calls Try.prog 64 #[.agg #[.int .i64 i, .int .i64 j, .int .i64 o, .int .i64 u], .int .i64 x, .int .i64 lo, .int .i64 hi] w fun e w' => e = .returned (.tuple #[.agg #[.int .i64 lo, .int .i64 x, .int .i64 o, .int .i64 u], .bool (!decide (o * x < lo * u))]) ∧ Below w.heap.size w w' := by
  obtain ⟨b1, b2, b3, b4, b5, b6, b7, b8⟩ := b
  obtain ⟨e1, e2, e3, e4, e5, e6⟩ := e
  have m0 := bnd (a := i) (b := x) (by omega) (by omega) (by omega) (by omega)
  have m1 := bnd (a := lo) (b := j) (by omega) (by omega) (by omega) (by omega)
  have m2 := bnd (a := hi) (b := u) (by omega) (by omega) (by omega) (by omega)
  have m3 := bnd (a := o) (b := x) (by omega) (by omega) (by omega) (by omega)
  have m4 := bnd (a := o) (b := x) (by omega) (by omega) (by omega) (by omega)
  have m5 := bnd (a := lo) (b := u) (by omega) (by omega) (by omega) (by omega)
  have H1 := Lib.hid (fun w => less_t (a := i) (b := j) (c := lo) (d := x) g1 m0 m1 w)
  have H2 := Lib.hid (fun w => less_f (a := hi) (b := x) (c := o) (d := u) g2 m2 m3 w)
  have H3 := Lib.hid (fun w => less_any o u lo x (by omega) (by omega) w)
  generalize decide (o * x < lo * u) = t at *
  clear m0 m1 m2 m3 m4 m5 g1 g2
  obtain ⟨HB, B_s, B_r⟩ := box2 w 61 #[.int .i64 i, .int .i64 j, .int .i64 o, .int .i64 u] 61 #[.int .i64 0, .int .i64 0, .int .i64 0, .int .i64 0]
  go_enter Try.func64, Try.ntmps64
  go_upto_region 1 with (fail)
  generalize (w.alloc (.cells #[.int .i64 i, .int .i64 j, .int .i64 o, .int .i64 u] 61)).alloc (.cells #[.int .i64 0, .int .i64 0, .int .i64 0, .int .i64 0] 61) = W0 at *
  have lt_fs := B_s.out.lt
  have lt_fr := B_r.out.lt
  obtain ⟨bb, B_f⟩ := box1 W0 32 #[.int .i64 lo, .int .i64 x]
  replace bb := bb.out
  replace B_s := mv B_s bb
  replace B_r := mv B_r bb
  replace HB := nx HB bb
  clear bb
  go_upto_region 6 with (fail)
  generalize W0.alloc (.cells #[.int .i64 lo, .int .i64 x] 32) = WF at *
  obtain ⟨c0s, c1s, c2s, c3s⟩ := cells4 B_s
  obtain ⟨c0f, c1f⟩ := cells2 B_f
  go_wp2_with fail
  refine (H1.out _).mono ?_
  clear c0s c1s c2s c3s c0f c1f
  rintro e w1 ⟨rfl, bb⟩
  replace bb := nextw (w0 := WF) (by exact sm) bb
  replace B_s := mv B_s bb
  replace B_r := mv B_r bb
  replace B_f := mv B_f bb
  replace HB := nx HB bb
  clear bb
  obtain ⟨c0f, c1f⟩ := cells2 B_f
  obtain ⟨f0f, f1f⟩ := froz2 B_f
  obtain ⟨c0s, c1s, c2s, c3s⟩ := cells4 B_s
  obtain ⟨f0s, f1s, f2s, f3s⟩ := froz4 B_s
  have ne_r : Hid ((w.heap.size + 1) ≠ (w.heap.size)) := by unfold Hid; omega
  have ne_f : Hid ((W0.heap.size) ≠ (w.heap.size)) := by unfold Hid; omega
  have n_s : Hid (Bx ((w1.setCell ⟨w.heap.size, 0, none⟩ (.int .i64 lo)).setCell ⟨w.heap.size, 1, none⟩ (.int .i64 x)) (w.heap.size) 61 #[.int .i64 lo, .int .i64 x, .int .i64 o, .int .i64 u]) := ((B_s.out.set 0 (.int .i64 lo)).set 1 (.int .i64 x))
  have n_r := far2 B_r ne_r.out 0 (.int .i64 lo) 1 (.int .i64 x)
  have n_f := far2 B_f ne_f.out 0 (.int .i64 lo) 1 (.int .i64 x)
  have nHB := stb2 HB (y := w.heap.size) (by omega) 0 (.int .i64 lo) 1 (.int .i64 x)
  go_upto_region 8 with (fail)
  clear c0f c1f f0f f1f c0s c1s c2s c3s f0s f1s f2s f3s
  clear ne_r ne_f
  generalize (w1.setCell ⟨w.heap.size, 0, none⟩ (.int .i64 lo)).setCell ⟨w.heap.size, 1, none⟩ (.int .i64 x) = WS at *
  clear B_s
  have B_s := n_s
  clear n_s
  clear B_r
  have B_r := n_r
  clear n_r
  clear B_f
  have B_f := n_f
  clear n_f
  clear HB
  have HB := nHB
  clear nHB
  clear B_f
  have lt_ls := B_s.out.lt
  have lt_lr := B_r.out.lt
  obtain ⟨bb, B_l⟩ := box1 WS 32 #[.int .i64 hi, .int .i64 x]
  replace bb := bb.out
  replace B_s := mv B_s bb
  replace B_r := mv B_r bb
  replace HB := nx HB bb
  clear bb
  go_upto_region 9 with (fail)
  generalize WS.alloc (.cells #[.int .i64 hi, .int .i64 x] 32) = WL at *
  obtain ⟨c0s, c1s, c2s, c3s⟩ := cells4 B_s
  obtain ⟨c0l, c1l⟩ := cells2 B_l
  go_wp2_with fail
  refine (H2.out _).mono ?_
  clear c0s c1s c2s c3s c0l c1l
  rintro e w2 ⟨rfl, bb⟩
  replace bb := nextw (w0 := WL) (by exact sm) bb
  replace B_s := mv B_s bb
  replace B_r := mv B_r bb
  replace B_l := mv B_l bb
  replace HB := nx HB bb
  clear bb
  go_upto_region 11 with (fail)
  clear B_l
  obtain ⟨c0s, c1s, c2s, c3s⟩ := cells4 B_s
  have tk1x0 : True := trivial
  go_region_held3 (fun w' => w'.cell? ⟨w.heap.size, 0, none⟩ = some (.int .i64 lo) ∧ w'.cell? ⟨w.heap.size, 1, none⟩ = some (.int .i64 x) ∧ w'.cell? ⟨w.heap.size, 2, none⟩ = some (.int .i64 o) ∧ w'.cell? ⟨w.heap.size, 3, none⟩ = some (.int .i64 u)) (((try dsimp only); (repeat' apply And.intro) <;> (first | (with_reducible assumption) | ((repeat (first | (with_reducible refine Eq.trans (cell_drew1 _ _) ?_) | (with_reducible refine Eq.trans (cell_far (by omega) _ _ _) ?_) | (with_reducible refine Eq.trans (World.cell?_alloc_lt _ _ _ (by first | (dsimp only; omega) | (simp only [World.size_alloc, World.size_setCell]; omega))) ?_))); with_reducible assumption) | assumption | go_keep)))
    (first
      | (clear tk1x0; go_at_call 41; refine (H3.out _).mono ?_; rintro e w3 ⟨rfl, bb⟩; replace bb := nextw (w0 := w2) (by exact sm) bb; replace B_s := mv B_s bb; replace B_r := mv B_r bb; replace HB := nx HB bb; clear bb c0s c1s c2s c3s; have c0r : w3.cell? ⟨w.heap.size + 1, 0, none⟩ = some (.int .i64 0) := B_r.out.cell 0 rfl; have c1r : w3.cell? ⟨w.heap.size + 1, 1, none⟩ = some (.int .i64 0) := B_r.out.cell 1 rfl; have c2r : w3.cell? ⟨w.heap.size + 1, 2, none⟩ = some (.int .i64 0) := B_r.out.cell 2 rfl; have c3r : w3.cell? ⟨w.heap.size + 1, 3, none⟩ = some (.int .i64 0) := B_r.out.cell 3 rfl; have f0r : w3.frozen? ⟨w.heap.size + 1, 0, none⟩ = false := B_r.out.frozen 0; have f1r : w3.frozen? ⟨w.heap.size + 1, 1, none⟩ = false := B_r.out.frozen 1; have f2r : w3.frozen? ⟨w.heap.size + 1, 2, none⟩ = false := B_r.out.frozen 2; have f3r : w3.frozen? ⟨w.heap.size + 1, 3, none⟩ = false := B_r.out.frozen 3; have c0s : w3.cell? ⟨w.heap.size, 0, none⟩ = some (.int .i64 lo) := B_s.out.cell 0 rfl; have c1s : w3.cell? ⟨w.heap.size, 1, none⟩ = some (.int .i64 x) := B_s.out.cell 1 rfl; have c2s : w3.cell? ⟨w.heap.size, 2, none⟩ = some (.int .i64 o) := B_s.out.cell 2 rfl; have c3s : w3.cell? ⟨w.heap.size, 3, none⟩ = some (.int .i64 u) := B_s.out.cell 3 rfl; have tk1x1 : True := trivial))
  all_goals
    obtain ⟨s0, s1, s2, s3⟩ := cells4 (stor4 B_r (.int .i64 lo) (.int .i64 x) (.int .i64 o) (.int .i64 u))
    have HF := stb4 HB (y := w.heap.size + 1) (by omega) 0 (.int .i64 lo) 1 (.int .i64 x) 2 (.int .i64 o) 3 (.int .i64 u)
    obtain ⟨c0r, c1r, c2r, c3r⟩ := cells4 B_r
    obtain ⟨f0r, f1r, f2r, f3r⟩ := froz4 B_r
    go_wp2_with fail
    exact bodyPost_ret (v := .tuple #[.agg #[.int .i64 lo, .int .i64 x, .int .i64 o, .int .i64 u], .bool (!t)]) (by simp [results, Try.results64, go_sem, s0, s1, s2, s3]) rfl ⟨rfl, nextw HF.out (by exact sm)⟩

set_option maxRecDepth 100000 in
set_option maxHeartbeats 4000000 in
theorem cut_pft (i j o u x lo hi : Int) (b : Bd i j o u) (e : Be x lo hi) (hx : 0 < x) (g1 : ¬ i * x < lo * j) (g2 : hi * u < o * x) (w : World) :
    Calls Try.prog 64 #[.agg #[.int .i64 i, .int .i64 j, .int .i64 o, .int .i64 u], .int .i64 x, .int .i64 lo, .int .i64 hi] w fun e w' => e = .returned (.tuple #[.agg #[.int .i64 i, .int .i64 j, .int .i64 hi, .int .i64 x], .bool (!decide (hi * j < i * x))]) ∧ Below w.heap.size w w' := by
  obtain ⟨b1, b2, b3, b4, b5, b6, b7, b8⟩ := b
  obtain ⟨e1, e2, e3, e4, e5, e6⟩ := e
  have m0 := bnd (a := i) (b := x) (by omega) (by omega) (by omega) (by omega)
  have m1 := bnd (a := lo) (b := j) (by omega) (by omega) (by omega) (by omega)
  have m2 := bnd (a := hi) (b := u) (by omega) (by omega) (by omega) (by omega)
  have m3 := bnd (a := o) (b := x) (by omega) (by omega) (by omega) (by omega)
  have m4 := bnd (a := hi) (b := j) (by omega) (by omega) (by omega) (by omega)
  have m5 := bnd (a := i) (b := x) (by omega) (by omega) (by omega) (by omega)
  have H1 := Lib.hid (fun w => less_f (a := i) (b := j) (c := lo) (d := x) g1 m0 m1 w)
  have H2 := Lib.hid (fun w => less_t (a := hi) (b := x) (c := o) (d := u) g2 m2 m3 w)
  have H3 := Lib.hid (fun w => less_any hi x i j (by omega) (by omega) w)
  generalize decide (hi * j < i * x) = t at *
  clear m0 m1 m2 m3 m4 m5 g1 g2
  obtain ⟨HB, B_s, B_r⟩ := box2 w 61 #[.int .i64 i, .int .i64 j, .int .i64 o, .int .i64 u] 61 #[.int .i64 0, .int .i64 0, .int .i64 0, .int .i64 0]
  go_enter Try.func64, Try.ntmps64
  go_upto_region 1 with (fail)
  generalize (w.alloc (.cells #[.int .i64 i, .int .i64 j, .int .i64 o, .int .i64 u] 61)).alloc (.cells #[.int .i64 0, .int .i64 0, .int .i64 0, .int .i64 0] 61) = W0 at *
  have lt_fs := B_s.out.lt
  have lt_fr := B_r.out.lt
  obtain ⟨bb, B_f⟩ := box1 W0 32 #[.int .i64 lo, .int .i64 x]
  replace bb := bb.out
  replace B_s := mv B_s bb
  replace B_r := mv B_r bb
  replace HB := nx HB bb
  clear bb
  go_upto_region 6 with (fail)
  generalize W0.alloc (.cells #[.int .i64 lo, .int .i64 x] 32) = WF at *
  obtain ⟨c0s, c1s, c2s, c3s⟩ := cells4 B_s
  obtain ⟨c0f, c1f⟩ := cells2 B_f
  go_wp2_with fail
  refine (H1.out _).mono ?_
  clear c0s c1s c2s c3s c0f c1f
  rintro e w1 ⟨rfl, bb⟩
  replace bb := nextw (w0 := WF) (by exact sm) bb
  replace B_s := mv B_s bb
  replace B_r := mv B_r bb
  replace B_f := mv B_f bb
  replace HB := nx HB bb
  clear bb
  clear B_f
  have lt_ls := B_s.out.lt
  have lt_lr := B_r.out.lt
  obtain ⟨bb, B_l⟩ := box1 w1 32 #[.int .i64 hi, .int .i64 x]
  replace bb := bb.out
  replace B_s := mv B_s bb
  replace B_r := mv B_r bb
  replace HB := nx HB bb
  clear bb
  go_upto_region 9 with (fail)
  generalize w1.alloc (.cells #[.int .i64 hi, .int .i64 x] 32) = WL at *
  obtain ⟨c0s, c1s, c2s, c3s⟩ := cells4 B_s
  obtain ⟨c0l, c1l⟩ := cells2 B_l
  go_wp2_with fail
  refine (H2.out _).mono ?_
  clear c0s c1s c2s c3s c0l c1l
  rintro e w2 ⟨rfl, bb⟩
  replace bb := nextw (w0 := WL) (by exact sm) bb
  replace B_s := mv B_s bb
  replace B_r := mv B_r bb
  replace B_l := mv B_l bb
  replace HB := nx HB bb
  clear bb
  obtain ⟨c0l, c1l⟩ := cells2 B_l
  obtain ⟨f0l, f1l⟩ := froz2 B_l
  obtain ⟨c0s, c1s, c2s, c3s⟩ := cells4 B_s
  obtain ⟨f0s, f1s, f2s, f3s⟩ := froz4 B_s
  have ne_r : Hid ((w.heap.size + 1) ≠ (w.heap.size)) := by unfold Hid; omega
  have ne_l : Hid ((w1.heap.size) ≠ (w.heap.size)) := by unfold Hid; omega
  have n_s : Hid (Bx ((w2.setCell ⟨w.heap.size, 2, none⟩ (.int .i64 hi)).setCell ⟨w.heap.size, 3, none⟩ (.int .i64 x)) (w.heap.size) 61 #[.int .i64 i, .int .i64 j, .int .i64 hi, .int .i64 x]) := ((B_s.out.set 2 (.int .i64 hi)).set 3 (.int .i64 x))
  have n_r := far2 B_r ne_r.out 2 (.int .i64 hi) 3 (.int .i64 x)
  have n_l := far2 B_l ne_l.out 2 (.int .i64 hi) 3 (.int .i64 x)
  have nHB := stb2 HB (y := w.heap.size) (by omega) 2 (.int .i64 hi) 3 (.int .i64 x)
  go_upto_region 11 with (fail)
  clear c0l c1l f0l f1l c0s c1s c2s c3s f0s f1s f2s f3s
  clear ne_r ne_l
  generalize (w2.setCell ⟨w.heap.size, 2, none⟩ (.int .i64 hi)).setCell ⟨w.heap.size, 3, none⟩ (.int .i64 x) = WT at *
  clear B_s
  have B_s := n_s
  clear n_s
  clear B_r
  have B_r := n_r
  clear n_r
  clear B_l
  have B_l := n_l
  clear n_l
  clear HB
  have HB := nHB
  clear nHB
  clear B_l
  obtain ⟨c0s, c1s, c2s, c3s⟩ := cells4 B_s
  have tk1x0 : True := trivial
  go_region_held3 (fun w' => w'.cell? ⟨w.heap.size, 0, none⟩ = some (.int .i64 i) ∧ w'.cell? ⟨w.heap.size, 1, none⟩ = some (.int .i64 j) ∧ w'.cell? ⟨w.heap.size, 2, none⟩ = some (.int .i64 hi) ∧ w'.cell? ⟨w.heap.size, 3, none⟩ = some (.int .i64 x)) (((try dsimp only); (repeat' apply And.intro) <;> (first | (with_reducible assumption) | ((repeat (first | (with_reducible refine Eq.trans (cell_drew1 _ _) ?_) | (with_reducible refine Eq.trans (cell_far (by omega) _ _ _) ?_) | (with_reducible refine Eq.trans (World.cell?_alloc_lt _ _ _ (by first | (dsimp only; omega) | (simp only [World.size_alloc, World.size_setCell]; omega))) ?_))); with_reducible assumption) | assumption | go_keep)))
    (first
      | (clear tk1x0; go_at_call 41; refine (H3.out _).mono ?_; rintro e w3 ⟨rfl, bb⟩; replace bb := nextw (w0 := WT) (by exact sm) bb; replace B_s := mv B_s bb; replace B_r := mv B_r bb; replace HB := nx HB bb; clear bb c0s c1s c2s c3s; have c0r : w3.cell? ⟨w.heap.size + 1, 0, none⟩ = some (.int .i64 0) := B_r.out.cell 0 rfl; have c1r : w3.cell? ⟨w.heap.size + 1, 1, none⟩ = some (.int .i64 0) := B_r.out.cell 1 rfl; have c2r : w3.cell? ⟨w.heap.size + 1, 2, none⟩ = some (.int .i64 0) := B_r.out.cell 2 rfl; have c3r : w3.cell? ⟨w.heap.size + 1, 3, none⟩ = some (.int .i64 0) := B_r.out.cell 3 rfl; have f0r : w3.frozen? ⟨w.heap.size + 1, 0, none⟩ = false := B_r.out.frozen 0; have f1r : w3.frozen? ⟨w.heap.size + 1, 1, none⟩ = false := B_r.out.frozen 1; have f2r : w3.frozen? ⟨w.heap.size + 1, 2, none⟩ = false := B_r.out.frozen 2; have f3r : w3.frozen? ⟨w.heap.size + 1, 3, none⟩ = false := B_r.out.frozen 3; have c0s : w3.cell? ⟨w.heap.size, 0, none⟩ = some (.int .i64 i) := B_s.out.cell 0 rfl; have c1s : w3.cell? ⟨w.heap.size, 1, none⟩ = some (.int .i64 j) := B_s.out.cell 1 rfl; have c2s : w3.cell? ⟨w.heap.size, 2, none⟩ = some (.int .i64 hi) := B_s.out.cell 2 rfl; have c3s : w3.cell? ⟨w.heap.size, 3, none⟩ = some (.int .i64 x) := B_s.out.cell 3 rfl; have tk1x1 : True := trivial))
  all_goals
    obtain ⟨s0, s1, s2, s3⟩ := cells4 (stor4 B_r (.int .i64 i) (.int .i64 j) (.int .i64 hi) (.int .i64 x))
    have HF := stb4 HB (y := w.heap.size + 1) (by omega) 0 (.int .i64 i) 1 (.int .i64 j) 2 (.int .i64 hi) 3 (.int .i64 x)
    obtain ⟨c0r, c1r, c2r, c3r⟩ := cells4 B_r
    obtain ⟨f0r, f1r, f2r, f3r⟩ := froz4 B_r
    go_wp2_with fail
    exact bodyPost_ret (v := .tuple #[.agg #[.int .i64 i, .int .i64 j, .int .i64 hi, .int .i64 x], .bool (!t)]) (by simp [results, Try.results64, go_sem, s0, s1, s2, s3]) rfl ⟨rfl, nextw HF.out (by exact sm)⟩

set_option maxRecDepth 100000 in
set_option maxHeartbeats 4000000 in
theorem cut_pff (i j o u x lo hi : Int) (b : Bd i j o u) (e : Be x lo hi) (hx : 0 < x) (g1 : ¬ i * x < lo * j) (g2 : ¬ hi * u < o * x) (w : World) :
    Calls Try.prog 64 #[.agg #[.int .i64 i, .int .i64 j, .int .i64 o, .int .i64 u], .int .i64 x, .int .i64 lo, .int .i64 hi] w fun e w' => e = .returned (.tuple #[.agg #[.int .i64 i, .int .i64 j, .int .i64 o, .int .i64 u], .bool (!decide (o * j < i * u))]) ∧ Below w.heap.size w w' := by
  obtain ⟨b1, b2, b3, b4, b5, b6, b7, b8⟩ := b
  obtain ⟨e1, e2, e3, e4, e5, e6⟩ := e
  have m0 := bnd (a := i) (b := x) (by omega) (by omega) (by omega) (by omega)
  have m1 := bnd (a := lo) (b := j) (by omega) (by omega) (by omega) (by omega)
  have m2 := bnd (a := hi) (b := u) (by omega) (by omega) (by omega) (by omega)
  have m3 := bnd (a := o) (b := x) (by omega) (by omega) (by omega) (by omega)
  have m4 := bnd (a := o) (b := j) (by omega) (by omega) (by omega) (by omega)
  have m5 := bnd (a := i) (b := u) (by omega) (by omega) (by omega) (by omega)
  have H1 := Lib.hid (fun w => less_f (a := i) (b := j) (c := lo) (d := x) g1 m0 m1 w)
  have H2 := Lib.hid (fun w => less_f (a := hi) (b := x) (c := o) (d := u) g2 m2 m3 w)
  have H3 := Lib.hid (fun w => less_any o u i j (by omega) (by omega) w)
  generalize decide (o * j < i * u) = t at *
  clear m0 m1 m2 m3 m4 m5 g1 g2
  obtain ⟨HB, B_s, B_r⟩ := box2 w 61 #[.int .i64 i, .int .i64 j, .int .i64 o, .int .i64 u] 61 #[.int .i64 0, .int .i64 0, .int .i64 0, .int .i64 0]
  go_enter Try.func64, Try.ntmps64
  go_upto_region 1 with (fail)
  generalize (w.alloc (.cells #[.int .i64 i, .int .i64 j, .int .i64 o, .int .i64 u] 61)).alloc (.cells #[.int .i64 0, .int .i64 0, .int .i64 0, .int .i64 0] 61) = W0 at *
  have lt_fs := B_s.out.lt
  have lt_fr := B_r.out.lt
  obtain ⟨bb, B_f⟩ := box1 W0 32 #[.int .i64 lo, .int .i64 x]
  replace bb := bb.out
  replace B_s := mv B_s bb
  replace B_r := mv B_r bb
  replace HB := nx HB bb
  clear bb
  go_upto_region 6 with (fail)
  generalize W0.alloc (.cells #[.int .i64 lo, .int .i64 x] 32) = WF at *
  obtain ⟨c0s, c1s, c2s, c3s⟩ := cells4 B_s
  obtain ⟨c0f, c1f⟩ := cells2 B_f
  go_wp2_with fail
  refine (H1.out _).mono ?_
  clear c0s c1s c2s c3s c0f c1f
  rintro e w1 ⟨rfl, bb⟩
  replace bb := nextw (w0 := WF) (by exact sm) bb
  replace B_s := mv B_s bb
  replace B_r := mv B_r bb
  replace B_f := mv B_f bb
  replace HB := nx HB bb
  clear bb
  clear B_f
  have lt_ls := B_s.out.lt
  have lt_lr := B_r.out.lt
  obtain ⟨bb, B_l⟩ := box1 w1 32 #[.int .i64 hi, .int .i64 x]
  replace bb := bb.out
  replace B_s := mv B_s bb
  replace B_r := mv B_r bb
  replace HB := nx HB bb
  clear bb
  go_upto_region 9 with (fail)
  generalize w1.alloc (.cells #[.int .i64 hi, .int .i64 x] 32) = WL at *
  obtain ⟨c0s, c1s, c2s, c3s⟩ := cells4 B_s
  obtain ⟨c0l, c1l⟩ := cells2 B_l
  go_wp2_with fail
  refine (H2.out _).mono ?_
  clear c0s c1s c2s c3s c0l c1l
  rintro e w2 ⟨rfl, bb⟩
  replace bb := nextw (w0 := WL) (by exact sm) bb
  replace B_s := mv B_s bb
  replace B_r := mv B_r bb
  replace B_l := mv B_l bb
  replace HB := nx HB bb
  clear bb
  go_upto_region 11 with (fail)
  clear B_l
  obtain ⟨c0s, c1s, c2s, c3s⟩ := cells4 B_s
  have tk1x0 : True := trivial
  go_region_held3 (fun w' => w'.cell? ⟨w.heap.size, 0, none⟩ = some (.int .i64 i) ∧ w'.cell? ⟨w.heap.size, 1, none⟩ = some (.int .i64 j) ∧ w'.cell? ⟨w.heap.size, 2, none⟩ = some (.int .i64 o) ∧ w'.cell? ⟨w.heap.size, 3, none⟩ = some (.int .i64 u)) (((try dsimp only); (repeat' apply And.intro) <;> (first | (with_reducible assumption) | ((repeat (first | (with_reducible refine Eq.trans (cell_drew1 _ _) ?_) | (with_reducible refine Eq.trans (cell_far (by omega) _ _ _) ?_) | (with_reducible refine Eq.trans (World.cell?_alloc_lt _ _ _ (by first | (dsimp only; omega) | (simp only [World.size_alloc, World.size_setCell]; omega))) ?_))); with_reducible assumption) | assumption | go_keep)))
    (first
      | (clear tk1x0; go_at_call 41; refine (H3.out _).mono ?_; rintro e w3 ⟨rfl, bb⟩; replace bb := nextw (w0 := w2) (by exact sm) bb; replace B_s := mv B_s bb; replace B_r := mv B_r bb; replace HB := nx HB bb; clear bb c0s c1s c2s c3s; have c0r : w3.cell? ⟨w.heap.size + 1, 0, none⟩ = some (.int .i64 0) := B_r.out.cell 0 rfl; have c1r : w3.cell? ⟨w.heap.size + 1, 1, none⟩ = some (.int .i64 0) := B_r.out.cell 1 rfl; have c2r : w3.cell? ⟨w.heap.size + 1, 2, none⟩ = some (.int .i64 0) := B_r.out.cell 2 rfl; have c3r : w3.cell? ⟨w.heap.size + 1, 3, none⟩ = some (.int .i64 0) := B_r.out.cell 3 rfl; have f0r : w3.frozen? ⟨w.heap.size + 1, 0, none⟩ = false := B_r.out.frozen 0; have f1r : w3.frozen? ⟨w.heap.size + 1, 1, none⟩ = false := B_r.out.frozen 1; have f2r : w3.frozen? ⟨w.heap.size + 1, 2, none⟩ = false := B_r.out.frozen 2; have f3r : w3.frozen? ⟨w.heap.size + 1, 3, none⟩ = false := B_r.out.frozen 3; have c0s : w3.cell? ⟨w.heap.size, 0, none⟩ = some (.int .i64 i) := B_s.out.cell 0 rfl; have c1s : w3.cell? ⟨w.heap.size, 1, none⟩ = some (.int .i64 j) := B_s.out.cell 1 rfl; have c2s : w3.cell? ⟨w.heap.size, 2, none⟩ = some (.int .i64 o) := B_s.out.cell 2 rfl; have c3s : w3.cell? ⟨w.heap.size, 3, none⟩ = some (.int .i64 u) := B_s.out.cell 3 rfl; have tk1x1 : True := trivial))
  all_goals
    obtain ⟨s0, s1, s2, s3⟩ := cells4 (stor4 B_r (.int .i64 i) (.int .i64 j) (.int .i64 o) (.int .i64 u))
    have HF := stb4 HB (y := w.heap.size + 1) (by omega) 0 (.int .i64 i) 1 (.int .i64 j) 2 (.int .i64 o) 3 (.int .i64 u)
    obtain ⟨c0r, c1r, c2r, c3r⟩ := cells4 B_r
    obtain ⟨f0r, f1r, f2r, f3r⟩ := froz4 B_r
    go_wp2_with fail
    exact bodyPost_ret (v := .tuple #[.agg #[.int .i64 i, .int .i64 j, .int .i64 o, .int .i64 u], .bool (!t)]) (by simp [results, Try.results64, go_sem, s0, s1, s2, s3]) rfl ⟨rfl, nextw HF.out (by exact sm)⟩

set_option maxRecDepth 100000 in
set_option maxHeartbeats 4000000 in
theorem cut_ntt (i j o u x lo hi : Int) (b : Bd i j o u) (e : Be x lo hi) (hx : x < 0) (g1 : i * (-x) < (-hi) * j) (g2 : (-lo) * u < o * (-x)) (w : World) :
    Calls Try.prog 64 #[.agg #[.int .i64 i, .int .i64 j, .int .i64 o, .int .i64 u], .int .i64 x, .int .i64 lo, .int .i64 hi] w fun e w' => e = .returned (.tuple #[.agg #[.int .i64 (-hi), .int .i64 (-x), .int .i64 (-lo), .int .i64 (-x)], .bool (!decide ((-lo) * (-x) < (-hi) * (-x)))]) ∧ Below w.heap.size w w' := by
  obtain ⟨b1, b2, b3, b4, b5, b6, b7, b8⟩ := b
  obtain ⟨e1, e2, e3, e4, e5, e6⟩ := e
  have m0 := bnd (a := i) (b := (-x)) (by omega) (by omega) (by omega) (by omega)
  have m1 := bnd (a := (-hi)) (b := j) (by omega) (by omega) (by omega) (by omega)
  have m2 := bnd (a := (-lo)) (b := u) (by omega) (by omega) (by omega) (by omega)
  have m3 := bnd (a := o) (b := (-x)) (by omega) (by omega) (by omega) (by omega)
  have m4 := bnd (a := (-lo)) (b := (-x)) (by omega) (by omega) (by omega) (by omega)
  have m5 := bnd (a := (-hi)) (b := (-x)) (by omega) (by omega) (by omega) (by omega)
  have H1 := Lib.hid (fun w => less_t (a := i) (b := j) (c := (-hi)) (d := (-x)) g1 m0 m1 w)
  have H2 := Lib.hid (fun w => less_t (a := (-lo)) (b := (-x)) (c := o) (d := u) g2 m2 m3 w)
  have H3 := Lib.hid (fun w => less_any (-lo) (-x) (-hi) (-x) (by omega) (by omega) w)
  generalize decide ((-lo) * (-x) < (-hi) * (-x)) = t at *
  clear m0 m1 m2 m3 m4 m5 g1 g2
  obtain ⟨HB, B_s, B_r⟩ := box2 w 61 #[.int .i64 i, .int .i64 j, .int .i64 o, .int .i64 u] 61 #[.int .i64 0, .int .i64 0, .int .i64 0, .int .i64 0]
  go_enter Try.func64, Try.ntmps64
  go_upto_region 1 with (fail)
  generalize (w.alloc (.cells #[.int .i64 i, .int .i64 j, .int .i64 o, .int .i64 u] 61)).alloc (.cells #[.int .i64 0, .int .i64 0, .int .i64 0, .int .i64 0] 61) = W0 at *
  have lt_fs := B_s.out.lt
  have lt_fr := B_r.out.lt
  obtain ⟨bb, B_f⟩ := box1 W0 32 #[.int .i64 (-hi), .int .i64 (-x)]
  replace bb := bb.out
  replace B_s := mv B_s bb
  replace B_r := mv B_r bb
  replace HB := nx HB bb
  clear bb
  go_upto_region 6 with (fail)
  generalize W0.alloc (.cells #[.int .i64 (-hi), .int .i64 (-x)] 32) = WF at *
  obtain ⟨c0s, c1s, c2s, c3s⟩ := cells4 B_s
  obtain ⟨c0f, c1f⟩ := cells2 B_f
  go_wp2_with fail
  refine (H1.out _).mono ?_
  clear c0s c1s c2s c3s c0f c1f
  rintro e w1 ⟨rfl, bb⟩
  replace bb := nextw (w0 := WF) (by exact sm) bb
  replace B_s := mv B_s bb
  replace B_r := mv B_r bb
  replace B_f := mv B_f bb
  replace HB := nx HB bb
  clear bb
  obtain ⟨c0f, c1f⟩ := cells2 B_f
  obtain ⟨f0f, f1f⟩ := froz2 B_f
  obtain ⟨c0s, c1s, c2s, c3s⟩ := cells4 B_s
  obtain ⟨f0s, f1s, f2s, f3s⟩ := froz4 B_s
  have ne_r : Hid ((w.heap.size + 1) ≠ (w.heap.size)) := by unfold Hid; omega
  have ne_f : Hid ((W0.heap.size) ≠ (w.heap.size)) := by unfold Hid; omega
  have n_s : Hid (Bx ((w1.setCell ⟨w.heap.size, 0, none⟩ (.int .i64 (-hi))).setCell ⟨w.heap.size, 1, none⟩ (.int .i64 (-x))) (w.heap.size) 61 #[.int .i64 (-hi), .int .i64 (-x), .int .i64 o, .int .i64 u]) := ((B_s.out.set 0 (.int .i64 (-hi))).set 1 (.int .i64 (-x)))
  have n_r := far2 B_r ne_r.out 0 (.int .i64 (-hi)) 1 (.int .i64 (-x))
  have n_f := far2 B_f ne_f.out 0 (.int .i64 (-hi)) 1 (.int .i64 (-x))
  have nHB := stb2 HB (y := w.heap.size) (by omega) 0 (.int .i64 (-hi)) 1 (.int .i64 (-x))
  go_upto_region 8 with (fail)
  clear c0f c1f f0f f1f c0s c1s c2s c3s f0s f1s f2s f3s
  clear ne_r ne_f
  generalize (w1.setCell ⟨w.heap.size, 0, none⟩ (.int .i64 (-hi))).setCell ⟨w.heap.size, 1, none⟩ (.int .i64 (-x)) = WS at *
  clear B_s
  have B_s := n_s
  clear n_s
  clear B_r
  have B_r := n_r
  clear n_r
  clear B_f
  have B_f := n_f
  clear n_f
  clear HB
  have HB := nHB
  clear nHB
  clear B_f
  have lt_ls := B_s.out.lt
  have lt_lr := B_r.out.lt
  obtain ⟨bb, B_l⟩ := box1 WS 32 #[.int .i64 (-lo), .int .i64 (-x)]
  replace bb := bb.out
  replace B_s := mv B_s bb
  replace B_r := mv B_r bb
  replace HB := nx HB bb
  clear bb
  go_upto_region 9 with (fail)
  generalize WS.alloc (.cells #[.int .i64 (-lo), .int .i64 (-x)] 32) = WL at *
  obtain ⟨c0s, c1s, c2s, c3s⟩ := cells4 B_s
  obtain ⟨c0l, c1l⟩ := cells2 B_l
  go_wp2_with fail
  refine (H2.out _).mono ?_
  clear c0s c1s c2s c3s c0l c1l
  rintro e w2 ⟨rfl, bb⟩
  replace bb := nextw (w0 := WL) (by exact sm) bb
  replace B_s := mv B_s bb
  replace B_r := mv B_r bb
  replace B_l := mv B_l bb
  replace HB := nx HB bb
  clear bb
  obtain ⟨c0l, c1l⟩ := cells2 B_l
  obtain ⟨f0l, f1l⟩ := froz2 B_l
  obtain ⟨c0s, c1s, c2s, c3s⟩ := cells4 B_s
  obtain ⟨f0s, f1s, f2s, f3s⟩ := froz4 B_s
  have ne_r : Hid ((w.heap.size + 1) ≠ (w.heap.size)) := by unfold Hid; omega
  have ne_l : Hid ((WS.heap.size) ≠ (w.heap.size)) := by unfold Hid; omega
  have n_s : Hid (Bx ((w2.setCell ⟨w.heap.size, 2, none⟩ (.int .i64 (-lo))).setCell ⟨w.heap.size, 3, none⟩ (.int .i64 (-x))) (w.heap.size) 61 #[.int .i64 (-hi), .int .i64 (-x), .int .i64 (-lo), .int .i64 (-x)]) := ((B_s.out.set 2 (.int .i64 (-lo))).set 3 (.int .i64 (-x)))
  have n_r := far2 B_r ne_r.out 2 (.int .i64 (-lo)) 3 (.int .i64 (-x))
  have n_l := far2 B_l ne_l.out 2 (.int .i64 (-lo)) 3 (.int .i64 (-x))
  have nHB := stb2 HB (y := w.heap.size) (by omega) 2 (.int .i64 (-lo)) 3 (.int .i64 (-x))
  go_upto_region 11 with (fail)
  clear c0l c1l f0l f1l c0s c1s c2s c3s f0s f1s f2s f3s
  clear ne_r ne_l
  generalize (w2.setCell ⟨w.heap.size, 2, none⟩ (.int .i64 (-lo))).setCell ⟨w.heap.size, 3, none⟩ (.int .i64 (-x)) = WT at *
  clear B_s
  have B_s := n_s
  clear n_s
  clear B_r
  have B_r := n_r
  clear n_r
  clear B_l
  have B_l := n_l
  clear n_l
  clear HB
  have HB := nHB
  clear nHB
  clear B_l
  obtain ⟨c0s, c1s, c2s, c3s⟩ := cells4 B_s
  have tk1x0 : True := trivial
  go_region_held3 (fun w' => w'.cell? ⟨w.heap.size, 0, none⟩ = some (.int .i64 (-hi)) ∧ w'.cell? ⟨w.heap.size, 1, none⟩ = some (.int .i64 (-x)) ∧ w'.cell? ⟨w.heap.size, 2, none⟩ = some (.int .i64 (-lo)) ∧ w'.cell? ⟨w.heap.size, 3, none⟩ = some (.int .i64 (-x))) (((try dsimp only); (repeat' apply And.intro) <;> (first | (with_reducible assumption) | ((repeat (first | (with_reducible refine Eq.trans (cell_drew1 _ _) ?_) | (with_reducible refine Eq.trans (cell_far (by omega) _ _ _) ?_) | (with_reducible refine Eq.trans (World.cell?_alloc_lt _ _ _ (by first | (dsimp only; omega) | (simp only [World.size_alloc, World.size_setCell]; omega))) ?_))); with_reducible assumption) | assumption | go_keep)))
    (first
      | (clear tk1x0; go_at_call 41; refine (H3.out _).mono ?_; rintro e w3 ⟨rfl, bb⟩; replace bb := nextw (w0 := WT) (by exact sm) bb; replace B_s := mv B_s bb; replace B_r := mv B_r bb; replace HB := nx HB bb; clear bb c0s c1s c2s c3s; have c0r : w3.cell? ⟨w.heap.size + 1, 0, none⟩ = some (.int .i64 0) := B_r.out.cell 0 rfl; have c1r : w3.cell? ⟨w.heap.size + 1, 1, none⟩ = some (.int .i64 0) := B_r.out.cell 1 rfl; have c2r : w3.cell? ⟨w.heap.size + 1, 2, none⟩ = some (.int .i64 0) := B_r.out.cell 2 rfl; have c3r : w3.cell? ⟨w.heap.size + 1, 3, none⟩ = some (.int .i64 0) := B_r.out.cell 3 rfl; have f0r : w3.frozen? ⟨w.heap.size + 1, 0, none⟩ = false := B_r.out.frozen 0; have f1r : w3.frozen? ⟨w.heap.size + 1, 1, none⟩ = false := B_r.out.frozen 1; have f2r : w3.frozen? ⟨w.heap.size + 1, 2, none⟩ = false := B_r.out.frozen 2; have f3r : w3.frozen? ⟨w.heap.size + 1, 3, none⟩ = false := B_r.out.frozen 3; have c0s : w3.cell? ⟨w.heap.size, 0, none⟩ = some (.int .i64 (-hi)) := B_s.out.cell 0 rfl; have c1s : w3.cell? ⟨w.heap.size, 1, none⟩ = some (.int .i64 (-x)) := B_s.out.cell 1 rfl; have c2s : w3.cell? ⟨w.heap.size, 2, none⟩ = some (.int .i64 (-lo)) := B_s.out.cell 2 rfl; have c3s : w3.cell? ⟨w.heap.size, 3, none⟩ = some (.int .i64 (-x)) := B_s.out.cell 3 rfl; have tk1x1 : True := trivial))
  all_goals
    obtain ⟨s0, s1, s2, s3⟩ := cells4 (stor4 B_r (.int .i64 (-hi)) (.int .i64 (-x)) (.int .i64 (-lo)) (.int .i64 (-x)))
    have HF := stb4 HB (y := w.heap.size + 1) (by omega) 0 (.int .i64 (-hi)) 1 (.int .i64 (-x)) 2 (.int .i64 (-lo)) 3 (.int .i64 (-x))
    obtain ⟨c0r, c1r, c2r, c3r⟩ := cells4 B_r
    obtain ⟨f0r, f1r, f2r, f3r⟩ := froz4 B_r
    go_wp2_with fail
    exact bodyPost_ret (v := .tuple #[.agg #[.int .i64 (-hi), .int .i64 (-x), .int .i64 (-lo), .int .i64 (-x)], .bool (!t)]) (by simp [results, Try.results64, go_sem, s0, s1, s2, s3]) rfl ⟨rfl, nextw HF.out (by exact sm)⟩

set_option maxRecDepth 100000 in
set_option maxHeartbeats 4000000 in
theorem cut_ntf (i j o u x lo hi : Int) (b : Bd i j o u) (e : Be x lo hi) (hx : x < 0) (g1 : i * (-x) < (-hi) * j) (g2 : ¬ (-lo) * u < o * (-x)) (w : World) :
    Calls Try.prog 64 #[.agg #[.int .i64 i, .int .i64 j, .int .i64 o, .int .i64 u], .int .i64 x, .int .i64 lo, .int .i64 hi] w fun e w' => e = .returned (.tuple #[.agg #[.int .i64 (-hi), .int .i64 (-x), .int .i64 o, .int .i64 u], .bool (!decide (o * (-x) < (-hi) * u))]) ∧ Below w.heap.size w w' := by
  obtain ⟨b1, b2, b3, b4, b5, b6, b7, b8⟩ := b
  obtain ⟨e1, e2, e3, e4, e5, e6⟩ := e
  have m0 := bnd (a := i) (b := (-x)) (by omega) (by omega) (by omega) (by omega)
  have m1 := bnd (a := (-hi)) (b := j) (by omega) (by omega) (by omega) (by omega)
  have m2 := bnd (a := (-lo)) (b := u) (by omega) (by omega) (by omega) (by omega)
  have m3 := bnd (a := o) (b := (-x)) (by omega) (by omega) (by omega) (by omega)
  have m4 := bnd (a := o) (b := (-x)) (by omega) (by omega) (by omega) (by omega)
  have m5 := bnd (a := (-hi)) (b := u) (by omega) (by omega) (by omega) (by omega)
  have H1 := Lib.hid (fun w => less_t (a := i) (b := j) (c := (-hi)) (d := (-x)) g1 m0 m1 w)
  have H2 := Lib.hid (fun w => less_f (a := (-lo)) (b := (-x)) (c := o) (d := u) g2 m2 m3 w)
  have H3 := Lib.hid (fun w => less_any o u (-hi) (-x) (by omega) (by omega) w)
  generalize decide (o * (-x) < (-hi) * u) = t at *
  clear m0 m1 m2 m3 m4 m5 g1 g2
  obtain ⟨HB, B_s, B_r⟩ := box2 w 61 #[.int .i64 i, .int .i64 j, .int .i64 o, .int .i64 u] 61 #[.int .i64 0, .int .i64 0, .int .i64 0, .int .i64 0]
  go_enter Try.func64, Try.ntmps64
  go_upto_region 1 with (fail)
  generalize (w.alloc (.cells #[.int .i64 i, .int .i64 j, .int .i64 o, .int .i64 u] 61)).alloc (.cells #[.int .i64 0, .int .i64 0, .int .i64 0, .int .i64 0] 61) = W0 at *
  have lt_fs := B_s.out.lt
  have lt_fr := B_r.out.lt
  obtain ⟨bb, B_f⟩ := box1 W0 32 #[.int .i64 (-hi), .int .i64 (-x)]
  replace bb := bb.out
  replace B_s := mv B_s bb
  replace B_r := mv B_r bb
  replace HB := nx HB bb
  clear bb
  go_upto_region 6 with (fail)
  generalize W0.alloc (.cells #[.int .i64 (-hi), .int .i64 (-x)] 32) = WF at *
  obtain ⟨c0s, c1s, c2s, c3s⟩ := cells4 B_s
  obtain ⟨c0f, c1f⟩ := cells2 B_f
  go_wp2_with fail
  refine (H1.out _).mono ?_
  clear c0s c1s c2s c3s c0f c1f
  rintro e w1 ⟨rfl, bb⟩
  replace bb := nextw (w0 := WF) (by exact sm) bb
  replace B_s := mv B_s bb
  replace B_r := mv B_r bb
  replace B_f := mv B_f bb
  replace HB := nx HB bb
  clear bb
  obtain ⟨c0f, c1f⟩ := cells2 B_f
  obtain ⟨f0f, f1f⟩ := froz2 B_f
  obtain ⟨c0s, c1s, c2s, c3s⟩ := cells4 B_s
  obtain ⟨f0s, f1s, f2s, f3s⟩ := froz4 B_s
  have ne_r : Hid ((w.heap.size + 1) ≠ (w.heap.size)) := by unfold Hid; omega
  have ne_f : Hid ((W0.heap.size) ≠ (w.heap.size)) := by unfold Hid; omega
  have n_s : Hid (Bx ((w1.setCell ⟨w.heap.size, 0, none⟩ (.int .i64 (-hi))).setCell ⟨w.heap.size, 1, none⟩ (.int .i64 (-x))) (w.heap.size) 61 #[.int .i64 (-hi), .int .i64 (-x), .int .i64 o, .int .i64 u]) := ((B_s.out.set 0 (.int .i64 (-hi))).set 1 (.int .i64 (-x)))
  have n_r := far2 B_r ne_r.out 0 (.int .i64 (-hi)) 1 (.int .i64 (-x))
  have n_f := far2 B_f ne_f.out 0 (.int .i64 (-hi)) 1 (.int .i64 (-x))
  have nHB := stb2 HB (y := w.heap.size) (by omega) 0 (.int .i64 (-hi)) 1 (.int .i64 (-x))
  go_upto_region 8 with (fail)
  clear c0f c1f f0f f1f c0s c1s c2s c3s f0s f1s f2s f3s
  clear ne_r ne_f
  generalize (w1.setCell ⟨w.heap.size, 0, none⟩ (.int .i64 (-hi))).setCell ⟨w.heap.size, 1, none⟩ (.int .i64 (-x)) = WS at *
  clear B_s
  have B_s := n_s
  clear n_s
  clear B_r
  have B_r := n_r
  clear n_r
  clear B_f
  have B_f := n_f
  clear n_f
  clear HB
  have HB := nHB
  clear nHB
  clear B_f
  have lt_ls := B_s.out.lt
  have lt_lr := B_r.out.lt
  obtain ⟨bb, B_l⟩ := box1 WS 32 #[.int .i64 (-lo), .int .i64 (-x)]
  replace bb := bb.out
  replace B_s := mv B_s bb
  replace B_r := mv B_r bb
  replace HB := nx HB bb
  clear bb
  go_upto_region 9 with (fail)
  generalize WS.alloc (.cells #[.int .i64 (-lo), .int .i64 (-x)] 32) = WL at *
  obtain ⟨c0s, c1s, c2s, c3s⟩ := cells4 B_s
  obtain ⟨c0l, c1l⟩ := cells2 B_l
  go_wp2_with fail
  refine (H2.out _).mono ?_
  clear c0s c1s c2s c3s c0l c1l
  rintro e w2 ⟨rfl, bb⟩
  replace bb := nextw (w0 := WL) (by exact sm) bb
  replace B_s := mv B_s bb
  replace B_r := mv B_r bb
  replace B_l := mv B_l bb
  replace HB := nx HB bb
  clear bb
  go_upto_region 11 with (fail)
  clear B_l
  obtain ⟨c0s, c1s, c2s, c3s⟩ := cells4 B_s
  have tk1x0 : True := trivial
  go_region_held3 (fun w' => w'.cell? ⟨w.heap.size, 0, none⟩ = some (.int .i64 (-hi)) ∧ w'.cell? ⟨w.heap.size, 1, none⟩ = some (.int .i64 (-x)) ∧ w'.cell? ⟨w.heap.size, 2, none⟩ = some (.int .i64 o) ∧ w'.cell? ⟨w.heap.size, 3, none⟩ = some (.int .i64 u)) (((try dsimp only); (repeat' apply And.intro) <;> (first | (with_reducible assumption) | ((repeat (first | (with_reducible refine Eq.trans (cell_drew1 _ _) ?_) | (with_reducible refine Eq.trans (cell_far (by omega) _ _ _) ?_) | (with_reducible refine Eq.trans (World.cell?_alloc_lt _ _ _ (by first | (dsimp only; omega) | (simp only [World.size_alloc, World.size_setCell]; omega))) ?_))); with_reducible assumption) | assumption | go_keep)))
    (first
      | (clear tk1x0; go_at_call 41; refine (H3.out _).mono ?_; rintro e w3 ⟨rfl, bb⟩; replace bb := nextw (w0 := w2) (by exact sm) bb; replace B_s := mv B_s bb; replace B_r := mv B_r bb; replace HB := nx HB bb; clear bb c0s c1s c2s c3s; have c0r : w3.cell? ⟨w.heap.size + 1, 0, none⟩ = some (.int .i64 0) := B_r.out.cell 0 rfl; have c1r : w3.cell? ⟨w.heap.size + 1, 1, none⟩ = some (.int .i64 0) := B_r.out.cell 1 rfl; have c2r : w3.cell? ⟨w.heap.size + 1, 2, none⟩ = some (.int .i64 0) := B_r.out.cell 2 rfl; have c3r : w3.cell? ⟨w.heap.size + 1, 3, none⟩ = some (.int .i64 0) := B_r.out.cell 3 rfl; have f0r : w3.frozen? ⟨w.heap.size + 1, 0, none⟩ = false := B_r.out.frozen 0; have f1r : w3.frozen? ⟨w.heap.size + 1, 1, none⟩ = false := B_r.out.frozen 1; have f2r : w3.frozen? ⟨w.heap.size + 1, 2, none⟩ = false := B_r.out.frozen 2; have f3r : w3.frozen? ⟨w.heap.size + 1, 3, none⟩ = false := B_r.out.frozen 3; have c0s : w3.cell? ⟨w.heap.size, 0, none⟩ = some (.int .i64 (-hi)) := B_s.out.cell 0 rfl; have c1s : w3.cell? ⟨w.heap.size, 1, none⟩ = some (.int .i64 (-x)) := B_s.out.cell 1 rfl; have c2s : w3.cell? ⟨w.heap.size, 2, none⟩ = some (.int .i64 o) := B_s.out.cell 2 rfl; have c3s : w3.cell? ⟨w.heap.size, 3, none⟩ = some (.int .i64 u) := B_s.out.cell 3 rfl; have tk1x1 : True := trivial))
  all_goals
    obtain ⟨s0, s1, s2, s3⟩ := cells4 (stor4 B_r (.int .i64 (-hi)) (.int .i64 (-x)) (.int .i64 o) (.int .i64 u))
    have HF := stb4 HB (y := w.heap.size + 1) (by omega) 0 (.int .i64 (-hi)) 1 (.int .i64 (-x)) 2 (.int .i64 o) 3 (.int .i64 u)
    obtain ⟨c0r, c1r, c2r, c3r⟩ := cells4 B_r
    obtain ⟨f0r, f1r, f2r, f3r⟩ := froz4 B_r
    go_wp2_with fail
    exact bodyPost_ret (v := .tuple #[.agg #[.int .i64 (-hi), .int .i64 (-x), .int .i64 o, .int .i64 u], .bool (!t)]) (by simp [results, Try.results64, go_sem, s0, s1, s2, s3]) rfl ⟨rfl, nextw HF.out (by exact sm)⟩

set_option maxRecDepth 100000 in
set_option maxHeartbeats 4000000 in
theorem cut_nft (i j o u x lo hi : Int) (b : Bd i j o u) (e : Be x lo hi) (hx : x < 0) (g1 : ¬ i * (-x) < (-hi) * j) (g2 : (-lo) * u < o * (-x)) (w : World) :
    Calls Try.prog 64 #[.agg #[.int .i64 i, .int .i64 j, .int .i64 o, .int .i64 u], .int .i64 x, .int .i64 lo, .int .i64 hi] w fun e w' => e = .returned (.tuple #[.agg #[.int .i64 i, .int .i64 j, .int .i64 (-lo), .int .i64 (-x)], .bool (!decide ((-lo) * j < i * (-x)))]) ∧ Below w.heap.size w w' := by
  obtain ⟨b1, b2, b3, b4, b5, b6, b7, b8⟩ := b
  obtain ⟨e1, e2, e3, e4, e5, e6⟩ := e
  have m0 := bnd (a := i) (b := (-x)) (by omega) (by omega) (by omega) (by omega)
  have m1 := bnd (a := (-hi)) (b := j) (by omega) (by omega) (by omega) (by omega)
  have m2 := bnd (a := (-lo)) (b := u) (by omega) (by omega) (by omega) (by omega)
  have m3 := bnd (a := o) (b := (-x)) (by omega) (by omega) (by omega) (by omega)
  have m4 := bnd (a := (-lo)) (b := j) (by omega) (by omega) (by omega) (by omega)
  have m5 := bnd (a := i) (b := (-x)) (by omega) (by omega) (by omega) (by omega)
  have H1 := Lib.hid (fun w => less_f (a := i) (b := j) (c := (-hi)) (d := (-x)) g1 m0 m1 w)
  have H2 := Lib.hid (fun w => less_t (a := (-lo)) (b := (-x)) (c := o) (d := u) g2 m2 m3 w)
  have H3 := Lib.hid (fun w => less_any (-lo) (-x) i j (by omega) (by omega) w)
  generalize decide ((-lo) * j < i * (-x)) = t at *
  clear m0 m1 m2 m3 m4 m5 g1 g2
  obtain ⟨HB, B_s, B_r⟩ := box2 w 61 #[.int .i64 i, .int .i64 j, .int .i64 o, .int .i64 u] 61 #[.int .i64 0, .int .i64 0, .int .i64 0, .int .i64 0]
  go_enter Try.func64, Try.ntmps64
  go_upto_region 1 with (fail)
  generalize (w.alloc (.cells #[.int .i64 i, .int .i64 j, .int .i64 o, .int .i64 u] 61)).alloc (.cells #[.int .i64 0, .int .i64 0, .int .i64 0, .int .i64 0] 61) = W0 at *
  have lt_fs := B_s.out.lt
  have lt_fr := B_r.out.lt
  obtain ⟨bb, B_f⟩ := box1 W0 32 #[.int .i64 (-hi), .int .i64 (-x)]
  replace bb := bb.out
  replace B_s := mv B_s bb
  replace B_r := mv B_r bb
  replace HB := nx HB bb
  clear bb
  go_upto_region 6 with (fail)
  generalize W0.alloc (.cells #[.int .i64 (-hi), .int .i64 (-x)] 32) = WF at *
  obtain ⟨c0s, c1s, c2s, c3s⟩ := cells4 B_s
  obtain ⟨c0f, c1f⟩ := cells2 B_f
  go_wp2_with fail
  refine (H1.out _).mono ?_
  clear c0s c1s c2s c3s c0f c1f
  rintro e w1 ⟨rfl, bb⟩
  replace bb := nextw (w0 := WF) (by exact sm) bb
  replace B_s := mv B_s bb
  replace B_r := mv B_r bb
  replace B_f := mv B_f bb
  replace HB := nx HB bb
  clear bb
  clear B_f
  have lt_ls := B_s.out.lt
  have lt_lr := B_r.out.lt
  obtain ⟨bb, B_l⟩ := box1 w1 32 #[.int .i64 (-lo), .int .i64 (-x)]
  replace bb := bb.out
  replace B_s := mv B_s bb
  replace B_r := mv B_r bb
  replace HB := nx HB bb
  clear bb
  go_upto_region 9 with (fail)
  generalize w1.alloc (.cells #[.int .i64 (-lo), .int .i64 (-x)] 32) = WL at *
  obtain ⟨c0s, c1s, c2s, c3s⟩ := cells4 B_s
  obtain ⟨c0l, c1l⟩ := cells2 B_l
  go_wp2_with fail
  refine (H2.out _).mono ?_
  clear c0s c1s c2s c3s c0l c1l
  rintro e w2 ⟨rfl, bb⟩
  replace bb := nextw (w0 := WL) (by exact sm) bb
  replace B_s := mv B_s bb
  replace B_r := mv B_r bb
  replace B_l := mv B_l bb
  replace HB := nx HB bb
  clear bb
  obtain ⟨c0l, c1l⟩ := cells2 B_l
  obtain ⟨f0l, f1l⟩ := froz2 B_l
  obtain ⟨c0s, c1s, c2s, c3s⟩ := cells4 B_s
  obtain ⟨f0s, f1s, f2s, f3s⟩ := froz4 B_s
  have ne_r : Hid ((w.heap.size + 1) ≠ (w.heap.size)) := by unfold Hid; omega
  have ne_l : Hid ((w1.heap.size) ≠ (w.heap.size)) := by unfold Hid; omega
  have n_s : Hid (Bx ((w2.setCell ⟨w.heap.size, 2, none⟩ (.int .i64 (-lo))).setCell ⟨w.heap.size, 3, none⟩ (.int .i64 (-x))) (w.heap.size) 61 #[.int .i64 i, .int .i64 j, .int .i64 (-lo), .int .i64 (-x)]) := ((B_s.out.set 2 (.int .i64 (-lo))).set 3 (.int .i64 (-x)))
  have n_r := far2 B_r ne_r.out 2 (.int .i64 (-lo)) 3 (.int .i64 (-x))
  have n_l := far2 B_l ne_l.out 2 (.int .i64 (-lo)) 3 (.int .i64 (-x))
  have nHB := stb2 HB (y := w.heap.size) (by omega) 2 (.int .i64 (-lo)) 3 (.int .i64 (-x))
  go_upto_region 11 with (fail)
  clear c0l c1l f0l f1l c0s c1s c2s c3s f0s f1s f2s f3s
  clear ne_r ne_l
  generalize (w2.setCell ⟨w.heap.size, 2, none⟩ (.int .i64 (-lo))).setCell ⟨w.heap.size, 3, none⟩ (.int .i64 (-x)) = WT at *
  clear B_s
  have B_s := n_s
  clear n_s
  clear B_r
  have B_r := n_r
  clear n_r
  clear B_l
  have B_l := n_l
  clear n_l
  clear HB
  have HB := nHB
  clear nHB
  clear B_l
  obtain ⟨c0s, c1s, c2s, c3s⟩ := cells4 B_s
  have tk1x0 : True := trivial
  go_region_held3 (fun w' => w'.cell? ⟨w.heap.size, 0, none⟩ = some (.int .i64 i) ∧ w'.cell? ⟨w.heap.size, 1, none⟩ = some (.int .i64 j) ∧ w'.cell? ⟨w.heap.size, 2, none⟩ = some (.int .i64 (-lo)) ∧ w'.cell? ⟨w.heap.size, 3, none⟩ = some (.int .i64 (-x))) (((try dsimp only); (repeat' apply And.intro) <;> (first | (with_reducible assumption) | ((repeat (first | (with_reducible refine Eq.trans (cell_drew1 _ _) ?_) | (with_reducible refine Eq.trans (cell_far (by omega) _ _ _) ?_) | (with_reducible refine Eq.trans (World.cell?_alloc_lt _ _ _ (by first | (dsimp only; omega) | (simp only [World.size_alloc, World.size_setCell]; omega))) ?_))); with_reducible assumption) | assumption | go_keep)))
    (first
      | (clear tk1x0; go_at_call 41; refine (H3.out _).mono ?_; rintro e w3 ⟨rfl, bb⟩; replace bb := nextw (w0 := WT) (by exact sm) bb; replace B_s := mv B_s bb; replace B_r := mv B_r bb; replace HB := nx HB bb; clear bb c0s c1s c2s c3s; have c0r : w3.cell? ⟨w.heap.size + 1, 0, none⟩ = some (.int .i64 0) := B_r.out.cell 0 rfl; have c1r : w3.cell? ⟨w.heap.size + 1, 1, none⟩ = some (.int .i64 0) := B_r.out.cell 1 rfl; have c2r : w3.cell? ⟨w.heap.size + 1, 2, none⟩ = some (.int .i64 0) := B_r.out.cell 2 rfl; have c3r : w3.cell? ⟨w.heap.size + 1, 3, none⟩ = some (.int .i64 0) := B_r.out.cell 3 rfl; have f0r : w3.frozen? ⟨w.heap.size + 1, 0, none⟩ = false := B_r.out.frozen 0; have f1r : w3.frozen? ⟨w.heap.size + 1, 1, none⟩ = false := B_r.out.frozen 1; have f2r : w3.frozen? ⟨w.heap.size + 1, 2, none⟩ = false := B_r.out.frozen 2; have f3r : w3.frozen? ⟨w.heap.size + 1, 3, none⟩ = false := B_r.out.frozen 3; have c0s : w3.cell? ⟨w.heap.size, 0, none⟩ = some (.int .i64 i) := B_s.out.cell 0 rfl; have c1s : w3.cell? ⟨w.heap.size, 1, none⟩ = some (.int .i64 j) := B_s.out.cell 1 rfl; have c2s : w3.cell? ⟨w.heap.size, 2, none⟩ = some (.int .i64 (-lo)) := B_s.out.cell 2 rfl; have c3s : w3.cell? ⟨w.heap.size, 3, none⟩ = some (.int .i64 (-x)) := B_s.out.cell 3 rfl; have tk1x1 : True := trivial))
  all_goals
    obtain ⟨s0, s1, s2, s3⟩ := cells4 (stor4 B_r (.int .i64 i) (.int .i64 j) (.int .i64 (-lo)) (.int .i64 (-x)))
    have HF := stb4 HB (y := w.heap.size + 1) (by omega) 0 (.int .i64 i) 1 (.int .i64 j) 2 (.int .i64 (-lo)) 3 (.int .i64 (-x))
    obtain ⟨c0r, c1r, c2r, c3r⟩ := cells4 B_r
    obtain ⟨f0r, f1r, f2r, f3r⟩ := froz4 B_r
    go_wp2_with fail
    exact bodyPost_ret (v := .tuple #[.agg #[.int .i64 i, .int .i64 j, .int .i64 (-lo), .int .i64 (-x)], .bool (!t)]) (by simp [results, Try.results64, go_sem, s0, s1, s2, s3]) rfl ⟨rfl, nextw HF.out (by exact sm)⟩

set_option maxRecDepth 100000 in
set_option maxHeartbeats 4000000 in
theorem cut_nff (i j o u x lo hi : Int) (b : Bd i j o u) (e : Be x lo hi) (hx : x < 0) (g1 : ¬ i * (-x) < (-hi) * j) (g2 : ¬ (-lo) * u < o * (-x)) (w : World) :
    Calls Try.prog 64 #[.agg #[.int .i64 i, .int .i64 j, .int .i64 o, .int .i64 u], .int .i64 x, .int .i64 lo, .int .i64 hi] w fun e w' => e = .returned (.tuple #[.agg #[.int .i64 i, .int .i64 j, .int .i64 o, .int .i64 u], .bool (!decide (o * j < i * u))]) ∧ Below w.heap.size w w' := by
  obtain ⟨b1, b2, b3, b4, b5, b6, b7, b8⟩ := b
  obtain ⟨e1, e2, e3, e4, e5, e6⟩ := e
  have m0 := bnd (a := i) (b := (-x)) (by omega) (by omega) (by omega) (by omega)
  have m1 := bnd (a := (-hi)) (b := j) (by omega) (by omega) (by omega) (by omega)
  have m2 := bnd (a := (-lo)) (b := u) (by omega) (by omega) (by omega) (by omega)
  have m3 := bnd (a := o) (b := (-x)) (by omega) (by omega) (by omega) (by omega)
  have m4 := bnd (a := o) (b := j) (by omega) (by omega) (by omega) (by omega)
  have m5 := bnd (a := i) (b := u) (by omega) (by omega) (by omega) (by omega)
  have H1 := Lib.hid (fun w => less_f (a := i) (b := j) (c := (-hi)) (d := (-x)) g1 m0 m1 w)
  have H2 := Lib.hid (fun w => less_f (a := (-lo)) (b := (-x)) (c := o) (d := u) g2 m2 m3 w)
  have H3 := Lib.hid (fun w => less_any o u i j (by omega) (by omega) w)
  generalize decide (o * j < i * u) = t at *
  clear m0 m1 m2 m3 m4 m5 g1 g2
  obtain ⟨HB, B_s, B_r⟩ := box2 w 61 #[.int .i64 i, .int .i64 j, .int .i64 o, .int .i64 u] 61 #[.int .i64 0, .int .i64 0, .int .i64 0, .int .i64 0]
  go_enter Try.func64, Try.ntmps64
  go_upto_region 1 with (fail)
  generalize (w.alloc (.cells #[.int .i64 i, .int .i64 j, .int .i64 o, .int .i64 u] 61)).alloc (.cells #[.int .i64 0, .int .i64 0, .int .i64 0, .int .i64 0] 61) = W0 at *
  have lt_fs := B_s.out.lt
  have lt_fr := B_r.out.lt
  obtain ⟨bb, B_f⟩ := box1 W0 32 #[.int .i64 (-hi), .int .i64 (-x)]
  replace bb := bb.out
  replace B_s := mv B_s bb
  replace B_r := mv B_r bb
  replace HB := nx HB bb
  clear bb
  go_upto_region 6 with (fail)
  generalize W0.alloc (.cells #[.int .i64 (-hi), .int .i64 (-x)] 32) = WF at *
  obtain ⟨c0s, c1s, c2s, c3s⟩ := cells4 B_s
  obtain ⟨c0f, c1f⟩ := cells2 B_f
  go_wp2_with fail
  refine (H1.out _).mono ?_
  clear c0s c1s c2s c3s c0f c1f
  rintro e w1 ⟨rfl, bb⟩
  replace bb := nextw (w0 := WF) (by exact sm) bb
  replace B_s := mv B_s bb
  replace B_r := mv B_r bb
  replace B_f := mv B_f bb
  replace HB := nx HB bb
  clear bb
  clear B_f
  have lt_ls := B_s.out.lt
  have lt_lr := B_r.out.lt
  obtain ⟨bb, B_l⟩ := box1 w1 32 #[.int .i64 (-lo), .int .i64 (-x)]
  replace bb := bb.out
  replace B_s := mv B_s bb
  replace B_r := mv B_r bb
  replace HB := nx HB bb
  clear bb
  go_upto_region 9 with (fail)
  generalize w1.alloc (.cells #[.int .i64 (-lo), .int .i64 (-x)] 32) = WL at *
  obtain ⟨c0s, c1s, c2s, c3s⟩ := cells4 B_s
  obtain ⟨c0l, c1l⟩ := cells2 B_l
  go_wp2_with fail
  refine (H2.out _).mono ?_
  clear c0s c1s c2s c3s c0l c1l
  rintro e w2 ⟨rfl, bb⟩
  replace bb := nextw (w0 := WL) (by exact sm) bb
  replace B_s := mv B_s bb
  replace B_r := mv B_r bb
  replace B_l := mv B_l bb
  replace HB := nx HB bb
  clear bb
  go_upto_region 11 with (fail)
  clear B_l
  obtain ⟨c0s, c1s, c2s, c3s⟩ := cells4 B_s
  have tk1x0 : True := trivial
  go_region_held3 (fun w' => w'.cell? ⟨w.heap.size, 0, none⟩ = some (.int .i64 i) ∧ w'.cell? ⟨w.heap.size, 1, none⟩ = some (.int .i64 j) ∧ w'.cell? ⟨w.heap.size, 2, none⟩ = some (.int .i64 o) ∧ w'.cell? ⟨w.heap.size, 3, none⟩ = some (.int .i64 u)) (((try dsimp only); (repeat' apply And.intro) <;> (first | (with_reducible assumption) | ((repeat (first | (with_reducible refine Eq.trans (cell_drew1 _ _) ?_) | (with_reducible refine Eq.trans (cell_far (by omega) _ _ _) ?_) | (with_reducible refine Eq.trans (World.cell?_alloc_lt _ _ _ (by first | (dsimp only; omega) | (simp only [World.size_alloc, World.size_setCell]; omega))) ?_))); with_reducible assumption) | assumption | go_keep)))
    (first
      | (clear tk1x0; go_at_call 41; refine (H3.out _).mono ?_; rintro e w3 ⟨rfl, bb⟩; replace bb := nextw (w0 := w2) (by exact sm) bb; replace B_s := mv B_s bb; replace B_r := mv B_r bb; replace HB := nx HB bb; clear bb c0s c1s c2s c3s; have c0r : w3.cell? ⟨w.heap.size + 1, 0, none⟩ = some (.int .i64 0) := B_r.out.cell 0 rfl; have c1r : w3.cell? ⟨w.heap.size + 1, 1, none⟩ = some (.int .i64 0) := B_r.out.cell 1 rfl; have c2r : w3.cell? ⟨w.heap.size + 1, 2, none⟩ = some (.int .i64 0) := B_r.out.cell 2 rfl; have c3r : w3.cell? ⟨w.heap.size + 1, 3, none⟩ = some (.int .i64 0) := B_r.out.cell 3 rfl; have f0r : w3.frozen? ⟨w.heap.size + 1, 0, none⟩ = false := B_r.out.frozen 0; have f1r : w3.frozen? ⟨w.heap.size + 1, 1, none⟩ = false := B_r.out.frozen 1; have f2r : w3.frozen? ⟨w.heap.size + 1, 2, none⟩ = false := B_r.out.frozen 2; have f3r : w3.frozen? ⟨w.heap.size + 1, 3, none⟩ = false := B_r.out.frozen 3; have c0s : w3.cell? ⟨w.heap.size, 0, none⟩ = some (.int .i64 i) := B_s.out.cell 0 rfl; have c1s : w3.cell? ⟨w.heap.size, 1, none⟩ = some (.int .i64 j) := B_s.out.cell 1 rfl; have c2s : w3.cell? ⟨w.heap.size, 2, none⟩ = some (.int .i64 o) := B_s.out.cell 2 rfl; have c3s : w3.cell? ⟨w.heap.size, 3, none⟩ = some (.int .i64 u) := B_s.out.cell 3 rfl; have tk1x1 : True := trivial))
  all_goals
    obtain ⟨s0, s1, s2, s3⟩ := cells4 (stor4 B_r (.int .i64 i) (.int .i64 j) (.int .i64 o) (.int .i64 u))
    have HF := stb4 HB (y := w.heap.size + 1) (by omega) 0 (.int .i64 i) 1 (.int .i64 j) 2 (.int .i64 o) 3 (.int .i64 u)
    obtain ⟨c0r, c1r, c2r, c3r⟩ := cells4 B_r
    obtain ⟨f0r, f1r, f2r, f3r⟩ := froz4 B_r
    go_wp2_with fail
    exact bodyPost_ret (v := .tuple #[.agg #[.int .i64 i, .int .i64 j, .int .i64 o, .int .i64 u], .bool (!t)]) (by simp [results, Try.results64, go_sem, s0, s1, s2, s3]) rfl ⟨rfl, nextw HF.out (by exact sm)⟩
end Go.Proofs.Ytaflgmiagjldhaa
