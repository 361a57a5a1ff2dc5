/- The laws SegmentPoints, SegmentMoves. -/
import Derived.Test.YtaflgmiagjldhaaSLaw
set_option linter.unusedVariables false
set_option linter.unusedSimpArgs false
namespace Go.Proofs.Ytaflgmiagjldhaa
open Go Go.RowKit Hd

set_option maxRecDepth 100000 in
set_option maxHeartbeats 4000000 in
theorem Points_b0 (a b x y d x0 y0 x1 y1 lo hi : Int) (h0 : ¬ OkC a) (w : World) :
    Calls Try.prog 8 #[.agg #[.int .i64 a, .int .i64 b, .int .i64 x, .int .i64 y, .int .i64 d], .agg #[.int .i64 x0, .int .i64 y0, .int .i64 x1, .int .i64 y1], .agg #[.int .i64 lo, .int .i64 hi]] w fun e w' => e = .returned (.bool true) ∧ Below w.heap.size w w' := by
  have HA := Lib.hid (fun w => awake_any w)
  have H0 := Lib.hid (fun w => SizeL_f h0 w)
  clear h0
  obtain ⟨HB, B_y, B_r, B_t⟩ := box3 w 27 #[.int .i64 a, .int .i64 b, .int .i64 x, .int .i64 y, .int .i64 d] 29 #[.int .i64 x0, .int .i64 y0, .int .i64 x1, .int .i64 y1] 37 #[.int .i64 lo, .int .i64 hi]
  go_enter Try.func8, Try.ntmps8
  go_wp2_with fail
  generalize ((w.alloc (.cells #[.int .i64 a, .int .i64 b, .int .i64 x, .int .i64 y, .int .i64 d] 27)).alloc (.cells #[.int .i64 x0, .int .i64 y0, .int .i64 x1, .int .i64 y1] 29)).alloc (.cells #[.int .i64 lo, .int .i64 hi] 37) = W0 at *
  refine (HA.out _).mono ?_
  rintro e w1 ⟨rfl, bb⟩
  replace bb := nextw (w0 := W0) (by exact sm) bb
  replace B_y := mv B_y bb
  replace B_r := mv B_r bb
  replace B_t := mv B_t bb
  replace HB := nx HB bb
  clear bb
  obtain ⟨c0y, c1y, c2y, c3y, c4y⟩ := cells5 B_y
  go_wp2_with fail
  refine (H0.out _).mono ?_
  rintro e w2 ⟨rfl, rfl⟩
  clear c0y c1y c2y c3y c4y
  go_wp2_with fail
  refine (HA.out _).mono ?_
  rintro e w3 ⟨rfl, bb⟩
  replace bb := nextw (w0 := w1) (by exact sm) bb
  replace B_y := mv B_y bb
  replace B_r := mv B_r bb
  replace B_t := mv B_t bb
  replace HB := nx HB bb
  clear bb
  go_wp2
  go_ret
  exact ⟨rfl, nextw HB.out (by exact sm)⟩

set_option maxRecDepth 100000 in
set_option maxHeartbeats 4000000 in
theorem Points_b1 (a b x y d x0 y0 x1 y1 lo hi : Int) (h0 : OkC a) (h1 : ¬ OkC b) (w : World) :
    Calls Try.prog 8 #[.agg #[.int .i64 a, .int .i64 b, .int .i64 x, .int .i64 y, .int .i64 d], .agg #[.int .i64 x0, .int .i64 y0, .int .i64 x1, .int .i64 y1], .agg #[.int .i64 lo, .int .i64 hi]] w fun e w' => e = .returned (.bool true) ∧ Below w.heap.size w w' := by
  have HA := Lib.hid (fun w => awake_any w)
  have H0 := Lib.hid (fun w => SizeL_t h0 w)
  have H1 := Lib.hid (fun w => SizeL_f h1 w)
  clear h0 h1
  obtain ⟨HB, B_y, B_r, B_t⟩ := box3 w 27 #[.int .i64 a, .int .i64 b, .int .i64 x, .int .i64 y, .int .i64 d] 29 #[.int .i64 x0, .int .i64 y0, .int .i64 x1, .int .i64 y1] 37 #[.int .i64 lo, .int .i64 hi]
  go_enter Try.func8, Try.ntmps8
  go_wp2_with fail
  generalize ((w.alloc (.cells #[.int .i64 a, .int .i64 b, .int .i64 x, .int .i64 y, .int .i64 d] 27)).alloc (.cells #[.int .i64 x0, .int .i64 y0, .int .i64 x1, .int .i64 y1] 29)).alloc (.cells #[.int .i64 lo, .int .i64 hi] 37) = W0 at *
  refine (HA.out _).mono ?_
  rintro e w1 ⟨rfl, bb⟩
  replace bb := nextw (w0 := W0) (by exact sm) bb
  replace B_y := mv B_y bb
  replace B_r := mv B_r bb
  replace B_t := mv B_t bb
  replace HB := nx HB bb
  clear bb
  obtain ⟨c0y, c1y, c2y, c3y, c4y⟩ := cells5 B_y
  go_wp2_with fail
  refine (H0.out _).mono ?_
  rintro e w2 ⟨rfl, rfl⟩
  clear c0y c1y c2y c3y c4y
  obtain ⟨c0y, c1y, c2y, c3y, c4y⟩ := cells5 B_y
  go_wp2_with fail
  refine (H1.out _).mono ?_
  rintro e w3 ⟨rfl, rfl⟩
  clear c0y c1y c2y c3y c4y
  go_wp2_with fail
  refine (HA.out _).mono ?_
  rintro e w4 ⟨rfl, bb⟩
  replace bb := nextw (w0 := w1) (by exact sm) bb
  replace B_y := mv B_y bb
  replace B_r := mv B_r bb
  replace B_t := mv B_t bb
  replace HB := nx HB bb
  clear bb
  go_wp2
  go_ret
  exact ⟨rfl, nextw HB.out (by exact sm)⟩

set_option maxRecDepth 100000 in
set_option maxHeartbeats 8000000 in
theorem Points_q (a b x y d x0 y0 x1 y1 lo hi : Int) (h0 : OkC a) (h1 : OkC b) (hq : ¬ OkR x0 y0 x1 y1) (w : World) :
    Calls Try.prog 8 #[.agg #[.int .i64 a, .int .i64 b, .int .i64 x, .int .i64 y, .int .i64 d], .agg #[.int .i64 x0, .int .i64 y0, .int .i64 x1, .int .i64 y1], .agg #[.int .i64 lo, .int .i64 hi]] w fun e w' => e = .returned (.bool true) ∧ Below w.heap.size w w' := by
  have HA := Lib.hid (fun w => awake_any w)
  have H0 := Lib.hid (fun w => SizeL_t h0 w)
  have H1 := Lib.hid (fun w => SizeL_t h1 w)
  have hp : OkP a b := ⟨h0.1, h0.2, h1.1, h1.2⟩
  have hr : OkR a b a b := ⟨h0.1, h0.2, h1.1, h1.2, h0.1, h0.2, h1.1, h1.2, Int.le_refl _, Int.le_refl _⟩
  have HM := Lib.hid (fun w => Minus_0 x0 y0 x1 y1 a b a b hq w)
  clear hq hp hr h0 h1
  obtain ⟨HB, B_y, B_r, B_t⟩ := box3 w 27 #[.int .i64 a, .int .i64 b, .int .i64 x, .int .i64 y, .int .i64 d] 29 #[.int .i64 x0, .int .i64 y0, .int .i64 x1, .int .i64 y1] 37 #[.int .i64 lo, .int .i64 hi]
  go_enter Try.func8, Try.ntmps8
  go_wp2_with fail
  generalize ((w.alloc (.cells #[.int .i64 a, .int .i64 b, .int .i64 x, .int .i64 y, .int .i64 d] 27)).alloc (.cells #[.int .i64 x0, .int .i64 y0, .int .i64 x1, .int .i64 y1] 29)).alloc (.cells #[.int .i64 lo, .int .i64 hi] 37) = W0 at *
  refine (HA.out _).mono ?_
  rintro e w1 ⟨rfl, bb⟩
  replace bb := nextw (w0 := W0) (by exact sm) bb
  replace B_y := mv B_y bb
  replace B_r := mv B_r bb
  replace B_t := mv B_t bb
  replace HB := nx HB bb
  clear bb
  obtain ⟨c0y, c1y, c2y, c3y, c4y⟩ := cells5 B_y
  go_wp2_with fail
  refine (H0.out _).mono ?_
  rintro e w2 ⟨rfl, rfl⟩
  clear c0y c1y c2y c3y c4y
  obtain ⟨c0y, c1y, c2y, c3y, c4y⟩ := cells5 B_y
  go_wp2_with fail
  refine (H1.out _).mono ?_
  rintro e w3 ⟨rfl, rfl⟩
  clear c0y c1y c2y c3y c4y
  go_upto_region 3 with (fail)
  obtain ⟨c0y, c1y, c2y, c3y, c4y⟩ := cells5 B_y
  obtain ⟨c0r, c1r, c2r, c3r⟩ := cells4 B_r
  go_wp2_with fail
  refine (HM.out _).mono ?_
  clear c0y c1y c2y c3y c4y c0r c1r c2r c3r
  rintro e w4 ⟨rfl, bb⟩
  replace bb := nextw (w0 := w1) (by exact sm) bb
  replace B_y := mv B_y bb
  replace B_r := mv B_r bb
  replace B_t := mv B_t bb
  replace HB := nx HB bb
  clear bb
  have lt_my := B_y.out.lt
  have lt_mr := B_r.out.lt
  have lt_mt := B_t.out.lt
  obtain ⟨bb, B_m⟩ := box1 w4 29 #[.int .i64 0, .int .i64 0, .int .i64 0, .int .i64 0]
  replace bb := bb.out
  replace B_y := mv B_y bb
  replace B_r := mv B_r bb
  replace B_t := mv B_t bb
  replace HB := nx HB bb
  clear bb
  go_upto_region 4 with (fail)
  generalize w4.alloc (.cells #[.int .i64 0, .int .i64 0, .int .i64 0, .int .i64 0] 29) = WM at *
  go_wp2
  go_ret
  exact ⟨rfl, nextw HB.out (by exact sm)⟩

set_option maxRecDepth 100000 in
set_option maxHeartbeats 8000000 in
theorem Points_m (a b x y d x0 y0 x1 y1 lo hi : Int) (h0 : OkC a) (h1 : OkC b) (hq : OkR x0 y0 x1 y1) (hm : ¬ OkR (x0 - a) (y0 - b) (x1 - a) (y1 - b)) (w : World) :
    Calls Try.prog 8 #[.agg #[.int .i64 a, .int .i64 b, .int .i64 x, .int .i64 y, .int .i64 d], .agg #[.int .i64 x0, .int .i64 y0, .int .i64 x1, .int .i64 y1], .agg #[.int .i64 lo, .int .i64 hi]] w fun e w' => e = .returned (.bool true) ∧ Below w.heap.size w w' := by
  have HA := Lib.hid (fun w => awake_any w)
  have H0 := Lib.hid (fun w => SizeL_t h0 w)
  have H1 := Lib.hid (fun w => SizeL_t h1 w)
  have hp : OkP a b := ⟨h0.1, h0.2, h1.1, h1.2⟩
  have hr : OkR a b a b := ⟨h0.1, h0.2, h1.1, h1.2, h0.1, h0.2, h1.1, h1.2, Int.le_refl _, Int.le_refl _⟩
  have HM := Lib.hid (fun w => Minus_2 x0 y0 x1 y1 a b a b hq hr hm w)
  clear hq hm hp hr h0 h1
  obtain ⟨HB, B_y, B_r, B_t⟩ := box3 w 27 #[.int .i64 a, .int .i64 b, .int .i64 x, .int .i64 y, .int .i64 d] 29 #[.int .i64 x0, .int .i64 y0, .int .i64 x1, .int .i64 y1] 37 #[.int .i64 lo, .int .i64 hi]
  go_enter Try.func8, Try.ntmps8
  go_wp2_with fail
  generalize ((w.alloc (.cells #[.int .i64 a, .int .i64 b, .int .i64 x, .int .i64 y, .int .i64 d] 27)).alloc (.cells #[.int .i64 x0, .int .i64 y0, .int .i64 x1, .int .i64 y1] 29)).alloc (.cells #[.int .i64 lo, .int .i64 hi] 37) = W0 at *
  refine (HA.out _).mono ?_
  rintro e w1 ⟨rfl, bb⟩
  replace bb := nextw (w0 := W0) (by exact sm) bb
  replace B_y := mv B_y bb
  replace B_r := mv B_r bb
  replace B_t := mv B_t bb
  replace HB := nx HB bb
  clear bb
  obtain ⟨c0y, c1y, c2y, c3y, c4y⟩ := cells5 B_y
  go_wp2_with fail
  refine (H0.out _).mono ?_
  rintro e w2 ⟨rfl, rfl⟩
  clear c0y c1y c2y c3y c4y
  obtain ⟨c0y, c1y, c2y, c3y, c4y⟩ := cells5 B_y
  go_wp2_with fail
  refine (H1.out _).mono ?_
  rintro e w3 ⟨rfl, rfl⟩
  clear c0y c1y c2y c3y c4y
  go_upto_region 3 with (fail)
  obtain ⟨c0y, c1y, c2y, c3y, c4y⟩ := cells5 B_y
  obtain ⟨c0r, c1r, c2r, c3r⟩ := cells4 B_r
  go_wp2_with fail
  refine (HM.out _).mono ?_
  clear c0y c1y c2y c3y c4y c0r c1r c2r c3r
  rintro e w4 ⟨rfl, bb⟩
  replace bb := nextw (w0 := w1) (by exact sm) bb
  replace B_y := mv B_y bb
  replace B_r := mv B_r bb
  replace B_t := mv B_t bb
  replace HB := nx HB bb
  clear bb
  have lt_my := B_y.out.lt
  have lt_mr := B_r.out.lt
  have lt_mt := B_t.out.lt
  obtain ⟨bb, B_m⟩ := box1 w4 29 #[.int .i64 0, .int .i64 0, .int .i64 0, .int .i64 0]
  replace bb := bb.out
  replace B_y := mv B_y bb
  replace B_r := mv B_r bb
  replace B_t := mv B_t bb
  replace HB := nx HB bb
  clear bb
  go_upto_region 4 with (fail)
  generalize w4.alloc (.cells #[.int .i64 0, .int .i64 0, .int .i64 0, .int .i64 0] 29) = WM at *
  go_wp2
  go_ret
  exact ⟨rfl, nextw HB.out (by exact sm)⟩

set_option maxRecDepth 100000 in
set_option maxHeartbeats 8000000 in
theorem Points_ok (a b x y d x0 y0 x1 y1 lo hi : Int) (h0 : OkC a) (h1 : OkC b) (hq : OkR x0 y0 x1 y1) (hm : OkR (x0 - a) (y0 - b) (x1 - a) (y1 - b)) (w : World) :
    Calls Try.prog 8 #[.agg #[.int .i64 a, .int .i64 b, .int .i64 x, .int .i64 y, .int .i64 d], .agg #[.int .i64 x0, .int .i64 y0, .int .i64 x1, .int .i64 y1], .agg #[.int .i64 lo, .int .i64 hi]] w fun e w' => e = .returned (.bool true) ∧ Below w.heap.size w w' := by
  have HA := Lib.hid (fun w => awake_any w)
  have H0 := Lib.hid (fun w => SizeL_t h0 w)
  have H1 := Lib.hid (fun w => SizeL_t h1 w)
  have hp : OkP a b := ⟨h0.1, h0.2, h1.1, h1.2⟩
  have hr : OkR a b a b := ⟨h0.1, h0.2, h1.1, h1.2, h0.1, h0.2, h1.1, h1.2, Int.le_refl _, Int.le_refl _⟩
  have HM := Lib.hid (fun w => Minus_ok x0 y0 x1 y1 a b a b hq hr hm w)
  have H2 := Lib.hid (fun w => Meets_any a b x y d lo hi x0 y0 x1 y1 w)
  have H3 := Lib.hid (fun w => Meets_any 0 0 x y d lo hi (x0 - a) (y0 - b) (x1 - a) (y1 - b) w)
  have H4 := Lib.hid (fun w => Before_any a b x y d hi x0 y0 x1 y1 w)
  have H5 := Lib.hid (fun w => Before_any 0 0 x y d hi (x0 - a) (y0 - b) (x1 - a) (y1 - b) w)
  obtain ⟨e1, e2⟩ := me_point (x := x) (y := y) (d := d) (lo := lo) (hi := hi) hp hq hm
  rw [e1] at H3
  rw [e2] at H5
  clear e1 e2 hq hm hp hr h0 h1
  generalize meB a b x y d lo hi x0 y0 x1 y1 = s at *
  generalize beB a b x y d hi x0 y0 x1 y1 = t at *
  generalize x0 - a = m0 at *
  generalize y0 - b = m1 at *
  generalize x1 - a = m2 at *
  generalize y1 - b = m3 at *
  obtain ⟨HB, B_y, B_r, B_t⟩ := box3 w 27 #[.int .i64 a, .int .i64 b, .int .i64 x, .int .i64 y, .int .i64 d] 29 #[.int .i64 x0, .int .i64 y0, .int .i64 x1, .int .i64 y1] 37 #[.int .i64 lo, .int .i64 hi]
  go_enter Try.func8, Try.ntmps8
  go_wp2_with fail
  generalize ((w.alloc (.cells #[.int .i64 a, .int .i64 b, .int .i64 x, .int .i64 y, .int .i64 d] 27)).alloc (.cells #[.int .i64 x0, .int .i64 y0, .int .i64 x1, .int .i64 y1] 29)).alloc (.cells #[.int .i64 lo, .int .i64 hi] 37) = W0 at *
  refine (HA.out _).mono ?_
  rintro e w1 ⟨rfl, bb⟩
  replace bb := nextw (w0 := W0) (by exact sm) bb
  replace B_y := mv B_y bb
  replace B_r := mv B_r bb
  replace B_t := mv B_t bb
  replace HB := nx HB bb
  clear bb
  obtain ⟨c0y, c1y, c2y, c3y, c4y⟩ := cells5 B_y
  go_wp2_with fail
  refine (H0.out _).mono ?_
  rintro e w2 ⟨rfl, rfl⟩
  clear c0y c1y c2y c3y c4y
  obtain ⟨c0y, c1y, c2y, c3y, c4y⟩ := cells5 B_y
  go_wp2_with fail
  refine (H1.out _).mono ?_
  rintro e w3 ⟨rfl, rfl⟩
  clear c0y c1y c2y c3y c4y
  go_upto_region 3 with (fail)
  obtain ⟨c0y, c1y, c2y, c3y, c4y⟩ := cells5 B_y
  obtain ⟨c0r, c1r, c2r, c3r⟩ := cells4 B_r
  go_wp2_with fail
  refine (HM.out _).mono ?_
  clear c0y c1y c2y c3y c4y c0r c1r c2r c3r
  rintro e w4 ⟨rfl, bb⟩
  replace bb := nextw (w0 := w1) (by exact sm) bb
  replace B_y := mv B_y bb
  replace B_r := mv B_r bb
  replace B_t := mv B_t bb
  replace HB := nx HB bb
  clear bb
  have lt_my := B_y.out.lt
  have lt_mr := B_r.out.lt
  have lt_mt := B_t.out.lt
  obtain ⟨bb, B_m⟩ := box1 w4 29 #[.int .i64 m0, .int .i64 m1, .int .i64 m2, .int .i64 m3]
  replace bb := bb.out
  replace B_y := mv B_y bb
  replace B_r := mv B_r bb
  replace B_t := mv B_t bb
  replace HB := nx HB bb
  clear bb
  go_upto_region 4 with (fail)
  generalize w4.alloc (.cells #[.int .i64 m0, .int .i64 m1, .int .i64 m2, .int .i64 m3] 29) = WM at *
  go_upto_region 6 with (fail)
  clear HA H0 H1 HM
  obtain ⟨c0y, c1y, c2y, c3y, c4y⟩ := cells5 B_y
  obtain ⟨c0r, c1r, c2r, c3r⟩ := cells4 B_r
  obtain ⟨c0t, c1t⟩ := cells2 B_t
  obtain ⟨c0m, c1m, c2m, c3m⟩ := cells4 B_m
  have tk1x0 : True := trivial
  go_region_held3 (fun w' => w'.cell? ⟨w.heap.size, 0, none⟩ = some (.int .i64 a) ∧ w'.cell? ⟨w.heap.size, 1, none⟩ = some (.int .i64 b) ∧ w'.cell? ⟨w.heap.size, 2, none⟩ = some (.int .i64 x) ∧ w'.cell? ⟨w.heap.size, 3, none⟩ = some (.int .i64 y) ∧ w'.cell? ⟨w.heap.size, 4, none⟩ = some (.int .i64 d) ∧ w'.cell? ⟨w.heap.size + 1, 0, none⟩ = some (.int .i64 x0) ∧ w'.cell? ⟨w.heap.size + 1, 1, none⟩ = some (.int .i64 y0) ∧ w'.cell? ⟨w.heap.size + 1, 2, none⟩ = some (.int .i64 x1) ∧ w'.cell? ⟨w.heap.size + 1, 3, none⟩ = some (.int .i64 y1) ∧ w'.cell? ⟨w.heap.size + 1 + 1, 0, none⟩ = some (.int .i64 lo) ∧ w'.cell? ⟨w.heap.size + 1 + 1, 1, none⟩ = some (.int .i64 hi) ∧ w'.cell? ⟨w4.heap.size, 0, none⟩ = some (.int .i64 m0) ∧ w'.cell? ⟨w4.heap.size, 1, none⟩ = some (.int .i64 m1) ∧ w'.cell? ⟨w4.heap.size, 2, none⟩ = some (.int .i64 m2) ∧ w'.cell? ⟨w4.heap.size, 3, none⟩ = some (.int .i64 m3)) (((try dsimp only); (repeat' apply And.intro) <;> (first | (with_reducible assumption) | ((repeat (first | (with_reducible refine Eq.trans (cell_drew1 _ _) ?_) | (with_reducible refine Eq.trans (cell_far (by omega) _ _ _) ?_) | (with_reducible refine Eq.trans (World.cell?_alloc_lt _ _ _ (by first | (dsimp only; omega) | (simp only [World.size_alloc, World.size_setCell]; omega))) ?_))); with_reducible assumption) | assumption | go_keep)))
    (first
      | (clear tk1x0; go_at_call 19; refine (H2.out _).mono ?_; rintro e w5 ⟨rfl, bb⟩; replace bb := nextw (w0 := WM) (by exact sm) bb; replace B_y := mv B_y bb; replace B_r := mv B_r bb; replace B_t := mv B_t bb; replace B_m := mv B_m bb; replace HB := nx HB bb; clear bb c0y c1y c2y c3y c4y c0r c1r c2r c3r c0t c1t c0m c1m c2m c3m; have c0y : w5.cell? ⟨w.heap.size, 0, none⟩ = some (.int .i64 a) := B_y.out.cell 0 rfl; have c1y : w5.cell? ⟨w.heap.size, 1, none⟩ = some (.int .i64 b) := B_y.out.cell 1 rfl; have c2y : w5.cell? ⟨w.heap.size, 2, none⟩ = some (.int .i64 x) := B_y.out.cell 2 rfl; have c3y : w5.cell? ⟨w.heap.size, 3, none⟩ = some (.int .i64 y) := B_y.out.cell 3 rfl; have c4y : w5.cell? ⟨w.heap.size, 4, none⟩ = some (.int .i64 d) := B_y.out.cell 4 rfl; have c0r : w5.cell? ⟨w.heap.size + 1, 0, none⟩ = some (.int .i64 x0) := B_r.out.cell 0 rfl; have c1r : w5.cell? ⟨w.heap.size + 1, 1, none⟩ = some (.int .i64 y0) := B_r.out.cell 1 rfl; have c2r : w5.cell? ⟨w.heap.size + 1, 2, none⟩ = some (.int .i64 x1) := B_r.out.cell 2 rfl; have c3r : w5.cell? ⟨w.heap.size + 1, 3, none⟩ = some (.int .i64 y1) := B_r.out.cell 3 rfl; have c0t : w5.cell? ⟨w.heap.size + 1 + 1, 0, none⟩ = some (.int .i64 lo) := B_t.out.cell 0 rfl; have c1t : w5.cell? ⟨w.heap.size + 1 + 1, 1, none⟩ = some (.int .i64 hi) := B_t.out.cell 1 rfl; have c0m : w5.cell? ⟨w4.heap.size, 0, none⟩ = some (.int .i64 m0) := B_m.out.cell 0 rfl; have c1m : w5.cell? ⟨w4.heap.size, 1, none⟩ = some (.int .i64 m1) := B_m.out.cell 1 rfl; have c2m : w5.cell? ⟨w4.heap.size, 2, none⟩ = some (.int .i64 m2) := B_m.out.cell 2 rfl; have c3m : w5.cell? ⟨w4.heap.size, 3, none⟩ = some (.int .i64 m3) := B_m.out.cell 3 rfl; have tk1x1 : True := trivial)
      | (clear tk1x1; go_at_call 19; refine (H3.out _).mono ?_; rintro e w6 ⟨rfl, bb⟩; replace bb := nextw (w0 := w5) (by exact sm) bb; replace B_y := mv B_y bb; replace B_r := mv B_r bb; replace B_t := mv B_t bb; replace B_m := mv B_m bb; replace HB := nx HB bb; clear bb c0y c1y c2y c3y c4y c0r c1r c2r c3r c0t c1t c0m c1m c2m c3m; have c0y : w6.cell? ⟨w.heap.size, 0, none⟩ = some (.int .i64 a) := B_y.out.cell 0 rfl; have c1y : w6.cell? ⟨w.heap.size, 1, none⟩ = some (.int .i64 b) := B_y.out.cell 1 rfl; have c2y : w6.cell? ⟨w.heap.size, 2, none⟩ = some (.int .i64 x) := B_y.out.cell 2 rfl; have c3y : w6.cell? ⟨w.heap.size, 3, none⟩ = some (.int .i64 y) := B_y.out.cell 3 rfl; have c4y : w6.cell? ⟨w.heap.size, 4, none⟩ = some (.int .i64 d) := B_y.out.cell 4 rfl; have c0r : w6.cell? ⟨w.heap.size + 1, 0, none⟩ = some (.int .i64 x0) := B_r.out.cell 0 rfl; have c1r : w6.cell? ⟨w.heap.size + 1, 1, none⟩ = some (.int .i64 y0) := B_r.out.cell 1 rfl; have c2r : w6.cell? ⟨w.heap.size + 1, 2, none⟩ = some (.int .i64 x1) := B_r.out.cell 2 rfl; have c3r : w6.cell? ⟨w.heap.size + 1, 3, none⟩ = some (.int .i64 y1) := B_r.out.cell 3 rfl; have c0t : w6.cell? ⟨w.heap.size + 1 + 1, 0, none⟩ = some (.int .i64 lo) := B_t.out.cell 0 rfl; have c1t : w6.cell? ⟨w.heap.size + 1 + 1, 1, none⟩ = some (.int .i64 hi) := B_t.out.cell 1 rfl; have c0m : w6.cell? ⟨w4.heap.size, 0, none⟩ = some (.int .i64 m0) := B_m.out.cell 0 rfl; have c1m : w6.cell? ⟨w4.heap.size, 1, none⟩ = some (.int .i64 m1) := B_m.out.cell 1 rfl; have c2m : w6.cell? ⟨w4.heap.size, 2, none⟩ = some (.int .i64 m2) := B_m.out.cell 2 rfl; have c3m : w6.cell? ⟨w4.heap.size, 3, none⟩ = some (.int .i64 m3) := B_m.out.cell 3 rfl; have tk1x2 : True := trivial)
      | (clear tk1x2; go_at_call 21; refine (H4.out _).mono ?_; rintro e w7 ⟨rfl, bb⟩; replace bb := nextw (w0 := w6) (by exact sm) bb; replace B_y := mv B_y bb; replace B_r := mv B_r bb; replace B_t := mv B_t bb; replace B_m := mv B_m bb; replace HB := nx HB bb; clear bb c0y c1y c2y c3y c4y c0r c1r c2r c3r c0t c1t c0m c1m c2m c3m; have c0y : w7.cell? ⟨w.heap.size, 0, none⟩ = some (.int .i64 a) := B_y.out.cell 0 rfl; have c1y : w7.cell? ⟨w.heap.size, 1, none⟩ = some (.int .i64 b) := B_y.out.cell 1 rfl; have c2y : w7.cell? ⟨w.heap.size, 2, none⟩ = some (.int .i64 x) := B_y.out.cell 2 rfl; have c3y : w7.cell? ⟨w.heap.size, 3, none⟩ = some (.int .i64 y) := B_y.out.cell 3 rfl; have c4y : w7.cell? ⟨w.heap.size, 4, none⟩ = some (.int .i64 d) := B_y.out.cell 4 rfl; have c0r : w7.cell? ⟨w.heap.size + 1, 0, none⟩ = some (.int .i64 x0) := B_r.out.cell 0 rfl; have c1r : w7.cell? ⟨w.heap.size + 1, 1, none⟩ = some (.int .i64 y0) := B_r.out.cell 1 rfl; have c2r : w7.cell? ⟨w.heap.size + 1, 2, none⟩ = some (.int .i64 x1) := B_r.out.cell 2 rfl; have c3r : w7.cell? ⟨w.heap.size + 1, 3, none⟩ = some (.int .i64 y1) := B_r.out.cell 3 rfl; have c0t : w7.cell? ⟨w.heap.size + 1 + 1, 0, none⟩ = some (.int .i64 lo) := B_t.out.cell 0 rfl; have c1t : w7.cell? ⟨w.heap.size + 1 + 1, 1, none⟩ = some (.int .i64 hi) := B_t.out.cell 1 rfl; have c0m : w7.cell? ⟨w4.heap.size, 0, none⟩ = some (.int .i64 m0) := B_m.out.cell 0 rfl; have c1m : w7.cell? ⟨w4.heap.size, 1, none⟩ = some (.int .i64 m1) := B_m.out.cell 1 rfl; have c2m : w7.cell? ⟨w4.heap.size, 2, none⟩ = some (.int .i64 m2) := B_m.out.cell 2 rfl; have c3m : w7.cell? ⟨w4.heap.size, 3, none⟩ = some (.int .i64 m3) := B_m.out.cell 3 rfl; have tk1x3 : True := trivial)
      | (clear tk1x3; go_at_call 21; refine (H5.out _).mono ?_; rintro e w8 ⟨rfl, bb⟩; replace bb := nextw (w0 := w7) (by exact sm) bb; replace B_y := mv B_y bb; replace B_r := mv B_r bb; replace B_t := mv B_t bb; replace B_m := mv B_m bb; replace HB := nx HB bb; clear bb c0y c1y c2y c3y c4y c0r c1r c2r c3r c0t c1t c0m c1m c2m c3m; have c0y : w8.cell? ⟨w.heap.size, 0, none⟩ = some (.int .i64 a) := B_y.out.cell 0 rfl; have c1y : w8.cell? ⟨w.heap.size, 1, none⟩ = some (.int .i64 b) := B_y.out.cell 1 rfl; have c2y : w8.cell? ⟨w.heap.size, 2, none⟩ = some (.int .i64 x) := B_y.out.cell 2 rfl; have c3y : w8.cell? ⟨w.heap.size, 3, none⟩ = some (.int .i64 y) := B_y.out.cell 3 rfl; have c4y : w8.cell? ⟨w.heap.size, 4, none⟩ = some (.int .i64 d) := B_y.out.cell 4 rfl; have c0r : w8.cell? ⟨w.heap.size + 1, 0, none⟩ = some (.int .i64 x0) := B_r.out.cell 0 rfl; have c1r : w8.cell? ⟨w.heap.size + 1, 1, none⟩ = some (.int .i64 y0) := B_r.out.cell 1 rfl; have c2r : w8.cell? ⟨w.heap.size + 1, 2, none⟩ = some (.int .i64 x1) := B_r.out.cell 2 rfl; have c3r : w8.cell? ⟨w.heap.size + 1, 3, none⟩ = some (.int .i64 y1) := B_r.out.cell 3 rfl; have c0t : w8.cell? ⟨w.heap.size + 1 + 1, 0, none⟩ = some (.int .i64 lo) := B_t.out.cell 0 rfl; have c1t : w8.cell? ⟨w.heap.size + 1 + 1, 1, none⟩ = some (.int .i64 hi) := B_t.out.cell 1 rfl; have c0m : w8.cell? ⟨w4.heap.size, 0, none⟩ = some (.int .i64 m0) := B_m.out.cell 0 rfl; have c1m : w8.cell? ⟨w4.heap.size, 1, none⟩ = some (.int .i64 m1) := B_m.out.cell 1 rfl; have c2m : w8.cell? ⟨w4.heap.size, 2, none⟩ = some (.int .i64 m2) := B_m.out.cell 2 rfl; have c3m : w8.cell? ⟨w4.heap.size, 3, none⟩ = some (.int .i64 m3) := B_m.out.cell 3 rfl; have tk1x4 : True := trivial))
  clear c0y c1y c2y c3y c4y c0r c1r c2r c3r c0t c1t c0m c1m c2m c3m
  go_wp2
  go_ret
  exact ⟨rfl, nextw HB.out (by exact sm)⟩

theorem Points_any (a b x y d x0 y0 x1 y1 lo hi : Int) (w : World) : Calls Try.prog 8 #[.agg #[.int .i64 a, .int .i64 b, .int .i64 x, .int .i64 y, .int .i64 d], .agg #[.int .i64 x0, .int .i64 y0, .int .i64 x1, .int .i64 y1], .agg #[.int .i64 lo, .int .i64 hi]] w fun e w' => e = .returned (.bool true) ∧ Below w.heap.size w w' := by
  by_cases h0 : OkC a
  · by_cases h1 : OkC b
    · by_cases hq : OkR x0 y0 x1 y1
      · by_cases hm : OkR (x0 - a) (y0 - b) (x1 - a) (y1 - b)
        · exact Points_ok a b x y d x0 y0 x1 y1 lo hi h0 h1 hq hm w
        · exact Points_m a b x y d x0 y0 x1 y1 lo hi h0 h1 hq hm w
      · exact Points_q a b x y d x0 y0 x1 y1 lo hi h0 h1 hq w
    · exact Points_b1 a b x y d x0 y0 x1 y1 lo hi h0 h1 w
  · exact Points_b0 a b x y d x0 y0 x1 y1 lo hi h0 w

set_option maxRecDepth 100000 in
set_option maxHeartbeats 8000000 in
theorem Moves_0 (a b x y d x0 y0 x1 y1 u v : Int)  (h0 : ¬ (-1048576 ≤ a ∧ a ≤ 1048576)) (w : World) :
    Calls Try.prog 10 #[.agg #[.int .i64 a, .int .i64 b, .int .i64 x, .int .i64 y, .int .i64 d], .agg #[.int .i64 x0, .int .i64 y0, .int .i64 x1, .int .i64 y1], .agg #[.int .i16 u, .int .i16 v]] w fun e w' => e = .returned (.bool true) ∧ Below w.heap.size w w' := by
  have HA := Lib.hid (fun w => awake_any w)
  have H0 := Lib.hid (fun w => Size_f (by decide) (by decide) h0 w)
  clear h0
  obtain ⟨HB, B_y, B_r, B_t⟩ := box3 w 27 #[.int .i64 a, .int .i64 b, .int .i64 x, .int .i64 y, .int .i64 d] 29 #[.int .i64 x0, .int .i64 y0, .int .i64 x1, .int .i64 y1] 56 #[.int .i16 u, .int .i16 v]
  go_enter Try.func10, Try.ntmps10
  go_wp2_with fail
  generalize ((w.alloc (.cells #[.int .i64 a, .int .i64 b, .int .i64 x, .int .i64 y, .int .i64 d] 27)).alloc (.cells #[.int .i64 x0, .int .i64 y0, .int .i64 x1, .int .i64 y1] 29)).alloc (.cells #[.int .i16 u, .int .i16 v] 56) = W0 at *
  refine (HA.out _).mono ?_
  rintro e w1 ⟨rfl, bb⟩
  replace bb := nextw (w0 := W0) (by exact sm) bb
  replace B_y := mv B_y bb
  replace B_r := mv B_r bb
  replace B_t := mv B_t bb
  replace HB := nx HB bb
  clear bb
  obtain ⟨c0y, c1y, c2y, c3y, c4y⟩ := cells5 B_y
  obtain ⟨c0r, c1r, c2r, c3r⟩ := cells4 B_r
  go_wp2_with fail
  refine (H0.out _).mono ?_
  rintro e w2 ⟨rfl, rfl⟩
  clear c0y c1y c2y c3y c4y c0r c1r c2r c3r
  go_wp2_with fail
  refine (HA.out _).mono ?_
  rintro e w3 ⟨rfl, bb⟩
  replace bb := nextw (w0 := w1) (by exact sm) bb
  replace B_y := mv B_y bb
  replace B_r := mv B_r bb
  replace B_t := mv B_t bb
  replace HB := nx HB bb
  clear bb
  go_wp2
  go_ret
  exact ⟨rfl, nextw HB.out (by exact sm)⟩

set_option maxRecDepth 100000 in
set_option maxHeartbeats 8000000 in
theorem Moves_1 (a b x y d x0 y0 x1 y1 u v : Int) (h0 : (-1048576 ≤ a ∧ a ≤ 1048576)) (h1 : ¬ (-1048576 ≤ b ∧ b ≤ 1048576)) (w : World) :
    Calls Try.prog 10 #[.agg #[.int .i64 a, .int .i64 b, .int .i64 x, .int .i64 y, .int .i64 d], .agg #[.int .i64 x0, .int .i64 y0, .int .i64 x1, .int .i64 y1], .agg #[.int .i16 u, .int .i16 v]] w fun e w' => e = .returned (.bool true) ∧ Below w.heap.size w w' := by
  have HA := Lib.hid (fun w => awake_any w)
  have H0 := Lib.hid (fun w => Size_t (by decide) (by decide) h0 w)
  have H1 := Lib.hid (fun w => Size_f (by decide) (by decide) h1 w)
  clear h0 h1
  obtain ⟨HB, B_y, B_r, B_t⟩ := box3 w 27 #[.int .i64 a, .int .i64 b, .int .i64 x, .int .i64 y, .int .i64 d] 29 #[.int .i64 x0, .int .i64 y0, .int .i64 x1, .int .i64 y1] 56 #[.int .i16 u, .int .i16 v]
  go_enter Try.func10, Try.ntmps10
  go_wp2_with fail
  generalize ((w.alloc (.cells #[.int .i64 a, .int .i64 b, .int .i64 x, .int .i64 y, .int .i64 d] 27)).alloc (.cells #[.int .i64 x0, .int .i64 y0, .int .i64 x1, .int .i64 y1] 29)).alloc (.cells #[.int .i16 u, .int .i16 v] 56) = W0 at *
  refine (HA.out _).mono ?_
  rintro e w1 ⟨rfl, bb⟩
  replace bb := nextw (w0 := W0) (by exact sm) bb
  replace B_y := mv B_y bb
  replace B_r := mv B_r bb
  replace B_t := mv B_t bb
  replace HB := nx HB bb
  clear bb
  obtain ⟨c0y, c1y, c2y, c3y, c4y⟩ := cells5 B_y
  obtain ⟨c0r, c1r, c2r, c3r⟩ := cells4 B_r
  go_wp2_with fail
  refine (H0.out _).mono ?_
  rintro e w2 ⟨rfl, rfl⟩
  clear c0y c1y c2y c3y c4y c0r c1r c2r c3r
  obtain ⟨c0y, c1y, c2y, c3y, c4y⟩ := cells5 B_y
  obtain ⟨c0r, c1r, c2r, c3r⟩ := cells4 B_r
  go_wp2_with fail
  refine (H1.out _).mono ?_
  rintro e w3 ⟨rfl, rfl⟩
  clear c0y c1y c2y c3y c4y c0r c1r c2r c3r
  go_wp2_with fail
  refine (HA.out _).mono ?_
  rintro e w4 ⟨rfl, bb⟩
  replace bb := nextw (w0 := w1) (by exact sm) bb
  replace B_y := mv B_y bb
  replace B_r := mv B_r bb
  replace B_t := mv B_t bb
  replace HB := nx HB bb
  clear bb
  go_wp2
  go_ret
  exact ⟨rfl, nextw HB.out (by exact sm)⟩

set_option maxRecDepth 100000 in
set_option maxHeartbeats 8000000 in
theorem Moves_2 (a b x y d x0 y0 x1 y1 u v : Int) (h0 : (-1048576 ≤ a ∧ a ≤ 1048576)) (h1 : (-1048576 ≤ b ∧ b ≤ 1048576)) (h2 : ¬ (-1048576 ≤ x0 ∧ x0 ≤ 1048576)) (w : World) :
    Calls Try.prog 10 #[.agg #[.int .i64 a, .int .i64 b, .int .i64 x, .int .i64 y, .int .i64 d], .agg #[.int .i64 x0, .int .i64 y0, .int .i64 x1, .int .i64 y1], .agg #[.int .i16 u, .int .i16 v]] w fun e w' => e = .returned (.bool true) ∧ Below w.heap.size w w' := by
  have HA := Lib.hid (fun w => awake_any w)
  have H0 := Lib.hid (fun w => Size_t (by decide) (by decide) h0 w)
  have H1 := Lib.hid (fun w => Size_t (by decide) (by decide) h1 w)
  have H2 := Lib.hid (fun w => Size_f (by decide) (by decide) h2 w)
  clear h0 h1 h2
  obtain ⟨HB, B_y, B_r, B_t⟩ := box3 w 27 #[.int .i64 a, .int .i64 b, .int .i64 x, .int .i64 y, .int .i64 d] 29 #[.int .i64 x0, .int .i64 y0, .int .i64 x1, .int .i64 y1] 56 #[.int .i16 u, .int .i16 v]
  go_enter Try.func10, Try.ntmps10
  go_wp2_with fail
  generalize ((w.alloc (.cells #[.int .i64 a, .int .i64 b, .int .i64 x, .int .i64 y, .int .i64 d] 27)).alloc (.cells #[.int .i64 x0, .int .i64 y0, .int .i64 x1, .int .i64 y1] 29)).alloc (.cells #[.int .i16 u, .int .i16 v] 56) = W0 at *
  refine (HA.out _).mono ?_
  rintro e w1 ⟨rfl, bb⟩
  replace bb := nextw (w0 := W0) (by exact sm) bb
  replace B_y := mv B_y bb
  replace B_r := mv B_r bb
  replace B_t := mv B_t bb
  replace HB := nx HB bb
  clear bb
  obtain ⟨c0y, c1y, c2y, c3y, c4y⟩ := cells5 B_y
  obtain ⟨c0r, c1r, c2r, c3r⟩ := cells4 B_r
  go_wp2_with fail
  refine (H0.out _).mono ?_
  rintro e w2 ⟨rfl, rfl⟩
  clear c0y c1y c2y c3y c4y c0r c1r c2r c3r
  obtain ⟨c0y, c1y, c2y, c3y, c4y⟩ := cells5 B_y
  obtain ⟨c0r, c1r, c2r, c3r⟩ := cells4 B_r
  go_wp2_with fail
  refine (H1.out _).mono ?_
  rintro e w3 ⟨rfl, rfl⟩
  clear c0y c1y c2y c3y c4y c0r c1r c2r c3r
  obtain ⟨c0y, c1y, c2y, c3y, c4y⟩ := cells5 B_y
  obtain ⟨c0r, c1r, c2r, c3r⟩ := cells4 B_r
  go_wp2_with fail
  refine (H2.out _).mono ?_
  rintro e w4 ⟨rfl, rfl⟩
  clear c0y c1y c2y c3y c4y c0r c1r c2r c3r
  go_wp2_with fail
  refine (HA.out _).mono ?_
  rintro e w5 ⟨rfl, bb⟩
  replace bb := nextw (w0 := w1) (by exact sm) bb
  replace B_y := mv B_y bb
  replace B_r := mv B_r bb
  replace B_t := mv B_t bb
  replace HB := nx HB bb
  clear bb
  go_wp2
  go_ret
  exact ⟨rfl, nextw HB.out (by exact sm)⟩

set_option maxRecDepth 100000 in
set_option maxHeartbeats 8000000 in
theorem Moves_3 (a b x y d x0 y0 x1 y1 u v : Int) (h0 : (-1048576 ≤ a ∧ a ≤ 1048576)) (h1 : (-1048576 ≤ b ∧ b ≤ 1048576)) (h2 : (-1048576 ≤ x0 ∧ x0 ≤ 1048576)) (h3 : ¬ (-1048576 ≤ x1 ∧ x1 ≤ 1048576)) (w : World) :
    Calls Try.prog 10 #[.agg #[.int .i64 a, .int .i64 b, .int .i64 x, .int .i64 y, .int .i64 d], .agg #[.int .i64 x0, .int .i64 y0, .int .i64 x1, .int .i64 y1], .agg #[.int .i16 u, .int .i16 v]] w fun e w' => e = .returned (.bool true) ∧ Below w.heap.size w w' := by
  have HA := Lib.hid (fun w => awake_any w)
  have H0 := Lib.hid (fun w => Size_t (by decide) (by decide) h0 w)
  have H1 := Lib.hid (fun w => Size_t (by decide) (by decide) h1 w)
  have H2 := Lib.hid (fun w => Size_t (by decide) (by decide) h2 w)
  have H3 := Lib.hid (fun w => Size_f (by decide) (by decide) h3 w)
  clear h0 h1 h2 h3
  obtain ⟨HB, B_y, B_r, B_t⟩ := box3 w 27 #[.int .i64 a, .int .i64 b, .int .i64 x, .int .i64 y, .int .i64 d] 29 #[.int .i64 x0, .int .i64 y0, .int .i64 x1, .int .i64 y1] 56 #[.int .i16 u, .int .i16 v]
  go_enter Try.func10, Try.ntmps10
  go_wp2_with fail
  generalize ((w.alloc (.cells #[.int .i64 a, .int .i64 b, .int .i64 x, .int .i64 y, .int .i64 d] 27)).alloc (.cells #[.int .i64 x0, .int .i64 y0, .int .i64 x1, .int .i64 y1] 29)).alloc (.cells #[.int .i16 u, .int .i16 v] 56) = W0 at *
  refine (HA.out _).mono ?_
  rintro e w1 ⟨rfl, bb⟩
  replace bb := nextw (w0 := W0) (by exact sm) bb
  replace B_y := mv B_y bb
  replace B_r := mv B_r bb
  replace B_t := mv B_t bb
  replace HB := nx HB bb
  clear bb
  obtain ⟨c0y, c1y, c2y, c3y, c4y⟩ := cells5 B_y
  obtain ⟨c0r, c1r, c2r, c3r⟩ := cells4 B_r
  go_wp2_with fail
  refine (H0.out _).mono ?_
  rintro e w2 ⟨rfl, rfl⟩
  clear c0y c1y c2y c3y c4y c0r c1r c2r c3r
  obtain ⟨c0y, c1y, c2y, c3y, c4y⟩ := cells5 B_y
  obtain ⟨c0r, c1r, c2r, c3r⟩ := cells4 B_r
  go_wp2_with fail
  refine (H1.out _).mono ?_
  rintro e w3 ⟨rfl, rfl⟩
  clear c0y c1y c2y c3y c4y c0r c1r c2r c3r
  obtain ⟨c0y, c1y, c2y, c3y, c4y⟩ := cells5 B_y
  obtain ⟨c0r, c1r, c2r, c3r⟩ := cells4 B_r
  go_wp2_with fail
  refine (H2.out _).mono ?_
  rintro e w4 ⟨rfl, rfl⟩
  clear c0y c1y c2y c3y c4y c0r c1r c2r c3r
  obtain ⟨c0y, c1y, c2y, c3y, c4y⟩ := cells5 B_y
  obtain ⟨c0r, c1r, c2r, c3r⟩ := cells4 B_r
  go_wp2_with fail
  refine (H3.out _).mono ?_
  rintro e w5 ⟨rfl, rfl⟩
  clear c0y c1y c2y c3y c4y c0r c1r c2r c3r
  go_wp2_with fail
  refine (HA.out _).mono ?_
  rintro e w6 ⟨rfl, bb⟩
  replace bb := nextw (w0 := w1) (by exact sm) bb
  replace B_y := mv B_y bb
  replace B_r := mv B_r bb
  replace B_t := mv B_t bb
  replace HB := nx HB bb
  clear bb
  go_wp2
  go_ret
  exact ⟨rfl, nextw HB.out (by exact sm)⟩

set_option maxRecDepth 100000 in
set_option maxHeartbeats 8000000 in
theorem Moves_4 (a b x y d x0 y0 x1 y1 u v : Int) (h0 : (-1048576 ≤ a ∧ a ≤ 1048576)) (h1 : (-1048576 ≤ b ∧ b ≤ 1048576)) (h2 : (-1048576 ≤ x0 ∧ x0 ≤ 1048576)) (h3 : (-1048576 ≤ x1 ∧ x1 ≤ 1048576)) (h4 : ¬ (-1048576 ≤ y0 ∧ y0 ≤ 1048576)) (w : World) :
    Calls Try.prog 10 #[.agg #[.int .i64 a, .int .i64 b, .int .i64 x, .int .i64 y, .int .i64 d], .agg #[.int .i64 x0, .int .i64 y0, .int .i64 x1, .int .i64 y1], .agg #[.int .i16 u, .int .i16 v]] w fun e w' => e = .returned (.bool true) ∧ Below w.heap.size w w' := by
  have HA := Lib.hid (fun w => awake_any w)
  have H0 := Lib.hid (fun w => Size_t (by decide) (by decide) h0 w)
  have H1 := Lib.hid (fun w => Size_t (by decide) (by decide) h1 w)
  have H2 := Lib.hid (fun w => Size_t (by decide) (by decide) h2 w)
  have H3 := Lib.hid (fun w => Size_t (by decide) (by decide) h3 w)
  have H4 := Lib.hid (fun w => Size_f (by decide) (by decide) h4 w)
  clear h0 h1 h2 h3 h4
  obtain ⟨HB, B_y, B_r, B_t⟩ := box3 w 27 #[.int .i64 a, .int .i64 b, .int .i64 x, .int .i64 y, .int .i64 d] 29 #[.int .i64 x0, .int .i64 y0, .int .i64 x1, .int .i64 y1] 56 #[.int .i16 u, .int .i16 v]
  go_enter Try.func10, Try.ntmps10
  go_wp2_with fail
  generalize ((w.alloc (.cells #[.int .i64 a, .int .i64 b, .int .i64 x, .int .i64 y, .int .i64 d] 27)).alloc (.cells #[.int .i64 x0, .int .i64 y0, .int .i64 x1, .int .i64 y1] 29)).alloc (.cells #[.int .i16 u, .int .i16 v] 56) = W0 at *
  refine (HA.out _).mono ?_
  rintro e w1 ⟨rfl, bb⟩
  replace bb := nextw (w0 := W0) (by exact sm) bb
  replace B_y := mv B_y bb
  replace B_r := mv B_r bb
  replace B_t := mv B_t bb
  replace HB := nx HB bb
  clear bb
  obtain ⟨c0y, c1y, c2y, c3y, c4y⟩ := cells5 B_y
  obtain ⟨c0r, c1r, c2r, c3r⟩ := cells4 B_r
  go_wp2_with fail
  refine (H0.out _).mono ?_
  rintro e w2 ⟨rfl, rfl⟩
  clear c0y c1y c2y c3y c4y c0r c1r c2r c3r
  obtain ⟨c0y, c1y, c2y, c3y, c4y⟩ := cells5 B_y
  obtain ⟨c0r, c1r, c2r, c3r⟩ := cells4 B_r
  go_wp2_with fail
  refine (H1.out _).mono ?_
  rintro e w3 ⟨rfl, rfl⟩
  clear c0y c1y c2y c3y c4y c0r c1r c2r c3r
  obtain ⟨c0y, c1y, c2y, c3y, c4y⟩ := cells5 B_y
  obtain ⟨c0r, c1r, c2r, c3r⟩ := cells4 B_r
  go_wp2_with fail
  refine (H2.out _).mono ?_
  rintro e w4 ⟨rfl, rfl⟩
  clear c0y c1y c2y c3y c4y c0r c1r c2r c3r
  obtain ⟨c0y, c1y, c2y, c3y, c4y⟩ := cells5 B_y
  obtain ⟨c0r, c1r, c2r, c3r⟩ := cells4 B_r
  go_wp2_with fail
  refine (H3.out _).mono ?_
  rintro e w5 ⟨rfl, rfl⟩
  clear c0y c1y c2y c3y c4y c0r c1r c2r c3r
  obtain ⟨c0y, c1y, c2y, c3y, c4y⟩ := cells5 B_y
  obtain ⟨c0r, c1r, c2r, c3r⟩ := cells4 B_r
  go_wp2_with fail
  refine (H4.out _).mono ?_
  rintro e w6 ⟨rfl, rfl⟩
  clear c0y c1y c2y c3y c4y c0r c1r c2r c3r
  go_wp2_with fail
  refine (HA.out _).mono ?_
  rintro e w7 ⟨rfl, bb⟩
  replace bb := nextw (w0 := w1) (by exact sm) bb
  replace B_y := mv B_y bb
  replace B_r := mv B_r bb
  replace B_t := mv B_t bb
  replace HB := nx HB bb
  clear bb
  go_wp2
  go_ret
  exact ⟨rfl, nextw HB.out (by exact sm)⟩

set_option maxRecDepth 100000 in
set_option maxHeartbeats 8000000 in
theorem Moves_5 (a b x y d x0 y0 x1 y1 u v : Int) (h0 : (-1048576 ≤ a ∧ a ≤ 1048576)) (h1 : (-1048576 ≤ b ∧ b ≤ 1048576)) (h2 : (-1048576 ≤ x0 ∧ x0 ≤ 1048576)) (h3 : (-1048576 ≤ x1 ∧ x1 ≤ 1048576)) (h4 : (-1048576 ≤ y0 ∧ y0 ≤ 1048576)) (h5 : ¬ (-1048576 ≤ y1 ∧ y1 ≤ 1048576)) (w : World) :
    Calls Try.prog 10 #[.agg #[.int .i64 a, .int .i64 b, .int .i64 x, .int .i64 y, .int .i64 d], .agg #[.int .i64 x0, .int .i64 y0, .int .i64 x1, .int .i64 y1], .agg #[.int .i16 u, .int .i16 v]] w fun e w' => e = .returned (.bool true) ∧ Below w.heap.size w w' := by
  have HA := Lib.hid (fun w => awake_any w)
  have H0 := Lib.hid (fun w => Size_t (by decide) (by decide) h0 w)
  have H1 := Lib.hid (fun w => Size_t (by decide) (by decide) h1 w)
  have H2 := Lib.hid (fun w => Size_t (by decide) (by decide) h2 w)
  have H3 := Lib.hid (fun w => Size_t (by decide) (by decide) h3 w)
  have H4 := Lib.hid (fun w => Size_t (by decide) (by decide) h4 w)
  have H5 := Lib.hid (fun w => Size_f (by decide) (by decide) h5 w)
  clear h0 h1 h2 h3 h4 h5
  obtain ⟨HB, B_y, B_r, B_t⟩ := box3 w 27 #[.int .i64 a, .int .i64 b, .int .i64 x, .int .i64 y, .int .i64 d] 29 #[.int .i64 x0, .int .i64 y0, .int .i64 x1, .int .i64 y1] 56 #[.int .i16 u, .int .i16 v]
  go_enter Try.func10, Try.ntmps10
  go_wp2_with fail
  generalize ((w.alloc (.cells #[.int .i64 a, .int .i64 b, .int .i64 x, .int .i64 y, .int .i64 d] 27)).alloc (.cells #[.int .i64 x0, .int .i64 y0, .int .i64 x1, .int .i64 y1] 29)).alloc (.cells #[.int .i16 u, .int .i16 v] 56) = W0 at *
  refine (HA.out _).mono ?_
  rintro e w1 ⟨rfl, bb⟩
  replace bb := nextw (w0 := W0) (by exact sm) bb
  replace B_y := mv B_y bb
  replace B_r := mv B_r bb
  replace B_t := mv B_t bb
  replace HB := nx HB bb
  clear bb
  obtain ⟨c0y, c1y, c2y, c3y, c4y⟩ := cells5 B_y
  obtain ⟨c0r, c1r, c2r, c3r⟩ := cells4 B_r
  go_wp2_with fail
  refine (H0.out _).mono ?_
  rintro e w2 ⟨rfl, rfl⟩
  clear c0y c1y c2y c3y c4y c0r c1r c2r c3r
  obtain ⟨c0y, c1y, c2y, c3y, c4y⟩ := cells5 B_y
  obtain ⟨c0r, c1r, c2r, c3r⟩ := cells4 B_r
  go_wp2_with fail
  refine (H1.out _).mono ?_
  rintro e w3 ⟨rfl, rfl⟩
  clear c0y c1y c2y c3y c4y c0r c1r c2r c3r
  obtain ⟨c0y, c1y, c2y, c3y, c4y⟩ := cells5 B_y
  obtain ⟨c0r, c1r, c2r, c3r⟩ := cells4 B_r
  go_wp2_with fail
  refine (H2.out _).mono ?_
  rintro e w4 ⟨rfl, rfl⟩
  clear c0y c1y c2y c3y c4y c0r c1r c2r c3r
  obtain ⟨c0y, c1y, c2y, c3y, c4y⟩ := cells5 B_y
  obtain ⟨c0r, c1r, c2r, c3r⟩ := cells4 B_r
  go_wp2_with fail
  refine (H3.out _).mono ?_
  rintro e w5 ⟨rfl, rfl⟩
  clear c0y c1y c2y c3y c4y c0r c1r c2r c3r
  obtain ⟨c0y, c1y, c2y, c3y, c4y⟩ := cells5 B_y
  obtain ⟨c0r, c1r, c2r, c3r⟩ := cells4 B_r
  go_wp2_with fail
  refine (H4.out _).mono ?_
  rintro e w6 ⟨rfl, rfl⟩
  clear c0y c1y c2y c3y c4y c0r c1r c2r c3r
  obtain ⟨c0y, c1y, c2y, c3y, c4y⟩ := cells5 B_y
  obtain ⟨c0r, c1r, c2r, c3r⟩ := cells4 B_r
  go_wp2_with fail
  refine (H5.out _).mono ?_
  rintro e w7 ⟨rfl, rfl⟩
  clear c0y c1y c2y c3y c4y c0r c1r c2r c3r
  go_wp2_with fail
  refine (HA.out _).mono ?_
  rintro e w8 ⟨rfl, bb⟩
  replace bb := nextw (w0 := w1) (by exact sm) bb
  replace B_y := mv B_y bb
  replace B_r := mv B_r bb
  replace B_t := mv B_t bb
  replace HB := nx HB bb
  clear bb
  go_wp2
  go_ret
  exact ⟨rfl, nextw HB.out (by exact sm)⟩

set_option maxRecDepth 100000 in
set_option maxHeartbeats 8000000 in
theorem Moves_ok (a b x y d x0 y0 x1 y1 u v : Int) (h0 : (-1048576 ≤ a ∧ a ≤ 1048576)) (h1 : (-1048576 ≤ b ∧ b ≤ 1048576)) (h2 : (-1048576 ≤ x0 ∧ x0 ≤ 1048576)) (h3 : (-1048576 ≤ x1 ∧ x1 ≤ 1048576)) (h4 : (-1048576 ≤ y0 ∧ y0 ≤ 1048576)) (h5 : (-1048576 ≤ y1 ∧ y1 ≤ 1048576)) (u1 : -32768 ≤ u) (u2 : u ≤ 32767) (v1 : -32768 ≤ v) (v2 : v ≤ 32767) (w : World) :
    Calls Try.prog 10 #[.agg #[.int .i64 a, .int .i64 b, .int .i64 x, .int .i64 y, .int .i64 d], .agg #[.int .i64 x0, .int .i64 y0, .int .i64 x1, .int .i64 y1], .agg #[.int .i16 u, .int .i16 v]] w fun e w' => e = .returned (.bool true) ∧ Below w.heap.size w w' := by
  have HA := Lib.hid (fun w => awake_any w)
  have H0 := Lib.hid (fun w => Size_t (by decide) (by decide) h0 w)
  have H1 := Lib.hid (fun w => Size_t (by decide) (by decide) h1 w)
  have H2 := Lib.hid (fun w => Size_t (by decide) (by decide) h2 w)
  have H3 := Lib.hid (fun w => Size_t (by decide) (by decide) h3 w)
  have H4 := Lib.hid (fun w => Size_t (by decide) (by decide) h4 w)
  have H5 := Lib.hid (fun w => Size_t (by decide) (by decide) h5 w)
  have P0 := Lib.hid (fun w => Enter_any a b x y d x0 y0 x1 y1 w)
  have P1 := Lib.hid (fun w => Enter_any (a + u) (b + v) x y d (x0 + u) (y0 + v) (x1 + u) (y1 + v) w)
  have P2 := Lib.hid (fun w => Enter_any b a y x d y0 x0 y1 x1 w)
  obtain ⟨e1, e2, e3⟩ := en_shift (x := x) (y := y) (d := d) h0.1 h0.2 h1.1 h1.2 h2.1 h2.2 h4.1 h4.2 h3.1 h3.2 h5.1 h5.2 u1 u2 v1 v2
  rw [e1, e2, e3] at P1
  clear e1 e2 e3
  obtain ⟨e1, e2, e3⟩ := en_swap a b x y d x0 y0 x1 y1
  rw [e1, e2, e3] at P2
  clear e1 e2 e3
  generalize enN a b x y d x0 y0 x1 y1 = N1 at *
  generalize enD a b x y d x0 y0 x1 y1 = D1 at *
  generalize visB a b x y d x0 y0 x1 y1 = t at *
  have hp : OkP a b := ⟨by omega, by omega, by omega, by omega⟩
  have hp2 : OkP b a := ⟨by omega, by omega, by omega, by omega⟩
  obtain ⟨g, G1, G2⟩ : ∃ g, (∀ w, Calls Try.prog 23 #[.agg #[.int .i64 a, .int .i64 b], .agg #[.int .i64 x0, .int .i64 y0, .int .i64 x1, .int .i64 y1]] w fun e w' => e = .returned (.int .i64 g) ∧ Below w.heap.size w w') ∧ (∀ w, Calls Try.prog 23 #[.agg #[.int .i64 b, .int .i64 a], .agg #[.int .i64 y0, .int .i64 x0, .int .i64 y1, .int .i64 x1]] w fun e w' => e = .returned (.int .i64 g) ∧ Below w.heap.size w w') := by
    by_cases hr : OkR x0 y0 x1 y1
    · refine ⟨gapM a b x0 y0 x1 y1, fun w => Gap_ok a b x0 y0 x1 y1 hp hr w, fun w => ?_⟩
      have := Gap_ok b a y0 x0 y1 x1 hp2 ⟨hr.b1, hr.b2, hr.a1, hr.a2, hr.d1, hr.d2, hr.c1, hr.c2, hr.hy, hr.hx⟩ w
      rwa [gap_swap] at this
    · exact ⟨0, fun w => Gap_1 a b x0 y0 x1 y1 hp hr w, fun w => Gap_1 b a y0 x0 y1 x1 hp2 (fun h => hr ⟨h.b1, h.b2, h.a1, h.a2, h.d1, h.d2, h.c1, h.c2, h.hy, h.hx⟩) w⟩
  replace G1 := Lib.hid G1
  replace G2 := Lib.hid G2
  clear hp hp2
  skip
  obtain ⟨HB, B_y, B_r, B_t⟩ := box3 w 27 #[.int .i64 a, .int .i64 b, .int .i64 x, .int .i64 y, .int .i64 d] 29 #[.int .i64 x0, .int .i64 y0, .int .i64 x1, .int .i64 y1] 56 #[.int .i16 u, .int .i16 v]
  go_enter Try.func10, Try.ntmps10
  go_wp2_with fail
  generalize ((w.alloc (.cells #[.int .i64 a, .int .i64 b, .int .i64 x, .int .i64 y, .int .i64 d] 27)).alloc (.cells #[.int .i64 x0, .int .i64 y0, .int .i64 x1, .int .i64 y1] 29)).alloc (.cells #[.int .i16 u, .int .i16 v] 56) = W0 at *
  refine (HA.out _).mono ?_
  rintro e w1 ⟨rfl, bb⟩
  replace bb := nextw (w0 := W0) (by exact sm) bb
  replace B_y := mv B_y bb
  replace B_r := mv B_r bb
  replace B_t := mv B_t bb
  replace HB := nx HB bb
  clear bb
  obtain ⟨c0y, c1y, c2y, c3y, c4y⟩ := cells5 B_y
  obtain ⟨c0r, c1r, c2r, c3r⟩ := cells4 B_r
  go_wp2_with fail
  refine (H0.out _).mono ?_
  rintro e w2 ⟨rfl, rfl⟩
  clear c0y c1y c2y c3y c4y c0r c1r c2r c3r
  obtain ⟨c0y, c1y, c2y, c3y, c4y⟩ := cells5 B_y
  obtain ⟨c0r, c1r, c2r, c3r⟩ := cells4 B_r
  go_wp2_with fail
  refine (H1.out _).mono ?_
  rintro e w3 ⟨rfl, rfl⟩
  clear c0y c1y c2y c3y c4y c0r c1r c2r c3r
  obtain ⟨c0y, c1y, c2y, c3y, c4y⟩ := cells5 B_y
  obtain ⟨c0r, c1r, c2r, c3r⟩ := cells4 B_r
  go_wp2_with fail
  refine (H2.out _).mono ?_
  rintro e w4 ⟨rfl, rfl⟩
  clear c0y c1y c2y c3y c4y c0r c1r c2r c3r
  obtain ⟨c0y, c1y, c2y, c3y, c4y⟩ := cells5 B_y
  obtain ⟨c0r, c1r, c2r, c3r⟩ := cells4 B_r
  go_wp2_with fail
  refine (H3.out _).mono ?_
  rintro e w5 ⟨rfl, rfl⟩
  clear c0y c1y c2y c3y c4y c0r c1r c2r c3r
  obtain ⟨c0y, c1y, c2y, c3y, c4y⟩ := cells5 B_y
  obtain ⟨c0r, c1r, c2r, c3r⟩ := cells4 B_r
  go_wp2_with fail
  refine (H4.out _).mono ?_
  rintro e w6 ⟨rfl, rfl⟩
  clear c0y c1y c2y c3y c4y c0r c1r c2r c3r
  obtain ⟨c0y, c1y, c2y, c3y, c4y⟩ := cells5 B_y
  obtain ⟨c0r, c1r, c2r, c3r⟩ := cells4 B_r
  go_wp2_with fail
  refine (H5.out _).mono ?_
  rintro e w7 ⟨rfl, rfl⟩
  clear c0y c1y c2y c3y c4y c0r c1r c2r c3r
  go_upto_region 3 with (fail)
  clear HA H0 H1 H2 H3 H4 H5
  obtain ⟨c0t, c1t⟩ := cells2 B_t
  go_quiet (fail)
  clear c0t c1t
  have bb : Below w1.heap.size w1 (w1.drewN nq) := bel_drewN (Below.refl _ _) _
  generalize w1.drewN nq = w8q at *
  replace B_y := mv B_y bb
  replace B_r := mv B_r bb
  replace B_t := mv B_t bb
  replace HB := nx HB bb
  clear bb
  clear B_t
  obtain ⟨c0y, c1y, c2y, c3y, c4y⟩ := cells5 B_y
  obtain ⟨c0r, c1r, c2r, c3r⟩ := cells4 B_r
  go_wp2_with fail
  refine (P0.out _).mono ?_
  clear c0y c1y c2y c3y c4y c0r c1r c2r c3r
  rintro e w9 ⟨rfl, bb⟩
  replace bb := nextw (w0 := w8q) (by exact sm) bb
  replace B_y := mv B_y bb
  replace B_r := mv B_r bb
  replace HB := nx HB bb
  clear bb
  have lt_ey := B_y.out.lt
  have lt_er := B_r.out.lt
  obtain ⟨bb, B_e⟩ := box1 w9 32 #[.int .i64 N1, .int .i64 D1]
  replace bb := bb.out
  replace B_y := mv B_y bb
  replace B_r := mv B_r bb
  replace HB := nx HB bb
  clear bb
  go_upto_region 5 with (fail)
  generalize w9.alloc (.cells #[.int .i64 N1, .int .i64 D1] 32) = WE at *
  obtain ⟨c0y, c1y, c2y, c3y, c4y⟩ := cells5 B_y
  have lt_py := B_y.out.lt
  have lt_pr := B_r.out.lt
  have lt_pe := B_e.out.lt
  obtain ⟨bb, B_p⟩ := box1 WE 23 #[.int .i64 (a + u), .int .i64 (b + v)]
  replace bb := bb.out
  replace B_y := mv B_y bb
  replace B_r := mv B_r bb
  replace B_e := mv B_e bb
  replace HB := nx HB bb
  clear bb
  go_upto_region 6 with (fail)
  clear c0y c1y c2y c3y c4y
  generalize WE.alloc (.cells #[.int .i64 (a + u), .int .i64 (b + v)] 23) = WP at *
  obtain ⟨c0p, c1p⟩ := cells2 B_p
  obtain ⟨c0y, c1y, c2y, c3y, c4y⟩ := cells5 B_y
  obtain ⟨c0r, c1r, c2r, c3r⟩ := cells4 B_r
  go_wp2_with fail
  refine (P1.out _).mono ?_
  clear c0p c1p c0y c1y c2y c3y c4y c0r c1r c2r c3r
  rintro e w10 ⟨rfl, bb⟩
  replace bb := nextw (w0 := WP) (by exact sm) bb
  replace B_y := mv B_y bb
  replace B_r := mv B_r bb
  replace B_e := mv B_e bb
  replace B_p := mv B_p bb
  replace HB := nx HB bb
  clear bb
  have lt_fy := B_y.out.lt
  have lt_fr := B_r.out.lt
  have lt_fe := B_e.out.lt
  have lt_fp := B_p.out.lt
  obtain ⟨bb, B_f⟩ := box1 w10 32 #[.int .i64 N1, .int .i64 D1]
  replace bb := bb.out
  replace B_y := mv B_y bb
  replace B_r := mv B_r bb
  replace B_e := mv B_e bb
  replace B_p := mv B_p bb
  replace HB := nx HB bb
  clear bb
  go_upto_region 7 with (fail)
  generalize w10.alloc (.cells #[.int .i64 N1, .int .i64 D1] 32) = WF at *
  clear B_p
  obtain ⟨c0r, c1r, c2r, c3r⟩ := cells4 B_r
  have lt_qy := B_y.out.lt
  have lt_qr := B_r.out.lt
  have lt_qe := B_e.out.lt
  have lt_qf := B_f.out.lt
  obtain ⟨bb, B_q⟩ := box1 WF 29 #[.int .i64 y0, .int .i64 x0, .int .i64 y1, .int .i64 x1]
  replace bb := bb.out
  replace B_y := mv B_y bb
  replace B_r := mv B_r bb
  replace B_e := mv B_e bb
  replace B_f := mv B_f bb
  replace HB := nx HB bb
  clear bb
  go_upto_region 8 with (fail)
  clear c0r c1r c2r c3r
  generalize WF.alloc (.cells #[.int .i64 y0, .int .i64 x0, .int .i64 y1, .int .i64 x1] 29) = WQ at *
  obtain ⟨c0y, c1y, c2y, c3y, c4y⟩ := cells5 B_y
  obtain ⟨c0q, c1q, c2q, c3q⟩ := cells4 B_q
  go_wp2_with fail
  refine (P2.out _).mono ?_
  clear c0y c1y c2y c3y c4y c0q c1q c2q c3q
  rintro e w11 ⟨rfl, bb⟩
  replace bb := nextw (w0 := WQ) (by exact sm) bb
  replace B_y := mv B_y bb
  replace B_r := mv B_r bb
  replace B_e := mv B_e bb
  replace B_f := mv B_f bb
  replace B_q := mv B_q bb
  replace HB := nx HB bb
  clear bb
  have lt_gy := B_y.out.lt
  have lt_gr := B_r.out.lt
  have lt_ge := B_e.out.lt
  have lt_gf := B_f.out.lt
  have lt_gq := B_q.out.lt
  obtain ⟨bb, B_g⟩ := box1 w11 32 #[.int .i64 N1, .int .i64 D1]
  replace bb := bb.out
  replace B_y := mv B_y bb
  replace B_r := mv B_r bb
  replace B_e := mv B_e bb
  replace B_f := mv B_f bb
  replace B_q := mv B_q bb
  replace HB := nx HB bb
  clear bb
  go_upto_region 9 with (fail)
  generalize w11.alloc (.cells #[.int .i64 N1, .int .i64 D1] 32) = WG at *
  clear P0 P1 P2
  obtain ⟨c0e, c1e⟩ := cells2 B_e
  obtain ⟨c0f, c1f⟩ := cells2 B_f
  obtain ⟨c0g, c1g⟩ := cells2 B_g
  obtain ⟨c0y, c1y, c2y, c3y, c4y⟩ := cells5 B_y
  obtain ⟨c0r, c1r, c2r, c3r⟩ := cells4 B_r
  obtain ⟨c0q, c1q, c2q, c3q⟩ := cells4 B_q
  have tk1x0 : True := trivial
  go_region_held3 (fun w' => w'.cell? ⟨w9.heap.size, 0, none⟩ = some (.int .i64 N1) ∧ w'.cell? ⟨w9.heap.size, 1, none⟩ = some (.int .i64 D1) ∧ w'.cell? ⟨w10.heap.size, 0, none⟩ = some (.int .i64 N1) ∧ w'.cell? ⟨w10.heap.size, 1, none⟩ = some (.int .i64 D1) ∧ w'.cell? ⟨w11.heap.size, 0, none⟩ = some (.int .i64 N1) ∧ w'.cell? ⟨w11.heap.size, 1, none⟩ = some (.int .i64 D1) ∧ w'.cell? ⟨w.heap.size, 0, none⟩ = some (.int .i64 a) ∧ w'.cell? ⟨w.heap.size, 1, none⟩ = some (.int .i64 b) ∧ w'.cell? ⟨w.heap.size, 2, none⟩ = some (.int .i64 x) ∧ w'.cell? ⟨w.heap.size, 3, none⟩ = some (.int .i64 y) ∧ w'.cell? ⟨w.heap.size, 4, none⟩ = some (.int .i64 d) ∧ w'.cell? ⟨w.heap.size + 1, 0, none⟩ = some (.int .i64 x0) ∧ w'.cell? ⟨w.heap.size + 1, 1, none⟩ = some (.int .i64 y0) ∧ w'.cell? ⟨w.heap.size + 1, 2, none⟩ = some (.int .i64 x1) ∧ w'.cell? ⟨w.heap.size + 1, 3, none⟩ = some (.int .i64 y1) ∧ w'.cell? ⟨WF.heap.size, 0, none⟩ = some (.int .i64 y0) ∧ w'.cell? ⟨WF.heap.size, 1, none⟩ = some (.int .i64 x0) ∧ w'.cell? ⟨WF.heap.size, 2, none⟩ = some (.int .i64 y1) ∧ w'.cell? ⟨WF.heap.size, 3, none⟩ = some (.int .i64 x1)) (((try dsimp only); (repeat' apply And.intro) <;> (first | (with_reducible assumption) | ((repeat (first | (with_reducible refine Eq.trans (cell_drew1 _ _) ?_) | (with_reducible refine Eq.trans (cell_far (by omega) _ _ _) ?_) | (with_reducible refine Eq.trans (World.cell?_alloc_lt _ _ _ (by first | (dsimp only; omega) | (simp only [World.size_alloc, World.size_setCell]; omega))) ?_))); with_reducible assumption) | assumption | go_keep)))
    (first
      | (clear tk1x0; go_at_call 23; refine (G1.out _).mono ?_; rintro e w12 ⟨rfl, bb⟩; replace bb := nextw (w0 := WG) (by exact sm) bb; replace B_y := mv B_y bb; replace B_r := mv B_r bb; replace B_e := mv B_e bb; replace B_f := mv B_f bb; replace B_q := mv B_q bb; replace B_g := mv B_g bb; replace HB := nx HB bb; clear bb c0e c1e c0f c1f c0g c1g c0y c1y c2y c3y c4y c0r c1r c2r c3r c0q c1q c2q c3q; have c0e : w12.cell? ⟨w9.heap.size, 0, none⟩ = some (.int .i64 N1) := B_e.out.cell 0 rfl; have c1e : w12.cell? ⟨w9.heap.size, 1, none⟩ = some (.int .i64 D1) := B_e.out.cell 1 rfl; have c0f : w12.cell? ⟨w10.heap.size, 0, none⟩ = some (.int .i64 N1) := B_f.out.cell 0 rfl; have c1f : w12.cell? ⟨w10.heap.size, 1, none⟩ = some (.int .i64 D1) := B_f.out.cell 1 rfl; have c0g : w12.cell? ⟨w11.heap.size, 0, none⟩ = some (.int .i64 N1) := B_g.out.cell 0 rfl; have c1g : w12.cell? ⟨w11.heap.size, 1, none⟩ = some (.int .i64 D1) := B_g.out.cell 1 rfl; have c0y : w12.cell? ⟨w.heap.size, 0, none⟩ = some (.int .i64 a) := B_y.out.cell 0 rfl; have c1y : w12.cell? ⟨w.heap.size, 1, none⟩ = some (.int .i64 b) := B_y.out.cell 1 rfl; have c2y : w12.cell? ⟨w.heap.size, 2, none⟩ = some (.int .i64 x) := B_y.out.cell 2 rfl; have c3y : w12.cell? ⟨w.heap.size, 3, none⟩ = some (.int .i64 y) := B_y.out.cell 3 rfl; have c4y : w12.cell? ⟨w.heap.size, 4, none⟩ = some (.int .i64 d) := B_y.out.cell 4 rfl; have c0r : w12.cell? ⟨w.heap.size + 1, 0, none⟩ = some (.int .i64 x0) := B_r.out.cell 0 rfl; have c1r : w12.cell? ⟨w.heap.size + 1, 1, none⟩ = some (.int .i64 y0) := B_r.out.cell 1 rfl; have c2r : w12.cell? ⟨w.heap.size + 1, 2, none⟩ = some (.int .i64 x1) := B_r.out.cell 2 rfl; have c3r : w12.cell? ⟨w.heap.size + 1, 3, none⟩ = some (.int .i64 y1) := B_r.out.cell 3 rfl; have c0q : w12.cell? ⟨WF.heap.size, 0, none⟩ = some (.int .i64 y0) := B_q.out.cell 0 rfl; have c1q : w12.cell? ⟨WF.heap.size, 1, none⟩ = some (.int .i64 x0) := B_q.out.cell 1 rfl; have c2q : w12.cell? ⟨WF.heap.size, 2, none⟩ = some (.int .i64 y1) := B_q.out.cell 2 rfl; have c3q : w12.cell? ⟨WF.heap.size, 3, none⟩ = some (.int .i64 x1) := B_q.out.cell 3 rfl; have tk1x1 : True := trivial)
      | (clear tk1x1; go_at_call 23; refine (G2.out _).mono ?_; rintro e w13 ⟨rfl, bb⟩; replace bb := nextw (w0 := w12) (by exact sm) bb; replace B_y := mv B_y bb; replace B_r := mv B_r bb; replace B_e := mv B_e bb; replace B_f := mv B_f bb; replace B_q := mv B_q bb; replace B_g := mv B_g bb; replace HB := nx HB bb; clear bb c0e c1e c0f c1f c0g c1g c0y c1y c2y c3y c4y c0r c1r c2r c3r c0q c1q c2q c3q; have c0e : w13.cell? ⟨w9.heap.size, 0, none⟩ = some (.int .i64 N1) := B_e.out.cell 0 rfl; have c1e : w13.cell? ⟨w9.heap.size, 1, none⟩ = some (.int .i64 D1) := B_e.out.cell 1 rfl; have c0f : w13.cell? ⟨w10.heap.size, 0, none⟩ = some (.int .i64 N1) := B_f.out.cell 0 rfl; have c1f : w13.cell? ⟨w10.heap.size, 1, none⟩ = some (.int .i64 D1) := B_f.out.cell 1 rfl; have c0g : w13.cell? ⟨w11.heap.size, 0, none⟩ = some (.int .i64 N1) := B_g.out.cell 0 rfl; have c1g : w13.cell? ⟨w11.heap.size, 1, none⟩ = some (.int .i64 D1) := B_g.out.cell 1 rfl; have c0y : w13.cell? ⟨w.heap.size, 0, none⟩ = some (.int .i64 a) := B_y.out.cell 0 rfl; have c1y : w13.cell? ⟨w.heap.size, 1, none⟩ = some (.int .i64 b) := B_y.out.cell 1 rfl; have c2y : w13.cell? ⟨w.heap.size, 2, none⟩ = some (.int .i64 x) := B_y.out.cell 2 rfl; have c3y : w13.cell? ⟨w.heap.size, 3, none⟩ = some (.int .i64 y) := B_y.out.cell 3 rfl; have c4y : w13.cell? ⟨w.heap.size, 4, none⟩ = some (.int .i64 d) := B_y.out.cell 4 rfl; have c0r : w13.cell? ⟨w.heap.size + 1, 0, none⟩ = some (.int .i64 x0) := B_r.out.cell 0 rfl; have c1r : w13.cell? ⟨w.heap.size + 1, 1, none⟩ = some (.int .i64 y0) := B_r.out.cell 1 rfl; have c2r : w13.cell? ⟨w.heap.size + 1, 2, none⟩ = some (.int .i64 x1) := B_r.out.cell 2 rfl; have c3r : w13.cell? ⟨w.heap.size + 1, 3, none⟩ = some (.int .i64 y1) := B_r.out.cell 3 rfl; have c0q : w13.cell? ⟨WF.heap.size, 0, none⟩ = some (.int .i64 y0) := B_q.out.cell 0 rfl; have c1q : w13.cell? ⟨WF.heap.size, 1, none⟩ = some (.int .i64 x0) := B_q.out.cell 1 rfl; have c2q : w13.cell? ⟨WF.heap.size, 2, none⟩ = some (.int .i64 y1) := B_q.out.cell 2 rfl; have c3q : w13.cell? ⟨WF.heap.size, 3, none⟩ = some (.int .i64 x1) := B_q.out.cell 3 rfl; have tk1x2 : True := trivial))
  clear c0e c1e c0f c1f c0g c1g c0y c1y c2y c3y c4y c0r c1r c2r c3r c0q c1q c2q c3q
  go_wp2
  go_ret
  exact ⟨rfl, nextw HB.out (by exact sm)⟩

theorem Moves_any (a b x y d x0 y0 x1 y1 u v : Int) (u1 : -32768 ≤ u) (u2 : u ≤ 32767) (v1 : -32768 ≤ v) (v2 : v ≤ 32767) (w : World) : Calls Try.prog 10 #[.agg #[.int .i64 a, .int .i64 b, .int .i64 x, .int .i64 y, .int .i64 d], .agg #[.int .i64 x0, .int .i64 y0, .int .i64 x1, .int .i64 y1], .agg #[.int .i16 u, .int .i16 v]] w fun e w' => e = .returned (.bool true) ∧ Below w.heap.size w w' := by
  by_cases h0 : (-1048576 ≤ a ∧ a ≤ 1048576)
  · skip
    by_cases h1 : (-1048576 ≤ b ∧ b ≤ 1048576)
    · skip
      by_cases h2 : (-1048576 ≤ x0 ∧ x0 ≤ 1048576)
      · skip
        by_cases h3 : (-1048576 ≤ x1 ∧ x1 ≤ 1048576)
        · skip
          by_cases h4 : (-1048576 ≤ y0 ∧ y0 ≤ 1048576)
          · skip
            by_cases h5 : (-1048576 ≤ y1 ∧ y1 ≤ 1048576)
            · exact Moves_ok a b x y d x0 y0 x1 y1 u v h0 h1 h2 h3 h4 h5 u1 u2 v1 v2 w
            · exact Moves_5 a b x y d x0 y0 x1 y1 u v h0 h1 h2 h3 h4 h5 w
          · exact Moves_4 a b x y d x0 y0 x1 y1 u v h0 h1 h2 h3 h4 w
        · exact Moves_3 a b x y d x0 y0 x1 y1 u v h0 h1 h2 h3 w
      · exact Moves_2 a b x y d x0 y0 x1 y1 u v h0 h1 h2 w
    · exact Moves_1 a b x y d x0 y0 x1 y1 u v h0 h1 w
  · exact Moves_0 a b x y d x0 y0 x1 y1 u v h0 w
end Go.Proofs.Ytaflgmiagjldhaa
