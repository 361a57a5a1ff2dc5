/- The laws SegmentEnters, SegmentMeets. -/
import Derived.Test.YtaflgmiagjldhaaS10
set_option linter.unusedVariables false
set_option linter.unusedSimpArgs false
namespace Go.Proofs.Ytaflgmiagjldhaa
open Go Go.RowKit Hd

theorem ValidRect_any (x0 y0 x1 y1 : Int) (w : World) : Calls Try.prog 17 #[.agg #[.int .i64 x0, .int .i64 y0, .int .i64 x1, .int .i64 y1]] w fun e w' => e = .returned (.bool (decide (OkR x0 y0 x1 y1))) ∧ Below w.heap.size w w' := by
  by_cases h : OkR x0 y0 x1 y1
  · rw [decide_eq_true h]; exact ValidRect_t h w
  · rw [decide_eq_false h]; exact ValidRect_f h w
theorem RValidRect_any (x0 y0 x1 y1 : Int) (w : World) : Calls Try.prog 18 #[.agg #[.int .i64 x0, .int .i64 y0, .int .i64 x1, .int .i64 y1]] w fun e w' => e = .returned (.bool (decide (OkR x0 y0 x1 y1))) ∧ Below w.heap.size w w' := by
  by_cases h : OkR x0 y0 x1 y1
  · rw [decide_eq_true h]; exact RValidRect_t x0 y0 x1 y1 h w
  · rw [decide_eq_false h]; exact RValidRect_f x0 y0 x1 y1 h w

set_option maxRecDepth 100000 in
set_option maxHeartbeats 8000000 in
theorem Enters_any (a b x y d x0 y0 x1 y1 : Int) (w : World) :
    Calls Try.prog 3 #[.agg #[.int .i64 a, .int .i64 b, .int .i64 x, .int .i64 y, .int .i64 d], .agg #[.int .i64 x0, .int .i64 y0, .int .i64 x1, .int .i64 y1]] w fun e w' => e = .returned (.bool true) ∧ Below w.heap.size w w' := by
  have HA := Lib.hid (fun w => awake_any w)
  have H0 := Lib.hid (fun w => Enter_any a b x y d x0 y0 x1 y1 w)
  have H1 := Lib.hid (fun w => Leave_any a b x y d x0 y0 x1 y1 w)
  have H2 := Lib.hid (fun w => REnter_any a b x y d x0 y0 x1 y1 w)
  have H3 := Lib.hid (fun w => RLeave_any a b x y d x0 y0 x1 y1 w)
  have HV := Lib.hid (fun w => ValidRect_any x0 y0 x1 y1 w)
  have HW := Lib.hid (fun w => RValidRect_any x0 y0 x1 y1 w)
  generalize enN a b x y d x0 y0 x1 y1 = N1 at *
  generalize enD a b x y d x0 y0 x1 y1 = D1 at *
  generalize leN a b x y d x0 y0 x1 y1 = N2 at *
  generalize leD a b x y d x0 y0 x1 y1 = D2 at *
  generalize visB a b x y d x0 y0 x1 y1 = t at *
  generalize decide (OkR x0 y0 x1 y1) = s at *
  obtain ⟨HB, B_y, B_r⟩ := box2 w 27 #[.int .i64 a, .int .i64 b, .int .i64 x, .int .i64 y, .int .i64 d] 29 #[.int .i64 x0, .int .i64 y0, .int .i64 x1, .int .i64 y1]
  go_enter Try.func3, Try.ntmps3
  go_wp2_with fail
  generalize (w.alloc (.cells #[.int .i64 a, .int .i64 b, .int .i64 x, .int .i64 y, .int .i64 d] 27)).alloc (.cells #[.int .i64 x0, .int .i64 y0, .int .i64 x1, .int .i64 y1] 29) = W0 at *
  refine (HA.out _).mono ?_
  rintro e w1 ⟨rfl, bb⟩
  replace bb := nextw (w0 := W0) (by exact sm) bb
  replace B_y := mv B_y bb
  replace B_r := mv B_r bb
  replace HB := nx HB bb
  clear bb
  obtain ⟨c0y, c1y, c2y, c3y, c4y⟩ := cells5 B_y
  obtain ⟨c0r, c1r, c2r, c3r⟩ := cells4 B_r
  go_wp2_with fail
  refine (H0.out _).mono ?_
  clear c0y c1y c2y c3y c4y c0r c1r c2r c3r
  rintro e w2 ⟨rfl, bb⟩
  replace bb := nextw (w0 := w1) (by exact sm) bb
  replace B_y := mv B_y bb
  replace B_r := mv B_r bb
  replace HB := nx HB bb
  clear bb
  have lt_ey := B_y.out.lt
  have lt_er := B_r.out.lt
  obtain ⟨bb, B_e⟩ := box1 w2 32 #[.int .i64 N1, .int .i64 D1]
  replace bb := bb.out
  replace B_y := mv B_y bb
  replace B_r := mv B_r bb
  replace HB := nx HB bb
  clear bb
  go_upto_region 4 with (fail)
  generalize w2.alloc (.cells #[.int .i64 N1, .int .i64 D1] 32) = We at *
  obtain ⟨c0y, c1y, c2y, c3y, c4y⟩ := cells5 B_y
  obtain ⟨c0r, c1r, c2r, c3r⟩ := cells4 B_r
  go_wp2_with fail
  refine (H1.out _).mono ?_
  clear c0y c1y c2y c3y c4y c0r c1r c2r c3r
  rintro e w3 ⟨rfl, bb⟩
  replace bb := nextw (w0 := We) (by exact sm) bb
  replace B_y := mv B_y bb
  replace B_r := mv B_r bb
  replace B_e := mv B_e bb
  replace HB := nx HB bb
  clear bb
  have lt_ly := B_y.out.lt
  have lt_lr := B_r.out.lt
  have lt_le := B_e.out.lt
  obtain ⟨bb, B_l⟩ := box1 w3 32 #[.int .i64 N2, .int .i64 D2]
  replace bb := bb.out
  replace B_y := mv B_y bb
  replace B_r := mv B_r bb
  replace B_e := mv B_e bb
  replace HB := nx HB bb
  clear bb
  go_upto_region 5 with (fail)
  generalize w3.alloc (.cells #[.int .i64 N2, .int .i64 D2] 32) = Wl at *
  obtain ⟨c0y, c1y, c2y, c3y, c4y⟩ := cells5 B_y
  obtain ⟨c0r, c1r, c2r, c3r⟩ := cells4 B_r
  go_wp2_with fail
  refine (H2.out _).mono ?_
  clear c0y c1y c2y c3y c4y c0r c1r c2r c3r
  rintro e w4 ⟨rfl, bb⟩
  replace bb := nextw (w0 := Wl) (by exact sm) bb
  replace B_y := mv B_y bb
  replace B_r := mv B_r bb
  replace B_e := mv B_e bb
  replace B_l := mv B_l bb
  replace HB := nx HB bb
  clear bb
  have lt_fy := B_y.out.lt
  have lt_fr := B_r.out.lt
  have lt_fe := B_e.out.lt
  have lt_fl := B_l.out.lt
  obtain ⟨bb, B_f⟩ := box1 w4 32 #[.int .i64 N1, .int .i64 D1]
  replace bb := bb.out
  replace B_y := mv B_y bb
  replace B_r := mv B_r bb
  replace B_e := mv B_e bb
  replace B_l := mv B_l bb
  replace HB := nx HB bb
  clear bb
  go_upto_region 6 with (fail)
  generalize w4.alloc (.cells #[.int .i64 N1, .int .i64 D1] 32) = Wf at *
  obtain ⟨c0y, c1y, c2y, c3y, c4y⟩ := cells5 B_y
  obtain ⟨c0r, c1r, c2r, c3r⟩ := cells4 B_r
  go_wp2_with fail
  refine (H3.out _).mono ?_
  clear c0y c1y c2y c3y c4y c0r c1r c2r c3r
  rintro e w5 ⟨rfl, bb⟩
  replace bb := nextw (w0 := Wf) (by exact sm) bb
  replace B_y := mv B_y bb
  replace B_r := mv B_r bb
  replace B_e := mv B_e bb
  replace B_l := mv B_l bb
  replace B_f := mv B_f bb
  replace HB := nx HB bb
  clear bb
  have lt_my := B_y.out.lt
  have lt_mr := B_r.out.lt
  have lt_me := B_e.out.lt
  have lt_ml := B_l.out.lt
  have lt_mf := B_f.out.lt
  obtain ⟨bb, B_m⟩ := box1 w5 32 #[.int .i64 N2, .int .i64 D2]
  replace bb := bb.out
  replace B_y := mv B_y bb
  replace B_r := mv B_r bb
  replace B_e := mv B_e bb
  replace B_l := mv B_l bb
  replace B_f := mv B_f bb
  replace HB := nx HB bb
  clear bb
  go_upto_region 7 with (fail)
  generalize w5.alloc (.cells #[.int .i64 N2, .int .i64 D2] 32) = Wm at *
  clear HA H0 H1 H2 H3
  clear B_y
  go_wp2_with fail
  obtain ⟨c0e, c1e⟩ := cells2 B_e
  obtain ⟨c0l, c1l⟩ := cells2 B_l
  obtain ⟨c0f, c1f⟩ := cells2 B_f
  obtain ⟨c0m, c1m⟩ := cells2 B_m
  obtain ⟨c0r, c1r, c2r, c3r⟩ := cells4 B_r
  have tk1x0 : True := trivial
  go_region_held3 (fun w' => w'.cell? ⟨w2.heap.size, 0, none⟩ = some (.int .i64 N1) ∧ w'.cell? ⟨w2.heap.size, 1, none⟩ = some (.int .i64 D1) ∧ w'.cell? ⟨w3.heap.size, 0, none⟩ = some (.int .i64 N2) ∧ w'.cell? ⟨w3.heap.size, 1, none⟩ = some (.int .i64 D2) ∧ w'.cell? ⟨w4.heap.size, 0, none⟩ = some (.int .i64 N1) ∧ w'.cell? ⟨w4.heap.size, 1, none⟩ = some (.int .i64 D1) ∧ w'.cell? ⟨w5.heap.size, 0, none⟩ = some (.int .i64 N2) ∧ w'.cell? ⟨w5.heap.size, 1, none⟩ = some (.int .i64 D2) ∧ w'.cell? ⟨w.heap.size + 1, 0, none⟩ = some (.int .i64 x0) ∧ w'.cell? ⟨w.heap.size + 1, 1, none⟩ = some (.int .i64 y0) ∧ w'.cell? ⟨w.heap.size + 1, 2, none⟩ = some (.int .i64 x1) ∧ w'.cell? ⟨w.heap.size + 1, 3, none⟩ = some (.int .i64 y1)) (((try dsimp only); (repeat' apply And.intro) <;> (first | (with_reducible assumption) | ((repeat (first | (with_reducible refine Eq.trans (cell_drew1 _ _) ?_) | (with_reducible refine Eq.trans (cell_far (by omega) _ _ _) ?_) | (with_reducible refine Eq.trans (World.cell?_alloc_lt _ _ _ (by first | (dsimp only; omega) | (simp only [World.size_alloc, World.size_setCell]; omega))) ?_))); with_reducible assumption) | assumption | go_keep)))
    (first
      | (clear tk1x0; go_at_call 17; refine (HV.out _).mono ?_; rintro e w6 ⟨rfl, bb⟩; replace bb := nextw (w0 := Wm) (by exact sm) bb; replace B_r := mv B_r bb; replace B_e := mv B_e bb; replace B_l := mv B_l bb; replace B_f := mv B_f bb; replace B_m := mv B_m bb; replace HB := nx HB bb; clear bb c0e c1e c0l c1l c0f c1f c0m c1m c0r c1r c2r c3r; have c0e : w6.cell? ⟨w2.heap.size, 0, none⟩ = some (.int .i64 N1) := B_e.out.cell 0 rfl; have c1e : w6.cell? ⟨w2.heap.size, 1, none⟩ = some (.int .i64 D1) := B_e.out.cell 1 rfl; have c0l : w6.cell? ⟨w3.heap.size, 0, none⟩ = some (.int .i64 N2) := B_l.out.cell 0 rfl; have c1l : w6.cell? ⟨w3.heap.size, 1, none⟩ = some (.int .i64 D2) := B_l.out.cell 1 rfl; have c0f : w6.cell? ⟨w4.heap.size, 0, none⟩ = some (.int .i64 N1) := B_f.out.cell 0 rfl; have c1f : w6.cell? ⟨w4.heap.size, 1, none⟩ = some (.int .i64 D1) := B_f.out.cell 1 rfl; have c0m : w6.cell? ⟨w5.heap.size, 0, none⟩ = some (.int .i64 N2) := B_m.out.cell 0 rfl; have c1m : w6.cell? ⟨w5.heap.size, 1, none⟩ = some (.int .i64 D2) := B_m.out.cell 1 rfl; have c0r : w6.cell? ⟨w.heap.size + 1, 0, none⟩ = some (.int .i64 x0) := B_r.out.cell 0 rfl; have c1r : w6.cell? ⟨w.heap.size + 1, 1, none⟩ = some (.int .i64 y0) := B_r.out.cell 1 rfl; have c2r : w6.cell? ⟨w.heap.size + 1, 2, none⟩ = some (.int .i64 x1) := B_r.out.cell 2 rfl; have c3r : w6.cell? ⟨w.heap.size + 1, 3, none⟩ = some (.int .i64 y1) := B_r.out.cell 3 rfl; have tk1x1 : True := trivial)
      | (clear tk1x1; go_at_call 18; refine (HW.out _).mono ?_; rintro e w7 ⟨rfl, bb⟩; replace bb := nextw (w0 := w6) (by exact sm) bb; replace B_r := mv B_r bb; replace B_e := mv B_e bb; replace B_l := mv B_l bb; replace B_f := mv B_f bb; replace B_m := mv B_m bb; replace HB := nx HB bb; clear bb c0e c1e c0l c1l c0f c1f c0m c1m c0r c1r c2r c3r; have c0e : w7.cell? ⟨w2.heap.size, 0, none⟩ = some (.int .i64 N1) := B_e.out.cell 0 rfl; have c1e : w7.cell? ⟨w2.heap.size, 1, none⟩ = some (.int .i64 D1) := B_e.out.cell 1 rfl; have c0l : w7.cell? ⟨w3.heap.size, 0, none⟩ = some (.int .i64 N2) := B_l.out.cell 0 rfl; have c1l : w7.cell? ⟨w3.heap.size, 1, none⟩ = some (.int .i64 D2) := B_l.out.cell 1 rfl; have c0f : w7.cell? ⟨w4.heap.size, 0, none⟩ = some (.int .i64 N1) := B_f.out.cell 0 rfl; have c1f : w7.cell? ⟨w4.heap.size, 1, none⟩ = some (.int .i64 D1) := B_f.out.cell 1 rfl; have c0m : w7.cell? ⟨w5.heap.size, 0, none⟩ = some (.int .i64 N2) := B_m.out.cell 0 rfl; have c1m : w7.cell? ⟨w5.heap.size, 1, none⟩ = some (.int .i64 D2) := B_m.out.cell 1 rfl; have c0r : w7.cell? ⟨w.heap.size + 1, 0, none⟩ = some (.int .i64 x0) := B_r.out.cell 0 rfl; have c1r : w7.cell? ⟨w.heap.size + 1, 1, none⟩ = some (.int .i64 y0) := B_r.out.cell 1 rfl; have c2r : w7.cell? ⟨w.heap.size + 1, 2, none⟩ = some (.int .i64 x1) := B_r.out.cell 2 rfl; have c3r : w7.cell? ⟨w.heap.size + 1, 3, none⟩ = some (.int .i64 y1) := B_r.out.cell 3 rfl; have tk1x2 : True := trivial))
  clear c0e c1e c0l c1l c0f c1f c0m c1m c0r c1r c2r c3r
  go_wp2
  go_ret
  exact ⟨rfl, nextw HB.out (by exact sm)⟩

set_option maxRecDepth 100000 in
set_option maxHeartbeats 8000000 in
theorem LMeets_any (a b x y d x0 y0 x1 y1 lo hi : Int) (w : World) :
    Calls Try.prog 4 #[.agg #[.int .i64 a, .int .i64 b, .int .i64 x, .int .i64 y, .int .i64 d], .agg #[.int .i64 x0, .int .i64 y0, .int .i64 x1, .int .i64 y1], .agg #[.int .i64 lo, .int .i64 hi]] w fun e w' => e = .returned (.bool true) ∧ Below w.heap.size w w' := by
  have HA := Lib.hid (fun w => awake_any w)
  have H0 := Lib.hid (fun w => Meets_any a b x y d lo hi x0 y0 x1 y1 w)
  have H1 := Lib.hid (fun w => RMeets_any a b x y d lo hi x0 y0 x1 y1 w)
  have H2 := Lib.hid (fun w => Before_any a b x y d hi x0 y0 x1 y1 w)
  have H3 := Lib.hid (fun w => RBefore_any a b x y d hi x0 y0 x1 y1 w)
  generalize meB a b x y d lo hi x0 y0 x1 y1 = s at *
  generalize beB a b x y d hi x0 y0 x1 y1 = t at *
  obtain ⟨HB, B_y, B_r, B_t⟩ := box3 w 27 #[.int .i64 a, .int .i64 b, .int .i64 x, .int .i64 y, .int .i64 d] 29 #[.int .i64 x0, .int .i64 y0, .int .i64 x1, .int .i64 y1] 37 #[.int .i64 lo, .int .i64 hi]
  go_enter Try.func4, Try.ntmps4
  go_wp2_with fail
  generalize ((w.alloc (.cells #[.int .i64 a, .int .i64 b, .int .i64 x, .int .i64 y, .int .i64 d] 27)).alloc (.cells #[.int .i64 x0, .int .i64 y0, .int .i64 x1, .int .i64 y1] 29)).alloc (.cells #[.int .i64 lo, .int .i64 hi] 37) = W0 at *
  refine (HA.out _).mono ?_
  rintro e w1 ⟨rfl, bb⟩
  replace bb := nextw (w0 := W0) (by exact sm) bb
  replace B_y := mv B_y bb
  replace B_r := mv B_r bb
  replace B_t := mv B_t bb
  replace HB := nx HB bb
  clear bb
  clear HA
  go_wp2_with fail
  obtain ⟨c0y, c1y, c2y, c3y, c4y⟩ := cells5 B_y
  obtain ⟨c0r, c1r, c2r, c3r⟩ := cells4 B_r
  obtain ⟨c0t, c1t⟩ := cells2 B_t
  have tk1x0 : True := trivial
  go_region_held3 (fun w' => w'.cell? ⟨w.heap.size, 0, none⟩ = some (.int .i64 a) ∧ w'.cell? ⟨w.heap.size, 1, none⟩ = some (.int .i64 b) ∧ w'.cell? ⟨w.heap.size, 2, none⟩ = some (.int .i64 x) ∧ w'.cell? ⟨w.heap.size, 3, none⟩ = some (.int .i64 y) ∧ w'.cell? ⟨w.heap.size, 4, none⟩ = some (.int .i64 d) ∧ w'.cell? ⟨w.heap.size + 1, 0, none⟩ = some (.int .i64 x0) ∧ w'.cell? ⟨w.heap.size + 1, 1, none⟩ = some (.int .i64 y0) ∧ w'.cell? ⟨w.heap.size + 1, 2, none⟩ = some (.int .i64 x1) ∧ w'.cell? ⟨w.heap.size + 1, 3, none⟩ = some (.int .i64 y1) ∧ w'.cell? ⟨w.heap.size + 1 + 1, 0, none⟩ = some (.int .i64 lo) ∧ w'.cell? ⟨w.heap.size + 1 + 1, 1, none⟩ = some (.int .i64 hi)) (((try dsimp only); (repeat' apply And.intro) <;> (first | (with_reducible assumption) | ((repeat (first | (with_reducible refine Eq.trans (cell_drew1 _ _) ?_) | (with_reducible refine Eq.trans (cell_far (by omega) _ _ _) ?_) | (with_reducible refine Eq.trans (World.cell?_alloc_lt _ _ _ (by first | (dsimp only; omega) | (simp only [World.size_alloc, World.size_setCell]; omega))) ?_))); with_reducible assumption) | assumption | go_keep)))
    (first
      | (clear tk1x0; go_at_call 19; refine (H0.out _).mono ?_; rintro e w2 ⟨rfl, bb⟩; replace bb := nextw (w0 := w1) (by exact sm) bb; replace B_y := mv B_y bb; replace B_r := mv B_r bb; replace B_t := mv B_t bb; replace HB := nx HB bb; clear bb c0y c1y c2y c3y c4y c0r c1r c2r c3r c0t c1t; have c0y : w2.cell? ⟨w.heap.size, 0, none⟩ = some (.int .i64 a) := B_y.out.cell 0 rfl; have c1y : w2.cell? ⟨w.heap.size, 1, none⟩ = some (.int .i64 b) := B_y.out.cell 1 rfl; have c2y : w2.cell? ⟨w.heap.size, 2, none⟩ = some (.int .i64 x) := B_y.out.cell 2 rfl; have c3y : w2.cell? ⟨w.heap.size, 3, none⟩ = some (.int .i64 y) := B_y.out.cell 3 rfl; have c4y : w2.cell? ⟨w.heap.size, 4, none⟩ = some (.int .i64 d) := B_y.out.cell 4 rfl; have c0r : w2.cell? ⟨w.heap.size + 1, 0, none⟩ = some (.int .i64 x0) := B_r.out.cell 0 rfl; have c1r : w2.cell? ⟨w.heap.size + 1, 1, none⟩ = some (.int .i64 y0) := B_r.out.cell 1 rfl; have c2r : w2.cell? ⟨w.heap.size + 1, 2, none⟩ = some (.int .i64 x1) := B_r.out.cell 2 rfl; have c3r : w2.cell? ⟨w.heap.size + 1, 3, none⟩ = some (.int .i64 y1) := B_r.out.cell 3 rfl; have c0t : w2.cell? ⟨w.heap.size + 1 + 1, 0, none⟩ = some (.int .i64 lo) := B_t.out.cell 0 rfl; have c1t : w2.cell? ⟨w.heap.size + 1 + 1, 1, none⟩ = some (.int .i64 hi) := B_t.out.cell 1 rfl; have tk1x1 : True := trivial)
      | (clear tk1x1; go_at_call 20; refine (H1.out _).mono ?_; rintro e w3 ⟨rfl, bb⟩; replace bb := nextw (w0 := w2) (by exact sm) bb; replace B_y := mv B_y bb; replace B_r := mv B_r bb; replace B_t := mv B_t bb; replace HB := nx HB bb; clear bb c0y c1y c2y c3y c4y c0r c1r c2r c3r c0t c1t; have c0y : w3.cell? ⟨w.heap.size, 0, none⟩ = some (.int .i64 a) := B_y.out.cell 0 rfl; have c1y : w3.cell? ⟨w.heap.size, 1, none⟩ = some (.int .i64 b) := B_y.out.cell 1 rfl; have c2y : w3.cell? ⟨w.heap.size, 2, none⟩ = some (.int .i64 x) := B_y.out.cell 2 rfl; have c3y : w3.cell? ⟨w.heap.size, 3, none⟩ = some (.int .i64 y) := B_y.out.cell 3 rfl; have c4y : w3.cell? ⟨w.heap.size, 4, none⟩ = some (.int .i64 d) := B_y.out.cell 4 rfl; have c0r : w3.cell? ⟨w.heap.size + 1, 0, none⟩ = some (.int .i64 x0) := B_r.out.cell 0 rfl; have c1r : w3.cell? ⟨w.heap.size + 1, 1, none⟩ = some (.int .i64 y0) := B_r.out.cell 1 rfl; have c2r : w3.cell? ⟨w.heap.size + 1, 2, none⟩ = some (.int .i64 x1) := B_r.out.cell 2 rfl; have c3r : w3.cell? ⟨w.heap.size + 1, 3, none⟩ = some (.int .i64 y1) := B_r.out.cell 3 rfl; have c0t : w3.cell? ⟨w.heap.size + 1 + 1, 0, none⟩ = some (.int .i64 lo) := B_t.out.cell 0 rfl; have c1t : w3.cell? ⟨w.heap.size + 1 + 1, 1, none⟩ = some (.int .i64 hi) := B_t.out.cell 1 rfl; have tk1x2 : True := trivial)
      | (clear tk1x2; go_at_call 21; refine (H2.out _).mono ?_; rintro e w4 ⟨rfl, bb⟩; replace bb := nextw (w0 := w3) (by exact sm) bb; replace B_y := mv B_y bb; replace B_r := mv B_r bb; replace B_t := mv B_t bb; replace HB := nx HB bb; clear bb c0y c1y c2y c3y c4y c0r c1r c2r c3r c0t c1t; have c0y : w4.cell? ⟨w.heap.size, 0, none⟩ = some (.int .i64 a) := B_y.out.cell 0 rfl; have c1y : w4.cell? ⟨w.heap.size, 1, none⟩ = some (.int .i64 b) := B_y.out.cell 1 rfl; have c2y : w4.cell? ⟨w.heap.size, 2, none⟩ = some (.int .i64 x) := B_y.out.cell 2 rfl; have c3y : w4.cell? ⟨w.heap.size, 3, none⟩ = some (.int .i64 y) := B_y.out.cell 3 rfl; have c4y : w4.cell? ⟨w.heap.size, 4, none⟩ = some (.int .i64 d) := B_y.out.cell 4 rfl; have c0r : w4.cell? ⟨w.heap.size + 1, 0, none⟩ = some (.int .i64 x0) := B_r.out.cell 0 rfl; have c1r : w4.cell? ⟨w.heap.size + 1, 1, none⟩ = some (.int .i64 y0) := B_r.out.cell 1 rfl; have c2r : w4.cell? ⟨w.heap.size + 1, 2, none⟩ = some (.int .i64 x1) := B_r.out.cell 2 rfl; have c3r : w4.cell? ⟨w.heap.size + 1, 3, none⟩ = some (.int .i64 y1) := B_r.out.cell 3 rfl; have c0t : w4.cell? ⟨w.heap.size + 1 + 1, 0, none⟩ = some (.int .i64 lo) := B_t.out.cell 0 rfl; have c1t : w4.cell? ⟨w.heap.size + 1 + 1, 1, none⟩ = some (.int .i64 hi) := B_t.out.cell 1 rfl; have tk1x3 : True := trivial)
      | (clear tk1x3; go_at_call 22; refine (H3.out _).mono ?_; rintro e w5 ⟨rfl, bb⟩; replace bb := nextw (w0 := w4) (by exact sm) bb; replace B_y := mv B_y bb; replace B_r := mv B_r bb; replace B_t := mv B_t bb; replace HB := nx HB bb; clear bb c0y c1y c2y c3y c4y c0r c1r c2r c3r c0t c1t; have c0y : w5.cell? ⟨w.heap.size, 0, none⟩ = some (.int .i64 a) := B_y.out.cell 0 rfl; have c1y : w5.cell? ⟨w.heap.size, 1, none⟩ = some (.int .i64 b) := B_y.out.cell 1 rfl; have c2y : w5.cell? ⟨w.heap.size, 2, none⟩ = some (.int .i64 x) := B_y.out.cell 2 rfl; have c3y : w5.cell? ⟨w.heap.size, 3, none⟩ = some (.int .i64 y) := B_y.out.cell 3 rfl; have c4y : w5.cell? ⟨w.heap.size, 4, none⟩ = some (.int .i64 d) := B_y.out.cell 4 rfl; have c0r : w5.cell? ⟨w.heap.size + 1, 0, none⟩ = some (.int .i64 x0) := B_r.out.cell 0 rfl; have c1r : w5.cell? ⟨w.heap.size + 1, 1, none⟩ = some (.int .i64 y0) := B_r.out.cell 1 rfl; have c2r : w5.cell? ⟨w.heap.size + 1, 2, none⟩ = some (.int .i64 x1) := B_r.out.cell 2 rfl; have c3r : w5.cell? ⟨w.heap.size + 1, 3, none⟩ = some (.int .i64 y1) := B_r.out.cell 3 rfl; have c0t : w5.cell? ⟨w.heap.size + 1 + 1, 0, none⟩ = some (.int .i64 lo) := B_t.out.cell 0 rfl; have c1t : w5.cell? ⟨w.heap.size + 1 + 1, 1, none⟩ = some (.int .i64 hi) := B_t.out.cell 1 rfl; have tk1x4 : True := trivial))
  clear c0y c1y c2y c3y c4y c0r c1r c2r c3r c0t c1t
  go_wp2
  go_ret
  exact ⟨rfl, nextw HB.out (by exact sm)⟩
end Go.Proofs.Ytaflgmiagjldhaa
