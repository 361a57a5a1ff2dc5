/- The law SegmentOrders. -/
import Derived.Test.YtaflgmiagjldhaaSLaw
set_option linter.unusedVariables false
set_option linter.unusedSimpArgs false
namespace Go.Proofs.Ytaflgmiagjldhaa
open Go Go.RowKit Hd

set_option maxRecDepth 100000 in
set_option maxHeartbeats 8000000 in
theorem Orders_r1 (a b x y d x0 y0 x1 y1 lo hi : Int) (l0 : lo < 0) (w : World) :
    Calls Try.prog 9 #[.agg #[.int .i64 a, .int .i64 b, .int .i64 x, .int .i64 y, .int .i64 d], .agg #[.int .i64 x0, .int .i64 y0, .int .i64 x1, .int .i64 y1], .agg #[.int .i64 lo, .int .i64 hi]] w fun e w' => e = .returned (.bool true) ∧ Below w.heap.size w w' := by
  have HA := Lib.hid (fun w => awake_any w)
  have H0 := Lib.hid (fun w => Enter_any a b x y d x0 y0 x1 y1 w)
  have H1 := Lib.hid (fun w => Leave_any a b x y d x0 y0 x1 y1 w)
  have H2 := Lib.hid (fun w => Meets_any a b x y d lo hi x0 y0 x1 y1 w)
  have H3 := Lib.hid (fun w => Before_any a b x y d hi x0 y0 x1 y1 w)
  have hm : meB a b x y d lo hi x0 y0 x1 y1 = false := by unfold meB; rw [decide_eq_false (by omega)]; rfl
  rw [hm] at H2
  clear hm H3
  generalize enN a b x y d x0 y0 x1 y1 = N1 at *
  generalize enD a b x y d x0 y0 x1 y1 = D1 at *
  generalize leN a b x y d x0 y0 x1 y1 = N2 at *
  generalize leD a b x y d x0 y0 x1 y1 = D2 at *
  generalize visB a b x y d x0 y0 x1 y1 = t at *
  obtain ⟨HB, B_y, B_r, B_t⟩ := box3 w 27 #[.int .i64 a, .int .i64 b, .int .i64 x, .int .i64 y, .int .i64 d] 29 #[.int .i64 x0, .int .i64 y0, .int .i64 x1, .int .i64 y1] 37 #[.int .i64 lo, .int .i64 hi]
  go_enter Try.func9, Try.ntmps9
  go_wp2_with fail
  generalize ((w.alloc (.cells #[.int .i64 a, .int .i64 b, .int .i64 x, .int .i64 y, .int .i64 d] 27)).alloc (.cells #[.int .i64 x0, .int .i64 y0, .int .i64 x1, .int .i64 y1] 29)).alloc (.cells #[.int .i64 lo, .int .i64 hi] 37) = W0 at *
  refine (HA.out _).mono ?_
  rintro e w1 ⟨rfl, bb⟩
  replace bb := nextw (w0 := W0) (by exact sm) bb
  replace B_y := mv B_y bb
  replace B_r := mv B_r bb
  replace B_t := mv B_t bb
  replace HB := nx HB bb
  clear bb
  obtain ⟨c0y, c1y, c2y, c3y, c4y⟩ := cells5 B_y
  obtain ⟨c0r, c1r, c2r, c3r⟩ := cells4 B_r
  go_wp2_with fail
  refine (H0.out _).mono ?_
  clear c0y c1y c2y c3y c4y c0r c1r c2r c3r
  rintro e w2 ⟨rfl, bb⟩
  replace bb := nextw (w0 := w1) (by exact sm) bb
  replace B_y := mv B_y bb
  replace B_r := mv B_r bb
  replace B_t := mv B_t bb
  replace HB := nx HB bb
  clear bb
  have lt_ey := B_y.out.lt
  have lt_er := B_r.out.lt
  have lt_et := B_t.out.lt
  obtain ⟨bb, B_e⟩ := box1 w2 32 #[.int .i64 N1, .int .i64 D1]
  replace bb := bb.out
  replace B_y := mv B_y bb
  replace B_r := mv B_r bb
  replace B_t := mv B_t bb
  replace HB := nx HB bb
  clear bb
  go_upto_region 4 with (fail)
  generalize w2.alloc (.cells #[.int .i64 N1, .int .i64 D1] 32) = WE at *
  obtain ⟨c0y, c1y, c2y, c3y, c4y⟩ := cells5 B_y
  obtain ⟨c0r, c1r, c2r, c3r⟩ := cells4 B_r
  go_wp2_with fail
  refine (H1.out _).mono ?_
  clear c0y c1y c2y c3y c4y c0r c1r c2r c3r
  rintro e w3 ⟨rfl, bb⟩
  replace bb := nextw (w0 := WE) (by exact sm) bb
  replace B_y := mv B_y bb
  replace B_r := mv B_r bb
  replace B_t := mv B_t bb
  replace B_e := mv B_e bb
  replace HB := nx HB bb
  clear bb
  have lt_ly := B_y.out.lt
  have lt_lr := B_r.out.lt
  have lt_lt := B_t.out.lt
  have lt_le := B_e.out.lt
  obtain ⟨bb, B_l⟩ := box1 w3 32 #[.int .i64 N2, .int .i64 D2]
  replace bb := bb.out
  replace B_y := mv B_y bb
  replace B_r := mv B_r bb
  replace B_t := mv B_t bb
  replace B_e := mv B_e bb
  replace HB := nx HB bb
  clear bb
  go_upto_region 5 with (fail)
  generalize w3.alloc (.cells #[.int .i64 N2, .int .i64 D2] 32) = WL at *
  clear HA H0 H1
  obtain ⟨c0t, c1t⟩ := cells2 B_t
  go_upto_region 7 with (fail)
  go_quiet (fail)
  clear c0t c1t
  have bb : Below WL.heap.size WL (WL.drewN nq) := bel_drewN (Below.refl _ _) _
  generalize WL.drewN nq = w4q at *
  replace B_y := mv B_y bb
  replace B_r := mv B_r bb
  replace B_t := mv B_t bb
  replace B_e := mv B_e bb
  replace B_l := mv B_l bb
  replace HB := nx HB bb
  clear bb
  go_upto_region 9 with (fail)
  obtain ⟨c0y, c1y, c2y, c3y, c4y⟩ := cells5 B_y
  obtain ⟨c0r, c1r, c2r, c3r⟩ := cells4 B_r
  go_wp2_with fail
  refine (H2.out _).mono ?_
  clear c0y c1y c2y c3y c4y c0r c1r c2r c3r
  rintro e w5 ⟨rfl, bb⟩
  replace bb := nextw (w0 := w4q) (by exact sm) bb
  replace B_y := mv B_y bb
  replace B_r := mv B_r bb
  replace B_t := mv B_t bb
  replace B_e := mv B_e bb
  replace B_l := mv B_l bb
  replace HB := nx HB bb
  clear bb
  go_wp2
  go_ret
  exact ⟨rfl, nextw HB.out (by exact sm)⟩

set_option maxRecDepth 100000 in
set_option maxHeartbeats 8000000 in
theorem Orders_r2 (a b x y d x0 y0 x1 y1 lo hi : Int) (l0 : 0 ≤ lo) (l1 : hi < lo) (w : World) :
    Calls Try.prog 9 #[.agg #[.int .i64 a, .int .i64 b, .int .i64 x, .int .i64 y, .int .i64 d], .agg #[.int .i64 x0, .int .i64 y0, .int .i64 x1, .int .i64 y1], .agg #[.int .i64 lo, .int .i64 hi]] w fun e w' => e = .returned (.bool true) ∧ Below w.heap.size w w' := by
  have HA := Lib.hid (fun w => awake_any w)
  have H0 := Lib.hid (fun w => Enter_any a b x y d x0 y0 x1 y1 w)
  have H1 := Lib.hid (fun w => Leave_any a b x y d x0 y0 x1 y1 w)
  have H2 := Lib.hid (fun w => Meets_any a b x y d lo hi x0 y0 x1 y1 w)
  have H3 := Lib.hid (fun w => Before_any a b x y d hi x0 y0 x1 y1 w)
  have hm : meB a b x y d lo hi x0 y0 x1 y1 = false := by unfold meB; rw [decide_eq_false (by omega)]; rfl
  rw [hm] at H2
  clear hm H3
  generalize enN a b x y d x0 y0 x1 y1 = N1 at *
  generalize enD a b x y d x0 y0 x1 y1 = D1 at *
  generalize leN a b x y d x0 y0 x1 y1 = N2 at *
  generalize leD a b x y d x0 y0 x1 y1 = D2 at *
  generalize visB a b x y d x0 y0 x1 y1 = t at *
  obtain ⟨HB, B_y, B_r, B_t⟩ := box3 w 27 #[.int .i64 a, .int .i64 b, .int .i64 x, .int .i64 y, .int .i64 d] 29 #[.int .i64 x0, .int .i64 y0, .int .i64 x1, .int .i64 y1] 37 #[.int .i64 lo, .int .i64 hi]
  go_enter Try.func9, Try.ntmps9
  go_wp2_with fail
  generalize ((w.alloc (.cells #[.int .i64 a, .int .i64 b, .int .i64 x, .int .i64 y, .int .i64 d] 27)).alloc (.cells #[.int .i64 x0, .int .i64 y0, .int .i64 x1, .int .i64 y1] 29)).alloc (.cells #[.int .i64 lo, .int .i64 hi] 37) = W0 at *
  refine (HA.out _).mono ?_
  rintro e w1 ⟨rfl, bb⟩
  replace bb := nextw (w0 := W0) (by exact sm) bb
  replace B_y := mv B_y bb
  replace B_r := mv B_r bb
  replace B_t := mv B_t bb
  replace HB := nx HB bb
  clear bb
  obtain ⟨c0y, c1y, c2y, c3y, c4y⟩ := cells5 B_y
  obtain ⟨c0r, c1r, c2r, c3r⟩ := cells4 B_r
  go_wp2_with fail
  refine (H0.out _).mono ?_
  clear c0y c1y c2y c3y c4y c0r c1r c2r c3r
  rintro e w2 ⟨rfl, bb⟩
  replace bb := nextw (w0 := w1) (by exact sm) bb
  replace B_y := mv B_y bb
  replace B_r := mv B_r bb
  replace B_t := mv B_t bb
  replace HB := nx HB bb
  clear bb
  have lt_ey := B_y.out.lt
  have lt_er := B_r.out.lt
  have lt_et := B_t.out.lt
  obtain ⟨bb, B_e⟩ := box1 w2 32 #[.int .i64 N1, .int .i64 D1]
  replace bb := bb.out
  replace B_y := mv B_y bb
  replace B_r := mv B_r bb
  replace B_t := mv B_t bb
  replace HB := nx HB bb
  clear bb
  go_upto_region 4 with (fail)
  generalize w2.alloc (.cells #[.int .i64 N1, .int .i64 D1] 32) = WE at *
  obtain ⟨c0y, c1y, c2y, c3y, c4y⟩ := cells5 B_y
  obtain ⟨c0r, c1r, c2r, c3r⟩ := cells4 B_r
  go_wp2_with fail
  refine (H1.out _).mono ?_
  clear c0y c1y c2y c3y c4y c0r c1r c2r c3r
  rintro e w3 ⟨rfl, bb⟩
  replace bb := nextw (w0 := WE) (by exact sm) bb
  replace B_y := mv B_y bb
  replace B_r := mv B_r bb
  replace B_t := mv B_t bb
  replace B_e := mv B_e bb
  replace HB := nx HB bb
  clear bb
  have lt_ly := B_y.out.lt
  have lt_lr := B_r.out.lt
  have lt_lt := B_t.out.lt
  have lt_le := B_e.out.lt
  obtain ⟨bb, B_l⟩ := box1 w3 32 #[.int .i64 N2, .int .i64 D2]
  replace bb := bb.out
  replace B_y := mv B_y bb
  replace B_r := mv B_r bb
  replace B_t := mv B_t bb
  replace B_e := mv B_e bb
  replace HB := nx HB bb
  clear bb
  go_upto_region 5 with (fail)
  generalize w3.alloc (.cells #[.int .i64 N2, .int .i64 D2] 32) = WL at *
  clear HA H0 H1
  obtain ⟨c0t, c1t⟩ := cells2 B_t
  go_upto_region 7 with (fail)
  go_quiet (fail)
  clear c0t c1t
  have bb : Below WL.heap.size WL (WL.drewN nq) := bel_drewN (Below.refl _ _) _
  generalize WL.drewN nq = w4q at *
  replace B_y := mv B_y bb
  replace B_r := mv B_r bb
  replace B_t := mv B_t bb
  replace B_e := mv B_e bb
  replace B_l := mv B_l bb
  replace HB := nx HB bb
  clear bb
  go_upto_region 9 with (fail)
  obtain ⟨c0y, c1y, c2y, c3y, c4y⟩ := cells5 B_y
  obtain ⟨c0r, c1r, c2r, c3r⟩ := cells4 B_r
  go_wp2_with fail
  refine (H2.out _).mono ?_
  clear c0y c1y c2y c3y c4y c0r c1r c2r c3r
  rintro e w5 ⟨rfl, bb⟩
  replace bb := nextw (w0 := w4q) (by exact sm) bb
  replace B_y := mv B_y bb
  replace B_r := mv B_r bb
  replace B_t := mv B_t bb
  replace B_e := mv B_e bb
  replace B_l := mv B_l bb
  replace HB := nx HB bb
  clear bb
  go_wp2
  go_ret
  exact ⟨rfl, nextw HB.out (by exact sm)⟩

set_option maxRecDepth 100000 in
set_option maxHeartbeats 8000000 in
theorem Orders_r3 (a b x y d x0 y0 x1 y1 lo hi : Int) (l0 : 0 ≤ lo) (l1 : lo ≤ hi) (l2 : 65536 < hi) (w : World) :
    Calls Try.prog 9 #[.agg #[.int .i64 a, .int .i64 b, .int .i64 x, .int .i64 y, .int .i64 d], .agg #[.int .i64 x0, .int .i64 y0, .int .i64 x1, .int .i64 y1], .agg #[.int .i64 lo, .int .i64 hi]] w fun e w' => e = .returned (.bool true) ∧ Below w.heap.size w w' := by
  have HA := Lib.hid (fun w => awake_any w)
  have H0 := Lib.hid (fun w => Enter_any a b x y d x0 y0 x1 y1 w)
  have H1 := Lib.hid (fun w => Leave_any a b x y d x0 y0 x1 y1 w)
  have H2 := Lib.hid (fun w => Meets_any a b x y d lo hi x0 y0 x1 y1 w)
  have H3 := Lib.hid (fun w => Before_any a b x y d hi x0 y0 x1 y1 w)
  have hm : meB a b x y d lo hi x0 y0 x1 y1 = false := by unfold meB; rw [decide_eq_false (by omega)]; rfl
  rw [hm] at H2
  clear hm H3
  generalize enN a b x y d x0 y0 x1 y1 = N1 at *
  generalize enD a b x y d x0 y0 x1 y1 = D1 at *
  generalize leN a b x y d x0 y0 x1 y1 = N2 at *
  generalize leD a b x y d x0 y0 x1 y1 = D2 at *
  generalize visB a b x y d x0 y0 x1 y1 = t at *
  obtain ⟨HB, B_y, B_r, B_t⟩ := box3 w 27 #[.int .i64 a, .int .i64 b, .int .i64 x, .int .i64 y, .int .i64 d] 29 #[.int .i64 x0, .int .i64 y0, .int .i64 x1, .int .i64 y1] 37 #[.int .i64 lo, .int .i64 hi]
  go_enter Try.func9, Try.ntmps9
  go_wp2_with fail
  generalize ((w.alloc (.cells #[.int .i64 a, .int .i64 b, .int .i64 x, .int .i64 y, .int .i64 d] 27)).alloc (.cells #[.int .i64 x0, .int .i64 y0, .int .i64 x1, .int .i64 y1] 29)).alloc (.cells #[.int .i64 lo, .int .i64 hi] 37) = W0 at *
  refine (HA.out _).mono ?_
  rintro e w1 ⟨rfl, bb⟩
  replace bb := nextw (w0 := W0) (by exact sm) bb
  replace B_y := mv B_y bb
  replace B_r := mv B_r bb
  replace B_t := mv B_t bb
  replace HB := nx HB bb
  clear bb
  obtain ⟨c0y, c1y, c2y, c3y, c4y⟩ := cells5 B_y
  obtain ⟨c0r, c1r, c2r, c3r⟩ := cells4 B_r
  go_wp2_with fail
  refine (H0.out _).mono ?_
  clear c0y c1y c2y c3y c4y c0r c1r c2r c3r
  rintro e w2 ⟨rfl, bb⟩
  replace bb := nextw (w0 := w1) (by exact sm) bb
  replace B_y := mv B_y bb
  replace B_r := mv B_r bb
  replace B_t := mv B_t bb
  replace HB := nx HB bb
  clear bb
  have lt_ey := B_y.out.lt
  have lt_er := B_r.out.lt
  have lt_et := B_t.out.lt
  obtain ⟨bb, B_e⟩ := box1 w2 32 #[.int .i64 N1, .int .i64 D1]
  replace bb := bb.out
  replace B_y := mv B_y bb
  replace B_r := mv B_r bb
  replace B_t := mv B_t bb
  replace HB := nx HB bb
  clear bb
  go_upto_region 4 with (fail)
  generalize w2.alloc (.cells #[.int .i64 N1, .int .i64 D1] 32) = WE at *
  obtain ⟨c0y, c1y, c2y, c3y, c4y⟩ := cells5 B_y
  obtain ⟨c0r, c1r, c2r, c3r⟩ := cells4 B_r
  go_wp2_with fail
  refine (H1.out _).mono ?_
  clear c0y c1y c2y c3y c4y c0r c1r c2r c3r
  rintro e w3 ⟨rfl, bb⟩
  replace bb := nextw (w0 := WE) (by exact sm) bb
  replace B_y := mv B_y bb
  replace B_r := mv B_r bb
  replace B_t := mv B_t bb
  replace B_e := mv B_e bb
  replace HB := nx HB bb
  clear bb
  have lt_ly := B_y.out.lt
  have lt_lr := B_r.out.lt
  have lt_lt := B_t.out.lt
  have lt_le := B_e.out.lt
  obtain ⟨bb, B_l⟩ := box1 w3 32 #[.int .i64 N2, .int .i64 D2]
  replace bb := bb.out
  replace B_y := mv B_y bb
  replace B_r := mv B_r bb
  replace B_t := mv B_t bb
  replace B_e := mv B_e bb
  replace HB := nx HB bb
  clear bb
  go_upto_region 5 with (fail)
  generalize w3.alloc (.cells #[.int .i64 N2, .int .i64 D2] 32) = WL at *
  clear HA H0 H1
  obtain ⟨c0t, c1t⟩ := cells2 B_t
  go_upto_region 7 with (fail)
  go_quiet (fail)
  clear c0t c1t
  have bb : Below WL.heap.size WL (WL.drewN nq) := bel_drewN (Below.refl _ _) _
  generalize WL.drewN nq = w4q at *
  replace B_y := mv B_y bb
  replace B_r := mv B_r bb
  replace B_t := mv B_t bb
  replace B_e := mv B_e bb
  replace B_l := mv B_l bb
  replace HB := nx HB bb
  clear bb
  go_upto_region 9 with (fail)
  obtain ⟨c0y, c1y, c2y, c3y, c4y⟩ := cells5 B_y
  obtain ⟨c0r, c1r, c2r, c3r⟩ := cells4 B_r
  go_wp2_with fail
  refine (H2.out _).mono ?_
  clear c0y c1y c2y c3y c4y c0r c1r c2r c3r
  rintro e w5 ⟨rfl, bb⟩
  replace bb := nextw (w0 := w4q) (by exact sm) bb
  replace B_y := mv B_y bb
  replace B_r := mv B_r bb
  replace B_t := mv B_t bb
  replace B_e := mv B_e bb
  replace B_l := mv B_l bb
  replace HB := nx HB bb
  clear bb
  go_wp2
  go_ret
  exact ⟨rfl, nextw HB.out (by exact sm)⟩

set_option maxRecDepth 100000 in
set_option maxHeartbeats 8000000 in
theorem Orders_n (a b x y d x0 y0 x1 y1 lo hi : Int) (l0 : 0 ≤ lo) (l1 : lo ≤ hi) (l2 : hi ≤ 65536) (h : visB a b x y d x0 y0 x1 y1 = false) (w : World) :
    Calls Try.prog 9 #[.agg #[.int .i64 a, .int .i64 b, .int .i64 x, .int .i64 y, .int .i64 d], .agg #[.int .i64 x0, .int .i64 y0, .int .i64 x1, .int .i64 y1], .agg #[.int .i64 lo, .int .i64 hi]] w fun e w' => e = .returned (.bool true) ∧ Below w.heap.size w w' := by
  have HA := Lib.hid (fun w => awake_any w)
  have H0 := Lib.hid (fun w => Enter_any a b x y d x0 y0 x1 y1 w)
  have H1 := Lib.hid (fun w => Leave_any a b x y d x0 y0 x1 y1 w)
  have H2 := Lib.hid (fun w => Meets_any a b x y d lo hi x0 y0 x1 y1 w)
  have H3 := Lib.hid (fun w => Before_any a b x y d hi x0 y0 x1 y1 w)
  have hm : meB a b x y d lo hi x0 y0 x1 y1 = false := by unfold meB; rw [h, Bool.false_and, Bool.and_false]
  have hb : beB a b x y d hi x0 y0 x1 y1 = false := by unfold beB; rw [h, Bool.false_and, Bool.and_false]
  rw [hm] at H2
  rw [hb] at H3
  rw [h] at H0 H1
  clear hm hb h
  generalize enN a b x y d x0 y0 x1 y1 = N1 at *
  generalize enD a b x y d x0 y0 x1 y1 = D1 at *
  generalize leN a b x y d x0 y0 x1 y1 = N2 at *
  generalize leD a b x y d x0 y0 x1 y1 = D2 at *
  obtain ⟨HB, B_y, B_r, B_t⟩ := box3 w 27 #[.int .i64 a, .int .i64 b, .int .i64 x, .int .i64 y, .int .i64 d] 29 #[.int .i64 x0, .int .i64 y0, .int .i64 x1, .int .i64 y1] 37 #[.int .i64 lo, .int .i64 hi]
  go_enter Try.func9, Try.ntmps9
  go_wp2_with fail
  generalize ((w.alloc (.cells #[.int .i64 a, .int .i64 b, .int .i64 x, .int .i64 y, .int .i64 d] 27)).alloc (.cells #[.int .i64 x0, .int .i64 y0, .int .i64 x1, .int .i64 y1] 29)).alloc (.cells #[.int .i64 lo, .int .i64 hi] 37) = W0 at *
  refine (HA.out _).mono ?_
  rintro e w1 ⟨rfl, bb⟩
  replace bb := nextw (w0 := W0) (by exact sm) bb
  replace B_y := mv B_y bb
  replace B_r := mv B_r bb
  replace B_t := mv B_t bb
  replace HB := nx HB bb
  clear bb
  obtain ⟨c0y, c1y, c2y, c3y, c4y⟩ := cells5 B_y
  obtain ⟨c0r, c1r, c2r, c3r⟩ := cells4 B_r
  go_wp2_with fail
  refine (H0.out _).mono ?_
  clear c0y c1y c2y c3y c4y c0r c1r c2r c3r
  rintro e w2 ⟨rfl, bb⟩
  replace bb := nextw (w0 := w1) (by exact sm) bb
  replace B_y := mv B_y bb
  replace B_r := mv B_r bb
  replace B_t := mv B_t bb
  replace HB := nx HB bb
  clear bb
  have lt_ey := B_y.out.lt
  have lt_er := B_r.out.lt
  have lt_et := B_t.out.lt
  obtain ⟨bb, B_e⟩ := box1 w2 32 #[.int .i64 N1, .int .i64 D1]
  replace bb := bb.out
  replace B_y := mv B_y bb
  replace B_r := mv B_r bb
  replace B_t := mv B_t bb
  replace HB := nx HB bb
  clear bb
  go_upto_region 4 with (fail)
  generalize w2.alloc (.cells #[.int .i64 N1, .int .i64 D1] 32) = WE at *
  obtain ⟨c0y, c1y, c2y, c3y, c4y⟩ := cells5 B_y
  obtain ⟨c0r, c1r, c2r, c3r⟩ := cells4 B_r
  go_wp2_with fail
  refine (H1.out _).mono ?_
  clear c0y c1y c2y c3y c4y c0r c1r c2r c3r
  rintro e w3 ⟨rfl, bb⟩
  replace bb := nextw (w0 := WE) (by exact sm) bb
  replace B_y := mv B_y bb
  replace B_r := mv B_r bb
  replace B_t := mv B_t bb
  replace B_e := mv B_e bb
  replace HB := nx HB bb
  clear bb
  have lt_ly := B_y.out.lt
  have lt_lr := B_r.out.lt
  have lt_lt := B_t.out.lt
  have lt_le := B_e.out.lt
  obtain ⟨bb, B_l⟩ := box1 w3 32 #[.int .i64 N2, .int .i64 D2]
  replace bb := bb.out
  replace B_y := mv B_y bb
  replace B_r := mv B_r bb
  replace B_t := mv B_t bb
  replace B_e := mv B_e bb
  replace HB := nx HB bb
  clear bb
  go_upto_region 5 with (fail)
  generalize w3.alloc (.cells #[.int .i64 N2, .int .i64 D2] 32) = WL at *
  clear HA H0 H1
  obtain ⟨c0t, c1t⟩ := cells2 B_t
  go_upto_region 7 with (fail)
  go_quiet (fail)
  clear c0t c1t
  have bb : Below WL.heap.size WL (WL.drewN nq) := bel_drewN (Below.refl _ _) _
  generalize WL.drewN nq = w4q at *
  replace B_y := mv B_y bb
  replace B_r := mv B_r bb
  replace B_t := mv B_t bb
  replace B_e := mv B_e bb
  replace B_l := mv B_l bb
  replace HB := nx HB bb
  clear bb
  go_upto_region 11 with (fail)
  obtain ⟨c0y, c1y, c2y, c3y, c4y⟩ := cells5 B_y
  obtain ⟨c0r, c1r, c2r, c3r⟩ := cells4 B_r
  go_wp2_with fail
  refine (H2.out _).mono ?_
  clear c0y c1y c2y c3y c4y c0r c1r c2r c3r
  rintro e w5 ⟨rfl, bb⟩
  replace bb := nextw (w0 := w4q) (by exact sm) bb
  replace B_y := mv B_y bb
  replace B_r := mv B_r bb
  replace B_t := mv B_t bb
  replace B_e := mv B_e bb
  replace B_l := mv B_l bb
  replace HB := nx HB bb
  clear bb
  obtain ⟨c0y, c1y, c2y, c3y, c4y⟩ := cells5 B_y
  obtain ⟨c0r, c1r, c2r, c3r⟩ := cells4 B_r
  go_wp2_with fail
  refine (H3.out _).mono ?_
  clear c0y c1y c2y c3y c4y c0r c1r c2r c3r
  rintro e w6 ⟨rfl, bb⟩
  replace bb := nextw (w0 := w5) (by exact sm) bb
  replace B_y := mv B_y bb
  replace B_r := mv B_r bb
  replace B_t := mv B_t bb
  replace B_e := mv B_e bb
  replace B_l := mv B_l bb
  replace HB := nx HB bb
  clear bb
  go_wp2
  go_ret
  exact ⟨rfl, nextw HB.out (by exact sm)⟩

set_option maxRecDepth 100000 in
set_option maxHeartbeats 8000000 in
theorem Orders_vttt (a b x y d x0 y0 x1 y1 lo hi : Int) (l0 : 0 ≤ lo) (l1 : lo ≤ hi) (l2 : hi ≤ 65536) (h : visB a b x y d x0 y0 x1 y1 = true) (g1 : (enN a b x y d x0 y0 x1 y1) ≤ hi * (enD a b x y d x0 y0 x1 y1)) (g2 : lo * (leD a b x y d x0 y0 x1 y1) ≤ (leN a b x y d x0 y0 x1 y1)) (g3 : (enN a b x y d x0 y0 x1 y1) < hi * (enD a b x y d x0 y0 x1 y1)) (w : World) :
    Calls Try.prog 9 #[.agg #[.int .i64 a, .int .i64 b, .int .i64 x, .int .i64 y, .int .i64 d], .agg #[.int .i64 x0, .int .i64 y0, .int .i64 x1, .int .i64 y1], .agg #[.int .i64 lo, .int .i64 hi]] w fun e w' => e = .returned (.bool true) ∧ Below w.heap.size w w' := by
  have HA := Lib.hid (fun w => awake_any w)
  have H0 := Lib.hid (fun w => Enter_any a b x y d x0 y0 x1 y1 w)
  have H1 := Lib.hid (fun w => Leave_any a b x y d x0 y0 x1 y1 w)
  have H2 := Lib.hid (fun w => Meets_any a b x y d lo hi x0 y0 x1 y1 w)
  have H3 := Lib.hid (fun w => Before_any a b x y d hi x0 y0 x1 y1 w)
  obtain ⟨⟨n1, n2, d1, d2⟩, ⟨n3, n4, d3, d4⟩⟩ := en_bd h
  have hm : meB a b x y d lo hi x0 y0 x1 y1 = true := by rw [meB_alt, h, decide_eq_true (by omega), decide_eq_true g1, decide_eq_true g2]; rfl
  have hb : beB a b x y d hi x0 y0 x1 y1 = true := by rw [beB_alt, h, decide_eq_true (by omega), decide_eq_true g3]; rfl
  rw [hm] at H2
  rw [hb] at H3
  rw [h] at H0 H1
  clear hm hb h
  generalize enN a b x y d x0 y0 x1 y1 = N1 at *
  generalize enD a b x y d x0 y0 x1 y1 = D1 at *
  generalize leN a b x y d x0 y0 x1 y1 = N2 at *
  generalize leD a b x y d x0 y0 x1 y1 = D2 at *
  have m0 := bnd (a := hi) (b := D1) (by omega) (by omega) (by omega) (by omega)
  have m1 := bnd (a := lo) (b := D2) (by omega) (by omega) (by omega) (by omega)
  obtain ⟨HB, B_y, B_r, B_t⟩ := box3 w 27 #[.int .i64 a, .int .i64 b, .int .i64 x, .int .i64 y, .int .i64 d] 29 #[.int .i64 x0, .int .i64 y0, .int .i64 x1, .int .i64 y1] 37 #[.int .i64 lo, .int .i64 hi]
  go_enter Try.func9, Try.ntmps9
  go_wp2_with fail
  generalize ((w.alloc (.cells #[.int .i64 a, .int .i64 b, .int .i64 x, .int .i64 y, .int .i64 d] 27)).alloc (.cells #[.int .i64 x0, .int .i64 y0, .int .i64 x1, .int .i64 y1] 29)).alloc (.cells #[.int .i64 lo, .int .i64 hi] 37) = W0 at *
  refine (HA.out _).mono ?_
  rintro e w1 ⟨rfl, bb⟩
  replace bb := nextw (w0 := W0) (by exact sm) bb
  replace B_y := mv B_y bb
  replace B_r := mv B_r bb
  replace B_t := mv B_t bb
  replace HB := nx HB bb
  clear bb
  obtain ⟨c0y, c1y, c2y, c3y, c4y⟩ := cells5 B_y
  obtain ⟨c0r, c1r, c2r, c3r⟩ := cells4 B_r
  go_wp2_with fail
  refine (H0.out _).mono ?_
  clear c0y c1y c2y c3y c4y c0r c1r c2r c3r
  rintro e w2 ⟨rfl, bb⟩
  replace bb := nextw (w0 := w1) (by exact sm) bb
  replace B_y := mv B_y bb
  replace B_r := mv B_r bb
  replace B_t := mv B_t bb
  replace HB := nx HB bb
  clear bb
  have lt_ey := B_y.out.lt
  have lt_er := B_r.out.lt
  have lt_et := B_t.out.lt
  obtain ⟨bb, B_e⟩ := box1 w2 32 #[.int .i64 N1, .int .i64 D1]
  replace bb := bb.out
  replace B_y := mv B_y bb
  replace B_r := mv B_r bb
  replace B_t := mv B_t bb
  replace HB := nx HB bb
  clear bb
  go_upto_region 4 with (fail)
  generalize w2.alloc (.cells #[.int .i64 N1, .int .i64 D1] 32) = WE at *
  obtain ⟨c0y, c1y, c2y, c3y, c4y⟩ := cells5 B_y
  obtain ⟨c0r, c1r, c2r, c3r⟩ := cells4 B_r
  go_wp2_with fail
  refine (H1.out _).mono ?_
  clear c0y c1y c2y c3y c4y c0r c1r c2r c3r
  rintro e w3 ⟨rfl, bb⟩
  replace bb := nextw (w0 := WE) (by exact sm) bb
  replace B_y := mv B_y bb
  replace B_r := mv B_r bb
  replace B_t := mv B_t bb
  replace B_e := mv B_e bb
  replace HB := nx HB bb
  clear bb
  have lt_ly := B_y.out.lt
  have lt_lr := B_r.out.lt
  have lt_lt := B_t.out.lt
  have lt_le := B_e.out.lt
  obtain ⟨bb, B_l⟩ := box1 w3 32 #[.int .i64 N2, .int .i64 D2]
  replace bb := bb.out
  replace B_y := mv B_y bb
  replace B_r := mv B_r bb
  replace B_t := mv B_t bb
  replace B_e := mv B_e bb
  replace HB := nx HB bb
  clear bb
  go_upto_region 5 with (fail)
  generalize w3.alloc (.cells #[.int .i64 N2, .int .i64 D2] 32) = WL at *
  clear HA H0 H1
  obtain ⟨c0t, c1t⟩ := cells2 B_t
  go_upto_region 7 with (fail)
  go_quiet (fail)
  clear c0t c1t
  have bb : Below WL.heap.size WL (WL.drewN nq) := bel_drewN (Below.refl _ _) _
  generalize WL.drewN nq = w4q at *
  replace B_y := mv B_y bb
  replace B_r := mv B_r bb
  replace B_t := mv B_t bb
  replace B_e := mv B_e bb
  replace B_l := mv B_l bb
  replace HB := nx HB bb
  clear bb
  go_upto_region 12 with (fail)
  obtain ⟨c0e, c1e⟩ := cells2 B_e
  obtain ⟨c0l, c1l⟩ := cells2 B_l
  go_upto_region 14 with (fail)
  clear c0e c1e c0l c1l
  have ew1 : IntKind.i64.wrap (hi * D1) = hi * D1 := by rw [IntKind.wrap_i64]; omega
  have ew2 : IntKind.i64.wrap (lo * D2) = lo * D2 := by rw [IntKind.wrap_i64]; omega
  go_wp2_with fail
  obtain ⟨c0y, c1y, c2y, c3y, c4y⟩ := cells5 B_y
  obtain ⟨c0r, c1r, c2r, c3r⟩ := cells4 B_r
  obtain ⟨c0e, c1e⟩ := cells2 B_e
  obtain ⟨c0l, c1l⟩ := cells2 B_l
  have tk1x0 : True := trivial
  go_region_held3 (fun w' => w'.cell? ⟨w.heap.size, 0, none⟩ = some (.int .i64 a) ∧ w'.cell? ⟨w.heap.size, 1, none⟩ = some (.int .i64 b) ∧ w'.cell? ⟨w.heap.size, 2, none⟩ = some (.int .i64 x) ∧ w'.cell? ⟨w.heap.size, 3, none⟩ = some (.int .i64 y) ∧ w'.cell? ⟨w.heap.size, 4, none⟩ = some (.int .i64 d) ∧ w'.cell? ⟨w.heap.size + 1, 0, none⟩ = some (.int .i64 x0) ∧ w'.cell? ⟨w.heap.size + 1, 1, none⟩ = some (.int .i64 y0) ∧ w'.cell? ⟨w.heap.size + 1, 2, none⟩ = some (.int .i64 x1) ∧ w'.cell? ⟨w.heap.size + 1, 3, none⟩ = some (.int .i64 y1) ∧ w'.cell? ⟨w2.heap.size, 0, none⟩ = some (.int .i64 N1) ∧ w'.cell? ⟨w2.heap.size, 1, none⟩ = some (.int .i64 D1) ∧ w'.cell? ⟨w3.heap.size, 0, none⟩ = some (.int .i64 N2) ∧ w'.cell? ⟨w3.heap.size, 1, none⟩ = some (.int .i64 D2)) (((try dsimp only); (repeat' apply And.intro) <;> (first | (with_reducible assumption) | ((repeat (first | (with_reducible refine Eq.trans (cell_drew1 _ _) ?_) | (with_reducible refine Eq.trans (cell_far (by omega) _ _ _) ?_) | (with_reducible refine Eq.trans (World.cell?_alloc_lt _ _ _ (by first | (dsimp only; omega) | (simp only [World.size_alloc, World.size_setCell]; omega))) ?_))); with_reducible assumption) | assumption | go_keep)))
    (first
      | (clear tk1x0; go_at_call 19; refine (H2.out _).mono ?_; rintro e w5 ⟨rfl, bb⟩; replace bb := nextw (w0 := w4q) (by exact sm) bb; replace B_y := mv B_y bb; replace B_r := mv B_r bb; replace B_t := mv B_t bb; replace B_e := mv B_e bb; replace B_l := mv B_l bb; replace HB := nx HB bb; clear bb c0y c1y c2y c3y c4y c0r c1r c2r c3r c0e c1e c0l c1l; have c0y : w5.cell? ⟨w.heap.size, 0, none⟩ = some (.int .i64 a) := B_y.out.cell 0 rfl; have c1y : w5.cell? ⟨w.heap.size, 1, none⟩ = some (.int .i64 b) := B_y.out.cell 1 rfl; have c2y : w5.cell? ⟨w.heap.size, 2, none⟩ = some (.int .i64 x) := B_y.out.cell 2 rfl; have c3y : w5.cell? ⟨w.heap.size, 3, none⟩ = some (.int .i64 y) := B_y.out.cell 3 rfl; have c4y : w5.cell? ⟨w.heap.size, 4, none⟩ = some (.int .i64 d) := B_y.out.cell 4 rfl; have c0r : w5.cell? ⟨w.heap.size + 1, 0, none⟩ = some (.int .i64 x0) := B_r.out.cell 0 rfl; have c1r : w5.cell? ⟨w.heap.size + 1, 1, none⟩ = some (.int .i64 y0) := B_r.out.cell 1 rfl; have c2r : w5.cell? ⟨w.heap.size + 1, 2, none⟩ = some (.int .i64 x1) := B_r.out.cell 2 rfl; have c3r : w5.cell? ⟨w.heap.size + 1, 3, none⟩ = some (.int .i64 y1) := B_r.out.cell 3 rfl; have c0e : w5.cell? ⟨w2.heap.size, 0, none⟩ = some (.int .i64 N1) := B_e.out.cell 0 rfl; have c1e : w5.cell? ⟨w2.heap.size, 1, none⟩ = some (.int .i64 D1) := B_e.out.cell 1 rfl; have c0l : w5.cell? ⟨w3.heap.size, 0, none⟩ = some (.int .i64 N2) := B_l.out.cell 0 rfl; have c1l : w5.cell? ⟨w3.heap.size, 1, none⟩ = some (.int .i64 D2) := B_l.out.cell 1 rfl; have tk1x1 : True := trivial)
      | (clear tk1x1; go_at_call 21; refine (H3.out _).mono ?_; rintro e w6 ⟨rfl, bb⟩; replace bb := nextw (w0 := w5) (by exact sm) bb; replace B_y := mv B_y bb; replace B_r := mv B_r bb; replace B_t := mv B_t bb; replace B_e := mv B_e bb; replace B_l := mv B_l bb; replace HB := nx HB bb; clear bb c0y c1y c2y c3y c4y c0r c1r c2r c3r c0e c1e c0l c1l; have c0y : w6.cell? ⟨w.heap.size, 0, none⟩ = some (.int .i64 a) := B_y.out.cell 0 rfl; have c1y : w6.cell? ⟨w.heap.size, 1, none⟩ = some (.int .i64 b) := B_y.out.cell 1 rfl; have c2y : w6.cell? ⟨w.heap.size, 2, none⟩ = some (.int .i64 x) := B_y.out.cell 2 rfl; have c3y : w6.cell? ⟨w.heap.size, 3, none⟩ = some (.int .i64 y) := B_y.out.cell 3 rfl; have c4y : w6.cell? ⟨w.heap.size, 4, none⟩ = some (.int .i64 d) := B_y.out.cell 4 rfl; have c0r : w6.cell? ⟨w.heap.size + 1, 0, none⟩ = some (.int .i64 x0) := B_r.out.cell 0 rfl; have c1r : w6.cell? ⟨w.heap.size + 1, 1, none⟩ = some (.int .i64 y0) := B_r.out.cell 1 rfl; have c2r : w6.cell? ⟨w.heap.size + 1, 2, none⟩ = some (.int .i64 x1) := B_r.out.cell 2 rfl; have c3r : w6.cell? ⟨w.heap.size + 1, 3, none⟩ = some (.int .i64 y1) := B_r.out.cell 3 rfl; have c0e : w6.cell? ⟨w2.heap.size, 0, none⟩ = some (.int .i64 N1) := B_e.out.cell 0 rfl; have c1e : w6.cell? ⟨w2.heap.size, 1, none⟩ = some (.int .i64 D1) := B_e.out.cell 1 rfl; have c0l : w6.cell? ⟨w3.heap.size, 0, none⟩ = some (.int .i64 N2) := B_l.out.cell 0 rfl; have c1l : w6.cell? ⟨w3.heap.size, 1, none⟩ = some (.int .i64 D2) := B_l.out.cell 1 rfl; have tk1x2 : True := trivial))
  clear c0y c1y c2y c3y c4y c0r c1r c2r c3r c0e c1e c0l c1l
  clear ew1 ew2
  go_wp2
  go_ret
  exact ⟨rfl, nextw HB.out (by exact sm)⟩

set_option maxRecDepth 100000 in
set_option maxHeartbeats 8000000 in
theorem Orders_vttf (a b x y d x0 y0 x1 y1 lo hi : Int) (l0 : 0 ≤ lo) (l1 : lo ≤ hi) (l2 : hi ≤ 65536) (h : visB a b x y d x0 y0 x1 y1 = true) (g1 : (enN a b x y d x0 y0 x1 y1) ≤ hi * (enD a b x y d x0 y0 x1 y1)) (g2 : lo * (leD a b x y d x0 y0 x1 y1) ≤ (leN a b x y d x0 y0 x1 y1)) (g3 : hi * (enD a b x y d x0 y0 x1 y1) ≤ (enN a b x y d x0 y0 x1 y1)) (w : World) :
    Calls Try.prog 9 #[.agg #[.int .i64 a, .int .i64 b, .int .i64 x, .int .i64 y, .int .i64 d], .agg #[.int .i64 x0, .int .i64 y0, .int .i64 x1, .int .i64 y1], .agg #[.int .i64 lo, .int .i64 hi]] w fun e w' => e = .returned (.bool true) ∧ Below w.heap.size w w' := by
  have HA := Lib.hid (fun w => awake_any w)
  have H0 := Lib.hid (fun w => Enter_any a b x y d x0 y0 x1 y1 w)
  have H1 := Lib.hid (fun w => Leave_any a b x y d x0 y0 x1 y1 w)
  have H2 := Lib.hid (fun w => Meets_any a b x y d lo hi x0 y0 x1 y1 w)
  have H3 := Lib.hid (fun w => Before_any a b x y d hi x0 y0 x1 y1 w)
  obtain ⟨⟨n1, n2, d1, d2⟩, ⟨n3, n4, d3, d4⟩⟩ := en_bd h
  have hm : meB a b x y d lo hi x0 y0 x1 y1 = true := by rw [meB_alt, h, decide_eq_true (by omega), decide_eq_true g1, decide_eq_true g2]; rfl
  have hb : beB a b x y d hi x0 y0 x1 y1 = false := by rw [beB_alt, h, decide_eq_true (by omega), decide_eq_false (by omega)]; rfl
  rw [hm] at H2
  rw [hb] at H3
  rw [h] at H0 H1
  clear hm hb h
  generalize enN a b x y d x0 y0 x1 y1 = N1 at *
  generalize enD a b x y d x0 y0 x1 y1 = D1 at *
  generalize leN a b x y d x0 y0 x1 y1 = N2 at *
  generalize leD a b x y d x0 y0 x1 y1 = D2 at *
  have m0 := bnd (a := hi) (b := D1) (by omega) (by omega) (by omega) (by omega)
  have m1 := bnd (a := lo) (b := D2) (by omega) (by omega) (by omega) (by omega)
  obtain ⟨HB, B_y, B_r, B_t⟩ := box3 w 27 #[.int .i64 a, .int .i64 b, .int .i64 x, .int .i64 y, .int .i64 d] 29 #[.int .i64 x0, .int .i64 y0, .int .i64 x1, .int .i64 y1] 37 #[.int .i64 lo, .int .i64 hi]
  go_enter Try.func9, Try.ntmps9
  go_wp2_with fail
  generalize ((w.alloc (.cells #[.int .i64 a, .int .i64 b, .int .i64 x, .int .i64 y, .int .i64 d] 27)).alloc (.cells #[.int .i64 x0, .int .i64 y0, .int .i64 x1, .int .i64 y1] 29)).alloc (.cells #[.int .i64 lo, .int .i64 hi] 37) = W0 at *
  refine (HA.out _).mono ?_
  rintro e w1 ⟨rfl, bb⟩
  replace bb := nextw (w0 := W0) (by exact sm) bb
  replace B_y := mv B_y bb
  replace B_r := mv B_r bb
  replace B_t := mv B_t bb
  replace HB := nx HB bb
  clear bb
  obtain ⟨c0y, c1y, c2y, c3y, c4y⟩ := cells5 B_y
  obtain ⟨c0r, c1r, c2r, c3r⟩ := cells4 B_r
  go_wp2_with fail
  refine (H0.out _).mono ?_
  clear c0y c1y c2y c3y c4y c0r c1r c2r c3r
  rintro e w2 ⟨rfl, bb⟩
  replace bb := nextw (w0 := w1) (by exact sm) bb
  replace B_y := mv B_y bb
  replace B_r := mv B_r bb
  replace B_t := mv B_t bb
  replace HB := nx HB bb
  clear bb
  have lt_ey := B_y.out.lt
  have lt_er := B_r.out.lt
  have lt_et := B_t.out.lt
  obtain ⟨bb, B_e⟩ := box1 w2 32 #[.int .i64 N1, .int .i64 D1]
  replace bb := bb.out
  replace B_y := mv B_y bb
  replace B_r := mv B_r bb
  replace B_t := mv B_t bb
  replace HB := nx HB bb
  clear bb
  go_upto_region 4 with (fail)
  generalize w2.alloc (.cells #[.int .i64 N1, .int .i64 D1] 32) = WE at *
  obtain ⟨c0y, c1y, c2y, c3y, c4y⟩ := cells5 B_y
  obtain ⟨c0r, c1r, c2r, c3r⟩ := cells4 B_r
  go_wp2_with fail
  refine (H1.out _).mono ?_
  clear c0y c1y c2y c3y c4y c0r c1r c2r c3r
  rintro e w3 ⟨rfl, bb⟩
  replace bb := nextw (w0 := WE) (by exact sm) bb
  replace B_y := mv B_y bb
  replace B_r := mv B_r bb
  replace B_t := mv B_t bb
  replace B_e := mv B_e bb
  replace HB := nx HB bb
  clear bb
  have lt_ly := B_y.out.lt
  have lt_lr := B_r.out.lt
  have lt_lt := B_t.out.lt
  have lt_le := B_e.out.lt
  obtain ⟨bb, B_l⟩ := box1 w3 32 #[.int .i64 N2, .int .i64 D2]
  replace bb := bb.out
  replace B_y := mv B_y bb
  replace B_r := mv B_r bb
  replace B_t := mv B_t bb
  replace B_e := mv B_e bb
  replace HB := nx HB bb
  clear bb
  go_upto_region 5 with (fail)
  generalize w3.alloc (.cells #[.int .i64 N2, .int .i64 D2] 32) = WL at *
  clear HA H0 H1
  obtain ⟨c0t, c1t⟩ := cells2 B_t
  go_upto_region 7 with (fail)
  go_quiet (fail)
  clear c0t c1t
  have bb : Below WL.heap.size WL (WL.drewN nq) := bel_drewN (Below.refl _ _) _
  generalize WL.drewN nq = w4q at *
  replace B_y := mv B_y bb
  replace B_r := mv B_r bb
  replace B_t := mv B_t bb
  replace B_e := mv B_e bb
  replace B_l := mv B_l bb
  replace HB := nx HB bb
  clear bb
  go_upto_region 12 with (fail)
  obtain ⟨c0e, c1e⟩ := cells2 B_e
  obtain ⟨c0l, c1l⟩ := cells2 B_l
  go_upto_region 14 with (fail)
  clear c0e c1e c0l c1l
  have ew1 : IntKind.i64.wrap (hi * D1) = hi * D1 := by rw [IntKind.wrap_i64]; omega
  have ew2 : IntKind.i64.wrap (lo * D2) = lo * D2 := by rw [IntKind.wrap_i64]; omega
  have eg3 : decide (N1 < hi * D1) = false := decide_eq_false (by omega)
  go_wp2_with fail
  obtain ⟨c0y, c1y, c2y, c3y, c4y⟩ := cells5 B_y
  obtain ⟨c0r, c1r, c2r, c3r⟩ := cells4 B_r
  obtain ⟨c0e, c1e⟩ := cells2 B_e
  obtain ⟨c0l, c1l⟩ := cells2 B_l
  have tk1x0 : True := trivial
  go_region_held3 (fun w' => w'.cell? ⟨w.heap.size, 0, none⟩ = some (.int .i64 a) ∧ w'.cell? ⟨w.heap.size, 1, none⟩ = some (.int .i64 b) ∧ w'.cell? ⟨w.heap.size, 2, none⟩ = some (.int .i64 x) ∧ w'.cell? ⟨w.heap.size, 3, none⟩ = some (.int .i64 y) ∧ w'.cell? ⟨w.heap.size, 4, none⟩ = some (.int .i64 d) ∧ w'.cell? ⟨w.heap.size + 1, 0, none⟩ = some (.int .i64 x0) ∧ w'.cell? ⟨w.heap.size + 1, 1, none⟩ = some (.int .i64 y0) ∧ w'.cell? ⟨w.heap.size + 1, 2, none⟩ = some (.int .i64 x1) ∧ w'.cell? ⟨w.heap.size + 1, 3, none⟩ = some (.int .i64 y1) ∧ w'.cell? ⟨w2.heap.size, 0, none⟩ = some (.int .i64 N1) ∧ w'.cell? ⟨w2.heap.size, 1, none⟩ = some (.int .i64 D1) ∧ w'.cell? ⟨w3.heap.size, 0, none⟩ = some (.int .i64 N2) ∧ w'.cell? ⟨w3.heap.size, 1, none⟩ = some (.int .i64 D2)) (((try dsimp only); (repeat' apply And.intro) <;> (first | (with_reducible assumption) | ((repeat (first | (with_reducible refine Eq.trans (cell_drew1 _ _) ?_) | (with_reducible refine Eq.trans (cell_far (by omega) _ _ _) ?_) | (with_reducible refine Eq.trans (World.cell?_alloc_lt _ _ _ (by first | (dsimp only; omega) | (simp only [World.size_alloc, World.size_setCell]; omega))) ?_))); with_reducible assumption) | assumption | go_keep)))
    (first
      | (clear tk1x0; go_at_call 19; refine (H2.out _).mono ?_; rintro e w5 ⟨rfl, bb⟩; replace bb := nextw (w0 := w4q) (by exact sm) bb; replace B_y := mv B_y bb; replace B_r := mv B_r bb; replace B_t := mv B_t bb; replace B_e := mv B_e bb; replace B_l := mv B_l bb; replace HB := nx HB bb; clear bb c0y c1y c2y c3y c4y c0r c1r c2r c3r c0e c1e c0l c1l; have c0y : w5.cell? ⟨w.heap.size, 0, none⟩ = some (.int .i64 a) := B_y.out.cell 0 rfl; have c1y : w5.cell? ⟨w.heap.size, 1, none⟩ = some (.int .i64 b) := B_y.out.cell 1 rfl; have c2y : w5.cell? ⟨w.heap.size, 2, none⟩ = some (.int .i64 x) := B_y.out.cell 2 rfl; have c3y : w5.cell? ⟨w.heap.size, 3, none⟩ = some (.int .i64 y) := B_y.out.cell 3 rfl; have c4y : w5.cell? ⟨w.heap.size, 4, none⟩ = some (.int .i64 d) := B_y.out.cell 4 rfl; have c0r : w5.cell? ⟨w.heap.size + 1, 0, none⟩ = some (.int .i64 x0) := B_r.out.cell 0 rfl; have c1r : w5.cell? ⟨w.heap.size + 1, 1, none⟩ = some (.int .i64 y0) := B_r.out.cell 1 rfl; have c2r : w5.cell? ⟨w.heap.size + 1, 2, none⟩ = some (.int .i64 x1) := B_r.out.cell 2 rfl; have c3r : w5.cell? ⟨w.heap.size + 1, 3, none⟩ = some (.int .i64 y1) := B_r.out.cell 3 rfl; have c0e : w5.cell? ⟨w2.heap.size, 0, none⟩ = some (.int .i64 N1) := B_e.out.cell 0 rfl; have c1e : w5.cell? ⟨w2.heap.size, 1, none⟩ = some (.int .i64 D1) := B_e.out.cell 1 rfl; have c0l : w5.cell? ⟨w3.heap.size, 0, none⟩ = some (.int .i64 N2) := B_l.out.cell 0 rfl; have c1l : w5.cell? ⟨w3.heap.size, 1, none⟩ = some (.int .i64 D2) := B_l.out.cell 1 rfl; have tk1x1 : True := trivial)
      | (clear tk1x1; go_at_call 21; refine (H3.out _).mono ?_; rintro e w6 ⟨rfl, bb⟩; replace bb := nextw (w0 := w5) (by exact sm) bb; replace B_y := mv B_y bb; replace B_r := mv B_r bb; replace B_t := mv B_t bb; replace B_e := mv B_e bb; replace B_l := mv B_l bb; replace HB := nx HB bb; clear bb c0y c1y c2y c3y c4y c0r c1r c2r c3r c0e c1e c0l c1l; have c0y : w6.cell? ⟨w.heap.size, 0, none⟩ = some (.int .i64 a) := B_y.out.cell 0 rfl; have c1y : w6.cell? ⟨w.heap.size, 1, none⟩ = some (.int .i64 b) := B_y.out.cell 1 rfl; have c2y : w6.cell? ⟨w.heap.size, 2, none⟩ = some (.int .i64 x) := B_y.out.cell 2 rfl; have c3y : w6.cell? ⟨w.heap.size, 3, none⟩ = some (.int .i64 y) := B_y.out.cell 3 rfl; have c4y : w6.cell? ⟨w.heap.size, 4, none⟩ = some (.int .i64 d) := B_y.out.cell 4 rfl; have c0r : w6.cell? ⟨w.heap.size + 1, 0, none⟩ = some (.int .i64 x0) := B_r.out.cell 0 rfl; have c1r : w6.cell? ⟨w.heap.size + 1, 1, none⟩ = some (.int .i64 y0) := B_r.out.cell 1 rfl; have c2r : w6.cell? ⟨w.heap.size + 1, 2, none⟩ = some (.int .i64 x1) := B_r.out.cell 2 rfl; have c3r : w6.cell? ⟨w.heap.size + 1, 3, none⟩ = some (.int .i64 y1) := B_r.out.cell 3 rfl; have c0e : w6.cell? ⟨w2.heap.size, 0, none⟩ = some (.int .i64 N1) := B_e.out.cell 0 rfl; have c1e : w6.cell? ⟨w2.heap.size, 1, none⟩ = some (.int .i64 D1) := B_e.out.cell 1 rfl; have c0l : w6.cell? ⟨w3.heap.size, 0, none⟩ = some (.int .i64 N2) := B_l.out.cell 0 rfl; have c1l : w6.cell? ⟨w3.heap.size, 1, none⟩ = some (.int .i64 D2) := B_l.out.cell 1 rfl; have tk1x2 : True := trivial))
  clear c0y c1y c2y c3y c4y c0r c1r c2r c3r c0e c1e c0l c1l
  clear ew1 ew2
  go_wp2
  go_ret
  exact ⟨rfl, nextw HB.out (by exact sm)⟩

set_option maxRecDepth 100000 in
set_option maxHeartbeats 8000000 in
theorem Orders_vtft (a b x y d x0 y0 x1 y1 lo hi : Int) (l0 : 0 ≤ lo) (l1 : lo ≤ hi) (l2 : hi ≤ 65536) (h : visB a b x y d x0 y0 x1 y1 = true) (g1 : (enN a b x y d x0 y0 x1 y1) ≤ hi * (enD a b x y d x0 y0 x1 y1)) (g2 : (leN a b x y d x0 y0 x1 y1) < lo * (leD a b x y d x0 y0 x1 y1)) (g3 : (enN a b x y d x0 y0 x1 y1) < hi * (enD a b x y d x0 y0 x1 y1)) (w : World) :
    Calls Try.prog 9 #[.agg #[.int .i64 a, .int .i64 b, .int .i64 x, .int .i64 y, .int .i64 d], .agg #[.int .i64 x0, .int .i64 y0, .int .i64 x1, .int .i64 y1], .agg #[.int .i64 lo, .int .i64 hi]] w fun e w' => e = .returned (.bool true) ∧ Below w.heap.size w w' := by
  have HA := Lib.hid (fun w => awake_any w)
  have H0 := Lib.hid (fun w => Enter_any a b x y d x0 y0 x1 y1 w)
  have H1 := Lib.hid (fun w => Leave_any a b x y d x0 y0 x1 y1 w)
  have H2 := Lib.hid (fun w => Meets_any a b x y d lo hi x0 y0 x1 y1 w)
  have H3 := Lib.hid (fun w => Before_any a b x y d hi x0 y0 x1 y1 w)
  obtain ⟨⟨n1, n2, d1, d2⟩, ⟨n3, n4, d3, d4⟩⟩ := en_bd h
  have hm : meB a b x y d lo hi x0 y0 x1 y1 = false := by rw [meB_alt, h, decide_eq_true (by omega), decide_eq_true g1, decide_eq_false (Int.not_le.2 g2)]; rfl
  have hb : beB a b x y d hi x0 y0 x1 y1 = true := by rw [beB_alt, h, decide_eq_true (by omega), decide_eq_true g3]; rfl
  rw [hm] at H2
  rw [hb] at H3
  rw [h] at H0 H1
  clear hm hb h
  generalize enN a b x y d x0 y0 x1 y1 = N1 at *
  generalize enD a b x y d x0 y0 x1 y1 = D1 at *
  generalize leN a b x y d x0 y0 x1 y1 = N2 at *
  generalize leD a b x y d x0 y0 x1 y1 = D2 at *
  have m0 := bnd (a := hi) (b := D1) (by omega) (by omega) (by omega) (by omega)
  have m1 := bnd (a := lo) (b := D2) (by omega) (by omega) (by omega) (by omega)
  obtain ⟨HB, B_y, B_r, B_t⟩ := box3 w 27 #[.int .i64 a, .int .i64 b, .int .i64 x, .int .i64 y, .int .i64 d] 29 #[.int .i64 x0, .int .i64 y0, .int .i64 x1, .int .i64 y1] 37 #[.int .i64 lo, .int .i64 hi]
  go_enter Try.func9, Try.ntmps9
  go_wp2_with fail
  generalize ((w.alloc (.cells #[.int .i64 a, .int .i64 b, .int .i64 x, .int .i64 y, .int .i64 d] 27)).alloc (.cells #[.int .i64 x0, .int .i64 y0, .int .i64 x1, .int .i64 y1] 29)).alloc (.cells #[.int .i64 lo, .int .i64 hi] 37) = W0 at *
  refine (HA.out _).mono ?_
  rintro e w1 ⟨rfl, bb⟩
  replace bb := nextw (w0 := W0) (by exact sm) bb
  replace B_y := mv B_y bb
  replace B_r := mv B_r bb
  replace B_t := mv B_t bb
  replace HB := nx HB bb
  clear bb
  obtain ⟨c0y, c1y, c2y, c3y, c4y⟩ := cells5 B_y
  obtain ⟨c0r, c1r, c2r, c3r⟩ := cells4 B_r
  go_wp2_with fail
  refine (H0.out _).mono ?_
  clear c0y c1y c2y c3y c4y c0r c1r c2r c3r
  rintro e w2 ⟨rfl, bb⟩
  replace bb := nextw (w0 := w1) (by exact sm) bb
  replace B_y := mv B_y bb
  replace B_r := mv B_r bb
  replace B_t := mv B_t bb
  replace HB := nx HB bb
  clear bb
  have lt_ey := B_y.out.lt
  have lt_er := B_r.out.lt
  have lt_et := B_t.out.lt
  obtain ⟨bb, B_e⟩ := box1 w2 32 #[.int .i64 N1, .int .i64 D1]
  replace bb := bb.out
  replace B_y := mv B_y bb
  replace B_r := mv B_r bb
  replace B_t := mv B_t bb
  replace HB := nx HB bb
  clear bb
  go_upto_region 4 with (fail)
  generalize w2.alloc (.cells #[.int .i64 N1, .int .i64 D1] 32) = WE at *
  obtain ⟨c0y, c1y, c2y, c3y, c4y⟩ := cells5 B_y
  obtain ⟨c0r, c1r, c2r, c3r⟩ := cells4 B_r
  go_wp2_with fail
  refine (H1.out _).mono ?_
  clear c0y c1y c2y c3y c4y c0r c1r c2r c3r
  rintro e w3 ⟨rfl, bb⟩
  replace bb := nextw (w0 := WE) (by exact sm) bb
  replace B_y := mv B_y bb
  replace B_r := mv B_r bb
  replace B_t := mv B_t bb
  replace B_e := mv B_e bb
  replace HB := nx HB bb
  clear bb
  have lt_ly := B_y.out.lt
  have lt_lr := B_r.out.lt
  have lt_lt := B_t.out.lt
  have lt_le := B_e.out.lt
  obtain ⟨bb, B_l⟩ := box1 w3 32 #[.int .i64 N2, .int .i64 D2]
  replace bb := bb.out
  replace B_y := mv B_y bb
  replace B_r := mv B_r bb
  replace B_t := mv B_t bb
  replace B_e := mv B_e bb
  replace HB := nx HB bb
  clear bb
  go_upto_region 5 with (fail)
  generalize w3.alloc (.cells #[.int .i64 N2, .int .i64 D2] 32) = WL at *
  clear HA H0 H1
  obtain ⟨c0t, c1t⟩ := cells2 B_t
  go_upto_region 7 with (fail)
  go_quiet (fail)
  clear c0t c1t
  have bb : Below WL.heap.size WL (WL.drewN nq) := bel_drewN (Below.refl _ _) _
  generalize WL.drewN nq = w4q at *
  replace B_y := mv B_y bb
  replace B_r := mv B_r bb
  replace B_t := mv B_t bb
  replace B_e := mv B_e bb
  replace B_l := mv B_l bb
  replace HB := nx HB bb
  clear bb
  go_upto_region 12 with (fail)
  obtain ⟨c0e, c1e⟩ := cells2 B_e
  obtain ⟨c0l, c1l⟩ := cells2 B_l
  go_upto_region 14 with (fail)
  clear c0e c1e c0l c1l
  have ew1 : IntKind.i64.wrap (hi * D1) = hi * D1 := by rw [IntKind.wrap_i64]; omega
  have ew2 : IntKind.i64.wrap (lo * D2) = lo * D2 := by rw [IntKind.wrap_i64]; omega
  have eg2 : decide (lo * D2 ≤ N2) = false := decide_eq_false (Int.not_le.2 g2)
  replace g2 := Lib.hid g2
  go_wp2_with fail
  obtain ⟨c0y, c1y, c2y, c3y, c4y⟩ := cells5 B_y
  obtain ⟨c0r, c1r, c2r, c3r⟩ := cells4 B_r
  obtain ⟨c0e, c1e⟩ := cells2 B_e
  obtain ⟨c0l, c1l⟩ := cells2 B_l
  have tk1x0 : True := trivial
  go_region_held3 (fun w' => w'.cell? ⟨w.heap.size, 0, none⟩ = some (.int .i64 a) ∧ w'.cell? ⟨w.heap.size, 1, none⟩ = some (.int .i64 b) ∧ w'.cell? ⟨w.heap.size, 2, none⟩ = some (.int .i64 x) ∧ w'.cell? ⟨w.heap.size, 3, none⟩ = some (.int .i64 y) ∧ w'.cell? ⟨w.heap.size, 4, none⟩ = some (.int .i64 d) ∧ w'.cell? ⟨w.heap.size + 1, 0, none⟩ = some (.int .i64 x0) ∧ w'.cell? ⟨w.heap.size + 1, 1, none⟩ = some (.int .i64 y0) ∧ w'.cell? ⟨w.heap.size + 1, 2, none⟩ = some (.int .i64 x1) ∧ w'.cell? ⟨w.heap.size + 1, 3, none⟩ = some (.int .i64 y1) ∧ w'.cell? ⟨w2.heap.size, 0, none⟩ = some (.int .i64 N1) ∧ w'.cell? ⟨w2.heap.size, 1, none⟩ = some (.int .i64 D1) ∧ w'.cell? ⟨w3.heap.size, 0, none⟩ = some (.int .i64 N2) ∧ w'.cell? ⟨w3.heap.size, 1, none⟩ = some (.int .i64 D2)) (((try dsimp only); (repeat' apply And.intro) <;> (first | (with_reducible assumption) | ((repeat (first | (with_reducible refine Eq.trans (cell_drew1 _ _) ?_) | (with_reducible refine Eq.trans (cell_far (by omega) _ _ _) ?_) | (with_reducible refine Eq.trans (World.cell?_alloc_lt _ _ _ (by first | (dsimp only; omega) | (simp only [World.size_alloc, World.size_setCell]; omega))) ?_))); with_reducible assumption) | assumption | go_keep)))
    (first
      | (clear tk1x0; go_at_call 19; refine (H2.out _).mono ?_; rintro e w5 ⟨rfl, bb⟩; replace bb := nextw (w0 := w4q) (by exact sm) bb; replace B_y := mv B_y bb; replace B_r := mv B_r bb; replace B_t := mv B_t bb; replace B_e := mv B_e bb; replace B_l := mv B_l bb; replace HB := nx HB bb; clear bb c0y c1y c2y c3y c4y c0r c1r c2r c3r c0e c1e c0l c1l; have c0y : w5.cell? ⟨w.heap.size, 0, none⟩ = some (.int .i64 a) := B_y.out.cell 0 rfl; have c1y : w5.cell? ⟨w.heap.size, 1, none⟩ = some (.int .i64 b) := B_y.out.cell 1 rfl; have c2y : w5.cell? ⟨w.heap.size, 2, none⟩ = some (.int .i64 x) := B_y.out.cell 2 rfl; have c3y : w5.cell? ⟨w.heap.size, 3, none⟩ = some (.int .i64 y) := B_y.out.cell 3 rfl; have c4y : w5.cell? ⟨w.heap.size, 4, none⟩ = some (.int .i64 d) := B_y.out.cell 4 rfl; have c0r : w5.cell? ⟨w.heap.size + 1, 0, none⟩ = some (.int .i64 x0) := B_r.out.cell 0 rfl; have c1r : w5.cell? ⟨w.heap.size + 1, 1, none⟩ = some (.int .i64 y0) := B_r.out.cell 1 rfl; have c2r : w5.cell? ⟨w.heap.size + 1, 2, none⟩ = some (.int .i64 x1) := B_r.out.cell 2 rfl; have c3r : w5.cell? ⟨w.heap.size + 1, 3, none⟩ = some (.int .i64 y1) := B_r.out.cell 3 rfl; have c0e : w5.cell? ⟨w2.heap.size, 0, none⟩ = some (.int .i64 N1) := B_e.out.cell 0 rfl; have c1e : w5.cell? ⟨w2.heap.size, 1, none⟩ = some (.int .i64 D1) := B_e.out.cell 1 rfl; have c0l : w5.cell? ⟨w3.heap.size, 0, none⟩ = some (.int .i64 N2) := B_l.out.cell 0 rfl; have c1l : w5.cell? ⟨w3.heap.size, 1, none⟩ = some (.int .i64 D2) := B_l.out.cell 1 rfl; have tk1x1 : True := trivial)
      | (clear tk1x1; go_at_call 21; refine (H3.out _).mono ?_; rintro e w6 ⟨rfl, bb⟩; replace bb := nextw (w0 := w5) (by exact sm) bb; replace B_y := mv B_y bb; replace B_r := mv B_r bb; replace B_t := mv B_t bb; replace B_e := mv B_e bb; replace B_l := mv B_l bb; replace HB := nx HB bb; clear bb c0y c1y c2y c3y c4y c0r c1r c2r c3r c0e c1e c0l c1l; have c0y : w6.cell? ⟨w.heap.size, 0, none⟩ = some (.int .i64 a) := B_y.out.cell 0 rfl; have c1y : w6.cell? ⟨w.heap.size, 1, none⟩ = some (.int .i64 b) := B_y.out.cell 1 rfl; have c2y : w6.cell? ⟨w.heap.size, 2, none⟩ = some (.int .i64 x) := B_y.out.cell 2 rfl; have c3y : w6.cell? ⟨w.heap.size, 3, none⟩ = some (.int .i64 y) := B_y.out.cell 3 rfl; have c4y : w6.cell? ⟨w.heap.size, 4, none⟩ = some (.int .i64 d) := B_y.out.cell 4 rfl; have c0r : w6.cell? ⟨w.heap.size + 1, 0, none⟩ = some (.int .i64 x0) := B_r.out.cell 0 rfl; have c1r : w6.cell? ⟨w.heap.size + 1, 1, none⟩ = some (.int .i64 y0) := B_r.out.cell 1 rfl; have c2r : w6.cell? ⟨w.heap.size + 1, 2, none⟩ = some (.int .i64 x1) := B_r.out.cell 2 rfl; have c3r : w6.cell? ⟨w.heap.size + 1, 3, none⟩ = some (.int .i64 y1) := B_r.out.cell 3 rfl; have c0e : w6.cell? ⟨w2.heap.size, 0, none⟩ = some (.int .i64 N1) := B_e.out.cell 0 rfl; have c1e : w6.cell? ⟨w2.heap.size, 1, none⟩ = some (.int .i64 D1) := B_e.out.cell 1 rfl; have c0l : w6.cell? ⟨w3.heap.size, 0, none⟩ = some (.int .i64 N2) := B_l.out.cell 0 rfl; have c1l : w6.cell? ⟨w3.heap.size, 1, none⟩ = some (.int .i64 D2) := B_l.out.cell 1 rfl; have tk1x2 : True := trivial))
  clear c0y c1y c2y c3y c4y c0r c1r c2r c3r c0e c1e c0l c1l
  clear ew1 ew2
  go_wp2
  go_ret
  exact ⟨rfl, nextw HB.out (by exact sm)⟩

set_option maxRecDepth 100000 in
set_option maxHeartbeats 8000000 in
theorem Orders_vtff (a b x y d x0 y0 x1 y1 lo hi : Int) (l0 : 0 ≤ lo) (l1 : lo ≤ hi) (l2 : hi ≤ 65536) (h : visB a b x y d x0 y0 x1 y1 = true) (g1 : (enN a b x y d x0 y0 x1 y1) ≤ hi * (enD a b x y d x0 y0 x1 y1)) (g2 : (leN a b x y d x0 y0 x1 y1) < lo * (leD a b x y d x0 y0 x1 y1)) (g3 : hi * (enD a b x y d x0 y0 x1 y1) ≤ (enN a b x y d x0 y0 x1 y1)) (w : World) :
    Calls Try.prog 9 #[.agg #[.int .i64 a, .int .i64 b, .int .i64 x, .int .i64 y, .int .i64 d], .agg #[.int .i64 x0, .int .i64 y0, .int .i64 x1, .int .i64 y1], .agg #[.int .i64 lo, .int .i64 hi]] w fun e w' => e = .returned (.bool true) ∧ Below w.heap.size w w' := by
  have HA := Lib.hid (fun w => awake_any w)
  have H0 := Lib.hid (fun w => Enter_any a b x y d x0 y0 x1 y1 w)
  have H1 := Lib.hid (fun w => Leave_any a b x y d x0 y0 x1 y1 w)
  have H2 := Lib.hid (fun w => Meets_any a b x y d lo hi x0 y0 x1 y1 w)
  have H3 := Lib.hid (fun w => Before_any a b x y d hi x0 y0 x1 y1 w)
  obtain ⟨⟨n1, n2, d1, d2⟩, ⟨n3, n4, d3, d4⟩⟩ := en_bd h
  have hm : meB a b x y d lo hi x0 y0 x1 y1 = false := by rw [meB_alt, h, decide_eq_true (by omega), decide_eq_true g1, decide_eq_false (Int.not_le.2 g2)]; rfl
  have hb : beB a b x y d hi x0 y0 x1 y1 = false := by rw [beB_alt, h, decide_eq_true (by omega), decide_eq_false (by omega)]; rfl
  rw [hm] at H2
  rw [hb] at H3
  rw [h] at H0 H1
  clear hm hb h
  generalize enN a b x y d x0 y0 x1 y1 = N1 at *
  generalize enD a b x y d x0 y0 x1 y1 = D1 at *
  generalize leN a b x y d x0 y0 x1 y1 = N2 at *
  generalize leD a b x y d x0 y0 x1 y1 = D2 at *
  have m0 := bnd (a := hi) (b := D1) (by omega) (by omega) (by omega) (by omega)
  have m1 := bnd (a := lo) (b := D2) (by omega) (by omega) (by omega) (by omega)
  obtain ⟨HB, B_y, B_r, B_t⟩ := box3 w 27 #[.int .i64 a, .int .i64 b, .int .i64 x, .int .i64 y, .int .i64 d] 29 #[.int .i64 x0, .int .i64 y0, .int .i64 x1, .int .i64 y1] 37 #[.int .i64 lo, .int .i64 hi]
  go_enter Try.func9, Try.ntmps9
  go_wp2_with fail
  generalize ((w.alloc (.cells #[.int .i64 a, .int .i64 b, .int .i64 x, .int .i64 y, .int .i64 d] 27)).alloc (.cells #[.int .i64 x0, .int .i64 y0, .int .i64 x1, .int .i64 y1] 29)).alloc (.cells #[.int .i64 lo, .int .i64 hi] 37) = W0 at *
  refine (HA.out _).mono ?_
  rintro e w1 ⟨rfl, bb⟩
  replace bb := nextw (w0 := W0) (by exact sm) bb
  replace B_y := mv B_y bb
  replace B_r := mv B_r bb
  replace B_t := mv B_t bb
  replace HB := nx HB bb
  clear bb
  obtain ⟨c0y, c1y, c2y, c3y, c4y⟩ := cells5 B_y
  obtain ⟨c0r, c1r, c2r, c3r⟩ := cells4 B_r
  go_wp2_with fail
  refine (H0.out _).mono ?_
  clear c0y c1y c2y c3y c4y c0r c1r c2r c3r
  rintro e w2 ⟨rfl, bb⟩
  replace bb := nextw (w0 := w1) (by exact sm) bb
  replace B_y := mv B_y bb
  replace B_r := mv B_r bb
  replace B_t := mv B_t bb
  replace HB := nx HB bb
  clear bb
  have lt_ey := B_y.out.lt
  have lt_er := B_r.out.lt
  have lt_et := B_t.out.lt
  obtain ⟨bb, B_e⟩ := box1 w2 32 #[.int .i64 N1, .int .i64 D1]
  replace bb := bb.out
  replace B_y := mv B_y bb
  replace B_r := mv B_r bb
  replace B_t := mv B_t bb
  replace HB := nx HB bb
  clear bb
  go_upto_region 4 with (fail)
  generalize w2.alloc (.cells #[.int .i64 N1, .int .i64 D1] 32) = WE at *
  obtain ⟨c0y, c1y, c2y, c3y, c4y⟩ := cells5 B_y
  obtain ⟨c0r, c1r, c2r, c3r⟩ := cells4 B_r
  go_wp2_with fail
  refine (H1.out _).mono ?_
  clear c0y c1y c2y c3y c4y c0r c1r c2r c3r
  rintro e w3 ⟨rfl, bb⟩
  replace bb := nextw (w0 := WE) (by exact sm) bb
  replace B_y := mv B_y bb
  replace B_r := mv B_r bb
  replace B_t := mv B_t bb
  replace B_e := mv B_e bb
  replace HB := nx HB bb
  clear bb
  have lt_ly := B_y.out.lt
  have lt_lr := B_r.out.lt
  have lt_lt := B_t.out.lt
  have lt_le := B_e.out.lt
  obtain ⟨bb, B_l⟩ := box1 w3 32 #[.int .i64 N2, .int .i64 D2]
  replace bb := bb.out
  replace B_y := mv B_y bb
  replace B_r := mv B_r bb
  replace B_t := mv B_t bb
  replace B_e := mv B_e bb
  replace HB := nx HB bb
  clear bb
  go_upto_region 5 with (fail)
  generalize w3.alloc (.cells #[.int .i64 N2, .int .i64 D2] 32) = WL at *
  clear HA H0 H1
  obtain ⟨c0t, c1t⟩ := cells2 B_t
  go_upto_region 7 with (fail)
  go_quiet (fail)
  clear c0t c1t
  have bb : Below WL.heap.size WL (WL.drewN nq) := bel_drewN (Below.refl _ _) _
  generalize WL.drewN nq = w4q at *
  replace B_y := mv B_y bb
  replace B_r := mv B_r bb
  replace B_t := mv B_t bb
  replace B_e := mv B_e bb
  replace B_l := mv B_l bb
  replace HB := nx HB bb
  clear bb
  go_upto_region 12 with (fail)
  obtain ⟨c0e, c1e⟩ := cells2 B_e
  obtain ⟨c0l, c1l⟩ := cells2 B_l
  go_upto_region 14 with (fail)
  clear c0e c1e c0l c1l
  have ew1 : IntKind.i64.wrap (hi * D1) = hi * D1 := by rw [IntKind.wrap_i64]; omega
  have ew2 : IntKind.i64.wrap (lo * D2) = lo * D2 := by rw [IntKind.wrap_i64]; omega
  have eg2 : decide (lo * D2 ≤ N2) = false := decide_eq_false (Int.not_le.2 g2)
  replace g2 := Lib.hid g2
  have eg3 : decide (N1 < hi * D1) = false := decide_eq_false (by omega)
  go_wp2_with fail
  obtain ⟨c0y, c1y, c2y, c3y, c4y⟩ := cells5 B_y
  obtain ⟨c0r, c1r, c2r, c3r⟩ := cells4 B_r
  obtain ⟨c0e, c1e⟩ := cells2 B_e
  obtain ⟨c0l, c1l⟩ := cells2 B_l
  have tk1x0 : True := trivial
  go_region_held3 (fun w' => w'.cell? ⟨w.heap.size, 0, none⟩ = some (.int .i64 a) ∧ w'.cell? ⟨w.heap.size, 1, none⟩ = some (.int .i64 b) ∧ w'.cell? ⟨w.heap.size, 2, none⟩ = some (.int .i64 x) ∧ w'.cell? ⟨w.heap.size, 3, none⟩ = some (.int .i64 y) ∧ w'.cell? ⟨w.heap.size, 4, none⟩ = some (.int .i64 d) ∧ w'.cell? ⟨w.heap.size + 1, 0, none⟩ = some (.int .i64 x0) ∧ w'.cell? ⟨w.heap.size + 1, 1, none⟩ = some (.int .i64 y0) ∧ w'.cell? ⟨w.heap.size + 1, 2, none⟩ = some (.int .i64 x1) ∧ w'.cell? ⟨w.heap.size + 1, 3, none⟩ = some (.int .i64 y1) ∧ w'.cell? ⟨w2.heap.size, 0, none⟩ = some (.int .i64 N1) ∧ w'.cell? ⟨w2.heap.size, 1, none⟩ = some (.int .i64 D1) ∧ w'.cell? ⟨w3.heap.size, 0, none⟩ = some (.int .i64 N2) ∧ w'.cell? ⟨w3.heap.size, 1, none⟩ = some (.int .i64 D2)) (((try dsimp only); (repeat' apply And.intro) <;> (first | (with_reducible assumption) | ((repeat (first | (with_reducible refine Eq.trans (cell_drew1 _ _) ?_) | (with_reducible refine Eq.trans (cell_far (by omega) _ _ _) ?_) | (with_reducible refine Eq.trans (World.cell?_alloc_lt _ _ _ (by first | (dsimp only; omega) | (simp only [World.size_alloc, World.size_setCell]; omega))) ?_))); with_reducible assumption) | assumption | go_keep)))
    (first
      | (clear tk1x0; go_at_call 19; refine (H2.out _).mono ?_; rintro e w5 ⟨rfl, bb⟩; replace bb := nextw (w0 := w4q) (by exact sm) bb; replace B_y := mv B_y bb; replace B_r := mv B_r bb; replace B_t := mv B_t bb; replace B_e := mv B_e bb; replace B_l := mv B_l bb; replace HB := nx HB bb; clear bb c0y c1y c2y c3y c4y c0r c1r c2r c3r c0e c1e c0l c1l; have c0y : w5.cell? ⟨w.heap.size, 0, none⟩ = some (.int .i64 a) := B_y.out.cell 0 rfl; have c1y : w5.cell? ⟨w.heap.size, 1, none⟩ = some (.int .i64 b) := B_y.out.cell 1 rfl; have c2y : w5.cell? ⟨w.heap.size, 2, none⟩ = some (.int .i64 x) := B_y.out.cell 2 rfl; have c3y : w5.cell? ⟨w.heap.size, 3, none⟩ = some (.int .i64 y) := B_y.out.cell 3 rfl; have c4y : w5.cell? ⟨w.heap.size, 4, none⟩ = some (.int .i64 d) := B_y.out.cell 4 rfl; have c0r : w5.cell? ⟨w.heap.size + 1, 0, none⟩ = some (.int .i64 x0) := B_r.out.cell 0 rfl; have c1r : w5.cell? ⟨w.heap.size + 1, 1, none⟩ = some (.int .i64 y0) := B_r.out.cell 1 rfl; have c2r : w5.cell? ⟨w.heap.size + 1, 2, none⟩ = some (.int .i64 x1) := B_r.out.cell 2 rfl; have c3r : w5.cell? ⟨w.heap.size + 1, 3, none⟩ = some (.int .i64 y1) := B_r.out.cell 3 rfl; have c0e : w5.cell? ⟨w2.heap.size, 0, none⟩ = some (.int .i64 N1) := B_e.out.cell 0 rfl; have c1e : w5.cell? ⟨w2.heap.size, 1, none⟩ = some (.int .i64 D1) := B_e.out.cell 1 rfl; have c0l : w5.cell? ⟨w3.heap.size, 0, none⟩ = some (.int .i64 N2) := B_l.out.cell 0 rfl; have c1l : w5.cell? ⟨w3.heap.size, 1, none⟩ = some (.int .i64 D2) := B_l.out.cell 1 rfl; have tk1x1 : True := trivial)
      | (clear tk1x1; go_at_call 21; refine (H3.out _).mono ?_; rintro e w6 ⟨rfl, bb⟩; replace bb := nextw (w0 := w5) (by exact sm) bb; replace B_y := mv B_y bb; replace B_r := mv B_r bb; replace B_t := mv B_t bb; replace B_e := mv B_e bb; replace B_l := mv B_l bb; replace HB := nx HB bb; clear bb c0y c1y c2y c3y c4y c0r c1r c2r c3r c0e c1e c0l c1l; have c0y : w6.cell? ⟨w.heap.size, 0, none⟩ = some (.int .i64 a) := B_y.out.cell 0 rfl; have c1y : w6.cell? ⟨w.heap.size, 1, none⟩ = some (.int .i64 b) := B_y.out.cell 1 rfl; have c2y : w6.cell? ⟨w.heap.size, 2, none⟩ = some (.int .i64 x) := B_y.out.cell 2 rfl; have c3y : w6.cell? ⟨w.heap.size, 3, none⟩ = some (.int .i64 y) := B_y.out.cell 3 rfl; have c4y : w6.cell? ⟨w.heap.size, 4, none⟩ = some (.int .i64 d) := B_y.out.cell 4 rfl; have c0r : w6.cell? ⟨w.heap.size + 1, 0, none⟩ = some (.int .i64 x0) := B_r.out.cell 0 rfl; have c1r : w6.cell? ⟨w.heap.size + 1, 1, none⟩ = some (.int .i64 y0) := B_r.out.cell 1 rfl; have c2r : w6.cell? ⟨w.heap.size + 1, 2, none⟩ = some (.int .i64 x1) := B_r.out.cell 2 rfl; have c3r : w6.cell? ⟨w.heap.size + 1, 3, none⟩ = some (.int .i64 y1) := B_r.out.cell 3 rfl; have c0e : w6.cell? ⟨w2.heap.size, 0, none⟩ = some (.int .i64 N1) := B_e.out.cell 0 rfl; have c1e : w6.cell? ⟨w2.heap.size, 1, none⟩ = some (.int .i64 D1) := B_e.out.cell 1 rfl; have c0l : w6.cell? ⟨w3.heap.size, 0, none⟩ = some (.int .i64 N2) := B_l.out.cell 0 rfl; have c1l : w6.cell? ⟨w3.heap.size, 1, none⟩ = some (.int .i64 D2) := B_l.out.cell 1 rfl; have tk1x2 : True := trivial))
  clear c0y c1y c2y c3y c4y c0r c1r c2r c3r c0e c1e c0l c1l
  clear ew1 ew2
  go_wp2
  go_ret
  exact ⟨rfl, nextw HB.out (by exact sm)⟩

set_option maxRecDepth 100000 in
set_option maxHeartbeats 8000000 in
theorem Orders_vfxf (a b x y d x0 y0 x1 y1 lo hi : Int) (l0 : 0 ≤ lo) (l1 : lo ≤ hi) (l2 : hi ≤ 65536) (h : visB a b x y d x0 y0 x1 y1 = true) (g1 : hi * (enD a b x y d x0 y0 x1 y1) < (enN a b x y d x0 y0 x1 y1)) (w : World) :
    Calls Try.prog 9 #[.agg #[.int .i64 a, .int .i64 b, .int .i64 x, .int .i64 y, .int .i64 d], .agg #[.int .i64 x0, .int .i64 y0, .int .i64 x1, .int .i64 y1], .agg #[.int .i64 lo, .int .i64 hi]] w fun e w' => e = .returned (.bool true) ∧ Below w.heap.size w w' := by
  have HA := Lib.hid (fun w => awake_any w)
  have H0 := Lib.hid (fun w => Enter_any a b x y d x0 y0 x1 y1 w)
  have H1 := Lib.hid (fun w => Leave_any a b x y d x0 y0 x1 y1 w)
  have H2 := Lib.hid (fun w => Meets_any a b x y d lo hi x0 y0 x1 y1 w)
  have H3 := Lib.hid (fun w => Before_any a b x y d hi x0 y0 x1 y1 w)
  obtain ⟨⟨n1, n2, d1, d2⟩, ⟨n3, n4, d3, d4⟩⟩ := en_bd h
  have hm : meB a b x y d lo hi x0 y0 x1 y1 = false := by rw [meB_alt, h, decide_eq_true (by omega), decide_eq_false (Int.not_le.2 g1)]; rfl
  have hb : beB a b x y d hi x0 y0 x1 y1 = false := by rw [beB_alt, h, decide_eq_true (by omega), decide_eq_false (by omega)]; rfl
  rw [hm] at H2
  rw [hb] at H3
  rw [h] at H0 H1
  clear hm hb h
  generalize enN a b x y d x0 y0 x1 y1 = N1 at *
  generalize enD a b x y d x0 y0 x1 y1 = D1 at *
  generalize leN a b x y d x0 y0 x1 y1 = N2 at *
  generalize leD a b x y d x0 y0 x1 y1 = D2 at *
  have m0 := bnd (a := hi) (b := D1) (by omega) (by omega) (by omega) (by omega)
  have m1 := bnd (a := lo) (b := D2) (by omega) (by omega) (by omega) (by omega)
  obtain ⟨HB, B_y, B_r, B_t⟩ := box3 w 27 #[.int .i64 a, .int .i64 b, .int .i64 x, .int .i64 y, .int .i64 d] 29 #[.int .i64 x0, .int .i64 y0, .int .i64 x1, .int .i64 y1] 37 #[.int .i64 lo, .int .i64 hi]
  go_enter Try.func9, Try.ntmps9
  go_wp2_with fail
  generalize ((w.alloc (.cells #[.int .i64 a, .int .i64 b, .int .i64 x, .int .i64 y, .int .i64 d] 27)).alloc (.cells #[.int .i64 x0, .int .i64 y0, .int .i64 x1, .int .i64 y1] 29)).alloc (.cells #[.int .i64 lo, .int .i64 hi] 37) = W0 at *
  refine (HA.out _).mono ?_
  rintro e w1 ⟨rfl, bb⟩
  replace bb := nextw (w0 := W0) (by exact sm) bb
  replace B_y := mv B_y bb
  replace B_r := mv B_r bb
  replace B_t := mv B_t bb
  replace HB := nx HB bb
  clear bb
  obtain ⟨c0y, c1y, c2y, c3y, c4y⟩ := cells5 B_y
  obtain ⟨c0r, c1r, c2r, c3r⟩ := cells4 B_r
  go_wp2_with fail
  refine (H0.out _).mono ?_
  clear c0y c1y c2y c3y c4y c0r c1r c2r c3r
  rintro e w2 ⟨rfl, bb⟩
  replace bb := nextw (w0 := w1) (by exact sm) bb
  replace B_y := mv B_y bb
  replace B_r := mv B_r bb
  replace B_t := mv B_t bb
  replace HB := nx HB bb
  clear bb
  have lt_ey := B_y.out.lt
  have lt_er := B_r.out.lt
  have lt_et := B_t.out.lt
  obtain ⟨bb, B_e⟩ := box1 w2 32 #[.int .i64 N1, .int .i64 D1]
  replace bb := bb.out
  replace B_y := mv B_y bb
  replace B_r := mv B_r bb
  replace B_t := mv B_t bb
  replace HB := nx HB bb
  clear bb
  go_upto_region 4 with (fail)
  generalize w2.alloc (.cells #[.int .i64 N1, .int .i64 D1] 32) = WE at *
  obtain ⟨c0y, c1y, c2y, c3y, c4y⟩ := cells5 B_y
  obtain ⟨c0r, c1r, c2r, c3r⟩ := cells4 B_r
  go_wp2_with fail
  refine (H1.out _).mono ?_
  clear c0y c1y c2y c3y c4y c0r c1r c2r c3r
  rintro e w3 ⟨rfl, bb⟩
  replace bb := nextw (w0 := WE) (by exact sm) bb
  replace B_y := mv B_y bb
  replace B_r := mv B_r bb
  replace B_t := mv B_t bb
  replace B_e := mv B_e bb
  replace HB := nx HB bb
  clear bb
  have lt_ly := B_y.out.lt
  have lt_lr := B_r.out.lt
  have lt_lt := B_t.out.lt
  have lt_le := B_e.out.lt
  obtain ⟨bb, B_l⟩ := box1 w3 32 #[.int .i64 N2, .int .i64 D2]
  replace bb := bb.out
  replace B_y := mv B_y bb
  replace B_r := mv B_r bb
  replace B_t := mv B_t bb
  replace B_e := mv B_e bb
  replace HB := nx HB bb
  clear bb
  go_upto_region 5 with (fail)
  generalize w3.alloc (.cells #[.int .i64 N2, .int .i64 D2] 32) = WL at *
  clear HA H0 H1
  obtain ⟨c0t, c1t⟩ := cells2 B_t
  go_upto_region 7 with (fail)
  go_quiet (fail)
  clear c0t c1t
  have bb : Below WL.heap.size WL (WL.drewN nq) := bel_drewN (Below.refl _ _) _
  generalize WL.drewN nq = w4q at *
  replace B_y := mv B_y bb
  replace B_r := mv B_r bb
  replace B_t := mv B_t bb
  replace B_e := mv B_e bb
  replace B_l := mv B_l bb
  replace HB := nx HB bb
  clear bb
  go_upto_region 12 with (fail)
  obtain ⟨c0e, c1e⟩ := cells2 B_e
  obtain ⟨c0l, c1l⟩ := cells2 B_l
  go_upto_region 14 with (fail)
  clear c0e c1e c0l c1l
  have ew1 : IntKind.i64.wrap (hi * D1) = hi * D1 := by rw [IntKind.wrap_i64]; omega
  have ew2 : IntKind.i64.wrap (lo * D2) = lo * D2 := by rw [IntKind.wrap_i64]; omega
  have eg3 : decide (N1 < hi * D1) = false := decide_eq_false (by omega)
  have eg : decide (N1 ≤ hi * D1) = false := decide_eq_false (Int.not_le.2 g1)
  replace g1 := Lib.hid g1
  go_wp2_with fail
  obtain ⟨c0y, c1y, c2y, c3y, c4y⟩ := cells5 B_y
  obtain ⟨c0r, c1r, c2r, c3r⟩ := cells4 B_r
  obtain ⟨c0e, c1e⟩ := cells2 B_e
  obtain ⟨c0l, c1l⟩ := cells2 B_l
  refine wp_region_held_drew (S := fun w' => w'.cell? ⟨w.heap.size, 0, none⟩ = some (.int .i64 a) ∧ w'.cell? ⟨w.heap.size, 1, none⟩ = some (.int .i64 b) ∧ w'.cell? ⟨w.heap.size, 2, none⟩ = some (.int .i64 x) ∧ w'.cell? ⟨w.heap.size, 3, none⟩ = some (.int .i64 y) ∧ w'.cell? ⟨w.heap.size, 4, none⟩ = some (.int .i64 d) ∧ w'.cell? ⟨w.heap.size + 1, 0, none⟩ = some (.int .i64 x0) ∧ w'.cell? ⟨w.heap.size + 1, 1, none⟩ = some (.int .i64 y0) ∧ w'.cell? ⟨w.heap.size + 1, 2, none⟩ = some (.int .i64 x1) ∧ w'.cell? ⟨w.heap.size + 1, 3, none⟩ = some (.int .i64 y1) ∧ w'.cell? ⟨w2.heap.size, 0, none⟩ = some (.int .i64 N1) ∧ w'.cell? ⟨w2.heap.size, 1, none⟩ = some (.int .i64 D1) ∧ w'.cell? ⟨w3.heap.size, 0, none⟩ = some (.int .i64 N2) ∧ w'.cell? ⟨w3.heap.size, 1, none⟩ = some (.int .i64 D2)) (by kernel_rfl) ?_ (fun hH1x0 => ?_)
  · ((try dsimp only); (repeat' apply And.intro) <;> (first | (with_reducible assumption) | ((repeat (first | (with_reducible refine Eq.trans (cell_drew1 _ _) ?_) | (with_reducible refine Eq.trans (cell_far (by omega) _ _ _) ?_) | (with_reducible refine Eq.trans (World.cell?_alloc_lt _ _ _ (by first | (dsimp only; omega) | (simp only [World.size_alloc, World.size_setCell]; omega))) ?_))); with_reducible assumption) | assumption | go_keep))
  refine wpAnyH_take (i := 0) (v := ?hv1x0) rfl (by kernel_rfl) (by kernel_rfl) (by kernel_rfl) (fun _ _ _ h => h) (Or.inl ⟨by kernel_rfl, ?hy1x0⟩) (by assumption) ?hr1x0
  case hy1x0 => (intro w hSw; (try dsimp only at hSw); go_simp <;> with_reducible rfl)
  simp only [Act.put, List.setIfInBounds_toArray, List.set_cons_zero, List.set_cons_succ, List.getElem_toArray, List.getElem_cons_zero, List.getElem_cons_succ]
  refine wpAnyH_take (i := 1) (v := ?hv1x1) rfl (by kernel_rfl) (by kernel_rfl) (by kernel_rfl) (fun _ _ _ h => h) (Or.inl ⟨by kernel_rfl, ?hy1x1⟩) (by assumption) ?hr1x1
  case hy1x1 => (intro w hSw; (try dsimp only at hSw); go_simp <;> with_reducible rfl)
  simp only [Act.put, List.setIfInBounds_toArray, List.set_cons_zero, List.set_cons_succ, List.getElem_toArray, List.getElem_cons_zero, List.getElem_cons_succ]
  refine wpAnyH_take (i := 2) (v := ?hv1x2) rfl (by kernel_rfl) (by kernel_rfl) (by kernel_rfl) (fun _ _ _ h => h) (Or.inl ⟨by kernel_rfl, ?hy1x2⟩) (by assumption) ?hr1x2
  case hy1x2 => (intro w hSw; (try dsimp only at hSw); go_simp <;> with_reducible rfl)
  simp only [Act.put, List.setIfInBounds_toArray, List.set_cons_zero, List.set_cons_succ, List.getElem_toArray, List.getElem_cons_zero, List.getElem_cons_succ]
  refine wpAnyH_take (i := 3) (v := ?hv1x3) rfl (by kernel_rfl) (by kernel_rfl) (by kernel_rfl) (fun _ _ _ h => h) (Or.inl ⟨by kernel_rfl, ?hy1x3⟩) (by assumption) ?hr1x3
  case hy1x3 => (intro w hSw; (try dsimp only at hSw); go_simp <;> with_reducible rfl)
  simp only [Act.put, List.setIfInBounds_toArray, List.set_cons_zero, List.set_cons_succ, List.getElem_toArray, List.getElem_cons_zero, List.getElem_cons_succ]
  refine wpAnyH_take (i := 4) (v := ?hv1x4) rfl (by kernel_rfl) (by kernel_rfl) (by kernel_rfl) (fun _ _ _ h => h) (Or.inl ⟨by kernel_rfl, ?hy1x4⟩) (by assumption) ?hr1x4
  case hy1x4 => (intro w hSw; (try dsimp only at hSw); go_simp <;> with_reducible rfl)
  simp only [Act.put, List.setIfInBounds_toArray, List.set_cons_zero, List.set_cons_succ, List.getElem_toArray, List.getElem_cons_zero, List.getElem_cons_succ]
  refine wpAnyH_take (i := 5) (v := ?hv1x5) rfl (by kernel_rfl) (by kernel_rfl) (by kernel_rfl) (fun _ _ _ h => h) (Or.inl ⟨by kernel_rfl, ?hy1x5⟩) (by assumption) ?hr1x5
  case hy1x5 => (intro w hSw; (try dsimp only at hSw); go_simp <;> with_reducible rfl)
  simp only [Act.put, List.setIfInBounds_toArray, List.set_cons_zero, List.set_cons_succ, List.getElem_toArray, List.getElem_cons_zero, List.getElem_cons_succ]
  refine wpAnyH_take (i := 6) (v := ?hv1x6) rfl (by kernel_rfl) (by kernel_rfl) (by kernel_rfl) (fun _ _ _ h => h) (Or.inl ⟨by kernel_rfl, ?hy1x6⟩) (by assumption) ?hr1x6
  case hy1x6 => (intro w hSw; (try dsimp only at hSw); go_simp <;> with_reducible rfl)
  simp only [Act.put, List.setIfInBounds_toArray, List.set_cons_zero, List.set_cons_succ, List.getElem_toArray, List.getElem_cons_zero, List.getElem_cons_succ]
  refine wpAnyH_take (i := 8) (v := ?hv1x8) rfl (by kernel_rfl) (by kernel_rfl) (by kernel_rfl) (fun _ _ _ h => h) (Or.inl ⟨by kernel_rfl, ?hy1x8⟩) (by assumption) ?hr1x8
  case hy1x8 => (intro w hSw; (try dsimp only at hSw); go_simp <;> with_reducible rfl)
  simp only [Act.put, List.setIfInBounds_toArray, List.set_cons_zero, List.set_cons_succ, List.getElem_toArray, List.getElem_cons_zero, List.getElem_cons_succ]
  refine wpAnyH_take (i := 9) (v := ?hv1x9) rfl (by kernel_rfl) (by kernel_rfl) (by kernel_rfl) (fun _ _ _ h => h) (Or.inl ⟨by kernel_rfl, ?hy1x9⟩) (by assumption) ?hr1x9
  case hy1x9 => (intro w hSw; (try dsimp only at hSw); go_simp <;> with_reducible rfl)
  simp only [Act.put, List.setIfInBounds_toArray, List.set_cons_zero, List.set_cons_succ, List.getElem_toArray, List.getElem_cons_zero, List.getElem_cons_succ]
  refine wpAnyH_take (i := 10) (v := ?hv1x10) rfl (by kernel_rfl) (by kernel_rfl) (by kernel_rfl) (fun _ _ _ h => h) (Or.inl ⟨by kernel_rfl, ?hy1x10⟩) (by assumption) ?hr1x10
  case hy1x10 => (intro w hSw; (try dsimp only at hSw); go_simp <;> with_reducible rfl)
  simp only [Act.put, List.setIfInBounds_toArray, List.set_cons_zero, List.set_cons_succ, List.getElem_toArray, List.getElem_cons_zero, List.getElem_cons_succ]
  refine wpAnyH_take (i := 11) (v := ?hv1x11) rfl (by kernel_rfl) (by kernel_rfl) (by kernel_rfl) (fun _ _ _ h => h) (Or.inl ⟨by kernel_rfl, ?hy1x11⟩) (by assumption) ?hr1x11
  case hy1x11 => (intro w hSw; (try dsimp only at hSw); go_simp <;> with_reducible rfl)
  simp only [Act.put, List.setIfInBounds_toArray, List.set_cons_zero, List.set_cons_succ, List.getElem_toArray, List.getElem_cons_zero, List.getElem_cons_succ]
  refine wpAnyH_take (i := 12) (v := ?hv1x12) rfl (by kernel_rfl) (by kernel_rfl) (by kernel_rfl) (fun _ _ _ h => h) (Or.inl ⟨by kernel_rfl, ?hy1x12⟩) (by assumption) ?hr1x12
  case hy1x12 => (intro w hSw; (try dsimp only at hSw); go_simp <;> with_reducible rfl)
  simp only [Act.put, List.setIfInBounds_toArray, List.set_cons_zero, List.set_cons_succ, List.getElem_toArray, List.getElem_cons_zero, List.getElem_cons_succ]
  refine wpAnyH_take (i := 13) (v := ?hv1x13) rfl (by kernel_rfl) (by kernel_rfl) (by kernel_rfl) (fun _ _ _ h => h) (Or.inl ⟨by kernel_rfl, ?hy1x13⟩) (by assumption) ?hr1x13
  case hy1x13 => (intro w hSw; (try dsimp only at hSw); go_simp <;> with_reducible rfl)
  simp only [Act.put, List.setIfInBounds_toArray, List.set_cons_zero, List.set_cons_succ, List.getElem_toArray, List.getElem_cons_zero, List.getElem_cons_succ]
  refine wpAnyH_take (i := 14) (v := ?hv1x14) rfl (by kernel_rfl) (by kernel_rfl) (by kernel_rfl) (fun _ _ _ h => h) (Or.inl ⟨by kernel_rfl, ?hy1x14⟩) (by assumption) ?hr1x14
  case hy1x14 => (intro w hSw; (try dsimp only at hSw); go_simp <;> with_reducible rfl)
  simp only [Act.put, List.setIfInBounds_toArray, List.set_cons_zero, List.set_cons_succ, List.getElem_toArray, List.getElem_cons_zero, List.getElem_cons_succ]
  refine wpAnyH_ready (rs := [7]) (by kernel_rfl) (by simp) ?_
  refine AllReadyH.cons rfl (fun K hK => ?_) AllReadyH.nil
  go_simp
  go_at_call 19
  refine (H2.out _).mono ?_
  rintro e w5 ⟨rfl, bb⟩
  replace bb := nextw (w0 := w4q) (by exact sm) bb
  replace B_y := mv B_y bb
  replace B_r := mv B_r bb
  replace B_t := mv B_t bb
  replace B_e := mv B_e bb
  replace B_l := mv B_l bb
  replace HB := nx HB bb
  clear bb c0y c1y c2y c3y c4y c0r c1r c2r c3r c0e c1e c0l c1l
  have c0y : w5.cell? ⟨w.heap.size, 0, none⟩ = some (.int .i64 a) := B_y.out.cell 0 rfl
  have c1y : w5.cell? ⟨w.heap.size, 1, none⟩ = some (.int .i64 b) := B_y.out.cell 1 rfl
  have c2y : w5.cell? ⟨w.heap.size, 2, none⟩ = some (.int .i64 x) := B_y.out.cell 2 rfl
  have c3y : w5.cell? ⟨w.heap.size, 3, none⟩ = some (.int .i64 y) := B_y.out.cell 3 rfl
  have c4y : w5.cell? ⟨w.heap.size, 4, none⟩ = some (.int .i64 d) := B_y.out.cell 4 rfl
  have c0r : w5.cell? ⟨w.heap.size + 1, 0, none⟩ = some (.int .i64 x0) := B_r.out.cell 0 rfl
  have c1r : w5.cell? ⟨w.heap.size + 1, 1, none⟩ = some (.int .i64 y0) := B_r.out.cell 1 rfl
  have c2r : w5.cell? ⟨w.heap.size + 1, 2, none⟩ = some (.int .i64 x1) := B_r.out.cell 2 rfl
  have c3r : w5.cell? ⟨w.heap.size + 1, 3, none⟩ = some (.int .i64 y1) := B_r.out.cell 3 rfl
  have c0e : w5.cell? ⟨w2.heap.size, 0, none⟩ = some (.int .i64 N1) := B_e.out.cell 0 rfl
  have c1e : w5.cell? ⟨w2.heap.size, 1, none⟩ = some (.int .i64 D1) := B_e.out.cell 1 rfl
  have c0l : w5.cell? ⟨w3.heap.size, 0, none⟩ = some (.int .i64 N2) := B_l.out.cell 0 rfl
  have c1l : w5.cell? ⟨w3.heap.size, 1, none⟩ = some (.int .i64 D2) := B_l.out.cell 1 rfl
  go_wp2_with fail
  refine hK.out _ _ ?_ (fun hH1x1 => ?_)
  · ((try dsimp only); (repeat' apply And.intro) <;> (first | (with_reducible assumption) | ((repeat (first | (with_reducible refine Eq.trans (cell_drew1 _ _) ?_) | (with_reducible refine Eq.trans (cell_far (by omega) _ _ _) ?_) | (with_reducible refine Eq.trans (World.cell?_alloc_lt _ _ _ (by first | (dsimp only; omega) | (simp only [World.size_alloc, World.size_setCell]; omega))) ?_))); with_reducible assumption) | assumption | go_keep))
  clear hK K hH1x0
  try simp only [Act.put, List.setIfInBounds_toArray, List.set_cons_zero, List.set_cons_succ, List.getElem_toArray, List.getElem_cons_zero, List.getElem_cons_succ]
  refine wpAnyH_take (i := 15) (v := ?hv1x15) rfl (by kernel_rfl) (by kernel_rfl) (by kernel_rfl) (fun _ _ _ h => h) (Or.inl ⟨by kernel_rfl, ?hy1x15⟩) (by assumption) ?hr1x15
  case hy1x15 => (intro w hSw; (try dsimp only at hSw); go_simp <;> with_reducible rfl)
  simp only [Act.put, List.setIfInBounds_toArray, List.set_cons_zero, List.set_cons_succ, List.getElem_toArray, List.getElem_cons_zero, List.getElem_cons_succ]
  refine wpAnyH_take (i := 16) (v := undef) rfl (by kernel_rfl) (by kernel_rfl) (by kernel_rfl) (fun _ _ _ h => h) (Or.inr ⟨by kernel_rfl, rfl⟩) (by assumption) ?_
  simp only [Act.put, List.setIfInBounds_toArray, List.set_cons_zero, List.set_cons_succ, List.getElem_toArray, List.getElem_cons_zero, List.getElem_cons_succ]
  refine wpAnyH_take (i := 17) (v := undef) rfl (by kernel_rfl) (by kernel_rfl) (by kernel_rfl) (fun _ _ _ h => h) (Or.inr ⟨by kernel_rfl, rfl⟩) (by assumption) ?_
  simp only [Act.put, List.setIfInBounds_toArray, List.set_cons_zero, List.set_cons_succ, List.getElem_toArray, List.getElem_cons_zero, List.getElem_cons_succ]
  refine wpAnyH_take (i := 18) (v := undef) rfl (by kernel_rfl) (by kernel_rfl) (by kernel_rfl) (fun _ _ _ h => h) (Or.inr ⟨by kernel_rfl, rfl⟩) (by assumption) ?_
  simp only [Act.put, List.setIfInBounds_toArray, List.set_cons_zero, List.set_cons_succ, List.getElem_toArray, List.getElem_cons_zero, List.getElem_cons_succ]
  refine wpAnyH_take (i := 19) (v := undef) rfl (by kernel_rfl) (by kernel_rfl) (by kernel_rfl) (fun _ _ _ h => h) (Or.inr ⟨by kernel_rfl, rfl⟩) (by assumption) ?_
  simp only [Act.put, List.setIfInBounds_toArray, List.set_cons_zero, List.set_cons_succ, List.getElem_toArray, List.getElem_cons_zero, List.getElem_cons_succ]
  refine wpAnyH_take (i := 20) (v := undef) rfl (by kernel_rfl) (by kernel_rfl) (by kernel_rfl) (fun _ _ _ h => h) (Or.inr ⟨by kernel_rfl, rfl⟩) (by assumption) ?_
  simp only [Act.put, List.setIfInBounds_toArray, List.set_cons_zero, List.set_cons_succ, List.getElem_toArray, List.getElem_cons_zero, List.getElem_cons_succ]
  refine wpAnyH_take (i := 21) (v := undef) rfl (by kernel_rfl) (by kernel_rfl) (by kernel_rfl) (fun _ _ _ h => h) (Or.inr ⟨by kernel_rfl, rfl⟩) (by assumption) ?_
  simp only [Act.put, List.setIfInBounds_toArray, List.set_cons_zero, List.set_cons_succ, List.getElem_toArray, List.getElem_cons_zero, List.getElem_cons_succ]
  refine wpAnyH_take (i := 22) (v := undef) rfl (by kernel_rfl) (by kernel_rfl) (by kernel_rfl) (fun _ _ _ h => h) (Or.inr ⟨by kernel_rfl, rfl⟩) (by assumption) ?_
  simp only [Act.put, List.setIfInBounds_toArray, List.set_cons_zero, List.set_cons_succ, List.getElem_toArray, List.getElem_cons_zero, List.getElem_cons_succ]
  refine wpAnyH_take (i := 23) (v := ?hv1x23) rfl (by kernel_rfl) (by kernel_rfl) (by kernel_rfl) (fun _ _ _ h => h) (Or.inl ⟨by kernel_rfl, ?hy1x23⟩) (by assumption) ?hr1x23
  case hy1x23 => (intro w hSw; (try dsimp only at hSw); go_simp <;> with_reducible rfl)
  simp only [Act.put, List.setIfInBounds_toArray, List.set_cons_zero, List.set_cons_succ, List.getElem_toArray, List.getElem_cons_zero, List.getElem_cons_succ]
  refine wpAnyH_take (i := 24) (v := ?hv1x24) rfl (by kernel_rfl) (by kernel_rfl) (by kernel_rfl) (fun _ _ _ h => h) (Or.inl ⟨by kernel_rfl, ?hy1x24⟩) (by assumption) ?hr1x24
  case hy1x24 => (intro w hSw; (try dsimp only at hSw); go_simp <;> with_reducible rfl)
  simp only [Act.put, List.setIfInBounds_toArray, List.set_cons_zero, List.set_cons_succ, List.getElem_toArray, List.getElem_cons_zero, List.getElem_cons_succ]
  refine wpAnyH_take (i := 25) (v := ?hv1x25) rfl (by kernel_rfl) (by kernel_rfl) (by kernel_rfl) (fun _ _ _ h => h) (Or.inl ⟨by kernel_rfl, ?hy1x25⟩) (by assumption) ?hr1x25
  case hy1x25 => (intro w hSw; (try dsimp only at hSw); go_simp <;> with_reducible rfl)
  simp only [Act.put, List.setIfInBounds_toArray, List.set_cons_zero, List.set_cons_succ, List.getElem_toArray, List.getElem_cons_zero, List.getElem_cons_succ]
  refine wpAnyH_take (i := 26) (v := ?hv1x26) rfl (by kernel_rfl) (by kernel_rfl) (by kernel_rfl) (fun _ _ _ h => h) (Or.inl ⟨by kernel_rfl, ?hy1x26⟩) (by assumption) ?hr1x26
  case hy1x26 => (intro w hSw; (try dsimp only at hSw); go_simp <;> with_reducible rfl)
  simp only [Act.put, List.setIfInBounds_toArray, List.set_cons_zero, List.set_cons_succ, List.getElem_toArray, List.getElem_cons_zero, List.getElem_cons_succ]
  refine wpAnyH_take (i := 27) (v := ?hv1x27) rfl (by kernel_rfl) (by kernel_rfl) (by kernel_rfl) (fun _ _ _ h => h) (Or.inl ⟨by kernel_rfl, ?hy1x27⟩) (by assumption) ?hr1x27
  case hy1x27 => (intro w hSw; (try dsimp only at hSw); go_simp <;> with_reducible rfl)
  simp only [Act.put, List.setIfInBounds_toArray, List.set_cons_zero, List.set_cons_succ, List.getElem_toArray, List.getElem_cons_zero, List.getElem_cons_succ]
  refine wpAnyH_take (i := 28) (v := ?hv1x28) rfl (by kernel_rfl) (by kernel_rfl) (by kernel_rfl) (fun _ _ _ h => h) (Or.inl ⟨by kernel_rfl, ?hy1x28⟩) (by assumption) ?hr1x28
  case hy1x28 => (intro w hSw; (try dsimp only at hSw); go_simp <;> with_reducible rfl)
  simp only [Act.put, List.setIfInBounds_toArray, List.set_cons_zero, List.set_cons_succ, List.getElem_toArray, List.getElem_cons_zero, List.getElem_cons_succ]
  refine wpAnyH_take (i := 29) (v := ?hv1x29) rfl (by kernel_rfl) (by kernel_rfl) (by kernel_rfl) (fun _ _ _ h => h) (Or.inl ⟨by kernel_rfl, ?hy1x29⟩) (by assumption) ?hr1x29
  case hy1x29 => (intro w hSw; (try dsimp only at hSw); go_simp <;> with_reducible rfl)
  simp only [Act.put, List.setIfInBounds_toArray, List.set_cons_zero, List.set_cons_succ, List.getElem_toArray, List.getElem_cons_zero, List.getElem_cons_succ]
  refine wpAnyH_take (i := 30) (v := ?hv1x30) rfl (by kernel_rfl) (by kernel_rfl) (by kernel_rfl) (fun _ _ _ h => h) (Or.inl ⟨by kernel_rfl, ?hy1x30⟩) (by assumption) ?hr1x30
  case hy1x30 => (intro w hSw; (try dsimp only at hSw); go_simp <;> with_reducible rfl)
  simp only [Act.put, List.setIfInBounds_toArray, List.set_cons_zero, List.set_cons_succ, List.getElem_toArray, List.getElem_cons_zero, List.getElem_cons_succ]
  refine wpAnyH_take (i := 31) (v := ?hv1x31) rfl (by kernel_rfl) (by kernel_rfl) (by kernel_rfl) (fun _ _ _ h => h) (Or.inl ⟨by kernel_rfl, ?hy1x31⟩) (by assumption) ?hr1x31
  case hy1x31 => (intro w hSw; (try dsimp only at hSw); go_simp <;> with_reducible rfl)
  simp only [Act.put, List.setIfInBounds_toArray, List.set_cons_zero, List.set_cons_succ, List.getElem_toArray, List.getElem_cons_zero, List.getElem_cons_succ]
  refine wpAnyH_take (i := 33) (v := ?hv1x33) rfl (by kernel_rfl) (by kernel_rfl) (by kernel_rfl) (fun _ _ _ h => h) (Or.inl ⟨by kernel_rfl, ?hy1x33⟩) (by assumption) ?hr1x33
  case hy1x33 => (intro w hSw; (try dsimp only at hSw); go_simp <;> with_reducible rfl)
  simp only [Act.put, List.setIfInBounds_toArray, List.set_cons_zero, List.set_cons_succ, List.getElem_toArray, List.getElem_cons_zero, List.getElem_cons_succ]
  refine wpAnyH_take (i := 34) (v := ?hv1x34) rfl (by kernel_rfl) (by kernel_rfl) (by kernel_rfl) (fun _ _ _ h => h) (Or.inl ⟨by kernel_rfl, ?hy1x34⟩) (by assumption) ?hr1x34
  case hy1x34 => (intro w hSw; (try dsimp only at hSw); go_simp <;> with_reducible rfl)
  simp only [Act.put, List.setIfInBounds_toArray, List.set_cons_zero, List.set_cons_succ, List.getElem_toArray, List.getElem_cons_zero, List.getElem_cons_succ]
  refine wpAnyH_take (i := 35) (v := ?hv1x35) rfl (by kernel_rfl) (by kernel_rfl) (by kernel_rfl) (fun _ _ _ h => h) (Or.inl ⟨by kernel_rfl, ?hy1x35⟩) (by assumption) ?hr1x35
  case hy1x35 => (intro w hSw; (try dsimp only at hSw); go_simp <;> with_reducible rfl)
  simp only [Act.put, List.setIfInBounds_toArray, List.set_cons_zero, List.set_cons_succ, List.getElem_toArray, List.getElem_cons_zero, List.getElem_cons_succ]
  refine wpAnyH_take (i := 36) (v := ?hv1x36) rfl (by kernel_rfl) (by kernel_rfl) (by kernel_rfl) (fun _ _ _ h => h) (Or.inl ⟨by kernel_rfl, ?hy1x36⟩) (by assumption) ?hr1x36
  case hy1x36 => (intro w hSw; (try dsimp only at hSw); go_simp <;> with_reducible rfl)
  simp only [Act.put, List.setIfInBounds_toArray, List.set_cons_zero, List.set_cons_succ, List.getElem_toArray, List.getElem_cons_zero, List.getElem_cons_succ]
  refine wpAnyH_take (i := 37) (v := ?hv1x37) rfl (by kernel_rfl) (by kernel_rfl) (by kernel_rfl) (fun _ _ _ h => h) (Or.inl ⟨by kernel_rfl, ?hy1x37⟩) (by assumption) ?hr1x37
  case hy1x37 => (intro w hSw; (try dsimp only at hSw); go_simp <;> with_reducible rfl)
  simp only [Act.put, List.setIfInBounds_toArray, List.set_cons_zero, List.set_cons_succ, List.getElem_toArray, List.getElem_cons_zero, List.getElem_cons_succ]
  refine wpAnyH_take (i := 38) (v := ?hv1x38) rfl (by kernel_rfl) (by kernel_rfl) (by kernel_rfl) (fun _ _ _ h => h) (Or.inl ⟨by kernel_rfl, ?hy1x38⟩) (by assumption) ?hr1x38
  case hy1x38 => (intro w hSw; (try dsimp only at hSw); go_simp <;> with_reducible rfl)
  simp only [Act.put, List.setIfInBounds_toArray, List.set_cons_zero, List.set_cons_succ, List.getElem_toArray, List.getElem_cons_zero, List.getElem_cons_succ]
  refine wpAnyH_take (i := 39) (v := ?hv1x39) rfl (by kernel_rfl) (by kernel_rfl) (by kernel_rfl) (fun _ _ _ h => h) (Or.inl ⟨by kernel_rfl, ?hy1x39⟩) (by assumption) ?hr1x39
  case hy1x39 => (intro w hSw; (try dsimp only at hSw); go_simp <;> with_reducible rfl)
  simp only [Act.put, List.setIfInBounds_toArray, List.set_cons_zero, List.set_cons_succ, List.getElem_toArray, List.getElem_cons_zero, List.getElem_cons_succ]
  refine wpAnyH_ready (rs := [32]) (by kernel_rfl) (by simp) ?_
  refine AllReadyH.cons rfl (fun K hK => ?_) AllReadyH.nil
  go_simp
  go_at_call 21
  refine (H3.out _).mono ?_
  rintro e w6 ⟨rfl, bb⟩
  replace bb := nextw (w0 := w5) (by exact sm) bb
  replace B_y := mv B_y bb
  replace B_r := mv B_r bb
  replace B_t := mv B_t bb
  replace B_e := mv B_e bb
  replace B_l := mv B_l bb
  replace HB := nx HB bb
  clear bb c0y c1y c2y c3y c4y c0r c1r c2r c3r c0e c1e c0l c1l
  have c0y : w6.cell? ⟨w.heap.size, 0, none⟩ = some (.int .i64 a) := B_y.out.cell 0 rfl
  have c1y : w6.cell? ⟨w.heap.size, 1, none⟩ = some (.int .i64 b) := B_y.out.cell 1 rfl
  have c2y : w6.cell? ⟨w.heap.size, 2, none⟩ = some (.int .i64 x) := B_y.out.cell 2 rfl
  have c3y : w6.cell? ⟨w.heap.size, 3, none⟩ = some (.int .i64 y) := B_y.out.cell 3 rfl
  have c4y : w6.cell? ⟨w.heap.size, 4, none⟩ = some (.int .i64 d) := B_y.out.cell 4 rfl
  have c0r : w6.cell? ⟨w.heap.size + 1, 0, none⟩ = some (.int .i64 x0) := B_r.out.cell 0 rfl
  have c1r : w6.cell? ⟨w.heap.size + 1, 1, none⟩ = some (.int .i64 y0) := B_r.out.cell 1 rfl
  have c2r : w6.cell? ⟨w.heap.size + 1, 2, none⟩ = some (.int .i64 x1) := B_r.out.cell 2 rfl
  have c3r : w6.cell? ⟨w.heap.size + 1, 3, none⟩ = some (.int .i64 y1) := B_r.out.cell 3 rfl
  have c0e : w6.cell? ⟨w2.heap.size, 0, none⟩ = some (.int .i64 N1) := B_e.out.cell 0 rfl
  have c1e : w6.cell? ⟨w2.heap.size, 1, none⟩ = some (.int .i64 D1) := B_e.out.cell 1 rfl
  have c0l : w6.cell? ⟨w3.heap.size, 0, none⟩ = some (.int .i64 N2) := B_l.out.cell 0 rfl
  have c1l : w6.cell? ⟨w3.heap.size, 1, none⟩ = some (.int .i64 D2) := B_l.out.cell 1 rfl
  go_wp2_with fail
  refine hK.out _ _ ?_ (fun hH1x2 => ?_)
  · ((try dsimp only); (repeat' apply And.intro) <;> (first | (with_reducible assumption) | ((repeat (first | (with_reducible refine Eq.trans (cell_drew1 _ _) ?_) | (with_reducible refine Eq.trans (cell_far (by omega) _ _ _) ?_) | (with_reducible refine Eq.trans (World.cell?_alloc_lt _ _ _ (by first | (dsimp only; omega) | (simp only [World.size_alloc, World.size_setCell]; omega))) ?_))); with_reducible assumption) | assumption | go_keep))
  clear hK K hH1x1
  try simp only [Act.put, List.setIfInBounds_toArray, List.set_cons_zero, List.set_cons_succ, List.getElem_toArray, List.getElem_cons_zero, List.getElem_cons_succ]
  refine wpAnyH_take (i := 40) (v := ?hv1x40) rfl (by kernel_rfl) (by kernel_rfl) (by kernel_rfl) (fun _ _ _ h => h) (Or.inl ⟨by kernel_rfl, ?hy1x40⟩) (by assumption) ?hr1x40
  case hy1x40 => (intro w hSw; (try dsimp only at hSw); go_simp <;> with_reducible rfl)
  simp only [Act.put, List.setIfInBounds_toArray, List.set_cons_zero, List.set_cons_succ, List.getElem_toArray, List.getElem_cons_zero, List.getElem_cons_succ]
  refine wpAnyH_take (i := 41) (v := ?hv1x41) rfl (by kernel_rfl) (by kernel_rfl) (by kernel_rfl) (fun _ _ _ h => h) (Or.inl ⟨by kernel_rfl, ?hy1x41⟩) (by assumption) ?hr1x41
  case hy1x41 => (intro w hSw; (try dsimp only at hSw); go_simp <;> with_reducible rfl)
  simp only [Act.put, List.setIfInBounds_toArray, List.set_cons_zero, List.set_cons_succ, List.getElem_toArray, List.getElem_cons_zero, List.getElem_cons_succ]
  refine wpAnyH_take (i := 42) (v := ?hv1x42) rfl (by kernel_rfl) (by kernel_rfl) (by kernel_rfl) (fun _ _ _ h => h) (Or.inl ⟨by kernel_rfl, ?hy1x42⟩) (by assumption) ?hr1x42
  case hy1x42 => (intro w hSw; (try dsimp only at hSw); go_simp <;> with_reducible rfl)
  simp only [Act.put, List.setIfInBounds_toArray, List.set_cons_zero, List.set_cons_succ, List.getElem_toArray, List.getElem_cons_zero, List.getElem_cons_succ]
  refine wpAnyH_done (by kernel_rfl) ?_ _
  clear hH1x2
  clear c0y c1y c2y c3y c4y c0r c1r c2r c3r c0e c1e c0l c1l
  clear ew1 ew2
  go_wp2
  go_ret
  exact ⟨rfl, nextw HB.out (by exact sm)⟩

theorem Orders_any (a b x y d x0 y0 x1 y1 lo hi : Int) (w : World) : Calls Try.prog 9 #[.agg #[.int .i64 a, .int .i64 b, .int .i64 x, .int .i64 y, .int .i64 d], .agg #[.int .i64 x0, .int .i64 y0, .int .i64 x1, .int .i64 y1], .agg #[.int .i64 lo, .int .i64 hi]] w fun e w' => e = .returned (.bool true) ∧ Below w.heap.size w w' := by
  by_cases l0 : 0 ≤ lo
  · by_cases l1 : lo ≤ hi
    · by_cases l2 : hi ≤ 65536
      · rcases h : visB a b x y d x0 y0 x1 y1 with _ | _
        · exact Orders_n a b x y d x0 y0 x1 y1 lo hi l0 l1 l2 h w
        · by_cases g1 : (enN a b x y d x0 y0 x1 y1) ≤ hi * (enD a b x y d x0 y0 x1 y1)
          · by_cases g2 : lo * (leD a b x y d x0 y0 x1 y1) ≤ (leN a b x y d x0 y0 x1 y1)
            · by_cases g3 : (enN a b x y d x0 y0 x1 y1) < hi * (enD a b x y d x0 y0 x1 y1)
              · exact Orders_vttt a b x y d x0 y0 x1 y1 lo hi l0 l1 l2 h g1 g2 g3 w
              · exact Orders_vttf a b x y d x0 y0 x1 y1 lo hi l0 l1 l2 h g1 g2 (by omega) w
            · by_cases g3 : (enN a b x y d x0 y0 x1 y1) < hi * (enD a b x y d x0 y0 x1 y1)
              · exact Orders_vtft a b x y d x0 y0 x1 y1 lo hi l0 l1 l2 h g1 (by omega) g3 w
              · exact Orders_vtff a b x y d x0 y0 x1 y1 lo hi l0 l1 l2 h g1 (by omega) (by omega) w
          · exact Orders_vfxf a b x y d x0 y0 x1 y1 lo hi l0 l1 l2 h (by omega) w
      · exact Orders_r3 a b x y d x0 y0 x1 y1 lo hi l0 l1 (by omega) w
    · exact Orders_r2 a b x y d x0 y0 x1 y1 lo hi l0 (by omega) w
  · exact Orders_r1 a b x y d x0 y0 x1 y1 lo hi (by omega) w
end Go.Proofs.Ytaflgmiagjldhaa
