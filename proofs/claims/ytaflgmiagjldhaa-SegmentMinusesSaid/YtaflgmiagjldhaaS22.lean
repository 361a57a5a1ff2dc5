/- The law SegmentMinuses. -/
import Derived.Test.YtaflgmiagjldhaaSLaw
set_option linter.unusedVariables false
set_option linter.unusedSimpArgs false
namespace Go.Proofs.Ytaflgmiagjldhaa
open Go Go.RowKit Hd

set_option maxRecDepth 100000 in
set_option maxHeartbeats 16000000 in
theorem Minuses_0 (x y n a b c d x0 y0 x1 y1 lo hi : Int) (hq : ¬ OkR a b c d) (w : World) :
    Calls Try.prog 7 #[.agg #[.int .i64 x, .int .i64 y, .int .i64 n], .agg #[.int .i64 a, .int .i64 b, .int .i64 c, .int .i64 d, .int .i64 x0, .int .i64 y0, .int .i64 x1, .int .i64 y1], .agg #[.int .i64 lo, .int .i64 hi]] w fun e w' => e = .returned (.bool true) ∧ Below w.heap.size w w' := by
  have HA := Lib.hid (fun w => awake_any w)
  have HM := Lib.hid (fun w => Minus_0 a b c d x0 y0 x1 y1 hq w)
  have HN := Lib.hid (fun w => RMinus_0 a b c d x0 y0 x1 y1 hq w)
  clear hq
  obtain ⟨HB, B_v, B_l, B_t⟩ := box3 w 25 #[.int .i64 x, .int .i64 y, .int .i64 n] 49 #[.int .i64 a, .int .i64 b, .int .i64 c, .int .i64 d, .int .i64 x0, .int .i64 y0, .int .i64 x1, .int .i64 y1] 37 #[.int .i64 lo, .int .i64 hi]
  go_enter Try.func7, Try.ntmps7
  go_wp2_with fail
  generalize ((w.alloc (.cells #[.int .i64 x, .int .i64 y, .int .i64 n] 25)).alloc (.cells #[.int .i64 a, .int .i64 b, .int .i64 c, .int .i64 d, .int .i64 x0, .int .i64 y0, .int .i64 x1, .int .i64 y1] 49)).alloc (.cells #[.int .i64 lo, .int .i64 hi] 37) = W0 at *
  refine (HA.out _).mono ?_
  rintro e w1 ⟨rfl, bb⟩
  replace bb := nextw (w0 := W0) (by exact sm) bb
  replace B_v := mv B_v bb
  replace B_l := mv B_l bb
  replace B_t := mv B_t bb
  replace HB := nx HB bb
  clear bb
  clear HA
  go_upto_region 3 with (fail)
  go_cut [7, 8] (fun sv0 sv1 wx => ∃ Pq Pr : Nat, sv0 = (.pointer (some ⟨Pq, 0, none⟩)) ∧ sv1 = (.pointer (some ⟨Pr, 0, none⟩)) ∧ Hid (Pq ≠ Pr) ∧ Hid (w.heap.size ≤ Pq) ∧ Hid (w.heap.size ≤ Pr) ∧ Hid (Bx wx (Pq) 29 #[.int .i64 a, .int .i64 b, .int .i64 c, .int .i64 d]) ∧ Hid (Bx wx (Pr) 29 #[.int .i64 x0, .int .i64 y0, .int .i64 x1, .int .i64 y1]) ∧ Hid (Bx wx (w.heap.size) 25 #[.int .i64 x, .int .i64 y, .int .i64 n]) ∧ Hid (Bx wx (w.heap.size + 1) 49 #[.int .i64 a, .int .i64 b, .int .i64 c, .int .i64 d, .int .i64 x0, .int .i64 y0, .int .i64 x1, .int .i64 y1]) ∧ Hid (Bx wx (w.heap.size + 1 + 1) 37 #[.int .i64 lo, .int .i64 hi]) ∧ Hid (Below w.heap.size w wx))
  case first =>
    obtain ⟨c0l, c1l, c2l, c3l, c4l, c5l, c6l, c7l⟩ := cells8 B_l
    have lt_l := B_l.out.lt
    go_region_held3 (fun w' => w'.cell? ⟨w.heap.size + 1, 0, none⟩ = some (.int .i64 a) ∧ w'.cell? ⟨w.heap.size + 1, 1, none⟩ = some (.int .i64 b) ∧ w'.cell? ⟨w.heap.size + 1, 2, none⟩ = some (.int .i64 c) ∧ w'.cell? ⟨w.heap.size + 1, 3, none⟩ = some (.int .i64 d) ∧ w'.cell? ⟨w.heap.size + 1, 4, none⟩ = some (.int .i64 x0) ∧ w'.cell? ⟨w.heap.size + 1, 5, none⟩ = some (.int .i64 y0) ∧ w'.cell? ⟨w.heap.size + 1, 6, none⟩ = some (.int .i64 x1) ∧ w'.cell? ⟨w.heap.size + 1, 7, none⟩ = some (.int .i64 y1)) (((try dsimp only); (repeat' apply And.intro) <;> (first | (with_reducible assumption) | ((repeat (first | (with_reducible refine Eq.trans (cell_drew1 _ _) ?_) | (with_reducible refine Eq.trans (cell_far (by omega) _ _ _) ?_) | (with_reducible refine Eq.trans (World.cell?_alloc_lt _ _ _ (by first | (dsimp only; omega) | (simp only [World.size_alloc, World.size_setCell]; omega))) ?_))); with_reducible assumption) | assumption | go_keep)))
        (first | fail)
    all_goals clear c0l c1l c2l c3l c4l c5l c6l c7l lt_l
    all_goals go_wp2_with fail
    all_goals go_meet
    all_goals first
        | (refine ⟨w1.heap.size, w1.heap.size + 1, rfl, rfl, ?_⟩; obtain ⟨bb, b0, b1⟩ := box2 w1 29 #[.int .i64 a, .int .i64 b, .int .i64 c, .int .i64 d] 29 #[.int .i64 x0, .int .i64 y0, .int .i64 x1, .int .i64 y1]; replace bb := bb.out; have hs := HB.out.size; exact ⟨(by unfold Hid; omega), (by unfold Hid; omega), (by unfold Hid; omega), mv b0 sm, mv b1 sm, mv (mv B_v bb) sm, mv (mv B_l bb) sm, mv (mv B_t bb) sm, nx (nx HB bb) sm⟩)
        | (refine ⟨w1.heap.size + 1, w1.heap.size, rfl, rfl, ?_⟩; obtain ⟨bb, b0, b1⟩ := box2 w1 29 #[.int .i64 x0, .int .i64 y0, .int .i64 x1, .int .i64 y1] 29 #[.int .i64 a, .int .i64 b, .int .i64 c, .int .i64 d]; replace bb := bb.out; have hs := HB.out.size; exact ⟨(by unfold Hid; omega), (by unfold Hid; omega), (by unfold Hid; omega), mv b1 sm, mv b0 sm, mv (mv B_v bb) sm, mv (mv B_l bb) sm, mv (mv B_t bb) sm, nx (nx HB bb) sm⟩)
  case rest =>
    clear B_v
    clear B_l
    clear B_t
    clear HB
    rename World => wc2
    obtain ⟨Pq, Pr, rfl, rfl, ne01Pq, lePq, lePr, B_q, B_r, B_v, B_l, B_t, HB⟩ := hcut
    clear B_l
    go_upto_region 4 with (fail)
    obtain ⟨c0q, c1q, c2q, c3q⟩ := cells4 B_q
    obtain ⟨c0r, c1r, c2r, c3r⟩ := cells4 B_r
    go_wp2_with fail
    refine (HM.out _).mono ?_
    clear c0q c1q c2q c3q c0r c1r c2r c3r
    rintro e w3 ⟨rfl, bb⟩
    replace bb := nextw (w0 := wc2) (by exact sm) bb
    replace B_v := mv B_v bb
    replace B_t := mv B_t bb
    replace B_q := mv B_q bb
    replace B_r := mv B_r bb
    replace HB := nx HB bb
    clear bb
    have lt_mv := B_v.out.lt
    have lt_mt := B_t.out.lt
    have lt_mq := B_q.out.lt
    have lt_mr := B_r.out.lt
    obtain ⟨bb, B_m⟩ := box1 w3 29 #[.int .i64 0, .int .i64 0, .int .i64 0, .int .i64 0]
    replace bb := bb.out
    replace B_v := mv B_v bb
    replace B_t := mv B_t bb
    replace B_q := mv B_q bb
    replace B_r := mv B_r bb
    replace HB := nx HB bb
    clear bb
    go_upto_region 5 with (fail)
    generalize w3.alloc (.cells #[.int .i64 0, .int .i64 0, .int .i64 0, .int .i64 0] 29) = WM at *
    obtain ⟨c0q, c1q, c2q, c3q⟩ := cells4 B_q
    obtain ⟨c0r, c1r, c2r, c3r⟩ := cells4 B_r
    go_wp2_with fail
    refine (HN.out _).mono ?_
    clear c0q c1q c2q c3q c0r c1r c2r c3r
    rintro e w4 ⟨rfl, bb⟩
    replace bb := nextw (w0 := WM) (by exact sm) bb
    replace B_v := mv B_v bb
    replace B_t := mv B_t bb
    replace B_q := mv B_q bb
    replace B_r := mv B_r bb
    replace B_m := mv B_m bb
    replace HB := nx HB bb
    clear bb
    have lt_ov := B_v.out.lt
    have lt_ot := B_t.out.lt
    have lt_oq := B_q.out.lt
    have lt_or := B_r.out.lt
    have lt_om := B_m.out.lt
    obtain ⟨bb, B_o⟩ := box1 w4 29 #[.int .i64 0, .int .i64 0, .int .i64 0, .int .i64 0]
    replace bb := bb.out
    replace B_v := mv B_v bb
    replace B_t := mv B_t bb
    replace B_q := mv B_q bb
    replace B_r := mv B_r bb
    replace B_m := mv B_m bb
    replace HB := nx HB bb
    clear bb
    go_upto_region 6 with (fail)
    generalize w4.alloc (.cells #[.int .i64 0, .int .i64 0, .int .i64 0, .int .i64 0] 29) = WO at *
    clear HM HN
    obtain ⟨c0m, c1m, c2m, c3m⟩ := cells4 B_m
    obtain ⟨c0o, c1o, c2o, c3o⟩ := cells4 B_o
    go_wp2
    go_ret
    exact ⟨rfl, nextw HB.out (by exact sm)⟩

set_option maxRecDepth 100000 in
set_option maxHeartbeats 16000000 in
theorem Minuses_1 (x y n a b c d x0 y0 x1 y1 lo hi : Int) (hq : OkR a b c d) (hr : ¬ OkR x0 y0 x1 y1) (w : World) :
    Calls Try.prog 7 #[.agg #[.int .i64 x, .int .i64 y, .int .i64 n], .agg #[.int .i64 a, .int .i64 b, .int .i64 c, .int .i64 d, .int .i64 x0, .int .i64 y0, .int .i64 x1, .int .i64 y1], .agg #[.int .i64 lo, .int .i64 hi]] w fun e w' => e = .returned (.bool true) ∧ Below w.heap.size w w' := by
  have HA := Lib.hid (fun w => awake_any w)
  have HM := Lib.hid (fun w => Minus_1 a b c d x0 y0 x1 y1 hq hr w)
  have HN := Lib.hid (fun w => RMinus_1 a b c d x0 y0 x1 y1 hq hr w)
  clear hq hr
  obtain ⟨HB, B_v, B_l, B_t⟩ := box3 w 25 #[.int .i64 x, .int .i64 y, .int .i64 n] 49 #[.int .i64 a, .int .i64 b, .int .i64 c, .int .i64 d, .int .i64 x0, .int .i64 y0, .int .i64 x1, .int .i64 y1] 37 #[.int .i64 lo, .int .i64 hi]
  go_enter Try.func7, Try.ntmps7
  go_wp2_with fail
  generalize ((w.alloc (.cells #[.int .i64 x, .int .i64 y, .int .i64 n] 25)).alloc (.cells #[.int .i64 a, .int .i64 b, .int .i64 c, .int .i64 d, .int .i64 x0, .int .i64 y0, .int .i64 x1, .int .i64 y1] 49)).alloc (.cells #[.int .i64 lo, .int .i64 hi] 37) = W0 at *
  refine (HA.out _).mono ?_
  rintro e w1 ⟨rfl, bb⟩
  replace bb := nextw (w0 := W0) (by exact sm) bb
  replace B_v := mv B_v bb
  replace B_l := mv B_l bb
  replace B_t := mv B_t bb
  replace HB := nx HB bb
  clear bb
  clear HA
  go_upto_region 3 with (fail)
  go_cut [7, 8] (fun sv0 sv1 wx => ∃ Pq Pr : Nat, sv0 = (.pointer (some ⟨Pq, 0, none⟩)) ∧ sv1 = (.pointer (some ⟨Pr, 0, none⟩)) ∧ Hid (Pq ≠ Pr) ∧ Hid (w.heap.size ≤ Pq) ∧ Hid (w.heap.size ≤ Pr) ∧ Hid (Bx wx (Pq) 29 #[.int .i64 a, .int .i64 b, .int .i64 c, .int .i64 d]) ∧ Hid (Bx wx (Pr) 29 #[.int .i64 x0, .int .i64 y0, .int .i64 x1, .int .i64 y1]) ∧ Hid (Bx wx (w.heap.size) 25 #[.int .i64 x, .int .i64 y, .int .i64 n]) ∧ Hid (Bx wx (w.heap.size + 1) 49 #[.int .i64 a, .int .i64 b, .int .i64 c, .int .i64 d, .int .i64 x0, .int .i64 y0, .int .i64 x1, .int .i64 y1]) ∧ Hid (Bx wx (w.heap.size + 1 + 1) 37 #[.int .i64 lo, .int .i64 hi]) ∧ Hid (Below w.heap.size w wx))
  case first =>
    obtain ⟨c0l, c1l, c2l, c3l, c4l, c5l, c6l, c7l⟩ := cells8 B_l
    have lt_l := B_l.out.lt
    go_region_held3 (fun w' => w'.cell? ⟨w.heap.size + 1, 0, none⟩ = some (.int .i64 a) ∧ w'.cell? ⟨w.heap.size + 1, 1, none⟩ = some (.int .i64 b) ∧ w'.cell? ⟨w.heap.size + 1, 2, none⟩ = some (.int .i64 c) ∧ w'.cell? ⟨w.heap.size + 1, 3, none⟩ = some (.int .i64 d) ∧ w'.cell? ⟨w.heap.size + 1, 4, none⟩ = some (.int .i64 x0) ∧ w'.cell? ⟨w.heap.size + 1, 5, none⟩ = some (.int .i64 y0) ∧ w'.cell? ⟨w.heap.size + 1, 6, none⟩ = some (.int .i64 x1) ∧ w'.cell? ⟨w.heap.size + 1, 7, none⟩ = some (.int .i64 y1)) (((try dsimp only); (repeat' apply And.intro) <;> (first | (with_reducible assumption) | ((repeat (first | (with_reducible refine Eq.trans (cell_drew1 _ _) ?_) | (with_reducible refine Eq.trans (cell_far (by omega) _ _ _) ?_) | (with_reducible refine Eq.trans (World.cell?_alloc_lt _ _ _ (by first | (dsimp only; omega) | (simp only [World.size_alloc, World.size_setCell]; omega))) ?_))); with_reducible assumption) | assumption | go_keep)))
        (first | fail)
    all_goals clear c0l c1l c2l c3l c4l c5l c6l c7l lt_l
    all_goals go_wp2_with fail
    all_goals go_meet
    all_goals first
        | (refine ⟨w1.heap.size, w1.heap.size + 1, rfl, rfl, ?_⟩; obtain ⟨bb, b0, b1⟩ := box2 w1 29 #[.int .i64 a, .int .i64 b, .int .i64 c, .int .i64 d] 29 #[.int .i64 x0, .int .i64 y0, .int .i64 x1, .int .i64 y1]; replace bb := bb.out; have hs := HB.out.size; exact ⟨(by unfold Hid; omega), (by unfold Hid; omega), (by unfold Hid; omega), mv b0 sm, mv b1 sm, mv (mv B_v bb) sm, mv (mv B_l bb) sm, mv (mv B_t bb) sm, nx (nx HB bb) sm⟩)
        | (refine ⟨w1.heap.size + 1, w1.heap.size, rfl, rfl, ?_⟩; obtain ⟨bb, b0, b1⟩ := box2 w1 29 #[.int .i64 x0, .int .i64 y0, .int .i64 x1, .int .i64 y1] 29 #[.int .i64 a, .int .i64 b, .int .i64 c, .int .i64 d]; replace bb := bb.out; have hs := HB.out.size; exact ⟨(by unfold Hid; omega), (by unfold Hid; omega), (by unfold Hid; omega), mv b1 sm, mv b0 sm, mv (mv B_v bb) sm, mv (mv B_l bb) sm, mv (mv B_t bb) sm, nx (nx HB bb) sm⟩)
  case rest =>
    clear B_v
    clear B_l
    clear B_t
    clear HB
    rename World => wc2
    obtain ⟨Pq, Pr, rfl, rfl, ne01Pq, lePq, lePr, B_q, B_r, B_v, B_l, B_t, HB⟩ := hcut
    clear B_l
    go_upto_region 4 with (fail)
    obtain ⟨c0q, c1q, c2q, c3q⟩ := cells4 B_q
    obtain ⟨c0r, c1r, c2r, c3r⟩ := cells4 B_r
    go_wp2_with fail
    refine (HM.out _).mono ?_
    clear c0q c1q c2q c3q c0r c1r c2r c3r
    rintro e w3 ⟨rfl, bb⟩
    replace bb := nextw (w0 := wc2) (by exact sm) bb
    replace B_v := mv B_v bb
    replace B_t := mv B_t bb
    replace B_q := mv B_q bb
    replace B_r := mv B_r bb
    replace HB := nx HB bb
    clear bb
    have lt_mv := B_v.out.lt
    have lt_mt := B_t.out.lt
    have lt_mq := B_q.out.lt
    have lt_mr := B_r.out.lt
    obtain ⟨bb, B_m⟩ := box1 w3 29 #[.int .i64 0, .int .i64 0, .int .i64 0, .int .i64 0]
    replace bb := bb.out
    replace B_v := mv B_v bb
    replace B_t := mv B_t bb
    replace B_q := mv B_q bb
    replace B_r := mv B_r bb
    replace HB := nx HB bb
    clear bb
    go_upto_region 5 with (fail)
    generalize w3.alloc (.cells #[.int .i64 0, .int .i64 0, .int .i64 0, .int .i64 0] 29) = WM at *
    obtain ⟨c0q, c1q, c2q, c3q⟩ := cells4 B_q
    obtain ⟨c0r, c1r, c2r, c3r⟩ := cells4 B_r
    go_wp2_with fail
    refine (HN.out _).mono ?_
    clear c0q c1q c2q c3q c0r c1r c2r c3r
    rintro e w4 ⟨rfl, bb⟩
    replace bb := nextw (w0 := WM) (by exact sm) bb
    replace B_v := mv B_v bb
    replace B_t := mv B_t bb
    replace B_q := mv B_q bb
    replace B_r := mv B_r bb
    replace B_m := mv B_m bb
    replace HB := nx HB bb
    clear bb
    have lt_ov := B_v.out.lt
    have lt_ot := B_t.out.lt
    have lt_oq := B_q.out.lt
    have lt_or := B_r.out.lt
    have lt_om := B_m.out.lt
    obtain ⟨bb, B_o⟩ := box1 w4 29 #[.int .i64 0, .int .i64 0, .int .i64 0, .int .i64 0]
    replace bb := bb.out
    replace B_v := mv B_v bb
    replace B_t := mv B_t bb
    replace B_q := mv B_q bb
    replace B_r := mv B_r bb
    replace B_m := mv B_m bb
    replace HB := nx HB bb
    clear bb
    go_upto_region 6 with (fail)
    generalize w4.alloc (.cells #[.int .i64 0, .int .i64 0, .int .i64 0, .int .i64 0] 29) = WO at *
    clear HM HN
    obtain ⟨c0m, c1m, c2m, c3m⟩ := cells4 B_m
    obtain ⟨c0o, c1o, c2o, c3o⟩ := cells4 B_o
    go_wp2
    go_ret
    exact ⟨rfl, nextw HB.out (by exact sm)⟩

set_option maxRecDepth 100000 in
set_option maxHeartbeats 16000000 in
theorem Minuses_2 (x y n a b c d x0 y0 x1 y1 lo hi : Int) (hq : OkR a b c d) (hr : OkR x0 y0 x1 y1) (hm : ¬ OkR (a - x1) (b - y1) (c - x0) (d - y0)) (w : World) :
    Calls Try.prog 7 #[.agg #[.int .i64 x, .int .i64 y, .int .i64 n], .agg #[.int .i64 a, .int .i64 b, .int .i64 c, .int .i64 d, .int .i64 x0, .int .i64 y0, .int .i64 x1, .int .i64 y1], .agg #[.int .i64 lo, .int .i64 hi]] w fun e w' => e = .returned (.bool true) ∧ Below w.heap.size w w' := by
  have HA := Lib.hid (fun w => awake_any w)
  have HM := Lib.hid (fun w => Minus_2 a b c d x0 y0 x1 y1 hq hr hm w)
  have HN := Lib.hid (fun w => RMinus_2 a b c d x0 y0 x1 y1 hq hr hm w)
  clear hq hr hm
  obtain ⟨HB, B_v, B_l, B_t⟩ := box3 w 25 #[.int .i64 x, .int .i64 y, .int .i64 n] 49 #[.int .i64 a, .int .i64 b, .int .i64 c, .int .i64 d, .int .i64 x0, .int .i64 y0, .int .i64 x1, .int .i64 y1] 37 #[.int .i64 lo, .int .i64 hi]
  go_enter Try.func7, Try.ntmps7
  go_wp2_with fail
  generalize ((w.alloc (.cells #[.int .i64 x, .int .i64 y, .int .i64 n] 25)).alloc (.cells #[.int .i64 a, .int .i64 b, .int .i64 c, .int .i64 d, .int .i64 x0, .int .i64 y0, .int .i64 x1, .int .i64 y1] 49)).alloc (.cells #[.int .i64 lo, .int .i64 hi] 37) = W0 at *
  refine (HA.out _).mono ?_
  rintro e w1 ⟨rfl, bb⟩
  replace bb := nextw (w0 := W0) (by exact sm) bb
  replace B_v := mv B_v bb
  replace B_l := mv B_l bb
  replace B_t := mv B_t bb
  replace HB := nx HB bb
  clear bb
  clear HA
  go_upto_region 3 with (fail)
  go_cut [7, 8] (fun sv0 sv1 wx => ∃ Pq Pr : Nat, sv0 = (.pointer (some ⟨Pq, 0, none⟩)) ∧ sv1 = (.pointer (some ⟨Pr, 0, none⟩)) ∧ Hid (Pq ≠ Pr) ∧ Hid (w.heap.size ≤ Pq) ∧ Hid (w.heap.size ≤ Pr) ∧ Hid (Bx wx (Pq) 29 #[.int .i64 a, .int .i64 b, .int .i64 c, .int .i64 d]) ∧ Hid (Bx wx (Pr) 29 #[.int .i64 x0, .int .i64 y0, .int .i64 x1, .int .i64 y1]) ∧ Hid (Bx wx (w.heap.size) 25 #[.int .i64 x, .int .i64 y, .int .i64 n]) ∧ Hid (Bx wx (w.heap.size + 1) 49 #[.int .i64 a, .int .i64 b, .int .i64 c, .int .i64 d, .int .i64 x0, .int .i64 y0, .int .i64 x1, .int .i64 y1]) ∧ Hid (Bx wx (w.heap.size + 1 + 1) 37 #[.int .i64 lo, .int .i64 hi]) ∧ Hid (Below w.heap.size w wx))
  case first =>
    obtain ⟨c0l, c1l, c2l, c3l, c4l, c5l, c6l, c7l⟩ := cells8 B_l
    have lt_l := B_l.out.lt
    go_region_held3 (fun w' => w'.cell? ⟨w.heap.size + 1, 0, none⟩ = some (.int .i64 a) ∧ w'.cell? ⟨w.heap.size + 1, 1, none⟩ = some (.int .i64 b) ∧ w'.cell? ⟨w.heap.size + 1, 2, none⟩ = some (.int .i64 c) ∧ w'.cell? ⟨w.heap.size + 1, 3, none⟩ = some (.int .i64 d) ∧ w'.cell? ⟨w.heap.size + 1, 4, none⟩ = some (.int .i64 x0) ∧ w'.cell? ⟨w.heap.size + 1, 5, none⟩ = some (.int .i64 y0) ∧ w'.cell? ⟨w.heap.size + 1, 6, none⟩ = some (.int .i64 x1) ∧ w'.cell? ⟨w.heap.size + 1, 7, none⟩ = some (.int .i64 y1)) (((try dsimp only); (repeat' apply And.intro) <;> (first | (with_reducible assumption) | ((repeat (first | (with_reducible refine Eq.trans (cell_drew1 _ _) ?_) | (with_reducible refine Eq.trans (cell_far (by omega) _ _ _) ?_) | (with_reducible refine Eq.trans (World.cell?_alloc_lt _ _ _ (by first | (dsimp only; omega) | (simp only [World.size_alloc, World.size_setCell]; omega))) ?_))); with_reducible assumption) | assumption | go_keep)))
        (first | fail)
    all_goals clear c0l c1l c2l c3l c4l c5l c6l c7l lt_l
    all_goals go_wp2_with fail
    all_goals go_meet
    all_goals first
        | (refine ⟨w1.heap.size, w1.heap.size + 1, rfl, rfl, ?_⟩; obtain ⟨bb, b0, b1⟩ := box2 w1 29 #[.int .i64 a, .int .i64 b, .int .i64 c, .int .i64 d] 29 #[.int .i64 x0, .int .i64 y0, .int .i64 x1, .int .i64 y1]; replace bb := bb.out; have hs := HB.out.size; exact ⟨(by unfold Hid; omega), (by unfold Hid; omega), (by unfold Hid; omega), mv b0 sm, mv b1 sm, mv (mv B_v bb) sm, mv (mv B_l bb) sm, mv (mv B_t bb) sm, nx (nx HB bb) sm⟩)
        | (refine ⟨w1.heap.size + 1, w1.heap.size, rfl, rfl, ?_⟩; obtain ⟨bb, b0, b1⟩ := box2 w1 29 #[.int .i64 x0, .int .i64 y0, .int .i64 x1, .int .i64 y1] 29 #[.int .i64 a, .int .i64 b, .int .i64 c, .int .i64 d]; replace bb := bb.out; have hs := HB.out.size; exact ⟨(by unfold Hid; omega), (by unfold Hid; omega), (by unfold Hid; omega), mv b1 sm, mv b0 sm, mv (mv B_v bb) sm, mv (mv B_l bb) sm, mv (mv B_t bb) sm, nx (nx HB bb) sm⟩)
  case rest =>
    clear B_v
    clear B_l
    clear B_t
    clear HB
    rename World => wc2
    obtain ⟨Pq, Pr, rfl, rfl, ne01Pq, lePq, lePr, B_q, B_r, B_v, B_l, B_t, HB⟩ := hcut
    clear B_l
    go_upto_region 4 with (fail)
    obtain ⟨c0q, c1q, c2q, c3q⟩ := cells4 B_q
    obtain ⟨c0r, c1r, c2r, c3r⟩ := cells4 B_r
    go_wp2_with fail
    refine (HM.out _).mono ?_
    clear c0q c1q c2q c3q c0r c1r c2r c3r
    rintro e w3 ⟨rfl, bb⟩
    replace bb := nextw (w0 := wc2) (by exact sm) bb
    replace B_v := mv B_v bb
    replace B_t := mv B_t bb
    replace B_q := mv B_q bb
    replace B_r := mv B_r bb
    replace HB := nx HB bb
    clear bb
    have lt_mv := B_v.out.lt
    have lt_mt := B_t.out.lt
    have lt_mq := B_q.out.lt
    have lt_mr := B_r.out.lt
    obtain ⟨bb, B_m⟩ := box1 w3 29 #[.int .i64 0, .int .i64 0, .int .i64 0, .int .i64 0]
    replace bb := bb.out
    replace B_v := mv B_v bb
    replace B_t := mv B_t bb
    replace B_q := mv B_q bb
    replace B_r := mv B_r bb
    replace HB := nx HB bb
    clear bb
    go_upto_region 5 with (fail)
    generalize w3.alloc (.cells #[.int .i64 0, .int .i64 0, .int .i64 0, .int .i64 0] 29) = WM at *
    obtain ⟨c0q, c1q, c2q, c3q⟩ := cells4 B_q
    obtain ⟨c0r, c1r, c2r, c3r⟩ := cells4 B_r
    go_wp2_with fail
    refine (HN.out _).mono ?_
    clear c0q c1q c2q c3q c0r c1r c2r c3r
    rintro e w4 ⟨rfl, bb⟩
    replace bb := nextw (w0 := WM) (by exact sm) bb
    replace B_v := mv B_v bb
    replace B_t := mv B_t bb
    replace B_q := mv B_q bb
    replace B_r := mv B_r bb
    replace B_m := mv B_m bb
    replace HB := nx HB bb
    clear bb
    have lt_ov := B_v.out.lt
    have lt_ot := B_t.out.lt
    have lt_oq := B_q.out.lt
    have lt_or := B_r.out.lt
    have lt_om := B_m.out.lt
    obtain ⟨bb, B_o⟩ := box1 w4 29 #[.int .i64 0, .int .i64 0, .int .i64 0, .int .i64 0]
    replace bb := bb.out
    replace B_v := mv B_v bb
    replace B_t := mv B_t bb
    replace B_q := mv B_q bb
    replace B_r := mv B_r bb
    replace B_m := mv B_m bb
    replace HB := nx HB bb
    clear bb
    go_upto_region 6 with (fail)
    generalize w4.alloc (.cells #[.int .i64 0, .int .i64 0, .int .i64 0, .int .i64 0] 29) = WO at *
    clear HM HN
    obtain ⟨c0m, c1m, c2m, c3m⟩ := cells4 B_m
    obtain ⟨c0o, c1o, c2o, c3o⟩ := cells4 B_o
    go_wp2
    go_ret
    exact ⟨rfl, nextw HB.out (by exact sm)⟩

set_option maxRecDepth 100000 in
set_option maxHeartbeats 16000000 in
theorem Minuses_ok (x y n a b c d x0 y0 x1 y1 lo hi : Int) (hq : OkR a b c d) (hr : OkR x0 y0 x1 y1) (hm : OkR (a - x1) (b - y1) (c - x0) (d - y0)) (w : World) :
    Calls Try.prog 7 #[.agg #[.int .i64 x, .int .i64 y, .int .i64 n], .agg #[.int .i64 a, .int .i64 b, .int .i64 c, .int .i64 d, .int .i64 x0, .int .i64 y0, .int .i64 x1, .int .i64 y1], .agg #[.int .i64 lo, .int .i64 hi]] w fun e w' => e = .returned (.bool true) ∧ Below w.heap.size w w' := by
  have HA := Lib.hid (fun w => awake_any w)
  have HM := Lib.hid (fun w => Minus_ok a b c d x0 y0 x1 y1 hq hr hm w)
  have HN := Lib.hid (fun w => RMinus_ok a b c d x0 y0 x1 y1 hq hr hm w)
  have E0 := Lib.hid (fun w => Meets_any x0 y0 x y n lo hi a b c d w)
  have mm0 := me_minus (a := x0) (b := y0) (x := x) (y := y) (d := n) (lo := lo) (hi := hi) (q0 := a) (q1 := b) (q2 := c) (q3 := d) ⟨by have := hr.hx; omega, by have := hr.hx; omega⟩ ⟨by have := hr.hy; omega, by have := hr.hy; omega⟩ hm
  have E1 := Lib.hid (fun w => Meets_any x1 y0 x y n lo hi a b c d w)
  have mm1 := me_minus (a := x1) (b := y0) (x := x) (y := y) (d := n) (lo := lo) (hi := hi) (q0 := a) (q1 := b) (q2 := c) (q3 := d) ⟨by have := hr.hx; omega, by have := hr.hx; omega⟩ ⟨by have := hr.hy; omega, by have := hr.hy; omega⟩ hm
  have E2 := Lib.hid (fun w => Meets_any x0 y1 x y n lo hi a b c d w)
  have mm2 := me_minus (a := x0) (b := y1) (x := x) (y := y) (d := n) (lo := lo) (hi := hi) (q0 := a) (q1 := b) (q2 := c) (q3 := d) ⟨by have := hr.hx; omega, by have := hr.hx; omega⟩ ⟨by have := hr.hy; omega, by have := hr.hy; omega⟩ hm
  have E3 := Lib.hid (fun w => Meets_any x1 y1 x y n lo hi a b c d w)
  have mm3 := me_minus (a := x1) (b := y1) (x := x) (y := y) (d := n) (lo := lo) (hi := hi) (q0 := a) (q1 := b) (q2 := c) (q3 := d) ⟨by have := hr.hx; omega, by have := hr.hx; omega⟩ ⟨by have := hr.hy; omega, by have := hr.hy; omega⟩ hm
  have EZ := Lib.hid (fun w => Meets_any 0 0 x y n lo hi (a - x1) (b - y1) (c - x0) (d - y0) w)
  generalize meB x0 y0 x y n lo hi a b c d = b0 at *
  generalize meB x1 y0 x y n lo hi a b c d = b1 at *
  generalize meB x0 y1 x y n lo hi a b c d = b2 at *
  generalize meB x1 y1 x y n lo hi a b c d = b3 at *
  generalize meB 0 0 x y n lo hi (a - x1) (b - y1) (c - x0) (d - y0) = z at *
  generalize a - x1 = m0 at *
  generalize b - y1 = m1 at *
  generalize c - x0 = m2 at *
  generalize d - y0 = m3 at *
  replace mm0 := Lib.hid mm0
  replace mm1 := Lib.hid mm1
  replace mm2 := Lib.hid mm2
  replace mm3 := Lib.hid mm3
  clear hq hr hm
  obtain ⟨HB, B_v, B_l, B_t⟩ := box3 w 25 #[.int .i64 x, .int .i64 y, .int .i64 n] 49 #[.int .i64 a, .int .i64 b, .int .i64 c, .int .i64 d, .int .i64 x0, .int .i64 y0, .int .i64 x1, .int .i64 y1] 37 #[.int .i64 lo, .int .i64 hi]
  go_enter Try.func7, Try.ntmps7
  go_wp2_with fail
  generalize ((w.alloc (.cells #[.int .i64 x, .int .i64 y, .int .i64 n] 25)).alloc (.cells #[.int .i64 a, .int .i64 b, .int .i64 c, .int .i64 d, .int .i64 x0, .int .i64 y0, .int .i64 x1, .int .i64 y1] 49)).alloc (.cells #[.int .i64 lo, .int .i64 hi] 37) = W0 at *
  refine (HA.out _).mono ?_
  rintro e w1 ⟨rfl, bb⟩
  replace bb := nextw (w0 := W0) (by exact sm) bb
  replace B_v := mv B_v bb
  replace B_l := mv B_l bb
  replace B_t := mv B_t bb
  replace HB := nx HB bb
  clear bb
  clear HA
  go_upto_region 3 with (fail)
  go_cut [7, 8] (fun sv0 sv1 wx => ∃ Pq Pr : Nat, sv0 = (.pointer (some ⟨Pq, 0, none⟩)) ∧ sv1 = (.pointer (some ⟨Pr, 0, none⟩)) ∧ Hid (Pq ≠ Pr) ∧ Hid (w.heap.size ≤ Pq) ∧ Hid (w.heap.size ≤ Pr) ∧ Hid (Bx wx (Pq) 29 #[.int .i64 a, .int .i64 b, .int .i64 c, .int .i64 d]) ∧ Hid (Bx wx (Pr) 29 #[.int .i64 x0, .int .i64 y0, .int .i64 x1, .int .i64 y1]) ∧ Hid (Bx wx (w.heap.size) 25 #[.int .i64 x, .int .i64 y, .int .i64 n]) ∧ Hid (Bx wx (w.heap.size + 1) 49 #[.int .i64 a, .int .i64 b, .int .i64 c, .int .i64 d, .int .i64 x0, .int .i64 y0, .int .i64 x1, .int .i64 y1]) ∧ Hid (Bx wx (w.heap.size + 1 + 1) 37 #[.int .i64 lo, .int .i64 hi]) ∧ Hid (Below w.heap.size w wx))
  case first =>
    obtain ⟨c0l, c1l, c2l, c3l, c4l, c5l, c6l, c7l⟩ := cells8 B_l
    have lt_l := B_l.out.lt
    go_region_held3 (fun w' => w'.cell? ⟨w.heap.size + 1, 0, none⟩ = some (.int .i64 a) ∧ w'.cell? ⟨w.heap.size + 1, 1, none⟩ = some (.int .i64 b) ∧ w'.cell? ⟨w.heap.size + 1, 2, none⟩ = some (.int .i64 c) ∧ w'.cell? ⟨w.heap.size + 1, 3, none⟩ = some (.int .i64 d) ∧ w'.cell? ⟨w.heap.size + 1, 4, none⟩ = some (.int .i64 x0) ∧ w'.cell? ⟨w.heap.size + 1, 5, none⟩ = some (.int .i64 y0) ∧ w'.cell? ⟨w.heap.size + 1, 6, none⟩ = some (.int .i64 x1) ∧ w'.cell? ⟨w.heap.size + 1, 7, none⟩ = some (.int .i64 y1)) (((try dsimp only); (repeat' apply And.intro) <;> (first | (with_reducible assumption) | ((repeat (first | (with_reducible refine Eq.trans (cell_drew1 _ _) ?_) | (with_reducible refine Eq.trans (cell_far (by omega) _ _ _) ?_) | (with_reducible refine Eq.trans (World.cell?_alloc_lt _ _ _ (by first | (dsimp only; omega) | (simp only [World.size_alloc, World.size_setCell]; omega))) ?_))); with_reducible assumption) | assumption | go_keep)))
        (first | fail)
    all_goals clear c0l c1l c2l c3l c4l c5l c6l c7l lt_l
    all_goals go_wp2_with fail
    all_goals go_meet
    all_goals first
        | (refine ⟨w1.heap.size, w1.heap.size + 1, rfl, rfl, ?_⟩; obtain ⟨bb, b0, b1⟩ := box2 w1 29 #[.int .i64 a, .int .i64 b, .int .i64 c, .int .i64 d] 29 #[.int .i64 x0, .int .i64 y0, .int .i64 x1, .int .i64 y1]; replace bb := bb.out; have hs := HB.out.size; exact ⟨(by unfold Hid; omega), (by unfold Hid; omega), (by unfold Hid; omega), mv b0 sm, mv b1 sm, mv (mv B_v bb) sm, mv (mv B_l bb) sm, mv (mv B_t bb) sm, nx (nx HB bb) sm⟩)
        | (refine ⟨w1.heap.size + 1, w1.heap.size, rfl, rfl, ?_⟩; obtain ⟨bb, b0, b1⟩ := box2 w1 29 #[.int .i64 x0, .int .i64 y0, .int .i64 x1, .int .i64 y1] 29 #[.int .i64 a, .int .i64 b, .int .i64 c, .int .i64 d]; replace bb := bb.out; have hs := HB.out.size; exact ⟨(by unfold Hid; omega), (by unfold Hid; omega), (by unfold Hid; omega), mv b1 sm, mv b0 sm, mv (mv B_v bb) sm, mv (mv B_l bb) sm, mv (mv B_t bb) sm, nx (nx HB bb) sm⟩)
  case rest =>
    clear B_v
    clear B_l
    clear B_t
    clear HB
    rename World => wc2
    obtain ⟨Pq, Pr, rfl, rfl, ne01Pq, lePq, lePr, B_q, B_r, B_v, B_l, B_t, HB⟩ := hcut
    clear B_l
    go_upto_region 4 with (fail)
    obtain ⟨c0q, c1q, c2q, c3q⟩ := cells4 B_q
    obtain ⟨c0r, c1r, c2r, c3r⟩ := cells4 B_r
    go_wp2_with fail
    refine (HM.out _).mono ?_
    clear c0q c1q c2q c3q c0r c1r c2r c3r
    rintro e w3 ⟨rfl, bb⟩
    replace bb := nextw (w0 := wc2) (by exact sm) bb
    replace B_v := mv B_v bb
    replace B_t := mv B_t bb
    replace B_q := mv B_q bb
    replace B_r := mv B_r bb
    replace HB := nx HB bb
    clear bb
    have lt_mv := B_v.out.lt
    have lt_mt := B_t.out.lt
    have lt_mq := B_q.out.lt
    have lt_mr := B_r.out.lt
    obtain ⟨bb, B_m⟩ := box1 w3 29 #[.int .i64 m0, .int .i64 m1, .int .i64 m2, .int .i64 m3]
    replace bb := bb.out
    replace B_v := mv B_v bb
    replace B_t := mv B_t bb
    replace B_q := mv B_q bb
    replace B_r := mv B_r bb
    replace HB := nx HB bb
    clear bb
    go_upto_region 5 with (fail)
    generalize w3.alloc (.cells #[.int .i64 m0, .int .i64 m1, .int .i64 m2, .int .i64 m3] 29) = WM at *
    obtain ⟨c0q, c1q, c2q, c3q⟩ := cells4 B_q
    obtain ⟨c0r, c1r, c2r, c3r⟩ := cells4 B_r
    go_wp2_with fail
    refine (HN.out _).mono ?_
    clear c0q c1q c2q c3q c0r c1r c2r c3r
    rintro e w4 ⟨rfl, bb⟩
    replace bb := nextw (w0 := WM) (by exact sm) bb
    replace B_v := mv B_v bb
    replace B_t := mv B_t bb
    replace B_q := mv B_q bb
    replace B_r := mv B_r bb
    replace B_m := mv B_m bb
    replace HB := nx HB bb
    clear bb
    have lt_ov := B_v.out.lt
    have lt_ot := B_t.out.lt
    have lt_oq := B_q.out.lt
    have lt_or := B_r.out.lt
    have lt_om := B_m.out.lt
    obtain ⟨bb, B_o⟩ := box1 w4 29 #[.int .i64 m0, .int .i64 m1, .int .i64 m2, .int .i64 m3]
    replace bb := bb.out
    replace B_v := mv B_v bb
    replace B_t := mv B_t bb
    replace B_q := mv B_q bb
    replace B_r := mv B_r bb
    replace B_m := mv B_m bb
    replace HB := nx HB bb
    clear bb
    go_upto_region 6 with (fail)
    generalize w4.alloc (.cells #[.int .i64 m0, .int .i64 m1, .int .i64 m2, .int .i64 m3] 29) = WO at *
    clear HM HN
    obtain ⟨c0m, c1m, c2m, c3m⟩ := cells4 B_m
    obtain ⟨c0o, c1o, c2o, c3o⟩ := cells4 B_o
    go_upto_region 10 with (fail)
    clear c0m c1m c2m c3m c0o c1o c2o c3o
    clear B_o
    obtain ⟨c0r, c1r, c2r, c3r⟩ := cells4 B_r
    have lt_cov := B_v.out.lt
    have lt_cot := B_t.out.lt
    have lt_coq := B_q.out.lt
    have lt_cor := B_r.out.lt
    have lt_com := B_m.out.lt
    obtain ⟨bb, B_co⟩ := box1 WO 23 #[.int .i64 x0, .int .i64 y0, .int .i64 x1, .int .i64 y0, .int .i64 x0, .int .i64 y1, .int .i64 x1, .int .i64 y1]
    replace bb := bb.out
    replace B_v := mv B_v bb
    replace B_t := mv B_t bb
    replace B_q := mv B_q bb
    replace B_r := mv B_r bb
    replace B_m := mv B_m bb
    replace HB := nx HB bb
    clear bb
    go_upto_region 11 with (fail)
    clear c0r c1r c2r c3r
    generalize WO.alloc (.cells #[.int .i64 x0, .int .i64 y0, .int .i64 x1, .int .i64 y0, .int .i64 x0, .int .i64 y1, .int .i64 x1, .int .i64 y1] 23) = WC at *
    clear B_r
    skip
    go_wp2_with fail
    go_loopw [14] (fun i wr => ∃ k : Nat, k ≤ 4 ∧ i = .int .i64 k ∧ Hid (Bx wr (w.heap.size) 25 #[.int .i64 x, .int .i64 y, .int .i64 n]) ∧ Hid (Bx wr (w.heap.size + 1 + 1) 37 #[.int .i64 lo, .int .i64 hi]) ∧ Hid (Bx wr (Pq) 29 #[.int .i64 a, .int .i64 b, .int .i64 c, .int .i64 d]) ∧ Hid (Bx wr (w3.heap.size) 29 #[.int .i64 m0, .int .i64 m1, .int .i64 m2, .int .i64 m3]) ∧ Hid (Bx wr (WO.heap.size) 23 #[.int .i64 x0, .int .i64 y0, .int .i64 x1, .int .i64 y0, .int .i64 x0, .int .i64 y1, .int .i64 x1, .int .i64 y1]) ∧ Hid (Below w.heap.size w wr)) (fun i _ => (4 - intOf i).toNat)
    case atStart => exact ⟨0, by omega, rfl, B_v, B_t, B_q, B_m, B_co, HB⟩
    case round =>
      clear B_v B_t B_q B_m B_co HB
      obtain ⟨k, hk, rfl, B_v, B_t, B_q, B_m, B_co, HB⟩ := hrel
      rename World => wr
      rcases (show k = 0 ∨ k = 1 ∨ k = 2 ∨ k = 3 ∨ k = 4 by omega) with rfl | rfl | rfl | rfl | rfl
      · rcases b0 with _ | _
        · skip
          clear E1 E2 E3
          clear mm0 mm1 mm2 mm3
          go_wp2_with fail
          obtain ⟨c0co, c1co, -, -, -, -, -, -⟩ := cells8 B_co
          obtain ⟨c0v, c1v, c2v⟩ := cells3 B_v
          obtain ⟨c0t, c1t⟩ := cells2 B_t
          obtain ⟨c0q, c1q, c2q, c3q⟩ := cells4 B_q
          refine wp_region_held_drew (S := fun w' => w'.cell? ⟨WO.heap.size, 0, none⟩ = some (.int .i64 x0) ∧ w'.cell? ⟨WO.heap.size, 1, none⟩ = some (.int .i64 y0) ∧ w'.cell? ⟨w.heap.size, 0, none⟩ = some (.int .i64 x) ∧ w'.cell? ⟨w.heap.size, 1, none⟩ = some (.int .i64 y) ∧ w'.cell? ⟨w.heap.size, 2, none⟩ = some (.int .i64 n) ∧ w'.cell? ⟨w.heap.size + 1 + 1, 0, none⟩ = some (.int .i64 lo) ∧ w'.cell? ⟨w.heap.size + 1 + 1, 1, none⟩ = some (.int .i64 hi) ∧ w'.cell? ⟨Pq, 0, none⟩ = some (.int .i64 a) ∧ w'.cell? ⟨Pq, 1, none⟩ = some (.int .i64 b) ∧ w'.cell? ⟨Pq, 2, none⟩ = some (.int .i64 c) ∧ w'.cell? ⟨Pq, 3, none⟩ = some (.int .i64 d)) (by kernel_rfl) ?_ (fun hH1x0 => ?_)
          · ((try dsimp only); (repeat' apply And.intro) <;> (first | (with_reducible assumption) | ((repeat (first | (with_reducible refine Eq.trans (cell_drew1 _ _) ?_) | (with_reducible refine Eq.trans (cell_far (by omega) _ _ _) ?_) | (with_reducible refine Eq.trans (World.cell?_alloc_lt _ _ _ (by first | (dsimp only; omega) | (simp only [World.size_alloc, World.size_setCell]; omega))) ?_))); with_reducible assumption) | assumption | go_keep))
          refine wpAnyH_take (i := 0) (v := ?hv1x0) rfl (by kernel_rfl) (by kernel_rfl) (by kernel_rfl) (fun _ _ _ h => h) (Or.inl ⟨by kernel_rfl, ?hy1x0⟩) (by assumption) ?hr1x0
          case hy1x0 => (intro w hSw; (try dsimp only at hSw); go_simp <;> with_reducible rfl)
          simp only [Act.put, List.setIfInBounds_toArray, List.set_cons_zero, List.set_cons_succ, List.getElem_toArray, List.getElem_cons_zero, List.getElem_cons_succ]
          refine wpAnyH_take (i := 1) (v := ?hv1x1) rfl (by kernel_rfl) (by kernel_rfl) (by kernel_rfl) (fun _ _ _ h => h) (Or.inl ⟨by kernel_rfl, ?hy1x1⟩) (by assumption) ?hr1x1
          case hy1x1 => (intro w hSw; (try dsimp only at hSw); go_simp <;> with_reducible rfl)
          simp only [Act.put, List.setIfInBounds_toArray, List.set_cons_zero, List.set_cons_succ, List.getElem_toArray, List.getElem_cons_zero, List.getElem_cons_succ]
          refine wpAnyH_take (i := 2) (v := ?hv1x2) rfl (by kernel_rfl) (by kernel_rfl) (by kernel_rfl) (fun _ _ _ h => h) (Or.inl ⟨by kernel_rfl, ?hy1x2⟩) (by assumption) ?hr1x2
          case hy1x2 => (intro w hSw; (try dsimp only at hSw); go_simp <;> with_reducible rfl)
          simp only [Act.put, List.setIfInBounds_toArray, List.set_cons_zero, List.set_cons_succ, List.getElem_toArray, List.getElem_cons_zero, List.getElem_cons_succ]
          refine wpAnyH_take (i := 3) (v := ?hv1x3) rfl (by kernel_rfl) (by kernel_rfl) (by kernel_rfl) (fun _ _ _ h => h) (Or.inl ⟨by kernel_rfl, ?hy1x3⟩) (by assumption) ?hr1x3
          case hy1x3 => (intro w hSw; (try dsimp only at hSw); go_simp <;> with_reducible rfl)
          simp only [Act.put, List.setIfInBounds_toArray, List.set_cons_zero, List.set_cons_succ, List.getElem_toArray, List.getElem_cons_zero, List.getElem_cons_succ]
          refine wpAnyH_take (i := 4) (v := ?hv1x4) rfl (by kernel_rfl) (by kernel_rfl) (by kernel_rfl) (fun _ _ _ h => h) (Or.inl ⟨by kernel_rfl, ?hy1x4⟩) (by assumption) ?hr1x4
          case hy1x4 => (intro w hSw; (try dsimp only at hSw); go_simp <;> with_reducible rfl)
          simp only [Act.put, List.setIfInBounds_toArray, List.set_cons_zero, List.set_cons_succ, List.getElem_toArray, List.getElem_cons_zero, List.getElem_cons_succ]
          refine wpAnyH_take (i := 5) (v := ?hv1x5) rfl (by kernel_rfl) (by kernel_rfl) (by kernel_rfl) (fun _ _ _ h => h) (Or.inl ⟨by kernel_rfl, ?hy1x5⟩) (by assumption) ?hr1x5
          case hy1x5 => (intro w hSw; (try dsimp only at hSw); go_simp <;> with_reducible rfl)
          simp only [Act.put, List.setIfInBounds_toArray, List.set_cons_zero, List.set_cons_succ, List.getElem_toArray, List.getElem_cons_zero, List.getElem_cons_succ]
          refine wpAnyH_take (i := 6) (v := ?hv1x6) rfl (by kernel_rfl) (by kernel_rfl) (by kernel_rfl) (fun _ _ _ h => h) (Or.inl ⟨by kernel_rfl, ?hy1x6⟩) (by assumption) ?hr1x6
          case hy1x6 => (intro w hSw; (try dsimp only at hSw); go_simp <;> with_reducible rfl)
          simp only [Act.put, List.setIfInBounds_toArray, List.set_cons_zero, List.set_cons_succ, List.getElem_toArray, List.getElem_cons_zero, List.getElem_cons_succ]
          refine wpAnyH_take (i := 7) (v := ?hv1x7) rfl (by kernel_rfl) (by kernel_rfl) (by kernel_rfl) (fun _ _ _ h => h) (Or.inl ⟨by kernel_rfl, ?hy1x7⟩) (by assumption) ?hr1x7
          case hy1x7 => (intro w hSw; (try dsimp only at hSw); go_simp <;> with_reducible rfl)
          simp only [Act.put, List.setIfInBounds_toArray, List.set_cons_zero, List.set_cons_succ, List.getElem_toArray, List.getElem_cons_zero, List.getElem_cons_succ]
          refine wpAnyH_take (i := 8) (v := ?hv1x8) rfl (by kernel_rfl) (by kernel_rfl) (by kernel_rfl) (fun _ _ _ h => h) (Or.inl ⟨by kernel_rfl, ?hy1x8⟩) (by assumption) ?hr1x8
          case hy1x8 => (intro w hSw; (try dsimp only at hSw); go_simp <;> with_reducible rfl)
          simp only [Act.put, List.setIfInBounds_toArray, List.set_cons_zero, List.set_cons_succ, List.getElem_toArray, List.getElem_cons_zero, List.getElem_cons_succ]
          refine wpAnyH_take (i := 9) (v := ?hv1x9) rfl (by kernel_rfl) (by kernel_rfl) (by kernel_rfl) (fun _ _ _ h => h) (Or.inl ⟨by kernel_rfl, ?hy1x9⟩) (by assumption) ?hr1x9
          case hy1x9 => (intro w hSw; (try dsimp only at hSw); go_simp <;> with_reducible rfl)
          simp only [Act.put, List.setIfInBounds_toArray, List.set_cons_zero, List.set_cons_succ, List.getElem_toArray, List.getElem_cons_zero, List.getElem_cons_succ]
          refine wpAnyH_ready (rs := [10]) (by kernel_rfl) (by simp) ?_
          refine AllReadyH.cons rfl (fun K hK => ?_) AllReadyH.nil
          go_simp
          go_at_call 19
          refine (E0.out _).mono ?_
          rintro e w5 ⟨rfl, bb⟩
          replace bb := nextw (w0 := wr) (by exact sm) bb
          replace B_v := mv B_v bb
          replace B_t := mv B_t bb
          replace B_q := mv B_q bb
          replace B_m := mv B_m bb
          replace B_co := mv B_co bb
          replace HB := nx HB bb
          clear bb c0co c1co c0v c1v c2v c0t c1t c0q c1q c2q c3q
          have c0co : w5.cell? ⟨WO.heap.size, 0, none⟩ = some (.int .i64 x0) := B_co.out.cell 0 rfl
          have c1co : w5.cell? ⟨WO.heap.size, 1, none⟩ = some (.int .i64 y0) := B_co.out.cell 1 rfl
          have c0v : w5.cell? ⟨w.heap.size, 0, none⟩ = some (.int .i64 x) := B_v.out.cell 0 rfl
          have c1v : w5.cell? ⟨w.heap.size, 1, none⟩ = some (.int .i64 y) := B_v.out.cell 1 rfl
          have c2v : w5.cell? ⟨w.heap.size, 2, none⟩ = some (.int .i64 n) := B_v.out.cell 2 rfl
          have c0t : w5.cell? ⟨w.heap.size + 1 + 1, 0, none⟩ = some (.int .i64 lo) := B_t.out.cell 0 rfl
          have c1t : w5.cell? ⟨w.heap.size + 1 + 1, 1, none⟩ = some (.int .i64 hi) := B_t.out.cell 1 rfl
          have c0q : w5.cell? ⟨Pq, 0, none⟩ = some (.int .i64 a) := B_q.out.cell 0 rfl
          have c1q : w5.cell? ⟨Pq, 1, none⟩ = some (.int .i64 b) := B_q.out.cell 1 rfl
          have c2q : w5.cell? ⟨Pq, 2, none⟩ = some (.int .i64 c) := B_q.out.cell 2 rfl
          have c3q : w5.cell? ⟨Pq, 3, none⟩ = some (.int .i64 d) := B_q.out.cell 3 rfl
          go_wp2_with fail
          refine hK.out _ _ ?_ (fun hH1x1 => ?_)
          · ((try dsimp only); (repeat' apply And.intro) <;> (first | (with_reducible assumption) | ((repeat (first | (with_reducible refine Eq.trans (cell_drew1 _ _) ?_) | (with_reducible refine Eq.trans (cell_far (by omega) _ _ _) ?_) | (with_reducible refine Eq.trans (World.cell?_alloc_lt _ _ _ (by first | (dsimp only; omega) | (simp only [World.size_alloc, World.size_setCell]; omega))) ?_))); with_reducible assumption) | assumption | go_keep))
          clear hK K hH1x0
          try simp only [Act.put, List.setIfInBounds_toArray, List.set_cons_zero, List.set_cons_succ, List.getElem_toArray, List.getElem_cons_zero, List.getElem_cons_succ]
          refine wpAnyH_take (i := 11) (v := ?hv1x11) rfl (by kernel_rfl) (by kernel_rfl) (by kernel_rfl) (fun _ _ _ h => h) (Or.inl ⟨by kernel_rfl, ?hy1x11⟩) (by assumption) ?hr1x11
          case hy1x11 => (intro w hSw; (try dsimp only at hSw); go_simp <;> with_reducible rfl)
          simp only [Act.put, List.setIfInBounds_toArray, List.set_cons_zero, List.set_cons_succ, List.getElem_toArray, List.getElem_cons_zero, List.getElem_cons_succ]
          refine wpAnyH_take (i := 12) (v := undef) rfl (by kernel_rfl) (by kernel_rfl) (by kernel_rfl) (fun _ _ _ h => h) (Or.inr ⟨by kernel_rfl, rfl⟩) (by assumption) ?_
          simp only [Act.put, List.setIfInBounds_toArray, List.set_cons_zero, List.set_cons_succ, List.getElem_toArray, List.getElem_cons_zero, List.getElem_cons_succ]
          refine wpAnyH_take (i := 13) (v := undef) rfl (by kernel_rfl) (by kernel_rfl) (by kernel_rfl) (fun _ _ _ h => h) (Or.inr ⟨by kernel_rfl, rfl⟩) (by assumption) ?_
          simp only [Act.put, List.setIfInBounds_toArray, List.set_cons_zero, List.set_cons_succ, List.getElem_toArray, List.getElem_cons_zero, List.getElem_cons_succ]
          refine wpAnyH_take (i := 14) (v := undef) rfl (by kernel_rfl) (by kernel_rfl) (by kernel_rfl) (fun _ _ _ h => h) (Or.inr ⟨by kernel_rfl, rfl⟩) (by assumption) ?_
          simp only [Act.put, List.setIfInBounds_toArray, List.set_cons_zero, List.set_cons_succ, List.getElem_toArray, List.getElem_cons_zero, List.getElem_cons_succ]
          refine wpAnyH_take (i := 15) (v := undef) rfl (by kernel_rfl) (by kernel_rfl) (by kernel_rfl) (fun _ _ _ h => h) (Or.inr ⟨by kernel_rfl, rfl⟩) (by assumption) ?_
          simp only [Act.put, List.setIfInBounds_toArray, List.set_cons_zero, List.set_cons_succ, List.getElem_toArray, List.getElem_cons_zero, List.getElem_cons_succ]
          refine wpAnyH_take (i := 16) (v := undef) rfl (by kernel_rfl) (by kernel_rfl) (by kernel_rfl) (fun _ _ _ h => h) (Or.inr ⟨by kernel_rfl, rfl⟩) (by assumption) ?_
          simp only [Act.put, List.setIfInBounds_toArray, List.set_cons_zero, List.set_cons_succ, List.getElem_toArray, List.getElem_cons_zero, List.getElem_cons_succ]
          refine wpAnyH_take (i := 17) (v := undef) rfl (by kernel_rfl) (by kernel_rfl) (by kernel_rfl) (fun _ _ _ h => h) (Or.inr ⟨by kernel_rfl, rfl⟩) (by assumption) ?_
          simp only [Act.put, List.setIfInBounds_toArray, List.set_cons_zero, List.set_cons_succ, List.getElem_toArray, List.getElem_cons_zero, List.getElem_cons_succ]
          refine wpAnyH_take (i := 18) (v := undef) rfl (by kernel_rfl) (by kernel_rfl) (by kernel_rfl) (fun _ _ _ h => h) (Or.inr ⟨by kernel_rfl, rfl⟩) (by assumption) ?_
          simp only [Act.put, List.setIfInBounds_toArray, List.set_cons_zero, List.set_cons_succ, List.getElem_toArray, List.getElem_cons_zero, List.getElem_cons_succ]
          refine wpAnyH_take (i := 19) (v := undef) rfl (by kernel_rfl) (by kernel_rfl) (by kernel_rfl) (fun _ _ _ h => h) (Or.inr ⟨by kernel_rfl, rfl⟩) (by assumption) ?_
          simp only [Act.put, List.setIfInBounds_toArray, List.set_cons_zero, List.set_cons_succ, List.getElem_toArray, List.getElem_cons_zero, List.getElem_cons_succ]
          refine wpAnyH_take (i := 20) (v := undef) rfl (by kernel_rfl) (by kernel_rfl) (by kernel_rfl) (fun _ _ _ h => h) (Or.inr ⟨by kernel_rfl, rfl⟩) (by assumption) ?_
          simp only [Act.put, List.setIfInBounds_toArray, List.set_cons_zero, List.set_cons_succ, List.getElem_toArray, List.getElem_cons_zero, List.getElem_cons_succ]
          refine wpAnyH_take (i := 21) (v := ?hv1x21) rfl (by kernel_rfl) (by kernel_rfl) (by kernel_rfl) (fun _ _ _ h => h) (Or.inl ⟨by kernel_rfl, ?hy1x21⟩) (by assumption) ?hr1x21
          case hy1x21 => (intro w hSw; (try dsimp only at hSw); go_simp <;> with_reducible rfl)
          simp only [Act.put, List.setIfInBounds_toArray, List.set_cons_zero, List.set_cons_succ, List.getElem_toArray, List.getElem_cons_zero, List.getElem_cons_succ]
          refine wpAnyH_done (by kernel_rfl) ?_ _
          clear hH1x1
          clear c0co c1co c0v c1v c2v c0t c1t c0q c1q c2q c3q
          go_wp2
          go_roundw
          case rel => exact ⟨1, by omega, by go_num, mv B_v sm, mv B_t sm, mv B_q sm, mv B_m sm, mv B_co sm, nx HB sm⟩
          case measure => simp only [intOf]; omega
        · obtain rfl : z = true := mm0.out rfl
          clear E1 E2 E3
          clear mm0 mm1 mm2 mm3
          go_wp2_with fail
          obtain ⟨c0co, c1co, -, -, -, -, -, -⟩ := cells8 B_co
          obtain ⟨c0v, c1v, c2v⟩ := cells3 B_v
          obtain ⟨c0t, c1t⟩ := cells2 B_t
          obtain ⟨c0q, c1q, c2q, c3q⟩ := cells4 B_q
          obtain ⟨c0m, c1m, c2m, c3m⟩ := cells4 B_m
          have tk1x0 : True := trivial
          go_region_held3 (fun w' => w'.cell? ⟨WO.heap.size, 0, none⟩ = some (.int .i64 x0) ∧ w'.cell? ⟨WO.heap.size, 1, none⟩ = some (.int .i64 y0) ∧ w'.cell? ⟨w.heap.size, 0, none⟩ = some (.int .i64 x) ∧ w'.cell? ⟨w.heap.size, 1, none⟩ = some (.int .i64 y) ∧ w'.cell? ⟨w.heap.size, 2, none⟩ = some (.int .i64 n) ∧ w'.cell? ⟨w.heap.size + 1 + 1, 0, none⟩ = some (.int .i64 lo) ∧ w'.cell? ⟨w.heap.size + 1 + 1, 1, none⟩ = some (.int .i64 hi) ∧ w'.cell? ⟨Pq, 0, none⟩ = some (.int .i64 a) ∧ w'.cell? ⟨Pq, 1, none⟩ = some (.int .i64 b) ∧ w'.cell? ⟨Pq, 2, none⟩ = some (.int .i64 c) ∧ w'.cell? ⟨Pq, 3, none⟩ = some (.int .i64 d) ∧ w'.cell? ⟨w3.heap.size, 0, none⟩ = some (.int .i64 m0) ∧ w'.cell? ⟨w3.heap.size, 1, none⟩ = some (.int .i64 m1) ∧ w'.cell? ⟨w3.heap.size, 2, none⟩ = some (.int .i64 m2) ∧ w'.cell? ⟨w3.heap.size, 3, none⟩ = some (.int .i64 m3)) (((try dsimp only); (repeat' apply And.intro) <;> (first | (with_reducible assumption) | ((repeat (first | (with_reducible refine Eq.trans (cell_drew1 _ _) ?_) | (with_reducible refine Eq.trans (cell_far (by omega) _ _ _) ?_) | (with_reducible refine Eq.trans (World.cell?_alloc_lt _ _ _ (by first | (dsimp only; omega) | (simp only [World.size_alloc, World.size_setCell]; omega))) ?_))); with_reducible assumption) | assumption | go_keep)))
    (first
      | (clear tk1x0; go_at_call 19; refine (E0.out _).mono ?_; rintro e w6 ⟨rfl, bb⟩; replace bb := nextw (w0 := wr) (by exact sm) bb; replace B_v := mv B_v bb; replace B_t := mv B_t bb; replace B_q := mv B_q bb; replace B_m := mv B_m bb; replace B_co := mv B_co bb; replace HB := nx HB bb; clear bb c0co c1co c0v c1v c2v c0t c1t c0q c1q c2q c3q c0m c1m c2m c3m; have c0co : w6.cell? ⟨WO.heap.size, 0, none⟩ = some (.int .i64 x0) := B_co.out.cell 0 rfl; have c1co : w6.cell? ⟨WO.heap.size, 1, none⟩ = some (.int .i64 y0) := B_co.out.cell 1 rfl; have c0v : w6.cell? ⟨w.heap.size, 0, none⟩ = some (.int .i64 x) := B_v.out.cell 0 rfl; have c1v : w6.cell? ⟨w.heap.size, 1, none⟩ = some (.int .i64 y) := B_v.out.cell 1 rfl; have c2v : w6.cell? ⟨w.heap.size, 2, none⟩ = some (.int .i64 n) := B_v.out.cell 2 rfl; have c0t : w6.cell? ⟨w.heap.size + 1 + 1, 0, none⟩ = some (.int .i64 lo) := B_t.out.cell 0 rfl; have c1t : w6.cell? ⟨w.heap.size + 1 + 1, 1, none⟩ = some (.int .i64 hi) := B_t.out.cell 1 rfl; have c0q : w6.cell? ⟨Pq, 0, none⟩ = some (.int .i64 a) := B_q.out.cell 0 rfl; have c1q : w6.cell? ⟨Pq, 1, none⟩ = some (.int .i64 b) := B_q.out.cell 1 rfl; have c2q : w6.cell? ⟨Pq, 2, none⟩ = some (.int .i64 c) := B_q.out.cell 2 rfl; have c3q : w6.cell? ⟨Pq, 3, none⟩ = some (.int .i64 d) := B_q.out.cell 3 rfl; have c0m : w6.cell? ⟨w3.heap.size, 0, none⟩ = some (.int .i64 m0) := B_m.out.cell 0 rfl; have c1m : w6.cell? ⟨w3.heap.size, 1, none⟩ = some (.int .i64 m1) := B_m.out.cell 1 rfl; have c2m : w6.cell? ⟨w3.heap.size, 2, none⟩ = some (.int .i64 m2) := B_m.out.cell 2 rfl; have c3m : w6.cell? ⟨w3.heap.size, 3, none⟩ = some (.int .i64 m3) := B_m.out.cell 3 rfl; have tk1x1 : True := trivial)
      | (clear tk1x1; go_at_call 19; refine (EZ.out _).mono ?_; rintro e w7 ⟨rfl, bb⟩; replace bb := nextw (w0 := w6) (by exact sm) bb; replace B_v := mv B_v bb; replace B_t := mv B_t bb; replace B_q := mv B_q bb; replace B_m := mv B_m bb; replace B_co := mv B_co bb; replace HB := nx HB bb; clear bb c0co c1co c0v c1v c2v c0t c1t c0q c1q c2q c3q c0m c1m c2m c3m; have c0co : w7.cell? ⟨WO.heap.size, 0, none⟩ = some (.int .i64 x0) := B_co.out.cell 0 rfl; have c1co : w7.cell? ⟨WO.heap.size, 1, none⟩ = some (.int .i64 y0) := B_co.out.cell 1 rfl; have c0v : w7.cell? ⟨w.heap.size, 0, none⟩ = some (.int .i64 x) := B_v.out.cell 0 rfl; have c1v : w7.cell? ⟨w.heap.size, 1, none⟩ = some (.int .i64 y) := B_v.out.cell 1 rfl; have c2v : w7.cell? ⟨w.heap.size, 2, none⟩ = some (.int .i64 n) := B_v.out.cell 2 rfl; have c0t : w7.cell? ⟨w.heap.size + 1 + 1, 0, none⟩ = some (.int .i64 lo) := B_t.out.cell 0 rfl; have c1t : w7.cell? ⟨w.heap.size + 1 + 1, 1, none⟩ = some (.int .i64 hi) := B_t.out.cell 1 rfl; have c0q : w7.cell? ⟨Pq, 0, none⟩ = some (.int .i64 a) := B_q.out.cell 0 rfl; have c1q : w7.cell? ⟨Pq, 1, none⟩ = some (.int .i64 b) := B_q.out.cell 1 rfl; have c2q : w7.cell? ⟨Pq, 2, none⟩ = some (.int .i64 c) := B_q.out.cell 2 rfl; have c3q : w7.cell? ⟨Pq, 3, none⟩ = some (.int .i64 d) := B_q.out.cell 3 rfl; have c0m : w7.cell? ⟨w3.heap.size, 0, none⟩ = some (.int .i64 m0) := B_m.out.cell 0 rfl; have c1m : w7.cell? ⟨w3.heap.size, 1, none⟩ = some (.int .i64 m1) := B_m.out.cell 1 rfl; have c2m : w7.cell? ⟨w3.heap.size, 2, none⟩ = some (.int .i64 m2) := B_m.out.cell 2 rfl; have c3m : w7.cell? ⟨w3.heap.size, 3, none⟩ = some (.int .i64 m3) := B_m.out.cell 3 rfl; have tk1x2 : True := trivial))
          clear c0co c1co c0v c1v c2v c0t c1t c0q c1q c2q c3q c0m c1m c2m c3m
          go_wp2
          go_roundw
          case rel => exact ⟨1, by omega, by go_num, mv B_v sm, mv B_t sm, mv B_q sm, mv B_m sm, mv B_co sm, nx HB sm⟩
          case measure => simp only [intOf]; omega
      · rcases b1 with _ | _
        · skip
          clear E0 E2 E3
          clear mm0 mm1 mm2 mm3
          go_wp2_with fail
          obtain ⟨-, -, c2co, c3co, -, -, -, -⟩ := cells8 B_co
          obtain ⟨c0v, c1v, c2v⟩ := cells3 B_v
          obtain ⟨c0t, c1t⟩ := cells2 B_t
          obtain ⟨c0q, c1q, c2q, c3q⟩ := cells4 B_q
          refine wp_region_held_drew (S := fun w' => w'.cell? ⟨WO.heap.size, 2, none⟩ = some (.int .i64 x1) ∧ w'.cell? ⟨WO.heap.size, 3, none⟩ = some (.int .i64 y0) ∧ w'.cell? ⟨w.heap.size, 0, none⟩ = some (.int .i64 x) ∧ w'.cell? ⟨w.heap.size, 1, none⟩ = some (.int .i64 y) ∧ w'.cell? ⟨w.heap.size, 2, none⟩ = some (.int .i64 n) ∧ w'.cell? ⟨w.heap.size + 1 + 1, 0, none⟩ = some (.int .i64 lo) ∧ w'.cell? ⟨w.heap.size + 1 + 1, 1, none⟩ = some (.int .i64 hi) ∧ w'.cell? ⟨Pq, 0, none⟩ = some (.int .i64 a) ∧ w'.cell? ⟨Pq, 1, none⟩ = some (.int .i64 b) ∧ w'.cell? ⟨Pq, 2, none⟩ = some (.int .i64 c) ∧ w'.cell? ⟨Pq, 3, none⟩ = some (.int .i64 d)) (by kernel_rfl) ?_ (fun hH2x0 => ?_)
          · ((try dsimp only); (repeat' apply And.intro) <;> (first | (with_reducible assumption) | ((repeat (first | (with_reducible refine Eq.trans (cell_drew1 _ _) ?_) | (with_reducible refine Eq.trans (cell_far (by omega) _ _ _) ?_) | (with_reducible refine Eq.trans (World.cell?_alloc_lt _ _ _ (by first | (dsimp only; omega) | (simp only [World.size_alloc, World.size_setCell]; omega))) ?_))); with_reducible assumption) | assumption | go_keep))
          refine wpAnyH_take (i := 0) (v := ?hv2x0) rfl (by kernel_rfl) (by kernel_rfl) (by kernel_rfl) (fun _ _ _ h => h) (Or.inl ⟨by kernel_rfl, ?hy2x0⟩) (by assumption) ?hr2x0
          case hy2x0 => (intro w hSw; (try dsimp only at hSw); go_simp <;> with_reducible rfl)
          simp only [Act.put, List.setIfInBounds_toArray, List.set_cons_zero, List.set_cons_succ, List.getElem_toArray, List.getElem_cons_zero, List.getElem_cons_succ]
          refine wpAnyH_take (i := 1) (v := ?hv2x1) rfl (by kernel_rfl) (by kernel_rfl) (by kernel_rfl) (fun _ _ _ h => h) (Or.inl ⟨by kernel_rfl, ?hy2x1⟩) (by assumption) ?hr2x1
          case hy2x1 => (intro w hSw; (try dsimp only at hSw); go_simp <;> with_reducible rfl)
          simp only [Act.put, List.setIfInBounds_toArray, List.set_cons_zero, List.set_cons_succ, List.getElem_toArray, List.getElem_cons_zero, List.getElem_cons_succ]
          refine wpAnyH_take (i := 2) (v := ?hv2x2) rfl (by kernel_rfl) (by kernel_rfl) (by kernel_rfl) (fun _ _ _ h => h) (Or.inl ⟨by kernel_rfl, ?hy2x2⟩) (by assumption) ?hr2x2
          case hy2x2 => (intro w hSw; (try dsimp only at hSw); go_simp <;> with_reducible rfl)
          simp only [Act.put, List.setIfInBounds_toArray, List.set_cons_zero, List.set_cons_succ, List.getElem_toArray, List.getElem_cons_zero, List.getElem_cons_succ]
          refine wpAnyH_take (i := 3) (v := ?hv2x3) rfl (by kernel_rfl) (by kernel_rfl) (by kernel_rfl) (fun _ _ _ h => h) (Or.inl ⟨by kernel_rfl, ?hy2x3⟩) (by assumption) ?hr2x3
          case hy2x3 => (intro w hSw; (try dsimp only at hSw); go_simp <;> with_reducible rfl)
          simp only [Act.put, List.setIfInBounds_toArray, List.set_cons_zero, List.set_cons_succ, List.getElem_toArray, List.getElem_cons_zero, List.getElem_cons_succ]
          refine wpAnyH_take (i := 4) (v := ?hv2x4) rfl (by kernel_rfl) (by kernel_rfl) (by kernel_rfl) (fun _ _ _ h => h) (Or.inl ⟨by kernel_rfl, ?hy2x4⟩) (by assumption) ?hr2x4
          case hy2x4 => (intro w hSw; (try dsimp only at hSw); go_simp <;> with_reducible rfl)
          simp only [Act.put, List.setIfInBounds_toArray, List.set_cons_zero, List.set_cons_succ, List.getElem_toArray, List.getElem_cons_zero, List.getElem_cons_succ]
          refine wpAnyH_take (i := 5) (v := ?hv2x5) rfl (by kernel_rfl) (by kernel_rfl) (by kernel_rfl) (fun _ _ _ h => h) (Or.inl ⟨by kernel_rfl, ?hy2x5⟩) (by assumption) ?hr2x5
          case hy2x5 => (intro w hSw; (try dsimp only at hSw); go_simp <;> with_reducible rfl)
          simp only [Act.put, List.setIfInBounds_toArray, List.set_cons_zero, List.set_cons_succ, List.getElem_toArray, List.getElem_cons_zero, List.getElem_cons_succ]
          refine wpAnyH_take (i := 6) (v := ?hv2x6) rfl (by kernel_rfl) (by kernel_rfl) (by kernel_rfl) (fun _ _ _ h => h) (Or.inl ⟨by kernel_rfl, ?hy2x6⟩) (by assumption) ?hr2x6
          case hy2x6 => (intro w hSw; (try dsimp only at hSw); go_simp <;> with_reducible rfl)
          simp only [Act.put, List.setIfInBounds_toArray, List.set_cons_zero, List.set_cons_succ, List.getElem_toArray, List.getElem_cons_zero, List.getElem_cons_succ]
          refine wpAnyH_take (i := 7) (v := ?hv2x7) rfl (by kernel_rfl) (by kernel_rfl) (by kernel_rfl) (fun _ _ _ h => h) (Or.inl ⟨by kernel_rfl, ?hy2x7⟩) (by assumption) ?hr2x7
          case hy2x7 => (intro w hSw; (try dsimp only at hSw); go_simp <;> with_reducible rfl)
          simp only [Act.put, List.setIfInBounds_toArray, List.set_cons_zero, List.set_cons_succ, List.getElem_toArray, List.getElem_cons_zero, List.getElem_cons_succ]
          refine wpAnyH_take (i := 8) (v := ?hv2x8) rfl (by kernel_rfl) (by kernel_rfl) (by kernel_rfl) (fun _ _ _ h => h) (Or.inl ⟨by kernel_rfl, ?hy2x8⟩) (by assumption) ?hr2x8
          case hy2x8 => (intro w hSw; (try dsimp only at hSw); go_simp <;> with_reducible rfl)
          simp only [Act.put, List.setIfInBounds_toArray, List.set_cons_zero, List.set_cons_succ, List.getElem_toArray, List.getElem_cons_zero, List.getElem_cons_succ]
          refine wpAnyH_take (i := 9) (v := ?hv2x9) rfl (by kernel_rfl) (by kernel_rfl) (by kernel_rfl) (fun _ _ _ h => h) (Or.inl ⟨by kernel_rfl, ?hy2x9⟩) (by assumption) ?hr2x9
          case hy2x9 => (intro w hSw; (try dsimp only at hSw); go_simp <;> with_reducible rfl)
          simp only [Act.put, List.setIfInBounds_toArray, List.set_cons_zero, List.set_cons_succ, List.getElem_toArray, List.getElem_cons_zero, List.getElem_cons_succ]
          refine wpAnyH_ready (rs := [10]) (by kernel_rfl) (by simp) ?_
          refine AllReadyH.cons rfl (fun K hK => ?_) AllReadyH.nil
          go_simp
          go_at_call 19
          refine (E1.out _).mono ?_
          rintro e w8 ⟨rfl, bb⟩
          replace bb := nextw (w0 := wr) (by exact sm) bb
          replace B_v := mv B_v bb
          replace B_t := mv B_t bb
          replace B_q := mv B_q bb
          replace B_m := mv B_m bb
          replace B_co := mv B_co bb
          replace HB := nx HB bb
          clear bb c2co c3co c0v c1v c2v c0t c1t c0q c1q c2q c3q
          have c2co : w8.cell? ⟨WO.heap.size, 2, none⟩ = some (.int .i64 x1) := B_co.out.cell 2 rfl
          have c3co : w8.cell? ⟨WO.heap.size, 3, none⟩ = some (.int .i64 y0) := B_co.out.cell 3 rfl
          have c0v : w8.cell? ⟨w.heap.size, 0, none⟩ = some (.int .i64 x) := B_v.out.cell 0 rfl
          have c1v : w8.cell? ⟨w.heap.size, 1, none⟩ = some (.int .i64 y) := B_v.out.cell 1 rfl
          have c2v : w8.cell? ⟨w.heap.size, 2, none⟩ = some (.int .i64 n) := B_v.out.cell 2 rfl
          have c0t : w8.cell? ⟨w.heap.size + 1 + 1, 0, none⟩ = some (.int .i64 lo) := B_t.out.cell 0 rfl
          have c1t : w8.cell? ⟨w.heap.size + 1 + 1, 1, none⟩ = some (.int .i64 hi) := B_t.out.cell 1 rfl
          have c0q : w8.cell? ⟨Pq, 0, none⟩ = some (.int .i64 a) := B_q.out.cell 0 rfl
          have c1q : w8.cell? ⟨Pq, 1, none⟩ = some (.int .i64 b) := B_q.out.cell 1 rfl
          have c2q : w8.cell? ⟨Pq, 2, none⟩ = some (.int .i64 c) := B_q.out.cell 2 rfl
          have c3q : w8.cell? ⟨Pq, 3, none⟩ = some (.int .i64 d) := B_q.out.cell 3 rfl
          go_wp2_with fail
          refine hK.out _ _ ?_ (fun hH2x1 => ?_)
          · ((try dsimp only); (repeat' apply And.intro) <;> (first | (with_reducible assumption) | ((repeat (first | (with_reducible refine Eq.trans (cell_drew1 _ _) ?_) | (with_reducible refine Eq.trans (cell_far (by omega) _ _ _) ?_) | (with_reducible refine Eq.trans (World.cell?_alloc_lt _ _ _ (by first | (dsimp only; omega) | (simp only [World.size_alloc, World.size_setCell]; omega))) ?_))); with_reducible assumption) | assumption | go_keep))
          clear hK K hH2x0
          try simp only [Act.put, List.setIfInBounds_toArray, List.set_cons_zero, List.set_cons_succ, List.getElem_toArray, List.getElem_cons_zero, List.getElem_cons_succ]
          refine wpAnyH_take (i := 11) (v := ?hv2x11) rfl (by kernel_rfl) (by kernel_rfl) (by kernel_rfl) (fun _ _ _ h => h) (Or.inl ⟨by kernel_rfl, ?hy2x11⟩) (by assumption) ?hr2x11
          case hy2x11 => (intro w hSw; (try dsimp only at hSw); go_simp <;> with_reducible rfl)
          simp only [Act.put, List.setIfInBounds_toArray, List.set_cons_zero, List.set_cons_succ, List.getElem_toArray, List.getElem_cons_zero, List.getElem_cons_succ]
          refine wpAnyH_take (i := 12) (v := undef) rfl (by kernel_rfl) (by kernel_rfl) (by kernel_rfl) (fun _ _ _ h => h) (Or.inr ⟨by kernel_rfl, rfl⟩) (by assumption) ?_
          simp only [Act.put, List.setIfInBounds_toArray, List.set_cons_zero, List.set_cons_succ, List.getElem_toArray, List.getElem_cons_zero, List.getElem_cons_succ]
          refine wpAnyH_take (i := 13) (v := undef) rfl (by kernel_rfl) (by kernel_rfl) (by kernel_rfl) (fun _ _ _ h => h) (Or.inr ⟨by kernel_rfl, rfl⟩) (by assumption) ?_
          simp only [Act.put, List.setIfInBounds_toArray, List.set_cons_zero, List.set_cons_succ, List.getElem_toArray, List.getElem_cons_zero, List.getElem_cons_succ]
          refine wpAnyH_take (i := 14) (v := undef) rfl (by kernel_rfl) (by kernel_rfl) (by kernel_rfl) (fun _ _ _ h => h) (Or.inr ⟨by kernel_rfl, rfl⟩) (by assumption) ?_
          simp only [Act.put, List.setIfInBounds_toArray, List.set_cons_zero, List.set_cons_succ, List.getElem_toArray, List.getElem_cons_zero, List.getElem_cons_succ]
          refine wpAnyH_take (i := 15) (v := undef) rfl (by kernel_rfl) (by kernel_rfl) (by kernel_rfl) (fun _ _ _ h => h) (Or.inr ⟨by kernel_rfl, rfl⟩) (by assumption) ?_
          simp only [Act.put, List.setIfInBounds_toArray, List.set_cons_zero, List.set_cons_succ, List.getElem_toArray, List.getElem_cons_zero, List.getElem_cons_succ]
          refine wpAnyH_take (i := 16) (v := undef) rfl (by kernel_rfl) (by kernel_rfl) (by kernel_rfl) (fun _ _ _ h => h) (Or.inr ⟨by kernel_rfl, rfl⟩) (by assumption) ?_
          simp only [Act.put, List.setIfInBounds_toArray, List.set_cons_zero, List.set_cons_succ, List.getElem_toArray, List.getElem_cons_zero, List.getElem_cons_succ]
          refine wpAnyH_take (i := 17) (v := undef) rfl (by kernel_rfl) (by kernel_rfl) (by kernel_rfl) (fun _ _ _ h => h) (Or.inr ⟨by kernel_rfl, rfl⟩) (by assumption) ?_
          simp only [Act.put, List.setIfInBounds_toArray, List.set_cons_zero, List.set_cons_succ, List.getElem_toArray, List.getElem_cons_zero, List.getElem_cons_succ]
          refine wpAnyH_take (i := 18) (v := undef) rfl (by kernel_rfl) (by kernel_rfl) (by kernel_rfl) (fun _ _ _ h => h) (Or.inr ⟨by kernel_rfl, rfl⟩) (by assumption) ?_
          simp only [Act.put, List.setIfInBounds_toArray, List.set_cons_zero, List.set_cons_succ, List.getElem_toArray, List.getElem_cons_zero, List.getElem_cons_succ]
          refine wpAnyH_take (i := 19) (v := undef) rfl (by kernel_rfl) (by kernel_rfl) (by kernel_rfl) (fun _ _ _ h => h) (Or.inr ⟨by kernel_rfl, rfl⟩) (by assumption) ?_
          simp only [Act.put, List.setIfInBounds_toArray, List.set_cons_zero, List.set_cons_succ, List.getElem_toArray, List.getElem_cons_zero, List.getElem_cons_succ]
          refine wpAnyH_take (i := 20) (v := undef) rfl (by kernel_rfl) (by kernel_rfl) (by kernel_rfl) (fun _ _ _ h => h) (Or.inr ⟨by kernel_rfl, rfl⟩) (by assumption) ?_
          simp only [Act.put, List.setIfInBounds_toArray, List.set_cons_zero, List.set_cons_succ, List.getElem_toArray, List.getElem_cons_zero, List.getElem_cons_succ]
          refine wpAnyH_take (i := 21) (v := ?hv2x21) rfl (by kernel_rfl) (by kernel_rfl) (by kernel_rfl) (fun _ _ _ h => h) (Or.inl ⟨by kernel_rfl, ?hy2x21⟩) (by assumption) ?hr2x21
          case hy2x21 => (intro w hSw; (try dsimp only at hSw); go_simp <;> with_reducible rfl)
          simp only [Act.put, List.setIfInBounds_toArray, List.set_cons_zero, List.set_cons_succ, List.getElem_toArray, List.getElem_cons_zero, List.getElem_cons_succ]
          refine wpAnyH_done (by kernel_rfl) ?_ _
          clear hH2x1
          clear c2co c3co c0v c1v c2v c0t c1t c0q c1q c2q c3q
          go_wp2
          go_roundw
          case rel => exact ⟨2, by omega, by go_num, mv B_v sm, mv B_t sm, mv B_q sm, mv B_m sm, mv B_co sm, nx HB sm⟩
          case measure => simp only [intOf]; omega
        · obtain rfl : z = true := mm1.out rfl
          clear E0 E2 E3
          clear mm0 mm1 mm2 mm3
          go_wp2_with fail
          obtain ⟨-, -, c2co, c3co, -, -, -, -⟩ := cells8 B_co
          obtain ⟨c0v, c1v, c2v⟩ := cells3 B_v
          obtain ⟨c0t, c1t⟩ := cells2 B_t
          obtain ⟨c0q, c1q, c2q, c3q⟩ := cells4 B_q
          obtain ⟨c0m, c1m, c2m, c3m⟩ := cells4 B_m
          have tk2x0 : True := trivial
          go_region_held3 (fun w' => w'.cell? ⟨WO.heap.size, 2, none⟩ = some (.int .i64 x1) ∧ w'.cell? ⟨WO.heap.size, 3, none⟩ = some (.int .i64 y0) ∧ w'.cell? ⟨w.heap.size, 0, none⟩ = some (.int .i64 x) ∧ w'.cell? ⟨w.heap.size, 1, none⟩ = some (.int .i64 y) ∧ w'.cell? ⟨w.heap.size, 2, none⟩ = some (.int .i64 n) ∧ w'.cell? ⟨w.heap.size + 1 + 1, 0, none⟩ = some (.int .i64 lo) ∧ w'.cell? ⟨w.heap.size + 1 + 1, 1, none⟩ = some (.int .i64 hi) ∧ w'.cell? ⟨Pq, 0, none⟩ = some (.int .i64 a) ∧ w'.cell? ⟨Pq, 1, none⟩ = some (.int .i64 b) ∧ w'.cell? ⟨Pq, 2, none⟩ = some (.int .i64 c) ∧ w'.cell? ⟨Pq, 3, none⟩ = some (.int .i64 d) ∧ w'.cell? ⟨w3.heap.size, 0, none⟩ = some (.int .i64 m0) ∧ w'.cell? ⟨w3.heap.size, 1, none⟩ = some (.int .i64 m1) ∧ w'.cell? ⟨w3.heap.size, 2, none⟩ = some (.int .i64 m2) ∧ w'.cell? ⟨w3.heap.size, 3, none⟩ = some (.int .i64 m3)) (((try dsimp only); (repeat' apply And.intro) <;> (first | (with_reducible assumption) | ((repeat (first | (with_reducible refine Eq.trans (cell_drew1 _ _) ?_) | (with_reducible refine Eq.trans (cell_far (by omega) _ _ _) ?_) | (with_reducible refine Eq.trans (World.cell?_alloc_lt _ _ _ (by first | (dsimp only; omega) | (simp only [World.size_alloc, World.size_setCell]; omega))) ?_))); with_reducible assumption) | assumption | go_keep)))
    (first
      | (clear tk2x0; go_at_call 19; refine (E1.out _).mono ?_; rintro e w9 ⟨rfl, bb⟩; replace bb := nextw (w0 := wr) (by exact sm) bb; replace B_v := mv B_v bb; replace B_t := mv B_t bb; replace B_q := mv B_q bb; replace B_m := mv B_m bb; replace B_co := mv B_co bb; replace HB := nx HB bb; clear bb c2co c3co c0v c1v c2v c0t c1t c0q c1q c2q c3q c0m c1m c2m c3m; have c2co : w9.cell? ⟨WO.heap.size, 2, none⟩ = some (.int .i64 x1) := B_co.out.cell 2 rfl; have c3co : w9.cell? ⟨WO.heap.size, 3, none⟩ = some (.int .i64 y0) := B_co.out.cell 3 rfl; have c0v : w9.cell? ⟨w.heap.size, 0, none⟩ = some (.int .i64 x) := B_v.out.cell 0 rfl; have c1v : w9.cell? ⟨w.heap.size, 1, none⟩ = some (.int .i64 y) := B_v.out.cell 1 rfl; have c2v : w9.cell? ⟨w.heap.size, 2, none⟩ = some (.int .i64 n) := B_v.out.cell 2 rfl; have c0t : w9.cell? ⟨w.heap.size + 1 + 1, 0, none⟩ = some (.int .i64 lo) := B_t.out.cell 0 rfl; have c1t : w9.cell? ⟨w.heap.size + 1 + 1, 1, none⟩ = some (.int .i64 hi) := B_t.out.cell 1 rfl; have c0q : w9.cell? ⟨Pq, 0, none⟩ = some (.int .i64 a) := B_q.out.cell 0 rfl; have c1q : w9.cell? ⟨Pq, 1, none⟩ = some (.int .i64 b) := B_q.out.cell 1 rfl; have c2q : w9.cell? ⟨Pq, 2, none⟩ = some (.int .i64 c) := B_q.out.cell 2 rfl; have c3q : w9.cell? ⟨Pq, 3, none⟩ = some (.int .i64 d) := B_q.out.cell 3 rfl; have c0m : w9.cell? ⟨w3.heap.size, 0, none⟩ = some (.int .i64 m0) := B_m.out.cell 0 rfl; have c1m : w9.cell? ⟨w3.heap.size, 1, none⟩ = some (.int .i64 m1) := B_m.out.cell 1 rfl; have c2m : w9.cell? ⟨w3.heap.size, 2, none⟩ = some (.int .i64 m2) := B_m.out.cell 2 rfl; have c3m : w9.cell? ⟨w3.heap.size, 3, none⟩ = some (.int .i64 m3) := B_m.out.cell 3 rfl; have tk2x1 : True := trivial)
      | (clear tk2x1; go_at_call 19; refine (EZ.out _).mono ?_; rintro e w10 ⟨rfl, bb⟩; replace bb := nextw (w0 := w9) (by exact sm) bb; replace B_v := mv B_v bb; replace B_t := mv B_t bb; replace B_q := mv B_q bb; replace B_m := mv B_m bb; replace B_co := mv B_co bb; replace HB := nx HB bb; clear bb c2co c3co c0v c1v c2v c0t c1t c0q c1q c2q c3q c0m c1m c2m c3m; have c2co : w10.cell? ⟨WO.heap.size, 2, none⟩ = some (.int .i64 x1) := B_co.out.cell 2 rfl; have c3co : w10.cell? ⟨WO.heap.size, 3, none⟩ = some (.int .i64 y0) := B_co.out.cell 3 rfl; have c0v : w10.cell? ⟨w.heap.size, 0, none⟩ = some (.int .i64 x) := B_v.out.cell 0 rfl; have c1v : w10.cell? ⟨w.heap.size, 1, none⟩ = some (.int .i64 y) := B_v.out.cell 1 rfl; have c2v : w10.cell? ⟨w.heap.size, 2, none⟩ = some (.int .i64 n) := B_v.out.cell 2 rfl; have c0t : w10.cell? ⟨w.heap.size + 1 + 1, 0, none⟩ = some (.int .i64 lo) := B_t.out.cell 0 rfl; have c1t : w10.cell? ⟨w.heap.size + 1 + 1, 1, none⟩ = some (.int .i64 hi) := B_t.out.cell 1 rfl; have c0q : w10.cell? ⟨Pq, 0, none⟩ = some (.int .i64 a) := B_q.out.cell 0 rfl; have c1q : w10.cell? ⟨Pq, 1, none⟩ = some (.int .i64 b) := B_q.out.cell 1 rfl; have c2q : w10.cell? ⟨Pq, 2, none⟩ = some (.int .i64 c) := B_q.out.cell 2 rfl; have c3q : w10.cell? ⟨Pq, 3, none⟩ = some (.int .i64 d) := B_q.out.cell 3 rfl; have c0m : w10.cell? ⟨w3.heap.size, 0, none⟩ = some (.int .i64 m0) := B_m.out.cell 0 rfl; have c1m : w10.cell? ⟨w3.heap.size, 1, none⟩ = some (.int .i64 m1) := B_m.out.cell 1 rfl; have c2m : w10.cell? ⟨w3.heap.size, 2, none⟩ = some (.int .i64 m2) := B_m.out.cell 2 rfl; have c3m : w10.cell? ⟨w3.heap.size, 3, none⟩ = some (.int .i64 m3) := B_m.out.cell 3 rfl; have tk2x2 : True := trivial))
          clear c2co c3co c0v c1v c2v c0t c1t c0q c1q c2q c3q c0m c1m c2m c3m
          go_wp2
          go_roundw
          case rel => exact ⟨2, by omega, by go_num, mv B_v sm, mv B_t sm, mv B_q sm, mv B_m sm, mv B_co sm, nx HB sm⟩
          case measure => simp only [intOf]; omega
      · rcases b2 with _ | _
        · skip
          clear E0 E1 E3
          clear mm0 mm1 mm2 mm3
          go_wp2_with fail
          obtain ⟨-, -, -, -, c4co, c5co, -, -⟩ := cells8 B_co
          obtain ⟨c0v, c1v, c2v⟩ := cells3 B_v
          obtain ⟨c0t, c1t⟩ := cells2 B_t
          obtain ⟨c0q, c1q, c2q, c3q⟩ := cells4 B_q
          refine wp_region_held_drew (S := fun w' => w'.cell? ⟨WO.heap.size, 4, none⟩ = some (.int .i64 x0) ∧ w'.cell? ⟨WO.heap.size, 5, none⟩ = some (.int .i64 y1) ∧ w'.cell? ⟨w.heap.size, 0, none⟩ = some (.int .i64 x) ∧ w'.cell? ⟨w.heap.size, 1, none⟩ = some (.int .i64 y) ∧ w'.cell? ⟨w.heap.size, 2, none⟩ = some (.int .i64 n) ∧ w'.cell? ⟨w.heap.size + 1 + 1, 0, none⟩ = some (.int .i64 lo) ∧ w'.cell? ⟨w.heap.size + 1 + 1, 1, none⟩ = some (.int .i64 hi) ∧ w'.cell? ⟨Pq, 0, none⟩ = some (.int .i64 a) ∧ w'.cell? ⟨Pq, 1, none⟩ = some (.int .i64 b) ∧ w'.cell? ⟨Pq, 2, none⟩ = some (.int .i64 c) ∧ w'.cell? ⟨Pq, 3, none⟩ = some (.int .i64 d)) (by kernel_rfl) ?_ (fun hH3x0 => ?_)
          · ((try dsimp only); (repeat' apply And.intro) <;> (first | (with_reducible assumption) | ((repeat (first | (with_reducible refine Eq.trans (cell_drew1 _ _) ?_) | (with_reducible refine Eq.trans (cell_far (by omega) _ _ _) ?_) | (with_reducible refine Eq.trans (World.cell?_alloc_lt _ _ _ (by first | (dsimp only; omega) | (simp only [World.size_alloc, World.size_setCell]; omega))) ?_))); with_reducible assumption) | assumption | go_keep))
          refine wpAnyH_take (i := 0) (v := ?hv3x0) rfl (by kernel_rfl) (by kernel_rfl) (by kernel_rfl) (fun _ _ _ h => h) (Or.inl ⟨by kernel_rfl, ?hy3x0⟩) (by assumption) ?hr3x0
          case hy3x0 => (intro w hSw; (try dsimp only at hSw); go_simp <;> with_reducible rfl)
          simp only [Act.put, List.setIfInBounds_toArray, List.set_cons_zero, List.set_cons_succ, List.getElem_toArray, List.getElem_cons_zero, List.getElem_cons_succ]
          refine wpAnyH_take (i := 1) (v := ?hv3x1) rfl (by kernel_rfl) (by kernel_rfl) (by kernel_rfl) (fun _ _ _ h => h) (Or.inl ⟨by kernel_rfl, ?hy3x1⟩) (by assumption) ?hr3x1
          case hy3x1 => (intro w hSw; (try dsimp only at hSw); go_simp <;> with_reducible rfl)
          simp only [Act.put, List.setIfInBounds_toArray, List.set_cons_zero, List.set_cons_succ, List.getElem_toArray, List.getElem_cons_zero, List.getElem_cons_succ]
          refine wpAnyH_take (i := 2) (v := ?hv3x2) rfl (by kernel_rfl) (by kernel_rfl) (by kernel_rfl) (fun _ _ _ h => h) (Or.inl ⟨by kernel_rfl, ?hy3x2⟩) (by assumption) ?hr3x2
          case hy3x2 => (intro w hSw; (try dsimp only at hSw); go_simp <;> with_reducible rfl)
          simp only [Act.put, List.setIfInBounds_toArray, List.set_cons_zero, List.set_cons_succ, List.getElem_toArray, List.getElem_cons_zero, List.getElem_cons_succ]
          refine wpAnyH_take (i := 3) (v := ?hv3x3) rfl (by kernel_rfl) (by kernel_rfl) (by kernel_rfl) (fun _ _ _ h => h) (Or.inl ⟨by kernel_rfl, ?hy3x3⟩) (by assumption) ?hr3x3
          case hy3x3 => (intro w hSw; (try dsimp only at hSw); go_simp <;> with_reducible rfl)
          simp only [Act.put, List.setIfInBounds_toArray, List.set_cons_zero, List.set_cons_succ, List.getElem_toArray, List.getElem_cons_zero, List.getElem_cons_succ]
          refine wpAnyH_take (i := 4) (v := ?hv3x4) rfl (by kernel_rfl) (by kernel_rfl) (by kernel_rfl) (fun _ _ _ h => h) (Or.inl ⟨by kernel_rfl, ?hy3x4⟩) (by assumption) ?hr3x4
          case hy3x4 => (intro w hSw; (try dsimp only at hSw); go_simp <;> with_reducible rfl)
          simp only [Act.put, List.setIfInBounds_toArray, List.set_cons_zero, List.set_cons_succ, List.getElem_toArray, List.getElem_cons_zero, List.getElem_cons_succ]
          refine wpAnyH_take (i := 5) (v := ?hv3x5) rfl (by kernel_rfl) (by kernel_rfl) (by kernel_rfl) (fun _ _ _ h => h) (Or.inl ⟨by kernel_rfl, ?hy3x5⟩) (by assumption) ?hr3x5
          case hy3x5 => (intro w hSw; (try dsimp only at hSw); go_simp <;> with_reducible rfl)
          simp only [Act.put, List.setIfInBounds_toArray, List.set_cons_zero, List.set_cons_succ, List.getElem_toArray, List.getElem_cons_zero, List.getElem_cons_succ]
          refine wpAnyH_take (i := 6) (v := ?hv3x6) rfl (by kernel_rfl) (by kernel_rfl) (by kernel_rfl) (fun _ _ _ h => h) (Or.inl ⟨by kernel_rfl, ?hy3x6⟩) (by assumption) ?hr3x6
          case hy3x6 => (intro w hSw; (try dsimp only at hSw); go_simp <;> with_reducible rfl)
          simp only [Act.put, List.setIfInBounds_toArray, List.set_cons_zero, List.set_cons_succ, List.getElem_toArray, List.getElem_cons_zero, List.getElem_cons_succ]
          refine wpAnyH_take (i := 7) (v := ?hv3x7) rfl (by kernel_rfl) (by kernel_rfl) (by kernel_rfl) (fun _ _ _ h => h) (Or.inl ⟨by kernel_rfl, ?hy3x7⟩) (by assumption) ?hr3x7
          case hy3x7 => (intro w hSw; (try dsimp only at hSw); go_simp <;> with_reducible rfl)
          simp only [Act.put, List.setIfInBounds_toArray, List.set_cons_zero, List.set_cons_succ, List.getElem_toArray, List.getElem_cons_zero, List.getElem_cons_succ]
          refine wpAnyH_take (i := 8) (v := ?hv3x8) rfl (by kernel_rfl) (by kernel_rfl) (by kernel_rfl) (fun _ _ _ h => h) (Or.inl ⟨by kernel_rfl, ?hy3x8⟩) (by assumption) ?hr3x8
          case hy3x8 => (intro w hSw; (try dsimp only at hSw); go_simp <;> with_reducible rfl)
          simp only [Act.put, List.setIfInBounds_toArray, List.set_cons_zero, List.set_cons_succ, List.getElem_toArray, List.getElem_cons_zero, List.getElem_cons_succ]
          refine wpAnyH_take (i := 9) (v := ?hv3x9) rfl (by kernel_rfl) (by kernel_rfl) (by kernel_rfl) (fun _ _ _ h => h) (Or.inl ⟨by kernel_rfl, ?hy3x9⟩) (by assumption) ?hr3x9
          case hy3x9 => (intro w hSw; (try dsimp only at hSw); go_simp <;> with_reducible rfl)
          simp only [Act.put, List.setIfInBounds_toArray, List.set_cons_zero, List.set_cons_succ, List.getElem_toArray, List.getElem_cons_zero, List.getElem_cons_succ]
          refine wpAnyH_ready (rs := [10]) (by kernel_rfl) (by simp) ?_
          refine AllReadyH.cons rfl (fun K hK => ?_) AllReadyH.nil
          go_simp
          go_at_call 19
          refine (E2.out _).mono ?_
          rintro e w11 ⟨rfl, bb⟩
          replace bb := nextw (w0 := wr) (by exact sm) bb
          replace B_v := mv B_v bb
          replace B_t := mv B_t bb
          replace B_q := mv B_q bb
          replace B_m := mv B_m bb
          replace B_co := mv B_co bb
          replace HB := nx HB bb
          clear bb c4co c5co c0v c1v c2v c0t c1t c0q c1q c2q c3q
          have c4co : w11.cell? ⟨WO.heap.size, 4, none⟩ = some (.int .i64 x0) := B_co.out.cell 4 rfl
          have c5co : w11.cell? ⟨WO.heap.size, 5, none⟩ = some (.int .i64 y1) := B_co.out.cell 5 rfl
          have c0v : w11.cell? ⟨w.heap.size, 0, none⟩ = some (.int .i64 x) := B_v.out.cell 0 rfl
          have c1v : w11.cell? ⟨w.heap.size, 1, none⟩ = some (.int .i64 y) := B_v.out.cell 1 rfl
          have c2v : w11.cell? ⟨w.heap.size, 2, none⟩ = some (.int .i64 n) := B_v.out.cell 2 rfl
          have c0t : w11.cell? ⟨w.heap.size + 1 + 1, 0, none⟩ = some (.int .i64 lo) := B_t.out.cell 0 rfl
          have c1t : w11.cell? ⟨w.heap.size + 1 + 1, 1, none⟩ = some (.int .i64 hi) := B_t.out.cell 1 rfl
          have c0q : w11.cell? ⟨Pq, 0, none⟩ = some (.int .i64 a) := B_q.out.cell 0 rfl
          have c1q : w11.cell? ⟨Pq, 1, none⟩ = some (.int .i64 b) := B_q.out.cell 1 rfl
          have c2q : w11.cell? ⟨Pq, 2, none⟩ = some (.int .i64 c) := B_q.out.cell 2 rfl
          have c3q : w11.cell? ⟨Pq, 3, none⟩ = some (.int .i64 d) := B_q.out.cell 3 rfl
          go_wp2_with fail
          refine hK.out _ _ ?_ (fun hH3x1 => ?_)
          · ((try dsimp only); (repeat' apply And.intro) <;> (first | (with_reducible assumption) | ((repeat (first | (with_reducible refine Eq.trans (cell_drew1 _ _) ?_) | (with_reducible refine Eq.trans (cell_far (by omega) _ _ _) ?_) | (with_reducible refine Eq.trans (World.cell?_alloc_lt _ _ _ (by first | (dsimp only; omega) | (simp only [World.size_alloc, World.size_setCell]; omega))) ?_))); with_reducible assumption) | assumption | go_keep))
          clear hK K hH3x0
          try simp only [Act.put, List.setIfInBounds_toArray, List.set_cons_zero, List.set_cons_succ, List.getElem_toArray, List.getElem_cons_zero, List.getElem_cons_succ]
          refine wpAnyH_take (i := 11) (v := ?hv3x11) rfl (by kernel_rfl) (by kernel_rfl) (by kernel_rfl) (fun _ _ _ h => h) (Or.inl ⟨by kernel_rfl, ?hy3x11⟩) (by assumption) ?hr3x11
          case hy3x11 => (intro w hSw; (try dsimp only at hSw); go_simp <;> with_reducible rfl)
          simp only [Act.put, List.setIfInBounds_toArray, List.set_cons_zero, List.set_cons_succ, List.getElem_toArray, List.getElem_cons_zero, List.getElem_cons_succ]
          refine wpAnyH_take (i := 12) (v := undef) rfl (by kernel_rfl) (by kernel_rfl) (by kernel_rfl) (fun _ _ _ h => h) (Or.inr ⟨by kernel_rfl, rfl⟩) (by assumption) ?_
          simp only [Act.put, List.setIfInBounds_toArray, List.set_cons_zero, List.set_cons_succ, List.getElem_toArray, List.getElem_cons_zero, List.getElem_cons_succ]
          refine wpAnyH_take (i := 13) (v := undef) rfl (by kernel_rfl) (by kernel_rfl) (by kernel_rfl) (fun _ _ _ h => h) (Or.inr ⟨by kernel_rfl, rfl⟩) (by assumption) ?_
          simp only [Act.put, List.setIfInBounds_toArray, List.set_cons_zero, List.set_cons_succ, List.getElem_toArray, List.getElem_cons_zero, List.getElem_cons_succ]
          refine wpAnyH_take (i := 14) (v := undef) rfl (by kernel_rfl) (by kernel_rfl) (by kernel_rfl) (fun _ _ _ h => h) (Or.inr ⟨by kernel_rfl, rfl⟩) (by assumption) ?_
          simp only [Act.put, List.setIfInBounds_toArray, List.set_cons_zero, List.set_cons_succ, List.getElem_toArray, List.getElem_cons_zero, List.getElem_cons_succ]
          refine wpAnyH_take (i := 15) (v := undef) rfl (by kernel_rfl) (by kernel_rfl) (by kernel_rfl) (fun _ _ _ h => h) (Or.inr ⟨by kernel_rfl, rfl⟩) (by assumption) ?_
          simp only [Act.put, List.setIfInBounds_toArray, List.set_cons_zero, List.set_cons_succ, List.getElem_toArray, List.getElem_cons_zero, List.getElem_cons_succ]
          refine wpAnyH_take (i := 16) (v := undef) rfl (by kernel_rfl) (by kernel_rfl) (by kernel_rfl) (fun _ _ _ h => h) (Or.inr ⟨by kernel_rfl, rfl⟩) (by assumption) ?_
          simp only [Act.put, List.setIfInBounds_toArray, List.set_cons_zero, List.set_cons_succ, List.getElem_toArray, List.getElem_cons_zero, List.getElem_cons_succ]
          refine wpAnyH_take (i := 17) (v := undef) rfl (by kernel_rfl) (by kernel_rfl) (by kernel_rfl) (fun _ _ _ h => h) (Or.inr ⟨by kernel_rfl, rfl⟩) (by assumption) ?_
          simp only [Act.put, List.setIfInBounds_toArray, List.set_cons_zero, List.set_cons_succ, List.getElem_toArray, List.getElem_cons_zero, List.getElem_cons_succ]
          refine wpAnyH_take (i := 18) (v := undef) rfl (by kernel_rfl) (by kernel_rfl) (by kernel_rfl) (fun _ _ _ h => h) (Or.inr ⟨by kernel_rfl, rfl⟩) (by assumption) ?_
          simp only [Act.put, List.setIfInBounds_toArray, List.set_cons_zero, List.set_cons_succ, List.getElem_toArray, List.getElem_cons_zero, List.getElem_cons_succ]
          refine wpAnyH_take (i := 19) (v := undef) rfl (by kernel_rfl) (by kernel_rfl) (by kernel_rfl) (fun _ _ _ h => h) (Or.inr ⟨by kernel_rfl, rfl⟩) (by assumption) ?_
          simp only [Act.put, List.setIfInBounds_toArray, List.set_cons_zero, List.set_cons_succ, List.getElem_toArray, List.getElem_cons_zero, List.getElem_cons_succ]
          refine wpAnyH_take (i := 20) (v := undef) rfl (by kernel_rfl) (by kernel_rfl) (by kernel_rfl) (fun _ _ _ h => h) (Or.inr ⟨by kernel_rfl, rfl⟩) (by assumption) ?_
          simp only [Act.put, List.setIfInBounds_toArray, List.set_cons_zero, List.set_cons_succ, List.getElem_toArray, List.getElem_cons_zero, List.getElem_cons_succ]
          refine wpAnyH_take (i := 21) (v := ?hv3x21) rfl (by kernel_rfl) (by kernel_rfl) (by kernel_rfl) (fun _ _ _ h => h) (Or.inl ⟨by kernel_rfl, ?hy3x21⟩) (by assumption) ?hr3x21
          case hy3x21 => (intro w hSw; (try dsimp only at hSw); go_simp <;> with_reducible rfl)
          simp only [Act.put, List.setIfInBounds_toArray, List.set_cons_zero, List.set_cons_succ, List.getElem_toArray, List.getElem_cons_zero, List.getElem_cons_succ]
          refine wpAnyH_done (by kernel_rfl) ?_ _
          clear hH3x1
          clear c4co c5co c0v c1v c2v c0t c1t c0q c1q c2q c3q
          go_wp2
          go_roundw
          case rel => exact ⟨3, by omega, by go_num, mv B_v sm, mv B_t sm, mv B_q sm, mv B_m sm, mv B_co sm, nx HB sm⟩
          case measure => simp only [intOf]; omega
        · obtain rfl : z = true := mm2.out rfl
          clear E0 E1 E3
          clear mm0 mm1 mm2 mm3
          go_wp2_with fail
          obtain ⟨-, -, -, -, c4co, c5co, -, -⟩ := cells8 B_co
          obtain ⟨c0v, c1v, c2v⟩ := cells3 B_v
          obtain ⟨c0t, c1t⟩ := cells2 B_t
          obtain ⟨c0q, c1q, c2q, c3q⟩ := cells4 B_q
          obtain ⟨c0m, c1m, c2m, c3m⟩ := cells4 B_m
          have tk3x0 : True := trivial
          go_region_held3 (fun w' => w'.cell? ⟨WO.heap.size, 4, none⟩ = some (.int .i64 x0) ∧ w'.cell? ⟨WO.heap.size, 5, none⟩ = some (.int .i64 y1) ∧ w'.cell? ⟨w.heap.size, 0, none⟩ = some (.int .i64 x) ∧ w'.cell? ⟨w.heap.size, 1, none⟩ = some (.int .i64 y) ∧ w'.cell? ⟨w.heap.size, 2, none⟩ = some (.int .i64 n) ∧ w'.cell? ⟨w.heap.size + 1 + 1, 0, none⟩ = some (.int .i64 lo) ∧ w'.cell? ⟨w.heap.size + 1 + 1, 1, none⟩ = some (.int .i64 hi) ∧ w'.cell? ⟨Pq, 0, none⟩ = some (.int .i64 a) ∧ w'.cell? ⟨Pq, 1, none⟩ = some (.int .i64 b) ∧ w'.cell? ⟨Pq, 2, none⟩ = some (.int .i64 c) ∧ w'.cell? ⟨Pq, 3, none⟩ = some (.int .i64 d) ∧ w'.cell? ⟨w3.heap.size, 0, none⟩ = some (.int .i64 m0) ∧ w'.cell? ⟨w3.heap.size, 1, none⟩ = some (.int .i64 m1) ∧ w'.cell? ⟨w3.heap.size, 2, none⟩ = some (.int .i64 m2) ∧ w'.cell? ⟨w3.heap.size, 3, none⟩ = some (.int .i64 m3)) (((try dsimp only); (repeat' apply And.intro) <;> (first | (with_reducible assumption) | ((repeat (first | (with_reducible refine Eq.trans (cell_drew1 _ _) ?_) | (with_reducible refine Eq.trans (cell_far (by omega) _ _ _) ?_) | (with_reducible refine Eq.trans (World.cell?_alloc_lt _ _ _ (by first | (dsimp only; omega) | (simp only [World.size_alloc, World.size_setCell]; omega))) ?_))); with_reducible assumption) | assumption | go_keep)))
    (first
      | (clear tk3x0; go_at_call 19; refine (E2.out _).mono ?_; rintro e w12 ⟨rfl, bb⟩; replace bb := nextw (w0 := wr) (by exact sm) bb; replace B_v := mv B_v bb; replace B_t := mv B_t bb; replace B_q := mv B_q bb; replace B_m := mv B_m bb; replace B_co := mv B_co bb; replace HB := nx HB bb; clear bb c4co c5co c0v c1v c2v c0t c1t c0q c1q c2q c3q c0m c1m c2m c3m; have c4co : w12.cell? ⟨WO.heap.size, 4, none⟩ = some (.int .i64 x0) := B_co.out.cell 4 rfl; have c5co : w12.cell? ⟨WO.heap.size, 5, none⟩ = some (.int .i64 y1) := B_co.out.cell 5 rfl; have c0v : w12.cell? ⟨w.heap.size, 0, none⟩ = some (.int .i64 x) := B_v.out.cell 0 rfl; have c1v : w12.cell? ⟨w.heap.size, 1, none⟩ = some (.int .i64 y) := B_v.out.cell 1 rfl; have c2v : w12.cell? ⟨w.heap.size, 2, none⟩ = some (.int .i64 n) := B_v.out.cell 2 rfl; have c0t : w12.cell? ⟨w.heap.size + 1 + 1, 0, none⟩ = some (.int .i64 lo) := B_t.out.cell 0 rfl; have c1t : w12.cell? ⟨w.heap.size + 1 + 1, 1, none⟩ = some (.int .i64 hi) := B_t.out.cell 1 rfl; have c0q : w12.cell? ⟨Pq, 0, none⟩ = some (.int .i64 a) := B_q.out.cell 0 rfl; have c1q : w12.cell? ⟨Pq, 1, none⟩ = some (.int .i64 b) := B_q.out.cell 1 rfl; have c2q : w12.cell? ⟨Pq, 2, none⟩ = some (.int .i64 c) := B_q.out.cell 2 rfl; have c3q : w12.cell? ⟨Pq, 3, none⟩ = some (.int .i64 d) := B_q.out.cell 3 rfl; have c0m : w12.cell? ⟨w3.heap.size, 0, none⟩ = some (.int .i64 m0) := B_m.out.cell 0 rfl; have c1m : w12.cell? ⟨w3.heap.size, 1, none⟩ = some (.int .i64 m1) := B_m.out.cell 1 rfl; have c2m : w12.cell? ⟨w3.heap.size, 2, none⟩ = some (.int .i64 m2) := B_m.out.cell 2 rfl; have c3m : w12.cell? ⟨w3.heap.size, 3, none⟩ = some (.int .i64 m3) := B_m.out.cell 3 rfl; have tk3x1 : True := trivial)
      | (clear tk3x1; go_at_call 19; refine (EZ.out _).mono ?_; rintro e w13 ⟨rfl, bb⟩; replace bb := nextw (w0 := w12) (by exact sm) bb; replace B_v := mv B_v bb; replace B_t := mv B_t bb; replace B_q := mv B_q bb; replace B_m := mv B_m bb; replace B_co := mv B_co bb; replace HB := nx HB bb; clear bb c4co c5co c0v c1v c2v c0t c1t c0q c1q c2q c3q c0m c1m c2m c3m; have c4co : w13.cell? ⟨WO.heap.size, 4, none⟩ = some (.int .i64 x0) := B_co.out.cell 4 rfl; have c5co : w13.cell? ⟨WO.heap.size, 5, none⟩ = some (.int .i64 y1) := B_co.out.cell 5 rfl; have c0v : w13.cell? ⟨w.heap.size, 0, none⟩ = some (.int .i64 x) := B_v.out.cell 0 rfl; have c1v : w13.cell? ⟨w.heap.size, 1, none⟩ = some (.int .i64 y) := B_v.out.cell 1 rfl; have c2v : w13.cell? ⟨w.heap.size, 2, none⟩ = some (.int .i64 n) := B_v.out.cell 2 rfl; have c0t : w13.cell? ⟨w.heap.size + 1 + 1, 0, none⟩ = some (.int .i64 lo) := B_t.out.cell 0 rfl; have c1t : w13.cell? ⟨w.heap.size + 1 + 1, 1, none⟩ = some (.int .i64 hi) := B_t.out.cell 1 rfl; have c0q : w13.cell? ⟨Pq, 0, none⟩ = some (.int .i64 a) := B_q.out.cell 0 rfl; have c1q : w13.cell? ⟨Pq, 1, none⟩ = some (.int .i64 b) := B_q.out.cell 1 rfl; have c2q : w13.cell? ⟨Pq, 2, none⟩ = some (.int .i64 c) := B_q.out.cell 2 rfl; have c3q : w13.cell? ⟨Pq, 3, none⟩ = some (.int .i64 d) := B_q.out.cell 3 rfl; have c0m : w13.cell? ⟨w3.heap.size, 0, none⟩ = some (.int .i64 m0) := B_m.out.cell 0 rfl; have c1m : w13.cell? ⟨w3.heap.size, 1, none⟩ = some (.int .i64 m1) := B_m.out.cell 1 rfl; have c2m : w13.cell? ⟨w3.heap.size, 2, none⟩ = some (.int .i64 m2) := B_m.out.cell 2 rfl; have c3m : w13.cell? ⟨w3.heap.size, 3, none⟩ = some (.int .i64 m3) := B_m.out.cell 3 rfl; have tk3x2 : True := trivial))
          clear c4co c5co c0v c1v c2v c0t c1t c0q c1q c2q c3q c0m c1m c2m c3m
          go_wp2
          go_roundw
          case rel => exact ⟨3, by omega, by go_num, mv B_v sm, mv B_t sm, mv B_q sm, mv B_m sm, mv B_co sm, nx HB sm⟩
          case measure => simp only [intOf]; omega
      · rcases b3 with _ | _
        · skip
          clear E0 E1 E2
          clear mm0 mm1 mm2 mm3
          go_wp2_with fail
          obtain ⟨-, -, -, -, -, -, c6co, c7co⟩ := cells8 B_co
          obtain ⟨c0v, c1v, c2v⟩ := cells3 B_v
          obtain ⟨c0t, c1t⟩ := cells2 B_t
          obtain ⟨c0q, c1q, c2q, c3q⟩ := cells4 B_q
          refine wp_region_held_drew (S := fun w' => w'.cell? ⟨WO.heap.size, 6, none⟩ = some (.int .i64 x1) ∧ w'.cell? ⟨WO.heap.size, 7, none⟩ = some (.int .i64 y1) ∧ w'.cell? ⟨w.heap.size, 0, none⟩ = some (.int .i64 x) ∧ w'.cell? ⟨w.heap.size, 1, none⟩ = some (.int .i64 y) ∧ w'.cell? ⟨w.heap.size, 2, none⟩ = some (.int .i64 n) ∧ w'.cell? ⟨w.heap.size + 1 + 1, 0, none⟩ = some (.int .i64 lo) ∧ w'.cell? ⟨w.heap.size + 1 + 1, 1, none⟩ = some (.int .i64 hi) ∧ w'.cell? ⟨Pq, 0, none⟩ = some (.int .i64 a) ∧ w'.cell? ⟨Pq, 1, none⟩ = some (.int .i64 b) ∧ w'.cell? ⟨Pq, 2, none⟩ = some (.int .i64 c) ∧ w'.cell? ⟨Pq, 3, none⟩ = some (.int .i64 d)) (by kernel_rfl) ?_ (fun hH4x0 => ?_)
          · ((try dsimp only); (repeat' apply And.intro) <;> (first | (with_reducible assumption) | ((repeat (first | (with_reducible refine Eq.trans (cell_drew1 _ _) ?_) | (with_reducible refine Eq.trans (cell_far (by omega) _ _ _) ?_) | (with_reducible refine Eq.trans (World.cell?_alloc_lt _ _ _ (by first | (dsimp only; omega) | (simp only [World.size_alloc, World.size_setCell]; omega))) ?_))); with_reducible assumption) | assumption | go_keep))
          refine wpAnyH_take (i := 0) (v := ?hv4x0) rfl (by kernel_rfl) (by kernel_rfl) (by kernel_rfl) (fun _ _ _ h => h) (Or.inl ⟨by kernel_rfl, ?hy4x0⟩) (by assumption) ?hr4x0
          case hy4x0 => (intro w hSw; (try dsimp only at hSw); go_simp <;> with_reducible rfl)
          simp only [Act.put, List.setIfInBounds_toArray, List.set_cons_zero, List.set_cons_succ, List.getElem_toArray, List.getElem_cons_zero, List.getElem_cons_succ]
          refine wpAnyH_take (i := 1) (v := ?hv4x1) rfl (by kernel_rfl) (by kernel_rfl) (by kernel_rfl) (fun _ _ _ h => h) (Or.inl ⟨by kernel_rfl, ?hy4x1⟩) (by assumption) ?hr4x1
          case hy4x1 => (intro w hSw; (try dsimp only at hSw); go_simp <;> with_reducible rfl)
          simp only [Act.put, List.setIfInBounds_toArray, List.set_cons_zero, List.set_cons_succ, List.getElem_toArray, List.getElem_cons_zero, List.getElem_cons_succ]
          refine wpAnyH_take (i := 2) (v := ?hv4x2) rfl (by kernel_rfl) (by kernel_rfl) (by kernel_rfl) (fun _ _ _ h => h) (Or.inl ⟨by kernel_rfl, ?hy4x2⟩) (by assumption) ?hr4x2
          case hy4x2 => (intro w hSw; (try dsimp only at hSw); go_simp <;> with_reducible rfl)
          simp only [Act.put, List.setIfInBounds_toArray, List.set_cons_zero, List.set_cons_succ, List.getElem_toArray, List.getElem_cons_zero, List.getElem_cons_succ]
          refine wpAnyH_take (i := 3) (v := ?hv4x3) rfl (by kernel_rfl) (by kernel_rfl) (by kernel_rfl) (fun _ _ _ h => h) (Or.inl ⟨by kernel_rfl, ?hy4x3⟩) (by assumption) ?hr4x3
          case hy4x3 => (intro w hSw; (try dsimp only at hSw); go_simp <;> with_reducible rfl)
          simp only [Act.put, List.setIfInBounds_toArray, List.set_cons_zero, List.set_cons_succ, List.getElem_toArray, List.getElem_cons_zero, List.getElem_cons_succ]
          refine wpAnyH_take (i := 4) (v := ?hv4x4) rfl (by kernel_rfl) (by kernel_rfl) (by kernel_rfl) (fun _ _ _ h => h) (Or.inl ⟨by kernel_rfl, ?hy4x4⟩) (by assumption) ?hr4x4
          case hy4x4 => (intro w hSw; (try dsimp only at hSw); go_simp <;> with_reducible rfl)
          simp only [Act.put, List.setIfInBounds_toArray, List.set_cons_zero, List.set_cons_succ, List.getElem_toArray, List.getElem_cons_zero, List.getElem_cons_succ]
          refine wpAnyH_take (i := 5) (v := ?hv4x5) rfl (by kernel_rfl) (by kernel_rfl) (by kernel_rfl) (fun _ _ _ h => h) (Or.inl ⟨by kernel_rfl, ?hy4x5⟩) (by assumption) ?hr4x5
          case hy4x5 => (intro w hSw; (try dsimp only at hSw); go_simp <;> with_reducible rfl)
          simp only [Act.put, List.setIfInBounds_toArray, List.set_cons_zero, List.set_cons_succ, List.getElem_toArray, List.getElem_cons_zero, List.getElem_cons_succ]
          refine wpAnyH_take (i := 6) (v := ?hv4x6) rfl (by kernel_rfl) (by kernel_rfl) (by kernel_rfl) (fun _ _ _ h => h) (Or.inl ⟨by kernel_rfl, ?hy4x6⟩) (by assumption) ?hr4x6
          case hy4x6 => (intro w hSw; (try dsimp only at hSw); go_simp <;> with_reducible rfl)
          simp only [Act.put, List.setIfInBounds_toArray, List.set_cons_zero, List.set_cons_succ, List.getElem_toArray, List.getElem_cons_zero, List.getElem_cons_succ]
          refine wpAnyH_take (i := 7) (v := ?hv4x7) rfl (by kernel_rfl) (by kernel_rfl) (by kernel_rfl) (fun _ _ _ h => h) (Or.inl ⟨by kernel_rfl, ?hy4x7⟩) (by assumption) ?hr4x7
          case hy4x7 => (intro w hSw; (try dsimp only at hSw); go_simp <;> with_reducible rfl)
          simp only [Act.put, List.setIfInBounds_toArray, List.set_cons_zero, List.set_cons_succ, List.getElem_toArray, List.getElem_cons_zero, List.getElem_cons_succ]
          refine wpAnyH_take (i := 8) (v := ?hv4x8) rfl (by kernel_rfl) (by kernel_rfl) (by kernel_rfl) (fun _ _ _ h => h) (Or.inl ⟨by kernel_rfl, ?hy4x8⟩) (by assumption) ?hr4x8
          case hy4x8 => (intro w hSw; (try dsimp only at hSw); go_simp <;> with_reducible rfl)
          simp only [Act.put, List.setIfInBounds_toArray, List.set_cons_zero, List.set_cons_succ, List.getElem_toArray, List.getElem_cons_zero, List.getElem_cons_succ]
          refine wpAnyH_take (i := 9) (v := ?hv4x9) rfl (by kernel_rfl) (by kernel_rfl) (by kernel_rfl) (fun _ _ _ h => h) (Or.inl ⟨by kernel_rfl, ?hy4x9⟩) (by assumption) ?hr4x9
          case hy4x9 => (intro w hSw; (try dsimp only at hSw); go_simp <;> with_reducible rfl)
          simp only [Act.put, List.setIfInBounds_toArray, List.set_cons_zero, List.set_cons_succ, List.getElem_toArray, List.getElem_cons_zero, List.getElem_cons_succ]
          refine wpAnyH_ready (rs := [10]) (by kernel_rfl) (by simp) ?_
          refine AllReadyH.cons rfl (fun K hK => ?_) AllReadyH.nil
          go_simp
          go_at_call 19
          refine (E3.out _).mono ?_
          rintro e w14 ⟨rfl, bb⟩
          replace bb := nextw (w0 := wr) (by exact sm) bb
          replace B_v := mv B_v bb
          replace B_t := mv B_t bb
          replace B_q := mv B_q bb
          replace B_m := mv B_m bb
          replace B_co := mv B_co bb
          replace HB := nx HB bb
          clear bb c6co c7co c0v c1v c2v c0t c1t c0q c1q c2q c3q
          have c6co : w14.cell? ⟨WO.heap.size, 6, none⟩ = some (.int .i64 x1) := B_co.out.cell 6 rfl
          have c7co : w14.cell? ⟨WO.heap.size, 7, none⟩ = some (.int .i64 y1) := B_co.out.cell 7 rfl
          have c0v : w14.cell? ⟨w.heap.size, 0, none⟩ = some (.int .i64 x) := B_v.out.cell 0 rfl
          have c1v : w14.cell? ⟨w.heap.size, 1, none⟩ = some (.int .i64 y) := B_v.out.cell 1 rfl
          have c2v : w14.cell? ⟨w.heap.size, 2, none⟩ = some (.int .i64 n) := B_v.out.cell 2 rfl
          have c0t : w14.cell? ⟨w.heap.size + 1 + 1, 0, none⟩ = some (.int .i64 lo) := B_t.out.cell 0 rfl
          have c1t : w14.cell? ⟨w.heap.size + 1 + 1, 1, none⟩ = some (.int .i64 hi) := B_t.out.cell 1 rfl
          have c0q : w14.cell? ⟨Pq, 0, none⟩ = some (.int .i64 a) := B_q.out.cell 0 rfl
          have c1q : w14.cell? ⟨Pq, 1, none⟩ = some (.int .i64 b) := B_q.out.cell 1 rfl
          have c2q : w14.cell? ⟨Pq, 2, none⟩ = some (.int .i64 c) := B_q.out.cell 2 rfl
          have c3q : w14.cell? ⟨Pq, 3, none⟩ = some (.int .i64 d) := B_q.out.cell 3 rfl
          go_wp2_with fail
          refine hK.out _ _ ?_ (fun hH4x1 => ?_)
          · ((try dsimp only); (repeat' apply And.intro) <;> (first | (with_reducible assumption) | ((repeat (first | (with_reducible refine Eq.trans (cell_drew1 _ _) ?_) | (with_reducible refine Eq.trans (cell_far (by omega) _ _ _) ?_) | (with_reducible refine Eq.trans (World.cell?_alloc_lt _ _ _ (by first | (dsimp only; omega) | (simp only [World.size_alloc, World.size_setCell]; omega))) ?_))); with_reducible assumption) | assumption | go_keep))
          clear hK K hH4x0
          try simp only [Act.put, List.setIfInBounds_toArray, List.set_cons_zero, List.set_cons_succ, List.getElem_toArray, List.getElem_cons_zero, List.getElem_cons_succ]
          refine wpAnyH_take (i := 11) (v := ?hv4x11) rfl (by kernel_rfl) (by kernel_rfl) (by kernel_rfl) (fun _ _ _ h => h) (Or.inl ⟨by kernel_rfl, ?hy4x11⟩) (by assumption) ?hr4x11
          case hy4x11 => (intro w hSw; (try dsimp only at hSw); go_simp <;> with_reducible rfl)
          simp only [Act.put, List.setIfInBounds_toArray, List.set_cons_zero, List.set_cons_succ, List.getElem_toArray, List.getElem_cons_zero, List.getElem_cons_succ]
          refine wpAnyH_take (i := 12) (v := undef) rfl (by kernel_rfl) (by kernel_rfl) (by kernel_rfl) (fun _ _ _ h => h) (Or.inr ⟨by kernel_rfl, rfl⟩) (by assumption) ?_
          simp only [Act.put, List.setIfInBounds_toArray, List.set_cons_zero, List.set_cons_succ, List.getElem_toArray, List.getElem_cons_zero, List.getElem_cons_succ]
          refine wpAnyH_take (i := 13) (v := undef) rfl (by kernel_rfl) (by kernel_rfl) (by kernel_rfl) (fun _ _ _ h => h) (Or.inr ⟨by kernel_rfl, rfl⟩) (by assumption) ?_
          simp only [Act.put, List.setIfInBounds_toArray, List.set_cons_zero, List.set_cons_succ, List.getElem_toArray, List.getElem_cons_zero, List.getElem_cons_succ]
          refine wpAnyH_take (i := 14) (v := undef) rfl (by kernel_rfl) (by kernel_rfl) (by kernel_rfl) (fun _ _ _ h => h) (Or.inr ⟨by kernel_rfl, rfl⟩) (by assumption) ?_
          simp only [Act.put, List.setIfInBounds_toArray, List.set_cons_zero, List.set_cons_succ, List.getElem_toArray, List.getElem_cons_zero, List.getElem_cons_succ]
          refine wpAnyH_take (i := 15) (v := undef) rfl (by kernel_rfl) (by kernel_rfl) (by kernel_rfl) (fun _ _ _ h => h) (Or.inr ⟨by kernel_rfl, rfl⟩) (by assumption) ?_
          simp only [Act.put, List.setIfInBounds_toArray, List.set_cons_zero, List.set_cons_succ, List.getElem_toArray, List.getElem_cons_zero, List.getElem_cons_succ]
          refine wpAnyH_take (i := 16) (v := undef) rfl (by kernel_rfl) (by kernel_rfl) (by kernel_rfl) (fun _ _ _ h => h) (Or.inr ⟨by kernel_rfl, rfl⟩) (by assumption) ?_
          simp only [Act.put, List.setIfInBounds_toArray, List.set_cons_zero, List.set_cons_succ, List.getElem_toArray, List.getElem_cons_zero, List.getElem_cons_succ]
          refine wpAnyH_take (i := 17) (v := undef) rfl (by kernel_rfl) (by kernel_rfl) (by kernel_rfl) (fun _ _ _ h => h) (Or.inr ⟨by kernel_rfl, rfl⟩) (by assumption) ?_
          simp only [Act.put, List.setIfInBounds_toArray, List.set_cons_zero, List.set_cons_succ, List.getElem_toArray, List.getElem_cons_zero, List.getElem_cons_succ]
          refine wpAnyH_take (i := 18) (v := undef) rfl (by kernel_rfl) (by kernel_rfl) (by kernel_rfl) (fun _ _ _ h => h) (Or.inr ⟨by kernel_rfl, rfl⟩) (by assumption) ?_
          simp only [Act.put, List.setIfInBounds_toArray, List.set_cons_zero, List.set_cons_succ, List.getElem_toArray, List.getElem_cons_zero, List.getElem_cons_succ]
          refine wpAnyH_take (i := 19) (v := undef) rfl (by kernel_rfl) (by kernel_rfl) (by kernel_rfl) (fun _ _ _ h => h) (Or.inr ⟨by kernel_rfl, rfl⟩) (by assumption) ?_
          simp only [Act.put, List.setIfInBounds_toArray, List.set_cons_zero, List.set_cons_succ, List.getElem_toArray, List.getElem_cons_zero, List.getElem_cons_succ]
          refine wpAnyH_take (i := 20) (v := undef) rfl (by kernel_rfl) (by kernel_rfl) (by kernel_rfl) (fun _ _ _ h => h) (Or.inr ⟨by kernel_rfl, rfl⟩) (by assumption) ?_
          simp only [Act.put, List.setIfInBounds_toArray, List.set_cons_zero, List.set_cons_succ, List.getElem_toArray, List.getElem_cons_zero, List.getElem_cons_succ]
          refine wpAnyH_take (i := 21) (v := ?hv4x21) rfl (by kernel_rfl) (by kernel_rfl) (by kernel_rfl) (fun _ _ _ h => h) (Or.inl ⟨by kernel_rfl, ?hy4x21⟩) (by assumption) ?hr4x21
          case hy4x21 => (intro w hSw; (try dsimp only at hSw); go_simp <;> with_reducible rfl)
          simp only [Act.put, List.setIfInBounds_toArray, List.set_cons_zero, List.set_cons_succ, List.getElem_toArray, List.getElem_cons_zero, List.getElem_cons_succ]
          refine wpAnyH_done (by kernel_rfl) ?_ _
          clear hH4x1
          clear c6co c7co c0v c1v c2v c0t c1t c0q c1q c2q c3q
          go_wp2
          go_roundw
          case rel => exact ⟨4, by omega, by go_num, mv B_v sm, mv B_t sm, mv B_q sm, mv B_m sm, mv B_co sm, nx HB sm⟩
          case measure => simp only [intOf]; omega
        · obtain rfl : z = true := mm3.out rfl
          clear E0 E1 E2
          clear mm0 mm1 mm2 mm3
          go_wp2_with fail
          obtain ⟨-, -, -, -, -, -, c6co, c7co⟩ := cells8 B_co
          obtain ⟨c0v, c1v, c2v⟩ := cells3 B_v
          obtain ⟨c0t, c1t⟩ := cells2 B_t
          obtain ⟨c0q, c1q, c2q, c3q⟩ := cells4 B_q
          obtain ⟨c0m, c1m, c2m, c3m⟩ := cells4 B_m
          have tk4x0 : True := trivial
          go_region_held3 (fun w' => w'.cell? ⟨WO.heap.size, 6, none⟩ = some (.int .i64 x1) ∧ w'.cell? ⟨WO.heap.size, 7, none⟩ = some (.int .i64 y1) ∧ w'.cell? ⟨w.heap.size, 0, none⟩ = some (.int .i64 x) ∧ w'.cell? ⟨w.heap.size, 1, none⟩ = some (.int .i64 y) ∧ w'.cell? ⟨w.heap.size, 2, none⟩ = some (.int .i64 n) ∧ w'.cell? ⟨w.heap.size + 1 + 1, 0, none⟩ = some (.int .i64 lo) ∧ w'.cell? ⟨w.heap.size + 1 + 1, 1, none⟩ = some (.int .i64 hi) ∧ w'.cell? ⟨Pq, 0, none⟩ = some (.int .i64 a) ∧ w'.cell? ⟨Pq, 1, none⟩ = some (.int .i64 b) ∧ w'.cell? ⟨Pq, 2, none⟩ = some (.int .i64 c) ∧ w'.cell? ⟨Pq, 3, none⟩ = some (.int .i64 d) ∧ w'.cell? ⟨w3.heap.size, 0, none⟩ = some (.int .i64 m0) ∧ w'.cell? ⟨w3.heap.size, 1, none⟩ = some (.int .i64 m1) ∧ w'.cell? ⟨w3.heap.size, 2, none⟩ = some (.int .i64 m2) ∧ w'.cell? ⟨w3.heap.size, 3, none⟩ = some (.int .i64 m3)) (((try dsimp only); (repeat' apply And.intro) <;> (first | (with_reducible assumption) | ((repeat (first | (with_reducible refine Eq.trans (cell_drew1 _ _) ?_) | (with_reducible refine Eq.trans (cell_far (by omega) _ _ _) ?_) | (with_reducible refine Eq.trans (World.cell?_alloc_lt _ _ _ (by first | (dsimp only; omega) | (simp only [World.size_alloc, World.size_setCell]; omega))) ?_))); with_reducible assumption) | assumption | go_keep)))
    (first
      | (clear tk4x0; go_at_call 19; refine (E3.out _).mono ?_; rintro e w15 ⟨rfl, bb⟩; replace bb := nextw (w0 := wr) (by exact sm) bb; replace B_v := mv B_v bb; replace B_t := mv B_t bb; replace B_q := mv B_q bb; replace B_m := mv B_m bb; replace B_co := mv B_co bb; replace HB := nx HB bb; clear bb c6co c7co c0v c1v c2v c0t c1t c0q c1q c2q c3q c0m c1m c2m c3m; have c6co : w15.cell? ⟨WO.heap.size, 6, none⟩ = some (.int .i64 x1) := B_co.out.cell 6 rfl; have c7co : w15.cell? ⟨WO.heap.size, 7, none⟩ = some (.int .i64 y1) := B_co.out.cell 7 rfl; have c0v : w15.cell? ⟨w.heap.size, 0, none⟩ = some (.int .i64 x) := B_v.out.cell 0 rfl; have c1v : w15.cell? ⟨w.heap.size, 1, none⟩ = some (.int .i64 y) := B_v.out.cell 1 rfl; have c2v : w15.cell? ⟨w.heap.size, 2, none⟩ = some (.int .i64 n) := B_v.out.cell 2 rfl; have c0t : w15.cell? ⟨w.heap.size + 1 + 1, 0, none⟩ = some (.int .i64 lo) := B_t.out.cell 0 rfl; have c1t : w15.cell? ⟨w.heap.size + 1 + 1, 1, none⟩ = some (.int .i64 hi) := B_t.out.cell 1 rfl; have c0q : w15.cell? ⟨Pq, 0, none⟩ = some (.int .i64 a) := B_q.out.cell 0 rfl; have c1q : w15.cell? ⟨Pq, 1, none⟩ = some (.int .i64 b) := B_q.out.cell 1 rfl; have c2q : w15.cell? ⟨Pq, 2, none⟩ = some (.int .i64 c) := B_q.out.cell 2 rfl; have c3q : w15.cell? ⟨Pq, 3, none⟩ = some (.int .i64 d) := B_q.out.cell 3 rfl; have c0m : w15.cell? ⟨w3.heap.size, 0, none⟩ = some (.int .i64 m0) := B_m.out.cell 0 rfl; have c1m : w15.cell? ⟨w3.heap.size, 1, none⟩ = some (.int .i64 m1) := B_m.out.cell 1 rfl; have c2m : w15.cell? ⟨w3.heap.size, 2, none⟩ = some (.int .i64 m2) := B_m.out.cell 2 rfl; have c3m : w15.cell? ⟨w3.heap.size, 3, none⟩ = some (.int .i64 m3) := B_m.out.cell 3 rfl; have tk4x1 : True := trivial)
      | (clear tk4x1; go_at_call 19; refine (EZ.out _).mono ?_; rintro e w16 ⟨rfl, bb⟩; replace bb := nextw (w0 := w15) (by exact sm) bb; replace B_v := mv B_v bb; replace B_t := mv B_t bb; replace B_q := mv B_q bb; replace B_m := mv B_m bb; replace B_co := mv B_co bb; replace HB := nx HB bb; clear bb c6co c7co c0v c1v c2v c0t c1t c0q c1q c2q c3q c0m c1m c2m c3m; have c6co : w16.cell? ⟨WO.heap.size, 6, none⟩ = some (.int .i64 x1) := B_co.out.cell 6 rfl; have c7co : w16.cell? ⟨WO.heap.size, 7, none⟩ = some (.int .i64 y1) := B_co.out.cell 7 rfl; have c0v : w16.cell? ⟨w.heap.size, 0, none⟩ = some (.int .i64 x) := B_v.out.cell 0 rfl; have c1v : w16.cell? ⟨w.heap.size, 1, none⟩ = some (.int .i64 y) := B_v.out.cell 1 rfl; have c2v : w16.cell? ⟨w.heap.size, 2, none⟩ = some (.int .i64 n) := B_v.out.cell 2 rfl; have c0t : w16.cell? ⟨w.heap.size + 1 + 1, 0, none⟩ = some (.int .i64 lo) := B_t.out.cell 0 rfl; have c1t : w16.cell? ⟨w.heap.size + 1 + 1, 1, none⟩ = some (.int .i64 hi) := B_t.out.cell 1 rfl; have c0q : w16.cell? ⟨Pq, 0, none⟩ = some (.int .i64 a) := B_q.out.cell 0 rfl; have c1q : w16.cell? ⟨Pq, 1, none⟩ = some (.int .i64 b) := B_q.out.cell 1 rfl; have c2q : w16.cell? ⟨Pq, 2, none⟩ = some (.int .i64 c) := B_q.out.cell 2 rfl; have c3q : w16.cell? ⟨Pq, 3, none⟩ = some (.int .i64 d) := B_q.out.cell 3 rfl; have c0m : w16.cell? ⟨w3.heap.size, 0, none⟩ = some (.int .i64 m0) := B_m.out.cell 0 rfl; have c1m : w16.cell? ⟨w3.heap.size, 1, none⟩ = some (.int .i64 m1) := B_m.out.cell 1 rfl; have c2m : w16.cell? ⟨w3.heap.size, 2, none⟩ = some (.int .i64 m2) := B_m.out.cell 2 rfl; have c3m : w16.cell? ⟨w3.heap.size, 3, none⟩ = some (.int .i64 m3) := B_m.out.cell 3 rfl; have tk4x2 : True := trivial))
          clear c6co c7co c0v c1v c2v c0t c1t c0q c1q c2q c3q c0m c1m c2m c3m
          go_wp2
          go_roundw
          case rel => exact ⟨4, by omega, by go_num, mv B_v sm, mv B_t sm, mv B_q sm, mv B_m sm, mv B_co sm, nx HB sm⟩
          case measure => simp only [intOf]; omega
      · skip
        go_wp2
        go_ret
        exact ⟨rfl, nextw HB.out (by exact sm)⟩

theorem Minuses_any (x y n a b c d x0 y0 x1 y1 lo hi : Int) (w : World) : Calls Try.prog 7 #[.agg #[.int .i64 x, .int .i64 y, .int .i64 n], .agg #[.int .i64 a, .int .i64 b, .int .i64 c, .int .i64 d, .int .i64 x0, .int .i64 y0, .int .i64 x1, .int .i64 y1], .agg #[.int .i64 lo, .int .i64 hi]] w fun e w' => e = .returned (.bool true) ∧ Below w.heap.size w w' := by
  by_cases hq : OkR a b c d
  · by_cases hr : OkR x0 y0 x1 y1
    · by_cases hm : OkR (a - x1) (b - y1) (c - x0) (d - y0)
      · exact Minuses_ok x y n a b c d x0 y0 x1 y1 lo hi hq hr hm w
      · exact Minuses_2 x y n a b c d x0 y0 x1 y1 lo hi hq hr hm w
    · exact Minuses_1 x y n a b c d x0 y0 x1 y1 lo hi hq hr w
  · exact Minuses_0 x y n a b c d x0 y0 x1 y1 lo hi hq w
end Go.Proofs.Ytaflgmiagjldhaa
