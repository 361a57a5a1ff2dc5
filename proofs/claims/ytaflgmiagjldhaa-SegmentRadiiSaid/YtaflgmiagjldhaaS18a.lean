/- The law SegmentRadii: arguments that are not valid. -/
import Derived.Test.YtaflgmiagjldhaaS17
set_option linter.unusedVariables false
set_option linter.unusedSimpArgs false
namespace Go.Proofs.Ytaflgmiagjldhaa
open Go Go.RowKit Hd

set_option maxRecDepth 100000 in
set_option maxHeartbeats 8000000 in
theorem Radii_r (a b c d x0 y0 x1 y1 n : Int) (n0 : 0 ≤ n) (n1 : n ≤ 65535) (hr : ¬ OkR x0 y0 x1 y1) (w : World) :
    Calls Try.prog 11 #[.agg #[.int .i64 a, .int .i64 b, .int .i64 c, .int .i64 d], .agg #[.int .i64 x0, .int .i64 y0, .int .i64 x1, .int .i64 y1], .int .u16 n] w fun e w' => e = .returned (.bool true) ∧ Below w.heap.size w w' := by
  have HA := Lib.hid (fun w => awake_any w)
  have k0 : 0 ≤ n % 1024 := by omega
  have k1 : n % 1024 ≤ 1023 := by omega
  have T1 := Lib.hid (fun w => Touch_any a b c d x0 y0 x1 y1 (n % 1024) w)
  have T2 := Lib.hid (fun w => Touch_any a b c d x0 y0 x1 y1 ((n % 1024) + 1) w)
  have T3 := Lib.hid (fun w => Touch_any c d a b x0 y0 x1 y1 (n % 1024) w)
  rw [tk_flip] at T3
  rw [decide_eq_false (fun h : TK a b c d x0 y0 x1 y1 (n % 1024) ∧ To a b c d x0 y0 x1 y1 (n % 1024) => hr h.1.r)] at T1
  rw [decide_eq_false (fun h : TK a b c d x0 y0 x1 y1 ((n % 1024) + 1) ∧ To a b c d x0 y0 x1 y1 ((n % 1024) + 1) => hr h.1.r)] at T2
  rw [decide_eq_false (fun h : TK a b c d x0 y0 x1 y1 (n % 1024) ∧ To a b c d x0 y0 x1 y1 (n % 1024) => hr h.1.r)] at T3
  have HV := Lib.hid (fun w => ValidRect_f hr w)
  clear hr
  skip
  obtain ⟨HB, B_l, B_r⟩ := box2 w 41 #[.int .i64 a, .int .i64 b, .int .i64 c, .int .i64 d] 29 #[.int .i64 x0, .int .i64 y0, .int .i64 x1, .int .i64 y1]
  go_enter Try.func11, Try.ntmps11
  go_wp2_with fail
  generalize (w.alloc (.cells #[.int .i64 a, .int .i64 b, .int .i64 c, .int .i64 d] 41)).alloc (.cells #[.int .i64 x0, .int .i64 y0, .int .i64 x1, .int .i64 y1] 29) = W0 at *
  refine (HA.out _).mono ?_
  rintro e w1 ⟨rfl, bb⟩
  replace bb := nextw (w0 := W0) (by exact sm) bb
  replace B_l := mv B_l bb
  replace B_r := mv B_r bb
  replace HB := nx HB bb
  clear bb
  go_upto_region 4 with (fail)
  generalize n % 1024 = k at *
  have ek : IntKind.i64.wrap (k + 1) = k + 1 := by rw [IntKind.wrap_i64]; omega
  replace ek := Lib.hid ek
  go_cut [8, 9] (fun sA sB wx => ∃ Pp Pq : Nat, sA = (.pointer (some ⟨Pp, 0, none⟩)) ∧ sB = (.pointer (some ⟨Pq, 0, none⟩)) ∧ Hid (Pp ≠ Pq) ∧ Hid (w.heap.size ≤ Pp) ∧ Hid (w.heap.size ≤ Pq) ∧ Hid (Bx wx (Pp) 23 #[.int .i64 a, .int .i64 b]) ∧ Hid (Bx wx (Pq) 23 #[.int .i64 c, .int .i64 d]) ∧ Hid (Bx wx (w.heap.size) 41 #[.int .i64 a, .int .i64 b, .int .i64 c, .int .i64 d]) ∧ Hid (Bx wx (w.heap.size + 1) 29 #[.int .i64 x0, .int .i64 y0, .int .i64 x1, .int .i64 y1]) ∧ Hid (Below w.heap.size w wx))
  case first =>
    obtain ⟨c0l, c1l, c2l, c3l⟩ := cells4 B_l
    go_region_held3 (fun w' => w'.cell? ⟨w.heap.size, 0, none⟩ = some (.int .i64 a) ∧ w'.cell? ⟨w.heap.size, 1, none⟩ = some (.int .i64 b) ∧ w'.cell? ⟨w.heap.size, 2, none⟩ = some (.int .i64 c) ∧ w'.cell? ⟨w.heap.size, 3, none⟩ = some (.int .i64 d)) (((try dsimp only); (repeat' apply And.intro) <;> (first | (with_reducible assumption) | ((repeat (first | (with_reducible refine Eq.trans (cell_drew1 _ _) ?_) | (with_reducible refine Eq.trans (cell_far (by omega) _ _ _) ?_) | (with_reducible refine Eq.trans (World.cell?_alloc_lt _ _ _ (by first | (dsimp only; omega) | (simp only [World.size_alloc, World.size_setCell]; omega))) ?_))); with_reducible assumption) | assumption | go_keep)))
        (first | fail)
    all_goals clear c0l c1l c2l c3l
    all_goals go_wp2_with fail
    all_goals go_meet
    all_goals first | (obtain ⟨bb, b0, b1⟩ := box2 w1 23 #[.int .i64 a, .int .i64 b] 23 #[.int .i64 c, .int .i64 d]; replace bb := bb.out; have hs := HB.out.size; exact ⟨w1.heap.size, w1.heap.size + 1, rfl, rfl, (by unfold Hid; omega), (by unfold Hid; omega), (by unfold Hid; omega), mv b0 sm, mv b1 sm, mv (mv B_l bb) sm, mv (mv B_r bb) sm, nx (nx HB bb) sm⟩) | (obtain ⟨bb, b0, b1⟩ := box2 w1 23 #[.int .i64 c, .int .i64 d] 23 #[.int .i64 a, .int .i64 b]; replace bb := bb.out; have hs := HB.out.size; exact ⟨w1.heap.size + 1, w1.heap.size, rfl, rfl, (by unfold Hid; omega), (by unfold Hid; omega), (by unfold Hid; omega), mv b1 sm, mv b0 sm, mv (mv B_l bb) sm, mv (mv B_r bb) sm, nx (nx HB bb) sm⟩)
  case rest =>
    clear B_l
    clear B_r
    clear HB
    rename World => wc2
    obtain ⟨Pp, Pq, rfl, rfl, nePp, lePp, lePq, B_p, B_q, B_l, B_r, HB⟩ := hcut
    clear B_l
    go_upto_region 5 with (fail)
    have ek' := ek.out
    obtain ⟨c0p, c1p⟩ := cells2 B_p
    obtain ⟨c0q, c1q⟩ := cells2 B_q
    obtain ⟨c0r, c1r, c2r, c3r⟩ := cells4 B_r
    have tk1x0 : True := trivial
    go_region_held3 (fun w' => w'.cell? ⟨Pp, 0, none⟩ = some (.int .i64 a) ∧ w'.cell? ⟨Pp, 1, none⟩ = some (.int .i64 b) ∧ w'.cell? ⟨Pq, 0, none⟩ = some (.int .i64 c) ∧ w'.cell? ⟨Pq, 1, none⟩ = some (.int .i64 d) ∧ w'.cell? ⟨w.heap.size + 1, 0, none⟩ = some (.int .i64 x0) ∧ w'.cell? ⟨w.heap.size + 1, 1, none⟩ = some (.int .i64 y0) ∧ w'.cell? ⟨w.heap.size + 1, 2, none⟩ = some (.int .i64 x1) ∧ w'.cell? ⟨w.heap.size + 1, 3, none⟩ = some (.int .i64 y1)) (((try dsimp only); (repeat' apply And.intro) <;> (first | (with_reducible assumption) | ((repeat (first | (with_reducible refine Eq.trans (cell_drew1 _ _) ?_) | (with_reducible refine Eq.trans (cell_far (by omega) _ _ _) ?_) | (with_reducible refine Eq.trans (World.cell?_alloc_lt _ _ _ (by first | (dsimp only; omega) | (simp only [World.size_alloc, World.size_setCell]; omega))) ?_))); with_reducible assumption) | assumption | go_keep)))
    (first
      | (clear tk1x0; go_at_call 25; refine (T1.out _).mono ?_; rintro e w3 ⟨rfl, bb⟩; replace bb := nextw (w0 := wc2) (by exact sm) bb; replace B_r := mv B_r bb; replace B_p := mv B_p bb; replace B_q := mv B_q bb; replace HB := nx HB bb; clear bb c0p c1p c0q c1q c0r c1r c2r c3r; have c0p : w3.cell? ⟨Pp, 0, none⟩ = some (.int .i64 a) := B_p.out.cell 0 rfl; have c1p : w3.cell? ⟨Pp, 1, none⟩ = some (.int .i64 b) := B_p.out.cell 1 rfl; have c0q : w3.cell? ⟨Pq, 0, none⟩ = some (.int .i64 c) := B_q.out.cell 0 rfl; have c1q : w3.cell? ⟨Pq, 1, none⟩ = some (.int .i64 d) := B_q.out.cell 1 rfl; have c0r : w3.cell? ⟨w.heap.size + 1, 0, none⟩ = some (.int .i64 x0) := B_r.out.cell 0 rfl; have c1r : w3.cell? ⟨w.heap.size + 1, 1, none⟩ = some (.int .i64 y0) := B_r.out.cell 1 rfl; have c2r : w3.cell? ⟨w.heap.size + 1, 2, none⟩ = some (.int .i64 x1) := B_r.out.cell 2 rfl; have c3r : w3.cell? ⟨w.heap.size + 1, 3, none⟩ = some (.int .i64 y1) := B_r.out.cell 3 rfl; have tk1x1 : True := trivial)
      | (clear tk1x1; go_at_call 25; refine (T2.out _).mono ?_; rintro e w4 ⟨rfl, bb⟩; replace bb := nextw (w0 := w3) (by exact sm) bb; replace B_r := mv B_r bb; replace B_p := mv B_p bb; replace B_q := mv B_q bb; replace HB := nx HB bb; clear bb c0p c1p c0q c1q c0r c1r c2r c3r; have c0p : w4.cell? ⟨Pp, 0, none⟩ = some (.int .i64 a) := B_p.out.cell 0 rfl; have c1p : w4.cell? ⟨Pp, 1, none⟩ = some (.int .i64 b) := B_p.out.cell 1 rfl; have c0q : w4.cell? ⟨Pq, 0, none⟩ = some (.int .i64 c) := B_q.out.cell 0 rfl; have c1q : w4.cell? ⟨Pq, 1, none⟩ = some (.int .i64 d) := B_q.out.cell 1 rfl; have c0r : w4.cell? ⟨w.heap.size + 1, 0, none⟩ = some (.int .i64 x0) := B_r.out.cell 0 rfl; have c1r : w4.cell? ⟨w.heap.size + 1, 1, none⟩ = some (.int .i64 y0) := B_r.out.cell 1 rfl; have c2r : w4.cell? ⟨w.heap.size + 1, 2, none⟩ = some (.int .i64 x1) := B_r.out.cell 2 rfl; have c3r : w4.cell? ⟨w.heap.size + 1, 3, none⟩ = some (.int .i64 y1) := B_r.out.cell 3 rfl; have tk1x2 : True := trivial))
    clear c0p c1p c0q c1q c0r c1r c2r c3r
    clear ek ek' T1 T2
    obtain ⟨c0p, c1p⟩ := cells2 B_p
    obtain ⟨c0q, c1q⟩ := cells2 B_q
    obtain ⟨c0r, c1r, c2r, c3r⟩ := cells4 B_r
    go_wp2_with fail
    refine (T3.out _).mono ?_
    clear c0p c1p c0q c1q c0r c1r c2r c3r
    rintro e w5 ⟨rfl, bb⟩
    replace bb := nextw (w0 := w4) (by exact sm) bb
    replace B_r := mv B_r bb
    replace B_p := mv B_p bb
    replace B_q := mv B_q bb
    replace HB := nx HB bb
    clear bb
    clear T3
    go_upto_region 8 with (fail)
    obtain ⟨c0r, c1r, c2r, c3r⟩ := cells4 B_r
    go_wp2_with fail
    refine (HV.out _).mono ?_
    clear c0r c1r c2r c3r
    rintro e w6 ⟨rfl, bb⟩
    replace bb := nextw (w0 := w5) (by exact sm) bb
    replace B_r := mv B_r bb
    replace B_p := mv B_p bb
    replace B_q := mv B_q bb
    replace HB := nx HB bb
    clear bb
    go_wp2
    go_ret
    exact ⟨rfl, nextw HB.out (by exact sm)⟩

set_option maxRecDepth 100000 in
set_option maxHeartbeats 8000000 in
theorem Radii_a (a b c d x0 y0 x1 y1 n : Int) (n0 : 0 ≤ n) (n1 : n ≤ 65535) (hr : OkR x0 y0 x1 y1) (ha : ¬ OkC a) (w : World) :
    Calls Try.prog 11 #[.agg #[.int .i64 a, .int .i64 b, .int .i64 c, .int .i64 d], .agg #[.int .i64 x0, .int .i64 y0, .int .i64 x1, .int .i64 y1], .int .u16 n] w fun e w' => e = .returned (.bool true) ∧ Below w.heap.size w w' := by
  have HA := Lib.hid (fun w => awake_any w)
  have k0 : 0 ≤ n % 1024 := by omega
  have k1 : n % 1024 ≤ 1023 := by omega
  have T1 := Lib.hid (fun w => Touch_any a b c d x0 y0 x1 y1 (n % 1024) w)
  have T2 := Lib.hid (fun w => Touch_any a b c d x0 y0 x1 y1 ((n % 1024) + 1) w)
  have T3 := Lib.hid (fun w => Touch_any c d a b x0 y0 x1 y1 (n % 1024) w)
  rw [tk_flip] at T3
  rw [decide_eq_false (fun h : TK a b c d x0 y0 x1 y1 (n % 1024) ∧ To a b c d x0 y0 x1 y1 (n % 1024) => ha ⟨h.1.p.x1, h.1.p.x2⟩)] at T1
  rw [decide_eq_false (fun h : TK a b c d x0 y0 x1 y1 ((n % 1024) + 1) ∧ To a b c d x0 y0 x1 y1 ((n % 1024) + 1) => ha ⟨h.1.p.x1, h.1.p.x2⟩)] at T2
  rw [decide_eq_false (fun h : TK a b c d x0 y0 x1 y1 (n % 1024) ∧ To a b c d x0 y0 x1 y1 (n % 1024) => ha ⟨h.1.p.x1, h.1.p.x2⟩)] at T3
  have HV := Lib.hid (fun w => ValidRect_t hr w)
  have S0 := Lib.hid (fun w => SizeL_f ha w)
  clear hr ha
  skip
  obtain ⟨HB, B_l, B_r⟩ := box2 w 41 #[.int .i64 a, .int .i64 b, .int .i64 c, .int .i64 d] 29 #[.int .i64 x0, .int .i64 y0, .int .i64 x1, .int .i64 y1]
  go_enter Try.func11, Try.ntmps11
  go_wp2_with fail
  generalize (w.alloc (.cells #[.int .i64 a, .int .i64 b, .int .i64 c, .int .i64 d] 41)).alloc (.cells #[.int .i64 x0, .int .i64 y0, .int .i64 x1, .int .i64 y1] 29) = W0 at *
  refine (HA.out _).mono ?_
  rintro e w1 ⟨rfl, bb⟩
  replace bb := nextw (w0 := W0) (by exact sm) bb
  replace B_l := mv B_l bb
  replace B_r := mv B_r bb
  replace HB := nx HB bb
  clear bb
  go_upto_region 4 with (fail)
  generalize n % 1024 = k at *
  have ek : IntKind.i64.wrap (k + 1) = k + 1 := by rw [IntKind.wrap_i64]; omega
  replace ek := Lib.hid ek
  go_cut [8, 9] (fun sA sB wx => ∃ Pp Pq : Nat, sA = (.pointer (some ⟨Pp, 0, none⟩)) ∧ sB = (.pointer (some ⟨Pq, 0, none⟩)) ∧ Hid (Pp ≠ Pq) ∧ Hid (w.heap.size ≤ Pp) ∧ Hid (w.heap.size ≤ Pq) ∧ Hid (Bx wx (Pp) 23 #[.int .i64 a, .int .i64 b]) ∧ Hid (Bx wx (Pq) 23 #[.int .i64 c, .int .i64 d]) ∧ Hid (Bx wx (w.heap.size) 41 #[.int .i64 a, .int .i64 b, .int .i64 c, .int .i64 d]) ∧ Hid (Bx wx (w.heap.size + 1) 29 #[.int .i64 x0, .int .i64 y0, .int .i64 x1, .int .i64 y1]) ∧ Hid (Below w.heap.size w wx))
  case first =>
    obtain ⟨c0l, c1l, c2l, c3l⟩ := cells4 B_l
    go_region_held3 (fun w' => w'.cell? ⟨w.heap.size, 0, none⟩ = some (.int .i64 a) ∧ w'.cell? ⟨w.heap.size, 1, none⟩ = some (.int .i64 b) ∧ w'.cell? ⟨w.heap.size, 2, none⟩ = some (.int .i64 c) ∧ w'.cell? ⟨w.heap.size, 3, none⟩ = some (.int .i64 d)) (((try dsimp only); (repeat' apply And.intro) <;> (first | (with_reducible assumption) | ((repeat (first | (with_reducible refine Eq.trans (cell_drew1 _ _) ?_) | (with_reducible refine Eq.trans (cell_far (by omega) _ _ _) ?_) | (with_reducible refine Eq.trans (World.cell?_alloc_lt _ _ _ (by first | (dsimp only; omega) | (simp only [World.size_alloc, World.size_setCell]; omega))) ?_))); with_reducible assumption) | assumption | go_keep)))
        (first | fail)
    all_goals clear c0l c1l c2l c3l
    all_goals go_wp2_with fail
    all_goals go_meet
    all_goals first | (obtain ⟨bb, b0, b1⟩ := box2 w1 23 #[.int .i64 a, .int .i64 b] 23 #[.int .i64 c, .int .i64 d]; replace bb := bb.out; have hs := HB.out.size; exact ⟨w1.heap.size, w1.heap.size + 1, rfl, rfl, (by unfold Hid; omega), (by unfold Hid; omega), (by unfold Hid; omega), mv b0 sm, mv b1 sm, mv (mv B_l bb) sm, mv (mv B_r bb) sm, nx (nx HB bb) sm⟩) | (obtain ⟨bb, b0, b1⟩ := box2 w1 23 #[.int .i64 c, .int .i64 d] 23 #[.int .i64 a, .int .i64 b]; replace bb := bb.out; have hs := HB.out.size; exact ⟨w1.heap.size + 1, w1.heap.size, rfl, rfl, (by unfold Hid; omega), (by unfold Hid; omega), (by unfold Hid; omega), mv b1 sm, mv b0 sm, mv (mv B_l bb) sm, mv (mv B_r bb) sm, nx (nx HB bb) sm⟩)
  case rest =>
    clear B_l
    clear B_r
    clear HB
    rename World => wc2
    obtain ⟨Pp, Pq, rfl, rfl, nePp, lePp, lePq, B_p, B_q, B_l, B_r, HB⟩ := hcut
    clear B_l
    go_upto_region 5 with (fail)
    have ek' := ek.out
    obtain ⟨c0p, c1p⟩ := cells2 B_p
    obtain ⟨c0q, c1q⟩ := cells2 B_q
    obtain ⟨c0r, c1r, c2r, c3r⟩ := cells4 B_r
    have tk1x0 : True := trivial
    go_region_held3 (fun w' => w'.cell? ⟨Pp, 0, none⟩ = some (.int .i64 a) ∧ w'.cell? ⟨Pp, 1, none⟩ = some (.int .i64 b) ∧ w'.cell? ⟨Pq, 0, none⟩ = some (.int .i64 c) ∧ w'.cell? ⟨Pq, 1, none⟩ = some (.int .i64 d) ∧ w'.cell? ⟨w.heap.size + 1, 0, none⟩ = some (.int .i64 x0) ∧ w'.cell? ⟨w.heap.size + 1, 1, none⟩ = some (.int .i64 y0) ∧ w'.cell? ⟨w.heap.size + 1, 2, none⟩ = some (.int .i64 x1) ∧ w'.cell? ⟨w.heap.size + 1, 3, none⟩ = some (.int .i64 y1)) (((try dsimp only); (repeat' apply And.intro) <;> (first | (with_reducible assumption) | ((repeat (first | (with_reducible refine Eq.trans (cell_drew1 _ _) ?_) | (with_reducible refine Eq.trans (cell_far (by omega) _ _ _) ?_) | (with_reducible refine Eq.trans (World.cell?_alloc_lt _ _ _ (by first | (dsimp only; omega) | (simp only [World.size_alloc, World.size_setCell]; omega))) ?_))); with_reducible assumption) | assumption | go_keep)))
    (first
      | (clear tk1x0; go_at_call 25; refine (T1.out _).mono ?_; rintro e w3 ⟨rfl, bb⟩; replace bb := nextw (w0 := wc2) (by exact sm) bb; replace B_r := mv B_r bb; replace B_p := mv B_p bb; replace B_q := mv B_q bb; replace HB := nx HB bb; clear bb c0p c1p c0q c1q c0r c1r c2r c3r; have c0p : w3.cell? ⟨Pp, 0, none⟩ = some (.int .i64 a) := B_p.out.cell 0 rfl; have c1p : w3.cell? ⟨Pp, 1, none⟩ = some (.int .i64 b) := B_p.out.cell 1 rfl; have c0q : w3.cell? ⟨Pq, 0, none⟩ = some (.int .i64 c) := B_q.out.cell 0 rfl; have c1q : w3.cell? ⟨Pq, 1, none⟩ = some (.int .i64 d) := B_q.out.cell 1 rfl; have c0r : w3.cell? ⟨w.heap.size + 1, 0, none⟩ = some (.int .i64 x0) := B_r.out.cell 0 rfl; have c1r : w3.cell? ⟨w.heap.size + 1, 1, none⟩ = some (.int .i64 y0) := B_r.out.cell 1 rfl; have c2r : w3.cell? ⟨w.heap.size + 1, 2, none⟩ = some (.int .i64 x1) := B_r.out.cell 2 rfl; have c3r : w3.cell? ⟨w.heap.size + 1, 3, none⟩ = some (.int .i64 y1) := B_r.out.cell 3 rfl; have tk1x1 : True := trivial)
      | (clear tk1x1; go_at_call 25; refine (T2.out _).mono ?_; rintro e w4 ⟨rfl, bb⟩; replace bb := nextw (w0 := w3) (by exact sm) bb; replace B_r := mv B_r bb; replace B_p := mv B_p bb; replace B_q := mv B_q bb; replace HB := nx HB bb; clear bb c0p c1p c0q c1q c0r c1r c2r c3r; have c0p : w4.cell? ⟨Pp, 0, none⟩ = some (.int .i64 a) := B_p.out.cell 0 rfl; have c1p : w4.cell? ⟨Pp, 1, none⟩ = some (.int .i64 b) := B_p.out.cell 1 rfl; have c0q : w4.cell? ⟨Pq, 0, none⟩ = some (.int .i64 c) := B_q.out.cell 0 rfl; have c1q : w4.cell? ⟨Pq, 1, none⟩ = some (.int .i64 d) := B_q.out.cell 1 rfl; have c0r : w4.cell? ⟨w.heap.size + 1, 0, none⟩ = some (.int .i64 x0) := B_r.out.cell 0 rfl; have c1r : w4.cell? ⟨w.heap.size + 1, 1, none⟩ = some (.int .i64 y0) := B_r.out.cell 1 rfl; have c2r : w4.cell? ⟨w.heap.size + 1, 2, none⟩ = some (.int .i64 x1) := B_r.out.cell 2 rfl; have c3r : w4.cell? ⟨w.heap.size + 1, 3, none⟩ = some (.int .i64 y1) := B_r.out.cell 3 rfl; have tk1x2 : True := trivial))
    clear c0p c1p c0q c1q c0r c1r c2r c3r
    clear ek ek' T1 T2
    obtain ⟨c0p, c1p⟩ := cells2 B_p
    obtain ⟨c0q, c1q⟩ := cells2 B_q
    obtain ⟨c0r, c1r, c2r, c3r⟩ := cells4 B_r
    go_wp2_with fail
    refine (T3.out _).mono ?_
    clear c0p c1p c0q c1q c0r c1r c2r c3r
    rintro e w5 ⟨rfl, bb⟩
    replace bb := nextw (w0 := w4) (by exact sm) bb
    replace B_r := mv B_r bb
    replace B_p := mv B_p bb
    replace B_q := mv B_q bb
    replace HB := nx HB bb
    clear bb
    clear T3
    go_upto_region 8 with (fail)
    obtain ⟨c0r, c1r, c2r, c3r⟩ := cells4 B_r
    go_wp2_with fail
    refine (HV.out _).mono ?_
    clear c0r c1r c2r c3r
    rintro e w6 ⟨rfl, bb⟩
    replace bb := nextw (w0 := w5) (by exact sm) bb
    replace B_r := mv B_r bb
    replace B_p := mv B_p bb
    replace B_q := mv B_q bb
    replace HB := nx HB bb
    clear bb
    obtain ⟨c0p, c1p⟩ := cells2 B_p
    go_wp2_with fail
    refine (S0.out _).mono ?_
    rintro e w7 ⟨rfl, rfl⟩
    go_wp2
    go_ret
    exact ⟨rfl, nextw HB.out (by exact sm)⟩

set_option maxRecDepth 100000 in
set_option maxHeartbeats 8000000 in
theorem Radii_b (a b c d x0 y0 x1 y1 n : Int) (n0 : 0 ≤ n) (n1 : n ≤ 65535) (hr : OkR x0 y0 x1 y1) (ha : OkC a) (hb : ¬ OkC b) (w : World) :
    Calls Try.prog 11 #[.agg #[.int .i64 a, .int .i64 b, .int .i64 c, .int .i64 d], .agg #[.int .i64 x0, .int .i64 y0, .int .i64 x1, .int .i64 y1], .int .u16 n] w fun e w' => e = .returned (.bool true) ∧ Below w.heap.size w w' := by
  have HA := Lib.hid (fun w => awake_any w)
  have k0 : 0 ≤ n % 1024 := by omega
  have k1 : n % 1024 ≤ 1023 := by omega
  have T1 := Lib.hid (fun w => Touch_any a b c d x0 y0 x1 y1 (n % 1024) w)
  have T2 := Lib.hid (fun w => Touch_any a b c d x0 y0 x1 y1 ((n % 1024) + 1) w)
  have T3 := Lib.hid (fun w => Touch_any c d a b x0 y0 x1 y1 (n % 1024) w)
  rw [tk_flip] at T3
  rw [decide_eq_false (fun h : TK a b c d x0 y0 x1 y1 (n % 1024) ∧ To a b c d x0 y0 x1 y1 (n % 1024) => hb ⟨h.1.p.y1, h.1.p.y2⟩)] at T1
  rw [decide_eq_false (fun h : TK a b c d x0 y0 x1 y1 ((n % 1024) + 1) ∧ To a b c d x0 y0 x1 y1 ((n % 1024) + 1) => hb ⟨h.1.p.y1, h.1.p.y2⟩)] at T2
  rw [decide_eq_false (fun h : TK a b c d x0 y0 x1 y1 (n % 1024) ∧ To a b c d x0 y0 x1 y1 (n % 1024) => hb ⟨h.1.p.y1, h.1.p.y2⟩)] at T3
  have HV := Lib.hid (fun w => ValidRect_t hr w)
  have S0 := Lib.hid (fun w => SizeL_t ha w)
  have S1 := Lib.hid (fun w => SizeL_f hb w)
  clear hr ha hb
  skip
  obtain ⟨HB, B_l, B_r⟩ := box2 w 41 #[.int .i64 a, .int .i64 b, .int .i64 c, .int .i64 d] 29 #[.int .i64 x0, .int .i64 y0, .int .i64 x1, .int .i64 y1]
  go_enter Try.func11, Try.ntmps11
  go_wp2_with fail
  generalize (w.alloc (.cells #[.int .i64 a, .int .i64 b, .int .i64 c, .int .i64 d] 41)).alloc (.cells #[.int .i64 x0, .int .i64 y0, .int .i64 x1, .int .i64 y1] 29) = W0 at *
  refine (HA.out _).mono ?_
  rintro e w1 ⟨rfl, bb⟩
  replace bb := nextw (w0 := W0) (by exact sm) bb
  replace B_l := mv B_l bb
  replace B_r := mv B_r bb
  replace HB := nx HB bb
  clear bb
  go_upto_region 4 with (fail)
  generalize n % 1024 = k at *
  have ek : IntKind.i64.wrap (k + 1) = k + 1 := by rw [IntKind.wrap_i64]; omega
  replace ek := Lib.hid ek
  go_cut [8, 9] (fun sA sB wx => ∃ Pp Pq : Nat, sA = (.pointer (some ⟨Pp, 0, none⟩)) ∧ sB = (.pointer (some ⟨Pq, 0, none⟩)) ∧ Hid (Pp ≠ Pq) ∧ Hid (w.heap.size ≤ Pp) ∧ Hid (w.heap.size ≤ Pq) ∧ Hid (Bx wx (Pp) 23 #[.int .i64 a, .int .i64 b]) ∧ Hid (Bx wx (Pq) 23 #[.int .i64 c, .int .i64 d]) ∧ Hid (Bx wx (w.heap.size) 41 #[.int .i64 a, .int .i64 b, .int .i64 c, .int .i64 d]) ∧ Hid (Bx wx (w.heap.size + 1) 29 #[.int .i64 x0, .int .i64 y0, .int .i64 x1, .int .i64 y1]) ∧ Hid (Below w.heap.size w wx))
  case first =>
    obtain ⟨c0l, c1l, c2l, c3l⟩ := cells4 B_l
    go_region_held3 (fun w' => w'.cell? ⟨w.heap.size, 0, none⟩ = some (.int .i64 a) ∧ w'.cell? ⟨w.heap.size, 1, none⟩ = some (.int .i64 b) ∧ w'.cell? ⟨w.heap.size, 2, none⟩ = some (.int .i64 c) ∧ w'.cell? ⟨w.heap.size, 3, none⟩ = some (.int .i64 d)) (((try dsimp only); (repeat' apply And.intro) <;> (first | (with_reducible assumption) | ((repeat (first | (with_reducible refine Eq.trans (cell_drew1 _ _) ?_) | (with_reducible refine Eq.trans (cell_far (by omega) _ _ _) ?_) | (with_reducible refine Eq.trans (World.cell?_alloc_lt _ _ _ (by first | (dsimp only; omega) | (simp only [World.size_alloc, World.size_setCell]; omega))) ?_))); with_reducible assumption) | assumption | go_keep)))
        (first | fail)
    all_goals clear c0l c1l c2l c3l
    all_goals go_wp2_with fail
    all_goals go_meet
    all_goals first | (obtain ⟨bb, b0, b1⟩ := box2 w1 23 #[.int .i64 a, .int .i64 b] 23 #[.int .i64 c, .int .i64 d]; replace bb := bb.out; have hs := HB.out.size; exact ⟨w1.heap.size, w1.heap.size + 1, rfl, rfl, (by unfold Hid; omega), (by unfold Hid; omega), (by unfold Hid; omega), mv b0 sm, mv b1 sm, mv (mv B_l bb) sm, mv (mv B_r bb) sm, nx (nx HB bb) sm⟩) | (obtain ⟨bb, b0, b1⟩ := box2 w1 23 #[.int .i64 c, .int .i64 d] 23 #[.int .i64 a, .int .i64 b]; replace bb := bb.out; have hs := HB.out.size; exact ⟨w1.heap.size + 1, w1.heap.size, rfl, rfl, (by unfold Hid; omega), (by unfold Hid; omega), (by unfold Hid; omega), mv b1 sm, mv b0 sm, mv (mv B_l bb) sm, mv (mv B_r bb) sm, nx (nx HB bb) sm⟩)
  case rest =>
    clear B_l
    clear B_r
    clear HB
    rename World => wc2
    obtain ⟨Pp, Pq, rfl, rfl, nePp, lePp, lePq, B_p, B_q, B_l, B_r, HB⟩ := hcut
    clear B_l
    go_upto_region 5 with (fail)
    have ek' := ek.out
    obtain ⟨c0p, c1p⟩ := cells2 B_p
    obtain ⟨c0q, c1q⟩ := cells2 B_q
    obtain ⟨c0r, c1r, c2r, c3r⟩ := cells4 B_r
    have tk1x0 : True := trivial
    go_region_held3 (fun w' => w'.cell? ⟨Pp, 0, none⟩ = some (.int .i64 a) ∧ w'.cell? ⟨Pp, 1, none⟩ = some (.int .i64 b) ∧ w'.cell? ⟨Pq, 0, none⟩ = some (.int .i64 c) ∧ w'.cell? ⟨Pq, 1, none⟩ = some (.int .i64 d) ∧ w'.cell? ⟨w.heap.size + 1, 0, none⟩ = some (.int .i64 x0) ∧ w'.cell? ⟨w.heap.size + 1, 1, none⟩ = some (.int .i64 y0) ∧ w'.cell? ⟨w.heap.size + 1, 2, none⟩ = some (.int .i64 x1) ∧ w'.cell? ⟨w.heap.size + 1, 3, none⟩ = some (.int .i64 y1)) (((try dsimp only); (repeat' apply And.intro) <;> (first | (with_reducible assumption) | ((repeat (first | (with_reducible refine Eq.trans (cell_drew1 _ _) ?_) | (with_reducible refine Eq.trans (cell_far (by omega) _ _ _) ?_) | (with_reducible refine Eq.trans (World.cell?_alloc_lt _ _ _ (by first | (dsimp only; omega) | (simp only [World.size_alloc, World.size_setCell]; omega))) ?_))); with_reducible assumption) | assumption | go_keep)))
    (first
      | (clear tk1x0; go_at_call 25; refine (T1.out _).mono ?_; rintro e w3 ⟨rfl, bb⟩; replace bb := nextw (w0 := wc2) (by exact sm) bb; replace B_r := mv B_r bb; replace B_p := mv B_p bb; replace B_q := mv B_q bb; replace HB := nx HB bb; clear bb c0p c1p c0q c1q c0r c1r c2r c3r; have c0p : w3.cell? ⟨Pp, 0, none⟩ = some (.int .i64 a) := B_p.out.cell 0 rfl; have c1p : w3.cell? ⟨Pp, 1, none⟩ = some (.int .i64 b) := B_p.out.cell 1 rfl; have c0q : w3.cell? ⟨Pq, 0, none⟩ = some (.int .i64 c) := B_q.out.cell 0 rfl; have c1q : w3.cell? ⟨Pq, 1, none⟩ = some (.int .i64 d) := B_q.out.cell 1 rfl; have c0r : w3.cell? ⟨w.heap.size + 1, 0, none⟩ = some (.int .i64 x0) := B_r.out.cell 0 rfl; have c1r : w3.cell? ⟨w.heap.size + 1, 1, none⟩ = some (.int .i64 y0) := B_r.out.cell 1 rfl; have c2r : w3.cell? ⟨w.heap.size + 1, 2, none⟩ = some (.int .i64 x1) := B_r.out.cell 2 rfl; have c3r : w3.cell? ⟨w.heap.size + 1, 3, none⟩ = some (.int .i64 y1) := B_r.out.cell 3 rfl; have tk1x1 : True := trivial)
      | (clear tk1x1; go_at_call 25; refine (T2.out _).mono ?_; rintro e w4 ⟨rfl, bb⟩; replace bb := nextw (w0 := w3) (by exact sm) bb; replace B_r := mv B_r bb; replace B_p := mv B_p bb; replace B_q := mv B_q bb; replace HB := nx HB bb; clear bb c0p c1p c0q c1q c0r c1r c2r c3r; have c0p : w4.cell? ⟨Pp, 0, none⟩ = some (.int .i64 a) := B_p.out.cell 0 rfl; have c1p : w4.cell? ⟨Pp, 1, none⟩ = some (.int .i64 b) := B_p.out.cell 1 rfl; have c0q : w4.cell? ⟨Pq, 0, none⟩ = some (.int .i64 c) := B_q.out.cell 0 rfl; have c1q : w4.cell? ⟨Pq, 1, none⟩ = some (.int .i64 d) := B_q.out.cell 1 rfl; have c0r : w4.cell? ⟨w.heap.size + 1, 0, none⟩ = some (.int .i64 x0) := B_r.out.cell 0 rfl; have c1r : w4.cell? ⟨w.heap.size + 1, 1, none⟩ = some (.int .i64 y0) := B_r.out.cell 1 rfl; have c2r : w4.cell? ⟨w.heap.size + 1, 2, none⟩ = some (.int .i64 x1) := B_r.out.cell 2 rfl; have c3r : w4.cell? ⟨w.heap.size + 1, 3, none⟩ = some (.int .i64 y1) := B_r.out.cell 3 rfl; have tk1x2 : True := trivial))
    clear c0p c1p c0q c1q c0r c1r c2r c3r
    clear ek ek' T1 T2
    obtain ⟨c0p, c1p⟩ := cells2 B_p
    obtain ⟨c0q, c1q⟩ := cells2 B_q
    obtain ⟨c0r, c1r, c2r, c3r⟩ := cells4 B_r
    go_wp2_with fail
    refine (T3.out _).mono ?_
    clear c0p c1p c0q c1q c0r c1r c2r c3r
    rintro e w5 ⟨rfl, bb⟩
    replace bb := nextw (w0 := w4) (by exact sm) bb
    replace B_r := mv B_r bb
    replace B_p := mv B_p bb
    replace B_q := mv B_q bb
    replace HB := nx HB bb
    clear bb
    clear T3
    go_upto_region 8 with (fail)
    obtain ⟨c0r, c1r, c2r, c3r⟩ := cells4 B_r
    go_wp2_with fail
    refine (HV.out _).mono ?_
    clear c0r c1r c2r c3r
    rintro e w6 ⟨rfl, bb⟩
    replace bb := nextw (w0 := w5) (by exact sm) bb
    replace B_r := mv B_r bb
    replace B_p := mv B_p bb
    replace B_q := mv B_q bb
    replace HB := nx HB bb
    clear bb
    obtain ⟨c0p, c1p⟩ := cells2 B_p
    go_wp2_with fail
    refine (S0.out _).mono ?_
    rintro e w7 ⟨rfl, rfl⟩
    go_wp2_with fail
    refine (S1.out _).mono ?_
    rintro e w8 ⟨rfl, rfl⟩
    go_wp2
    go_ret
    exact ⟨rfl, nextw HB.out (by exact sm)⟩

set_option maxRecDepth 100000 in
set_option maxHeartbeats 8000000 in
theorem Radii_c (a b c d x0 y0 x1 y1 n : Int) (n0 : 0 ≤ n) (n1 : n ≤ 65535) (hr : OkR x0 y0 x1 y1) (ha : OkC a) (hb : OkC b) (hc : ¬ OkC c) (w : World) :
    Calls Try.prog 11 #[.agg #[.int .i64 a, .int .i64 b, .int .i64 c, .int .i64 d], .agg #[.int .i64 x0, .int .i64 y0, .int .i64 x1, .int .i64 y1], .int .u16 n] w fun e w' => e = .returned (.bool true) ∧ Below w.heap.size w w' := by
  have HA := Lib.hid (fun w => awake_any w)
  have k0 : 0 ≤ n % 1024 := by omega
  have k1 : n % 1024 ≤ 1023 := by omega
  have T1 := Lib.hid (fun w => Touch_any a b c d x0 y0 x1 y1 (n % 1024) w)
  have T2 := Lib.hid (fun w => Touch_any a b c d x0 y0 x1 y1 ((n % 1024) + 1) w)
  have T3 := Lib.hid (fun w => Touch_any c d a b x0 y0 x1 y1 (n % 1024) w)
  rw [tk_flip] at T3
  rw [decide_eq_false (fun h : TK a b c d x0 y0 x1 y1 (n % 1024) ∧ To a b c d x0 y0 x1 y1 (n % 1024) => hc ⟨h.1.q.x1, h.1.q.x2⟩)] at T1
  rw [decide_eq_false (fun h : TK a b c d x0 y0 x1 y1 ((n % 1024) + 1) ∧ To a b c d x0 y0 x1 y1 ((n % 1024) + 1) => hc ⟨h.1.q.x1, h.1.q.x2⟩)] at T2
  rw [decide_eq_false (fun h : TK a b c d x0 y0 x1 y1 (n % 1024) ∧ To a b c d x0 y0 x1 y1 (n % 1024) => hc ⟨h.1.q.x1, h.1.q.x2⟩)] at T3
  have HV := Lib.hid (fun w => ValidRect_t hr w)
  have S0 := Lib.hid (fun w => SizeL_t ha w)
  have S1 := Lib.hid (fun w => SizeL_t hb w)
  have hp : OkP a b := ⟨ha.1, ha.2, hb.1, hb.2⟩
  have T4 := Lib.hid (fun w => Touch_any a b a b x0 y0 x1 y1 (n % 1024) w)
  rw [tk_point hp hr k0 (by omega)] at T4
  have HG := Lib.hid (fun w => Gap_ok a b x0 y0 x1 y1 hp hr w)
  have ekk0 : Hid (IntKind.i64.wrap ((n % 1024) * (n % 1024)) = (n % 1024) * (n % 1024)) := by have := mul_le (a := (n % 1024)) (b := (n % 1024)) (A := 1024) (B := 1024) (by omega) (by omega) (by omega) (by omega); unfold Hid; rw [IntKind.wrap_i64]; omega
  have S2 := Lib.hid (fun w => SizeL_f hc w)
  clear hr ha hb hp hc
  generalize gapM a b x0 y0 x1 y1 = gp at *
  skip
  obtain ⟨HB, B_l, B_r⟩ := box2 w 41 #[.int .i64 a, .int .i64 b, .int .i64 c, .int .i64 d] 29 #[.int .i64 x0, .int .i64 y0, .int .i64 x1, .int .i64 y1]
  go_enter Try.func11, Try.ntmps11
  go_wp2_with fail
  generalize (w.alloc (.cells #[.int .i64 a, .int .i64 b, .int .i64 c, .int .i64 d] 41)).alloc (.cells #[.int .i64 x0, .int .i64 y0, .int .i64 x1, .int .i64 y1] 29) = W0 at *
  refine (HA.out _).mono ?_
  rintro e w1 ⟨rfl, bb⟩
  replace bb := nextw (w0 := W0) (by exact sm) bb
  replace B_l := mv B_l bb
  replace B_r := mv B_r bb
  replace HB := nx HB bb
  clear bb
  go_upto_region 4 with (fail)
  generalize n % 1024 = k at *
  have ek : IntKind.i64.wrap (k + 1) = k + 1 := by rw [IntKind.wrap_i64]; omega
  replace ek := Lib.hid ek
  go_cut [8, 9] (fun sA sB wx => ∃ Pp Pq : Nat, sA = (.pointer (some ⟨Pp, 0, none⟩)) ∧ sB = (.pointer (some ⟨Pq, 0, none⟩)) ∧ Hid (Pp ≠ Pq) ∧ Hid (w.heap.size ≤ Pp) ∧ Hid (w.heap.size ≤ Pq) ∧ Hid (Bx wx (Pp) 23 #[.int .i64 a, .int .i64 b]) ∧ Hid (Bx wx (Pq) 23 #[.int .i64 c, .int .i64 d]) ∧ Hid (Bx wx (w.heap.size) 41 #[.int .i64 a, .int .i64 b, .int .i64 c, .int .i64 d]) ∧ Hid (Bx wx (w.heap.size + 1) 29 #[.int .i64 x0, .int .i64 y0, .int .i64 x1, .int .i64 y1]) ∧ Hid (Below w.heap.size w wx))
  case first =>
    obtain ⟨c0l, c1l, c2l, c3l⟩ := cells4 B_l
    go_region_held3 (fun w' => w'.cell? ⟨w.heap.size, 0, none⟩ = some (.int .i64 a) ∧ w'.cell? ⟨w.heap.size, 1, none⟩ = some (.int .i64 b) ∧ w'.cell? ⟨w.heap.size, 2, none⟩ = some (.int .i64 c) ∧ w'.cell? ⟨w.heap.size, 3, none⟩ = some (.int .i64 d)) (((try dsimp only); (repeat' apply And.intro) <;> (first | (with_reducible assumption) | ((repeat (first | (with_reducible refine Eq.trans (cell_drew1 _ _) ?_) | (with_reducible refine Eq.trans (cell_far (by omega) _ _ _) ?_) | (with_reducible refine Eq.trans (World.cell?_alloc_lt _ _ _ (by first | (dsimp only; omega) | (simp only [World.size_alloc, World.size_setCell]; omega))) ?_))); with_reducible assumption) | assumption | go_keep)))
        (first | fail)
    all_goals clear c0l c1l c2l c3l
    all_goals go_wp2_with fail
    all_goals go_meet
    all_goals first | (obtain ⟨bb, b0, b1⟩ := box2 w1 23 #[.int .i64 a, .int .i64 b] 23 #[.int .i64 c, .int .i64 d]; replace bb := bb.out; have hs := HB.out.size; exact ⟨w1.heap.size, w1.heap.size + 1, rfl, rfl, (by unfold Hid; omega), (by unfold Hid; omega), (by unfold Hid; omega), mv b0 sm, mv b1 sm, mv (mv B_l bb) sm, mv (mv B_r bb) sm, nx (nx HB bb) sm⟩) | (obtain ⟨bb, b0, b1⟩ := box2 w1 23 #[.int .i64 c, .int .i64 d] 23 #[.int .i64 a, .int .i64 b]; replace bb := bb.out; have hs := HB.out.size; exact ⟨w1.heap.size + 1, w1.heap.size, rfl, rfl, (by unfold Hid; omega), (by unfold Hid; omega), (by unfold Hid; omega), mv b1 sm, mv b0 sm, mv (mv B_l bb) sm, mv (mv B_r bb) sm, nx (nx HB bb) sm⟩)
  case rest =>
    clear B_l
    clear B_r
    clear HB
    rename World => wc2
    obtain ⟨Pp, Pq, rfl, rfl, nePp, lePp, lePq, B_p, B_q, B_l, B_r, HB⟩ := hcut
    clear B_l
    go_upto_region 5 with (fail)
    have ek' := ek.out
    obtain ⟨c0p, c1p⟩ := cells2 B_p
    obtain ⟨c0q, c1q⟩ := cells2 B_q
    obtain ⟨c0r, c1r, c2r, c3r⟩ := cells4 B_r
    have tk1x0 : True := trivial
    go_region_held3 (fun w' => w'.cell? ⟨Pp, 0, none⟩ = some (.int .i64 a) ∧ w'.cell? ⟨Pp, 1, none⟩ = some (.int .i64 b) ∧ w'.cell? ⟨Pq, 0, none⟩ = some (.int .i64 c) ∧ w'.cell? ⟨Pq, 1, none⟩ = some (.int .i64 d) ∧ w'.cell? ⟨w.heap.size + 1, 0, none⟩ = some (.int .i64 x0) ∧ w'.cell? ⟨w.heap.size + 1, 1, none⟩ = some (.int .i64 y0) ∧ w'.cell? ⟨w.heap.size + 1, 2, none⟩ = some (.int .i64 x1) ∧ w'.cell? ⟨w.heap.size + 1, 3, none⟩ = some (.int .i64 y1)) (((try dsimp only); (repeat' apply And.intro) <;> (first | (with_reducible assumption) | ((repeat (first | (with_reducible refine Eq.trans (cell_drew1 _ _) ?_) | (with_reducible refine Eq.trans (cell_far (by omega) _ _ _) ?_) | (with_reducible refine Eq.trans (World.cell?_alloc_lt _ _ _ (by first | (dsimp only; omega) | (simp only [World.size_alloc, World.size_setCell]; omega))) ?_))); with_reducible assumption) | assumption | go_keep)))
    (first
      | (clear tk1x0; go_at_call 25; refine (T1.out _).mono ?_; rintro e w3 ⟨rfl, bb⟩; replace bb := nextw (w0 := wc2) (by exact sm) bb; replace B_r := mv B_r bb; replace B_p := mv B_p bb; replace B_q := mv B_q bb; replace HB := nx HB bb; clear bb c0p c1p c0q c1q c0r c1r c2r c3r; have c0p : w3.cell? ⟨Pp, 0, none⟩ = some (.int .i64 a) := B_p.out.cell 0 rfl; have c1p : w3.cell? ⟨Pp, 1, none⟩ = some (.int .i64 b) := B_p.out.cell 1 rfl; have c0q : w3.cell? ⟨Pq, 0, none⟩ = some (.int .i64 c) := B_q.out.cell 0 rfl; have c1q : w3.cell? ⟨Pq, 1, none⟩ = some (.int .i64 d) := B_q.out.cell 1 rfl; have c0r : w3.cell? ⟨w.heap.size + 1, 0, none⟩ = some (.int .i64 x0) := B_r.out.cell 0 rfl; have c1r : w3.cell? ⟨w.heap.size + 1, 1, none⟩ = some (.int .i64 y0) := B_r.out.cell 1 rfl; have c2r : w3.cell? ⟨w.heap.size + 1, 2, none⟩ = some (.int .i64 x1) := B_r.out.cell 2 rfl; have c3r : w3.cell? ⟨w.heap.size + 1, 3, none⟩ = some (.int .i64 y1) := B_r.out.cell 3 rfl; have tk1x1 : True := trivial)
      | (clear tk1x1; go_at_call 25; refine (T2.out _).mono ?_; rintro e w4 ⟨rfl, bb⟩; replace bb := nextw (w0 := w3) (by exact sm) bb; replace B_r := mv B_r bb; replace B_p := mv B_p bb; replace B_q := mv B_q bb; replace HB := nx HB bb; clear bb c0p c1p c0q c1q c0r c1r c2r c3r; have c0p : w4.cell? ⟨Pp, 0, none⟩ = some (.int .i64 a) := B_p.out.cell 0 rfl; have c1p : w4.cell? ⟨Pp, 1, none⟩ = some (.int .i64 b) := B_p.out.cell 1 rfl; have c0q : w4.cell? ⟨Pq, 0, none⟩ = some (.int .i64 c) := B_q.out.cell 0 rfl; have c1q : w4.cell? ⟨Pq, 1, none⟩ = some (.int .i64 d) := B_q.out.cell 1 rfl; have c0r : w4.cell? ⟨w.heap.size + 1, 0, none⟩ = some (.int .i64 x0) := B_r.out.cell 0 rfl; have c1r : w4.cell? ⟨w.heap.size + 1, 1, none⟩ = some (.int .i64 y0) := B_r.out.cell 1 rfl; have c2r : w4.cell? ⟨w.heap.size + 1, 2, none⟩ = some (.int .i64 x1) := B_r.out.cell 2 rfl; have c3r : w4.cell? ⟨w.heap.size + 1, 3, none⟩ = some (.int .i64 y1) := B_r.out.cell 3 rfl; have tk1x2 : True := trivial))
    clear c0p c1p c0q c1q c0r c1r c2r c3r
    clear ek ek' T1 T2
    obtain ⟨c0p, c1p⟩ := cells2 B_p
    obtain ⟨c0q, c1q⟩ := cells2 B_q
    obtain ⟨c0r, c1r, c2r, c3r⟩ := cells4 B_r
    go_wp2_with fail
    refine (T3.out _).mono ?_
    clear c0p c1p c0q c1q c0r c1r c2r c3r
    rintro e w5 ⟨rfl, bb⟩
    replace bb := nextw (w0 := w4) (by exact sm) bb
    replace B_r := mv B_r bb
    replace B_p := mv B_p bb
    replace B_q := mv B_q bb
    replace HB := nx HB bb
    clear bb
    clear T3
    go_upto_region 8 with (fail)
    obtain ⟨c0r, c1r, c2r, c3r⟩ := cells4 B_r
    go_wp2_with fail
    refine (HV.out _).mono ?_
    clear c0r c1r c2r c3r
    rintro e w6 ⟨rfl, bb⟩
    replace bb := nextw (w0 := w5) (by exact sm) bb
    replace B_r := mv B_r bb
    replace B_p := mv B_p bb
    replace B_q := mv B_q bb
    replace HB := nx HB bb
    clear bb
    obtain ⟨c0p, c1p⟩ := cells2 B_p
    go_wp2_with fail
    refine (S0.out _).mono ?_
    rintro e w7 ⟨rfl, rfl⟩
    go_wp2_with fail
    refine (S1.out _).mono ?_
    rintro e w8 ⟨rfl, rfl⟩
    clear c0p c1p
    go_upto_region 10 with (fail)
    have ekk : IntKind.i64.wrap (k * k) = k * k := ekk0.out
    obtain ⟨c0p, c1p⟩ := cells2 B_p
    obtain ⟨c0r, c1r, c2r, c3r⟩ := cells4 B_r
    have tk2x0 : True := trivial
    go_region_held3 (fun w' => w'.cell? ⟨Pp, 0, none⟩ = some (.int .i64 a) ∧ w'.cell? ⟨Pp, 1, none⟩ = some (.int .i64 b) ∧ w'.cell? ⟨w.heap.size + 1, 0, none⟩ = some (.int .i64 x0) ∧ w'.cell? ⟨w.heap.size + 1, 1, none⟩ = some (.int .i64 y0) ∧ w'.cell? ⟨w.heap.size + 1, 2, none⟩ = some (.int .i64 x1) ∧ w'.cell? ⟨w.heap.size + 1, 3, none⟩ = some (.int .i64 y1)) (((try dsimp only); (repeat' apply And.intro) <;> (first | (with_reducible assumption) | ((repeat (first | (with_reducible refine Eq.trans (cell_drew1 _ _) ?_) | (with_reducible refine Eq.trans (cell_far (by omega) _ _ _) ?_) | (with_reducible refine Eq.trans (World.cell?_alloc_lt _ _ _ (by first | (dsimp only; omega) | (simp only [World.size_alloc, World.size_setCell]; omega))) ?_))); with_reducible assumption) | assumption | go_keep)))
    (first
      | (clear tk2x0; go_at_call 25; refine (T4.out _).mono ?_; rintro e w9 ⟨rfl, bb⟩; replace bb := nextw (w0 := w6) (by exact sm) bb; replace B_r := mv B_r bb; replace B_p := mv B_p bb; replace B_q := mv B_q bb; replace HB := nx HB bb; clear bb c0p c1p c0r c1r c2r c3r; have c0p : w9.cell? ⟨Pp, 0, none⟩ = some (.int .i64 a) := B_p.out.cell 0 rfl; have c1p : w9.cell? ⟨Pp, 1, none⟩ = some (.int .i64 b) := B_p.out.cell 1 rfl; have c0r : w9.cell? ⟨w.heap.size + 1, 0, none⟩ = some (.int .i64 x0) := B_r.out.cell 0 rfl; have c1r : w9.cell? ⟨w.heap.size + 1, 1, none⟩ = some (.int .i64 y0) := B_r.out.cell 1 rfl; have c2r : w9.cell? ⟨w.heap.size + 1, 2, none⟩ = some (.int .i64 x1) := B_r.out.cell 2 rfl; have c3r : w9.cell? ⟨w.heap.size + 1, 3, none⟩ = some (.int .i64 y1) := B_r.out.cell 3 rfl; have tk2x1 : True := trivial)
      | (clear tk2x1; go_at_call 23; refine (HG.out _).mono ?_; rintro e w10 ⟨rfl, bb⟩; replace bb := nextw (w0 := w9) (by exact sm) bb; replace B_r := mv B_r bb; replace B_p := mv B_p bb; replace B_q := mv B_q bb; replace HB := nx HB bb; clear bb c0p c1p c0r c1r c2r c3r; have c0p : w10.cell? ⟨Pp, 0, none⟩ = some (.int .i64 a) := B_p.out.cell 0 rfl; have c1p : w10.cell? ⟨Pp, 1, none⟩ = some (.int .i64 b) := B_p.out.cell 1 rfl; have c0r : w10.cell? ⟨w.heap.size + 1, 0, none⟩ = some (.int .i64 x0) := B_r.out.cell 0 rfl; have c1r : w10.cell? ⟨w.heap.size + 1, 1, none⟩ = some (.int .i64 y0) := B_r.out.cell 1 rfl; have c2r : w10.cell? ⟨w.heap.size + 1, 2, none⟩ = some (.int .i64 x1) := B_r.out.cell 2 rfl; have c3r : w10.cell? ⟨w.heap.size + 1, 3, none⟩ = some (.int .i64 y1) := B_r.out.cell 3 rfl; have tk2x2 : True := trivial))
    clear c0p c1p c0r c1r c2r c3r
    clear ekk ekk0 T4
    go_upto_region 12 with (fail)
    obtain ⟨c0q, c1q⟩ := cells2 B_q
    go_wp2_with fail
    refine (S2.out _).mono ?_
    rintro e w11 ⟨rfl, rfl⟩
    go_wp2
    go_ret
    exact ⟨rfl, nextw HB.out (by exact sm)⟩

set_option maxRecDepth 100000 in
set_option maxHeartbeats 8000000 in
theorem Radii_d (a b c d x0 y0 x1 y1 n : Int) (n0 : 0 ≤ n) (n1 : n ≤ 65535) (hr : OkR x0 y0 x1 y1) (ha : OkC a) (hb : OkC b) (hc : OkC c) (hd : ¬ OkC d) (w : World) :
    Calls Try.prog 11 #[.agg #[.int .i64 a, .int .i64 b, .int .i64 c, .int .i64 d], .agg #[.int .i64 x0, .int .i64 y0, .int .i64 x1, .int .i64 y1], .int .u16 n] w fun e w' => e = .returned (.bool true) ∧ Below w.heap.size w w' := by
  have HA := Lib.hid (fun w => awake_any w)
  have k0 : 0 ≤ n % 1024 := by omega
  have k1 : n % 1024 ≤ 1023 := by omega
  have T1 := Lib.hid (fun w => Touch_any a b c d x0 y0 x1 y1 (n % 1024) w)
  have T2 := Lib.hid (fun w => Touch_any a b c d x0 y0 x1 y1 ((n % 1024) + 1) w)
  have T3 := Lib.hid (fun w => Touch_any c d a b x0 y0 x1 y1 (n % 1024) w)
  rw [tk_flip] at T3
  rw [decide_eq_false (fun h : TK a b c d x0 y0 x1 y1 (n % 1024) ∧ To a b c d x0 y0 x1 y1 (n % 1024) => hd ⟨h.1.q.y1, h.1.q.y2⟩)] at T1
  rw [decide_eq_false (fun h : TK a b c d x0 y0 x1 y1 ((n % 1024) + 1) ∧ To a b c d x0 y0 x1 y1 ((n % 1024) + 1) => hd ⟨h.1.q.y1, h.1.q.y2⟩)] at T2
  rw [decide_eq_false (fun h : TK a b c d x0 y0 x1 y1 (n % 1024) ∧ To a b c d x0 y0 x1 y1 (n % 1024) => hd ⟨h.1.q.y1, h.1.q.y2⟩)] at T3
  have HV := Lib.hid (fun w => ValidRect_t hr w)
  have S0 := Lib.hid (fun w => SizeL_t ha w)
  have S1 := Lib.hid (fun w => SizeL_t hb w)
  have hp : OkP a b := ⟨ha.1, ha.2, hb.1, hb.2⟩
  have T4 := Lib.hid (fun w => Touch_any a b a b x0 y0 x1 y1 (n % 1024) w)
  rw [tk_point hp hr k0 (by omega)] at T4
  have HG := Lib.hid (fun w => Gap_ok a b x0 y0 x1 y1 hp hr w)
  have ekk0 : Hid (IntKind.i64.wrap ((n % 1024) * (n % 1024)) = (n % 1024) * (n % 1024)) := by have := mul_le (a := (n % 1024)) (b := (n % 1024)) (A := 1024) (B := 1024) (by omega) (by omega) (by omega) (by omega); unfold Hid; rw [IntKind.wrap_i64]; omega
  have S2 := Lib.hid (fun w => SizeL_t hc w)
  have S3 := Lib.hid (fun w => SizeL_f hd w)
  clear hr ha hb hp hc hd
  generalize gapM a b x0 y0 x1 y1 = gp at *
  skip
  obtain ⟨HB, B_l, B_r⟩ := box2 w 41 #[.int .i64 a, .int .i64 b, .int .i64 c, .int .i64 d] 29 #[.int .i64 x0, .int .i64 y0, .int .i64 x1, .int .i64 y1]
  go_enter Try.func11, Try.ntmps11
  go_wp2_with fail
  generalize (w.alloc (.cells #[.int .i64 a, .int .i64 b, .int .i64 c, .int .i64 d] 41)).alloc (.cells #[.int .i64 x0, .int .i64 y0, .int .i64 x1, .int .i64 y1] 29) = W0 at *
  refine (HA.out _).mono ?_
  rintro e w1 ⟨rfl, bb⟩
  replace bb := nextw (w0 := W0) (by exact sm) bb
  replace B_l := mv B_l bb
  replace B_r := mv B_r bb
  replace HB := nx HB bb
  clear bb
  go_upto_region 4 with (fail)
  generalize n % 1024 = k at *
  have ek : IntKind.i64.wrap (k + 1) = k + 1 := by rw [IntKind.wrap_i64]; omega
  replace ek := Lib.hid ek
  go_cut [8, 9] (fun sA sB wx => ∃ Pp Pq : Nat, sA = (.pointer (some ⟨Pp, 0, none⟩)) ∧ sB = (.pointer (some ⟨Pq, 0, none⟩)) ∧ Hid (Pp ≠ Pq) ∧ Hid (w.heap.size ≤ Pp) ∧ Hid (w.heap.size ≤ Pq) ∧ Hid (Bx wx (Pp) 23 #[.int .i64 a, .int .i64 b]) ∧ Hid (Bx wx (Pq) 23 #[.int .i64 c, .int .i64 d]) ∧ Hid (Bx wx (w.heap.size) 41 #[.int .i64 a, .int .i64 b, .int .i64 c, .int .i64 d]) ∧ Hid (Bx wx (w.heap.size + 1) 29 #[.int .i64 x0, .int .i64 y0, .int .i64 x1, .int .i64 y1]) ∧ Hid (Below w.heap.size w wx))
  case first =>
    obtain ⟨c0l, c1l, c2l, c3l⟩ := cells4 B_l
    go_region_held3 (fun w' => w'.cell? ⟨w.heap.size, 0, none⟩ = some (.int .i64 a) ∧ w'.cell? ⟨w.heap.size, 1, none⟩ = some (.int .i64 b) ∧ w'.cell? ⟨w.heap.size, 2, none⟩ = some (.int .i64 c) ∧ w'.cell? ⟨w.heap.size, 3, none⟩ = some (.int .i64 d)) (((try dsimp only); (repeat' apply And.intro) <;> (first | (with_reducible assumption) | ((repeat (first | (with_reducible refine Eq.trans (cell_drew1 _ _) ?_) | (with_reducible refine Eq.trans (cell_far (by omega) _ _ _) ?_) | (with_reducible refine Eq.trans (World.cell?_alloc_lt _ _ _ (by first | (dsimp only; omega) | (simp only [World.size_alloc, World.size_setCell]; omega))) ?_))); with_reducible assumption) | assumption | go_keep)))
        (first | fail)
    all_goals clear c0l c1l c2l c3l
    all_goals go_wp2_with fail
    all_goals go_meet
    all_goals first | (obtain ⟨bb, b0, b1⟩ := box2 w1 23 #[.int .i64 a, .int .i64 b] 23 #[.int .i64 c, .int .i64 d]; replace bb := bb.out; have hs := HB.out.size; exact ⟨w1.heap.size, w1.heap.size + 1, rfl, rfl, (by unfold Hid; omega), (by unfold Hid; omega), (by unfold Hid; omega), mv b0 sm, mv b1 sm, mv (mv B_l bb) sm, mv (mv B_r bb) sm, nx (nx HB bb) sm⟩) | (obtain ⟨bb, b0, b1⟩ := box2 w1 23 #[.int .i64 c, .int .i64 d] 23 #[.int .i64 a, .int .i64 b]; replace bb := bb.out; have hs := HB.out.size; exact ⟨w1.heap.size + 1, w1.heap.size, rfl, rfl, (by unfold Hid; omega), (by unfold Hid; omega), (by unfold Hid; omega), mv b1 sm, mv b0 sm, mv (mv B_l bb) sm, mv (mv B_r bb) sm, nx (nx HB bb) sm⟩)
  case rest =>
    clear B_l
    clear B_r
    clear HB
    rename World => wc2
    obtain ⟨Pp, Pq, rfl, rfl, nePp, lePp, lePq, B_p, B_q, B_l, B_r, HB⟩ := hcut
    clear B_l
    go_upto_region 5 with (fail)
    have ek' := ek.out
    obtain ⟨c0p, c1p⟩ := cells2 B_p
    obtain ⟨c0q, c1q⟩ := cells2 B_q
    obtain ⟨c0r, c1r, c2r, c3r⟩ := cells4 B_r
    have tk1x0 : True := trivial
    go_region_held3 (fun w' => w'.cell? ⟨Pp, 0, none⟩ = some (.int .i64 a) ∧ w'.cell? ⟨Pp, 1, none⟩ = some (.int .i64 b) ∧ w'.cell? ⟨Pq, 0, none⟩ = some (.int .i64 c) ∧ w'.cell? ⟨Pq, 1, none⟩ = some (.int .i64 d) ∧ w'.cell? ⟨w.heap.size + 1, 0, none⟩ = some (.int .i64 x0) ∧ w'.cell? ⟨w.heap.size + 1, 1, none⟩ = some (.int .i64 y0) ∧ w'.cell? ⟨w.heap.size + 1, 2, none⟩ = some (.int .i64 x1) ∧ w'.cell? ⟨w.heap.size + 1, 3, none⟩ = some (.int .i64 y1)) (((try dsimp only); (repeat' apply And.intro) <;> (first | (with_reducible assumption) | ((repeat (first | (with_reducible refine Eq.trans (cell_drew1 _ _) ?_) | (with_reducible refine Eq.trans (cell_far (by omega) _ _ _) ?_) | (with_reducible refine Eq.trans (World.cell?_alloc_lt _ _ _ (by first | (dsimp only; omega) | (simp only [World.size_alloc, World.size_setCell]; omega))) ?_))); with_reducible assumption) | assumption | go_keep)))
    (first
      | (clear tk1x0; go_at_call 25; refine (T1.out _).mono ?_; rintro e w3 ⟨rfl, bb⟩; replace bb := nextw (w0 := wc2) (by exact sm) bb; replace B_r := mv B_r bb; replace B_p := mv B_p bb; replace B_q := mv B_q bb; replace HB := nx HB bb; clear bb c0p c1p c0q c1q c0r c1r c2r c3r; have c0p : w3.cell? ⟨Pp, 0, none⟩ = some (.int .i64 a) := B_p.out.cell 0 rfl; have c1p : w3.cell? ⟨Pp, 1, none⟩ = some (.int .i64 b) := B_p.out.cell 1 rfl; have c0q : w3.cell? ⟨Pq, 0, none⟩ = some (.int .i64 c) := B_q.out.cell 0 rfl; have c1q : w3.cell? ⟨Pq, 1, none⟩ = some (.int .i64 d) := B_q.out.cell 1 rfl; have c0r : w3.cell? ⟨w.heap.size + 1, 0, none⟩ = some (.int .i64 x0) := B_r.out.cell 0 rfl; have c1r : w3.cell? ⟨w.heap.size + 1, 1, none⟩ = some (.int .i64 y0) := B_r.out.cell 1 rfl; have c2r : w3.cell? ⟨w.heap.size + 1, 2, none⟩ = some (.int .i64 x1) := B_r.out.cell 2 rfl; have c3r : w3.cell? ⟨w.heap.size + 1, 3, none⟩ = some (.int .i64 y1) := B_r.out.cell 3 rfl; have tk1x1 : True := trivial)
      | (clear tk1x1; go_at_call 25; refine (T2.out _).mono ?_; rintro e w4 ⟨rfl, bb⟩; replace bb := nextw (w0 := w3) (by exact sm) bb; replace B_r := mv B_r bb; replace B_p := mv B_p bb; replace B_q := mv B_q bb; replace HB := nx HB bb; clear bb c0p c1p c0q c1q c0r c1r c2r c3r; have c0p : w4.cell? ⟨Pp, 0, none⟩ = some (.int .i64 a) := B_p.out.cell 0 rfl; have c1p : w4.cell? ⟨Pp, 1, none⟩ = some (.int .i64 b) := B_p.out.cell 1 rfl; have c0q : w4.cell? ⟨Pq, 0, none⟩ = some (.int .i64 c) := B_q.out.cell 0 rfl; have c1q : w4.cell? ⟨Pq, 1, none⟩ = some (.int .i64 d) := B_q.out.cell 1 rfl; have c0r : w4.cell? ⟨w.heap.size + 1, 0, none⟩ = some (.int .i64 x0) := B_r.out.cell 0 rfl; have c1r : w4.cell? ⟨w.heap.size + 1, 1, none⟩ = some (.int .i64 y0) := B_r.out.cell 1 rfl; have c2r : w4.cell? ⟨w.heap.size + 1, 2, none⟩ = some (.int .i64 x1) := B_r.out.cell 2 rfl; have c3r : w4.cell? ⟨w.heap.size + 1, 3, none⟩ = some (.int .i64 y1) := B_r.out.cell 3 rfl; have tk1x2 : True := trivial))
    clear c0p c1p c0q c1q c0r c1r c2r c3r
    clear ek ek' T1 T2
    obtain ⟨c0p, c1p⟩ := cells2 B_p
    obtain ⟨c0q, c1q⟩ := cells2 B_q
    obtain ⟨c0r, c1r, c2r, c3r⟩ := cells4 B_r
    go_wp2_with fail
    refine (T3.out _).mono ?_
    clear c0p c1p c0q c1q c0r c1r c2r c3r
    rintro e w5 ⟨rfl, bb⟩
    replace bb := nextw (w0 := w4) (by exact sm) bb
    replace B_r := mv B_r bb
    replace B_p := mv B_p bb
    replace B_q := mv B_q bb
    replace HB := nx HB bb
    clear bb
    clear T3
    go_upto_region 8 with (fail)
    obtain ⟨c0r, c1r, c2r, c3r⟩ := cells4 B_r
    go_wp2_with fail
    refine (HV.out _).mono ?_
    clear c0r c1r c2r c3r
    rintro e w6 ⟨rfl, bb⟩
    replace bb := nextw (w0 := w5) (by exact sm) bb
    replace B_r := mv B_r bb
    replace B_p := mv B_p bb
    replace B_q := mv B_q bb
    replace HB := nx HB bb
    clear bb
    obtain ⟨c0p, c1p⟩ := cells2 B_p
    go_wp2_with fail
    refine (S0.out _).mono ?_
    rintro e w7 ⟨rfl, rfl⟩
    go_wp2_with fail
    refine (S1.out _).mono ?_
    rintro e w8 ⟨rfl, rfl⟩
    clear c0p c1p
    go_upto_region 10 with (fail)
    have ekk : IntKind.i64.wrap (k * k) = k * k := ekk0.out
    obtain ⟨c0p, c1p⟩ := cells2 B_p
    obtain ⟨c0r, c1r, c2r, c3r⟩ := cells4 B_r
    have tk2x0 : True := trivial
    go_region_held3 (fun w' => w'.cell? ⟨Pp, 0, none⟩ = some (.int .i64 a) ∧ w'.cell? ⟨Pp, 1, none⟩ = some (.int .i64 b) ∧ w'.cell? ⟨w.heap.size + 1, 0, none⟩ = some (.int .i64 x0) ∧ w'.cell? ⟨w.heap.size + 1, 1, none⟩ = some (.int .i64 y0) ∧ w'.cell? ⟨w.heap.size + 1, 2, none⟩ = some (.int .i64 x1) ∧ w'.cell? ⟨w.heap.size + 1, 3, none⟩ = some (.int .i64 y1)) (((try dsimp only); (repeat' apply And.intro) <;> (first | (with_reducible assumption) | ((repeat (first | (with_reducible refine Eq.trans (cell_drew1 _ _) ?_) | (with_reducible refine Eq.trans (cell_far (by omega) _ _ _) ?_) | (with_reducible refine Eq.trans (World.cell?_alloc_lt _ _ _ (by first | (dsimp only; omega) | (simp only [World.size_alloc, World.size_setCell]; omega))) ?_))); with_reducible assumption) | assumption | go_keep)))
    (first
      | (clear tk2x0; go_at_call 25; refine (T4.out _).mono ?_; rintro e w9 ⟨rfl, bb⟩; replace bb := nextw (w0 := w6) (by exact sm) bb; replace B_r := mv B_r bb; replace B_p := mv B_p bb; replace B_q := mv B_q bb; replace HB := nx HB bb; clear bb c0p c1p c0r c1r c2r c3r; have c0p : w9.cell? ⟨Pp, 0, none⟩ = some (.int .i64 a) := B_p.out.cell 0 rfl; have c1p : w9.cell? ⟨Pp, 1, none⟩ = some (.int .i64 b) := B_p.out.cell 1 rfl; have c0r : w9.cell? ⟨w.heap.size + 1, 0, none⟩ = some (.int .i64 x0) := B_r.out.cell 0 rfl; have c1r : w9.cell? ⟨w.heap.size + 1, 1, none⟩ = some (.int .i64 y0) := B_r.out.cell 1 rfl; have c2r : w9.cell? ⟨w.heap.size + 1, 2, none⟩ = some (.int .i64 x1) := B_r.out.cell 2 rfl; have c3r : w9.cell? ⟨w.heap.size + 1, 3, none⟩ = some (.int .i64 y1) := B_r.out.cell 3 rfl; have tk2x1 : True := trivial)
      | (clear tk2x1; go_at_call 23; refine (HG.out _).mono ?_; rintro e w10 ⟨rfl, bb⟩; replace bb := nextw (w0 := w9) (by exact sm) bb; replace B_r := mv B_r bb; replace B_p := mv B_p bb; replace B_q := mv B_q bb; replace HB := nx HB bb; clear bb c0p c1p c0r c1r c2r c3r; have c0p : w10.cell? ⟨Pp, 0, none⟩ = some (.int .i64 a) := B_p.out.cell 0 rfl; have c1p : w10.cell? ⟨Pp, 1, none⟩ = some (.int .i64 b) := B_p.out.cell 1 rfl; have c0r : w10.cell? ⟨w.heap.size + 1, 0, none⟩ = some (.int .i64 x0) := B_r.out.cell 0 rfl; have c1r : w10.cell? ⟨w.heap.size + 1, 1, none⟩ = some (.int .i64 y0) := B_r.out.cell 1 rfl; have c2r : w10.cell? ⟨w.heap.size + 1, 2, none⟩ = some (.int .i64 x1) := B_r.out.cell 2 rfl; have c3r : w10.cell? ⟨w.heap.size + 1, 3, none⟩ = some (.int .i64 y1) := B_r.out.cell 3 rfl; have tk2x2 : True := trivial))
    clear c0p c1p c0r c1r c2r c3r
    clear ekk ekk0 T4
    go_upto_region 12 with (fail)
    obtain ⟨c0q, c1q⟩ := cells2 B_q
    go_wp2_with fail
    refine (S2.out _).mono ?_
    rintro e w11 ⟨rfl, rfl⟩
    go_wp2_with fail
    refine (S3.out _).mono ?_
    rintro e w12 ⟨rfl, rfl⟩
    go_wp2
    go_ret
    exact ⟨rfl, nextw HB.out (by exact sm)⟩

set_option maxRecDepth 100000 in
set_option maxHeartbeats 8000000 in
theorem Radii_w (a b c d x0 y0 x1 y1 n : Int) (n0 : 0 ≤ n) (n1 : n ≤ 65535) (hr : OkR x0 y0 x1 y1) (ha : OkC a) (hb : OkC b) (hc : OkC c) (hd : OkC d) (hw : ¬ (-1024 ≤ a - c ∧ a - c ≤ 1024)) (w : World) :
    Calls Try.prog 11 #[.agg #[.int .i64 a, .int .i64 b, .int .i64 c, .int .i64 d], .agg #[.int .i64 x0, .int .i64 y0, .int .i64 x1, .int .i64 y1], .int .u16 n] w fun e w' => e = .returned (.bool true) ∧ Below w.heap.size w w' := by
  have HA := Lib.hid (fun w => awake_any w)
  have k0 : 0 ≤ n % 1024 := by omega
  have k1 : n % 1024 ≤ 1023 := by omega
  have T1 := Lib.hid (fun w => Touch_any a b c d x0 y0 x1 y1 (n % 1024) w)
  have T2 := Lib.hid (fun w => Touch_any a b c d x0 y0 x1 y1 ((n % 1024) + 1) w)
  have T3 := Lib.hid (fun w => Touch_any c d a b x0 y0 x1 y1 (n % 1024) w)
  rw [tk_flip] at T3
  rw [decide_eq_false (fun h : TK a b c d x0 y0 x1 y1 (n % 1024) ∧ To a b c d x0 y0 x1 y1 (n % 1024) => hw (by have := h.1.w; omega))] at T1
  rw [decide_eq_false (fun h : TK a b c d x0 y0 x1 y1 ((n % 1024) + 1) ∧ To a b c d x0 y0 x1 y1 ((n % 1024) + 1) => hw (by have := h.1.w; omega))] at T2
  rw [decide_eq_false (fun h : TK a b c d x0 y0 x1 y1 (n % 1024) ∧ To a b c d x0 y0 x1 y1 (n % 1024) => hw (by have := h.1.w; omega))] at T3
  have HV := Lib.hid (fun w => ValidRect_t hr w)
  have S0 := Lib.hid (fun w => SizeL_t ha w)
  have S1 := Lib.hid (fun w => SizeL_t hb w)
  have hp : OkP a b := ⟨ha.1, ha.2, hb.1, hb.2⟩
  have T4 := Lib.hid (fun w => Touch_any a b a b x0 y0 x1 y1 (n % 1024) w)
  rw [tk_point hp hr k0 (by omega)] at T4
  have HG := Lib.hid (fun w => Gap_ok a b x0 y0 x1 y1 hp hr w)
  have ekk0 : Hid (IntKind.i64.wrap ((n % 1024) * (n % 1024)) = (n % 1024) * (n % 1024)) := by have := mul_le (a := (n % 1024)) (b := (n % 1024)) (A := 1024) (B := 1024) (by omega) (by omega) (by omega) (by omega); unfold Hid; rw [IntKind.wrap_i64]; omega
  have S4 := Lib.hid (fun w => Size_f (n := a - c) (m := 1024) (by decide) (by decide) hw w)
  have S2 := Lib.hid (fun w => SizeL_t hc w)
  have S3 := Lib.hid (fun w => SizeL_t hd w)
  obtain ⟨p1, p2, p3, p4⟩ := hp
  obtain ⟨q1, q2⟩ := hc
  obtain ⟨q3, q4⟩ := hd
  clear hr ha hb hw
  generalize gapM a b x0 y0 x1 y1 = gp at *
  skip
  obtain ⟨HB, B_l, B_r⟩ := box2 w 41 #[.int .i64 a, .int .i64 b, .int .i64 c, .int .i64 d] 29 #[.int .i64 x0, .int .i64 y0, .int .i64 x1, .int .i64 y1]
  go_enter Try.func11, Try.ntmps11
  go_wp2_with fail
  generalize (w.alloc (.cells #[.int .i64 a, .int .i64 b, .int .i64 c, .int .i64 d] 41)).alloc (.cells #[.int .i64 x0, .int .i64 y0, .int .i64 x1, .int .i64 y1] 29) = W0 at *
  refine (HA.out _).mono ?_
  rintro e w1 ⟨rfl, bb⟩
  replace bb := nextw (w0 := W0) (by exact sm) bb
  replace B_l := mv B_l bb
  replace B_r := mv B_r bb
  replace HB := nx HB bb
  clear bb
  go_upto_region 4 with (fail)
  generalize n % 1024 = k at *
  have ek : IntKind.i64.wrap (k + 1) = k + 1 := by rw [IntKind.wrap_i64]; omega
  replace ek := Lib.hid ek
  go_cut [8, 9] (fun sA sB wx => ∃ Pp Pq : Nat, sA = (.pointer (some ⟨Pp, 0, none⟩)) ∧ sB = (.pointer (some ⟨Pq, 0, none⟩)) ∧ Hid (Pp ≠ Pq) ∧ Hid (w.heap.size ≤ Pp) ∧ Hid (w.heap.size ≤ Pq) ∧ Hid (Bx wx (Pp) 23 #[.int .i64 a, .int .i64 b]) ∧ Hid (Bx wx (Pq) 23 #[.int .i64 c, .int .i64 d]) ∧ Hid (Bx wx (w.heap.size) 41 #[.int .i64 a, .int .i64 b, .int .i64 c, .int .i64 d]) ∧ Hid (Bx wx (w.heap.size + 1) 29 #[.int .i64 x0, .int .i64 y0, .int .i64 x1, .int .i64 y1]) ∧ Hid (Below w.heap.size w wx))
  case first =>
    obtain ⟨c0l, c1l, c2l, c3l⟩ := cells4 B_l
    go_region_held3 (fun w' => w'.cell? ⟨w.heap.size, 0, none⟩ = some (.int .i64 a) ∧ w'.cell? ⟨w.heap.size, 1, none⟩ = some (.int .i64 b) ∧ w'.cell? ⟨w.heap.size, 2, none⟩ = some (.int .i64 c) ∧ w'.cell? ⟨w.heap.size, 3, none⟩ = some (.int .i64 d)) (((try dsimp only); (repeat' apply And.intro) <;> (first | (with_reducible assumption) | ((repeat (first | (with_reducible refine Eq.trans (cell_drew1 _ _) ?_) | (with_reducible refine Eq.trans (cell_far (by omega) _ _ _) ?_) | (with_reducible refine Eq.trans (World.cell?_alloc_lt _ _ _ (by first | (dsimp only; omega) | (simp only [World.size_alloc, World.size_setCell]; omega))) ?_))); with_reducible assumption) | assumption | go_keep)))
        (first | fail)
    all_goals clear c0l c1l c2l c3l
    all_goals go_wp2_with fail
    all_goals go_meet
    all_goals first | (obtain ⟨bb, b0, b1⟩ := box2 w1 23 #[.int .i64 a, .int .i64 b] 23 #[.int .i64 c, .int .i64 d]; replace bb := bb.out; have hs := HB.out.size; exact ⟨w1.heap.size, w1.heap.size + 1, rfl, rfl, (by unfold Hid; omega), (by unfold Hid; omega), (by unfold Hid; omega), mv b0 sm, mv b1 sm, mv (mv B_l bb) sm, mv (mv B_r bb) sm, nx (nx HB bb) sm⟩) | (obtain ⟨bb, b0, b1⟩ := box2 w1 23 #[.int .i64 c, .int .i64 d] 23 #[.int .i64 a, .int .i64 b]; replace bb := bb.out; have hs := HB.out.size; exact ⟨w1.heap.size + 1, w1.heap.size, rfl, rfl, (by unfold Hid; omega), (by unfold Hid; omega), (by unfold Hid; omega), mv b1 sm, mv b0 sm, mv (mv B_l bb) sm, mv (mv B_r bb) sm, nx (nx HB bb) sm⟩)
  case rest =>
    clear B_l
    clear B_r
    clear HB
    rename World => wc2
    obtain ⟨Pp, Pq, rfl, rfl, nePp, lePp, lePq, B_p, B_q, B_l, B_r, HB⟩ := hcut
    clear B_l
    go_upto_region 5 with (fail)
    have ek' := ek.out
    obtain ⟨c0p, c1p⟩ := cells2 B_p
    obtain ⟨c0q, c1q⟩ := cells2 B_q
    obtain ⟨c0r, c1r, c2r, c3r⟩ := cells4 B_r
    have tk1x0 : True := trivial
    go_region_held3 (fun w' => w'.cell? ⟨Pp, 0, none⟩ = some (.int .i64 a) ∧ w'.cell? ⟨Pp, 1, none⟩ = some (.int .i64 b) ∧ w'.cell? ⟨Pq, 0, none⟩ = some (.int .i64 c) ∧ w'.cell? ⟨Pq, 1, none⟩ = some (.int .i64 d) ∧ w'.cell? ⟨w.heap.size + 1, 0, none⟩ = some (.int .i64 x0) ∧ w'.cell? ⟨w.heap.size + 1, 1, none⟩ = some (.int .i64 y0) ∧ w'.cell? ⟨w.heap.size + 1, 2, none⟩ = some (.int .i64 x1) ∧ w'.cell? ⟨w.heap.size + 1, 3, none⟩ = some (.int .i64 y1)) (((try dsimp only); (repeat' apply And.intro) <;> (first | (with_reducible assumption) | ((repeat (first | (with_reducible refine Eq.trans (cell_drew1 _ _) ?_) | (with_reducible refine Eq.trans (cell_far (by omega) _ _ _) ?_) | (with_reducible refine Eq.trans (World.cell?_alloc_lt _ _ _ (by first | (dsimp only; omega) | (simp only [World.size_alloc, World.size_setCell]; omega))) ?_))); with_reducible assumption) | assumption | go_keep)))
    (first
      | (clear tk1x0; go_at_call 25; refine (T1.out _).mono ?_; rintro e w3 ⟨rfl, bb⟩; replace bb := nextw (w0 := wc2) (by exact sm) bb; replace B_r := mv B_r bb; replace B_p := mv B_p bb; replace B_q := mv B_q bb; replace HB := nx HB bb; clear bb c0p c1p c0q c1q c0r c1r c2r c3r; have c0p : w3.cell? ⟨Pp, 0, none⟩ = some (.int .i64 a) := B_p.out.cell 0 rfl; have c1p : w3.cell? ⟨Pp, 1, none⟩ = some (.int .i64 b) := B_p.out.cell 1 rfl; have c0q : w3.cell? ⟨Pq, 0, none⟩ = some (.int .i64 c) := B_q.out.cell 0 rfl; have c1q : w3.cell? ⟨Pq, 1, none⟩ = some (.int .i64 d) := B_q.out.cell 1 rfl; have c0r : w3.cell? ⟨w.heap.size + 1, 0, none⟩ = some (.int .i64 x0) := B_r.out.cell 0 rfl; have c1r : w3.cell? ⟨w.heap.size + 1, 1, none⟩ = some (.int .i64 y0) := B_r.out.cell 1 rfl; have c2r : w3.cell? ⟨w.heap.size + 1, 2, none⟩ = some (.int .i64 x1) := B_r.out.cell 2 rfl; have c3r : w3.cell? ⟨w.heap.size + 1, 3, none⟩ = some (.int .i64 y1) := B_r.out.cell 3 rfl; have tk1x1 : True := trivial)
      | (clear tk1x1; go_at_call 25; refine (T2.out _).mono ?_; rintro e w4 ⟨rfl, bb⟩; replace bb := nextw (w0 := w3) (by exact sm) bb; replace B_r := mv B_r bb; replace B_p := mv B_p bb; replace B_q := mv B_q bb; replace HB := nx HB bb; clear bb c0p c1p c0q c1q c0r c1r c2r c3r; have c0p : w4.cell? ⟨Pp, 0, none⟩ = some (.int .i64 a) := B_p.out.cell 0 rfl; have c1p : w4.cell? ⟨Pp, 1, none⟩ = some (.int .i64 b) := B_p.out.cell 1 rfl; have c0q : w4.cell? ⟨Pq, 0, none⟩ = some (.int .i64 c) := B_q.out.cell 0 rfl; have c1q : w4.cell? ⟨Pq, 1, none⟩ = some (.int .i64 d) := B_q.out.cell 1 rfl; have c0r : w4.cell? ⟨w.heap.size + 1, 0, none⟩ = some (.int .i64 x0) := B_r.out.cell 0 rfl; have c1r : w4.cell? ⟨w.heap.size + 1, 1, none⟩ = some (.int .i64 y0) := B_r.out.cell 1 rfl; have c2r : w4.cell? ⟨w.heap.size + 1, 2, none⟩ = some (.int .i64 x1) := B_r.out.cell 2 rfl; have c3r : w4.cell? ⟨w.heap.size + 1, 3, none⟩ = some (.int .i64 y1) := B_r.out.cell 3 rfl; have tk1x2 : True := trivial))
    clear c0p c1p c0q c1q c0r c1r c2r c3r
    clear ek ek' T1 T2
    obtain ⟨c0p, c1p⟩ := cells2 B_p
    obtain ⟨c0q, c1q⟩ := cells2 B_q
    obtain ⟨c0r, c1r, c2r, c3r⟩ := cells4 B_r
    go_wp2_with fail
    refine (T3.out _).mono ?_
    clear c0p c1p c0q c1q c0r c1r c2r c3r
    rintro e w5 ⟨rfl, bb⟩
    replace bb := nextw (w0 := w4) (by exact sm) bb
    replace B_r := mv B_r bb
    replace B_p := mv B_p bb
    replace B_q := mv B_q bb
    replace HB := nx HB bb
    clear bb
    clear T3
    go_upto_region 8 with (fail)
    obtain ⟨c0r, c1r, c2r, c3r⟩ := cells4 B_r
    go_wp2_with fail
    refine (HV.out _).mono ?_
    clear c0r c1r c2r c3r
    rintro e w6 ⟨rfl, bb⟩
    replace bb := nextw (w0 := w5) (by exact sm) bb
    replace B_r := mv B_r bb
    replace B_p := mv B_p bb
    replace B_q := mv B_q bb
    replace HB := nx HB bb
    clear bb
    obtain ⟨c0p, c1p⟩ := cells2 B_p
    go_wp2_with fail
    refine (S0.out _).mono ?_
    rintro e w7 ⟨rfl, rfl⟩
    go_wp2_with fail
    refine (S1.out _).mono ?_
    rintro e w8 ⟨rfl, rfl⟩
    clear c0p c1p
    go_upto_region 10 with (fail)
    have ekk : IntKind.i64.wrap (k * k) = k * k := ekk0.out
    obtain ⟨c0p, c1p⟩ := cells2 B_p
    obtain ⟨c0r, c1r, c2r, c3r⟩ := cells4 B_r
    have tk2x0 : True := trivial
    go_region_held3 (fun w' => w'.cell? ⟨Pp, 0, none⟩ = some (.int .i64 a) ∧ w'.cell? ⟨Pp, 1, none⟩ = some (.int .i64 b) ∧ w'.cell? ⟨w.heap.size + 1, 0, none⟩ = some (.int .i64 x0) ∧ w'.cell? ⟨w.heap.size + 1, 1, none⟩ = some (.int .i64 y0) ∧ w'.cell? ⟨w.heap.size + 1, 2, none⟩ = some (.int .i64 x1) ∧ w'.cell? ⟨w.heap.size + 1, 3, none⟩ = some (.int .i64 y1)) (((try dsimp only); (repeat' apply And.intro) <;> (first | (with_reducible assumption) | ((repeat (first | (with_reducible refine Eq.trans (cell_drew1 _ _) ?_) | (with_reducible refine Eq.trans (cell_far (by omega) _ _ _) ?_) | (with_reducible refine Eq.trans (World.cell?_alloc_lt _ _ _ (by first | (dsimp only; omega) | (simp only [World.size_alloc, World.size_setCell]; omega))) ?_))); with_reducible assumption) | assumption | go_keep)))
    (first
      | (clear tk2x0; go_at_call 25; refine (T4.out _).mono ?_; rintro e w9 ⟨rfl, bb⟩; replace bb := nextw (w0 := w6) (by exact sm) bb; replace B_r := mv B_r bb; replace B_p := mv B_p bb; replace B_q := mv B_q bb; replace HB := nx HB bb; clear bb c0p c1p c0r c1r c2r c3r; have c0p : w9.cell? ⟨Pp, 0, none⟩ = some (.int .i64 a) := B_p.out.cell 0 rfl; have c1p : w9.cell? ⟨Pp, 1, none⟩ = some (.int .i64 b) := B_p.out.cell 1 rfl; have c0r : w9.cell? ⟨w.heap.size + 1, 0, none⟩ = some (.int .i64 x0) := B_r.out.cell 0 rfl; have c1r : w9.cell? ⟨w.heap.size + 1, 1, none⟩ = some (.int .i64 y0) := B_r.out.cell 1 rfl; have c2r : w9.cell? ⟨w.heap.size + 1, 2, none⟩ = some (.int .i64 x1) := B_r.out.cell 2 rfl; have c3r : w9.cell? ⟨w.heap.size + 1, 3, none⟩ = some (.int .i64 y1) := B_r.out.cell 3 rfl; have tk2x1 : True := trivial)
      | (clear tk2x1; go_at_call 23; refine (HG.out _).mono ?_; rintro e w10 ⟨rfl, bb⟩; replace bb := nextw (w0 := w9) (by exact sm) bb; replace B_r := mv B_r bb; replace B_p := mv B_p bb; replace B_q := mv B_q bb; replace HB := nx HB bb; clear bb c0p c1p c0r c1r c2r c3r; have c0p : w10.cell? ⟨Pp, 0, none⟩ = some (.int .i64 a) := B_p.out.cell 0 rfl; have c1p : w10.cell? ⟨Pp, 1, none⟩ = some (.int .i64 b) := B_p.out.cell 1 rfl; have c0r : w10.cell? ⟨w.heap.size + 1, 0, none⟩ = some (.int .i64 x0) := B_r.out.cell 0 rfl; have c1r : w10.cell? ⟨w.heap.size + 1, 1, none⟩ = some (.int .i64 y0) := B_r.out.cell 1 rfl; have c2r : w10.cell? ⟨w.heap.size + 1, 2, none⟩ = some (.int .i64 x1) := B_r.out.cell 2 rfl; have c3r : w10.cell? ⟨w.heap.size + 1, 3, none⟩ = some (.int .i64 y1) := B_r.out.cell 3 rfl; have tk2x2 : True := trivial))
    clear c0p c1p c0r c1r c2r c3r
    clear ekk ekk0 T4
    go_upto_region 12 with (fail)
    obtain ⟨c0q, c1q⟩ := cells2 B_q
    go_wp2_with fail
    refine (S2.out _).mono ?_
    rintro e w11 ⟨rfl, rfl⟩
    go_wp2_with fail
    refine (S3.out _).mono ?_
    rintro e w12 ⟨rfl, rfl⟩
    obtain ⟨c0p, c1p⟩ := cells2 B_p
    go_wp2_with fail
    refine (S4.out _).mono ?_
    rintro e w13 ⟨rfl, rfl⟩
    go_wp2
    go_ret
    exact ⟨rfl, nextw HB.out (by exact sm)⟩

set_option maxRecDepth 100000 in
set_option maxHeartbeats 8000000 in
theorem Radii_v (a b c d x0 y0 x1 y1 n : Int) (n0 : 0 ≤ n) (n1 : n ≤ 65535) (hr : OkR x0 y0 x1 y1) (ha : OkC a) (hb : OkC b) (hc : OkC c) (hd : OkC d) (hw : -1024 ≤ a - c ∧ a - c ≤ 1024) (hv : ¬ (-1024 ≤ b - d ∧ b - d ≤ 1024)) (w : World) :
    Calls Try.prog 11 #[.agg #[.int .i64 a, .int .i64 b, .int .i64 c, .int .i64 d], .agg #[.int .i64 x0, .int .i64 y0, .int .i64 x1, .int .i64 y1], .int .u16 n] w fun e w' => e = .returned (.bool true) ∧ Below w.heap.size w w' := by
  have HA := Lib.hid (fun w => awake_any w)
  have k0 : 0 ≤ n % 1024 := by omega
  have k1 : n % 1024 ≤ 1023 := by omega
  have T1 := Lib.hid (fun w => Touch_any a b c d x0 y0 x1 y1 (n % 1024) w)
  have T2 := Lib.hid (fun w => Touch_any a b c d x0 y0 x1 y1 ((n % 1024) + 1) w)
  have T3 := Lib.hid (fun w => Touch_any c d a b x0 y0 x1 y1 (n % 1024) w)
  rw [tk_flip] at T3
  rw [decide_eq_false (fun h : TK a b c d x0 y0 x1 y1 (n % 1024) ∧ To a b c d x0 y0 x1 y1 (n % 1024) => hv (by have := h.1.w; omega))] at T1
  rw [decide_eq_false (fun h : TK a b c d x0 y0 x1 y1 ((n % 1024) + 1) ∧ To a b c d x0 y0 x1 y1 ((n % 1024) + 1) => hv (by have := h.1.w; omega))] at T2
  rw [decide_eq_false (fun h : TK a b c d x0 y0 x1 y1 (n % 1024) ∧ To a b c d x0 y0 x1 y1 (n % 1024) => hv (by have := h.1.w; omega))] at T3
  have HV := Lib.hid (fun w => ValidRect_t hr w)
  have S0 := Lib.hid (fun w => SizeL_t ha w)
  have S1 := Lib.hid (fun w => SizeL_t hb w)
  have hp : OkP a b := ⟨ha.1, ha.2, hb.1, hb.2⟩
  have T4 := Lib.hid (fun w => Touch_any a b a b x0 y0 x1 y1 (n % 1024) w)
  rw [tk_point hp hr k0 (by omega)] at T4
  have HG := Lib.hid (fun w => Gap_ok a b x0 y0 x1 y1 hp hr w)
  have ekk0 : Hid (IntKind.i64.wrap ((n % 1024) * (n % 1024)) = (n % 1024) * (n % 1024)) := by have := mul_le (a := (n % 1024)) (b := (n % 1024)) (A := 1024) (B := 1024) (by omega) (by omega) (by omega) (by omega); unfold Hid; rw [IntKind.wrap_i64]; omega
  have S4 := Lib.hid (fun w => Size_t (n := a - c) (m := 1024) (by decide) (by decide) hw w)
  have S5 := Lib.hid (fun w => Size_f (n := b - d) (m := 1024) (by decide) (by decide) hv w)
  have S2 := Lib.hid (fun w => SizeL_t hc w)
  have S3 := Lib.hid (fun w => SizeL_t hd w)
  obtain ⟨p1, p2, p3, p4⟩ := hp
  obtain ⟨q1, q2⟩ := hc
  obtain ⟨q3, q4⟩ := hd
  clear hr ha hb hw hv
  generalize gapM a b x0 y0 x1 y1 = gp at *
  skip
  obtain ⟨HB, B_l, B_r⟩ := box2 w 41 #[.int .i64 a, .int .i64 b, .int .i64 c, .int .i64 d] 29 #[.int .i64 x0, .int .i64 y0, .int .i64 x1, .int .i64 y1]
  go_enter Try.func11, Try.ntmps11
  go_wp2_with fail
  generalize (w.alloc (.cells #[.int .i64 a, .int .i64 b, .int .i64 c, .int .i64 d] 41)).alloc (.cells #[.int .i64 x0, .int .i64 y0, .int .i64 x1, .int .i64 y1] 29) = W0 at *
  refine (HA.out _).mono ?_
  rintro e w1 ⟨rfl, bb⟩
  replace bb := nextw (w0 := W0) (by exact sm) bb
  replace B_l := mv B_l bb
  replace B_r := mv B_r bb
  replace HB := nx HB bb
  clear bb
  go_upto_region 4 with (fail)
  generalize n % 1024 = k at *
  have ek : IntKind.i64.wrap (k + 1) = k + 1 := by rw [IntKind.wrap_i64]; omega
  replace ek := Lib.hid ek
  go_cut [8, 9] (fun sA sB wx => ∃ Pp Pq : Nat, sA = (.pointer (some ⟨Pp, 0, none⟩)) ∧ sB = (.pointer (some ⟨Pq, 0, none⟩)) ∧ Hid (Pp ≠ Pq) ∧ Hid (w.heap.size ≤ Pp) ∧ Hid (w.heap.size ≤ Pq) ∧ Hid (Bx wx (Pp) 23 #[.int .i64 a, .int .i64 b]) ∧ Hid (Bx wx (Pq) 23 #[.int .i64 c, .int .i64 d]) ∧ Hid (Bx wx (w.heap.size) 41 #[.int .i64 a, .int .i64 b, .int .i64 c, .int .i64 d]) ∧ Hid (Bx wx (w.heap.size + 1) 29 #[.int .i64 x0, .int .i64 y0, .int .i64 x1, .int .i64 y1]) ∧ Hid (Below w.heap.size w wx))
  case first =>
    obtain ⟨c0l, c1l, c2l, c3l⟩ := cells4 B_l
    go_region_held3 (fun w' => w'.cell? ⟨w.heap.size, 0, none⟩ = some (.int .i64 a) ∧ w'.cell? ⟨w.heap.size, 1, none⟩ = some (.int .i64 b) ∧ w'.cell? ⟨w.heap.size, 2, none⟩ = some (.int .i64 c) ∧ w'.cell? ⟨w.heap.size, 3, none⟩ = some (.int .i64 d)) (((try dsimp only); (repeat' apply And.intro) <;> (first | (with_reducible assumption) | ((repeat (first | (with_reducible refine Eq.trans (cell_drew1 _ _) ?_) | (with_reducible refine Eq.trans (cell_far (by omega) _ _ _) ?_) | (with_reducible refine Eq.trans (World.cell?_alloc_lt _ _ _ (by first | (dsimp only; omega) | (simp only [World.size_alloc, World.size_setCell]; omega))) ?_))); with_reducible assumption) | assumption | go_keep)))
        (first | fail)
    all_goals clear c0l c1l c2l c3l
    all_goals go_wp2_with fail
    all_goals go_meet
    all_goals first | (obtain ⟨bb, b0, b1⟩ := box2 w1 23 #[.int .i64 a, .int .i64 b] 23 #[.int .i64 c, .int .i64 d]; replace bb := bb.out; have hs := HB.out.size; exact ⟨w1.heap.size, w1.heap.size + 1, rfl, rfl, (by unfold Hid; omega), (by unfold Hid; omega), (by unfold Hid; omega), mv b0 sm, mv b1 sm, mv (mv B_l bb) sm, mv (mv B_r bb) sm, nx (nx HB bb) sm⟩) | (obtain ⟨bb, b0, b1⟩ := box2 w1 23 #[.int .i64 c, .int .i64 d] 23 #[.int .i64 a, .int .i64 b]; replace bb := bb.out; have hs := HB.out.size; exact ⟨w1.heap.size + 1, w1.heap.size, rfl, rfl, (by unfold Hid; omega), (by unfold Hid; omega), (by unfold Hid; omega), mv b1 sm, mv b0 sm, mv (mv B_l bb) sm, mv (mv B_r bb) sm, nx (nx HB bb) sm⟩)
  case rest =>
    clear B_l
    clear B_r
    clear HB
    rename World => wc2
    obtain ⟨Pp, Pq, rfl, rfl, nePp, lePp, lePq, B_p, B_q, B_l, B_r, HB⟩ := hcut
    clear B_l
    go_upto_region 5 with (fail)
    have ek' := ek.out
    obtain ⟨c0p, c1p⟩ := cells2 B_p
    obtain ⟨c0q, c1q⟩ := cells2 B_q
    obtain ⟨c0r, c1r, c2r, c3r⟩ := cells4 B_r
    have tk1x0 : True := trivial
    go_region_held3 (fun w' => w'.cell? ⟨Pp, 0, none⟩ = some (.int .i64 a) ∧ w'.cell? ⟨Pp, 1, none⟩ = some (.int .i64 b) ∧ w'.cell? ⟨Pq, 0, none⟩ = some (.int .i64 c) ∧ w'.cell? ⟨Pq, 1, none⟩ = some (.int .i64 d) ∧ w'.cell? ⟨w.heap.size + 1, 0, none⟩ = some (.int .i64 x0) ∧ w'.cell? ⟨w.heap.size + 1, 1, none⟩ = some (.int .i64 y0) ∧ w'.cell? ⟨w.heap.size + 1, 2, none⟩ = some (.int .i64 x1) ∧ w'.cell? ⟨w.heap.size + 1, 3, none⟩ = some (.int .i64 y1)) (((try dsimp only); (repeat' apply And.intro) <;> (first | (with_reducible assumption) | ((repeat (first | (with_reducible refine Eq.trans (cell_drew1 _ _) ?_) | (with_reducible refine Eq.trans (cell_far (by omega) _ _ _) ?_) | (with_reducible refine Eq.trans (World.cell?_alloc_lt _ _ _ (by first | (dsimp only; omega) | (simp only [World.size_alloc, World.size_setCell]; omega))) ?_))); with_reducible assumption) | assumption | go_keep)))
    (first
      | (clear tk1x0; go_at_call 25; refine (T1.out _).mono ?_; rintro e w3 ⟨rfl, bb⟩; replace bb := nextw (w0 := wc2) (by exact sm) bb; replace B_r := mv B_r bb; replace B_p := mv B_p bb; replace B_q := mv B_q bb; replace HB := nx HB bb; clear bb c0p c1p c0q c1q c0r c1r c2r c3r; have c0p : w3.cell? ⟨Pp, 0, none⟩ = some (.int .i64 a) := B_p.out.cell 0 rfl; have c1p : w3.cell? ⟨Pp, 1, none⟩ = some (.int .i64 b) := B_p.out.cell 1 rfl; have c0q : w3.cell? ⟨Pq, 0, none⟩ = some (.int .i64 c) := B_q.out.cell 0 rfl; have c1q : w3.cell? ⟨Pq, 1, none⟩ = some (.int .i64 d) := B_q.out.cell 1 rfl; have c0r : w3.cell? ⟨w.heap.size + 1, 0, none⟩ = some (.int .i64 x0) := B_r.out.cell 0 rfl; have c1r : w3.cell? ⟨w.heap.size + 1, 1, none⟩ = some (.int .i64 y0) := B_r.out.cell 1 rfl; have c2r : w3.cell? ⟨w.heap.size + 1, 2, none⟩ = some (.int .i64 x1) := B_r.out.cell 2 rfl; have c3r : w3.cell? ⟨w.heap.size + 1, 3, none⟩ = some (.int .i64 y1) := B_r.out.cell 3 rfl; have tk1x1 : True := trivial)
      | (clear tk1x1; go_at_call 25; refine (T2.out _).mono ?_; rintro e w4 ⟨rfl, bb⟩; replace bb := nextw (w0 := w3) (by exact sm) bb; replace B_r := mv B_r bb; replace B_p := mv B_p bb; replace B_q := mv B_q bb; replace HB := nx HB bb; clear bb c0p c1p c0q c1q c0r c1r c2r c3r; have c0p : w4.cell? ⟨Pp, 0, none⟩ = some (.int .i64 a) := B_p.out.cell 0 rfl; have c1p : w4.cell? ⟨Pp, 1, none⟩ = some (.int .i64 b) := B_p.out.cell 1 rfl; have c0q : w4.cell? ⟨Pq, 0, none⟩ = some (.int .i64 c) := B_q.out.cell 0 rfl; have c1q : w4.cell? ⟨Pq, 1, none⟩ = some (.int .i64 d) := B_q.out.cell 1 rfl; have c0r : w4.cell? ⟨w.heap.size + 1, 0, none⟩ = some (.int .i64 x0) := B_r.out.cell 0 rfl; have c1r : w4.cell? ⟨w.heap.size + 1, 1, none⟩ = some (.int .i64 y0) := B_r.out.cell 1 rfl; have c2r : w4.cell? ⟨w.heap.size + 1, 2, none⟩ = some (.int .i64 x1) := B_r.out.cell 2 rfl; have c3r : w4.cell? ⟨w.heap.size + 1, 3, none⟩ = some (.int .i64 y1) := B_r.out.cell 3 rfl; have tk1x2 : True := trivial))
    clear c0p c1p c0q c1q c0r c1r c2r c3r
    clear ek ek' T1 T2
    obtain ⟨c0p, c1p⟩ := cells2 B_p
    obtain ⟨c0q, c1q⟩ := cells2 B_q
    obtain ⟨c0r, c1r, c2r, c3r⟩ := cells4 B_r
    go_wp2_with fail
    refine (T3.out _).mono ?_
    clear c0p c1p c0q c1q c0r c1r c2r c3r
    rintro e w5 ⟨rfl, bb⟩
    replace bb := nextw (w0 := w4) (by exact sm) bb
    replace B_r := mv B_r bb
    replace B_p := mv B_p bb
    replace B_q := mv B_q bb
    replace HB := nx HB bb
    clear bb
    clear T3
    go_upto_region 8 with (fail)
    obtain ⟨c0r, c1r, c2r, c3r⟩ := cells4 B_r
    go_wp2_with fail
    refine (HV.out _).mono ?_
    clear c0r c1r c2r c3r
    rintro e w6 ⟨rfl, bb⟩
    replace bb := nextw (w0 := w5) (by exact sm) bb
    replace B_r := mv B_r bb
    replace B_p := mv B_p bb
    replace B_q := mv B_q bb
    replace HB := nx HB bb
    clear bb
    obtain ⟨c0p, c1p⟩ := cells2 B_p
    go_wp2_with fail
    refine (S0.out _).mono ?_
    rintro e w7 ⟨rfl, rfl⟩
    go_wp2_with fail
    refine (S1.out _).mono ?_
    rintro e w8 ⟨rfl, rfl⟩
    clear c0p c1p
    go_upto_region 10 with (fail)
    have ekk : IntKind.i64.wrap (k * k) = k * k := ekk0.out
    obtain ⟨c0p, c1p⟩ := cells2 B_p
    obtain ⟨c0r, c1r, c2r, c3r⟩ := cells4 B_r
    have tk2x0 : True := trivial
    go_region_held3 (fun w' => w'.cell? ⟨Pp, 0, none⟩ = some (.int .i64 a) ∧ w'.cell? ⟨Pp, 1, none⟩ = some (.int .i64 b) ∧ w'.cell? ⟨w.heap.size + 1, 0, none⟩ = some (.int .i64 x0) ∧ w'.cell? ⟨w.heap.size + 1, 1, none⟩ = some (.int .i64 y0) ∧ w'.cell? ⟨w.heap.size + 1, 2, none⟩ = some (.int .i64 x1) ∧ w'.cell? ⟨w.heap.size + 1, 3, none⟩ = some (.int .i64 y1)) (((try dsimp only); (repeat' apply And.intro) <;> (first | (with_reducible assumption) | ((repeat (first | (with_reducible refine Eq.trans (cell_drew1 _ _) ?_) | (with_reducible refine Eq.trans (cell_far (by omega) _ _ _) ?_) | (with_reducible refine Eq.trans (World.cell?_alloc_lt _ _ _ (by first | (dsimp only; omega) | (simp only [World.size_alloc, World.size_setCell]; omega))) ?_))); with_reducible assumption) | assumption | go_keep)))
    (first
      | (clear tk2x0; go_at_call 25; refine (T4.out _).mono ?_; rintro e w9 ⟨rfl, bb⟩; replace bb := nextw (w0 := w6) (by exact sm) bb; replace B_r := mv B_r bb; replace B_p := mv B_p bb; replace B_q := mv B_q bb; replace HB := nx HB bb; clear bb c0p c1p c0r c1r c2r c3r; have c0p : w9.cell? ⟨Pp, 0, none⟩ = some (.int .i64 a) := B_p.out.cell 0 rfl; have c1p : w9.cell? ⟨Pp, 1, none⟩ = some (.int .i64 b) := B_p.out.cell 1 rfl; have c0r : w9.cell? ⟨w.heap.size + 1, 0, none⟩ = some (.int .i64 x0) := B_r.out.cell 0 rfl; have c1r : w9.cell? ⟨w.heap.size + 1, 1, none⟩ = some (.int .i64 y0) := B_r.out.cell 1 rfl; have c2r : w9.cell? ⟨w.heap.size + 1, 2, none⟩ = some (.int .i64 x1) := B_r.out.cell 2 rfl; have c3r : w9.cell? ⟨w.heap.size + 1, 3, none⟩ = some (.int .i64 y1) := B_r.out.cell 3 rfl; have tk2x1 : True := trivial)
      | (clear tk2x1; go_at_call 23; refine (HG.out _).mono ?_; rintro e w10 ⟨rfl, bb⟩; replace bb := nextw (w0 := w9) (by exact sm) bb; replace B_r := mv B_r bb; replace B_p := mv B_p bb; replace B_q := mv B_q bb; replace HB := nx HB bb; clear bb c0p c1p c0r c1r c2r c3r; have c0p : w10.cell? ⟨Pp, 0, none⟩ = some (.int .i64 a) := B_p.out.cell 0 rfl; have c1p : w10.cell? ⟨Pp, 1, none⟩ = some (.int .i64 b) := B_p.out.cell 1 rfl; have c0r : w10.cell? ⟨w.heap.size + 1, 0, none⟩ = some (.int .i64 x0) := B_r.out.cell 0 rfl; have c1r : w10.cell? ⟨w.heap.size + 1, 1, none⟩ = some (.int .i64 y0) := B_r.out.cell 1 rfl; have c2r : w10.cell? ⟨w.heap.size + 1, 2, none⟩ = some (.int .i64 x1) := B_r.out.cell 2 rfl; have c3r : w10.cell? ⟨w.heap.size + 1, 3, none⟩ = some (.int .i64 y1) := B_r.out.cell 3 rfl; have tk2x2 : True := trivial))
    clear c0p c1p c0r c1r c2r c3r
    clear ekk ekk0 T4
    go_upto_region 12 with (fail)
    obtain ⟨c0q, c1q⟩ := cells2 B_q
    go_wp2_with fail
    refine (S2.out _).mono ?_
    rintro e w11 ⟨rfl, rfl⟩
    go_wp2_with fail
    refine (S3.out _).mono ?_
    rintro e w12 ⟨rfl, rfl⟩
    obtain ⟨c0p, c1p⟩ := cells2 B_p
    go_wp2_with fail
    refine (S4.out _).mono ?_
    rintro e w13 ⟨rfl, rfl⟩
    go_wp2_with fail
    refine (S5.out _).mono ?_
    rintro e w14 ⟨rfl, rfl⟩
    go_wp2
    go_ret
    exact ⟨rfl, nextw HB.out (by exact sm)⟩
end Go.Proofs.Ytaflgmiagjldhaa
