/- The law SegmentRadii: the smaller radius suffices. -/
import Derived.Test.YtaflgmiagjldhaaS17
set_option linter.unusedVariables false
set_option linter.unusedSimpArgs false
namespace Go.Proofs.Ytaflgmiagjldhaa
open Go Go.RowKit Hd

set_option maxRecDepth 100000 in
set_option maxHeartbeats 8000000 in
theorem Radii_vtp (a b c d x0 y0 x1 y1 n : Int) (n0 : 0 ≤ n) (n1 : n ≤ 65535) (hr : OkR x0 y0 x1 y1) (ha : OkC a) (hb : OkC b) (hc : OkC c) (hd : OkC d) (hw : -1024 ≤ a - c ∧ a - c ≤ 1024) (hv : -1024 ≤ b - d ∧ b - d ≤ 1024) (hs : To a b c d x0 y0 x1 y1 (n % 1024)) (g0 : gapM a b x0 y0 x1 y1 = 0) (w : World) :
    Calls Try.prog 11 #[.agg #[.int .i64 a, .int .i64 b, .int .i64 c, .int .i64 d], .agg #[.int .i64 x0, .int .i64 y0, .int .i64 x1, .int .i64 y1], .int .u16 n] w fun e w' => e = .returned (.bool true) ∧ Below w.heap.size w w' := by
  have HA := Lib.hid (fun w => awake_any w)
  have k0 : 0 ≤ n % 1024 := by omega
  have k1 : n % 1024 ≤ 1023 := by omega
  have T1 := Lib.hid (fun w => Touch_any a b c d x0 y0 x1 y1 (n % 1024) w)
  have T2 := Lib.hid (fun w => Touch_any a b c d x0 y0 x1 y1 ((n % 1024) + 1) w)
  have T3 := Lib.hid (fun w => Touch_any c d a b x0 y0 x1 y1 (n % 1024) w)
  rw [tk_flip] at T3
  have hp : OkP a b := ⟨ha.1, ha.2, hb.1, hb.2⟩
  have hq : OkP c d := ⟨hc.1, hc.2, hd.1, hd.2⟩
  have c00 : OkP x0 y0 := ⟨hr.a1, hr.a2, hr.b1, hr.b2⟩
  have c11 : OkP x1 y1 := ⟨hr.c1, hr.c2, hr.d1, hr.d2⟩
  have c01 : OkP x0 y1 := ⟨hr.a1, hr.a2, hr.d1, hr.d2⟩
  have c10 : OkP x1 y0 := ⟨hr.c1, hr.c2, hr.b1, hr.b2⟩
  have hT : ∀ j, 0 ≤ j → j ≤ 1024 → TK a b c d x0 y0 x1 y1 j := fun j j0 j1 => ⟨hp, hq, ⟨⟨by omega, by omega⟩, by omega, by omega⟩, hr, j0, j1⟩
  rw [decide_eq_true ⟨hT (n % 1024) k0 (by omega), hs⟩] at T1 T3
  rw [decide_eq_true ⟨hT ((n % 1024) + 1) (by omega) (by omega), to_more k0 hs⟩] at T2
  have HV := Lib.hid (fun w => ValidRect_t hr w)
  have S0 := Lib.hid (fun w => SizeL_t ha w)
  have S1 := Lib.hid (fun w => SizeL_t hb w)
  have T4 := Lib.hid (fun w => Touch_any a b a b x0 y0 x1 y1 (n % 1024) w)
  rw [tk_point hp hr k0 (by omega)] at T4
  have HG := Lib.hid (fun w => Gap_ok a b x0 y0 x1 y1 hp hr w)
  have ekk0 : Hid (IntKind.i64.wrap ((n % 1024) * (n % 1024)) = (n % 1024) * (n % 1024)) := by have := mul_le (a := (n % 1024)) (b := (n % 1024)) (A := 1024) (B := 1024) (by omega) (by omega) (by omega) (by omega); unfold Hid; rw [IntKind.wrap_i64]; omega
  have S2 := Lib.hid (fun w => SizeL_t hc w)
  have S3 := Lib.hid (fun w => SizeL_t hd w)
  have S4 := Lib.hid (fun w => Size_t (n := a - c) (m := 1024) (by decide) (by decide) hw w)
  have S5 := Lib.hid (fun w => Size_t (n := b - d) (m := 1024) (by decide) (by decide) hv w)
  have T5 := Lib.hid (fun w => Touch_any a b c d x0 y0 x1 y1 0 w)
  rw [decide_eq_true ⟨hT 0 (by omega) (by omega), (to_zero hr.hx hr.hy).2 (.inl g0)⟩] at T5
  generalize gapM a b x0 y0 x1 y1 = gp at *
  subst g0
  obtain ⟨p1, p2⟩ := ha
  obtain ⟨p3, p4⟩ := hb
  obtain ⟨q1, q2⟩ := hc
  obtain ⟨q3, q4⟩ := hd
  clear hT hp hq c00 c11 c01 c10 hr hs 
  skip
  obtain ⟨HB, B_l, B_r⟩ := box2 w 41 #[.int .i64 a, .int .i64 b, .int .i64 c, .int .i64 d] 29 #[.int .i64 x0, .int .i64 y0, .int .i64 x1, .int .i64 y1]
  go_enter Try.func11, Try.ntmps11
  go_wp2_with fail
  generalize (w.alloc (.cells #[.int .i64 a, .int .i64 b, .int .i64 c, .int .i64 d] 41)).alloc (.cells #[.int .i64 x0, .int .i64 y0, .int .i64 x1, .int .i64 y1] 29) = W0 at *
  refine (HA.out _).mono ?_
  rintro e w1 ⟨rfl, bb⟩
  replace bb := nextw (w0 := W0) (by exact sm) bb
  replace B_l := mv B_l bb
  replace B_r := mv B_r bb
  replace HB := nx HB bb
  clear bb
  go_upto_region 4 with (fail)
  generalize n % 1024 = k at *
  have ek : IntKind.i64.wrap (k + 1) = k + 1 := by rw [IntKind.wrap_i64]; omega
  replace ek := Lib.hid ek
  go_cut [8, 9] (fun sA sB wx => ∃ Pp Pq : Nat, sA = (.pointer (some ⟨Pp, 0, none⟩)) ∧ sB = (.pointer (some ⟨Pq, 0, none⟩)) ∧ Hid (Pp ≠ Pq) ∧ Hid (w.heap.size ≤ Pp) ∧ Hid (w.heap.size ≤ Pq) ∧ Hid (Bx wx (Pp) 23 #[.int .i64 a, .int .i64 b]) ∧ Hid (Bx wx (Pq) 23 #[.int .i64 c, .int .i64 d]) ∧ Hid (Bx wx (w.heap.size) 41 #[.int .i64 a, .int .i64 b, .int .i64 c, .int .i64 d]) ∧ Hid (Bx wx (w.heap.size + 1) 29 #[.int .i64 x0, .int .i64 y0, .int .i64 x1, .int .i64 y1]) ∧ Hid (Below w.heap.size w wx))
  case first =>
    obtain ⟨c0l, c1l, c2l, c3l⟩ := cells4 B_l
    go_region_held3 (fun w' => w'.cell? ⟨w.heap.size, 0, none⟩ = some (.int .i64 a) ∧ w'.cell? ⟨w.heap.size, 1, none⟩ = some (.int .i64 b) ∧ w'.cell? ⟨w.heap.size, 2, none⟩ = some (.int .i64 c) ∧ w'.cell? ⟨w.heap.size, 3, none⟩ = some (.int .i64 d)) (((try dsimp only); (repeat' apply And.intro) <;> (first | (with_reducible assumption) | ((repeat (first | (with_reducible refine Eq.trans (cell_drew1 _ _) ?_) | (with_reducible refine Eq.trans (cell_far (by omega) _ _ _) ?_) | (with_reducible refine Eq.trans (World.cell?_alloc_lt _ _ _ (by first | (dsimp only; omega) | (simp only [World.size_alloc, World.size_setCell]; omega))) ?_))); with_reducible assumption) | assumption | go_keep)))
        (first | fail)
    all_goals clear c0l c1l c2l c3l
    all_goals go_wp2_with fail
    all_goals go_meet
    all_goals first | (obtain ⟨bb, b0, b1⟩ := box2 w1 23 #[.int .i64 a, .int .i64 b] 23 #[.int .i64 c, .int .i64 d]; replace bb := bb.out; have hs := HB.out.size; exact ⟨w1.heap.size, w1.heap.size + 1, rfl, rfl, (by unfold Hid; omega), (by unfold Hid; omega), (by unfold Hid; omega), mv b0 sm, mv b1 sm, mv (mv B_l bb) sm, mv (mv B_r bb) sm, nx (nx HB bb) sm⟩) | (obtain ⟨bb, b0, b1⟩ := box2 w1 23 #[.int .i64 c, .int .i64 d] 23 #[.int .i64 a, .int .i64 b]; replace bb := bb.out; have hs := HB.out.size; exact ⟨w1.heap.size + 1, w1.heap.size, rfl, rfl, (by unfold Hid; omega), (by unfold Hid; omega), (by unfold Hid; omega), mv b1 sm, mv b0 sm, mv (mv B_l bb) sm, mv (mv B_r bb) sm, nx (nx HB bb) sm⟩)
  case rest =>
    clear B_l
    clear B_r
    clear HB
    rename World => wc2
    obtain ⟨Pp, Pq, rfl, rfl, nePp, lePp, lePq, B_p, B_q, B_l, B_r, HB⟩ := hcut
    clear B_l
    go_upto_region 5 with (fail)
    have ek' := ek.out
    obtain ⟨c0p, c1p⟩ := cells2 B_p
    obtain ⟨c0q, c1q⟩ := cells2 B_q
    obtain ⟨c0r, c1r, c2r, c3r⟩ := cells4 B_r
    have tk1x0 : True := trivial
    go_region_held3 (fun w' => w'.cell? ⟨Pp, 0, none⟩ = some (.int .i64 a) ∧ w'.cell? ⟨Pp, 1, none⟩ = some (.int .i64 b) ∧ w'.cell? ⟨Pq, 0, none⟩ = some (.int .i64 c) ∧ w'.cell? ⟨Pq, 1, none⟩ = some (.int .i64 d) ∧ w'.cell? ⟨w.heap.size + 1, 0, none⟩ = some (.int .i64 x0) ∧ w'.cell? ⟨w.heap.size + 1, 1, none⟩ = some (.int .i64 y0) ∧ w'.cell? ⟨w.heap.size + 1, 2, none⟩ = some (.int .i64 x1) ∧ w'.cell? ⟨w.heap.size + 1, 3, none⟩ = some (.int .i64 y1)) (((try dsimp only); (repeat' apply And.intro) <;> (first | (with_reducible assumption) | ((repeat (first | (with_reducible refine Eq.trans (cell_drew1 _ _) ?_) | (with_reducible refine Eq.trans (cell_far (by omega) _ _ _) ?_) | (with_reducible refine Eq.trans (World.cell?_alloc_lt _ _ _ (by first | (dsimp only; omega) | (simp only [World.size_alloc, World.size_setCell]; omega))) ?_))); with_reducible assumption) | assumption | go_keep)))
    (first
      | (clear tk1x0; go_at_call 25; refine (T1.out _).mono ?_; rintro e w3 ⟨rfl, bb⟩; replace bb := nextw (w0 := wc2) (by exact sm) bb; replace B_r := mv B_r bb; replace B_p := mv B_p bb; replace B_q := mv B_q bb; replace HB := nx HB bb; clear bb c0p c1p c0q c1q c0r c1r c2r c3r; have c0p : w3.cell? ⟨Pp, 0, none⟩ = some (.int .i64 a) := B_p.out.cell 0 rfl; have c1p : w3.cell? ⟨Pp, 1, none⟩ = some (.int .i64 b) := B_p.out.cell 1 rfl; have c0q : w3.cell? ⟨Pq, 0, none⟩ = some (.int .i64 c) := B_q.out.cell 0 rfl; have c1q : w3.cell? ⟨Pq, 1, none⟩ = some (.int .i64 d) := B_q.out.cell 1 rfl; have c0r : w3.cell? ⟨w.heap.size + 1, 0, none⟩ = some (.int .i64 x0) := B_r.out.cell 0 rfl; have c1r : w3.cell? ⟨w.heap.size + 1, 1, none⟩ = some (.int .i64 y0) := B_r.out.cell 1 rfl; have c2r : w3.cell? ⟨w.heap.size + 1, 2, none⟩ = some (.int .i64 x1) := B_r.out.cell 2 rfl; have c3r : w3.cell? ⟨w.heap.size + 1, 3, none⟩ = some (.int .i64 y1) := B_r.out.cell 3 rfl; have tk1x1 : True := trivial)
      | (clear tk1x1; go_at_call 25; refine (T2.out _).mono ?_; rintro e w4 ⟨rfl, bb⟩; replace bb := nextw (w0 := w3) (by exact sm) bb; replace B_r := mv B_r bb; replace B_p := mv B_p bb; replace B_q := mv B_q bb; replace HB := nx HB bb; clear bb c0p c1p c0q c1q c0r c1r c2r c3r; have c0p : w4.cell? ⟨Pp, 0, none⟩ = some (.int .i64 a) := B_p.out.cell 0 rfl; have c1p : w4.cell? ⟨Pp, 1, none⟩ = some (.int .i64 b) := B_p.out.cell 1 rfl; have c0q : w4.cell? ⟨Pq, 0, none⟩ = some (.int .i64 c) := B_q.out.cell 0 rfl; have c1q : w4.cell? ⟨Pq, 1, none⟩ = some (.int .i64 d) := B_q.out.cell 1 rfl; have c0r : w4.cell? ⟨w.heap.size + 1, 0, none⟩ = some (.int .i64 x0) := B_r.out.cell 0 rfl; have c1r : w4.cell? ⟨w.heap.size + 1, 1, none⟩ = some (.int .i64 y0) := B_r.out.cell 1 rfl; have c2r : w4.cell? ⟨w.heap.size + 1, 2, none⟩ = some (.int .i64 x1) := B_r.out.cell 2 rfl; have c3r : w4.cell? ⟨w.heap.size + 1, 3, none⟩ = some (.int .i64 y1) := B_r.out.cell 3 rfl; have tk1x2 : True := trivial))
    clear c0p c1p c0q c1q c0r c1r c2r c3r
    clear ek ek' T1 T2
    obtain ⟨c0p, c1p⟩ := cells2 B_p
    obtain ⟨c0q, c1q⟩ := cells2 B_q
    obtain ⟨c0r, c1r, c2r, c3r⟩ := cells4 B_r
    go_wp2_with fail
    refine (T3.out _).mono ?_
    clear c0p c1p c0q c1q c0r c1r c2r c3r
    rintro e w5 ⟨rfl, bb⟩
    replace bb := nextw (w0 := w4) (by exact sm) bb
    replace B_r := mv B_r bb
    replace B_p := mv B_p bb
    replace B_q := mv B_q bb
    replace HB := nx HB bb
    clear bb
    clear T3
    go_upto_region 8 with (fail)
    obtain ⟨c0r, c1r, c2r, c3r⟩ := cells4 B_r
    go_wp2_with fail
    refine (HV.out _).mono ?_
    clear c0r c1r c2r c3r
    rintro e w6 ⟨rfl, bb⟩
    replace bb := nextw (w0 := w5) (by exact sm) bb
    replace B_r := mv B_r bb
    replace B_p := mv B_p bb
    replace B_q := mv B_q bb
    replace HB := nx HB bb
    clear bb
    obtain ⟨c0p, c1p⟩ := cells2 B_p
    go_wp2_with fail
    refine (S0.out _).mono ?_
    rintro e w7 ⟨rfl, rfl⟩
    go_wp2_with fail
    refine (S1.out _).mono ?_
    rintro e w8 ⟨rfl, rfl⟩
    clear c0p c1p
    go_upto_region 10 with (fail)
    have ekk : IntKind.i64.wrap (k * k) = k * k := ekk0.out
    obtain ⟨c0p, c1p⟩ := cells2 B_p
    obtain ⟨c0r, c1r, c2r, c3r⟩ := cells4 B_r
    have tk2x0 : True := trivial
    go_region_held3 (fun w' => w'.cell? ⟨Pp, 0, none⟩ = some (.int .i64 a) ∧ w'.cell? ⟨Pp, 1, none⟩ = some (.int .i64 b) ∧ w'.cell? ⟨w.heap.size + 1, 0, none⟩ = some (.int .i64 x0) ∧ w'.cell? ⟨w.heap.size + 1, 1, none⟩ = some (.int .i64 y0) ∧ w'.cell? ⟨w.heap.size + 1, 2, none⟩ = some (.int .i64 x1) ∧ w'.cell? ⟨w.heap.size + 1, 3, none⟩ = some (.int .i64 y1)) (((try dsimp only); (repeat' apply And.intro) <;> (first | (with_reducible assumption) | ((repeat (first | (with_reducible refine Eq.trans (cell_drew1 _ _) ?_) | (with_reducible refine Eq.trans (cell_far (by omega) _ _ _) ?_) | (with_reducible refine Eq.trans (World.cell?_alloc_lt _ _ _ (by first | (dsimp only; omega) | (simp only [World.size_alloc, World.size_setCell]; omega))) ?_))); with_reducible assumption) | assumption | go_keep)))
    (first
      | (clear tk2x0; go_at_call 25; refine (T4.out _).mono ?_; rintro e w9 ⟨rfl, bb⟩; replace bb := nextw (w0 := w6) (by exact sm) bb; replace B_r := mv B_r bb; replace B_p := mv B_p bb; replace B_q := mv B_q bb; replace HB := nx HB bb; clear bb c0p c1p c0r c1r c2r c3r; have c0p : w9.cell? ⟨Pp, 0, none⟩ = some (.int .i64 a) := B_p.out.cell 0 rfl; have c1p : w9.cell? ⟨Pp, 1, none⟩ = some (.int .i64 b) := B_p.out.cell 1 rfl; have c0r : w9.cell? ⟨w.heap.size + 1, 0, none⟩ = some (.int .i64 x0) := B_r.out.cell 0 rfl; have c1r : w9.cell? ⟨w.heap.size + 1, 1, none⟩ = some (.int .i64 y0) := B_r.out.cell 1 rfl; have c2r : w9.cell? ⟨w.heap.size + 1, 2, none⟩ = some (.int .i64 x1) := B_r.out.cell 2 rfl; have c3r : w9.cell? ⟨w.heap.size + 1, 3, none⟩ = some (.int .i64 y1) := B_r.out.cell 3 rfl; have tk2x1 : True := trivial)
      | (clear tk2x1; go_at_call 23; refine (HG.out _).mono ?_; rintro e w10 ⟨rfl, bb⟩; replace bb := nextw (w0 := w9) (by exact sm) bb; replace B_r := mv B_r bb; replace B_p := mv B_p bb; replace B_q := mv B_q bb; replace HB := nx HB bb; clear bb c0p c1p c0r c1r c2r c3r; have c0p : w10.cell? ⟨Pp, 0, none⟩ = some (.int .i64 a) := B_p.out.cell 0 rfl; have c1p : w10.cell? ⟨Pp, 1, none⟩ = some (.int .i64 b) := B_p.out.cell 1 rfl; have c0r : w10.cell? ⟨w.heap.size + 1, 0, none⟩ = some (.int .i64 x0) := B_r.out.cell 0 rfl; have c1r : w10.cell? ⟨w.heap.size + 1, 1, none⟩ = some (.int .i64 y0) := B_r.out.cell 1 rfl; have c2r : w10.cell? ⟨w.heap.size + 1, 2, none⟩ = some (.int .i64 x1) := B_r.out.cell 2 rfl; have c3r : w10.cell? ⟨w.heap.size + 1, 3, none⟩ = some (.int .i64 y1) := B_r.out.cell 3 rfl; have tk2x2 : True := trivial))
    clear c0p c1p c0r c1r c2r c3r
    clear ekk ekk0 T4
    go_upto_region 12 with (fail)
    obtain ⟨c0q, c1q⟩ := cells2 B_q
    go_wp2_with fail
    refine (S2.out _).mono ?_
    rintro e w11 ⟨rfl, rfl⟩
    go_wp2_with fail
    refine (S3.out _).mono ?_
    rintro e w12 ⟨rfl, rfl⟩
    obtain ⟨c0p, c1p⟩ := cells2 B_p
    go_wp2_with fail
    refine (S4.out _).mono ?_
    rintro e w13 ⟨rfl, rfl⟩
    go_wp2_with fail
    refine (S5.out _).mono ?_
    rintro e w14 ⟨rfl, rfl⟩
    clear c0q c1q c0p c1p
    clear p1 p2 p3 p4 q1 q2 q3 q4 hw hv k0 k1 n1 S0 S1 S2 S3 S4 S5 HV HA
    go_upto_region 14 with (fail)
    go_cut [12, 13] (fun sA sB wx => ∃ Pf Pg : Nat, sA = (.pointer (some ⟨Pf, 0, none⟩)) ∧ sB = (.pointer (some ⟨Pg, 0, none⟩)) ∧ Hid (Pf ≠ Pg) ∧ Hid (w.heap.size ≤ Pf) ∧ Hid (w.heap.size ≤ Pg) ∧ Hid (Bx wx (Pf) 23 #[.int .i64 x0, .int .i64 y0]) ∧ Hid (Bx wx (Pg) 23 #[.int .i64 x1, .int .i64 y1]) ∧ Hid (Bx wx (w.heap.size + 1) 29 #[.int .i64 x0, .int .i64 y0, .int .i64 x1, .int .i64 y1]) ∧ Hid (Bx wx (Pp) 23 #[.int .i64 a, .int .i64 b]) ∧ Hid (Bx wx (Pq) 23 #[.int .i64 c, .int .i64 d]) ∧ Hid (Below w.heap.size w wx))
    case first =>
      obtain ⟨c0r, c1r, c2r, c3r⟩ := cells4 B_r
      go_region_held3 (fun w' => w'.cell? ⟨w.heap.size + 1, 0, none⟩ = some (.int .i64 x0) ∧ w'.cell? ⟨w.heap.size + 1, 1, none⟩ = some (.int .i64 y0) ∧ w'.cell? ⟨w.heap.size + 1, 2, none⟩ = some (.int .i64 x1) ∧ w'.cell? ⟨w.heap.size + 1, 3, none⟩ = some (.int .i64 y1)) (((try dsimp only); (repeat' apply And.intro) <;> (first | (with_reducible assumption) | ((repeat (first | (with_reducible refine Eq.trans (cell_drew1 _ _) ?_) | (with_reducible refine Eq.trans (cell_far (by omega) _ _ _) ?_) | (with_reducible refine Eq.trans (World.cell?_alloc_lt _ _ _ (by first | (dsimp only; omega) | (simp only [World.size_alloc, World.size_setCell]; omega))) ?_))); with_reducible assumption) | assumption | go_keep)))
          (first | fail)
      all_goals clear c0r c1r c2r c3r
      all_goals go_wp2_with fail
      all_goals go_meet
      all_goals first | (obtain ⟨bb, b0, b1⟩ := box2 w10 23 #[.int .i64 x0, .int .i64 y0] 23 #[.int .i64 x1, .int .i64 y1]; replace bb := bb.out; have hs := HB.out.size; exact ⟨w10.heap.size, w10.heap.size + 1, rfl, rfl, (by unfold Hid; omega), (by unfold Hid; omega), (by unfold Hid; omega), mv b0 sm, mv b1 sm, mv (mv B_r bb) sm, mv (mv B_p bb) sm, mv (mv B_q bb) sm, nx (nx HB bb) sm⟩) | (obtain ⟨bb, b0, b1⟩ := box2 w10 23 #[.int .i64 x1, .int .i64 y1] 23 #[.int .i64 x0, .int .i64 y0]; replace bb := bb.out; have hs := HB.out.size; exact ⟨w10.heap.size + 1, w10.heap.size, rfl, rfl, (by unfold Hid; omega), (by unfold Hid; omega), (by unfold Hid; omega), mv b1 sm, mv b0 sm, mv (mv B_r bb) sm, mv (mv B_p bb) sm, mv (mv B_q bb) sm, nx (nx HB bb) sm⟩)
    case rest =>
      clear B_r
      clear B_p
      clear B_q
      clear HB
      rename World => wc15
      obtain ⟨Pf, Pg, rfl, rfl, nePf, lePf, lePg, B_f, B_g, B_r, B_p, B_q, HB⟩ := hcut
      go_upto_region 15 with (fail)
      go_cut [14, 15] (fun sA sB wx => ∃ Ph Pi : Nat, sA = (.pointer (some ⟨Ph, 0, none⟩)) ∧ sB = (.pointer (some ⟨Pi, 0, none⟩)) ∧ Hid (Ph ≠ Pi) ∧ Hid (w.heap.size ≤ Ph) ∧ Hid (w.heap.size ≤ Pi) ∧ Hid (Bx wx (Ph) 23 #[.int .i64 x0, .int .i64 y1]) ∧ Hid (Bx wx (Pi) 23 #[.int .i64 x1, .int .i64 y0]) ∧ Hid (Bx wx (w.heap.size + 1) 29 #[.int .i64 x0, .int .i64 y0, .int .i64 x1, .int .i64 y1]) ∧ Hid (Bx wx (Pp) 23 #[.int .i64 a, .int .i64 b]) ∧ Hid (Bx wx (Pq) 23 #[.int .i64 c, .int .i64 d]) ∧ Hid (Bx wx (Pf) 23 #[.int .i64 x0, .int .i64 y0]) ∧ Hid (Bx wx (Pg) 23 #[.int .i64 x1, .int .i64 y1]) ∧ Hid (Below w.heap.size w wx))
      case first =>
        obtain ⟨c0r, c1r, c2r, c3r⟩ := cells4 B_r
        go_region_held3 (fun w' => w'.cell? ⟨w.heap.size + 1, 0, none⟩ = some (.int .i64 x0) ∧ w'.cell? ⟨w.heap.size + 1, 1, none⟩ = some (.int .i64 y0) ∧ w'.cell? ⟨w.heap.size + 1, 2, none⟩ = some (.int .i64 x1) ∧ w'.cell? ⟨w.heap.size + 1, 3, none⟩ = some (.int .i64 y1)) (((try dsimp only); (repeat' apply And.intro) <;> (first | (with_reducible assumption) | ((repeat (first | (with_reducible refine Eq.trans (cell_drew1 _ _) ?_) | (with_reducible refine Eq.trans (cell_far (by omega) _ _ _) ?_) | (with_reducible refine Eq.trans (World.cell?_alloc_lt _ _ _ (by first | (dsimp only; omega) | (simp only [World.size_alloc, World.size_setCell]; omega))) ?_))); with_reducible assumption) | assumption | go_keep)))
            (first | fail)
        all_goals clear c0r c1r c2r c3r
        all_goals go_wp2_with fail
        all_goals go_meet
        all_goals first | (obtain ⟨bb, b0, b1⟩ := box2 wc15 23 #[.int .i64 x0, .int .i64 y1] 23 #[.int .i64 x1, .int .i64 y0]; replace bb := bb.out; have hs := HB.out.size; exact ⟨wc15.heap.size, wc15.heap.size + 1, rfl, rfl, (by unfold Hid; omega), (by unfold Hid; omega), (by unfold Hid; omega), mv b0 sm, mv b1 sm, mv (mv B_r bb) sm, mv (mv B_p bb) sm, mv (mv B_q bb) sm, mv (mv B_f bb) sm, mv (mv B_g bb) sm, nx (nx HB bb) sm⟩) | (obtain ⟨bb, b0, b1⟩ := box2 wc15 23 #[.int .i64 x1, .int .i64 y0] 23 #[.int .i64 x0, .int .i64 y1]; replace bb := bb.out; have hs := HB.out.size; exact ⟨wc15.heap.size + 1, wc15.heap.size, rfl, rfl, (by unfold Hid; omega), (by unfold Hid; omega), (by unfold Hid; omega), mv b1 sm, mv b0 sm, mv (mv B_r bb) sm, mv (mv B_p bb) sm, mv (mv B_q bb) sm, mv (mv B_f bb) sm, mv (mv B_g bb) sm, nx (nx HB bb) sm⟩)
      case rest =>
        clear B_r
        clear B_p
        clear B_q
        clear B_f
        clear B_g
        clear HB
        rename World => wc16
        obtain ⟨Ph, Pi, rfl, rfl, nePh, lePh, lePi, B_h, B_i, B_r, B_p, B_q, B_f, B_g, HB⟩ := hcut
        go_upto_region 16 with (fail)
        obtain ⟨c0p, c1p⟩ := cells2 B_p
        obtain ⟨c0r, c1r, c2r, c3r⟩ := cells4 B_r
        go_wp2_with fail
        refine (HG.out _).mono ?_
        clear c0p c1p c0r c1r c2r c3r
        rintro e w17 ⟨rfl, bb⟩
        replace bb := nextw (w0 := wc16) (by exact sm) bb
        replace B_r := mv B_r bb
        replace B_p := mv B_p bb
        replace B_q := mv B_q bb
        replace B_f := mv B_f bb
        replace B_g := mv B_g bb
        replace B_h := mv B_h bb
        replace B_i := mv B_i bb
        replace HB := nx HB bb
        clear bb
        go_upto_region 17 with (fail)
        obtain ⟨c0p, c1p⟩ := cells2 B_p
        obtain ⟨c0q, c1q⟩ := cells2 B_q
        obtain ⟨c0r, c1r, c2r, c3r⟩ := cells4 B_r
        go_wp2_with fail
        refine (T5.out _).mono ?_
        clear c0p c1p c0q c1q c0r c1r c2r c3r
        rintro e w18 ⟨rfl, bb⟩
        replace bb := nextw (w0 := w17) (by exact sm) bb
        replace B_r := mv B_r bb
        replace B_p := mv B_p bb
        replace B_q := mv B_q bb
        replace B_f := mv B_f bb
        replace B_g := mv B_g bb
        replace B_h := mv B_h bb
        replace B_i := mv B_i bb
        replace HB := nx HB bb
        clear bb
        go_wp2
        go_ret
        exact ⟨rfl, nextw HB.out (by exact sm)⟩

set_option maxRecDepth 100000 in
set_option maxHeartbeats 8000000 in
theorem Radii_vtq (a b c d x0 y0 x1 y1 n : Int) (n0 : 0 ≤ n) (n1 : n ≤ 65535) (hr : OkR x0 y0 x1 y1) (ha : OkC a) (hb : OkC b) (hc : OkC c) (hd : OkC d) (hw : -1024 ≤ a - c ∧ a - c ≤ 1024) (hv : -1024 ≤ b - d ∧ b - d ≤ 1024) (hs : To a b c d x0 y0 x1 y1 (n % 1024)) (g0 : ¬ (gapM a b x0 y0 x1 y1 = 0)) (g1 : gapM c d x0 y0 x1 y1 = 0) (w : World) :
    Calls Try.prog 11 #[.agg #[.int .i64 a, .int .i64 b, .int .i64 c, .int .i64 d], .agg #[.int .i64 x0, .int .i64 y0, .int .i64 x1, .int .i64 y1], .int .u16 n] w fun e w' => e = .returned (.bool true) ∧ Below w.heap.size w w' := by
  have HA := Lib.hid (fun w => awake_any w)
  have k0 : 0 ≤ n % 1024 := by omega
  have k1 : n % 1024 ≤ 1023 := by omega
  have T1 := Lib.hid (fun w => Touch_any a b c d x0 y0 x1 y1 (n % 1024) w)
  have T2 := Lib.hid (fun w => Touch_any a b c d x0 y0 x1 y1 ((n % 1024) + 1) w)
  have T3 := Lib.hid (fun w => Touch_any c d a b x0 y0 x1 y1 (n % 1024) w)
  rw [tk_flip] at T3
  have hp : OkP a b := ⟨ha.1, ha.2, hb.1, hb.2⟩
  have hq : OkP c d := ⟨hc.1, hc.2, hd.1, hd.2⟩
  have c00 : OkP x0 y0 := ⟨hr.a1, hr.a2, hr.b1, hr.b2⟩
  have c11 : OkP x1 y1 := ⟨hr.c1, hr.c2, hr.d1, hr.d2⟩
  have c01 : OkP x0 y1 := ⟨hr.a1, hr.a2, hr.d1, hr.d2⟩
  have c10 : OkP x1 y0 := ⟨hr.c1, hr.c2, hr.b1, hr.b2⟩
  have hT : ∀ j, 0 ≤ j → j ≤ 1024 → TK a b c d x0 y0 x1 y1 j := fun j j0 j1 => ⟨hp, hq, ⟨⟨by omega, by omega⟩, by omega, by omega⟩, hr, j0, j1⟩
  rw [decide_eq_true ⟨hT (n % 1024) k0 (by omega), hs⟩] at T1 T3
  rw [decide_eq_true ⟨hT ((n % 1024) + 1) (by omega) (by omega), to_more k0 hs⟩] at T2
  have HV := Lib.hid (fun w => ValidRect_t hr w)
  have S0 := Lib.hid (fun w => SizeL_t ha w)
  have S1 := Lib.hid (fun w => SizeL_t hb w)
  have T4 := Lib.hid (fun w => Touch_any a b a b x0 y0 x1 y1 (n % 1024) w)
  rw [tk_point hp hr k0 (by omega)] at T4
  have HG := Lib.hid (fun w => Gap_ok a b x0 y0 x1 y1 hp hr w)
  have ekk0 : Hid (IntKind.i64.wrap ((n % 1024) * (n % 1024)) = (n % 1024) * (n % 1024)) := by have := mul_le (a := (n % 1024)) (b := (n % 1024)) (A := 1024) (B := 1024) (by omega) (by omega) (by omega) (by omega); unfold Hid; rw [IntKind.wrap_i64]; omega
  have S2 := Lib.hid (fun w => SizeL_t hc w)
  have S3 := Lib.hid (fun w => SizeL_t hd w)
  have S4 := Lib.hid (fun w => Size_t (n := a - c) (m := 1024) (by decide) (by decide) hw w)
  have S5 := Lib.hid (fun w => Size_t (n := b - d) (m := 1024) (by decide) (by decide) hv w)
  have T5 := Lib.hid (fun w => Touch_any a b c d x0 y0 x1 y1 0 w)
  rw [decide_eq_true ⟨hT 0 (by omega) (by omega), (to_zero hr.hx hr.hy).2 (.inr (.inl g1))⟩] at T5
  have HQ := Lib.hid (fun w => Gap_ok c d x0 y0 x1 y1 hq hr w)
  have z0 : Hid ((gapM a b x0 y0 x1 y1 == 0) = false) := by unfold Hid; simpa using g0
  generalize gapM a b x0 y0 x1 y1 = gp at *
  generalize gapM c d x0 y0 x1 y1 = gq at *
  subst g1
  obtain ⟨p1, p2⟩ := ha
  obtain ⟨p3, p4⟩ := hb
  obtain ⟨q1, q2⟩ := hc
  obtain ⟨q3, q4⟩ := hd
  clear hT hp hq c00 c11 c01 c10 hr hs g0
  skip
  obtain ⟨HB, B_l, B_r⟩ := box2 w 41 #[.int .i64 a, .int .i64 b, .int .i64 c, .int .i64 d] 29 #[.int .i64 x0, .int .i64 y0, .int .i64 x1, .int .i64 y1]
  go_enter Try.func11, Try.ntmps11
  go_wp2_with fail
  generalize (w.alloc (.cells #[.int .i64 a, .int .i64 b, .int .i64 c, .int .i64 d] 41)).alloc (.cells #[.int .i64 x0, .int .i64 y0, .int .i64 x1, .int .i64 y1] 29) = W0 at *
  refine (HA.out _).mono ?_
  rintro e w1 ⟨rfl, bb⟩
  replace bb := nextw (w0 := W0) (by exact sm) bb
  replace B_l := mv B_l bb
  replace B_r := mv B_r bb
  replace HB := nx HB bb
  clear bb
  go_upto_region 4 with (fail)
  generalize n % 1024 = k at *
  have ek : IntKind.i64.wrap (k + 1) = k + 1 := by rw [IntKind.wrap_i64]; omega
  replace ek := Lib.hid ek
  go_cut [8, 9] (fun sA sB wx => ∃ Pp Pq : Nat, sA = (.pointer (some ⟨Pp, 0, none⟩)) ∧ sB = (.pointer (some ⟨Pq, 0, none⟩)) ∧ Hid (Pp ≠ Pq) ∧ Hid (w.heap.size ≤ Pp) ∧ Hid (w.heap.size ≤ Pq) ∧ Hid (Bx wx (Pp) 23 #[.int .i64 a, .int .i64 b]) ∧ Hid (Bx wx (Pq) 23 #[.int .i64 c, .int .i64 d]) ∧ Hid (Bx wx (w.heap.size) 41 #[.int .i64 a, .int .i64 b, .int .i64 c, .int .i64 d]) ∧ Hid (Bx wx (w.heap.size + 1) 29 #[.int .i64 x0, .int .i64 y0, .int .i64 x1, .int .i64 y1]) ∧ Hid (Below w.heap.size w wx))
  case first =>
    obtain ⟨c0l, c1l, c2l, c3l⟩ := cells4 B_l
    go_region_held3 (fun w' => w'.cell? ⟨w.heap.size, 0, none⟩ = some (.int .i64 a) ∧ w'.cell? ⟨w.heap.size, 1, none⟩ = some (.int .i64 b) ∧ w'.cell? ⟨w.heap.size, 2, none⟩ = some (.int .i64 c) ∧ w'.cell? ⟨w.heap.size, 3, none⟩ = some (.int .i64 d)) (((try dsimp only); (repeat' apply And.intro) <;> (first | (with_reducible assumption) | ((repeat (first | (with_reducible refine Eq.trans (cell_drew1 _ _) ?_) | (with_reducible refine Eq.trans (cell_far (by omega) _ _ _) ?_) | (with_reducible refine Eq.trans (World.cell?_alloc_lt _ _ _ (by first | (dsimp only; omega) | (simp only [World.size_alloc, World.size_setCell]; omega))) ?_))); with_reducible assumption) | assumption | go_keep)))
        (first | fail)
    all_goals clear c0l c1l c2l c3l
    all_goals go_wp2_with fail
    all_goals go_meet
    all_goals first | (obtain ⟨bb, b0, b1⟩ := box2 w1 23 #[.int .i64 a, .int .i64 b] 23 #[.int .i64 c, .int .i64 d]; replace bb := bb.out; have hs := HB.out.size; exact ⟨w1.heap.size, w1.heap.size + 1, rfl, rfl, (by unfold Hid; omega), (by unfold Hid; omega), (by unfold Hid; omega), mv b0 sm, mv b1 sm, mv (mv B_l bb) sm, mv (mv B_r bb) sm, nx (nx HB bb) sm⟩) | (obtain ⟨bb, b0, b1⟩ := box2 w1 23 #[.int .i64 c, .int .i64 d] 23 #[.int .i64 a, .int .i64 b]; replace bb := bb.out; have hs := HB.out.size; exact ⟨w1.heap.size + 1, w1.heap.size, rfl, rfl, (by unfold Hid; omega), (by unfold Hid; omega), (by unfold Hid; omega), mv b1 sm, mv b0 sm, mv (mv B_l bb) sm, mv (mv B_r bb) sm, nx (nx HB bb) sm⟩)
  case rest =>
    clear B_l
    clear B_r
    clear HB
    rename World => wc2
    obtain ⟨Pp, Pq, rfl, rfl, nePp, lePp, lePq, B_p, B_q, B_l, B_r, HB⟩ := hcut
    clear B_l
    go_upto_region 5 with (fail)
    have ek' := ek.out
    obtain ⟨c0p, c1p⟩ := cells2 B_p
    obtain ⟨c0q, c1q⟩ := cells2 B_q
    obtain ⟨c0r, c1r, c2r, c3r⟩ := cells4 B_r
    have tk1x0 : True := trivial
    go_region_held3 (fun w' => w'.cell? ⟨Pp, 0, none⟩ = some (.int .i64 a) ∧ w'.cell? ⟨Pp, 1, none⟩ = some (.int .i64 b) ∧ w'.cell? ⟨Pq, 0, none⟩ = some (.int .i64 c) ∧ w'.cell? ⟨Pq, 1, none⟩ = some (.int .i64 d) ∧ w'.cell? ⟨w.heap.size + 1, 0, none⟩ = some (.int .i64 x0) ∧ w'.cell? ⟨w.heap.size + 1, 1, none⟩ = some (.int .i64 y0) ∧ w'.cell? ⟨w.heap.size + 1, 2, none⟩ = some (.int .i64 x1) ∧ w'.cell? ⟨w.heap.size + 1, 3, none⟩ = some (.int .i64 y1)) (((try dsimp only); (repeat' apply And.intro) <;> (first | (with_reducible assumption) | ((repeat (first | (with_reducible refine Eq.trans (cell_drew1 _ _) ?_) | (with_reducible refine Eq.trans (cell_far (by omega) _ _ _) ?_) | (with_reducible refine Eq.trans (World.cell?_alloc_lt _ _ _ (by first | (dsimp only; omega) | (simp only [World.size_alloc, World.size_setCell]; omega))) ?_))); with_reducible assumption) | assumption | go_keep)))
    (first
      | (clear tk1x0; go_at_call 25; refine (T1.out _).mono ?_; rintro e w3 ⟨rfl, bb⟩; replace bb := nextw (w0 := wc2) (by exact sm) bb; replace B_r := mv B_r bb; replace B_p := mv B_p bb; replace B_q := mv B_q bb; replace HB := nx HB bb; clear bb c0p c1p c0q c1q c0r c1r c2r c3r; have c0p : w3.cell? ⟨Pp, 0, none⟩ = some (.int .i64 a) := B_p.out.cell 0 rfl; have c1p : w3.cell? ⟨Pp, 1, none⟩ = some (.int .i64 b) := B_p.out.cell 1 rfl; have c0q : w3.cell? ⟨Pq, 0, none⟩ = some (.int .i64 c) := B_q.out.cell 0 rfl; have c1q : w3.cell? ⟨Pq, 1, none⟩ = some (.int .i64 d) := B_q.out.cell 1 rfl; have c0r : w3.cell? ⟨w.heap.size + 1, 0, none⟩ = some (.int .i64 x0) := B_r.out.cell 0 rfl; have c1r : w3.cell? ⟨w.heap.size + 1, 1, none⟩ = some (.int .i64 y0) := B_r.out.cell 1 rfl; have c2r : w3.cell? ⟨w.heap.size + 1, 2, none⟩ = some (.int .i64 x1) := B_r.out.cell 2 rfl; have c3r : w3.cell? ⟨w.heap.size + 1, 3, none⟩ = some (.int .i64 y1) := B_r.out.cell 3 rfl; have tk1x1 : True := trivial)
      | (clear tk1x1; go_at_call 25; refine (T2.out _).mono ?_; rintro e w4 ⟨rfl, bb⟩; replace bb := nextw (w0 := w3) (by exact sm) bb; replace B_r := mv B_r bb; replace B_p := mv B_p bb; replace B_q := mv B_q bb; replace HB := nx HB bb; clear bb c0p c1p c0q c1q c0r c1r c2r c3r; have c0p : w4.cell? ⟨Pp, 0, none⟩ = some (.int .i64 a) := B_p.out.cell 0 rfl; have c1p : w4.cell? ⟨Pp, 1, none⟩ = some (.int .i64 b) := B_p.out.cell 1 rfl; have c0q : w4.cell? ⟨Pq, 0, none⟩ = some (.int .i64 c) := B_q.out.cell 0 rfl; have c1q : w4.cell? ⟨Pq, 1, none⟩ = some (.int .i64 d) := B_q.out.cell 1 rfl; have c0r : w4.cell? ⟨w.heap.size + 1, 0, none⟩ = some (.int .i64 x0) := B_r.out.cell 0 rfl; have c1r : w4.cell? ⟨w.heap.size + 1, 1, none⟩ = some (.int .i64 y0) := B_r.out.cell 1 rfl; have c2r : w4.cell? ⟨w.heap.size + 1, 2, none⟩ = some (.int .i64 x1) := B_r.out.cell 2 rfl; have c3r : w4.cell? ⟨w.heap.size + 1, 3, none⟩ = some (.int .i64 y1) := B_r.out.cell 3 rfl; have tk1x2 : True := trivial))
    clear c0p c1p c0q c1q c0r c1r c2r c3r
    clear ek ek' T1 T2
    obtain ⟨c0p, c1p⟩ := cells2 B_p
    obtain ⟨c0q, c1q⟩ := cells2 B_q
    obtain ⟨c0r, c1r, c2r, c3r⟩ := cells4 B_r
    go_wp2_with fail
    refine (T3.out _).mono ?_
    clear c0p c1p c0q c1q c0r c1r c2r c3r
    rintro e w5 ⟨rfl, bb⟩
    replace bb := nextw (w0 := w4) (by exact sm) bb
    replace B_r := mv B_r bb
    replace B_p := mv B_p bb
    replace B_q := mv B_q bb
    replace HB := nx HB bb
    clear bb
    clear T3
    go_upto_region 8 with (fail)
    obtain ⟨c0r, c1r, c2r, c3r⟩ := cells4 B_r
    go_wp2_with fail
    refine (HV.out _).mono ?_
    clear c0r c1r c2r c3r
    rintro e w6 ⟨rfl, bb⟩
    replace bb := nextw (w0 := w5) (by exact sm) bb
    replace B_r := mv B_r bb
    replace B_p := mv B_p bb
    replace B_q := mv B_q bb
    replace HB := nx HB bb
    clear bb
    obtain ⟨c0p, c1p⟩ := cells2 B_p
    go_wp2_with fail
    refine (S0.out _).mono ?_
    rintro e w7 ⟨rfl, rfl⟩
    go_wp2_with fail
    refine (S1.out _).mono ?_
    rintro e w8 ⟨rfl, rfl⟩
    clear c0p c1p
    go_upto_region 10 with (fail)
    have ekk : IntKind.i64.wrap (k * k) = k * k := ekk0.out
    obtain ⟨c0p, c1p⟩ := cells2 B_p
    obtain ⟨c0r, c1r, c2r, c3r⟩ := cells4 B_r
    have tk2x0 : True := trivial
    go_region_held3 (fun w' => w'.cell? ⟨Pp, 0, none⟩ = some (.int .i64 a) ∧ w'.cell? ⟨Pp, 1, none⟩ = some (.int .i64 b) ∧ w'.cell? ⟨w.heap.size + 1, 0, none⟩ = some (.int .i64 x0) ∧ w'.cell? ⟨w.heap.size + 1, 1, none⟩ = some (.int .i64 y0) ∧ w'.cell? ⟨w.heap.size + 1, 2, none⟩ = some (.int .i64 x1) ∧ w'.cell? ⟨w.heap.size + 1, 3, none⟩ = some (.int .i64 y1)) (((try dsimp only); (repeat' apply And.intro) <;> (first | (with_reducible assumption) | ((repeat (first | (with_reducible refine Eq.trans (cell_drew1 _ _) ?_) | (with_reducible refine Eq.trans (cell_far (by omega) _ _ _) ?_) | (with_reducible refine Eq.trans (World.cell?_alloc_lt _ _ _ (by first | (dsimp only; omega) | (simp only [World.size_alloc, World.size_setCell]; omega))) ?_))); with_reducible assumption) | assumption | go_keep)))
    (first
      | (clear tk2x0; go_at_call 25; refine (T4.out _).mono ?_; rintro e w9 ⟨rfl, bb⟩; replace bb := nextw (w0 := w6) (by exact sm) bb; replace B_r := mv B_r bb; replace B_p := mv B_p bb; replace B_q := mv B_q bb; replace HB := nx HB bb; clear bb c0p c1p c0r c1r c2r c3r; have c0p : w9.cell? ⟨Pp, 0, none⟩ = some (.int .i64 a) := B_p.out.cell 0 rfl; have c1p : w9.cell? ⟨Pp, 1, none⟩ = some (.int .i64 b) := B_p.out.cell 1 rfl; have c0r : w9.cell? ⟨w.heap.size + 1, 0, none⟩ = some (.int .i64 x0) := B_r.out.cell 0 rfl; have c1r : w9.cell? ⟨w.heap.size + 1, 1, none⟩ = some (.int .i64 y0) := B_r.out.cell 1 rfl; have c2r : w9.cell? ⟨w.heap.size + 1, 2, none⟩ = some (.int .i64 x1) := B_r.out.cell 2 rfl; have c3r : w9.cell? ⟨w.heap.size + 1, 3, none⟩ = some (.int .i64 y1) := B_r.out.cell 3 rfl; have tk2x1 : True := trivial)
      | (clear tk2x1; go_at_call 23; refine (HG.out _).mono ?_; rintro e w10 ⟨rfl, bb⟩; replace bb := nextw (w0 := w9) (by exact sm) bb; replace B_r := mv B_r bb; replace B_p := mv B_p bb; replace B_q := mv B_q bb; replace HB := nx HB bb; clear bb c0p c1p c0r c1r c2r c3r; have c0p : w10.cell? ⟨Pp, 0, none⟩ = some (.int .i64 a) := B_p.out.cell 0 rfl; have c1p : w10.cell? ⟨Pp, 1, none⟩ = some (.int .i64 b) := B_p.out.cell 1 rfl; have c0r : w10.cell? ⟨w.heap.size + 1, 0, none⟩ = some (.int .i64 x0) := B_r.out.cell 0 rfl; have c1r : w10.cell? ⟨w.heap.size + 1, 1, none⟩ = some (.int .i64 y0) := B_r.out.cell 1 rfl; have c2r : w10.cell? ⟨w.heap.size + 1, 2, none⟩ = some (.int .i64 x1) := B_r.out.cell 2 rfl; have c3r : w10.cell? ⟨w.heap.size + 1, 3, none⟩ = some (.int .i64 y1) := B_r.out.cell 3 rfl; have tk2x2 : True := trivial))
    clear c0p c1p c0r c1r c2r c3r
    clear ekk ekk0 T4
    go_upto_region 12 with (fail)
    obtain ⟨c0q, c1q⟩ := cells2 B_q
    go_wp2_with fail
    refine (S2.out _).mono ?_
    rintro e w11 ⟨rfl, rfl⟩
    go_wp2_with fail
    refine (S3.out _).mono ?_
    rintro e w12 ⟨rfl, rfl⟩
    obtain ⟨c0p, c1p⟩ := cells2 B_p
    go_wp2_with fail
    refine (S4.out _).mono ?_
    rintro e w13 ⟨rfl, rfl⟩
    go_wp2_with fail
    refine (S5.out _).mono ?_
    rintro e w14 ⟨rfl, rfl⟩
    clear c0q c1q c0p c1p
    clear p1 p2 p3 p4 q1 q2 q3 q4 hw hv k0 k1 n1 S0 S1 S2 S3 S4 S5 HV HA
    go_upto_region 14 with (fail)
    go_cut [12, 13] (fun sA sB wx => ∃ Pf Pg : Nat, sA = (.pointer (some ⟨Pf, 0, none⟩)) ∧ sB = (.pointer (some ⟨Pg, 0, none⟩)) ∧ Hid (Pf ≠ Pg) ∧ Hid (w.heap.size ≤ Pf) ∧ Hid (w.heap.size ≤ Pg) ∧ Hid (Bx wx (Pf) 23 #[.int .i64 x0, .int .i64 y0]) ∧ Hid (Bx wx (Pg) 23 #[.int .i64 x1, .int .i64 y1]) ∧ Hid (Bx wx (w.heap.size + 1) 29 #[.int .i64 x0, .int .i64 y0, .int .i64 x1, .int .i64 y1]) ∧ Hid (Bx wx (Pp) 23 #[.int .i64 a, .int .i64 b]) ∧ Hid (Bx wx (Pq) 23 #[.int .i64 c, .int .i64 d]) ∧ Hid (Below w.heap.size w wx))
    case first =>
      obtain ⟨c0r, c1r, c2r, c3r⟩ := cells4 B_r
      go_region_held3 (fun w' => w'.cell? ⟨w.heap.size + 1, 0, none⟩ = some (.int .i64 x0) ∧ w'.cell? ⟨w.heap.size + 1, 1, none⟩ = some (.int .i64 y0) ∧ w'.cell? ⟨w.heap.size + 1, 2, none⟩ = some (.int .i64 x1) ∧ w'.cell? ⟨w.heap.size + 1, 3, none⟩ = some (.int .i64 y1)) (((try dsimp only); (repeat' apply And.intro) <;> (first | (with_reducible assumption) | ((repeat (first | (with_reducible refine Eq.trans (cell_drew1 _ _) ?_) | (with_reducible refine Eq.trans (cell_far (by omega) _ _ _) ?_) | (with_reducible refine Eq.trans (World.cell?_alloc_lt _ _ _ (by first | (dsimp only; omega) | (simp only [World.size_alloc, World.size_setCell]; omega))) ?_))); with_reducible assumption) | assumption | go_keep)))
          (first | fail)
      all_goals clear c0r c1r c2r c3r
      all_goals go_wp2_with fail
      all_goals go_meet
      all_goals first | (obtain ⟨bb, b0, b1⟩ := box2 w10 23 #[.int .i64 x0, .int .i64 y0] 23 #[.int .i64 x1, .int .i64 y1]; replace bb := bb.out; have hs := HB.out.size; exact ⟨w10.heap.size, w10.heap.size + 1, rfl, rfl, (by unfold Hid; omega), (by unfold Hid; omega), (by unfold Hid; omega), mv b0 sm, mv b1 sm, mv (mv B_r bb) sm, mv (mv B_p bb) sm, mv (mv B_q bb) sm, nx (nx HB bb) sm⟩) | (obtain ⟨bb, b0, b1⟩ := box2 w10 23 #[.int .i64 x1, .int .i64 y1] 23 #[.int .i64 x0, .int .i64 y0]; replace bb := bb.out; have hs := HB.out.size; exact ⟨w10.heap.size + 1, w10.heap.size, rfl, rfl, (by unfold Hid; omega), (by unfold Hid; omega), (by unfold Hid; omega), mv b1 sm, mv b0 sm, mv (mv B_r bb) sm, mv (mv B_p bb) sm, mv (mv B_q bb) sm, nx (nx HB bb) sm⟩)
    case rest =>
      clear B_r
      clear B_p
      clear B_q
      clear HB
      rename World => wc15
      obtain ⟨Pf, Pg, rfl, rfl, nePf, lePf, lePg, B_f, B_g, B_r, B_p, B_q, HB⟩ := hcut
      go_upto_region 15 with (fail)
      go_cut [14, 15] (fun sA sB wx => ∃ Ph Pi : Nat, sA = (.pointer (some ⟨Ph, 0, none⟩)) ∧ sB = (.pointer (some ⟨Pi, 0, none⟩)) ∧ Hid (Ph ≠ Pi) ∧ Hid (w.heap.size ≤ Ph) ∧ Hid (w.heap.size ≤ Pi) ∧ Hid (Bx wx (Ph) 23 #[.int .i64 x0, .int .i64 y1]) ∧ Hid (Bx wx (Pi) 23 #[.int .i64 x1, .int .i64 y0]) ∧ Hid (Bx wx (w.heap.size + 1) 29 #[.int .i64 x0, .int .i64 y0, .int .i64 x1, .int .i64 y1]) ∧ Hid (Bx wx (Pp) 23 #[.int .i64 a, .int .i64 b]) ∧ Hid (Bx wx (Pq) 23 #[.int .i64 c, .int .i64 d]) ∧ Hid (Bx wx (Pf) 23 #[.int .i64 x0, .int .i64 y0]) ∧ Hid (Bx wx (Pg) 23 #[.int .i64 x1, .int .i64 y1]) ∧ Hid (Below w.heap.size w wx))
      case first =>
        obtain ⟨c0r, c1r, c2r, c3r⟩ := cells4 B_r
        go_region_held3 (fun w' => w'.cell? ⟨w.heap.size + 1, 0, none⟩ = some (.int .i64 x0) ∧ w'.cell? ⟨w.heap.size + 1, 1, none⟩ = some (.int .i64 y0) ∧ w'.cell? ⟨w.heap.size + 1, 2, none⟩ = some (.int .i64 x1) ∧ w'.cell? ⟨w.heap.size + 1, 3, none⟩ = some (.int .i64 y1)) (((try dsimp only); (repeat' apply And.intro) <;> (first | (with_reducible assumption) | ((repeat (first | (with_reducible refine Eq.trans (cell_drew1 _ _) ?_) | (with_reducible refine Eq.trans (cell_far (by omega) _ _ _) ?_) | (with_reducible refine Eq.trans (World.cell?_alloc_lt _ _ _ (by first | (dsimp only; omega) | (simp only [World.size_alloc, World.size_setCell]; omega))) ?_))); with_reducible assumption) | assumption | go_keep)))
            (first | fail)
        all_goals clear c0r c1r c2r c3r
        all_goals go_wp2_with fail
        all_goals go_meet
        all_goals first | (obtain ⟨bb, b0, b1⟩ := box2 wc15 23 #[.int .i64 x0, .int .i64 y1] 23 #[.int .i64 x1, .int .i64 y0]; replace bb := bb.out; have hs := HB.out.size; exact ⟨wc15.heap.size, wc15.heap.size + 1, rfl, rfl, (by unfold Hid; omega), (by unfold Hid; omega), (by unfold Hid; omega), mv b0 sm, mv b1 sm, mv (mv B_r bb) sm, mv (mv B_p bb) sm, mv (mv B_q bb) sm, mv (mv B_f bb) sm, mv (mv B_g bb) sm, nx (nx HB bb) sm⟩) | (obtain ⟨bb, b0, b1⟩ := box2 wc15 23 #[.int .i64 x1, .int .i64 y0] 23 #[.int .i64 x0, .int .i64 y1]; replace bb := bb.out; have hs := HB.out.size; exact ⟨wc15.heap.size + 1, wc15.heap.size, rfl, rfl, (by unfold Hid; omega), (by unfold Hid; omega), (by unfold Hid; omega), mv b1 sm, mv b0 sm, mv (mv B_r bb) sm, mv (mv B_p bb) sm, mv (mv B_q bb) sm, mv (mv B_f bb) sm, mv (mv B_g bb) sm, nx (nx HB bb) sm⟩)
      case rest =>
        clear B_r
        clear B_p
        clear B_q
        clear B_f
        clear B_g
        clear HB
        rename World => wc16
        obtain ⟨Ph, Pi, rfl, rfl, nePh, lePh, lePi, B_h, B_i, B_r, B_p, B_q, B_f, B_g, HB⟩ := hcut
        go_upto_region 16 with (fail)
        have z0' := z0.out
        obtain ⟨c0p, c1p⟩ := cells2 B_p
        obtain ⟨c0r, c1r, c2r, c3r⟩ := cells4 B_r
        go_wp2_with fail
        refine (HG.out _).mono ?_
        clear c0p c1p c0r c1r c2r c3r
        rintro e w17 ⟨rfl, bb⟩
        replace bb := nextw (w0 := wc16) (by exact sm) bb
        replace B_r := mv B_r bb
        replace B_p := mv B_p bb
        replace B_q := mv B_q bb
        replace B_f := mv B_f bb
        replace B_g := mv B_g bb
        replace B_h := mv B_h bb
        replace B_i := mv B_i bb
        replace HB := nx HB bb
        clear bb
        obtain ⟨c0q, c1q⟩ := cells2 B_q
        obtain ⟨c0r, c1r, c2r, c3r⟩ := cells4 B_r
        go_wp2_with fail
        refine (HQ.out _).mono ?_
        clear c0q c1q c0r c1r c2r c3r
        rintro e w18 ⟨rfl, bb⟩
        replace bb := nextw (w0 := w17) (by exact sm) bb
        replace B_r := mv B_r bb
        replace B_p := mv B_p bb
        replace B_q := mv B_q bb
        replace B_f := mv B_f bb
        replace B_g := mv B_g bb
        replace B_h := mv B_h bb
        replace B_i := mv B_i bb
        replace HB := nx HB bb
        clear bb
        go_upto_region 17 with (fail)
        obtain ⟨c0p, c1p⟩ := cells2 B_p
        obtain ⟨c0q, c1q⟩ := cells2 B_q
        obtain ⟨c0r, c1r, c2r, c3r⟩ := cells4 B_r
        go_wp2_with fail
        refine (T5.out _).mono ?_
        clear c0p c1p c0q c1q c0r c1r c2r c3r
        rintro e w19 ⟨rfl, bb⟩
        replace bb := nextw (w0 := w18) (by exact sm) bb
        replace B_r := mv B_r bb
        replace B_p := mv B_p bb
        replace B_q := mv B_q bb
        replace B_f := mv B_f bb
        replace B_g := mv B_g bb
        replace B_h := mv B_h bb
        replace B_i := mv B_i bb
        replace HB := nx HB bb
        clear bb
        go_wp2
        go_ret
        exact ⟨rfl, nextw HB.out (by exact sm)⟩

set_option maxRecDepth 100000 in
set_option maxHeartbeats 8000000 in
theorem Radii_vtc (a b c d x0 y0 x1 y1 n : Int) (n0 : 0 ≤ n) (n1 : n ≤ 65535) (hr : OkR x0 y0 x1 y1) (ha : OkC a) (hb : OkC b) (hc : OkC c) (hd : OkC d) (hw : -1024 ≤ a - c ∧ a - c ≤ 1024) (hv : -1024 ≤ b - d ∧ b - d ≤ 1024) (hs : To a b c d x0 y0 x1 y1 (n % 1024)) (g0 : ¬ (gapM a b x0 y0 x1 y1 = 0)) (g1 : ¬ (gapM c d x0 y0 x1 y1 = 0)) (g2 : Cr a b c d x0 y0 x1 y1) (w : World) :
    Calls Try.prog 11 #[.agg #[.int .i64 a, .int .i64 b, .int .i64 c, .int .i64 d], .agg #[.int .i64 x0, .int .i64 y0, .int .i64 x1, .int .i64 y1], .int .u16 n] w fun e w' => e = .returned (.bool true) ∧ Below w.heap.size w w' := by
  have HA := Lib.hid (fun w => awake_any w)
  have k0 : 0 ≤ n % 1024 := by omega
  have k1 : n % 1024 ≤ 1023 := by omega
  have T1 := Lib.hid (fun w => Touch_any a b c d x0 y0 x1 y1 (n % 1024) w)
  have T2 := Lib.hid (fun w => Touch_any a b c d x0 y0 x1 y1 ((n % 1024) + 1) w)
  have T3 := Lib.hid (fun w => Touch_any c d a b x0 y0 x1 y1 (n % 1024) w)
  rw [tk_flip] at T3
  have hp : OkP a b := ⟨ha.1, ha.2, hb.1, hb.2⟩
  have hq : OkP c d := ⟨hc.1, hc.2, hd.1, hd.2⟩
  have c00 : OkP x0 y0 := ⟨hr.a1, hr.a2, hr.b1, hr.b2⟩
  have c11 : OkP x1 y1 := ⟨hr.c1, hr.c2, hr.d1, hr.d2⟩
  have c01 : OkP x0 y1 := ⟨hr.a1, hr.a2, hr.d1, hr.d2⟩
  have c10 : OkP x1 y0 := ⟨hr.c1, hr.c2, hr.b1, hr.b2⟩
  have hT : ∀ j, 0 ≤ j → j ≤ 1024 → TK a b c d x0 y0 x1 y1 j := fun j j0 j1 => ⟨hp, hq, ⟨⟨by omega, by omega⟩, by omega, by omega⟩, hr, j0, j1⟩
  rw [decide_eq_true ⟨hT (n % 1024) k0 (by omega), hs⟩] at T1 T3
  rw [decide_eq_true ⟨hT ((n % 1024) + 1) (by omega) (by omega), to_more k0 hs⟩] at T2
  have HV := Lib.hid (fun w => ValidRect_t hr w)
  have S0 := Lib.hid (fun w => SizeL_t ha w)
  have S1 := Lib.hid (fun w => SizeL_t hb w)
  have T4 := Lib.hid (fun w => Touch_any a b a b x0 y0 x1 y1 (n % 1024) w)
  rw [tk_point hp hr k0 (by omega)] at T4
  have HG := Lib.hid (fun w => Gap_ok a b x0 y0 x1 y1 hp hr w)
  have ekk0 : Hid (IntKind.i64.wrap ((n % 1024) * (n % 1024)) = (n % 1024) * (n % 1024)) := by have := mul_le (a := (n % 1024)) (b := (n % 1024)) (A := 1024) (B := 1024) (by omega) (by omega) (by omega) (by omega); unfold Hid; rw [IntKind.wrap_i64]; omega
  have S2 := Lib.hid (fun w => SizeL_t hc w)
  have S3 := Lib.hid (fun w => SizeL_t hd w)
  have S4 := Lib.hid (fun w => Size_t (n := a - c) (m := 1024) (by decide) (by decide) hw w)
  have S5 := Lib.hid (fun w => Size_t (n := b - d) (m := 1024) (by decide) (by decide) hv w)
  have T5 := Lib.hid (fun w => Touch_any a b c d x0 y0 x1 y1 0 w)
  rw [decide_eq_true ⟨hT 0 (by omega) (by omega), (to_zero hr.hx hr.hy).2 (.inr (.inr (.inl g2)))⟩] at T5
  have HQ := Lib.hid (fun w => Gap_ok c d x0 y0 x1 y1 hq hr w)
  have HC := Lib.hid (fun w => Cross_any a b c d x0 y0 x1 y1 w)
  rw [decide_eq_true ⟨⟨hp, hq, c00, c11⟩, g2⟩] at HC
  have z0 : Hid ((gapM a b x0 y0 x1 y1 == 0) = false) := by unfold Hid; simpa using g0
  generalize gapM a b x0 y0 x1 y1 = gp at *
  have z1 : Hid ((gapM c d x0 y0 x1 y1 == 0) = false) := by unfold Hid; simpa using g1
  generalize gapM c d x0 y0 x1 y1 = gq at *
  obtain ⟨p1, p2⟩ := ha
  obtain ⟨p3, p4⟩ := hb
  obtain ⟨q1, q2⟩ := hc
  obtain ⟨q3, q4⟩ := hd
  clear hT hp hq c00 c11 c01 c10 hr hs g0 g1 g2
  skip
  obtain ⟨HB, B_l, B_r⟩ := box2 w 41 #[.int .i64 a, .int .i64 b, .int .i64 c, .int .i64 d] 29 #[.int .i64 x0, .int .i64 y0, .int .i64 x1, .int .i64 y1]
  go_enter Try.func11, Try.ntmps11
  go_wp2_with fail
  generalize (w.alloc (.cells #[.int .i64 a, .int .i64 b, .int .i64 c, .int .i64 d] 41)).alloc (.cells #[.int .i64 x0, .int .i64 y0, .int .i64 x1, .int .i64 y1] 29) = W0 at *
  refine (HA.out _).mono ?_
  rintro e w1 ⟨rfl, bb⟩
  replace bb := nextw (w0 := W0) (by exact sm) bb
  replace B_l := mv B_l bb
  replace B_r := mv B_r bb
  replace HB := nx HB bb
  clear bb
  go_upto_region 4 with (fail)
  generalize n % 1024 = k at *
  have ek : IntKind.i64.wrap (k + 1) = k + 1 := by rw [IntKind.wrap_i64]; omega
  replace ek := Lib.hid ek
  go_cut [8, 9] (fun sA sB wx => ∃ Pp Pq : Nat, sA = (.pointer (some ⟨Pp, 0, none⟩)) ∧ sB = (.pointer (some ⟨Pq, 0, none⟩)) ∧ Hid (Pp ≠ Pq) ∧ Hid (w.heap.size ≤ Pp) ∧ Hid (w.heap.size ≤ Pq) ∧ Hid (Bx wx (Pp) 23 #[.int .i64 a, .int .i64 b]) ∧ Hid (Bx wx (Pq) 23 #[.int .i64 c, .int .i64 d]) ∧ Hid (Bx wx (w.heap.size) 41 #[.int .i64 a, .int .i64 b, .int .i64 c, .int .i64 d]) ∧ Hid (Bx wx (w.heap.size + 1) 29 #[.int .i64 x0, .int .i64 y0, .int .i64 x1, .int .i64 y1]) ∧ Hid (Below w.heap.size w wx))
  case first =>
    obtain ⟨c0l, c1l, c2l, c3l⟩ := cells4 B_l
    go_region_held3 (fun w' => w'.cell? ⟨w.heap.size, 0, none⟩ = some (.int .i64 a) ∧ w'.cell? ⟨w.heap.size, 1, none⟩ = some (.int .i64 b) ∧ w'.cell? ⟨w.heap.size, 2, none⟩ = some (.int .i64 c) ∧ w'.cell? ⟨w.heap.size, 3, none⟩ = some (.int .i64 d)) (((try dsimp only); (repeat' apply And.intro) <;> (first | (with_reducible assumption) | ((repeat (first | (with_reducible refine Eq.trans (cell_drew1 _ _) ?_) | (with_reducible refine Eq.trans (cell_far (by omega) _ _ _) ?_) | (with_reducible refine Eq.trans (World.cell?_alloc_lt _ _ _ (by first | (dsimp only; omega) | (simp only [World.size_alloc, World.size_setCell]; omega))) ?_))); with_reducible assumption) | assumption | go_keep)))
        (first | fail)
    all_goals clear c0l c1l c2l c3l
    all_goals go_wp2_with fail
    all_goals go_meet
    all_goals first | (obtain ⟨bb, b0, b1⟩ := box2 w1 23 #[.int .i64 a, .int .i64 b] 23 #[.int .i64 c, .int .i64 d]; replace bb := bb.out; have hs := HB.out.size; exact ⟨w1.heap.size, w1.heap.size + 1, rfl, rfl, (by unfold Hid; omega), (by unfold Hid; omega), (by unfold Hid; omega), mv b0 sm, mv b1 sm, mv (mv B_l bb) sm, mv (mv B_r bb) sm, nx (nx HB bb) sm⟩) | (obtain ⟨bb, b0, b1⟩ := box2 w1 23 #[.int .i64 c, .int .i64 d] 23 #[.int .i64 a, .int .i64 b]; replace bb := bb.out; have hs := HB.out.size; exact ⟨w1.heap.size + 1, w1.heap.size, rfl, rfl, (by unfold Hid; omega), (by unfold Hid; omega), (by unfold Hid; omega), mv b1 sm, mv b0 sm, mv (mv B_l bb) sm, mv (mv B_r bb) sm, nx (nx HB bb) sm⟩)
  case rest =>
    clear B_l
    clear B_r
    clear HB
    rename World => wc2
    obtain ⟨Pp, Pq, rfl, rfl, nePp, lePp, lePq, B_p, B_q, B_l, B_r, HB⟩ := hcut
    clear B_l
    go_upto_region 5 with (fail)
    have ek' := ek.out
    obtain ⟨c0p, c1p⟩ := cells2 B_p
    obtain ⟨c0q, c1q⟩ := cells2 B_q
    obtain ⟨c0r, c1r, c2r, c3r⟩ := cells4 B_r
    have tk1x0 : True := trivial
    go_region_held3 (fun w' => w'.cell? ⟨Pp, 0, none⟩ = some (.int .i64 a) ∧ w'.cell? ⟨Pp, 1, none⟩ = some (.int .i64 b) ∧ w'.cell? ⟨Pq, 0, none⟩ = some (.int .i64 c) ∧ w'.cell? ⟨Pq, 1, none⟩ = some (.int .i64 d) ∧ w'.cell? ⟨w.heap.size + 1, 0, none⟩ = some (.int .i64 x0) ∧ w'.cell? ⟨w.heap.size + 1, 1, none⟩ = some (.int .i64 y0) ∧ w'.cell? ⟨w.heap.size + 1, 2, none⟩ = some (.int .i64 x1) ∧ w'.cell? ⟨w.heap.size + 1, 3, none⟩ = some (.int .i64 y1)) (((try dsimp only); (repeat' apply And.intro) <;> (first | (with_reducible assumption) | ((repeat (first | (with_reducible refine Eq.trans (cell_drew1 _ _) ?_) | (with_reducible refine Eq.trans (cell_far (by omega) _ _ _) ?_) | (with_reducible refine Eq.trans (World.cell?_alloc_lt _ _ _ (by first | (dsimp only; omega) | (simp only [World.size_alloc, World.size_setCell]; omega))) ?_))); with_reducible assumption) | assumption | go_keep)))
    (first
      | (clear tk1x0; go_at_call 25; refine (T1.out _).mono ?_; rintro e w3 ⟨rfl, bb⟩; replace bb := nextw (w0 := wc2) (by exact sm) bb; replace B_r := mv B_r bb; replace B_p := mv B_p bb; replace B_q := mv B_q bb; replace HB := nx HB bb; clear bb c0p c1p c0q c1q c0r c1r c2r c3r; have c0p : w3.cell? ⟨Pp, 0, none⟩ = some (.int .i64 a) := B_p.out.cell 0 rfl; have c1p : w3.cell? ⟨Pp, 1, none⟩ = some (.int .i64 b) := B_p.out.cell 1 rfl; have c0q : w3.cell? ⟨Pq, 0, none⟩ = some (.int .i64 c) := B_q.out.cell 0 rfl; have c1q : w3.cell? ⟨Pq, 1, none⟩ = some (.int .i64 d) := B_q.out.cell 1 rfl; have c0r : w3.cell? ⟨w.heap.size + 1, 0, none⟩ = some (.int .i64 x0) := B_r.out.cell 0 rfl; have c1r : w3.cell? ⟨w.heap.size + 1, 1, none⟩ = some (.int .i64 y0) := B_r.out.cell 1 rfl; have c2r : w3.cell? ⟨w.heap.size + 1, 2, none⟩ = some (.int .i64 x1) := B_r.out.cell 2 rfl; have c3r : w3.cell? ⟨w.heap.size + 1, 3, none⟩ = some (.int .i64 y1) := B_r.out.cell 3 rfl; have tk1x1 : True := trivial)
      | (clear tk1x1; go_at_call 25; refine (T2.out _).mono ?_; rintro e w4 ⟨rfl, bb⟩; replace bb := nextw (w0 := w3) (by exact sm) bb; replace B_r := mv B_r bb; replace B_p := mv B_p bb; replace B_q := mv B_q bb; replace HB := nx HB bb; clear bb c0p c1p c0q c1q c0r c1r c2r c3r; have c0p : w4.cell? ⟨Pp, 0, none⟩ = some (.int .i64 a) := B_p.out.cell 0 rfl; have c1p : w4.cell? ⟨Pp, 1, none⟩ = some (.int .i64 b) := B_p.out.cell 1 rfl; have c0q : w4.cell? ⟨Pq, 0, none⟩ = some (.int .i64 c) := B_q.out.cell 0 rfl; have c1q : w4.cell? ⟨Pq, 1, none⟩ = some (.int .i64 d) := B_q.out.cell 1 rfl; have c0r : w4.cell? ⟨w.heap.size + 1, 0, none⟩ = some (.int .i64 x0) := B_r.out.cell 0 rfl; have c1r : w4.cell? ⟨w.heap.size + 1, 1, none⟩ = some (.int .i64 y0) := B_r.out.cell 1 rfl; have c2r : w4.cell? ⟨w.heap.size + 1, 2, none⟩ = some (.int .i64 x1) := B_r.out.cell 2 rfl; have c3r : w4.cell? ⟨w.heap.size + 1, 3, none⟩ = some (.int .i64 y1) := B_r.out.cell 3 rfl; have tk1x2 : True := trivial))
    clear c0p c1p c0q c1q c0r c1r c2r c3r
    clear ek ek' T1 T2
    obtain ⟨c0p, c1p⟩ := cells2 B_p
    obtain ⟨c0q, c1q⟩ := cells2 B_q
    obtain ⟨c0r, c1r, c2r, c3r⟩ := cells4 B_r
    go_wp2_with fail
    refine (T3.out _).mono ?_
    clear c0p c1p c0q c1q c0r c1r c2r c3r
    rintro e w5 ⟨rfl, bb⟩
    replace bb := nextw (w0 := w4) (by exact sm) bb
    replace B_r := mv B_r bb
    replace B_p := mv B_p bb
    replace B_q := mv B_q bb
    replace HB := nx HB bb
    clear bb
    clear T3
    go_upto_region 8 with (fail)
    obtain ⟨c0r, c1r, c2r, c3r⟩ := cells4 B_r
    go_wp2_with fail
    refine (HV.out _).mono ?_
    clear c0r c1r c2r c3r
    rintro e w6 ⟨rfl, bb⟩
    replace bb := nextw (w0 := w5) (by exact sm) bb
    replace B_r := mv B_r bb
    replace B_p := mv B_p bb
    replace B_q := mv B_q bb
    replace HB := nx HB bb
    clear bb
    obtain ⟨c0p, c1p⟩ := cells2 B_p
    go_wp2_with fail
    refine (S0.out _).mono ?_
    rintro e w7 ⟨rfl, rfl⟩
    go_wp2_with fail
    refine (S1.out _).mono ?_
    rintro e w8 ⟨rfl, rfl⟩
    clear c0p c1p
    go_upto_region 10 with (fail)
    have ekk : IntKind.i64.wrap (k * k) = k * k := ekk0.out
    obtain ⟨c0p, c1p⟩ := cells2 B_p
    obtain ⟨c0r, c1r, c2r, c3r⟩ := cells4 B_r
    have tk2x0 : True := trivial
    go_region_held3 (fun w' => w'.cell? ⟨Pp, 0, none⟩ = some (.int .i64 a) ∧ w'.cell? ⟨Pp, 1, none⟩ = some (.int .i64 b) ∧ w'.cell? ⟨w.heap.size + 1, 0, none⟩ = some (.int .i64 x0) ∧ w'.cell? ⟨w.heap.size + 1, 1, none⟩ = some (.int .i64 y0) ∧ w'.cell? ⟨w.heap.size + 1, 2, none⟩ = some (.int .i64 x1) ∧ w'.cell? ⟨w.heap.size + 1, 3, none⟩ = some (.int .i64 y1)) (((try dsimp only); (repeat' apply And.intro) <;> (first | (with_reducible assumption) | ((repeat (first | (with_reducible refine Eq.trans (cell_drew1 _ _) ?_) | (with_reducible refine Eq.trans (cell_far (by omega) _ _ _) ?_) | (with_reducible refine Eq.trans (World.cell?_alloc_lt _ _ _ (by first | (dsimp only; omega) | (simp only [World.size_alloc, World.size_setCell]; omega))) ?_))); with_reducible assumption) | assumption | go_keep)))
    (first
      | (clear tk2x0; go_at_call 25; refine (T4.out _).mono ?_; rintro e w9 ⟨rfl, bb⟩; replace bb := nextw (w0 := w6) (by exact sm) bb; replace B_r := mv B_r bb; replace B_p := mv B_p bb; replace B_q := mv B_q bb; replace HB := nx HB bb; clear bb c0p c1p c0r c1r c2r c3r; have c0p : w9.cell? ⟨Pp, 0, none⟩ = some (.int .i64 a) := B_p.out.cell 0 rfl; have c1p : w9.cell? ⟨Pp, 1, none⟩ = some (.int .i64 b) := B_p.out.cell 1 rfl; have c0r : w9.cell? ⟨w.heap.size + 1, 0, none⟩ = some (.int .i64 x0) := B_r.out.cell 0 rfl; have c1r : w9.cell? ⟨w.heap.size + 1, 1, none⟩ = some (.int .i64 y0) := B_r.out.cell 1 rfl; have c2r : w9.cell? ⟨w.heap.size + 1, 2, none⟩ = some (.int .i64 x1) := B_r.out.cell 2 rfl; have c3r : w9.cell? ⟨w.heap.size + 1, 3, none⟩ = some (.int .i64 y1) := B_r.out.cell 3 rfl; have tk2x1 : True := trivial)
      | (clear tk2x1; go_at_call 23; refine (HG.out _).mono ?_; rintro e w10 ⟨rfl, bb⟩; replace bb := nextw (w0 := w9) (by exact sm) bb; replace B_r := mv B_r bb; replace B_p := mv B_p bb; replace B_q := mv B_q bb; replace HB := nx HB bb; clear bb c0p c1p c0r c1r c2r c3r; have c0p : w10.cell? ⟨Pp, 0, none⟩ = some (.int .i64 a) := B_p.out.cell 0 rfl; have c1p : w10.cell? ⟨Pp, 1, none⟩ = some (.int .i64 b) := B_p.out.cell 1 rfl; have c0r : w10.cell? ⟨w.heap.size + 1, 0, none⟩ = some (.int .i64 x0) := B_r.out.cell 0 rfl; have c1r : w10.cell? ⟨w.heap.size + 1, 1, none⟩ = some (.int .i64 y0) := B_r.out.cell 1 rfl; have c2r : w10.cell? ⟨w.heap.size + 1, 2, none⟩ = some (.int .i64 x1) := B_r.out.cell 2 rfl; have c3r : w10.cell? ⟨w.heap.size + 1, 3, none⟩ = some (.int .i64 y1) := B_r.out.cell 3 rfl; have tk2x2 : True := trivial))
    clear c0p c1p c0r c1r c2r c3r
    clear ekk ekk0 T4
    go_upto_region 12 with (fail)
    obtain ⟨c0q, c1q⟩ := cells2 B_q
    go_wp2_with fail
    refine (S2.out _).mono ?_
    rintro e w11 ⟨rfl, rfl⟩
    go_wp2_with fail
    refine (S3.out _).mono ?_
    rintro e w12 ⟨rfl, rfl⟩
    obtain ⟨c0p, c1p⟩ := cells2 B_p
    go_wp2_with fail
    refine (S4.out _).mono ?_
    rintro e w13 ⟨rfl, rfl⟩
    go_wp2_with fail
    refine (S5.out _).mono ?_
    rintro e w14 ⟨rfl, rfl⟩
    clear c0q c1q c0p c1p
    clear p1 p2 p3 p4 q1 q2 q3 q4 hw hv k0 k1 n1 S0 S1 S2 S3 S4 S5 HV HA
    go_upto_region 14 with (fail)
    go_cut [12, 13] (fun sA sB wx => ∃ Pf Pg : Nat, sA = (.pointer (some ⟨Pf, 0, none⟩)) ∧ sB = (.pointer (some ⟨Pg, 0, none⟩)) ∧ Hid (Pf ≠ Pg) ∧ Hid (w.heap.size ≤ Pf) ∧ Hid (w.heap.size ≤ Pg) ∧ Hid (Bx wx (Pf) 23 #[.int .i64 x0, .int .i64 y0]) ∧ Hid (Bx wx (Pg) 23 #[.int .i64 x1, .int .i64 y1]) ∧ Hid (Bx wx (w.heap.size + 1) 29 #[.int .i64 x0, .int .i64 y0, .int .i64 x1, .int .i64 y1]) ∧ Hid (Bx wx (Pp) 23 #[.int .i64 a, .int .i64 b]) ∧ Hid (Bx wx (Pq) 23 #[.int .i64 c, .int .i64 d]) ∧ Hid (Below w.heap.size w wx))
    case first =>
      obtain ⟨c0r, c1r, c2r, c3r⟩ := cells4 B_r
      go_region_held3 (fun w' => w'.cell? ⟨w.heap.size + 1, 0, none⟩ = some (.int .i64 x0) ∧ w'.cell? ⟨w.heap.size + 1, 1, none⟩ = some (.int .i64 y0) ∧ w'.cell? ⟨w.heap.size + 1, 2, none⟩ = some (.int .i64 x1) ∧ w'.cell? ⟨w.heap.size + 1, 3, none⟩ = some (.int .i64 y1)) (((try dsimp only); (repeat' apply And.intro) <;> (first | (with_reducible assumption) | ((repeat (first | (with_reducible refine Eq.trans (cell_drew1 _ _) ?_) | (with_reducible refine Eq.trans (cell_far (by omega) _ _ _) ?_) | (with_reducible refine Eq.trans (World.cell?_alloc_lt _ _ _ (by first | (dsimp only; omega) | (simp only [World.size_alloc, World.size_setCell]; omega))) ?_))); with_reducible assumption) | assumption | go_keep)))
          (first | fail)
      all_goals clear c0r c1r c2r c3r
      all_goals go_wp2_with fail
      all_goals go_meet
      all_goals first | (obtain ⟨bb, b0, b1⟩ := box2 w10 23 #[.int .i64 x0, .int .i64 y0] 23 #[.int .i64 x1, .int .i64 y1]; replace bb := bb.out; have hs := HB.out.size; exact ⟨w10.heap.size, w10.heap.size + 1, rfl, rfl, (by unfold Hid; omega), (by unfold Hid; omega), (by unfold Hid; omega), mv b0 sm, mv b1 sm, mv (mv B_r bb) sm, mv (mv B_p bb) sm, mv (mv B_q bb) sm, nx (nx HB bb) sm⟩) | (obtain ⟨bb, b0, b1⟩ := box2 w10 23 #[.int .i64 x1, .int .i64 y1] 23 #[.int .i64 x0, .int .i64 y0]; replace bb := bb.out; have hs := HB.out.size; exact ⟨w10.heap.size + 1, w10.heap.size, rfl, rfl, (by unfold Hid; omega), (by unfold Hid; omega), (by unfold Hid; omega), mv b1 sm, mv b0 sm, mv (mv B_r bb) sm, mv (mv B_p bb) sm, mv (mv B_q bb) sm, nx (nx HB bb) sm⟩)
    case rest =>
      clear B_r
      clear B_p
      clear B_q
      clear HB
      rename World => wc15
      obtain ⟨Pf, Pg, rfl, rfl, nePf, lePf, lePg, B_f, B_g, B_r, B_p, B_q, HB⟩ := hcut
      go_upto_region 15 with (fail)
      go_cut [14, 15] (fun sA sB wx => ∃ Ph Pi : Nat, sA = (.pointer (some ⟨Ph, 0, none⟩)) ∧ sB = (.pointer (some ⟨Pi, 0, none⟩)) ∧ Hid (Ph ≠ Pi) ∧ Hid (w.heap.size ≤ Ph) ∧ Hid (w.heap.size ≤ Pi) ∧ Hid (Bx wx (Ph) 23 #[.int .i64 x0, .int .i64 y1]) ∧ Hid (Bx wx (Pi) 23 #[.int .i64 x1, .int .i64 y0]) ∧ Hid (Bx wx (w.heap.size + 1) 29 #[.int .i64 x0, .int .i64 y0, .int .i64 x1, .int .i64 y1]) ∧ Hid (Bx wx (Pp) 23 #[.int .i64 a, .int .i64 b]) ∧ Hid (Bx wx (Pq) 23 #[.int .i64 c, .int .i64 d]) ∧ Hid (Bx wx (Pf) 23 #[.int .i64 x0, .int .i64 y0]) ∧ Hid (Bx wx (Pg) 23 #[.int .i64 x1, .int .i64 y1]) ∧ Hid (Below w.heap.size w wx))
      case first =>
        obtain ⟨c0r, c1r, c2r, c3r⟩ := cells4 B_r
        go_region_held3 (fun w' => w'.cell? ⟨w.heap.size + 1, 0, none⟩ = some (.int .i64 x0) ∧ w'.cell? ⟨w.heap.size + 1, 1, none⟩ = some (.int .i64 y0) ∧ w'.cell? ⟨w.heap.size + 1, 2, none⟩ = some (.int .i64 x1) ∧ w'.cell? ⟨w.heap.size + 1, 3, none⟩ = some (.int .i64 y1)) (((try dsimp only); (repeat' apply And.intro) <;> (first | (with_reducible assumption) | ((repeat (first | (with_reducible refine Eq.trans (cell_drew1 _ _) ?_) | (with_reducible refine Eq.trans (cell_far (by omega) _ _ _) ?_) | (with_reducible refine Eq.trans (World.cell?_alloc_lt _ _ _ (by first | (dsimp only; omega) | (simp only [World.size_alloc, World.size_setCell]; omega))) ?_))); with_reducible assumption) | assumption | go_keep)))
            (first | fail)
        all_goals clear c0r c1r c2r c3r
        all_goals go_wp2_with fail
        all_goals go_meet
        all_goals first | (obtain ⟨bb, b0, b1⟩ := box2 wc15 23 #[.int .i64 x0, .int .i64 y1] 23 #[.int .i64 x1, .int .i64 y0]; replace bb := bb.out; have hs := HB.out.size; exact ⟨wc15.heap.size, wc15.heap.size + 1, rfl, rfl, (by unfold Hid; omega), (by unfold Hid; omega), (by unfold Hid; omega), mv b0 sm, mv b1 sm, mv (mv B_r bb) sm, mv (mv B_p bb) sm, mv (mv B_q bb) sm, mv (mv B_f bb) sm, mv (mv B_g bb) sm, nx (nx HB bb) sm⟩) | (obtain ⟨bb, b0, b1⟩ := box2 wc15 23 #[.int .i64 x1, .int .i64 y0] 23 #[.int .i64 x0, .int .i64 y1]; replace bb := bb.out; have hs := HB.out.size; exact ⟨wc15.heap.size + 1, wc15.heap.size, rfl, rfl, (by unfold Hid; omega), (by unfold Hid; omega), (by unfold Hid; omega), mv b1 sm, mv b0 sm, mv (mv B_r bb) sm, mv (mv B_p bb) sm, mv (mv B_q bb) sm, mv (mv B_f bb) sm, mv (mv B_g bb) sm, nx (nx HB bb) sm⟩)
      case rest =>
        clear B_r
        clear B_p
        clear B_q
        clear B_f
        clear B_g
        clear HB
        rename World => wc16
        obtain ⟨Ph, Pi, rfl, rfl, nePh, lePh, lePi, B_h, B_i, B_r, B_p, B_q, B_f, B_g, HB⟩ := hcut
        go_upto_region 16 with (fail)
        have z0' := z0.out
        have z1' := z1.out
        obtain ⟨c0p, c1p⟩ := cells2 B_p
        obtain ⟨c0r, c1r, c2r, c3r⟩ := cells4 B_r
        go_wp2_with fail
        refine (HG.out _).mono ?_
        clear c0p c1p c0r c1r c2r c3r
        rintro e w17 ⟨rfl, bb⟩
        replace bb := nextw (w0 := wc16) (by exact sm) bb
        replace B_r := mv B_r bb
        replace B_p := mv B_p bb
        replace B_q := mv B_q bb
        replace B_f := mv B_f bb
        replace B_g := mv B_g bb
        replace B_h := mv B_h bb
        replace B_i := mv B_i bb
        replace HB := nx HB bb
        clear bb
        obtain ⟨c0q, c1q⟩ := cells2 B_q
        obtain ⟨c0r, c1r, c2r, c3r⟩ := cells4 B_r
        go_wp2_with fail
        refine (HQ.out _).mono ?_
        clear c0q c1q c0r c1r c2r c3r
        rintro e w18 ⟨rfl, bb⟩
        replace bb := nextw (w0 := w17) (by exact sm) bb
        replace B_r := mv B_r bb
        replace B_p := mv B_p bb
        replace B_q := mv B_q bb
        replace B_f := mv B_f bb
        replace B_g := mv B_g bb
        replace B_h := mv B_h bb
        replace B_i := mv B_i bb
        replace HB := nx HB bb
        clear bb
        obtain ⟨c0p, c1p⟩ := cells2 B_p
        obtain ⟨c0q, c1q⟩ := cells2 B_q
        obtain ⟨c0f, c1f⟩ := cells2 B_f
        obtain ⟨c0g, c1g⟩ := cells2 B_g
        go_wp2_with fail
        refine (HC.out _).mono ?_
        clear c0p c1p c0q c1q c0f c1f c0g c1g
        rintro e w19 ⟨rfl, bb⟩
        replace bb := nextw (w0 := w18) (by exact sm) bb
        replace B_r := mv B_r bb
        replace B_p := mv B_p bb
        replace B_q := mv B_q bb
        replace B_f := mv B_f bb
        replace B_g := mv B_g bb
        replace B_h := mv B_h bb
        replace B_i := mv B_i bb
        replace HB := nx HB bb
        clear bb
        go_upto_region 17 with (fail)
        obtain ⟨c0p, c1p⟩ := cells2 B_p
        obtain ⟨c0q, c1q⟩ := cells2 B_q
        obtain ⟨c0r, c1r, c2r, c3r⟩ := cells4 B_r
        go_wp2_with fail
        refine (T5.out _).mono ?_
        clear c0p c1p c0q c1q c0r c1r c2r c3r
        rintro e w20 ⟨rfl, bb⟩
        replace bb := nextw (w0 := w19) (by exact sm) bb
        replace B_r := mv B_r bb
        replace B_p := mv B_p bb
        replace B_q := mv B_q bb
        replace B_f := mv B_f bb
        replace B_g := mv B_g bb
        replace B_h := mv B_h bb
        replace B_i := mv B_i bb
        replace HB := nx HB bb
        clear bb
        go_wp2
        go_ret
        exact ⟨rfl, nextw HB.out (by exact sm)⟩

set_option maxRecDepth 100000 in
set_option maxHeartbeats 8000000 in
theorem Radii_vte (a b c d x0 y0 x1 y1 n : Int) (n0 : 0 ≤ n) (n1 : n ≤ 65535) (hr : OkR x0 y0 x1 y1) (ha : OkC a) (hb : OkC b) (hc : OkC c) (hd : OkC d) (hw : -1024 ≤ a - c ∧ a - c ≤ 1024) (hv : -1024 ≤ b - d ∧ b - d ≤ 1024) (hs : To a b c d x0 y0 x1 y1 (n % 1024)) (g0 : ¬ (gapM a b x0 y0 x1 y1 = 0)) (g1 : ¬ (gapM c d x0 y0 x1 y1 = 0)) (g2 : ¬ Cr a b c d x0 y0 x1 y1) (g3 : Cr a b c d x0 y1 x1 y0) (w : World) :
    Calls Try.prog 11 #[.agg #[.int .i64 a, .int .i64 b, .int .i64 c, .int .i64 d], .agg #[.int .i64 x0, .int .i64 y0, .int .i64 x1, .int .i64 y1], .int .u16 n] w fun e w' => e = .returned (.bool true) ∧ Below w.heap.size w w' := by
  have HA := Lib.hid (fun w => awake_any w)
  have k0 : 0 ≤ n % 1024 := by omega
  have k1 : n % 1024 ≤ 1023 := by omega
  have T1 := Lib.hid (fun w => Touch_any a b c d x0 y0 x1 y1 (n % 1024) w)
  have T2 := Lib.hid (fun w => Touch_any a b c d x0 y0 x1 y1 ((n % 1024) + 1) w)
  have T3 := Lib.hid (fun w => Touch_any c d a b x0 y0 x1 y1 (n % 1024) w)
  rw [tk_flip] at T3
  have hp : OkP a b := ⟨ha.1, ha.2, hb.1, hb.2⟩
  have hq : OkP c d := ⟨hc.1, hc.2, hd.1, hd.2⟩
  have c00 : OkP x0 y0 := ⟨hr.a1, hr.a2, hr.b1, hr.b2⟩
  have c11 : OkP x1 y1 := ⟨hr.c1, hr.c2, hr.d1, hr.d2⟩
  have c01 : OkP x0 y1 := ⟨hr.a1, hr.a2, hr.d1, hr.d2⟩
  have c10 : OkP x1 y0 := ⟨hr.c1, hr.c2, hr.b1, hr.b2⟩
  have hT : ∀ j, 0 ≤ j → j ≤ 1024 → TK a b c d x0 y0 x1 y1 j := fun j j0 j1 => ⟨hp, hq, ⟨⟨by omega, by omega⟩, by omega, by omega⟩, hr, j0, j1⟩
  rw [decide_eq_true ⟨hT (n % 1024) k0 (by omega), hs⟩] at T1 T3
  rw [decide_eq_true ⟨hT ((n % 1024) + 1) (by omega) (by omega), to_more k0 hs⟩] at T2
  have HV := Lib.hid (fun w => ValidRect_t hr w)
  have S0 := Lib.hid (fun w => SizeL_t ha w)
  have S1 := Lib.hid (fun w => SizeL_t hb w)
  have T4 := Lib.hid (fun w => Touch_any a b a b x0 y0 x1 y1 (n % 1024) w)
  rw [tk_point hp hr k0 (by omega)] at T4
  have HG := Lib.hid (fun w => Gap_ok a b x0 y0 x1 y1 hp hr w)
  have ekk0 : Hid (IntKind.i64.wrap ((n % 1024) * (n % 1024)) = (n % 1024) * (n % 1024)) := by have := mul_le (a := (n % 1024)) (b := (n % 1024)) (A := 1024) (B := 1024) (by omega) (by omega) (by omega) (by omega); unfold Hid; rw [IntKind.wrap_i64]; omega
  have S2 := Lib.hid (fun w => SizeL_t hc w)
  have S3 := Lib.hid (fun w => SizeL_t hd w)
  have S4 := Lib.hid (fun w => Size_t (n := a - c) (m := 1024) (by decide) (by decide) hw w)
  have S5 := Lib.hid (fun w => Size_t (n := b - d) (m := 1024) (by decide) (by decide) hv w)
  have T5 := Lib.hid (fun w => Touch_any a b c d x0 y0 x1 y1 0 w)
  rw [decide_eq_true ⟨hT 0 (by omega) (by omega), (to_zero hr.hx hr.hy).2 (.inr (.inr (.inr g3)))⟩] at T5
  have HQ := Lib.hid (fun w => Gap_ok c d x0 y0 x1 y1 hq hr w)
  have HC := Lib.hid (fun w => Cross_any a b c d x0 y0 x1 y1 w)
  rw [decide_eq_false (fun h : Ok4 a b c d x0 y0 x1 y1 ∧ Cr a b c d x0 y0 x1 y1 => g2 h.2)] at HC
  have HD := Lib.hid (fun w => Cross_any a b c d x0 y1 x1 y0 w)
  rw [decide_eq_true ⟨⟨hp, hq, c01, c10⟩, g3⟩] at HD
  have z0 : Hid ((gapM a b x0 y0 x1 y1 == 0) = false) := by unfold Hid; simpa using g0
  generalize gapM a b x0 y0 x1 y1 = gp at *
  have z1 : Hid ((gapM c d x0 y0 x1 y1 == 0) = false) := by unfold Hid; simpa using g1
  generalize gapM c d x0 y0 x1 y1 = gq at *
  obtain ⟨p1, p2⟩ := ha
  obtain ⟨p3, p4⟩ := hb
  obtain ⟨q1, q2⟩ := hc
  obtain ⟨q3, q4⟩ := hd
  clear hT hp hq c00 c11 c01 c10 hr hs g0 g1 g2 g3
  skip
  obtain ⟨HB, B_l, B_r⟩ := box2 w 41 #[.int .i64 a, .int .i64 b, .int .i64 c, .int .i64 d] 29 #[.int .i64 x0, .int .i64 y0, .int .i64 x1, .int .i64 y1]
  go_enter Try.func11, Try.ntmps11
  go_wp2_with fail
  generalize (w.alloc (.cells #[.int .i64 a, .int .i64 b, .int .i64 c, .int .i64 d] 41)).alloc (.cells #[.int .i64 x0, .int .i64 y0, .int .i64 x1, .int .i64 y1] 29) = W0 at *
  refine (HA.out _).mono ?_
  rintro e w1 ⟨rfl, bb⟩
  replace bb := nextw (w0 := W0) (by exact sm) bb
  replace B_l := mv B_l bb
  replace B_r := mv B_r bb
  replace HB := nx HB bb
  clear bb
  go_upto_region 4 with (fail)
  generalize n % 1024 = k at *
  have ek : IntKind.i64.wrap (k + 1) = k + 1 := by rw [IntKind.wrap_i64]; omega
  replace ek := Lib.hid ek
  go_cut [8, 9] (fun sA sB wx => ∃ Pp Pq : Nat, sA = (.pointer (some ⟨Pp, 0, none⟩)) ∧ sB = (.pointer (some ⟨Pq, 0, none⟩)) ∧ Hid (Pp ≠ Pq) ∧ Hid (w.heap.size ≤ Pp) ∧ Hid (w.heap.size ≤ Pq) ∧ Hid (Bx wx (Pp) 23 #[.int .i64 a, .int .i64 b]) ∧ Hid (Bx wx (Pq) 23 #[.int .i64 c, .int .i64 d]) ∧ Hid (Bx wx (w.heap.size) 41 #[.int .i64 a, .int .i64 b, .int .i64 c, .int .i64 d]) ∧ Hid (Bx wx (w.heap.size + 1) 29 #[.int .i64 x0, .int .i64 y0, .int .i64 x1, .int .i64 y1]) ∧ Hid (Below w.heap.size w wx))
  case first =>
    obtain ⟨c0l, c1l, c2l, c3l⟩ := cells4 B_l
    go_region_held3 (fun w' => w'.cell? ⟨w.heap.size, 0, none⟩ = some (.int .i64 a) ∧ w'.cell? ⟨w.heap.size, 1, none⟩ = some (.int .i64 b) ∧ w'.cell? ⟨w.heap.size, 2, none⟩ = some (.int .i64 c) ∧ w'.cell? ⟨w.heap.size, 3, none⟩ = some (.int .i64 d)) (((try dsimp only); (repeat' apply And.intro) <;> (first | (with_reducible assumption) | ((repeat (first | (with_reducible refine Eq.trans (cell_drew1 _ _) ?_) | (with_reducible refine Eq.trans (cell_far (by omega) _ _ _) ?_) | (with_reducible refine Eq.trans (World.cell?_alloc_lt _ _ _ (by first | (dsimp only; omega) | (simp only [World.size_alloc, World.size_setCell]; omega))) ?_))); with_reducible assumption) | assumption | go_keep)))
        (first | fail)
    all_goals clear c0l c1l c2l c3l
    all_goals go_wp2_with fail
    all_goals go_meet
    all_goals first | (obtain ⟨bb, b0, b1⟩ := box2 w1 23 #[.int .i64 a, .int .i64 b] 23 #[.int .i64 c, .int .i64 d]; replace bb := bb.out; have hs := HB.out.size; exact ⟨w1.heap.size, w1.heap.size + 1, rfl, rfl, (by unfold Hid; omega), (by unfold Hid; omega), (by unfold Hid; omega), mv b0 sm, mv b1 sm, mv (mv B_l bb) sm, mv (mv B_r bb) sm, nx (nx HB bb) sm⟩) | (obtain ⟨bb, b0, b1⟩ := box2 w1 23 #[.int .i64 c, .int .i64 d] 23 #[.int .i64 a, .int .i64 b]; replace bb := bb.out; have hs := HB.out.size; exact ⟨w1.heap.size + 1, w1.heap.size, rfl, rfl, (by unfold Hid; omega), (by unfold Hid; omega), (by unfold Hid; omega), mv b1 sm, mv b0 sm, mv (mv B_l bb) sm, mv (mv B_r bb) sm, nx (nx HB bb) sm⟩)
  case rest =>
    clear B_l
    clear B_r
    clear HB
    rename World => wc2
    obtain ⟨Pp, Pq, rfl, rfl, nePp, lePp, lePq, B_p, B_q, B_l, B_r, HB⟩ := hcut
    clear B_l
    go_upto_region 5 with (fail)
    have ek' := ek.out
    obtain ⟨c0p, c1p⟩ := cells2 B_p
    obtain ⟨c0q, c1q⟩ := cells2 B_q
    obtain ⟨c0r, c1r, c2r, c3r⟩ := cells4 B_r
    have tk1x0 : True := trivial
    go_region_held3 (fun w' => w'.cell? ⟨Pp, 0, none⟩ = some (.int .i64 a) ∧ w'.cell? ⟨Pp, 1, none⟩ = some (.int .i64 b) ∧ w'.cell? ⟨Pq, 0, none⟩ = some (.int .i64 c) ∧ w'.cell? ⟨Pq, 1, none⟩ = some (.int .i64 d) ∧ w'.cell? ⟨w.heap.size + 1, 0, none⟩ = some (.int .i64 x0) ∧ w'.cell? ⟨w.heap.size + 1, 1, none⟩ = some (.int .i64 y0) ∧ w'.cell? ⟨w.heap.size + 1, 2, none⟩ = some (.int .i64 x1) ∧ w'.cell? ⟨w.heap.size + 1, 3, none⟩ = some (.int .i64 y1)) (((try dsimp only); (repeat' apply And.intro) <;> (first | (with_reducible assumption) | ((repeat (first | (with_reducible refine Eq.trans (cell_drew1 _ _) ?_) | (with_reducible refine Eq.trans (cell_far (by omega) _ _ _) ?_) | (with_reducible refine Eq.trans (World.cell?_alloc_lt _ _ _ (by first | (dsimp only; omega) | (simp only [World.size_alloc, World.size_setCell]; omega))) ?_))); with_reducible assumption) | assumption | go_keep)))
    (first
      | (clear tk1x0; go_at_call 25; refine (T1.out _).mono ?_; rintro e w3 ⟨rfl, bb⟩; replace bb := nextw (w0 := wc2) (by exact sm) bb; replace B_r := mv B_r bb; replace B_p := mv B_p bb; replace B_q := mv B_q bb; replace HB := nx HB bb; clear bb c0p c1p c0q c1q c0r c1r c2r c3r; have c0p : w3.cell? ⟨Pp, 0, none⟩ = some (.int .i64 a) := B_p.out.cell 0 rfl; have c1p : w3.cell? ⟨Pp, 1, none⟩ = some (.int .i64 b) := B_p.out.cell 1 rfl; have c0q : w3.cell? ⟨Pq, 0, none⟩ = some (.int .i64 c) := B_q.out.cell 0 rfl; have c1q : w3.cell? ⟨Pq, 1, none⟩ = some (.int .i64 d) := B_q.out.cell 1 rfl; have c0r : w3.cell? ⟨w.heap.size + 1, 0, none⟩ = some (.int .i64 x0) := B_r.out.cell 0 rfl; have c1r : w3.cell? ⟨w.heap.size + 1, 1, none⟩ = some (.int .i64 y0) := B_r.out.cell 1 rfl; have c2r : w3.cell? ⟨w.heap.size + 1, 2, none⟩ = some (.int .i64 x1) := B_r.out.cell 2 rfl; have c3r : w3.cell? ⟨w.heap.size + 1, 3, none⟩ = some (.int .i64 y1) := B_r.out.cell 3 rfl; have tk1x1 : True := trivial)
      | (clear tk1x1; go_at_call 25; refine (T2.out _).mono ?_; rintro e w4 ⟨rfl, bb⟩; replace bb := nextw (w0 := w3) (by exact sm) bb; replace B_r := mv B_r bb; replace B_p := mv B_p bb; replace B_q := mv B_q bb; replace HB := nx HB bb; clear bb c0p c1p c0q c1q c0r c1r c2r c3r; have c0p : w4.cell? ⟨Pp, 0, none⟩ = some (.int .i64 a) := B_p.out.cell 0 rfl; have c1p : w4.cell? ⟨Pp, 1, none⟩ = some (.int .i64 b) := B_p.out.cell 1 rfl; have c0q : w4.cell? ⟨Pq, 0, none⟩ = some (.int .i64 c) := B_q.out.cell 0 rfl; have c1q : w4.cell? ⟨Pq, 1, none⟩ = some (.int .i64 d) := B_q.out.cell 1 rfl; have c0r : w4.cell? ⟨w.heap.size + 1, 0, none⟩ = some (.int .i64 x0) := B_r.out.cell 0 rfl; have c1r : w4.cell? ⟨w.heap.size + 1, 1, none⟩ = some (.int .i64 y0) := B_r.out.cell 1 rfl; have c2r : w4.cell? ⟨w.heap.size + 1, 2, none⟩ = some (.int .i64 x1) := B_r.out.cell 2 rfl; have c3r : w4.cell? ⟨w.heap.size + 1, 3, none⟩ = some (.int .i64 y1) := B_r.out.cell 3 rfl; have tk1x2 : True := trivial))
    clear c0p c1p c0q c1q c0r c1r c2r c3r
    clear ek ek' T1 T2
    obtain ⟨c0p, c1p⟩ := cells2 B_p
    obtain ⟨c0q, c1q⟩ := cells2 B_q
    obtain ⟨c0r, c1r, c2r, c3r⟩ := cells4 B_r
    go_wp2_with fail
    refine (T3.out _).mono ?_
    clear c0p c1p c0q c1q c0r c1r c2r c3r
    rintro e w5 ⟨rfl, bb⟩
    replace bb := nextw (w0 := w4) (by exact sm) bb
    replace B_r := mv B_r bb
    replace B_p := mv B_p bb
    replace B_q := mv B_q bb
    replace HB := nx HB bb
    clear bb
    clear T3
    go_upto_region 8 with (fail)
    obtain ⟨c0r, c1r, c2r, c3r⟩ := cells4 B_r
    go_wp2_with fail
    refine (HV.out _).mono ?_
    clear c0r c1r c2r c3r
    rintro e w6 ⟨rfl, bb⟩
    replace bb := nextw (w0 := w5) (by exact sm) bb
    replace B_r := mv B_r bb
    replace B_p := mv B_p bb
    replace B_q := mv B_q bb
    replace HB := nx HB bb
    clear bb
    obtain ⟨c0p, c1p⟩ := cells2 B_p
    go_wp2_with fail
    refine (S0.out _).mono ?_
    rintro e w7 ⟨rfl, rfl⟩
    go_wp2_with fail
    refine (S1.out _).mono ?_
    rintro e w8 ⟨rfl, rfl⟩
    clear c0p c1p
    go_upto_region 10 with (fail)
    have ekk : IntKind.i64.wrap (k * k) = k * k := ekk0.out
    obtain ⟨c0p, c1p⟩ := cells2 B_p
    obtain ⟨c0r, c1r, c2r, c3r⟩ := cells4 B_r
    have tk2x0 : True := trivial
    go_region_held3 (fun w' => w'.cell? ⟨Pp, 0, none⟩ = some (.int .i64 a) ∧ w'.cell? ⟨Pp, 1, none⟩ = some (.int .i64 b) ∧ w'.cell? ⟨w.heap.size + 1, 0, none⟩ = some (.int .i64 x0) ∧ w'.cell? ⟨w.heap.size + 1, 1, none⟩ = some (.int .i64 y0) ∧ w'.cell? ⟨w.heap.size + 1, 2, none⟩ = some (.int .i64 x1) ∧ w'.cell? ⟨w.heap.size + 1, 3, none⟩ = some (.int .i64 y1)) (((try dsimp only); (repeat' apply And.intro) <;> (first | (with_reducible assumption) | ((repeat (first | (with_reducible refine Eq.trans (cell_drew1 _ _) ?_) | (with_reducible refine Eq.trans (cell_far (by omega) _ _ _) ?_) | (with_reducible refine Eq.trans (World.cell?_alloc_lt _ _ _ (by first | (dsimp only; omega) | (simp only [World.size_alloc, World.size_setCell]; omega))) ?_))); with_reducible assumption) | assumption | go_keep)))
    (first
      | (clear tk2x0; go_at_call 25; refine (T4.out _).mono ?_; rintro e w9 ⟨rfl, bb⟩; replace bb := nextw (w0 := w6) (by exact sm) bb; replace B_r := mv B_r bb; replace B_p := mv B_p bb; replace B_q := mv B_q bb; replace HB := nx HB bb; clear bb c0p c1p c0r c1r c2r c3r; have c0p : w9.cell? ⟨Pp, 0, none⟩ = some (.int .i64 a) := B_p.out.cell 0 rfl; have c1p : w9.cell? ⟨Pp, 1, none⟩ = some (.int .i64 b) := B_p.out.cell 1 rfl; have c0r : w9.cell? ⟨w.heap.size + 1, 0, none⟩ = some (.int .i64 x0) := B_r.out.cell 0 rfl; have c1r : w9.cell? ⟨w.heap.size + 1, 1, none⟩ = some (.int .i64 y0) := B_r.out.cell 1 rfl; have c2r : w9.cell? ⟨w.heap.size + 1, 2, none⟩ = some (.int .i64 x1) := B_r.out.cell 2 rfl; have c3r : w9.cell? ⟨w.heap.size + 1, 3, none⟩ = some (.int .i64 y1) := B_r.out.cell 3 rfl; have tk2x1 : True := trivial)
      | (clear tk2x1; go_at_call 23; refine (HG.out _).mono ?_; rintro e w10 ⟨rfl, bb⟩; replace bb := nextw (w0 := w9) (by exact sm) bb; replace B_r := mv B_r bb; replace B_p := mv B_p bb; replace B_q := mv B_q bb; replace HB := nx HB bb; clear bb c0p c1p c0r c1r c2r c3r; have c0p : w10.cell? ⟨Pp, 0, none⟩ = some (.int .i64 a) := B_p.out.cell 0 rfl; have c1p : w10.cell? ⟨Pp, 1, none⟩ = some (.int .i64 b) := B_p.out.cell 1 rfl; have c0r : w10.cell? ⟨w.heap.size + 1, 0, none⟩ = some (.int .i64 x0) := B_r.out.cell 0 rfl; have c1r : w10.cell? ⟨w.heap.size + 1, 1, none⟩ = some (.int .i64 y0) := B_r.out.cell 1 rfl; have c2r : w10.cell? ⟨w.heap.size + 1, 2, none⟩ = some (.int .i64 x1) := B_r.out.cell 2 rfl; have c3r : w10.cell? ⟨w.heap.size + 1, 3, none⟩ = some (.int .i64 y1) := B_r.out.cell 3 rfl; have tk2x2 : True := trivial))
    clear c0p c1p c0r c1r c2r c3r
    clear ekk ekk0 T4
    go_upto_region 12 with (fail)
    obtain ⟨c0q, c1q⟩ := cells2 B_q
    go_wp2_with fail
    refine (S2.out _).mono ?_
    rintro e w11 ⟨rfl, rfl⟩
    go_wp2_with fail
    refine (S3.out _).mono ?_
    rintro e w12 ⟨rfl, rfl⟩
    obtain ⟨c0p, c1p⟩ := cells2 B_p
    go_wp2_with fail
    refine (S4.out _).mono ?_
    rintro e w13 ⟨rfl, rfl⟩
    go_wp2_with fail
    refine (S5.out _).mono ?_
    rintro e w14 ⟨rfl, rfl⟩
    clear c0q c1q c0p c1p
    clear p1 p2 p3 p4 q1 q2 q3 q4 hw hv k0 k1 n1 S0 S1 S2 S3 S4 S5 HV HA
    go_upto_region 14 with (fail)
    go_cut [12, 13] (fun sA sB wx => ∃ Pf Pg : Nat, sA = (.pointer (some ⟨Pf, 0, none⟩)) ∧ sB = (.pointer (some ⟨Pg, 0, none⟩)) ∧ Hid (Pf ≠ Pg) ∧ Hid (w.heap.size ≤ Pf) ∧ Hid (w.heap.size ≤ Pg) ∧ Hid (Bx wx (Pf) 23 #[.int .i64 x0, .int .i64 y0]) ∧ Hid (Bx wx (Pg) 23 #[.int .i64 x1, .int .i64 y1]) ∧ Hid (Bx wx (w.heap.size + 1) 29 #[.int .i64 x0, .int .i64 y0, .int .i64 x1, .int .i64 y1]) ∧ Hid (Bx wx (Pp) 23 #[.int .i64 a, .int .i64 b]) ∧ Hid (Bx wx (Pq) 23 #[.int .i64 c, .int .i64 d]) ∧ Hid (Below w.heap.size w wx))
    case first =>
      obtain ⟨c0r, c1r, c2r, c3r⟩ := cells4 B_r
      go_region_held3 (fun w' => w'.cell? ⟨w.heap.size + 1, 0, none⟩ = some (.int .i64 x0) ∧ w'.cell? ⟨w.heap.size + 1, 1, none⟩ = some (.int .i64 y0) ∧ w'.cell? ⟨w.heap.size + 1, 2, none⟩ = some (.int .i64 x1) ∧ w'.cell? ⟨w.heap.size + 1, 3, none⟩ = some (.int .i64 y1)) (((try dsimp only); (repeat' apply And.intro) <;> (first | (with_reducible assumption) | ((repeat (first | (with_reducible refine Eq.trans (cell_drew1 _ _) ?_) | (with_reducible refine Eq.trans (cell_far (by omega) _ _ _) ?_) | (with_reducible refine Eq.trans (World.cell?_alloc_lt _ _ _ (by first | (dsimp only; omega) | (simp only [World.size_alloc, World.size_setCell]; omega))) ?_))); with_reducible assumption) | assumption | go_keep)))
          (first | fail)
      all_goals clear c0r c1r c2r c3r
      all_goals go_wp2_with fail
      all_goals go_meet
      all_goals first | (obtain ⟨bb, b0, b1⟩ := box2 w10 23 #[.int .i64 x0, .int .i64 y0] 23 #[.int .i64 x1, .int .i64 y1]; replace bb := bb.out; have hs := HB.out.size; exact ⟨w10.heap.size, w10.heap.size + 1, rfl, rfl, (by unfold Hid; omega), (by unfold Hid; omega), (by unfold Hid; omega), mv b0 sm, mv b1 sm, mv (mv B_r bb) sm, mv (mv B_p bb) sm, mv (mv B_q bb) sm, nx (nx HB bb) sm⟩) | (obtain ⟨bb, b0, b1⟩ := box2 w10 23 #[.int .i64 x1, .int .i64 y1] 23 #[.int .i64 x0, .int .i64 y0]; replace bb := bb.out; have hs := HB.out.size; exact ⟨w10.heap.size + 1, w10.heap.size, rfl, rfl, (by unfold Hid; omega), (by unfold Hid; omega), (by unfold Hid; omega), mv b1 sm, mv b0 sm, mv (mv B_r bb) sm, mv (mv B_p bb) sm, mv (mv B_q bb) sm, nx (nx HB bb) sm⟩)
    case rest =>
      clear B_r
      clear B_p
      clear B_q
      clear HB
      rename World => wc15
      obtain ⟨Pf, Pg, rfl, rfl, nePf, lePf, lePg, B_f, B_g, B_r, B_p, B_q, HB⟩ := hcut
      go_upto_region 15 with (fail)
      go_cut [14, 15] (fun sA sB wx => ∃ Ph Pi : Nat, sA = (.pointer (some ⟨Ph, 0, none⟩)) ∧ sB = (.pointer (some ⟨Pi, 0, none⟩)) ∧ Hid (Ph ≠ Pi) ∧ Hid (w.heap.size ≤ Ph) ∧ Hid (w.heap.size ≤ Pi) ∧ Hid (Bx wx (Ph) 23 #[.int .i64 x0, .int .i64 y1]) ∧ Hid (Bx wx (Pi) 23 #[.int .i64 x1, .int .i64 y0]) ∧ Hid (Bx wx (w.heap.size + 1) 29 #[.int .i64 x0, .int .i64 y0, .int .i64 x1, .int .i64 y1]) ∧ Hid (Bx wx (Pp) 23 #[.int .i64 a, .int .i64 b]) ∧ Hid (Bx wx (Pq) 23 #[.int .i64 c, .int .i64 d]) ∧ Hid (Bx wx (Pf) 23 #[.int .i64 x0, .int .i64 y0]) ∧ Hid (Bx wx (Pg) 23 #[.int .i64 x1, .int .i64 y1]) ∧ Hid (Below w.heap.size w wx))
      case first =>
        obtain ⟨c0r, c1r, c2r, c3r⟩ := cells4 B_r
        go_region_held3 (fun w' => w'.cell? ⟨w.heap.size + 1, 0, none⟩ = some (.int .i64 x0) ∧ w'.cell? ⟨w.heap.size + 1, 1, none⟩ = some (.int .i64 y0) ∧ w'.cell? ⟨w.heap.size + 1, 2, none⟩ = some (.int .i64 x1) ∧ w'.cell? ⟨w.heap.size + 1, 3, none⟩ = some (.int .i64 y1)) (((try dsimp only); (repeat' apply And.intro) <;> (first | (with_reducible assumption) | ((repeat (first | (with_reducible refine Eq.trans (cell_drew1 _ _) ?_) | (with_reducible refine Eq.trans (cell_far (by omega) _ _ _) ?_) | (with_reducible refine Eq.trans (World.cell?_alloc_lt _ _ _ (by first | (dsimp only; omega) | (simp only [World.size_alloc, World.size_setCell]; omega))) ?_))); with_reducible assumption) | assumption | go_keep)))
            (first | fail)
        all_goals clear c0r c1r c2r c3r
        all_goals go_wp2_with fail
        all_goals go_meet
        all_goals first | (obtain ⟨bb, b0, b1⟩ := box2 wc15 23 #[.int .i64 x0, .int .i64 y1] 23 #[.int .i64 x1, .int .i64 y0]; replace bb := bb.out; have hs := HB.out.size; exact ⟨wc15.heap.size, wc15.heap.size + 1, rfl, rfl, (by unfold Hid; omega), (by unfold Hid; omega), (by unfold Hid; omega), mv b0 sm, mv b1 sm, mv (mv B_r bb) sm, mv (mv B_p bb) sm, mv (mv B_q bb) sm, mv (mv B_f bb) sm, mv (mv B_g bb) sm, nx (nx HB bb) sm⟩) | (obtain ⟨bb, b0, b1⟩ := box2 wc15 23 #[.int .i64 x1, .int .i64 y0] 23 #[.int .i64 x0, .int .i64 y1]; replace bb := bb.out; have hs := HB.out.size; exact ⟨wc15.heap.size + 1, wc15.heap.size, rfl, rfl, (by unfold Hid; omega), (by unfold Hid; omega), (by unfold Hid; omega), mv b1 sm, mv b0 sm, mv (mv B_r bb) sm, mv (mv B_p bb) sm, mv (mv B_q bb) sm, mv (mv B_f bb) sm, mv (mv B_g bb) sm, nx (nx HB bb) sm⟩)
      case rest =>
        clear B_r
        clear B_p
        clear B_q
        clear B_f
        clear B_g
        clear HB
        rename World => wc16
        obtain ⟨Ph, Pi, rfl, rfl, nePh, lePh, lePi, B_h, B_i, B_r, B_p, B_q, B_f, B_g, HB⟩ := hcut
        go_upto_region 16 with (fail)
        have z0' := z0.out
        have z1' := z1.out
        obtain ⟨c0p, c1p⟩ := cells2 B_p
        obtain ⟨c0r, c1r, c2r, c3r⟩ := cells4 B_r
        go_wp2_with fail
        refine (HG.out _).mono ?_
        clear c0p c1p c0r c1r c2r c3r
        rintro e w17 ⟨rfl, bb⟩
        replace bb := nextw (w0 := wc16) (by exact sm) bb
        replace B_r := mv B_r bb
        replace B_p := mv B_p bb
        replace B_q := mv B_q bb
        replace B_f := mv B_f bb
        replace B_g := mv B_g bb
        replace B_h := mv B_h bb
        replace B_i := mv B_i bb
        replace HB := nx HB bb
        clear bb
        obtain ⟨c0q, c1q⟩ := cells2 B_q
        obtain ⟨c0r, c1r, c2r, c3r⟩ := cells4 B_r
        go_wp2_with fail
        refine (HQ.out _).mono ?_
        clear c0q c1q c0r c1r c2r c3r
        rintro e w18 ⟨rfl, bb⟩
        replace bb := nextw (w0 := w17) (by exact sm) bb
        replace B_r := mv B_r bb
        replace B_p := mv B_p bb
        replace B_q := mv B_q bb
        replace B_f := mv B_f bb
        replace B_g := mv B_g bb
        replace B_h := mv B_h bb
        replace B_i := mv B_i bb
        replace HB := nx HB bb
        clear bb
        obtain ⟨c0p, c1p⟩ := cells2 B_p
        obtain ⟨c0q, c1q⟩ := cells2 B_q
        obtain ⟨c0f, c1f⟩ := cells2 B_f
        obtain ⟨c0g, c1g⟩ := cells2 B_g
        go_wp2_with fail
        refine (HC.out _).mono ?_
        clear c0p c1p c0q c1q c0f c1f c0g c1g
        rintro e w19 ⟨rfl, bb⟩
        replace bb := nextw (w0 := w18) (by exact sm) bb
        replace B_r := mv B_r bb
        replace B_p := mv B_p bb
        replace B_q := mv B_q bb
        replace B_f := mv B_f bb
        replace B_g := mv B_g bb
        replace B_h := mv B_h bb
        replace B_i := mv B_i bb
        replace HB := nx HB bb
        clear bb
        obtain ⟨c0p, c1p⟩ := cells2 B_p
        obtain ⟨c0q, c1q⟩ := cells2 B_q
        obtain ⟨c0h, c1h⟩ := cells2 B_h
        obtain ⟨c0i, c1i⟩ := cells2 B_i
        go_wp2_with fail
        refine (HD.out _).mono ?_
        clear c0p c1p c0q c1q c0h c1h c0i c1i
        rintro e w20 ⟨rfl, bb⟩
        replace bb := nextw (w0 := w19) (by exact sm) bb
        replace B_r := mv B_r bb
        replace B_p := mv B_p bb
        replace B_q := mv B_q bb
        replace B_f := mv B_f bb
        replace B_g := mv B_g bb
        replace B_h := mv B_h bb
        replace B_i := mv B_i bb
        replace HB := nx HB bb
        clear bb
        go_upto_region 17 with (fail)
        obtain ⟨c0p, c1p⟩ := cells2 B_p
        obtain ⟨c0q, c1q⟩ := cells2 B_q
        obtain ⟨c0r, c1r, c2r, c3r⟩ := cells4 B_r
        go_wp2_with fail
        refine (T5.out _).mono ?_
        clear c0p c1p c0q c1q c0r c1r c2r c3r
        rintro e w21 ⟨rfl, bb⟩
        replace bb := nextw (w0 := w20) (by exact sm) bb
        replace B_r := mv B_r bb
        replace B_p := mv B_p bb
        replace B_q := mv B_q bb
        replace B_f := mv B_f bb
        replace B_g := mv B_g bb
        replace B_h := mv B_h bb
        replace B_i := mv B_i bb
        replace HB := nx HB bb
        clear bb
        go_wp2
        go_ret
        exact ⟨rfl, nextw HB.out (by exact sm)⟩

set_option maxRecDepth 100000 in
set_option maxHeartbeats 8000000 in
theorem Radii_vtn (a b c d x0 y0 x1 y1 n : Int) (n0 : 0 ≤ n) (n1 : n ≤ 65535) (hr : OkR x0 y0 x1 y1) (ha : OkC a) (hb : OkC b) (hc : OkC c) (hd : OkC d) (hw : -1024 ≤ a - c ∧ a - c ≤ 1024) (hv : -1024 ≤ b - d ∧ b - d ≤ 1024) (hs : To a b c d x0 y0 x1 y1 (n % 1024)) (g0 : ¬ (gapM a b x0 y0 x1 y1 = 0)) (g1 : ¬ (gapM c d x0 y0 x1 y1 = 0)) (g2 : ¬ Cr a b c d x0 y0 x1 y1) (g3 : ¬ Cr a b c d x0 y1 x1 y0) (w : World) :
    Calls Try.prog 11 #[.agg #[.int .i64 a, .int .i64 b, .int .i64 c, .int .i64 d], .agg #[.int .i64 x0, .int .i64 y0, .int .i64 x1, .int .i64 y1], .int .u16 n] w fun e w' => e = .returned (.bool true) ∧ Below w.heap.size w w' := by
  have HA := Lib.hid (fun w => awake_any w)
  have k0 : 0 ≤ n % 1024 := by omega
  have k1 : n % 1024 ≤ 1023 := by omega
  have T1 := Lib.hid (fun w => Touch_any a b c d x0 y0 x1 y1 (n % 1024) w)
  have T2 := Lib.hid (fun w => Touch_any a b c d x0 y0 x1 y1 ((n % 1024) + 1) w)
  have T3 := Lib.hid (fun w => Touch_any c d a b x0 y0 x1 y1 (n % 1024) w)
  rw [tk_flip] at T3
  have hp : OkP a b := ⟨ha.1, ha.2, hb.1, hb.2⟩
  have hq : OkP c d := ⟨hc.1, hc.2, hd.1, hd.2⟩
  have c00 : OkP x0 y0 := ⟨hr.a1, hr.a2, hr.b1, hr.b2⟩
  have c11 : OkP x1 y1 := ⟨hr.c1, hr.c2, hr.d1, hr.d2⟩
  have c01 : OkP x0 y1 := ⟨hr.a1, hr.a2, hr.d1, hr.d2⟩
  have c10 : OkP x1 y0 := ⟨hr.c1, hr.c2, hr.b1, hr.b2⟩
  have hT : ∀ j, 0 ≤ j → j ≤ 1024 → TK a b c d x0 y0 x1 y1 j := fun j j0 j1 => ⟨hp, hq, ⟨⟨by omega, by omega⟩, by omega, by omega⟩, hr, j0, j1⟩
  rw [decide_eq_true ⟨hT (n % 1024) k0 (by omega), hs⟩] at T1 T3
  rw [decide_eq_true ⟨hT ((n % 1024) + 1) (by omega) (by omega), to_more k0 hs⟩] at T2
  have HV := Lib.hid (fun w => ValidRect_t hr w)
  have S0 := Lib.hid (fun w => SizeL_t ha w)
  have S1 := Lib.hid (fun w => SizeL_t hb w)
  have T4 := Lib.hid (fun w => Touch_any a b a b x0 y0 x1 y1 (n % 1024) w)
  rw [tk_point hp hr k0 (by omega)] at T4
  have HG := Lib.hid (fun w => Gap_ok a b x0 y0 x1 y1 hp hr w)
  have ekk0 : Hid (IntKind.i64.wrap ((n % 1024) * (n % 1024)) = (n % 1024) * (n % 1024)) := by have := mul_le (a := (n % 1024)) (b := (n % 1024)) (A := 1024) (B := 1024) (by omega) (by omega) (by omega) (by omega); unfold Hid; rw [IntKind.wrap_i64]; omega
  have S2 := Lib.hid (fun w => SizeL_t hc w)
  have S3 := Lib.hid (fun w => SizeL_t hd w)
  have S4 := Lib.hid (fun w => Size_t (n := a - c) (m := 1024) (by decide) (by decide) hw w)
  have S5 := Lib.hid (fun w => Size_t (n := b - d) (m := 1024) (by decide) (by decide) hv w)
  have T5 := Lib.hid (fun w => Touch_any a b c d x0 y0 x1 y1 0 w)
  rw [decide_eq_false (fun h : TK a b c d x0 y0 x1 y1 0 ∧ To a b c d x0 y0 x1 y1 0 => by rcases (to_zero hr.hx hr.hy).1 h.2 with h | h | h | h; exact g0 h; exact g1 h; exact g2 h; exact g3 h)] at T5
  have HQ := Lib.hid (fun w => Gap_ok c d x0 y0 x1 y1 hq hr w)
  have HC := Lib.hid (fun w => Cross_any a b c d x0 y0 x1 y1 w)
  rw [decide_eq_false (fun h : Ok4 a b c d x0 y0 x1 y1 ∧ Cr a b c d x0 y0 x1 y1 => g2 h.2)] at HC
  have HD := Lib.hid (fun w => Cross_any a b c d x0 y1 x1 y0 w)
  rw [decide_eq_false (fun h : Ok4 a b c d x0 y1 x1 y0 ∧ Cr a b c d x0 y1 x1 y0 => g3 h.2)] at HD
  have z0 : Hid ((gapM a b x0 y0 x1 y1 == 0) = false) := by unfold Hid; simpa using g0
  generalize gapM a b x0 y0 x1 y1 = gp at *
  have z1 : Hid ((gapM c d x0 y0 x1 y1 == 0) = false) := by unfold Hid; simpa using g1
  generalize gapM c d x0 y0 x1 y1 = gq at *
  obtain ⟨p1, p2⟩ := ha
  obtain ⟨p3, p4⟩ := hb
  obtain ⟨q1, q2⟩ := hc
  obtain ⟨q3, q4⟩ := hd
  clear hT hp hq c00 c11 c01 c10 hr hs g0 g1 g2 g3
  skip
  obtain ⟨HB, B_l, B_r⟩ := box2 w 41 #[.int .i64 a, .int .i64 b, .int .i64 c, .int .i64 d] 29 #[.int .i64 x0, .int .i64 y0, .int .i64 x1, .int .i64 y1]
  go_enter Try.func11, Try.ntmps11
  go_wp2_with fail
  generalize (w.alloc (.cells #[.int .i64 a, .int .i64 b, .int .i64 c, .int .i64 d] 41)).alloc (.cells #[.int .i64 x0, .int .i64 y0, .int .i64 x1, .int .i64 y1] 29) = W0 at *
  refine (HA.out _).mono ?_
  rintro e w1 ⟨rfl, bb⟩
  replace bb := nextw (w0 := W0) (by exact sm) bb
  replace B_l := mv B_l bb
  replace B_r := mv B_r bb
  replace HB := nx HB bb
  clear bb
  go_upto_region 4 with (fail)
  generalize n % 1024 = k at *
  have ek : IntKind.i64.wrap (k + 1) = k + 1 := by rw [IntKind.wrap_i64]; omega
  replace ek := Lib.hid ek
  go_cut [8, 9] (fun sA sB wx => ∃ Pp Pq : Nat, sA = (.pointer (some ⟨Pp, 0, none⟩)) ∧ sB = (.pointer (some ⟨Pq, 0, none⟩)) ∧ Hid (Pp ≠ Pq) ∧ Hid (w.heap.size ≤ Pp) ∧ Hid (w.heap.size ≤ Pq) ∧ Hid (Bx wx (Pp) 23 #[.int .i64 a, .int .i64 b]) ∧ Hid (Bx wx (Pq) 23 #[.int .i64 c, .int .i64 d]) ∧ Hid (Bx wx (w.heap.size) 41 #[.int .i64 a, .int .i64 b, .int .i64 c, .int .i64 d]) ∧ Hid (Bx wx (w.heap.size + 1) 29 #[.int .i64 x0, .int .i64 y0, .int .i64 x1, .int .i64 y1]) ∧ Hid (Below w.heap.size w wx))
  case first =>
    obtain ⟨c0l, c1l, c2l, c3l⟩ := cells4 B_l
    go_region_held3 (fun w' => w'.cell? ⟨w.heap.size, 0, none⟩ = some (.int .i64 a) ∧ w'.cell? ⟨w.heap.size, 1, none⟩ = some (.int .i64 b) ∧ w'.cell? ⟨w.heap.size, 2, none⟩ = some (.int .i64 c) ∧ w'.cell? ⟨w.heap.size, 3, none⟩ = some (.int .i64 d)) (((try dsimp only); (repeat' apply And.intro) <;> (first | (with_reducible assumption) | ((repeat (first | (with_reducible refine Eq.trans (cell_drew1 _ _) ?_) | (with_reducible refine Eq.trans (cell_far (by omega) _ _ _) ?_) | (with_reducible refine Eq.trans (World.cell?_alloc_lt _ _ _ (by first | (dsimp only; omega) | (simp only [World.size_alloc, World.size_setCell]; omega))) ?_))); with_reducible assumption) | assumption | go_keep)))
        (first | fail)
    all_goals clear c0l c1l c2l c3l
    all_goals go_wp2_with fail
    all_goals go_meet
    all_goals first | (obtain ⟨bb, b0, b1⟩ := box2 w1 23 #[.int .i64 a, .int .i64 b] 23 #[.int .i64 c, .int .i64 d]; replace bb := bb.out; have hs := HB.out.size; exact ⟨w1.heap.size, w1.heap.size + 1, rfl, rfl, (by unfold Hid; omega), (by unfold Hid; omega), (by unfold Hid; omega), mv b0 sm, mv b1 sm, mv (mv B_l bb) sm, mv (mv B_r bb) sm, nx (nx HB bb) sm⟩) | (obtain ⟨bb, b0, b1⟩ := box2 w1 23 #[.int .i64 c, .int .i64 d] 23 #[.int .i64 a, .int .i64 b]; replace bb := bb.out; have hs := HB.out.size; exact ⟨w1.heap.size + 1, w1.heap.size, rfl, rfl, (by unfold Hid; omega), (by unfold Hid; omega), (by unfold Hid; omega), mv b1 sm, mv b0 sm, mv (mv B_l bb) sm, mv (mv B_r bb) sm, nx (nx HB bb) sm⟩)
  case rest =>
    clear B_l
    clear B_r
    clear HB
    rename World => wc2
    obtain ⟨Pp, Pq, rfl, rfl, nePp, lePp, lePq, B_p, B_q, B_l, B_r, HB⟩ := hcut
    clear B_l
    go_upto_region 5 with (fail)
    have ek' := ek.out
    obtain ⟨c0p, c1p⟩ := cells2 B_p
    obtain ⟨c0q, c1q⟩ := cells2 B_q
    obtain ⟨c0r, c1r, c2r, c3r⟩ := cells4 B_r
    have tk1x0 : True := trivial
    go_region_held3 (fun w' => w'.cell? ⟨Pp, 0, none⟩ = some (.int .i64 a) ∧ w'.cell? ⟨Pp, 1, none⟩ = some (.int .i64 b) ∧ w'.cell? ⟨Pq, 0, none⟩ = some (.int .i64 c) ∧ w'.cell? ⟨Pq, 1, none⟩ = some (.int .i64 d) ∧ w'.cell? ⟨w.heap.size + 1, 0, none⟩ = some (.int .i64 x0) ∧ w'.cell? ⟨w.heap.size + 1, 1, none⟩ = some (.int .i64 y0) ∧ w'.cell? ⟨w.heap.size + 1, 2, none⟩ = some (.int .i64 x1) ∧ w'.cell? ⟨w.heap.size + 1, 3, none⟩ = some (.int .i64 y1)) (((try dsimp only); (repeat' apply And.intro) <;> (first | (with_reducible assumption) | ((repeat (first | (with_reducible refine Eq.trans (cell_drew1 _ _) ?_) | (with_reducible refine Eq.trans (cell_far (by omega) _ _ _) ?_) | (with_reducible refine Eq.trans (World.cell?_alloc_lt _ _ _ (by first | (dsimp only; omega) | (simp only [World.size_alloc, World.size_setCell]; omega))) ?_))); with_reducible assumption) | assumption | go_keep)))
    (first
      | (clear tk1x0; go_at_call 25; refine (T1.out _).mono ?_; rintro e w3 ⟨rfl, bb⟩; replace bb := nextw (w0 := wc2) (by exact sm) bb; replace B_r := mv B_r bb; replace B_p := mv B_p bb; replace B_q := mv B_q bb; replace HB := nx HB bb; clear bb c0p c1p c0q c1q c0r c1r c2r c3r; have c0p : w3.cell? ⟨Pp, 0, none⟩ = some (.int .i64 a) := B_p.out.cell 0 rfl; have c1p : w3.cell? ⟨Pp, 1, none⟩ = some (.int .i64 b) := B_p.out.cell 1 rfl; have c0q : w3.cell? ⟨Pq, 0, none⟩ = some (.int .i64 c) := B_q.out.cell 0 rfl; have c1q : w3.cell? ⟨Pq, 1, none⟩ = some (.int .i64 d) := B_q.out.cell 1 rfl; have c0r : w3.cell? ⟨w.heap.size + 1, 0, none⟩ = some (.int .i64 x0) := B_r.out.cell 0 rfl; have c1r : w3.cell? ⟨w.heap.size + 1, 1, none⟩ = some (.int .i64 y0) := B_r.out.cell 1 rfl; have c2r : w3.cell? ⟨w.heap.size + 1, 2, none⟩ = some (.int .i64 x1) := B_r.out.cell 2 rfl; have c3r : w3.cell? ⟨w.heap.size + 1, 3, none⟩ = some (.int .i64 y1) := B_r.out.cell 3 rfl; have tk1x1 : True := trivial)
      | (clear tk1x1; go_at_call 25; refine (T2.out _).mono ?_; rintro e w4 ⟨rfl, bb⟩; replace bb := nextw (w0 := w3) (by exact sm) bb; replace B_r := mv B_r bb; replace B_p := mv B_p bb; replace B_q := mv B_q bb; replace HB := nx HB bb; clear bb c0p c1p c0q c1q c0r c1r c2r c3r; have c0p : w4.cell? ⟨Pp, 0, none⟩ = some (.int .i64 a) := B_p.out.cell 0 rfl; have c1p : w4.cell? ⟨Pp, 1, none⟩ = some (.int .i64 b) := B_p.out.cell 1 rfl; have c0q : w4.cell? ⟨Pq, 0, none⟩ = some (.int .i64 c) := B_q.out.cell 0 rfl; have c1q : w4.cell? ⟨Pq, 1, none⟩ = some (.int .i64 d) := B_q.out.cell 1 rfl; have c0r : w4.cell? ⟨w.heap.size + 1, 0, none⟩ = some (.int .i64 x0) := B_r.out.cell 0 rfl; have c1r : w4.cell? ⟨w.heap.size + 1, 1, none⟩ = some (.int .i64 y0) := B_r.out.cell 1 rfl; have c2r : w4.cell? ⟨w.heap.size + 1, 2, none⟩ = some (.int .i64 x1) := B_r.out.cell 2 rfl; have c3r : w4.cell? ⟨w.heap.size + 1, 3, none⟩ = some (.int .i64 y1) := B_r.out.cell 3 rfl; have tk1x2 : True := trivial))
    clear c0p c1p c0q c1q c0r c1r c2r c3r
    clear ek ek' T1 T2
    obtain ⟨c0p, c1p⟩ := cells2 B_p
    obtain ⟨c0q, c1q⟩ := cells2 B_q
    obtain ⟨c0r, c1r, c2r, c3r⟩ := cells4 B_r
    go_wp2_with fail
    refine (T3.out _).mono ?_
    clear c0p c1p c0q c1q c0r c1r c2r c3r
    rintro e w5 ⟨rfl, bb⟩
    replace bb := nextw (w0 := w4) (by exact sm) bb
    replace B_r := mv B_r bb
    replace B_p := mv B_p bb
    replace B_q := mv B_q bb
    replace HB := nx HB bb
    clear bb
    clear T3
    go_upto_region 8 with (fail)
    obtain ⟨c0r, c1r, c2r, c3r⟩ := cells4 B_r
    go_wp2_with fail
    refine (HV.out _).mono ?_
    clear c0r c1r c2r c3r
    rintro e w6 ⟨rfl, bb⟩
    replace bb := nextw (w0 := w5) (by exact sm) bb
    replace B_r := mv B_r bb
    replace B_p := mv B_p bb
    replace B_q := mv B_q bb
    replace HB := nx HB bb
    clear bb
    obtain ⟨c0p, c1p⟩ := cells2 B_p
    go_wp2_with fail
    refine (S0.out _).mono ?_
    rintro e w7 ⟨rfl, rfl⟩
    go_wp2_with fail
    refine (S1.out _).mono ?_
    rintro e w8 ⟨rfl, rfl⟩
    clear c0p c1p
    go_upto_region 10 with (fail)
    have ekk : IntKind.i64.wrap (k * k) = k * k := ekk0.out
    obtain ⟨c0p, c1p⟩ := cells2 B_p
    obtain ⟨c0r, c1r, c2r, c3r⟩ := cells4 B_r
    have tk2x0 : True := trivial
    go_region_held3 (fun w' => w'.cell? ⟨Pp, 0, none⟩ = some (.int .i64 a) ∧ w'.cell? ⟨Pp, 1, none⟩ = some (.int .i64 b) ∧ w'.cell? ⟨w.heap.size + 1, 0, none⟩ = some (.int .i64 x0) ∧ w'.cell? ⟨w.heap.size + 1, 1, none⟩ = some (.int .i64 y0) ∧ w'.cell? ⟨w.heap.size + 1, 2, none⟩ = some (.int .i64 x1) ∧ w'.cell? ⟨w.heap.size + 1, 3, none⟩ = some (.int .i64 y1)) (((try dsimp only); (repeat' apply And.intro) <;> (first | (with_reducible assumption) | ((repeat (first | (with_reducible refine Eq.trans (cell_drew1 _ _) ?_) | (with_reducible refine Eq.trans (cell_far (by omega) _ _ _) ?_) | (with_reducible refine Eq.trans (World.cell?_alloc_lt _ _ _ (by first | (dsimp only; omega) | (simp only [World.size_alloc, World.size_setCell]; omega))) ?_))); with_reducible assumption) | assumption | go_keep)))
    (first
      | (clear tk2x0; go_at_call 25; refine (T4.out _).mono ?_; rintro e w9 ⟨rfl, bb⟩; replace bb := nextw (w0 := w6) (by exact sm) bb; replace B_r := mv B_r bb; replace B_p := mv B_p bb; replace B_q := mv B_q bb; replace HB := nx HB bb; clear bb c0p c1p c0r c1r c2r c3r; have c0p : w9.cell? ⟨Pp, 0, none⟩ = some (.int .i64 a) := B_p.out.cell 0 rfl; have c1p : w9.cell? ⟨Pp, 1, none⟩ = some (.int .i64 b) := B_p.out.cell 1 rfl; have c0r : w9.cell? ⟨w.heap.size + 1, 0, none⟩ = some (.int .i64 x0) := B_r.out.cell 0 rfl; have c1r : w9.cell? ⟨w.heap.size + 1, 1, none⟩ = some (.int .i64 y0) := B_r.out.cell 1 rfl; have c2r : w9.cell? ⟨w.heap.size + 1, 2, none⟩ = some (.int .i64 x1) := B_r.out.cell 2 rfl; have c3r : w9.cell? ⟨w.heap.size + 1, 3, none⟩ = some (.int .i64 y1) := B_r.out.cell 3 rfl; have tk2x1 : True := trivial)
      | (clear tk2x1; go_at_call 23; refine (HG.out _).mono ?_; rintro e w10 ⟨rfl, bb⟩; replace bb := nextw (w0 := w9) (by exact sm) bb; replace B_r := mv B_r bb; replace B_p := mv B_p bb; replace B_q := mv B_q bb; replace HB := nx HB bb; clear bb c0p c1p c0r c1r c2r c3r; have c0p : w10.cell? ⟨Pp, 0, none⟩ = some (.int .i64 a) := B_p.out.cell 0 rfl; have c1p : w10.cell? ⟨Pp, 1, none⟩ = some (.int .i64 b) := B_p.out.cell 1 rfl; have c0r : w10.cell? ⟨w.heap.size + 1, 0, none⟩ = some (.int .i64 x0) := B_r.out.cell 0 rfl; have c1r : w10.cell? ⟨w.heap.size + 1, 1, none⟩ = some (.int .i64 y0) := B_r.out.cell 1 rfl; have c2r : w10.cell? ⟨w.heap.size + 1, 2, none⟩ = some (.int .i64 x1) := B_r.out.cell 2 rfl; have c3r : w10.cell? ⟨w.heap.size + 1, 3, none⟩ = some (.int .i64 y1) := B_r.out.cell 3 rfl; have tk2x2 : True := trivial))
    clear c0p c1p c0r c1r c2r c3r
    clear ekk ekk0 T4
    go_upto_region 12 with (fail)
    obtain ⟨c0q, c1q⟩ := cells2 B_q
    go_wp2_with fail
    refine (S2.out _).mono ?_
    rintro e w11 ⟨rfl, rfl⟩
    go_wp2_with fail
    refine (S3.out _).mono ?_
    rintro e w12 ⟨rfl, rfl⟩
    obtain ⟨c0p, c1p⟩ := cells2 B_p
    go_wp2_with fail
    refine (S4.out _).mono ?_
    rintro e w13 ⟨rfl, rfl⟩
    go_wp2_with fail
    refine (S5.out _).mono ?_
    rintro e w14 ⟨rfl, rfl⟩
    clear c0q c1q c0p c1p
    clear p1 p2 p3 p4 q1 q2 q3 q4 hw hv k0 k1 n1 S0 S1 S2 S3 S4 S5 HV HA
    go_upto_region 14 with (fail)
    go_cut [12, 13] (fun sA sB wx => ∃ Pf Pg : Nat, sA = (.pointer (some ⟨Pf, 0, none⟩)) ∧ sB = (.pointer (some ⟨Pg, 0, none⟩)) ∧ Hid (Pf ≠ Pg) ∧ Hid (w.heap.size ≤ Pf) ∧ Hid (w.heap.size ≤ Pg) ∧ Hid (Bx wx (Pf) 23 #[.int .i64 x0, .int .i64 y0]) ∧ Hid (Bx wx (Pg) 23 #[.int .i64 x1, .int .i64 y1]) ∧ Hid (Bx wx (w.heap.size + 1) 29 #[.int .i64 x0, .int .i64 y0, .int .i64 x1, .int .i64 y1]) ∧ Hid (Bx wx (Pp) 23 #[.int .i64 a, .int .i64 b]) ∧ Hid (Bx wx (Pq) 23 #[.int .i64 c, .int .i64 d]) ∧ Hid (Below w.heap.size w wx))
    case first =>
      obtain ⟨c0r, c1r, c2r, c3r⟩ := cells4 B_r
      go_region_held3 (fun w' => w'.cell? ⟨w.heap.size + 1, 0, none⟩ = some (.int .i64 x0) ∧ w'.cell? ⟨w.heap.size + 1, 1, none⟩ = some (.int .i64 y0) ∧ w'.cell? ⟨w.heap.size + 1, 2, none⟩ = some (.int .i64 x1) ∧ w'.cell? ⟨w.heap.size + 1, 3, none⟩ = some (.int .i64 y1)) (((try dsimp only); (repeat' apply And.intro) <;> (first | (with_reducible assumption) | ((repeat (first | (with_reducible refine Eq.trans (cell_drew1 _ _) ?_) | (with_reducible refine Eq.trans (cell_far (by omega) _ _ _) ?_) | (with_reducible refine Eq.trans (World.cell?_alloc_lt _ _ _ (by first | (dsimp only; omega) | (simp only [World.size_alloc, World.size_setCell]; omega))) ?_))); with_reducible assumption) | assumption | go_keep)))
          (first | fail)
      all_goals clear c0r c1r c2r c3r
      all_goals go_wp2_with fail
      all_goals go_meet
      all_goals first | (obtain ⟨bb, b0, b1⟩ := box2 w10 23 #[.int .i64 x0, .int .i64 y0] 23 #[.int .i64 x1, .int .i64 y1]; replace bb := bb.out; have hs := HB.out.size; exact ⟨w10.heap.size, w10.heap.size + 1, rfl, rfl, (by unfold Hid; omega), (by unfold Hid; omega), (by unfold Hid; omega), mv b0 sm, mv b1 sm, mv (mv B_r bb) sm, mv (mv B_p bb) sm, mv (mv B_q bb) sm, nx (nx HB bb) sm⟩) | (obtain ⟨bb, b0, b1⟩ := box2 w10 23 #[.int .i64 x1, .int .i64 y1] 23 #[.int .i64 x0, .int .i64 y0]; replace bb := bb.out; have hs := HB.out.size; exact ⟨w10.heap.size + 1, w10.heap.size, rfl, rfl, (by unfold Hid; omega), (by unfold Hid; omega), (by unfold Hid; omega), mv b1 sm, mv b0 sm, mv (mv B_r bb) sm, mv (mv B_p bb) sm, mv (mv B_q bb) sm, nx (nx HB bb) sm⟩)
    case rest =>
      clear B_r
      clear B_p
      clear B_q
      clear HB
      rename World => wc15
      obtain ⟨Pf, Pg, rfl, rfl, nePf, lePf, lePg, B_f, B_g, B_r, B_p, B_q, HB⟩ := hcut
      go_upto_region 15 with (fail)
      go_cut [14, 15] (fun sA sB wx => ∃ Ph Pi : Nat, sA = (.pointer (some ⟨Ph, 0, none⟩)) ∧ sB = (.pointer (some ⟨Pi, 0, none⟩)) ∧ Hid (Ph ≠ Pi) ∧ Hid (w.heap.size ≤ Ph) ∧ Hid (w.heap.size ≤ Pi) ∧ Hid (Bx wx (Ph) 23 #[.int .i64 x0, .int .i64 y1]) ∧ Hid (Bx wx (Pi) 23 #[.int .i64 x1, .int .i64 y0]) ∧ Hid (Bx wx (w.heap.size + 1) 29 #[.int .i64 x0, .int .i64 y0, .int .i64 x1, .int .i64 y1]) ∧ Hid (Bx wx (Pp) 23 #[.int .i64 a, .int .i64 b]) ∧ Hid (Bx wx (Pq) 23 #[.int .i64 c, .int .i64 d]) ∧ Hid (Bx wx (Pf) 23 #[.int .i64 x0, .int .i64 y0]) ∧ Hid (Bx wx (Pg) 23 #[.int .i64 x1, .int .i64 y1]) ∧ Hid (Below w.heap.size w wx))
      case first =>
        obtain ⟨c0r, c1r, c2r, c3r⟩ := cells4 B_r
        go_region_held3 (fun w' => w'.cell? ⟨w.heap.size + 1, 0, none⟩ = some (.int .i64 x0) ∧ w'.cell? ⟨w.heap.size + 1, 1, none⟩ = some (.int .i64 y0) ∧ w'.cell? ⟨w.heap.size + 1, 2, none⟩ = some (.int .i64 x1) ∧ w'.cell? ⟨w.heap.size + 1, 3, none⟩ = some (.int .i64 y1)) (((try dsimp only); (repeat' apply And.intro) <;> (first | (with_reducible assumption) | ((repeat (first | (with_reducible refine Eq.trans (cell_drew1 _ _) ?_) | (with_reducible refine Eq.trans (cell_far (by omega) _ _ _) ?_) | (with_reducible refine Eq.trans (World.cell?_alloc_lt _ _ _ (by first | (dsimp only; omega) | (simp only [World.size_alloc, World.size_setCell]; omega))) ?_))); with_reducible assumption) | assumption | go_keep)))
            (first | fail)
        all_goals clear c0r c1r c2r c3r
        all_goals go_wp2_with fail
        all_goals go_meet
        all_goals first | (obtain ⟨bb, b0, b1⟩ := box2 wc15 23 #[.int .i64 x0, .int .i64 y1] 23 #[.int .i64 x1, .int .i64 y0]; replace bb := bb.out; have hs := HB.out.size; exact ⟨wc15.heap.size, wc15.heap.size + 1, rfl, rfl, (by unfold Hid; omega), (by unfold Hid; omega), (by unfold Hid; omega), mv b0 sm, mv b1 sm, mv (mv B_r bb) sm, mv (mv B_p bb) sm, mv (mv B_q bb) sm, mv (mv B_f bb) sm, mv (mv B_g bb) sm, nx (nx HB bb) sm⟩) | (obtain ⟨bb, b0, b1⟩ := box2 wc15 23 #[.int .i64 x1, .int .i64 y0] 23 #[.int .i64 x0, .int .i64 y1]; replace bb := bb.out; have hs := HB.out.size; exact ⟨wc15.heap.size + 1, wc15.heap.size, rfl, rfl, (by unfold Hid; omega), (by unfold Hid; omega), (by unfold Hid; omega), mv b1 sm, mv b0 sm, mv (mv B_r bb) sm, mv (mv B_p bb) sm, mv (mv B_q bb) sm, mv (mv B_f bb) sm, mv (mv B_g bb) sm, nx (nx HB bb) sm⟩)
      case rest =>
        clear B_r
        clear B_p
        clear B_q
        clear B_f
        clear B_g
        clear HB
        rename World => wc16
        obtain ⟨Ph, Pi, rfl, rfl, nePh, lePh, lePi, B_h, B_i, B_r, B_p, B_q, B_f, B_g, HB⟩ := hcut
        go_upto_region 16 with (fail)
        have z0' := z0.out
        have z1' := z1.out
        obtain ⟨c0p, c1p⟩ := cells2 B_p
        obtain ⟨c0r, c1r, c2r, c3r⟩ := cells4 B_r
        go_wp2_with fail
        refine (HG.out _).mono ?_
        clear c0p c1p c0r c1r c2r c3r
        rintro e w17 ⟨rfl, bb⟩
        replace bb := nextw (w0 := wc16) (by exact sm) bb
        replace B_r := mv B_r bb
        replace B_p := mv B_p bb
        replace B_q := mv B_q bb
        replace B_f := mv B_f bb
        replace B_g := mv B_g bb
        replace B_h := mv B_h bb
        replace B_i := mv B_i bb
        replace HB := nx HB bb
        clear bb
        obtain ⟨c0q, c1q⟩ := cells2 B_q
        obtain ⟨c0r, c1r, c2r, c3r⟩ := cells4 B_r
        go_wp2_with fail
        refine (HQ.out _).mono ?_
        clear c0q c1q c0r c1r c2r c3r
        rintro e w18 ⟨rfl, bb⟩
        replace bb := nextw (w0 := w17) (by exact sm) bb
        replace B_r := mv B_r bb
        replace B_p := mv B_p bb
        replace B_q := mv B_q bb
        replace B_f := mv B_f bb
        replace B_g := mv B_g bb
        replace B_h := mv B_h bb
        replace B_i := mv B_i bb
        replace HB := nx HB bb
        clear bb
        obtain ⟨c0p, c1p⟩ := cells2 B_p
        obtain ⟨c0q, c1q⟩ := cells2 B_q
        obtain ⟨c0f, c1f⟩ := cells2 B_f
        obtain ⟨c0g, c1g⟩ := cells2 B_g
        go_wp2_with fail
        refine (HC.out _).mono ?_
        clear c0p c1p c0q c1q c0f c1f c0g c1g
        rintro e w19 ⟨rfl, bb⟩
        replace bb := nextw (w0 := w18) (by exact sm) bb
        replace B_r := mv B_r bb
        replace B_p := mv B_p bb
        replace B_q := mv B_q bb
        replace B_f := mv B_f bb
        replace B_g := mv B_g bb
        replace B_h := mv B_h bb
        replace B_i := mv B_i bb
        replace HB := nx HB bb
        clear bb
        obtain ⟨c0p, c1p⟩ := cells2 B_p
        obtain ⟨c0q, c1q⟩ := cells2 B_q
        obtain ⟨c0h, c1h⟩ := cells2 B_h
        obtain ⟨c0i, c1i⟩ := cells2 B_i
        go_wp2_with fail
        refine (HD.out _).mono ?_
        clear c0p c1p c0q c1q c0h c1h c0i c1i
        rintro e w20 ⟨rfl, bb⟩
        replace bb := nextw (w0 := w19) (by exact sm) bb
        replace B_r := mv B_r bb
        replace B_p := mv B_p bb
        replace B_q := mv B_q bb
        replace B_f := mv B_f bb
        replace B_g := mv B_g bb
        replace B_h := mv B_h bb
        replace B_i := mv B_i bb
        replace HB := nx HB bb
        clear bb
        go_upto_region 17 with (fail)
        obtain ⟨c0p, c1p⟩ := cells2 B_p
        obtain ⟨c0q, c1q⟩ := cells2 B_q
        obtain ⟨c0r, c1r, c2r, c3r⟩ := cells4 B_r
        go_wp2_with fail
        refine (T5.out _).mono ?_
        clear c0p c1p c0q c1q c0r c1r c2r c3r
        rintro e w21 ⟨rfl, bb⟩
        replace bb := nextw (w0 := w20) (by exact sm) bb
        replace B_r := mv B_r bb
        replace B_p := mv B_p bb
        replace B_q := mv B_q bb
        replace B_f := mv B_f bb
        replace B_g := mv B_g bb
        replace B_h := mv B_h bb
        replace B_i := mv B_i bb
        replace HB := nx HB bb
        clear bb
        go_wp2
        go_ret
        exact ⟨rfl, nextw HB.out (by exact sm)⟩
end Go.Proofs.Ytaflgmiagjldhaa
