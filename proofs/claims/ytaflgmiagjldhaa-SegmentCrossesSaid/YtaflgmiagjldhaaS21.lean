/- The law SegmentCrosses. -/
import Derived.Test.YtaflgmiagjldhaaS10
import Derived.Test.YtaflgmiagjldhaaS20
set_option linter.unusedVariables false
set_option linter.unusedSimpArgs false
namespace Go.Proofs.Ytaflgmiagjldhaa
open Go Go.RowKit Hd

/-- The side, or 0 where a point is not valid. -/
def tv (a b c d u v : Int) : Int := if OkP a b ∧ OkP c d ∧ OkP u v then sgn (pr a b c d u v) else 0
theorem tv_bd (a b c d u v : Int) : -1 ≤ tv a b c d u v ∧ tv a b c d u v ≤ 1 := by
  unfold tv; split
  · exact sgn_bd _
  · omega
theorem tv_anti (a b c d u v : Int) : tv c d a b u v = -tv a b c d u v := by
  unfold tv; rw [pr_anti, sgn_neg]; split <;> split <;> first | rfl | (exfalso; simp_all)
theorem tv_cyc (a b c d u v : Int) : tv c d u v a b = tv a b c d u v := by
  unfold tv; rw [pr_cyc]; split <;> split <;> first | rfl | (exfalso; simp_all)
theorem cr_1 (a b c d f g u v : Int) : decide (Ok4 c d a b f g u v ∧ Cr c d a b f g u v) = decide (Ok4 a b c d f g u v ∧ Cr a b c d f g u v) :=
  decide_eq_decide.2 ⟨fun ⟨⟨p, q, r, s⟩, h⟩ => ⟨⟨q, p, r, s⟩, h.flip1⟩, fun ⟨⟨p, q, r, s⟩, h⟩ => ⟨⟨q, p, r, s⟩, h.flip1⟩⟩
theorem cr_2 (a b c d f g u v : Int) : decide (Ok4 a b c d u v f g ∧ Cr a b c d u v f g) = decide (Ok4 a b c d f g u v ∧ Cr a b c d f g u v) :=
  decide_eq_decide.2 ⟨fun ⟨⟨p, q, r, s⟩, h⟩ => ⟨⟨p, q, s, r⟩, h.flip2⟩, fun ⟨⟨p, q, r, s⟩, h⟩ => ⟨⟨p, q, s, r⟩, h.flip2⟩⟩
theorem cr_3 (a b c d f g u v : Int) : decide (Ok4 f g u v a b c d ∧ Cr f g u v a b c d) = decide (Ok4 a b c d f g u v ∧ Cr a b c d f g u v) :=
  decide_eq_decide.2 ⟨fun ⟨⟨p, q, r, s⟩, h⟩ => ⟨⟨r, s, p, q⟩, h.swap⟩, fun ⟨⟨p, q, r, s⟩, h⟩ => ⟨⟨r, s, p, q⟩, h.swap⟩⟩

theorem Turn_any (a b c d u v : Int) (w : World) : Calls Try.prog 28 #[.agg #[.int .i64 a, .int .i64 b], .agg #[.int .i64 c, .int .i64 d], .agg #[.int .i64 u, .int .i64 v]] w fun e w' => e = .returned (.int .i64 (tv a b c d u v)) ∧ Below w.heap.size w w' := by
  by_cases hp : OkP a b
  · by_cases hq : OkP c d
    · by_cases hr : OkP u v
      · rw [show tv a b c d u v = sgn (pr a b c d u v) from if_pos ⟨hp, hq, hr⟩]; exact Turn_ok a b c d u v hp hq hr w
      · rw [show tv a b c d u v = 0 from if_neg (fun h => hr h.2.2)]; exact Turn_2 a b c d u v hp hq hr w
    · rw [show tv a b c d u v = 0 from if_neg (fun h => hq h.2.1)]; exact Turn_1 a b c d u v hp hq w
  · rw [show tv a b c d u v = 0 from if_neg (fun h => hp h.1)]; exact Turn_0 a b c d u v hp w

theorem RTurn_any (a b c d u v : Int) (w : World) : Calls Try.prog 29 #[.agg #[.int .i64 a, .int .i64 b], .agg #[.int .i64 c, .int .i64 d], .agg #[.int .i64 u, .int .i64 v]] w fun e w' => e = .returned (.int .i64 (tv a b c d u v)) ∧ Below w.heap.size w w' := by
  by_cases hp : OkP a b
  · by_cases hq : OkP c d
    · by_cases hr : OkP u v
      · rw [show tv a b c d u v = sgn (pr a b c d u v) from if_pos ⟨hp, hq, hr⟩]; exact RTurn_ok a b c d u v hp hq hr w
      · rw [show tv a b c d u v = 0 from if_neg (fun h => hr h.2.2)]; exact RTurn_2 a b c d u v hp hq hr w
    · rw [show tv a b c d u v = 0 from if_neg (fun h => hq h.2.1)]; exact RTurn_1 a b c d u v hp hq w
  · rw [show tv a b c d u v = 0 from if_neg (fun h => hp h.1)]; exact RTurn_0 a b c d u v hp w

set_option maxRecDepth 100000 in
set_option maxHeartbeats 16000000 in
theorem Crosses_any (a b c d f g u v : Int) (w : World) :
    Calls Try.prog 6 #[.agg #[.int .i64 a, .int .i64 b, .int .i64 c, .int .i64 d, .int .i64 f, .int .i64 g, .int .i64 u, .int .i64 v]] w fun e w' => e = .returned (.bool true) ∧ Below w.heap.size w w' := by
  have HA := Lib.hid (fun w => awake_any w)
  have T0 := Lib.hid (fun w => Turn_any a b c d f g w)
  have T1 := Lib.hid (fun w => Turn_any c d a b f g w)
  have T2 := Lib.hid (fun w => Turn_any c d f g a b w)
  have S0 := Lib.hid (fun w => RTurn_any a b c d f g w)
  rw [tv_anti a b c d f g] at T1
  rw [tv_cyc a b c d f g] at T2
  have m1 := tv_bd a b c d f g
  generalize tv a b c d f g = m at *
  have ew : Hid (IntKind.i64.wrap (-m) = -m) := by unfold Hid; rw [IntKind.wrap_i64]; omega
  clear m1
  have C0 := Lib.hid (fun w => Cross_any a b c d f g u v w)
  have C1 := Lib.hid (fun w => Cross_any c d a b f g u v w)
  have C2 := Lib.hid (fun w => Cross_any a b c d u v f g w)
  have C3 := Lib.hid (fun w => Cross_any f g u v a b c d w)
  have D0 := Lib.hid (fun w => RCross_any a b c d f g u v w)
  rw [cr_1] at C1
  rw [cr_2] at C2
  rw [cr_3] at C3
  generalize decide (Ok4 a b c d f g u v ∧ Cr a b c d f g u v) = t at *
  obtain ⟨HB, B_l⟩ := box1 w 45 #[.int .i64 a, .int .i64 b, .int .i64 c, .int .i64 d, .int .i64 f, .int .i64 g, .int .i64 u, .int .i64 v]
  go_enter Try.func6, Try.ntmps6
  go_wp2_with fail
  generalize w.alloc (.cells #[.int .i64 a, .int .i64 b, .int .i64 c, .int .i64 d, .int .i64 f, .int .i64 g, .int .i64 u, .int .i64 v] 45) = W0 at *
  refine (HA.out _).mono ?_
  rintro e w1 ⟨rfl, bb⟩
  replace bb := nextw (w0 := W0) (by exact sm) bb
  replace B_l := mv B_l bb
  replace HB := nx HB bb
  clear bb
  clear HA
  go_upto_region 3 with (fail)
  go_cut [3, 4, 5, 6] (fun sv0 sv1 sv2 sv3 wx => ∃ Pp Pq Pr Ps : Nat, sv0 = (.pointer (some ⟨Pp, 0, none⟩)) ∧ sv1 = (.pointer (some ⟨Pq, 0, none⟩)) ∧ sv2 = (.pointer (some ⟨Pr, 0, none⟩)) ∧ sv3 = (.pointer (some ⟨Ps, 0, none⟩)) ∧ Hid (Pp ≠ Pq) ∧ Hid (Pp ≠ Pr) ∧ Hid (Pp ≠ Ps) ∧ Hid (Pq ≠ Pr) ∧ Hid (Pq ≠ Ps) ∧ Hid (Pr ≠ Ps) ∧ Hid (w.heap.size ≤ Pp) ∧ Hid (w.heap.size ≤ Pq) ∧ Hid (w.heap.size ≤ Pr) ∧ Hid (w.heap.size ≤ Ps) ∧ Hid (Bx wx (Pp) 23 #[.int .i64 a, .int .i64 b]) ∧ Hid (Bx wx (Pq) 23 #[.int .i64 c, .int .i64 d]) ∧ Hid (Bx wx (Pr) 23 #[.int .i64 f, .int .i64 g]) ∧ Hid (Bx wx (Ps) 23 #[.int .i64 u, .int .i64 v]) ∧ Hid (Bx wx (w.heap.size) 45 #[.int .i64 a, .int .i64 b, .int .i64 c, .int .i64 d, .int .i64 f, .int .i64 g, .int .i64 u, .int .i64 v]) ∧ Hid (Below w.heap.size w wx))
  case first =>
    obtain ⟨c0l, c1l, c2l, c3l, c4l, c5l, c6l, c7l⟩ := cells8 B_l
    have lt_l := B_l.out.lt
    go_region_held3 (fun w' => w'.cell? ⟨w.heap.size, 0, none⟩ = some (.int .i64 a) ∧ w'.cell? ⟨w.heap.size, 1, none⟩ = some (.int .i64 b) ∧ w'.cell? ⟨w.heap.size, 2, none⟩ = some (.int .i64 c) ∧ w'.cell? ⟨w.heap.size, 3, none⟩ = some (.int .i64 d) ∧ w'.cell? ⟨w.heap.size, 4, none⟩ = some (.int .i64 f) ∧ w'.cell? ⟨w.heap.size, 5, none⟩ = some (.int .i64 g) ∧ w'.cell? ⟨w.heap.size, 6, none⟩ = some (.int .i64 u) ∧ w'.cell? ⟨w.heap.size, 7, none⟩ = some (.int .i64 v)) (((try dsimp only); (repeat' apply And.intro) <;> (first | (with_reducible assumption) | ((repeat (first | (with_reducible refine Eq.trans (cell_drew1 _ _) ?_) | (with_reducible refine Eq.trans (cell_far (by omega) _ _ _) ?_) | (with_reducible refine Eq.trans (World.cell?_alloc_lt _ _ _ (by first | (dsimp only; omega) | (simp only [World.size_alloc, World.size_setCell]; omega))) ?_))); with_reducible assumption) | assumption | go_keep)))
        (first | fail)
    all_goals clear c0l c1l c2l c3l c4l c5l c6l c7l lt_l
    all_goals go_wp2_with fail
    all_goals go_meet
    all_goals first
        | (refine ⟨w1.heap.size, w1.heap.size + 1, w1.heap.size + 1 + 1, w1.heap.size + 1 + 1 + 1, rfl, rfl, rfl, rfl, ?_⟩; obtain ⟨bb, b0, b1, b2, b3⟩ := box4 w1 23 #[.int .i64 a, .int .i64 b] 23 #[.int .i64 c, .int .i64 d] 23 #[.int .i64 f, .int .i64 g] 23 #[.int .i64 u, .int .i64 v]; replace bb := bb.out; have hs := HB.out.size; exact ⟨(by unfold Hid; omega), (by unfold Hid; omega), (by unfold Hid; omega), (by unfold Hid; omega), (by unfold Hid; omega), (by unfold Hid; omega), (by unfold Hid; omega), (by unfold Hid; omega), (by unfold Hid; omega), (by unfold Hid; omega), mv b0 sm, mv b1 sm, mv b2 sm, mv b3 sm, mv (mv B_l bb) sm, nx (nx HB bb) sm⟩)
        | (refine ⟨w1.heap.size, w1.heap.size + 1, w1.heap.size + 1 + 1 + 1, w1.heap.size + 1 + 1, rfl, rfl, rfl, rfl, ?_⟩; obtain ⟨bb, b0, b1, b2, b3⟩ := box4 w1 23 #[.int .i64 a, .int .i64 b] 23 #[.int .i64 c, .int .i64 d] 23 #[.int .i64 u, .int .i64 v] 23 #[.int .i64 f, .int .i64 g]; replace bb := bb.out; have hs := HB.out.size; exact ⟨(by unfold Hid; omega), (by unfold Hid; omega), (by unfold Hid; omega), (by unfold Hid; omega), (by unfold Hid; omega), (by unfold Hid; omega), (by unfold Hid; omega), (by unfold Hid; omega), (by unfold Hid; omega), (by unfold Hid; omega), mv b0 sm, mv b1 sm, mv b3 sm, mv b2 sm, mv (mv B_l bb) sm, nx (nx HB bb) sm⟩)
        | (refine ⟨w1.heap.size, w1.heap.size + 1 + 1, w1.heap.size + 1, w1.heap.size + 1 + 1 + 1, rfl, rfl, rfl, rfl, ?_⟩; obtain ⟨bb, b0, b1, b2, b3⟩ := box4 w1 23 #[.int .i64 a, .int .i64 b] 23 #[.int .i64 f, .int .i64 g] 23 #[.int .i64 c, .int .i64 d] 23 #[.int .i64 u, .int .i64 v]; replace bb := bb.out; have hs := HB.out.size; exact ⟨(by unfold Hid; omega), (by unfold Hid; omega), (by unfold Hid; omega), (by unfold Hid; omega), (by unfold Hid; omega), (by unfold Hid; omega), (by unfold Hid; omega), (by unfold Hid; omega), (by unfold Hid; omega), (by unfold Hid; omega), mv b0 sm, mv b2 sm, mv b1 sm, mv b3 sm, mv (mv B_l bb) sm, nx (nx HB bb) sm⟩)
        | (refine ⟨w1.heap.size, w1.heap.size + 1 + 1 + 1, w1.heap.size + 1, w1.heap.size + 1 + 1, rfl, rfl, rfl, rfl, ?_⟩; obtain ⟨bb, b0, b1, b2, b3⟩ := box4 w1 23 #[.int .i64 a, .int .i64 b] 23 #[.int .i64 f, .int .i64 g] 23 #[.int .i64 u, .int .i64 v] 23 #[.int .i64 c, .int .i64 d]; replace bb := bb.out; have hs := HB.out.size; exact ⟨(by unfold Hid; omega), (by unfold Hid; omega), (by unfold Hid; omega), (by unfold Hid; omega), (by unfold Hid; omega), (by unfold Hid; omega), (by unfold Hid; omega), (by unfold Hid; omega), (by unfold Hid; omega), (by unfold Hid; omega), mv b0 sm, mv b3 sm, mv b1 sm, mv b2 sm, mv (mv B_l bb) sm, nx (nx HB bb) sm⟩)
        | (refine ⟨w1.heap.size, w1.heap.size + 1 + 1, w1.heap.size + 1 + 1 + 1, w1.heap.size + 1, rfl, rfl, rfl, rfl, ?_⟩; obtain ⟨bb, b0, b1, b2, b3⟩ := box4 w1 23 #[.int .i64 a, .int .i64 b] 23 #[.int .i64 u, .int .i64 v] 23 #[.int .i64 c, .int .i64 d] 23 #[.int .i64 f, .int .i64 g]; replace bb := bb.out; have hs := HB.out.size; exact ⟨(by unfold Hid; omega), (by unfold Hid; omega), (by unfold Hid; omega), (by unfold Hid; omega), (by unfold Hid; omega), (by unfold Hid; omega), (by unfold Hid; omega), (by unfold Hid; omega), (by unfold Hid; omega), (by unfold Hid; omega), mv b0 sm, mv b2 sm, mv b3 sm, mv b1 sm, mv (mv B_l bb) sm, nx (nx HB bb) sm⟩)
        | (refine ⟨w1.heap.size, w1.heap.size + 1 + 1 + 1, w1.heap.size + 1 + 1, w1.heap.size + 1, rfl, rfl, rfl, rfl, ?_⟩; obtain ⟨bb, b0, b1, b2, b3⟩ := box4 w1 23 #[.int .i64 a, .int .i64 b] 23 #[.int .i64 u, .int .i64 v] 23 #[.int .i64 f, .int .i64 g] 23 #[.int .i64 c, .int .i64 d]; replace bb := bb.out; have hs := HB.out.size; exact ⟨(by unfold Hid; omega), (by unfold Hid; omega), (by unfold Hid; omega), (by unfold Hid; omega), (by unfold Hid; omega), (by unfold Hid; omega), (by unfold Hid; omega), (by unfold Hid; omega), (by unfold Hid; omega), (by unfold Hid; omega), mv b0 sm, mv b3 sm, mv b2 sm, mv b1 sm, mv (mv B_l bb) sm, nx (nx HB bb) sm⟩)
        | (refine ⟨w1.heap.size + 1, w1.heap.size, w1.heap.size + 1 + 1, w1.heap.size + 1 + 1 + 1, rfl, rfl, rfl, rfl, ?_⟩; obtain ⟨bb, b0, b1, b2, b3⟩ := box4 w1 23 #[.int .i64 c, .int .i64 d] 23 #[.int .i64 a, .int .i64 b] 23 #[.int .i64 f, .int .i64 g] 23 #[.int .i64 u, .int .i64 v]; replace bb := bb.out; have hs := HB.out.size; exact ⟨(by unfold Hid; omega), (by unfold Hid; omega), (by unfold Hid; omega), (by unfold Hid; omega), (by unfold Hid; omega), (by unfold Hid; omega), (by unfold Hid; omega), (by unfold Hid; omega), (by unfold Hid; omega), (by unfold Hid; omega), mv b1 sm, mv b0 sm, mv b2 sm, mv b3 sm, mv (mv B_l bb) sm, nx (nx HB bb) sm⟩)
        | (refine ⟨w1.heap.size + 1, w1.heap.size, w1.heap.size + 1 + 1 + 1, w1.heap.size + 1 + 1, rfl, rfl, rfl, rfl, ?_⟩; obtain ⟨bb, b0, b1, b2, b3⟩ := box4 w1 23 #[.int .i64 c, .int .i64 d] 23 #[.int .i64 a, .int .i64 b] 23 #[.int .i64 u, .int .i64 v] 23 #[.int .i64 f, .int .i64 g]; replace bb := bb.out; have hs := HB.out.size; exact ⟨(by unfold Hid; omega), (by unfold Hid; omega), (by unfold Hid; omega), (by unfold Hid; omega), (by unfold Hid; omega), (by unfold Hid; omega), (by unfold Hid; omega), (by unfold Hid; omega), (by unfold Hid; omega), (by unfold Hid; omega), mv b1 sm, mv b0 sm, mv b3 sm, mv b2 sm, mv (mv B_l bb) sm, nx (nx HB bb) sm⟩)
        | (refine ⟨w1.heap.size + 1 + 1, w1.heap.size, w1.heap.size + 1, w1.heap.size + 1 + 1 + 1, rfl, rfl, rfl, rfl, ?_⟩; obtain ⟨bb, b0, b1, b2, b3⟩ := box4 w1 23 #[.int .i64 c, .int .i64 d] 23 #[.int .i64 f, .int .i64 g] 23 #[.int .i64 a, .int .i64 b] 23 #[.int .i64 u, .int .i64 v]; replace bb := bb.out; have hs := HB.out.size; exact ⟨(by unfold Hid; omega), (by unfold Hid; omega), (by unfold Hid; omega), (by unfold Hid; omega), (by unfold Hid; omega), (by unfold Hid; omega), (by unfold Hid; omega), (by unfold Hid; omega), (by unfold Hid; omega), (by unfold Hid; omega), mv b2 sm, mv b0 sm, mv b1 sm, mv b3 sm, mv (mv B_l bb) sm, nx (nx HB bb) sm⟩)
        | (refine ⟨w1.heap.size + 1 + 1 + 1, w1.heap.size, w1.heap.size + 1, w1.heap.size + 1 + 1, rfl, rfl, rfl, rfl, ?_⟩; obtain ⟨bb, b0, b1, b2, b3⟩ := box4 w1 23 #[.int .i64 c, .int .i64 d] 23 #[.int .i64 f, .int .i64 g] 23 #[.int .i64 u, .int .i64 v] 23 #[.int .i64 a, .int .i64 b]; replace bb := bb.out; have hs := HB.out.size; exact ⟨(by unfold Hid; omega), (by unfold Hid; omega), (by unfold Hid; omega), (by unfold Hid; omega), (by unfold Hid; omega), (by unfold Hid; omega), (by unfold Hid; omega), (by unfold Hid; omega), (by unfold Hid; omega), (by unfold Hid; omega), mv b3 sm, mv b0 sm, mv b1 sm, mv b2 sm, mv (mv B_l bb) sm, nx (nx HB bb) sm⟩)
        | (refine ⟨w1.heap.size + 1 + 1, w1.heap.size, w1.heap.size + 1 + 1 + 1, w1.heap.size + 1, rfl, rfl, rfl, rfl, ?_⟩; obtain ⟨bb, b0, b1, b2, b3⟩ := box4 w1 23 #[.int .i64 c, .int .i64 d] 23 #[.int .i64 u, .int .i64 v] 23 #[.int .i64 a, .int .i64 b] 23 #[.int .i64 f, .int .i64 g]; replace bb := bb.out; have hs := HB.out.size; exact ⟨(by unfold Hid; omega), (by unfold Hid; omega), (by unfold Hid; omega), (by unfold Hid; omega), (by unfold Hid; omega), (by unfold Hid; omega), (by unfold Hid; omega), (by unfold Hid; omega), (by unfold Hid; omega), (by unfold Hid; omega), mv b2 sm, mv b0 sm, mv b3 sm, mv b1 sm, mv (mv B_l bb) sm, nx (nx HB bb) sm⟩)
        | (refine ⟨w1.heap.size + 1 + 1 + 1, w1.heap.size, w1.heap.size + 1 + 1, w1.heap.size + 1, rfl, rfl, rfl, rfl, ?_⟩; obtain ⟨bb, b0, b1, b2, b3⟩ := box4 w1 23 #[.int .i64 c, .int .i64 d] 23 #[.int .i64 u, .int .i64 v] 23 #[.int .i64 f, .int .i64 g] 23 #[.int .i64 a, .int .i64 b]; replace bb := bb.out; have hs := HB.out.size; exact ⟨(by unfold Hid; omega), (by unfold Hid; omega), (by unfold Hid; omega), (by unfold Hid; omega), (by unfold Hid; omega), (by unfold Hid; omega), (by unfold Hid; omega), (by unfold Hid; omega), (by unfold Hid; omega), (by unfold Hid; omega), mv b3 sm, mv b0 sm, mv b2 sm, mv b1 sm, mv (mv B_l bb) sm, nx (nx HB bb) sm⟩)
        | (refine ⟨w1.heap.size + 1, w1.heap.size + 1 + 1, w1.heap.size, w1.heap.size + 1 + 1 + 1, rfl, rfl, rfl, rfl, ?_⟩; obtain ⟨bb, b0, b1, b2, b3⟩ := box4 w1 23 #[.int .i64 f, .int .i64 g] 23 #[.int .i64 a, .int .i64 b] 23 #[.int .i64 c, .int .i64 d] 23 #[.int .i64 u, .int .i64 v]; replace bb := bb.out; have hs := HB.out.size; exact ⟨(by unfold Hid; omega), (by unfold Hid; omega), (by unfold Hid; omega), (by unfold Hid; omega), (by unfold Hid; omega), (by unfold Hid; omega), (by unfold Hid; omega), (by unfold Hid; omega), (by unfold Hid; omega), (by unfold Hid; omega), mv b1 sm, mv b2 sm, mv b0 sm, mv b3 sm, mv (mv B_l bb) sm, nx (nx HB bb) sm⟩)
        | (refine ⟨w1.heap.size + 1, w1.heap.size + 1 + 1 + 1, w1.heap.size, w1.heap.size + 1 + 1, rfl, rfl, rfl, rfl, ?_⟩; obtain ⟨bb, b0, b1, b2, b3⟩ := box4 w1 23 #[.int .i64 f, .int .i64 g] 23 #[.int .i64 a, .int .i64 b] 23 #[.int .i64 u, .int .i64 v] 23 #[.int .i64 c, .int .i64 d]; replace bb := bb.out; have hs := HB.out.size; exact ⟨(by unfold Hid; omega), (by unfold Hid; omega), (by unfold Hid; omega), (by unfold Hid; omega), (by unfold Hid; omega), (by unfold Hid; omega), (by unfold Hid; omega), (by unfold Hid; omega), (by unfold Hid; omega), (by unfold Hid; omega), mv b1 sm, mv b3 sm, mv b0 sm, mv b2 sm, mv (mv B_l bb) sm, nx (nx HB bb) sm⟩)
        | (refine ⟨w1.heap.size + 1 + 1, w1.heap.size + 1, w1.heap.size, w1.heap.size + 1 + 1 + 1, rfl, rfl, rfl, rfl, ?_⟩; obtain ⟨bb, b0, b1, b2, b3⟩ := box4 w1 23 #[.int .i64 f, .int .i64 g] 23 #[.int .i64 c, .int .i64 d] 23 #[.int .i64 a, .int .i64 b] 23 #[.int .i64 u, .int .i64 v]; replace bb := bb.out; have hs := HB.out.size; exact ⟨(by unfold Hid; omega), (by unfold Hid; omega), (by unfold Hid; omega), (by unfold Hid; omega), (by unfold Hid; omega), (by unfold Hid; omega), (by unfold Hid; omega), (by unfold Hid; omega), (by unfold Hid; omega), (by unfold Hid; omega), mv b2 sm, mv b1 sm, mv b0 sm, mv b3 sm, mv (mv B_l bb) sm, nx (nx HB bb) sm⟩)
        | (refine ⟨w1.heap.size + 1 + 1 + 1, w1.heap.size + 1, w1.heap.size, w1.heap.size + 1 + 1, rfl, rfl, rfl, rfl, ?_⟩; obtain ⟨bb, b0, b1, b2, b3⟩ := box4 w1 23 #[.int .i64 f, .int .i64 g] 23 #[.int .i64 c, .int .i64 d] 23 #[.int .i64 u, .int .i64 v] 23 #[.int .i64 a, .int .i64 b]; replace bb := bb.out; have hs := HB.out.size; exact ⟨(by unfold Hid; omega), (by unfold Hid; omega), (by unfold Hid; omega), (by unfold Hid; omega), (by unfold Hid; omega), (by unfold Hid; omega), (by unfold Hid; omega), (by unfold Hid; omega), (by unfold Hid; omega), (by unfold Hid; omega), mv b3 sm, mv b1 sm, mv b0 sm, mv b2 sm, mv (mv B_l bb) sm, nx (nx HB bb) sm⟩)
        | (refine ⟨w1.heap.size + 1 + 1, w1.heap.size + 1 + 1 + 1, w1.heap.size, w1.heap.size + 1, rfl, rfl, rfl, rfl, ?_⟩; obtain ⟨bb, b0, b1, b2, b3⟩ := box4 w1 23 #[.int .i64 f, .int .i64 g] 23 #[.int .i64 u, .int .i64 v] 23 #[.int .i64 a, .int .i64 b] 23 #[.int .i64 c, .int .i64 d]; replace bb := bb.out; have hs := HB.out.size; exact ⟨(by unfold Hid; omega), (by unfold Hid; omega), (by unfold Hid; omega), (by unfold Hid; omega), (by unfold Hid; omega), (by unfold Hid; omega), (by unfold Hid; omega), (by unfold Hid; omega), (by unfold Hid; omega), (by unfold Hid; omega), mv b2 sm, mv b3 sm, mv b0 sm, mv b1 sm, mv (mv B_l bb) sm, nx (nx HB bb) sm⟩)
        | (refine ⟨w1.heap.size + 1 + 1 + 1, w1.heap.size + 1 + 1, w1.heap.size, w1.heap.size + 1, rfl, rfl, rfl, rfl, ?_⟩; obtain ⟨bb, b0, b1, b2, b3⟩ := box4 w1 23 #[.int .i64 f, .int .i64 g] 23 #[.int .i64 u, .int .i64 v] 23 #[.int .i64 c, .int .i64 d] 23 #[.int .i64 a, .int .i64 b]; replace bb := bb.out; have hs := HB.out.size; exact ⟨(by unfold Hid; omega), (by unfold Hid; omega), (by unfold Hid; omega), (by unfold Hid; omega), (by unfold Hid; omega), (by unfold Hid; omega), (by unfold Hid; omega), (by unfold Hid; omega), (by unfold Hid; omega), (by unfold Hid; omega), mv b3 sm, mv b2 sm, mv b0 sm, mv b1 sm, mv (mv B_l bb) sm, nx (nx HB bb) sm⟩)
        | (refine ⟨w1.heap.size + 1, w1.heap.size + 1 + 1, w1.heap.size + 1 + 1 + 1, w1.heap.size, rfl, rfl, rfl, rfl, ?_⟩; obtain ⟨bb, b0, b1, b2, b3⟩ := box4 w1 23 #[.int .i64 u, .int .i64 v] 23 #[.int .i64 a, .int .i64 b] 23 #[.int .i64 c, .int .i64 d] 23 #[.int .i64 f, .int .i64 g]; replace bb := bb.out; have hs := HB.out.size; exact ⟨(by unfold Hid; omega), (by unfold Hid; omega), (by unfold Hid; omega), (by unfold Hid; omega), (by unfold Hid; omega), (by unfold Hid; omega), (by unfold Hid; omega), (by unfold Hid; omega), (by unfold Hid; omega), (by unfold Hid; omega), mv b1 sm, mv b2 sm, mv b3 sm, mv b0 sm, mv (mv B_l bb) sm, nx (nx HB bb) sm⟩)
        | (refine ⟨w1.heap.size + 1, w1.heap.size + 1 + 1 + 1, w1.heap.size + 1 + 1, w1.heap.size, rfl, rfl, rfl, rfl, ?_⟩; obtain ⟨bb, b0, b1, b2, b3⟩ := box4 w1 23 #[.int .i64 u, .int .i64 v] 23 #[.int .i64 a, .int .i64 b] 23 #[.int .i64 f, .int .i64 g] 23 #[.int .i64 c, .int .i64 d]; replace bb := bb.out; have hs := HB.out.size; exact ⟨(by unfold Hid; omega), (by unfold Hid; omega), (by unfold Hid; omega), (by unfold Hid; omega), (by unfold Hid; omega), (by unfold Hid; omega), (by unfold Hid; omega), (by unfold Hid; omega), (by unfold Hid; omega), (by unfold Hid; omega), mv b1 sm, mv b3 sm, mv b2 sm, mv b0 sm, mv (mv B_l bb) sm, nx (nx HB bb) sm⟩)
        | (refine ⟨w1.heap.size + 1 + 1, w1.heap.size + 1, w1.heap.size + 1 + 1 + 1, w1.heap.size, rfl, rfl, rfl, rfl, ?_⟩; obtain ⟨bb, b0, b1, b2, b3⟩ := box4 w1 23 #[.int .i64 u, .int .i64 v] 23 #[.int .i64 c, .int .i64 d] 23 #[.int .i64 a, .int .i64 b] 23 #[.int .i64 f, .int .i64 g]; replace bb := bb.out; have hs := HB.out.size; exact ⟨(by unfold Hid; omega), (by unfold Hid; omega), (by unfold Hid; omega), (by unfold Hid; omega), (by unfold Hid; omega), (by unfold Hid; omega), (by unfold Hid; omega), (by unfold Hid; omega), (by unfold Hid; omega), (by unfold Hid; omega), mv b2 sm, mv b1 sm, mv b3 sm, mv b0 sm, mv (mv B_l bb) sm, nx (nx HB bb) sm⟩)
        | (refine ⟨w1.heap.size + 1 + 1 + 1, w1.heap.size + 1, w1.heap.size + 1 + 1, w1.heap.size, rfl, rfl, rfl, rfl, ?_⟩; obtain ⟨bb, b0, b1, b2, b3⟩ := box4 w1 23 #[.int .i64 u, .int .i64 v] 23 #[.int .i64 c, .int .i64 d] 23 #[.int .i64 f, .int .i64 g] 23 #[.int .i64 a, .int .i64 b]; replace bb := bb.out; have hs := HB.out.size; exact ⟨(by unfold Hid; omega), (by unfold Hid; omega), (by unfold Hid; omega), (by unfold Hid; omega), (by unfold Hid; omega), (by unfold Hid; omega), (by unfold Hid; omega), (by unfold Hid; omega), (by unfold Hid; omega), (by unfold Hid; omega), mv b3 sm, mv b1 sm, mv b2 sm, mv b0 sm, mv (mv B_l bb) sm, nx (nx HB bb) sm⟩)
        | (refine ⟨w1.heap.size + 1 + 1, w1.heap.size + 1 + 1 + 1, w1.heap.size + 1, w1.heap.size, rfl, rfl, rfl, rfl, ?_⟩; obtain ⟨bb, b0, b1, b2, b3⟩ := box4 w1 23 #[.int .i64 u, .int .i64 v] 23 #[.int .i64 f, .int .i64 g] 23 #[.int .i64 a, .int .i64 b] 23 #[.int .i64 c, .int .i64 d]; replace bb := bb.out; have hs := HB.out.size; exact ⟨(by unfold Hid; omega), (by unfold Hid; omega), (by unfold Hid; omega), (by unfold Hid; omega), (by unfold Hid; omega), (by unfold Hid; omega), (by unfold Hid; omega), (by unfold Hid; omega), (by unfold Hid; omega), (by unfold Hid; omega), mv b2 sm, mv b3 sm, mv b1 sm, mv b0 sm, mv (mv B_l bb) sm, nx (nx HB bb) sm⟩)
        | (refine ⟨w1.heap.size + 1 + 1 + 1, w1.heap.size + 1 + 1, w1.heap.size + 1, w1.heap.size, rfl, rfl, rfl, rfl, ?_⟩; obtain ⟨bb, b0, b1, b2, b3⟩ := box4 w1 23 #[.int .i64 u, .int .i64 v] 23 #[.int .i64 f, .int .i64 g] 23 #[.int .i64 c, .int .i64 d] 23 #[.int .i64 a, .int .i64 b]; replace bb := bb.out; have hs := HB.out.size; exact ⟨(by unfold Hid; omega), (by unfold Hid; omega), (by unfold Hid; omega), (by unfold Hid; omega), (by unfold Hid; omega), (by unfold Hid; omega), (by unfold Hid; omega), (by unfold Hid; omega), (by unfold Hid; omega), (by unfold Hid; omega), mv b3 sm, mv b2 sm, mv b1 sm, mv b0 sm, mv (mv B_l bb) sm, nx (nx HB bb) sm⟩)
  case rest =>
    clear B_l
    clear HB
    rename World => wc2
    obtain ⟨Pp, Pq, Pr, Ps, rfl, rfl, rfl, rfl, ne01Pp, ne02Pp, ne03Pp, ne12Pq, ne13Pq, ne23Pr, lePp, lePq, lePr, lePs, B_p, B_q, B_r, B_s, B_l, HB⟩ := hcut
    clear B_l
    go_upto_region 4 with (fail)
    obtain ⟨c0p, c1p⟩ := cells2 B_p
    obtain ⟨c0q, c1q⟩ := cells2 B_q
    obtain ⟨c0r, c1r⟩ := cells2 B_r
    obtain ⟨c0s, c1s⟩ := cells2 B_s
    go_wp2_with fail
    refine (D0.out _).mono ?_
    clear c0p c1p c0q c1q c0r c1r c0s c1s
    rintro e w3 ⟨rfl, bb⟩
    replace bb := nextw (w0 := wc2) (by exact sm) bb
    replace B_p := mv B_p bb
    replace B_q := mv B_q bb
    replace B_r := mv B_r bb
    replace B_s := mv B_s bb
    replace HB := nx HB bb
    clear bb
    clear D0
    go_upto_region 5 with (fail)
    have ew' := ew.out
    obtain ⟨c0p, c1p⟩ := cells2 B_p
    obtain ⟨c0q, c1q⟩ := cells2 B_q
    obtain ⟨c0r, c1r⟩ := cells2 B_r
    have tk1x0 : True := trivial
    go_region_held3 (fun w' => w'.cell? ⟨Pp, 0, none⟩ = some (.int .i64 a) ∧ w'.cell? ⟨Pp, 1, none⟩ = some (.int .i64 b) ∧ w'.cell? ⟨Pq, 0, none⟩ = some (.int .i64 c) ∧ w'.cell? ⟨Pq, 1, none⟩ = some (.int .i64 d) ∧ w'.cell? ⟨Pr, 0, none⟩ = some (.int .i64 f) ∧ w'.cell? ⟨Pr, 1, none⟩ = some (.int .i64 g)) (((try dsimp only); (repeat' apply And.intro) <;> (first | (with_reducible assumption) | ((repeat (first | (with_reducible refine Eq.trans (cell_drew1 _ _) ?_) | (with_reducible refine Eq.trans (cell_far (by omega) _ _ _) ?_) | (with_reducible refine Eq.trans (World.cell?_alloc_lt _ _ _ (by first | (dsimp only; omega) | (simp only [World.size_alloc, World.size_setCell]; omega))) ?_))); with_reducible assumption) | assumption | go_keep)))
    (first
      | (clear tk1x0; go_at_call 28; refine (T0.out _).mono ?_; rintro e w4 ⟨rfl, bb⟩; replace bb := nextw (w0 := w3) (by exact sm) bb; replace B_p := mv B_p bb; replace B_q := mv B_q bb; replace B_r := mv B_r bb; replace B_s := mv B_s bb; replace HB := nx HB bb; clear bb c0p c1p c0q c1q c0r c1r; have c0p : w4.cell? ⟨Pp, 0, none⟩ = some (.int .i64 a) := B_p.out.cell 0 rfl; have c1p : w4.cell? ⟨Pp, 1, none⟩ = some (.int .i64 b) := B_p.out.cell 1 rfl; have c0q : w4.cell? ⟨Pq, 0, none⟩ = some (.int .i64 c) := B_q.out.cell 0 rfl; have c1q : w4.cell? ⟨Pq, 1, none⟩ = some (.int .i64 d) := B_q.out.cell 1 rfl; have c0r : w4.cell? ⟨Pr, 0, none⟩ = some (.int .i64 f) := B_r.out.cell 0 rfl; have c1r : w4.cell? ⟨Pr, 1, none⟩ = some (.int .i64 g) := B_r.out.cell 1 rfl; have tk1x1 : True := trivial)
      | (clear tk1x1; go_at_call 29; refine (S0.out _).mono ?_; rintro e w5 ⟨rfl, bb⟩; replace bb := nextw (w0 := w4) (by exact sm) bb; replace B_p := mv B_p bb; replace B_q := mv B_q bb; replace B_r := mv B_r bb; replace B_s := mv B_s bb; replace HB := nx HB bb; clear bb c0p c1p c0q c1q c0r c1r; have c0p : w5.cell? ⟨Pp, 0, none⟩ = some (.int .i64 a) := B_p.out.cell 0 rfl; have c1p : w5.cell? ⟨Pp, 1, none⟩ = some (.int .i64 b) := B_p.out.cell 1 rfl; have c0q : w5.cell? ⟨Pq, 0, none⟩ = some (.int .i64 c) := B_q.out.cell 0 rfl; have c1q : w5.cell? ⟨Pq, 1, none⟩ = some (.int .i64 d) := B_q.out.cell 1 rfl; have c0r : w5.cell? ⟨Pr, 0, none⟩ = some (.int .i64 f) := B_r.out.cell 0 rfl; have c1r : w5.cell? ⟨Pr, 1, none⟩ = some (.int .i64 g) := B_r.out.cell 1 rfl; have tk1x2 : True := trivial)
      | (clear tk1x2; go_at_call 28; refine (T1.out _).mono ?_; rintro e w6 ⟨rfl, bb⟩; replace bb := nextw (w0 := w5) (by exact sm) bb; replace B_p := mv B_p bb; replace B_q := mv B_q bb; replace B_r := mv B_r bb; replace B_s := mv B_s bb; replace HB := nx HB bb; clear bb c0p c1p c0q c1q c0r c1r; have c0p : w6.cell? ⟨Pp, 0, none⟩ = some (.int .i64 a) := B_p.out.cell 0 rfl; have c1p : w6.cell? ⟨Pp, 1, none⟩ = some (.int .i64 b) := B_p.out.cell 1 rfl; have c0q : w6.cell? ⟨Pq, 0, none⟩ = some (.int .i64 c) := B_q.out.cell 0 rfl; have c1q : w6.cell? ⟨Pq, 1, none⟩ = some (.int .i64 d) := B_q.out.cell 1 rfl; have c0r : w6.cell? ⟨Pr, 0, none⟩ = some (.int .i64 f) := B_r.out.cell 0 rfl; have c1r : w6.cell? ⟨Pr, 1, none⟩ = some (.int .i64 g) := B_r.out.cell 1 rfl; have tk1x3 : True := trivial)
      | (clear tk1x3; go_at_call 29; refine (S0.out _).mono ?_; rintro e w7 ⟨rfl, bb⟩; replace bb := nextw (w0 := w6) (by exact sm) bb; replace B_p := mv B_p bb; replace B_q := mv B_q bb; replace B_r := mv B_r bb; replace B_s := mv B_s bb; replace HB := nx HB bb; clear bb c0p c1p c0q c1q c0r c1r; have c0p : w7.cell? ⟨Pp, 0, none⟩ = some (.int .i64 a) := B_p.out.cell 0 rfl; have c1p : w7.cell? ⟨Pp, 1, none⟩ = some (.int .i64 b) := B_p.out.cell 1 rfl; have c0q : w7.cell? ⟨Pq, 0, none⟩ = some (.int .i64 c) := B_q.out.cell 0 rfl; have c1q : w7.cell? ⟨Pq, 1, none⟩ = some (.int .i64 d) := B_q.out.cell 1 rfl; have c0r : w7.cell? ⟨Pr, 0, none⟩ = some (.int .i64 f) := B_r.out.cell 0 rfl; have c1r : w7.cell? ⟨Pr, 1, none⟩ = some (.int .i64 g) := B_r.out.cell 1 rfl; have tk1x4 : True := trivial)
      | (clear tk1x4; go_at_call 28; refine (T2.out _).mono ?_; rintro e w8 ⟨rfl, bb⟩; replace bb := nextw (w0 := w7) (by exact sm) bb; replace B_p := mv B_p bb; replace B_q := mv B_q bb; replace B_r := mv B_r bb; replace B_s := mv B_s bb; replace HB := nx HB bb; clear bb c0p c1p c0q c1q c0r c1r; have c0p : w8.cell? ⟨Pp, 0, none⟩ = some (.int .i64 a) := B_p.out.cell 0 rfl; have c1p : w8.cell? ⟨Pp, 1, none⟩ = some (.int .i64 b) := B_p.out.cell 1 rfl; have c0q : w8.cell? ⟨Pq, 0, none⟩ = some (.int .i64 c) := B_q.out.cell 0 rfl; have c1q : w8.cell? ⟨Pq, 1, none⟩ = some (.int .i64 d) := B_q.out.cell 1 rfl; have c0r : w8.cell? ⟨Pr, 0, none⟩ = some (.int .i64 f) := B_r.out.cell 0 rfl; have c1r : w8.cell? ⟨Pr, 1, none⟩ = some (.int .i64 g) := B_r.out.cell 1 rfl; have tk1x5 : True := trivial)
      | (clear tk1x5; go_at_call 29; refine (S0.out _).mono ?_; rintro e w9 ⟨rfl, bb⟩; replace bb := nextw (w0 := w8) (by exact sm) bb; replace B_p := mv B_p bb; replace B_q := mv B_q bb; replace B_r := mv B_r bb; replace B_s := mv B_s bb; replace HB := nx HB bb; clear bb c0p c1p c0q c1q c0r c1r; have c0p : w9.cell? ⟨Pp, 0, none⟩ = some (.int .i64 a) := B_p.out.cell 0 rfl; have c1p : w9.cell? ⟨Pp, 1, none⟩ = some (.int .i64 b) := B_p.out.cell 1 rfl; have c0q : w9.cell? ⟨Pq, 0, none⟩ = some (.int .i64 c) := B_q.out.cell 0 rfl; have c1q : w9.cell? ⟨Pq, 1, none⟩ = some (.int .i64 d) := B_q.out.cell 1 rfl; have c0r : w9.cell? ⟨Pr, 0, none⟩ = some (.int .i64 f) := B_r.out.cell 0 rfl; have c1r : w9.cell? ⟨Pr, 1, none⟩ = some (.int .i64 g) := B_r.out.cell 1 rfl; have tk1x6 : True := trivial))
    clear c0p c1p c0q c1q c0r c1r
    clear ew ew' T0 T1 T2 S0
    go_upto_region 7 with (fail)
    rcases t with _ | _
    · skip
      obtain ⟨c0p, c1p⟩ := cells2 B_p
      obtain ⟨c0q, c1q⟩ := cells2 B_q
      obtain ⟨c0r, c1r⟩ := cells2 B_r
      obtain ⟨c0s, c1s⟩ := cells2 B_s
      go_wp2_with fail
      refine (C0.out _).mono ?_
      clear c0p c1p c0q c1q c0r c1r c0s c1s
      rintro e w10 ⟨rfl, bb⟩
      replace bb := nextw (w0 := w9) (by exact sm) bb
      replace B_p := mv B_p bb
      replace B_q := mv B_q bb
      replace B_r := mv B_r bb
      replace B_s := mv B_s bb
      replace HB := nx HB bb
      clear bb
      obtain ⟨c0p, c1p⟩ := cells2 B_p
      obtain ⟨c0q, c1q⟩ := cells2 B_q
      obtain ⟨c0r, c1r⟩ := cells2 B_r
      obtain ⟨c0s, c1s⟩ := cells2 B_s
      go_wp2_with fail
      refine (C1.out _).mono ?_
      clear c0p c1p c0q c1q c0r c1r c0s c1s
      rintro e w11 ⟨rfl, bb⟩
      replace bb := nextw (w0 := w10) (by exact sm) bb
      replace B_p := mv B_p bb
      replace B_q := mv B_q bb
      replace B_r := mv B_r bb
      replace B_s := mv B_s bb
      replace HB := nx HB bb
      clear bb
      obtain ⟨c0p, c1p⟩ := cells2 B_p
      obtain ⟨c0q, c1q⟩ := cells2 B_q
      obtain ⟨c0r, c1r⟩ := cells2 B_r
      obtain ⟨c0s, c1s⟩ := cells2 B_s
      go_wp2_with fail
      refine (C2.out _).mono ?_
      clear c0p c1p c0q c1q c0r c1r c0s c1s
      rintro e w12 ⟨rfl, bb⟩
      replace bb := nextw (w0 := w11) (by exact sm) bb
      replace B_p := mv B_p bb
      replace B_q := mv B_q bb
      replace B_r := mv B_r bb
      replace B_s := mv B_s bb
      replace HB := nx HB bb
      clear bb
      obtain ⟨c0p, c1p⟩ := cells2 B_p
      obtain ⟨c0q, c1q⟩ := cells2 B_q
      obtain ⟨c0r, c1r⟩ := cells2 B_r
      obtain ⟨c0s, c1s⟩ := cells2 B_s
      go_wp2_with fail
      refine (C3.out _).mono ?_
      clear c0p c1p c0q c1q c0r c1r c0s c1s
      rintro e w13 ⟨rfl, bb⟩
      replace bb := nextw (w0 := w12) (by exact sm) bb
      replace B_p := mv B_p bb
      replace B_q := mv B_q bb
      replace B_r := mv B_r bb
      replace B_s := mv B_s bb
      replace HB := nx HB bb
      clear bb
      clear C0 C1 C2 C3
      go_wp2
      go_ret
      exact ⟨rfl, nextw HB.out (by exact sm)⟩
    · skip
      obtain ⟨c0p, c1p⟩ := cells2 B_p
      obtain ⟨c0q, c1q⟩ := cells2 B_q
      obtain ⟨c0r, c1r⟩ := cells2 B_r
      obtain ⟨c0s, c1s⟩ := cells2 B_s
      go_wp2_with fail
      refine (C0.out _).mono ?_
      clear c0p c1p c0q c1q c0r c1r c0s c1s
      rintro e w10 ⟨rfl, bb⟩
      replace bb := nextw (w0 := w9) (by exact sm) bb
      replace B_p := mv B_p bb
      replace B_q := mv B_q bb
      replace B_r := mv B_r bb
      replace B_s := mv B_s bb
      replace HB := nx HB bb
      clear bb
      obtain ⟨c0p, c1p⟩ := cells2 B_p
      obtain ⟨c0q, c1q⟩ := cells2 B_q
      obtain ⟨c0r, c1r⟩ := cells2 B_r
      obtain ⟨c0s, c1s⟩ := cells2 B_s
      go_wp2_with fail
      refine (C1.out _).mono ?_
      clear c0p c1p c0q c1q c0r c1r c0s c1s
      rintro e w11 ⟨rfl, bb⟩
      replace bb := nextw (w0 := w10) (by exact sm) bb
      replace B_p := mv B_p bb
      replace B_q := mv B_q bb
      replace B_r := mv B_r bb
      replace B_s := mv B_s bb
      replace HB := nx HB bb
      clear bb
      obtain ⟨c0p, c1p⟩ := cells2 B_p
      obtain ⟨c0q, c1q⟩ := cells2 B_q
      obtain ⟨c0r, c1r⟩ := cells2 B_r
      obtain ⟨c0s, c1s⟩ := cells2 B_s
      go_wp2_with fail
      refine (C2.out _).mono ?_
      clear c0p c1p c0q c1q c0r c1r c0s c1s
      rintro e w12 ⟨rfl, bb⟩
      replace bb := nextw (w0 := w11) (by exact sm) bb
      replace B_p := mv B_p bb
      replace B_q := mv B_q bb
      replace B_r := mv B_r bb
      replace B_s := mv B_s bb
      replace HB := nx HB bb
      clear bb
      obtain ⟨c0p, c1p⟩ := cells2 B_p
      obtain ⟨c0q, c1q⟩ := cells2 B_q
      obtain ⟨c0r, c1r⟩ := cells2 B_r
      obtain ⟨c0s, c1s⟩ := cells2 B_s
      go_wp2_with fail
      refine (C3.out _).mono ?_
      clear c0p c1p c0q c1q c0r c1r c0s c1s
      rintro e w13 ⟨rfl, bb⟩
      replace bb := nextw (w0 := w12) (by exact sm) bb
      replace B_p := mv B_p bb
      replace B_q := mv B_q bb
      replace B_r := mv B_r bb
      replace B_s := mv B_s bb
      replace HB := nx HB bb
      clear bb
      clear C0 C1 C2 C3
      go_wp2
      go_ret
      exact ⟨rfl, nextw HB.out (by exact sm)⟩
end Go.Proofs.Ytaflgmiagjldhaa
