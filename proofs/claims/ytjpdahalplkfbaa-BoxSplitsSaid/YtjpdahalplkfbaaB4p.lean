/- the reference's Split: half of the ways. -/
import Derived.Test.YtjpdahalplkfbaaB3
import Derived.Test.YtjpdahalplkfbaaB4
set_option linter.unusedVariables false
set_option linter.unusedSimpArgs false
namespace Go.Proofs.Ytjpdahalplkfbaa
open Go Go.RowKit Hd

set_option maxRecDepth 100000 in
set_option maxHeartbeats 4000000 in
theorem RSplit_w0 (x0 y0 x1 y1 f c : Int)   (dd0 : OkB x0 y0 x1 y1 f c) (dd1 : 1 < ((x1 - x0) + 1)) (dd2 : 1 < ((y1 - y0) + 1)) (dd3 : 1 < c) (dd4 : ¬ (((x1 - x0) + 1) = 0)) (dd5 : ((y1 - y0) + 1) ≤ ((x1 - x0) + 1)) (dd6 : (8 * c) ≤ ((x1 - x0) + 1)) (w : World) :
    Calls Try.prog 27 #[.agg #[.int .i64 x0, .int .i64 y0, .int .i64 x1, .int .i64 y1, .int .i64 f, .int .i64 c]] w fun e w' => e = .returned (.tuple #[.agg #[.int .i64 x0, .int .i64 y0, .int .i64 ((x0 + (((x1 - x0) + 1) / 2)) - 1), .int .i64 y1, .int .i64 f, .int .i64 c], .agg #[.int .i64 (x0 + (((x1 - x0) + 1) / 2)), .int .i64 y0, .int .i64 x1, .int .i64 y1, .int .i64 f, .int .i64 c], .bool true]) ∧ Below w.heap.size w w' := by
  have H0 := Lib.hid (fun w => BBox_yes dd0 w)
  have dd0b := dd0.b
  obtain ⟨HB, B_z0, B_z1, B_z2⟩ := box3 w 23 #[.int .i64 x0, .int .i64 y0, .int .i64 x1, .int .i64 y1, .int .i64 f, .int .i64 c] 23 #[.int .i64 0, .int .i64 0, .int .i64 0, .int .i64 0, .int .i64 0, .int .i64 0] 23 #[.int .i64 0, .int .i64 0, .int .i64 0, .int .i64 0, .int .i64 0, .int .i64 0]
  go_enter Try.func27, Try.ntmps27
  go_upto_region 1 with (fail)
  generalize ((w.alloc (.cells #[.int .i64 x0, .int .i64 y0, .int .i64 x1, .int .i64 y1, .int .i64 f, .int .i64 c] 23)).alloc (.cells #[.int .i64 0, .int .i64 0, .int .i64 0, .int .i64 0, .int .i64 0, .int .i64 0] 23)).alloc (.cells #[.int .i64 0, .int .i64 0, .int .i64 0, .int .i64 0, .int .i64 0, .int .i64 0] 23) = W0 at *
  obtain ⟨c0z0, c1z0, c2z0, c3z0, c4z0, c5z0⟩ := cells6 B_z0
  go_wp2_with fail
  refine (H0.out _).mono ?_
  clear c0z0 c1z0 c2z0 c3z0 c4z0 c5z0
  rintro e w1 ⟨rfl, bb⟩
  replace bb := nextw (w0 := W0) (by exact sm) bb
  replace B_z0 := mv B_z0 bb
  replace B_z1 := mv B_z1 bb
  replace B_z2 := mv B_z2 bb
  replace HB := nx HB bb
  clear bb
  go_upto_region 3 with (fail)
  have wq3x0 : IntKind.i64.wrap (x1 - x0) = x1 - x0 := by rw [IntKind.wrap_i64]; omega
  have wq3x1 : IntKind.i64.wrap ((x1 - x0) + 1) = (x1 - x0) + 1 := by rw [IntKind.wrap_i64]; omega
  have wq3x2 : IntKind.i64.wrap (y1 - y0) = y1 - y0 := by rw [IntKind.wrap_i64]; omega
  have wq3x3 : IntKind.i64.wrap ((y1 - y0) + 1) = (y1 - y0) + 1 := by rw [IntKind.wrap_i64]; omega
  obtain ⟨c0z0, c1z0, c2z0, c3z0, c4z0, c5z0⟩ := cells6 B_z0
  go_quiet (fail)
  clear c0z0 c1z0 c2z0 c3z0 c4z0 c5z0
  have bb : Below w1.heap.size w1 (w1.drewN nq) := bel_drewN (Below.refl _ _) _
  generalize w1.drewN nq = w2q at *
  replace B_z0 := mv B_z0 bb
  replace B_z1 := mv B_z1 bb
  replace B_z2 := mv B_z2 bb
  replace HB := nx HB bb
  clear bb
  go_upto_region 13 with (fail)
  go_cut [11, 12] (fun sv0 sv1 wx => ∃ Pz3 Pz4 : Nat, sv0 = (.pointer (some ⟨Pz3, 0, none⟩)) ∧ sv1 = (.pointer (some ⟨Pz4, 0, none⟩)) ∧ Hid (Pz3 ≠ Pz4) ∧ Hid (w.heap.size ≠ Pz3) ∧ Hid (w.heap.size ≠ Pz4) ∧ Hid (w.heap.size + 1 ≠ Pz3) ∧ Hid (w.heap.size + 1 ≠ Pz4) ∧ Hid (w.heap.size + 1 + 1 ≠ Pz3) ∧ Hid (w.heap.size + 1 + 1 ≠ Pz4) ∧ Hid (w.heap.size ≤ Pz3) ∧ Hid (w.heap.size ≤ Pz4) ∧ Hid (Bx wx (Pz3) 23 #[.int .i64 x0, .int .i64 y0, .int .i64 x1, .int .i64 y1, .int .i64 f, .int .i64 c]) ∧ Hid (Bx wx (Pz4) 23 #[.int .i64 x0, .int .i64 y0, .int .i64 x1, .int .i64 y1, .int .i64 f, .int .i64 c]) ∧ Hid (Bx wx (w.heap.size) 23 #[.int .i64 x0, .int .i64 y0, .int .i64 x1, .int .i64 y1, .int .i64 f, .int .i64 c]) ∧ Hid (Bx wx (w.heap.size + 1) 23 #[.int .i64 0, .int .i64 0, .int .i64 0, .int .i64 0, .int .i64 0, .int .i64 0]) ∧ Hid (Bx wx (w.heap.size + 1 + 1) 23 #[.int .i64 0, .int .i64 0, .int .i64 0, .int .i64 0, .int .i64 0, .int .i64 0]) ∧ Hid (Below w.heap.size w wx))
  case first =>
    obtain ⟨c0z0, c1z0, c2z0, c3z0, c4z0, c5z0⟩ := cells6 B_z0
    have lt_z0 := B_z0.out.lt
    go_region_held3 (fun w' => w'.cell? ⟨w.heap.size, 0, none⟩ = some (.int .i64 x0) ∧ w'.cell? ⟨w.heap.size, 1, none⟩ = some (.int .i64 y0) ∧ w'.cell? ⟨w.heap.size, 2, none⟩ = some (.int .i64 x1) ∧ w'.cell? ⟨w.heap.size, 3, none⟩ = some (.int .i64 y1) ∧ w'.cell? ⟨w.heap.size, 4, none⟩ = some (.int .i64 f) ∧ w'.cell? ⟨w.heap.size, 5, none⟩ = some (.int .i64 c)) (((try dsimp only); (repeat' apply And.intro) <;> (first | (with_reducible assumption) | ((repeat (first | (with_reducible refine Eq.trans (cell_drew1 _ _) ?_) | (with_reducible refine Eq.trans (cell_far (by omega) _ _ _) ?_) | (with_reducible refine Eq.trans (World.cell?_alloc_lt _ _ _ (by first | (dsimp only; omega) | (simp only [World.size_alloc, World.size_setCell]; omega))) ?_))); with_reducible assumption) | assumption | go_keep)))
        (first | fail)
    all_goals clear c0z0 c1z0 c2z0 c3z0 c4z0 c5z0 lt_z0
    all_goals go_wp2_with fail
    all_goals go_meet
    all_goals first
        | (refine ⟨w2q.heap.size, w2q.heap.size + 1, rfl, rfl, ?_⟩; have lx_z0 := B_z0.out.lt; have lx_z1 := B_z1.out.lt; have lx_z2 := B_z2.out.lt; obtain ⟨bb, b0, b1⟩ := box2 w2q 23 #[.int .i64 x0, .int .i64 y0, .int .i64 x1, .int .i64 y1, .int .i64 f, .int .i64 c] 23 #[.int .i64 x0, .int .i64 y0, .int .i64 x1, .int .i64 y1, .int .i64 f, .int .i64 c]; replace bb := bb.out; have hs := HB.out.size; exact ⟨(by unfold Hid; omega), (by unfold Hid; omega), (by unfold Hid; omega), (by unfold Hid; omega), (by unfold Hid; omega), (by unfold Hid; omega), (by unfold Hid; omega), (by unfold Hid; omega), (by unfold Hid; omega), mv b0 sm, mv b1 sm, mv (mv B_z0 bb) sm, mv (mv B_z1 bb) sm, mv (mv B_z2 bb) sm, nx (nx HB bb) sm⟩)
        | (refine ⟨w2q.heap.size + 1, w2q.heap.size, rfl, rfl, ?_⟩; have lx_z0 := B_z0.out.lt; have lx_z1 := B_z1.out.lt; have lx_z2 := B_z2.out.lt; obtain ⟨bb, b0, b1⟩ := box2 w2q 23 #[.int .i64 x0, .int .i64 y0, .int .i64 x1, .int .i64 y1, .int .i64 f, .int .i64 c] 23 #[.int .i64 x0, .int .i64 y0, .int .i64 x1, .int .i64 y1, .int .i64 f, .int .i64 c]; replace bb := bb.out; have hs := HB.out.size; exact ⟨(by unfold Hid; omega), (by unfold Hid; omega), (by unfold Hid; omega), (by unfold Hid; omega), (by unfold Hid; omega), (by unfold Hid; omega), (by unfold Hid; omega), (by unfold Hid; omega), (by unfold Hid; omega), mv b1 sm, mv b0 sm, mv (mv B_z0 bb) sm, mv (mv B_z1 bb) sm, mv (mv B_z2 bb) sm, nx (nx HB bb) sm⟩)
  case rest =>
    clear B_z0
    clear B_z1
    clear B_z2
    clear HB
    rename World => wc3
    obtain ⟨Pz3, Pz4, rfl, rfl, ne01Pz3, noz0Pz3, noz0Pz4, noz1Pz3, noz1Pz4, noz2Pz3, noz2Pz4, lePz3, lePz4, B_z3, B_z4, B_z0, B_z1, B_z2, HB⟩ := hcut
    have lePz3' := lePz3.out
    have lePz4' := lePz4.out
    obtain ⟨c0z0, c1z0, c2z0, c3z0, c4z0, c5z0⟩ := cells6 B_z0
    obtain ⟨c0z3, c1z3, c2z3, c3z3, c4z3, c5z3⟩ := cells6 B_z3
    obtain ⟨f0z3, f1z3, f2z3, f3z3, f4z3, f5z3⟩ := froz6 B_z3
    have ne_z0 : Hid ((w.heap.size) ≠ (Pz3)) := by unfold Hid; have kne01Pz3 := ne01Pz3.out; have knoz0Pz3 := noz0Pz3.out; have knoz0Pz4 := noz0Pz4.out; have knoz1Pz3 := noz1Pz3.out; have knoz1Pz4 := noz1Pz4.out; have knoz2Pz3 := noz2Pz3.out; have knoz2Pz4 := noz2Pz4.out; omega
    have ne_z1 : Hid ((w.heap.size + 1) ≠ (Pz3)) := by unfold Hid; have kne01Pz3 := ne01Pz3.out; have knoz0Pz3 := noz0Pz3.out; have knoz0Pz4 := noz0Pz4.out; have knoz1Pz3 := noz1Pz3.out; have knoz1Pz4 := noz1Pz4.out; have knoz2Pz3 := noz2Pz3.out; have knoz2Pz4 := noz2Pz4.out; omega
    have ne_z2 : Hid ((w.heap.size + 1 + 1) ≠ (Pz3)) := by unfold Hid; have kne01Pz3 := ne01Pz3.out; have knoz0Pz3 := noz0Pz3.out; have knoz0Pz4 := noz0Pz4.out; have knoz1Pz3 := noz1Pz3.out; have knoz1Pz4 := noz1Pz4.out; have knoz2Pz3 := noz2Pz3.out; have knoz2Pz4 := noz2Pz4.out; omega
    have ne_z4 : Hid ((Pz4) ≠ (Pz3)) := by unfold Hid; have kne01Pz3 := ne01Pz3.out; have knoz0Pz3 := noz0Pz3.out; have knoz0Pz4 := noz0Pz4.out; have knoz1Pz3 := noz1Pz3.out; have knoz1Pz4 := noz1Pz4.out; have knoz2Pz3 := noz2Pz3.out; have knoz2Pz4 := noz2Pz4.out; omega
    have n_z3 : Hid (Bx (wc3.setCell ⟨Pz3, 2, none⟩ (.int .i64 ((x0 + (((x1 - x0) + 1) / 2)) - 1))) (Pz3) 23 #[.int .i64 x0, .int .i64 y0, .int .i64 ((x0 + (((x1 - x0) + 1) / 2)) - 1), .int .i64 y1, .int .i64 f, .int .i64 c]) := (B_z3.out.set 2 (.int .i64 ((x0 + (((x1 - x0) + 1) / 2)) - 1)))
    have n_z0 := far1 B_z0 ne_z0.out 2 (.int .i64 ((x0 + (((x1 - x0) + 1) / 2)) - 1))
    have n_z1 := far1 B_z1 ne_z1.out 2 (.int .i64 ((x0 + (((x1 - x0) + 1) / 2)) - 1))
    have n_z2 := far1 B_z2 ne_z2.out 2 (.int .i64 ((x0 + (((x1 - x0) + 1) / 2)) - 1))
    have n_z4 := far1 B_z4 ne_z4.out 2 (.int .i64 ((x0 + (((x1 - x0) + 1) / 2)) - 1))
    have nHB := stb1 HB (y := Pz3) (by omega) 2 (.int .i64 ((x0 + (((x1 - x0) + 1) / 2)) - 1))
    go_upto_region 19 with (fail)
    clear c0z0 c1z0 c2z0 c3z0 c4z0 c5z0 c0z3 c1z3 c2z3 c3z3 c4z3 c5z3 f0z3 f1z3 f2z3 f3z3 f4z3 f5z3
    clear ne_z0 ne_z1 ne_z2 ne_z4
    generalize wc3.setCell ⟨Pz3, 2, none⟩ (.int .i64 ((x0 + (((x1 - x0) + 1) / 2)) - 1)) = WS13 at *
    clear B_z0
    have B_z0 := n_z0
    clear n_z0
    clear B_z1
    have B_z1 := n_z1
    clear n_z1
    clear B_z2
    have B_z2 := n_z2
    clear n_z2
    clear B_z3
    have B_z3 := n_z3
    clear n_z3
    clear B_z4
    have B_z4 := n_z4
    clear n_z4
    clear HB
    have HB := nHB
    clear nHB
    obtain ⟨c0z3, c1z3, c2z3, c3z3, c4z3, c5z3⟩ := cells6 B_z3
    obtain ⟨c0z4, c1z4, c2z4, c3z4, c4z4, c5z4⟩ := cells6 B_z4
    obtain ⟨f0z4, f1z4, f2z4, f3z4, f4z4, f5z4⟩ := froz6 B_z4
    have ne_z0 : Hid ((w.heap.size) ≠ (Pz4)) := by unfold Hid; have kne01Pz3 := ne01Pz3.out; have knoz0Pz3 := noz0Pz3.out; have knoz0Pz4 := noz0Pz4.out; have knoz1Pz3 := noz1Pz3.out; have knoz1Pz4 := noz1Pz4.out; have knoz2Pz3 := noz2Pz3.out; have knoz2Pz4 := noz2Pz4.out; omega
    have ne_z1 : Hid ((w.heap.size + 1) ≠ (Pz4)) := by unfold Hid; have kne01Pz3 := ne01Pz3.out; have knoz0Pz3 := noz0Pz3.out; have knoz0Pz4 := noz0Pz4.out; have knoz1Pz3 := noz1Pz3.out; have knoz1Pz4 := noz1Pz4.out; have knoz2Pz3 := noz2Pz3.out; have knoz2Pz4 := noz2Pz4.out; omega
    have ne_z2 : Hid ((w.heap.size + 1 + 1) ≠ (Pz4)) := by unfold Hid; have kne01Pz3 := ne01Pz3.out; have knoz0Pz3 := noz0Pz3.out; have knoz0Pz4 := noz0Pz4.out; have knoz1Pz3 := noz1Pz3.out; have knoz1Pz4 := noz1Pz4.out; have knoz2Pz3 := noz2Pz3.out; have knoz2Pz4 := noz2Pz4.out; omega
    have ne_z3 : Hid ((Pz3) ≠ (Pz4)) := by unfold Hid; have kne01Pz3 := ne01Pz3.out; have knoz0Pz3 := noz0Pz3.out; have knoz0Pz4 := noz0Pz4.out; have knoz1Pz3 := noz1Pz3.out; have knoz1Pz4 := noz1Pz4.out; have knoz2Pz3 := noz2Pz3.out; have knoz2Pz4 := noz2Pz4.out; omega
    have n_z4 : Hid (Bx (WS13.setCell ⟨Pz4, 0, none⟩ (.int .i64 (x0 + (((x1 - x0) + 1) / 2)))) (Pz4) 23 #[.int .i64 (x0 + (((x1 - x0) + 1) / 2)), .int .i64 y0, .int .i64 x1, .int .i64 y1, .int .i64 f, .int .i64 c]) := (B_z4.out.set 0 (.int .i64 (x0 + (((x1 - x0) + 1) / 2))))
    have n_z0 := far1 B_z0 ne_z0.out 0 (.int .i64 (x0 + (((x1 - x0) + 1) / 2)))
    have n_z1 := far1 B_z1 ne_z1.out 0 (.int .i64 (x0 + (((x1 - x0) + 1) / 2)))
    have n_z2 := far1 B_z2 ne_z2.out 0 (.int .i64 (x0 + (((x1 - x0) + 1) / 2)))
    have n_z3 := far1 B_z3 ne_z3.out 0 (.int .i64 (x0 + (((x1 - x0) + 1) / 2)))
    have nHB := stb1 HB (y := Pz4) (by omega) 0 (.int .i64 (x0 + (((x1 - x0) + 1) / 2)))
    go_upto_region 23 with (fail)
    clear c0z3 c1z3 c2z3 c3z3 c4z3 c5z3 c0z4 c1z4 c2z4 c3z4 c4z4 c5z4 f0z4 f1z4 f2z4 f3z4 f4z4 f5z4
    clear ne_z0 ne_z1 ne_z2 ne_z3
    generalize WS13.setCell ⟨Pz4, 0, none⟩ (.int .i64 (x0 + (((x1 - x0) + 1) / 2))) = WS14 at *
    clear B_z0
    have B_z0 := n_z0
    clear n_z0
    clear B_z1
    have B_z1 := n_z1
    clear n_z1
    clear B_z2
    have B_z2 := n_z2
    clear n_z2
    clear B_z3
    have B_z3 := n_z3
    clear n_z3
    clear B_z4
    have B_z4 := n_z4
    clear n_z4
    clear HB
    have HB := nHB
    clear nHB
    have ne_ab : Hid ((w.heap.size + 1) ≠ (w.heap.size + 1 + 1)) := by unfold Hid; have kne01Pz3 := ne01Pz3.out; have knoz0Pz3 := noz0Pz3.out; have knoz0Pz4 := noz0Pz4.out; have knoz1Pz3 := noz1Pz3.out; have knoz1Pz4 := noz1Pz4.out; have knoz2Pz3 := noz2Pz3.out; have knoz2Pz4 := noz2Pz4.out; omega
    have ne_ba : Hid ((w.heap.size + 1 + 1) ≠ (w.heap.size + 1)) := by unfold Hid; have kne01Pz3 := ne01Pz3.out; have knoz0Pz3 := noz0Pz3.out; have knoz0Pz4 := noz0Pz4.out; have knoz1Pz3 := noz1Pz3.out; have knoz1Pz4 := noz1Pz4.out; have knoz2Pz3 := noz2Pz3.out; have knoz2Pz4 := noz2Pz4.out; omega
    obtain ⟨c0z1, c1z1, c2z1, c3z1, c4z1, c5z1⟩ := cells6 B_z1
    obtain ⟨f0z1, f1z1, f2z1, f3z1, f4z1, f5z1⟩ := froz6 B_z1
    obtain ⟨c0z2, c1z2, c2z2, c3z2, c4z2, c5z2⟩ := cells6 B_z2
    obtain ⟨f0z2, f1z2, f2z2, f3z2, f4z2, f5z2⟩ := froz6 B_z2
    obtain ⟨c0z3, c1z3, c2z3, c3z3, c4z3, c5z3⟩ := cells6 B_z3
    obtain ⟨c0z4, c1z4, c2z4, c3z4, c4z4, c5z4⟩ := cells6 B_z4
    have kne01Pz3 := ne01Pz3.out
    have knoz0Pz3 := noz0Pz3.out
    have knoz0Pz4 := noz0Pz4.out
    have knoz1Pz3 := noz1Pz3.out
    have knoz1Pz4 := noz1Pz4.out
    have knoz2Pz3 := noz2Pz3.out
    have knoz2Pz4 := noz2Pz4.out
    go_region
    clear kne01Pz3 knoz0Pz3 knoz0Pz4 knoz1Pz3 knoz1Pz4 knoz2Pz3 knoz2Pz4
    clear c0z1 c1z1 c2z1 c3z1 c4z1 c5z1 f0z1 f1z1 f2z1 f3z1 f4z1 f5z1 c0z2 c1z2 c2z2 c3z2 c4z2 c5z2 f0z2 f1z2 f2z2 f3z2 f4z2 f5z2 c0z3 c1z3 c2z3 c3z3 c4z3 c5z3 c0z4 c1z4 c2z4 c3z4 c4z4 c5z4
    have t_z1q := stor6 B_z1 (.int .i64 x0) (.int .i64 y0) (.int .i64 ((x0 + (((x1 - x0) + 1) / 2)) - 1)) (.int .i64 y1) (.int .i64 f) (.int .i64 c)
    have m_z2q := far6 B_z2 ne_ba.out 0 (.int .i64 x0) 1 (.int .i64 y0) 2 (.int .i64 ((x0 + (((x1 - x0) + 1) / 2)) - 1)) 3 (.int .i64 y1) 4 (.int .i64 f) 5 (.int .i64 c)
    have p_z2q := stor6 m_z2q (.int .i64 (x0 + (((x1 - x0) + 1) / 2))) (.int .i64 y0) (.int .i64 x1) (.int .i64 y1) (.int .i64 f) (.int .i64 c)
    have p_z1q := far6 t_z1q ne_ab.out 0 (.int .i64 (x0 + (((x1 - x0) + 1) / 2))) 1 (.int .i64 y0) 2 (.int .i64 x1) 3 (.int .i64 y1) 4 (.int .i64 f) 5 (.int .i64 c)
    have HF := stb6 (stb6 HB (y := w.heap.size + 1) (by omega) 0 (.int .i64 x0) 1 (.int .i64 y0) 2 (.int .i64 ((x0 + (((x1 - x0) + 1) / 2)) - 1)) 3 (.int .i64 y1) 4 (.int .i64 f) 5 (.int .i64 c)) (y := w.heap.size + 1 + 1) (by omega) 0 (.int .i64 (x0 + (((x1 - x0) + 1) / 2))) 1 (.int .i64 y0) 2 (.int .i64 x1) 3 (.int .i64 y1) 4 (.int .i64 f) 5 (.int .i64 c)
    have dr := sm_drew (((((((((((((WS14.setCell ⟨w.heap.size + 1, 0, none⟩ (.int .i64 x0)).setCell ⟨w.heap.size + 1, 1, none⟩ (.int .i64 y0)).setCell ⟨w.heap.size + 1, 2, none⟩ (.int .i64 ((x0 + (((x1 - x0) + 1) / 2)) - 1))).setCell ⟨w.heap.size + 1, 3, none⟩ (.int .i64 y1)).setCell ⟨w.heap.size + 1, 4, none⟩ (.int .i64 f)).setCell ⟨w.heap.size + 1, 5, none⟩ (.int .i64 c)).setCell ⟨w.heap.size + 1 + 1, 0, none⟩ (.int .i64 (x0 + (((x1 - x0) + 1) / 2)))).setCell ⟨w.heap.size + 1 + 1, 1, none⟩ (.int .i64 y0)).setCell ⟨w.heap.size + 1 + 1, 2, none⟩ (.int .i64 x1)).setCell ⟨w.heap.size + 1 + 1, 3, none⟩ (.int .i64 y1)).setCell ⟨w.heap.size + 1 + 1, 4, none⟩ (.int .i64 f)).setCell ⟨w.heap.size + 1 + 1, 5, none⟩ (.int .i64 c)))
    replace p_z1q := mv p_z1q dr
    replace p_z2q := mv p_z2q dr
    replace HF := nx HF dr
    clear dr
    clear m_z2q t_z1q
    generalize (((((((((((((WS14.setCell ⟨w.heap.size + 1, 0, none⟩ (.int .i64 x0)).setCell ⟨w.heap.size + 1, 1, none⟩ (.int .i64 y0)).setCell ⟨w.heap.size + 1, 2, none⟩ (.int .i64 ((x0 + (((x1 - x0) + 1) / 2)) - 1))).setCell ⟨w.heap.size + 1, 3, none⟩ (.int .i64 y1)).setCell ⟨w.heap.size + 1, 4, none⟩ (.int .i64 f)).setCell ⟨w.heap.size + 1, 5, none⟩ (.int .i64 c)).setCell ⟨w.heap.size + 1 + 1, 0, none⟩ (.int .i64 (x0 + (((x1 - x0) + 1) / 2)))).setCell ⟨w.heap.size + 1 + 1, 1, none⟩ (.int .i64 y0)).setCell ⟨w.heap.size + 1 + 1, 2, none⟩ (.int .i64 x1)).setCell ⟨w.heap.size + 1 + 1, 3, none⟩ (.int .i64 y1)).setCell ⟨w.heap.size + 1 + 1, 4, none⟩ (.int .i64 f)).setCell ⟨w.heap.size + 1 + 1, 5, none⟩ (.int .i64 c))).drew = WR at *
    obtain ⟨s0, s1, s2, s3, s4, s5⟩ := cells6 p_z1q
    obtain ⟨r0, r1, r2, r3, r4, r5⟩ := cells6 p_z2q
    go_wp2_with fail
    exact bodyPost_ret (v := .tuple #[.agg #[.int .i64 x0, .int .i64 y0, .int .i64 ((x0 + (((x1 - x0) + 1) / 2)) - 1), .int .i64 y1, .int .i64 f, .int .i64 c], .agg #[.int .i64 (x0 + (((x1 - x0) + 1) / 2)), .int .i64 y0, .int .i64 x1, .int .i64 y1, .int .i64 f, .int .i64 c], .bool true]) (by simp [results, Try.results27, go_sem, s0, s1, s2, s3, s4, s5, r0, r1, r2, r3, r4, r5]) rfl ⟨rfl, nextw HF.out (by exact sm)⟩

set_option maxRecDepth 100000 in
set_option maxHeartbeats 4000000 in
theorem RSplit_w1 (x0 y0 x1 y1 f c : Int)   (dd0 : ¬ (OkB x0 y0 x1 y1 f c)) (w : World) :
    Calls Try.prog 27 #[.agg #[.int .i64 x0, .int .i64 y0, .int .i64 x1, .int .i64 y1, .int .i64 f, .int .i64 c]] w fun e w' => e = .returned (.tuple #[.agg #[.int .i64 0, .int .i64 0, .int .i64 0, .int .i64 0, .int .i64 0, .int .i64 0], .agg #[.int .i64 0, .int .i64 0, .int .i64 0, .int .i64 0, .int .i64 0, .int .i64 0], .bool false]) ∧ Below w.heap.size w w' := by
  have H0 := Lib.hid (fun w => BBox_no dd0 w)
  obtain ⟨HB, B_z0, B_z1, B_z2⟩ := box3 w 23 #[.int .i64 x0, .int .i64 y0, .int .i64 x1, .int .i64 y1, .int .i64 f, .int .i64 c] 23 #[.int .i64 0, .int .i64 0, .int .i64 0, .int .i64 0, .int .i64 0, .int .i64 0] 23 #[.int .i64 0, .int .i64 0, .int .i64 0, .int .i64 0, .int .i64 0, .int .i64 0]
  go_enter Try.func27, Try.ntmps27
  go_upto_region 1 with (fail)
  generalize ((w.alloc (.cells #[.int .i64 x0, .int .i64 y0, .int .i64 x1, .int .i64 y1, .int .i64 f, .int .i64 c] 23)).alloc (.cells #[.int .i64 0, .int .i64 0, .int .i64 0, .int .i64 0, .int .i64 0, .int .i64 0] 23)).alloc (.cells #[.int .i64 0, .int .i64 0, .int .i64 0, .int .i64 0, .int .i64 0, .int .i64 0] 23) = W0 at *
  obtain ⟨c0z0, c1z0, c2z0, c3z0, c4z0, c5z0⟩ := cells6 B_z0
  go_wp2_with fail
  refine (H0.out _).mono ?_
  clear c0z0 c1z0 c2z0 c3z0 c4z0 c5z0
  rintro e w1 ⟨rfl, bb⟩
  replace bb := nextw (w0 := W0) (by exact sm) bb
  replace B_z0 := mv B_z0 bb
  replace B_z1 := mv B_z1 bb
  replace B_z2 := mv B_z2 bb
  replace HB := nx HB bb
  clear bb
  have ne_ab : Hid ((w.heap.size + 1) ≠ (w.heap.size + 1 + 1)) := by unfold Hid; omega
  have ne_ba : Hid ((w.heap.size + 1 + 1) ≠ (w.heap.size + 1)) := by unfold Hid; omega
  obtain ⟨c0z1, c1z1, c2z1, c3z1, c4z1, c5z1⟩ := cells6 B_z1
  obtain ⟨f0z1, f1z1, f2z1, f3z1, f4z1, f5z1⟩ := froz6 B_z1
  obtain ⟨c0z2, c1z2, c2z2, c3z2, c4z2, c5z2⟩ := cells6 B_z2
  obtain ⟨f0z2, f1z2, f2z2, f3z2, f4z2, f5z2⟩ := froz6 B_z2
  go_wp2_with fail
  have t_z1q := stor6 B_z1 (.int .i64 0) (.int .i64 0) (.int .i64 0) (.int .i64 0) (.int .i64 0) (.int .i64 0); have m_z2q := far6 B_z2 ne_ba.out 0 (.int .i64 0) 1 (.int .i64 0) 2 (.int .i64 0) 3 (.int .i64 0) 4 (.int .i64 0) 5 (.int .i64 0); have p_z2q := stor6 m_z2q (.int .i64 0) (.int .i64 0) (.int .i64 0) (.int .i64 0) (.int .i64 0) (.int .i64 0); have p_z1q := far6 t_z1q ne_ab.out 0 (.int .i64 0) 1 (.int .i64 0) 2 (.int .i64 0) 3 (.int .i64 0) 4 (.int .i64 0) 5 (.int .i64 0); obtain ⟨s0, s1, s2, s3, s4, s5⟩ := cells6 p_z1q; obtain ⟨r0, r1, r2, r3, r4, r5⟩ := cells6 p_z2q; have HF := stb6 (stb6 HB (y := w.heap.size + 1) (by omega) 0 (.int .i64 0) 1 (.int .i64 0) 2 (.int .i64 0) 3 (.int .i64 0) 4 (.int .i64 0) 5 (.int .i64 0)) (y := w.heap.size + 1 + 1) (by omega) 0 (.int .i64 0) 1 (.int .i64 0) 2 (.int .i64 0) 3 (.int .i64 0) 4 (.int .i64 0) 5 (.int .i64 0)
  exact bodyPost_ret (v := .tuple #[.agg #[.int .i64 0, .int .i64 0, .int .i64 0, .int .i64 0, .int .i64 0, .int .i64 0], .agg #[.int .i64 0, .int .i64 0, .int .i64 0, .int .i64 0, .int .i64 0, .int .i64 0], .bool false]) (by simp [results, Try.results27, go_sem, s0, s1, s2, s3, s4, s5, r0, r1, r2, r3, r4, r5]) rfl ⟨rfl, nextw HF.out (by exact sm)⟩

set_option maxRecDepth 100000 in
set_option maxHeartbeats 4000000 in
theorem RSplit_w2 (x0 y0 x1 y1 f c : Int)   (dd0 : OkB x0 y0 x1 y1 f c) (dd1 : ((x1 - x0) + 1) ≤ 1) (dd2 : 1 < ((y1 - y0) + 1)) (dd3 : 1 < c) (dd4 : ¬ (((y1 - y0) + 1) = 0)) (dd5 : 0 < ((y1 - y0) + 1)) (dd6 : (8 * c) ≤ ((y1 - y0) + 1)) (w : World) :
    Calls Try.prog 27 #[.agg #[.int .i64 x0, .int .i64 y0, .int .i64 x1, .int .i64 y1, .int .i64 f, .int .i64 c]] w fun e w' => e = .returned (.tuple #[.agg #[.int .i64 x0, .int .i64 y0, .int .i64 x1, .int .i64 ((y0 + (((y1 - y0) + 1) / 2)) - 1), .int .i64 f, .int .i64 c], .agg #[.int .i64 x0, .int .i64 (y0 + (((y1 - y0) + 1) / 2)), .int .i64 x1, .int .i64 y1, .int .i64 f, .int .i64 c], .bool true]) ∧ Below w.heap.size w w' := by
  have H0 := Lib.hid (fun w => BBox_yes dd0 w)
  have dd0b := dd0.b
  obtain ⟨HB, B_z0, B_z1, B_z2⟩ := box3 w 23 #[.int .i64 x0, .int .i64 y0, .int .i64 x1, .int .i64 y1, .int .i64 f, .int .i64 c] 23 #[.int .i64 0, .int .i64 0, .int .i64 0, .int .i64 0, .int .i64 0, .int .i64 0] 23 #[.int .i64 0, .int .i64 0, .int .i64 0, .int .i64 0, .int .i64 0, .int .i64 0]
  go_enter Try.func27, Try.ntmps27
  go_upto_region 1 with (fail)
  generalize ((w.alloc (.cells #[.int .i64 x0, .int .i64 y0, .int .i64 x1, .int .i64 y1, .int .i64 f, .int .i64 c] 23)).alloc (.cells #[.int .i64 0, .int .i64 0, .int .i64 0, .int .i64 0, .int .i64 0, .int .i64 0] 23)).alloc (.cells #[.int .i64 0, .int .i64 0, .int .i64 0, .int .i64 0, .int .i64 0, .int .i64 0] 23) = W0 at *
  obtain ⟨c0z0, c1z0, c2z0, c3z0, c4z0, c5z0⟩ := cells6 B_z0
  go_wp2_with fail
  refine (H0.out _).mono ?_
  clear c0z0 c1z0 c2z0 c3z0 c4z0 c5z0
  rintro e w1 ⟨rfl, bb⟩
  replace bb := nextw (w0 := W0) (by exact sm) bb
  replace B_z0 := mv B_z0 bb
  replace B_z1 := mv B_z1 bb
  replace B_z2 := mv B_z2 bb
  replace HB := nx HB bb
  clear bb
  go_upto_region 3 with (fail)
  have wq3x0 : IntKind.i64.wrap (x1 - x0) = x1 - x0 := by rw [IntKind.wrap_i64]; omega
  have wq3x1 : IntKind.i64.wrap ((x1 - x0) + 1) = (x1 - x0) + 1 := by rw [IntKind.wrap_i64]; omega
  have wq3x2 : IntKind.i64.wrap (y1 - y0) = y1 - y0 := by rw [IntKind.wrap_i64]; omega
  have wq3x3 : IntKind.i64.wrap ((y1 - y0) + 1) = (y1 - y0) + 1 := by rw [IntKind.wrap_i64]; omega
  obtain ⟨c0z0, c1z0, c2z0, c3z0, c4z0, c5z0⟩ := cells6 B_z0
  go_quiet (fail)
  clear c0z0 c1z0 c2z0 c3z0 c4z0 c5z0
  have bb : Below w1.heap.size w1 (w1.drewN nq) := bel_drewN (Below.refl _ _) _
  generalize w1.drewN nq = w2q at *
  replace B_z0 := mv B_z0 bb
  replace B_z1 := mv B_z1 bb
  replace B_z2 := mv B_z2 bb
  replace HB := nx HB bb
  clear bb
  go_upto_region 13 with (fail)
  go_cut [11, 12] (fun sv0 sv1 wx => ∃ Pz3 Pz4 : Nat, sv0 = (.pointer (some ⟨Pz3, 0, none⟩)) ∧ sv1 = (.pointer (some ⟨Pz4, 0, none⟩)) ∧ Hid (Pz3 ≠ Pz4) ∧ Hid (w.heap.size ≠ Pz3) ∧ Hid (w.heap.size ≠ Pz4) ∧ Hid (w.heap.size + 1 ≠ Pz3) ∧ Hid (w.heap.size + 1 ≠ Pz4) ∧ Hid (w.heap.size + 1 + 1 ≠ Pz3) ∧ Hid (w.heap.size + 1 + 1 ≠ Pz4) ∧ Hid (w.heap.size ≤ Pz3) ∧ Hid (w.heap.size ≤ Pz4) ∧ Hid (Bx wx (Pz3) 23 #[.int .i64 x0, .int .i64 y0, .int .i64 x1, .int .i64 y1, .int .i64 f, .int .i64 c]) ∧ Hid (Bx wx (Pz4) 23 #[.int .i64 x0, .int .i64 y0, .int .i64 x1, .int .i64 y1, .int .i64 f, .int .i64 c]) ∧ Hid (Bx wx (w.heap.size) 23 #[.int .i64 x0, .int .i64 y0, .int .i64 x1, .int .i64 y1, .int .i64 f, .int .i64 c]) ∧ Hid (Bx wx (w.heap.size + 1) 23 #[.int .i64 0, .int .i64 0, .int .i64 0, .int .i64 0, .int .i64 0, .int .i64 0]) ∧ Hid (Bx wx (w.heap.size + 1 + 1) 23 #[.int .i64 0, .int .i64 0, .int .i64 0, .int .i64 0, .int .i64 0, .int .i64 0]) ∧ Hid (Below w.heap.size w wx))
  case first =>
    obtain ⟨c0z0, c1z0, c2z0, c3z0, c4z0, c5z0⟩ := cells6 B_z0
    have lt_z0 := B_z0.out.lt
    go_region_held3 (fun w' => w'.cell? ⟨w.heap.size, 0, none⟩ = some (.int .i64 x0) ∧ w'.cell? ⟨w.heap.size, 1, none⟩ = some (.int .i64 y0) ∧ w'.cell? ⟨w.heap.size, 2, none⟩ = some (.int .i64 x1) ∧ w'.cell? ⟨w.heap.size, 3, none⟩ = some (.int .i64 y1) ∧ w'.cell? ⟨w.heap.size, 4, none⟩ = some (.int .i64 f) ∧ w'.cell? ⟨w.heap.size, 5, none⟩ = some (.int .i64 c)) (((try dsimp only); (repeat' apply And.intro) <;> (first | (with_reducible assumption) | ((repeat (first | (with_reducible refine Eq.trans (cell_drew1 _ _) ?_) | (with_reducible refine Eq.trans (cell_far (by omega) _ _ _) ?_) | (with_reducible refine Eq.trans (World.cell?_alloc_lt _ _ _ (by first | (dsimp only; omega) | (simp only [World.size_alloc, World.size_setCell]; omega))) ?_))); with_reducible assumption) | assumption | go_keep)))
        (first | fail)
    all_goals clear c0z0 c1z0 c2z0 c3z0 c4z0 c5z0 lt_z0
    all_goals go_wp2_with fail
    all_goals go_meet
    all_goals first
        | (refine ⟨w2q.heap.size, w2q.heap.size + 1, rfl, rfl, ?_⟩; have lx_z0 := B_z0.out.lt; have lx_z1 := B_z1.out.lt; have lx_z2 := B_z2.out.lt; obtain ⟨bb, b0, b1⟩ := box2 w2q 23 #[.int .i64 x0, .int .i64 y0, .int .i64 x1, .int .i64 y1, .int .i64 f, .int .i64 c] 23 #[.int .i64 x0, .int .i64 y0, .int .i64 x1, .int .i64 y1, .int .i64 f, .int .i64 c]; replace bb := bb.out; have hs := HB.out.size; exact ⟨(by unfold Hid; omega), (by unfold Hid; omega), (by unfold Hid; omega), (by unfold Hid; omega), (by unfold Hid; omega), (by unfold Hid; omega), (by unfold Hid; omega), (by unfold Hid; omega), (by unfold Hid; omega), mv b0 sm, mv b1 sm, mv (mv B_z0 bb) sm, mv (mv B_z1 bb) sm, mv (mv B_z2 bb) sm, nx (nx HB bb) sm⟩)
        | (refine ⟨w2q.heap.size + 1, w2q.heap.size, rfl, rfl, ?_⟩; have lx_z0 := B_z0.out.lt; have lx_z1 := B_z1.out.lt; have lx_z2 := B_z2.out.lt; obtain ⟨bb, b0, b1⟩ := box2 w2q 23 #[.int .i64 x0, .int .i64 y0, .int .i64 x1, .int .i64 y1, .int .i64 f, .int .i64 c] 23 #[.int .i64 x0, .int .i64 y0, .int .i64 x1, .int .i64 y1, .int .i64 f, .int .i64 c]; replace bb := bb.out; have hs := HB.out.size; exact ⟨(by unfold Hid; omega), (by unfold Hid; omega), (by unfold Hid; omega), (by unfold Hid; omega), (by unfold Hid; omega), (by unfold Hid; omega), (by unfold Hid; omega), (by unfold Hid; omega), (by unfold Hid; omega), mv b1 sm, mv b0 sm, mv (mv B_z0 bb) sm, mv (mv B_z1 bb) sm, mv (mv B_z2 bb) sm, nx (nx HB bb) sm⟩)
  case rest =>
    clear B_z0
    clear B_z1
    clear B_z2
    clear HB
    rename World => wc3
    obtain ⟨Pz3, Pz4, rfl, rfl, ne01Pz3, noz0Pz3, noz0Pz4, noz1Pz3, noz1Pz4, noz2Pz3, noz2Pz4, lePz3, lePz4, B_z3, B_z4, B_z0, B_z1, B_z2, HB⟩ := hcut
    have lePz3' := lePz3.out
    have lePz4' := lePz4.out
    obtain ⟨c0z0, c1z0, c2z0, c3z0, c4z0, c5z0⟩ := cells6 B_z0
    obtain ⟨c0z3, c1z3, c2z3, c3z3, c4z3, c5z3⟩ := cells6 B_z3
    obtain ⟨f0z3, f1z3, f2z3, f3z3, f4z3, f5z3⟩ := froz6 B_z3
    have ne_z0 : Hid ((w.heap.size) ≠ (Pz3)) := by unfold Hid; have kne01Pz3 := ne01Pz3.out; have knoz0Pz3 := noz0Pz3.out; have knoz0Pz4 := noz0Pz4.out; have knoz1Pz3 := noz1Pz3.out; have knoz1Pz4 := noz1Pz4.out; have knoz2Pz3 := noz2Pz3.out; have knoz2Pz4 := noz2Pz4.out; omega
    have ne_z1 : Hid ((w.heap.size + 1) ≠ (Pz3)) := by unfold Hid; have kne01Pz3 := ne01Pz3.out; have knoz0Pz3 := noz0Pz3.out; have knoz0Pz4 := noz0Pz4.out; have knoz1Pz3 := noz1Pz3.out; have knoz1Pz4 := noz1Pz4.out; have knoz2Pz3 := noz2Pz3.out; have knoz2Pz4 := noz2Pz4.out; omega
    have ne_z2 : Hid ((w.heap.size + 1 + 1) ≠ (Pz3)) := by unfold Hid; have kne01Pz3 := ne01Pz3.out; have knoz0Pz3 := noz0Pz3.out; have knoz0Pz4 := noz0Pz4.out; have knoz1Pz3 := noz1Pz3.out; have knoz1Pz4 := noz1Pz4.out; have knoz2Pz3 := noz2Pz3.out; have knoz2Pz4 := noz2Pz4.out; omega
    have ne_z4 : Hid ((Pz4) ≠ (Pz3)) := by unfold Hid; have kne01Pz3 := ne01Pz3.out; have knoz0Pz3 := noz0Pz3.out; have knoz0Pz4 := noz0Pz4.out; have knoz1Pz3 := noz1Pz3.out; have knoz1Pz4 := noz1Pz4.out; have knoz2Pz3 := noz2Pz3.out; have knoz2Pz4 := noz2Pz4.out; omega
    have n_z3 : Hid (Bx (wc3.setCell ⟨Pz3, 3, none⟩ (.int .i64 ((y0 + (((y1 - y0) + 1) / 2)) - 1))) (Pz3) 23 #[.int .i64 x0, .int .i64 y0, .int .i64 x1, .int .i64 ((y0 + (((y1 - y0) + 1) / 2)) - 1), .int .i64 f, .int .i64 c]) := (B_z3.out.set 3 (.int .i64 ((y0 + (((y1 - y0) + 1) / 2)) - 1)))
    have n_z0 := far1 B_z0 ne_z0.out 3 (.int .i64 ((y0 + (((y1 - y0) + 1) / 2)) - 1))
    have n_z1 := far1 B_z1 ne_z1.out 3 (.int .i64 ((y0 + (((y1 - y0) + 1) / 2)) - 1))
    have n_z2 := far1 B_z2 ne_z2.out 3 (.int .i64 ((y0 + (((y1 - y0) + 1) / 2)) - 1))
    have n_z4 := far1 B_z4 ne_z4.out 3 (.int .i64 ((y0 + (((y1 - y0) + 1) / 2)) - 1))
    have nHB := stb1 HB (y := Pz3) (by omega) 3 (.int .i64 ((y0 + (((y1 - y0) + 1) / 2)) - 1))
    go_upto_region 22 with (fail)
    clear c0z0 c1z0 c2z0 c3z0 c4z0 c5z0 c0z3 c1z3 c2z3 c3z3 c4z3 c5z3 f0z3 f1z3 f2z3 f3z3 f4z3 f5z3
    clear ne_z0 ne_z1 ne_z2 ne_z4
    generalize wc3.setCell ⟨Pz3, 3, none⟩ (.int .i64 ((y0 + (((y1 - y0) + 1) / 2)) - 1)) = WS13 at *
    clear B_z0
    have B_z0 := n_z0
    clear n_z0
    clear B_z1
    have B_z1 := n_z1
    clear n_z1
    clear B_z2
    have B_z2 := n_z2
    clear n_z2
    clear B_z3
    have B_z3 := n_z3
    clear n_z3
    clear B_z4
    have B_z4 := n_z4
    clear n_z4
    clear HB
    have HB := nHB
    clear nHB
    obtain ⟨c0z3, c1z3, c2z3, c3z3, c4z3, c5z3⟩ := cells6 B_z3
    obtain ⟨c0z4, c1z4, c2z4, c3z4, c4z4, c5z4⟩ := cells6 B_z4
    obtain ⟨f0z4, f1z4, f2z4, f3z4, f4z4, f5z4⟩ := froz6 B_z4
    have ne_z0 : Hid ((w.heap.size) ≠ (Pz4)) := by unfold Hid; have kne01Pz3 := ne01Pz3.out; have knoz0Pz3 := noz0Pz3.out; have knoz0Pz4 := noz0Pz4.out; have knoz1Pz3 := noz1Pz3.out; have knoz1Pz4 := noz1Pz4.out; have knoz2Pz3 := noz2Pz3.out; have knoz2Pz4 := noz2Pz4.out; omega
    have ne_z1 : Hid ((w.heap.size + 1) ≠ (Pz4)) := by unfold Hid; have kne01Pz3 := ne01Pz3.out; have knoz0Pz3 := noz0Pz3.out; have knoz0Pz4 := noz0Pz4.out; have knoz1Pz3 := noz1Pz3.out; have knoz1Pz4 := noz1Pz4.out; have knoz2Pz3 := noz2Pz3.out; have knoz2Pz4 := noz2Pz4.out; omega
    have ne_z2 : Hid ((w.heap.size + 1 + 1) ≠ (Pz4)) := by unfold Hid; have kne01Pz3 := ne01Pz3.out; have knoz0Pz3 := noz0Pz3.out; have knoz0Pz4 := noz0Pz4.out; have knoz1Pz3 := noz1Pz3.out; have knoz1Pz4 := noz1Pz4.out; have knoz2Pz3 := noz2Pz3.out; have knoz2Pz4 := noz2Pz4.out; omega
    have ne_z3 : Hid ((Pz3) ≠ (Pz4)) := by unfold Hid; have kne01Pz3 := ne01Pz3.out; have knoz0Pz3 := noz0Pz3.out; have knoz0Pz4 := noz0Pz4.out; have knoz1Pz3 := noz1Pz3.out; have knoz1Pz4 := noz1Pz4.out; have knoz2Pz3 := noz2Pz3.out; have knoz2Pz4 := noz2Pz4.out; omega
    have n_z4 : Hid (Bx (WS13.setCell ⟨Pz4, 1, none⟩ (.int .i64 (y0 + (((y1 - y0) + 1) / 2)))) (Pz4) 23 #[.int .i64 x0, .int .i64 (y0 + (((y1 - y0) + 1) / 2)), .int .i64 x1, .int .i64 y1, .int .i64 f, .int .i64 c]) := (B_z4.out.set 1 (.int .i64 (y0 + (((y1 - y0) + 1) / 2))))
    have n_z0 := far1 B_z0 ne_z0.out 1 (.int .i64 (y0 + (((y1 - y0) + 1) / 2)))
    have n_z1 := far1 B_z1 ne_z1.out 1 (.int .i64 (y0 + (((y1 - y0) + 1) / 2)))
    have n_z2 := far1 B_z2 ne_z2.out 1 (.int .i64 (y0 + (((y1 - y0) + 1) / 2)))
    have n_z3 := far1 B_z3 ne_z3.out 1 (.int .i64 (y0 + (((y1 - y0) + 1) / 2)))
    have nHB := stb1 HB (y := Pz4) (by omega) 1 (.int .i64 (y0 + (((y1 - y0) + 1) / 2)))
    go_upto_region 23 with (fail)
    clear c0z3 c1z3 c2z3 c3z3 c4z3 c5z3 c0z4 c1z4 c2z4 c3z4 c4z4 c5z4 f0z4 f1z4 f2z4 f3z4 f4z4 f5z4
    clear ne_z0 ne_z1 ne_z2 ne_z3
    generalize WS13.setCell ⟨Pz4, 1, none⟩ (.int .i64 (y0 + (((y1 - y0) + 1) / 2))) = WS14 at *
    clear B_z0
    have B_z0 := n_z0
    clear n_z0
    clear B_z1
    have B_z1 := n_z1
    clear n_z1
    clear B_z2
    have B_z2 := n_z2
    clear n_z2
    clear B_z3
    have B_z3 := n_z3
    clear n_z3
    clear B_z4
    have B_z4 := n_z4
    clear n_z4
    clear HB
    have HB := nHB
    clear nHB
    have ne_ab : Hid ((w.heap.size + 1) ≠ (w.heap.size + 1 + 1)) := by unfold Hid; have kne01Pz3 := ne01Pz3.out; have knoz0Pz3 := noz0Pz3.out; have knoz0Pz4 := noz0Pz4.out; have knoz1Pz3 := noz1Pz3.out; have knoz1Pz4 := noz1Pz4.out; have knoz2Pz3 := noz2Pz3.out; have knoz2Pz4 := noz2Pz4.out; omega
    have ne_ba : Hid ((w.heap.size + 1 + 1) ≠ (w.heap.size + 1)) := by unfold Hid; have kne01Pz3 := ne01Pz3.out; have knoz0Pz3 := noz0Pz3.out; have knoz0Pz4 := noz0Pz4.out; have knoz1Pz3 := noz1Pz3.out; have knoz1Pz4 := noz1Pz4.out; have knoz2Pz3 := noz2Pz3.out; have knoz2Pz4 := noz2Pz4.out; omega
    obtain ⟨c0z1, c1z1, c2z1, c3z1, c4z1, c5z1⟩ := cells6 B_z1
    obtain ⟨f0z1, f1z1, f2z1, f3z1, f4z1, f5z1⟩ := froz6 B_z1
    obtain ⟨c0z2, c1z2, c2z2, c3z2, c4z2, c5z2⟩ := cells6 B_z2
    obtain ⟨f0z2, f1z2, f2z2, f3z2, f4z2, f5z2⟩ := froz6 B_z2
    obtain ⟨c0z3, c1z3, c2z3, c3z3, c4z3, c5z3⟩ := cells6 B_z3
    obtain ⟨c0z4, c1z4, c2z4, c3z4, c4z4, c5z4⟩ := cells6 B_z4
    have kne01Pz3 := ne01Pz3.out
    have knoz0Pz3 := noz0Pz3.out
    have knoz0Pz4 := noz0Pz4.out
    have knoz1Pz3 := noz1Pz3.out
    have knoz1Pz4 := noz1Pz4.out
    have knoz2Pz3 := noz2Pz3.out
    have knoz2Pz4 := noz2Pz4.out
    go_region
    clear kne01Pz3 knoz0Pz3 knoz0Pz4 knoz1Pz3 knoz1Pz4 knoz2Pz3 knoz2Pz4
    clear c0z1 c1z1 c2z1 c3z1 c4z1 c5z1 f0z1 f1z1 f2z1 f3z1 f4z1 f5z1 c0z2 c1z2 c2z2 c3z2 c4z2 c5z2 f0z2 f1z2 f2z2 f3z2 f4z2 f5z2 c0z3 c1z3 c2z3 c3z3 c4z3 c5z3 c0z4 c1z4 c2z4 c3z4 c4z4 c5z4
    have t_z1q := stor6 B_z1 (.int .i64 x0) (.int .i64 y0) (.int .i64 x1) (.int .i64 ((y0 + (((y1 - y0) + 1) / 2)) - 1)) (.int .i64 f) (.int .i64 c)
    have m_z2q := far6 B_z2 ne_ba.out 0 (.int .i64 x0) 1 (.int .i64 y0) 2 (.int .i64 x1) 3 (.int .i64 ((y0 + (((y1 - y0) + 1) / 2)) - 1)) 4 (.int .i64 f) 5 (.int .i64 c)
    have p_z2q := stor6 m_z2q (.int .i64 x0) (.int .i64 (y0 + (((y1 - y0) + 1) / 2))) (.int .i64 x1) (.int .i64 y1) (.int .i64 f) (.int .i64 c)
    have p_z1q := far6 t_z1q ne_ab.out 0 (.int .i64 x0) 1 (.int .i64 (y0 + (((y1 - y0) + 1) / 2))) 2 (.int .i64 x1) 3 (.int .i64 y1) 4 (.int .i64 f) 5 (.int .i64 c)
    have HF := stb6 (stb6 HB (y := w.heap.size + 1) (by omega) 0 (.int .i64 x0) 1 (.int .i64 y0) 2 (.int .i64 x1) 3 (.int .i64 ((y0 + (((y1 - y0) + 1) / 2)) - 1)) 4 (.int .i64 f) 5 (.int .i64 c)) (y := w.heap.size + 1 + 1) (by omega) 0 (.int .i64 x0) 1 (.int .i64 (y0 + (((y1 - y0) + 1) / 2))) 2 (.int .i64 x1) 3 (.int .i64 y1) 4 (.int .i64 f) 5 (.int .i64 c)
    have dr := sm_drew (((((((((((((WS14.setCell ⟨w.heap.size + 1, 0, none⟩ (.int .i64 x0)).setCell ⟨w.heap.size + 1, 1, none⟩ (.int .i64 y0)).setCell ⟨w.heap.size + 1, 2, none⟩ (.int .i64 x1)).setCell ⟨w.heap.size + 1, 3, none⟩ (.int .i64 ((y0 + (((y1 - y0) + 1) / 2)) - 1))).setCell ⟨w.heap.size + 1, 4, none⟩ (.int .i64 f)).setCell ⟨w.heap.size + 1, 5, none⟩ (.int .i64 c)).setCell ⟨w.heap.size + 1 + 1, 0, none⟩ (.int .i64 x0)).setCell ⟨w.heap.size + 1 + 1, 1, none⟩ (.int .i64 (y0 + (((y1 - y0) + 1) / 2)))).setCell ⟨w.heap.size + 1 + 1, 2, none⟩ (.int .i64 x1)).setCell ⟨w.heap.size + 1 + 1, 3, none⟩ (.int .i64 y1)).setCell ⟨w.heap.size + 1 + 1, 4, none⟩ (.int .i64 f)).setCell ⟨w.heap.size + 1 + 1, 5, none⟩ (.int .i64 c)))
    replace p_z1q := mv p_z1q dr
    replace p_z2q := mv p_z2q dr
    replace HF := nx HF dr
    clear dr
    clear m_z2q t_z1q
    generalize (((((((((((((WS14.setCell ⟨w.heap.size + 1, 0, none⟩ (.int .i64 x0)).setCell ⟨w.heap.size + 1, 1, none⟩ (.int .i64 y0)).setCell ⟨w.heap.size + 1, 2, none⟩ (.int .i64 x1)).setCell ⟨w.heap.size + 1, 3, none⟩ (.int .i64 ((y0 + (((y1 - y0) + 1) / 2)) - 1))).setCell ⟨w.heap.size + 1, 4, none⟩ (.int .i64 f)).setCell ⟨w.heap.size + 1, 5, none⟩ (.int .i64 c)).setCell ⟨w.heap.size + 1 + 1, 0, none⟩ (.int .i64 x0)).setCell ⟨w.heap.size + 1 + 1, 1, none⟩ (.int .i64 (y0 + (((y1 - y0) + 1) / 2)))).setCell ⟨w.heap.size + 1 + 1, 2, none⟩ (.int .i64 x1)).setCell ⟨w.heap.size + 1 + 1, 3, none⟩ (.int .i64 y1)).setCell ⟨w.heap.size + 1 + 1, 4, none⟩ (.int .i64 f)).setCell ⟨w.heap.size + 1 + 1, 5, none⟩ (.int .i64 c))).drew = WR at *
    obtain ⟨s0, s1, s2, s3, s4, s5⟩ := cells6 p_z1q
    obtain ⟨r0, r1, r2, r3, r4, r5⟩ := cells6 p_z2q
    go_wp2_with fail
    exact bodyPost_ret (v := .tuple #[.agg #[.int .i64 x0, .int .i64 y0, .int .i64 x1, .int .i64 ((y0 + (((y1 - y0) + 1) / 2)) - 1), .int .i64 f, .int .i64 c], .agg #[.int .i64 x0, .int .i64 (y0 + (((y1 - y0) + 1) / 2)), .int .i64 x1, .int .i64 y1, .int .i64 f, .int .i64 c], .bool true]) (by simp [results, Try.results27, go_sem, s0, s1, s2, s3, s4, s5, r0, r1, r2, r3, r4, r5]) rfl ⟨rfl, nextw HF.out (by exact sm)⟩

set_option maxRecDepth 100000 in
set_option maxHeartbeats 4000000 in
theorem RSplit_w3 (x0 y0 x1 y1 f c : Int)   (dd0 : OkB x0 y0 x1 y1 f c) (dd1 : ((x1 - x0) + 1) ≤ 1) (dd2 : ((y1 - y0) + 1) ≤ 1) (dd3 : 1 < c) (dd4 : ¬ ((8 * c) = 0)) (dd5 : 0 < (8 * c)) (w : World) :
    Calls Try.prog 27 #[.agg #[.int .i64 x0, .int .i64 y0, .int .i64 x1, .int .i64 y1, .int .i64 f, .int .i64 c]] w fun e w' => e = .returned (.tuple #[.agg #[.int .i64 x0, .int .i64 y0, .int .i64 x1, .int .i64 y1, .int .i64 f, .int .i64 (c / 2)], .agg #[.int .i64 x0, .int .i64 y0, .int .i64 x1, .int .i64 y1, .int .i64 ((f + (c / 2)) % 256), .int .i64 (c - (c / 2))], .bool true]) ∧ Below w.heap.size w w' := by
  have H0 := Lib.hid (fun w => BBox_yes dd0 w)
  have H1 := Lib.hid (fun w => Mod_b (f + (c / 2)) w)
  have dd0b := dd0.b
  obtain ⟨HB, B_z0, B_z1, B_z2⟩ := box3 w 23 #[.int .i64 x0, .int .i64 y0, .int .i64 x1, .int .i64 y1, .int .i64 f, .int .i64 c] 23 #[.int .i64 0, .int .i64 0, .int .i64 0, .int .i64 0, .int .i64 0, .int .i64 0] 23 #[.int .i64 0, .int .i64 0, .int .i64 0, .int .i64 0, .int .i64 0, .int .i64 0]
  go_enter Try.func27, Try.ntmps27
  go_upto_region 1 with (fail)
  generalize ((w.alloc (.cells #[.int .i64 x0, .int .i64 y0, .int .i64 x1, .int .i64 y1, .int .i64 f, .int .i64 c] 23)).alloc (.cells #[.int .i64 0, .int .i64 0, .int .i64 0, .int .i64 0, .int .i64 0, .int .i64 0] 23)).alloc (.cells #[.int .i64 0, .int .i64 0, .int .i64 0, .int .i64 0, .int .i64 0, .int .i64 0] 23) = W0 at *
  obtain ⟨c0z0, c1z0, c2z0, c3z0, c4z0, c5z0⟩ := cells6 B_z0
  go_wp2_with fail
  refine (H0.out _).mono ?_
  clear c0z0 c1z0 c2z0 c3z0 c4z0 c5z0
  rintro e w1 ⟨rfl, bb⟩
  replace bb := nextw (w0 := W0) (by exact sm) bb
  replace B_z0 := mv B_z0 bb
  replace B_z1 := mv B_z1 bb
  replace B_z2 := mv B_z2 bb
  replace HB := nx HB bb
  clear bb
  go_upto_region 3 with (fail)
  have wq3x0 : IntKind.i64.wrap (x1 - x0) = x1 - x0 := by rw [IntKind.wrap_i64]; omega
  have wq3x1 : IntKind.i64.wrap ((x1 - x0) + 1) = (x1 - x0) + 1 := by rw [IntKind.wrap_i64]; omega
  have wq3x2 : IntKind.i64.wrap (y1 - y0) = y1 - y0 := by rw [IntKind.wrap_i64]; omega
  have wq3x3 : IntKind.i64.wrap ((y1 - y0) + 1) = (y1 - y0) + 1 := by rw [IntKind.wrap_i64]; omega
  obtain ⟨c0z0, c1z0, c2z0, c3z0, c4z0, c5z0⟩ := cells6 B_z0
  go_quiet (fail)
  clear c0z0 c1z0 c2z0 c3z0 c4z0 c5z0
  have bb : Below w1.heap.size w1 (w1.drewN nq) := bel_drewN (Below.refl _ _) _
  generalize w1.drewN nq = w2q at *
  replace B_z0 := mv B_z0 bb
  replace B_z1 := mv B_z1 bb
  replace B_z2 := mv B_z2 bb
  replace HB := nx HB bb
  clear bb
  go_upto_region 13 with (fail)
  go_cut [11, 12] (fun sv0 sv1 wx => ∃ Pz3 Pz4 : Nat, sv0 = (.pointer (some ⟨Pz3, 0, none⟩)) ∧ sv1 = (.pointer (some ⟨Pz4, 0, none⟩)) ∧ Hid (Pz3 ≠ Pz4) ∧ Hid (w.heap.size ≠ Pz3) ∧ Hid (w.heap.size ≠ Pz4) ∧ Hid (w.heap.size + 1 ≠ Pz3) ∧ Hid (w.heap.size + 1 ≠ Pz4) ∧ Hid (w.heap.size + 1 + 1 ≠ Pz3) ∧ Hid (w.heap.size + 1 + 1 ≠ Pz4) ∧ Hid (w.heap.size ≤ Pz3) ∧ Hid (w.heap.size ≤ Pz4) ∧ Hid (Bx wx (Pz3) 23 #[.int .i64 x0, .int .i64 y0, .int .i64 x1, .int .i64 y1, .int .i64 f, .int .i64 c]) ∧ Hid (Bx wx (Pz4) 23 #[.int .i64 x0, .int .i64 y0, .int .i64 x1, .int .i64 y1, .int .i64 f, .int .i64 c]) ∧ Hid (Bx wx (w.heap.size) 23 #[.int .i64 x0, .int .i64 y0, .int .i64 x1, .int .i64 y1, .int .i64 f, .int .i64 c]) ∧ Hid (Bx wx (w.heap.size + 1) 23 #[.int .i64 0, .int .i64 0, .int .i64 0, .int .i64 0, .int .i64 0, .int .i64 0]) ∧ Hid (Bx wx (w.heap.size + 1 + 1) 23 #[.int .i64 0, .int .i64 0, .int .i64 0, .int .i64 0, .int .i64 0, .int .i64 0]) ∧ Hid (Below w.heap.size w wx))
  case first =>
    obtain ⟨c0z0, c1z0, c2z0, c3z0, c4z0, c5z0⟩ := cells6 B_z0
    have lt_z0 := B_z0.out.lt
    go_region_held3 (fun w' => w'.cell? ⟨w.heap.size, 0, none⟩ = some (.int .i64 x0) ∧ w'.cell? ⟨w.heap.size, 1, none⟩ = some (.int .i64 y0) ∧ w'.cell? ⟨w.heap.size, 2, none⟩ = some (.int .i64 x1) ∧ w'.cell? ⟨w.heap.size, 3, none⟩ = some (.int .i64 y1) ∧ w'.cell? ⟨w.heap.size, 4, none⟩ = some (.int .i64 f) ∧ w'.cell? ⟨w.heap.size, 5, none⟩ = some (.int .i64 c)) (((try dsimp only); (repeat' apply And.intro) <;> (first | (with_reducible assumption) | ((repeat (first | (with_reducible refine Eq.trans (cell_drew1 _ _) ?_) | (with_reducible refine Eq.trans (cell_far (by omega) _ _ _) ?_) | (with_reducible refine Eq.trans (World.cell?_alloc_lt _ _ _ (by first | (dsimp only; omega) | (simp only [World.size_alloc, World.size_setCell]; omega))) ?_))); with_reducible assumption) | assumption | go_keep)))
        (first | fail)
    all_goals clear c0z0 c1z0 c2z0 c3z0 c4z0 c5z0 lt_z0
    all_goals go_wp2_with fail
    all_goals go_meet
    all_goals first
        | (refine ⟨w2q.heap.size, w2q.heap.size + 1, rfl, rfl, ?_⟩; have lx_z0 := B_z0.out.lt; have lx_z1 := B_z1.out.lt; have lx_z2 := B_z2.out.lt; obtain ⟨bb, b0, b1⟩ := box2 w2q 23 #[.int .i64 x0, .int .i64 y0, .int .i64 x1, .int .i64 y1, .int .i64 f, .int .i64 c] 23 #[.int .i64 x0, .int .i64 y0, .int .i64 x1, .int .i64 y1, .int .i64 f, .int .i64 c]; replace bb := bb.out; have hs := HB.out.size; exact ⟨(by unfold Hid; omega), (by unfold Hid; omega), (by unfold Hid; omega), (by unfold Hid; omega), (by unfold Hid; omega), (by unfold Hid; omega), (by unfold Hid; omega), (by unfold Hid; omega), (by unfold Hid; omega), mv b0 sm, mv b1 sm, mv (mv B_z0 bb) sm, mv (mv B_z1 bb) sm, mv (mv B_z2 bb) sm, nx (nx HB bb) sm⟩)
        | (refine ⟨w2q.heap.size + 1, w2q.heap.size, rfl, rfl, ?_⟩; have lx_z0 := B_z0.out.lt; have lx_z1 := B_z1.out.lt; have lx_z2 := B_z2.out.lt; obtain ⟨bb, b0, b1⟩ := box2 w2q 23 #[.int .i64 x0, .int .i64 y0, .int .i64 x1, .int .i64 y1, .int .i64 f, .int .i64 c] 23 #[.int .i64 x0, .int .i64 y0, .int .i64 x1, .int .i64 y1, .int .i64 f, .int .i64 c]; replace bb := bb.out; have hs := HB.out.size; exact ⟨(by unfold Hid; omega), (by unfold Hid; omega), (by unfold Hid; omega), (by unfold Hid; omega), (by unfold Hid; omega), (by unfold Hid; omega), (by unfold Hid; omega), (by unfold Hid; omega), (by unfold Hid; omega), mv b1 sm, mv b0 sm, mv (mv B_z0 bb) sm, mv (mv B_z1 bb) sm, mv (mv B_z2 bb) sm, nx (nx HB bb) sm⟩)
  case rest =>
    clear B_z0
    clear B_z1
    clear B_z2
    clear HB
    rename World => wc3
    obtain ⟨Pz3, Pz4, rfl, rfl, ne01Pz3, noz0Pz3, noz0Pz4, noz1Pz3, noz1Pz4, noz2Pz3, noz2Pz4, lePz3, lePz4, B_z3, B_z4, B_z0, B_z1, B_z2, HB⟩ := hcut
    have lePz3' := lePz3.out
    have lePz4' := lePz4.out
    obtain ⟨c0z3, c1z3, c2z3, c3z3, c4z3, c5z3⟩ := cells6 B_z3
    obtain ⟨f0z3, f1z3, f2z3, f3z3, f4z3, f5z3⟩ := froz6 B_z3
    have ne_z0 : Hid ((w.heap.size) ≠ (Pz3)) := by unfold Hid; have kne01Pz3 := ne01Pz3.out; have knoz0Pz3 := noz0Pz3.out; have knoz0Pz4 := noz0Pz4.out; have knoz1Pz3 := noz1Pz3.out; have knoz1Pz4 := noz1Pz4.out; have knoz2Pz3 := noz2Pz3.out; have knoz2Pz4 := noz2Pz4.out; omega
    have ne_z1 : Hid ((w.heap.size + 1) ≠ (Pz3)) := by unfold Hid; have kne01Pz3 := ne01Pz3.out; have knoz0Pz3 := noz0Pz3.out; have knoz0Pz4 := noz0Pz4.out; have knoz1Pz3 := noz1Pz3.out; have knoz1Pz4 := noz1Pz4.out; have knoz2Pz3 := noz2Pz3.out; have knoz2Pz4 := noz2Pz4.out; omega
    have ne_z2 : Hid ((w.heap.size + 1 + 1) ≠ (Pz3)) := by unfold Hid; have kne01Pz3 := ne01Pz3.out; have knoz0Pz3 := noz0Pz3.out; have knoz0Pz4 := noz0Pz4.out; have knoz1Pz3 := noz1Pz3.out; have knoz1Pz4 := noz1Pz4.out; have knoz2Pz3 := noz2Pz3.out; have knoz2Pz4 := noz2Pz4.out; omega
    have ne_z4 : Hid ((Pz4) ≠ (Pz3)) := by unfold Hid; have kne01Pz3 := ne01Pz3.out; have knoz0Pz3 := noz0Pz3.out; have knoz0Pz4 := noz0Pz4.out; have knoz1Pz3 := noz1Pz3.out; have knoz1Pz4 := noz1Pz4.out; have knoz2Pz3 := noz2Pz3.out; have knoz2Pz4 := noz2Pz4.out; omega
    have n_z3 : Hid (Bx (wc3.setCell ⟨Pz3, 5, none⟩ (.int .i64 (c / 2))) (Pz3) 23 #[.int .i64 x0, .int .i64 y0, .int .i64 x1, .int .i64 y1, .int .i64 f, .int .i64 (c / 2)]) := (B_z3.out.set 5 (.int .i64 (c / 2)))
    have n_z0 := far1 B_z0 ne_z0.out 5 (.int .i64 (c / 2))
    have n_z1 := far1 B_z1 ne_z1.out 5 (.int .i64 (c / 2))
    have n_z2 := far1 B_z2 ne_z2.out 5 (.int .i64 (c / 2))
    have n_z4 := far1 B_z4 ne_z4.out 5 (.int .i64 (c / 2))
    have nHB := stb1 HB (y := Pz3) (by omega) 5 (.int .i64 (c / 2))
    go_upto_region 15 with (fail)
    clear c0z3 c1z3 c2z3 c3z3 c4z3 c5z3 f0z3 f1z3 f2z3 f3z3 f4z3 f5z3
    clear ne_z0 ne_z1 ne_z2 ne_z4
    generalize wc3.setCell ⟨Pz3, 5, none⟩ (.int .i64 (c / 2)) = WS12 at *
    clear B_z0
    have B_z0 := n_z0
    clear n_z0
    clear B_z1
    have B_z1 := n_z1
    clear n_z1
    clear B_z2
    have B_z2 := n_z2
    clear n_z2
    clear B_z3
    have B_z3 := n_z3
    clear n_z3
    clear B_z4
    have B_z4 := n_z4
    clear n_z4
    clear HB
    have HB := nHB
    clear nHB
    obtain ⟨c0z0, c1z0, c2z0, c3z0, c4z0, c5z0⟩ := cells6 B_z0
    go_wp2_with fail
    refine (H1.out _).mono ?_
    clear c0z0 c1z0 c2z0 c3z0 c4z0 c5z0
    rintro e w4 ⟨rfl, bb⟩
    replace bb := nextw (w0 := WS12) (by exact sm) bb
    replace B_z0 := mv B_z0 bb
    replace B_z1 := mv B_z1 bb
    replace B_z2 := mv B_z2 bb
    replace B_z3 := mv B_z3 bb
    replace B_z4 := mv B_z4 bb
    replace HB := nx HB bb
    clear bb
    obtain ⟨c0z4, c1z4, c2z4, c3z4, c4z4, c5z4⟩ := cells6 B_z4
    obtain ⟨f0z4, f1z4, f2z4, f3z4, f4z4, f5z4⟩ := froz6 B_z4
    have ne_z0 : Hid ((w.heap.size) ≠ (Pz4)) := by unfold Hid; have kne01Pz3 := ne01Pz3.out; have knoz0Pz3 := noz0Pz3.out; have knoz0Pz4 := noz0Pz4.out; have knoz1Pz3 := noz1Pz3.out; have knoz1Pz4 := noz1Pz4.out; have knoz2Pz3 := noz2Pz3.out; have knoz2Pz4 := noz2Pz4.out; omega
    have ne_z1 : Hid ((w.heap.size + 1) ≠ (Pz4)) := by unfold Hid; have kne01Pz3 := ne01Pz3.out; have knoz0Pz3 := noz0Pz3.out; have knoz0Pz4 := noz0Pz4.out; have knoz1Pz3 := noz1Pz3.out; have knoz1Pz4 := noz1Pz4.out; have knoz2Pz3 := noz2Pz3.out; have knoz2Pz4 := noz2Pz4.out; omega
    have ne_z2 : Hid ((w.heap.size + 1 + 1) ≠ (Pz4)) := by unfold Hid; have kne01Pz3 := ne01Pz3.out; have knoz0Pz3 := noz0Pz3.out; have knoz0Pz4 := noz0Pz4.out; have knoz1Pz3 := noz1Pz3.out; have knoz1Pz4 := noz1Pz4.out; have knoz2Pz3 := noz2Pz3.out; have knoz2Pz4 := noz2Pz4.out; omega
    have ne_z3 : Hid ((Pz3) ≠ (Pz4)) := by unfold Hid; have kne01Pz3 := ne01Pz3.out; have knoz0Pz3 := noz0Pz3.out; have knoz0Pz4 := noz0Pz4.out; have knoz1Pz3 := noz1Pz3.out; have knoz1Pz4 := noz1Pz4.out; have knoz2Pz3 := noz2Pz3.out; have knoz2Pz4 := noz2Pz4.out; omega
    have n_z4 : Hid (Bx (w4.setCell ⟨Pz4, 4, none⟩ (.int .i64 ((f + (c / 2)) % 256))) (Pz4) 23 #[.int .i64 x0, .int .i64 y0, .int .i64 x1, .int .i64 y1, .int .i64 ((f + (c / 2)) % 256), .int .i64 c]) := (B_z4.out.set 4 (.int .i64 ((f + (c / 2)) % 256)))
    have n_z0 := far1 B_z0 ne_z0.out 4 (.int .i64 ((f + (c / 2)) % 256))
    have n_z1 := far1 B_z1 ne_z1.out 4 (.int .i64 ((f + (c / 2)) % 256))
    have n_z2 := far1 B_z2 ne_z2.out 4 (.int .i64 ((f + (c / 2)) % 256))
    have n_z3 := far1 B_z3 ne_z3.out 4 (.int .i64 ((f + (c / 2)) % 256))
    have nHB := stb1 HB (y := Pz4) (by omega) 4 (.int .i64 ((f + (c / 2)) % 256))
    go_upto_region 16 with (fail)
    clear c0z4 c1z4 c2z4 c3z4 c4z4 c5z4 f0z4 f1z4 f2z4 f3z4 f4z4 f5z4
    clear ne_z0 ne_z1 ne_z2 ne_z3
    generalize w4.setCell ⟨Pz4, 4, none⟩ (.int .i64 ((f + (c / 2)) % 256)) = WS13 at *
    clear B_z0
    have B_z0 := n_z0
    clear n_z0
    clear B_z1
    have B_z1 := n_z1
    clear n_z1
    clear B_z2
    have B_z2 := n_z2
    clear n_z2
    clear B_z3
    have B_z3 := n_z3
    clear n_z3
    clear B_z4
    have B_z4 := n_z4
    clear n_z4
    clear HB
    have HB := nHB
    clear nHB
    obtain ⟨c0z4, c1z4, c2z4, c3z4, c4z4, c5z4⟩ := cells6 B_z4
    obtain ⟨f0z4, f1z4, f2z4, f3z4, f4z4, f5z4⟩ := froz6 B_z4
    have ne_z0 : Hid ((w.heap.size) ≠ (Pz4)) := by unfold Hid; have kne01Pz3 := ne01Pz3.out; have knoz0Pz3 := noz0Pz3.out; have knoz0Pz4 := noz0Pz4.out; have knoz1Pz3 := noz1Pz3.out; have knoz1Pz4 := noz1Pz4.out; have knoz2Pz3 := noz2Pz3.out; have knoz2Pz4 := noz2Pz4.out; omega
    have ne_z1 : Hid ((w.heap.size + 1) ≠ (Pz4)) := by unfold Hid; have kne01Pz3 := ne01Pz3.out; have knoz0Pz3 := noz0Pz3.out; have knoz0Pz4 := noz0Pz4.out; have knoz1Pz3 := noz1Pz3.out; have knoz1Pz4 := noz1Pz4.out; have knoz2Pz3 := noz2Pz3.out; have knoz2Pz4 := noz2Pz4.out; omega
    have ne_z2 : Hid ((w.heap.size + 1 + 1) ≠ (Pz4)) := by unfold Hid; have kne01Pz3 := ne01Pz3.out; have knoz0Pz3 := noz0Pz3.out; have knoz0Pz4 := noz0Pz4.out; have knoz1Pz3 := noz1Pz3.out; have knoz1Pz4 := noz1Pz4.out; have knoz2Pz3 := noz2Pz3.out; have knoz2Pz4 := noz2Pz4.out; omega
    have ne_z3 : Hid ((Pz3) ≠ (Pz4)) := by unfold Hid; have kne01Pz3 := ne01Pz3.out; have knoz0Pz3 := noz0Pz3.out; have knoz0Pz4 := noz0Pz4.out; have knoz1Pz3 := noz1Pz3.out; have knoz1Pz4 := noz1Pz4.out; have knoz2Pz3 := noz2Pz3.out; have knoz2Pz4 := noz2Pz4.out; omega
    have n_z4 : Hid (Bx (WS13.setCell ⟨Pz4, 5, none⟩ (.int .i64 (c - (c / 2)))) (Pz4) 23 #[.int .i64 x0, .int .i64 y0, .int .i64 x1, .int .i64 y1, .int .i64 ((f + (c / 2)) % 256), .int .i64 (c - (c / 2))]) := (B_z4.out.set 5 (.int .i64 (c - (c / 2))))
    have n_z0 := far1 B_z0 ne_z0.out 5 (.int .i64 (c - (c / 2)))
    have n_z1 := far1 B_z1 ne_z1.out 5 (.int .i64 (c - (c / 2)))
    have n_z2 := far1 B_z2 ne_z2.out 5 (.int .i64 (c - (c / 2)))
    have n_z3 := far1 B_z3 ne_z3.out 5 (.int .i64 (c - (c / 2)))
    have nHB := stb1 HB (y := Pz4) (by omega) 5 (.int .i64 (c - (c / 2)))
    go_upto_region 23 with (fail)
    clear c0z4 c1z4 c2z4 c3z4 c4z4 c5z4 f0z4 f1z4 f2z4 f3z4 f4z4 f5z4
    clear ne_z0 ne_z1 ne_z2 ne_z3
    generalize WS13.setCell ⟨Pz4, 5, none⟩ (.int .i64 (c - (c / 2))) = WS14 at *
    clear B_z0
    have B_z0 := n_z0
    clear n_z0
    clear B_z1
    have B_z1 := n_z1
    clear n_z1
    clear B_z2
    have B_z2 := n_z2
    clear n_z2
    clear B_z3
    have B_z3 := n_z3
    clear n_z3
    clear B_z4
    have B_z4 := n_z4
    clear n_z4
    clear HB
    have HB := nHB
    clear nHB
    have ne_ab : Hid ((w.heap.size + 1) ≠ (w.heap.size + 1 + 1)) := by unfold Hid; have kne01Pz3 := ne01Pz3.out; have knoz0Pz3 := noz0Pz3.out; have knoz0Pz4 := noz0Pz4.out; have knoz1Pz3 := noz1Pz3.out; have knoz1Pz4 := noz1Pz4.out; have knoz2Pz3 := noz2Pz3.out; have knoz2Pz4 := noz2Pz4.out; omega
    have ne_ba : Hid ((w.heap.size + 1 + 1) ≠ (w.heap.size + 1)) := by unfold Hid; have kne01Pz3 := ne01Pz3.out; have knoz0Pz3 := noz0Pz3.out; have knoz0Pz4 := noz0Pz4.out; have knoz1Pz3 := noz1Pz3.out; have knoz1Pz4 := noz1Pz4.out; have knoz2Pz3 := noz2Pz3.out; have knoz2Pz4 := noz2Pz4.out; omega
    obtain ⟨c0z1, c1z1, c2z1, c3z1, c4z1, c5z1⟩ := cells6 B_z1
    obtain ⟨f0z1, f1z1, f2z1, f3z1, f4z1, f5z1⟩ := froz6 B_z1
    obtain ⟨c0z2, c1z2, c2z2, c3z2, c4z2, c5z2⟩ := cells6 B_z2
    obtain ⟨f0z2, f1z2, f2z2, f3z2, f4z2, f5z2⟩ := froz6 B_z2
    obtain ⟨c0z3, c1z3, c2z3, c3z3, c4z3, c5z3⟩ := cells6 B_z3
    obtain ⟨c0z4, c1z4, c2z4, c3z4, c4z4, c5z4⟩ := cells6 B_z4
    have kne01Pz3 := ne01Pz3.out
    have knoz0Pz3 := noz0Pz3.out
    have knoz0Pz4 := noz0Pz4.out
    have knoz1Pz3 := noz1Pz3.out
    have knoz1Pz4 := noz1Pz4.out
    have knoz2Pz3 := noz2Pz3.out
    have knoz2Pz4 := noz2Pz4.out
    go_region
    clear kne01Pz3 knoz0Pz3 knoz0Pz4 knoz1Pz3 knoz1Pz4 knoz2Pz3 knoz2Pz4
    clear c0z1 c1z1 c2z1 c3z1 c4z1 c5z1 f0z1 f1z1 f2z1 f3z1 f4z1 f5z1 c0z2 c1z2 c2z2 c3z2 c4z2 c5z2 f0z2 f1z2 f2z2 f3z2 f4z2 f5z2 c0z3 c1z3 c2z3 c3z3 c4z3 c5z3 c0z4 c1z4 c2z4 c3z4 c4z4 c5z4
    have t_z1q := stor6 B_z1 (.int .i64 x0) (.int .i64 y0) (.int .i64 x1) (.int .i64 y1) (.int .i64 f) (.int .i64 (c / 2))
    have m_z2q := far6 B_z2 ne_ba.out 0 (.int .i64 x0) 1 (.int .i64 y0) 2 (.int .i64 x1) 3 (.int .i64 y1) 4 (.int .i64 f) 5 (.int .i64 (c / 2))
    have p_z2q := stor6 m_z2q (.int .i64 x0) (.int .i64 y0) (.int .i64 x1) (.int .i64 y1) (.int .i64 ((f + (c / 2)) % 256)) (.int .i64 (c - (c / 2)))
    have p_z1q := far6 t_z1q ne_ab.out 0 (.int .i64 x0) 1 (.int .i64 y0) 2 (.int .i64 x1) 3 (.int .i64 y1) 4 (.int .i64 ((f + (c / 2)) % 256)) 5 (.int .i64 (c - (c / 2)))
    have HF := stb6 (stb6 HB (y := w.heap.size + 1) (by omega) 0 (.int .i64 x0) 1 (.int .i64 y0) 2 (.int .i64 x1) 3 (.int .i64 y1) 4 (.int .i64 f) 5 (.int .i64 (c / 2))) (y := w.heap.size + 1 + 1) (by omega) 0 (.int .i64 x0) 1 (.int .i64 y0) 2 (.int .i64 x1) 3 (.int .i64 y1) 4 (.int .i64 ((f + (c / 2)) % 256)) 5 (.int .i64 (c - (c / 2)))
    have dr := sm_drew (((((((((((((WS14.setCell ⟨w.heap.size + 1, 0, none⟩ (.int .i64 x0)).setCell ⟨w.heap.size + 1, 1, none⟩ (.int .i64 y0)).setCell ⟨w.heap.size + 1, 2, none⟩ (.int .i64 x1)).setCell ⟨w.heap.size + 1, 3, none⟩ (.int .i64 y1)).setCell ⟨w.heap.size + 1, 4, none⟩ (.int .i64 f)).setCell ⟨w.heap.size + 1, 5, none⟩ (.int .i64 (c / 2))).setCell ⟨w.heap.size + 1 + 1, 0, none⟩ (.int .i64 x0)).setCell ⟨w.heap.size + 1 + 1, 1, none⟩ (.int .i64 y0)).setCell ⟨w.heap.size + 1 + 1, 2, none⟩ (.int .i64 x1)).setCell ⟨w.heap.size + 1 + 1, 3, none⟩ (.int .i64 y1)).setCell ⟨w.heap.size + 1 + 1, 4, none⟩ (.int .i64 ((f + (c / 2)) % 256))).setCell ⟨w.heap.size + 1 + 1, 5, none⟩ (.int .i64 (c - (c / 2)))))
    replace p_z1q := mv p_z1q dr
    replace p_z2q := mv p_z2q dr
    replace HF := nx HF dr
    clear dr
    clear m_z2q t_z1q
    generalize (((((((((((((WS14.setCell ⟨w.heap.size + 1, 0, none⟩ (.int .i64 x0)).setCell ⟨w.heap.size + 1, 1, none⟩ (.int .i64 y0)).setCell ⟨w.heap.size + 1, 2, none⟩ (.int .i64 x1)).setCell ⟨w.heap.size + 1, 3, none⟩ (.int .i64 y1)).setCell ⟨w.heap.size + 1, 4, none⟩ (.int .i64 f)).setCell ⟨w.heap.size + 1, 5, none⟩ (.int .i64 (c / 2))).setCell ⟨w.heap.size + 1 + 1, 0, none⟩ (.int .i64 x0)).setCell ⟨w.heap.size + 1 + 1, 1, none⟩ (.int .i64 y0)).setCell ⟨w.heap.size + 1 + 1, 2, none⟩ (.int .i64 x1)).setCell ⟨w.heap.size + 1 + 1, 3, none⟩ (.int .i64 y1)).setCell ⟨w.heap.size + 1 + 1, 4, none⟩ (.int .i64 ((f + (c / 2)) % 256))).setCell ⟨w.heap.size + 1 + 1, 5, none⟩ (.int .i64 (c - (c / 2))))).drew = WR at *
    obtain ⟨s0, s1, s2, s3, s4, s5⟩ := cells6 p_z1q
    obtain ⟨r0, r1, r2, r3, r4, r5⟩ := cells6 p_z2q
    go_wp2_with fail
    exact bodyPost_ret (v := .tuple #[.agg #[.int .i64 x0, .int .i64 y0, .int .i64 x1, .int .i64 y1, .int .i64 f, .int .i64 (c / 2)], .agg #[.int .i64 x0, .int .i64 y0, .int .i64 x1, .int .i64 y1, .int .i64 ((f + (c / 2)) % 256), .int .i64 (c - (c / 2))], .bool true]) (by simp [results, Try.results27, go_sem, s0, s1, s2, s3, s4, s5, r0, r1, r2, r3, r4, r5]) rfl ⟨rfl, nextw HF.out (by exact sm)⟩

set_option maxRecDepth 100000 in
set_option maxHeartbeats 4000000 in
theorem RSplit_w4 (x0 y0 x1 y1 f c : Int)   (dd0 : OkB x0 y0 x1 y1 f c) (dd1 : ((x1 - x0) + 1) ≤ 1) (dd2 : ((y1 - y0) + 1) ≤ 1) (dd3 : c ≤ 1) (w : World) :
    Calls Try.prog 27 #[.agg #[.int .i64 x0, .int .i64 y0, .int .i64 x1, .int .i64 y1, .int .i64 f, .int .i64 c]] w fun e w' => e = .returned (.tuple #[.agg #[.int .i64 0, .int .i64 0, .int .i64 0, .int .i64 0, .int .i64 0, .int .i64 0], .agg #[.int .i64 0, .int .i64 0, .int .i64 0, .int .i64 0, .int .i64 0, .int .i64 0], .bool false]) ∧ Below w.heap.size w w' := by
  have H0 := Lib.hid (fun w => BBox_yes dd0 w)
  have dd0b := dd0.b
  obtain ⟨HB, B_z0, B_z1, B_z2⟩ := box3 w 23 #[.int .i64 x0, .int .i64 y0, .int .i64 x1, .int .i64 y1, .int .i64 f, .int .i64 c] 23 #[.int .i64 0, .int .i64 0, .int .i64 0, .int .i64 0, .int .i64 0, .int .i64 0] 23 #[.int .i64 0, .int .i64 0, .int .i64 0, .int .i64 0, .int .i64 0, .int .i64 0]
  go_enter Try.func27, Try.ntmps27
  go_upto_region 1 with (fail)
  generalize ((w.alloc (.cells #[.int .i64 x0, .int .i64 y0, .int .i64 x1, .int .i64 y1, .int .i64 f, .int .i64 c] 23)).alloc (.cells #[.int .i64 0, .int .i64 0, .int .i64 0, .int .i64 0, .int .i64 0, .int .i64 0] 23)).alloc (.cells #[.int .i64 0, .int .i64 0, .int .i64 0, .int .i64 0, .int .i64 0, .int .i64 0] 23) = W0 at *
  obtain ⟨c0z0, c1z0, c2z0, c3z0, c4z0, c5z0⟩ := cells6 B_z0
  go_wp2_with fail
  refine (H0.out _).mono ?_
  clear c0z0 c1z0 c2z0 c3z0 c4z0 c5z0
  rintro e w1 ⟨rfl, bb⟩
  replace bb := nextw (w0 := W0) (by exact sm) bb
  replace B_z0 := mv B_z0 bb
  replace B_z1 := mv B_z1 bb
  replace B_z2 := mv B_z2 bb
  replace HB := nx HB bb
  clear bb
  go_upto_region 3 with (fail)
  have wq3x0 : IntKind.i64.wrap (x1 - x0) = x1 - x0 := by rw [IntKind.wrap_i64]; omega
  have wq3x1 : IntKind.i64.wrap ((x1 - x0) + 1) = (x1 - x0) + 1 := by rw [IntKind.wrap_i64]; omega
  have wq3x2 : IntKind.i64.wrap (y1 - y0) = y1 - y0 := by rw [IntKind.wrap_i64]; omega
  have wq3x3 : IntKind.i64.wrap ((y1 - y0) + 1) = (y1 - y0) + 1 := by rw [IntKind.wrap_i64]; omega
  obtain ⟨c0z0, c1z0, c2z0, c3z0, c4z0, c5z0⟩ := cells6 B_z0
  go_quiet (fail)
  clear c0z0 c1z0 c2z0 c3z0 c4z0 c5z0
  have bb : Below w1.heap.size w1 (w1.drewN nq) := bel_drewN (Below.refl _ _) _
  generalize w1.drewN nq = w2q at *
  replace B_z0 := mv B_z0 bb
  replace B_z1 := mv B_z1 bb
  replace B_z2 := mv B_z2 bb
  replace HB := nx HB bb
  clear bb
  have ne_ab : Hid ((w.heap.size + 1) ≠ (w.heap.size + 1 + 1)) := by unfold Hid; omega
  have ne_ba : Hid ((w.heap.size + 1 + 1) ≠ (w.heap.size + 1)) := by unfold Hid; omega
  obtain ⟨c0z1, c1z1, c2z1, c3z1, c4z1, c5z1⟩ := cells6 B_z1
  obtain ⟨f0z1, f1z1, f2z1, f3z1, f4z1, f5z1⟩ := froz6 B_z1
  obtain ⟨c0z2, c1z2, c2z2, c3z2, c4z2, c5z2⟩ := cells6 B_z2
  obtain ⟨f0z2, f1z2, f2z2, f3z2, f4z2, f5z2⟩ := froz6 B_z2
  go_wp2_with fail
  have t_z1q := stor6 B_z1 (.int .i64 0) (.int .i64 0) (.int .i64 0) (.int .i64 0) (.int .i64 0) (.int .i64 0); have m_z2q := far6 B_z2 ne_ba.out 0 (.int .i64 0) 1 (.int .i64 0) 2 (.int .i64 0) 3 (.int .i64 0) 4 (.int .i64 0) 5 (.int .i64 0); have p_z2q := stor6 m_z2q (.int .i64 0) (.int .i64 0) (.int .i64 0) (.int .i64 0) (.int .i64 0) (.int .i64 0); have p_z1q := far6 t_z1q ne_ab.out 0 (.int .i64 0) 1 (.int .i64 0) 2 (.int .i64 0) 3 (.int .i64 0) 4 (.int .i64 0) 5 (.int .i64 0); obtain ⟨s0, s1, s2, s3, s4, s5⟩ := cells6 p_z1q; obtain ⟨r0, r1, r2, r3, r4, r5⟩ := cells6 p_z2q; have HF := stb6 (stb6 HB (y := w.heap.size + 1) (by omega) 0 (.int .i64 0) 1 (.int .i64 0) 2 (.int .i64 0) 3 (.int .i64 0) 4 (.int .i64 0) 5 (.int .i64 0)) (y := w.heap.size + 1 + 1) (by omega) 0 (.int .i64 0) 1 (.int .i64 0) 2 (.int .i64 0) 3 (.int .i64 0) 4 (.int .i64 0) 5 (.int .i64 0)
  exact bodyPost_ret (v := .tuple #[.agg #[.int .i64 0, .int .i64 0, .int .i64 0, .int .i64 0, .int .i64 0, .int .i64 0], .agg #[.int .i64 0, .int .i64 0, .int .i64 0, .int .i64 0, .int .i64 0, .int .i64 0], .bool false]) (by simp [results, Try.results27, go_sem, s0, s1, s2, s3, s4, s5, r0, r1, r2, r3, r4, r5]) rfl ⟨rfl, nextw HF.out (by exact sm)⟩

set_option maxRecDepth 100000 in
set_option maxHeartbeats 4000000 in
theorem RSplit_w5 (x0 y0 x1 y1 f c : Int)   (dd0 : OkB x0 y0 x1 y1 f c) (dd1 : ((x1 - x0) + 1) ≤ 1) (dd2 : 1 < ((y1 - y0) + 1)) (dd3 : c ≤ 1) (dd4 : ¬ (((y1 - y0) + 1) = 0)) (dd5 : 0 < ((y1 - y0) + 1)) (dd6 : 0 ≤ ((y1 - y0) + 1)) (w : World) :
    Calls Try.prog 27 #[.agg #[.int .i64 x0, .int .i64 y0, .int .i64 x1, .int .i64 y1, .int .i64 f, .int .i64 c]] w fun e w' => e = .returned (.tuple #[.agg #[.int .i64 x0, .int .i64 y0, .int .i64 x1, .int .i64 ((y0 + (((y1 - y0) + 1) / 2)) - 1), .int .i64 f, .int .i64 c], .agg #[.int .i64 x0, .int .i64 (y0 + (((y1 - y0) + 1) / 2)), .int .i64 x1, .int .i64 y1, .int .i64 f, .int .i64 c], .bool true]) ∧ Below w.heap.size w w' := by
  have H0 := Lib.hid (fun w => BBox_yes dd0 w)
  have dd0b := dd0.b
  obtain ⟨HB, B_z0, B_z1, B_z2⟩ := box3 w 23 #[.int .i64 x0, .int .i64 y0, .int .i64 x1, .int .i64 y1, .int .i64 f, .int .i64 c] 23 #[.int .i64 0, .int .i64 0, .int .i64 0, .int .i64 0, .int .i64 0, .int .i64 0] 23 #[.int .i64 0, .int .i64 0, .int .i64 0, .int .i64 0, .int .i64 0, .int .i64 0]
  go_enter Try.func27, Try.ntmps27
  go_upto_region 1 with (fail)
  generalize ((w.alloc (.cells #[.int .i64 x0, .int .i64 y0, .int .i64 x1, .int .i64 y1, .int .i64 f, .int .i64 c] 23)).alloc (.cells #[.int .i64 0, .int .i64 0, .int .i64 0, .int .i64 0, .int .i64 0, .int .i64 0] 23)).alloc (.cells #[.int .i64 0, .int .i64 0, .int .i64 0, .int .i64 0, .int .i64 0, .int .i64 0] 23) = W0 at *
  obtain ⟨c0z0, c1z0, c2z0, c3z0, c4z0, c5z0⟩ := cells6 B_z0
  go_wp2_with fail
  refine (H0.out _).mono ?_
  clear c0z0 c1z0 c2z0 c3z0 c4z0 c5z0
  rintro e w1 ⟨rfl, bb⟩
  replace bb := nextw (w0 := W0) (by exact sm) bb
  replace B_z0 := mv B_z0 bb
  replace B_z1 := mv B_z1 bb
  replace B_z2 := mv B_z2 bb
  replace HB := nx HB bb
  clear bb
  go_upto_region 3 with (fail)
  have wq3x0 : IntKind.i64.wrap (x1 - x0) = x1 - x0 := by rw [IntKind.wrap_i64]; omega
  have wq3x1 : IntKind.i64.wrap ((x1 - x0) + 1) = (x1 - x0) + 1 := by rw [IntKind.wrap_i64]; omega
  have wq3x2 : IntKind.i64.wrap (y1 - y0) = y1 - y0 := by rw [IntKind.wrap_i64]; omega
  have wq3x3 : IntKind.i64.wrap ((y1 - y0) + 1) = (y1 - y0) + 1 := by rw [IntKind.wrap_i64]; omega
  obtain ⟨c0z0, c1z0, c2z0, c3z0, c4z0, c5z0⟩ := cells6 B_z0
  go_quiet (fail)
  clear c0z0 c1z0 c2z0 c3z0 c4z0 c5z0
  have bb : Below w1.heap.size w1 (w1.drewN nq) := bel_drewN (Below.refl _ _) _
  generalize w1.drewN nq = w2q at *
  replace B_z0 := mv B_z0 bb
  replace B_z1 := mv B_z1 bb
  replace B_z2 := mv B_z2 bb
  replace HB := nx HB bb
  clear bb
  go_upto_region 13 with (fail)
  go_cut [11, 12] (fun sv0 sv1 wx => ∃ Pz3 Pz4 : Nat, sv0 = (.pointer (some ⟨Pz3, 0, none⟩)) ∧ sv1 = (.pointer (some ⟨Pz4, 0, none⟩)) ∧ Hid (Pz3 ≠ Pz4) ∧ Hid (w.heap.size ≠ Pz3) ∧ Hid (w.heap.size ≠ Pz4) ∧ Hid (w.heap.size + 1 ≠ Pz3) ∧ Hid (w.heap.size + 1 ≠ Pz4) ∧ Hid (w.heap.size + 1 + 1 ≠ Pz3) ∧ Hid (w.heap.size + 1 + 1 ≠ Pz4) ∧ Hid (w.heap.size ≤ Pz3) ∧ Hid (w.heap.size ≤ Pz4) ∧ Hid (Bx wx (Pz3) 23 #[.int .i64 x0, .int .i64 y0, .int .i64 x1, .int .i64 y1, .int .i64 f, .int .i64 c]) ∧ Hid (Bx wx (Pz4) 23 #[.int .i64 x0, .int .i64 y0, .int .i64 x1, .int .i64 y1, .int .i64 f, .int .i64 c]) ∧ Hid (Bx wx (w.heap.size) 23 #[.int .i64 x0, .int .i64 y0, .int .i64 x1, .int .i64 y1, .int .i64 f, .int .i64 c]) ∧ Hid (Bx wx (w.heap.size + 1) 23 #[.int .i64 0, .int .i64 0, .int .i64 0, .int .i64 0, .int .i64 0, .int .i64 0]) ∧ Hid (Bx wx (w.heap.size + 1 + 1) 23 #[.int .i64 0, .int .i64 0, .int .i64 0, .int .i64 0, .int .i64 0, .int .i64 0]) ∧ Hid (Below w.heap.size w wx))
  case first =>
    obtain ⟨c0z0, c1z0, c2z0, c3z0, c4z0, c5z0⟩ := cells6 B_z0
    have lt_z0 := B_z0.out.lt
    go_region_held3 (fun w' => w'.cell? ⟨w.heap.size, 0, none⟩ = some (.int .i64 x0) ∧ w'.cell? ⟨w.heap.size, 1, none⟩ = some (.int .i64 y0) ∧ w'.cell? ⟨w.heap.size, 2, none⟩ = some (.int .i64 x1) ∧ w'.cell? ⟨w.heap.size, 3, none⟩ = some (.int .i64 y1) ∧ w'.cell? ⟨w.heap.size, 4, none⟩ = some (.int .i64 f) ∧ w'.cell? ⟨w.heap.size, 5, none⟩ = some (.int .i64 c)) (((try dsimp only); (repeat' apply And.intro) <;> (first | (with_reducible assumption) | ((repeat (first | (with_reducible refine Eq.trans (cell_drew1 _ _) ?_) | (with_reducible refine Eq.trans (cell_far (by omega) _ _ _) ?_) | (with_reducible refine Eq.trans (World.cell?_alloc_lt _ _ _ (by first | (dsimp only; omega) | (simp only [World.size_alloc, World.size_setCell]; omega))) ?_))); with_reducible assumption) | assumption | go_keep)))
        (first | fail)
    all_goals clear c0z0 c1z0 c2z0 c3z0 c4z0 c5z0 lt_z0
    all_goals go_wp2_with fail
    all_goals go_meet
    all_goals first
        | (refine ⟨w2q.heap.size, w2q.heap.size + 1, rfl, rfl, ?_⟩; have lx_z0 := B_z0.out.lt; have lx_z1 := B_z1.out.lt; have lx_z2 := B_z2.out.lt; obtain ⟨bb, b0, b1⟩ := box2 w2q 23 #[.int .i64 x0, .int .i64 y0, .int .i64 x1, .int .i64 y1, .int .i64 f, .int .i64 c] 23 #[.int .i64 x0, .int .i64 y0, .int .i64 x1, .int .i64 y1, .int .i64 f, .int .i64 c]; replace bb := bb.out; have hs := HB.out.size; exact ⟨(by unfold Hid; omega), (by unfold Hid; omega), (by unfold Hid; omega), (by unfold Hid; omega), (by unfold Hid; omega), (by unfold Hid; omega), (by unfold Hid; omega), (by unfold Hid; omega), (by unfold Hid; omega), mv b0 sm, mv b1 sm, mv (mv B_z0 bb) sm, mv (mv B_z1 bb) sm, mv (mv B_z2 bb) sm, nx (nx HB bb) sm⟩)
        | (refine ⟨w2q.heap.size + 1, w2q.heap.size, rfl, rfl, ?_⟩; have lx_z0 := B_z0.out.lt; have lx_z1 := B_z1.out.lt; have lx_z2 := B_z2.out.lt; obtain ⟨bb, b0, b1⟩ := box2 w2q 23 #[.int .i64 x0, .int .i64 y0, .int .i64 x1, .int .i64 y1, .int .i64 f, .int .i64 c] 23 #[.int .i64 x0, .int .i64 y0, .int .i64 x1, .int .i64 y1, .int .i64 f, .int .i64 c]; replace bb := bb.out; have hs := HB.out.size; exact ⟨(by unfold Hid; omega), (by unfold Hid; omega), (by unfold Hid; omega), (by unfold Hid; omega), (by unfold Hid; omega), (by unfold Hid; omega), (by unfold Hid; omega), (by unfold Hid; omega), (by unfold Hid; omega), mv b1 sm, mv b0 sm, mv (mv B_z0 bb) sm, mv (mv B_z1 bb) sm, mv (mv B_z2 bb) sm, nx (nx HB bb) sm⟩)
  case rest =>
    clear B_z0
    clear B_z1
    clear B_z2
    clear HB
    rename World => wc3
    obtain ⟨Pz3, Pz4, rfl, rfl, ne01Pz3, noz0Pz3, noz0Pz4, noz1Pz3, noz1Pz4, noz2Pz3, noz2Pz4, lePz3, lePz4, B_z3, B_z4, B_z0, B_z1, B_z2, HB⟩ := hcut
    have lePz3' := lePz3.out
    have lePz4' := lePz4.out
    obtain ⟨c0z0, c1z0, c2z0, c3z0, c4z0, c5z0⟩ := cells6 B_z0
    obtain ⟨c0z3, c1z3, c2z3, c3z3, c4z3, c5z3⟩ := cells6 B_z3
    obtain ⟨f0z3, f1z3, f2z3, f3z3, f4z3, f5z3⟩ := froz6 B_z3
    have ne_z0 : Hid ((w.heap.size) ≠ (Pz3)) := by unfold Hid; have kne01Pz3 := ne01Pz3.out; have knoz0Pz3 := noz0Pz3.out; have knoz0Pz4 := noz0Pz4.out; have knoz1Pz3 := noz1Pz3.out; have knoz1Pz4 := noz1Pz4.out; have knoz2Pz3 := noz2Pz3.out; have knoz2Pz4 := noz2Pz4.out; omega
    have ne_z1 : Hid ((w.heap.size + 1) ≠ (Pz3)) := by unfold Hid; have kne01Pz3 := ne01Pz3.out; have knoz0Pz3 := noz0Pz3.out; have knoz0Pz4 := noz0Pz4.out; have knoz1Pz3 := noz1Pz3.out; have knoz1Pz4 := noz1Pz4.out; have knoz2Pz3 := noz2Pz3.out; have knoz2Pz4 := noz2Pz4.out; omega
    have ne_z2 : Hid ((w.heap.size + 1 + 1) ≠ (Pz3)) := by unfold Hid; have kne01Pz3 := ne01Pz3.out; have knoz0Pz3 := noz0Pz3.out; have knoz0Pz4 := noz0Pz4.out; have knoz1Pz3 := noz1Pz3.out; have knoz1Pz4 := noz1Pz4.out; have knoz2Pz3 := noz2Pz3.out; have knoz2Pz4 := noz2Pz4.out; omega
    have ne_z4 : Hid ((Pz4) ≠ (Pz3)) := by unfold Hid; have kne01Pz3 := ne01Pz3.out; have knoz0Pz3 := noz0Pz3.out; have knoz0Pz4 := noz0Pz4.out; have knoz1Pz3 := noz1Pz3.out; have knoz1Pz4 := noz1Pz4.out; have knoz2Pz3 := noz2Pz3.out; have knoz2Pz4 := noz2Pz4.out; omega
    have n_z3 : Hid (Bx (wc3.setCell ⟨Pz3, 3, none⟩ (.int .i64 ((y0 + (((y1 - y0) + 1) / 2)) - 1))) (Pz3) 23 #[.int .i64 x0, .int .i64 y0, .int .i64 x1, .int .i64 ((y0 + (((y1 - y0) + 1) / 2)) - 1), .int .i64 f, .int .i64 c]) := (B_z3.out.set 3 (.int .i64 ((y0 + (((y1 - y0) + 1) / 2)) - 1)))
    have n_z0 := far1 B_z0 ne_z0.out 3 (.int .i64 ((y0 + (((y1 - y0) + 1) / 2)) - 1))
    have n_z1 := far1 B_z1 ne_z1.out 3 (.int .i64 ((y0 + (((y1 - y0) + 1) / 2)) - 1))
    have n_z2 := far1 B_z2 ne_z2.out 3 (.int .i64 ((y0 + (((y1 - y0) + 1) / 2)) - 1))
    have n_z4 := far1 B_z4 ne_z4.out 3 (.int .i64 ((y0 + (((y1 - y0) + 1) / 2)) - 1))
    have nHB := stb1 HB (y := Pz3) (by omega) 3 (.int .i64 ((y0 + (((y1 - y0) + 1) / 2)) - 1))
    go_upto_region 22 with (fail)
    clear c0z0 c1z0 c2z0 c3z0 c4z0 c5z0 c0z3 c1z3 c2z3 c3z3 c4z3 c5z3 f0z3 f1z3 f2z3 f3z3 f4z3 f5z3
    clear ne_z0 ne_z1 ne_z2 ne_z4
    generalize wc3.setCell ⟨Pz3, 3, none⟩ (.int .i64 ((y0 + (((y1 - y0) + 1) / 2)) - 1)) = WS12 at *
    clear B_z0
    have B_z0 := n_z0
    clear n_z0
    clear B_z1
    have B_z1 := n_z1
    clear n_z1
    clear B_z2
    have B_z2 := n_z2
    clear n_z2
    clear B_z3
    have B_z3 := n_z3
    clear n_z3
    clear B_z4
    have B_z4 := n_z4
    clear n_z4
    clear HB
    have HB := nHB
    clear nHB
    obtain ⟨c0z3, c1z3, c2z3, c3z3, c4z3, c5z3⟩ := cells6 B_z3
    obtain ⟨c0z4, c1z4, c2z4, c3z4, c4z4, c5z4⟩ := cells6 B_z4
    obtain ⟨f0z4, f1z4, f2z4, f3z4, f4z4, f5z4⟩ := froz6 B_z4
    have ne_z0 : Hid ((w.heap.size) ≠ (Pz4)) := by unfold Hid; have kne01Pz3 := ne01Pz3.out; have knoz0Pz3 := noz0Pz3.out; have knoz0Pz4 := noz0Pz4.out; have knoz1Pz3 := noz1Pz3.out; have knoz1Pz4 := noz1Pz4.out; have knoz2Pz3 := noz2Pz3.out; have knoz2Pz4 := noz2Pz4.out; omega
    have ne_z1 : Hid ((w.heap.size + 1) ≠ (Pz4)) := by unfold Hid; have kne01Pz3 := ne01Pz3.out; have knoz0Pz3 := noz0Pz3.out; have knoz0Pz4 := noz0Pz4.out; have knoz1Pz3 := noz1Pz3.out; have knoz1Pz4 := noz1Pz4.out; have knoz2Pz3 := noz2Pz3.out; have knoz2Pz4 := noz2Pz4.out; omega
    have ne_z2 : Hid ((w.heap.size + 1 + 1) ≠ (Pz4)) := by unfold Hid; have kne01Pz3 := ne01Pz3.out; have knoz0Pz3 := noz0Pz3.out; have knoz0Pz4 := noz0Pz4.out; have knoz1Pz3 := noz1Pz3.out; have knoz1Pz4 := noz1Pz4.out; have knoz2Pz3 := noz2Pz3.out; have knoz2Pz4 := noz2Pz4.out; omega
    have ne_z3 : Hid ((Pz3) ≠ (Pz4)) := by unfold Hid; have kne01Pz3 := ne01Pz3.out; have knoz0Pz3 := noz0Pz3.out; have knoz0Pz4 := noz0Pz4.out; have knoz1Pz3 := noz1Pz3.out; have knoz1Pz4 := noz1Pz4.out; have knoz2Pz3 := noz2Pz3.out; have knoz2Pz4 := noz2Pz4.out; omega
    have n_z4 : Hid (Bx (WS12.setCell ⟨Pz4, 1, none⟩ (.int .i64 (y0 + (((y1 - y0) + 1) / 2)))) (Pz4) 23 #[.int .i64 x0, .int .i64 (y0 + (((y1 - y0) + 1) / 2)), .int .i64 x1, .int .i64 y1, .int .i64 f, .int .i64 c]) := (B_z4.out.set 1 (.int .i64 (y0 + (((y1 - y0) + 1) / 2))))
    have n_z0 := far1 B_z0 ne_z0.out 1 (.int .i64 (y0 + (((y1 - y0) + 1) / 2)))
    have n_z1 := far1 B_z1 ne_z1.out 1 (.int .i64 (y0 + (((y1 - y0) + 1) / 2)))
    have n_z2 := far1 B_z2 ne_z2.out 1 (.int .i64 (y0 + (((y1 - y0) + 1) / 2)))
    have n_z3 := far1 B_z3 ne_z3.out 1 (.int .i64 (y0 + (((y1 - y0) + 1) / 2)))
    have nHB := stb1 HB (y := Pz4) (by omega) 1 (.int .i64 (y0 + (((y1 - y0) + 1) / 2)))
    go_upto_region 23 with (fail)
    clear c0z3 c1z3 c2z3 c3z3 c4z3 c5z3 c0z4 c1z4 c2z4 c3z4 c4z4 c5z4 f0z4 f1z4 f2z4 f3z4 f4z4 f5z4
    clear ne_z0 ne_z1 ne_z2 ne_z3
    generalize WS12.setCell ⟨Pz4, 1, none⟩ (.int .i64 (y0 + (((y1 - y0) + 1) / 2))) = WS13 at *
    clear B_z0
    have B_z0 := n_z0
    clear n_z0
    clear B_z1
    have B_z1 := n_z1
    clear n_z1
    clear B_z2
    have B_z2 := n_z2
    clear n_z2
    clear B_z3
    have B_z3 := n_z3
    clear n_z3
    clear B_z4
    have B_z4 := n_z4
    clear n_z4
    clear HB
    have HB := nHB
    clear nHB
    have ne_ab : Hid ((w.heap.size + 1) ≠ (w.heap.size + 1 + 1)) := by unfold Hid; have kne01Pz3 := ne01Pz3.out; have knoz0Pz3 := noz0Pz3.out; have knoz0Pz4 := noz0Pz4.out; have knoz1Pz3 := noz1Pz3.out; have knoz1Pz4 := noz1Pz4.out; have knoz2Pz3 := noz2Pz3.out; have knoz2Pz4 := noz2Pz4.out; omega
    have ne_ba : Hid ((w.heap.size + 1 + 1) ≠ (w.heap.size + 1)) := by unfold Hid; have kne01Pz3 := ne01Pz3.out; have knoz0Pz3 := noz0Pz3.out; have knoz0Pz4 := noz0Pz4.out; have knoz1Pz3 := noz1Pz3.out; have knoz1Pz4 := noz1Pz4.out; have knoz2Pz3 := noz2Pz3.out; have knoz2Pz4 := noz2Pz4.out; omega
    obtain ⟨c0z1, c1z1, c2z1, c3z1, c4z1, c5z1⟩ := cells6 B_z1
    obtain ⟨f0z1, f1z1, f2z1, f3z1, f4z1, f5z1⟩ := froz6 B_z1
    obtain ⟨c0z2, c1z2, c2z2, c3z2, c4z2, c5z2⟩ := cells6 B_z2
    obtain ⟨f0z2, f1z2, f2z2, f3z2, f4z2, f5z2⟩ := froz6 B_z2
    obtain ⟨c0z3, c1z3, c2z3, c3z3, c4z3, c5z3⟩ := cells6 B_z3
    obtain ⟨c0z4, c1z4, c2z4, c3z4, c4z4, c5z4⟩ := cells6 B_z4
    have kne01Pz3 := ne01Pz3.out
    have knoz0Pz3 := noz0Pz3.out
    have knoz0Pz4 := noz0Pz4.out
    have knoz1Pz3 := noz1Pz3.out
    have knoz1Pz4 := noz1Pz4.out
    have knoz2Pz3 := noz2Pz3.out
    have knoz2Pz4 := noz2Pz4.out
    go_region
    clear kne01Pz3 knoz0Pz3 knoz0Pz4 knoz1Pz3 knoz1Pz4 knoz2Pz3 knoz2Pz4
    clear c0z1 c1z1 c2z1 c3z1 c4z1 c5z1 f0z1 f1z1 f2z1 f3z1 f4z1 f5z1 c0z2 c1z2 c2z2 c3z2 c4z2 c5z2 f0z2 f1z2 f2z2 f3z2 f4z2 f5z2 c0z3 c1z3 c2z3 c3z3 c4z3 c5z3 c0z4 c1z4 c2z4 c3z4 c4z4 c5z4
    have t_z1q := stor6 B_z1 (.int .i64 x0) (.int .i64 y0) (.int .i64 x1) (.int .i64 ((y0 + (((y1 - y0) + 1) / 2)) - 1)) (.int .i64 f) (.int .i64 c)
    have m_z2q := far6 B_z2 ne_ba.out 0 (.int .i64 x0) 1 (.int .i64 y0) 2 (.int .i64 x1) 3 (.int .i64 ((y0 + (((y1 - y0) + 1) / 2)) - 1)) 4 (.int .i64 f) 5 (.int .i64 c)
    have p_z2q := stor6 m_z2q (.int .i64 x0) (.int .i64 (y0 + (((y1 - y0) + 1) / 2))) (.int .i64 x1) (.int .i64 y1) (.int .i64 f) (.int .i64 c)
    have p_z1q := far6 t_z1q ne_ab.out 0 (.int .i64 x0) 1 (.int .i64 (y0 + (((y1 - y0) + 1) / 2))) 2 (.int .i64 x1) 3 (.int .i64 y1) 4 (.int .i64 f) 5 (.int .i64 c)
    have HF := stb6 (stb6 HB (y := w.heap.size + 1) (by omega) 0 (.int .i64 x0) 1 (.int .i64 y0) 2 (.int .i64 x1) 3 (.int .i64 ((y0 + (((y1 - y0) + 1) / 2)) - 1)) 4 (.int .i64 f) 5 (.int .i64 c)) (y := w.heap.size + 1 + 1) (by omega) 0 (.int .i64 x0) 1 (.int .i64 (y0 + (((y1 - y0) + 1) / 2))) 2 (.int .i64 x1) 3 (.int .i64 y1) 4 (.int .i64 f) 5 (.int .i64 c)
    have dr := sm_drew (((((((((((((WS13.setCell ⟨w.heap.size + 1, 0, none⟩ (.int .i64 x0)).setCell ⟨w.heap.size + 1, 1, none⟩ (.int .i64 y0)).setCell ⟨w.heap.size + 1, 2, none⟩ (.int .i64 x1)).setCell ⟨w.heap.size + 1, 3, none⟩ (.int .i64 ((y0 + (((y1 - y0) + 1) / 2)) - 1))).setCell ⟨w.heap.size + 1, 4, none⟩ (.int .i64 f)).setCell ⟨w.heap.size + 1, 5, none⟩ (.int .i64 c)).setCell ⟨w.heap.size + 1 + 1, 0, none⟩ (.int .i64 x0)).setCell ⟨w.heap.size + 1 + 1, 1, none⟩ (.int .i64 (y0 + (((y1 - y0) + 1) / 2)))).setCell ⟨w.heap.size + 1 + 1, 2, none⟩ (.int .i64 x1)).setCell ⟨w.heap.size + 1 + 1, 3, none⟩ (.int .i64 y1)).setCell ⟨w.heap.size + 1 + 1, 4, none⟩ (.int .i64 f)).setCell ⟨w.heap.size + 1 + 1, 5, none⟩ (.int .i64 c)))
    replace p_z1q := mv p_z1q dr
    replace p_z2q := mv p_z2q dr
    replace HF := nx HF dr
    clear dr
    clear m_z2q t_z1q
    generalize (((((((((((((WS13.setCell ⟨w.heap.size + 1, 0, none⟩ (.int .i64 x0)).setCell ⟨w.heap.size + 1, 1, none⟩ (.int .i64 y0)).setCell ⟨w.heap.size + 1, 2, none⟩ (.int .i64 x1)).setCell ⟨w.heap.size + 1, 3, none⟩ (.int .i64 ((y0 + (((y1 - y0) + 1) / 2)) - 1))).setCell ⟨w.heap.size + 1, 4, none⟩ (.int .i64 f)).setCell ⟨w.heap.size + 1, 5, none⟩ (.int .i64 c)).setCell ⟨w.heap.size + 1 + 1, 0, none⟩ (.int .i64 x0)).setCell ⟨w.heap.size + 1 + 1, 1, none⟩ (.int .i64 (y0 + (((y1 - y0) + 1) / 2)))).setCell ⟨w.heap.size + 1 + 1, 2, none⟩ (.int .i64 x1)).setCell ⟨w.heap.size + 1 + 1, 3, none⟩ (.int .i64 y1)).setCell ⟨w.heap.size + 1 + 1, 4, none⟩ (.int .i64 f)).setCell ⟨w.heap.size + 1 + 1, 5, none⟩ (.int .i64 c))).drew = WR at *
    obtain ⟨s0, s1, s2, s3, s4, s5⟩ := cells6 p_z1q
    obtain ⟨r0, r1, r2, r3, r4, r5⟩ := cells6 p_z2q
    go_wp2_with fail
    exact bodyPost_ret (v := .tuple #[.agg #[.int .i64 x0, .int .i64 y0, .int .i64 x1, .int .i64 ((y0 + (((y1 - y0) + 1) / 2)) - 1), .int .i64 f, .int .i64 c], .agg #[.int .i64 x0, .int .i64 (y0 + (((y1 - y0) + 1) / 2)), .int .i64 x1, .int .i64 y1, .int .i64 f, .int .i64 c], .bool true]) (by simp [results, Try.results27, go_sem, s0, s1, s2, s3, s4, s5, r0, r1, r2, r3, r4, r5]) rfl ⟨rfl, nextw HF.out (by exact sm)⟩

set_option maxRecDepth 100000 in
set_option maxHeartbeats 4000000 in
theorem RSplit_w6 (x0 y0 x1 y1 f c : Int)   (dd0 : OkB x0 y0 x1 y1 f c) (dd1 : ((x1 - x0) + 1) ≤ 1) (dd2 : 1 < ((y1 - y0) + 1)) (dd3 : 1 < c) (dd4 : ¬ (((y1 - y0) + 1) = 0)) (dd5 : 0 < ((y1 - y0) + 1)) (dd6 : ((y1 - y0) + 1) < (8 * c)) (w : World) :
    Calls Try.prog 27 #[.agg #[.int .i64 x0, .int .i64 y0, .int .i64 x1, .int .i64 y1, .int .i64 f, .int .i64 c]] w fun e w' => e = .returned (.tuple #[.agg #[.int .i64 x0, .int .i64 y0, .int .i64 x1, .int .i64 y1, .int .i64 f, .int .i64 (c / 2)], .agg #[.int .i64 x0, .int .i64 y0, .int .i64 x1, .int .i64 y1, .int .i64 ((f + (c / 2)) % 256), .int .i64 (c - (c / 2))], .bool true]) ∧ Below w.heap.size w w' := by
  have H0 := Lib.hid (fun w => BBox_yes dd0 w)
  have H1 := Lib.hid (fun w => Mod_b (f + (c / 2)) w)
  have dd0b := dd0.b
  obtain ⟨HB, B_z0, B_z1, B_z2⟩ := box3 w 23 #[.int .i64 x0, .int .i64 y0, .int .i64 x1, .int .i64 y1, .int .i64 f, .int .i64 c] 23 #[.int .i64 0, .int .i64 0, .int .i64 0, .int .i64 0, .int .i64 0, .int .i64 0] 23 #[.int .i64 0, .int .i64 0, .int .i64 0, .int .i64 0, .int .i64 0, .int .i64 0]
  go_enter Try.func27, Try.ntmps27
  go_upto_region 1 with (fail)
  generalize ((w.alloc (.cells #[.int .i64 x0, .int .i64 y0, .int .i64 x1, .int .i64 y1, .int .i64 f, .int .i64 c] 23)).alloc (.cells #[.int .i64 0, .int .i64 0, .int .i64 0, .int .i64 0, .int .i64 0, .int .i64 0] 23)).alloc (.cells #[.int .i64 0, .int .i64 0, .int .i64 0, .int .i64 0, .int .i64 0, .int .i64 0] 23) = W0 at *
  obtain ⟨c0z0, c1z0, c2z0, c3z0, c4z0, c5z0⟩ := cells6 B_z0
  go_wp2_with fail
  refine (H0.out _).mono ?_
  clear c0z0 c1z0 c2z0 c3z0 c4z0 c5z0
  rintro e w1 ⟨rfl, bb⟩
  replace bb := nextw (w0 := W0) (by exact sm) bb
  replace B_z0 := mv B_z0 bb
  replace B_z1 := mv B_z1 bb
  replace B_z2 := mv B_z2 bb
  replace HB := nx HB bb
  clear bb
  go_upto_region 3 with (fail)
  have wq3x0 : IntKind.i64.wrap (x1 - x0) = x1 - x0 := by rw [IntKind.wrap_i64]; omega
  have wq3x1 : IntKind.i64.wrap ((x1 - x0) + 1) = (x1 - x0) + 1 := by rw [IntKind.wrap_i64]; omega
  have wq3x2 : IntKind.i64.wrap (y1 - y0) = y1 - y0 := by rw [IntKind.wrap_i64]; omega
  have wq3x3 : IntKind.i64.wrap ((y1 - y0) + 1) = (y1 - y0) + 1 := by rw [IntKind.wrap_i64]; omega
  obtain ⟨c0z0, c1z0, c2z0, c3z0, c4z0, c5z0⟩ := cells6 B_z0
  go_quiet (fail)
  clear c0z0 c1z0 c2z0 c3z0 c4z0 c5z0
  have bb : Below w1.heap.size w1 (w1.drewN nq) := bel_drewN (Below.refl _ _) _
  generalize w1.drewN nq = w2q at *
  replace B_z0 := mv B_z0 bb
  replace B_z1 := mv B_z1 bb
  replace B_z2 := mv B_z2 bb
  replace HB := nx HB bb
  clear bb
  go_upto_region 13 with (fail)
  go_cut [11, 12] (fun sv0 sv1 wx => ∃ Pz3 Pz4 : Nat, sv0 = (.pointer (some ⟨Pz3, 0, none⟩)) ∧ sv1 = (.pointer (some ⟨Pz4, 0, none⟩)) ∧ Hid (Pz3 ≠ Pz4) ∧ Hid (w.heap.size ≠ Pz3) ∧ Hid (w.heap.size ≠ Pz4) ∧ Hid (w.heap.size + 1 ≠ Pz3) ∧ Hid (w.heap.size + 1 ≠ Pz4) ∧ Hid (w.heap.size + 1 + 1 ≠ Pz3) ∧ Hid (w.heap.size + 1 + 1 ≠ Pz4) ∧ Hid (w.heap.size ≤ Pz3) ∧ Hid (w.heap.size ≤ Pz4) ∧ Hid (Bx wx (Pz3) 23 #[.int .i64 x0, .int .i64 y0, .int .i64 x1, .int .i64 y1, .int .i64 f, .int .i64 c]) ∧ Hid (Bx wx (Pz4) 23 #[.int .i64 x0, .int .i64 y0, .int .i64 x1, .int .i64 y1, .int .i64 f, .int .i64 c]) ∧ Hid (Bx wx (w.heap.size) 23 #[.int .i64 x0, .int .i64 y0, .int .i64 x1, .int .i64 y1, .int .i64 f, .int .i64 c]) ∧ Hid (Bx wx (w.heap.size + 1) 23 #[.int .i64 0, .int .i64 0, .int .i64 0, .int .i64 0, .int .i64 0, .int .i64 0]) ∧ Hid (Bx wx (w.heap.size + 1 + 1) 23 #[.int .i64 0, .int .i64 0, .int .i64 0, .int .i64 0, .int .i64 0, .int .i64 0]) ∧ Hid (Below w.heap.size w wx))
  case first =>
    obtain ⟨c0z0, c1z0, c2z0, c3z0, c4z0, c5z0⟩ := cells6 B_z0
    have lt_z0 := B_z0.out.lt
    go_region_held3 (fun w' => w'.cell? ⟨w.heap.size, 0, none⟩ = some (.int .i64 x0) ∧ w'.cell? ⟨w.heap.size, 1, none⟩ = some (.int .i64 y0) ∧ w'.cell? ⟨w.heap.size, 2, none⟩ = some (.int .i64 x1) ∧ w'.cell? ⟨w.heap.size, 3, none⟩ = some (.int .i64 y1) ∧ w'.cell? ⟨w.heap.size, 4, none⟩ = some (.int .i64 f) ∧ w'.cell? ⟨w.heap.size, 5, none⟩ = some (.int .i64 c)) (((try dsimp only); (repeat' apply And.intro) <;> (first | (with_reducible assumption) | ((repeat (first | (with_reducible refine Eq.trans (cell_drew1 _ _) ?_) | (with_reducible refine Eq.trans (cell_far (by omega) _ _ _) ?_) | (with_reducible refine Eq.trans (World.cell?_alloc_lt _ _ _ (by first | (dsimp only; omega) | (simp only [World.size_alloc, World.size_setCell]; omega))) ?_))); with_reducible assumption) | assumption | go_keep)))
        (first | fail)
    all_goals clear c0z0 c1z0 c2z0 c3z0 c4z0 c5z0 lt_z0
    all_goals go_wp2_with fail
    all_goals go_meet
    all_goals first
        | (refine ⟨w2q.heap.size, w2q.heap.size + 1, rfl, rfl, ?_⟩; have lx_z0 := B_z0.out.lt; have lx_z1 := B_z1.out.lt; have lx_z2 := B_z2.out.lt; obtain ⟨bb, b0, b1⟩ := box2 w2q 23 #[.int .i64 x0, .int .i64 y0, .int .i64 x1, .int .i64 y1, .int .i64 f, .int .i64 c] 23 #[.int .i64 x0, .int .i64 y0, .int .i64 x1, .int .i64 y1, .int .i64 f, .int .i64 c]; replace bb := bb.out; have hs := HB.out.size; exact ⟨(by unfold Hid; omega), (by unfold Hid; omega), (by unfold Hid; omega), (by unfold Hid; omega), (by unfold Hid; omega), (by unfold Hid; omega), (by unfold Hid; omega), (by unfold Hid; omega), (by unfold Hid; omega), mv b0 sm, mv b1 sm, mv (mv B_z0 bb) sm, mv (mv B_z1 bb) sm, mv (mv B_z2 bb) sm, nx (nx HB bb) sm⟩)
        | (refine ⟨w2q.heap.size + 1, w2q.heap.size, rfl, rfl, ?_⟩; have lx_z0 := B_z0.out.lt; have lx_z1 := B_z1.out.lt; have lx_z2 := B_z2.out.lt; obtain ⟨bb, b0, b1⟩ := box2 w2q 23 #[.int .i64 x0, .int .i64 y0, .int .i64 x1, .int .i64 y1, .int .i64 f, .int .i64 c] 23 #[.int .i64 x0, .int .i64 y0, .int .i64 x1, .int .i64 y1, .int .i64 f, .int .i64 c]; replace bb := bb.out; have hs := HB.out.size; exact ⟨(by unfold Hid; omega), (by unfold Hid; omega), (by unfold Hid; omega), (by unfold Hid; omega), (by unfold Hid; omega), (by unfold Hid; omega), (by unfold Hid; omega), (by unfold Hid; omega), (by unfold Hid; omega), mv b1 sm, mv b0 sm, mv (mv B_z0 bb) sm, mv (mv B_z1 bb) sm, mv (mv B_z2 bb) sm, nx (nx HB bb) sm⟩)
  case rest =>
    clear B_z0
    clear B_z1
    clear B_z2
    clear HB
    rename World => wc3
    obtain ⟨Pz3, Pz4, rfl, rfl, ne01Pz3, noz0Pz3, noz0Pz4, noz1Pz3, noz1Pz4, noz2Pz3, noz2Pz4, lePz3, lePz4, B_z3, B_z4, B_z0, B_z1, B_z2, HB⟩ := hcut
    have lePz3' := lePz3.out
    have lePz4' := lePz4.out
    obtain ⟨c0z3, c1z3, c2z3, c3z3, c4z3, c5z3⟩ := cells6 B_z3
    obtain ⟨f0z3, f1z3, f2z3, f3z3, f4z3, f5z3⟩ := froz6 B_z3
    have ne_z0 : Hid ((w.heap.size) ≠ (Pz3)) := by unfold Hid; have kne01Pz3 := ne01Pz3.out; have knoz0Pz3 := noz0Pz3.out; have knoz0Pz4 := noz0Pz4.out; have knoz1Pz3 := noz1Pz3.out; have knoz1Pz4 := noz1Pz4.out; have knoz2Pz3 := noz2Pz3.out; have knoz2Pz4 := noz2Pz4.out; omega
    have ne_z1 : Hid ((w.heap.size + 1) ≠ (Pz3)) := by unfold Hid; have kne01Pz3 := ne01Pz3.out; have knoz0Pz3 := noz0Pz3.out; have knoz0Pz4 := noz0Pz4.out; have knoz1Pz3 := noz1Pz3.out; have knoz1Pz4 := noz1Pz4.out; have knoz2Pz3 := noz2Pz3.out; have knoz2Pz4 := noz2Pz4.out; omega
    have ne_z2 : Hid ((w.heap.size + 1 + 1) ≠ (Pz3)) := by unfold Hid; have kne01Pz3 := ne01Pz3.out; have knoz0Pz3 := noz0Pz3.out; have knoz0Pz4 := noz0Pz4.out; have knoz1Pz3 := noz1Pz3.out; have knoz1Pz4 := noz1Pz4.out; have knoz2Pz3 := noz2Pz3.out; have knoz2Pz4 := noz2Pz4.out; omega
    have ne_z4 : Hid ((Pz4) ≠ (Pz3)) := by unfold Hid; have kne01Pz3 := ne01Pz3.out; have knoz0Pz3 := noz0Pz3.out; have knoz0Pz4 := noz0Pz4.out; have knoz1Pz3 := noz1Pz3.out; have knoz1Pz4 := noz1Pz4.out; have knoz2Pz3 := noz2Pz3.out; have knoz2Pz4 := noz2Pz4.out; omega
    have n_z3 : Hid (Bx (wc3.setCell ⟨Pz3, 5, none⟩ (.int .i64 (c / 2))) (Pz3) 23 #[.int .i64 x0, .int .i64 y0, .int .i64 x1, .int .i64 y1, .int .i64 f, .int .i64 (c / 2)]) := (B_z3.out.set 5 (.int .i64 (c / 2)))
    have n_z0 := far1 B_z0 ne_z0.out 5 (.int .i64 (c / 2))
    have n_z1 := far1 B_z1 ne_z1.out 5 (.int .i64 (c / 2))
    have n_z2 := far1 B_z2 ne_z2.out 5 (.int .i64 (c / 2))
    have n_z4 := far1 B_z4 ne_z4.out 5 (.int .i64 (c / 2))
    have nHB := stb1 HB (y := Pz3) (by omega) 5 (.int .i64 (c / 2))
    go_upto_region 15 with (fail)
    clear c0z3 c1z3 c2z3 c3z3 c4z3 c5z3 f0z3 f1z3 f2z3 f3z3 f4z3 f5z3
    clear ne_z0 ne_z1 ne_z2 ne_z4
    generalize wc3.setCell ⟨Pz3, 5, none⟩ (.int .i64 (c / 2)) = WS13 at *
    clear B_z0
    have B_z0 := n_z0
    clear n_z0
    clear B_z1
    have B_z1 := n_z1
    clear n_z1
    clear B_z2
    have B_z2 := n_z2
    clear n_z2
    clear B_z3
    have B_z3 := n_z3
    clear n_z3
    clear B_z4
    have B_z4 := n_z4
    clear n_z4
    clear HB
    have HB := nHB
    clear nHB
    obtain ⟨c0z0, c1z0, c2z0, c3z0, c4z0, c5z0⟩ := cells6 B_z0
    go_wp2_with fail
    refine (H1.out _).mono ?_
    clear c0z0 c1z0 c2z0 c3z0 c4z0 c5z0
    rintro e w4 ⟨rfl, bb⟩
    replace bb := nextw (w0 := WS13) (by exact sm) bb
    replace B_z0 := mv B_z0 bb
    replace B_z1 := mv B_z1 bb
    replace B_z2 := mv B_z2 bb
    replace B_z3 := mv B_z3 bb
    replace B_z4 := mv B_z4 bb
    replace HB := nx HB bb
    clear bb
    obtain ⟨c0z4, c1z4, c2z4, c3z4, c4z4, c5z4⟩ := cells6 B_z4
    obtain ⟨f0z4, f1z4, f2z4, f3z4, f4z4, f5z4⟩ := froz6 B_z4
    have ne_z0 : Hid ((w.heap.size) ≠ (Pz4)) := by unfold Hid; have kne01Pz3 := ne01Pz3.out; have knoz0Pz3 := noz0Pz3.out; have knoz0Pz4 := noz0Pz4.out; have knoz1Pz3 := noz1Pz3.out; have knoz1Pz4 := noz1Pz4.out; have knoz2Pz3 := noz2Pz3.out; have knoz2Pz4 := noz2Pz4.out; omega
    have ne_z1 : Hid ((w.heap.size + 1) ≠ (Pz4)) := by unfold Hid; have kne01Pz3 := ne01Pz3.out; have knoz0Pz3 := noz0Pz3.out; have knoz0Pz4 := noz0Pz4.out; have knoz1Pz3 := noz1Pz3.out; have knoz1Pz4 := noz1Pz4.out; have knoz2Pz3 := noz2Pz3.out; have knoz2Pz4 := noz2Pz4.out; omega
    have ne_z2 : Hid ((w.heap.size + 1 + 1) ≠ (Pz4)) := by unfold Hid; have kne01Pz3 := ne01Pz3.out; have knoz0Pz3 := noz0Pz3.out; have knoz0Pz4 := noz0Pz4.out; have knoz1Pz3 := noz1Pz3.out; have knoz1Pz4 := noz1Pz4.out; have knoz2Pz3 := noz2Pz3.out; have knoz2Pz4 := noz2Pz4.out; omega
    have ne_z3 : Hid ((Pz3) ≠ (Pz4)) := by unfold Hid; have kne01Pz3 := ne01Pz3.out; have knoz0Pz3 := noz0Pz3.out; have knoz0Pz4 := noz0Pz4.out; have knoz1Pz3 := noz1Pz3.out; have knoz1Pz4 := noz1Pz4.out; have knoz2Pz3 := noz2Pz3.out; have knoz2Pz4 := noz2Pz4.out; omega
    have n_z4 : Hid (Bx (w4.setCell ⟨Pz4, 4, none⟩ (.int .i64 ((f + (c / 2)) % 256))) (Pz4) 23 #[.int .i64 x0, .int .i64 y0, .int .i64 x1, .int .i64 y1, .int .i64 ((f + (c / 2)) % 256), .int .i64 c]) := (B_z4.out.set 4 (.int .i64 ((f + (c / 2)) % 256)))
    have n_z0 := far1 B_z0 ne_z0.out 4 (.int .i64 ((f + (c / 2)) % 256))
    have n_z1 := far1 B_z1 ne_z1.out 4 (.int .i64 ((f + (c / 2)) % 256))
    have n_z2 := far1 B_z2 ne_z2.out 4 (.int .i64 ((f + (c / 2)) % 256))
    have n_z3 := far1 B_z3 ne_z3.out 4 (.int .i64 ((f + (c / 2)) % 256))
    have nHB := stb1 HB (y := Pz4) (by omega) 4 (.int .i64 ((f + (c / 2)) % 256))
    go_upto_region 16 with (fail)
    clear c0z4 c1z4 c2z4 c3z4 c4z4 c5z4 f0z4 f1z4 f2z4 f3z4 f4z4 f5z4
    clear ne_z0 ne_z1 ne_z2 ne_z3
    generalize w4.setCell ⟨Pz4, 4, none⟩ (.int .i64 ((f + (c / 2)) % 256)) = WS14 at *
    clear B_z0
    have B_z0 := n_z0
    clear n_z0
    clear B_z1
    have B_z1 := n_z1
    clear n_z1
    clear B_z2
    have B_z2 := n_z2
    clear n_z2
    clear B_z3
    have B_z3 := n_z3
    clear n_z3
    clear B_z4
    have B_z4 := n_z4
    clear n_z4
    clear HB
    have HB := nHB
    clear nHB
    obtain ⟨c0z4, c1z4, c2z4, c3z4, c4z4, c5z4⟩ := cells6 B_z4
    obtain ⟨f0z4, f1z4, f2z4, f3z4, f4z4, f5z4⟩ := froz6 B_z4
    have ne_z0 : Hid ((w.heap.size) ≠ (Pz4)) := by unfold Hid; have kne01Pz3 := ne01Pz3.out; have knoz0Pz3 := noz0Pz3.out; have knoz0Pz4 := noz0Pz4.out; have knoz1Pz3 := noz1Pz3.out; have knoz1Pz4 := noz1Pz4.out; have knoz2Pz3 := noz2Pz3.out; have knoz2Pz4 := noz2Pz4.out; omega
    have ne_z1 : Hid ((w.heap.size + 1) ≠ (Pz4)) := by unfold Hid; have kne01Pz3 := ne01Pz3.out; have knoz0Pz3 := noz0Pz3.out; have knoz0Pz4 := noz0Pz4.out; have knoz1Pz3 := noz1Pz3.out; have knoz1Pz4 := noz1Pz4.out; have knoz2Pz3 := noz2Pz3.out; have knoz2Pz4 := noz2Pz4.out; omega
    have ne_z2 : Hid ((w.heap.size + 1 + 1) ≠ (Pz4)) := by unfold Hid; have kne01Pz3 := ne01Pz3.out; have knoz0Pz3 := noz0Pz3.out; have knoz0Pz4 := noz0Pz4.out; have knoz1Pz3 := noz1Pz3.out; have knoz1Pz4 := noz1Pz4.out; have knoz2Pz3 := noz2Pz3.out; have knoz2Pz4 := noz2Pz4.out; omega
    have ne_z3 : Hid ((Pz3) ≠ (Pz4)) := by unfold Hid; have kne01Pz3 := ne01Pz3.out; have knoz0Pz3 := noz0Pz3.out; have knoz0Pz4 := noz0Pz4.out; have knoz1Pz3 := noz1Pz3.out; have knoz1Pz4 := noz1Pz4.out; have knoz2Pz3 := noz2Pz3.out; have knoz2Pz4 := noz2Pz4.out; omega
    have n_z4 : Hid (Bx (WS14.setCell ⟨Pz4, 5, none⟩ (.int .i64 (c - (c / 2)))) (Pz4) 23 #[.int .i64 x0, .int .i64 y0, .int .i64 x1, .int .i64 y1, .int .i64 ((f + (c / 2)) % 256), .int .i64 (c - (c / 2))]) := (B_z4.out.set 5 (.int .i64 (c - (c / 2))))
    have n_z0 := far1 B_z0 ne_z0.out 5 (.int .i64 (c - (c / 2)))
    have n_z1 := far1 B_z1 ne_z1.out 5 (.int .i64 (c - (c / 2)))
    have n_z2 := far1 B_z2 ne_z2.out 5 (.int .i64 (c - (c / 2)))
    have n_z3 := far1 B_z3 ne_z3.out 5 (.int .i64 (c - (c / 2)))
    have nHB := stb1 HB (y := Pz4) (by omega) 5 (.int .i64 (c - (c / 2)))
    go_upto_region 23 with (fail)
    clear c0z4 c1z4 c2z4 c3z4 c4z4 c5z4 f0z4 f1z4 f2z4 f3z4 f4z4 f5z4
    clear ne_z0 ne_z1 ne_z2 ne_z3
    generalize WS14.setCell ⟨Pz4, 5, none⟩ (.int .i64 (c - (c / 2))) = WS15 at *
    clear B_z0
    have B_z0 := n_z0
    clear n_z0
    clear B_z1
    have B_z1 := n_z1
    clear n_z1
    clear B_z2
    have B_z2 := n_z2
    clear n_z2
    clear B_z3
    have B_z3 := n_z3
    clear n_z3
    clear B_z4
    have B_z4 := n_z4
    clear n_z4
    clear HB
    have HB := nHB
    clear nHB
    have ne_ab : Hid ((w.heap.size + 1) ≠ (w.heap.size + 1 + 1)) := by unfold Hid; have kne01Pz3 := ne01Pz3.out; have knoz0Pz3 := noz0Pz3.out; have knoz0Pz4 := noz0Pz4.out; have knoz1Pz3 := noz1Pz3.out; have knoz1Pz4 := noz1Pz4.out; have knoz2Pz3 := noz2Pz3.out; have knoz2Pz4 := noz2Pz4.out; omega
    have ne_ba : Hid ((w.heap.size + 1 + 1) ≠ (w.heap.size + 1)) := by unfold Hid; have kne01Pz3 := ne01Pz3.out; have knoz0Pz3 := noz0Pz3.out; have knoz0Pz4 := noz0Pz4.out; have knoz1Pz3 := noz1Pz3.out; have knoz1Pz4 := noz1Pz4.out; have knoz2Pz3 := noz2Pz3.out; have knoz2Pz4 := noz2Pz4.out; omega
    obtain ⟨c0z1, c1z1, c2z1, c3z1, c4z1, c5z1⟩ := cells6 B_z1
    obtain ⟨f0z1, f1z1, f2z1, f3z1, f4z1, f5z1⟩ := froz6 B_z1
    obtain ⟨c0z2, c1z2, c2z2, c3z2, c4z2, c5z2⟩ := cells6 B_z2
    obtain ⟨f0z2, f1z2, f2z2, f3z2, f4z2, f5z2⟩ := froz6 B_z2
    obtain ⟨c0z3, c1z3, c2z3, c3z3, c4z3, c5z3⟩ := cells6 B_z3
    obtain ⟨c0z4, c1z4, c2z4, c3z4, c4z4, c5z4⟩ := cells6 B_z4
    have kne01Pz3 := ne01Pz3.out
    have knoz0Pz3 := noz0Pz3.out
    have knoz0Pz4 := noz0Pz4.out
    have knoz1Pz3 := noz1Pz3.out
    have knoz1Pz4 := noz1Pz4.out
    have knoz2Pz3 := noz2Pz3.out
    have knoz2Pz4 := noz2Pz4.out
    go_region
    clear kne01Pz3 knoz0Pz3 knoz0Pz4 knoz1Pz3 knoz1Pz4 knoz2Pz3 knoz2Pz4
    clear c0z1 c1z1 c2z1 c3z1 c4z1 c5z1 f0z1 f1z1 f2z1 f3z1 f4z1 f5z1 c0z2 c1z2 c2z2 c3z2 c4z2 c5z2 f0z2 f1z2 f2z2 f3z2 f4z2 f5z2 c0z3 c1z3 c2z3 c3z3 c4z3 c5z3 c0z4 c1z4 c2z4 c3z4 c4z4 c5z4
    have t_z1q := stor6 B_z1 (.int .i64 x0) (.int .i64 y0) (.int .i64 x1) (.int .i64 y1) (.int .i64 f) (.int .i64 (c / 2))
    have m_z2q := far6 B_z2 ne_ba.out 0 (.int .i64 x0) 1 (.int .i64 y0) 2 (.int .i64 x1) 3 (.int .i64 y1) 4 (.int .i64 f) 5 (.int .i64 (c / 2))
    have p_z2q := stor6 m_z2q (.int .i64 x0) (.int .i64 y0) (.int .i64 x1) (.int .i64 y1) (.int .i64 ((f + (c / 2)) % 256)) (.int .i64 (c - (c / 2)))
    have p_z1q := far6 t_z1q ne_ab.out 0 (.int .i64 x0) 1 (.int .i64 y0) 2 (.int .i64 x1) 3 (.int .i64 y1) 4 (.int .i64 ((f + (c / 2)) % 256)) 5 (.int .i64 (c - (c / 2)))
    have HF := stb6 (stb6 HB (y := w.heap.size + 1) (by omega) 0 (.int .i64 x0) 1 (.int .i64 y0) 2 (.int .i64 x1) 3 (.int .i64 y1) 4 (.int .i64 f) 5 (.int .i64 (c / 2))) (y := w.heap.size + 1 + 1) (by omega) 0 (.int .i64 x0) 1 (.int .i64 y0) 2 (.int .i64 x1) 3 (.int .i64 y1) 4 (.int .i64 ((f + (c / 2)) % 256)) 5 (.int .i64 (c - (c / 2)))
    have dr := sm_drew (((((((((((((WS15.setCell ⟨w.heap.size + 1, 0, none⟩ (.int .i64 x0)).setCell ⟨w.heap.size + 1, 1, none⟩ (.int .i64 y0)).setCell ⟨w.heap.size + 1, 2, none⟩ (.int .i64 x1)).setCell ⟨w.heap.size + 1, 3, none⟩ (.int .i64 y1)).setCell ⟨w.heap.size + 1, 4, none⟩ (.int .i64 f)).setCell ⟨w.heap.size + 1, 5, none⟩ (.int .i64 (c / 2))).setCell ⟨w.heap.size + 1 + 1, 0, none⟩ (.int .i64 x0)).setCell ⟨w.heap.size + 1 + 1, 1, none⟩ (.int .i64 y0)).setCell ⟨w.heap.size + 1 + 1, 2, none⟩ (.int .i64 x1)).setCell ⟨w.heap.size + 1 + 1, 3, none⟩ (.int .i64 y1)).setCell ⟨w.heap.size + 1 + 1, 4, none⟩ (.int .i64 ((f + (c / 2)) % 256))).setCell ⟨w.heap.size + 1 + 1, 5, none⟩ (.int .i64 (c - (c / 2)))))
    replace p_z1q := mv p_z1q dr
    replace p_z2q := mv p_z2q dr
    replace HF := nx HF dr
    clear dr
    clear m_z2q t_z1q
    generalize (((((((((((((WS15.setCell ⟨w.heap.size + 1, 0, none⟩ (.int .i64 x0)).setCell ⟨w.heap.size + 1, 1, none⟩ (.int .i64 y0)).setCell ⟨w.heap.size + 1, 2, none⟩ (.int .i64 x1)).setCell ⟨w.heap.size + 1, 3, none⟩ (.int .i64 y1)).setCell ⟨w.heap.size + 1, 4, none⟩ (.int .i64 f)).setCell ⟨w.heap.size + 1, 5, none⟩ (.int .i64 (c / 2))).setCell ⟨w.heap.size + 1 + 1, 0, none⟩ (.int .i64 x0)).setCell ⟨w.heap.size + 1 + 1, 1, none⟩ (.int .i64 y0)).setCell ⟨w.heap.size + 1 + 1, 2, none⟩ (.int .i64 x1)).setCell ⟨w.heap.size + 1 + 1, 3, none⟩ (.int .i64 y1)).setCell ⟨w.heap.size + 1 + 1, 4, none⟩ (.int .i64 ((f + (c / 2)) % 256))).setCell ⟨w.heap.size + 1 + 1, 5, none⟩ (.int .i64 (c - (c / 2))))).drew = WR at *
    obtain ⟨s0, s1, s2, s3, s4, s5⟩ := cells6 p_z1q
    obtain ⟨r0, r1, r2, r3, r4, r5⟩ := cells6 p_z2q
    go_wp2_with fail
    exact bodyPost_ret (v := .tuple #[.agg #[.int .i64 x0, .int .i64 y0, .int .i64 x1, .int .i64 y1, .int .i64 f, .int .i64 (c / 2)], .agg #[.int .i64 x0, .int .i64 y0, .int .i64 x1, .int .i64 y1, .int .i64 ((f + (c / 2)) % 256), .int .i64 (c - (c / 2))], .bool true]) (by simp [results, Try.results27, go_sem, s0, s1, s2, s3, s4, s5, r0, r1, r2, r3, r4, r5]) rfl ⟨rfl, nextw HF.out (by exact sm)⟩

set_option maxRecDepth 100000 in
set_option maxHeartbeats 4000000 in
theorem RSplit_w7 (x0 y0 x1 y1 f c : Int)   (dd0 : OkB x0 y0 x1 y1 f c) (dd1 : 1 < ((x1 - x0) + 1)) (dd2 : ((y1 - y0) + 1) ≤ 1) (dd3 : 1 < c) (dd4 : ¬ (((x1 - x0) + 1) = 0)) (dd5 : 0 ≤ ((x1 - x0) + 1)) (dd6 : (8 * c) ≤ ((x1 - x0) + 1)) (w : World) :
    Calls Try.prog 27 #[.agg #[.int .i64 x0, .int .i64 y0, .int .i64 x1, .int .i64 y1, .int .i64 f, .int .i64 c]] w fun e w' => e = .returned (.tuple #[.agg #[.int .i64 x0, .int .i64 y0, .int .i64 ((x0 + (((x1 - x0) + 1) / 2)) - 1), .int .i64 y1, .int .i64 f, .int .i64 c], .agg #[.int .i64 (x0 + (((x1 - x0) + 1) / 2)), .int .i64 y0, .int .i64 x1, .int .i64 y1, .int .i64 f, .int .i64 c], .bool true]) ∧ Below w.heap.size w w' := by
  have H0 := Lib.hid (fun w => BBox_yes dd0 w)
  have dd0b := dd0.b
  obtain ⟨HB, B_z0, B_z1, B_z2⟩ := box3 w 23 #[.int .i64 x0, .int .i64 y0, .int .i64 x1, .int .i64 y1, .int .i64 f, .int .i64 c] 23 #[.int .i64 0, .int .i64 0, .int .i64 0, .int .i64 0, .int .i64 0, .int .i64 0] 23 #[.int .i64 0, .int .i64 0, .int .i64 0, .int .i64 0, .int .i64 0, .int .i64 0]
  go_enter Try.func27, Try.ntmps27
  go_upto_region 1 with (fail)
  generalize ((w.alloc (.cells #[.int .i64 x0, .int .i64 y0, .int .i64 x1, .int .i64 y1, .int .i64 f, .int .i64 c] 23)).alloc (.cells #[.int .i64 0, .int .i64 0, .int .i64 0, .int .i64 0, .int .i64 0, .int .i64 0] 23)).alloc (.cells #[.int .i64 0, .int .i64 0, .int .i64 0, .int .i64 0, .int .i64 0, .int .i64 0] 23) = W0 at *
  obtain ⟨c0z0, c1z0, c2z0, c3z0, c4z0, c5z0⟩ := cells6 B_z0
  go_wp2_with fail
  refine (H0.out _).mono ?_
  clear c0z0 c1z0 c2z0 c3z0 c4z0 c5z0
  rintro e w1 ⟨rfl, bb⟩
  replace bb := nextw (w0 := W0) (by exact sm) bb
  replace B_z0 := mv B_z0 bb
  replace B_z1 := mv B_z1 bb
  replace B_z2 := mv B_z2 bb
  replace HB := nx HB bb
  clear bb
  go_upto_region 3 with (fail)
  have wq3x0 : IntKind.i64.wrap (x1 - x0) = x1 - x0 := by rw [IntKind.wrap_i64]; omega
  have wq3x1 : IntKind.i64.wrap ((x1 - x0) + 1) = (x1 - x0) + 1 := by rw [IntKind.wrap_i64]; omega
  have wq3x2 : IntKind.i64.wrap (y1 - y0) = y1 - y0 := by rw [IntKind.wrap_i64]; omega
  have wq3x3 : IntKind.i64.wrap ((y1 - y0) + 1) = (y1 - y0) + 1 := by rw [IntKind.wrap_i64]; omega
  obtain ⟨c0z0, c1z0, c2z0, c3z0, c4z0, c5z0⟩ := cells6 B_z0
  go_quiet (fail)
  clear c0z0 c1z0 c2z0 c3z0 c4z0 c5z0
  have bb : Below w1.heap.size w1 (w1.drewN nq) := bel_drewN (Below.refl _ _) _
  generalize w1.drewN nq = w2q at *
  replace B_z0 := mv B_z0 bb
  replace B_z1 := mv B_z1 bb
  replace B_z2 := mv B_z2 bb
  replace HB := nx HB bb
  clear bb
  go_upto_region 13 with (fail)
  go_cut [11, 12] (fun sv0 sv1 wx => ∃ Pz3 Pz4 : Nat, sv0 = (.pointer (some ⟨Pz3, 0, none⟩)) ∧ sv1 = (.pointer (some ⟨Pz4, 0, none⟩)) ∧ Hid (Pz3 ≠ Pz4) ∧ Hid (w.heap.size ≠ Pz3) ∧ Hid (w.heap.size ≠ Pz4) ∧ Hid (w.heap.size + 1 ≠ Pz3) ∧ Hid (w.heap.size + 1 ≠ Pz4) ∧ Hid (w.heap.size + 1 + 1 ≠ Pz3) ∧ Hid (w.heap.size + 1 + 1 ≠ Pz4) ∧ Hid (w.heap.size ≤ Pz3) ∧ Hid (w.heap.size ≤ Pz4) ∧ Hid (Bx wx (Pz3) 23 #[.int .i64 x0, .int .i64 y0, .int .i64 x1, .int .i64 y1, .int .i64 f, .int .i64 c]) ∧ Hid (Bx wx (Pz4) 23 #[.int .i64 x0, .int .i64 y0, .int .i64 x1, .int .i64 y1, .int .i64 f, .int .i64 c]) ∧ Hid (Bx wx (w.heap.size) 23 #[.int .i64 x0, .int .i64 y0, .int .i64 x1, .int .i64 y1, .int .i64 f, .int .i64 c]) ∧ Hid (Bx wx (w.heap.size + 1) 23 #[.int .i64 0, .int .i64 0, .int .i64 0, .int .i64 0, .int .i64 0, .int .i64 0]) ∧ Hid (Bx wx (w.heap.size + 1 + 1) 23 #[.int .i64 0, .int .i64 0, .int .i64 0, .int .i64 0, .int .i64 0, .int .i64 0]) ∧ Hid (Below w.heap.size w wx))
  case first =>
    obtain ⟨c0z0, c1z0, c2z0, c3z0, c4z0, c5z0⟩ := cells6 B_z0
    have lt_z0 := B_z0.out.lt
    go_region_held3 (fun w' => w'.cell? ⟨w.heap.size, 0, none⟩ = some (.int .i64 x0) ∧ w'.cell? ⟨w.heap.size, 1, none⟩ = some (.int .i64 y0) ∧ w'.cell? ⟨w.heap.size, 2, none⟩ = some (.int .i64 x1) ∧ w'.cell? ⟨w.heap.size, 3, none⟩ = some (.int .i64 y1) ∧ w'.cell? ⟨w.heap.size, 4, none⟩ = some (.int .i64 f) ∧ w'.cell? ⟨w.heap.size, 5, none⟩ = some (.int .i64 c)) (((try dsimp only); (repeat' apply And.intro) <;> (first | (with_reducible assumption) | ((repeat (first | (with_reducible refine Eq.trans (cell_drew1 _ _) ?_) | (with_reducible refine Eq.trans (cell_far (by omega) _ _ _) ?_) | (with_reducible refine Eq.trans (World.cell?_alloc_lt _ _ _ (by first | (dsimp only; omega) | (simp only [World.size_alloc, World.size_setCell]; omega))) ?_))); with_reducible assumption) | assumption | go_keep)))
        (first | fail)
    all_goals clear c0z0 c1z0 c2z0 c3z0 c4z0 c5z0 lt_z0
    all_goals go_wp2_with fail
    all_goals go_meet
    all_goals first
        | (refine ⟨w2q.heap.size, w2q.heap.size + 1, rfl, rfl, ?_⟩; have lx_z0 := B_z0.out.lt; have lx_z1 := B_z1.out.lt; have lx_z2 := B_z2.out.lt; obtain ⟨bb, b0, b1⟩ := box2 w2q 23 #[.int .i64 x0, .int .i64 y0, .int .i64 x1, .int .i64 y1, .int .i64 f, .int .i64 c] 23 #[.int .i64 x0, .int .i64 y0, .int .i64 x1, .int .i64 y1, .int .i64 f, .int .i64 c]; replace bb := bb.out; have hs := HB.out.size; exact ⟨(by unfold Hid; omega), (by unfold Hid; omega), (by unfold Hid; omega), (by unfold Hid; omega), (by unfold Hid; omega), (by unfold Hid; omega), (by unfold Hid; omega), (by unfold Hid; omega), (by unfold Hid; omega), mv b0 sm, mv b1 sm, mv (mv B_z0 bb) sm, mv (mv B_z1 bb) sm, mv (mv B_z2 bb) sm, nx (nx HB bb) sm⟩)
        | (refine ⟨w2q.heap.size + 1, w2q.heap.size, rfl, rfl, ?_⟩; have lx_z0 := B_z0.out.lt; have lx_z1 := B_z1.out.lt; have lx_z2 := B_z2.out.lt; obtain ⟨bb, b0, b1⟩ := box2 w2q 23 #[.int .i64 x0, .int .i64 y0, .int .i64 x1, .int .i64 y1, .int .i64 f, .int .i64 c] 23 #[.int .i64 x0, .int .i64 y0, .int .i64 x1, .int .i64 y1, .int .i64 f, .int .i64 c]; replace bb := bb.out; have hs := HB.out.size; exact ⟨(by unfold Hid; omega), (by unfold Hid; omega), (by unfold Hid; omega), (by unfold Hid; omega), (by unfold Hid; omega), (by unfold Hid; omega), (by unfold Hid; omega), (by unfold Hid; omega), (by unfold Hid; omega), mv b1 sm, mv b0 sm, mv (mv B_z0 bb) sm, mv (mv B_z1 bb) sm, mv (mv B_z2 bb) sm, nx (nx HB bb) sm⟩)
  case rest =>
    clear B_z0
    clear B_z1
    clear B_z2
    clear HB
    rename World => wc3
    obtain ⟨Pz3, Pz4, rfl, rfl, ne01Pz3, noz0Pz3, noz0Pz4, noz1Pz3, noz1Pz4, noz2Pz3, noz2Pz4, lePz3, lePz4, B_z3, B_z4, B_z0, B_z1, B_z2, HB⟩ := hcut
    have lePz3' := lePz3.out
    have lePz4' := lePz4.out
    obtain ⟨c0z0, c1z0, c2z0, c3z0, c4z0, c5z0⟩ := cells6 B_z0
    obtain ⟨c0z3, c1z3, c2z3, c3z3, c4z3, c5z3⟩ := cells6 B_z3
    obtain ⟨f0z3, f1z3, f2z3, f3z3, f4z3, f5z3⟩ := froz6 B_z3
    have ne_z0 : Hid ((w.heap.size) ≠ (Pz3)) := by unfold Hid; have kne01Pz3 := ne01Pz3.out; have knoz0Pz3 := noz0Pz3.out; have knoz0Pz4 := noz0Pz4.out; have knoz1Pz3 := noz1Pz3.out; have knoz1Pz4 := noz1Pz4.out; have knoz2Pz3 := noz2Pz3.out; have knoz2Pz4 := noz2Pz4.out; omega
    have ne_z1 : Hid ((w.heap.size + 1) ≠ (Pz3)) := by unfold Hid; have kne01Pz3 := ne01Pz3.out; have knoz0Pz3 := noz0Pz3.out; have knoz0Pz4 := noz0Pz4.out; have knoz1Pz3 := noz1Pz3.out; have knoz1Pz4 := noz1Pz4.out; have knoz2Pz3 := noz2Pz3.out; have knoz2Pz4 := noz2Pz4.out; omega
    have ne_z2 : Hid ((w.heap.size + 1 + 1) ≠ (Pz3)) := by unfold Hid; have kne01Pz3 := ne01Pz3.out; have knoz0Pz3 := noz0Pz3.out; have knoz0Pz4 := noz0Pz4.out; have knoz1Pz3 := noz1Pz3.out; have knoz1Pz4 := noz1Pz4.out; have knoz2Pz3 := noz2Pz3.out; have knoz2Pz4 := noz2Pz4.out; omega
    have ne_z4 : Hid ((Pz4) ≠ (Pz3)) := by unfold Hid; have kne01Pz3 := ne01Pz3.out; have knoz0Pz3 := noz0Pz3.out; have knoz0Pz4 := noz0Pz4.out; have knoz1Pz3 := noz1Pz3.out; have knoz1Pz4 := noz1Pz4.out; have knoz2Pz3 := noz2Pz3.out; have knoz2Pz4 := noz2Pz4.out; omega
    have n_z3 : Hid (Bx (wc3.setCell ⟨Pz3, 2, none⟩ (.int .i64 ((x0 + (((x1 - x0) + 1) / 2)) - 1))) (Pz3) 23 #[.int .i64 x0, .int .i64 y0, .int .i64 ((x0 + (((x1 - x0) + 1) / 2)) - 1), .int .i64 y1, .int .i64 f, .int .i64 c]) := (B_z3.out.set 2 (.int .i64 ((x0 + (((x1 - x0) + 1) / 2)) - 1)))
    have n_z0 := far1 B_z0 ne_z0.out 2 (.int .i64 ((x0 + (((x1 - x0) + 1) / 2)) - 1))
    have n_z1 := far1 B_z1 ne_z1.out 2 (.int .i64 ((x0 + (((x1 - x0) + 1) / 2)) - 1))
    have n_z2 := far1 B_z2 ne_z2.out 2 (.int .i64 ((x0 + (((x1 - x0) + 1) / 2)) - 1))
    have n_z4 := far1 B_z4 ne_z4.out 2 (.int .i64 ((x0 + (((x1 - x0) + 1) / 2)) - 1))
    have nHB := stb1 HB (y := Pz3) (by omega) 2 (.int .i64 ((x0 + (((x1 - x0) + 1) / 2)) - 1))
    go_upto_region 19 with (fail)
    clear c0z0 c1z0 c2z0 c3z0 c4z0 c5z0 c0z3 c1z3 c2z3 c3z3 c4z3 c5z3 f0z3 f1z3 f2z3 f3z3 f4z3 f5z3
    clear ne_z0 ne_z1 ne_z2 ne_z4
    generalize wc3.setCell ⟨Pz3, 2, none⟩ (.int .i64 ((x0 + (((x1 - x0) + 1) / 2)) - 1)) = WS12 at *
    clear B_z0
    have B_z0 := n_z0
    clear n_z0
    clear B_z1
    have B_z1 := n_z1
    clear n_z1
    clear B_z2
    have B_z2 := n_z2
    clear n_z2
    clear B_z3
    have B_z3 := n_z3
    clear n_z3
    clear B_z4
    have B_z4 := n_z4
    clear n_z4
    clear HB
    have HB := nHB
    clear nHB
    obtain ⟨c0z3, c1z3, c2z3, c3z3, c4z3, c5z3⟩ := cells6 B_z3
    obtain ⟨c0z4, c1z4, c2z4, c3z4, c4z4, c5z4⟩ := cells6 B_z4
    obtain ⟨f0z4, f1z4, f2z4, f3z4, f4z4, f5z4⟩ := froz6 B_z4
    have ne_z0 : Hid ((w.heap.size) ≠ (Pz4)) := by unfold Hid; have kne01Pz3 := ne01Pz3.out; have knoz0Pz3 := noz0Pz3.out; have knoz0Pz4 := noz0Pz4.out; have knoz1Pz3 := noz1Pz3.out; have knoz1Pz4 := noz1Pz4.out; have knoz2Pz3 := noz2Pz3.out; have knoz2Pz4 := noz2Pz4.out; omega
    have ne_z1 : Hid ((w.heap.size + 1) ≠ (Pz4)) := by unfold Hid; have kne01Pz3 := ne01Pz3.out; have knoz0Pz3 := noz0Pz3.out; have knoz0Pz4 := noz0Pz4.out; have knoz1Pz3 := noz1Pz3.out; have knoz1Pz4 := noz1Pz4.out; have knoz2Pz3 := noz2Pz3.out; have knoz2Pz4 := noz2Pz4.out; omega
    have ne_z2 : Hid ((w.heap.size + 1 + 1) ≠ (Pz4)) := by unfold Hid; have kne01Pz3 := ne01Pz3.out; have knoz0Pz3 := noz0Pz3.out; have knoz0Pz4 := noz0Pz4.out; have knoz1Pz3 := noz1Pz3.out; have knoz1Pz4 := noz1Pz4.out; have knoz2Pz3 := noz2Pz3.out; have knoz2Pz4 := noz2Pz4.out; omega
    have ne_z3 : Hid ((Pz3) ≠ (Pz4)) := by unfold Hid; have kne01Pz3 := ne01Pz3.out; have knoz0Pz3 := noz0Pz3.out; have knoz0Pz4 := noz0Pz4.out; have knoz1Pz3 := noz1Pz3.out; have knoz1Pz4 := noz1Pz4.out; have knoz2Pz3 := noz2Pz3.out; have knoz2Pz4 := noz2Pz4.out; omega
    have n_z4 : Hid (Bx (WS12.setCell ⟨Pz4, 0, none⟩ (.int .i64 (x0 + (((x1 - x0) + 1) / 2)))) (Pz4) 23 #[.int .i64 (x0 + (((x1 - x0) + 1) / 2)), .int .i64 y0, .int .i64 x1, .int .i64 y1, .int .i64 f, .int .i64 c]) := (B_z4.out.set 0 (.int .i64 (x0 + (((x1 - x0) + 1) / 2))))
    have n_z0 := far1 B_z0 ne_z0.out 0 (.int .i64 (x0 + (((x1 - x0) + 1) / 2)))
    have n_z1 := far1 B_z1 ne_z1.out 0 (.int .i64 (x0 + (((x1 - x0) + 1) / 2)))
    have n_z2 := far1 B_z2 ne_z2.out 0 (.int .i64 (x0 + (((x1 - x0) + 1) / 2)))
    have n_z3 := far1 B_z3 ne_z3.out 0 (.int .i64 (x0 + (((x1 - x0) + 1) / 2)))
    have nHB := stb1 HB (y := Pz4) (by omega) 0 (.int .i64 (x0 + (((x1 - x0) + 1) / 2)))
    go_upto_region 23 with (fail)
    clear c0z3 c1z3 c2z3 c3z3 c4z3 c5z3 c0z4 c1z4 c2z4 c3z4 c4z4 c5z4 f0z4 f1z4 f2z4 f3z4 f4z4 f5z4
    clear ne_z0 ne_z1 ne_z2 ne_z3
    generalize WS12.setCell ⟨Pz4, 0, none⟩ (.int .i64 (x0 + (((x1 - x0) + 1) / 2))) = WS13 at *
    clear B_z0
    have B_z0 := n_z0
    clear n_z0
    clear B_z1
    have B_z1 := n_z1
    clear n_z1
    clear B_z2
    have B_z2 := n_z2
    clear n_z2
    clear B_z3
    have B_z3 := n_z3
    clear n_z3
    clear B_z4
    have B_z4 := n_z4
    clear n_z4
    clear HB
    have HB := nHB
    clear nHB
    have ne_ab : Hid ((w.heap.size + 1) ≠ (w.heap.size + 1 + 1)) := by unfold Hid; have kne01Pz3 := ne01Pz3.out; have knoz0Pz3 := noz0Pz3.out; have knoz0Pz4 := noz0Pz4.out; have knoz1Pz3 := noz1Pz3.out; have knoz1Pz4 := noz1Pz4.out; have knoz2Pz3 := noz2Pz3.out; have knoz2Pz4 := noz2Pz4.out; omega
    have ne_ba : Hid ((w.heap.size + 1 + 1) ≠ (w.heap.size + 1)) := by unfold Hid; have kne01Pz3 := ne01Pz3.out; have knoz0Pz3 := noz0Pz3.out; have knoz0Pz4 := noz0Pz4.out; have knoz1Pz3 := noz1Pz3.out; have knoz1Pz4 := noz1Pz4.out; have knoz2Pz3 := noz2Pz3.out; have knoz2Pz4 := noz2Pz4.out; omega
    obtain ⟨c0z1, c1z1, c2z1, c3z1, c4z1, c5z1⟩ := cells6 B_z1
    obtain ⟨f0z1, f1z1, f2z1, f3z1, f4z1, f5z1⟩ := froz6 B_z1
    obtain ⟨c0z2, c1z2, c2z2, c3z2, c4z2, c5z2⟩ := cells6 B_z2
    obtain ⟨f0z2, f1z2, f2z2, f3z2, f4z2, f5z2⟩ := froz6 B_z2
    obtain ⟨c0z3, c1z3, c2z3, c3z3, c4z3, c5z3⟩ := cells6 B_z3
    obtain ⟨c0z4, c1z4, c2z4, c3z4, c4z4, c5z4⟩ := cells6 B_z4
    have kne01Pz3 := ne01Pz3.out
    have knoz0Pz3 := noz0Pz3.out
    have knoz0Pz4 := noz0Pz4.out
    have knoz1Pz3 := noz1Pz3.out
    have knoz1Pz4 := noz1Pz4.out
    have knoz2Pz3 := noz2Pz3.out
    have knoz2Pz4 := noz2Pz4.out
    go_region
    clear kne01Pz3 knoz0Pz3 knoz0Pz4 knoz1Pz3 knoz1Pz4 knoz2Pz3 knoz2Pz4
    clear c0z1 c1z1 c2z1 c3z1 c4z1 c5z1 f0z1 f1z1 f2z1 f3z1 f4z1 f5z1 c0z2 c1z2 c2z2 c3z2 c4z2 c5z2 f0z2 f1z2 f2z2 f3z2 f4z2 f5z2 c0z3 c1z3 c2z3 c3z3 c4z3 c5z3 c0z4 c1z4 c2z4 c3z4 c4z4 c5z4
    have t_z1q := stor6 B_z1 (.int .i64 x0) (.int .i64 y0) (.int .i64 ((x0 + (((x1 - x0) + 1) / 2)) - 1)) (.int .i64 y1) (.int .i64 f) (.int .i64 c)
    have m_z2q := far6 B_z2 ne_ba.out 0 (.int .i64 x0) 1 (.int .i64 y0) 2 (.int .i64 ((x0 + (((x1 - x0) + 1) / 2)) - 1)) 3 (.int .i64 y1) 4 (.int .i64 f) 5 (.int .i64 c)
    have p_z2q := stor6 m_z2q (.int .i64 (x0 + (((x1 - x0) + 1) / 2))) (.int .i64 y0) (.int .i64 x1) (.int .i64 y1) (.int .i64 f) (.int .i64 c)
    have p_z1q := far6 t_z1q ne_ab.out 0 (.int .i64 (x0 + (((x1 - x0) + 1) / 2))) 1 (.int .i64 y0) 2 (.int .i64 x1) 3 (.int .i64 y1) 4 (.int .i64 f) 5 (.int .i64 c)
    have HF := stb6 (stb6 HB (y := w.heap.size + 1) (by omega) 0 (.int .i64 x0) 1 (.int .i64 y0) 2 (.int .i64 ((x0 + (((x1 - x0) + 1) / 2)) - 1)) 3 (.int .i64 y1) 4 (.int .i64 f) 5 (.int .i64 c)) (y := w.heap.size + 1 + 1) (by omega) 0 (.int .i64 (x0 + (((x1 - x0) + 1) / 2))) 1 (.int .i64 y0) 2 (.int .i64 x1) 3 (.int .i64 y1) 4 (.int .i64 f) 5 (.int .i64 c)
    have dr := sm_drew (((((((((((((WS13.setCell ⟨w.heap.size + 1, 0, none⟩ (.int .i64 x0)).setCell ⟨w.heap.size + 1, 1, none⟩ (.int .i64 y0)).setCell ⟨w.heap.size + 1, 2, none⟩ (.int .i64 ((x0 + (((x1 - x0) + 1) / 2)) - 1))).setCell ⟨w.heap.size + 1, 3, none⟩ (.int .i64 y1)).setCell ⟨w.heap.size + 1, 4, none⟩ (.int .i64 f)).setCell ⟨w.heap.size + 1, 5, none⟩ (.int .i64 c)).setCell ⟨w.heap.size + 1 + 1, 0, none⟩ (.int .i64 (x0 + (((x1 - x0) + 1) / 2)))).setCell ⟨w.heap.size + 1 + 1, 1, none⟩ (.int .i64 y0)).setCell ⟨w.heap.size + 1 + 1, 2, none⟩ (.int .i64 x1)).setCell ⟨w.heap.size + 1 + 1, 3, none⟩ (.int .i64 y1)).setCell ⟨w.heap.size + 1 + 1, 4, none⟩ (.int .i64 f)).setCell ⟨w.heap.size + 1 + 1, 5, none⟩ (.int .i64 c)))
    replace p_z1q := mv p_z1q dr
    replace p_z2q := mv p_z2q dr
    replace HF := nx HF dr
    clear dr
    clear m_z2q t_z1q
    generalize (((((((((((((WS13.setCell ⟨w.heap.size + 1, 0, none⟩ (.int .i64 x0)).setCell ⟨w.heap.size + 1, 1, none⟩ (.int .i64 y0)).setCell ⟨w.heap.size + 1, 2, none⟩ (.int .i64 ((x0 + (((x1 - x0) + 1) / 2)) - 1))).setCell ⟨w.heap.size + 1, 3, none⟩ (.int .i64 y1)).setCell ⟨w.heap.size + 1, 4, none⟩ (.int .i64 f)).setCell ⟨w.heap.size + 1, 5, none⟩ (.int .i64 c)).setCell ⟨w.heap.size + 1 + 1, 0, none⟩ (.int .i64 (x0 + (((x1 - x0) + 1) / 2)))).setCell ⟨w.heap.size + 1 + 1, 1, none⟩ (.int .i64 y0)).setCell ⟨w.heap.size + 1 + 1, 2, none⟩ (.int .i64 x1)).setCell ⟨w.heap.size + 1 + 1, 3, none⟩ (.int .i64 y1)).setCell ⟨w.heap.size + 1 + 1, 4, none⟩ (.int .i64 f)).setCell ⟨w.heap.size + 1 + 1, 5, none⟩ (.int .i64 c))).drew = WR at *
    obtain ⟨s0, s1, s2, s3, s4, s5⟩ := cells6 p_z1q
    obtain ⟨r0, r1, r2, r3, r4, r5⟩ := cells6 p_z2q
    go_wp2_with fail
    exact bodyPost_ret (v := .tuple #[.agg #[.int .i64 x0, .int .i64 y0, .int .i64 ((x0 + (((x1 - x0) + 1) / 2)) - 1), .int .i64 y1, .int .i64 f, .int .i64 c], .agg #[.int .i64 (x0 + (((x1 - x0) + 1) / 2)), .int .i64 y0, .int .i64 x1, .int .i64 y1, .int .i64 f, .int .i64 c], .bool true]) (by simp [results, Try.results27, go_sem, s0, s1, s2, s3, s4, s5, r0, r1, r2, r3, r4, r5]) rfl ⟨rfl, nextw HF.out (by exact sm)⟩
end Go.Proofs.Ytjpdahalplkfbaa
