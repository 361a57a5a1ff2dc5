/- The reference's Hull; Has, Volume. -/
import Derived.Test.YtjpdahalplkfbaaB4
import Derived.Test.YtjpdahalplkfbaaB5
import Derived.Test.YtjpdahalplkfbaaHRHull
set_option linter.unusedVariables false
set_option linter.unusedSimpArgs false
namespace Go.Proofs.Ytjpdahalplkfbaa
open Go Go.RowKit Hd

theorem RHull_at (f c g d : Int) (ha : OkA f c) (hb : OkA g d) (w : World) : Calls Try.prog 44 #[av f c, av g d] w fun e w' => e = .returned (.tuple #[av (hullF f c g d) (hullC f c g d), .int .i64 0]) ∧ Below w.heap.size w w' := by
  have e := RHull_ok f c g d ha hb w; rwa [best_hull ha hb] at e

set_option maxRecDepth 100000 in
set_option maxHeartbeats 4000000 in
theorem Rarc0_w0 (x0 y0 x1 y1 f c : Int)    (w : World) :
    Calls Try.prog 45 #[.agg #[.int .i64 x0, .int .i64 y0, .int .i64 x1, .int .i64 y1, .int .i64 f, .int .i64 c]] w fun e w' => e = .returned (.agg #[.int .i64 f, .int .i64 c]) ∧ Below w.heap.size w w' := by
  obtain ⟨HB, B_z0, B_z1⟩ := box2 w 23 #[.int .i64 x0, .int .i64 y0, .int .i64 x1, .int .i64 y1, .int .i64 f, .int .i64 c] 59 #[.int .i64 0, .int .i64 0]
  go_enter Try.func45, Try.ntmps45
  go_upto_region 1 with (fail)
  generalize (w.alloc (.cells #[.int .i64 x0, .int .i64 y0, .int .i64 x1, .int .i64 y1, .int .i64 f, .int .i64 c] 23)).alloc (.cells #[.int .i64 0, .int .i64 0] 59) = W0 at *
  obtain ⟨c0z0, c1z0, c2z0, c3z0, c4z0, c5z0⟩ := cells6 B_z0
  obtain ⟨s0, s1⟩ := cells2 (stor2 B_z1 (.int .i64 f) (.int .i64 c))
  have HF := stb2 HB (y := w.heap.size + 1) (by omega) 0 (.int .i64 f) 1 (.int .i64 c)
  obtain ⟨c0z1, c1z1⟩ := cells2 B_z1
  obtain ⟨f0z1, f1z1⟩ := froz2 B_z1
  go_wp2_with fail
  exact bodyPost_ret (v := .agg #[.int .i64 f, .int .i64 c]) (by simp [results, Try.results45, go_sem, s0, s1]) rfl ⟨rfl, nextw HF.out (by exact sm)⟩

def Rarc0V (x0 y0 x1 y1 f c : Int) : Value := .agg #[.int .i64 f, .int .i64 c]
theorem Rarc0_any (x0 y0 x1 y1 f c : Int)  (w : World) :
    Calls Try.prog 45 #[.agg #[.int .i64 x0, .int .i64 y0, .int .i64 x1, .int .i64 y1, .int .i64 f, .int .i64 c]] w fun e w' => e = .returned (Rarc0V x0 y0 x1 y1 f c) ∧ Below w.heap.size w w' := by
  unfold Rarc0V
  exact Rarc0_w0 x0 y0 x1 y1 f c     w

theorem Rarc_any (x0 y0 x1 y1 f c : Int) (w : World) : Calls Try.prog 45 #[.agg #[.int .i64 x0, .int .i64 y0, .int .i64 x1, .int .i64 y1, .int .i64 f, .int .i64 c]] w fun e w' => e = .returned (.agg #[.int .i64 f, .int .i64 c]) ∧ Below w.heap.size w w' := Rarc0_any x0 y0 x1 y1 f c w

set_option maxRecDepth 100000 in
set_option maxHeartbeats 4000000 in
theorem RBHull0_w0 (x0 y0 x1 y1 f c u0 v0 u1 v1 g d : Int) (MX0 MX1 MX2 MX3 : Int) (mx0 : (if u0 < x0 then u0 else x0) = MX0) (mx1 : (if v0 < y0 then v0 else y0) = MX1) (mx2 : (if x1 < u1 then u1 else x1) = MX2) (mx3 : (if y1 < v1 then v1 else y1) = MX3)  (dd0 : OkB x0 y0 x1 y1 f c) (dd1 : OkB u0 v0 u1 v1 g d) (w : World) :
    Calls Try.prog 14 #[.agg #[.int .i64 x0, .int .i64 y0, .int .i64 x1, .int .i64 y1, .int .i64 f, .int .i64 c], .agg #[.int .i64 u0, .int .i64 v0, .int .i64 u1, .int .i64 v1, .int .i64 g, .int .i64 d]] w fun e w' => e = .returned (.tuple #[.agg #[.int .i64 MX0, .int .i64 MX1, .int .i64 MX2, .int .i64 MX3, .int .i64 (hullF f c g d), .int .i64 (hullC f c g d)], .int .i64 0]) ∧ Below w.heap.size w w' := by
  have H0 := Lib.hid (fun w => BBox_yes dd0 w)
  have H1 := Lib.hid (fun w => BBox_yes dd1 w)
  have H2 := Lib.hid (fun w => Rarc_any x0 y0 x1 y1 f c w)
  have H3 := Lib.hid (fun w => Rarc_any u0 v0 u1 v1 g d w)
  have H4 := Lib.hid (fun w => RHull_at f c g d dd0.a dd1.a w)
  replace mx0 := Lib.hid mx0
  replace mx1 := Lib.hid mx1
  replace mx2 := Lib.hid mx2
  replace mx3 := Lib.hid mx3
  obtain ⟨HB, B_z0, B_z1, B_z2⟩ := box3 w 23 #[.int .i64 x0, .int .i64 y0, .int .i64 x1, .int .i64 y1, .int .i64 f, .int .i64 c] 23 #[.int .i64 u0, .int .i64 v0, .int .i64 u1, .int .i64 v1, .int .i64 g, .int .i64 d] 23 #[.int .i64 0, .int .i64 0, .int .i64 0, .int .i64 0, .int .i64 0, .int .i64 0]
  go_enter Try.func14, Try.ntmps14
  go_upto_region 1 with (fail)
  generalize ((w.alloc (.cells #[.int .i64 x0, .int .i64 y0, .int .i64 x1, .int .i64 y1, .int .i64 f, .int .i64 c] 23)).alloc (.cells #[.int .i64 u0, .int .i64 v0, .int .i64 u1, .int .i64 v1, .int .i64 g, .int .i64 d] 23)).alloc (.cells #[.int .i64 0, .int .i64 0, .int .i64 0, .int .i64 0, .int .i64 0, .int .i64 0] 23) = W0 at *
  obtain ⟨c0z0, c1z0, c2z0, c3z0, c4z0, c5z0⟩ := cells6 B_z0
  go_wp2_with fail
  refine (H0.out _).mono ?_
  clear c0z0 c1z0 c2z0 c3z0 c4z0 c5z0
  rintro e w1 ⟨rfl, bb⟩
  replace bb := nextw (w0 := W0) (by exact sm) bb
  replace B_z0 := mv B_z0 bb
  replace B_z1 := mv B_z1 bb
  replace B_z2 := mv B_z2 bb
  replace HB := nx HB bb
  clear bb
  obtain ⟨c0z1, c1z1, c2z1, c3z1, c4z1, c5z1⟩ := cells6 B_z1
  go_wp2_with fail
  refine (H1.out _).mono ?_
  clear c0z1 c1z1 c2z1 c3z1 c4z1 c5z1
  rintro e w2 ⟨rfl, bb⟩
  replace bb := nextw (w0 := w1) (by exact sm) bb
  replace B_z0 := mv B_z0 bb
  replace B_z1 := mv B_z1 bb
  replace B_z2 := mv B_z2 bb
  replace HB := nx HB bb
  clear bb
  go_upto_region 3 with (fail)
  go_cut [6, 7] (fun sv0 su0 wx => ∃ Pz3 : Nat, sv0 = (.pointer (some ⟨Pz3, 0, none⟩)) ∧ su0 = (.int .i64 0) ∧ Hid (w.heap.size ≠ Pz3) ∧ Hid (w.heap.size + 1 ≠ Pz3) ∧ Hid (w.heap.size + 1 + 1 ≠ Pz3) ∧ Hid (w.heap.size ≤ Pz3) ∧ Hid (Bx wx (Pz3) 59 #[.int .i64 (hullF f c g d), .int .i64 (hullC f c g d)]) ∧ Hid (Bx wx (w.heap.size) 23 #[.int .i64 x0, .int .i64 y0, .int .i64 x1, .int .i64 y1, .int .i64 f, .int .i64 c]) ∧ Hid (Bx wx (w.heap.size + 1) 23 #[.int .i64 u0, .int .i64 v0, .int .i64 u1, .int .i64 v1, .int .i64 g, .int .i64 d]) ∧ Hid (Bx wx (w.heap.size + 1 + 1) 23 #[.int .i64 0, .int .i64 0, .int .i64 0, .int .i64 0, .int .i64 0, .int .i64 0]) ∧ Hid (Below w.heap.size w wx))
  case first =>
    obtain ⟨c0z0, c1z0, c2z0, c3z0, c4z0, c5z0⟩ := cells6 B_z0
    obtain ⟨c0z1, c1z1, c2z1, c3z1, c4z1, c5z1⟩ := cells6 B_z1
    have tk1x0 : True := trivial
    go_region_held3 (fun w' => w'.cell? ⟨w.heap.size, 0, none⟩ = some (.int .i64 x0) ∧ w'.cell? ⟨w.heap.size, 1, none⟩ = some (.int .i64 y0) ∧ w'.cell? ⟨w.heap.size, 2, none⟩ = some (.int .i64 x1) ∧ w'.cell? ⟨w.heap.size, 3, none⟩ = some (.int .i64 y1) ∧ w'.cell? ⟨w.heap.size, 4, none⟩ = some (.int .i64 f) ∧ w'.cell? ⟨w.heap.size, 5, none⟩ = some (.int .i64 c) ∧ w'.cell? ⟨w.heap.size + 1, 0, none⟩ = some (.int .i64 u0) ∧ w'.cell? ⟨w.heap.size + 1, 1, none⟩ = some (.int .i64 v0) ∧ w'.cell? ⟨w.heap.size + 1, 2, none⟩ = some (.int .i64 u1) ∧ w'.cell? ⟨w.heap.size + 1, 3, none⟩ = some (.int .i64 v1) ∧ w'.cell? ⟨w.heap.size + 1, 4, none⟩ = some (.int .i64 g) ∧ w'.cell? ⟨w.heap.size + 1, 5, none⟩ = some (.int .i64 d)) (((try dsimp only); (repeat' apply And.intro) <;> (first | (with_reducible assumption) | ((repeat (first | (with_reducible refine Eq.trans (cell_drew1 _ _) ?_) | (with_reducible refine Eq.trans (cell_far (by omega) _ _ _) ?_) | (with_reducible refine Eq.trans (World.cell?_alloc_lt _ _ _ (by first | (dsimp only; omega) | (simp only [World.size_alloc, World.size_setCell]; omega))) ?_))); with_reducible assumption) | assumption | go_keep)))
    (first
      | (clear tk1x0; go_at_call 45; refine (H2.out _).mono ?_; rintro e w3 ⟨rfl, bb⟩; replace bb := nextr (w0 := w2) bb (sm rfl rfl rfl (Nat.le_refl _) (fun _ _ => rfl)); replace B_z0 := mv B_z0 bb; replace B_z1 := mv B_z1 bb; replace B_z2 := mv B_z2 bb; replace HB := nx HB bb; clear bb c0z0 c1z0 c2z0 c3z0 c4z0 c5z0 c0z1 c1z1 c2z1 c3z1 c4z1 c5z1; have c0z0 : w3.cell? ⟨w.heap.size, 0, none⟩ = some (.int .i64 x0) := B_z0.out.cell 0 rfl; have c1z0 : w3.cell? ⟨w.heap.size, 1, none⟩ = some (.int .i64 y0) := B_z0.out.cell 1 rfl; have c2z0 : w3.cell? ⟨w.heap.size, 2, none⟩ = some (.int .i64 x1) := B_z0.out.cell 2 rfl; have c3z0 : w3.cell? ⟨w.heap.size, 3, none⟩ = some (.int .i64 y1) := B_z0.out.cell 3 rfl; have c4z0 : w3.cell? ⟨w.heap.size, 4, none⟩ = some (.int .i64 f) := B_z0.out.cell 4 rfl; have c5z0 : w3.cell? ⟨w.heap.size, 5, none⟩ = some (.int .i64 c) := B_z0.out.cell 5 rfl; have c0z1 : w3.cell? ⟨w.heap.size + 1, 0, none⟩ = some (.int .i64 u0) := B_z1.out.cell 0 rfl; have c1z1 : w3.cell? ⟨w.heap.size + 1, 1, none⟩ = some (.int .i64 v0) := B_z1.out.cell 1 rfl; have c2z1 : w3.cell? ⟨w.heap.size + 1, 2, none⟩ = some (.int .i64 u1) := B_z1.out.cell 2 rfl; have c3z1 : w3.cell? ⟨w.heap.size + 1, 3, none⟩ = some (.int .i64 v1) := B_z1.out.cell 3 rfl; have c4z1 : w3.cell? ⟨w.heap.size + 1, 4, none⟩ = some (.int .i64 g) := B_z1.out.cell 4 rfl; have c5z1 : w3.cell? ⟨w.heap.size + 1, 5, none⟩ = some (.int .i64 d) := B_z1.out.cell 5 rfl; have tk1x1 : True := trivial)
      | (clear tk1x0; go_at_call 45; refine (H2.out _).mono ?_; rintro e w3 ⟨rfl, bb⟩; replace bb := nextr (w0 := w2.alloc (.cells #[.int .i64 0, .int .i64 0] 59)) bb (sm rfl rfl rfl (Nat.le_refl _) (fun _ _ => rfl)); have NN : Hid (w.heap.size ≤ w2.heap.size ∧ w.heap.size ≠ w2.heap.size ∧ w.heap.size + 1 ≠ w2.heap.size ∧ w.heap.size + 1 + 1 ≠ w2.heap.size) := (by have lx_z0 := B_z0.out.lt; have lx_z1 := B_z1.out.lt; have lx_z2 := B_z2.out.lt; have hs := HB.out.size; unfold Hid; omega); have nnO := NN.out; have N := newB bb; replace bb := nextw (alB w2 (.cells #[.int .i64 0, .int .i64 0] 59)) bb; replace B_z0 := mv B_z0 bb; replace B_z1 := mv B_z1 bb; replace B_z2 := mv B_z2 bb; replace HB := nx HB bb; clear bb c0z0 c1z0 c2z0 c3z0 c4z0 c5z0 c0z1 c1z1 c2z1 c3z1 c4z1 c5z1; have c0z0 : w3.cell? ⟨w.heap.size, 0, none⟩ = some (.int .i64 x0) := B_z0.out.cell 0 rfl; have c1z0 : w3.cell? ⟨w.heap.size, 1, none⟩ = some (.int .i64 y0) := B_z0.out.cell 1 rfl; have c2z0 : w3.cell? ⟨w.heap.size, 2, none⟩ = some (.int .i64 x1) := B_z0.out.cell 2 rfl; have c3z0 : w3.cell? ⟨w.heap.size, 3, none⟩ = some (.int .i64 y1) := B_z0.out.cell 3 rfl; have c4z0 : w3.cell? ⟨w.heap.size, 4, none⟩ = some (.int .i64 f) := B_z0.out.cell 4 rfl; have c5z0 : w3.cell? ⟨w.heap.size, 5, none⟩ = some (.int .i64 c) := B_z0.out.cell 5 rfl; have c0z1 : w3.cell? ⟨w.heap.size + 1, 0, none⟩ = some (.int .i64 u0) := B_z1.out.cell 0 rfl; have c1z1 : w3.cell? ⟨w.heap.size + 1, 1, none⟩ = some (.int .i64 v0) := B_z1.out.cell 1 rfl; have c2z1 : w3.cell? ⟨w.heap.size + 1, 2, none⟩ = some (.int .i64 u1) := B_z1.out.cell 2 rfl; have c3z1 : w3.cell? ⟨w.heap.size + 1, 3, none⟩ = some (.int .i64 v1) := B_z1.out.cell 3 rfl; have c4z1 : w3.cell? ⟨w.heap.size + 1, 4, none⟩ = some (.int .i64 g) := B_z1.out.cell 4 rfl; have c5z1 : w3.cell? ⟨w.heap.size + 1, 5, none⟩ = some (.int .i64 d) := B_z1.out.cell 5 rfl; obtain ⟨cn0, cn1⟩ := cells2 N; obtain ⟨fn0, fn1⟩ := froz2 N; have tc1x1 : True := trivial)
      | (clear tk1x1; go_at_call 45; refine (H3.out _).mono ?_; rintro e w4 ⟨rfl, bb⟩; replace bb := nextr (w0 := w3) bb (sm rfl rfl rfl (Nat.le_refl _) (fun _ _ => rfl)); replace B_z0 := mv B_z0 bb; replace B_z1 := mv B_z1 bb; replace B_z2 := mv B_z2 bb; replace HB := nx HB bb; clear bb c0z0 c1z0 c2z0 c3z0 c4z0 c5z0 c0z1 c1z1 c2z1 c3z1 c4z1 c5z1; have c0z0 : w4.cell? ⟨w.heap.size, 0, none⟩ = some (.int .i64 x0) := B_z0.out.cell 0 rfl; have c1z0 : w4.cell? ⟨w.heap.size, 1, none⟩ = some (.int .i64 y0) := B_z0.out.cell 1 rfl; have c2z0 : w4.cell? ⟨w.heap.size, 2, none⟩ = some (.int .i64 x1) := B_z0.out.cell 2 rfl; have c3z0 : w4.cell? ⟨w.heap.size, 3, none⟩ = some (.int .i64 y1) := B_z0.out.cell 3 rfl; have c4z0 : w4.cell? ⟨w.heap.size, 4, none⟩ = some (.int .i64 f) := B_z0.out.cell 4 rfl; have c5z0 : w4.cell? ⟨w.heap.size, 5, none⟩ = some (.int .i64 c) := B_z0.out.cell 5 rfl; have c0z1 : w4.cell? ⟨w.heap.size + 1, 0, none⟩ = some (.int .i64 u0) := B_z1.out.cell 0 rfl; have c1z1 : w4.cell? ⟨w.heap.size + 1, 1, none⟩ = some (.int .i64 v0) := B_z1.out.cell 1 rfl; have c2z1 : w4.cell? ⟨w.heap.size + 1, 2, none⟩ = some (.int .i64 u1) := B_z1.out.cell 2 rfl; have c3z1 : w4.cell? ⟨w.heap.size + 1, 3, none⟩ = some (.int .i64 v1) := B_z1.out.cell 3 rfl; have c4z1 : w4.cell? ⟨w.heap.size + 1, 4, none⟩ = some (.int .i64 g) := B_z1.out.cell 4 rfl; have c5z1 : w4.cell? ⟨w.heap.size + 1, 5, none⟩ = some (.int .i64 d) := B_z1.out.cell 5 rfl; have tk1x2 : True := trivial)
      | (clear tk1x1; go_at_call 45; refine (H3.out _).mono ?_; rintro e w4 ⟨rfl, bb⟩; replace bb := nextr (w0 := w3.alloc (.cells #[.int .i64 0, .int .i64 0] 59)) bb (sm rfl rfl rfl (Nat.le_refl _) (fun _ _ => rfl)); have NN : Hid (w.heap.size ≤ w3.heap.size ∧ w.heap.size ≠ w3.heap.size ∧ w.heap.size + 1 ≠ w3.heap.size ∧ w.heap.size + 1 + 1 ≠ w3.heap.size) := (by have lx_z0 := B_z0.out.lt; have lx_z1 := B_z1.out.lt; have lx_z2 := B_z2.out.lt; have hs := HB.out.size; unfold Hid; omega); have nnO := NN.out; have N := newB bb; replace bb := nextw (alB w3 (.cells #[.int .i64 0, .int .i64 0] 59)) bb; replace B_z0 := mv B_z0 bb; replace B_z1 := mv B_z1 bb; replace B_z2 := mv B_z2 bb; replace HB := nx HB bb; clear bb c0z0 c1z0 c2z0 c3z0 c4z0 c5z0 c0z1 c1z1 c2z1 c3z1 c4z1 c5z1; have c0z0 : w4.cell? ⟨w.heap.size, 0, none⟩ = some (.int .i64 x0) := B_z0.out.cell 0 rfl; have c1z0 : w4.cell? ⟨w.heap.size, 1, none⟩ = some (.int .i64 y0) := B_z0.out.cell 1 rfl; have c2z0 : w4.cell? ⟨w.heap.size, 2, none⟩ = some (.int .i64 x1) := B_z0.out.cell 2 rfl; have c3z0 : w4.cell? ⟨w.heap.size, 3, none⟩ = some (.int .i64 y1) := B_z0.out.cell 3 rfl; have c4z0 : w4.cell? ⟨w.heap.size, 4, none⟩ = some (.int .i64 f) := B_z0.out.cell 4 rfl; have c5z0 : w4.cell? ⟨w.heap.size, 5, none⟩ = some (.int .i64 c) := B_z0.out.cell 5 rfl; have c0z1 : w4.cell? ⟨w.heap.size + 1, 0, none⟩ = some (.int .i64 u0) := B_z1.out.cell 0 rfl; have c1z1 : w4.cell? ⟨w.heap.size + 1, 1, none⟩ = some (.int .i64 v0) := B_z1.out.cell 1 rfl; have c2z1 : w4.cell? ⟨w.heap.size + 1, 2, none⟩ = some (.int .i64 u1) := B_z1.out.cell 2 rfl; have c3z1 : w4.cell? ⟨w.heap.size + 1, 3, none⟩ = some (.int .i64 v1) := B_z1.out.cell 3 rfl; have c4z1 : w4.cell? ⟨w.heap.size + 1, 4, none⟩ = some (.int .i64 g) := B_z1.out.cell 4 rfl; have c5z1 : w4.cell? ⟨w.heap.size + 1, 5, none⟩ = some (.int .i64 d) := B_z1.out.cell 5 rfl; obtain ⟨cn0, cn1⟩ := cells2 N; obtain ⟨fn0, fn1⟩ := froz2 N; have tc1x2 : True := trivial)
      | (clear tc1x1; clear cn0 cn1 fn0 fn1; go_at_call 45; refine (H3.out _).mono ?_; rintro e w4 ⟨rfl, bb⟩; replace bb := nextr (w0 := w3) bb (sm rfl rfl rfl (Nat.le_refl _) (fun _ _ => rfl)); replace N := mv N bb; replace B_z0 := mv B_z0 bb; replace B_z1 := mv B_z1 bb; replace B_z2 := mv B_z2 bb; replace HB := nx HB bb; clear bb c0z0 c1z0 c2z0 c3z0 c4z0 c5z0 c0z1 c1z1 c2z1 c3z1 c4z1 c5z1; have c0z0 : w4.cell? ⟨w.heap.size, 0, none⟩ = some (.int .i64 x0) := B_z0.out.cell 0 rfl; have c1z0 : w4.cell? ⟨w.heap.size, 1, none⟩ = some (.int .i64 y0) := B_z0.out.cell 1 rfl; have c2z0 : w4.cell? ⟨w.heap.size, 2, none⟩ = some (.int .i64 x1) := B_z0.out.cell 2 rfl; have c3z0 : w4.cell? ⟨w.heap.size, 3, none⟩ = some (.int .i64 y1) := B_z0.out.cell 3 rfl; have c4z0 : w4.cell? ⟨w.heap.size, 4, none⟩ = some (.int .i64 f) := B_z0.out.cell 4 rfl; have c5z0 : w4.cell? ⟨w.heap.size, 5, none⟩ = some (.int .i64 c) := B_z0.out.cell 5 rfl; have c0z1 : w4.cell? ⟨w.heap.size + 1, 0, none⟩ = some (.int .i64 u0) := B_z1.out.cell 0 rfl; have c1z1 : w4.cell? ⟨w.heap.size + 1, 1, none⟩ = some (.int .i64 v0) := B_z1.out.cell 1 rfl; have c2z1 : w4.cell? ⟨w.heap.size + 1, 2, none⟩ = some (.int .i64 u1) := B_z1.out.cell 2 rfl; have c3z1 : w4.cell? ⟨w.heap.size + 1, 3, none⟩ = some (.int .i64 v1) := B_z1.out.cell 3 rfl; have c4z1 : w4.cell? ⟨w.heap.size + 1, 4, none⟩ = some (.int .i64 g) := B_z1.out.cell 4 rfl; have c5z1 : w4.cell? ⟨w.heap.size + 1, 5, none⟩ = some (.int .i64 d) := B_z1.out.cell 5 rfl; obtain ⟨cn0, cn1⟩ := cells2 N; obtain ⟨fn0, fn1⟩ := froz2 N; have tc1x2 : True := trivial)
      | (clear tk1x2; go_at_call 44; refine (H4.out _).mono ?_; rintro e w5 ⟨rfl, bb⟩; replace bb := nextr (w0 := w4) bb (sm rfl rfl rfl (Nat.le_refl _) (fun _ _ => rfl)); replace B_z0 := mv B_z0 bb; replace B_z1 := mv B_z1 bb; replace B_z2 := mv B_z2 bb; replace HB := nx HB bb; clear bb c0z0 c1z0 c2z0 c3z0 c4z0 c5z0 c0z1 c1z1 c2z1 c3z1 c4z1 c5z1; have c0z0 : w5.cell? ⟨w.heap.size, 0, none⟩ = some (.int .i64 x0) := B_z0.out.cell 0 rfl; have c1z0 : w5.cell? ⟨w.heap.size, 1, none⟩ = some (.int .i64 y0) := B_z0.out.cell 1 rfl; have c2z0 : w5.cell? ⟨w.heap.size, 2, none⟩ = some (.int .i64 x1) := B_z0.out.cell 2 rfl; have c3z0 : w5.cell? ⟨w.heap.size, 3, none⟩ = some (.int .i64 y1) := B_z0.out.cell 3 rfl; have c4z0 : w5.cell? ⟨w.heap.size, 4, none⟩ = some (.int .i64 f) := B_z0.out.cell 4 rfl; have c5z0 : w5.cell? ⟨w.heap.size, 5, none⟩ = some (.int .i64 c) := B_z0.out.cell 5 rfl; have c0z1 : w5.cell? ⟨w.heap.size + 1, 0, none⟩ = some (.int .i64 u0) := B_z1.out.cell 0 rfl; have c1z1 : w5.cell? ⟨w.heap.size + 1, 1, none⟩ = some (.int .i64 v0) := B_z1.out.cell 1 rfl; have c2z1 : w5.cell? ⟨w.heap.size + 1, 2, none⟩ = some (.int .i64 u1) := B_z1.out.cell 2 rfl; have c3z1 : w5.cell? ⟨w.heap.size + 1, 3, none⟩ = some (.int .i64 v1) := B_z1.out.cell 3 rfl; have c4z1 : w5.cell? ⟨w.heap.size + 1, 4, none⟩ = some (.int .i64 g) := B_z1.out.cell 4 rfl; have c5z1 : w5.cell? ⟨w.heap.size + 1, 5, none⟩ = some (.int .i64 d) := B_z1.out.cell 5 rfl; have tk1x3 : True := trivial)
      | (clear tk1x2; go_at_call 44; refine (H4.out _).mono ?_; rintro e w5 ⟨rfl, bb⟩; replace bb := nextr (w0 := w4.alloc (.cells #[.int .i64 0, .int .i64 0] 59)) bb (sm rfl rfl rfl (Nat.le_refl _) (fun _ _ => rfl)); have NN : Hid (w.heap.size ≤ w4.heap.size ∧ w.heap.size ≠ w4.heap.size ∧ w.heap.size + 1 ≠ w4.heap.size ∧ w.heap.size + 1 + 1 ≠ w4.heap.size) := (by have lx_z0 := B_z0.out.lt; have lx_z1 := B_z1.out.lt; have lx_z2 := B_z2.out.lt; have hs := HB.out.size; unfold Hid; omega); have nnO := NN.out; have N := newB bb; replace bb := nextw (alB w4 (.cells #[.int .i64 0, .int .i64 0] 59)) bb; replace B_z0 := mv B_z0 bb; replace B_z1 := mv B_z1 bb; replace B_z2 := mv B_z2 bb; replace HB := nx HB bb; clear bb c0z0 c1z0 c2z0 c3z0 c4z0 c5z0 c0z1 c1z1 c2z1 c3z1 c4z1 c5z1; have c0z0 : w5.cell? ⟨w.heap.size, 0, none⟩ = some (.int .i64 x0) := B_z0.out.cell 0 rfl; have c1z0 : w5.cell? ⟨w.heap.size, 1, none⟩ = some (.int .i64 y0) := B_z0.out.cell 1 rfl; have c2z0 : w5.cell? ⟨w.heap.size, 2, none⟩ = some (.int .i64 x1) := B_z0.out.cell 2 rfl; have c3z0 : w5.cell? ⟨w.heap.size, 3, none⟩ = some (.int .i64 y1) := B_z0.out.cell 3 rfl; have c4z0 : w5.cell? ⟨w.heap.size, 4, none⟩ = some (.int .i64 f) := B_z0.out.cell 4 rfl; have c5z0 : w5.cell? ⟨w.heap.size, 5, none⟩ = some (.int .i64 c) := B_z0.out.cell 5 rfl; have c0z1 : w5.cell? ⟨w.heap.size + 1, 0, none⟩ = some (.int .i64 u0) := B_z1.out.cell 0 rfl; have c1z1 : w5.cell? ⟨w.heap.size + 1, 1, none⟩ = some (.int .i64 v0) := B_z1.out.cell 1 rfl; have c2z1 : w5.cell? ⟨w.heap.size + 1, 2, none⟩ = some (.int .i64 u1) := B_z1.out.cell 2 rfl; have c3z1 : w5.cell? ⟨w.heap.size + 1, 3, none⟩ = some (.int .i64 v1) := B_z1.out.cell 3 rfl; have c4z1 : w5.cell? ⟨w.heap.size + 1, 4, none⟩ = some (.int .i64 g) := B_z1.out.cell 4 rfl; have c5z1 : w5.cell? ⟨w.heap.size + 1, 5, none⟩ = some (.int .i64 d) := B_z1.out.cell 5 rfl; obtain ⟨cn0, cn1⟩ := cells2 N; obtain ⟨fn0, fn1⟩ := froz2 N; have tc1x3 : True := trivial)
      | (clear tc1x2; clear cn0 cn1 fn0 fn1; go_at_call 44; refine (H4.out _).mono ?_; rintro e w5 ⟨rfl, bb⟩; replace bb := nextr (w0 := w4) bb (sm rfl rfl rfl (Nat.le_refl _) (fun _ _ => rfl)); replace N := mv N bb; replace B_z0 := mv B_z0 bb; replace B_z1 := mv B_z1 bb; replace B_z2 := mv B_z2 bb; replace HB := nx HB bb; clear bb c0z0 c1z0 c2z0 c3z0 c4z0 c5z0 c0z1 c1z1 c2z1 c3z1 c4z1 c5z1; have c0z0 : w5.cell? ⟨w.heap.size, 0, none⟩ = some (.int .i64 x0) := B_z0.out.cell 0 rfl; have c1z0 : w5.cell? ⟨w.heap.size, 1, none⟩ = some (.int .i64 y0) := B_z0.out.cell 1 rfl; have c2z0 : w5.cell? ⟨w.heap.size, 2, none⟩ = some (.int .i64 x1) := B_z0.out.cell 2 rfl; have c3z0 : w5.cell? ⟨w.heap.size, 3, none⟩ = some (.int .i64 y1) := B_z0.out.cell 3 rfl; have c4z0 : w5.cell? ⟨w.heap.size, 4, none⟩ = some (.int .i64 f) := B_z0.out.cell 4 rfl; have c5z0 : w5.cell? ⟨w.heap.size, 5, none⟩ = some (.int .i64 c) := B_z0.out.cell 5 rfl; have c0z1 : w5.cell? ⟨w.heap.size + 1, 0, none⟩ = some (.int .i64 u0) := B_z1.out.cell 0 rfl; have c1z1 : w5.cell? ⟨w.heap.size + 1, 1, none⟩ = some (.int .i64 v0) := B_z1.out.cell 1 rfl; have c2z1 : w5.cell? ⟨w.heap.size + 1, 2, none⟩ = some (.int .i64 u1) := B_z1.out.cell 2 rfl; have c3z1 : w5.cell? ⟨w.heap.size + 1, 3, none⟩ = some (.int .i64 v1) := B_z1.out.cell 3 rfl; have c4z1 : w5.cell? ⟨w.heap.size + 1, 4, none⟩ = some (.int .i64 g) := B_z1.out.cell 4 rfl; have c5z1 : w5.cell? ⟨w.heap.size + 1, 5, none⟩ = some (.int .i64 d) := B_z1.out.cell 5 rfl; obtain ⟨cn0, cn1⟩ := cells2 N; obtain ⟨fn0, fn1⟩ := froz2 N; have tc1x3 : True := trivial))
    all_goals go_wp2_with fail
    all_goals go_meet
    all_goals first
        | (refine ⟨w5.heap.size, rfl, rfl, ?_⟩; have lx_z0 := B_z0.out.lt; have lx_z1 := B_z1.out.lt; have lx_z2 := B_z2.out.lt; obtain ⟨bb, b0⟩ := box1 w5 59 #[.int .i64 (hullF f c g d), .int .i64 (hullC f c g d)]; replace bb := bb.out; have hs := HB.out.size; exact ⟨(by unfold Hid; omega), (by unfold Hid; omega), (by unfold Hid; omega), (by unfold Hid; omega), mv b0 sm, mv (mv B_z0 bb) sm, mv (mv B_z1 bb) sm, mv (mv B_z2 bb) sm, nx (nx HB bb) sm⟩)
        | (refine ⟨w2.heap.size, rfl, rfl, ?_⟩; obtain ⟨hl, h0, h1, h2⟩ := NN.out; exact ⟨Lib.hid h0, Lib.hid h1, Lib.hid h2, Lib.hid hl, mv (stor2 N (.int .i64 (hullF f c g d)) (.int .i64 (hullC f c g d))) sm, mv (far2 B_z0 h0 0 (.int .i64 (hullF f c g d)) 1 (.int .i64 (hullC f c g d))) sm, mv (far2 B_z1 h1 0 (.int .i64 (hullF f c g d)) 1 (.int .i64 (hullC f c g d))) sm, mv (far2 B_z2 h2 0 (.int .i64 (hullF f c g d)) 1 (.int .i64 (hullC f c g d))) sm, nx (stb2 HB hl 0 (.int .i64 (hullF f c g d)) 1 (.int .i64 (hullC f c g d))) sm⟩)
        | (refine ⟨w3.heap.size, rfl, rfl, ?_⟩; obtain ⟨hl, h0, h1, h2⟩ := NN.out; exact ⟨Lib.hid h0, Lib.hid h1, Lib.hid h2, Lib.hid hl, mv (stor2 N (.int .i64 (hullF f c g d)) (.int .i64 (hullC f c g d))) sm, mv (far2 B_z0 h0 0 (.int .i64 (hullF f c g d)) 1 (.int .i64 (hullC f c g d))) sm, mv (far2 B_z1 h1 0 (.int .i64 (hullF f c g d)) 1 (.int .i64 (hullC f c g d))) sm, mv (far2 B_z2 h2 0 (.int .i64 (hullF f c g d)) 1 (.int .i64 (hullC f c g d))) sm, nx (stb2 HB hl 0 (.int .i64 (hullF f c g d)) 1 (.int .i64 (hullC f c g d))) sm⟩)
        | (refine ⟨w4.heap.size, rfl, rfl, ?_⟩; obtain ⟨hl, h0, h1, h2⟩ := NN.out; exact ⟨Lib.hid h0, Lib.hid h1, Lib.hid h2, Lib.hid hl, mv (stor2 N (.int .i64 (hullF f c g d)) (.int .i64 (hullC f c g d))) sm, mv (far2 B_z0 h0 0 (.int .i64 (hullF f c g d)) 1 (.int .i64 (hullC f c g d))) sm, mv (far2 B_z1 h1 0 (.int .i64 (hullF f c g d)) 1 (.int .i64 (hullC f c g d))) sm, mv (far2 B_z2 h2 0 (.int .i64 (hullF f c g d)) 1 (.int .i64 (hullC f c g d))) sm, nx (stb2 HB hl 0 (.int .i64 (hullF f c g d)) 1 (.int .i64 (hullC f c g d))) sm⟩)
  case rest =>
    clear B_z0
    clear B_z1
    clear B_z2
    clear HB
    rename World => wc6
    obtain ⟨Pz3, rfl, rfl, noz0Pz3, noz1Pz3, noz2Pz3, lePz3, B_z3, B_z0, B_z1, B_z2, HB⟩ := hcut
    have lePz3' := lePz3.out
    have mxo0 := mx0.out
    have mxo1 := mx1.out
    have mxo2 := mx2.out
    have mxo3 := mx3.out
    obtain ⟨c0z0, c1z0, c2z0, c3z0, c4z0, c5z0⟩ := cells6 B_z0
    obtain ⟨c0z1, c1z1, c2z1, c3z1, c4z1, c5z1⟩ := cells6 B_z1
    obtain ⟨c0z3, c1z3⟩ := cells2 B_z3
    obtain ⟨s0, s1, s2, s3, s4, s5⟩ := cells6 (stor6 B_z2 (.int .i64 MX0) (.int .i64 MX1) (.int .i64 MX2) (.int .i64 MX3) (.int .i64 (hullF f c g d)) (.int .i64 (hullC f c g d)))
    have HF := stb6 HB (y := w.heap.size + 1 + 1) (by omega) 0 (.int .i64 MX0) 1 (.int .i64 MX1) 2 (.int .i64 MX2) 3 (.int .i64 MX3) 4 (.int .i64 (hullF f c g d)) 5 (.int .i64 (hullC f c g d))
    obtain ⟨c0z2, c1z2, c2z2, c3z2, c4z2, c5z2⟩ := cells6 B_z2
    obtain ⟨f0z2, f1z2, f2z2, f3z2, f4z2, f5z2⟩ := froz6 B_z2
    go_wp2_with fail
    exact bodyPost_ret (v := .tuple #[.agg #[.int .i64 MX0, .int .i64 MX1, .int .i64 MX2, .int .i64 MX3, .int .i64 (hullF f c g d), .int .i64 (hullC f c g d)], .int .i64 0]) (by simp [results, Try.results14, go_sem, s0, s1, s2, s3, s4, s5]) rfl ⟨rfl, nextw HF.out (by exact sm)⟩

set_option maxRecDepth 100000 in
set_option maxHeartbeats 4000000 in
theorem RBHull0_w1 (x0 y0 x1 y1 f c u0 v0 u1 v1 g d : Int)   (dd0 : ¬ (OkB x0 y0 x1 y1 f c)) (w : World) :
    Calls Try.prog 14 #[.agg #[.int .i64 x0, .int .i64 y0, .int .i64 x1, .int .i64 y1, .int .i64 f, .int .i64 c], .agg #[.int .i64 u0, .int .i64 v0, .int .i64 u1, .int .i64 v1, .int .i64 g, .int .i64 d]] w fun e w' => e = .returned (.tuple #[.agg #[.int .i64 0, .int .i64 0, .int .i64 0, .int .i64 0, .int .i64 0, .int .i64 0], .int .i64 1]) ∧ Below w.heap.size w w' := by
  have H0 := Lib.hid (fun w => BBox_no dd0 w)
  obtain ⟨HB, B_z0, B_z1, B_z2⟩ := box3 w 23 #[.int .i64 x0, .int .i64 y0, .int .i64 x1, .int .i64 y1, .int .i64 f, .int .i64 c] 23 #[.int .i64 u0, .int .i64 v0, .int .i64 u1, .int .i64 v1, .int .i64 g, .int .i64 d] 23 #[.int .i64 0, .int .i64 0, .int .i64 0, .int .i64 0, .int .i64 0, .int .i64 0]
  go_enter Try.func14, Try.ntmps14
  go_upto_region 1 with (fail)
  generalize ((w.alloc (.cells #[.int .i64 x0, .int .i64 y0, .int .i64 x1, .int .i64 y1, .int .i64 f, .int .i64 c] 23)).alloc (.cells #[.int .i64 u0, .int .i64 v0, .int .i64 u1, .int .i64 v1, .int .i64 g, .int .i64 d] 23)).alloc (.cells #[.int .i64 0, .int .i64 0, .int .i64 0, .int .i64 0, .int .i64 0, .int .i64 0] 23) = W0 at *
  obtain ⟨c0z0, c1z0, c2z0, c3z0, c4z0, c5z0⟩ := cells6 B_z0
  go_wp2_with fail
  refine (H0.out _).mono ?_
  clear c0z0 c1z0 c2z0 c3z0 c4z0 c5z0
  rintro e w1 ⟨rfl, bb⟩
  replace bb := nextw (w0 := W0) (by exact sm) bb
  replace B_z0 := mv B_z0 bb
  replace B_z1 := mv B_z1 bb
  replace B_z2 := mv B_z2 bb
  replace HB := nx HB bb
  clear bb
  obtain ⟨s0, s1, s2, s3, s4, s5⟩ := cells6 (stor6 B_z2 (.int .i64 0) (.int .i64 0) (.int .i64 0) (.int .i64 0) (.int .i64 0) (.int .i64 0))
  have HF := stb6 HB (y := w.heap.size + 1 + 1) (by omega) 0 (.int .i64 0) 1 (.int .i64 0) 2 (.int .i64 0) 3 (.int .i64 0) 4 (.int .i64 0) 5 (.int .i64 0)
  obtain ⟨c0z2, c1z2, c2z2, c3z2, c4z2, c5z2⟩ := cells6 B_z2
  obtain ⟨f0z2, f1z2, f2z2, f3z2, f4z2, f5z2⟩ := froz6 B_z2
  go_wp2_with fail
  exact bodyPost_ret (v := .tuple #[.agg #[.int .i64 0, .int .i64 0, .int .i64 0, .int .i64 0, .int .i64 0, .int .i64 0], .int .i64 1]) (by simp [results, Try.results14, go_sem, s0, s1, s2, s3, s4, s5]) rfl ⟨rfl, nextw HF.out (by exact sm)⟩

set_option maxRecDepth 100000 in
set_option maxHeartbeats 4000000 in
theorem RBHull0_w2 (x0 y0 x1 y1 f c u0 v0 u1 v1 g d : Int)   (dd0 : OkB x0 y0 x1 y1 f c) (dd1 : ¬ (OkB u0 v0 u1 v1 g d)) (w : World) :
    Calls Try.prog 14 #[.agg #[.int .i64 x0, .int .i64 y0, .int .i64 x1, .int .i64 y1, .int .i64 f, .int .i64 c], .agg #[.int .i64 u0, .int .i64 v0, .int .i64 u1, .int .i64 v1, .int .i64 g, .int .i64 d]] w fun e w' => e = .returned (.tuple #[.agg #[.int .i64 0, .int .i64 0, .int .i64 0, .int .i64 0, .int .i64 0, .int .i64 0], .int .i64 1]) ∧ Below w.heap.size w w' := by
  have H0 := Lib.hid (fun w => BBox_yes dd0 w)
  have H1 := Lib.hid (fun w => BBox_no dd1 w)
  obtain ⟨HB, B_z0, B_z1, B_z2⟩ := box3 w 23 #[.int .i64 x0, .int .i64 y0, .int .i64 x1, .int .i64 y1, .int .i64 f, .int .i64 c] 23 #[.int .i64 u0, .int .i64 v0, .int .i64 u1, .int .i64 v1, .int .i64 g, .int .i64 d] 23 #[.int .i64 0, .int .i64 0, .int .i64 0, .int .i64 0, .int .i64 0, .int .i64 0]
  go_enter Try.func14, Try.ntmps14
  go_upto_region 1 with (fail)
  generalize ((w.alloc (.cells #[.int .i64 x0, .int .i64 y0, .int .i64 x1, .int .i64 y1, .int .i64 f, .int .i64 c] 23)).alloc (.cells #[.int .i64 u0, .int .i64 v0, .int .i64 u1, .int .i64 v1, .int .i64 g, .int .i64 d] 23)).alloc (.cells #[.int .i64 0, .int .i64 0, .int .i64 0, .int .i64 0, .int .i64 0, .int .i64 0] 23) = W0 at *
  obtain ⟨c0z0, c1z0, c2z0, c3z0, c4z0, c5z0⟩ := cells6 B_z0
  go_wp2_with fail
  refine (H0.out _).mono ?_
  clear c0z0 c1z0 c2z0 c3z0 c4z0 c5z0
  rintro e w1 ⟨rfl, bb⟩
  replace bb := nextw (w0 := W0) (by exact sm) bb
  replace B_z0 := mv B_z0 bb
  replace B_z1 := mv B_z1 bb
  replace B_z2 := mv B_z2 bb
  replace HB := nx HB bb
  clear bb
  obtain ⟨c0z1, c1z1, c2z1, c3z1, c4z1, c5z1⟩ := cells6 B_z1
  go_wp2_with fail
  refine (H1.out _).mono ?_
  clear c0z1 c1z1 c2z1 c3z1 c4z1 c5z1
  rintro e w2 ⟨rfl, bb⟩
  replace bb := nextw (w0 := w1) (by exact sm) bb
  replace B_z0 := mv B_z0 bb
  replace B_z1 := mv B_z1 bb
  replace B_z2 := mv B_z2 bb
  replace HB := nx HB bb
  clear bb
  obtain ⟨s0, s1, s2, s3, s4, s5⟩ := cells6 (stor6 B_z2 (.int .i64 0) (.int .i64 0) (.int .i64 0) (.int .i64 0) (.int .i64 0) (.int .i64 0))
  have HF := stb6 HB (y := w.heap.size + 1 + 1) (by omega) 0 (.int .i64 0) 1 (.int .i64 0) 2 (.int .i64 0) 3 (.int .i64 0) 4 (.int .i64 0) 5 (.int .i64 0)
  obtain ⟨c0z2, c1z2, c2z2, c3z2, c4z2, c5z2⟩ := cells6 B_z2
  obtain ⟨f0z2, f1z2, f2z2, f3z2, f4z2, f5z2⟩ := froz6 B_z2
  go_wp2_with fail
  exact bodyPost_ret (v := .tuple #[.agg #[.int .i64 0, .int .i64 0, .int .i64 0, .int .i64 0, .int .i64 0, .int .i64 0], .int .i64 1]) (by simp [results, Try.results14, go_sem, s0, s1, s2, s3, s4, s5]) rfl ⟨rfl, nextw HF.out (by exact sm)⟩

def RBHull0V (x0 y0 x1 y1 f c u0 v0 u1 v1 g d : Int) : Value := if OkB x0 y0 x1 y1 f c then if OkB u0 v0 u1 v1 g d then .tuple #[.agg #[.int .i64 (if u0 < x0 then u0 else x0), .int .i64 (if v0 < y0 then v0 else y0), .int .i64 (if x1 < u1 then u1 else x1), .int .i64 (if y1 < v1 then v1 else y1), .int .i64 (hullF f c g d), .int .i64 (hullC f c g d)], .int .i64 0] else .tuple #[.agg #[.int .i64 0, .int .i64 0, .int .i64 0, .int .i64 0, .int .i64 0, .int .i64 0], .int .i64 1] else .tuple #[.agg #[.int .i64 0, .int .i64 0, .int .i64 0, .int .i64 0, .int .i64 0, .int .i64 0], .int .i64 1]
theorem RBHull0_any (x0 y0 x1 y1 f c u0 v0 u1 v1 g d : Int)  (w : World) :
    Calls Try.prog 14 #[.agg #[.int .i64 x0, .int .i64 y0, .int .i64 x1, .int .i64 y1, .int .i64 f, .int .i64 c], .agg #[.int .i64 u0, .int .i64 v0, .int .i64 u1, .int .i64 v1, .int .i64 g, .int .i64 d]] w fun e w' => e = .returned (RBHull0V x0 y0 x1 y1 f c u0 v0 u1 v1 g d) ∧ Below w.heap.size w w' := by
  unfold RBHull0V
  by_cases dd0 : OkB x0 y0 x1 y1 f c
  · rw [if_pos dd0]
    by_cases dd1 : OkB u0 v0 u1 v1 g d
    · rw [if_pos dd1]
      exact RBHull0_w0 x0 y0 x1 y1 f c u0 v0 u1 v1 g d _ _ _ _ rfl rfl rfl rfl  dd0 dd1 w
    · rw [if_neg dd1]
      exact RBHull0_w2 x0 y0 x1 y1 f c u0 v0 u1 v1 g d    dd0 dd1 w
  · rw [if_neg dd0]
    exact RBHull0_w1 x0 y0 x1 y1 f c u0 v0 u1 v1 g d    dd0 w

theorem RBHull_yes {x0 y0 x1 y1 f c u0 v0 u1 v1 g d : Int} (h : OkB x0 y0 x1 y1 f c ∧ OkB u0 v0 u1 v1 g d) (w : World) : Calls Try.prog 14 #[.agg #[.int .i64 x0, .int .i64 y0, .int .i64 x1, .int .i64 y1, .int .i64 f, .int .i64 c], .agg #[.int .i64 u0, .int .i64 v0, .int .i64 u1, .int .i64 v1, .int .i64 g, .int .i64 d]] w fun e w' => e = .returned (.tuple #[.agg #[.int .i64 (min x0 u0), .int .i64 (min y0 v0), .int .i64 (max x1 u1), .int .i64 (max y1 v1), .int .i64 (hullF f c g d), .int .i64 (hullC f c g d)], .int .i64 0]) ∧ Below w.heap.size w w' := by
  have e := RBHull0_any x0 y0 x1 y1 f c u0 v0 u1 v1 g d w
  rw [show RBHull0V x0 y0 x1 y1 f c u0 v0 u1 v1 g d = .tuple #[.agg #[.int .i64 (min x0 u0), .int .i64 (min y0 v0), .int .i64 (max x1 u1), .int .i64 (max y1 v1), .int .i64 (hullF f c g d), .int .i64 (hullC f c g d)], .int .i64 0] from ?_] at e
  · exact e
  · have e1 : (if u0 < x0 then u0 else x0) = min x0 u0 := by split <;> omega
    have e2 : (if v0 < y0 then v0 else y0) = min y0 v0 := by split <;> omega
    have e3 : (if x1 < u1 then u1 else x1) = max x1 u1 := by split <;> omega
    have e4 : (if y1 < v1 then v1 else y1) = max y1 v1 := by split <;> omega
    unfold RBHull0V
    rw [if_pos h.1, if_pos h.2, e1, e2, e3, e4]
theorem RBHull_no {x0 y0 x1 y1 f c u0 v0 u1 v1 g d : Int} (h : ¬ (OkB x0 y0 x1 y1 f c ∧ OkB u0 v0 u1 v1 g d)) (w : World) : Calls Try.prog 14 #[.agg #[.int .i64 x0, .int .i64 y0, .int .i64 x1, .int .i64 y1, .int .i64 f, .int .i64 c], .agg #[.int .i64 u0, .int .i64 v0, .int .i64 u1, .int .i64 v1, .int .i64 g, .int .i64 d]] w fun e w' => e = .returned (.tuple #[.agg #[.int .i64 0, .int .i64 0, .int .i64 0, .int .i64 0, .int .i64 0, .int .i64 0], .int .i64 1]) ∧ Below w.heap.size w w' := by
  have e := RBHull0_any x0 y0 x1 y1 f c u0 v0 u1 v1 g d w
  rw [show RBHull0V x0 y0 x1 y1 f c u0 v0 u1 v1 g d = .tuple #[.agg #[.int .i64 0, .int .i64 0, .int .i64 0, .int .i64 0, .int .i64 0, .int .i64 0], .int .i64 1] from ?_] at e
  · exact e
  · unfold RBHull0V
    split
    · split
      · rename_i k1 k2; exact absurd ⟨k1, k2⟩ h
      · rfl
    · rfl
theorem RVol_eq {x0 y0 x1 y1 f c s : Int} (h : volI x0 y0 x1 y1 f c = s) (w : World) : Calls Try.prog 20 #[.agg #[.int .i64 x0, .int .i64 y0, .int .i64 x1, .int .i64 y1, .int .i64 f, .int .i64 c]] w fun e w' => e = .returned (.int .i64 s) ∧ Below w.heap.size w w' := by
  have e := RVol_any x0 y0 x1 y1 f c w
  rwa [show RVolV x0 y0 x1 y1 f c = .int .i64 s by rw [← h]; unfold RVolV volI volM; split <;> rfl] at e
theorem RHasB_eq (x0 y0 x1 y1 f c x y h : Int) : RHasBV x0 y0 x1 y1 f c x y h = .bool (decide (HasP x0 y0 x1 y1 f c x y h)) := by
  unfold RHasBV
  by_cases k : HasP x0 y0 x1 y1 f c x y h
  · rw [decide_eq_true k]
    obtain ⟨k0, k1, k2, k3, k4, k5⟩ := k
    rw [if_pos k0, if_pos k1, if_pos k2, if_pos k3, if_pos k4]; unfold hasB at k5; rw [k5]
  · rw [decide_eq_false k]
    repeat' split
    all_goals first | rfl | exact congrArg Value.bool (decide_eq_false fun hh => k ⟨by assumption, by assumption, by assumption, by assumption, by assumption, by unfold hasB; exact decide_eq_true hh⟩)
theorem RHas_eq {x0 y0 x1 y1 f c x y h : Int} {t : Bool} (k : decide (HasP x0 y0 x1 y1 f c x y h) = t) (w : World) : Calls Try.prog 18 #[.agg #[.int .i64 x0, .int .i64 y0, .int .i64 x1, .int .i64 y1, .int .i64 f, .int .i64 c], .agg #[.int .i64 x, .int .i64 y, .int .i64 h]] w fun e w' => e = .returned (.bool t) ∧ Below w.heap.size w w' := by
  have e := RHasB_any x0 y0 x1 y1 f c x y h w; rwa [RHasB_eq, k] at e
theorem BBox_eq {x0 y0 x1 y1 f c : Int} {t : Bool} (k : decide (OkB x0 y0 x1 y1 f c) = t) (w : World) : Calls Try.prog 16 #[.agg #[.int .i64 x0, .int .i64 y0, .int .i64 x1, .int .i64 y1, .int .i64 f, .int .i64 c]] w fun e w' => e = .returned (.bool t) ∧ Below w.heap.size w w' := by
  rcases t with _ | _
  · exact BBox_no (of_decide_eq_false k) w
  · exact BBox_yes (of_decide_eq_true k) w
end Go.Proofs.Ytjpdahalplkfbaa
