/- box: Hull, Inside. -/
import Derived.Test.YtjpdahalplkfbaaB1
import Derived.Test.YtjpdahalplkfbaaHHullM
set_option linter.unusedVariables false
set_option linter.unusedSimpArgs false
namespace Go.Proofs.Ytjpdahalplkfbaa
open Go Go.RowKit Hd

theorem newB {w w' : World} {t : TypeId} {vs : Array Value} (bb : Below (w.alloc (.cells vs t)).heap.size (w.alloc (.cells vs t)) w') : Hid (Bx w' w.heap.size t vs) := Lib.hid ((Bx.new w t vs).below bb (by simp))
theorem nextr {w0 w w' : World} (hb : Below w.heap.size w w') (h : Below w0.heap.size w0 w) : Below w0.heap.size w0 w' := nextw h hb
theorem join_any (x0 y0 x1 y1 f c : Int) (w : World) : Calls Try.prog 43 #[.agg #[.int .i64 x0, .int .i64 y0, .int .i64 x1, .int .i64 y1], .agg #[.int .i64 f, .int .i64 c]] w fun e w' => e = .returned (.agg #[.int .i64 x0, .int .i64 y0, .int .i64 x1, .int .i64 y1, .int .i64 f, .int .i64 c]) ∧ Below w.heap.size w w' := join0_any x0 y0 x1 y1 f c w
theorem alB (w : World) (o : Obj) : Below w.heap.size w (w.alloc o) := (Below.refl _ _).alloc (Nat.le_refl _) _

set_option maxRecDepth 100000 in
set_option maxHeartbeats 4000000 in
theorem BHull0_w0 (x0 y0 x1 y1 f c u0 v0 u1 v1 g d : Int) (MX0 MX1 MX2 MX3 : Int) (mx0 : (if u0 < x0 then u0 else x0) = MX0) (mx1 : (if v0 < y0 then v0 else y0) = MX1) (mx2 : (if x1 < u1 then u1 else x1) = MX2) (mx3 : (if y1 < v1 then v1 else y1) = MX3)  (dd0 : OkA f c) (dd1 : OkA g d) (dd2 : OkB x0 y0 x1 y1 f c) (dd3 : OkB u0 v0 u1 v1 g d) (w : World) :
    Calls Try.prog 13 #[.agg #[.int .i64 x0, .int .i64 y0, .int .i64 x1, .int .i64 y1, .int .i64 f, .int .i64 c], .agg #[.int .i64 u0, .int .i64 v0, .int .i64 u1, .int .i64 v1, .int .i64 g, .int .i64 d]] w fun e w' => e = .returned (.tuple #[.agg #[.int .i64 MX0, .int .i64 MX1, .int .i64 MX2, .int .i64 MX3, .int .i64 (hullF f c g d), .int .i64 (hullC f c g d)], .int .i64 0]) ∧ Below w.heap.size w w' := by
  have H0 := Lib.hid (fun w => arcOf_any x0 y0 x1 y1 f c w)
  have H1 := Lib.hid (fun w => arcOf_any u0 v0 u1 v1 g d w)
  have H2 := Lib.hid (fun w => Hull_ok f c g d dd0 dd1 w)
  have H3 := Lib.hid (fun w => Valid_yes dd2 w)
  have H4 := Lib.hid (fun w => Valid_yes dd3 w)
  have H5 := Lib.hid (fun w => join_any MX0 MX1 MX2 MX3 (hullF f c g d) (hullC f c g d) w)
  replace mx0 := Lib.hid mx0
  replace mx1 := Lib.hid mx1
  replace mx2 := Lib.hid mx2
  replace mx3 := Lib.hid mx3
  have dd0b := And.intro dd0.f0 (And.intro dd0.f1 (And.intro dd0.c0 dd0.c1))
  have dd1b := And.intro dd1.f0 (And.intro dd1.f1 (And.intro dd1.c0 dd1.c1))
  have dd2b := dd2.b
  have dd3b := dd3.b
  obtain ⟨HB, B_z0, B_z1, B_z2⟩ := box3 w 23 #[.int .i64 x0, .int .i64 y0, .int .i64 x1, .int .i64 y1, .int .i64 f, .int .i64 c] 23 #[.int .i64 u0, .int .i64 v0, .int .i64 u1, .int .i64 v1, .int .i64 g, .int .i64 d] 23 #[.int .i64 0, .int .i64 0, .int .i64 0, .int .i64 0, .int .i64 0, .int .i64 0]
  go_enter Try.func13, Try.ntmps13
  go_upto_region 1 with (fail)
  generalize ((w.alloc (.cells #[.int .i64 x0, .int .i64 y0, .int .i64 x1, .int .i64 y1, .int .i64 f, .int .i64 c] 23)).alloc (.cells #[.int .i64 u0, .int .i64 v0, .int .i64 u1, .int .i64 v1, .int .i64 g, .int .i64 d] 23)).alloc (.cells #[.int .i64 0, .int .i64 0, .int .i64 0, .int .i64 0, .int .i64 0, .int .i64 0] 23) = W0 at *
  go_cut [6, 7] (fun sv0 su0 wx => ∃ Pz3 : Nat, sv0 = (.pointer (some ⟨Pz3, 0, none⟩)) ∧ su0 = (.int .i64 0) ∧ Hid (w.heap.size ≠ Pz3) ∧ Hid (w.heap.size + 1 ≠ Pz3) ∧ Hid (w.heap.size + 1 + 1 ≠ Pz3) ∧ Hid (w.heap.size ≤ Pz3) ∧ Hid (Bx wx (Pz3) 59 #[.int .i64 (hullF f c g d), .int .i64 (hullC f c g d)]) ∧ Hid (Bx wx (w.heap.size) 23 #[.int .i64 x0, .int .i64 y0, .int .i64 x1, .int .i64 y1, .int .i64 f, .int .i64 c]) ∧ Hid (Bx wx (w.heap.size + 1) 23 #[.int .i64 u0, .int .i64 v0, .int .i64 u1, .int .i64 v1, .int .i64 g, .int .i64 d]) ∧ Hid (Bx wx (w.heap.size + 1 + 1) 23 #[.int .i64 0, .int .i64 0, .int .i64 0, .int .i64 0, .int .i64 0, .int .i64 0]) ∧ Hid (Below w.heap.size w wx))
  case first =>
    obtain ⟨c0z0, c1z0, c2z0, c3z0, c4z0, c5z0⟩ := cells6 B_z0
    obtain ⟨c0z1, c1z1, c2z1, c3z1, c4z1, c5z1⟩ := cells6 B_z1
    have tk1x0 : True := trivial
    go_region_held3 (fun w' => w'.cell? ⟨w.heap.size, 0, none⟩ = some (.int .i64 x0) ∧ w'.cell? ⟨w.heap.size, 1, none⟩ = some (.int .i64 y0) ∧ w'.cell? ⟨w.heap.size, 2, none⟩ = some (.int .i64 x1) ∧ w'.cell? ⟨w.heap.size, 3, none⟩ = some (.int .i64 y1) ∧ w'.cell? ⟨w.heap.size, 4, none⟩ = some (.int .i64 f) ∧ w'.cell? ⟨w.heap.size, 5, none⟩ = some (.int .i64 c) ∧ w'.cell? ⟨w.heap.size + 1, 0, none⟩ = some (.int .i64 u0) ∧ w'.cell? ⟨w.heap.size + 1, 1, none⟩ = some (.int .i64 v0) ∧ w'.cell? ⟨w.heap.size + 1, 2, none⟩ = some (.int .i64 u1) ∧ w'.cell? ⟨w.heap.size + 1, 3, none⟩ = some (.int .i64 v1) ∧ w'.cell? ⟨w.heap.size + 1, 4, none⟩ = some (.int .i64 g) ∧ w'.cell? ⟨w.heap.size + 1, 5, none⟩ = some (.int .i64 d)) (((try dsimp only); (repeat' apply And.intro) <;> (first | (with_reducible assumption) | ((repeat (first | (with_reducible refine Eq.trans (cell_drew1 _ _) ?_) | (with_reducible refine Eq.trans (cell_far (by omega) _ _ _) ?_) | (with_reducible refine Eq.trans (World.cell?_alloc_lt _ _ _ (by first | (dsimp only; omega) | (simp only [World.size_alloc, World.size_setCell]; omega))) ?_))); with_reducible assumption) | assumption | go_keep)))
    (first
      | (clear tk1x0; go_at_call 42; refine (H0.out _).mono ?_; rintro e w1 ⟨rfl, bb⟩; replace bb := nextr (w0 := W0) bb (sm rfl rfl rfl (Nat.le_refl _) (fun _ _ => rfl)); replace B_z0 := mv B_z0 bb; replace B_z1 := mv B_z1 bb; replace B_z2 := mv B_z2 bb; replace HB := nx HB bb; clear bb c0z0 c1z0 c2z0 c3z0 c4z0 c5z0 c0z1 c1z1 c2z1 c3z1 c4z1 c5z1; have c0z0 : w1.cell? ⟨w.heap.size, 0, none⟩ = some (.int .i64 x0) := B_z0.out.cell 0 rfl; have c1z0 : w1.cell? ⟨w.heap.size, 1, none⟩ = some (.int .i64 y0) := B_z0.out.cell 1 rfl; have c2z0 : w1.cell? ⟨w.heap.size, 2, none⟩ = some (.int .i64 x1) := B_z0.out.cell 2 rfl; have c3z0 : w1.cell? ⟨w.heap.size, 3, none⟩ = some (.int .i64 y1) := B_z0.out.cell 3 rfl; have c4z0 : w1.cell? ⟨w.heap.size, 4, none⟩ = some (.int .i64 f) := B_z0.out.cell 4 rfl; have c5z0 : w1.cell? ⟨w.heap.size, 5, none⟩ = some (.int .i64 c) := B_z0.out.cell 5 rfl; have c0z1 : w1.cell? ⟨w.heap.size + 1, 0, none⟩ = some (.int .i64 u0) := B_z1.out.cell 0 rfl; have c1z1 : w1.cell? ⟨w.heap.size + 1, 1, none⟩ = some (.int .i64 v0) := B_z1.out.cell 1 rfl; have c2z1 : w1.cell? ⟨w.heap.size + 1, 2, none⟩ = some (.int .i64 u1) := B_z1.out.cell 2 rfl; have c3z1 : w1.cell? ⟨w.heap.size + 1, 3, none⟩ = some (.int .i64 v1) := B_z1.out.cell 3 rfl; have c4z1 : w1.cell? ⟨w.heap.size + 1, 4, none⟩ = some (.int .i64 g) := B_z1.out.cell 4 rfl; have c5z1 : w1.cell? ⟨w.heap.size + 1, 5, none⟩ = some (.int .i64 d) := B_z1.out.cell 5 rfl; have tk1x1 : True := trivial)
      | (clear tk1x0; go_at_call 42; refine (H0.out _).mono ?_; rintro e w1 ⟨rfl, bb⟩; replace bb := nextr (w0 := W0.alloc (.cells #[.int .i64 0, .int .i64 0] 59)) bb (sm rfl rfl rfl (Nat.le_refl _) (fun _ _ => rfl)); have NN : Hid (w.heap.size ≤ W0.heap.size ∧ w.heap.size ≠ W0.heap.size ∧ w.heap.size + 1 ≠ W0.heap.size ∧ w.heap.size + 1 + 1 ≠ W0.heap.size) := (by have lx_z0 := B_z0.out.lt; have lx_z1 := B_z1.out.lt; have lx_z2 := B_z2.out.lt; have hs := HB.out.size; unfold Hid; omega); have nnO := NN.out; have N := newB bb; replace bb := nextw (alB W0 (.cells #[.int .i64 0, .int .i64 0] 59)) bb; replace B_z0 := mv B_z0 bb; replace B_z1 := mv B_z1 bb; replace B_z2 := mv B_z2 bb; replace HB := nx HB bb; clear bb c0z0 c1z0 c2z0 c3z0 c4z0 c5z0 c0z1 c1z1 c2z1 c3z1 c4z1 c5z1; have c0z0 : w1.cell? ⟨w.heap.size, 0, none⟩ = some (.int .i64 x0) := B_z0.out.cell 0 rfl; have c1z0 : w1.cell? ⟨w.heap.size, 1, none⟩ = some (.int .i64 y0) := B_z0.out.cell 1 rfl; have c2z0 : w1.cell? ⟨w.heap.size, 2, none⟩ = some (.int .i64 x1) := B_z0.out.cell 2 rfl; have c3z0 : w1.cell? ⟨w.heap.size, 3, none⟩ = some (.int .i64 y1) := B_z0.out.cell 3 rfl; have c4z0 : w1.cell? ⟨w.heap.size, 4, none⟩ = some (.int .i64 f) := B_z0.out.cell 4 rfl; have c5z0 : w1.cell? ⟨w.heap.size, 5, none⟩ = some (.int .i64 c) := B_z0.out.cell 5 rfl; have c0z1 : w1.cell? ⟨w.heap.size + 1, 0, none⟩ = some (.int .i64 u0) := B_z1.out.cell 0 rfl; have c1z1 : w1.cell? ⟨w.heap.size + 1, 1, none⟩ = some (.int .i64 v0) := B_z1.out.cell 1 rfl; have c2z1 : w1.cell? ⟨w.heap.size + 1, 2, none⟩ = some (.int .i64 u1) := B_z1.out.cell 2 rfl; have c3z1 : w1.cell? ⟨w.heap.size + 1, 3, none⟩ = some (.int .i64 v1) := B_z1.out.cell 3 rfl; have c4z1 : w1.cell? ⟨w.heap.size + 1, 4, none⟩ = some (.int .i64 g) := B_z1.out.cell 4 rfl; have c5z1 : w1.cell? ⟨w.heap.size + 1, 5, none⟩ = some (.int .i64 d) := B_z1.out.cell 5 rfl; obtain ⟨cn0, cn1⟩ := cells2 N; obtain ⟨fn0, fn1⟩ := froz2 N; have tc1x1 : True := trivial)
      | (clear tk1x1; go_at_call 42; refine (H1.out _).mono ?_; rintro e w2 ⟨rfl, bb⟩; replace bb := nextr (w0 := w1) bb (sm rfl rfl rfl (Nat.le_refl _) (fun _ _ => rfl)); replace B_z0 := mv B_z0 bb; replace B_z1 := mv B_z1 bb; replace B_z2 := mv B_z2 bb; replace HB := nx HB bb; clear bb c0z0 c1z0 c2z0 c3z0 c4z0 c5z0 c0z1 c1z1 c2z1 c3z1 c4z1 c5z1; have c0z0 : w2.cell? ⟨w.heap.size, 0, none⟩ = some (.int .i64 x0) := B_z0.out.cell 0 rfl; have c1z0 : w2.cell? ⟨w.heap.size, 1, none⟩ = some (.int .i64 y0) := B_z0.out.cell 1 rfl; have c2z0 : w2.cell? ⟨w.heap.size, 2, none⟩ = some (.int .i64 x1) := B_z0.out.cell 2 rfl; have c3z0 : w2.cell? ⟨w.heap.size, 3, none⟩ = some (.int .i64 y1) := B_z0.out.cell 3 rfl; have c4z0 : w2.cell? ⟨w.heap.size, 4, none⟩ = some (.int .i64 f) := B_z0.out.cell 4 rfl; have c5z0 : w2.cell? ⟨w.heap.size, 5, none⟩ = some (.int .i64 c) := B_z0.out.cell 5 rfl; have c0z1 : w2.cell? ⟨w.heap.size + 1, 0, none⟩ = some (.int .i64 u0) := B_z1.out.cell 0 rfl; have c1z1 : w2.cell? ⟨w.heap.size + 1, 1, none⟩ = some (.int .i64 v0) := B_z1.out.cell 1 rfl; have c2z1 : w2.cell? ⟨w.heap.size + 1, 2, none⟩ = some (.int .i64 u1) := B_z1.out.cell 2 rfl; have c3z1 : w2.cell? ⟨w.heap.size + 1, 3, none⟩ = some (.int .i64 v1) := B_z1.out.cell 3 rfl; have c4z1 : w2.cell? ⟨w.heap.size + 1, 4, none⟩ = some (.int .i64 g) := B_z1.out.cell 4 rfl; have c5z1 : w2.cell? ⟨w.heap.size + 1, 5, none⟩ = some (.int .i64 d) := B_z1.out.cell 5 rfl; have tk1x2 : True := trivial)
      | (clear tk1x1; go_at_call 42; refine (H1.out _).mono ?_; rintro e w2 ⟨rfl, bb⟩; replace bb := nextr (w0 := w1.alloc (.cells #[.int .i64 0, .int .i64 0] 59)) bb (sm rfl rfl rfl (Nat.le_refl _) (fun _ _ => rfl)); have NN : Hid (w.heap.size ≤ w1.heap.size ∧ w.heap.size ≠ w1.heap.size ∧ w.heap.size + 1 ≠ w1.heap.size ∧ w.heap.size + 1 + 1 ≠ w1.heap.size) := (by have lx_z0 := B_z0.out.lt; have lx_z1 := B_z1.out.lt; have lx_z2 := B_z2.out.lt; have hs := HB.out.size; unfold Hid; omega); have nnO := NN.out; have N := newB bb; replace bb := nextw (alB w1 (.cells #[.int .i64 0, .int .i64 0] 59)) bb; replace B_z0 := mv B_z0 bb; replace B_z1 := mv B_z1 bb; replace B_z2 := mv B_z2 bb; replace HB := nx HB bb; clear bb c0z0 c1z0 c2z0 c3z0 c4z0 c5z0 c0z1 c1z1 c2z1 c3z1 c4z1 c5z1; have c0z0 : w2.cell? ⟨w.heap.size, 0, none⟩ = some (.int .i64 x0) := B_z0.out.cell 0 rfl; have c1z0 : w2.cell? ⟨w.heap.size, 1, none⟩ = some (.int .i64 y0) := B_z0.out.cell 1 rfl; have c2z0 : w2.cell? ⟨w.heap.size, 2, none⟩ = some (.int .i64 x1) := B_z0.out.cell 2 rfl; have c3z0 : w2.cell? ⟨w.heap.size, 3, none⟩ = some (.int .i64 y1) := B_z0.out.cell 3 rfl; have c4z0 : w2.cell? ⟨w.heap.size, 4, none⟩ = some (.int .i64 f) := B_z0.out.cell 4 rfl; have c5z0 : w2.cell? ⟨w.heap.size, 5, none⟩ = some (.int .i64 c) := B_z0.out.cell 5 rfl; have c0z1 : w2.cell? ⟨w.heap.size + 1, 0, none⟩ = some (.int .i64 u0) := B_z1.out.cell 0 rfl; have c1z1 : w2.cell? ⟨w.heap.size + 1, 1, none⟩ = some (.int .i64 v0) := B_z1.out.cell 1 rfl; have c2z1 : w2.cell? ⟨w.heap.size + 1, 2, none⟩ = some (.int .i64 u1) := B_z1.out.cell 2 rfl; have c3z1 : w2.cell? ⟨w.heap.size + 1, 3, none⟩ = some (.int .i64 v1) := B_z1.out.cell 3 rfl; have c4z1 : w2.cell? ⟨w.heap.size + 1, 4, none⟩ = some (.int .i64 g) := B_z1.out.cell 4 rfl; have c5z1 : w2.cell? ⟨w.heap.size + 1, 5, none⟩ = some (.int .i64 d) := B_z1.out.cell 5 rfl; obtain ⟨cn0, cn1⟩ := cells2 N; obtain ⟨fn0, fn1⟩ := froz2 N; have tc1x2 : True := trivial)
      | (clear tc1x1; clear cn0 cn1 fn0 fn1; go_at_call 42; refine (H1.out _).mono ?_; rintro e w2 ⟨rfl, bb⟩; replace bb := nextr (w0 := w1) bb (sm rfl rfl rfl (Nat.le_refl _) (fun _ _ => rfl)); replace N := mv N bb; replace B_z0 := mv B_z0 bb; replace B_z1 := mv B_z1 bb; replace B_z2 := mv B_z2 bb; replace HB := nx HB bb; clear bb c0z0 c1z0 c2z0 c3z0 c4z0 c5z0 c0z1 c1z1 c2z1 c3z1 c4z1 c5z1; have c0z0 : w2.cell? ⟨w.heap.size, 0, none⟩ = some (.int .i64 x0) := B_z0.out.cell 0 rfl; have c1z0 : w2.cell? ⟨w.heap.size, 1, none⟩ = some (.int .i64 y0) := B_z0.out.cell 1 rfl; have c2z0 : w2.cell? ⟨w.heap.size, 2, none⟩ = some (.int .i64 x1) := B_z0.out.cell 2 rfl; have c3z0 : w2.cell? ⟨w.heap.size, 3, none⟩ = some (.int .i64 y1) := B_z0.out.cell 3 rfl; have c4z0 : w2.cell? ⟨w.heap.size, 4, none⟩ = some (.int .i64 f) := B_z0.out.cell 4 rfl; have c5z0 : w2.cell? ⟨w.heap.size, 5, none⟩ = some (.int .i64 c) := B_z0.out.cell 5 rfl; have c0z1 : w2.cell? ⟨w.heap.size + 1, 0, none⟩ = some (.int .i64 u0) := B_z1.out.cell 0 rfl; have c1z1 : w2.cell? ⟨w.heap.size + 1, 1, none⟩ = some (.int .i64 v0) := B_z1.out.cell 1 rfl; have c2z1 : w2.cell? ⟨w.heap.size + 1, 2, none⟩ = some (.int .i64 u1) := B_z1.out.cell 2 rfl; have c3z1 : w2.cell? ⟨w.heap.size + 1, 3, none⟩ = some (.int .i64 v1) := B_z1.out.cell 3 rfl; have c4z1 : w2.cell? ⟨w.heap.size + 1, 4, none⟩ = some (.int .i64 g) := B_z1.out.cell 4 rfl; have c5z1 : w2.cell? ⟨w.heap.size + 1, 5, none⟩ = some (.int .i64 d) := B_z1.out.cell 5 rfl; obtain ⟨cn0, cn1⟩ := cells2 N; obtain ⟨fn0, fn1⟩ := froz2 N; have tc1x2 : True := trivial)
      | (clear tk1x2; go_at_call 41; refine (H2.out _).mono ?_; rintro e w3 ⟨rfl, bb⟩; replace bb := nextr (w0 := w2) bb (sm rfl rfl rfl (Nat.le_refl _) (fun _ _ => rfl)); replace B_z0 := mv B_z0 bb; replace B_z1 := mv B_z1 bb; replace B_z2 := mv B_z2 bb; replace HB := nx HB bb; clear bb c0z0 c1z0 c2z0 c3z0 c4z0 c5z0 c0z1 c1z1 c2z1 c3z1 c4z1 c5z1; have c0z0 : w3.cell? ⟨w.heap.size, 0, none⟩ = some (.int .i64 x0) := B_z0.out.cell 0 rfl; have c1z0 : w3.cell? ⟨w.heap.size, 1, none⟩ = some (.int .i64 y0) := B_z0.out.cell 1 rfl; have c2z0 : w3.cell? ⟨w.heap.size, 2, none⟩ = some (.int .i64 x1) := B_z0.out.cell 2 rfl; have c3z0 : w3.cell? ⟨w.heap.size, 3, none⟩ = some (.int .i64 y1) := B_z0.out.cell 3 rfl; have c4z0 : w3.cell? ⟨w.heap.size, 4, none⟩ = some (.int .i64 f) := B_z0.out.cell 4 rfl; have c5z0 : w3.cell? ⟨w.heap.size, 5, none⟩ = some (.int .i64 c) := B_z0.out.cell 5 rfl; have c0z1 : w3.cell? ⟨w.heap.size + 1, 0, none⟩ = some (.int .i64 u0) := B_z1.out.cell 0 rfl; have c1z1 : w3.cell? ⟨w.heap.size + 1, 1, none⟩ = some (.int .i64 v0) := B_z1.out.cell 1 rfl; have c2z1 : w3.cell? ⟨w.heap.size + 1, 2, none⟩ = some (.int .i64 u1) := B_z1.out.cell 2 rfl; have c3z1 : w3.cell? ⟨w.heap.size + 1, 3, none⟩ = some (.int .i64 v1) := B_z1.out.cell 3 rfl; have c4z1 : w3.cell? ⟨w.heap.size + 1, 4, none⟩ = some (.int .i64 g) := B_z1.out.cell 4 rfl; have c5z1 : w3.cell? ⟨w.heap.size + 1, 5, none⟩ = some (.int .i64 d) := B_z1.out.cell 5 rfl; have tk1x3 : True := trivial)
      | (clear tk1x2; go_at_call 41; refine (H2.out _).mono ?_; rintro e w3 ⟨rfl, bb⟩; replace bb := nextr (w0 := w2.alloc (.cells #[.int .i64 0, .int .i64 0] 59)) bb (sm rfl rfl rfl (Nat.le_refl _) (fun _ _ => rfl)); have NN : Hid (w.heap.size ≤ w2.heap.size ∧ w.heap.size ≠ w2.heap.size ∧ w.heap.size + 1 ≠ w2.heap.size ∧ w.heap.size + 1 + 1 ≠ w2.heap.size) := (by have lx_z0 := B_z0.out.lt; have lx_z1 := B_z1.out.lt; have lx_z2 := B_z2.out.lt; have hs := HB.out.size; unfold Hid; omega); have nnO := NN.out; have N := newB bb; replace bb := nextw (alB w2 (.cells #[.int .i64 0, .int .i64 0] 59)) bb; replace B_z0 := mv B_z0 bb; replace B_z1 := mv B_z1 bb; replace B_z2 := mv B_z2 bb; replace HB := nx HB bb; clear bb c0z0 c1z0 c2z0 c3z0 c4z0 c5z0 c0z1 c1z1 c2z1 c3z1 c4z1 c5z1; have c0z0 : w3.cell? ⟨w.heap.size, 0, none⟩ = some (.int .i64 x0) := B_z0.out.cell 0 rfl; have c1z0 : w3.cell? ⟨w.heap.size, 1, none⟩ = some (.int .i64 y0) := B_z0.out.cell 1 rfl; have c2z0 : w3.cell? ⟨w.heap.size, 2, none⟩ = some (.int .i64 x1) := B_z0.out.cell 2 rfl; have c3z0 : w3.cell? ⟨w.heap.size, 3, none⟩ = some (.int .i64 y1) := B_z0.out.cell 3 rfl; have c4z0 : w3.cell? ⟨w.heap.size, 4, none⟩ = some (.int .i64 f) := B_z0.out.cell 4 rfl; have c5z0 : w3.cell? ⟨w.heap.size, 5, none⟩ = some (.int .i64 c) := B_z0.out.cell 5 rfl; have c0z1 : w3.cell? ⟨w.heap.size + 1, 0, none⟩ = some (.int .i64 u0) := B_z1.out.cell 0 rfl; have c1z1 : w3.cell? ⟨w.heap.size + 1, 1, none⟩ = some (.int .i64 v0) := B_z1.out.cell 1 rfl; have c2z1 : w3.cell? ⟨w.heap.size + 1, 2, none⟩ = some (.int .i64 u1) := B_z1.out.cell 2 rfl; have c3z1 : w3.cell? ⟨w.heap.size + 1, 3, none⟩ = some (.int .i64 v1) := B_z1.out.cell 3 rfl; have c4z1 : w3.cell? ⟨w.heap.size + 1, 4, none⟩ = some (.int .i64 g) := B_z1.out.cell 4 rfl; have c5z1 : w3.cell? ⟨w.heap.size + 1, 5, none⟩ = some (.int .i64 d) := B_z1.out.cell 5 rfl; obtain ⟨cn0, cn1⟩ := cells2 N; obtain ⟨fn0, fn1⟩ := froz2 N; have tc1x3 : True := trivial)
      | (clear tc1x2; clear cn0 cn1 fn0 fn1; go_at_call 41; refine (H2.out _).mono ?_; rintro e w3 ⟨rfl, bb⟩; replace bb := nextr (w0 := w2) bb (sm rfl rfl rfl (Nat.le_refl _) (fun _ _ => rfl)); replace N := mv N bb; replace B_z0 := mv B_z0 bb; replace B_z1 := mv B_z1 bb; replace B_z2 := mv B_z2 bb; replace HB := nx HB bb; clear bb c0z0 c1z0 c2z0 c3z0 c4z0 c5z0 c0z1 c1z1 c2z1 c3z1 c4z1 c5z1; have c0z0 : w3.cell? ⟨w.heap.size, 0, none⟩ = some (.int .i64 x0) := B_z0.out.cell 0 rfl; have c1z0 : w3.cell? ⟨w.heap.size, 1, none⟩ = some (.int .i64 y0) := B_z0.out.cell 1 rfl; have c2z0 : w3.cell? ⟨w.heap.size, 2, none⟩ = some (.int .i64 x1) := B_z0.out.cell 2 rfl; have c3z0 : w3.cell? ⟨w.heap.size, 3, none⟩ = some (.int .i64 y1) := B_z0.out.cell 3 rfl; have c4z0 : w3.cell? ⟨w.heap.size, 4, none⟩ = some (.int .i64 f) := B_z0.out.cell 4 rfl; have c5z0 : w3.cell? ⟨w.heap.size, 5, none⟩ = some (.int .i64 c) := B_z0.out.cell 5 rfl; have c0z1 : w3.cell? ⟨w.heap.size + 1, 0, none⟩ = some (.int .i64 u0) := B_z1.out.cell 0 rfl; have c1z1 : w3.cell? ⟨w.heap.size + 1, 1, none⟩ = some (.int .i64 v0) := B_z1.out.cell 1 rfl; have c2z1 : w3.cell? ⟨w.heap.size + 1, 2, none⟩ = some (.int .i64 u1) := B_z1.out.cell 2 rfl; have c3z1 : w3.cell? ⟨w.heap.size + 1, 3, none⟩ = some (.int .i64 v1) := B_z1.out.cell 3 rfl; have c4z1 : w3.cell? ⟨w.heap.size + 1, 4, none⟩ = some (.int .i64 g) := B_z1.out.cell 4 rfl; have c5z1 : w3.cell? ⟨w.heap.size + 1, 5, none⟩ = some (.int .i64 d) := B_z1.out.cell 5 rfl; obtain ⟨cn0, cn1⟩ := cells2 N; obtain ⟨fn0, fn1⟩ := froz2 N; have tc1x3 : True := trivial))
    all_goals go_wp2_with fail
    all_goals go_meet
    all_goals first
        | (refine ⟨w3.heap.size, rfl, rfl, ?_⟩; have lx_z0 := B_z0.out.lt; have lx_z1 := B_z1.out.lt; have lx_z2 := B_z2.out.lt; obtain ⟨bb, b0⟩ := box1 w3 59 #[.int .i64 (hullF f c g d), .int .i64 (hullC f c g d)]; replace bb := bb.out; have hs := HB.out.size; exact ⟨(by unfold Hid; omega), (by unfold Hid; omega), (by unfold Hid; omega), (by unfold Hid; omega), mv b0 sm, mv (mv B_z0 bb) sm, mv (mv B_z1 bb) sm, mv (mv B_z2 bb) sm, nx (nx HB bb) sm⟩)
        | (refine ⟨W0.heap.size, rfl, rfl, ?_⟩; obtain ⟨hl, h0, h1, h2⟩ := NN.out; exact ⟨Lib.hid h0, Lib.hid h1, Lib.hid h2, Lib.hid hl, mv (stor2 N (.int .i64 (hullF f c g d)) (.int .i64 (hullC f c g d))) sm, mv (far2 B_z0 h0 0 (.int .i64 (hullF f c g d)) 1 (.int .i64 (hullC f c g d))) sm, mv (far2 B_z1 h1 0 (.int .i64 (hullF f c g d)) 1 (.int .i64 (hullC f c g d))) sm, mv (far2 B_z2 h2 0 (.int .i64 (hullF f c g d)) 1 (.int .i64 (hullC f c g d))) sm, nx (stb2 HB hl 0 (.int .i64 (hullF f c g d)) 1 (.int .i64 (hullC f c g d))) sm⟩)
        | (refine ⟨w1.heap.size, rfl, rfl, ?_⟩; obtain ⟨hl, h0, h1, h2⟩ := NN.out; exact ⟨Lib.hid h0, Lib.hid h1, Lib.hid h2, Lib.hid hl, mv (stor2 N (.int .i64 (hullF f c g d)) (.int .i64 (hullC f c g d))) sm, mv (far2 B_z0 h0 0 (.int .i64 (hullF f c g d)) 1 (.int .i64 (hullC f c g d))) sm, mv (far2 B_z1 h1 0 (.int .i64 (hullF f c g d)) 1 (.int .i64 (hullC f c g d))) sm, mv (far2 B_z2 h2 0 (.int .i64 (hullF f c g d)) 1 (.int .i64 (hullC f c g d))) sm, nx (stb2 HB hl 0 (.int .i64 (hullF f c g d)) 1 (.int .i64 (hullC f c g d))) sm⟩)
        | (refine ⟨w2.heap.size, rfl, rfl, ?_⟩; obtain ⟨hl, h0, h1, h2⟩ := NN.out; exact ⟨Lib.hid h0, Lib.hid h1, Lib.hid h2, Lib.hid hl, mv (stor2 N (.int .i64 (hullF f c g d)) (.int .i64 (hullC f c g d))) sm, mv (far2 B_z0 h0 0 (.int .i64 (hullF f c g d)) 1 (.int .i64 (hullC f c g d))) sm, mv (far2 B_z1 h1 0 (.int .i64 (hullF f c g d)) 1 (.int .i64 (hullC f c g d))) sm, mv (far2 B_z2 h2 0 (.int .i64 (hullF f c g d)) 1 (.int .i64 (hullC f c g d))) sm, nx (stb2 HB hl 0 (.int .i64 (hullF f c g d)) 1 (.int .i64 (hullC f c g d))) sm⟩)
  case rest =>
    clear B_z0
    clear B_z1
    clear B_z2
    clear HB
    rename World => wc4
    obtain ⟨Pz3, rfl, rfl, noz0Pz3, noz1Pz3, noz2Pz3, lePz3, B_z3, B_z0, B_z1, B_z2, HB⟩ := hcut
    have lePz3' := lePz3.out
    obtain ⟨c0z0, c1z0, c2z0, c3z0, c4z0, c5z0⟩ := cells6 B_z0
    go_wp2_with fail
    refine (H3.out _).mono ?_
    clear c0z0 c1z0 c2z0 c3z0 c4z0 c5z0
    rintro e w5 ⟨rfl, bb⟩
    replace bb := nextw (w0 := wc4) (by exact sm) bb
    replace B_z0 := mv B_z0 bb
    replace B_z1 := mv B_z1 bb
    replace B_z2 := mv B_z2 bb
    replace B_z3 := mv B_z3 bb
    replace HB := nx HB bb
    clear bb
    obtain ⟨c0z1, c1z1, c2z1, c3z1, c4z1, c5z1⟩ := cells6 B_z1
    go_wp2_with fail
    refine (H4.out _).mono ?_
    clear c0z1 c1z1 c2z1 c3z1 c4z1 c5z1
    rintro e w6 ⟨rfl, bb⟩
    replace bb := nextw (w0 := w5) (by exact sm) bb
    replace B_z0 := mv B_z0 bb
    replace B_z1 := mv B_z1 bb
    replace B_z2 := mv B_z2 bb
    replace B_z3 := mv B_z3 bb
    replace HB := nx HB bb
    clear bb
    have mxo0 := mx0.out
    have mxo1 := mx1.out
    have mxo2 := mx2.out
    have mxo3 := mx3.out
    obtain ⟨c0z0, c1z0, c2z0, c3z0, c4z0, c5z0⟩ := cells6 B_z0
    obtain ⟨c0z1, c1z1, c2z1, c3z1, c4z1, c5z1⟩ := cells6 B_z1
    have lt_z4z0 := B_z0.out.lt
    have lt_z4z1 := B_z1.out.lt
    have lt_z4z2 := B_z2.out.lt
    have lt_z4z3 := B_z3.out.lt
    obtain ⟨bb, B_z4⟩ := box1 w6 41 #[.int .i64 MX0, .int .i64 MX1, .int .i64 MX2, .int .i64 MX3]
    replace bb := bb.out
    replace B_z0 := mv B_z0 bb
    replace B_z1 := mv B_z1 bb
    replace B_z2 := mv B_z2 bb
    replace B_z3 := mv B_z3 bb
    replace HB := nx HB bb
    clear bb
    go_upto_region 5 with (fail)
    clear c0z0 c1z0 c2z0 c3z0 c4z0 c5z0 c0z1 c1z1 c2z1 c3z1 c4z1 c5z1
    generalize w6.alloc (.cells #[.int .i64 MX0, .int .i64 MX1, .int .i64 MX2, .int .i64 MX3] 41) = WN3 at *
    obtain ⟨c0z4, c1z4, c2z4, c3z4⟩ := cells4 B_z4
    obtain ⟨c0z3, c1z3⟩ := cells2 B_z3
    go_wp2_with fail
    refine (H5.out _).mono ?_
    clear c0z4 c1z4 c2z4 c3z4 c0z3 c1z3
    rintro e w7 ⟨rfl, bb⟩
    replace bb := nextw (w0 := WN3) (by exact sm) bb
    replace B_z0 := mv B_z0 bb
    replace B_z1 := mv B_z1 bb
    replace B_z2 := mv B_z2 bb
    replace B_z3 := mv B_z3 bb
    replace B_z4 := mv B_z4 bb
    replace HB := nx HB bb
    clear bb
    obtain ⟨s0, s1, s2, s3, s4, s5⟩ := cells6 (stor6 B_z2 (.int .i64 MX0) (.int .i64 MX1) (.int .i64 MX2) (.int .i64 MX3) (.int .i64 (hullF f c g d)) (.int .i64 (hullC f c g d)))
    have HF := stb6 HB (y := w.heap.size + 1 + 1) (by omega) 0 (.int .i64 MX0) 1 (.int .i64 MX1) 2 (.int .i64 MX2) 3 (.int .i64 MX3) 4 (.int .i64 (hullF f c g d)) 5 (.int .i64 (hullC f c g d))
    obtain ⟨c0z2, c1z2, c2z2, c3z2, c4z2, c5z2⟩ := cells6 B_z2
    obtain ⟨f0z2, f1z2, f2z2, f3z2, f4z2, f5z2⟩ := froz6 B_z2
    go_wp2_with fail
    exact bodyPost_ret (v := .tuple #[.agg #[.int .i64 MX0, .int .i64 MX1, .int .i64 MX2, .int .i64 MX3, .int .i64 (hullF f c g d), .int .i64 (hullC f c g d)], .int .i64 0]) (by simp [results, Try.results13, go_sem, s0, s1, s2, s3, s4, s5]) rfl ⟨rfl, nextw HF.out (by exact sm)⟩

set_option maxRecDepth 100000 in
set_option maxHeartbeats 4000000 in
theorem BHull0_w1 (x0 y0 x1 y1 f c u0 v0 u1 v1 g d : Int)   (dd0 : ¬ (OkA f c)) (w : World) :
    Calls Try.prog 13 #[.agg #[.int .i64 x0, .int .i64 y0, .int .i64 x1, .int .i64 y1, .int .i64 f, .int .i64 c], .agg #[.int .i64 u0, .int .i64 v0, .int .i64 u1, .int .i64 v1, .int .i64 g, .int .i64 d]] w fun e w' => e = .returned (.tuple #[.agg #[.int .i64 0, .int .i64 0, .int .i64 0, .int .i64 0, .int .i64 0, .int .i64 0], .int .i64 1]) ∧ Below w.heap.size w w' := by
  have H0 := Lib.hid (fun w => arcOf_any x0 y0 x1 y1 f c w)
  have H1 := Lib.hid (fun w => arcOf_any u0 v0 u1 v1 g d w)
  have H2 := Lib.hid (fun w => Hull_bad1 f c g d dd0 w)
  obtain ⟨HB, B_z0, B_z1, B_z2⟩ := box3 w 23 #[.int .i64 x0, .int .i64 y0, .int .i64 x1, .int .i64 y1, .int .i64 f, .int .i64 c] 23 #[.int .i64 u0, .int .i64 v0, .int .i64 u1, .int .i64 v1, .int .i64 g, .int .i64 d] 23 #[.int .i64 0, .int .i64 0, .int .i64 0, .int .i64 0, .int .i64 0, .int .i64 0]
  go_enter Try.func13, Try.ntmps13
  go_upto_region 1 with (fail)
  generalize ((w.alloc (.cells #[.int .i64 x0, .int .i64 y0, .int .i64 x1, .int .i64 y1, .int .i64 f, .int .i64 c] 23)).alloc (.cells #[.int .i64 u0, .int .i64 v0, .int .i64 u1, .int .i64 v1, .int .i64 g, .int .i64 d] 23)).alloc (.cells #[.int .i64 0, .int .i64 0, .int .i64 0, .int .i64 0, .int .i64 0, .int .i64 0] 23) = W0 at *
  go_cut [6, 7] (fun sv0 su0 wx => ∃ Pz3 : Nat, sv0 = (.pointer (some ⟨Pz3, 0, none⟩)) ∧ su0 = (.int .i64 1) ∧ Hid (w.heap.size ≠ Pz3) ∧ Hid (w.heap.size + 1 ≠ Pz3) ∧ Hid (w.heap.size + 1 + 1 ≠ Pz3) ∧ Hid (w.heap.size ≤ Pz3) ∧ Hid (Bx wx (Pz3) 59 #[.int .i64 0, .int .i64 0]) ∧ Hid (Bx wx (w.heap.size) 23 #[.int .i64 x0, .int .i64 y0, .int .i64 x1, .int .i64 y1, .int .i64 f, .int .i64 c]) ∧ Hid (Bx wx (w.heap.size + 1) 23 #[.int .i64 u0, .int .i64 v0, .int .i64 u1, .int .i64 v1, .int .i64 g, .int .i64 d]) ∧ Hid (Bx wx (w.heap.size + 1 + 1) 23 #[.int .i64 0, .int .i64 0, .int .i64 0, .int .i64 0, .int .i64 0, .int .i64 0]) ∧ Hid (Below w.heap.size w wx))
  case first =>
    obtain ⟨c0z0, c1z0, c2z0, c3z0, c4z0, c5z0⟩ := cells6 B_z0
    obtain ⟨c0z1, c1z1, c2z1, c3z1, c4z1, c5z1⟩ := cells6 B_z1
    have tk1x0 : True := trivial
    go_region_held3 (fun w' => w'.cell? ⟨w.heap.size, 0, none⟩ = some (.int .i64 x0) ∧ w'.cell? ⟨w.heap.size, 1, none⟩ = some (.int .i64 y0) ∧ w'.cell? ⟨w.heap.size, 2, none⟩ = some (.int .i64 x1) ∧ w'.cell? ⟨w.heap.size, 3, none⟩ = some (.int .i64 y1) ∧ w'.cell? ⟨w.heap.size, 4, none⟩ = some (.int .i64 f) ∧ w'.cell? ⟨w.heap.size, 5, none⟩ = some (.int .i64 c) ∧ w'.cell? ⟨w.heap.size + 1, 0, none⟩ = some (.int .i64 u0) ∧ w'.cell? ⟨w.heap.size + 1, 1, none⟩ = some (.int .i64 v0) ∧ w'.cell? ⟨w.heap.size + 1, 2, none⟩ = some (.int .i64 u1) ∧ w'.cell? ⟨w.heap.size + 1, 3, none⟩ = some (.int .i64 v1) ∧ w'.cell? ⟨w.heap.size + 1, 4, none⟩ = some (.int .i64 g) ∧ w'.cell? ⟨w.heap.size + 1, 5, none⟩ = some (.int .i64 d)) (((try dsimp only); (repeat' apply And.intro) <;> (first | (with_reducible assumption) | ((repeat (first | (with_reducible refine Eq.trans (cell_drew1 _ _) ?_) | (with_reducible refine Eq.trans (cell_far (by omega) _ _ _) ?_) | (with_reducible refine Eq.trans (World.cell?_alloc_lt _ _ _ (by first | (dsimp only; omega) | (simp only [World.size_alloc, World.size_setCell]; omega))) ?_))); with_reducible assumption) | assumption | go_keep)))
    (first
      | (clear tk1x0; go_at_call 42; refine (H0.out _).mono ?_; rintro e w1 ⟨rfl, bb⟩; replace bb := nextr (w0 := W0) bb (sm rfl rfl rfl (Nat.le_refl _) (fun _ _ => rfl)); replace B_z0 := mv B_z0 bb; replace B_z1 := mv B_z1 bb; replace B_z2 := mv B_z2 bb; replace HB := nx HB bb; clear bb c0z0 c1z0 c2z0 c3z0 c4z0 c5z0 c0z1 c1z1 c2z1 c3z1 c4z1 c5z1; have c0z0 : w1.cell? ⟨w.heap.size, 0, none⟩ = some (.int .i64 x0) := B_z0.out.cell 0 rfl; have c1z0 : w1.cell? ⟨w.heap.size, 1, none⟩ = some (.int .i64 y0) := B_z0.out.cell 1 rfl; have c2z0 : w1.cell? ⟨w.heap.size, 2, none⟩ = some (.int .i64 x1) := B_z0.out.cell 2 rfl; have c3z0 : w1.cell? ⟨w.heap.size, 3, none⟩ = some (.int .i64 y1) := B_z0.out.cell 3 rfl; have c4z0 : w1.cell? ⟨w.heap.size, 4, none⟩ = some (.int .i64 f) := B_z0.out.cell 4 rfl; have c5z0 : w1.cell? ⟨w.heap.size, 5, none⟩ = some (.int .i64 c) := B_z0.out.cell 5 rfl; have c0z1 : w1.cell? ⟨w.heap.size + 1, 0, none⟩ = some (.int .i64 u0) := B_z1.out.cell 0 rfl; have c1z1 : w1.cell? ⟨w.heap.size + 1, 1, none⟩ = some (.int .i64 v0) := B_z1.out.cell 1 rfl; have c2z1 : w1.cell? ⟨w.heap.size + 1, 2, none⟩ = some (.int .i64 u1) := B_z1.out.cell 2 rfl; have c3z1 : w1.cell? ⟨w.heap.size + 1, 3, none⟩ = some (.int .i64 v1) := B_z1.out.cell 3 rfl; have c4z1 : w1.cell? ⟨w.heap.size + 1, 4, none⟩ = some (.int .i64 g) := B_z1.out.cell 4 rfl; have c5z1 : w1.cell? ⟨w.heap.size + 1, 5, none⟩ = some (.int .i64 d) := B_z1.out.cell 5 rfl; have tk1x1 : True := trivial)
      | (clear tk1x0; go_at_call 42; refine (H0.out _).mono ?_; rintro e w1 ⟨rfl, bb⟩; replace bb := nextr (w0 := W0.alloc (.cells #[.int .i64 0, .int .i64 0] 59)) bb (sm rfl rfl rfl (Nat.le_refl _) (fun _ _ => rfl)); have NN : Hid (w.heap.size ≤ W0.heap.size ∧ w.heap.size ≠ W0.heap.size ∧ w.heap.size + 1 ≠ W0.heap.size ∧ w.heap.size + 1 + 1 ≠ W0.heap.size) := (by have lx_z0 := B_z0.out.lt; have lx_z1 := B_z1.out.lt; have lx_z2 := B_z2.out.lt; have hs := HB.out.size; unfold Hid; omega); have nnO := NN.out; have N := newB bb; replace bb := nextw (alB W0 (.cells #[.int .i64 0, .int .i64 0] 59)) bb; replace B_z0 := mv B_z0 bb; replace B_z1 := mv B_z1 bb; replace B_z2 := mv B_z2 bb; replace HB := nx HB bb; clear bb c0z0 c1z0 c2z0 c3z0 c4z0 c5z0 c0z1 c1z1 c2z1 c3z1 c4z1 c5z1; have c0z0 : w1.cell? ⟨w.heap.size, 0, none⟩ = some (.int .i64 x0) := B_z0.out.cell 0 rfl; have c1z0 : w1.cell? ⟨w.heap.size, 1, none⟩ = some (.int .i64 y0) := B_z0.out.cell 1 rfl; have c2z0 : w1.cell? ⟨w.heap.size, 2, none⟩ = some (.int .i64 x1) := B_z0.out.cell 2 rfl; have c3z0 : w1.cell? ⟨w.heap.size, 3, none⟩ = some (.int .i64 y1) := B_z0.out.cell 3 rfl; have c4z0 : w1.cell? ⟨w.heap.size, 4, none⟩ = some (.int .i64 f) := B_z0.out.cell 4 rfl; have c5z0 : w1.cell? ⟨w.heap.size, 5, none⟩ = some (.int .i64 c) := B_z0.out.cell 5 rfl; have c0z1 : w1.cell? ⟨w.heap.size + 1, 0, none⟩ = some (.int .i64 u0) := B_z1.out.cell 0 rfl; have c1z1 : w1.cell? ⟨w.heap.size + 1, 1, none⟩ = some (.int .i64 v0) := B_z1.out.cell 1 rfl; have c2z1 : w1.cell? ⟨w.heap.size + 1, 2, none⟩ = some (.int .i64 u1) := B_z1.out.cell 2 rfl; have c3z1 : w1.cell? ⟨w.heap.size + 1, 3, none⟩ = some (.int .i64 v1) := B_z1.out.cell 3 rfl; have c4z1 : w1.cell? ⟨w.heap.size + 1, 4, none⟩ = some (.int .i64 g) := B_z1.out.cell 4 rfl; have c5z1 : w1.cell? ⟨w.heap.size + 1, 5, none⟩ = some (.int .i64 d) := B_z1.out.cell 5 rfl; obtain ⟨cn0, cn1⟩ := cells2 N; obtain ⟨fn0, fn1⟩ := froz2 N; have tc1x1 : True := trivial)
      | (clear tk1x1; go_at_call 42; refine (H1.out _).mono ?_; rintro e w2 ⟨rfl, bb⟩; replace bb := nextr (w0 := w1) bb (sm rfl rfl rfl (Nat.le_refl _) (fun _ _ => rfl)); replace B_z0 := mv B_z0 bb; replace B_z1 := mv B_z1 bb; replace B_z2 := mv B_z2 bb; replace HB := nx HB bb; clear bb c0z0 c1z0 c2z0 c3z0 c4z0 c5z0 c0z1 c1z1 c2z1 c3z1 c4z1 c5z1; have c0z0 : w2.cell? ⟨w.heap.size, 0, none⟩ = some (.int .i64 x0) := B_z0.out.cell 0 rfl; have c1z0 : w2.cell? ⟨w.heap.size, 1, none⟩ = some (.int .i64 y0) := B_z0.out.cell 1 rfl; have c2z0 : w2.cell? ⟨w.heap.size, 2, none⟩ = some (.int .i64 x1) := B_z0.out.cell 2 rfl; have c3z0 : w2.cell? ⟨w.heap.size, 3, none⟩ = some (.int .i64 y1) := B_z0.out.cell 3 rfl; have c4z0 : w2.cell? ⟨w.heap.size, 4, none⟩ = some (.int .i64 f) := B_z0.out.cell 4 rfl; have c5z0 : w2.cell? ⟨w.heap.size, 5, none⟩ = some (.int .i64 c) := B_z0.out.cell 5 rfl; have c0z1 : w2.cell? ⟨w.heap.size + 1, 0, none⟩ = some (.int .i64 u0) := B_z1.out.cell 0 rfl; have c1z1 : w2.cell? ⟨w.heap.size + 1, 1, none⟩ = some (.int .i64 v0) := B_z1.out.cell 1 rfl; have c2z1 : w2.cell? ⟨w.heap.size + 1, 2, none⟩ = some (.int .i64 u1) := B_z1.out.cell 2 rfl; have c3z1 : w2.cell? ⟨w.heap.size + 1, 3, none⟩ = some (.int .i64 v1) := B_z1.out.cell 3 rfl; have c4z1 : w2.cell? ⟨w.heap.size + 1, 4, none⟩ = some (.int .i64 g) := B_z1.out.cell 4 rfl; have c5z1 : w2.cell? ⟨w.heap.size + 1, 5, none⟩ = some (.int .i64 d) := B_z1.out.cell 5 rfl; have tk1x2 : True := trivial)
      | (clear tk1x1; go_at_call 42; refine (H1.out _).mono ?_; rintro e w2 ⟨rfl, bb⟩; replace bb := nextr (w0 := w1.alloc (.cells #[.int .i64 0, .int .i64 0] 59)) bb (sm rfl rfl rfl (Nat.le_refl _) (fun _ _ => rfl)); have NN : Hid (w.heap.size ≤ w1.heap.size ∧ w.heap.size ≠ w1.heap.size ∧ w.heap.size + 1 ≠ w1.heap.size ∧ w.heap.size + 1 + 1 ≠ w1.heap.size) := (by have lx_z0 := B_z0.out.lt; have lx_z1 := B_z1.out.lt; have lx_z2 := B_z2.out.lt; have hs := HB.out.size; unfold Hid; omega); have nnO := NN.out; have N := newB bb; replace bb := nextw (alB w1 (.cells #[.int .i64 0, .int .i64 0] 59)) bb; replace B_z0 := mv B_z0 bb; replace B_z1 := mv B_z1 bb; replace B_z2 := mv B_z2 bb; replace HB := nx HB bb; clear bb c0z0 c1z0 c2z0 c3z0 c4z0 c5z0 c0z1 c1z1 c2z1 c3z1 c4z1 c5z1; have c0z0 : w2.cell? ⟨w.heap.size, 0, none⟩ = some (.int .i64 x0) := B_z0.out.cell 0 rfl; have c1z0 : w2.cell? ⟨w.heap.size, 1, none⟩ = some (.int .i64 y0) := B_z0.out.cell 1 rfl; have c2z0 : w2.cell? ⟨w.heap.size, 2, none⟩ = some (.int .i64 x1) := B_z0.out.cell 2 rfl; have c3z0 : w2.cell? ⟨w.heap.size, 3, none⟩ = some (.int .i64 y1) := B_z0.out.cell 3 rfl; have c4z0 : w2.cell? ⟨w.heap.size, 4, none⟩ = some (.int .i64 f) := B_z0.out.cell 4 rfl; have c5z0 : w2.cell? ⟨w.heap.size, 5, none⟩ = some (.int .i64 c) := B_z0.out.cell 5 rfl; have c0z1 : w2.cell? ⟨w.heap.size + 1, 0, none⟩ = some (.int .i64 u0) := B_z1.out.cell 0 rfl; have c1z1 : w2.cell? ⟨w.heap.size + 1, 1, none⟩ = some (.int .i64 v0) := B_z1.out.cell 1 rfl; have c2z1 : w2.cell? ⟨w.heap.size + 1, 2, none⟩ = some (.int .i64 u1) := B_z1.out.cell 2 rfl; have c3z1 : w2.cell? ⟨w.heap.size + 1, 3, none⟩ = some (.int .i64 v1) := B_z1.out.cell 3 rfl; have c4z1 : w2.cell? ⟨w.heap.size + 1, 4, none⟩ = some (.int .i64 g) := B_z1.out.cell 4 rfl; have c5z1 : w2.cell? ⟨w.heap.size + 1, 5, none⟩ = some (.int .i64 d) := B_z1.out.cell 5 rfl; obtain ⟨cn0, cn1⟩ := cells2 N; obtain ⟨fn0, fn1⟩ := froz2 N; have tc1x2 : True := trivial)
      | (clear tc1x1; clear cn0 cn1 fn0 fn1; go_at_call 42; refine (H1.out _).mono ?_; rintro e w2 ⟨rfl, bb⟩; replace bb := nextr (w0 := w1) bb (sm rfl rfl rfl (Nat.le_refl _) (fun _ _ => rfl)); replace N := mv N bb; replace B_z0 := mv B_z0 bb; replace B_z1 := mv B_z1 bb; replace B_z2 := mv B_z2 bb; replace HB := nx HB bb; clear bb c0z0 c1z0 c2z0 c3z0 c4z0 c5z0 c0z1 c1z1 c2z1 c3z1 c4z1 c5z1; have c0z0 : w2.cell? ⟨w.heap.size, 0, none⟩ = some (.int .i64 x0) := B_z0.out.cell 0 rfl; have c1z0 : w2.cell? ⟨w.heap.size, 1, none⟩ = some (.int .i64 y0) := B_z0.out.cell 1 rfl; have c2z0 : w2.cell? ⟨w.heap.size, 2, none⟩ = some (.int .i64 x1) := B_z0.out.cell 2 rfl; have c3z0 : w2.cell? ⟨w.heap.size, 3, none⟩ = some (.int .i64 y1) := B_z0.out.cell 3 rfl; have c4z0 : w2.cell? ⟨w.heap.size, 4, none⟩ = some (.int .i64 f) := B_z0.out.cell 4 rfl; have c5z0 : w2.cell? ⟨w.heap.size, 5, none⟩ = some (.int .i64 c) := B_z0.out.cell 5 rfl; have c0z1 : w2.cell? ⟨w.heap.size + 1, 0, none⟩ = some (.int .i64 u0) := B_z1.out.cell 0 rfl; have c1z1 : w2.cell? ⟨w.heap.size + 1, 1, none⟩ = some (.int .i64 v0) := B_z1.out.cell 1 rfl; have c2z1 : w2.cell? ⟨w.heap.size + 1, 2, none⟩ = some (.int .i64 u1) := B_z1.out.cell 2 rfl; have c3z1 : w2.cell? ⟨w.heap.size + 1, 3, none⟩ = some (.int .i64 v1) := B_z1.out.cell 3 rfl; have c4z1 : w2.cell? ⟨w.heap.size + 1, 4, none⟩ = some (.int .i64 g) := B_z1.out.cell 4 rfl; have c5z1 : w2.cell? ⟨w.heap.size + 1, 5, none⟩ = some (.int .i64 d) := B_z1.out.cell 5 rfl; obtain ⟨cn0, cn1⟩ := cells2 N; obtain ⟨fn0, fn1⟩ := froz2 N; have tc1x2 : True := trivial)
      | (clear tk1x2; go_at_call 41; refine (H2.out _).mono ?_; rintro e w3 ⟨rfl, bb⟩; replace bb := nextr (w0 := w2) bb (sm rfl rfl rfl (Nat.le_refl _) (fun _ _ => rfl)); replace B_z0 := mv B_z0 bb; replace B_z1 := mv B_z1 bb; replace B_z2 := mv B_z2 bb; replace HB := nx HB bb; clear bb c0z0 c1z0 c2z0 c3z0 c4z0 c5z0 c0z1 c1z1 c2z1 c3z1 c4z1 c5z1; have c0z0 : w3.cell? ⟨w.heap.size, 0, none⟩ = some (.int .i64 x0) := B_z0.out.cell 0 rfl; have c1z0 : w3.cell? ⟨w.heap.size, 1, none⟩ = some (.int .i64 y0) := B_z0.out.cell 1 rfl; have c2z0 : w3.cell? ⟨w.heap.size, 2, none⟩ = some (.int .i64 x1) := B_z0.out.cell 2 rfl; have c3z0 : w3.cell? ⟨w.heap.size, 3, none⟩ = some (.int .i64 y1) := B_z0.out.cell 3 rfl; have c4z0 : w3.cell? ⟨w.heap.size, 4, none⟩ = some (.int .i64 f) := B_z0.out.cell 4 rfl; have c5z0 : w3.cell? ⟨w.heap.size, 5, none⟩ = some (.int .i64 c) := B_z0.out.cell 5 rfl; have c0z1 : w3.cell? ⟨w.heap.size + 1, 0, none⟩ = some (.int .i64 u0) := B_z1.out.cell 0 rfl; have c1z1 : w3.cell? ⟨w.heap.size + 1, 1, none⟩ = some (.int .i64 v0) := B_z1.out.cell 1 rfl; have c2z1 : w3.cell? ⟨w.heap.size + 1, 2, none⟩ = some (.int .i64 u1) := B_z1.out.cell 2 rfl; have c3z1 : w3.cell? ⟨w.heap.size + 1, 3, none⟩ = some (.int .i64 v1) := B_z1.out.cell 3 rfl; have c4z1 : w3.cell? ⟨w.heap.size + 1, 4, none⟩ = some (.int .i64 g) := B_z1.out.cell 4 rfl; have c5z1 : w3.cell? ⟨w.heap.size + 1, 5, none⟩ = some (.int .i64 d) := B_z1.out.cell 5 rfl; have tk1x3 : True := trivial)
      | (clear tk1x2; go_at_call 41; refine (H2.out _).mono ?_; rintro e w3 ⟨rfl, bb⟩; replace bb := nextr (w0 := w2.alloc (.cells #[.int .i64 0, .int .i64 0] 59)) bb (sm rfl rfl rfl (Nat.le_refl _) (fun _ _ => rfl)); have NN : Hid (w.heap.size ≤ w2.heap.size ∧ w.heap.size ≠ w2.heap.size ∧ w.heap.size + 1 ≠ w2.heap.size ∧ w.heap.size + 1 + 1 ≠ w2.heap.size) := (by have lx_z0 := B_z0.out.lt; have lx_z1 := B_z1.out.lt; have lx_z2 := B_z2.out.lt; have hs := HB.out.size; unfold Hid; omega); have nnO := NN.out; have N := newB bb; replace bb := nextw (alB w2 (.cells #[.int .i64 0, .int .i64 0] 59)) bb; replace B_z0 := mv B_z0 bb; replace B_z1 := mv B_z1 bb; replace B_z2 := mv B_z2 bb; replace HB := nx HB bb; clear bb c0z0 c1z0 c2z0 c3z0 c4z0 c5z0 c0z1 c1z1 c2z1 c3z1 c4z1 c5z1; have c0z0 : w3.cell? ⟨w.heap.size, 0, none⟩ = some (.int .i64 x0) := B_z0.out.cell 0 rfl; have c1z0 : w3.cell? ⟨w.heap.size, 1, none⟩ = some (.int .i64 y0) := B_z0.out.cell 1 rfl; have c2z0 : w3.cell? ⟨w.heap.size, 2, none⟩ = some (.int .i64 x1) := B_z0.out.cell 2 rfl; have c3z0 : w3.cell? ⟨w.heap.size, 3, none⟩ = some (.int .i64 y1) := B_z0.out.cell 3 rfl; have c4z0 : w3.cell? ⟨w.heap.size, 4, none⟩ = some (.int .i64 f) := B_z0.out.cell 4 rfl; have c5z0 : w3.cell? ⟨w.heap.size, 5, none⟩ = some (.int .i64 c) := B_z0.out.cell 5 rfl; have c0z1 : w3.cell? ⟨w.heap.size + 1, 0, none⟩ = some (.int .i64 u0) := B_z1.out.cell 0 rfl; have c1z1 : w3.cell? ⟨w.heap.size + 1, 1, none⟩ = some (.int .i64 v0) := B_z1.out.cell 1 rfl; have c2z1 : w3.cell? ⟨w.heap.size + 1, 2, none⟩ = some (.int .i64 u1) := B_z1.out.cell 2 rfl; have c3z1 : w3.cell? ⟨w.heap.size + 1, 3, none⟩ = some (.int .i64 v1) := B_z1.out.cell 3 rfl; have c4z1 : w3.cell? ⟨w.heap.size + 1, 4, none⟩ = some (.int .i64 g) := B_z1.out.cell 4 rfl; have c5z1 : w3.cell? ⟨w.heap.size + 1, 5, none⟩ = some (.int .i64 d) := B_z1.out.cell 5 rfl; obtain ⟨cn0, cn1⟩ := cells2 N; obtain ⟨fn0, fn1⟩ := froz2 N; have tc1x3 : True := trivial)
      | (clear tc1x2; clear cn0 cn1 fn0 fn1; go_at_call 41; refine (H2.out _).mono ?_; rintro e w3 ⟨rfl, bb⟩; replace bb := nextr (w0 := w2) bb (sm rfl rfl rfl (Nat.le_refl _) (fun _ _ => rfl)); replace N := mv N bb; replace B_z0 := mv B_z0 bb; replace B_z1 := mv B_z1 bb; replace B_z2 := mv B_z2 bb; replace HB := nx HB bb; clear bb c0z0 c1z0 c2z0 c3z0 c4z0 c5z0 c0z1 c1z1 c2z1 c3z1 c4z1 c5z1; have c0z0 : w3.cell? ⟨w.heap.size, 0, none⟩ = some (.int .i64 x0) := B_z0.out.cell 0 rfl; have c1z0 : w3.cell? ⟨w.heap.size, 1, none⟩ = some (.int .i64 y0) := B_z0.out.cell 1 rfl; have c2z0 : w3.cell? ⟨w.heap.size, 2, none⟩ = some (.int .i64 x1) := B_z0.out.cell 2 rfl; have c3z0 : w3.cell? ⟨w.heap.size, 3, none⟩ = some (.int .i64 y1) := B_z0.out.cell 3 rfl; have c4z0 : w3.cell? ⟨w.heap.size, 4, none⟩ = some (.int .i64 f) := B_z0.out.cell 4 rfl; have c5z0 : w3.cell? ⟨w.heap.size, 5, none⟩ = some (.int .i64 c) := B_z0.out.cell 5 rfl; have c0z1 : w3.cell? ⟨w.heap.size + 1, 0, none⟩ = some (.int .i64 u0) := B_z1.out.cell 0 rfl; have c1z1 : w3.cell? ⟨w.heap.size + 1, 1, none⟩ = some (.int .i64 v0) := B_z1.out.cell 1 rfl; have c2z1 : w3.cell? ⟨w.heap.size + 1, 2, none⟩ = some (.int .i64 u1) := B_z1.out.cell 2 rfl; have c3z1 : w3.cell? ⟨w.heap.size + 1, 3, none⟩ = some (.int .i64 v1) := B_z1.out.cell 3 rfl; have c4z1 : w3.cell? ⟨w.heap.size + 1, 4, none⟩ = some (.int .i64 g) := B_z1.out.cell 4 rfl; have c5z1 : w3.cell? ⟨w.heap.size + 1, 5, none⟩ = some (.int .i64 d) := B_z1.out.cell 5 rfl; obtain ⟨cn0, cn1⟩ := cells2 N; obtain ⟨fn0, fn1⟩ := froz2 N; have tc1x3 : True := trivial))
    all_goals go_wp2_with fail
    all_goals go_meet
    all_goals first
        | (refine ⟨w3.heap.size, rfl, rfl, ?_⟩; have lx_z0 := B_z0.out.lt; have lx_z1 := B_z1.out.lt; have lx_z2 := B_z2.out.lt; obtain ⟨bb, b0⟩ := box1 w3 59 #[.int .i64 0, .int .i64 0]; replace bb := bb.out; have hs := HB.out.size; exact ⟨(by unfold Hid; omega), (by unfold Hid; omega), (by unfold Hid; omega), (by unfold Hid; omega), mv b0 sm, mv (mv B_z0 bb) sm, mv (mv B_z1 bb) sm, mv (mv B_z2 bb) sm, nx (nx HB bb) sm⟩)
        | (refine ⟨W0.heap.size, rfl, rfl, ?_⟩; obtain ⟨hl, h0, h1, h2⟩ := NN.out; exact ⟨Lib.hid h0, Lib.hid h1, Lib.hid h2, Lib.hid hl, mv (stor2 N (.int .i64 0) (.int .i64 0)) sm, mv (far2 B_z0 h0 0 (.int .i64 0) 1 (.int .i64 0)) sm, mv (far2 B_z1 h1 0 (.int .i64 0) 1 (.int .i64 0)) sm, mv (far2 B_z2 h2 0 (.int .i64 0) 1 (.int .i64 0)) sm, nx (stb2 HB hl 0 (.int .i64 0) 1 (.int .i64 0)) sm⟩)
        | (refine ⟨w1.heap.size, rfl, rfl, ?_⟩; obtain ⟨hl, h0, h1, h2⟩ := NN.out; exact ⟨Lib.hid h0, Lib.hid h1, Lib.hid h2, Lib.hid hl, mv (stor2 N (.int .i64 0) (.int .i64 0)) sm, mv (far2 B_z0 h0 0 (.int .i64 0) 1 (.int .i64 0)) sm, mv (far2 B_z1 h1 0 (.int .i64 0) 1 (.int .i64 0)) sm, mv (far2 B_z2 h2 0 (.int .i64 0) 1 (.int .i64 0)) sm, nx (stb2 HB hl 0 (.int .i64 0) 1 (.int .i64 0)) sm⟩)
        | (refine ⟨w2.heap.size, rfl, rfl, ?_⟩; obtain ⟨hl, h0, h1, h2⟩ := NN.out; exact ⟨Lib.hid h0, Lib.hid h1, Lib.hid h2, Lib.hid hl, mv (stor2 N (.int .i64 0) (.int .i64 0)) sm, mv (far2 B_z0 h0 0 (.int .i64 0) 1 (.int .i64 0)) sm, mv (far2 B_z1 h1 0 (.int .i64 0) 1 (.int .i64 0)) sm, mv (far2 B_z2 h2 0 (.int .i64 0) 1 (.int .i64 0)) sm, nx (stb2 HB hl 0 (.int .i64 0) 1 (.int .i64 0)) sm⟩)
  case rest =>
    clear B_z0
    clear B_z1
    clear B_z2
    clear HB
    rename World => wc4
    obtain ⟨Pz3, rfl, rfl, noz0Pz3, noz1Pz3, noz2Pz3, lePz3, B_z3, B_z0, B_z1, B_z2, HB⟩ := hcut
    have lePz3' := lePz3.out
    obtain ⟨s0, s1, s2, s3, s4, s5⟩ := cells6 (stor6 B_z2 (.int .i64 0) (.int .i64 0) (.int .i64 0) (.int .i64 0) (.int .i64 0) (.int .i64 0))
    have HF := stb6 HB (y := w.heap.size + 1 + 1) (by omega) 0 (.int .i64 0) 1 (.int .i64 0) 2 (.int .i64 0) 3 (.int .i64 0) 4 (.int .i64 0) 5 (.int .i64 0)
    obtain ⟨c0z2, c1z2, c2z2, c3z2, c4z2, c5z2⟩ := cells6 B_z2
    obtain ⟨f0z2, f1z2, f2z2, f3z2, f4z2, f5z2⟩ := froz6 B_z2
    go_wp2_with fail
    exact bodyPost_ret (v := .tuple #[.agg #[.int .i64 0, .int .i64 0, .int .i64 0, .int .i64 0, .int .i64 0, .int .i64 0], .int .i64 1]) (by simp [results, Try.results13, go_sem, s0, s1, s2, s3, s4, s5]) rfl ⟨rfl, nextw HF.out (by exact sm)⟩

set_option maxRecDepth 100000 in
set_option maxHeartbeats 4000000 in
theorem BHull0_w2 (x0 y0 x1 y1 f c u0 v0 u1 v1 g d : Int)   (dd0 : OkA f c) (dd1 : ¬ (OkA g d)) (w : World) :
    Calls Try.prog 13 #[.agg #[.int .i64 x0, .int .i64 y0, .int .i64 x1, .int .i64 y1, .int .i64 f, .int .i64 c], .agg #[.int .i64 u0, .int .i64 v0, .int .i64 u1, .int .i64 v1, .int .i64 g, .int .i64 d]] w fun e w' => e = .returned (.tuple #[.agg #[.int .i64 0, .int .i64 0, .int .i64 0, .int .i64 0, .int .i64 0, .int .i64 0], .int .i64 1]) ∧ Below w.heap.size w w' := by
  have H0 := Lib.hid (fun w => arcOf_any x0 y0 x1 y1 f c w)
  have H1 := Lib.hid (fun w => arcOf_any u0 v0 u1 v1 g d w)
  have H2 := Lib.hid (fun w => Hull_bad2 f c g d dd0 dd1 w)
  have dd0b := And.intro dd0.f0 (And.intro dd0.f1 (And.intro dd0.c0 dd0.c1))
  obtain ⟨HB, B_z0, B_z1, B_z2⟩ := box3 w 23 #[.int .i64 x0, .int .i64 y0, .int .i64 x1, .int .i64 y1, .int .i64 f, .int .i64 c] 23 #[.int .i64 u0, .int .i64 v0, .int .i64 u1, .int .i64 v1, .int .i64 g, .int .i64 d] 23 #[.int .i64 0, .int .i64 0, .int .i64 0, .int .i64 0, .int .i64 0, .int .i64 0]
  go_enter Try.func13, Try.ntmps13
  go_upto_region 1 with (fail)
  generalize ((w.alloc (.cells #[.int .i64 x0, .int .i64 y0, .int .i64 x1, .int .i64 y1, .int .i64 f, .int .i64 c] 23)).alloc (.cells #[.int .i64 u0, .int .i64 v0, .int .i64 u1, .int .i64 v1, .int .i64 g, .int .i64 d] 23)).alloc (.cells #[.int .i64 0, .int .i64 0, .int .i64 0, .int .i64 0, .int .i64 0, .int .i64 0] 23) = W0 at *
  go_cut [6, 7] (fun sv0 su0 wx => ∃ Pz3 : Nat, sv0 = (.pointer (some ⟨Pz3, 0, none⟩)) ∧ su0 = (.int .i64 1) ∧ Hid (w.heap.size ≠ Pz3) ∧ Hid (w.heap.size + 1 ≠ Pz3) ∧ Hid (w.heap.size + 1 + 1 ≠ Pz3) ∧ Hid (w.heap.size ≤ Pz3) ∧ Hid (Bx wx (Pz3) 59 #[.int .i64 0, .int .i64 0]) ∧ Hid (Bx wx (w.heap.size) 23 #[.int .i64 x0, .int .i64 y0, .int .i64 x1, .int .i64 y1, .int .i64 f, .int .i64 c]) ∧ Hid (Bx wx (w.heap.size + 1) 23 #[.int .i64 u0, .int .i64 v0, .int .i64 u1, .int .i64 v1, .int .i64 g, .int .i64 d]) ∧ Hid (Bx wx (w.heap.size + 1 + 1) 23 #[.int .i64 0, .int .i64 0, .int .i64 0, .int .i64 0, .int .i64 0, .int .i64 0]) ∧ Hid (Below w.heap.size w wx))
  case first =>
    obtain ⟨c0z0, c1z0, c2z0, c3z0, c4z0, c5z0⟩ := cells6 B_z0
    obtain ⟨c0z1, c1z1, c2z1, c3z1, c4z1, c5z1⟩ := cells6 B_z1
    have tk1x0 : True := trivial
    go_region_held3 (fun w' => w'.cell? ⟨w.heap.size, 0, none⟩ = some (.int .i64 x0) ∧ w'.cell? ⟨w.heap.size, 1, none⟩ = some (.int .i64 y0) ∧ w'.cell? ⟨w.heap.size, 2, none⟩ = some (.int .i64 x1) ∧ w'.cell? ⟨w.heap.size, 3, none⟩ = some (.int .i64 y1) ∧ w'.cell? ⟨w.heap.size, 4, none⟩ = some (.int .i64 f) ∧ w'.cell? ⟨w.heap.size, 5, none⟩ = some (.int .i64 c) ∧ w'.cell? ⟨w.heap.size + 1, 0, none⟩ = some (.int .i64 u0) ∧ w'.cell? ⟨w.heap.size + 1, 1, none⟩ = some (.int .i64 v0) ∧ w'.cell? ⟨w.heap.size + 1, 2, none⟩ = some (.int .i64 u1) ∧ w'.cell? ⟨w.heap.size + 1, 3, none⟩ = some (.int .i64 v1) ∧ w'.cell? ⟨w.heap.size + 1, 4, none⟩ = some (.int .i64 g) ∧ w'.cell? ⟨w.heap.size + 1, 5, none⟩ = some (.int .i64 d)) (((try dsimp only); (repeat' apply And.intro) <;> (first | (with_reducible assumption) | ((repeat (first | (with_reducible refine Eq.trans (cell_drew1 _ _) ?_) | (with_reducible refine Eq.trans (cell_far (by omega) _ _ _) ?_) | (with_reducible refine Eq.trans (World.cell?_alloc_lt _ _ _ (by first | (dsimp only; omega) | (simp only [World.size_alloc, World.size_setCell]; omega))) ?_))); with_reducible assumption) | assumption | go_keep)))
    (first
      | (clear tk1x0; go_at_call 42; refine (H0.out _).mono ?_; rintro e w1 ⟨rfl, bb⟩; replace bb := nextr (w0 := W0) bb (sm rfl rfl rfl (Nat.le_refl _) (fun _ _ => rfl)); replace B_z0 := mv B_z0 bb; replace B_z1 := mv B_z1 bb; replace B_z2 := mv B_z2 bb; replace HB := nx HB bb; clear bb c0z0 c1z0 c2z0 c3z0 c4z0 c5z0 c0z1 c1z1 c2z1 c3z1 c4z1 c5z1; have c0z0 : w1.cell? ⟨w.heap.size, 0, none⟩ = some (.int .i64 x0) := B_z0.out.cell 0 rfl; have c1z0 : w1.cell? ⟨w.heap.size, 1, none⟩ = some (.int .i64 y0) := B_z0.out.cell 1 rfl; have c2z0 : w1.cell? ⟨w.heap.size, 2, none⟩ = some (.int .i64 x1) := B_z0.out.cell 2 rfl; have c3z0 : w1.cell? ⟨w.heap.size, 3, none⟩ = some (.int .i64 y1) := B_z0.out.cell 3 rfl; have c4z0 : w1.cell? ⟨w.heap.size, 4, none⟩ = some (.int .i64 f) := B_z0.out.cell 4 rfl; have c5z0 : w1.cell? ⟨w.heap.size, 5, none⟩ = some (.int .i64 c) := B_z0.out.cell 5 rfl; have c0z1 : w1.cell? ⟨w.heap.size + 1, 0, none⟩ = some (.int .i64 u0) := B_z1.out.cell 0 rfl; have c1z1 : w1.cell? ⟨w.heap.size + 1, 1, none⟩ = some (.int .i64 v0) := B_z1.out.cell 1 rfl; have c2z1 : w1.cell? ⟨w.heap.size + 1, 2, none⟩ = some (.int .i64 u1) := B_z1.out.cell 2 rfl; have c3z1 : w1.cell? ⟨w.heap.size + 1, 3, none⟩ = some (.int .i64 v1) := B_z1.out.cell 3 rfl; have c4z1 : w1.cell? ⟨w.heap.size + 1, 4, none⟩ = some (.int .i64 g) := B_z1.out.cell 4 rfl; have c5z1 : w1.cell? ⟨w.heap.size + 1, 5, none⟩ = some (.int .i64 d) := B_z1.out.cell 5 rfl; have tk1x1 : True := trivial)
      | (clear tk1x0; go_at_call 42; refine (H0.out _).mono ?_; rintro e w1 ⟨rfl, bb⟩; replace bb := nextr (w0 := W0.alloc (.cells #[.int .i64 0, .int .i64 0] 59)) bb (sm rfl rfl rfl (Nat.le_refl _) (fun _ _ => rfl)); have NN : Hid (w.heap.size ≤ W0.heap.size ∧ w.heap.size ≠ W0.heap.size ∧ w.heap.size + 1 ≠ W0.heap.size ∧ w.heap.size + 1 + 1 ≠ W0.heap.size) := (by have lx_z0 := B_z0.out.lt; have lx_z1 := B_z1.out.lt; have lx_z2 := B_z2.out.lt; have hs := HB.out.size; unfold Hid; omega); have nnO := NN.out; have N := newB bb; replace bb := nextw (alB W0 (.cells #[.int .i64 0, .int .i64 0] 59)) bb; replace B_z0 := mv B_z0 bb; replace B_z1 := mv B_z1 bb; replace B_z2 := mv B_z2 bb; replace HB := nx HB bb; clear bb c0z0 c1z0 c2z0 c3z0 c4z0 c5z0 c0z1 c1z1 c2z1 c3z1 c4z1 c5z1; have c0z0 : w1.cell? ⟨w.heap.size, 0, none⟩ = some (.int .i64 x0) := B_z0.out.cell 0 rfl; have c1z0 : w1.cell? ⟨w.heap.size, 1, none⟩ = some (.int .i64 y0) := B_z0.out.cell 1 rfl; have c2z0 : w1.cell? ⟨w.heap.size, 2, none⟩ = some (.int .i64 x1) := B_z0.out.cell 2 rfl; have c3z0 : w1.cell? ⟨w.heap.size, 3, none⟩ = some (.int .i64 y1) := B_z0.out.cell 3 rfl; have c4z0 : w1.cell? ⟨w.heap.size, 4, none⟩ = some (.int .i64 f) := B_z0.out.cell 4 rfl; have c5z0 : w1.cell? ⟨w.heap.size, 5, none⟩ = some (.int .i64 c) := B_z0.out.cell 5 rfl; have c0z1 : w1.cell? ⟨w.heap.size + 1, 0, none⟩ = some (.int .i64 u0) := B_z1.out.cell 0 rfl; have c1z1 : w1.cell? ⟨w.heap.size + 1, 1, none⟩ = some (.int .i64 v0) := B_z1.out.cell 1 rfl; have c2z1 : w1.cell? ⟨w.heap.size + 1, 2, none⟩ = some (.int .i64 u1) := B_z1.out.cell 2 rfl; have c3z1 : w1.cell? ⟨w.heap.size + 1, 3, none⟩ = some (.int .i64 v1) := B_z1.out.cell 3 rfl; have c4z1 : w1.cell? ⟨w.heap.size + 1, 4, none⟩ = some (.int .i64 g) := B_z1.out.cell 4 rfl; have c5z1 : w1.cell? ⟨w.heap.size + 1, 5, none⟩ = some (.int .i64 d) := B_z1.out.cell 5 rfl; obtain ⟨cn0, cn1⟩ := cells2 N; obtain ⟨fn0, fn1⟩ := froz2 N; have tc1x1 : True := trivial)
      | (clear tk1x1; go_at_call 42; refine (H1.out _).mono ?_; rintro e w2 ⟨rfl, bb⟩; replace bb := nextr (w0 := w1) bb (sm rfl rfl rfl (Nat.le_refl _) (fun _ _ => rfl)); replace B_z0 := mv B_z0 bb; replace B_z1 := mv B_z1 bb; replace B_z2 := mv B_z2 bb; replace HB := nx HB bb; clear bb c0z0 c1z0 c2z0 c3z0 c4z0 c5z0 c0z1 c1z1 c2z1 c3z1 c4z1 c5z1; have c0z0 : w2.cell? ⟨w.heap.size, 0, none⟩ = some (.int .i64 x0) := B_z0.out.cell 0 rfl; have c1z0 : w2.cell? ⟨w.heap.size, 1, none⟩ = some (.int .i64 y0) := B_z0.out.cell 1 rfl; have c2z0 : w2.cell? ⟨w.heap.size, 2, none⟩ = some (.int .i64 x1) := B_z0.out.cell 2 rfl; have c3z0 : w2.cell? ⟨w.heap.size, 3, none⟩ = some (.int .i64 y1) := B_z0.out.cell 3 rfl; have c4z0 : w2.cell? ⟨w.heap.size, 4, none⟩ = some (.int .i64 f) := B_z0.out.cell 4 rfl; have c5z0 : w2.cell? ⟨w.heap.size, 5, none⟩ = some (.int .i64 c) := B_z0.out.cell 5 rfl; have c0z1 : w2.cell? ⟨w.heap.size + 1, 0, none⟩ = some (.int .i64 u0) := B_z1.out.cell 0 rfl; have c1z1 : w2.cell? ⟨w.heap.size + 1, 1, none⟩ = some (.int .i64 v0) := B_z1.out.cell 1 rfl; have c2z1 : w2.cell? ⟨w.heap.size + 1, 2, none⟩ = some (.int .i64 u1) := B_z1.out.cell 2 rfl; have c3z1 : w2.cell? ⟨w.heap.size + 1, 3, none⟩ = some (.int .i64 v1) := B_z1.out.cell 3 rfl; have c4z1 : w2.cell? ⟨w.heap.size + 1, 4, none⟩ = some (.int .i64 g) := B_z1.out.cell 4 rfl; have c5z1 : w2.cell? ⟨w.heap.size + 1, 5, none⟩ = some (.int .i64 d) := B_z1.out.cell 5 rfl; have tk1x2 : True := trivial)
      | (clear tk1x1; go_at_call 42; refine (H1.out _).mono ?_; rintro e w2 ⟨rfl, bb⟩; replace bb := nextr (w0 := w1.alloc (.cells #[.int .i64 0, .int .i64 0] 59)) bb (sm rfl rfl rfl (Nat.le_refl _) (fun _ _ => rfl)); have NN : Hid (w.heap.size ≤ w1.heap.size ∧ w.heap.size ≠ w1.heap.size ∧ w.heap.size + 1 ≠ w1.heap.size ∧ w.heap.size + 1 + 1 ≠ w1.heap.size) := (by have lx_z0 := B_z0.out.lt; have lx_z1 := B_z1.out.lt; have lx_z2 := B_z2.out.lt; have hs := HB.out.size; unfold Hid; omega); have nnO := NN.out; have N := newB bb; replace bb := nextw (alB w1 (.cells #[.int .i64 0, .int .i64 0] 59)) bb; replace B_z0 := mv B_z0 bb; replace B_z1 := mv B_z1 bb; replace B_z2 := mv B_z2 bb; replace HB := nx HB bb; clear bb c0z0 c1z0 c2z0 c3z0 c4z0 c5z0 c0z1 c1z1 c2z1 c3z1 c4z1 c5z1; have c0z0 : w2.cell? ⟨w.heap.size, 0, none⟩ = some (.int .i64 x0) := B_z0.out.cell 0 rfl; have c1z0 : w2.cell? ⟨w.heap.size, 1, none⟩ = some (.int .i64 y0) := B_z0.out.cell 1 rfl; have c2z0 : w2.cell? ⟨w.heap.size, 2, none⟩ = some (.int .i64 x1) := B_z0.out.cell 2 rfl; have c3z0 : w2.cell? ⟨w.heap.size, 3, none⟩ = some (.int .i64 y1) := B_z0.out.cell 3 rfl; have c4z0 : w2.cell? ⟨w.heap.size, 4, none⟩ = some (.int .i64 f) := B_z0.out.cell 4 rfl; have c5z0 : w2.cell? ⟨w.heap.size, 5, none⟩ = some (.int .i64 c) := B_z0.out.cell 5 rfl; have c0z1 : w2.cell? ⟨w.heap.size + 1, 0, none⟩ = some (.int .i64 u0) := B_z1.out.cell 0 rfl; have c1z1 : w2.cell? ⟨w.heap.size + 1, 1, none⟩ = some (.int .i64 v0) := B_z1.out.cell 1 rfl; have c2z1 : w2.cell? ⟨w.heap.size + 1, 2, none⟩ = some (.int .i64 u1) := B_z1.out.cell 2 rfl; have c3z1 : w2.cell? ⟨w.heap.size + 1, 3, none⟩ = some (.int .i64 v1) := B_z1.out.cell 3 rfl; have c4z1 : w2.cell? ⟨w.heap.size + 1, 4, none⟩ = some (.int .i64 g) := B_z1.out.cell 4 rfl; have c5z1 : w2.cell? ⟨w.heap.size + 1, 5, none⟩ = some (.int .i64 d) := B_z1.out.cell 5 rfl; obtain ⟨cn0, cn1⟩ := cells2 N; obtain ⟨fn0, fn1⟩ := froz2 N; have tc1x2 : True := trivial)
      | (clear tc1x1; clear cn0 cn1 fn0 fn1; go_at_call 42; refine (H1.out _).mono ?_; rintro e w2 ⟨rfl, bb⟩; replace bb := nextr (w0 := w1) bb (sm rfl rfl rfl (Nat.le_refl _) (fun _ _ => rfl)); replace N := mv N bb; replace B_z0 := mv B_z0 bb; replace B_z1 := mv B_z1 bb; replace B_z2 := mv B_z2 bb; replace HB := nx HB bb; clear bb c0z0 c1z0 c2z0 c3z0 c4z0 c5z0 c0z1 c1z1 c2z1 c3z1 c4z1 c5z1; have c0z0 : w2.cell? ⟨w.heap.size, 0, none⟩ = some (.int .i64 x0) := B_z0.out.cell 0 rfl; have c1z0 : w2.cell? ⟨w.heap.size, 1, none⟩ = some (.int .i64 y0) := B_z0.out.cell 1 rfl; have c2z0 : w2.cell? ⟨w.heap.size, 2, none⟩ = some (.int .i64 x1) := B_z0.out.cell 2 rfl; have c3z0 : w2.cell? ⟨w.heap.size, 3, none⟩ = some (.int .i64 y1) := B_z0.out.cell 3 rfl; have c4z0 : w2.cell? ⟨w.heap.size, 4, none⟩ = some (.int .i64 f) := B_z0.out.cell 4 rfl; have c5z0 : w2.cell? ⟨w.heap.size, 5, none⟩ = some (.int .i64 c) := B_z0.out.cell 5 rfl; have c0z1 : w2.cell? ⟨w.heap.size + 1, 0, none⟩ = some (.int .i64 u0) := B_z1.out.cell 0 rfl; have c1z1 : w2.cell? ⟨w.heap.size + 1, 1, none⟩ = some (.int .i64 v0) := B_z1.out.cell 1 rfl; have c2z1 : w2.cell? ⟨w.heap.size + 1, 2, none⟩ = some (.int .i64 u1) := B_z1.out.cell 2 rfl; have c3z1 : w2.cell? ⟨w.heap.size + 1, 3, none⟩ = some (.int .i64 v1) := B_z1.out.cell 3 rfl; have c4z1 : w2.cell? ⟨w.heap.size + 1, 4, none⟩ = some (.int .i64 g) := B_z1.out.cell 4 rfl; have c5z1 : w2.cell? ⟨w.heap.size + 1, 5, none⟩ = some (.int .i64 d) := B_z1.out.cell 5 rfl; obtain ⟨cn0, cn1⟩ := cells2 N; obtain ⟨fn0, fn1⟩ := froz2 N; have tc1x2 : True := trivial)
      | (clear tk1x2; go_at_call 41; refine (H2.out _).mono ?_; rintro e w3 ⟨rfl, bb⟩; replace bb := nextr (w0 := w2) bb (sm rfl rfl rfl (Nat.le_refl _) (fun _ _ => rfl)); replace B_z0 := mv B_z0 bb; replace B_z1 := mv B_z1 bb; replace B_z2 := mv B_z2 bb; replace HB := nx HB bb; clear bb c0z0 c1z0 c2z0 c3z0 c4z0 c5z0 c0z1 c1z1 c2z1 c3z1 c4z1 c5z1; have c0z0 : w3.cell? ⟨w.heap.size, 0, none⟩ = some (.int .i64 x0) := B_z0.out.cell 0 rfl; have c1z0 : w3.cell? ⟨w.heap.size, 1, none⟩ = some (.int .i64 y0) := B_z0.out.cell 1 rfl; have c2z0 : w3.cell? ⟨w.heap.size, 2, none⟩ = some (.int .i64 x1) := B_z0.out.cell 2 rfl; have c3z0 : w3.cell? ⟨w.heap.size, 3, none⟩ = some (.int .i64 y1) := B_z0.out.cell 3 rfl; have c4z0 : w3.cell? ⟨w.heap.size, 4, none⟩ = some (.int .i64 f) := B_z0.out.cell 4 rfl; have c5z0 : w3.cell? ⟨w.heap.size, 5, none⟩ = some (.int .i64 c) := B_z0.out.cell 5 rfl; have c0z1 : w3.cell? ⟨w.heap.size + 1, 0, none⟩ = some (.int .i64 u0) := B_z1.out.cell 0 rfl; have c1z1 : w3.cell? ⟨w.heap.size + 1, 1, none⟩ = some (.int .i64 v0) := B_z1.out.cell 1 rfl; have c2z1 : w3.cell? ⟨w.heap.size + 1, 2, none⟩ = some (.int .i64 u1) := B_z1.out.cell 2 rfl; have c3z1 : w3.cell? ⟨w.heap.size + 1, 3, none⟩ = some (.int .i64 v1) := B_z1.out.cell 3 rfl; have c4z1 : w3.cell? ⟨w.heap.size + 1, 4, none⟩ = some (.int .i64 g) := B_z1.out.cell 4 rfl; have c5z1 : w3.cell? ⟨w.heap.size + 1, 5, none⟩ = some (.int .i64 d) := B_z1.out.cell 5 rfl; have tk1x3 : True := trivial)
      | (clear tk1x2; go_at_call 41; refine (H2.out _).mono ?_; rintro e w3 ⟨rfl, bb⟩; replace bb := nextr (w0 := w2.alloc (.cells #[.int .i64 0, .int .i64 0] 59)) bb (sm rfl rfl rfl (Nat.le_refl _) (fun _ _ => rfl)); have NN : Hid (w.heap.size ≤ w2.heap.size ∧ w.heap.size ≠ w2.heap.size ∧ w.heap.size + 1 ≠ w2.heap.size ∧ w.heap.size + 1 + 1 ≠ w2.heap.size) := (by have lx_z0 := B_z0.out.lt; have lx_z1 := B_z1.out.lt; have lx_z2 := B_z2.out.lt; have hs := HB.out.size; unfold Hid; omega); have nnO := NN.out; have N := newB bb; replace bb := nextw (alB w2 (.cells #[.int .i64 0, .int .i64 0] 59)) bb; replace B_z0 := mv B_z0 bb; replace B_z1 := mv B_z1 bb; replace B_z2 := mv B_z2 bb; replace HB := nx HB bb; clear bb c0z0 c1z0 c2z0 c3z0 c4z0 c5z0 c0z1 c1z1 c2z1 c3z1 c4z1 c5z1; have c0z0 : w3.cell? ⟨w.heap.size, 0, none⟩ = some (.int .i64 x0) := B_z0.out.cell 0 rfl; have c1z0 : w3.cell? ⟨w.heap.size, 1, none⟩ = some (.int .i64 y0) := B_z0.out.cell 1 rfl; have c2z0 : w3.cell? ⟨w.heap.size, 2, none⟩ = some (.int .i64 x1) := B_z0.out.cell 2 rfl; have c3z0 : w3.cell? ⟨w.heap.size, 3, none⟩ = some (.int .i64 y1) := B_z0.out.cell 3 rfl; have c4z0 : w3.cell? ⟨w.heap.size, 4, none⟩ = some (.int .i64 f) := B_z0.out.cell 4 rfl; have c5z0 : w3.cell? ⟨w.heap.size, 5, none⟩ = some (.int .i64 c) := B_z0.out.cell 5 rfl; have c0z1 : w3.cell? ⟨w.heap.size + 1, 0, none⟩ = some (.int .i64 u0) := B_z1.out.cell 0 rfl; have c1z1 : w3.cell? ⟨w.heap.size + 1, 1, none⟩ = some (.int .i64 v0) := B_z1.out.cell 1 rfl; have c2z1 : w3.cell? ⟨w.heap.size + 1, 2, none⟩ = some (.int .i64 u1) := B_z1.out.cell 2 rfl; have c3z1 : w3.cell? ⟨w.heap.size + 1, 3, none⟩ = some (.int .i64 v1) := B_z1.out.cell 3 rfl; have c4z1 : w3.cell? ⟨w.heap.size + 1, 4, none⟩ = some (.int .i64 g) := B_z1.out.cell 4 rfl; have c5z1 : w3.cell? ⟨w.heap.size + 1, 5, none⟩ = some (.int .i64 d) := B_z1.out.cell 5 rfl; obtain ⟨cn0, cn1⟩ := cells2 N; obtain ⟨fn0, fn1⟩ := froz2 N; have tc1x3 : True := trivial)
      | (clear tc1x2; clear cn0 cn1 fn0 fn1; go_at_call 41; refine (H2.out _).mono ?_; rintro e w3 ⟨rfl, bb⟩; replace bb := nextr (w0 := w2) bb (sm rfl rfl rfl (Nat.le_refl _) (fun _ _ => rfl)); replace N := mv N bb; replace B_z0 := mv B_z0 bb; replace B_z1 := mv B_z1 bb; replace B_z2 := mv B_z2 bb; replace HB := nx HB bb; clear bb c0z0 c1z0 c2z0 c3z0 c4z0 c5z0 c0z1 c1z1 c2z1 c3z1 c4z1 c5z1; have c0z0 : w3.cell? ⟨w.heap.size, 0, none⟩ = some (.int .i64 x0) := B_z0.out.cell 0 rfl; have c1z0 : w3.cell? ⟨w.heap.size, 1, none⟩ = some (.int .i64 y0) := B_z0.out.cell 1 rfl; have c2z0 : w3.cell? ⟨w.heap.size, 2, none⟩ = some (.int .i64 x1) := B_z0.out.cell 2 rfl; have c3z0 : w3.cell? ⟨w.heap.size, 3, none⟩ = some (.int .i64 y1) := B_z0.out.cell 3 rfl; have c4z0 : w3.cell? ⟨w.heap.size, 4, none⟩ = some (.int .i64 f) := B_z0.out.cell 4 rfl; have c5z0 : w3.cell? ⟨w.heap.size, 5, none⟩ = some (.int .i64 c) := B_z0.out.cell 5 rfl; have c0z1 : w3.cell? ⟨w.heap.size + 1, 0, none⟩ = some (.int .i64 u0) := B_z1.out.cell 0 rfl; have c1z1 : w3.cell? ⟨w.heap.size + 1, 1, none⟩ = some (.int .i64 v0) := B_z1.out.cell 1 rfl; have c2z1 : w3.cell? ⟨w.heap.size + 1, 2, none⟩ = some (.int .i64 u1) := B_z1.out.cell 2 rfl; have c3z1 : w3.cell? ⟨w.heap.size + 1, 3, none⟩ = some (.int .i64 v1) := B_z1.out.cell 3 rfl; have c4z1 : w3.cell? ⟨w.heap.size + 1, 4, none⟩ = some (.int .i64 g) := B_z1.out.cell 4 rfl; have c5z1 : w3.cell? ⟨w.heap.size + 1, 5, none⟩ = some (.int .i64 d) := B_z1.out.cell 5 rfl; obtain ⟨cn0, cn1⟩ := cells2 N; obtain ⟨fn0, fn1⟩ := froz2 N; have tc1x3 : True := trivial))
    all_goals go_wp2_with fail
    all_goals go_meet
    all_goals first
        | (refine ⟨w3.heap.size, rfl, rfl, ?_⟩; have lx_z0 := B_z0.out.lt; have lx_z1 := B_z1.out.lt; have lx_z2 := B_z2.out.lt; obtain ⟨bb, b0⟩ := box1 w3 59 #[.int .i64 0, .int .i64 0]; replace bb := bb.out; have hs := HB.out.size; exact ⟨(by unfold Hid; omega), (by unfold Hid; omega), (by unfold Hid; omega), (by unfold Hid; omega), mv b0 sm, mv (mv B_z0 bb) sm, mv (mv B_z1 bb) sm, mv (mv B_z2 bb) sm, nx (nx HB bb) sm⟩)
        | (refine ⟨W0.heap.size, rfl, rfl, ?_⟩; obtain ⟨hl, h0, h1, h2⟩ := NN.out; exact ⟨Lib.hid h0, Lib.hid h1, Lib.hid h2, Lib.hid hl, mv (stor2 N (.int .i64 0) (.int .i64 0)) sm, mv (far2 B_z0 h0 0 (.int .i64 0) 1 (.int .i64 0)) sm, mv (far2 B_z1 h1 0 (.int .i64 0) 1 (.int .i64 0)) sm, mv (far2 B_z2 h2 0 (.int .i64 0) 1 (.int .i64 0)) sm, nx (stb2 HB hl 0 (.int .i64 0) 1 (.int .i64 0)) sm⟩)
        | (refine ⟨w1.heap.size, rfl, rfl, ?_⟩; obtain ⟨hl, h0, h1, h2⟩ := NN.out; exact ⟨Lib.hid h0, Lib.hid h1, Lib.hid h2, Lib.hid hl, mv (stor2 N (.int .i64 0) (.int .i64 0)) sm, mv (far2 B_z0 h0 0 (.int .i64 0) 1 (.int .i64 0)) sm, mv (far2 B_z1 h1 0 (.int .i64 0) 1 (.int .i64 0)) sm, mv (far2 B_z2 h2 0 (.int .i64 0) 1 (.int .i64 0)) sm, nx (stb2 HB hl 0 (.int .i64 0) 1 (.int .i64 0)) sm⟩)
        | (refine ⟨w2.heap.size, rfl, rfl, ?_⟩; obtain ⟨hl, h0, h1, h2⟩ := NN.out; exact ⟨Lib.hid h0, Lib.hid h1, Lib.hid h2, Lib.hid hl, mv (stor2 N (.int .i64 0) (.int .i64 0)) sm, mv (far2 B_z0 h0 0 (.int .i64 0) 1 (.int .i64 0)) sm, mv (far2 B_z1 h1 0 (.int .i64 0) 1 (.int .i64 0)) sm, mv (far2 B_z2 h2 0 (.int .i64 0) 1 (.int .i64 0)) sm, nx (stb2 HB hl 0 (.int .i64 0) 1 (.int .i64 0)) sm⟩)
  case rest =>
    clear B_z0
    clear B_z1
    clear B_z2
    clear HB
    rename World => wc4
    obtain ⟨Pz3, rfl, rfl, noz0Pz3, noz1Pz3, noz2Pz3, lePz3, B_z3, B_z0, B_z1, B_z2, HB⟩ := hcut
    have lePz3' := lePz3.out
    obtain ⟨s0, s1, s2, s3, s4, s5⟩ := cells6 (stor6 B_z2 (.int .i64 0) (.int .i64 0) (.int .i64 0) (.int .i64 0) (.int .i64 0) (.int .i64 0))
    have HF := stb6 HB (y := w.heap.size + 1 + 1) (by omega) 0 (.int .i64 0) 1 (.int .i64 0) 2 (.int .i64 0) 3 (.int .i64 0) 4 (.int .i64 0) 5 (.int .i64 0)
    obtain ⟨c0z2, c1z2, c2z2, c3z2, c4z2, c5z2⟩ := cells6 B_z2
    obtain ⟨f0z2, f1z2, f2z2, f3z2, f4z2, f5z2⟩ := froz6 B_z2
    go_wp2_with fail
    exact bodyPost_ret (v := .tuple #[.agg #[.int .i64 0, .int .i64 0, .int .i64 0, .int .i64 0, .int .i64 0, .int .i64 0], .int .i64 1]) (by simp [results, Try.results13, go_sem, s0, s1, s2, s3, s4, s5]) rfl ⟨rfl, nextw HF.out (by exact sm)⟩

set_option maxRecDepth 100000 in
set_option maxHeartbeats 4000000 in
theorem BHull0_w3 (x0 y0 x1 y1 f c u0 v0 u1 v1 g d : Int)   (dd0 : OkA f c) (dd1 : OkA g d) (dd2 : ¬ (OkB x0 y0 x1 y1 f c)) (w : World) :
    Calls Try.prog 13 #[.agg #[.int .i64 x0, .int .i64 y0, .int .i64 x1, .int .i64 y1, .int .i64 f, .int .i64 c], .agg #[.int .i64 u0, .int .i64 v0, .int .i64 u1, .int .i64 v1, .int .i64 g, .int .i64 d]] w fun e w' => e = .returned (.tuple #[.agg #[.int .i64 0, .int .i64 0, .int .i64 0, .int .i64 0, .int .i64 0, .int .i64 0], .int .i64 1]) ∧ Below w.heap.size w w' := by
  have H0 := Lib.hid (fun w => arcOf_any x0 y0 x1 y1 f c w)
  have H1 := Lib.hid (fun w => arcOf_any u0 v0 u1 v1 g d w)
  have H2 := Lib.hid (fun w => Hull_ok f c g d dd0 dd1 w)
  have H3 := Lib.hid (fun w => Valid_no dd2 w)
  have dd0b := And.intro dd0.f0 (And.intro dd0.f1 (And.intro dd0.c0 dd0.c1))
  have dd1b := And.intro dd1.f0 (And.intro dd1.f1 (And.intro dd1.c0 dd1.c1))
  obtain ⟨HB, B_z0, B_z1, B_z2⟩ := box3 w 23 #[.int .i64 x0, .int .i64 y0, .int .i64 x1, .int .i64 y1, .int .i64 f, .int .i64 c] 23 #[.int .i64 u0, .int .i64 v0, .int .i64 u1, .int .i64 v1, .int .i64 g, .int .i64 d] 23 #[.int .i64 0, .int .i64 0, .int .i64 0, .int .i64 0, .int .i64 0, .int .i64 0]
  go_enter Try.func13, Try.ntmps13
  go_upto_region 1 with (fail)
  generalize ((w.alloc (.cells #[.int .i64 x0, .int .i64 y0, .int .i64 x1, .int .i64 y1, .int .i64 f, .int .i64 c] 23)).alloc (.cells #[.int .i64 u0, .int .i64 v0, .int .i64 u1, .int .i64 v1, .int .i64 g, .int .i64 d] 23)).alloc (.cells #[.int .i64 0, .int .i64 0, .int .i64 0, .int .i64 0, .int .i64 0, .int .i64 0] 23) = W0 at *
  go_cut [6, 7] (fun sv0 su0 wx => ∃ Pz3 : Nat, sv0 = (.pointer (some ⟨Pz3, 0, none⟩)) ∧ su0 = (.int .i64 0) ∧ Hid (w.heap.size ≠ Pz3) ∧ Hid (w.heap.size + 1 ≠ Pz3) ∧ Hid (w.heap.size + 1 + 1 ≠ Pz3) ∧ Hid (w.heap.size ≤ Pz3) ∧ Hid (Bx wx (Pz3) 59 #[.int .i64 (hullF f c g d), .int .i64 (hullC f c g d)]) ∧ Hid (Bx wx (w.heap.size) 23 #[.int .i64 x0, .int .i64 y0, .int .i64 x1, .int .i64 y1, .int .i64 f, .int .i64 c]) ∧ Hid (Bx wx (w.heap.size + 1) 23 #[.int .i64 u0, .int .i64 v0, .int .i64 u1, .int .i64 v1, .int .i64 g, .int .i64 d]) ∧ Hid (Bx wx (w.heap.size + 1 + 1) 23 #[.int .i64 0, .int .i64 0, .int .i64 0, .int .i64 0, .int .i64 0, .int .i64 0]) ∧ Hid (Below w.heap.size w wx))
  case first =>
    obtain ⟨c0z0, c1z0, c2z0, c3z0, c4z0, c5z0⟩ := cells6 B_z0
    obtain ⟨c0z1, c1z1, c2z1, c3z1, c4z1, c5z1⟩ := cells6 B_z1
    have tk1x0 : True := trivial
    go_region_held3 (fun w' => w'.cell? ⟨w.heap.size, 0, none⟩ = some (.int .i64 x0) ∧ w'.cell? ⟨w.heap.size, 1, none⟩ = some (.int .i64 y0) ∧ w'.cell? ⟨w.heap.size, 2, none⟩ = some (.int .i64 x1) ∧ w'.cell? ⟨w.heap.size, 3, none⟩ = some (.int .i64 y1) ∧ w'.cell? ⟨w.heap.size, 4, none⟩ = some (.int .i64 f) ∧ w'.cell? ⟨w.heap.size, 5, none⟩ = some (.int .i64 c) ∧ w'.cell? ⟨w.heap.size + 1, 0, none⟩ = some (.int .i64 u0) ∧ w'.cell? ⟨w.heap.size + 1, 1, none⟩ = some (.int .i64 v0) ∧ w'.cell? ⟨w.heap.size + 1, 2, none⟩ = some (.int .i64 u1) ∧ w'.cell? ⟨w.heap.size + 1, 3, none⟩ = some (.int .i64 v1) ∧ w'.cell? ⟨w.heap.size + 1, 4, none⟩ = some (.int .i64 g) ∧ w'.cell? ⟨w.heap.size + 1, 5, none⟩ = some (.int .i64 d)) (((try dsimp only); (repeat' apply And.intro) <;> (first | (with_reducible assumption) | ((repeat (first | (with_reducible refine Eq.trans (cell_drew1 _ _) ?_) | (with_reducible refine Eq.trans (cell_far (by omega) _ _ _) ?_) | (with_reducible refine Eq.trans (World.cell?_alloc_lt _ _ _ (by first | (dsimp only; omega) | (simp only [World.size_alloc, World.size_setCell]; omega))) ?_))); with_reducible assumption) | assumption | go_keep)))
    (first
      | (clear tk1x0; go_at_call 42; refine (H0.out _).mono ?_; rintro e w1 ⟨rfl, bb⟩; replace bb := nextr (w0 := W0) bb (sm rfl rfl rfl (Nat.le_refl _) (fun _ _ => rfl)); replace B_z0 := mv B_z0 bb; replace B_z1 := mv B_z1 bb; replace B_z2 := mv B_z2 bb; replace HB := nx HB bb; clear bb c0z0 c1z0 c2z0 c3z0 c4z0 c5z0 c0z1 c1z1 c2z1 c3z1 c4z1 c5z1; have c0z0 : w1.cell? ⟨w.heap.size, 0, none⟩ = some (.int .i64 x0) := B_z0.out.cell 0 rfl; have c1z0 : w1.cell? ⟨w.heap.size, 1, none⟩ = some (.int .i64 y0) := B_z0.out.cell 1 rfl; have c2z0 : w1.cell? ⟨w.heap.size, 2, none⟩ = some (.int .i64 x1) := B_z0.out.cell 2 rfl; have c3z0 : w1.cell? ⟨w.heap.size, 3, none⟩ = some (.int .i64 y1) := B_z0.out.cell 3 rfl; have c4z0 : w1.cell? ⟨w.heap.size, 4, none⟩ = some (.int .i64 f) := B_z0.out.cell 4 rfl; have c5z0 : w1.cell? ⟨w.heap.size, 5, none⟩ = some (.int .i64 c) := B_z0.out.cell 5 rfl; have c0z1 : w1.cell? ⟨w.heap.size + 1, 0, none⟩ = some (.int .i64 u0) := B_z1.out.cell 0 rfl; have c1z1 : w1.cell? ⟨w.heap.size + 1, 1, none⟩ = some (.int .i64 v0) := B_z1.out.cell 1 rfl; have c2z1 : w1.cell? ⟨w.heap.size + 1, 2, none⟩ = some (.int .i64 u1) := B_z1.out.cell 2 rfl; have c3z1 : w1.cell? ⟨w.heap.size + 1, 3, none⟩ = some (.int .i64 v1) := B_z1.out.cell 3 rfl; have c4z1 : w1.cell? ⟨w.heap.size + 1, 4, none⟩ = some (.int .i64 g) := B_z1.out.cell 4 rfl; have c5z1 : w1.cell? ⟨w.heap.size + 1, 5, none⟩ = some (.int .i64 d) := B_z1.out.cell 5 rfl; have tk1x1 : True := trivial)
      | (clear tk1x0; go_at_call 42; refine (H0.out _).mono ?_; rintro e w1 ⟨rfl, bb⟩; replace bb := nextr (w0 := W0.alloc (.cells #[.int .i64 0, .int .i64 0] 59)) bb (sm rfl rfl rfl (Nat.le_refl _) (fun _ _ => rfl)); have NN : Hid (w.heap.size ≤ W0.heap.size ∧ w.heap.size ≠ W0.heap.size ∧ w.heap.size + 1 ≠ W0.heap.size ∧ w.heap.size + 1 + 1 ≠ W0.heap.size) := (by have lx_z0 := B_z0.out.lt; have lx_z1 := B_z1.out.lt; have lx_z2 := B_z2.out.lt; have hs := HB.out.size; unfold Hid; omega); have nnO := NN.out; have N := newB bb; replace bb := nextw (alB W0 (.cells #[.int .i64 0, .int .i64 0] 59)) bb; replace B_z0 := mv B_z0 bb; replace B_z1 := mv B_z1 bb; replace B_z2 := mv B_z2 bb; replace HB := nx HB bb; clear bb c0z0 c1z0 c2z0 c3z0 c4z0 c5z0 c0z1 c1z1 c2z1 c3z1 c4z1 c5z1; have c0z0 : w1.cell? ⟨w.heap.size, 0, none⟩ = some (.int .i64 x0) := B_z0.out.cell 0 rfl; have c1z0 : w1.cell? ⟨w.heap.size, 1, none⟩ = some (.int .i64 y0) := B_z0.out.cell 1 rfl; have c2z0 : w1.cell? ⟨w.heap.size, 2, none⟩ = some (.int .i64 x1) := B_z0.out.cell 2 rfl; have c3z0 : w1.cell? ⟨w.heap.size, 3, none⟩ = some (.int .i64 y1) := B_z0.out.cell 3 rfl; have c4z0 : w1.cell? ⟨w.heap.size, 4, none⟩ = some (.int .i64 f) := B_z0.out.cell 4 rfl; have c5z0 : w1.cell? ⟨w.heap.size, 5, none⟩ = some (.int .i64 c) := B_z0.out.cell 5 rfl; have c0z1 : w1.cell? ⟨w.heap.size + 1, 0, none⟩ = some (.int .i64 u0) := B_z1.out.cell 0 rfl; have c1z1 : w1.cell? ⟨w.heap.size + 1, 1, none⟩ = some (.int .i64 v0) := B_z1.out.cell 1 rfl; have c2z1 : w1.cell? ⟨w.heap.size + 1, 2, none⟩ = some (.int .i64 u1) := B_z1.out.cell 2 rfl; have c3z1 : w1.cell? ⟨w.heap.size + 1, 3, none⟩ = some (.int .i64 v1) := B_z1.out.cell 3 rfl; have c4z1 : w1.cell? ⟨w.heap.size + 1, 4, none⟩ = some (.int .i64 g) := B_z1.out.cell 4 rfl; have c5z1 : w1.cell? ⟨w.heap.size + 1, 5, none⟩ = some (.int .i64 d) := B_z1.out.cell 5 rfl; obtain ⟨cn0, cn1⟩ := cells2 N; obtain ⟨fn0, fn1⟩ := froz2 N; have tc1x1 : True := trivial)
      | (clear tk1x1; go_at_call 42; refine (H1.out _).mono ?_; rintro e w2 ⟨rfl, bb⟩; replace bb := nextr (w0 := w1) bb (sm rfl rfl rfl (Nat.le_refl _) (fun _ _ => rfl)); replace B_z0 := mv B_z0 bb; replace B_z1 := mv B_z1 bb; replace B_z2 := mv B_z2 bb; replace HB := nx HB bb; clear bb c0z0 c1z0 c2z0 c3z0 c4z0 c5z0 c0z1 c1z1 c2z1 c3z1 c4z1 c5z1; have c0z0 : w2.cell? ⟨w.heap.size, 0, none⟩ = some (.int .i64 x0) := B_z0.out.cell 0 rfl; have c1z0 : w2.cell? ⟨w.heap.size, 1, none⟩ = some (.int .i64 y0) := B_z0.out.cell 1 rfl; have c2z0 : w2.cell? ⟨w.heap.size, 2, none⟩ = some (.int .i64 x1) := B_z0.out.cell 2 rfl; have c3z0 : w2.cell? ⟨w.heap.size, 3, none⟩ = some (.int .i64 y1) := B_z0.out.cell 3 rfl; have c4z0 : w2.cell? ⟨w.heap.size, 4, none⟩ = some (.int .i64 f) := B_z0.out.cell 4 rfl; have c5z0 : w2.cell? ⟨w.heap.size, 5, none⟩ = some (.int .i64 c) := B_z0.out.cell 5 rfl; have c0z1 : w2.cell? ⟨w.heap.size + 1, 0, none⟩ = some (.int .i64 u0) := B_z1.out.cell 0 rfl; have c1z1 : w2.cell? ⟨w.heap.size + 1, 1, none⟩ = some (.int .i64 v0) := B_z1.out.cell 1 rfl; have c2z1 : w2.cell? ⟨w.heap.size + 1, 2, none⟩ = some (.int .i64 u1) := B_z1.out.cell 2 rfl; have c3z1 : w2.cell? ⟨w.heap.size + 1, 3, none⟩ = some (.int .i64 v1) := B_z1.out.cell 3 rfl; have c4z1 : w2.cell? ⟨w.heap.size + 1, 4, none⟩ = some (.int .i64 g) := B_z1.out.cell 4 rfl; have c5z1 : w2.cell? ⟨w.heap.size + 1, 5, none⟩ = some (.int .i64 d) := B_z1.out.cell 5 rfl; have tk1x2 : True := trivial)
      | (clear tk1x1; go_at_call 42; refine (H1.out _).mono ?_; rintro e w2 ⟨rfl, bb⟩; replace bb := nextr (w0 := w1.alloc (.cells #[.int .i64 0, .int .i64 0] 59)) bb (sm rfl rfl rfl (Nat.le_refl _) (fun _ _ => rfl)); have NN : Hid (w.heap.size ≤ w1.heap.size ∧ w.heap.size ≠ w1.heap.size ∧ w.heap.size + 1 ≠ w1.heap.size ∧ w.heap.size + 1 + 1 ≠ w1.heap.size) := (by have lx_z0 := B_z0.out.lt; have lx_z1 := B_z1.out.lt; have lx_z2 := B_z2.out.lt; have hs := HB.out.size; unfold Hid; omega); have nnO := NN.out; have N := newB bb; replace bb := nextw (alB w1 (.cells #[.int .i64 0, .int .i64 0] 59)) bb; replace B_z0 := mv B_z0 bb; replace B_z1 := mv B_z1 bb; replace B_z2 := mv B_z2 bb; replace HB := nx HB bb; clear bb c0z0 c1z0 c2z0 c3z0 c4z0 c5z0 c0z1 c1z1 c2z1 c3z1 c4z1 c5z1; have c0z0 : w2.cell? ⟨w.heap.size, 0, none⟩ = some (.int .i64 x0) := B_z0.out.cell 0 rfl; have c1z0 : w2.cell? ⟨w.heap.size, 1, none⟩ = some (.int .i64 y0) := B_z0.out.cell 1 rfl; have c2z0 : w2.cell? ⟨w.heap.size, 2, none⟩ = some (.int .i64 x1) := B_z0.out.cell 2 rfl; have c3z0 : w2.cell? ⟨w.heap.size, 3, none⟩ = some (.int .i64 y1) := B_z0.out.cell 3 rfl; have c4z0 : w2.cell? ⟨w.heap.size, 4, none⟩ = some (.int .i64 f) := B_z0.out.cell 4 rfl; have c5z0 : w2.cell? ⟨w.heap.size, 5, none⟩ = some (.int .i64 c) := B_z0.out.cell 5 rfl; have c0z1 : w2.cell? ⟨w.heap.size + 1, 0, none⟩ = some (.int .i64 u0) := B_z1.out.cell 0 rfl; have c1z1 : w2.cell? ⟨w.heap.size + 1, 1, none⟩ = some (.int .i64 v0) := B_z1.out.cell 1 rfl; have c2z1 : w2.cell? ⟨w.heap.size + 1, 2, none⟩ = some (.int .i64 u1) := B_z1.out.cell 2 rfl; have c3z1 : w2.cell? ⟨w.heap.size + 1, 3, none⟩ = some (.int .i64 v1) := B_z1.out.cell 3 rfl; have c4z1 : w2.cell? ⟨w.heap.size + 1, 4, none⟩ = some (.int .i64 g) := B_z1.out.cell 4 rfl; have c5z1 : w2.cell? ⟨w.heap.size + 1, 5, none⟩ = some (.int .i64 d) := B_z1.out.cell 5 rfl; obtain ⟨cn0, cn1⟩ := cells2 N; obtain ⟨fn0, fn1⟩ := froz2 N; have tc1x2 : True := trivial)
      | (clear tc1x1; clear cn0 cn1 fn0 fn1; go_at_call 42; refine (H1.out _).mono ?_; rintro e w2 ⟨rfl, bb⟩; replace bb := nextr (w0 := w1) bb (sm rfl rfl rfl (Nat.le_refl _) (fun _ _ => rfl)); replace N := mv N bb; replace B_z0 := mv B_z0 bb; replace B_z1 := mv B_z1 bb; replace B_z2 := mv B_z2 bb; replace HB := nx HB bb; clear bb c0z0 c1z0 c2z0 c3z0 c4z0 c5z0 c0z1 c1z1 c2z1 c3z1 c4z1 c5z1; have c0z0 : w2.cell? ⟨w.heap.size, 0, none⟩ = some (.int .i64 x0) := B_z0.out.cell 0 rfl; have c1z0 : w2.cell? ⟨w.heap.size, 1, none⟩ = some (.int .i64 y0) := B_z0.out.cell 1 rfl; have c2z0 : w2.cell? ⟨w.heap.size, 2, none⟩ = some (.int .i64 x1) := B_z0.out.cell 2 rfl; have c3z0 : w2.cell? ⟨w.heap.size, 3, none⟩ = some (.int .i64 y1) := B_z0.out.cell 3 rfl; have c4z0 : w2.cell? ⟨w.heap.size, 4, none⟩ = some (.int .i64 f) := B_z0.out.cell 4 rfl; have c5z0 : w2.cell? ⟨w.heap.size, 5, none⟩ = some (.int .i64 c) := B_z0.out.cell 5 rfl; have c0z1 : w2.cell? ⟨w.heap.size + 1, 0, none⟩ = some (.int .i64 u0) := B_z1.out.cell 0 rfl; have c1z1 : w2.cell? ⟨w.heap.size + 1, 1, none⟩ = some (.int .i64 v0) := B_z1.out.cell 1 rfl; have c2z1 : w2.cell? ⟨w.heap.size + 1, 2, none⟩ = some (.int .i64 u1) := B_z1.out.cell 2 rfl; have c3z1 : w2.cell? ⟨w.heap.size + 1, 3, none⟩ = some (.int .i64 v1) := B_z1.out.cell 3 rfl; have c4z1 : w2.cell? ⟨w.heap.size + 1, 4, none⟩ = some (.int .i64 g) := B_z1.out.cell 4 rfl; have c5z1 : w2.cell? ⟨w.heap.size + 1, 5, none⟩ = some (.int .i64 d) := B_z1.out.cell 5 rfl; obtain ⟨cn0, cn1⟩ := cells2 N; obtain ⟨fn0, fn1⟩ := froz2 N; have tc1x2 : True := trivial)
      | (clear tk1x2; go_at_call 41; refine (H2.out _).mono ?_; rintro e w3 ⟨rfl, bb⟩; replace bb := nextr (w0 := w2) bb (sm rfl rfl rfl (Nat.le_refl _) (fun _ _ => rfl)); replace B_z0 := mv B_z0 bb; replace B_z1 := mv B_z1 bb; replace B_z2 := mv B_z2 bb; replace HB := nx HB bb; clear bb c0z0 c1z0 c2z0 c3z0 c4z0 c5z0 c0z1 c1z1 c2z1 c3z1 c4z1 c5z1; have c0z0 : w3.cell? ⟨w.heap.size, 0, none⟩ = some (.int .i64 x0) := B_z0.out.cell 0 rfl; have c1z0 : w3.cell? ⟨w.heap.size, 1, none⟩ = some (.int .i64 y0) := B_z0.out.cell 1 rfl; have c2z0 : w3.cell? ⟨w.heap.size, 2, none⟩ = some (.int .i64 x1) := B_z0.out.cell 2 rfl; have c3z0 : w3.cell? ⟨w.heap.size, 3, none⟩ = some (.int .i64 y1) := B_z0.out.cell 3 rfl; have c4z0 : w3.cell? ⟨w.heap.size, 4, none⟩ = some (.int .i64 f) := B_z0.out.cell 4 rfl; have c5z0 : w3.cell? ⟨w.heap.size, 5, none⟩ = some (.int .i64 c) := B_z0.out.cell 5 rfl; have c0z1 : w3.cell? ⟨w.heap.size + 1, 0, none⟩ = some (.int .i64 u0) := B_z1.out.cell 0 rfl; have c1z1 : w3.cell? ⟨w.heap.size + 1, 1, none⟩ = some (.int .i64 v0) := B_z1.out.cell 1 rfl; have c2z1 : w3.cell? ⟨w.heap.size + 1, 2, none⟩ = some (.int .i64 u1) := B_z1.out.cell 2 rfl; have c3z1 : w3.cell? ⟨w.heap.size + 1, 3, none⟩ = some (.int .i64 v1) := B_z1.out.cell 3 rfl; have c4z1 : w3.cell? ⟨w.heap.size + 1, 4, none⟩ = some (.int .i64 g) := B_z1.out.cell 4 rfl; have c5z1 : w3.cell? ⟨w.heap.size + 1, 5, none⟩ = some (.int .i64 d) := B_z1.out.cell 5 rfl; have tk1x3 : True := trivial)
      | (clear tk1x2; go_at_call 41; refine (H2.out _).mono ?_; rintro e w3 ⟨rfl, bb⟩; replace bb := nextr (w0 := w2.alloc (.cells #[.int .i64 0, .int .i64 0] 59)) bb (sm rfl rfl rfl (Nat.le_refl _) (fun _ _ => rfl)); have NN : Hid (w.heap.size ≤ w2.heap.size ∧ w.heap.size ≠ w2.heap.size ∧ w.heap.size + 1 ≠ w2.heap.size ∧ w.heap.size + 1 + 1 ≠ w2.heap.size) := (by have lx_z0 := B_z0.out.lt; have lx_z1 := B_z1.out.lt; have lx_z2 := B_z2.out.lt; have hs := HB.out.size; unfold Hid; omega); have nnO := NN.out; have N := newB bb; replace bb := nextw (alB w2 (.cells #[.int .i64 0, .int .i64 0] 59)) bb; replace B_z0 := mv B_z0 bb; replace B_z1 := mv B_z1 bb; replace B_z2 := mv B_z2 bb; replace HB := nx HB bb; clear bb c0z0 c1z0 c2z0 c3z0 c4z0 c5z0 c0z1 c1z1 c2z1 c3z1 c4z1 c5z1; have c0z0 : w3.cell? ⟨w.heap.size, 0, none⟩ = some (.int .i64 x0) := B_z0.out.cell 0 rfl; have c1z0 : w3.cell? ⟨w.heap.size, 1, none⟩ = some (.int .i64 y0) := B_z0.out.cell 1 rfl; have c2z0 : w3.cell? ⟨w.heap.size, 2, none⟩ = some (.int .i64 x1) := B_z0.out.cell 2 rfl; have c3z0 : w3.cell? ⟨w.heap.size, 3, none⟩ = some (.int .i64 y1) := B_z0.out.cell 3 rfl; have c4z0 : w3.cell? ⟨w.heap.size, 4, none⟩ = some (.int .i64 f) := B_z0.out.cell 4 rfl; have c5z0 : w3.cell? ⟨w.heap.size, 5, none⟩ = some (.int .i64 c) := B_z0.out.cell 5 rfl; have c0z1 : w3.cell? ⟨w.heap.size + 1, 0, none⟩ = some (.int .i64 u0) := B_z1.out.cell 0 rfl; have c1z1 : w3.cell? ⟨w.heap.size + 1, 1, none⟩ = some (.int .i64 v0) := B_z1.out.cell 1 rfl; have c2z1 : w3.cell? ⟨w.heap.size + 1, 2, none⟩ = some (.int .i64 u1) := B_z1.out.cell 2 rfl; have c3z1 : w3.cell? ⟨w.heap.size + 1, 3, none⟩ = some (.int .i64 v1) := B_z1.out.cell 3 rfl; have c4z1 : w3.cell? ⟨w.heap.size + 1, 4, none⟩ = some (.int .i64 g) := B_z1.out.cell 4 rfl; have c5z1 : w3.cell? ⟨w.heap.size + 1, 5, none⟩ = some (.int .i64 d) := B_z1.out.cell 5 rfl; obtain ⟨cn0, cn1⟩ := cells2 N; obtain ⟨fn0, fn1⟩ := froz2 N; have tc1x3 : True := trivial)
      | (clear tc1x2; clear cn0 cn1 fn0 fn1; go_at_call 41; refine (H2.out _).mono ?_; rintro e w3 ⟨rfl, bb⟩; replace bb := nextr (w0 := w2) bb (sm rfl rfl rfl (Nat.le_refl _) (fun _ _ => rfl)); replace N := mv N bb; replace B_z0 := mv B_z0 bb; replace B_z1 := mv B_z1 bb; replace B_z2 := mv B_z2 bb; replace HB := nx HB bb; clear bb c0z0 c1z0 c2z0 c3z0 c4z0 c5z0 c0z1 c1z1 c2z1 c3z1 c4z1 c5z1; have c0z0 : w3.cell? ⟨w.heap.size, 0, none⟩ = some (.int .i64 x0) := B_z0.out.cell 0 rfl; have c1z0 : w3.cell? ⟨w.heap.size, 1, none⟩ = some (.int .i64 y0) := B_z0.out.cell 1 rfl; have c2z0 : w3.cell? ⟨w.heap.size, 2, none⟩ = some (.int .i64 x1) := B_z0.out.cell 2 rfl; have c3z0 : w3.cell? ⟨w.heap.size, 3, none⟩ = some (.int .i64 y1) := B_z0.out.cell 3 rfl; have c4z0 : w3.cell? ⟨w.heap.size, 4, none⟩ = some (.int .i64 f) := B_z0.out.cell 4 rfl; have c5z0 : w3.cell? ⟨w.heap.size, 5, none⟩ = some (.int .i64 c) := B_z0.out.cell 5 rfl; have c0z1 : w3.cell? ⟨w.heap.size + 1, 0, none⟩ = some (.int .i64 u0) := B_z1.out.cell 0 rfl; have c1z1 : w3.cell? ⟨w.heap.size + 1, 1, none⟩ = some (.int .i64 v0) := B_z1.out.cell 1 rfl; have c2z1 : w3.cell? ⟨w.heap.size + 1, 2, none⟩ = some (.int .i64 u1) := B_z1.out.cell 2 rfl; have c3z1 : w3.cell? ⟨w.heap.size + 1, 3, none⟩ = some (.int .i64 v1) := B_z1.out.cell 3 rfl; have c4z1 : w3.cell? ⟨w.heap.size + 1, 4, none⟩ = some (.int .i64 g) := B_z1.out.cell 4 rfl; have c5z1 : w3.cell? ⟨w.heap.size + 1, 5, none⟩ = some (.int .i64 d) := B_z1.out.cell 5 rfl; obtain ⟨cn0, cn1⟩ := cells2 N; obtain ⟨fn0, fn1⟩ := froz2 N; have tc1x3 : True := trivial))
    all_goals go_wp2_with fail
    all_goals go_meet
    all_goals first
        | (refine ⟨w3.heap.size, rfl, rfl, ?_⟩; have lx_z0 := B_z0.out.lt; have lx_z1 := B_z1.out.lt; have lx_z2 := B_z2.out.lt; obtain ⟨bb, b0⟩ := box1 w3 59 #[.int .i64 (hullF f c g d), .int .i64 (hullC f c g d)]; replace bb := bb.out; have hs := HB.out.size; exact ⟨(by unfold Hid; omega), (by unfold Hid; omega), (by unfold Hid; omega), (by unfold Hid; omega), mv b0 sm, mv (mv B_z0 bb) sm, mv (mv B_z1 bb) sm, mv (mv B_z2 bb) sm, nx (nx HB bb) sm⟩)
        | (refine ⟨W0.heap.size, rfl, rfl, ?_⟩; obtain ⟨hl, h0, h1, h2⟩ := NN.out; exact ⟨Lib.hid h0, Lib.hid h1, Lib.hid h2, Lib.hid hl, mv (stor2 N (.int .i64 (hullF f c g d)) (.int .i64 (hullC f c g d))) sm, mv (far2 B_z0 h0 0 (.int .i64 (hullF f c g d)) 1 (.int .i64 (hullC f c g d))) sm, mv (far2 B_z1 h1 0 (.int .i64 (hullF f c g d)) 1 (.int .i64 (hullC f c g d))) sm, mv (far2 B_z2 h2 0 (.int .i64 (hullF f c g d)) 1 (.int .i64 (hullC f c g d))) sm, nx (stb2 HB hl 0 (.int .i64 (hullF f c g d)) 1 (.int .i64 (hullC f c g d))) sm⟩)
        | (refine ⟨w1.heap.size, rfl, rfl, ?_⟩; obtain ⟨hl, h0, h1, h2⟩ := NN.out; exact ⟨Lib.hid h0, Lib.hid h1, Lib.hid h2, Lib.hid hl, mv (stor2 N (.int .i64 (hullF f c g d)) (.int .i64 (hullC f c g d))) sm, mv (far2 B_z0 h0 0 (.int .i64 (hullF f c g d)) 1 (.int .i64 (hullC f c g d))) sm, mv (far2 B_z1 h1 0 (.int .i64 (hullF f c g d)) 1 (.int .i64 (hullC f c g d))) sm, mv (far2 B_z2 h2 0 (.int .i64 (hullF f c g d)) 1 (.int .i64 (hullC f c g d))) sm, nx (stb2 HB hl 0 (.int .i64 (hullF f c g d)) 1 (.int .i64 (hullC f c g d))) sm⟩)
        | (refine ⟨w2.heap.size, rfl, rfl, ?_⟩; obtain ⟨hl, h0, h1, h2⟩ := NN.out; exact ⟨Lib.hid h0, Lib.hid h1, Lib.hid h2, Lib.hid hl, mv (stor2 N (.int .i64 (hullF f c g d)) (.int .i64 (hullC f c g d))) sm, mv (far2 B_z0 h0 0 (.int .i64 (hullF f c g d)) 1 (.int .i64 (hullC f c g d))) sm, mv (far2 B_z1 h1 0 (.int .i64 (hullF f c g d)) 1 (.int .i64 (hullC f c g d))) sm, mv (far2 B_z2 h2 0 (.int .i64 (hullF f c g d)) 1 (.int .i64 (hullC f c g d))) sm, nx (stb2 HB hl 0 (.int .i64 (hullF f c g d)) 1 (.int .i64 (hullC f c g d))) sm⟩)
  case rest =>
    clear B_z0
    clear B_z1
    clear B_z2
    clear HB
    rename World => wc4
    obtain ⟨Pz3, rfl, rfl, noz0Pz3, noz1Pz3, noz2Pz3, lePz3, B_z3, B_z0, B_z1, B_z2, HB⟩ := hcut
    have lePz3' := lePz3.out
    obtain ⟨c0z0, c1z0, c2z0, c3z0, c4z0, c5z0⟩ := cells6 B_z0
    go_wp2_with fail
    refine (H3.out _).mono ?_
    clear c0z0 c1z0 c2z0 c3z0 c4z0 c5z0
    rintro e w5 ⟨rfl, bb⟩
    replace bb := nextw (w0 := wc4) (by exact sm) bb
    replace B_z0 := mv B_z0 bb
    replace B_z1 := mv B_z1 bb
    replace B_z2 := mv B_z2 bb
    replace B_z3 := mv B_z3 bb
    replace HB := nx HB bb
    clear bb
    obtain ⟨s0, s1, s2, s3, s4, s5⟩ := cells6 (stor6 B_z2 (.int .i64 0) (.int .i64 0) (.int .i64 0) (.int .i64 0) (.int .i64 0) (.int .i64 0))
    have HF := stb6 HB (y := w.heap.size + 1 + 1) (by omega) 0 (.int .i64 0) 1 (.int .i64 0) 2 (.int .i64 0) 3 (.int .i64 0) 4 (.int .i64 0) 5 (.int .i64 0)
    obtain ⟨c0z2, c1z2, c2z2, c3z2, c4z2, c5z2⟩ := cells6 B_z2
    obtain ⟨f0z2, f1z2, f2z2, f3z2, f4z2, f5z2⟩ := froz6 B_z2
    go_wp2_with fail
    exact bodyPost_ret (v := .tuple #[.agg #[.int .i64 0, .int .i64 0, .int .i64 0, .int .i64 0, .int .i64 0, .int .i64 0], .int .i64 1]) (by simp [results, Try.results13, go_sem, s0, s1, s2, s3, s4, s5]) rfl ⟨rfl, nextw HF.out (by exact sm)⟩

set_option maxRecDepth 100000 in
set_option maxHeartbeats 4000000 in
theorem BHull0_w4 (x0 y0 x1 y1 f c u0 v0 u1 v1 g d : Int)   (dd0 : OkA f c) (dd1 : OkA g d) (dd2 : OkB x0 y0 x1 y1 f c) (dd3 : ¬ (OkB u0 v0 u1 v1 g d)) (w : World) :
    Calls Try.prog 13 #[.agg #[.int .i64 x0, .int .i64 y0, .int .i64 x1, .int .i64 y1, .int .i64 f, .int .i64 c], .agg #[.int .i64 u0, .int .i64 v0, .int .i64 u1, .int .i64 v1, .int .i64 g, .int .i64 d]] w fun e w' => e = .returned (.tuple #[.agg #[.int .i64 0, .int .i64 0, .int .i64 0, .int .i64 0, .int .i64 0, .int .i64 0], .int .i64 1]) ∧ Below w.heap.size w w' := by
  have H0 := Lib.hid (fun w => arcOf_any x0 y0 x1 y1 f c w)
  have H1 := Lib.hid (fun w => arcOf_any u0 v0 u1 v1 g d w)
  have H2 := Lib.hid (fun w => Hull_ok f c g d dd0 dd1 w)
  have H3 := Lib.hid (fun w => Valid_yes dd2 w)
  have H4 := Lib.hid (fun w => Valid_no dd3 w)
  have dd0b := And.intro dd0.f0 (And.intro dd0.f1 (And.intro dd0.c0 dd0.c1))
  have dd1b := And.intro dd1.f0 (And.intro dd1.f1 (And.intro dd1.c0 dd1.c1))
  have dd2b := dd2.b
  obtain ⟨HB, B_z0, B_z1, B_z2⟩ := box3 w 23 #[.int .i64 x0, .int .i64 y0, .int .i64 x1, .int .i64 y1, .int .i64 f, .int .i64 c] 23 #[.int .i64 u0, .int .i64 v0, .int .i64 u1, .int .i64 v1, .int .i64 g, .int .i64 d] 23 #[.int .i64 0, .int .i64 0, .int .i64 0, .int .i64 0, .int .i64 0, .int .i64 0]
  go_enter Try.func13, Try.ntmps13
  go_upto_region 1 with (fail)
  generalize ((w.alloc (.cells #[.int .i64 x0, .int .i64 y0, .int .i64 x1, .int .i64 y1, .int .i64 f, .int .i64 c] 23)).alloc (.cells #[.int .i64 u0, .int .i64 v0, .int .i64 u1, .int .i64 v1, .int .i64 g, .int .i64 d] 23)).alloc (.cells #[.int .i64 0, .int .i64 0, .int .i64 0, .int .i64 0, .int .i64 0, .int .i64 0] 23) = W0 at *
  go_cut [6, 7] (fun sv0 su0 wx => ∃ Pz3 : Nat, sv0 = (.pointer (some ⟨Pz3, 0, none⟩)) ∧ su0 = (.int .i64 0) ∧ Hid (w.heap.size ≠ Pz3) ∧ Hid (w.heap.size + 1 ≠ Pz3) ∧ Hid (w.heap.size + 1 + 1 ≠ Pz3) ∧ Hid (w.heap.size ≤ Pz3) ∧ Hid (Bx wx (Pz3) 59 #[.int .i64 (hullF f c g d), .int .i64 (hullC f c g d)]) ∧ Hid (Bx wx (w.heap.size) 23 #[.int .i64 x0, .int .i64 y0, .int .i64 x1, .int .i64 y1, .int .i64 f, .int .i64 c]) ∧ Hid (Bx wx (w.heap.size + 1) 23 #[.int .i64 u0, .int .i64 v0, .int .i64 u1, .int .i64 v1, .int .i64 g, .int .i64 d]) ∧ Hid (Bx wx (w.heap.size + 1 + 1) 23 #[.int .i64 0, .int .i64 0, .int .i64 0, .int .i64 0, .int .i64 0, .int .i64 0]) ∧ Hid (Below w.heap.size w wx))
  case first =>
    obtain ⟨c0z0, c1z0, c2z0, c3z0, c4z0, c5z0⟩ := cells6 B_z0
    obtain ⟨c0z1, c1z1, c2z1, c3z1, c4z1, c5z1⟩ := cells6 B_z1
    have tk1x0 : True := trivial
    go_region_held3 (fun w' => w'.cell? ⟨w.heap.size, 0, none⟩ = some (.int .i64 x0) ∧ w'.cell? ⟨w.heap.size, 1, none⟩ = some (.int .i64 y0) ∧ w'.cell? ⟨w.heap.size, 2, none⟩ = some (.int .i64 x1) ∧ w'.cell? ⟨w.heap.size, 3, none⟩ = some (.int .i64 y1) ∧ w'.cell? ⟨w.heap.size, 4, none⟩ = some (.int .i64 f) ∧ w'.cell? ⟨w.heap.size, 5, none⟩ = some (.int .i64 c) ∧ w'.cell? ⟨w.heap.size + 1, 0, none⟩ = some (.int .i64 u0) ∧ w'.cell? ⟨w.heap.size + 1, 1, none⟩ = some (.int .i64 v0) ∧ w'.cell? ⟨w.heap.size + 1, 2, none⟩ = some (.int .i64 u1) ∧ w'.cell? ⟨w.heap.size + 1, 3, none⟩ = some (.int .i64 v1) ∧ w'.cell? ⟨w.heap.size + 1, 4, none⟩ = some (.int .i64 g) ∧ w'.cell? ⟨w.heap.size + 1, 5, none⟩ = some (.int .i64 d)) (((try dsimp only); (repeat' apply And.intro) <;> (first | (with_reducible assumption) | ((repeat (first | (with_reducible refine Eq.trans (cell_drew1 _ _) ?_) | (with_reducible refine Eq.trans (cell_far (by omega) _ _ _) ?_) | (with_reducible refine Eq.trans (World.cell?_alloc_lt _ _ _ (by first | (dsimp only; omega) | (simp only [World.size_alloc, World.size_setCell]; omega))) ?_))); with_reducible assumption) | assumption | go_keep)))
    (first
      | (clear tk1x0; go_at_call 42; refine (H0.out _).mono ?_; rintro e w1 ⟨rfl, bb⟩; replace bb := nextr (w0 := W0) bb (sm rfl rfl rfl (Nat.le_refl _) (fun _ _ => rfl)); replace B_z0 := mv B_z0 bb; replace B_z1 := mv B_z1 bb; replace B_z2 := mv B_z2 bb; replace HB := nx HB bb; clear bb c0z0 c1z0 c2z0 c3z0 c4z0 c5z0 c0z1 c1z1 c2z1 c3z1 c4z1 c5z1; have c0z0 : w1.cell? ⟨w.heap.size, 0, none⟩ = some (.int .i64 x0) := B_z0.out.cell 0 rfl; have c1z0 : w1.cell? ⟨w.heap.size, 1, none⟩ = some (.int .i64 y0) := B_z0.out.cell 1 rfl; have c2z0 : w1.cell? ⟨w.heap.size, 2, none⟩ = some (.int .i64 x1) := B_z0.out.cell 2 rfl; have c3z0 : w1.cell? ⟨w.heap.size, 3, none⟩ = some (.int .i64 y1) := B_z0.out.cell 3 rfl; have c4z0 : w1.cell? ⟨w.heap.size, 4, none⟩ = some (.int .i64 f) := B_z0.out.cell 4 rfl; have c5z0 : w1.cell? ⟨w.heap.size, 5, none⟩ = some (.int .i64 c) := B_z0.out.cell 5 rfl; have c0z1 : w1.cell? ⟨w.heap.size + 1, 0, none⟩ = some (.int .i64 u0) := B_z1.out.cell 0 rfl; have c1z1 : w1.cell? ⟨w.heap.size + 1, 1, none⟩ = some (.int .i64 v0) := B_z1.out.cell 1 rfl; have c2z1 : w1.cell? ⟨w.heap.size + 1, 2, none⟩ = some (.int .i64 u1) := B_z1.out.cell 2 rfl; have c3z1 : w1.cell? ⟨w.heap.size + 1, 3, none⟩ = some (.int .i64 v1) := B_z1.out.cell 3 rfl; have c4z1 : w1.cell? ⟨w.heap.size + 1, 4, none⟩ = some (.int .i64 g) := B_z1.out.cell 4 rfl; have c5z1 : w1.cell? ⟨w.heap.size + 1, 5, none⟩ = some (.int .i64 d) := B_z1.out.cell 5 rfl; have tk1x1 : True := trivial)
      | (clear tk1x0; go_at_call 42; refine (H0.out _).mono ?_; rintro e w1 ⟨rfl, bb⟩; replace bb := nextr (w0 := W0.alloc (.cells #[.int .i64 0, .int .i64 0] 59)) bb (sm rfl rfl rfl (Nat.le_refl _) (fun _ _ => rfl)); have NN : Hid (w.heap.size ≤ W0.heap.size ∧ w.heap.size ≠ W0.heap.size ∧ w.heap.size + 1 ≠ W0.heap.size ∧ w.heap.size + 1 + 1 ≠ W0.heap.size) := (by have lx_z0 := B_z0.out.lt; have lx_z1 := B_z1.out.lt; have lx_z2 := B_z2.out.lt; have hs := HB.out.size; unfold Hid; omega); have nnO := NN.out; have N := newB bb; replace bb := nextw (alB W0 (.cells #[.int .i64 0, .int .i64 0] 59)) bb; replace B_z0 := mv B_z0 bb; replace B_z1 := mv B_z1 bb; replace B_z2 := mv B_z2 bb; replace HB := nx HB bb; clear bb c0z0 c1z0 c2z0 c3z0 c4z0 c5z0 c0z1 c1z1 c2z1 c3z1 c4z1 c5z1; have c0z0 : w1.cell? ⟨w.heap.size, 0, none⟩ = some (.int .i64 x0) := B_z0.out.cell 0 rfl; have c1z0 : w1.cell? ⟨w.heap.size, 1, none⟩ = some (.int .i64 y0) := B_z0.out.cell 1 rfl; have c2z0 : w1.cell? ⟨w.heap.size, 2, none⟩ = some (.int .i64 x1) := B_z0.out.cell 2 rfl; have c3z0 : w1.cell? ⟨w.heap.size, 3, none⟩ = some (.int .i64 y1) := B_z0.out.cell 3 rfl; have c4z0 : w1.cell? ⟨w.heap.size, 4, none⟩ = some (.int .i64 f) := B_z0.out.cell 4 rfl; have c5z0 : w1.cell? ⟨w.heap.size, 5, none⟩ = some (.int .i64 c) := B_z0.out.cell 5 rfl; have c0z1 : w1.cell? ⟨w.heap.size + 1, 0, none⟩ = some (.int .i64 u0) := B_z1.out.cell 0 rfl; have c1z1 : w1.cell? ⟨w.heap.size + 1, 1, none⟩ = some (.int .i64 v0) := B_z1.out.cell 1 rfl; have c2z1 : w1.cell? ⟨w.heap.size + 1, 2, none⟩ = some (.int .i64 u1) := B_z1.out.cell 2 rfl; have c3z1 : w1.cell? ⟨w.heap.size + 1, 3, none⟩ = some (.int .i64 v1) := B_z1.out.cell 3 rfl; have c4z1 : w1.cell? ⟨w.heap.size + 1, 4, none⟩ = some (.int .i64 g) := B_z1.out.cell 4 rfl; have c5z1 : w1.cell? ⟨w.heap.size + 1, 5, none⟩ = some (.int .i64 d) := B_z1.out.cell 5 rfl; obtain ⟨cn0, cn1⟩ := cells2 N; obtain ⟨fn0, fn1⟩ := froz2 N; have tc1x1 : True := trivial)
      | (clear tk1x1; go_at_call 42; refine (H1.out _).mono ?_; rintro e w2 ⟨rfl, bb⟩; replace bb := nextr (w0 := w1) bb (sm rfl rfl rfl (Nat.le_refl _) (fun _ _ => rfl)); replace B_z0 := mv B_z0 bb; replace B_z1 := mv B_z1 bb; replace B_z2 := mv B_z2 bb; replace HB := nx HB bb; clear bb c0z0 c1z0 c2z0 c3z0 c4z0 c5z0 c0z1 c1z1 c2z1 c3z1 c4z1 c5z1; have c0z0 : w2.cell? ⟨w.heap.size, 0, none⟩ = some (.int .i64 x0) := B_z0.out.cell 0 rfl; have c1z0 : w2.cell? ⟨w.heap.size, 1, none⟩ = some (.int .i64 y0) := B_z0.out.cell 1 rfl; have c2z0 : w2.cell? ⟨w.heap.size, 2, none⟩ = some (.int .i64 x1) := B_z0.out.cell 2 rfl; have c3z0 : w2.cell? ⟨w.heap.size, 3, none⟩ = some (.int .i64 y1) := B_z0.out.cell 3 rfl; have c4z0 : w2.cell? ⟨w.heap.size, 4, none⟩ = some (.int .i64 f) := B_z0.out.cell 4 rfl; have c5z0 : w2.cell? ⟨w.heap.size, 5, none⟩ = some (.int .i64 c) := B_z0.out.cell 5 rfl; have c0z1 : w2.cell? ⟨w.heap.size + 1, 0, none⟩ = some (.int .i64 u0) := B_z1.out.cell 0 rfl; have c1z1 : w2.cell? ⟨w.heap.size + 1, 1, none⟩ = some (.int .i64 v0) := B_z1.out.cell 1 rfl; have c2z1 : w2.cell? ⟨w.heap.size + 1, 2, none⟩ = some (.int .i64 u1) := B_z1.out.cell 2 rfl; have c3z1 : w2.cell? ⟨w.heap.size + 1, 3, none⟩ = some (.int .i64 v1) := B_z1.out.cell 3 rfl; have c4z1 : w2.cell? ⟨w.heap.size + 1, 4, none⟩ = some (.int .i64 g) := B_z1.out.cell 4 rfl; have c5z1 : w2.cell? ⟨w.heap.size + 1, 5, none⟩ = some (.int .i64 d) := B_z1.out.cell 5 rfl; have tk1x2 : True := trivial)
      | (clear tk1x1; go_at_call 42; refine (H1.out _).mono ?_; rintro e w2 ⟨rfl, bb⟩; replace bb := nextr (w0 := w1.alloc (.cells #[.int .i64 0, .int .i64 0] 59)) bb (sm rfl rfl rfl (Nat.le_refl _) (fun _ _ => rfl)); have NN : Hid (w.heap.size ≤ w1.heap.size ∧ w.heap.size ≠ w1.heap.size ∧ w.heap.size + 1 ≠ w1.heap.size ∧ w.heap.size + 1 + 1 ≠ w1.heap.size) := (by have lx_z0 := B_z0.out.lt; have lx_z1 := B_z1.out.lt; have lx_z2 := B_z2.out.lt; have hs := HB.out.size; unfold Hid; omega); have nnO := NN.out; have N := newB bb; replace bb := nextw (alB w1 (.cells #[.int .i64 0, .int .i64 0] 59)) bb; replace B_z0 := mv B_z0 bb; replace B_z1 := mv B_z1 bb; replace B_z2 := mv B_z2 bb; replace HB := nx HB bb; clear bb c0z0 c1z0 c2z0 c3z0 c4z0 c5z0 c0z1 c1z1 c2z1 c3z1 c4z1 c5z1; have c0z0 : w2.cell? ⟨w.heap.size, 0, none⟩ = some (.int .i64 x0) := B_z0.out.cell 0 rfl; have c1z0 : w2.cell? ⟨w.heap.size, 1, none⟩ = some (.int .i64 y0) := B_z0.out.cell 1 rfl; have c2z0 : w2.cell? ⟨w.heap.size, 2, none⟩ = some (.int .i64 x1) := B_z0.out.cell 2 rfl; have c3z0 : w2.cell? ⟨w.heap.size, 3, none⟩ = some (.int .i64 y1) := B_z0.out.cell 3 rfl; have c4z0 : w2.cell? ⟨w.heap.size, 4, none⟩ = some (.int .i64 f) := B_z0.out.cell 4 rfl; have c5z0 : w2.cell? ⟨w.heap.size, 5, none⟩ = some (.int .i64 c) := B_z0.out.cell 5 rfl; have c0z1 : w2.cell? ⟨w.heap.size + 1, 0, none⟩ = some (.int .i64 u0) := B_z1.out.cell 0 rfl; have c1z1 : w2.cell? ⟨w.heap.size + 1, 1, none⟩ = some (.int .i64 v0) := B_z1.out.cell 1 rfl; have c2z1 : w2.cell? ⟨w.heap.size + 1, 2, none⟩ = some (.int .i64 u1) := B_z1.out.cell 2 rfl; have c3z1 : w2.cell? ⟨w.heap.size + 1, 3, none⟩ = some (.int .i64 v1) := B_z1.out.cell 3 rfl; have c4z1 : w2.cell? ⟨w.heap.size + 1, 4, none⟩ = some (.int .i64 g) := B_z1.out.cell 4 rfl; have c5z1 : w2.cell? ⟨w.heap.size + 1, 5, none⟩ = some (.int .i64 d) := B_z1.out.cell 5 rfl; obtain ⟨cn0, cn1⟩ := cells2 N; obtain ⟨fn0, fn1⟩ := froz2 N; have tc1x2 : True := trivial)
      | (clear tc1x1; clear cn0 cn1 fn0 fn1; go_at_call 42; refine (H1.out _).mono ?_; rintro e w2 ⟨rfl, bb⟩; replace bb := nextr (w0 := w1) bb (sm rfl rfl rfl (Nat.le_refl _) (fun _ _ => rfl)); replace N := mv N bb; replace B_z0 := mv B_z0 bb; replace B_z1 := mv B_z1 bb; replace B_z2 := mv B_z2 bb; replace HB := nx HB bb; clear bb c0z0 c1z0 c2z0 c3z0 c4z0 c5z0 c0z1 c1z1 c2z1 c3z1 c4z1 c5z1; have c0z0 : w2.cell? ⟨w.heap.size, 0, none⟩ = some (.int .i64 x0) := B_z0.out.cell 0 rfl; have c1z0 : w2.cell? ⟨w.heap.size, 1, none⟩ = some (.int .i64 y0) := B_z0.out.cell 1 rfl; have c2z0 : w2.cell? ⟨w.heap.size, 2, none⟩ = some (.int .i64 x1) := B_z0.out.cell 2 rfl; have c3z0 : w2.cell? ⟨w.heap.size, 3, none⟩ = some (.int .i64 y1) := B_z0.out.cell 3 rfl; have c4z0 : w2.cell? ⟨w.heap.size, 4, none⟩ = some (.int .i64 f) := B_z0.out.cell 4 rfl; have c5z0 : w2.cell? ⟨w.heap.size, 5, none⟩ = some (.int .i64 c) := B_z0.out.cell 5 rfl; have c0z1 : w2.cell? ⟨w.heap.size + 1, 0, none⟩ = some (.int .i64 u0) := B_z1.out.cell 0 rfl; have c1z1 : w2.cell? ⟨w.heap.size + 1, 1, none⟩ = some (.int .i64 v0) := B_z1.out.cell 1 rfl; have c2z1 : w2.cell? ⟨w.heap.size + 1, 2, none⟩ = some (.int .i64 u1) := B_z1.out.cell 2 rfl; have c3z1 : w2.cell? ⟨w.heap.size + 1, 3, none⟩ = some (.int .i64 v1) := B_z1.out.cell 3 rfl; have c4z1 : w2.cell? ⟨w.heap.size + 1, 4, none⟩ = some (.int .i64 g) := B_z1.out.cell 4 rfl; have c5z1 : w2.cell? ⟨w.heap.size + 1, 5, none⟩ = some (.int .i64 d) := B_z1.out.cell 5 rfl; obtain ⟨cn0, cn1⟩ := cells2 N; obtain ⟨fn0, fn1⟩ := froz2 N; have tc1x2 : True := trivial)
      | (clear tk1x2; go_at_call 41; refine (H2.out _).mono ?_; rintro e w3 ⟨rfl, bb⟩; replace bb := nextr (w0 := w2) bb (sm rfl rfl rfl (Nat.le_refl _) (fun _ _ => rfl)); replace B_z0 := mv B_z0 bb; replace B_z1 := mv B_z1 bb; replace B_z2 := mv B_z2 bb; replace HB := nx HB bb; clear bb c0z0 c1z0 c2z0 c3z0 c4z0 c5z0 c0z1 c1z1 c2z1 c3z1 c4z1 c5z1; have c0z0 : w3.cell? ⟨w.heap.size, 0, none⟩ = some (.int .i64 x0) := B_z0.out.cell 0 rfl; have c1z0 : w3.cell? ⟨w.heap.size, 1, none⟩ = some (.int .i64 y0) := B_z0.out.cell 1 rfl; have c2z0 : w3.cell? ⟨w.heap.size, 2, none⟩ = some (.int .i64 x1) := B_z0.out.cell 2 rfl; have c3z0 : w3.cell? ⟨w.heap.size, 3, none⟩ = some (.int .i64 y1) := B_z0.out.cell 3 rfl; have c4z0 : w3.cell? ⟨w.heap.size, 4, none⟩ = some (.int .i64 f) := B_z0.out.cell 4 rfl; have c5z0 : w3.cell? ⟨w.heap.size, 5, none⟩ = some (.int .i64 c) := B_z0.out.cell 5 rfl; have c0z1 : w3.cell? ⟨w.heap.size + 1, 0, none⟩ = some (.int .i64 u0) := B_z1.out.cell 0 rfl; have c1z1 : w3.cell? ⟨w.heap.size + 1, 1, none⟩ = some (.int .i64 v0) := B_z1.out.cell 1 rfl; have c2z1 : w3.cell? ⟨w.heap.size + 1, 2, none⟩ = some (.int .i64 u1) := B_z1.out.cell 2 rfl; have c3z1 : w3.cell? ⟨w.heap.size + 1, 3, none⟩ = some (.int .i64 v1) := B_z1.out.cell 3 rfl; have c4z1 : w3.cell? ⟨w.heap.size + 1, 4, none⟩ = some (.int .i64 g) := B_z1.out.cell 4 rfl; have c5z1 : w3.cell? ⟨w.heap.size + 1, 5, none⟩ = some (.int .i64 d) := B_z1.out.cell 5 rfl; have tk1x3 : True := trivial)
      | (clear tk1x2; go_at_call 41; refine (H2.out _).mono ?_; rintro e w3 ⟨rfl, bb⟩; replace bb := nextr (w0 := w2.alloc (.cells #[.int .i64 0, .int .i64 0] 59)) bb (sm rfl rfl rfl (Nat.le_refl _) (fun _ _ => rfl)); have NN : Hid (w.heap.size ≤ w2.heap.size ∧ w.heap.size ≠ w2.heap.size ∧ w.heap.size + 1 ≠ w2.heap.size ∧ w.heap.size + 1 + 1 ≠ w2.heap.size) := (by have lx_z0 := B_z0.out.lt; have lx_z1 := B_z1.out.lt; have lx_z2 := B_z2.out.lt; have hs := HB.out.size; unfold Hid; omega); have nnO := NN.out; have N := newB bb; replace bb := nextw (alB w2 (.cells #[.int .i64 0, .int .i64 0] 59)) bb; replace B_z0 := mv B_z0 bb; replace B_z1 := mv B_z1 bb; replace B_z2 := mv B_z2 bb; replace HB := nx HB bb; clear bb c0z0 c1z0 c2z0 c3z0 c4z0 c5z0 c0z1 c1z1 c2z1 c3z1 c4z1 c5z1; have c0z0 : w3.cell? ⟨w.heap.size, 0, none⟩ = some (.int .i64 x0) := B_z0.out.cell 0 rfl; have c1z0 : w3.cell? ⟨w.heap.size, 1, none⟩ = some (.int .i64 y0) := B_z0.out.cell 1 rfl; have c2z0 : w3.cell? ⟨w.heap.size, 2, none⟩ = some (.int .i64 x1) := B_z0.out.cell 2 rfl; have c3z0 : w3.cell? ⟨w.heap.size, 3, none⟩ = some (.int .i64 y1) := B_z0.out.cell 3 rfl; have c4z0 : w3.cell? ⟨w.heap.size, 4, none⟩ = some (.int .i64 f) := B_z0.out.cell 4 rfl; have c5z0 : w3.cell? ⟨w.heap.size, 5, none⟩ = some (.int .i64 c) := B_z0.out.cell 5 rfl; have c0z1 : w3.cell? ⟨w.heap.size + 1, 0, none⟩ = some (.int .i64 u0) := B_z1.out.cell 0 rfl; have c1z1 : w3.cell? ⟨w.heap.size + 1, 1, none⟩ = some (.int .i64 v0) := B_z1.out.cell 1 rfl; have c2z1 : w3.cell? ⟨w.heap.size + 1, 2, none⟩ = some (.int .i64 u1) := B_z1.out.cell 2 rfl; have c3z1 : w3.cell? ⟨w.heap.size + 1, 3, none⟩ = some (.int .i64 v1) := B_z1.out.cell 3 rfl; have c4z1 : w3.cell? ⟨w.heap.size + 1, 4, none⟩ = some (.int .i64 g) := B_z1.out.cell 4 rfl; have c5z1 : w3.cell? ⟨w.heap.size + 1, 5, none⟩ = some (.int .i64 d) := B_z1.out.cell 5 rfl; obtain ⟨cn0, cn1⟩ := cells2 N; obtain ⟨fn0, fn1⟩ := froz2 N; have tc1x3 : True := trivial)
      | (clear tc1x2; clear cn0 cn1 fn0 fn1; go_at_call 41; refine (H2.out _).mono ?_; rintro e w3 ⟨rfl, bb⟩; replace bb := nextr (w0 := w2) bb (sm rfl rfl rfl (Nat.le_refl _) (fun _ _ => rfl)); replace N := mv N bb; replace B_z0 := mv B_z0 bb; replace B_z1 := mv B_z1 bb; replace B_z2 := mv B_z2 bb; replace HB := nx HB bb; clear bb c0z0 c1z0 c2z0 c3z0 c4z0 c5z0 c0z1 c1z1 c2z1 c3z1 c4z1 c5z1; have c0z0 : w3.cell? ⟨w.heap.size, 0, none⟩ = some (.int .i64 x0) := B_z0.out.cell 0 rfl; have c1z0 : w3.cell? ⟨w.heap.size, 1, none⟩ = some (.int .i64 y0) := B_z0.out.cell 1 rfl; have c2z0 : w3.cell? ⟨w.heap.size, 2, none⟩ = some (.int .i64 x1) := B_z0.out.cell 2 rfl; have c3z0 : w3.cell? ⟨w.heap.size, 3, none⟩ = some (.int .i64 y1) := B_z0.out.cell 3 rfl; have c4z0 : w3.cell? ⟨w.heap.size, 4, none⟩ = some (.int .i64 f) := B_z0.out.cell 4 rfl; have c5z0 : w3.cell? ⟨w.heap.size, 5, none⟩ = some (.int .i64 c) := B_z0.out.cell 5 rfl; have c0z1 : w3.cell? ⟨w.heap.size + 1, 0, none⟩ = some (.int .i64 u0) := B_z1.out.cell 0 rfl; have c1z1 : w3.cell? ⟨w.heap.size + 1, 1, none⟩ = some (.int .i64 v0) := B_z1.out.cell 1 rfl; have c2z1 : w3.cell? ⟨w.heap.size + 1, 2, none⟩ = some (.int .i64 u1) := B_z1.out.cell 2 rfl; have c3z1 : w3.cell? ⟨w.heap.size + 1, 3, none⟩ = some (.int .i64 v1) := B_z1.out.cell 3 rfl; have c4z1 : w3.cell? ⟨w.heap.size + 1, 4, none⟩ = some (.int .i64 g) := B_z1.out.cell 4 rfl; have c5z1 : w3.cell? ⟨w.heap.size + 1, 5, none⟩ = some (.int .i64 d) := B_z1.out.cell 5 rfl; obtain ⟨cn0, cn1⟩ := cells2 N; obtain ⟨fn0, fn1⟩ := froz2 N; have tc1x3 : True := trivial))
    all_goals go_wp2_with fail
    all_goals go_meet
    all_goals first
        | (refine ⟨w3.heap.size, rfl, rfl, ?_⟩; have lx_z0 := B_z0.out.lt; have lx_z1 := B_z1.out.lt; have lx_z2 := B_z2.out.lt; obtain ⟨bb, b0⟩ := box1 w3 59 #[.int .i64 (hullF f c g d), .int .i64 (hullC f c g d)]; replace bb := bb.out; have hs := HB.out.size; exact ⟨(by unfold Hid; omega), (by unfold Hid; omega), (by unfold Hid; omega), (by unfold Hid; omega), mv b0 sm, mv (mv B_z0 bb) sm, mv (mv B_z1 bb) sm, mv (mv B_z2 bb) sm, nx (nx HB bb) sm⟩)
        | (refine ⟨W0.heap.size, rfl, rfl, ?_⟩; obtain ⟨hl, h0, h1, h2⟩ := NN.out; exact ⟨Lib.hid h0, Lib.hid h1, Lib.hid h2, Lib.hid hl, mv (stor2 N (.int .i64 (hullF f c g d)) (.int .i64 (hullC f c g d))) sm, mv (far2 B_z0 h0 0 (.int .i64 (hullF f c g d)) 1 (.int .i64 (hullC f c g d))) sm, mv (far2 B_z1 h1 0 (.int .i64 (hullF f c g d)) 1 (.int .i64 (hullC f c g d))) sm, mv (far2 B_z2 h2 0 (.int .i64 (hullF f c g d)) 1 (.int .i64 (hullC f c g d))) sm, nx (stb2 HB hl 0 (.int .i64 (hullF f c g d)) 1 (.int .i64 (hullC f c g d))) sm⟩)
        | (refine ⟨w1.heap.size, rfl, rfl, ?_⟩; obtain ⟨hl, h0, h1, h2⟩ := NN.out; exact ⟨Lib.hid h0, Lib.hid h1, Lib.hid h2, Lib.hid hl, mv (stor2 N (.int .i64 (hullF f c g d)) (.int .i64 (hullC f c g d))) sm, mv (far2 B_z0 h0 0 (.int .i64 (hullF f c g d)) 1 (.int .i64 (hullC f c g d))) sm, mv (far2 B_z1 h1 0 (.int .i64 (hullF f c g d)) 1 (.int .i64 (hullC f c g d))) sm, mv (far2 B_z2 h2 0 (.int .i64 (hullF f c g d)) 1 (.int .i64 (hullC f c g d))) sm, nx (stb2 HB hl 0 (.int .i64 (hullF f c g d)) 1 (.int .i64 (hullC f c g d))) sm⟩)
        | (refine ⟨w2.heap.size, rfl, rfl, ?_⟩; obtain ⟨hl, h0, h1, h2⟩ := NN.out; exact ⟨Lib.hid h0, Lib.hid h1, Lib.hid h2, Lib.hid hl, mv (stor2 N (.int .i64 (hullF f c g d)) (.int .i64 (hullC f c g d))) sm, mv (far2 B_z0 h0 0 (.int .i64 (hullF f c g d)) 1 (.int .i64 (hullC f c g d))) sm, mv (far2 B_z1 h1 0 (.int .i64 (hullF f c g d)) 1 (.int .i64 (hullC f c g d))) sm, mv (far2 B_z2 h2 0 (.int .i64 (hullF f c g d)) 1 (.int .i64 (hullC f c g d))) sm, nx (stb2 HB hl 0 (.int .i64 (hullF f c g d)) 1 (.int .i64 (hullC f c g d))) sm⟩)
  case rest =>
    clear B_z0
    clear B_z1
    clear B_z2
    clear HB
    rename World => wc4
    obtain ⟨Pz3, rfl, rfl, noz0Pz3, noz1Pz3, noz2Pz3, lePz3, B_z3, B_z0, B_z1, B_z2, HB⟩ := hcut
    have lePz3' := lePz3.out
    obtain ⟨c0z0, c1z0, c2z0, c3z0, c4z0, c5z0⟩ := cells6 B_z0
    go_wp2_with fail
    refine (H3.out _).mono ?_
    clear c0z0 c1z0 c2z0 c3z0 c4z0 c5z0
    rintro e w5 ⟨rfl, bb⟩
    replace bb := nextw (w0 := wc4) (by exact sm) bb
    replace B_z0 := mv B_z0 bb
    replace B_z1 := mv B_z1 bb
    replace B_z2 := mv B_z2 bb
    replace B_z3 := mv B_z3 bb
    replace HB := nx HB bb
    clear bb
    obtain ⟨c0z1, c1z1, c2z1, c3z1, c4z1, c5z1⟩ := cells6 B_z1
    go_wp2_with fail
    refine (H4.out _).mono ?_
    clear c0z1 c1z1 c2z1 c3z1 c4z1 c5z1
    rintro e w6 ⟨rfl, bb⟩
    replace bb := nextw (w0 := w5) (by exact sm) bb
    replace B_z0 := mv B_z0 bb
    replace B_z1 := mv B_z1 bb
    replace B_z2 := mv B_z2 bb
    replace B_z3 := mv B_z3 bb
    replace HB := nx HB bb
    clear bb
    obtain ⟨s0, s1, s2, s3, s4, s5⟩ := cells6 (stor6 B_z2 (.int .i64 0) (.int .i64 0) (.int .i64 0) (.int .i64 0) (.int .i64 0) (.int .i64 0))
    have HF := stb6 HB (y := w.heap.size + 1 + 1) (by omega) 0 (.int .i64 0) 1 (.int .i64 0) 2 (.int .i64 0) 3 (.int .i64 0) 4 (.int .i64 0) 5 (.int .i64 0)
    obtain ⟨c0z2, c1z2, c2z2, c3z2, c4z2, c5z2⟩ := cells6 B_z2
    obtain ⟨f0z2, f1z2, f2z2, f3z2, f4z2, f5z2⟩ := froz6 B_z2
    go_wp2_with fail
    exact bodyPost_ret (v := .tuple #[.agg #[.int .i64 0, .int .i64 0, .int .i64 0, .int .i64 0, .int .i64 0, .int .i64 0], .int .i64 1]) (by simp [results, Try.results13, go_sem, s0, s1, s2, s3, s4, s5]) rfl ⟨rfl, nextw HF.out (by exact sm)⟩

def BHull0V (x0 y0 x1 y1 f c u0 v0 u1 v1 g d : Int) : Value := if OkA f c then if OkA g d then if OkB x0 y0 x1 y1 f c then if OkB u0 v0 u1 v1 g d then .tuple #[.agg #[.int .i64 (if u0 < x0 then u0 else x0), .int .i64 (if v0 < y0 then v0 else y0), .int .i64 (if x1 < u1 then u1 else x1), .int .i64 (if y1 < v1 then v1 else y1), .int .i64 (hullF f c g d), .int .i64 (hullC f c g d)], .int .i64 0] else .tuple #[.agg #[.int .i64 0, .int .i64 0, .int .i64 0, .int .i64 0, .int .i64 0, .int .i64 0], .int .i64 1] else .tuple #[.agg #[.int .i64 0, .int .i64 0, .int .i64 0, .int .i64 0, .int .i64 0, .int .i64 0], .int .i64 1] else .tuple #[.agg #[.int .i64 0, .int .i64 0, .int .i64 0, .int .i64 0, .int .i64 0, .int .i64 0], .int .i64 1] else .tuple #[.agg #[.int .i64 0, .int .i64 0, .int .i64 0, .int .i64 0, .int .i64 0, .int .i64 0], .int .i64 1]
theorem BHull0_any (x0 y0 x1 y1 f c u0 v0 u1 v1 g d : Int)  (w : World) :
    Calls Try.prog 13 #[.agg #[.int .i64 x0, .int .i64 y0, .int .i64 x1, .int .i64 y1, .int .i64 f, .int .i64 c], .agg #[.int .i64 u0, .int .i64 v0, .int .i64 u1, .int .i64 v1, .int .i64 g, .int .i64 d]] w fun e w' => e = .returned (BHull0V x0 y0 x1 y1 f c u0 v0 u1 v1 g d) ∧ Below w.heap.size w w' := by
  unfold BHull0V
  by_cases dd0 : OkA f c
  · rw [if_pos dd0]
    by_cases dd1 : OkA g d
    · rw [if_pos dd1]
      by_cases dd2 : OkB x0 y0 x1 y1 f c
      · rw [if_pos dd2]
        by_cases dd3 : OkB u0 v0 u1 v1 g d
        · rw [if_pos dd3]
          exact BHull0_w0 x0 y0 x1 y1 f c u0 v0 u1 v1 g d _ _ _ _ rfl rfl rfl rfl  dd0 dd1 dd2 dd3 w
        · rw [if_neg dd3]
          exact BHull0_w4 x0 y0 x1 y1 f c u0 v0 u1 v1 g d    dd0 dd1 dd2 dd3 w
      · rw [if_neg dd2]
        exact BHull0_w3 x0 y0 x1 y1 f c u0 v0 u1 v1 g d    dd0 dd1 dd2 w
    · rw [if_neg dd1]
      exact BHull0_w2 x0 y0 x1 y1 f c u0 v0 u1 v1 g d    dd0 dd1 w
  · rw [if_neg dd0]
    exact BHull0_w1 x0 y0 x1 y1 f c u0 v0 u1 v1 g d    dd0 w

theorem BHull_yes {x0 y0 x1 y1 f c u0 v0 u1 v1 g d : Int} (h : OkB x0 y0 x1 y1 f c ∧ OkB u0 v0 u1 v1 g d) (w : World) : Calls Try.prog 13 #[.agg #[.int .i64 x0, .int .i64 y0, .int .i64 x1, .int .i64 y1, .int .i64 f, .int .i64 c], .agg #[.int .i64 u0, .int .i64 v0, .int .i64 u1, .int .i64 v1, .int .i64 g, .int .i64 d]] w fun e w' => e = .returned (.tuple #[.agg #[.int .i64 (min x0 u0), .int .i64 (min y0 v0), .int .i64 (max x1 u1), .int .i64 (max y1 v1), .int .i64 (hullF f c g d), .int .i64 (hullC f c g d)], .int .i64 0]) ∧ Below w.heap.size w w' := by
  have e := BHull0_any x0 y0 x1 y1 f c u0 v0 u1 v1 g d w
  rw [show BHull0V x0 y0 x1 y1 f c u0 v0 u1 v1 g d = .tuple #[.agg #[.int .i64 (min x0 u0), .int .i64 (min y0 v0), .int .i64 (max x1 u1), .int .i64 (max y1 v1), .int .i64 (hullF f c g d), .int .i64 (hullC f c g d)], .int .i64 0] from ?_] at e
  · exact e
  · have e1 : (if u0 < x0 then u0 else x0) = min x0 u0 := by split <;> omega
    have e2 : (if v0 < y0 then v0 else y0) = min y0 v0 := by split <;> omega
    have e3 : (if x1 < u1 then u1 else x1) = max x1 u1 := by split <;> omega
    have e4 : (if y1 < v1 then v1 else y1) = max y1 v1 := by split <;> omega
    unfold BHull0V
    rw [if_pos h.1.a, if_pos h.2.a, if_pos h.1, if_pos h.2, e1, e2, e3, e4]
theorem BHull_no {x0 y0 x1 y1 f c u0 v0 u1 v1 g d : Int} (h : ¬ (OkB x0 y0 x1 y1 f c ∧ OkB u0 v0 u1 v1 g d)) (w : World) : Calls Try.prog 13 #[.agg #[.int .i64 x0, .int .i64 y0, .int .i64 x1, .int .i64 y1, .int .i64 f, .int .i64 c], .agg #[.int .i64 u0, .int .i64 v0, .int .i64 u1, .int .i64 v1, .int .i64 g, .int .i64 d]] w fun e w' => e = .returned (.tuple #[.agg #[.int .i64 0, .int .i64 0, .int .i64 0, .int .i64 0, .int .i64 0, .int .i64 0], .int .i64 1]) ∧ Below w.heap.size w w' := by
  have e := BHull0_any x0 y0 x1 y1 f c u0 v0 u1 v1 g d w
  rw [show BHull0V x0 y0 x1 y1 f c u0 v0 u1 v1 g d = .tuple #[.agg #[.int .i64 0, .int .i64 0, .int .i64 0, .int .i64 0, .int .i64 0, .int .i64 0], .int .i64 1] from ?_] at e
  · exact e
  · unfold BHull0V
    split
    · split
      · split
        · split
          · rename_i k1 k2; exact absurd ⟨k1, k2⟩ h
          · rfl
        · rfl
      · rfl
    · rfl

set_option maxRecDepth 100000 in
set_option maxHeartbeats 4000000 in
theorem Inside0_w0 (x0 y0 x1 y1 f c u0 v0 u1 v1 g d : Int)   (dd0 : OkB x0 y0 x1 y1 f c ∧ OkB u0 v0 u1 v1 g d) (dd1 : (min x0 u0) = u0) (dd2 : (min y0 v0) = v0) (dd3 : (max x1 u1) = u1) (dd4 : (max y1 v1) = v1) (dd5 : (hullF f c g d) = g) (dd6 : (hullC f c g d) = d) (w : World) :
    Calls Try.prog 24 #[.agg #[.int .i64 x0, .int .i64 y0, .int .i64 x1, .int .i64 y1, .int .i64 f, .int .i64 c], .agg #[.int .i64 u0, .int .i64 v0, .int .i64 u1, .int .i64 v1, .int .i64 g, .int .i64 d]] w fun e w' => e = .returned (.bool true) ∧ Below w.heap.size w w' := by
  have H0 := Lib.hid (fun w => BHull_yes dd0 w)
  replace dd1 := Lib.hid dd1
  replace dd2 := Lib.hid dd2
  replace dd3 := Lib.hid dd3
  replace dd4 := Lib.hid dd4
  replace dd5 := Lib.hid dd5
  replace dd6 := Lib.hid dd6
  obtain ⟨HB, B_z0, B_z1⟩ := box2 w 23 #[.int .i64 x0, .int .i64 y0, .int .i64 x1, .int .i64 y1, .int .i64 f, .int .i64 c] 23 #[.int .i64 u0, .int .i64 v0, .int .i64 u1, .int .i64 v1, .int .i64 g, .int .i64 d]
  go_enter Try.func24, Try.ntmps24
  go_upto_region 1 with (fail)
  generalize (w.alloc (.cells #[.int .i64 x0, .int .i64 y0, .int .i64 x1, .int .i64 y1, .int .i64 f, .int .i64 c] 23)).alloc (.cells #[.int .i64 u0, .int .i64 v0, .int .i64 u1, .int .i64 v1, .int .i64 g, .int .i64 d] 23) = W0 at *
  obtain ⟨c0z0, c1z0, c2z0, c3z0, c4z0, c5z0⟩ := cells6 B_z0
  obtain ⟨c0z1, c1z1, c2z1, c3z1, c4z1, c5z1⟩ := cells6 B_z1
  go_wp2_with fail
  refine (H0.out _).mono ?_
  clear c0z0 c1z0 c2z0 c3z0 c4z0 c5z0 c0z1 c1z1 c2z1 c3z1 c4z1 c5z1
  rintro e w1 ⟨rfl, bb⟩
  replace bb := nextw (w0 := W0) (by exact sm) bb
  replace B_z0 := mv B_z0 bb
  replace B_z1 := mv B_z1 bb
  replace HB := nx HB bb
  clear bb
  have lt_z2z0 := B_z0.out.lt
  have lt_z2z1 := B_z1.out.lt
  obtain ⟨bb, B_z2⟩ := box1 w1 23 #[.int .i64 (min x0 u0), .int .i64 (min y0 v0), .int .i64 (max x1 u1), .int .i64 (max y1 v1), .int .i64 (hullF f c g d), .int .i64 (hullC f c g d)]
  replace bb := bb.out
  replace B_z0 := mv B_z0 bb
  replace B_z1 := mv B_z1 bb
  replace HB := nx HB bb
  clear bb
  go_upto_region 2 with (fail)
  generalize w1.alloc (.cells #[.int .i64 (min x0 u0), .int .i64 (min y0 v0), .int .i64 (max x1 u1), .int .i64 (max y1 v1), .int .i64 (hullF f c g d), .int .i64 (hullC f c g d)] 23) = WN1 at *
  have ddo1 := dd1.out
  have ddo2 := dd2.out
  have ddo3 := dd3.out
  have ddo4 := dd4.out
  have ddo5 := dd5.out
  have ddo6 := dd6.out
  obtain ⟨c0z2, c1z2, c2z2, c3z2, c4z2, c5z2⟩ := cells6 B_z2
  obtain ⟨c0z1, c1z1, c2z1, c3z1, c4z1, c5z1⟩ := cells6 B_z1
  go_wp2
  go_ret
  exact ⟨(by first | rfl | exact rbt (by omega) | exact rbf (by omega)), nextw HB.out (by exact sm)⟩

set_option maxRecDepth 100000 in
set_option maxHeartbeats 4000000 in
theorem Inside0_w1 (x0 y0 x1 y1 f c u0 v0 u1 v1 g d : Int)   (dd0 : ¬ (OkB x0 y0 x1 y1 f c ∧ OkB u0 v0 u1 v1 g d)) (w : World) :
    Calls Try.prog 24 #[.agg #[.int .i64 x0, .int .i64 y0, .int .i64 x1, .int .i64 y1, .int .i64 f, .int .i64 c], .agg #[.int .i64 u0, .int .i64 v0, .int .i64 u1, .int .i64 v1, .int .i64 g, .int .i64 d]] w fun e w' => e = .returned (.bool false) ∧ Below w.heap.size w w' := by
  have H0 := Lib.hid (fun w => BHull_no dd0 w)
  obtain ⟨HB, B_z0, B_z1⟩ := box2 w 23 #[.int .i64 x0, .int .i64 y0, .int .i64 x1, .int .i64 y1, .int .i64 f, .int .i64 c] 23 #[.int .i64 u0, .int .i64 v0, .int .i64 u1, .int .i64 v1, .int .i64 g, .int .i64 d]
  go_enter Try.func24, Try.ntmps24
  go_upto_region 1 with (fail)
  generalize (w.alloc (.cells #[.int .i64 x0, .int .i64 y0, .int .i64 x1, .int .i64 y1, .int .i64 f, .int .i64 c] 23)).alloc (.cells #[.int .i64 u0, .int .i64 v0, .int .i64 u1, .int .i64 v1, .int .i64 g, .int .i64 d] 23) = W0 at *
  obtain ⟨c0z0, c1z0, c2z0, c3z0, c4z0, c5z0⟩ := cells6 B_z0
  obtain ⟨c0z1, c1z1, c2z1, c3z1, c4z1, c5z1⟩ := cells6 B_z1
  go_wp2_with fail
  refine (H0.out _).mono ?_
  clear c0z0 c1z0 c2z0 c3z0 c4z0 c5z0 c0z1 c1z1 c2z1 c3z1 c4z1 c5z1
  rintro e w1 ⟨rfl, bb⟩
  replace bb := nextw (w0 := W0) (by exact sm) bb
  replace B_z0 := mv B_z0 bb
  replace B_z1 := mv B_z1 bb
  replace HB := nx HB bb
  clear bb
  have lt_z2z0 := B_z0.out.lt
  have lt_z2z1 := B_z1.out.lt
  obtain ⟨bb, B_z2⟩ := box1 w1 23 #[.int .i64 0, .int .i64 0, .int .i64 0, .int .i64 0, .int .i64 0, .int .i64 0]
  replace bb := bb.out
  replace B_z0 := mv B_z0 bb
  replace B_z1 := mv B_z1 bb
  replace HB := nx HB bb
  clear bb
  go_upto_region 2 with (fail)
  generalize w1.alloc (.cells #[.int .i64 0, .int .i64 0, .int .i64 0, .int .i64 0, .int .i64 0, .int .i64 0] 23) = WN1 at *
  go_wp2
  go_ret
  exact ⟨(by first | rfl | exact rbt (by omega) | exact rbf (by omega)), nextw HB.out (by exact sm)⟩

set_option maxRecDepth 100000 in
set_option maxHeartbeats 4000000 in
theorem Inside0_w2 (x0 y0 x1 y1 f c u0 v0 u1 v1 g d : Int)   (dd0 : OkB x0 y0 x1 y1 f c ∧ OkB u0 v0 u1 v1 g d) (dd1 : ¬ ((min x0 u0) = u0)) (w : World) :
    Calls Try.prog 24 #[.agg #[.int .i64 x0, .int .i64 y0, .int .i64 x1, .int .i64 y1, .int .i64 f, .int .i64 c], .agg #[.int .i64 u0, .int .i64 v0, .int .i64 u1, .int .i64 v1, .int .i64 g, .int .i64 d]] w fun e w' => e = .returned (.bool false) ∧ Below w.heap.size w w' := by
  have H0 := Lib.hid (fun w => BHull_yes dd0 w)
  obtain ⟨HB, B_z0, B_z1⟩ := box2 w 23 #[.int .i64 x0, .int .i64 y0, .int .i64 x1, .int .i64 y1, .int .i64 f, .int .i64 c] 23 #[.int .i64 u0, .int .i64 v0, .int .i64 u1, .int .i64 v1, .int .i64 g, .int .i64 d]
  go_enter Try.func24, Try.ntmps24
  go_upto_region 1 with (fail)
  generalize (w.alloc (.cells #[.int .i64 x0, .int .i64 y0, .int .i64 x1, .int .i64 y1, .int .i64 f, .int .i64 c] 23)).alloc (.cells #[.int .i64 u0, .int .i64 v0, .int .i64 u1, .int .i64 v1, .int .i64 g, .int .i64 d] 23) = W0 at *
  obtain ⟨c0z0, c1z0, c2z0, c3z0, c4z0, c5z0⟩ := cells6 B_z0
  obtain ⟨c0z1, c1z1, c2z1, c3z1, c4z1, c5z1⟩ := cells6 B_z1
  go_wp2_with fail
  refine (H0.out _).mono ?_
  clear c0z0 c1z0 c2z0 c3z0 c4z0 c5z0 c0z1 c1z1 c2z1 c3z1 c4z1 c5z1
  rintro e w1 ⟨rfl, bb⟩
  replace bb := nextw (w0 := W0) (by exact sm) bb
  replace B_z0 := mv B_z0 bb
  replace B_z1 := mv B_z1 bb
  replace HB := nx HB bb
  clear bb
  have lt_z2z0 := B_z0.out.lt
  have lt_z2z1 := B_z1.out.lt
  obtain ⟨bb, B_z2⟩ := box1 w1 23 #[.int .i64 (min x0 u0), .int .i64 (min y0 v0), .int .i64 (max x1 u1), .int .i64 (max y1 v1), .int .i64 (hullF f c g d), .int .i64 (hullC f c g d)]
  replace bb := bb.out
  replace B_z0 := mv B_z0 bb
  replace B_z1 := mv B_z1 bb
  replace HB := nx HB bb
  clear bb
  go_upto_region 2 with (fail)
  generalize w1.alloc (.cells #[.int .i64 (min x0 u0), .int .i64 (min y0 v0), .int .i64 (max x1 u1), .int .i64 (max y1 v1), .int .i64 (hullF f c g d), .int .i64 (hullC f c g d)] 23) = WN1 at *
  obtain ⟨c0z2, c1z2, c2z2, c3z2, c4z2, c5z2⟩ := cells6 B_z2
  obtain ⟨c0z1, c1z1, c2z1, c3z1, c4z1, c5z1⟩ := cells6 B_z1
  go_wp2
  go_ret
  exact ⟨(by first | rfl | exact rbt (by omega) | exact rbf (by omega)), nextw HB.out (by exact sm)⟩

set_option maxRecDepth 100000 in
set_option maxHeartbeats 4000000 in
theorem Inside0_w3 (x0 y0 x1 y1 f c u0 v0 u1 v1 g d : Int)   (dd0 : OkB x0 y0 x1 y1 f c ∧ OkB u0 v0 u1 v1 g d) (dd1 : (min x0 u0) = u0) (dd2 : ¬ ((min y0 v0) = v0)) (w : World) :
    Calls Try.prog 24 #[.agg #[.int .i64 x0, .int .i64 y0, .int .i64 x1, .int .i64 y1, .int .i64 f, .int .i64 c], .agg #[.int .i64 u0, .int .i64 v0, .int .i64 u1, .int .i64 v1, .int .i64 g, .int .i64 d]] w fun e w' => e = .returned (.bool false) ∧ Below w.heap.size w w' := by
  have H0 := Lib.hid (fun w => BHull_yes dd0 w)
  replace dd1 := Lib.hid dd1
  obtain ⟨HB, B_z0, B_z1⟩ := box2 w 23 #[.int .i64 x0, .int .i64 y0, .int .i64 x1, .int .i64 y1, .int .i64 f, .int .i64 c] 23 #[.int .i64 u0, .int .i64 v0, .int .i64 u1, .int .i64 v1, .int .i64 g, .int .i64 d]
  go_enter Try.func24, Try.ntmps24
  go_upto_region 1 with (fail)
  generalize (w.alloc (.cells #[.int .i64 x0, .int .i64 y0, .int .i64 x1, .int .i64 y1, .int .i64 f, .int .i64 c] 23)).alloc (.cells #[.int .i64 u0, .int .i64 v0, .int .i64 u1, .int .i64 v1, .int .i64 g, .int .i64 d] 23) = W0 at *
  obtain ⟨c0z0, c1z0, c2z0, c3z0, c4z0, c5z0⟩ := cells6 B_z0
  obtain ⟨c0z1, c1z1, c2z1, c3z1, c4z1, c5z1⟩ := cells6 B_z1
  go_wp2_with fail
  refine (H0.out _).mono ?_
  clear c0z0 c1z0 c2z0 c3z0 c4z0 c5z0 c0z1 c1z1 c2z1 c3z1 c4z1 c5z1
  rintro e w1 ⟨rfl, bb⟩
  replace bb := nextw (w0 := W0) (by exact sm) bb
  replace B_z0 := mv B_z0 bb
  replace B_z1 := mv B_z1 bb
  replace HB := nx HB bb
  clear bb
  have lt_z2z0 := B_z0.out.lt
  have lt_z2z1 := B_z1.out.lt
  obtain ⟨bb, B_z2⟩ := box1 w1 23 #[.int .i64 (min x0 u0), .int .i64 (min y0 v0), .int .i64 (max x1 u1), .int .i64 (max y1 v1), .int .i64 (hullF f c g d), .int .i64 (hullC f c g d)]
  replace bb := bb.out
  replace B_z0 := mv B_z0 bb
  replace B_z1 := mv B_z1 bb
  replace HB := nx HB bb
  clear bb
  go_upto_region 2 with (fail)
  generalize w1.alloc (.cells #[.int .i64 (min x0 u0), .int .i64 (min y0 v0), .int .i64 (max x1 u1), .int .i64 (max y1 v1), .int .i64 (hullF f c g d), .int .i64 (hullC f c g d)] 23) = WN1 at *
  have ddo1 := dd1.out
  obtain ⟨c0z2, c1z2, c2z2, c3z2, c4z2, c5z2⟩ := cells6 B_z2
  obtain ⟨c0z1, c1z1, c2z1, c3z1, c4z1, c5z1⟩ := cells6 B_z1
  go_wp2
  go_ret
  exact ⟨(by first | rfl | exact rbt (by omega) | exact rbf (by omega)), nextw HB.out (by exact sm)⟩

set_option maxRecDepth 100000 in
set_option maxHeartbeats 4000000 in
theorem Inside0_w4 (x0 y0 x1 y1 f c u0 v0 u1 v1 g d : Int)   (dd0 : OkB x0 y0 x1 y1 f c ∧ OkB u0 v0 u1 v1 g d) (dd1 : (min x0 u0) = u0) (dd2 : (min y0 v0) = v0) (dd3 : ¬ ((max x1 u1) = u1)) (w : World) :
    Calls Try.prog 24 #[.agg #[.int .i64 x0, .int .i64 y0, .int .i64 x1, .int .i64 y1, .int .i64 f, .int .i64 c], .agg #[.int .i64 u0, .int .i64 v0, .int .i64 u1, .int .i64 v1, .int .i64 g, .int .i64 d]] w fun e w' => e = .returned (.bool false) ∧ Below w.heap.size w w' := by
  have H0 := Lib.hid (fun w => BHull_yes dd0 w)
  replace dd1 := Lib.hid dd1
  replace dd2 := Lib.hid dd2
  obtain ⟨HB, B_z0, B_z1⟩ := box2 w 23 #[.int .i64 x0, .int .i64 y0, .int .i64 x1, .int .i64 y1, .int .i64 f, .int .i64 c] 23 #[.int .i64 u0, .int .i64 v0, .int .i64 u1, .int .i64 v1, .int .i64 g, .int .i64 d]
  go_enter Try.func24, Try.ntmps24
  go_upto_region 1 with (fail)
  generalize (w.alloc (.cells #[.int .i64 x0, .int .i64 y0, .int .i64 x1, .int .i64 y1, .int .i64 f, .int .i64 c] 23)).alloc (.cells #[.int .i64 u0, .int .i64 v0, .int .i64 u1, .int .i64 v1, .int .i64 g, .int .i64 d] 23) = W0 at *
  obtain ⟨c0z0, c1z0, c2z0, c3z0, c4z0, c5z0⟩ := cells6 B_z0
  obtain ⟨c0z1, c1z1, c2z1, c3z1, c4z1, c5z1⟩ := cells6 B_z1
  go_wp2_with fail
  refine (H0.out _).mono ?_
  clear c0z0 c1z0 c2z0 c3z0 c4z0 c5z0 c0z1 c1z1 c2z1 c3z1 c4z1 c5z1
  rintro e w1 ⟨rfl, bb⟩
  replace bb := nextw (w0 := W0) (by exact sm) bb
  replace B_z0 := mv B_z0 bb
  replace B_z1 := mv B_z1 bb
  replace HB := nx HB bb
  clear bb
  have lt_z2z0 := B_z0.out.lt
  have lt_z2z1 := B_z1.out.lt
  obtain ⟨bb, B_z2⟩ := box1 w1 23 #[.int .i64 (min x0 u0), .int .i64 (min y0 v0), .int .i64 (max x1 u1), .int .i64 (max y1 v1), .int .i64 (hullF f c g d), .int .i64 (hullC f c g d)]
  replace bb := bb.out
  replace B_z0 := mv B_z0 bb
  replace B_z1 := mv B_z1 bb
  replace HB := nx HB bb
  clear bb
  go_upto_region 2 with (fail)
  generalize w1.alloc (.cells #[.int .i64 (min x0 u0), .int .i64 (min y0 v0), .int .i64 (max x1 u1), .int .i64 (max y1 v1), .int .i64 (hullF f c g d), .int .i64 (hullC f c g d)] 23) = WN1 at *
  have ddo1 := dd1.out
  have ddo2 := dd2.out
  obtain ⟨c0z2, c1z2, c2z2, c3z2, c4z2, c5z2⟩ := cells6 B_z2
  obtain ⟨c0z1, c1z1, c2z1, c3z1, c4z1, c5z1⟩ := cells6 B_z1
  go_wp2
  go_ret
  exact ⟨(by first | rfl | exact rbt (by omega) | exact rbf (by omega)), nextw HB.out (by exact sm)⟩

set_option maxRecDepth 100000 in
set_option maxHeartbeats 4000000 in
theorem Inside0_w5 (x0 y0 x1 y1 f c u0 v0 u1 v1 g d : Int)   (dd0 : OkB x0 y0 x1 y1 f c ∧ OkB u0 v0 u1 v1 g d) (dd1 : (min x0 u0) = u0) (dd2 : (min y0 v0) = v0) (dd3 : (max x1 u1) = u1) (dd4 : ¬ ((max y1 v1) = v1)) (w : World) :
    Calls Try.prog 24 #[.agg #[.int .i64 x0, .int .i64 y0, .int .i64 x1, .int .i64 y1, .int .i64 f, .int .i64 c], .agg #[.int .i64 u0, .int .i64 v0, .int .i64 u1, .int .i64 v1, .int .i64 g, .int .i64 d]] w fun e w' => e = .returned (.bool false) ∧ Below w.heap.size w w' := by
  have H0 := Lib.hid (fun w => BHull_yes dd0 w)
  replace dd1 := Lib.hid dd1
  replace dd2 := Lib.hid dd2
  replace dd3 := Lib.hid dd3
  obtain ⟨HB, B_z0, B_z1⟩ := box2 w 23 #[.int .i64 x0, .int .i64 y0, .int .i64 x1, .int .i64 y1, .int .i64 f, .int .i64 c] 23 #[.int .i64 u0, .int .i64 v0, .int .i64 u1, .int .i64 v1, .int .i64 g, .int .i64 d]
  go_enter Try.func24, Try.ntmps24
  go_upto_region 1 with (fail)
  generalize (w.alloc (.cells #[.int .i64 x0, .int .i64 y0, .int .i64 x1, .int .i64 y1, .int .i64 f, .int .i64 c] 23)).alloc (.cells #[.int .i64 u0, .int .i64 v0, .int .i64 u1, .int .i64 v1, .int .i64 g, .int .i64 d] 23) = W0 at *
  obtain ⟨c0z0, c1z0, c2z0, c3z0, c4z0, c5z0⟩ := cells6 B_z0
  obtain ⟨c0z1, c1z1, c2z1, c3z1, c4z1, c5z1⟩ := cells6 B_z1
  go_wp2_with fail
  refine (H0.out _).mono ?_
  clear c0z0 c1z0 c2z0 c3z0 c4z0 c5z0 c0z1 c1z1 c2z1 c3z1 c4z1 c5z1
  rintro e w1 ⟨rfl, bb⟩
  replace bb := nextw (w0 := W0) (by exact sm) bb
  replace B_z0 := mv B_z0 bb
  replace B_z1 := mv B_z1 bb
  replace HB := nx HB bb
  clear bb
  have lt_z2z0 := B_z0.out.lt
  have lt_z2z1 := B_z1.out.lt
  obtain ⟨bb, B_z2⟩ := box1 w1 23 #[.int .i64 (min x0 u0), .int .i64 (min y0 v0), .int .i64 (max x1 u1), .int .i64 (max y1 v1), .int .i64 (hullF f c g d), .int .i64 (hullC f c g d)]
  replace bb := bb.out
  replace B_z0 := mv B_z0 bb
  replace B_z1 := mv B_z1 bb
  replace HB := nx HB bb
  clear bb
  go_upto_region 2 with (fail)
  generalize w1.alloc (.cells #[.int .i64 (min x0 u0), .int .i64 (min y0 v0), .int .i64 (max x1 u1), .int .i64 (max y1 v1), .int .i64 (hullF f c g d), .int .i64 (hullC f c g d)] 23) = WN1 at *
  have ddo1 := dd1.out
  have ddo2 := dd2.out
  have ddo3 := dd3.out
  obtain ⟨c0z2, c1z2, c2z2, c3z2, c4z2, c5z2⟩ := cells6 B_z2
  obtain ⟨c0z1, c1z1, c2z1, c3z1, c4z1, c5z1⟩ := cells6 B_z1
  go_wp2
  go_ret
  exact ⟨(by first | rfl | exact rbt (by omega) | exact rbf (by omega)), nextw HB.out (by exact sm)⟩

set_option maxRecDepth 100000 in
set_option maxHeartbeats 4000000 in
theorem Inside0_w6 (x0 y0 x1 y1 f c u0 v0 u1 v1 g d : Int)   (dd0 : OkB x0 y0 x1 y1 f c ∧ OkB u0 v0 u1 v1 g d) (dd1 : (min x0 u0) = u0) (dd2 : (min y0 v0) = v0) (dd3 : (max x1 u1) = u1) (dd4 : (max y1 v1) = v1) (dd5 : ¬ ((hullF f c g d) = g)) (w : World) :
    Calls Try.prog 24 #[.agg #[.int .i64 x0, .int .i64 y0, .int .i64 x1, .int .i64 y1, .int .i64 f, .int .i64 c], .agg #[.int .i64 u0, .int .i64 v0, .int .i64 u1, .int .i64 v1, .int .i64 g, .int .i64 d]] w fun e w' => e = .returned (.bool false) ∧ Below w.heap.size w w' := by
  have H0 := Lib.hid (fun w => BHull_yes dd0 w)
  replace dd1 := Lib.hid dd1
  replace dd2 := Lib.hid dd2
  replace dd3 := Lib.hid dd3
  replace dd4 := Lib.hid dd4
  obtain ⟨HB, B_z0, B_z1⟩ := box2 w 23 #[.int .i64 x0, .int .i64 y0, .int .i64 x1, .int .i64 y1, .int .i64 f, .int .i64 c] 23 #[.int .i64 u0, .int .i64 v0, .int .i64 u1, .int .i64 v1, .int .i64 g, .int .i64 d]
  go_enter Try.func24, Try.ntmps24
  go_upto_region 1 with (fail)
  generalize (w.alloc (.cells #[.int .i64 x0, .int .i64 y0, .int .i64 x1, .int .i64 y1, .int .i64 f, .int .i64 c] 23)).alloc (.cells #[.int .i64 u0, .int .i64 v0, .int .i64 u1, .int .i64 v1, .int .i64 g, .int .i64 d] 23) = W0 at *
  obtain ⟨c0z0, c1z0, c2z0, c3z0, c4z0, c5z0⟩ := cells6 B_z0
  obtain ⟨c0z1, c1z1, c2z1, c3z1, c4z1, c5z1⟩ := cells6 B_z1
  go_wp2_with fail
  refine (H0.out _).mono ?_
  clear c0z0 c1z0 c2z0 c3z0 c4z0 c5z0 c0z1 c1z1 c2z1 c3z1 c4z1 c5z1
  rintro e w1 ⟨rfl, bb⟩
  replace bb := nextw (w0 := W0) (by exact sm) bb
  replace B_z0 := mv B_z0 bb
  replace B_z1 := mv B_z1 bb
  replace HB := nx HB bb
  clear bb
  have lt_z2z0 := B_z0.out.lt
  have lt_z2z1 := B_z1.out.lt
  obtain ⟨bb, B_z2⟩ := box1 w1 23 #[.int .i64 (min x0 u0), .int .i64 (min y0 v0), .int .i64 (max x1 u1), .int .i64 (max y1 v1), .int .i64 (hullF f c g d), .int .i64 (hullC f c g d)]
  replace bb := bb.out
  replace B_z0 := mv B_z0 bb
  replace B_z1 := mv B_z1 bb
  replace HB := nx HB bb
  clear bb
  go_upto_region 2 with (fail)
  generalize w1.alloc (.cells #[.int .i64 (min x0 u0), .int .i64 (min y0 v0), .int .i64 (max x1 u1), .int .i64 (max y1 v1), .int .i64 (hullF f c g d), .int .i64 (hullC f c g d)] 23) = WN1 at *
  have ddo1 := dd1.out
  have ddo2 := dd2.out
  have ddo3 := dd3.out
  have ddo4 := dd4.out
  obtain ⟨c0z2, c1z2, c2z2, c3z2, c4z2, c5z2⟩ := cells6 B_z2
  obtain ⟨c0z1, c1z1, c2z1, c3z1, c4z1, c5z1⟩ := cells6 B_z1
  go_wp2
  go_ret
  exact ⟨(by first | rfl | exact rbt (by omega) | exact rbf (by omega)), nextw HB.out (by exact sm)⟩

set_option maxRecDepth 100000 in
set_option maxHeartbeats 4000000 in
theorem Inside0_w7 (x0 y0 x1 y1 f c u0 v0 u1 v1 g d : Int)   (dd0 : OkB x0 y0 x1 y1 f c ∧ OkB u0 v0 u1 v1 g d) (dd1 : (min x0 u0) = u0) (dd2 : (min y0 v0) = v0) (dd3 : (max x1 u1) = u1) (dd4 : (max y1 v1) = v1) (dd5 : (hullF f c g d) = g) (dd6 : ¬ ((hullC f c g d) = d)) (w : World) :
    Calls Try.prog 24 #[.agg #[.int .i64 x0, .int .i64 y0, .int .i64 x1, .int .i64 y1, .int .i64 f, .int .i64 c], .agg #[.int .i64 u0, .int .i64 v0, .int .i64 u1, .int .i64 v1, .int .i64 g, .int .i64 d]] w fun e w' => e = .returned (.bool false) ∧ Below w.heap.size w w' := by
  have H0 := Lib.hid (fun w => BHull_yes dd0 w)
  replace dd1 := Lib.hid dd1
  replace dd2 := Lib.hid dd2
  replace dd3 := Lib.hid dd3
  replace dd4 := Lib.hid dd4
  replace dd5 := Lib.hid dd5
  obtain ⟨HB, B_z0, B_z1⟩ := box2 w 23 #[.int .i64 x0, .int .i64 y0, .int .i64 x1, .int .i64 y1, .int .i64 f, .int .i64 c] 23 #[.int .i64 u0, .int .i64 v0, .int .i64 u1, .int .i64 v1, .int .i64 g, .int .i64 d]
  go_enter Try.func24, Try.ntmps24
  go_upto_region 1 with (fail)
  generalize (w.alloc (.cells #[.int .i64 x0, .int .i64 y0, .int .i64 x1, .int .i64 y1, .int .i64 f, .int .i64 c] 23)).alloc (.cells #[.int .i64 u0, .int .i64 v0, .int .i64 u1, .int .i64 v1, .int .i64 g, .int .i64 d] 23) = W0 at *
  obtain ⟨c0z0, c1z0, c2z0, c3z0, c4z0, c5z0⟩ := cells6 B_z0
  obtain ⟨c0z1, c1z1, c2z1, c3z1, c4z1, c5z1⟩ := cells6 B_z1
  go_wp2_with fail
  refine (H0.out _).mono ?_
  clear c0z0 c1z0 c2z0 c3z0 c4z0 c5z0 c0z1 c1z1 c2z1 c3z1 c4z1 c5z1
  rintro e w1 ⟨rfl, bb⟩
  replace bb := nextw (w0 := W0) (by exact sm) bb
  replace B_z0 := mv B_z0 bb
  replace B_z1 := mv B_z1 bb
  replace HB := nx HB bb
  clear bb
  have lt_z2z0 := B_z0.out.lt
  have lt_z2z1 := B_z1.out.lt
  obtain ⟨bb, B_z2⟩ := box1 w1 23 #[.int .i64 (min x0 u0), .int .i64 (min y0 v0), .int .i64 (max x1 u1), .int .i64 (max y1 v1), .int .i64 (hullF f c g d), .int .i64 (hullC f c g d)]
  replace bb := bb.out
  replace B_z0 := mv B_z0 bb
  replace B_z1 := mv B_z1 bb
  replace HB := nx HB bb
  clear bb
  go_upto_region 2 with (fail)
  generalize w1.alloc (.cells #[.int .i64 (min x0 u0), .int .i64 (min y0 v0), .int .i64 (max x1 u1), .int .i64 (max y1 v1), .int .i64 (hullF f c g d), .int .i64 (hullC f c g d)] 23) = WN1 at *
  have ddo1 := dd1.out
  have ddo2 := dd2.out
  have ddo3 := dd3.out
  have ddo4 := dd4.out
  have ddo5 := dd5.out
  obtain ⟨c0z2, c1z2, c2z2, c3z2, c4z2, c5z2⟩ := cells6 B_z2
  obtain ⟨c0z1, c1z1, c2z1, c3z1, c4z1, c5z1⟩ := cells6 B_z1
  go_wp2
  go_ret
  exact ⟨(by first | rfl | exact rbt (by omega) | exact rbf (by omega)), nextw HB.out (by exact sm)⟩

def Inside0V (x0 y0 x1 y1 f c u0 v0 u1 v1 g d : Int) : Value := if OkB x0 y0 x1 y1 f c ∧ OkB u0 v0 u1 v1 g d then if (min x0 u0) = u0 then if (min y0 v0) = v0 then if (max x1 u1) = u1 then if (max y1 v1) = v1 then if (hullF f c g d) = g then if (hullC f c g d) = d then .bool true else .bool false else .bool false else .bool false else .bool false else .bool false else .bool false else .bool false
theorem Inside0_any (x0 y0 x1 y1 f c u0 v0 u1 v1 g d : Int)  (w : World) :
    Calls Try.prog 24 #[.agg #[.int .i64 x0, .int .i64 y0, .int .i64 x1, .int .i64 y1, .int .i64 f, .int .i64 c], .agg #[.int .i64 u0, .int .i64 v0, .int .i64 u1, .int .i64 v1, .int .i64 g, .int .i64 d]] w fun e w' => e = .returned (Inside0V x0 y0 x1 y1 f c u0 v0 u1 v1 g d) ∧ Below w.heap.size w w' := by
  unfold Inside0V
  by_cases dd0 : OkB x0 y0 x1 y1 f c ∧ OkB u0 v0 u1 v1 g d
  · rw [if_pos dd0]
    by_cases dd1 : (min x0 u0) = u0
    · rw [if_pos dd1]
      by_cases dd2 : (min y0 v0) = v0
      · rw [if_pos dd2]
        by_cases dd3 : (max x1 u1) = u1
        · rw [if_pos dd3]
          by_cases dd4 : (max y1 v1) = v1
          · rw [if_pos dd4]
            by_cases dd5 : (hullF f c g d) = g
            · rw [if_pos dd5]
              by_cases dd6 : (hullC f c g d) = d
              · rw [if_pos dd6]
                exact Inside0_w0 x0 y0 x1 y1 f c u0 v0 u1 v1 g d    dd0 dd1 dd2 dd3 dd4 dd5 dd6 w
              · rw [if_neg dd6]
                exact Inside0_w7 x0 y0 x1 y1 f c u0 v0 u1 v1 g d    dd0 dd1 dd2 dd3 dd4 dd5 dd6 w
            · rw [if_neg dd5]
              exact Inside0_w6 x0 y0 x1 y1 f c u0 v0 u1 v1 g d    dd0 dd1 dd2 dd3 dd4 dd5 w
          · rw [if_neg dd4]
            exact Inside0_w5 x0 y0 x1 y1 f c u0 v0 u1 v1 g d    dd0 dd1 dd2 dd3 dd4 w
        · rw [if_neg dd3]
          exact Inside0_w4 x0 y0 x1 y1 f c u0 v0 u1 v1 g d    dd0 dd1 dd2 dd3 w
      · rw [if_neg dd2]
        exact Inside0_w3 x0 y0 x1 y1 f c u0 v0 u1 v1 g d    dd0 dd1 dd2 w
    · rw [if_neg dd1]
      exact Inside0_w2 x0 y0 x1 y1 f c u0 v0 u1 v1 g d    dd0 dd1 w
  · rw [if_neg dd0]
    exact Inside0_w1 x0 y0 x1 y1 f c u0 v0 u1 v1 g d    dd0 w

/-- A valid box is in another one. -/
def insM (x0 y0 x1 y1 f c u0 v0 u1 v1 g d : Int) : Prop := (u0 ≤ x0 ∧ x1 ≤ u1 ∧ v0 ≤ y0 ∧ y1 ≤ v1) ∧ hullF f c g d = g ∧ hullC f c g d = d
instance (x0 y0 x1 y1 f c u0 v0 u1 v1 g d : Int) : Decidable (insM x0 y0 x1 y1 f c u0 v0 u1 v1 g d) := inferInstanceAs (Decidable (_ ∧ _))
def InsP (x0 y0 x1 y1 f c u0 v0 u1 v1 g d : Int) : Prop := (OkB x0 y0 x1 y1 f c ∧ OkB u0 v0 u1 v1 g d) ∧ insM x0 y0 x1 y1 f c u0 v0 u1 v1 g d
instance (x0 y0 x1 y1 f c u0 v0 u1 v1 g d : Int) : Decidable (InsP x0 y0 x1 y1 f c u0 v0 u1 v1 g d) := inferInstanceAs (Decidable (_ ∧ _))
theorem Inside_eq (x0 y0 x1 y1 f c u0 v0 u1 v1 g d : Int) : Inside0V x0 y0 x1 y1 f c u0 v0 u1 v1 g d = .bool (decide (InsP x0 y0 x1 y1 f c u0 v0 u1 v1 g d)) := by
  unfold Inside0V
  by_cases h : OkB x0 y0 x1 y1 f c ∧ OkB u0 v0 u1 v1 g d
  · have hx := h.1.b; have hy := h.2.b
    rw [if_pos h]
    by_cases k : insM x0 y0 x1 y1 f c u0 v0 u1 v1 g d
    · rw [decide_eq_true (show InsP x0 y0 x1 y1 f c u0 v0 u1 v1 g d from ⟨h, k⟩)]
      obtain ⟨k1, k2, k3⟩ := k
      rw [if_pos (by omega), if_pos (by omega), if_pos (by omega), if_pos (by omega), if_pos k2, if_pos k3]
    · rw [decide_eq_false (show ¬ InsP x0 y0 x1 y1 f c u0 v0 u1 v1 g d from fun j => k j.2)]
      repeat' split
      all_goals first | rfl | (exfalso; apply k; unfold insM; omega)
  · rw [if_neg h, decide_eq_false (show ¬ InsP x0 y0 x1 y1 f c u0 v0 u1 v1 g d from fun j => h j.1)]
theorem Inside_yes {x0 y0 x1 y1 f c u0 v0 u1 v1 g d : Int} (h : InsP x0 y0 x1 y1 f c u0 v0 u1 v1 g d) (w : World) : Calls Try.prog 24 #[.agg #[.int .i64 x0, .int .i64 y0, .int .i64 x1, .int .i64 y1, .int .i64 f, .int .i64 c], .agg #[.int .i64 u0, .int .i64 v0, .int .i64 u1, .int .i64 v1, .int .i64 g, .int .i64 d]] w fun e w' => e = .returned (.bool true) ∧ Below w.heap.size w w' := by
  have e := Inside0_any x0 y0 x1 y1 f c u0 v0 u1 v1 g d w; rwa [Inside_eq, decide_eq_true h] at e
theorem Inside_no {x0 y0 x1 y1 f c u0 v0 u1 v1 g d : Int} (h : ¬ InsP x0 y0 x1 y1 f c u0 v0 u1 v1 g d) (w : World) : Calls Try.prog 24 #[.agg #[.int .i64 x0, .int .i64 y0, .int .i64 x1, .int .i64 y1, .int .i64 f, .int .i64 c], .agg #[.int .i64 u0, .int .i64 v0, .int .i64 u1, .int .i64 v1, .int .i64 g, .int .i64 d]] w fun e w' => e = .returned (.bool false) ∧ Below w.heap.size w w' := by
  have e := Inside0_any x0 y0 x1 y1 f c u0 v0 u1 v1 g d w; rwa [Inside_eq, decide_eq_false h] at e

theorem BoxHas_eq (x0 y0 x1 y1 f c x y h : Int) : BoxHasV x0 y0 x1 y1 f c x y h = .bool (decide (HasP x0 y0 x1 y1 f c x y h)) := by
  unfold BoxHasV
  by_cases k : HasP x0 y0 x1 y1 f c x y h
  · rw [decide_eq_true k]
    obtain ⟨k0, k1, k2, k3, k4, k5⟩ := k
    rw [if_pos k0, if_pos k1, if_pos k2, if_pos k3, if_pos k4, k5]
  · rw [decide_eq_false k]
    repeat' split
    all_goals first | rfl | exact congrArg Value.bool (Bool.eq_false_iff.2 fun hh => k ⟨by assumption, by assumption, by assumption, by assumption, by assumption, hh⟩)
theorem BoxHas_yes {x0 y0 x1 y1 f c x y h : Int} (k : HasP x0 y0 x1 y1 f c x y h) (w : World) : Calls Try.prog 17 #[.agg #[.int .i64 x0, .int .i64 y0, .int .i64 x1, .int .i64 y1, .int .i64 f, .int .i64 c], .agg #[.int .i64 x, .int .i64 y, .int .i64 h]] w fun e w' => e = .returned (.bool true) ∧ Below w.heap.size w w' := by
  have e := BoxHas_any x0 y0 x1 y1 f c x y h w; rwa [BoxHas_eq, decide_eq_true k] at e
theorem BoxHas_no {x0 y0 x1 y1 f c x y h : Int} (k : ¬ HasP x0 y0 x1 y1 f c x y h) (w : World) : Calls Try.prog 17 #[.agg #[.int .i64 x0, .int .i64 y0, .int .i64 x1, .int .i64 y1, .int .i64 f, .int .i64 c], .agg #[.int .i64 x, .int .i64 y, .int .i64 h]] w fun e w' => e = .returned (.bool false) ∧ Below w.heap.size w w' := by
  have e := BoxHas_any x0 y0 x1 y1 f c x y h w; rwa [BoxHas_eq, decide_eq_false k] at e

/-- What Volume answers. -/
def volI (x0 y0 x1 y1 f c : Int) : Int := if OkB x0 y0 x1 y1 f c then volM x0 y0 x1 y1 c else 0
theorem Vol_is (x0 y0 x1 y1 f c : Int) (w : World) : Calls Try.prog 19 #[.agg #[.int .i64 x0, .int .i64 y0, .int .i64 x1, .int .i64 y1, .int .i64 f, .int .i64 c]] w fun e w' => e = .returned (.int .i64 (volI x0 y0 x1 y1 f c)) ∧ Below w.heap.size w w' := by
  have e := Vol_any x0 y0 x1 y1 f c w
  rwa [show VolV x0 y0 x1 y1 f c = .int .i64 (volI x0 y0 x1 y1 f c) by unfold VolV volI volM; split <;> rfl] at e
theorem volI_bd (x0 y0 x1 y1 f c : Int) : 0 ≤ volI x0 y0 x1 y1 f c ∧ volI x0 y0 x1 y1 f c ≤ 1125900980584704 := by
  unfold volI; split
  · rename_i h; have := vol_bd h; omega
  · omega
end Go.Proofs.Ytjpdahalplkfbaa
