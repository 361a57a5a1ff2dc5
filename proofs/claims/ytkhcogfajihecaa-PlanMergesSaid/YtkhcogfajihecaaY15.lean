/- plan.Traced, Around. -/
import Derived.Test.YtkhcogfajihecaaY13
import Derived.Test.YtkhcogfajihecaaY14
set_option linter.unusedVariables false
set_option linter.unusedSimpArgs false
namespace Go.Proofs.Ytkhcogfajihecaa
open Go Go.RowKit Hd

theorem SweptB (x0 y0 x1 y1 x y d lo hi : Int) (w : World) {n0 : Nat} (hn : n0 ≤ w.heap.size) : Calls Try.prog 43 #[.agg #[.int .i64 x0, .int .i64 y0, .int .i64 x1, .int .i64 y1], .agg #[.int .i64 x, .int .i64 y, .int .i64 d], .int .i64 lo, .int .i64 hi] w fun e w' => ∃ A c, e = .returned (.tuple #[.slice A (swV x0 y0 x1 y1 x y d lo hi).length c, .int .i64 (swE x0 y0 x1 y1 x y d lo hi)]) ∧ PL w' n0 w'.heap.size A (swV x0 y0 x1 y1 x y d lo hi).length c (swV x0 y0 x1 y1 x y d lo hi) ∧ Below w.heap.size w w' :=
  (Swept_is x0 y0 x1 y1 x y d lo hi w).mono fun _ _ h => by obtain ⟨A, c, h1, h2, h3⟩ := h; exact ⟨A, c, h1, PL.outw h2 hn, h3⟩
theorem CellsB (x0 y0 x1 y1 : Int) (w : World) {n0 : Nat} (hn : n0 ≤ w.heap.size) : Calls Try.prog 39 #[.agg #[.int .i64 x0, .int .i64 y0, .int .i64 x1, .int .i64 y1]] w fun e w' => ∃ A c, e = .returned (.tuple #[.slice A (ceV x0 y0 x1 y1).length c, .int .i64 (ceE x0 y0 x1 y1)]) ∧ PL w' n0 w'.heap.size A (ceV x0 y0 x1 y1).length c (ceV x0 y0 x1 y1) ∧ Below w.heap.size w w' :=
  (Cells_is x0 y0 x1 y1 w).mono fun _ _ h => by obtain ⟨A, c, h1, h2, h3⟩ := h; exact ⟨A, c, h1, PL.outw h2 hn, h3⟩

set_option maxRecDepth 100000 in
set_option maxHeartbeats 4000000 in
theorem Traced_is (a b x y d lo hi : Int) (w : World) :
    Calls Try.prog 41 #[.agg #[.int .i64 a, .int .i64 b], .agg #[.int .i64 x, .int .i64 y, .int .i64 d], .int .i64 lo, .int .i64 hi] w fun e w' => ∃ A c, e = .returned (.tuple #[.slice A (swV a b a b x y d lo hi).length c, .int .i64 (swE a b a b x y d lo hi)]) ∧ PL w' w.heap.size w'.heap.size A (swV a b a b x y d lo hi).length c (swV a b a b x y d lo hi) ∧ Below w.heap.size w w' := by
  obtain ⟨HB, B_z0, B_z1⟩ := box2 w 43 #[.int .i64 a, .int .i64 b] 59 #[.int .i64 x, .int .i64 y, .int .i64 d]
  go_enter Try.func41, Try.ntmps41
  go_upto_region 1 with (fail)
  generalize (w.alloc (.cells #[.int .i64 a, .int .i64 b] 43)).alloc (.cells #[.int .i64 x, .int .i64 y, .int .i64 d] 59) = W0 at *
  obtain ⟨c0z0, c1z0⟩ := cells2 B_z0
  obtain ⟨c0z1, c1z1, c2z1⟩ := cells3 B_z1
  have tk1x0 : True := trivial
  go_region_held3 (fun w' => w'.cell? ⟨w.heap.size, 0, none⟩ = some (.int .i64 a) ∧ w'.cell? ⟨w.heap.size, 1, none⟩ = some (.int .i64 b) ∧ w'.cell? ⟨w.heap.size + 1, 0, none⟩ = some (.int .i64 x) ∧ w'.cell? ⟨w.heap.size + 1, 1, none⟩ = some (.int .i64 y) ∧ w'.cell? ⟨w.heap.size + 1, 2, none⟩ = some (.int .i64 d)) (((try dsimp only); (repeat' apply And.intro) <;> (first | (with_reducible assumption) | ((repeat (first | (with_reducible refine Eq.trans (cell_drew1 _ _) ?_) | (with_reducible refine Eq.trans (cell_far (by omega) _ _ _) ?_) | (with_reducible refine Eq.trans (World.cell?_alloc_lt _ _ _ (by first | (dsimp only; omega) | (simp only [World.size_alloc, World.size_setCell]; omega))) ?_))); with_reducible assumption) | assumption | go_keep)))
    (first
      | (clear tk1x0; go_at_call 69; refine (pointRect_w0 a b _).mono ?_; rintro e w1 ⟨rfl, bb⟩; replace bb := nextw (w0 := W0) (by exact sm) bb; replace B_z0 := mv B_z0 bb; replace B_z1 := mv B_z1 bb; replace HB := nx HB bb; clear bb c0z0 c1z0 c0z1 c1z1 c2z1; have c0z0 : w1.cell? ⟨w.heap.size, 0, none⟩ = some (.int .i64 a) := B_z0.out.cell 0 rfl; have c1z0 : w1.cell? ⟨w.heap.size, 1, none⟩ = some (.int .i64 b) := B_z0.out.cell 1 rfl; have c0z1 : w1.cell? ⟨w.heap.size + 1, 0, none⟩ = some (.int .i64 x) := B_z1.out.cell 0 rfl; have c1z1 : w1.cell? ⟨w.heap.size + 1, 1, none⟩ = some (.int .i64 y) := B_z1.out.cell 1 rfl; have c2z1 : w1.cell? ⟨w.heap.size + 1, 2, none⟩ = some (.int .i64 d) := B_z1.out.cell 2 rfl; have tk1x1 : True := trivial)
      | (clear tk1x1; go_at_call 43; refine (SweptB a b a b x y d lo hi _ HB.out.size).mono ?_; rintro e w2 ⟨A0, c0, rfl, L0, bb⟩; replace bb := nextw (w0 := w1) (by exact sm) bb; replace B_z0 := mv B_z0 bb; replace B_z1 := mv B_z1 bb; replace HB := nx HB bb; clear bb c0z0 c1z0 c0z1 c1z1 c2z1; replace L0 := Lib.hid L0; have c0z0 : w2.cell? ⟨w.heap.size, 0, none⟩ = some (.int .i64 a) := B_z0.out.cell 0 rfl; have c1z0 : w2.cell? ⟨w.heap.size, 1, none⟩ = some (.int .i64 b) := B_z0.out.cell 1 rfl; have c0z1 : w2.cell? ⟨w.heap.size + 1, 0, none⟩ = some (.int .i64 x) := B_z1.out.cell 0 rfl; have c1z1 : w2.cell? ⟨w.heap.size + 1, 1, none⟩ = some (.int .i64 y) := B_z1.out.cell 1 rfl; have c2z1 : w2.cell? ⟨w.heap.size + 1, 2, none⟩ = some (.int .i64 d) := B_z1.out.cell 2 rfl; have tk1x2 : True := trivial))
  clear c0z0 c1z0 c0z1 c1z1 c2z1
  go_wp2_with fail
  exact bodyPost_ret (v := .tuple #[.slice A0 (swV a b a b x y d lo hi).length c0, .int .i64 (swE a b a b x y d lo hi)]) (by simp [results, Try.results41, go_sem]) rfl ⟨A0, c0, rfl, PL.outw (PL.below L0.out (by exact sm)) (Nat.le_refl _), nextw HB.out (by exact sm)⟩

set_option maxRecDepth 100000 in
set_option maxHeartbeats 4000000 in
theorem Around_is (a b : Int) (w : World) :
    Calls Try.prog 35 #[.agg #[.int .i64 a, .int .i64 b]] w fun e w' => ∃ A c, e = .returned (.slice A (ceV a b a b).length c) ∧ PL w' w.heap.size w'.heap.size A (ceV a b a b).length c (ceV a b a b) ∧ Below w.heap.size w w' := by
  obtain ⟨HB, B_z0⟩ := box1 w 43 #[.int .i64 a, .int .i64 b]
  go_enter Try.func35, Try.ntmps35
  go_wp2_with fail
  generalize w.alloc (.cells #[.int .i64 a, .int .i64 b] 43) = W0 at *
  obtain ⟨c0z0, c1z0⟩ := cells2 B_z0
  go_wp2_with fail
  refine (pointRect_w0 a b _).mono ?_
  clear c0z0 c1z0
  rintro e w1 ⟨rfl, bb⟩
  replace bb := nextw (w0 := W0) (by exact sm) bb
  replace B_z0 := mv B_z0 bb
  replace HB := nx HB bb
  clear bb
  have hs0 := HB.out.size
  go_wp2_with fail
  refine (CellsB a b a b _ hs0).mono ?_
  rintro e w2 ⟨A0, c0, rfl, L0, bb⟩
  replace bb := nextw (w0 := w1) (by exact sm) bb
  replace B_z0 := mv B_z0 bb
  replace HB := nx HB bb
  clear bb
  replace L0 := Lib.hid L0
  go_wp2_with fail
  exact bodyPost_ret (v := .slice A0 (ceV a b a b).length c0) (by simp [results, Try.results35, go_sem]) rfl ⟨A0, c0, rfl, PL.outw (PL.below L0.out (by exact sm)) (Nat.le_refl _), nextw HB.out (by exact sm)⟩
end Go.Proofs.Ytkhcogfajihecaa
