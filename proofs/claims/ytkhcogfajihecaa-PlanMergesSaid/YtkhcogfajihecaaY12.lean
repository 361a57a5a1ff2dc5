/- the cell of a point. -/
import Derived.Test.YtkhcogfajihecaaY11
set_option linter.unusedVariables false
set_option linter.unusedSimpArgs false
namespace Go.Proofs.Ytkhcogfajihecaa
open Go Go.RowKit Hd

set_option maxRecDepth 100000 in
set_option maxHeartbeats 4000000 in
theorem Of_w0 (a b : Int)   (dd0 : Wi a 1048576 ∧ Wi b 1048576) (w : World) :
    Calls Try.prog 33 #[.agg #[.int .i64 a, .int .i64 b]] w fun e w' => e = .returned (.tuple #[.agg #[.int .i64 (fl a 64), .int .i64 (fl b 64)], .bool true]) ∧ Below w.heap.size w w' := by
  have H0 := Lib.hid (fun w => validPoint_is a b w)
  have H1 := Lib.hid (fun w => floor_is a 64 (wi_up dd0.1 (by decide)) ⟨by decide, by decide⟩ w)
  have H2 := Lib.hid (fun w => floor_is b 64 (wi_up dd0.2 (by decide)) ⟨by decide, by decide⟩ w)
  have dd0x1 := dd0.1.1
  have dd0x2 := dd0.1.2
  have dd0y1 := dd0.2.1
  have dd0y2 := dd0.2.2
  obtain ⟨HB, B_z0, B_z1⟩ := box2 w 43 #[.int .i64 a, .int .i64 b] 37 #[.int .i64 0, .int .i64 0]
  go_enter Try.func33, Try.ntmps33
  go_upto_region 1 with (fail)
  generalize (w.alloc (.cells #[.int .i64 a, .int .i64 b] 43)).alloc (.cells #[.int .i64 0, .int .i64 0] 37) = W0 at *
  obtain ⟨c0z0, c1z0⟩ := cells2 B_z0
  go_wp2_with fail
  refine (H0.out _).mono ?_
  clear c0z0 c1z0
  rintro e w1 ⟨rfl, bb⟩
  replace bb := nextw (w0 := W0) (by exact sm) bb
  replace B_z0 := mv B_z0 bb
  replace B_z1 := mv B_z1 bb
  replace HB := nx HB bb
  clear bb
  go_upto_region 3 with (fail)
  obtain ⟨f0z1, f1z1⟩ := froz2 B_z1
  clear f0z1 f1z1
  obtain ⟨c0z0, c1z0⟩ := cells2 B_z0
  have tk1x0 : True := trivial
  go_region_held3 (fun w' => w'.cell? ⟨w.heap.size, 0, none⟩ = some (.int .i64 a) ∧ w'.cell? ⟨w.heap.size, 1, none⟩ = some (.int .i64 b)) (((try dsimp only); (repeat' apply And.intro) <;> (first | (with_reducible assumption) | ((repeat (first | (with_reducible refine Eq.trans (cell_drew1 _ _) ?_) | (with_reducible refine Eq.trans (cell_far (by omega) _ _ _) ?_) | (with_reducible refine Eq.trans (World.cell?_alloc_lt _ _ _ (by first | (dsimp only; omega) | (simp only [World.size_alloc, World.size_setCell]; omega))) ?_))); with_reducible assumption) | assumption | go_keep)))
    (first
      | (clear tk1x0; go_at_call 66; refine (H1.out _).mono ?_; rintro e w2 ⟨rfl, bb⟩; replace bb := nextw (w0 := w1) (by exact sm) bb; replace B_z0 := mv B_z0 bb; replace B_z1 := mv B_z1 bb; replace HB := nx HB bb; clear bb c0z0 c1z0; have c0z1 : w2.cell? ⟨w.heap.size + 1, 0, none⟩ = some (.int .i64 0) := B_z1.out.cell 0 rfl; have c1z1 : w2.cell? ⟨w.heap.size + 1, 1, none⟩ = some (.int .i64 0) := B_z1.out.cell 1 rfl; have f0z1 : w2.frozen? ⟨w.heap.size + 1, 0, none⟩ = false := B_z1.out.frozen 0; have f1z1 : w2.frozen? ⟨w.heap.size + 1, 1, none⟩ = false := B_z1.out.frozen 1; have c0z0 : w2.cell? ⟨w.heap.size, 0, none⟩ = some (.int .i64 a) := B_z0.out.cell 0 rfl; have c1z0 : w2.cell? ⟨w.heap.size, 1, none⟩ = some (.int .i64 b) := B_z0.out.cell 1 rfl; have tk1x1 : True := trivial)
      | (clear tk1x1; go_at_call 66; refine (H2.out _).mono ?_; rintro e w3 ⟨rfl, bb⟩; replace bb := nextw (w0 := w2) (by exact sm) bb; replace B_z0 := mv B_z0 bb; replace B_z1 := mv B_z1 bb; replace HB := nx HB bb; clear bb c0z0 c1z0; have c0z1 : w3.cell? ⟨w.heap.size + 1, 0, none⟩ = some (.int .i64 0) := B_z1.out.cell 0 rfl; have c1z1 : w3.cell? ⟨w.heap.size + 1, 1, none⟩ = some (.int .i64 0) := B_z1.out.cell 1 rfl; have f0z1 : w3.frozen? ⟨w.heap.size + 1, 0, none⟩ = false := B_z1.out.frozen 0; have f1z1 : w3.frozen? ⟨w.heap.size + 1, 1, none⟩ = false := B_z1.out.frozen 1; have c0z0 : w3.cell? ⟨w.heap.size, 0, none⟩ = some (.int .i64 a) := B_z0.out.cell 0 rfl; have c1z0 : w3.cell? ⟨w.heap.size, 1, none⟩ = some (.int .i64 b) := B_z0.out.cell 1 rfl; have tk1x2 : True := trivial))
  clear c0z0 c1z0
  obtain ⟨s0, s1⟩ := cells2 (stor2 B_z1 (.int .i64 (fl a 64)) (.int .i64 (fl b 64)))
  have HF := stb2 HB (y := w.heap.size + 1) (by omega) 0 (.int .i64 (fl a 64)) 1 (.int .i64 (fl b 64))
  obtain ⟨c0z1, c1z1⟩ := cells2 B_z1
  obtain ⟨f0z1, f1z1⟩ := froz2 B_z1
  go_wp2_with fail
  exact bodyPost_ret (v := .tuple #[.agg #[.int .i64 (fl a 64), .int .i64 (fl b 64)], .bool true]) (by simp [results, Try.results33, go_sem, s0, s1]) rfl ⟨rfl, nextw HF.out (by exact sm)⟩

set_option maxRecDepth 100000 in
set_option maxHeartbeats 4000000 in
theorem Of_w1 (a b : Int)   (dd0 : ¬ (Wi a 1048576 ∧ Wi b 1048576)) (w : World) :
    Calls Try.prog 33 #[.agg #[.int .i64 a, .int .i64 b]] w fun e w' => e = .returned (.tuple #[.agg #[.int .i64 0, .int .i64 0], .bool false]) ∧ Below w.heap.size w w' := by
  have H0 := Lib.hid (fun w => validPoint_is a b w)
  obtain ⟨HB, B_z0, B_z1⟩ := box2 w 43 #[.int .i64 a, .int .i64 b] 37 #[.int .i64 0, .int .i64 0]
  go_enter Try.func33, Try.ntmps33
  go_upto_region 1 with (fail)
  generalize (w.alloc (.cells #[.int .i64 a, .int .i64 b] 43)).alloc (.cells #[.int .i64 0, .int .i64 0] 37) = W0 at *
  obtain ⟨c0z0, c1z0⟩ := cells2 B_z0
  go_wp2_with fail
  refine (H0.out _).mono ?_
  clear c0z0 c1z0
  rintro e w1 ⟨rfl, bb⟩
  replace bb := nextw (w0 := W0) (by exact sm) bb
  replace B_z0 := mv B_z0 bb
  replace B_z1 := mv B_z1 bb
  replace HB := nx HB bb
  clear bb
  obtain ⟨s0, s1⟩ := cells2 (stor2 B_z1 (.int .i64 0) (.int .i64 0))
  have HF := stb2 HB (y := w.heap.size + 1) (by omega) 0 (.int .i64 0) 1 (.int .i64 0)
  obtain ⟨c0z1, c1z1⟩ := cells2 B_z1
  obtain ⟨f0z1, f1z1⟩ := froz2 B_z1
  go_wp2_with fail
  exact bodyPost_ret (v := .tuple #[.agg #[.int .i64 0, .int .i64 0], .bool false]) (by simp [results, Try.results33, go_sem, s0, s1]) rfl ⟨rfl, nextw HF.out (by exact sm)⟩

def OfV (a b : Int) : Value := if Wi a 1048576 ∧ Wi b 1048576 then .tuple #[.agg #[.int .i64 (fl a 64), .int .i64 (fl b 64)], .bool true] else .tuple #[.agg #[.int .i64 0, .int .i64 0], .bool false]
theorem Of_any (a b : Int)  (w : World) :
    Calls Try.prog 33 #[.agg #[.int .i64 a, .int .i64 b]] w fun e w' => e = .returned (OfV a b) ∧ Below w.heap.size w w' := by
  unfold OfV
  by_cases dd0 : Wi a 1048576 ∧ Wi b 1048576
  · rw [if_pos dd0]
    exact Of_w0 a b    dd0 w 
  · rw [if_neg dd0]
    exact Of_w1 a b    dd0 w 

set_option maxRecDepth 100000 in
set_option maxHeartbeats 4000000 in
theorem ROf_w0 (a b : Int)   (dd0 : Wi a 1048576 ∧ Wi b 1048576) (w : World) :
    Calls Try.prog 34 #[.agg #[.int .i64 a, .int .i64 b]] w fun e w' => e = .returned (.tuple #[.agg #[.int .i64 (fl a 64), .int .i64 (fl b 64)], .bool true]) ∧ Below w.heap.size w w' := by
  have H0 := Lib.hid (fun w => BPoint_is a b w)
  have H1 := Lib.hid (fun w => BFloor_is a 64 (wi_up dd0.1 (by decide)) ⟨by decide, by decide⟩ w)
  have H2 := Lib.hid (fun w => BFloor_is b 64 (wi_up dd0.2 (by decide)) ⟨by decide, by decide⟩ w)
  have dd0x1 := dd0.1.1
  have dd0x2 := dd0.1.2
  have dd0y1 := dd0.2.1
  have dd0y2 := dd0.2.2
  obtain ⟨HB, B_z0, B_z1⟩ := box2 w 43 #[.int .i64 a, .int .i64 b] 37 #[.int .i64 0, .int .i64 0]
  go_enter Try.func34, Try.ntmps34
  go_upto_region 1 with (fail)
  generalize (w.alloc (.cells #[.int .i64 a, .int .i64 b] 43)).alloc (.cells #[.int .i64 0, .int .i64 0] 37) = W0 at *
  obtain ⟨c0z0, c1z0⟩ := cells2 B_z0
  go_wp2_with fail
  refine (H0.out _).mono ?_
  clear c0z0 c1z0
  rintro e w1 ⟨rfl, bb⟩
  replace bb := nextw (w0 := W0) (by exact sm) bb
  replace B_z0 := mv B_z0 bb
  replace B_z1 := mv B_z1 bb
  replace HB := nx HB bb
  clear bb
  go_upto_region 3 with (fail)
  obtain ⟨f0z1, f1z1⟩ := froz2 B_z1
  clear f0z1 f1z1
  obtain ⟨c0z0, c1z0⟩ := cells2 B_z0
  have tk1x0 : True := trivial
  go_region_held3 (fun w' => w'.cell? ⟨w.heap.size, 0, none⟩ = some (.int .i64 a) ∧ w'.cell? ⟨w.heap.size, 1, none⟩ = some (.int .i64 b)) (((try dsimp only); (repeat' apply And.intro) <;> (first | (with_reducible assumption) | ((repeat (first | (with_reducible refine Eq.trans (cell_drew1 _ _) ?_) | (with_reducible refine Eq.trans (cell_far (by omega) _ _ _) ?_) | (with_reducible refine Eq.trans (World.cell?_alloc_lt _ _ _ (by first | (dsimp only; omega) | (simp only [World.size_alloc, World.size_setCell]; omega))) ?_))); with_reducible assumption) | assumption | go_keep)))
    (first
      | (clear tk1x0; go_at_call 68; refine (H1.out _).mono ?_; rintro e w2 ⟨rfl, bb⟩; replace bb := nextw (w0 := w1) (by exact sm) bb; replace B_z0 := mv B_z0 bb; replace B_z1 := mv B_z1 bb; replace HB := nx HB bb; clear bb c0z0 c1z0; have c0z1 : w2.cell? ⟨w.heap.size + 1, 0, none⟩ = some (.int .i64 0) := B_z1.out.cell 0 rfl; have c1z1 : w2.cell? ⟨w.heap.size + 1, 1, none⟩ = some (.int .i64 0) := B_z1.out.cell 1 rfl; have f0z1 : w2.frozen? ⟨w.heap.size + 1, 0, none⟩ = false := B_z1.out.frozen 0; have f1z1 : w2.frozen? ⟨w.heap.size + 1, 1, none⟩ = false := B_z1.out.frozen 1; have c0z0 : w2.cell? ⟨w.heap.size, 0, none⟩ = some (.int .i64 a) := B_z0.out.cell 0 rfl; have c1z0 : w2.cell? ⟨w.heap.size, 1, none⟩ = some (.int .i64 b) := B_z0.out.cell 1 rfl; have tk1x1 : True := trivial)
      | (clear tk1x1; go_at_call 68; refine (H2.out _).mono ?_; rintro e w3 ⟨rfl, bb⟩; replace bb := nextw (w0 := w2) (by exact sm) bb; replace B_z0 := mv B_z0 bb; replace B_z1 := mv B_z1 bb; replace HB := nx HB bb; clear bb c0z0 c1z0; have c0z1 : w3.cell? ⟨w.heap.size + 1, 0, none⟩ = some (.int .i64 0) := B_z1.out.cell 0 rfl; have c1z1 : w3.cell? ⟨w.heap.size + 1, 1, none⟩ = some (.int .i64 0) := B_z1.out.cell 1 rfl; have f0z1 : w3.frozen? ⟨w.heap.size + 1, 0, none⟩ = false := B_z1.out.frozen 0; have f1z1 : w3.frozen? ⟨w.heap.size + 1, 1, none⟩ = false := B_z1.out.frozen 1; have c0z0 : w3.cell? ⟨w.heap.size, 0, none⟩ = some (.int .i64 a) := B_z0.out.cell 0 rfl; have c1z0 : w3.cell? ⟨w.heap.size, 1, none⟩ = some (.int .i64 b) := B_z0.out.cell 1 rfl; have tk1x2 : True := trivial))
  clear c0z0 c1z0
  obtain ⟨s0, s1⟩ := cells2 (stor2 B_z1 (.int .i64 (fl a 64)) (.int .i64 (fl b 64)))
  have HF := stb2 HB (y := w.heap.size + 1) (by omega) 0 (.int .i64 (fl a 64)) 1 (.int .i64 (fl b 64))
  obtain ⟨c0z1, c1z1⟩ := cells2 B_z1
  obtain ⟨f0z1, f1z1⟩ := froz2 B_z1
  go_wp2_with fail
  exact bodyPost_ret (v := .tuple #[.agg #[.int .i64 (fl a 64), .int .i64 (fl b 64)], .bool true]) (by simp [results, Try.results34, go_sem, s0, s1]) rfl ⟨rfl, nextw HF.out (by exact sm)⟩

set_option maxRecDepth 100000 in
set_option maxHeartbeats 4000000 in
theorem ROf_w1 (a b : Int)   (dd0 : ¬ (Wi a 1048576 ∧ Wi b 1048576)) (w : World) :
    Calls Try.prog 34 #[.agg #[.int .i64 a, .int .i64 b]] w fun e w' => e = .returned (.tuple #[.agg #[.int .i64 0, .int .i64 0], .bool false]) ∧ Below w.heap.size w w' := by
  have H0 := Lib.hid (fun w => BPoint_is a b w)
  obtain ⟨HB, B_z0, B_z1⟩ := box2 w 43 #[.int .i64 a, .int .i64 b] 37 #[.int .i64 0, .int .i64 0]
  go_enter Try.func34, Try.ntmps34
  go_upto_region 1 with (fail)
  generalize (w.alloc (.cells #[.int .i64 a, .int .i64 b] 43)).alloc (.cells #[.int .i64 0, .int .i64 0] 37) = W0 at *
  obtain ⟨c0z0, c1z0⟩ := cells2 B_z0
  go_wp2_with fail
  refine (H0.out _).mono ?_
  clear c0z0 c1z0
  rintro e w1 ⟨rfl, bb⟩
  replace bb := nextw (w0 := W0) (by exact sm) bb
  replace B_z0 := mv B_z0 bb
  replace B_z1 := mv B_z1 bb
  replace HB := nx HB bb
  clear bb
  obtain ⟨s0, s1⟩ := cells2 (stor2 B_z1 (.int .i64 0) (.int .i64 0))
  have HF := stb2 HB (y := w.heap.size + 1) (by omega) 0 (.int .i64 0) 1 (.int .i64 0)
  obtain ⟨c0z1, c1z1⟩ := cells2 B_z1
  obtain ⟨f0z1, f1z1⟩ := froz2 B_z1
  go_wp2_with fail
  exact bodyPost_ret (v := .tuple #[.agg #[.int .i64 0, .int .i64 0], .bool false]) (by simp [results, Try.results34, go_sem, s0, s1]) rfl ⟨rfl, nextw HF.out (by exact sm)⟩

def ROfV (a b : Int) : Value := if Wi a 1048576 ∧ Wi b 1048576 then .tuple #[.agg #[.int .i64 (fl a 64), .int .i64 (fl b 64)], .bool true] else .tuple #[.agg #[.int .i64 0, .int .i64 0], .bool false]
theorem ROf_any (a b : Int)  (w : World) :
    Calls Try.prog 34 #[.agg #[.int .i64 a, .int .i64 b]] w fun e w' => e = .returned (ROfV a b) ∧ Below w.heap.size w w' := by
  unfold ROfV
  by_cases dd0 : Wi a 1048576 ∧ Wi b 1048576
  · rw [if_pos dd0]
    exact ROf_w0 a b    dd0 w 
  · rw [if_neg dd0]
    exact ROf_w1 a b    dd0 w 
end Go.Proofs.Ytkhcogfajihecaa
