/- the law PlanCells. -/
import Derived.Test.YtkhcogfajihecaaY20
set_option linter.unusedVariables false
set_option linter.unusedSimpArgs false
namespace Go.Proofs.Ytkhcogfajihecaa
open Go Go.RowKit Hd

theorem ceV_len (x0 y0 x1 y1 : Int) : (ceV x0 y0 x1 y1).length ≤ 8192 := by
  unfold ceV
  split
  · rename_i h
    unfold ceE at h
    split at h
    · rename_i hq
      split at h
      · cases h
      · rename_i hn
        rw [ceX_len]
        exact ceN_len hq.2.2.2.2.1 hn _ _ rfl (Nat.le_refl _)
    · cases h
  · simp
theorem ce_one {a b : Int} (h : OkQ a b a b) : ceE a b a b = 0 ∧ 0 < (ceV a b a b).length := by
  have x1 := rF_one a
  have x2 := rL_one a
  have y1 := rF_one b
  have y2 := rL_one b
  have p1 : rL a 1 - rF a 1 + 1 ≤ 2 := by omega
  have p2 : rL b 1 - rF b 1 + 1 ≤ 2 := by omega
  have p3 := Int.mul_le_mul p1 p2 (by omega) (by omega)
  have e0 : ceE a b a b = 0 := ceE_0 h (by unfold ceN; omega)
  refine ⟨e0, ?_⟩
  rw [ceV_ok e0, ceX_len]
  exact Nat.mul_pos (by omega) (by omega)
theorem same_cells (l : List P2) (hl : l.length ≤ 1000000) (A A2 : Option Addr) (n n2 c c2 : Nat) (hn : l.length = n) (hn2 : l.length = n2) (w : World) {lo hi lo2 hi2 : Nat} (L : PL w lo hi A n c l) (L2 : PL w lo2 hi2 A2 n2 c2 l) : Calls Try.prog 36 #[.slice A n c, .slice A2 n2 c2] w fun e w' => e = .returned (.bool true) ∧ Below w.heap.size w w' := by
  have h := BCells_is A n c l A2 n2 c2 l (by omega) (by omega) w L L2
  rw [decide_eq_true rfl] at h
  exact h

theorem CellsN (x0 y0 x1 y1 : Int) {N : Nat} {E : Int} (hN : (ceV x0 y0 x1 y1).length = N) (hE : ceE x0 y0 x1 y1 = E) (w : World) {n0 : Nat} (hn : n0 ≤ w.heap.size) : Calls Try.prog 39 #[.agg #[.int .i64 x0, .int .i64 y0, .int .i64 x1, .int .i64 y1]] w fun e w' => ∃ A c, e = .returned (.tuple #[.slice A N c, .int .i64 E]) ∧ PL w' n0 w'.heap.size A N c (ceV x0 y0 x1 y1) ∧ Below w.heap.size w w' := by
  subst hN hE
  exact (Cells_is x0 y0 x1 y1 w).mono fun _ _ h => by obtain ⟨A, c, h1, h2, h3⟩ := h; exact ⟨A, c, h1, PL.outw h2 hn, h3⟩

theorem RCellsN (x0 y0 x1 y1 : Int) {N : Nat} {E : Int} (hN : (ceV x0 y0 x1 y1).length = N) (hE : ceE x0 y0 x1 y1 = E) (w : World) {n0 : Nat} (hn : n0 ≤ w.heap.size) : Calls Try.prog 40 #[.agg #[.int .i64 x0, .int .i64 y0, .int .i64 x1, .int .i64 y1]] w fun e w' => ∃ A c, e = .returned (.tuple #[.slice A N c, .int .i64 E]) ∧ PL w' n0 w'.heap.size A N c (ceV x0 y0 x1 y1) ∧ Below w.heap.size w w' := by
  subst hN hE
  exact (RCells_is x0 y0 x1 y1 w).mono fun _ _ h => by obtain ⟨A, c, h1, h2, h3⟩ := h; exact ⟨A, c, h1, PL.outw h2 hn, h3⟩

theorem AroundN (a b : Int) {N : Nat} (hN : (ceV a b a b).length = N) (w : World) {n0 : Nat} (hn : n0 ≤ w.heap.size) : Calls Try.prog 35 #[.agg #[.int .i64 a, .int .i64 b]] w fun e w' => ∃ A c, e = .returned (.slice A N c) ∧ PL w' n0 w'.heap.size A N c (ceV a b a b) ∧ Below w.heap.size w w' := by
  subst hN
  exact (Around_is a b w).mono fun _ _ h => by obtain ⟨A, c, h1, h2, h3⟩ := h; exact ⟨A, c, h1, PL.outw h2 hn, h3⟩

set_option maxRecDepth 100000 in
set_option maxHeartbeats 4000000 in
theorem LCells_yes (x0 y0 x1 y1 : Int) (h : OkQ x0 y0 x0 y0) (w : World) :
    Calls Try.prog 7 #[.agg #[.int .i64 x0, .int .i64 y0, .int .i64 x1, .int .i64 y1]] w fun e w' => e = .returned (.bool true) ∧ Below w.heap.size w w' := by
  obtain ⟨hF, hP⟩ := ce_one h
  obtain ⟨M, hM⟩ : ∃ M, (ceV x0 y0 x0 y0).length = M := ⟨_, rfl⟩
  rw [hM] at hP
  have hP2 : (0 : Int) < ((M : Nat) : Int) := by omega
  have HF := Lib.hid hF
  have HM := Lib.hid hM
  clear hF hM h
  obtain ⟨N, hN⟩ : ∃ N, (ceV x0 y0 x1 y1).length = N := ⟨_, rfl⟩
  obtain ⟨E, hE⟩ : ∃ E, ceE x0 y0 x1 y1 = E := ⟨_, rfl⟩
  have HN := Lib.hid hN
  have HE := Lib.hid hE
  have hl1 := Lib.hid (Nat.le_trans (ceV_len x0 y0 x1 y1) (show 8192 ≤ 1000000 by decide))
  have hl2 := Lib.hid (Nat.le_trans (ceV_len x0 y0 x0 y0) (show 8192 ≤ 1000000 by decide))
  clear hN hE
  obtain ⟨HB, B_z0⟩ := box1 w 45 #[.int .i64 x0, .int .i64 y0, .int .i64 x1, .int .i64 y1]
  go_enter Try.func7, Try.ntmps7
  go_wp2_with fail
  generalize w.alloc (.cells #[.int .i64 x0, .int .i64 y0, .int .i64 x1, .int .i64 y1] 45) = W0 at *
  go_wp2_with fail
  refine (awake_is _).mono ?_
  rintro e w1 ⟨rfl, bb⟩
  replace bb := nextw (w0 := W0) (by exact sm) bb
  replace B_z0 := mv B_z0 bb
  replace HB := nx HB bb
  clear bb
  have hsz := HB.out.size
  obtain ⟨c0z0, c1z0, c2z0, c3z0⟩ := cells4 B_z0
  go_wp2_with fail
  refine (CellsN x0 y0 x1 y1 HN.out HE.out _ (show w.heap.size ≤ _ from hsz)).mono ?_
  clear c0z0 c1z0 c2z0 c3z0
  rintro e w2 ⟨A1, c1, rfl, L1, bb⟩
  replace bb := nextw (w0 := w1) (by exact sm) bb
  replace B_z0 := mv B_z0 bb
  replace HB := nx HB bb
  clear bb
  clear hsz
  replace L1 := Lib.hid L1
  have hsz := HB.out.size
  obtain ⟨c0z0, c1z0, c2z0, c3z0⟩ := cells4 B_z0
  go_wp2_with fail
  refine (RCellsN x0 y0 x1 y1 HN.out HE.out _ (show w.heap.size ≤ _ from hsz)).mono ?_
  clear c0z0 c1z0 c2z0 c3z0
  rintro e w3 ⟨A2, c2, rfl, L2, bb⟩
  replace bb := nextw (w0 := w2) (by exact sm) bb
  replace B_z0 := mv B_z0 bb
  replace L1 := Lib.hid (PL.below L1.out bb)
  replace HB := nx HB bb
  clear bb
  clear hsz
  replace L2 := Lib.hid L2
  have hsz := HB.out.size
  obtain ⟨c0z0, c1z0, c2z0, c3z0⟩ := cells4 B_z0
  go_wp2_with fail
  refine (CellsN x0 y0 x0 y0 HM.out HF.out _ (show w.heap.size ≤ _ from hsz)).mono ?_
  clear c0z0 c1z0 c2z0 c3z0
  rintro e w4 ⟨A3, c3, rfl, L3, bb⟩
  replace bb := nextw (w0 := w3) (by exact sm) bb
  replace B_z0 := mv B_z0 bb
  replace L1 := Lib.hid (PL.below L1.out bb)
  replace L2 := Lib.hid (PL.below L2.out bb)
  replace HB := nx HB bb
  clear bb
  clear hsz
  replace L3 := Lib.hid L3
  go_upto_region 6 with (fail)
  obtain ⟨c0z0, c1z0, c2z0, c3z0⟩ := cells4 B_z0
  go_wp2_with fail
  refine (same_cells _ hl1.out _ _ _ _ _ _ HN.out HN.out _ (PL.below L1.out (by exact sm)) (PL.below L2.out (by exact sm))).mono ?_
  clear c0z0 c1z0 c2z0 c3z0
  rintro e w5 ⟨rfl, bb⟩
  replace bb := nextw (w0 := w4) (by exact sm) bb
  replace B_z0 := mv B_z0 bb
  replace L1 := Lib.hid (PL.below L1.out bb)
  replace L2 := Lib.hid (PL.below L2.out bb)
  replace L3 := Lib.hid (PL.below L3.out bb)
  replace HB := nx HB bb
  clear bb
  obtain ⟨c0z0, c1z0, c2z0, c3z0⟩ := cells4 B_z0
  have hsz := HB.out.size
  go_wp2_with fail
  refine (AroundN x0 y0 HM.out _ (show w.heap.size ≤ _ from hsz)).mono ?_
  clear c0z0 c1z0 c2z0 c3z0
  rintro e w6 ⟨A4, c4, rfl, L4, bb⟩
  replace bb := nextw (w0 := w5) (by exact sm) bb
  replace B_z0 := mv B_z0 bb
  replace L1 := Lib.hid (PL.below L1.out bb)
  replace L2 := Lib.hid (PL.below L2.out bb)
  replace L3 := Lib.hid (PL.below L3.out bb)
  replace HB := nx HB bb
  clear bb
  clear hsz
  replace L4 := Lib.hid L4
  go_wp2_with fail
  refine (same_cells _ hl2.out _ _ _ _ _ _ HM.out HM.out _ (PL.below L3.out (by exact sm)) (PL.below L4.out (by exact sm))).mono ?_
  rintro e w7 ⟨rfl, bb⟩
  replace bb := nextw (w0 := w6) (by exact sm) bb
  replace B_z0 := mv B_z0 bb
  replace L1 := Lib.hid (PL.below L1.out bb)
  replace L2 := Lib.hid (PL.below L2.out bb)
  replace L3 := Lib.hid (PL.below L3.out bb)
  replace L4 := Lib.hid (PL.below L4.out bb)
  replace HB := nx HB bb
  clear bb
  go_wp2
  go_ret
  exact ⟨rfl, nextw HB.out (by exact sm)⟩

set_option maxRecDepth 100000 in
set_option maxHeartbeats 4000000 in
theorem LCells_no (x0 y0 x1 y1 : Int) (h : ¬ OkQ x0 y0 x0 y0) (w : World) :
    Calls Try.prog 7 #[.agg #[.int .i64 x0, .int .i64 y0, .int .i64 x1, .int .i64 y1]] w fun e w' => e = .returned (.bool true) ∧ Below w.heap.size w w' := by
  have HF := Lib.hid (ceE_1 h)
  have HM : Hid ((ceV x0 y0 x0 y0).length = 0) := by unfold Hid; rw [ceV_nil HF.out (by decide)]; rfl
  clear h
  obtain ⟨N, hN⟩ : ∃ N, (ceV x0 y0 x1 y1).length = N := ⟨_, rfl⟩
  obtain ⟨E, hE⟩ : ∃ E, ceE x0 y0 x1 y1 = E := ⟨_, rfl⟩
  have HN := Lib.hid hN
  have HE := Lib.hid hE
  have hl1 := Lib.hid (Nat.le_trans (ceV_len x0 y0 x1 y1) (show 8192 ≤ 1000000 by decide))
  have hl2 := Lib.hid (Nat.le_trans (ceV_len x0 y0 x0 y0) (show 8192 ≤ 1000000 by decide))
  clear hN hE
  obtain ⟨HB, B_z0⟩ := box1 w 45 #[.int .i64 x0, .int .i64 y0, .int .i64 x1, .int .i64 y1]
  go_enter Try.func7, Try.ntmps7
  go_wp2_with fail
  generalize w.alloc (.cells #[.int .i64 x0, .int .i64 y0, .int .i64 x1, .int .i64 y1] 45) = W0 at *
  go_wp2_with fail
  refine (awake_is _).mono ?_
  rintro e w1 ⟨rfl, bb⟩
  replace bb := nextw (w0 := W0) (by exact sm) bb
  replace B_z0 := mv B_z0 bb
  replace HB := nx HB bb
  clear bb
  have hsz := HB.out.size
  obtain ⟨c0z0, c1z0, c2z0, c3z0⟩ := cells4 B_z0
  go_wp2_with fail
  refine (CellsN x0 y0 x1 y1 HN.out HE.out _ (show w.heap.size ≤ _ from hsz)).mono ?_
  clear c0z0 c1z0 c2z0 c3z0
  rintro e w2 ⟨A1, c1, rfl, L1, bb⟩
  replace bb := nextw (w0 := w1) (by exact sm) bb
  replace B_z0 := mv B_z0 bb
  replace HB := nx HB bb
  clear bb
  clear hsz
  replace L1 := Lib.hid L1
  have hsz := HB.out.size
  obtain ⟨c0z0, c1z0, c2z0, c3z0⟩ := cells4 B_z0
  go_wp2_with fail
  refine (RCellsN x0 y0 x1 y1 HN.out HE.out _ (show w.heap.size ≤ _ from hsz)).mono ?_
  clear c0z0 c1z0 c2z0 c3z0
  rintro e w3 ⟨A2, c2, rfl, L2, bb⟩
  replace bb := nextw (w0 := w2) (by exact sm) bb
  replace B_z0 := mv B_z0 bb
  replace L1 := Lib.hid (PL.below L1.out bb)
  replace HB := nx HB bb
  clear bb
  clear hsz
  replace L2 := Lib.hid L2
  have hsz := HB.out.size
  obtain ⟨c0z0, c1z0, c2z0, c3z0⟩ := cells4 B_z0
  go_wp2_with fail
  refine (CellsN x0 y0 x0 y0 HM.out HF.out _ (show w.heap.size ≤ _ from hsz)).mono ?_
  clear c0z0 c1z0 c2z0 c3z0
  rintro e w4 ⟨A3, c3, rfl, L3, bb⟩
  replace bb := nextw (w0 := w3) (by exact sm) bb
  replace B_z0 := mv B_z0 bb
  replace L1 := Lib.hid (PL.below L1.out bb)
  replace L2 := Lib.hid (PL.below L2.out bb)
  replace HB := nx HB bb
  clear bb
  clear hsz
  replace L3 := Lib.hid L3
  go_upto_region 6 with (fail)
  obtain ⟨c0z0, c1z0, c2z0, c3z0⟩ := cells4 B_z0
  go_wp2_with fail
  refine (same_cells _ hl1.out _ _ _ _ _ _ HN.out HN.out _ (PL.below L1.out (by exact sm)) (PL.below L2.out (by exact sm))).mono ?_
  clear c0z0 c1z0 c2z0 c3z0
  rintro e w5 ⟨rfl, bb⟩
  replace bb := nextw (w0 := w4) (by exact sm) bb
  replace B_z0 := mv B_z0 bb
  replace L1 := Lib.hid (PL.below L1.out bb)
  replace L2 := Lib.hid (PL.below L2.out bb)
  replace L3 := Lib.hid (PL.below L3.out bb)
  replace HB := nx HB bb
  clear bb
  obtain ⟨c0z0, c1z0, c2z0, c3z0⟩ := cells4 B_z0
  have hsz := HB.out.size
  go_wp2_with fail
  refine (AroundN x0 y0 HM.out _ (show w.heap.size ≤ _ from hsz)).mono ?_
  clear c0z0 c1z0 c2z0 c3z0
  rintro e w6 ⟨A4, c4, rfl, L4, bb⟩
  replace bb := nextw (w0 := w5) (by exact sm) bb
  replace B_z0 := mv B_z0 bb
  replace L1 := Lib.hid (PL.below L1.out bb)
  replace L2 := Lib.hid (PL.below L2.out bb)
  replace L3 := Lib.hid (PL.below L3.out bb)
  replace HB := nx HB bb
  clear bb
  clear hsz
  replace L4 := Lib.hid L4
  go_wp2_with fail
  refine (same_cells _ hl2.out _ _ _ _ _ _ HM.out HM.out _ (PL.below L3.out (by exact sm)) (PL.below L4.out (by exact sm))).mono ?_
  rintro e w7 ⟨rfl, bb⟩
  replace bb := nextw (w0 := w6) (by exact sm) bb
  replace B_z0 := mv B_z0 bb
  replace L1 := Lib.hid (PL.below L1.out bb)
  replace L2 := Lib.hid (PL.below L2.out bb)
  replace L3 := Lib.hid (PL.below L3.out bb)
  replace L4 := Lib.hid (PL.below L4.out bb)
  replace HB := nx HB bb
  clear bb
  go_wp2
  go_ret
  exact ⟨rfl, nextw HB.out (by exact sm)⟩

theorem LCells_any (x0 y0 x1 y1 : Int) (w : World) : Calls Try.prog 7 #[.agg #[.int .i64 x0, .int .i64 y0, .int .i64 x1, .int .i64 y1]] w fun e w' => e = .returned (.bool true) ∧ Below w.heap.size w w' := by
  by_cases h : OkQ x0 y0 x0 y0
  · exact LCells_yes x0 y0 x1 y1 h w
  · exact LCells_no x0 y0 x1 y1 h w
end Go.Proofs.Ytkhcogfajihecaa
