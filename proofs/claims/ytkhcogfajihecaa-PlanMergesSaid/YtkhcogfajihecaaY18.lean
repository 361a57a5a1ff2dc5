/- awake is true. -/
import Derived.Test.YtkhcogfajihecaaY17
set_option linter.unusedVariables false
set_option linter.unusedSimpArgs false
namespace Go.Proofs.Ytkhcogfajihecaa
open Go Go.RowKit Hd

theorem New_c (w : World) : Calls Try.prog 15 #[.int .i64 2, .int .i64 1, .int .u8 2] w fun e w' => ∃ A c, e = .returned (.tuple #[.agg #[.int .i64 2, .int .i64 1, .slice A 2 c], .int .i64 0]) ∧ KB w' w.heap.size w'.heap.size A 2 c [2, 2] ∧ Below w.heap.size w w' := by
  have h := New_is 2 1 2 (by decide) w
  rw [show newX 2 1 2 2 = 2 by decide, show newX 2 1 2 1 = 1 by decide, show newE 2 1 2 = 0 by decide, show newL 2 1 2 = [2, 2] by decide] at h
  exact h
theorem Traced_c (w : World) : Calls Try.prog 41 #[.agg #[.int .i64 32, .int .i64 32], .agg #[.int .i64 1, .int .i64 0, .int .i64 1], .int .i64 0, .int .i64 32] w fun e w' => ∃ A c, e = .returned (.tuple #[.slice A 2 c, .int .i64 0]) ∧ PL w' w.heap.size w'.heap.size A 2 c [(0, 0), (1, 0)] ∧ Below w.heap.size w w' := by
  have h := Traced_is 32 32 1 0 1 0 32 w
  rw [show swE 32 32 32 32 1 0 1 0 32 = 0 by decide, show swV 32 32 32 32 1 0 1 0 32 = [(0, 0), (1, 0)] by decide] at h
  exact h
theorem Text_c (A : Option Addr) (c : Nat) (w : World) {lo hi : Nat} (L : KB w lo hi A 2 c [2, 2]) : Calls Try.prog 17 #[.agg #[.int .i64 2, .int .i64 1, .slice A 2 c]] w fun e w' => e = .returned (.string ⟨#[35, 35, 10]⟩) ∧ Below w.heap.size w w' := by
  have h := Text_is 2 1 A 2 c [2, 2] (by decide) w L
  rw [show txtV 2 1 [2, 2] = [35, 35, 10] by decide] at h
  exact h
theorem pl_22 {w : World} {x : Nat} (h : Hid (Bx w x 37 #[.int .i64 0, .int .i64 0, .int .i64 1, .int .i64 0])) {lo : Nat} (hlo : lo ≤ x) : PL w lo w.heap.size (some ⟨x, 0, none⟩) 2 2 [(0, 0), (1, 0)] :=
  ⟨rfl, Nat.le_refl _, Nat.le_refl _, fun _ => ⟨x, 0, rfl, ⟨hlo, h.out.lt⟩, fun i hi => by
    match i, hi with
    | 0, _ => exact ⟨h.out.cell 0 rfl, h.out.cell 1 rfl⟩
    | 1, _ => exact ⟨h.out.cell 2 rfl, h.out.cell 3 rfl⟩⟩⟩
theorem Cells_c (A A2 : Option Addr) (c c2 : Nat) (w : World) {lo hi lo2 hi2 : Nat} (L : PL w lo hi A 2 c [(0, 0), (1, 0)]) (L2 : PL w lo2 hi2 A2 2 c2 [(0, 0), (1, 0)]) : Calls Try.prog 36 #[.slice A 2 c, .slice A2 2 c2] w fun e w' => e = .returned (.bool true) ∧ Below w.heap.size w w' := by
  have h := BCells_is A 2 c [(0, 0), (1, 0)] A2 2 c2 [(0, 0), (1, 0)] (by decide) (by decide) w L L2
  rw [decide_eq_true rfl] at h
  exact h

set_option maxRecDepth 100000 in
set_option maxHeartbeats 4000000 in
theorem awake_is  (w : World) :
    Calls Try.prog 13 #[] w fun e w' => e = .returned (.bool true) ∧ Below w.heap.size w w' := by
  have HB := Lib.hid (Below.refl w.heap.size w)
  go_enter Try.func13, Try.ntmps13
  skip
  go_wp2_with fail
  refine (New_c _).mono ?_
  rintro e w1 ⟨A1, c1, rfl, L1, bb⟩
  replace bb := nextw (w0 := w) (by exact sm) bb
  replace HB := nx HB bb
  clear bb
  replace L1 := Lib.hid L1
  obtain ⟨bb, B_z1⟩ := box1 w1 24 #[.int .i64 2, .int .i64 1, .slice A1 2 c1]
  replace bb := bb.out
  replace L1 := Lib.hid (KB.below L1.out bb)
  replace HB := nx HB bb
  clear bb
  go_upto_region 2 with (fail)
  generalize w1.alloc (.cells #[.int .i64 2, .int .i64 1, .slice A1 2 c1] 24) = WA at *
  go_wp2_with fail
  refine (Traced_c _).mono ?_
  rintro e w2 ⟨A2, c2, rfl, L2, bb⟩
  replace bb := nextw (w0 := WA) (by exact sm) bb
  replace B_z1 := mv B_z1 bb
  replace L1 := Lib.hid (KB.below L1.out bb)
  replace HB := nx HB bb
  clear bb
  replace L2 := Lib.hid L2
  go_upto_region 3 with (fail)
  obtain ⟨c0z1, c1z1, c2z1⟩ := cells3 B_z1
  go_wp2_with fail
  refine (Text_c A1 c1 _ (KB.below L1.out (by exact sm))).mono ?_
  clear c0z1 c1z1 c2z1
  rintro e w3 ⟨rfl, bb⟩
  replace bb := nextw (w0 := w2) (by exact sm) bb
  replace B_z1 := mv B_z1 bb
  replace L1 := Lib.hid (KB.below L1.out bb)
  replace L2 := Lib.hid (PL.below L2.out bb)
  replace HB := nx HB bb
  clear bb
  have lt_z2z1 := B_z1.out.lt
  obtain ⟨bb, B_z2⟩ := box1 w3 37 #[.int .i64 0, .int .i64 0, .int .i64 1, .int .i64 0]
  replace bb := bb.out
  replace B_z1 := mv B_z1 bb
  replace L1 := Lib.hid (KB.below L1.out bb)
  replace L2 := Lib.hid (PL.below L2.out bb)
  replace HB := nx HB bb
  clear bb
  go_wp2_with fail
  generalize w3.alloc (.cells #[.int .i64 0, .int .i64 0, .int .i64 1, .int .i64 0] 37) = WC at *
  have L3 := Lib.hid (pl_22 B_z2 (Nat.le_refl _))
  refine (Cells_c _ _ _ _ _ (PL.below L2.out (by exact sm)) (PL.below L3.out (by exact sm))).mono ?_
  rintro e w4 ⟨rfl, bb⟩
  replace bb := nextw (w0 := WC) (by exact sm) bb
  replace B_z1 := mv B_z1 bb
  replace B_z2 := mv B_z2 bb
  replace L1 := Lib.hid (KB.below L1.out bb)
  replace L2 := Lib.hid (PL.below L2.out bb)
  replace HB := nx HB bb
  clear bb
  go_wp2
  go_ret
  exact ⟨rfl, nextw HB.out (by exact sm)⟩
end Go.Proofs.Ytkhcogfajihecaa
