/- integer.Text and Parse by value. -/
import Derived.Test.YtccndofafljaaaaGreatDoorParse

set_option linter.unusedVariables false
set_option linter.unusedSimpArgs false

namespace Go.Proofs.YtccndofafljaaaaGreatDoor
open Go Go.RowKit Num Go.Lib

theorem Text_rd {v1 : Value} {z1 : Int} {n1 : Nat} {w : World} (h1 : Rd w v1 z1 n1) (f1 : n1 ≤ 50000) (htab : Tab10 w) :
    Calls Tryz.prog 59 #[v1] w fun e w' => e = .returned (.string ⟨(zText z1).toArray⟩) ∧ Below w.heap.size w w' := by
  obtain ⟨s, m, l, rfl, hu, rfl, hl⟩ := h1
  have ha := ival_abs s l
  by_cases h0 : val l = 0
  · refine (Text_zero s m l w hu h0).mono fun e w' ⟨he, hb⟩ => ⟨?_, hb⟩
    have hz : ival s l = 0 := by omega
    rw [he, hz]
    unfold zText
    rw [Int.natAbs_zero, decDigits]; rfl
  · refine (Text_more s m l w hu h0 (Nat.le_trans (length_val_le hu.lt) (by omega)) htab).mono fun e w' ⟨he, hb⟩ => ⟨?_, hb⟩
    have hs : decide (ival s l < 0) = s := by
      unfold ival
      cases s
      · simp
      · simp; omega
    rw [he]
    unfold zText
    rw [hs, ha]
theorem Text_text {v1 : Value} {z1 : Int} {n1 : Nat} {w : World} (h1 : Rd w v1 z1 n1) (f1 : n1 ≤ 50000) (htab : Tab10 w) {s : ByteArray} (hs : s = ⟨(zText z1).toArray⟩) :
    Calls Tryz.prog 59 #[v1] w fun e w' => e = .returned (.string s) ∧ Below w.heap.size w w' := by
  subst hs
  exact Text_rd h1 f1 htab
end Go.Proofs.YtccndofafljaaaaGreatDoor
