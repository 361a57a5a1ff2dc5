/- Numbers and the integers below them. -/
import Derived.Test.YtccndofafljaaaaGreatDoorQMath

set_option linter.unusedVariables false
set_option linter.unusedSimpArgs false

namespace Go.Proofs.YtccndofafljaaaaGreatDoor
theorem divInt_cast (z : Int) : Rat.divInt z 1 = (z : Rat) := by
  have h := Rat.num_divInt_den (z : Rat)
  rw [Rat.num_intCast, Rat.den_intCast] at h
  exact h
theorem floor_of_fr (a b : Int) : frN a b / frD a b = (Rat.divInt a b).floor := by rw [← floor_fr (frD_pos a b), fr_eq]
theorem whole_of_fr (a b : Int) : frN a b % frD a b = 0 ↔ (Rat.divInt a b).den = 1 := by rw [whole_fr (frD_pos a b), fr_eq]
theorem den_one {r : Rat} (h : r.den = 1) : r.floor = r.num := by rw [Rat.floor_def, h]; simp
theorem cmp_floor (r : Rat) : cmpQ (Rat.divInt r.floor 1) r ≤ 0 := by
  by_cases h : 0 < cmpQ (Rat.divInt r.floor 1) r
  · rw [cmpQ_gt, divInt_cast] at h
    exact absurd (Rat.floor_le r) (Rat.not_le.2 h)
  · omega
theorem cmp_floor1 (r : Rat) : cmpQ r (Rat.divInt r.floor 1 + Rat.divInt 1 1) < 0 := by
  rw [cmpQ_lt, divInt_cast, divInt_cast]
  have h := Rat.lt_floor_add_one r
  rw [Rat.intCast_add] at h
  exact h
theorem floor_whole (r : Rat) : cmpQ (Rat.divInt r.floor 1) r = 0 ↔ r.den = 1 := by
  rw [cmpQ_eq, divInt_cast]
  constructor
  · intro h; rw [← h]; exact Rat.den_intCast _
  · intro h; rw [den_one h]
    have := Rat.num_divInt_den r
    rw [h] at this
    exact (divInt_cast r.num).symm.trans this
theorem cmp_whole (r : Rat) : (cmpQ (Rat.divInt r.floor 1) r == 0) = decide (r.den = 1) := by
  rw [Bool.eq_iff_iff, beq_iff_eq, decide_eq_true_iff]; exact floor_whole r
theorem mul_div_cancel (a b : Rat) (h : b ≠ 0) : a * b / b = a := by
  rw [Rat.div_def, Rat.mul_assoc, Rat.mul_inv_cancel _ h, Rat.mul_one]
theorem sgn_nz {r : Rat} (h : r ≠ 0) : (sgnQ r == 0) = false := by rw [beq_eq_false_iff_ne]; intro h1; exact h (sgn_ne.1 h1)
end Go.Proofs.YtccndofafljaaaaGreatDoor
