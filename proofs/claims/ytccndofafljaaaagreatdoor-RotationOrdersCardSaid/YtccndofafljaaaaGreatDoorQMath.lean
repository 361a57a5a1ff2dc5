/- Whole numbers that make up a fraction, and the rational number that it is. -/
import Derived.Test.YtccndofafljaaaaGreatDoorProg

set_option linter.unusedVariables false
set_option linter.unusedSimpArgs false

namespace Go.Proofs.YtccndofafljaaaaGreatDoor
/-- A fraction's numerator and denominator, the latter above 0. -/
def frN (a b : Int) : Int := if b = 0 then 0 else if b < 0 then -a else a
def frD (_a b : Int) : Int := if b = 0 then 1 else if b < 0 then -b else b
theorem frD_pos (a b : Int) : 0 < frD a b := by unfold frD; repeat' split <;> omega
theorem fr_eq (a b : Int) : Rat.divInt (frN a b) (frD a b) = Rat.divInt a b := by
  unfold frN frD
  split
  · rename_i h; subst h; simp
  · split
    · rw [Rat.neg_divInt_neg]
    · rfl
theorem new_num {a b : Int} (hb : 0 < b) : (Rat.divInt a b).num = a / (Int.gcd a b : Int) := by
  rw [Rat.num_divInt, Int.sign_eq_one_of_pos hb, Int.one_mul, Int.gcd_comm]
theorem new_den {a b : Int} (hb : 0 < b) : ((Rat.divInt a b).den : Int) = b / (Int.gcd a b : Int) := by
  rw [Rat.den_divInt, if_neg (by omega), Int.natCast_ediv, Int.natAbs_of_nonneg (by omega), Int.gcd_comm]
theorem gcd_pos {a b : Int} (hb : 0 < b) : 0 < (Int.gcd a b : Int) := by
  have : Int.gcd a b ≠ 0 := by rw [Ne, Int.gcd_eq_zero_iff]; omega
  omega
theorem gcd_nat (a b : Int) : Int.gcd a b = Nat.gcd a.natAbs b.natAbs := rfl
theorem sub_eq (a b c d : Int) (hb : 0 < b) (hd : 0 < d) : Rat.divInt a b - Rat.divInt c d = Rat.divInt (a * d - c * b) (b * d) := by
  rw [Rat.sub_eq_add_neg, Rat.neg_divInt, Rat.divInt_add_divInt _ _ (by omega) (by omega)]
  congr 1
  rw [Int.neg_mul, Int.sub_eq_add_neg]
theorem le_fr {a b c d : Int} (hb : 0 < b) (hd : 0 < d) : Rat.divInt a b ≤ Rat.divInt c d ↔ a * d ≤ c * b := by
  rw [Rat.le_iff_sub_nonneg, sub_eq _ _ _ _ hd hb, Rat.divInt_nonneg_iff_of_pos_right (Int.mul_pos hd hb)]
  omega
theorem lt_fr {a b c d : Int} (hb : 0 < b) (hd : 0 < d) : Rat.divInt a b < Rat.divInt c d ↔ a * d < c * b := by
  rw [← Rat.not_le, le_fr hd hb]; omega
/-- The comparison of two numbers. -/
def cmpQ (x y : Rat) : Int := if x < y then -1 else if x = y then 0 else 1
theorem cmpQ_range (x y : Rat) : -1 ≤ cmpQ x y ∧ cmpQ x y ≤ 1 := by unfold cmpQ; repeat' split <;> omega
theorem cmpQ_lt {x y : Rat} : cmpQ x y < 0 ↔ x < y := by unfold cmpQ; repeat' split <;> simp_all
theorem cmpQ_gt {x y : Rat} : 0 < cmpQ x y ↔ y < x := by
  unfold cmpQ
  split
  · rename_i h; constructor
    · intro h1; omega
    · intro h1; exact absurd (Rat.le_of_lt h1) (Rat.not_le.2 h)
  · split
    · rename_i h1; subst h1; constructor
      · intro h2; omega
      · intro h2; exact absurd h2 (Rat.not_lt.2 Rat.le_refl)
    · rename_i h1 h2; constructor
      · intro _; exact Rat.lt_of_le_of_ne (Rat.not_lt.1 h1) (fun h => h2 h.symm)
      · intro _; omega
theorem cmpQ_eq {x y : Rat} : cmpQ x y = 0 ↔ x = y := by
  unfold cmpQ
  split
  · rename_i h; constructor
    · intro h1; omega
    · intro h1; subst h1; exact absurd h (Rat.not_lt.2 Rat.le_refl)
  · split <;> simp_all
theorem cmp_fr {a b c d : Int} (hb : 0 < b) (hd : 0 < d) : (if a * d < c * b then -1 else if a * d = c * b then 0 else 1 : Int) = cmpQ (Rat.divInt a b) (Rat.divInt c d) := by
  have h1 := lt_fr (a := a) (c := c) hb hd
  have h2 : Rat.divInt a b = Rat.divInt c d ↔ a * d = c * b := Rat.divInt_eq_divInt_iff (by omega) (by omega)
  unfold cmpQ
  simp only [h1, h2]
theorem cmpQ_swap (x y : Rat) : cmpQ y x = -cmpQ x y := by
  have h1 := cmpQ_range x y
  have h2 := cmpQ_range y x
  have a1 := cmpQ_lt (x := x) (y := y)
  have a2 := cmpQ_gt (x := x) (y := y)
  have b1 := cmpQ_lt (x := y) (y := x)
  have b2 := cmpQ_gt (x := y) (y := x)
  have e1 := a1.trans b2.symm
  have e2 := a2.trans b1.symm
  omega
/-- The sign of a number. -/
def sgnQ (x : Rat) : Int := cmpQ x 0
def sgnI (z : Int) : Int := if z < 0 then -1 else if z = 0 then 0 else 1
theorem sgn_fr (a b : Int) : sgnI a * sgnI b = sgnQ (Rat.divInt a b) := by
  rw [← fr_eq]
  have hd := frD_pos a b
  have h := cmp_fr (a := frN a b) (b := frD a b) (c := 0) (d := 1) hd (by omega)
  rw [Rat.zero_divInt] at h
  unfold sgnQ
  rw [← h, Int.mul_one, Int.zero_mul]
  clear h hd
  unfold frN sgnI
  rcases Int.lt_trichotomy b 0 with h1 | h1 | h1
  · have e1 : (if b < 0 then -1 else if b = 0 then 0 else 1 : Int) = -1 := if_pos h1
    have e2 : (if b = 0 then 0 else if b < 0 then -a else a) = -a := by rw [if_neg (by omega), if_pos h1]
    rw [e1, e2]
    repeat' split
    all_goals first | rfl | omega
  · subst h1; simp
  · have e1 : (if b < 0 then -1 else if b = 0 then 0 else 1 : Int) = 1 := by rw [if_neg (by omega), if_neg (by omega)]
    have e2 : (if b = 0 then 0 else if b < 0 then -a else a) = a := by rw [if_neg (by omega), if_neg (by omega)]
    rw [e1, e2, Int.mul_one]
theorem neg_fr (a b : Int) : Rat.divInt (-a) b = -(Rat.divInt a b) := (Rat.neg_divInt a b).symm
theorem add_fr {a b c d : Int} (hb : 0 < b) (hd : 0 < d) : Rat.divInt (a * d + c * b) (b * d) = Rat.divInt a b + Rat.divInt c d := (Rat.divInt_add_divInt _ _ (by omega) (by omega)).symm
theorem mul_fr (a b c d : Int) : Rat.divInt (a * c) (b * d) = Rat.divInt a b * Rat.divInt c d := (Rat.divInt_mul_divInt a c).symm
theorem div_fr (a b c d : Int) : Rat.divInt a b * Rat.divInt d c = Rat.divInt a b / Rat.divInt c d := by rw [Rat.div_def, Rat.inv_divInt]
theorem floor_fr {a b : Int} (hb : 0 < b) : (Rat.divInt a b).floor = a / b := by
  rw [Rat.floor_def, new_num hb, new_den hb]
  have hg := gcd_pos (a := a) hb
  obtain ⟨x, hx⟩ := Int.gcd_dvd_left (a := a) (b := b)
  obtain ⟨y, hy⟩ := Int.gcd_dvd_right (a := a) (b := b)
  generalize (Int.gcd a b : Int) = g at *
  subst hx hy
  rw [Int.mul_ediv_cancel_left _ (by omega), Int.mul_ediv_cancel_left _ (by omega), Int.mul_ediv_mul_of_pos _ _ hg]
theorem whole_fr {a b : Int} (hb : 0 < b) : a % b = 0 ↔ (Rat.divInt a b).den = 1 := by
  have h := new_den (a := a) hb
  have hg := gcd_pos (a := a) hb
  obtain ⟨y, hy⟩ := Int.gcd_dvd_right (a := a) (b := b)
  constructor
  · intro h1
    have h2 : b ∣ a := Int.dvd_of_emod_eq_zero h1
    have h3 : Int.gcd a b = b.natAbs := Int.gcd_eq_natAbs_right h2
    rw [h3, Int.natAbs_of_nonneg (by omega), Int.ediv_self (by omega)] at h
    omega
  · intro h1
    rw [h1] at h
    have h2 : b = (Int.gcd a b : Int) := by
      have := Int.mul_ediv_cancel_left y (show (Int.gcd a b : Int) ≠ 0 by omega)
      rw [← hy] at this
      rw [this] at h
      rw [hy, ← h]; simp
    exact Int.emod_eq_zero_of_dvd (by rw [h2]; exact Int.gcd_dvd_left (a := a) (b := b))
theorem sgn_ne {x : Rat} : sgnQ x = 0 ↔ x = 0 := cmpQ_eq
theorem cmp_add (x y z : Rat) : cmpQ (x + z) (y + z) = cmpQ x y := by
  unfold cmpQ
  have : x + z = y + z ↔ x = y := ⟨fun h => Rat.add_left_cancel z (by rw [Rat.add_comm z x, Rat.add_comm z y]; exact h), fun h => by rw [h]⟩
  simp only [Rat.add_lt_add_right, this]
theorem cmp_mul (x y z : Rat) : cmpQ (x * z) (y * z) = cmpQ x y * sgnQ z := by
  have key : ∀ {x y z : Rat}, 0 < z → cmpQ (x * z) (y * z) = cmpQ x y := by
    intro x y z hz
    have h0 : z ≠ 0 := fun h => by rw [h] at hz; exact absurd hz (Rat.not_lt.2 Rat.le_refl)
    have : x * z = y * z ↔ x = y := ⟨fun h => by
      have := congrArg (· * z⁻¹) h
      simp only [Rat.mul_assoc, Rat.mul_inv_cancel _ h0, Rat.mul_one] at this
      exact this, fun h => by rw [h]⟩
    unfold cmpQ
    simp only [Rat.mul_lt_mul_right hz, this]
  by_cases h1 : 0 < z
  · rw [key h1, show sgnQ z = 1 from ?_, Int.mul_one]
    have := cmpQ_gt (x := z) (y := 0)
    have := cmpQ_range z 0
    unfold sgnQ; have := this.2; have h2 := (cmpQ_gt (x := z) (y := 0)).2 h1; omega
  · by_cases h2 : z = 0
    · subst h2
      rw [Rat.mul_zero, Rat.mul_zero, show sgnQ 0 = 0 from cmpQ_eq.2 rfl, Int.mul_zero]
      exact cmpQ_eq.2 rfl
    · have h3 : z < 0 := Rat.lt_of_le_of_ne (Rat.not_lt.1 h1) h2
      have h4 : 0 < -z := by have := (Rat.lt_iff_sub_pos z 0).1 h3; rwa [Rat.sub_eq_add_neg, Rat.zero_add] at this
      have h5 : sgnQ z = -1 := by have h6 := (cmpQ_lt (x := z) (y := 0)).2 h3; have := cmpQ_range z 0; unfold sgnQ; omega
      have h7 := key (x := y) (y := x) h4
      rw [Rat.mul_neg, Rat.mul_neg] at h7
      have h8 : cmpQ (-(y * z)) (-(x * z)) = cmpQ (x * z) (y * z) := by
        unfold cmpQ
        have e1 : -(y * z) < -(x * z) ↔ x * z < y * z := by
          rw [Rat.lt_iff_sub_pos, Rat.lt_iff_sub_pos (x * z), Rat.sub_eq_add_neg, Rat.sub_eq_add_neg, Rat.neg_neg, Rat.add_comm]
        have e2 : -(y * z) = -(x * z) ↔ x * z = y * z := ⟨fun h => by have := congrArg (- ·) h; simpa using this.symm, fun h => by rw [h]⟩
        simp only [e1, e2]
      rw [← h8, h7, cmpQ_swap, h5, Int.mul_neg, Int.mul_one]
end Go.Proofs.YtccndofafljaaaaGreatDoor
