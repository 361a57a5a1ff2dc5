/- The orders of rational rotations: the arithmetic. -/
import Derived.Test.YtccndofafljaaaaGreatDoorRotPow

set_option linter.unusedVariables false
set_option linter.unusedSimpArgs false

namespace Go.Proofs.YtccndofafljaaaaGreatDoor
theorem cpw_sq (p q : Int) (n : Nat) : (cpw p q n).1 * (cpw p q n).1 + (cpw p q n).2 * (cpw p q n).2 = (p * p + q * q) ^ n := by
  induction n with
  | zero => simp [cpw]
  | succ n ih =>
    rw [Int.pow_succ, ← ih]
    simp only [cpw]
    generalize (cpw p q n).1 = a at *
    generalize (cpw p q n).2 = b at *
    grind
theorem cpw_mod (p q : Int) (n : Nat) : ∃ a b : Int, (cpw p q (n + 1)).2 = 2 ^ n * q ^ n * q + (p * p + q * q) * a ∧ (cpw p q (n + 1)).1 = 2 ^ n * q ^ n * p + (p * p + q * q) * b := by
  induction n with
  | zero => exact ⟨0, 0, by simp [cpw], by simp [cpw]⟩
  | succ n ih =>
    obtain ⟨a, b, h1, h2⟩ := ih
    refine ⟨a * q - b * p - 2 ^ n * q ^ n, b * q + a * p, ?_, ?_⟩
    · show (cpw p q (n + 1)).2 * q - (cpw p q (n + 1)).1 * p = _
      rw [h1, h2, Int.pow_succ, Int.pow_succ]
      generalize (2 : Int) ^ n = x at *
      generalize q ^ n = y at *
      grind
    · show (cpw p q (n + 1)).1 * q + (cpw p q (n + 1)).2 * p = _
      rw [h1, h2, Int.pow_succ, Int.pow_succ]
      generalize (2 : Int) ^ n = x at *
      generalize q ^ n = y at *
      grind
/-- An odd divisor of p^2 + q^2, for coprime p and q, is 1 if a power of q + ip is real. -/
theorem odd_div {p q : Int} (hg : Int.gcd p q = 1) {D : Nat} (hD : (D : Int) ∣ p * p + q * q) (ho : D % 2 = 1) {n : Nat} (hI : (cpw p q (n + 1)).1 = 0) : D = 1 := by
  obtain ⟨a, b, h1, h2⟩ := cpw_mod p q n
  have hs := cpw_sq p q (n + 1)
  rw [hI, Int.mul_zero, Int.zero_add, Int.pow_succ] at hs
  obtain ⟨t, ht⟩ := hD
  have hR : (D : Int) ∣ (cpw p q (n + 1)).2 * (cpw p q (n + 1)).2 := by rw [hs, ht]; exact Int.dvd_trans (Int.dvd_mul_right _ _) (Int.dvd_mul_left _ _)
  have hK : (D : Int) ∣ (2 ^ n * q ^ n * q) * (2 ^ n * q ^ n * q) := by
    obtain ⟨u, hu⟩ := hR
    rw [h1, ht] at hu
    refine ⟨u - t * a * (2 * (2 ^ n * q ^ n * q) + (D : Int) * t * a), ?_⟩
    generalize 2 ^ n * q ^ n * q = z at *
    grind
  have hK2 : D ∣ (2 ^ n * q.natAbs ^ n * q.natAbs) * (2 ^ n * q.natAbs ^ n * q.natAbs) := by
    have := Int.natAbs_dvd_natAbs.2 hK
    simpa [Int.natAbs_mul, Int.natAbs_pow] using this
  have c2 : Nat.Coprime D 2 := by
    show Nat.gcd D 2 = 1
    rw [Nat.gcd_comm, Nat.gcd_rec, ho]; decide
  have cq : Nat.Coprime D q.natAbs := by
    have hd : Nat.gcd D q.natAbs ∣ p.natAbs * p.natAbs := by
      have k1 : ((Nat.gcd D q.natAbs : Nat) : Int) ∣ p * p := by
        have e : p * p = (D : Int) * t - q * q := by rw [← ht]; omega
        rw [e]
        refine Int.dvd_sub (Int.dvd_trans (Int.natCast_dvd_natCast.2 (Nat.gcd_dvd_left _ _)) (Int.dvd_mul_right _ _)) ?_
        exact Int.dvd_trans (Int.dvd_natAbs.1 (Int.natCast_dvd_natCast.2 (Nat.gcd_dvd_right _ _))) (Int.dvd_mul_right _ _)
      have := Int.natAbs_dvd_natAbs.2 k1
      simpa [Int.natAbs_mul] using this
    have hc : Nat.Coprime (Nat.gcd D q.natAbs) (p.natAbs * p.natAbs) := by
      have : Nat.Coprime (Nat.gcd D q.natAbs) p.natAbs := Nat.Coprime.coprime_dvd_left (Nat.gcd_dvd_right _ _) (by rw [Nat.coprime_comm]; exact hg)
      exact Nat.Coprime.mul_right this this
    exact Nat.Coprime.eq_one_of_dvd hc hd
  have cz : Nat.Coprime D (2 ^ n * q.natAbs ^ n * q.natAbs) := (((Nat.Coprime.pow_right n c2).mul_right (Nat.Coprime.pow_right n cq)).mul_right cq)
  exact Nat.Coprime.eq_one_of_dvd (cz.mul_right cz) hK2
/-- A power of a rational rotation that is the identity: the pair is one of four. -/
theorem real_small {p q : Int} (hg : Int.gcd p q = 1) {n : Nat} (hI : (cpw p q (n + 1)).1 = 0) : p = 0 ∨ q = 0 ∨ (p.natAbs = 1 ∧ q.natAbs = 1) := by
  have hpos : 0 ≤ p * p + q * q := Int.add_nonneg (by rcases Int.le_total 0 p with h | h; exact Int.mul_nonneg h h; exact Int.mul_nonneg_of_nonpos_of_nonpos h h) (by rcases Int.le_total 0 q with h | h; exact Int.mul_nonneg h h; exact Int.mul_nonneg_of_nonpos_of_nonpos h h)
  obtain ⟨d, hd⟩ : ∃ d : Nat, (d : Int) = p * p + q * q := ⟨(p * p + q * q).toNat, by omega⟩
  -- d is odd, or twice an odd number
  have par : d % 2 = 1 ∨ (d / 2) % 2 = 1 := by
    have hp := Int.emod_two_eq p
    have hq := Int.emod_two_eq q
    have hn : ¬ (p % 2 = 0 ∧ q % 2 = 0) := by
      intro ⟨a, b⟩
      have : (2 : Int) ∣ (Int.gcd p q : Int) := Int.dvd_coe_gcd (Int.dvd_of_emod_eq_zero a) (Int.dvd_of_emod_eq_zero b)
      rw [hg] at this
      omega
    obtain ⟨u, hu⟩ : ∃ u, p = 2 * u + p % 2 := ⟨p / 2, by omega⟩
    obtain ⟨v, hv⟩ : ∃ v, q = 2 * v + q % 2 := ⟨q / 2, by omega⟩
    rcases hp with a | a <;> rcases hq with b | b
    · exact absurd ⟨a, b⟩ hn
    · rw [a] at hu; rw [b] at hv
      have : (d : Int) = 4 * (u * u + v * v + v) + 1 := by rw [hd, hu, hv]; grind
      omega
    · rw [a] at hu; rw [b] at hv
      have : (d : Int) = 4 * (u * u + v * v + u) + 1 := by rw [hd, hu, hv]; grind
      omega
    · rw [a] at hu; rw [b] at hv
      have : (d : Int) = 4 * (u * u + v * v + u + v) + 2 := by rw [hd, hu, hv]; grind
      omega
  have d2 : d ≤ 2 := by
    rcases par with h | h
    · have := odd_div hg (D := d) (by rw [hd]; exact Int.dvd_refl _) h hI
      omega
    · by_cases h1 : d % 2 = 1
      · have := odd_div hg (D := d) (by rw [hd]; exact Int.dvd_refl _) h1 hI
        omega
      · have := odd_div hg (D := d / 2) (by rw [← hd]; exact Int.natCast_dvd_natCast.2 ⟨2, by omega⟩) h hI
        omega
  have key : ∀ z : Int, z * z ≤ 2 → z.natAbs ≤ 1 := by
    intro z hz
    rcases Nat.lt_or_ge 1 z.natAbs with h | h
    · have h2 : 2 * 2 ≤ z.natAbs * z.natAbs := Nat.mul_le_mul h h
      have h3 : (z * z).natAbs = z.natAbs * z.natAbs := Int.natAbs_mul z z
      have h0 : 0 ≤ z * z := by rcases Int.le_total 0 z with h | h; exact Int.mul_nonneg h h; exact Int.mul_nonneg_of_nonpos_of_nonpos h h
      have h4 := Int.natAbs_of_nonneg h0
      rw [h3] at h4
      generalize z.natAbs * z.natAbs = y at *
      generalize z * z = x at *
      omega
    · exact h
  have sp : 0 ≤ p * p := by rcases Int.le_total 0 p with h | h; exact Int.mul_nonneg h h; exact Int.mul_nonneg_of_nonpos_of_nonpos h h
  have sq : 0 ≤ q * q := by rcases Int.le_total 0 q with h | h; exact Int.mul_nonneg h h; exact Int.mul_nonneg_of_nonpos_of_nonpos h h
  have kp := key p (by omega)
  have kq := key q (by omega)
  omega
theorem cn_gcd (p q : Int) : Int.gcd (cnP p q) (cnQ p q) = 1 := by
  by_cases hq : q = 0
  · subst hq
    by_cases hp : p = 0
    · subst hp; decide +kernel
    · rw [(cn_zero hp).1, (cn_zero hp).2]; decide
  · rw [(cn_rat hq).1, (cn_rat hq).2]
    exact (Rat.divInt p q).reduced
/-- When a canonical pair is the identity. -/
theorem cn_id {x y : Int} (h : ¬ (x = 0 ∧ y = 0)) : (cnP x y = 0 ∧ cnQ x y = 1) ↔ x = 0 := by
  constructor
  · intro ⟨h1, h2⟩
    have e := cn_par x y
    rw [h1, h2, Int.zero_mul, Int.mul_one] at e
    exact e.symm
  · intro hx
    have e := cn_eq h (p' := 0) (q' := 1) (by omega) (by rw [hx, Int.zero_mul, Int.zero_mul])
    rw [e.1, e.2]; exact ⟨by decide +kernel, by decide +kernel⟩
theorem cpw_p0 (n : Nat) : (cpw 0 1 n).1 = 0 := by
  have : (cpw 0 1 n).1 = 0 ∧ (cpw 0 1 n).2 = 1 := by
    induction n with
    | zero => exact ⟨rfl, rfl⟩
    | succ n ih => simp only [cpw, ih.1, ih.2]; exact ⟨by decide, by decide⟩
  exact this.1
theorem cpw_tab : ∀ n : Fin 33, ((cpw 1 0 n.val).1 = 0 ↔ n.val % 2 = 0) ∧ ((cpw 1 1 n.val).1 = 0 ↔ n.val % 4 = 0) ∧ ((cpw (-1) 1 n.val).1 = 0 ↔ n.val % 4 = 0) := by decide +kernel
/-- The order of a rotation. -/
def ordR (p q : Int) : Int := if p = 0 then 1 else if q = 0 then 2 else if p.natAbs = q.natAbs then 4 else 0
theorem ord_all (p q n : Int) (h1 : 1 ≤ n) (h2 : n ≤ 32) : (pwP p q n = 0 ∧ pwQ p q n = 1) ↔ (ordR p q ≠ 0 ∧ n % ordR p q = 0) := by
  have e : (pwP p q n = 0 ∧ pwQ p q n = 1) ↔ (cpw (cnP p q) (cnQ p q) n.toNat).1 = 0 := by
    unfold pwP pwQ
    rw [if_neg (by omega), if_neg (by omega)]
    exact cn_id (cpw_ne (cn_ne _ _) _)
  rw [e]
  have tab := cpw_tab ⟨n.toNat, by omega⟩
  simp only at tab
  unfold ordR
  by_cases hp : p = 0
  · subst hp
    have c : cnP 0 q = 0 ∧ cnQ 0 q = 1 := by
      by_cases hq : q = 0
      · subst hq; exact ⟨by decide +kernel, by decide +kernel⟩
      · exact (cn_id (fun h => hq h.2)).2 rfl
    rw [c.1, c.2, if_pos rfl]
    exact ⟨fun _ => ⟨by omega, by omega⟩, fun _ => cpw_p0 _⟩
  · rw [if_neg hp]
    by_cases hq : q = 0
    · subst hq
      rw [(cn_zero hp).1, (cn_zero hp).2, if_pos rfl, tab.1]
      omega
    · rw [if_neg hq]
      have hne : ¬ (p = 0 ∧ q = 0) := fun h => hp h.1
      by_cases hpq : p.natAbs = q.natAbs
      · rw [if_pos hpq]
        rcases Int.natAbs_eq_natAbs_iff.1 hpq with h | h
        · have c := cn_eq hne (p' := 1) (q' := 1) (by omega) (by omega)
          rw [c.1, c.2, show cnP 1 1 = 1 by decide +kernel, show cnQ 1 1 = 1 by decide +kernel, tab.2.1]
          omega
        · have c := cn_eq hne (p' := -1) (q' := 1) (by omega) (by omega)
          rw [c.1, c.2, show cnP (-1) 1 = -1 by decide +kernel, show cnQ (-1) 1 = 1 by decide +kernel, tab.2.2]
          omega
      · rw [if_neg hpq]
        refine ⟨fun hI => ?_, fun h => absurd rfl h.1⟩
        exfalso
        obtain ⟨m, hm⟩ : ∃ m, n.toNat = m + 1 := ⟨n.toNat - 1, by omega⟩
        rw [hm] at hI
        have par := cn_par p q
        have cne := cn_ne p q
        rw [nz_id hne] at par
        rcases real_small (cn_gcd p q) hI with h | h | h
        · rw [h, Int.zero_mul] at par
          rcases Int.mul_eq_zero.1 par.symm with h3 | h3
          · exact hp h3
          · exact cne ⟨h, h3⟩
        · rw [h, Int.mul_zero] at par
          rcases Int.mul_eq_zero.1 par with h3 | h3
          · exact cne ⟨h3, h⟩
          · exact hq h3
        · have := congrArg Int.natAbs par
          rw [Int.natAbs_mul, Int.natAbs_mul, h.1, h.2] at this
          omega
end Go.Proofs.YtccndofafljaaaaGreatDoor
