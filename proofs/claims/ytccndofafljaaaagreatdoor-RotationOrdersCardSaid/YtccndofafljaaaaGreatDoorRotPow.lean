/- Powers of rotations: the arithmetic. -/
import Derived.Test.YtccndofafljaaaaGreatDoorRotMath

set_option linter.unusedVariables false
set_option linter.unusedSimpArgs false

namespace Go.Proofs.YtccndofafljaaaaGreatDoor
/-- The powers of q + ip. -/
def cpw (p q : Int) : Nat → Int × Int
  | 0 => (0, 1)
  | m + 1 => ((cpw p q m).1 * q + (cpw p q m).2 * p, (cpw p q m).2 * q - (cpw p q m).1 * p)
theorem cpw_add (p q : Int) (m k : Nat) : (cpw p q (m + k)).1 = (cpw p q m).1 * (cpw p q k).2 + (cpw p q m).2 * (cpw p q k).1 ∧ (cpw p q (m + k)).2 = (cpw p q m).2 * (cpw p q k).2 - (cpw p q m).1 * (cpw p q k).1 := by
  induction k with
  | zero => simp [cpw]
  | succ k ih =>
    obtain ⟨h1, h2⟩ := ih
    rw [← Nat.add_assoc]
    simp only [cpw]
    rw [h1, h2]
    generalize (cpw p q m).1 = a at *
    generalize (cpw p q m).2 = b at *
    generalize (cpw p q k).1 = c at *
    generalize (cpw p q k).2 = d at *
    constructor <;> grind
theorem cpw_ne {p q : Int} (h : ¬ (p = 0 ∧ q = 0)) (m : Nat) : ¬ ((cpw p q m).1 = 0 ∧ (cpw p q m).2 = 0) := by
  induction m with
  | zero => simp [cpw]
  | succ m ih =>
    intro ⟨h1, h2⟩
    have a := Int.mul_pos (sq_ne ih) (sq_ne h)
    have e : ((cpw p q m).1 * (cpw p q m).1 + (cpw p q m).2 * (cpw p q m).2) * (p * p + q * q) = (cpw p q (m + 1)).1 * (cpw p q (m + 1)).1 + (cpw p q (m + 1)).2 * (cpw p q (m + 1)).2 := by
      simp only [cpw]
      generalize (cpw p q m).1 = a at *
      generalize (cpw p q m).2 = b at *
      grind
    rw [e, h1, h2] at a
    omega
theorem cpw_pr {p q : Int} (h : ¬ (p = 0 ∧ q = 0)) (m k : Nat) : prP (cpw p q m).1 (cpw p q m).2 (cpw p q k).1 (cpw p q k).2 = (cpw p q (m + k)).1 ∧ prQ (cpw p q m).1 (cpw p q m).2 (cpw p q k).1 (cpw p q k).2 = (cpw p q (m + k)).2 := by
  have e := cpw_add p q m k
  unfold prP prQ
  rw [nz_id (cpw_ne h m), nz_id (cpw_ne h k), e.1, e.2]
  exact ⟨rfl, rfl⟩
theorem cpw_one (p q : Int) : (cpw p q 1).1 = p ∧ (cpw p q 1).2 = q := by simp [cpw]
/-- In the circle: cosine and sine of a power. -/
theorem cs_cpw {p q : Int} (h : ¬ (p = 0 ∧ q = 0)) (m : Nat) : cosQ (cpw p q (m + 1)).1 (cpw p q (m + 1)).2 = cosQ (cpw p q m).1 (cpw p q m).2 * cosQ p q - sinQ (cpw p q m).1 (cpw p q m).2 * sinQ p q ∧ sinQ (cpw p q (m + 1)).1 (cpw p q (m + 1)).2 = sinQ (cpw p q m).1 (cpw p q m).2 * cosQ p q + cosQ (cpw p q m).1 (cpw p q m).2 * sinQ p q := by
  have e := cpw_pr h m 1
  rw [(cpw_one p q).1, (cpw_one p q).2] at e
  rw [← e.1, ← e.2]
  exact cs_pr _ _ _ _
/-- Cosine and sine determine a rotation. -/
theorem cs_inj {p q p' q' : Int} (h : ¬ (p = 0 ∧ q = 0)) (h' : ¬ (p' = 0 ∧ q' = 0)) (e1 : cosQ p q = cosQ p' q') (e2 : sinQ p q = sinQ p' q') : cnP p q = cnP p' q' ∧ cnQ p q = cnQ p' q' := by
  refine cn_eq h h' ?_
  rw [cos_q, cos_q] at e1
  rw [sin_q, sin_q] at e2
  have d1 := cs_den (p := p) (q := q)
  have d2 := cs_den (p := p') (q := q')
  rw [nz_id h] at d1 e1 e2
  rw [nz_id h'] at d2 e1 e2
  apply Rat.intCast_inj.1
  rw [Rat.intCast_mul, Rat.intCast_mul]
  have n1 : ¬ ((p : Rat) = 0 ∧ (q : Rat) = 0) := by
    intro ⟨a, b⟩; exact h ⟨Rat.intCast_inj.1 a, Rat.intCast_inj.1 b⟩
  have n2 : ¬ ((p' : Rat) = 0 ∧ (q' : Rat) = 0) := by
    intro ⟨a, b⟩; exact h' ⟨Rat.intCast_inj.1 a, Rat.intCast_inj.1 b⟩
  clear h h'
  generalize (p : Rat) = a at *
  generalize (q : Rat) = b at *
  generalize (p' : Rat) = c at *
  generalize (q' : Rat) = d at *
  have k1 : (b * b - a * a) * (c * c + d * d) = (d * d - c * c) * (a * a + b * b) := by grind
  have k2 : (a * b + b * a) * (c * c + d * d) = (c * d + d * c) * (a * a + b * b) := by grind
  have k3 : (a * d - c * b) * (a * d - c * b) = 0 ∨ True := Or.inr trivial
  by_cases hb : b = 0
  · subst hb
    have hd : d = 0 := by grind
    subst hd; grind
  · by_cases hd : d = 0
    · grind
    · have : b * (c * c + d * d) * (a * d - c * b) = 0 := by grind
      grind
/-- The powers of a point of the circle. -/
def cc (c s : Rat) : Nat → Rat × Rat
  | 0 => (1, 0)
  | n + 1 => ((cc c s n).1 * c - (cc c s n).2 * s, (cc c s n).2 * c + (cc c s n).1 * s)
theorem cc_one {c s : Rat} (h : c * c + s * s = 1) (n : Nat) : (cc c s n).1 * (cc c s n).1 + (cc c s n).2 * (cc c s n).2 = 1 := by
  induction n with
  | zero => simp only [cc]; grind
  | succ n ih =>
    simp only [cc]
    generalize (cc c s n).1 = a at *
    generalize (cc c s n).2 = b at *
    grind
theorem cc_add (c s : Rat) (m k : Nat) : (cc c s (m + k)).1 = (cc c s m).1 * (cc c s k).1 - (cc c s m).2 * (cc c s k).2 ∧ (cc c s (m + k)).2 = (cc c s m).2 * (cc c s k).1 + (cc c s m).1 * (cc c s k).2 := by
  induction k with
  | zero => simp only [cc, Nat.add_zero]; constructor <;> grind
  | succ k ih =>
    obtain ⟨h1, h2⟩ := ih
    rw [← Nat.add_assoc]
    simp only [cc]
    rw [h1, h2]
    generalize (cc c s m).1 = a at *
    generalize (cc c s m).2 = b at *
    generalize (cc c s k).1 = d at *
    generalize (cc c s k).2 = e at *
    constructor <;> grind
theorem cc_conj (c s : Rat) (n : Nat) : (cc c (-s) n).1 = (cc c s n).1 ∧ (cc c (-s) n).2 = -(cc c s n).2 := by
  induction n with
  | zero => simp only [cc]; constructor <;> grind
  | succ n ih =>
    obtain ⟨h1, h2⟩ := ih
    simp only [cc]
    rw [h1, h2]
    generalize (cc c s n).1 = a at *
    generalize (cc c s n).2 = b at *
    constructor <;> grind
/-- The same for exponents of either sign. -/
def zc (c s : Rat) (n : Int) : Rat × Rat := if n < 0 then ((cc c s (-n).toNat).1, -(cc c s (-n).toNat).2) else cc c s n.toNat
theorem zc_nat (c s : Rat) (n : Nat) : zc c s n = cc c s n := by unfold zc; rw [if_neg (by omega)]; simp
theorem zc_negn (c s : Rat) (n : Nat) : zc c s (-(n : Int)) = ((cc c s n).1, -(cc c s n).2) := by
  unfold zc
  rcases Nat.eq_zero_or_pos n with h | h
  · subst h; simp [cc]
  · rw [if_pos (by omega)]; simp
theorem zc_add {c s : Rat} (h : c * c + s * s = 1) (m n : Int) : (zc c s (m + n)).1 = (zc c s m).1 * (zc c s n).1 - (zc c s m).2 * (zc c s n).2 ∧ (zc c s (m + n)).2 = (zc c s m).2 * (zc c s n).1 + (zc c s m).1 * (zc c s n).2 := by
  -- a difference of two numbers
  have key : ∀ a b : Nat, ((zc c s ((a : Int) - b)).1 = (cc c s a).1 * (cc c s b).1 + (cc c s a).2 * (cc c s b).2) ∧ ((zc c s ((a : Int) - b)).2 = (cc c s a).2 * (cc c s b).1 - (cc c s a).1 * (cc c s b).2) := by
    intro a b
    rcases Nat.le_total b a with hab | hab
    · obtain ⟨d, rfl⟩ := Nat.exists_eq_add_of_le hab
      rw [show ((b + d : Nat) : Int) - b = (d : Nat) by omega, zc_nat, (cc_add c s b d).1, (cc_add c s b d).2]
      have e := cc_one h b
      generalize (cc c s b).1 = x at *
      generalize (cc c s b).2 = y at *
      generalize (cc c s d).1 = u at *
      generalize (cc c s d).2 = v at *
      constructor <;> grind
    · obtain ⟨d, rfl⟩ := Nat.exists_eq_add_of_le hab
      rw [show (a : Int) - ((a + d : Nat) : Int) = -((d : Nat) : Int) by omega, zc_negn, (cc_add c s a d).1, (cc_add c s a d).2]
      have e := cc_one h a
      simp only
      generalize (cc c s a).1 = x at *
      generalize (cc c s a).2 = y at *
      generalize (cc c s d).1 = u at *
      generalize (cc c s d).2 = v at *
      constructor <;> grind
  rcases (show m < 0 ∨ 0 ≤ m by omega) with hm | hm
  · obtain ⟨a, rfl⟩ : ∃ a : Nat, m = -(a : Int) := ⟨(-m).toNat, by omega⟩
    rcases (show n < 0 ∨ 0 ≤ n by omega) with hn | hn
    · obtain ⟨b, rfl⟩ : ∃ b : Nat, n = -(b : Int) := ⟨(-n).toNat, by omega⟩
      rw [show -(a : Int) + -(b : Int) = -((a + b : Nat) : Int) by omega, zc_negn, zc_negn, zc_negn, (cc_add c s a b).1, (cc_add c s a b).2]
      simp only
      constructor <;> grind
    · obtain ⟨b, rfl⟩ : ∃ b : Nat, n = (b : Int) := ⟨n.toNat, by omega⟩
      have k := key b a
      rw [show -(a : Int) + (b : Int) = (b : Int) - a by omega, k.1, k.2, zc_negn, zc_nat]
      simp only
      constructor <;> grind
  · obtain ⟨a, rfl⟩ : ∃ a : Nat, m = (a : Int) := ⟨m.toNat, by omega⟩
    rcases (show n < 0 ∨ 0 ≤ n by omega) with hn | hn
    · obtain ⟨b, rfl⟩ : ∃ b : Nat, n = -(b : Int) := ⟨(-n).toNat, by omega⟩
      have k := key a b
      rw [show (a : Int) + -(b : Int) = (a : Int) - b by omega, k.1, k.2, zc_negn, zc_nat]
      simp only
      constructor <;> grind
    · obtain ⟨b, rfl⟩ : ∃ b : Nat, n = (b : Int) := ⟨n.toNat, by omega⟩
      rw [show (a : Int) + (b : Int) = ((a + b : Nat) : Int) by omega, zc_nat, zc_nat, zc_nat, (cc_add c s a b).1, (cc_add c s a b).2]
      exact ⟨rfl, rfl⟩
theorem cs_pow {p q : Int} (h : ¬ (p = 0 ∧ q = 0)) (n : Nat) : cosQ (cpw p q n).1 (cpw p q n).2 = (cc (cosQ p q) (sinQ p q) n).1 ∧ sinQ (cpw p q n).1 (cpw p q n).2 = (cc (cosQ p q) (sinQ p q) n).2 := by
  induction n with
  | zero => exact ⟨by simp only [cpw, cc]; decide +kernel, by simp only [cpw, cc]; decide +kernel⟩
  | succ n ih =>
    have e := cs_cpw h n
    rw [e.1, e.2, ih.1, ih.2]
    exact ⟨rfl, rfl⟩
/-- The power of a rotation, as a canonical pair. -/
def pwP (p q n : Int) : Int := if n < 0 then cnP (cpw (inP (cnP p q) (cnQ p q)) (inQ (cnP p q) (cnQ p q)) (-n).toNat).1 (cpw (inP (cnP p q) (cnQ p q)) (inQ (cnP p q) (cnQ p q)) (-n).toNat).2 else cnP (cpw (cnP p q) (cnQ p q) n.toNat).1 (cpw (cnP p q) (cnQ p q) n.toNat).2
def pwQ (p q n : Int) : Int := if n < 0 then cnQ (cpw (inP (cnP p q) (cnQ p q)) (inQ (cnP p q) (cnQ p q)) (-n).toNat).1 (cpw (inP (cnP p q) (cnQ p q)) (inQ (cnP p q) (cnQ p q)) (-n).toNat).2 else cnQ (cpw (cnP p q) (cnQ p q) n.toNat).1 (cpw (cnP p q) (cnQ p q) n.toNat).2
/-- A power is canonical, and not 0. -/
theorem pw_form (p q n : Int) : ∃ x y, ¬ (x = 0 ∧ y = 0) ∧ pwP p q n = cnP x y ∧ pwQ p q n = cnQ x y := by
  unfold pwP pwQ
  split
  · exact ⟨_, _, cpw_ne (cn_ne _ _) _, rfl, rfl⟩
  · exact ⟨_, _, cpw_ne (cn_ne _ _) _, rfl, rfl⟩
theorem cs_pw (p q n : Int) : cosQ (pwP p q n) (pwQ p q n) = (zc (cosQ p q) (sinQ p q) n).1 ∧ sinQ (pwP p q n) (pwQ p q n) = (zc (cosQ p q) (sinQ p q) n).2 := by
  unfold pwP pwQ zc
  by_cases h : n < 0
  · simp only [if_pos h]
    have hi : ¬ (inP (cnP p q) (cnQ p q) = 0 ∧ inQ (cnP p q) (cnQ p q) = 0) := cn_ne _ _
    rw [(cs_cn _ _).1, (cs_cn _ _).2, (cs_pow hi _).1, (cs_pow hi _).2]
    have e1 := cs_in (cnP p q) (cnQ p q)
    have e2 := cs_cn p q
    change (cc (cosQ (inP (cnP p q) (cnQ p q)) (inQ (cnP p q) (cnQ p q))) (sinQ (inP (cnP p q) (cnQ p q)) (inQ (cnP p q) (cnQ p q))) (-n).toNat).1 = _ ∧ (cc (cosQ (inP (cnP p q) (cnQ p q)) (inQ (cnP p q) (cnQ p q))) (sinQ (inP (cnP p q) (cnQ p q)) (inQ (cnP p q) (cnQ p q))) (-n).toNat).2 = _
    rw [e1.1, e1.2, e2.1, e2.2, (cc_conj _ _ _).1, (cc_conj _ _ _).2]
    exact ⟨rfl, rfl⟩
  · simp only [if_neg h]
    rw [(cs_cn _ _).1, (cs_cn _ _).2, (cs_pow (cn_ne _ _) _).1, (cs_pow (cn_ne _ _) _).2, (cs_cn p q).1, (cs_cn p q).2]
    exact ⟨rfl, rfl⟩
/-- Canonical pairs with the same cosine and sine are the same. -/
theorem cn_same {x y p q : Int} (h : ¬ (x = 0 ∧ y = 0)) (g : ¬ (p = 0 ∧ q = 0)) (e1 : cosQ (cnP x y) (cnQ x y) = cosQ (cnP p q) (cnQ p q)) (e2 : sinQ (cnP x y) (cnQ x y) = sinQ (cnP p q) (cnQ p q)) : cnP x y = cnP p q ∧ cnQ x y = cnQ p q := by
  rw [(cs_cn _ _).1, (cs_cn _ _).1] at e1
  rw [(cs_cn _ _).2, (cs_cn _ _).2] at e2
  exact cs_inj h g e1 e2
theorem pw_add (p q m n : Int) : thP (pwP p q m) (pwQ p q m) (pwP p q n) (pwQ p q n) = pwP p q (m + n) ∧ thQ (pwP p q m) (pwQ p q m) (pwP p q n) (pwQ p q n) = pwQ p q (m + n) := by
  have a := cs_th (pwP p q m) (pwQ p q m) (pwP p q n) (pwQ p q n)
  have b := cs_pw p q (m + n)
  rw [(cs_pw p q m).1, (cs_pw p q m).2, (cs_pw p q n).1, (cs_pw p q n).2] at a
  have z := zc_add (cs_one p q) m n
  obtain ⟨x, y, hne, e1, e2⟩ := pw_form p q (m + n)
  rw [e1, e2] at b ⊢
  refine cn_same (pr_ne _ _ _ _) hne ?_ ?_
  · exact a.1.trans (z.1.symm.trans b.1.symm)
  · exact a.2.trans (z.2.symm.trans b.2.symm)
theorem pw_inv (p q m : Int) : pwP (inP p q) (inQ p q) (-m) = pwP p q m ∧ pwQ (inP p q) (inQ p q) (-m) = pwQ p q m := by
  have a := cs_pw (inP p q) (inQ p q) (-m)
  have b := cs_pw p q m
  rw [(cs_in p q).1, (cs_in p q).2] at a
  have e : zc (cosQ p q) (-sinQ p q) (-m) = zc (cosQ p q) (sinQ p q) m := by
    rcases (show m < 0 ∨ 0 ≤ m by omega) with h | h
    · obtain ⟨k, rfl⟩ : ∃ k : Nat, m = -(k : Int) := ⟨(-m).toNat, by omega⟩
      rw [Int.neg_neg, zc_nat, zc_negn]
      exact Prod.ext (cc_conj _ _ _).1 (cc_conj _ _ _).2
    · obtain ⟨k, rfl⟩ : ∃ k : Nat, m = (k : Int) := ⟨m.toNat, by omega⟩
      rw [zc_nat, zc_negn]
      exact Prod.ext (cc_conj _ _ _).1 (by simp only; rw [(cc_conj _ _ _).2, Rat.neg_neg])
  rw [e] at a
  obtain ⟨x, y, hne, e1, e2⟩ := pw_form (inP p q) (inQ p q) (-m)
  obtain ⟨x', y', hne', e1', e2'⟩ := pw_form p q m
  rw [e1, e2] at a ⊢
  rw [e1', e2'] at b ⊢
  exact cn_same hne hne' (a.1.trans b.1.symm) (a.2.trans b.2.symm)
end Go.Proofs.YtccndofafljaaaaGreatDoor
