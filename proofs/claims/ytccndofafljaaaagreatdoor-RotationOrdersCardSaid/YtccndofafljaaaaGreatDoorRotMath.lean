/- Rotations as pairs of whole numbers: canonical pairs, products, inverses, cosine and sine. -/
import Derived.Test.YtccndofafljaaaaGreatDoorProg

set_option linter.unusedVariables false
set_option linter.unusedSimpArgs false

namespace Go.Proofs.YtccndofafljaaaaGreatDoor
def nzQ (p q : Int) : Int := if p = 0 ∧ q = 0 then 1 else q
/-- The divisor that makes a pair canonical. -/
def dvR (p q : Int) : Int := if q < 0 ∨ q = 0 ∧ p < 0 then -(Int.gcd p q : Int) else (Int.gcd p q : Int)
def cnP (p q : Int) : Int := p / dvR p (nzQ p q)
def cnQ (p q : Int) : Int := nzQ p q / dvR p (nzQ p q)
theorem nz_ne (p q : Int) : ¬ (p = 0 ∧ nzQ p q = 0) := by unfold nzQ; split <;> omega
theorem nz_id {p q : Int} (h : ¬ (p = 0 ∧ q = 0)) : nzQ p q = q := by unfold nzQ; rw [if_neg h]
theorem nz_nz (p q : Int) : nzQ p (nzQ p q) = nzQ p q := nz_id (nz_ne p q)
theorem gcd_ne {p q : Int} (h : ¬ (p = 0 ∧ q = 0)) : (Int.gcd p q : Int) ≠ 0 := by
  have : Int.gcd p q ≠ 0 := by rw [Ne, Int.gcd_eq_zero_iff]; exact h
  omega
theorem dv_ne {p q : Int} (h : ¬ (p = 0 ∧ q = 0)) : dvR p q ≠ 0 := by
  have := gcd_ne h
  unfold dvR; split <;> omega
theorem dv_dvd (p q : Int) : dvR p q ∣ p ∧ dvR p q ∣ q := by
  unfold dvR; split
  · exact ⟨Int.neg_dvd.2 (Int.gcd_dvd_left ..), Int.neg_dvd.2 (Int.gcd_dvd_right ..)⟩
  · exact ⟨Int.gcd_dvd_left .., Int.gcd_dvd_right ..⟩
/-- The canonical pair is parallel to the pair, and not 0. -/
theorem cn_mul (p q : Int) : cnP p q * dvR p (nzQ p q) = p ∧ cnQ p q * dvR p (nzQ p q) = nzQ p q := by
  have h := dv_dvd p (nzQ p q)
  exact ⟨Int.ediv_mul_cancel h.1, Int.ediv_mul_cancel h.2⟩
theorem cn_ne (p q : Int) : ¬ (cnP p q = 0 ∧ cnQ p q = 0) := by
  intro ⟨h1, h2⟩
  have h := cn_mul p q
  rw [h1, h2] at h
  exact nz_ne p q ⟨by rw [← h.1, Int.zero_mul], by rw [← h.2, Int.zero_mul]⟩
theorem cn_par (p q : Int) : cnP p q * nzQ p q = p * cnQ p q := by
  have h := cn_mul p q
  generalize dvR p (nzQ p q) = d at *
  generalize nzQ p q = z at *
  generalize cnP p q = a at *
  generalize cnQ p q = b at *
  grind
theorem cn_zero {p : Int} (h : p ≠ 0) : cnP p 0 = 1 ∧ cnQ p 0 = 0 := by
  unfold cnP cnQ
  rw [nz_id (by omega)]
  unfold dvR
  rw [Int.gcd_zero_right]
  refine ⟨?_, Int.zero_ediv _⟩
  split
  · rw [show -(p.natAbs : Int) = p by omega]; exact Int.ediv_self h
  · rw [show (p.natAbs : Int) = p by omega]; exact Int.ediv_self h
theorem cn_rat {p q : Int} (h : q ≠ 0) : cnP p q = (Rat.divInt p q).num ∧ cnQ p q = ((Rat.divInt p q).den : Int) := by
  unfold cnP cnQ
  rw [nz_id (by omega), Rat.num_divInt, Rat.den_divInt, if_neg h]
  unfold dvR
  rw [Int.natCast_ediv, Int.gcd_comm q p]
  have hg := Int.gcd_dvd_left (a := p) (b := q)
  have hg2 := Int.gcd_dvd_right (a := p) (b := q)
  rcases Int.lt_trichotomy q 0 with h1 | h1 | h1
  · rw [if_pos (Or.inl h1), Int.sign_eq_neg_one_of_neg h1, Int.ediv_neg, Int.ediv_neg, Int.neg_mul, Int.one_mul]
    rw [Int.neg_ediv_of_dvd hg, show (q.natAbs : Int) = -q by omega, Int.neg_ediv_of_dvd hg2]
    exact ⟨rfl, rfl⟩
  · exact absurd h1 h
  · rw [if_neg (by omega), Int.sign_eq_one_of_pos h1, Int.one_mul, Int.natAbs_of_nonneg (by omega)]
    exact ⟨rfl, rfl⟩
/-- Parallel pairs have the same canonical pair. -/
theorem cn_eq {p q p' q' : Int} (h : ¬ (p = 0 ∧ q = 0)) (h' : ¬ (p' = 0 ∧ q' = 0)) (e : p * q' = p' * q) : cnP p q = cnP p' q' ∧ cnQ p q = cnQ p' q' := by
  by_cases hq : q = 0
  · subst hq
    have hp : p ≠ 0 := fun h1 => h ⟨h1, rfl⟩
    have hq' : q' = 0 := by
      rw [Int.mul_zero] at e
      rcases Int.mul_eq_zero.1 e with h1 | h1
      · exact absurd h1 hp
      · exact h1
    subst hq'
    have h1 := cn_zero hp
    have h2 := cn_zero (show p' ≠ 0 from fun h1 => h' ⟨h1, rfl⟩)
    rw [h1.1, h1.2, h2.1, h2.2]; exact ⟨rfl, rfl⟩
  · have hq' : q' ≠ 0 := by
      intro h1; subst h1
      rw [Int.mul_zero] at e
      rcases Int.mul_eq_zero.1 e.symm with h1 | h1
      · exact h' ⟨h1, rfl⟩
      · exact hq h1
    have h1 := cn_rat (p := p) hq
    have h2 := cn_rat (p := p') hq'
    rw [h1.1, h1.2, h2.1, h2.2, (Rat.divInt_eq_divInt_iff hq hq').2 e]; exact ⟨rfl, rfl⟩
theorem cn_conv {p q p' q' : Int} (h : ¬ (p = 0 ∧ q = 0)) (h' : ¬ (p' = 0 ∧ q' = 0)) (e1 : cnP p q = cnP p' q') (e2 : cnQ p q = cnQ p' q') : p * q' = p' * q := by
  have a := cn_par p q
  have b := cn_par p' q'
  have c := cn_ne p q
  rw [nz_id h] at a
  rw [nz_id h'] at b
  rw [← e1, ← e2] at b
  generalize cnP p q = x at *
  generalize cnQ p q = y at *
  by_cases hy : y = 0
  · subst hy
    have : x ≠ 0 := fun h1 => c ⟨h1, rfl⟩
    have : q = 0 := by have h1 : x * q = 0 := by omega
                       rcases Int.mul_eq_zero.1 h1 with h2 | h2 <;> omega
    have : q' = 0 := by have h1 : x * q' = 0 := by omega
                        rcases Int.mul_eq_zero.1 h1 with h2 | h2 <;> omega
    rw [‹q = 0›, ‹q' = 0›, Int.mul_zero, Int.mul_zero]
  · have : y * (p * q' - p' * q) = 0 := by grind
    rcases Int.mul_eq_zero.1 this with h1 | h1
    · exact absurd h1 hy
    · omega
/-- The product of two rotations. -/
def prP (p q p' q' : Int) : Int := p * nzQ p' q' + nzQ p q * p'
def prQ (p q p' q' : Int) : Int := nzQ p q * nzQ p' q' - p * p'
theorem sq_pos {p : Int} (h : p ≠ 0) : 0 < p * p := by
  rcases Int.lt_or_gt_of_ne h with h1 | h1
  · exact Int.mul_pos_of_neg_of_neg h1 h1
  · exact Int.mul_pos h1 h1
theorem sq_ne {p q : Int} (h : ¬ (p = 0 ∧ q = 0)) : 0 < p * p + q * q := by
  by_cases h1 : p = 0
  · have h2 := sq_pos (show q ≠ 0 from fun e => h ⟨h1, e⟩)
    subst h1; omega
  · have h2 := sq_pos h1
    by_cases h3 : q = 0
    · subst h3; omega
    · have h4 := sq_pos h3; omega
theorem pr_sq (p q p' q' : Int) : prP p q p' q' * prP p q p' q' + prQ p q p' q' * prQ p q p' q' = (p * p + nzQ p q * nzQ p q) * (p' * p' + nzQ p' q' * nzQ p' q') := by
  unfold prP prQ; grind
theorem pr_ne (p q p' q' : Int) : ¬ (prP p q p' q' = 0 ∧ prQ p q p' q' = 0) := by
  intro ⟨h1, h2⟩
  have h := pr_sq p q p' q'
  rw [h1, h2] at h
  have a := sq_ne (nz_ne p q)
  have b := sq_ne (nz_ne p' q')
  have := Int.mul_pos a b
  omega
theorem pr_comm (p q p' q' : Int) : prP p q p' q' = prP p' q' p q ∧ prQ p q p' q' = prQ p' q' p q := by
  unfold prP prQ; constructor <;> grind
/-- The canonical product, as a rotation followed by another one. -/
def thP (p q p' q' : Int) : Int := cnP (prP p q p' q') (prQ p q p' q')
def thQ (p q p' q' : Int) : Int := cnQ (prP p q p' q') (prQ p q p' q')
theorem th_comm (p q p' q' : Int) : thP p q p' q' = thP p' q' p q ∧ thQ p q p' q' = thQ p' q' p q := by
  unfold thP thQ; rw [(pr_comm p q p' q').1, (pr_comm p q p' q').2]; exact ⟨rfl, rfl⟩
/-- A factor may be replaced by a parallel one. -/
theorem th_cong {a b a' b' p q : Int} (h : ¬ (a = 0 ∧ b = 0)) (h' : ¬ (a' = 0 ∧ b' = 0)) (e : a * b' = a' * b) : thP a b p q = thP a' b' p q ∧ thQ a b p q = thQ a' b' p q := by
  unfold thP thQ
  refine cn_eq (pr_ne _ _ _ _) (pr_ne _ _ _ _) ?_
  unfold prP prQ
  rw [nz_id h, nz_id h']
  grind
theorem th_cn {a b p q : Int} : thP (cnP a b) (cnQ a b) p q = thP a (nzQ a b) p q ∧ thQ (cnP a b) (cnQ a b) p q = thQ a (nzQ a b) p q :=
  th_cong (cn_ne a b) (nz_ne a b) (cn_par a b)
theorem th_nz (a b p q : Int) : thP a (nzQ a b) p q = thP a b p q ∧ thQ a (nzQ a b) p q = thQ a b p q := by
  unfold thP thQ prP prQ; rw [nz_nz]; exact ⟨rfl, rfl⟩
theorem th_assoc (a b p q x y : Int) : thP (thP a b p q) (thQ a b p q) x y = thP a b (thP p q x y) (thQ p q x y) ∧ thQ (thP a b p q) (thQ a b p q) x y = thQ a b (thP p q x y) (thQ p q x y) := by
  have h1 := th_cn (a := prP a b p q) (b := prQ a b p q) (p := x) (q := y)
  have h2 := th_cn (a := prP p q x y) (b := prQ p q x y) (p := a) (q := b)
  have n1 := pr_ne a b p q
  have n2 := pr_ne p q x y
  rw [nz_id n1] at h1
  rw [nz_id n2] at h2
  change thP (thP a b p q) (thQ a b p q) x y = _ ∧ thQ (thP a b p q) (thQ a b p q) x y = _ at h1
  change thP (thP p q x y) (thQ p q x y) a b = _ ∧ thQ (thP p q x y) (thQ p q x y) a b = _ at h2
  rw [h1.1, h1.2, (th_comm a b _ _).1, (th_comm a b _ _).2, h2.1, h2.2]
  have e : prP (prP a b p q) (prQ a b p q) x y = prP (prP p q x y) (prQ p q x y) a b ∧ prQ (prP a b p q) (prQ a b p q) x y = prQ (prP p q x y) (prQ p q x y) a b := by
    have e1 : ∀ z w, prP (prP a b p q) (prQ a b p q) z w = prP a b p q * nzQ z w + prQ a b p q * z := by intro z w; rw [show prP (prP a b p q) (prQ a b p q) z w = prP a b p q * nzQ z w + nzQ (prP a b p q) (prQ a b p q) * z from rfl, nz_id n1]
    have e2 : ∀ z w, prQ (prP a b p q) (prQ a b p q) z w = prQ a b p q * nzQ z w - prP a b p q * z := by intro z w; rw [show prQ (prP a b p q) (prQ a b p q) z w = nzQ (prP a b p q) (prQ a b p q) * nzQ z w - prP a b p q * z from rfl, nz_id n1]
    have e3 : ∀ z w, prP (prP p q x y) (prQ p q x y) z w = prP p q x y * nzQ z w + prQ p q x y * z := by intro z w; rw [show prP (prP p q x y) (prQ p q x y) z w = prP p q x y * nzQ z w + nzQ (prP p q x y) (prQ p q x y) * z from rfl, nz_id n2]
    have e4 : ∀ z w, prQ (prP p q x y) (prQ p q x y) z w = prQ p q x y * nzQ z w - prP p q x y * z := by intro z w; rw [show prQ (prP p q x y) (prQ p q x y) z w = nzQ (prP p q x y) (prQ p q x y) * nzQ z w - prP p q x y * z from rfl, nz_id n2]
    rw [e1, e2, e3, e4]
    unfold prP prQ
    constructor <;> grind
  unfold thP thQ
  rw [e.1, e.2]; exact ⟨rfl, rfl⟩
/-- The cosine and the sine of a rotation. -/
def cosQ (p q : Int) : Rat := Rat.divInt (nzQ p q * nzQ p q - p * p) (p * p + nzQ p q * nzQ p q)
def sinQ (p q : Int) : Rat := Rat.divInt (p * nzQ p q + nzQ p q * p) (p * p + nzQ p q * nzQ p q)
theorem divInt_q (a b : Int) : Rat.divInt a b = (a : Rat) / (b : Rat) := Rat.divInt_eq_div a b
theorem cs_den {p q : Int} : (p : Rat) * p + (nzQ p q : Rat) * (nzQ p q : Rat) ≠ 0 := by
  have h := sq_ne (nz_ne p q)
  intro h1
  have h2 : ((p * p + nzQ p q * nzQ p q : Int) : Rat) = ((0 : Int) : Rat) := by rw [Rat.intCast_add, Rat.intCast_mul, Rat.intCast_mul]; exact h1
  have h3 := Rat.intCast_inj.1 h2
  omega
theorem cos_q (p q : Int) : cosQ p q = ((nzQ p q : Rat) * (nzQ p q : Rat) - p * p) / ((p : Rat) * p + (nzQ p q : Rat) * (nzQ p q : Rat)) := by
  unfold cosQ; rw [divInt_q, Rat.intCast_sub, Rat.intCast_add, Rat.intCast_mul, Rat.intCast_mul]
theorem sin_q (p q : Int) : sinQ p q = ((p : Rat) * (nzQ p q : Rat) + (nzQ p q : Rat) * p) / ((p : Rat) * p + (nzQ p q : Rat) * (nzQ p q : Rat)) := by
  unfold sinQ; rw [divInt_q, Rat.intCast_add, Rat.intCast_add, Rat.intCast_mul, Rat.intCast_mul, Rat.intCast_mul, Rat.intCast_mul]
theorem cs_one (p q : Int) : cosQ p q * cosQ p q + sinQ p q * sinQ p q = 1 := by
  rw [cos_q, sin_q]
  have h := cs_den (p := p) (q := q)
  generalize (nzQ p q : Rat) = z at *
  generalize (p : Rat) = x at *
  grind
theorem cs_cong {p q p' q' : Int} (h : ¬ (p = 0 ∧ q = 0)) (h' : ¬ (p' = 0 ∧ q' = 0)) (e : p * q' = p' * q) : cosQ p q = cosQ p' q' ∧ sinQ p q = sinQ p' q' := by
  rw [cos_q, sin_q, cos_q, sin_q]
  have d1 := cs_den (p := p) (q := q)
  have d2 := cs_den (p := p') (q := q')
  rw [nz_id h] at d1 ⊢
  rw [nz_id h'] at d2 ⊢
  have e2 : (p : Rat) * q' = p' * q := by rw [← Rat.intCast_mul, ← Rat.intCast_mul, e]
  clear e h h'
  generalize (p : Rat) = a at *
  generalize (q : Rat) = b at *
  generalize (p' : Rat) = c at *
  generalize (q' : Rat) = d at *
  constructor <;> grind
theorem cs_nz (p q : Int) : cosQ p (nzQ p q) = cosQ p q ∧ sinQ p (nzQ p q) = sinQ p q := by
  unfold cosQ sinQ; rw [nz_nz]; exact ⟨rfl, rfl⟩
theorem cs_cn (p q : Int) : cosQ (cnP p q) (cnQ p q) = cosQ p q ∧ sinQ (cnP p q) (cnQ p q) = sinQ p q := by
  have h := cs_cong (cn_ne p q) (nz_ne p q) (cn_par p q)
  rw [h.1, h.2]; exact cs_nz p q
theorem cs_pr (p q p' q' : Int) : cosQ (prP p q p' q') (prQ p q p' q') = cosQ p q * cosQ p' q' - sinQ p q * sinQ p' q' ∧ sinQ (prP p q p' q') (prQ p q p' q') = sinQ p q * cosQ p' q' + cosQ p q * sinQ p' q' := by
  have h := nz_id (pr_ne p q p' q')
  rw [cos_q (prP p q p' q'), sin_q (prP p q p' q')]
  have d0 := cs_den (p := prP p q p' q') (q := prQ p q p' q')
  rw [h] at d0 ⊢
  rw [cos_q, sin_q, cos_q, sin_q]
  have d1 := cs_den (p := p) (q := q)
  have d2 := cs_den (p := p') (q := q')
  have e1 : (prP p q p' q' : Rat) = p * nzQ p' q' + nzQ p q * p' := by unfold prP; rw [Rat.intCast_add, Rat.intCast_mul, Rat.intCast_mul]
  have e2 : (prQ p q p' q' : Rat) = nzQ p q * nzQ p' q' - p * p' := by unfold prQ; rw [Rat.intCast_sub, Rat.intCast_mul, Rat.intCast_mul]
  rw [e1, e2] at d0 ⊢
  clear e1 e2 h
  generalize (p : Rat) = a at *
  generalize (nzQ p q : Rat) = b at *
  generalize (p' : Rat) = c at *
  generalize (nzQ p' q' : Rat) = d at *
  constructor <;> grind
theorem cs_th (p q p' q' : Int) : cosQ (thP p q p' q') (thQ p q p' q') = cosQ p q * cosQ p' q' - sinQ p q * sinQ p' q' ∧ sinQ (thP p q p' q') (thQ p q p' q') = sinQ p q * cosQ p' q' + cosQ p q * sinQ p' q' := by
  unfold thP thQ
  rw [(cs_cn _ _).1, (cs_cn _ _).2]; exact cs_pr p q p' q'
theorem cs_inv (p q : Int) : cosQ (-p) q = cosQ p q ∧ sinQ (-p) q = - sinQ p q := by
  have e : nzQ (-p) q = nzQ p q := by unfold nzQ; repeat' split <;> omega
  rw [cos_q, sin_q, cos_q, sin_q, e, Rat.intCast_neg]
  have d1 := cs_den (p := p) (q := q)
  generalize (p : Rat) = a at *
  generalize (nzQ p q : Rat) = b at *
  constructor <;> grind
/-- The canonical inverse. -/
def inP (p q : Int) : Int := cnP (-p) q
def inQ (p q : Int) : Int := cnQ (-p) q
theorem cs_in (p q : Int) : cosQ (inP p q) (inQ p q) = cosQ p q ∧ sinQ (inP p q) (inQ p q) = - sinQ p q := by
  unfold inP inQ; rw [(cs_cn _ _).1, (cs_cn _ _).2]; exact cs_inv p q
theorem th_in (p q : Int) : thP p q (inP p q) (inQ p q) = 0 ∧ thQ p q (inP p q) (inQ p q) = 1 := by
  have h1 := th_comm p q (inP p q) (inQ p q)
  have h2 := th_cn (a := -p) (b := q) (p := p) (q := q)
  change thP (inP p q) (inQ p q) p q = _ ∧ thQ (inP p q) (inQ p q) p q = _ at h2
  rw [h1.1, h1.2, h2.1, h2.2, (th_nz ..).1, (th_nz ..).2]
  have h3 := cn_eq (p := prP (-p) q p q) (q := prQ (-p) q p q) (p' := 0) (q' := 1) (pr_ne _ _ _ _) (by omega) (by
    have e : nzQ (-p) q = nzQ p q := by unfold nzQ; repeat' split <;> omega
    unfold prP; rw [e]; grind)
  unfold thP thQ
  rw [h3.1, h3.2]
  exact ⟨by decide +kernel, by decide +kernel⟩
/-- Followed by the identity. -/
theorem th_one (p q : Int) : thP p q 0 1 = cnP p q ∧ thQ p q 0 1 = cnQ p q := by
  unfold thP thQ prP prQ
  rw [nz_id (p := 0) (q := 1) (by omega)]
  simp only [Int.mul_one, Int.mul_zero, Int.add_zero, Int.sub_zero]
  unfold cnP cnQ; rw [nz_nz]; exact ⟨rfl, rfl⟩
theorem divInt_bits {a b : Int} {B : Nat} (hB : 1 < B) (ha : a.natAbs < B) (hb : b.natAbs < B) : (Rat.divInt a b).num.natAbs < B ∧ (Rat.divInt a b).den < B := by
  rw [Rat.num_divInt, Rat.den_divInt]
  constructor
  · refine Nat.lt_of_le_of_lt ?_ ha
    have h1 : (b.sign * a / (Int.gcd b a : Int)).natAbs ≤ (b.sign * a).natAbs := by
      exact Int.natAbs_ediv_le_natAbs _ _
    have h2 : (b.sign * a).natAbs ≤ a.natAbs := by
      rw [Int.natAbs_mul]
      have : b.sign.natAbs ≤ 1 := by rcases Int.lt_trichotomy b 0 with h | h | h <;> simp [Int.sign_eq_neg_one_of_neg, Int.sign_eq_one_of_pos, h]
      calc _ ≤ 1 * a.natAbs := Nat.mul_le_mul_right _ this
        _ = _ := Nat.one_mul _
    exact Nat.le_trans h1 h2
  · split
    · exact hB
    · exact Nat.lt_of_le_of_lt (Nat.div_le_self _ _) hb
theorem one_lt_B {k : Nat} (h : 1 ≤ k) : 1 < 4294967296 ^ k := Nat.one_lt_pow (by omega) (by omega)
theorem add_same {x y : Int} {n : Nat} (hx : x.natAbs < 4294967296 ^ n) (hy : y.natAbs < 4294967296 ^ n) : (x + y).natAbs < 4294967296 ^ (n + 1) ∧ (x - y).natAbs < 4294967296 ^ (n + 1) := by
  rw [Nat.pow_succ]
  generalize 4294967296 ^ n = B at *
  constructor <;> omega
theorem mulB {x y : Int} {n k : Nat} (hx : x.natAbs < 4294967296 ^ n) (hy : y.natAbs < 4294967296 ^ k) : (x * y).natAbs < 4294967296 ^ (n + k) := by
  rw [Int.natAbs_mul, Nat.pow_add]; exact Nat.mul_lt_mul'' hx hy
theorem sumQ_bits {r s : Rat} {k j : Nat} (h1 : r.num.natAbs < 4294967296 ^ k) (h2 : r.den < 4294967296 ^ k) (g1 : s.num.natAbs < 4294967296 ^ j) (g2 : s.den < 4294967296 ^ j) :
    ((r + s).num.natAbs < 4294967296 ^ (k + j + 1) ∧ (r + s).den < 4294967296 ^ (k + j + 1)) ∧ ((r - s).num.natAbs < 4294967296 ^ (k + j + 1) ∧ (r - s).den < 4294967296 ^ (k + j + 1)) := by
  have hr : (r.den : Int) ≠ 0 := by have := r.den_nz; omega
  have hs : (s.den : Int) ≠ 0 := by have := s.den_nz; omega
  have e1 : r + s = Rat.divInt (r.num * s.den + s.num * r.den) (r.den * s.den) := by
    rw [← Rat.divInt_add_divInt _ _ hr hs, Rat.num_divInt_den, Rat.num_divInt_den]
  have e2 : r - s = Rat.divInt (r.num * s.den - s.num * r.den) (r.den * s.den) := by
    rw [Rat.sub_eq_add_neg, ← Rat.num_divInt_den s, Rat.neg_divInt]
    conv => lhs; lhs; rw [← Rat.num_divInt_den r]
    rw [Rat.divInt_add_divInt _ _ hr hs, Int.neg_mul, ← Int.sub_eq_add_neg, Rat.num_divInt_den]
  have d1 : ((r.den : Int)).natAbs < 4294967296 ^ k := by rw [Int.natAbs_natCast]; exact h2
  have d2 : ((s.den : Int)).natAbs < 4294967296 ^ j := by rw [Int.natAbs_natCast]; exact g2
  have m1 := mulB h1 d2
  have m2 := mulB g1 d1
  rw [Nat.add_comm j k] at m2
  have m3 := Nat.lt_of_lt_of_le (mulB d1 d2) (Nat.pow_le_pow_right (by omega) (Nat.le_succ (k + j)))
  have hB := one_lt_B (show 1 ≤ k + j + 1 by omega)
  rw [e1, e2]
  exact ⟨divInt_bits hB (add_same m1 m2).1 m3, divInt_bits hB (add_same m1 m2).2 m3⟩
end Go.Proofs.YtccndofafljaaaaGreatDoor
