/- Plain mathematics: a disc that touches a rectangle along a segment. -/
import Derived.Test.YtaflgmiagjldhaaSCross2
set_option linter.unusedVariables false
namespace Go.Proofs.Ytaflgmiagjldhaa
namespace Hd

/-- A segment that runs into the rectangle crosses a diagonal, if none of its ends is in it. -/
theorem diag_pos {a b c d e f g h x0 y0 x1 y1 t m : Int} (kA : InR e f x0 y0 x1 y1) (kB : InR g h x0 y0 x1 y1) (hm : 1 ≤ m) (t0 : 0 ≤ t) (tm : t ≤ m)
    (hX : x0 * m ≤ a * m + t * (c - a) ∧ a * m + t * (c - a) ≤ x1 * m) (hY : y0 * m ≤ b * m + t * (d - b) ∧ b * m + t * (d - b) ≤ y1 * m)
    (hp : ¬ InR a b x0 y0 x1 y1) (hq : ¬ InR c d x0 y0 x1 y1) (s1 : ¬ 0 < pr a b c d e f * pr a b c d g h) (hD : 0 < pr a b c d g h - pr a b c d e f) : ¬ 0 < pr e f g h a b * pr e f g h c d := by
  have e0 := pr_diff a b c d e f g h
  have ex := pr_x a b c d e f g h
  have ey := pr_y a b c d e f g h
  generalize pr a b c d e f = uA at *
  generalize pr a b c d g h = uB at *
  generalize pr e f g h a b = sp at *
  generalize pr e f g h c d = sq at *
  obtain ⟨u1, u2⟩ := opp s1 (show uA ≤ uB by omega)
  have m1 := mean (p := uB) (q := -uA) u2 (by omega) kA.a1 kA.a2 kB.a1 kB.a2
  have m2 := mean (p := uB) (q := -uA) u2 (by omega) kA.b1 kA.b2 kB.b1 kB.b2
  rw [Int.mul_neg, show uB + -uA = uB - uA by omega] at m1 m2
  have z1 : e * uB + -(g * uA) = a * (uB - uA) + sp * (c - a) := by omega
  have z2 : f * uB + -(h * uA) = b * (uB - uA) + sp * (d - b) := by omega
  rw [z1] at m1
  rw [z2] at m2
  clear ex ey z1 z2
  obtain rfl : sq = sp - (uB - uA) := by omega
  generalize uB - uA = D at *
  intro hpos
  rcases Int.lt_or_le 0 sp with h1 | h1
  · have h2 : 0 < sp - D := by
      rcases Int.lt_or_le 0 (sp - D) with h2 | h2
      · exact h2
      · have := Int.mul_nonneg (show 0 ≤ sp by omega) (show 0 ≤ -(sp - D) by omega)
        rw [Int.mul_neg] at this; omega
    apply hq
    have key : ∀ p q lo hi : Int, lo * m ≤ p * m + t * (q - p) → p * m + t * (q - p) ≤ hi * m → lo * D ≤ p * D + sp * (q - p) → p * D + sp * (q - p) ≤ hi * D → lo ≤ q ∧ q ≤ hi := by
      intro p q lo hi a1 a2 a3 a4
      have b1 := mle (show 0 ≤ sp - D by omega) a1
      have b2 := mle (show 0 ≤ sp - D by omega) a2
      have b3 := mle (show 0 ≤ m - t by omega) a3
      have b4 := mle (show 0 ≤ m - t by omega) a4
      have g0 : 1 ≤ sp * m - t * D := by
        have := mul_pos1 (show 1 ≤ sp - D by omega) hm
        have := Int.mul_nonneg (show 0 ≤ D by omega) (show 0 ≤ m - t by omega)
        grind
      exact ⟨le_cancel g0 (by grind), le_cancel g0 (by grind)⟩
    have k1 := key a c x0 x1 hX.1 hX.2 m1.1 m1.2
    have k2 := key b d y0 y1 hY.1 hY.2 m2.1 m2.2
    exact ⟨k1.1, k1.2, k2.1, k2.2⟩
  · have h2 : sp < 0 := by
      rcases Int.lt_or_le sp 0 with h2 | h2
      · exact h2
      · obtain rfl : sp = 0 := by omega
        rw [Int.zero_mul] at hpos; omega
    apply hp
    have key : ∀ p q lo hi : Int, lo * m ≤ p * m + t * (q - p) → p * m + t * (q - p) ≤ hi * m → lo * D ≤ p * D + sp * (q - p) → p * D + sp * (q - p) ≤ hi * D → lo ≤ p ∧ p ≤ hi := by
      intro p q lo hi a1 a2 a3 a4
      have b1 := mle (show 0 ≤ -sp by omega) a1
      have b2 := mle (show 0 ≤ -sp by omega) a2
      have b3 := mle t0 a3
      have b4 := mle t0 a4
      have g0 : 1 ≤ -sp * m + t * D := by
        have := mul_pos1 (show 1 ≤ -sp by omega) hm
        have := Int.mul_nonneg t0 (show 0 ≤ D by omega)
        omega
      exact ⟨le_cancel g0 (by grind), le_cancel g0 (by grind)⟩
    have k1 := key a c x0 x1 hX.1 hX.2 m1.1 m1.2
    have k2 := key b d y0 y1 hY.1 hY.2 m2.1 m2.2
    exact ⟨k1.1, k1.2, k2.1, k2.2⟩
theorem seg_hull {a c t m lo hi : Int} (hm : 1 ≤ m) (t0 : 0 ≤ t) (tm : t ≤ m) (h1 : lo * m ≤ a * m + t * (c - a)) (h2 : a * m + t * (c - a) ≤ hi * m) : min a c ≤ hi ∧ lo ≤ max a c := by
  have := mean (lo := min a c) (hi := max a c) (e := a) (g := c) (p := m - t) (q := t) (by omega) t0 (by omega) (by omega) (by omega) (by omega)
  rw [show m - t + t = m by omega, show a * (m - t) + c * t = a * m + t * (c - a) by grind] at this
  exact ⟨le_cancel hm (by omega), le_cancel hm (by omega)⟩
theorem diag_any {a b c d e f g h x0 y0 x1 y1 t m : Int} (kA : InR e f x0 y0 x1 y1) (kB : InR g h x0 y0 x1 y1) (hm : 1 ≤ m) (t0 : 0 ≤ t) (tm : t ≤ m)
    (hX : x0 * m ≤ a * m + t * (c - a) ∧ a * m + t * (c - a) ≤ x1 * m) (hY : y0 * m ≤ b * m + t * (d - b) ∧ b * m + t * (d - b) ≤ y1 * m)
    (hp : ¬ InR a b x0 y0 x1 y1) (hq : ¬ InR c d x0 y0 x1 y1) (s1 : ¬ 0 < pr a b c d e f * pr a b c d g h) : ¬ 0 < pr e f g h a b * pr e f g h c d := by
  rcases Int.lt_trichotomy (pr a b c d g h - pr a b c d e f) 0 with hD | hD | hD
  · have := diag_pos kB kA hm t0 tm hX hY hp hq (by rw [mul_comm_pos]; exact s1) (by omega)
    rwa [pr_anti e f g h a b, pr_anti e f g h c d, Int.neg_mul_neg] at this
  · have e0 := pr_diff a b c d e f g h
    have ex := pr_x a b c d e f g h
    have ey := pr_y a b c d e f g h
    have hu : pr a b c d g h = pr a b c d e f := by omega
    rw [hu] at s1 ex ey
    have zA : pr a b c d e f = 0 := by
      by_cases hz : pr a b c d e f = 0
      · exact hz
      · have := sq_nonneg (pr a b c d e f)
        rcases Int.mul_eq_zero.1 (show pr a b c d e f * pr a b c d e f = 0 by omega) with h2 | h2 <;> exact absurd h2 hz
    rw [zA, Int.sub_self, Int.mul_zero, Int.mul_zero, Int.mul_zero] at ex ey
    have hs : pr e f g h a b = pr e f g h c d := by omega
    intro hpos
    rcases Int.mul_eq_zero.1 (show pr e f g h a b * (c - a) = 0 by omega) with h1 | h1
    · rw [h1, Int.zero_mul] at hpos; omega
    · rcases Int.mul_eq_zero.1 (show pr e f g h a b * (d - b) = 0 by omega) with h2 | h2
      · rw [h2, Int.zero_mul] at hpos; omega
      · rw [h1, Int.mul_zero] at hX
        rw [h2, Int.mul_zero] at hY
        exact hp ⟨le_cancel hm (by omega), le_cancel hm (by omega), le_cancel hm (by omega), le_cancel hm (by omega)⟩
  · exact diag_pos kA kB hm t0 tm hX hY hp hq s1 hD
theorem runs_diag {a b c d x0 y0 x1 y1 : Int} (hx : x0 ≤ x1) (hy : y0 ≤ y1) (k : Runs a b c d x0 y0 x1 y1) :
    InR a b x0 y0 x1 y1 ∨ InR c d x0 y0 x1 y1 ∨ Cr a b c d x0 y0 x1 y1 ∨ Cr a b c d x0 y1 x1 y0 := by
  by_cases hp : InR a b x0 y0 x1 y1
  · exact .inl hp
  by_cases hq : InR c d x0 y0 x1 y1
  · exact .inr (.inl hq)
  right; right
  obtain ⟨t, m, hm, tm, hh⟩ := k
  rw [hit_iff] at hh
  obtain ⟨t0, hX, hY⟩ := hh
  have o1 := seg_hull hm t0 tm hX.1 hX.2
  have o2 := seg_hull hm t0 tm hY.1 hY.2
  have fin : ∀ e f g h, InR e f x0 y0 x1 y1 → InR g h x0 y0 x1 y1 → min e g = x0 → max e g = x1 → min f h = y0 → max f h = y1 → ¬ 0 < pr a b c d e f * pr a b c d g h → Cr a b c d e f g h :=
    fun e f g h kA kB q1 q2 q3 q4 s1 => ⟨by omega, by omega, by omega, by omega, s1, diag_any kA kB hm t0 tm hX hY hp hq s1⟩
  by_cases s1 : 0 < pr a b c d x0 y0 * pr a b c d x1 y1
  · by_cases s2 : 0 < pr a b c d x0 y1 * pr a b c d x1 y0
    · exfalso
      have sum : pr a b c d x0 y0 + pr a b c d x1 y1 = pr a b c d x0 y1 + pr a b c d x1 y0 := by unfold pr; grind
      have at_ : ∀ e f, m * pr a b c d e f = (c - a) * (f * m - (b * m + t * (d - b))) - (d - b) * (e * m - (a * m + t * (c - a))) := fun e f => by unfold pr; grind
      -- a corner on each side
      have lowc : ∃ e f, (e = x0 ∨ e = x1) ∧ (f = y0 ∨ f = y1) ∧ m * pr a b c d e f ≤ 0 := by
        refine ⟨if 0 ≤ d - b then x1 else x0, if 0 ≤ c - a then y0 else y1, by split <;> simp, by split <;> simp, ?_⟩
        rw [at_]
        have h1 : (c - a) * ((if 0 ≤ c - a then y0 else y1) * m - (b * m + t * (d - b))) ≤ 0 := by
          split
          · rename_i h; have := Int.mul_nonneg h (show 0 ≤ -(y0 * m - (b * m + t * (d - b))) by omega); rw [Int.mul_neg] at this; omega
          · rename_i h; have := Int.mul_nonneg (show 0 ≤ -(c - a) by omega) (show 0 ≤ y1 * m - (b * m + t * (d - b)) by omega); rw [Int.neg_mul] at this; omega
        have h2 : 0 ≤ (d - b) * ((if 0 ≤ d - b then x1 else x0) * m - (a * m + t * (c - a))) := by
          split
          · rename_i h; exact Int.mul_nonneg h (by omega)
          · rename_i h; have := Int.mul_nonneg (show 0 ≤ -(d - b) by omega) (show 0 ≤ -(x0 * m - (a * m + t * (c - a))) by omega); rw [Int.neg_mul_neg] at this; exact this
        omega
      have highc : ∃ e f, (e = x0 ∨ e = x1) ∧ (f = y0 ∨ f = y1) ∧ 0 ≤ m * pr a b c d e f := by
        refine ⟨if 0 ≤ d - b then x0 else x1, if 0 ≤ c - a then y1 else y0, by split <;> simp, by split <;> simp, ?_⟩
        rw [at_]
        have h1 : 0 ≤ (c - a) * ((if 0 ≤ c - a then y1 else y0) * m - (b * m + t * (d - b))) := by
          split
          · rename_i h; exact Int.mul_nonneg h (by omega)
          · rename_i h; have := Int.mul_nonneg (show 0 ≤ -(c - a) by omega) (show 0 ≤ -(y0 * m - (b * m + t * (d - b))) by omega); rw [Int.neg_mul_neg] at this; exact this
        have h2 : (d - b) * ((if 0 ≤ d - b then x0 else x1) * m - (a * m + t * (c - a))) ≤ 0 := by
          split
          · rename_i h; have := Int.mul_nonneg h (show 0 ≤ -(x0 * m - (a * m + t * (c - a))) by omega); rw [Int.mul_neg] at this; omega
          · rename_i h; have := Int.mul_nonneg (show 0 ≤ -(d - b) by omega) (show 0 ≤ x1 * m - (a * m + t * (c - a)) by omega); rw [Int.neg_mul] at this; omega
        omega
      have sg : ∀ x y : Int, 0 < x * y → (0 < x ∧ 0 < y) ∨ (x < 0 ∧ y < 0) := by
        intro x y h
        rcases Int.lt_trichotomy x 0 with h1 | h1 | h1
        · rcases Int.lt_or_le y 0 with h2 | h2
          · exact .inr ⟨h1, h2⟩
          · have := Int.mul_nonneg (show 0 ≤ -x by omega) h2; rw [Int.neg_mul] at this; omega
        · subst h1; omega
        · rcases Int.lt_or_le 0 y with h2 | h2
          · exact .inl ⟨h1, h2⟩
          · have := Int.mul_nonneg (show 0 ≤ x by omega) (show 0 ≤ -y by omega); rw [Int.mul_neg] at this; omega
      have pos : ∀ x : Int, 0 < x → 0 < m * x := fun x h => Int.mul_pos (by omega) h
      have neg : ∀ x : Int, x < 0 → m * x < 0 := fun x h => Int.mul_neg_of_pos_of_neg (by omega) h
      obtain ⟨e, f, he, hf, hl⟩ := lowc
      obtain ⟨e', f', he', hf', hl'⟩ := highc
      rcases sg _ _ s1 with ⟨p1, p2⟩ | ⟨p1, p2⟩ <;> rcases sg _ _ s2 with ⟨p3, p4⟩ | ⟨p3, p4⟩
      · have := pos _ p1; have := pos _ p2; have := pos _ p3; have := pos _ p4
        rcases he with rfl | rfl <;> rcases hf with rfl | rfl <;> omega
      · omega
      · omega
      · have := neg _ p1; have := neg _ p2; have := neg _ p3; have := neg _ p4
        rcases he' with rfl | rfl <;> rcases hf' with rfl | rfl <;> omega
    · right
      exact fin x0 y1 x1 y0 ⟨by omega, by omega, by omega, by omega⟩ ⟨by omega, by omega, by omega, by omega⟩ (by omega) (by omega) (by omega) (by omega) s2
  · left
    exact fin x0 y0 x1 y1 ⟨by omega, by omega, by omega, by omega⟩ ⟨by omega, by omega, by omega, by omega⟩ (by omega) (by omega) (by omega) (by omega) s1
end Hd
end Go.Proofs.Ytaflgmiagjldhaa
