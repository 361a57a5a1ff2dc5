/- Plain mathematics: segments that cross, and segments that run into a rectangle. -/
import Derived.Test.YtaflgmiagjldhaaSRayM
set_option linter.unusedVariables false
namespace Go.Proofs.Ytaflgmiagjldhaa
namespace Hd

theorem sgn_pos {m n : Int} : 0 < sgn m * sgn n ↔ 0 < m * n := by
  have key : ∀ x : Int, (x < 0 ∧ sgn x = -1) ∨ (x = 0 ∧ sgn x = 0) ∨ (0 < x ∧ sgn x = 1) := fun x => by unfold sgn; split; omega; split <;> omega
  rcases key m with ⟨h, e⟩ | ⟨h, e⟩ | ⟨h, e⟩ <;> rcases key n with ⟨g, f⟩ | ⟨g, f⟩ | ⟨g, f⟩ <;> rw [e, f]
  · have := Int.mul_pos_of_neg_of_neg h g; omega
  · subst g; omega
  · have := Int.mul_neg_of_neg_of_pos h g; omega
  · subst h; omega
  · subst h; omega
  · subst h; omega
  · have := Int.mul_neg_of_pos_of_neg h g; omega
  · subst g; omega
  · have := Int.mul_pos h g; omega
theorem pr_anti (a b c d u v : Int) : pr c d a b u v = -pr a b c d u v := by unfold pr; grind
theorem pr_cyc (a b c d u v : Int) : pr c d u v a b = pr a b c d u v := by unfold pr; grind
theorem sgn_neg (n : Int) : sgn (-n) = -sgn n := by unfold sgn; repeat' split <;> omega
theorem mul_comm_pos {x y : Int} : 0 < x * y ↔ 0 < y * x := by rw [Int.mul_comm]
/-- Segments (a, b) (c, d) and (e, f) (g, h) cross. -/
structure Cr (a b c d e f g h : Int) : Prop where
  o1 : min a c ≤ max e g
  o2 : min e g ≤ max a c
  o3 : min b d ≤ max f h
  o4 : min f h ≤ max b d
  s1 : ¬ 0 < pr a b c d e f * pr a b c d g h
  s2 : ¬ 0 < pr e f g h a b * pr e f g h c d
instance (a b c d e f g h : Int) : Decidable (Cr a b c d e f g h) := decidable_of_iff (((min a c ≤ max e g ∧ min e g ≤ max a c) ∧ (min b d ≤ max f h ∧ min f h ≤ max b d)) ∧ ¬ 0 < pr a b c d e f * pr a b c d g h ∧ ¬ 0 < pr e f g h a b * pr e f g h c d)
  ⟨fun h => ⟨h.1.1.1, h.1.1.2, h.1.2.1, h.1.2.2, h.2.1, h.2.2⟩, fun h => ⟨⟨⟨h.o1, h.o2⟩, h.o3, h.o4⟩, h.s1, h.s2⟩⟩
theorem Cr.flip1 {a b c d e f g h : Int} (k : Cr a b c d e f g h) : Cr c d a b e f g h := by
  obtain ⟨o1, o2, o3, o4, s1, s2⟩ := k
  refine ⟨by omega, by omega, by omega, by omega, ?_, ?_⟩
  · rw [pr_anti a b c d e f, pr_anti a b c d g h, Int.neg_mul_neg]; exact s1
  · rw [mul_comm_pos]; exact s2
theorem Cr.flip2 {a b c d e f g h : Int} (k : Cr a b c d e f g h) : Cr a b c d g h e f := by
  obtain ⟨o1, o2, o3, o4, s1, s2⟩ := k
  refine ⟨by omega, by omega, by omega, by omega, ?_, ?_⟩
  · rw [mul_comm_pos]; exact s1
  · rw [pr_anti e f g h a b, pr_anti e f g h c d, Int.neg_mul_neg]; exact s2
theorem Cr.swap {a b c d e f g h : Int} (k : Cr a b c d e f g h) : Cr e f g h a b c d := by
  obtain ⟨o1, o2, o3, o4, s1, s2⟩ := k
  exact ⟨by omega, by omega, by omega, by omega, s2, s1⟩
/-- In the rectangle. -/
structure InR (a b x0 y0 x1 y1 : Int) : Prop where
  a1 : x0 ≤ a
  a2 : a ≤ x1
  b1 : y0 ≤ b
  b2 : b ≤ y1
/-- Some point of the segment is in the rectangle. -/
def Runs (a b c d x0 y0 x1 y1 : Int) : Prop := ∃ t m, 1 ≤ m ∧ t ≤ m ∧ Hit a b (c - a) (d - b) x0 y0 x1 y1 t m
def runB (a b c d x0 y0 x1 y1 : Int) : Bool := pasB a b (c - a) (d - b) x0 y0 x1 y1 && decide ((pasS a b (c - a) (d - b) x0 y0 x1 y1).i ≤ (pasS a b (c - a) (d - b) x0 y0 x1 y1).j)
theorem runB_iff {a b c d x0 y0 x1 y1 : Int} : runB a b c d x0 y0 x1 y1 = true ↔ Runs a b c d x0 y0 x1 y1 := by
  unfold runB Runs
  rw [Bool.and_eq_true, decide_eq_true_eq]
  rcases pas_sem a b (c - a) (d - b) x0 y0 x1 y1 with ⟨h1, w, -, i⟩ | ⟨h1, i⟩
  · rw [h1]
    constructor
    · rintro ⟨-, h⟩
      exact ⟨_, _, w.j1, h, (i _ _ w.j1).1 ⟨Int.le_refl _, w.ne⟩⟩
    · rintro ⟨t, m, hm, htm, hh⟩
      refine ⟨rfl, ?_⟩
      have a1 := ((i t m hm).2 hh).1
      have a2 := mle (show 0 ≤ (pasS a b (c - a) (d - b) x0 y0 x1 y1).j by have := w.j1; omega) htm
      exact le_cancel hm (by grind)
  · rw [h1]
    constructor
    · rintro ⟨h, -⟩; cases h
    · rintro ⟨t, m, hm, htm, hh⟩; exact absurd hh (i t m hm)
/-- The same said of the point m times itself. -/
theorem hit_iff {a b c d x0 y0 x1 y1 t m : Int} : Hit a b (c - a) (d - b) x0 y0 x1 y1 t m ↔ 0 ≤ t ∧ (x0 * m ≤ a * m + t * (c - a) ∧ a * m + t * (c - a) ≤ x1 * m) ∧ (y0 * m ≤ b * m + t * (d - b) ∧ b * m + t * (d - b) ≤ y1 * m) := by
  unfold Hit
  rw [Int.sub_mul, Int.sub_mul, Int.sub_mul, Int.sub_mul]
  omega
theorem Runs.flip {a b c d x0 y0 x1 y1 : Int} (k : Runs a b c d x0 y0 x1 y1) : Runs c d a b x0 y0 x1 y1 := by
  obtain ⟨t, m, hm, htm, hh⟩ := k
  rw [hit_iff] at hh
  obtain ⟨h0, ⟨h1, h2⟩, h3, h4⟩ := hh
  have e1 : c * m + (m - t) * (a - c) = a * m + t * (c - a) := by grind
  have e2 : d * m + (m - t) * (b - d) = b * m + t * (d - b) := by grind
  refine ⟨m - t, m, hm, by omega, ?_⟩
  rw [hit_iff, e1, e2]
  exact ⟨by omega, ⟨h1, h2⟩, h3, h4⟩
theorem runs_in {a b c d x0 y0 x1 y1 : Int} (k : InR a b x0 y0 x1 y1) : Runs a b c d x0 y0 x1 y1 := by
  refine ⟨0, 1, Int.le_refl _, by omega, ?_⟩
  rw [hit_iff]
  obtain ⟨k1, k2, k3, k4⟩ := k
  exact ⟨Int.le_refl _, ⟨by omega, by omega⟩, by omega, by omega⟩
/-- A point on the segment, by products. -/
theorem runs_on {a b c d e f x0 y0 x1 y1 : Int} (k : InR e f x0 y0 x1 y1) (hs : pr a b c d e f = 0) (h1 : min a c ≤ e) (h2 : e ≤ max a c) (h3 : min b d ≤ f) (h4 : f ≤ max b d) : Runs a b c d x0 y0 x1 y1 := by
  by_cases hl : 1 ≤ (c - a) * (c - a) + (d - b) * (d - b)
  · have n1 := sq_nonneg (c - a)
    have n2 := sq_nonneg (d - b)
    have btw : ∀ p q r : Int, min p q ≤ r → r ≤ max p q → 0 ≤ (q - p) * (r - p) ∧ (q - p) * (r - p) ≤ (q - p) * (q - p) := by
      intro p q r g1 g2
      rcases Int.le_total p q with hh | hh
      · have := Int.mul_le_mul_of_nonneg_left (show r - p ≤ q - p by omega) (show 0 ≤ q - p by omega)
        have := Int.mul_nonneg (show 0 ≤ q - p by omega) (show 0 ≤ r - p by omega)
        omega
      · have e1 : (q - p) * (r - p) = (p - q) * (p - r) := by grind
        have e2 : (q - p) * (q - p) = (p - q) * (p - q) := by grind
        have := Int.mul_le_mul_of_nonneg_left (show p - r ≤ p - q by omega) (show 0 ≤ p - q by omega)
        have := Int.mul_nonneg (show 0 ≤ p - q by omega) (show 0 ≤ p - r by omega)
        omega
    have u1 := btw a c e h1 h2
    have u2 := btw b d f h3 h4
    unfold pr at hs
    have e1 : a * ((c - a) * (c - a) + (d - b) * (d - b)) + ((c - a) * (e - a) + (d - b) * (f - b)) * (c - a) = e * ((c - a) * (c - a) + (d - b) * (d - b)) := by
      have : (d - b) * ((c - a) * (f - b) - (d - b) * (e - a)) = 0 := by rw [hs, Int.mul_zero]
      grind
    have e2 : b * ((c - a) * (c - a) + (d - b) * (d - b)) + ((c - a) * (e - a) + (d - b) * (f - b)) * (d - b) = f * ((c - a) * (c - a) + (d - b) * (d - b)) := by
      have : (c - a) * ((c - a) * (f - b) - (d - b) * (e - a)) = 0 := by rw [hs, Int.mul_zero]
      grind
    refine ⟨_, _, hl, show (c - a) * (e - a) + (d - b) * (f - b) ≤ _ by omega, ?_⟩
    rw [hit_iff, e1, e2]
    exact ⟨by omega, ⟨mle (by omega) k.a1, mle (by omega) k.a2⟩, mle (by omega) k.b1, mle (by omega) k.b2⟩
  · have n1 := sq_nonneg (c - a)
    have n2 := sq_nonneg (d - b)
    have z1 : c - a = 0 := by rcases Int.mul_eq_zero.1 (show (c - a) * (c - a) = 0 by omega) with h | h <;> exact h
    have z2 : d - b = 0 := by rcases Int.mul_eq_zero.1 (show (d - b) * (d - b) = 0 by omega) with h | h <;> exact h
    have ea : e = a := by omega
    have ef : f = b := by omega
    subst ea ef
    exact runs_in k
/-- The two products differ by as much on both sides. -/
theorem pr_diff (a b c d e f g h : Int) : pr e f g h a b - pr e f g h c d = pr a b c d g h - pr a b c d e f := by unfold pr; grind
theorem pr_x (a b c d e f g h : Int) : a * (pr a b c d g h - pr a b c d e f) + pr e f g h a b * (c - a) = e * pr a b c d g h - g * pr a b c d e f := by unfold pr; grind
theorem pr_y (a b c d e f g h : Int) : b * (pr a b c d g h - pr a b c d e f) + pr e f g h a b * (d - b) = f * pr a b c d g h - h * pr a b c d e f := by unfold pr; grind
theorem opp {x y : Int} (h : ¬ 0 < x * y) (g : x ≤ y) : x ≤ 0 ∧ 0 ≤ y := by
  constructor
  · rcases Int.lt_or_le 0 x with k | k
    · exact absurd (Int.mul_pos k (show 0 < y by omega)) h
    · exact k
  · rcases Int.lt_or_le y 0 with k | k
    · exact absurd (Int.mul_pos_of_neg_of_neg (show x < 0 by omega) k) h
    · exact k
/-- A weighted mean of bounded numbers. -/
theorem mean {lo hi e g p q : Int} (p0 : 0 ≤ p) (q0 : 0 ≤ q) (e1 : lo ≤ e) (e2 : e ≤ hi) (g1 : lo ≤ g) (g2 : g ≤ hi) : lo * (p + q) ≤ e * p + g * q ∧ e * p + g * q ≤ hi * (p + q) := by
  have a1 := mle p0 e1
  have a2 := mle p0 e2
  have a3 := mle q0 g1
  have a4 := mle q0 g2
  rw [Int.mul_add, Int.mul_add]
  omega
/-- Segments that cross, one of them in the rectangle, and not on one line. -/
theorem cross_pos {a b c d e f g h x0 y0 x1 y1 : Int} (kA : InR e f x0 y0 x1 y1) (kB : InR g h x0 y0 x1 y1) (s1 : ¬ 0 < pr a b c d e f * pr a b c d g h) (s2 : ¬ 0 < pr e f g h a b * pr e f g h c d)
    (hD : 0 < pr a b c d g h - pr a b c d e f) : Runs a b c d x0 y0 x1 y1 := by
  have e0 := pr_diff a b c d e f g h
  have ex := pr_x a b c d e f g h
  have ey := pr_y a b c d e f g h
  generalize pr a b c d e f = uA at *
  generalize pr a b c d g h = uB at *
  generalize pr e f g h a b = sp at *
  generalize pr e f g h c d = sq at *
  obtain ⟨u1, u2⟩ := opp s1 (show uA ≤ uB by omega)
  obtain ⟨v1, v2⟩ := opp (x := sq) (y := sp) (by rw [Int.mul_comm]; exact s2) (by omega)
  refine ⟨sp, uB - uA, by omega, by omega, ?_⟩
  rw [hit_iff, ex, ey]
  have m1 := mean (p := uB) (q := -uA) u2 (by omega) kA.a1 kA.a2 kB.a1 kB.a2
  have m2 := mean (p := uB) (q := -uA) u2 (by omega) kA.b1 kA.b2 kB.b1 kB.b2
  rw [Int.mul_neg, show uB + -uA = uB - uA by omega] at m1 m2
  exact ⟨v2, ⟨by omega, by omega⟩, by omega, by omega⟩
end Hd
end Go.Proofs.Ytaflgmiagjldhaa
