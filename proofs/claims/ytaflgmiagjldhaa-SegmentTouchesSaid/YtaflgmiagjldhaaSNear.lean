/- Plain mathematics: distances of points from a rectangle and from a segment. -/
import Derived.Test.YtaflgmiagjldhaaSCross3
set_option linter.unusedVariables false
namespace Go.Proofs.Ytaflgmiagjldhaa
namespace Hd

instance (a b x0 y0 x1 y1 : Int) : Decidable (InR a b x0 y0 x1 y1) := decidable_of_iff ((x0 ≤ a ∧ a ≤ x1) ∧ y0 ≤ b ∧ b ≤ y1) ⟨fun h => ⟨h.1.1, h.1.2, h.2.1, h.2.2⟩, fun h => ⟨⟨h.a1, h.a2⟩, h.b1, h.b2⟩⟩
theorem off_in {p lo hi : Int} (h : lo ≤ hi) : off p lo hi = 0 ↔ lo ≤ p ∧ p ≤ hi := by rw [off_eq h]; repeat' split <;> omega
theorem gap_zero {a b x0 y0 x1 y1 : Int} (hx : x0 ≤ x1) (hy : y0 ≤ y1) : gapM a b x0 y0 x1 y1 = 0 ↔ InR a b x0 y0 x1 y1 := by
  have h1 := sq_nonneg (off a x0 x1)
  have h2 := sq_nonneg (off b y0 y1)
  unfold gapM
  constructor
  · intro h
    have e1 : off a x0 x1 = 0 := by rcases Int.mul_eq_zero.1 (show off a x0 x1 * off a x0 x1 = 0 by omega) with g | g <;> exact g
    have e2 : off b y0 y1 = 0 := by rcases Int.mul_eq_zero.1 (show off b y0 y1 * off b y0 y1 = 0 by omega) with g | g <;> exact g
    have g1 := (off_in hx).1 e1
    have g2 := (off_in hy).1 e2
    exact ⟨g1.1, g1.2, g2.1, g2.2⟩
  · intro h
    rw [(off_in hx).2 ⟨h.a1, h.a2⟩, (off_in hy).2 ⟨h.b1, h.b2⟩]; rfl
theorem gap_nonneg (a b x0 y0 x1 y1 : Int) : 0 ≤ gapM a b x0 y0 x1 y1 := by
  have h1 := sq_nonneg (off a x0 x1)
  have h2 := sq_nonneg (off b y0 y1)
  unfold gapM; omega
theorem sq_mono {x y : Int} (h0 : 0 ≤ x) (h : x ≤ y ∨ x ≤ -y) : x * x ≤ y * y := by
  rcases h with h | h
  · exact Int.mul_le_mul h h h0 (by omega)
  · have := Int.mul_le_mul h h h0 (show 0 ≤ -y by omega)
    rwa [Int.neg_mul_neg] at this
/-- No point of the rectangle is nearer than the gap. -/
theorem gap_le {a b e f x0 y0 x1 y1 : Int} (k : InR e f x0 y0 x1 y1) : gapM a b x0 y0 x1 y1 ≤ (e - a) * (e - a) + (f - b) * (f - b) := by
  obtain ⟨k1, k2, k3, k4⟩ := k
  have o : ∀ p lo hi v : Int, lo ≤ v → v ≤ hi → off p lo hi ≤ v - p ∨ off p lo hi ≤ -(v - p) := fun p lo hi v h1 h2 => by rw [off_eq (by omega)]; repeat' split <;> omega
  have h1 := sq_mono (off_pos a x0 x1) (o a x0 x1 e k1 k2)
  have h2 := sq_mono (off_pos b y0 y1) (o b y0 y1 f k3 k4)
  unfold gapM; omega
/-- The foot of a point on a segment is in its hull. -/
theorem foot_gap {a b c d e f K : Int} (h1 : 0 < (c - a) * (e - a) + (d - b) * (f - b)) (h2 : (c - a) * (e - a) + (d - b) * (f - b) < (c - a) * (c - a) + (d - b) * (d - b))
    (h3 : pr a b c d e f * pr a b c d e f ≤ K * ((c - a) * (c - a) + (d - b) * (d - b))) : gapM e f (min a c) (min b d) (max a c) (max b d) ≤ K := by
  have idn : ((c - a) * (c - a) + (d - b) * (d - b)) * (pr a b c d e f * pr a b c d e f) =
      (((c - a) * (c - a) + (d - b) * (d - b)) * (e - a) - ((c - a) * (e - a) + (d - b) * (f - b)) * (c - a)) * (((c - a) * (c - a) + (d - b) * (d - b)) * (e - a) - ((c - a) * (e - a) + (d - b) * (f - b)) * (c - a)) +
      (((c - a) * (c - a) + (d - b) * (d - b)) * (f - b) - ((c - a) * (e - a) + (d - b) * (f - b)) * (d - b)) * (((c - a) * (c - a) + (d - b) * (d - b)) * (f - b) - ((c - a) * (e - a) + (d - b) * (f - b)) * (d - b)) := by unfold pr; grind
  generalize hD : (c - a) * (e - a) + (d - b) * (f - b) = dot at *
  generalize hL : (c - a) * (c - a) + (d - b) * (d - b) = long at *
  generalize pr a b c d e f * pr a b c d e f = N at *
  clear hD hL
  have key : ∀ p q v : Int, long * off v (min p q) (max p q) ≤ long * (v - p) - dot * (q - p) ∨ long * off v (min p q) (max p q) ≤ -(long * (v - p) - dot * (q - p)) := by
    intro p q v
    have m := mean (lo := min p q) (hi := max p q) (e := p) (g := q) (p := long - dot) (q := dot) (by omega) (by omega) (by omega) (by omega) (by omega) (by omega)
    rw [show long - dot + dot = long by omega, show p * (long - dot) + q * dot = long * p + dot * (q - p) by grind] at m
    rw [off_eq (by omega)]
    split
    · right
      have : long * (min p q - v) = min p q * long - long * v := by grind
      have : long * (v - p) = long * v - long * p := by grind
      omega
    · split
      · left
        have : long * (v - max p q) = long * v - max p q * long := by grind
        have : long * (v - p) = long * v - long * p := by grind
        omega
      · rw [Int.mul_zero]; omega
  have o1 := off_pos e (min a c) (max a c)
  have o2 := off_pos f (min b d) (max b d)
  have q1 := sq_mono (Int.mul_nonneg (show 0 ≤ long by omega) o1) (key a c e)
  have q2 := sq_mono (Int.mul_nonneg (show 0 ≤ long by omega) o2) (key b d f)
  have e1 : long * off e (min a c) (max a c) * (long * off e (min a c) (max a c)) + long * off f (min b d) (max b d) * (long * off f (min b d) (max b d)) = gapM e f (min a c) (min b d) (max a c) (max b d) * (long * long) := by unfold gapM; grind
  have l0 : 1 ≤ long * long := mul_pos1 (by omega) (by omega)
  have h4 := mle (show 0 ≤ long by omega) h3
  have e2 : K * long * long = K * (long * long) := Int.mul_assoc _ _ _
  have e3 : N * long = long * N := Int.mul_comm _ _
  exact le_cancel l0 (by omega)
/-- A corner is near to the inner of the segment. -/
structure By (a b c d e f most : Int) : Prop where
  g : gapM e f (min a c) (min b d) (max a c) (max b d) ≤ most
  p1 : 0 < (c - a) * (e - a) + (d - b) * (f - b)
  p2 : (c - a) * (e - a) + (d - b) * (f - b) < (c - a) * (c - a) + (d - b) * (d - b)
  s : pr a b c d e f * pr a b c d e f ≤ most * ((c - a) * (c - a) + (d - b) * (d - b))
instance (a b c d e f most : Int) : Decidable (By a b c d e f most) := decidable_of_iff (gapM e f (min a c) (min b d) (max a c) (max b d) ≤ most ∧ 0 < (c - a) * (e - a) + (d - b) * (f - b) ∧ (c - a) * (e - a) + (d - b) * (f - b) < (c - a) * (c - a) + (d - b) * (d - b) ∧ pr a b c d e f * pr a b c d e f ≤ most * ((c - a) * (c - a) + (d - b) * (d - b)))
  ⟨fun h => ⟨h.1, h.2.1, h.2.2.1, h.2.2.2⟩, fun h => ⟨h.g, h.p1, h.p2, h.s⟩⟩
/-- The reference's near. -/
structure Near (a b c d e f k : Int) : Prop where
  z1 : -3000 ≤ e - a ∧ e - a ≤ 3000
  z2 : -3000 ≤ f - b ∧ f - b ≤ 3000
  n1 : (c - a) * (e - a) + (d - b) * (f - b) ≤ 0 → (e - a) * (e - a) + (f - b) * (f - b) ≤ k * k
  n2 : 0 < (c - a) * (e - a) + (d - b) * (f - b) → (c - a) * (c - a) + (d - b) * (d - b) ≤ (c - a) * (e - a) + (d - b) * (f - b) → (e - c) * (e - c) + (f - d) * (f - d) ≤ k * k
  n3 : 0 < (c - a) * (e - a) + (d - b) * (f - b) → (c - a) * (e - a) + (d - b) * (f - b) < (c - a) * (c - a) + (d - b) * (d - b) → pr a b c d e f * pr a b c d e f ≤ k * k * ((c - a) * (c - a) + (d - b) * (d - b))
/-- The segment and the radius are short. -/
structure Way (a b c d k : Int) : Prop where
  x1 : -1024 ≤ c - a
  x2 : c - a ≤ 1024
  y1 : -1024 ≤ d - b
  y2 : d - b ≤ 1024
  k0 : 0 ≤ k
  k1 : k ≤ 1024
theorem off_small {p lo hi o : Int} (h : lo ≤ hi) (g : off p lo hi ≤ o) : lo - o ≤ p ∧ p ≤ hi + o := by
  have := off_pos p lo hi
  rw [off_eq h] at g this; repeat' split at g <;> omega
theorem gap_small {e f x0 y0 x1 y1 K : Int} (hx : x0 ≤ x1) (hy : y0 ≤ y1) (h : gapM e f x0 y0 x1 y1 ≤ 1048576) : (x0 - 1024 ≤ e ∧ e ≤ x1 + 1024) ∧ (y0 - 1024 ≤ f ∧ f ≤ y1 + 1024) := by
  have h1 := sq_nonneg (off e x0 x1)
  have h2 := sq_nonneg (off f y0 y1)
  unfold gapM at h
  have s1 := sq_le (x := off e x0 x1) (d := 1024) (by omega) (by omega)
  have s2 := sq_le (x := off f y0 y1) (d := 1024) (by omega) (by omega)
  exact ⟨off_small hx s1.2, off_small hy s2.2⟩
theorem Way.sq {a b c d k : Int} (w : Way a b c d k) : 0 ≤ k * k ∧ k * k ≤ 1048576 := by
  have := mul_le (a := k) (b := k) (A := 1024) (B := 1024) (by have := w.k0; omega) w.k1 (by have := w.k0; omega) w.k1
  exact ⟨sq_nonneg k, by omega⟩
theorem by_near {a b c d e f k : Int} (w : Way a b c d k) (h : By a b c d e f (k * k)) : Near a b c d e f k := by
  have hk := w.sq
  obtain ⟨x1, x2, y1, y2, k0, k1⟩ := w
  have s := gap_small (K := 0) (by omega) (by omega) (show gapM e f (min a c) (min b d) (max a c) (max b d) ≤ 1048576 by have := h.g; omega)
  exact ⟨by omega, by omega, fun g => absurd g (by have := h.p1; omega), fun _ g => absurd g (by have := h.p2; omega), fun _ _ => h.s⟩
theorem near_touch {a b c d e f k x0 y0 x1 y1 : Int} (kc : InR e f x0 y0 x1 y1) (h : Near a b c d e f k) : gapM a b x0 y0 x1 y1 ≤ k * k ∨ gapM c d x0 y0 x1 y1 ≤ k * k ∨ By a b c d e f (k * k) := by
  by_cases h1 : (c - a) * (e - a) + (d - b) * (f - b) ≤ 0
  · left; have := gap_le (a := a) (b := b) kc; have := h.n1 h1; omega
  · by_cases h2 : (c - a) * (c - a) + (d - b) * (d - b) ≤ (c - a) * (e - a) + (d - b) * (f - b)
    · right; left; have := gap_le (a := c) (b := d) kc; have := h.n2 (by omega) h2; omega
    · right; right
      have := h.n3 (by omega) (by omega)
      exact ⟨foot_gap (by omega) (by omega) this, by omega, by omega, this⟩
/-- Touch. -/
def To (a b c d x0 y0 x1 y1 k : Int) : Prop := gapM a b x0 y0 x1 y1 ≤ k * k ∨ gapM c d x0 y0 x1 y1 ≤ k * k ∨ runB a b c d x0 y0 x1 y1 = true ∨ By a b c d x0 y0 (k * k) ∨ By a b c d x1 y0 (k * k) ∨ By a b c d x0 y1 (k * k) ∨ By a b c d x1 y1 (k * k)
instance (a b c d x0 y0 x1 y1 k : Int) : Decidable (To a b c d x0 y0 x1 y1 k) := inferInstanceAs (Decidable (_ ∨ _ ∨ _ ∨ _ ∨ _ ∨ _ ∨ _))
/-- What the reference asks. -/
theorem to_ref {a b c d x0 y0 x1 y1 k : Int} (hx : x0 ≤ x1) (hy : y0 ≤ y1) (w : Way a b c d k) : To a b c d x0 y0 x1 y1 k ↔
    (InR a b x0 y0 x1 y1 ∨ gapM a b x0 y0 x1 y1 ≤ k * k ∨ gapM c d x0 y0 x1 y1 ≤ k * k) ∨
    (Cr a b c d x0 y0 x1 y0 ∨ Near a b c d x0 y0 k) ∨ (Cr a b c d x1 y0 x1 y1 ∨ Near a b c d x1 y0 k) ∨ (Cr a b c d x1 y1 x0 y1 ∨ Near a b c d x1 y1 k) ∨ (Cr a b c d x0 y1 x0 y0 ∨ Near a b c d x0 y1 k) := by
  have c00 : InR x0 y0 x0 y0 x1 y1 := ⟨by omega, by omega, by omega, by omega⟩
  have c10 : InR x1 y0 x0 y0 x1 y1 := ⟨by omega, by omega, by omega, by omega⟩
  have c01 : InR x0 y1 x0 y0 x1 y1 := ⟨by omega, by omega, by omega, by omega⟩
  have c11 : InR x1 y1 x0 y0 x1 y1 := ⟨by omega, by omega, by omega, by omega⟩
  unfold To
  rw [runB_iff]
  constructor
  · rintro (h | h | h | h | h | h | h)
    · exact .inl (.inr (.inl h))
    · exact .inl (.inr (.inr h))
    · rcases runs_side hx hy h with g | g | g | g | g
      · exact .inl (.inl g)
      · exact .inr (.inl (.inl g))
      · exact .inr (.inr (.inl (.inl g)))
      · exact .inr (.inr (.inr (.inl (.inl g))))
      · exact .inr (.inr (.inr (.inr (.inl g))))
    · exact .inr (.inl (.inr (by_near w h)))
    · exact .inr (.inr (.inl (.inr (by_near w h))))
    · exact .inr (.inr (.inr (.inr (.inr (by_near w h)))))
    · exact .inr (.inr (.inr (.inl (.inr (by_near w h)))))
  · have cr : ∀ {e f g h}, InR e f x0 y0 x1 y1 → InR g h x0 y0 x1 y1 → Cr a b c d e f g h → _ := fun {e f g h} kA kB q => show gapM a b x0 y0 x1 y1 ≤ k * k ∨ gapM c d x0 y0 x1 y1 ≤ k * k ∨ Runs a b c d x0 y0 x1 y1 ∨ By a b c d x0 y0 (k * k) ∨ By a b c d x1 y0 (k * k) ∨ By a b c d x0 y1 (k * k) ∨ By a b c d x1 y1 (k * k) from .inr (.inr (.inl (cross_runs kA kB q)))
    rintro ((h | h | h) | (h | h) | (h | h) | (h | h) | (h | h))
    · exact .inr (.inr (.inl (runs_in h)))
    · exact .inl h
    · exact .inr (.inl h)
    · exact cr c00 c10 h
    · rcases near_touch c00 h with g | g | g
      · exact .inl g
      · exact .inr (.inl g)
      · exact .inr (.inr (.inr (.inl g)))
    · exact cr c10 c11 h
    · rcases near_touch c10 h with g | g | g
      · exact .inl g
      · exact .inr (.inl g)
      · exact .inr (.inr (.inr (.inr (.inl g))))
    · exact cr c11 c01 h
    · rcases near_touch c11 h with g | g | g
      · exact .inl g
      · exact .inr (.inl g)
      · exact .inr (.inr (.inr (.inr (.inr (.inr g)))))
    · exact cr c01 c00 h
    · rcases near_touch c01 h with g | g | g
      · exact .inl g
      · exact .inr (.inl g)
      · exact .inr (.inr (.inr (.inr (.inr (.inl g)))))
/-- Greater radii. -/
theorem by_more {a b c d e f m n : Int} (h : m ≤ n) (k : By a b c d e f m) : By a b c d e f n := by
  obtain ⟨g, p1, p2, s⟩ := k
  refine ⟨by omega, p1, p2, ?_⟩
  have := mle (show 0 ≤ (c - a) * (c - a) + (d - b) * (d - b) by omega) h
  omega
theorem to_more {a b c d x0 y0 x1 y1 k : Int} (k0 : 0 ≤ k) (h : To a b c d x0 y0 x1 y1 k) : To a b c d x0 y0 x1 y1 (k + 1) := by
  have hk : k * k ≤ (k + 1) * (k + 1) := Int.mul_le_mul (by omega) (by omega) k0 (by omega)
  rcases h with h | h | h | h | h | h | h
  · exact .inl (by omega)
  · exact .inr (.inl (by omega))
  · exact .inr (.inr (.inl h))
  · exact .inr (.inr (.inr (.inl (by_more hk h))))
  · exact .inr (.inr (.inr (.inr (.inl (by_more hk h)))))
  · exact .inr (.inr (.inr (.inr (.inr (.inl (by_more hk h))))))
  · exact .inr (.inr (.inr (.inr (.inr (.inr (by_more hk h))))))
theorem by_flip {a b c d e f m : Int} (k : By a b c d e f m) : By c d a b e f m := by
  obtain ⟨g, p1, p2, s⟩ := k
  have e1 : (a - c) * (e - c) + (b - d) * (f - d) = (c - a) * (c - a) + (d - b) * (d - b) - ((c - a) * (e - a) + (d - b) * (f - b)) := by grind
  have e2 : (a - c) * (a - c) + (b - d) * (b - d) = (c - a) * (c - a) + (d - b) * (d - b) := by grind
  refine ⟨by rw [Int.min_comm c a, Int.min_comm d b, Int.max_comm c a, Int.max_comm d b]; exact g, by omega, by omega, ?_⟩
  rw [pr_anti a b c d e f, Int.neg_mul_neg, e2]; exact s
theorem to_flip {a b c d x0 y0 x1 y1 k : Int} : To c d a b x0 y0 x1 y1 k ↔ To a b c d x0 y0 x1 y1 k := by
  have key : ∀ {a b c d : Int}, To c d a b x0 y0 x1 y1 k → To a b c d x0 y0 x1 y1 k := by
    intro a b c d h
    rcases h with h | h | h | h | h | h | h
    · exact .inr (.inl h)
    · exact .inl h
    · exact .inr (.inr (.inl (runB_iff.2 (runB_iff.1 h).flip)))
    · exact .inr (.inr (.inr (.inl (by_flip h))))
    · exact .inr (.inr (.inr (.inr (.inl (by_flip h)))))
    · exact .inr (.inr (.inr (.inr (.inr (.inl (by_flip h))))))
    · exact .inr (.inr (.inr (.inr (.inr (.inr (by_flip h))))))
  exact ⟨key, key⟩
theorem no_by {a b e f m : Int} : ¬ By a b a b e f m := fun h => by
  have := h.p1
  rw [Int.sub_self, Int.sub_self, Int.zero_mul, Int.zero_mul] at this; omega
theorem to_point {a b x0 y0 x1 y1 k : Int} (hx : x0 ≤ x1) (hy : y0 ≤ y1) : To a b a b x0 y0 x1 y1 k ↔ gapM a b x0 y0 x1 y1 ≤ k * k := by
  constructor
  · rintro (h | h | h | h | h | h | h)
    · exact h
    · exact h
    · obtain ⟨t, m, hm, tm, hh⟩ := runB_iff.1 h
      rw [hit_iff] at hh
      obtain ⟨t0, ⟨g1, g2⟩, g3, g4⟩ := hh
      rw [Int.sub_self, Int.mul_zero] at g1 g2 g3 g4
      have : InR a b x0 y0 x1 y1 := ⟨le_cancel hm (by omega), le_cancel hm (by omega), le_cancel hm (by omega), le_cancel hm (by omega)⟩
      rw [(gap_zero hx hy).2 this]; exact sq_nonneg k
    all_goals exact absurd h no_by
  · exact fun h => .inl h
theorem by_zero {a b c d e f x0 y0 x1 y1 : Int} (kc : InR e f x0 y0 x1 y1) (h : By a b c d e f 0) : Runs a b c d x0 y0 x1 y1 := by
  obtain ⟨g, p1, p2, s⟩ := h
  have g0 := gap_nonneg e f (min a c) (min b d) (max a c) (max b d)
  have hin := (gap_zero (by omega) (by omega)).1 (show gapM e f (min a c) (min b d) (max a c) (max b d) = 0 by omega)
  have n0 := sq_nonneg (pr a b c d e f)
  rw [Int.zero_mul] at s
  have hz : pr a b c d e f = 0 := by rcases Int.mul_eq_zero.1 (show pr a b c d e f * pr a b c d e f = 0 by omega) with h | h <;> exact h
  exact runs_on kc hz hin.a1 hin.a2 hin.b1 hin.b2
/-- With the radius 0. -/
theorem to_zero {a b c d x0 y0 x1 y1 : Int} (hx : x0 ≤ x1) (hy : y0 ≤ y1) : To a b c d x0 y0 x1 y1 0 ↔ gapM a b x0 y0 x1 y1 = 0 ∨ gapM c d x0 y0 x1 y1 = 0 ∨ Cr a b c d x0 y0 x1 y1 ∨ Cr a b c d x0 y1 x1 y0 := by
  have c00 : InR x0 y0 x0 y0 x1 y1 := ⟨by omega, by omega, by omega, by omega⟩
  have c10 : InR x1 y0 x0 y0 x1 y1 := ⟨by omega, by omega, by omega, by omega⟩
  have c01 : InR x0 y1 x0 y0 x1 y1 := ⟨by omega, by omega, by omega, by omega⟩
  have c11 : InR x1 y1 x0 y0 x1 y1 := ⟨by omega, by omega, by omega, by omega⟩
  have g1 := gap_nonneg a b x0 y0 x1 y1
  have g2 := gap_nonneg c d x0 y0 x1 y1
  have fin : Runs a b c d x0 y0 x1 y1 → gapM a b x0 y0 x1 y1 = 0 ∨ gapM c d x0 y0 x1 y1 = 0 ∨ Cr a b c d x0 y0 x1 y1 ∨ Cr a b c d x0 y1 x1 y0 := by
    intro h
    rcases runs_diag hx hy h with h | h | h | h
    · exact .inl ((gap_zero hx hy).2 h)
    · exact .inr (.inl ((gap_zero hx hy).2 h))
    · exact .inr (.inr (.inl h))
    · exact .inr (.inr (.inr h))
  unfold To
  rw [Int.mul_zero]
  constructor
  · rintro (h | h | h | h | h | h | h)
    · exact .inl (by omega)
    · exact .inr (.inl (by omega))
    · exact fin (runB_iff.1 h)
    · exact fin (by_zero c00 h)
    · exact fin (by_zero c10 h)
    · exact fin (by_zero c01 h)
    · exact fin (by_zero c11 h)
  · rintro (h | h | h | h)
    · exact .inl (by omega)
    · exact .inr (.inl (by omega))
    · exact .inr (.inr (.inl (runB_iff.2 (cross_runs c00 c11 h))))
    · exact .inr (.inr (.inl (runB_iff.2 (cross_runs c01 c10 h))))
end Hd
end Go.Proofs.Ytaflgmiagjldhaa
