/- Plain mathematics: segments that cross a side or a diagonal of a rectangle. -/
import Derived.Test.YtaflgmiagjldhaaSCross
set_option linter.unusedVariables false
namespace Go.Proofs.Ytaflgmiagjldhaa
namespace Hd

/-- Segments that cross, one of them in the rectangle. -/
theorem cross_runs {a b c d e f g h x0 y0 x1 y1 : Int} (kA : InR e f x0 y0 x1 y1) (kB : InR g h x0 y0 x1 y1) (k : Cr a b c d e f g h) : Runs a b c d x0 y0 x1 y1 := by
  rcases Int.lt_trichotomy (pr a b c d g h - pr a b c d e f) 0 with hD | hD | hD
  · exact cross_pos kB kA k.flip2.s1 k.flip2.s2 (by omega)
  · have ex := pr_x a b c d e f g h
    have ey := pr_y a b c d e f g h
    have e0 := pr_diff a b c d e f g h
    obtain ⟨o1, o2, o3, o4, s1, s2⟩ := k
    have hu : pr a b c d g h = pr a b c d e f := by omega
    have hs : pr e f g h a b = pr e f g h c d := by omega
    have zA : pr a b c d e f = 0 := by
      rw [hu] at s1
      by_cases hz : pr a b c d e f = 0
      · exact hz
      · have := sq_nonneg (pr a b c d e f)
        rcases Int.lt_or_le 0 (pr a b c d e f * pr a b c d e f) with h1 | h1
        · exact absurd h1 s1
        · rcases Int.mul_eq_zero.1 (show pr a b c d e f * pr a b c d e f = 0 by omega) with h2 | h2 <;> exact absurd h2 hz
    have zB : pr a b c d g h = 0 := by omega
    have zq : pr e f g h c d = 0 := by
      rw [hs] at s2
      by_cases hz : pr e f g h c d = 0
      · exact hz
      · have := sq_nonneg (pr e f g h c d)
        rcases Int.lt_or_le 0 (pr e f g h c d * pr e f g h c d) with h1 | h1
        · exact absurd h1 s2
        · rcases Int.mul_eq_zero.1 (show pr e f g h c d * pr e f g h c d = 0 by omega) with h2 | h2 <;> exact absurd h2 hz
    have zp : pr e f g h a b = 0 := by omega
    -- between the ends of a line that is not upright
    have btw : ∀ {p q r s u v : Int}, p ≠ r → (r - p) * (v - q) - (s - q) * (u - p) = 0 → min p r ≤ u → u ≤ max p r → min q s ≤ v ∧ v ≤ max q s := by
      intro p q r s u v hpr hz l1 l2
      have hz2 : (r - p) * (v - q) = (s - q) * (u - p) := by omega
      rcases Int.lt_or_le p r with h1 | h1
      · have w1 : 0 ≤ u - p := by omega
        have w2 : u - p ≤ r - p := by omega
        rcases Int.le_total q s with h2 | h2
        · have a1 := Int.mul_nonneg (show 0 ≤ s - q by omega) w1
          have a2 := Int.mul_le_mul_of_nonneg_left w2 (show 0 ≤ s - q by omega)
          have b1 : 0 ≤ v - q := le_cancel (c := r - p) (by omega) (by grind)
          have b2 : v - q ≤ s - q := le_cancel (c := r - p) (by omega) (by grind)
          omega
        · have a1 := Int.mul_nonneg (show 0 ≤ q - s by omega) w1
          have a2 := Int.mul_le_mul_of_nonneg_left w2 (show 0 ≤ q - s by omega)
          have b1 : v - q ≤ 0 := le_cancel (c := r - p) (by omega) (by grind)
          have b2 : s - q ≤ v - q := le_cancel (c := r - p) (by omega) (by grind)
          omega
      · have w1 : 0 ≤ p - u := by omega
        have w2 : p - u ≤ p - r := by omega
        have hz3 : (p - r) * (v - q) = (s - q) * (p - u) := by grind
        rcases Int.le_total q s with h2 | h2
        · have a1 := Int.mul_nonneg (show 0 ≤ s - q by omega) w1
          have a2 := Int.mul_le_mul_of_nonneg_left w2 (show 0 ≤ s - q by omega)
          have b1 : 0 ≤ v - q := le_cancel (c := p - r) (by omega) (by grind)
          have b2 : v - q ≤ s - q := le_cancel (c := p - r) (by omega) (by grind)
          omega
        · have a1 := Int.mul_nonneg (show 0 ≤ q - s by omega) w1
          have a2 := Int.mul_le_mul_of_nonneg_left w2 (show 0 ≤ q - s by omega)
          have b1 : v - q ≤ 0 := le_cancel (c := p - r) (by omega) (by grind)
          have b2 : s - q ≤ v - q := le_cancel (c := p - r) (by omega) (by grind)
          omega
    have inAB : ∀ u v, min e g ≤ u → u ≤ max e g → min f h ≤ v → v ≤ max f h → InR u v x0 y0 x1 y1 := by
      intro u v h1 h2 h3 h4
      obtain ⟨k1, k2, k3, k4⟩ := kA
      obtain ⟨l1, l2, l3, l4⟩ := kB
      exact ⟨by omega, by omega, by omega, by omega⟩
    unfold pr at zA zB zp zq
    by_cases heg : e = g
    · by_cases hfh : f = h
      · subst heg hfh
        exact runs_on (e := e) (f := f) kA (by unfold pr; exact zA) (by omega) (by omega) (by omega) (by omega)
      · -- upright: take the second coordinate
        subst heg
        have sw : ∀ u v : Int, (e - e) * (v - f) - (h - f) * (u - e) = 0 → u = e := by
          intro u v hz
          have h0 : (e - e) * (v - f) = 0 := by rw [Int.sub_self, Int.zero_mul]
          rcases Int.mul_eq_zero.1 (show (h - f) * (u - e) = 0 by omega) with h1 | h1 <;> omega
        have pa := sw a b zp
        have pc := sw c d zq
        subst pa
        obtain rfl : a = c := by omega
        by_cases hb : min f h ≤ b ∧ b ≤ max f h
        · exact runs_in (inAB a b (by omega) (by omega) hb.1 hb.2)
        by_cases hd : min f h ≤ d ∧ d ≤ max f h
        · exact (runs_in (inAB a d (by omega) (by omega) hd.1 hd.2)).flip
        exact runs_on (e := a) (f := f) kA (by unfold pr; exact zA) (by omega) (by omega) (by omega) (by omega)
    · by_cases ha : min e g ≤ a ∧ a ≤ max e g
      · have := btw heg zp ha.1 ha.2
        exact runs_in (inAB a b ha.1 ha.2 this.1 this.2)
      by_cases hc : min e g ≤ c ∧ c ≤ max e g
      · have := btw heg zq hc.1 hc.2
        exact (runs_in (inAB c d hc.1 hc.2 this.1 this.2)).flip
      have hac : a ≠ c := by omega
      have hE : min a c ≤ e ∧ e ≤ max a c := by omega
      have := btw hac zA hE.1 hE.2
      exact runs_on (e := e) (f := f) kA (by unfold pr; exact zA) hE.1 hE.2 this.1 this.2
  · exact cross_pos kA kB k.s1 k.s2 hD
theorem nonpos_of {x y : Int} {m : Int} (hm : 1 ≤ m) (h : (m * x) * (m * y) ≤ 0) : ¬ 0 < x * y := by
  intro h0
  have h1 : 0 < m * m := Int.mul_pos (by omega) (by omega)
  have h2 := Int.mul_pos h1 h0
  have : m * m * (x * y) = (m * x) * (m * y) := by grind
  omega
theorem sq_opp {k x y : Int} (h : x ≤ 0) (g : 0 ≤ y) : (k * x) * (k * y) ≤ 0 := by
  have h1 := Int.mul_nonneg (sq_nonneg k) (Int.mul_nonneg (show 0 ≤ -x by omega) g)
  have : k * k * (-x * y) = -((k * x) * (k * y)) := by grind
  omega
/-- A segment with a point on an upright segment crosses it. -/
theorem cross_up {a b c d e f h t m : Int} (hm : 1 ≤ m) (t0 : 0 ≤ t) (tm : t ≤ m) (hfh : f ≤ h) (hx : a * m + t * (c - a) = e * m) (h1 : f * m ≤ b * m + t * (d - b)) (h2 : b * m + t * (d - b) ≤ h * m) : Cr a b c d e f e h := by
  have wm : ∀ p q : Int, min p q * m ≤ p * m + t * (q - p) ∧ p * m + t * (q - p) ≤ max p q * m := by
    intro p q
    have := mean (lo := min p q) (hi := max p q) (e := p) (g := q) (p := m - t) (q := t) (by omega) t0 (by omega) (by omega) (by omega) (by omega)
    rw [show m - t + t = m by omega] at this
    have e : p * (m - t) + q * t = p * m + t * (q - p) := by grind
    omega
  have wx := wm a c
  have wy := wm b d
  rw [hx] at wx
  have e1 : min a c ≤ e := le_cancel hm wx.1
  have e2 : e ≤ max a c := le_cancel hm wx.2
  have e3 : min b d ≤ h := le_cancel hm (by omega)
  have e4 : f ≤ max b d := le_cancel hm (by omega)
  refine ⟨by omega, by omega, by omega, by omega, ?_, ?_⟩
  · refine nonpos_of hm ?_
    have q1 : m * pr a b c d e f = (c - a) * (f * m - (b * m + t * (d - b))) := by
      unfold pr
      have : (d - b) * (e * m) = (d - b) * (a * m + t * (c - a)) := by rw [hx]
      grind
    have q2 : m * pr a b c d e h = (c - a) * (h * m - (b * m + t * (d - b))) := by
      unfold pr
      have : (d - b) * (e * m) = (d - b) * (a * m + t * (c - a)) := by rw [hx]
      grind
    rw [q1, q2]
    exact sq_opp (by omega) (by omega)
  · have q1 : pr e f e h a b = (h - f) * (e - a) := by unfold pr; grind
    have q2 : pr e f e h c d = (h - f) * (e - c) := by unfold pr; grind
    rw [q1, q2]
    have : (h - f) * (e - a) * ((h - f) * (e - c)) ≤ 0 := by
      rcases Int.le_total a c with hh | hh
      · have := sq_opp (k := h - f) (show e - c ≤ 0 by omega) (show 0 ≤ e - a by omega)
        rw [Int.mul_comm] at this; exact this
      · exact sq_opp (k := h - f) (show e - a ≤ 0 by omega) (show 0 ≤ e - c by omega)
    omega
theorem pr_tr (a b c d u v : Int) : pr b a d c v u = -pr a b c d u v := by unfold pr; grind
theorem Cr.tr {a b c d e f g h : Int} (k : Cr b a d c f e h g) : Cr a b c d e f g h := by
  obtain ⟨o1, o2, o3, o4, s1, s2⟩ := k
  rw [pr_tr a b c d e f, pr_tr a b c d g h, Int.neg_mul_neg] at s1
  rw [pr_tr e f g h a b, pr_tr e f g h c d, Int.neg_mul_neg] at s2
  exact ⟨o3, o4, o1, o2, s1, s2⟩
/-- Where a segment runs into the rectangle, it crosses a side, if it does not begin in it. -/
theorem tight {a b x y x0 y0 x1 y1 : Int} : (pasS a b x y x0 y0 x1 y1).i = 0 ∨ ((pasS a b x y x0 y0 x1 y1).i * x = (x0 - a) * (pasS a b x y x0 y0 x1 y1).j ∨ (pasS a b x y x0 y0 x1 y1).i * x = (x1 - a) * (pasS a b x y x0 y0 x1 y1).j) ∨
    ((pasS a b x y x0 y0 x1 y1).i * y = (y0 - b) * (pasS a b x y x0 y0 x1 y1).j ∨ (pasS a b x y x0 y0 x1 y1).i * y = (y1 - b) * (pasS a b x y x0 y0 x1 y1).j) := by
  have cI : ∀ (s : Sp) (X L H : Int), ((cutP s X L H).i = s.i ∧ (cutP s X L H).j = s.j) ∨ ((cutP s X L H).i = L ∧ (cutP s X L H).j = X) := by
    intro s X L H
    unfold cutP cutO cutI
    split <;> split <;> simp
  have cS : ∀ (s : Sp) (x lo hi : Int), ((cutS s x lo hi).i = s.i ∧ (cutS s x lo hi).j = s.j) ∨ ((cutS s x lo hi).i * x = lo * (cutS s x lo hi).j ∨ (cutS s x lo hi).i * x = hi * (cutS s x lo hi).j) := by
    intro s x lo hi
    unfold cutS
    split
    · exact .inl ⟨rfl, rfl⟩
    · split
      · rcases cI s (-x) (-hi) (-lo) with h | ⟨h, g⟩
        · exact .inl h
        · right; right; rw [h, g]; grind
      · rcases cI s x lo hi with h | ⟨h, g⟩
        · exact .inl h
        · right; left; rw [h, g]
  unfold pasS
  split
  · rcases cS (cutS s0 x (x0 - a) (x1 - a)) y (y0 - b) (y1 - b) with ⟨h1, h2⟩ | h
    · rw [h1, h2]
      rcases cS s0 x (x0 - a) (x1 - a) with ⟨g1, g2⟩ | g
      · left; rw [g1]; rfl
      · exact .inr (.inl g)
    · exact .inr (.inr h)
  · left; rfl
theorem runs_side {a b c d x0 y0 x1 y1 : Int} (hx : x0 ≤ x1) (hy : y0 ≤ y1) (k : Runs a b c d x0 y0 x1 y1) :
    InR a b x0 y0 x1 y1 ∨ Cr a b c d x0 y0 x1 y0 ∨ Cr a b c d x1 y0 x1 y1 ∨ Cr a b c d x1 y1 x0 y1 ∨ Cr a b c d x0 y1 x0 y0 := by
  have hr := runB_iff.2 k
  unfold runB at hr
  rw [Bool.and_eq_true, decide_eq_true_eq] at hr
  obtain ⟨hb, hle⟩ := hr
  rcases pas_sem a b (c - a) (d - b) x0 y0 x1 y1 with ⟨-, w, -, i⟩ | ⟨h1, -⟩
  · have hh := (i _ _ w.j1).1 ⟨Int.le_refl _, w.ne⟩
    rw [hit_iff] at hh
    have ht := tight (a := a) (b := b) (x := c - a) (y := d - b) (x0 := x0) (y0 := y0) (x1 := x1) (y1 := y1)
    have j1 := w.j1
    generalize (pasS a b (c - a) (d - b) x0 y0 x1 y1).i = t at *
    generalize (pasS a b (c - a) (d - b) x0 y0 x1 y1).j = m at *
    obtain ⟨t0, ⟨g1, g2⟩, g3, g4⟩ := hh
    rcases ht with ht | (ht | ht) | ht | ht
    · left
      subst ht
      rw [Int.zero_mul] at g1 g2 g3 g4
      exact ⟨le_cancel j1 (by omega), le_cancel j1 (by omega), le_cancel j1 (by omega), le_cancel j1 (by omega)⟩
    · right; right; right; right
      exact (cross_up j1 t0 hle hy (show a * m + t * (c - a) = x0 * m by grind) g3 g4).flip2
    · right; right; left
      exact cross_up j1 t0 hle hy (show a * m + t * (c - a) = x1 * m by grind) g3 g4
    · right; left
      exact (cross_up j1 t0 hle hx (show b * m + t * (d - b) = y0 * m by grind) g1 g2).tr
    · right; right; right; left
      exact (cross_up j1 t0 hle hx (show b * m + t * (d - b) = y1 * m by grind) g1 g2).tr.flip2
  · rw [hb] at h1; cases h1
end Hd
end Go.Proofs.Ytaflgmiagjldhaa
