/- Plain mathematics: the distances as the reference finds them are the program's. -/
import Derived.Test.YtkhcogfajihecaaS7
set_option linter.unusedVariables false
namespace Go.Proofs.Ytkhcogfajihecaa
namespace Hd

/-- The range in which one coordinate is between the bounds. -/
def axS (p x lo hi : Int) : Sp := if x < 0 then ⟨p - hi, -x, p - lo, -x⟩ else ⟨lo - p, x, hi - p, x⟩
def tmC (A B : Sp) : Sp := cutI (cutO (cutI A B.j B.i) B.u B.o) 1 0
def emB (S : Sp) : Bool := decide (S.o * S.j < S.i * S.u)
def reS (S : Sp) : Sp := if emB S = true then sz else S
def tmS (a b x y x0 y0 x1 y1 : Int) : Sp := tmC (if x = 0 then axS b y y0 y1 else axS a x x0 x1) (if y = 0 then axS a x x0 x1 else axS b y y0 y1)
def tmX (a x x0 x1 : Int) : Prop := x = 0 ∧ (a < x0 ∨ x1 < a)
instance (a x x0 x1 : Int) : Decidable (tmX a x x0 x1) := inferInstanceAs (Decidable (_ ∧ _))
def tmE (a b x y x0 y0 x1 y1 : Int) : Bool := decide (tmX a x x0 x1 ∨ tmX b y y0 y1) || emB (tmS a b x y x0 y0 x1 y1)
def tmR (a b x y x0 y0 x1 y1 : Int) : Sp := if tmE a b x y x0 y0 x1 y1 = true then sz else tmS a b x y x0 y0 x1 y1

theorem axS_in {p x lo hi t m : Int} (hx : x ≠ 0) : InS (axS p x lo hi) t m ↔ (lo - p) * m ≤ t * x ∧ t * x ≤ (hi - p) * m := by
  unfold axS InS
  split
  · dsimp only
    have e1 : (p - hi) * m = -((hi - p) * m) := by grind
    have e2 : (p - lo) * m = -((lo - p) * m) := by grind
    rw [e1, e2, Int.mul_neg]
    omega
  · exact Iff.rfl
theorem axS_pos {p x lo hi : Int} (hx : x ≠ 0) : 1 ≤ (axS p x lo hi).j ∧ 1 ≤ (axS p x lo hi).u := by
  unfold axS; split <;> dsimp only <;> omega
theorem tmC_pos {A B : Sp} (a1 : 1 ≤ A.j) (a2 : 1 ≤ A.u) (b1 : 1 ≤ B.j) (b2 : 1 ≤ B.u) : 1 ≤ (tmC A B).j ∧ 1 ≤ (tmC A B).u ∧ 0 ≤ (tmC A B).i := by
  unfold tmC
  have h1 : ∀ {s : Sp} {X L : Int}, 1 ≤ s.j → 1 ≤ s.u → 1 ≤ X → 1 ≤ (cutI s X L).j ∧ 1 ≤ (cutI s X L).u := by
    intro s X L h g x; unfold cutI; split <;> exact ⟨by assumption, by assumption⟩
  have h2 : ∀ {s : Sp} {X H : Int}, 1 ≤ s.j → 1 ≤ s.u → 1 ≤ X → 1 ≤ (cutO s X H).j ∧ 1 ≤ (cutO s X H).u := by
    intro s X H h g x; unfold cutO; split <;> exact ⟨by assumption, by assumption⟩
  have c1 := h1 (L := B.i) a1 a2 b1
  have c2 := h2 (H := B.o) c1.1 c1.2 b2
  have c3 := h1 (X := 1) (L := 0) c2.1 c2.2 (by omega)
  refine ⟨c3.1, c3.2, ?_⟩
  generalize cutO (cutI A B.j B.i) B.u B.o = s at *
  unfold cutI
  split
  · exact Int.le_refl _
  · rename_i h; omega
theorem tmC_in {A B : Sp} {t m : Int} (a1 : 1 ≤ A.j) (a2 : 1 ≤ A.u) (b1 : 1 ≤ B.j) (b2 : 1 ≤ B.u) (hm : 1 ≤ m) : InS (tmC A B) t m ↔ 0 ≤ t ∧ InS A t m ∧ InS B t m := by
  unfold tmC
  have c1 : 1 ≤ (cutI A B.j B.i).j ∧ 1 ≤ (cutI A B.j B.i).u := by unfold cutI; split <;> exact ⟨by assumption, by assumption⟩
  have c2 : 1 ≤ (cutO (cutI A B.j B.i) B.u B.o).j := by unfold cutO; split; exact c1.1; exact c1.1
  rw [cutI_in c2 (by omega) hm, cutO_in (by omega) (by omega) b2 hm, cutI_in a1 b1 hm]
  show ((InS A t m ∧ B.i * m ≤ t * B.j) ∧ t * B.u ≤ B.o * m) ∧ 0 * m ≤ t * 1 ↔ 0 ≤ t ∧ InS A t m ∧ B.i * m ≤ t * B.j ∧ t * B.u ≤ B.o * m
  exact ⟨fun ⟨⟨⟨h1, h2⟩, h3⟩, h4⟩ => ⟨by omega, h1, h2, h3⟩, fun ⟨h1, h2, h3, h4⟩ => ⟨⟨⟨h2, h3⟩, h4⟩, by omega⟩⟩
theorem tm_sem {a b x y x0 y0 x1 y1 : Int} (hn : x ≠ 0 ∨ y ≠ 0) :
    (tmE a b x y x0 y0 x1 y1 = false ∧ Wf (tmS a b x y x0 y0 x1 y1) ∧ 1 ≤ (tmS a b x y x0 y0 x1 y1).u ∧ ∀ t m, 1 ≤ m → (InS (tmS a b x y x0 y0 x1 y1) t m ↔ Hit a b x y x0 y0 x1 y1 t m)) ∨
    (tmE a b x y x0 y0 x1 y1 = true ∧ ∀ t m, 1 ≤ m → ¬ Hit a b x y x0 y0 x1 y1 t m) := by
  have zero : ∀ {p lo hi t m : Int}, 1 ≤ m → ¬ (p < lo ∨ hi < p) → (lo - p) * m ≤ t * 0 ∧ t * 0 ≤ (hi - p) * m := fun {p lo hi t m} hm h => by
    have := mle (show 0 ≤ m by omega) (show lo - p ≤ 0 by omega)
    have := mle (show 0 ≤ m by omega) (show 0 ≤ hi - p by omega)
    omega
  have nozero : ∀ {p lo hi t m : Int}, 1 ≤ m → (p < lo ∨ hi < p) → ¬ ((lo - p) * m ≤ t * 0 ∧ t * 0 ≤ (hi - p) * m) := fun {p lo hi t m} hm h g => by
    rcases h with h | h
    · have := mul_pos1 (show 1 ≤ lo - p by omega) hm; omega
    · have := mle (show 0 ≤ m by omega) (show hi - p ≤ -1 by omega); omega
  by_cases hX : tmX a x x0 x1
  · right
    refine ⟨by unfold tmE; rw [decide_eq_true (.inl hX)]; rfl, fun t m hm g => ?_⟩
    obtain ⟨rfl, h⟩ := hX
    exact nozero hm h g.2.1
  by_cases hY : tmX b y y0 y1
  · right
    refine ⟨by unfold tmE; rw [decide_eq_true (.inr hY)]; rfl, fun t m hm g => ?_⟩
    obtain ⟨rfl, h⟩ := hY
    exact nozero hm h g.2.2
  have e : tmE a b x y x0 y0 x1 y1 = emB (tmS a b x y x0 y0 x1 y1) := by unfold tmE; rw [decide_eq_false (by rintro (h | h); exact hX h; exact hY h)]; rfl
  rw [e]
  have key : (1 ≤ (tmS a b x y x0 y0 x1 y1).j ∧ 1 ≤ (tmS a b x y x0 y0 x1 y1).u ∧ 0 ≤ (tmS a b x y x0 y0 x1 y1).i) ∧ ∀ t m, 1 ≤ m → (InS (tmS a b x y x0 y0 x1 y1) t m ↔ Hit a b x y x0 y0 x1 y1 t m) := by
    unfold tmS Hit
    by_cases hx : x = 0
    · have hy : y ≠ 0 := by omega
      have px := axS_pos (p := b) (lo := y0) (hi := y1) hy
      subst hx
      have h0 : ¬ (a < x0 ∨ x1 < a) := fun h => hX ⟨rfl, h⟩
      rw [if_pos rfl, if_neg hy]
      refine ⟨tmC_pos px.1 px.2 px.1 px.2, fun t m hm => ?_⟩
      rw [tmC_in px.1 px.2 px.1 px.2 hm, axS_in hy]
      have := zero (t := t) hm h0
      constructor
      · exact fun g => ⟨g.1, this, g.2.1⟩
      · exact fun g => ⟨g.1, g.2.2, g.2.2⟩
    · have px := axS_pos (p := a) (lo := x0) (hi := x1) hx
      rw [if_neg hx]
      by_cases hy : y = 0
      · subst hy
        have h0 : ¬ (b < y0 ∨ y1 < b) := fun h => hY ⟨rfl, h⟩
        rw [if_pos rfl]
        refine ⟨tmC_pos px.1 px.2 px.1 px.2, fun t m hm => ?_⟩
        rw [tmC_in px.1 px.2 px.1 px.2 hm, axS_in hx]
        have := zero (t := t) hm h0
        constructor
        · exact fun g => ⟨g.1, g.2.1, this⟩
        · exact fun g => ⟨g.1, g.2.1, g.2.1⟩
      · have py := axS_pos (p := b) (lo := y0) (hi := y1) hy
        rw [if_neg hy]
        refine ⟨tmC_pos px.1 px.2 py.1 py.2, fun t m hm => ?_⟩
        rw [tmC_in px.1 px.2 py.1 py.2 hm, axS_in hx, axS_in hy]
  obtain ⟨⟨k1, k2, k3⟩, k4⟩ := key
  unfold emB
  by_cases h : (tmS a b x y x0 y0 x1 y1).o * (tmS a b x y x0 y0 x1 y1).j < (tmS a b x y x0 y0 x1 y1).i * (tmS a b x y x0 y0 x1 y1).u
  · right
    refine ⟨decide_eq_true h, fun t m hm g => ?_⟩
    have := in_ne k1 (by omega) hm ((k4 t m hm).2 g)
    omega
  · left
    exact ⟨decide_eq_false h, ⟨k1, by omega, k3, by omega, by omega⟩, k2, k4⟩
/-- Lowest terms. -/
theorem lw_scale {c n d : Int} (hc : 1 ≤ c) : lwN (c * n) (c * d) = lwN n d ∧ lwD (c * n) (c * d) = lwD n d := by
  have e : gg (c * n) (c * d) = c * gg n d := by
    unfold gg
    rw [Int.natAbs_mul, Int.natAbs_mul, Nat.gcd_mul_left, Int.natCast_mul, Int.natAbs_of_nonneg (by omega)]
  unfold lwN lwD
  rw [e]
  exact ⟨Int.mul_tdiv_mul_of_pos _ _ (by omega), Int.mul_tdiv_mul_of_pos _ _ (by omega)⟩
theorem lw_eq {n1 d1 n2 d2 : Int} (h1 : 1 ≤ d1) (h2 : 1 ≤ d2) (h : n1 * d2 = n2 * d1) : lwN n1 d1 = lwN n2 d2 ∧ lwD n1 d1 = lwD n2 d2 := by
  have a := lw_scale (n := n1) (d := d1) h2
  have b := lw_scale (n := n2) (d := d2) h1
  rw [Int.mul_comm d2 n1, h, Int.mul_comm n2 d1, Int.mul_comm d2 d1] at a
  exact ⟨a.1.symm.trans b.1, a.2.symm.trans b.2⟩
theorem lw_mul {n d : Int} : lwN n d * gg n d = n ∧ lwD n d * gg n d = d :=
  ⟨Int.tdiv_mul_cancel (Int.ofNat_dvd_left.2 (Nat.gcd_dvd_right _ _)), Int.tdiv_mul_cancel (Int.ofNat_dvd_left.2 (Nat.gcd_dvd_left _ _))⟩
theorem lw_pos {n d : Int} (hn : 0 ≤ n) (hd : 1 ≤ d) : 0 ≤ lwN n d ∧ lwN n d ≤ n ∧ 1 ≤ lwD n d ∧ lwD n d ≤ d := by
  have g := gg_pos (n := n) hd
  have m := lw_mul (n := n) (d := d)
  have a0 : 0 ≤ lwN n d := Int.tdiv_nonneg hn (by omega)
  have b0 : 0 ≤ lwD n d := Int.tdiv_nonneg (by omega) (by omega)
  have b1 : 1 ≤ lwD n d := by
    rcases Int.lt_or_le 0 (lwD n d) with h | h
    · omega
    · have e : lwD n d = 0 := by omega
      rw [e] at m; omega
  have a2 := Int.mul_le_mul_of_nonneg_left g a0
  have b2 := Int.mul_le_mul_of_nonneg_left g b0
  exact ⟨a0, by omega, b1, by omega⟩
theorem lw_le {n d k : Int} (hd : 1 ≤ d) : lwN n d ≤ k * lwD n d ↔ n ≤ k * d := by
  have g := gg_pos (n := n) hd
  obtain ⟨m1, m2⟩ := lw_mul (n := n) (d := d)
  generalize gg n d = c at *
  generalize lwN n d = N at *
  generalize lwD n d = D at *
  subst m1 m2
  constructor
  · intro h; have := mle (show 0 ≤ c by omega) h; grind
  · intro h; exact le_cancel g (by grind)
theorem lw_ge {n d k : Int} (hd : 1 ≤ d) : k * lwD n d ≤ lwN n d ↔ k * d ≤ n := by
  have g := gg_pos (n := n) hd
  obtain ⟨m1, m2⟩ := lw_mul (n := n) (d := d)
  generalize gg n d = c at *
  generalize lwN n d = N at *
  generalize lwD n d = D at *
  subst m1 m2
  constructor
  · intro h; have := mle (show 0 ≤ c by omega) h; grind
  · intro h; exact le_cancel g (by grind)
end Hd
open Hd
theorem ok3_n {a b x y d x0 y0 x1 y1 : Int} (h : Ok3 a b x y d x0 y0 x1 y1) : x ≠ 0 ∨ y ≠ 0 := by
  have := h.2.1.eq
  have := h.2.1.lo
  by_cases hx : x = 0
  · by_cases hy : y = 0
    · subst hx hy
      have := Int.mul_pos (show 0 < d by omega) (show 0 < d by omega)
      omega
    · exact .inr hy
  · exact .inl hx
/-- The reference's answers are the program's. -/
theorem tm_vis {a b x y d x0 y0 x1 y1 : Int} (h : Ok3 a b x y d x0 y0 x1 y1) :
    (tmE a b x y x0 y0 x1 y1 = false ∧ visB a b x y d x0 y0 x1 y1 = true ∧ Wf (tmS a b x y x0 y0 x1 y1) ∧ 1 ≤ (tmS a b x y x0 y0 x1 y1).u ∧
      lwN ((tmS a b x y x0 y0 x1 y1).i * d) (tmS a b x y x0 y0 x1 y1).j = enN a b x y d x0 y0 x1 y1 ∧ lwD ((tmS a b x y x0 y0 x1 y1).i * d) (tmS a b x y x0 y0 x1 y1).j = enD a b x y d x0 y0 x1 y1 ∧
      lwN ((tmS a b x y x0 y0 x1 y1).o * d) (tmS a b x y x0 y0 x1 y1).u = leN a b x y d x0 y0 x1 y1 ∧ lwD ((tmS a b x y x0 y0 x1 y1).o * d) (tmS a b x y x0 y0 x1 y1).u = leD a b x y d x0 y0 x1 y1) ∨
    (tmE a b x y x0 y0 x1 y1 = true ∧ visB a b x y d x0 y0 x1 y1 = false) := by
  rcases tm_sem (a := a) (b := b) (x0 := x0) (y0 := y0) (x1 := x1) (y1 := y1) (ok3_n h) with ⟨h1, w1, u1, i1⟩ | ⟨h1, n1⟩
  · left
    rcases hv : visB a b x y d x0 y0 x1 y1 with _ | _
    · exact absurd ((i1 _ _ w1.j1).1 ⟨Int.le_refl _, w1.ne⟩) (visB_no h hv _ _ w1.j1)
    · obtain ⟨-, w2, u2, i2⟩ := visB_wf hv
      obtain ⟨q1, q2⟩ := ends_eq w1 w2 u1 u2 (fun t m hm => (i1 t m hm).trans (i2 t m hm).symm)
      have e1 := lw_eq w1.j1 w2.j1 (show (tmS a b x y x0 y0 x1 y1).i * d * (visS a b x y d x0 y0 x1 y1).j = (visS a b x y d x0 y0 x1 y1).i * d * (tmS a b x y x0 y0 x1 y1).j by grind)
      have e2 := lw_eq u1 u2 (show (tmS a b x y x0 y0 x1 y1).o * d * (visS a b x y d x0 y0 x1 y1).u = (visS a b x y d x0 y0 x1 y1).o * d * (tmS a b x y x0 y0 x1 y1).u by grind)
      refine ⟨h1, rfl, w1, u1, ?_, ?_, ?_, ?_⟩
      · unfold enN; rw [if_pos hv]; exact e1.1
      · unfold enD; rw [if_pos hv]; exact e1.2
      · unfold leN; rw [if_pos hv]; exact e2.1
      · unfold leD; rw [if_pos hv]; exact e2.2
  · right
    refine ⟨h1, ?_⟩
    rcases hv : visB a b x y d x0 y0 x1 y1 with _ | _
    · rfl
    · obtain ⟨-, w2, u2, i2⟩ := visB_wf hv
      exact absurd ((i2 _ _ w2.j1).1 ⟨Int.le_refl _, w2.ne⟩) (n1 _ _ w2.j1)
end Go.Proofs.Ytkhcogfajihecaa
