/- Plain mathematics: directions (x, y)/d, in lowest terms, turned, compared. -/
namespace Go.Proofs.Ytincejndchdcdaa
namespace Hd

/-- A vector. -/
structure V3 where
  x : Int
  y : Int
  d : Int

theorem V3.eq {u v : V3} (hx : u.x = v.x) (hy : u.y = v.y) (hd : u.d = v.d) : u = v := by
  cases u; cases v; simp_all

/-- The greatest common factor of d and x. -/
def gq (x d : Int) : Int := (Nat.gcd d.natAbs x.natAbs : Nat)
/-- In lowest terms. -/
def low (x y d : Int) : V3 := ⟨x.tdiv (gq x d), y.tdiv (gq x d), d.tdiv (gq x d)⟩

theorem gq_pos {x d : Int} (hd : 1 ≤ d) : 1 ≤ gq x d := by
  have : 0 < Nat.gcd d.natAbs x.natAbs := Nat.gcd_pos_of_pos_left _ (by omega)
  unfold gq; omega
theorem gq_dvd_x (x d : Int) : gq x d ∣ x := Int.ofNat_dvd_left.2 (Nat.gcd_dvd_right _ _)
theorem gq_dvd_d (x d : Int) : gq x d ∣ d := Int.ofNat_dvd_left.2 (Nat.gcd_dvd_left _ _)
theorem gq_le {x d : Int} (hd : 1 ≤ d) : gq x d ≤ d := Int.le_of_dvd (by omega) (gq_dvd_d x d)
theorem gq_dvd_y {x y d : Int} (h : x * x + y * y = d * d) : gq x d ∣ y := by
  have h1 : gq x d ^ 2 ∣ y ^ 2 := by
    have e : y ^ 2 = d * d - x * x := by rw [Int.pow_succ, Int.pow_succ, Int.pow_zero, Int.one_mul]; omega
    rw [e, Int.pow_succ, Int.pow_succ, Int.pow_zero, Int.one_mul]
    exact Int.dvd_sub (Int.mul_dvd_mul (gq_dvd_d x d) (gq_dvd_d x d)) (Int.mul_dvd_mul (gq_dvd_x x d) (gq_dvd_x x d))
  exact (Int.pow_dvd_pow_iff (by omega)).1 h1
theorem gq_nat {x y d : Int} (h : x * x + y * y = d * d) : Nat.gcd d.natAbs x.natAbs ∣ y.natAbs := by
  have := gq_dvd_y h
  unfold gq at this
  exact Int.ofNat_dvd_left.1 this

/-- The reference takes the factor of all three. -/
theorem gcd3 {x y d : Int} (h : x * x + y * y = d * d) : Nat.gcd (Nat.gcd x.natAbs y.natAbs) d.natAbs = Nat.gcd d.natAbs x.natAbs := by
  have hy := gq_nat h
  refine Nat.dvd_antisymm ?_ ?_
  · exact Nat.dvd_gcd (Nat.gcd_dvd_right _ _) (Nat.dvd_trans (Nat.gcd_dvd_left _ _) (Nat.gcd_dvd_left _ _))
  · exact Nat.dvd_gcd (Nat.dvd_gcd (Nat.gcd_dvd_right _ _) hy) (Nat.gcd_dvd_left _ _)

/-- What low makes up. -/
theorem low_mul {x y d : Int} (_ : 1 ≤ d) (h : x * x + y * y = d * d) : (low x y d).x * gq x d = x ∧ (low x y d).y * gq x d = y ∧ (low x y d).d * gq x d = d :=
  ⟨Int.tdiv_mul_cancel (gq_dvd_x x d), Int.tdiv_mul_cancel (gq_dvd_y h), Int.tdiv_mul_cancel (gq_dvd_d x d)⟩

theorem low_pos {x y d : Int} (hd : 1 ≤ d) : 1 ≤ (low x y d).d := by
  have h1 := gq_pos (x := x) hd
  have h2 : d.tdiv (gq x d) * gq x d = d := Int.tdiv_mul_cancel (gq_dvd_d x d)
  show 1 ≤ d.tdiv (gq x d)
  rcases Int.lt_or_le 0 (d.tdiv (gq x d)) with h | h
  · omega
  · have := Int.mul_nonneg (show 0 ≤ - d.tdiv (gq x d) by omega) (show 0 ≤ gq x d by omega)
    rw [Int.neg_mul] at this; omega
theorem low_le {x y d : Int} (hd : 1 ≤ d) : (low x y d).d ≤ d := by
  have h1 := gq_pos (x := x) hd
  have h2 : d.tdiv (gq x d) * gq x d = d := Int.tdiv_mul_cancel (gq_dvd_d x d)
  have h3 : 1 ≤ d.tdiv (gq x d) := low_pos (y := y) hd
  show d.tdiv (gq x d) ≤ d
  have := Int.mul_le_mul_of_nonneg_left h1 (show 0 ≤ d.tdiv (gq x d) by omega)
  omega

theorem mul_cancel_sq {a b c g : Int} (hg : g ≠ 0) (h : a * g * (a * g) + b * g * (b * g) = c * g * (c * g)) : a * a + b * b = c * c := by
  have h2 : (g * g) * (a * a + b * b - c * c) = 0 := by grind
  rcases Int.mul_eq_zero.1 h2 with h3 | h3
  · rcases Int.mul_eq_zero.1 h3 with h4 | h4 <;> exact absurd h4 hg
  · omega
theorem low_circle {x y d : Int} (hd : 1 ≤ d) (h : x * x + y * y = d * d) : (low x y d).x * (low x y d).x + (low x y d).y * (low x y d).y = (low x y d).d * (low x y d).d := by
  have h1 := gq_pos (x := x) hd
  obtain ⟨e1, e2, e3⟩ := low_mul hd h
  refine mul_cancel_sq (g := gq x d) (by omega) ?_
  rw [e1, e2, e3]; exact h

/-- A valid vector. -/
structure Ok (v : V3) : Prop where
  lo : 1 ≤ v.d
  hi : v.d ≤ 67108864
  eq : v.x * v.x + v.y * v.y = v.d * v.d

theorem sq_le {x d : Int} (hd : 0 ≤ d) (h : x * x ≤ d * d) : -d ≤ x ∧ x ≤ d := by
  constructor
  · rcases Int.lt_or_le x (-d) with h1 | h1
    · have h2 : (d + 1) * (d + 1) ≤ (-x) * (-x) := Int.mul_le_mul (by omega) (by omega) (by omega) (by omega)
      grind
    · exact h1
  · rcases Int.lt_or_le d x with h1 | h1
    · have h2 : (d + 1) * (d + 1) ≤ x * x := Int.mul_le_mul (by omega) (by omega) (by omega) (by omega)
      grind
    · exact h1
theorem sq_nonneg (x : Int) : 0 ≤ x * x := by
  rcases Int.le_total 0 x with h | h
  · exact Int.mul_nonneg h h
  · have := Int.mul_nonneg (show 0 ≤ -x by omega) (show 0 ≤ -x by omega)
    rwa [Int.neg_mul_neg] at this
theorem Ok.bx {v : V3} (h : Ok v) : -v.d ≤ v.x ∧ v.x ≤ v.d := sq_le (by have := h.lo; omega) (by have := h.eq; have := sq_nonneg v.y; omega)
theorem Ok.by_ {v : V3} (h : Ok v) : -v.d ≤ v.y ∧ v.y ≤ v.d := sq_le (by have := h.lo; omega) (by have := h.eq; have := sq_nonneg v.x; omega)
theorem Ok.low {x y d : Int} (hd : 1 ≤ d) (h : x * x + y * y = d * d) (hm : (low x y d).d ≤ 67108864) : Ok (low x y d) := ⟨low_pos hd, hm, low_circle hd h⟩

/-- The scaled vector has the same lowest terms. -/
theorem gq_scale {c x d : Int} (hc : 1 ≤ c) : gq (c * x) (c * d) = c * gq x d := by
  unfold gq
  rw [Int.natAbs_mul, Int.natAbs_mul, Nat.gcd_mul_left, Int.natCast_mul, Int.natAbs_of_nonneg (by omega)]
theorem low_scale {c x y d : Int} (hc : 1 ≤ c) (hd : 1 ≤ d) : low (c * x) (c * y) (c * d) = low x y d := by
  have hg := gq_pos (x := x) hd
  unfold low
  rw [gq_scale hc]
  refine V3.eq ?_ ?_ ?_ <;> exact Int.mul_tdiv_mul_of_pos _ _ (by omega)
/-- Parallel vectors have the same lowest terms. -/
theorem low_par {x y d x' y' d' : Int} (hd : 1 ≤ d) (hd' : 1 ≤ d') (ex : x * d' = x' * d) (ey : y * d' = y' * d) : low x y d = low x' y' d' := by
  rw [← low_scale (c := d') (x := x) (y := y) (d := d) hd' hd, ← low_scale (c := d) (x := x') (y := y') (d := d') hd hd']
  rw [Int.mul_comm d' x, Int.mul_comm d' y, Int.mul_comm d' d, ex, ey, Int.mul_comm d x', Int.mul_comm d y']
/-- low, and then again. -/
theorem low_par_self {x y d : Int} (hd : 1 ≤ d) (h : x * x + y * y = d * d) : (low x y d).x * d = x * (low x y d).d ∧ (low x y d).y * d = y * (low x y d).d := by
  obtain ⟨e1, e2, e3⟩ := low_mul hd h
  have g1 := gq_pos (x := x) hd
  generalize gq x d = g at *
  generalize (low x y d).x = a at *
  generalize (low x y d).y = b at *
  generalize (low x y d).d = c at *
  subst e1 e2 e3
  exact ⟨by grind, by grind⟩

/-- The product, not yet in lowest terms. -/
def px (a b : V3) : Int := a.x * b.x - a.y * b.y
def py (a b : V3) : Int := a.x * b.y + a.y * b.x
def pd (a b : V3) : Int := a.d * b.d
def prod (a b : V3) : V3 := low (px a b) (py a b) (pd a b)

theorem pd_pos {a b : V3} (ha : 1 ≤ a.d) (hb : 1 ≤ b.d) : 1 ≤ pd a b := by
  have := Int.mul_pos (show 0 < a.d by omega) (show 0 < b.d by omega)
  unfold pd; omega
theorem p_circle {a b : V3} (ha : a.x * a.x + a.y * a.y = a.d * a.d) (hb : b.x * b.x + b.y * b.y = b.d * b.d) : px a b * px a b + py a b * py a b = pd a b * pd a b := by
  unfold px py pd
  generalize a.x = x at *; generalize a.y = y at *; generalize a.d = d at *
  generalize b.x = u at *; generalize b.y = v at *; generalize b.d = e at *
  have : (x * u - y * v) * (x * u - y * v) + (x * v + y * u) * (x * v + y * u) = (x * x + y * y) * (u * u + v * v) := by grind
  rw [this, ha, hb]; grind
theorem prod_comm (a b : V3) : prod a b = prod b a := by
  unfold prod
  have e1 : px a b = px b a := by unfold px; grind
  have e2 : py a b = py b a := by unfold py; grind
  have e3 : pd a b = pd b a := by unfold pd; grind
  rw [e1, e2, e3]
/-- A product does not ask for lowest terms. -/
theorem prod_low {x y d : Int} {w : V3} (hd : 1 ≤ d) (h : x * x + y * y = d * d) (hw : 1 ≤ w.d) : prod (low x y d) w = prod ⟨x, y, d⟩ w := by
  obtain ⟨e1, e2⟩ := low_par_self hd h
  have hp := low_pos (x := x) (y := y) hd
  unfold prod
  generalize low x y d = v at *
  refine low_par (pd_pos hp hw) (pd_pos hd hw) ?_ ?_
  · unfold px pd; show (v.x * w.x - v.y * w.y) * (d * w.d) = (x * w.x - y * w.y) * (v.d * w.d); grind
  · unfold py pd; show (v.x * w.y + v.y * w.x) * (d * w.d) = (x * w.y + y * w.x) * (v.d * w.d); grind
theorem prod_assoc {a b c : V3} (ha : Ok a) (hb : Ok b) (hc : Ok c) : prod (prod a b) c = prod a (prod b c) := by
  rw [prod_comm a (prod b c)]
  have e1 : prod (prod a b) c = prod ⟨px a b, py a b, pd a b⟩ c := prod_low (pd_pos ha.lo hb.lo) (p_circle ha.eq hb.eq) hc.lo
  have e2 : prod (prod b c) a = prod ⟨px b c, py b c, pd b c⟩ a := prod_low (pd_pos hb.lo hc.lo) (p_circle hb.eq hc.eq) ha.lo
  rw [e1, e2]
  unfold prod
  have f1 : px ⟨px a b, py a b, pd a b⟩ c = px ⟨px b c, py b c, pd b c⟩ a := by simp only [px, py]; grind
  have f2 : py ⟨px a b, py a b, pd a b⟩ c = py ⟨px b c, py b c, pd b c⟩ a := by simp only [px, py]; grind
  have f3 : pd ⟨px a b, py a b, pd a b⟩ c = pd ⟨px b c, py b c, pd b c⟩ a := by simp only [pd]; grind
  rw [f1, f2, f3]

/-- A quarter turn. -/
def rot (v : V3) : V3 := ⟨-v.y, v.x, v.d⟩
theorem Ok.rot {v : V3} (h : Ok v) : Ok (Hd.rot v) := ⟨h.lo, h.hi, by have := h.eq; show -v.y * -v.y + v.x * v.x = v.d * v.d; grind⟩
def rots : Nat → V3 → V3
  | 0, v => v
  | n + 1, v => rot (rots n v)
theorem Ok.rots {v : V3} (h : Ok v) (n : Nat) : Ok (Hd.rots n v) := by
  induction n with
  | zero => exact h
  | succ n ih => exact ih.rot
/-- The factor is that of y as well. -/
theorem gq_swap {x y d : Int} (h : x * x + y * y = d * d) : gq (-y) d = gq x d := by
  have h1 := gq_nat h
  have h2 := gq_nat (x := y) (y := x) (d := d) (by omega)
  unfold gq
  rw [Int.natAbs_neg]
  have : Nat.gcd d.natAbs y.natAbs = Nat.gcd d.natAbs x.natAbs := Nat.dvd_antisymm (Nat.dvd_gcd (Nat.gcd_dvd_left _ _) h2) (Nat.dvd_gcd (Nat.gcd_dvd_left _ _) h1)
  rw [this]
theorem low_rot {x y d : Int} (h : x * x + y * y = d * d) : low (-y) x d = rot (low x y d) := by
  unfold low rot
  rw [gq_swap h]
  refine V3.eq ?_ rfl rfl
  exact Int.neg_tdiv _ _
theorem prod_rot {a b : V3} (ha : a.x * a.x + a.y * a.y = a.d * a.d) (hb : b.x * b.x + b.y * b.y = b.d * b.d) : prod (rot a) b = rot (prod a b) := by
  unfold prod
  rw [← low_rot (p_circle ha hb)]
  have e1 : px (rot a) b = -(py a b) := by simp only [px, py, rot]; grind
  have e2 : py (rot a) b = px a b := by simp only [px, py, rot]; grind
  have e3 : pd (rot a) b = pd a b := rfl
  rw [e1, e2, e3]

/-- The direction of the mark h. -/
def dirK (k : Int) : V3 := low (4096 - k * k) (128 * k) (4096 + k * k)
def dirM (m : Int) : V3 := rots (m / 64).toNat (dirK (m % 64))
def dir (h : Int) : V3 := dirM (h % 256)

theorem all64 {p : Nat → Bool} (h : (List.range 64).all p = true) : ∀ k, k < 64 → p k = true := fun k hk => List.all_eq_true.1 h k (List.mem_range.2 hk)
theorem all256 {p : Nat → Bool} (h : (List.range 256).all p = true) : ∀ k, k < 256 → p k = true := fun k hk => List.all_eq_true.1 h k (List.mem_range.2 hk)
theorem dir_circle (k : Int) : (4096 - k * k) * (4096 - k * k) + 128 * k * (128 * k) = (4096 + k * k) * (4096 + k * k) := by grind
theorem kk_bound {k : Int} (h : 0 ≤ k) (h2 : k < 64) : 0 ≤ k * k ∧ k * k ≤ 3969 := ⟨Int.mul_nonneg h h, by have := Int.mul_le_mul (show k ≤ 63 by omega) (show k ≤ 63 by omega) h (show (0 : Int) ≤ 63 by omega); omega⟩
theorem dirK_ok {k : Int} (h : 0 ≤ k) (h2 : k < 64) : Ok (dirK k) ∧ (dirK k).d ≤ 8065 := by
  have hk := kk_bound h h2
  have hl := low_le (x := 4096 - k * k) (y := 128 * k) (d := 4096 + k * k) (by omega)
  exact ⟨Ok.low (by omega) (dir_circle k) (by omega), by unfold dirK; omega⟩
theorem rots_d (n : Nat) (v : V3) : (rots n v).d = v.d := by
  induction n with
  | zero => rfl
  | succ n ih => exact ih
theorem dir_ok (h : Int) : Ok (dir h) ∧ (dir h).d ≤ 8065 := by
  have hk := dirK_ok (k := h % 256 % 64) (by omega) (by omega)
  exact ⟨hk.1.rots _, by unfold dir dirM; rw [rots_d]; exact hk.2⟩
end Hd
end Go.Proofs.Ytincejndchdcdaa
