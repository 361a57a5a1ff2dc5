/- Plain mathematics: points, rectangles, rays. -/
namespace Go.Proofs.Ytkhcogfajihecaa
namespace Hd

/-- A coordinate. -/
def OkC (n : Int) : Prop := -2097152 ≤ n ∧ n ≤ 2097152
/-- A point. -/
structure OkP (x y : Int) : Prop where
  x1 : -2097152 ≤ x
  x2 : x ≤ 2097152
  y1 : -2097152 ≤ y
  y2 : y ≤ 2097152
/-- A rectangle. -/
structure OkR (x0 y0 x1 y1 : Int) : Prop where
  a1 : -2097152 ≤ x0
  a2 : x0 ≤ 2097152
  b1 : -2097152 ≤ y0
  b2 : y0 ≤ 2097152
  c1 : -2097152 ≤ x1
  c2 : x1 ≤ 2097152
  d1 : -2097152 ≤ y1
  d2 : y1 ≤ 2097152
  hx : x0 ≤ x1
  hy : y0 ≤ y1
/-- A vector. -/
structure OkV (x y d : Int) : Prop where
  lo : 1 ≤ d
  hi : d ≤ 67108864
  eq : x * x + y * y = d * d

theorem sq_nonneg (x : Int) : 0 ≤ x * x := by
  rcases Int.le_total 0 x with h | h
  · exact Int.mul_nonneg h h
  · have := Int.mul_nonneg (show 0 ≤ -x by omega) (show 0 ≤ -x by omega)
    rwa [Int.neg_mul_neg] at this
theorem sq_le {x d : Int} (hd : 0 ≤ d) (h : x * x ≤ d * d) : -d ≤ x ∧ x ≤ d := by
  constructor
  · rcases Int.lt_or_le x (-d) with h1 | h1
    · have h2 : (d + 1) * (d + 1) ≤ (-x) * (-x) := Int.mul_le_mul (by omega) (by omega) (by omega) (by omega)
      grind
    · exact h1
  · rcases Int.lt_or_le d x with h1 | h1
    · have h2 : (d + 1) * (d + 1) ≤ x * x := Int.mul_le_mul (by omega) (by omega) (by omega) (by omega)
      grind
    · exact h1
theorem OkV.bx {x y d : Int} (h : OkV x y d) : -d ≤ x ∧ x ≤ d := sq_le (by have := h.lo; omega) (by have := h.eq; have := sq_nonneg y; omega)
theorem OkV.by_ {x y d : Int} (h : OkV x y d) : -d ≤ y ∧ y ≤ d := sq_le (by have := h.lo; omega) (by have := h.eq; have := sq_nonneg x; omega)

instance (n : Int) : Decidable (OkC n) := inferInstanceAs (Decidable (_ ∧ _))
instance (x y : Int) : Decidable (OkP x y) := decidable_of_iff ((-2097152 ≤ x ∧ x ≤ 2097152) ∧ (-2097152 ≤ y ∧ y ≤ 2097152)) ⟨fun h => ⟨h.1.1, h.1.2, h.2.1, h.2.2⟩, fun h => ⟨⟨h.x1, h.x2⟩, h.y1, h.y2⟩⟩
instance (x0 y0 x1 y1 : Int) : Decidable (OkR x0 y0 x1 y1) := decidable_of_iff (((-2097152 ≤ x0 ∧ x0 ≤ 2097152) ∧ (-2097152 ≤ y0 ∧ y0 ≤ 2097152)) ∧ ((-2097152 ≤ x1 ∧ x1 ≤ 2097152) ∧ (-2097152 ≤ y1 ∧ y1 ≤ 2097152)) ∧ x0 ≤ x1 ∧ y0 ≤ y1)
  ⟨fun ⟨⟨⟨a, b⟩, c, d⟩, ⟨⟨e, f⟩, g, h⟩, i, j⟩ => ⟨a, b, c, d, e, f, g, h, i, j⟩, fun ⟨a, b, c, d, e, f, g, h, i, j⟩ => ⟨⟨⟨a, b⟩, c, d⟩, ⟨⟨e, f⟩, g, h⟩, i, j⟩⟩
instance (x y d : Int) : Decidable (OkV x y d) := decidable_of_iff (1 ≤ d ∧ d ≤ 67108864 ∧ x * x + y * y = d * d) ⟨fun h => ⟨h.1, h.2.1, h.2.2⟩, fun h => ⟨h.lo, h.hi, h.eq⟩⟩

/-- How far a number is from a range. -/
def off (p lo hi : Int) : Int := if (if lo - p < p - hi then p - hi else lo - p) < 0 then 0 else if lo - p < p - hi then p - hi else lo - p
theorem off_eq {p lo hi : Int} (h : lo ≤ hi) : off p lo hi = if p < lo then lo - p else if hi < p then p - hi else 0 := by unfold off; repeat' split <;> omega
theorem off_pos (p lo hi : Int) : 0 ≤ off p lo hi := by unfold off; repeat' split <;> omega
theorem off_le {p lo hi : Int} (h1 : -2097152 ≤ p) (h2 : p ≤ 2097152) (h3 : -2097152 ≤ lo) (h4 : lo ≤ 2097152) (h5 : -2097152 ≤ hi) (h6 : hi ≤ 2097152) : off p lo hi ≤ 4194304 := by unfold off; repeat' split <;> omega
theorem mul_le {a b A B : Int} (a1 : -A ≤ a) (a2 : a ≤ A) (b1 : -B ≤ b) (b2 : b ≤ B) : -(A * B) ≤ a * b ∧ a * b ≤ A * B := by
  have : a.natAbs * b.natAbs ≤ A.natAbs * B.natAbs := Nat.mul_le_mul (by omega) (by omega)
  rw [← Int.natAbs_mul, ← Int.natAbs_mul] at this
  have h0 : 0 ≤ A * B := Int.mul_nonneg (by omega) (by omega)
  omega
/-- The squared distance. -/
def gapM (x y x0 y0 x1 y1 : Int) : Int := off x x0 x1 * off x x0 x1 + off y y0 y1 * off y y0 y1
/-- (q - p) x (r - p). -/
def pr (a b c d e f : Int) : Int := (c - a) * (f - b) - (d - b) * (e - a)
/-- -1, 0 or 1. -/
def sgn (n : Int) : Int := if n < 0 then -1 else if 0 < n then 1 else 0
end Hd
end Go.Proofs.Ytkhcogfajihecaa
