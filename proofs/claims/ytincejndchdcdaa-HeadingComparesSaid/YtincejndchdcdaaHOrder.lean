/- Plain mathematics: comparing directions is a total order. -/
import Derived.Test.YtincejndchdcdaaHCmp
namespace Go.Proofs.Ytincejndchdcdaa
open Go Go.RowKit Hd

theorem cmpI_anti (a b : Int) : cmpI b a = -cmpI a b := by unfold cmpI; split <;> (try split) <;> (try split) <;> omega
theorem cmpI_zero {a b : Int} : cmpI a b = 0 ↔ a = b := by unfold cmpI; split <;> (try split) <;> omega
theorem cmpI_range (a b : Int) : -1 ≤ cmpI a b ∧ cmpI a b ≤ 1 := by unfold cmpI; split <;> (try split) <;> omega
theorem cmpI_nonpos {a b : Int} : cmpI a b ≤ 0 ↔ a ≤ b := by unfold cmpI; split <;> (try split) <;> omega
theorem cmpV_range (a b : V3) : -1 ≤ cmpV a b ∧ cmpV a b ≤ 1 := by
  have := cmpI_range (a.y * b.x) (a.x * b.y)
  unfold cmpV; split <;> (try split) <;> omega
theorem cmpV_anti (a b : V3) : cmpV b a = -cmpV a b := by
  unfold cmpV
  rcases ha : lowB a with _ | _ <;> rcases hb : lowB b with _ | _
  · rw [if_pos rfl, if_pos rfl, ← cmpI_anti, Int.mul_comm b.x, Int.mul_comm b.y]
  · rfl
  · rfl
  · rw [if_pos rfl, if_pos rfl, ← cmpI_anti, Int.mul_comm b.x, Int.mul_comm b.y]

theorem neg_of_mul {a g : Int} (hg : 1 ≤ g) : (a * g < 0 ↔ a < 0) ∧ (a * g = 0 ↔ a = 0) := by
  constructor
  · constructor
    · intro h
      rcases Int.lt_or_le a 0 with h1 | h1
      · exact h1
      · have := Int.mul_nonneg h1 (show 0 ≤ g by omega); omega
    · intro h
      have := Int.mul_pos (show 0 < -a by omega) (show 0 < g by omega)
      rw [Int.neg_mul] at this; omega
  · constructor
    · intro h
      rcases Int.mul_eq_zero.1 h with h1 | h1
      · exact h1
      · omega
    · intro h; rw [h]; omega
theorem lowB_scale {a b : V3} {g k : Int} (hg : 1 ≤ g) (hk : 1 ≤ k) (ex : a.x * g = b.x * k) (ey : a.y * g = b.y * k) : lowB a = lowB b := by
  unfold lowB
  have h1 := neg_of_mul (a := a.x) hg
  have h2 := neg_of_mul (a := b.x) hk
  have h3 := neg_of_mul (a := a.y) hg
  have h4 := neg_of_mul (a := b.y) hk
  rw [ex] at h1; rw [ey] at h3
  have e : (a.y < 0 ∨ a.y = 0 ∧ a.x < 0) ↔ (b.y < 0 ∨ b.y = 0 ∧ b.x < 0) := by
    rw [← h3.1, ← h3.2, ← h1.1, h4.1, h4.2, h2.1]
  simp only [e]
/-- Parallel vectors compare as equal. -/
theorem cmpV_par {a b : V3} {g k : Int} (hg : 1 ≤ g) (hk : 1 ≤ k) (ex : a.x * g = b.x * k) (ey : a.y * g = b.y * k) : cmpV a b = 0 := by
  unfold cmpV
  rw [if_pos (lowB_scale hg hk ex ey), cmpI_zero]
  have h : (a.y * b.x - a.x * b.y) * (g * k) = 0 := by
    have e1 : a.y * b.x * (g * k) = a.y * g * (b.x * k) := by grind
    have e2 : a.x * b.y * (g * k) = a.x * g * (b.y * k) := by grind
    rw [Int.sub_mul, e1, e2, ex, ey]; grind
  have hp := Int.mul_pos (show 0 < g by omega) (show 0 < k by omega)
  rcases Int.mul_eq_zero.1 h with h1 | h1 <;> omega
theorem cmpV_low {a : V3} (h : Ok a) : cmpV a (low a.x a.y a.d) = 0 := by
  obtain ⟨e1, e2, -⟩ := low_mul h.lo h.eq
  exact cmpV_par (g := 1) (k := gq a.x a.d) (by omega) (gq_pos h.lo) (by rw [e1]; omega) (by rw [e2]; omega)
theorem par_of_cross {a b : V3} (ha : Ok a) (hb : Ok b) (hc : a.y * b.x = a.x * b.y) : (a.x * b.x + a.y * b.y - a.d * b.d) * (a.x * b.x + a.y * b.y + a.d * b.d) = 0 := by
  have h1 := ha.eq
  have h2 := hb.eq
  generalize a.x = x at *; generalize a.y = y at *; generalize a.d = d at *
  generalize b.x = u at *; generalize b.y = v at *; generalize b.d = e at *
  have e1 : (x * u + y * v - d * e) * (x * u + y * v + d * e) = (x * u + y * v) * (x * u + y * v) - (d * d) * (e * e) := by grind
  rw [e1, ← h1, ← h2]
  have e2 : (x * u + y * v) * (x * u + y * v) - (x * x + y * y) * (u * u + v * v) = -((y * u - x * v) * (y * u - x * v)) := by grind
  rw [e2, hc]; grind
theorem scaled {a b : V3} (hb : Ok b) (hc : a.y * b.x = a.x * b.y) {s : Int} (hp : a.x * b.x + a.y * b.y = s * b.d) : a.x * b.d = b.x * s ∧ a.y * b.d = b.y * s := by
  have h2 := hb.eq
  have hd := hb.lo
  generalize a.x = x at *; generalize a.y = y at *
  generalize b.x = u at *; generalize b.y = v at *; generalize b.d = e at *
  have f1 : (x * e - u * s) * e = 0 := by
    have : (x * e - u * s) * e = x * (e * e) - u * (s * e) := by grind
    rw [this, ← h2, ← hp]
    have : x * (u * u + v * v) - u * (x * u + y * v) = v * (x * v - y * u) := by grind
    rw [this, hc]; grind
  have f2 : (y * e - v * s) * e = 0 := by
    have : (y * e - v * s) * e = y * (e * e) - v * (s * e) := by grind
    rw [this, ← h2, ← hp]
    have : y * (u * u + v * v) - v * (x * u + y * v) = u * (y * u - x * v) := by grind
    rw [this, hc]; grind
  constructor
  · rcases Int.mul_eq_zero.1 f1 with h | h <;> omega
  · rcases Int.mul_eq_zero.1 f2 with h | h <;> omega
theorem cmpV_zero {a b : V3} (ha : Ok a) (hb : Ok b) : cmpV a b = 0 ↔ low a.x a.y a.d = low b.x b.y b.d := by
  constructor
  · intro h
    unfold cmpV at h
    split at h
    · rename_i hl
      have hc := cmpI_zero.1 h
      rcases Int.mul_eq_zero.1 (par_of_cross ha hb hc) with hp | hp
      · obtain ⟨e1, e2⟩ := scaled (s := a.d) hb hc (by omega)
        exact low_par ha.lo hb.lo e1 e2
      · exfalso
        obtain ⟨e1, e2⟩ := scaled (s := -a.d) hb hc (by rw [Int.neg_mul]; omega)
        have h1 := neg_of_mul (a := a.x) hb.lo
        have h2 := neg_of_mul (a := -b.x) ha.lo
        have h3 := neg_of_mul (a := a.y) hb.lo
        have h4 := neg_of_mul (a := -b.y) ha.lo
        rw [show a.x * b.d = -b.x * a.d by rw [e1]; grind] at h1
        rw [show a.y * b.d = -b.y * a.d by rw [e2]; grind] at h3
        have k1 := h1.1.symm.trans h2.1
        have k2 := h1.2.symm.trans h2.2
        have k3 := h3.1.symm.trans h4.1
        have k4 := h3.2.symm.trans h4.2
        have o1 : ¬ (a.x = 0 ∧ a.y = 0) := by
          rintro ⟨q1, q2⟩
          have e := ha.eq
          have l := Int.mul_pos (show 0 < a.d by have := ha.lo; omega) (show 0 < a.d by have := ha.lo; omega)
          rw [q1, q2] at e; omega
        unfold lowB at hl
        have hl2 : (a.y < 0 ∨ a.y = 0 ∧ a.x < 0) ↔ (b.y < 0 ∨ b.y = 0 ∧ b.x < 0) := decide_eq_decide.1 hl
        omega
    · split at h <;> omega
  · intro h
    obtain ⟨e1, e2, -⟩ := low_mul ha.lo ha.eq
    obtain ⟨f1, f2, -⟩ := low_mul hb.lo hb.eq
    rw [h] at e1 e2
    have ga := gq_pos (x := a.x) ha.lo
    have gb := gq_pos (x := b.x) hb.lo
    exact cmpV_par (g := gq b.x b.d) (k := gq a.x a.d) gb ga (by rw [← e1, ← f1]; grind) (by rw [← e2, ← f2]; grind)
theorem half {v : V3} (h : Ok v) : (lowB v = false → 0 ≤ v.y ∧ (v.y = 0 → 0 < v.x)) ∧ (lowB v = true → v.y ≤ 0 ∧ (v.y = 0 → v.x < 0)) := by
  have o1 : ¬ (v.x = 0 ∧ v.y = 0) := by
    rintro ⟨q1, q2⟩
    have e := h.eq
    have l := Int.mul_pos (show 0 < v.d by have := h.lo; omega) (show 0 < v.d by have := h.lo; omega)
    rw [q1, q2] at e; omega
  unfold lowB
  constructor
  · intro hl; have := of_decide_eq_false hl; omega
  · intro hl; have := of_decide_eq_true hl; omega
theorem cross3 (x y u v p q : Int) : v * (x * q - y * p) = y * (u * q - v * p) + q * (x * v - y * u) := by grind
theorem trans_up {x y u v p q : Int} (h1 : 0 ≤ y ∧ (y = 0 → 0 < x)) (h2 : 0 ≤ v ∧ (v = 0 → 0 < u)) (h3 : 0 ≤ q) (c1 : y * u ≤ x * v) (c2 : v * p ≤ u * q) : y * p ≤ x * q := by
  have e := cross3 x y u v p q
  have a1 := Int.mul_nonneg h1.1 (show 0 ≤ u * q - v * p by omega)
  have a2 := Int.mul_nonneg h3 (show 0 ≤ x * v - y * u by omega)
  by_cases hv : v = 0
  · have hu := h2.2 hv
    subst hv
    have y0 : y = 0 := by
      rcases Int.lt_or_le 0 y with h | h
      · have := Int.mul_pos h hu; omega
      · omega
    have := Int.mul_nonneg (show 0 ≤ x by have := h1.2 y0; omega) h3
    subst y0; omega
  · rcases Int.lt_or_le (x * q - y * p) 0 with h | h
    · have := Int.mul_pos (show 0 < v by omega) (show 0 < -(x * q - y * p) by omega)
      rw [Int.mul_neg] at this; omega
    · omega
theorem cmpV_trans {a b c : V3} (ha : Ok a) (hb : Ok b) (hc : Ok c) (h1 : cmpV a b ≤ 0) (h2 : cmpV b c ≤ 0) : cmpV a c ≤ 0 := by
  have qa := half ha
  have qb := half hb
  have qc := half hc
  unfold cmpV at *
  rcases la : lowB a with _ | _ <;> rcases lb : lowB b with _ | _ <;> rcases lc : lowB c with _ | _ <;> rw [la, lb] at h1 <;> rw [lb, lc] at h2
  · rw [if_pos rfl] at h1 h2 ⊢
    exact cmpI_nonpos.2 (trans_up (qa.1 la) (qb.1 lb) (qc.1 lc).1 (cmpI_nonpos.1 h1) (cmpI_nonpos.1 h2))
  · rw [if_neg (by decide), if_pos rfl]; omega
  · rw [if_neg (by decide), if_neg (by decide)] at h2; omega
  · rw [if_neg (by decide), if_pos rfl]; omega
  · rw [if_neg (by decide), if_neg (by decide)] at h1; omega
  · rw [if_neg (by decide), if_neg (by decide)] at h1; omega
  · rw [if_neg (by decide), if_neg (by decide)] at h2; omega
  · rw [if_pos rfl] at h1 h2 ⊢
    have ya := qa.2 la
    have yb := qb.2 lb
    have yc := qc.2 lc
    have g1 := cmpI_nonpos.1 h1
    have g2 := cmpI_nonpos.1 h2
    have := trans_up (x := -a.x) (y := -a.y) (u := -b.x) (v := -b.y) (p := -c.x) (q := -c.y) (by omega) (by omega) (by omega) (by simpa only [Int.neg_mul_neg] using g1) (by simpa only [Int.neg_mul_neg] using g2)
    simp only [Int.neg_mul_neg] at this
    exact cmpI_nonpos.2 this
end Go.Proofs.Ytincejndchdcdaa
