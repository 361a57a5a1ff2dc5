/- Plain mathematics: the cells that the rays from a rectangle meet. -/
import Derived.Test.YtkhcogfajihecaaY3
import Derived.Test.YtkhcogfajihecaaSRayM
set_option linter.unusedSimpArgs false
set_option linter.unusedVariables false
namespace Go.Proofs.Ytkhcogfajihecaa
open Go Go.RowKit Hd

/-- The first and the last row of runOf. -/
def rF (lo d : Int) : Int := -(fl (-lo) (64 * d)) - 1
def rL (hi d : Int) : Int := fl hi (64 * d)
theorem rF_le {lo d y : Int} (hd : 1 ≤ d) : rF lo d ≤ y ↔ lo ≤ 64 * (y + 1) * d := by
  unfold rF fl
  have h := Int.le_ediv_iff_mul_le (a := -(y + 1)) (b := -lo) (c := 64 * d) (by omega)
  have e : -(y + 1) * (64 * d) = -(64 * (y + 1) * d) := by grind
  rw [e] at h
  omega
theorem le_rL {hi d y : Int} (hd : 1 ≤ d) : y ≤ rL hi d ↔ 64 * y * d ≤ hi := by
  unfold rL fl
  rw [Int.le_ediv_iff_mul_le (by omega)]
  have e : y * (64 * d) = 64 * y * d := by grind
  rw [e]
/-- N/M is from a/b to c/e. -/
def InT (a b c e N M : Int) : Prop := a * M ≤ N * b ∧ N * e ≤ c * M
/-- The first and the last row of covered. -/
def covA (a b s lo : Int) : Int := rF (lo * b + a * s) b
def covB (a b s hi : Int) : Int := rL (hi * b + a * s) b
def covF (a b c e lo s : Int) : Int := if covA c e s lo < covA a b s lo then covA c e s lo else covA a b s lo
def covL (a b c e hi s : Int) : Int := if covB a b s hi < covB c e s hi then covB c e s hi else covB a b s hi
theorem cov_iff {a b c e lo hi s y : Int} (hb : 1 ≤ b) (he : 1 ≤ e) (hne : a * e ≤ c * b) (hlh : lo ≤ hi) :
    (covF a b c e lo s ≤ y ∧ y ≤ covL a b c e hi s) ↔ ∃ N M, 1 ≤ M ∧ InT a b c e N M ∧ lo * M + N * s ≤ 64 * (y + 1) * M ∧ 64 * y * M ≤ hi * M + N * s := by
  have f1 : covF a b c e lo s ≤ y ↔ lo * b + a * s ≤ 64 * (y + 1) * b ∨ lo * e + c * s ≤ 64 * (y + 1) * e := by
    unfold covF covA
    rw [← rF_le hb, ← rF_le he]
    split <;> omega
  have f2 : y ≤ covL a b c e hi s ↔ 64 * y * b ≤ hi * b + a * s ∨ 64 * y * e ≤ hi * e + c * s := by
    unfold covL covB
    rw [← le_rL hb, ← le_rL he]
    split <;> omega
  rw [f1, f2]
  generalize hY : 64 * (y + 1) = Y
  generalize hZ : 64 * y = Z
  have hYZ : Y = Z + 64 := by omega
  have self1 : InT a b c e a b := ⟨Int.le_refl _, hne⟩
  have self2 : InT a b c e c e := ⟨hne, Int.le_refl _⟩
  rcases Int.lt_or_le s 0 with hs | hs
  · -- moves down
    have k1 : lo * b + a * s ≤ Y * b → lo * e + c * s ≤ Y * e := fun h => by
      have h1 := mle (show 0 ≤ e by omega) h
      have h2 := mle (show 0 ≤ -s by omega) hne
      exact le_cancel hb (by grind)
    have k2 : Z * e ≤ hi * e + c * s → Z * b ≤ hi * b + a * s := fun h => by
      have h1 := mle (show 0 ≤ b by omega) h
      have h2 := mle (show 0 ≤ -s by omega) hne
      exact le_cancel he (by grind)
    constructor
    · rintro ⟨h1, h2⟩
      have h1' : lo * e + c * s ≤ Y * e := h1.elim k1 id
      have h2' : Z * b ≤ hi * b + a * s := h2.elim id k2
      rcases Int.lt_or_le (Y * b) (lo * b + a * s) with h3 | h3
      · refine ⟨lo - Y, -s, by omega, ⟨by grind, by grind⟩, ?_, ?_⟩
        · have : lo * -s + (lo - Y) * s = Y * -s := by grind
          omega
        · have : hi * -s + (lo - Y) * s = (hi - lo + Y) * -s := by grind
          rw [this]
          exact mle (by omega) (by omega)
      · exact ⟨a, b, hb, self1, h3, h2'⟩
    · rintro ⟨N, M, hM, ⟨i1, i2⟩, h1, h2⟩
      constructor
      · right
        have q1 := mle (show 0 ≤ e by omega) h1
        have q2 := mle (show 0 ≤ -s by omega) i2
        exact le_cancel hM (by grind)
      · left
        have q1 := mle (show 0 ≤ b by omega) h2
        have q2 := mle (show 0 ≤ -s by omega) i1
        exact le_cancel hM (by grind)
  · have k1 : lo * e + c * s ≤ Y * e → lo * b + a * s ≤ Y * b := fun h => by
      have h1 := mle (show 0 ≤ b by omega) h
      have h2 := mle hs hne
      exact le_cancel he (by grind)
    have k2 : Z * b ≤ hi * b + a * s → Z * e ≤ hi * e + c * s := fun h => by
      have h1 := mle (show 0 ≤ e by omega) h
      have h2 := mle hs hne
      exact le_cancel hb (by grind)
    constructor
    · rintro ⟨h1, h2⟩
      have h1' : lo * b + a * s ≤ Y * b := h1.elim id k1
      have h2' : Z * e ≤ hi * e + c * s := h2.elim k2 id
      rcases Int.lt_or_le (hi * b + a * s) (Z * b) with h3 | h3
      · have hs1 : 1 ≤ s := by
          rcases Int.lt_or_le 0 s with h4 | h4
          · omega
          · have : s = 0 := by omega
            subst this
            have h5 : Z ≤ hi := le_cancel he (by omega)
            have := mle (show 0 ≤ b by omega) h5
            omega
        refine ⟨Z - hi, s, hs1, ⟨by grind, by grind⟩, ?_, ?_⟩
        · have : lo * s + (Z - hi) * s = (lo + Z - hi) * s := by grind
          rw [this]
          exact mle hs (by omega)
        · have : hi * s + (Z - hi) * s = Z * s := by grind
          omega
      · exact ⟨a, b, hb, self1, h1', h3⟩
    · rintro ⟨N, M, hM, ⟨i1, i2⟩, h1, h2⟩
      constructor
      · left
        have q1 := mle (show 0 ≤ b by omega) h1
        have q2 := mle hs i1
        exact le_cancel hM (by grind)
      · right
        have q1 := mle (show 0 ≤ e by omega) h2
        have q2 := mle hs i2
        exact le_cancel hM (by grind)
/-- The later of two fractions, and the earlier. -/
def ltF (a b c d : Int) : Prop := a * d < c * b
instance (a b c d : Int) : Decidable (ltF a b c d) := inferInstanceAs (Decidable (_ < _))
def laN (a b c d : Int) : Int := if a * d < c * b then c else a
def laD (a b c d : Int) : Int := if a * d < c * b then d else b
def eaN (a b c d : Int) : Int := if c * b < a * d then c else a
def eaD (a b c d : Int) : Int := if c * b < a * d then d else b
theorem la_pos {a b c d : Int} (hb : 1 ≤ b) (hd : 1 ≤ d) : 1 ≤ laD a b c d := by unfold laD; split <;> omega
theorem ea_pos {a b c d : Int} (hb : 1 ≤ b) (hd : 1 ≤ d) : 1 ≤ eaD a b c d := by unfold eaD; split <;> omega
theorem la_le {a b c d N M : Int} (hb : 1 ≤ b) (hd : 1 ≤ d) (hM : 1 ≤ M) : laN a b c d * M ≤ N * laD a b c d ↔ a * M ≤ N * b ∧ c * M ≤ N * d := by
  unfold laN laD
  split <;> rename_i h
  · refine ⟨fun h1 => ⟨?_, h1⟩, fun h1 => h1.2⟩
    have q1 := mle (show 0 ≤ b by omega) h1
    have q2 := mle (show 0 ≤ M by omega) (Int.le_of_lt h)
    exact le_cancel hd (by grind)
  · refine ⟨fun h1 => ⟨h1, ?_⟩, fun h1 => h1.1⟩
    have q1 := mle (show 0 ≤ d by omega) h1
    have q2 := mle (show 0 ≤ M by omega) (show c * b ≤ a * d by omega)
    exact le_cancel hb (by grind)
theorem le_ea {a b c d N M : Int} (hb : 1 ≤ b) (hd : 1 ≤ d) (hM : 1 ≤ M) : N * eaD a b c d ≤ eaN a b c d * M ↔ N * b ≤ a * M ∧ N * d ≤ c * M := by
  unfold eaN eaD
  split <;> rename_i h
  · refine ⟨fun h1 => ⟨?_, h1⟩, fun h1 => h1.2⟩
    have q1 := mle (show 0 ≤ b by omega) h1
    have q2 := mle (show 0 ≤ M by omega) (Int.le_of_lt h)
    exact le_cancel hd (by grind)
  · refine ⟨fun h1 => ⟨h1, ?_⟩, fun h1 => h1.1⟩
    have q1 := mle (show 0 ≤ d by omega) h1
    have q2 := mle (show 0 ≤ M by omega) (show a * d ≤ c * b by omega)
    exact le_cancel hb (by grind)
/-- The parts of a row: up, down, step as inRow takes them. -/
def iaN (a b up down s : Int) : Int := if s = 0 then a else if s < 0 then laN a b (-down) (-s) else laN a b up s
def iaD (a b up down s : Int) : Int := if s = 0 then b else if s < 0 then laD a b (-down) (-s) else laD a b up s
def ieN (c e up down s : Int) : Int := if s = 0 then c else if s < 0 then eaN c e (-up) (-s) else eaN c e down s
def ieD (c e up down s : Int) : Int := if s = 0 then e else if s < 0 then eaD c e (-up) (-s) else eaD c e down s
theorem ia_pos {a b up down s : Int} (hb : 1 ≤ b) : 1 ≤ iaD a b up down s := by
  unfold iaD; split
  · exact hb
  · split
    · exact la_pos hb (by omega)
    · exact la_pos hb (by omega)
theorem ie_pos {c e up down s : Int} (he : 1 ≤ e) : 1 ≤ ieD c e up down s := by
  unfold ieD; split
  · exact he
  · split
    · exact ea_pos he (by omega)
    · exact ea_pos he (by omega)
theorem inRow_iff {a b c e up down s : Int} (hb : 1 ≤ b) (he : 1 ≤ e) (h0 : s = 0 → up ≤ 0 ∧ 0 ≤ down) {N M : Int} (hM : 1 ≤ M) :
    InT (iaN a b up down s) (iaD a b up down s) (ieN c e up down s) (ieD c e up down s) N M ↔ InT a b c e N M ∧ up * M ≤ N * s ∧ N * s ≤ down * M := by
  unfold InT iaN iaD ieN ieD
  split <;> rename_i hs
  · obtain ⟨h1, h2⟩ := h0 hs
    subst hs
    refine ⟨fun h => ⟨h, ?_, ?_⟩, fun h => h.1⟩
    · have := mle (show 0 ≤ M by omega) h1; omega
    · have := mle (show 0 ≤ M by omega) h2; omega
  · split <;> rename_i hn
    · rw [la_le hb (by omega) hM, le_ea he (by omega) hM, Int.neg_mul, Int.neg_mul, Int.mul_neg]
      omega
    · rw [la_le hb (by omega) hM, le_ea he (by omega) hM]
      omega
theorem int_ne {a b c e N M : Int} (hb : 1 ≤ b) (he : 1 ≤ e) (hM : 1 ≤ M) (h : InT a b c e N M) : a * e ≤ c * b := by
  have q1 := mle (show 0 ≤ e by omega) h.1
  have q2 := mle (show 0 ≤ b by omega) h.2
  exact le_cancel hM (by grind)
theorem mem_rowK {y a : Int} {k : Nat} {c : P2} : c ∈ rowK y a k ↔ c.2 = y ∧ a ≤ c.1 ∧ c.1 < a + k := by
  induction k with
  | zero => simp [rowK]
  | succ k ih =>
    rw [rowK, List.mem_append, ih, List.mem_singleton]
    constructor
    · rintro (⟨h1, h2, h3⟩ | h)
      · exact ⟨h1, h2, by omega⟩
      · subst h; exact ⟨rfl, by dsimp only; omega, by dsimp only; omega⟩
    · rintro ⟨h1, h2, h3⟩
      by_cases h : c.1 < a + k
      · exact .inl ⟨h1, h2, h⟩
      · right
        obtain ⟨c1, c2⟩ := c
        dsimp only at *
        rw [h1, show c1 = a + k by omega]
/-- The columns of the row y of a sweep. -/
def swF (x0 y0 y1 x y d lo hi Y : Int) : Int := covF (iaN lo d (64 * Y - y1) (64 * (Y + 1) - y0) y) (iaD lo d (64 * Y - y1) (64 * (Y + 1) - y0) y) (ieN hi d (64 * Y - y1) (64 * (Y + 1) - y0) y) (ieD hi d (64 * Y - y1) (64 * (Y + 1) - y0) y) x0 x
def swL (x1 y0 y1 x y d lo hi Y : Int) : Int := covL (iaN lo d (64 * Y - y1) (64 * (Y + 1) - y0) y) (iaD lo d (64 * Y - y1) (64 * (Y + 1) - y0) y) (ieN hi d (64 * Y - y1) (64 * (Y + 1) - y0) y) (ieD hi d (64 * Y - y1) (64 * (Y + 1) - y0) y) x1 x
/-- The rows from Y0 on, k of them. -/
def swK (x0 y0 x1 y1 x y d lo hi Y0 : Int) : Nat → List P2
  | 0 => []
  | k + 1 => swK x0 y0 x1 y1 x y d lo hi Y0 k ++ rowK (Y0 + (k : Int)) (swF x0 y0 y1 x y d lo hi (Y0 + (k : Int))) (swL x1 y0 y1 x y d lo hi (Y0 + (k : Int)) + 1 - swF x0 y0 y1 x y d lo hi (Y0 + (k : Int))).toNat
/-- The swept cells. -/
def swX (x0 y0 x1 y1 x y d lo hi : Int) : List P2 := swK x0 y0 x1 y1 x y d lo hi (covF lo d hi d y0 y) (covL lo d hi d y1 y + 1 - covF lo d hi d y0 y).toNat
theorem mem_swK {x0 y0 x1 y1 x y d lo hi Y0 : Int} {k : Nat} {c : P2} : c ∈ swK x0 y0 x1 y1 x y d lo hi Y0 k ↔ (Y0 ≤ c.2 ∧ c.2 < Y0 + k) ∧ swF x0 y0 y1 x y d lo hi c.2 ≤ c.1 ∧ c.1 ≤ swL x1 y0 y1 x y d lo hi c.2 := by
  induction k with
  | zero => simp [swK]; omega
  | succ k ih =>
    rw [swK, List.mem_append, ih, mem_rowK]
    constructor
    · rintro (⟨h1, h2⟩ | ⟨h1, h2, h3⟩)
      · exact ⟨by omega, h2⟩
      · rw [h1]; exact ⟨by omega, by omega, by omega⟩
    · rintro ⟨h1, h2⟩
      by_cases h : c.2 < Y0 + k
      · exact .inl ⟨by omega, h2⟩
      · right
        have : c.2 = Y0 + k := by omega
        rw [this] at h2
        exact ⟨this, by omega, by omega⟩
/-- A cell meets a ray from a rectangle at some part N/M of the vector. -/
def SwP (x0 y0 x1 y1 x y d lo hi X Y : Int) : Prop := ∃ N M, 1 ≤ M ∧ (lo * M ≤ N * d ∧ N * d ≤ hi * M) ∧ (x0 * M + N * x ≤ 64 * (X + 1) * M ∧ 64 * X * M ≤ x1 * M + N * x) ∧ (y0 * M + N * y ≤ 64 * (Y + 1) * M ∧ 64 * Y * M ≤ y1 * M + N * y)
theorem mem_swX {x0 y0 x1 y1 x y d lo hi X Y : Int} (hd : 1 ≤ d) (hl : lo ≤ hi) (hx : x0 ≤ x1) (hy : y0 ≤ y1) : (X, Y) ∈ swX x0 y0 x1 y1 x y d lo hi ↔ SwP x0 y0 x1 y1 x y d lo hi X Y := by
  unfold swX
  rw [mem_swK]
  dsimp only
  have hne : lo * d ≤ hi * d := mle (by omega) hl
  have cy := cov_iff (lo := y0) (hi := y1) (s := y) (y := Y) hd hd hne hy
  have er : (covF lo d hi d y0 y ≤ Y ∧ Y < covF lo d hi d y0 y + ((covL lo d hi d y1 y + 1 - covF lo d hi d y0 y).toNat : Int)) ↔ (covF lo d hi d y0 y ≤ Y ∧ Y ≤ covL lo d hi d y1 y) := by omega
  rw [er]
  have key : (covF lo d hi d y0 y ≤ Y ∧ Y ≤ covL lo d hi d y1 y) → ((swF x0 y0 y1 x y d lo hi Y ≤ X ∧ X ≤ swL x1 y0 y1 x y d lo hi Y) ↔ SwP x0 y0 x1 y1 x y d lo hi X Y) := by
    intro hr
    obtain ⟨N0, M0, hM0, i0, g1, g2⟩ := cy.1 hr
    have h0 : y = 0 → 64 * Y - y1 ≤ 0 ∧ 0 ≤ 64 * (Y + 1) - y0 := by
      intro e; subst e
      have q1 : y0 ≤ 64 * (Y + 1) := le_cancel hM0 (by omega)
      have q2 : 64 * Y ≤ y1 := le_cancel hM0 (by omega)
      omega
    have in0 := (inRow_iff (a := lo) (b := d) (c := hi) (e := d) (up := 64 * Y - y1) (down := 64 * (Y + 1) - y0) (s := y) hd hd h0 hM0).2 ⟨i0, by grind, by grind⟩
    have hne2 := int_ne (ia_pos hd) (ie_pos hd) hM0 in0
    have cx := cov_iff (lo := x0) (hi := x1) (s := x) (y := X) (ia_pos (a := lo) (up := 64 * Y - y1) (down := 64 * (Y + 1) - y0) (s := y) hd) (ie_pos (c := hi) (up := 64 * Y - y1) (down := 64 * (Y + 1) - y0) (s := y) hd) hne2 hx
    unfold swF swL
    rw [cx]
    constructor
    · rintro ⟨N, M, hM, i, h1, h2⟩
      obtain ⟨j1, j2, j3⟩ := (inRow_iff hd hd h0 hM).1 i
      exact ⟨N, M, hM, j1, ⟨h1, h2⟩, by grind, by grind⟩
    · rintro ⟨N, M, hM, j1, ⟨h1, h2⟩, h3, h4⟩
      exact ⟨N, M, hM, (inRow_iff hd hd h0 hM).2 ⟨j1, by grind, by grind⟩, h1, h2⟩
  constructor
  · rintro ⟨h1, h2⟩; exact (key h1).1 h2
  · intro h
    have hr := cy.2 (by obtain ⟨N, M, hM, j1, -, h3, h4⟩ := h; exact ⟨N, M, hM, j1, h3, h4⟩)
    exact ⟨hr, (key hr).2 h⟩
/-- A part of a vector whose length is at most 2048. -/
structure Nr (a b d : Int) : Prop where
  b1 : 1 ≤ b
  b2 : b ≤ 67108864
  a0 : 0 ≤ a
  a1 : a * d ≤ 2048 * b
theorem Nr.prod {a b d s : Int} (h : Nr a b d) (h1 : -d ≤ s) (h2 : s ≤ d) : -(2048 * b) ≤ a * s ∧ a * s ≤ 2048 * b := by
  have q1 := mle h.a0 h1
  have q2 := mle h.a0 h2
  have e1 : -d * a = -(a * d) := by grind
  have e2 : d * a = a * d := Int.mul_comm _ _
  have e3 : s * a = a * s := Int.mul_comm _ _
  have := h.a1
  omega
theorem Nr.small {a b d : Int} (h : Nr a b d) (hd : 1 ≤ d) (hb : b ≤ d) : a ≤ 2048 := by
  have := h.a1
  have q := mle (show (0:Int) ≤ 2048 by decide) hb
  exact le_cancel hd (by omega)
theorem rF_near {lo b p : Int} (hb : 1 ≤ b) (h1 : -(2048 * b) ≤ p) (h2 : p ≤ 2048 * b) : lo - 2048 ≤ 64 * (rF (lo * b + p) b + 1) ∧ 64 * rF (lo * b + p) b < lo + 2048 := by
  constructor
  · have q := (rF_le (lo := lo * b + p) (y := rF (lo * b + p) b) hb).1 (Int.le_refl _)
    refine le_cancel hb ?_
    rw [Int.sub_mul]
    omega
  · have q := mt (rF_le (lo := lo * b + p) (y := rF (lo * b + p) b - 1) hb).2 (by omega)
    have e : 64 * (rF (lo * b + p) b - 1 + 1) = 64 * rF (lo * b + p) b := by omega
    rw [e] at q
    have : ¬ (lo + 2048 ≤ 64 * rF (lo * b + p) b) := fun hc => by
      have := mle (show 0 ≤ b by omega) hc
      rw [Int.add_mul] at this
      omega
    omega
theorem rL_near {hi b p : Int} (hb : 1 ≤ b) (h1 : -(2048 * b) ≤ p) (h2 : p ≤ 2048 * b) : hi - 2048 < 64 * (rL (hi * b + p) b + 1) ∧ 64 * rL (hi * b + p) b ≤ hi + 2048 := by
  constructor
  · have q := mt (le_rL (hi := hi * b + p) (y := rL (hi * b + p) b + 1) hb).2 (by omega)
    have : ¬ (64 * (rL (hi * b + p) b + 1) ≤ hi - 2048) := fun hc => by
      have := mle (show 0 ≤ b by omega) hc
      rw [Int.sub_mul] at this
      omega
    omega
  · have q := (le_rL (hi := hi * b + p) (y := rL (hi * b + p) b) hb).1 (Int.le_refl _)
    refine le_cancel hb ?_
    rw [Int.add_mul]
    omega
theorem covF_near {a b c e d lo s : Int} (h : Nr a b d) (g : Nr c e d) (h1 : -d ≤ s) (h2 : s ≤ d) : lo - 2048 ≤ 64 * (covF a b c e lo s + 1) ∧ 64 * covF a b c e lo s < lo + 2048 := by
  obtain ⟨p1, p2⟩ := h.prod h1 h2
  obtain ⟨p3, p4⟩ := g.prod h1 h2
  have q1 := rF_near (lo := lo) h.b1 p1 p2
  have q2 := rF_near (lo := lo) g.b1 p3 p4
  unfold covF covA
  split
  · exact q2
  · exact q1
theorem covL_near {a b c e d hi s : Int} (h : Nr a b d) (g : Nr c e d) (h1 : -d ≤ s) (h2 : s ≤ d) : hi - 2048 < 64 * (covL a b c e hi s + 1) ∧ 64 * covL a b c e hi s ≤ hi + 2048 := by
  obtain ⟨p1, p2⟩ := h.prod h1 h2
  obtain ⟨p3, p4⟩ := g.prod h1 h2
  have q1 := rL_near (hi := hi) h.b1 p1 p2
  have q2 := rL_near (hi := hi) g.b1 p3 p4
  unfold covL covB
  split
  · exact q2
  · exact q1
theorem nr_of {t d : Int} (hd : 1 ≤ d) (hd2 : d ≤ 67108864) (h0 : 0 ≤ t) (h1 : t ≤ 2048) : Nr t d d := ⟨hd, hd2, h0, mle (by omega) h1⟩
/-- What the sweep of a valid rectangle asks for. -/
structure SwO (x0 y0 x1 y1 x y d lo hi : Int) : Prop where
  v : OkV x y d
  l0 : 0 ≤ lo
  lh : lo ≤ hi
  h1 : hi ≤ 2048
  hx : x0 ≤ x1
  hy : y0 ≤ y1
  wx : x1 - x0 ≤ 1024
  wy : y1 - y0 ≤ 1024
section
variable {x0 y0 x1 y1 x y d lo hi Y : Int}
theorem SwO.lo_nr (h : SwO x0 y0 x1 y1 x y d lo hi) : Nr lo d d := nr_of h.v.lo h.v.hi h.l0 (by have := h.lh; have := h.h1; omega)
theorem SwO.hi_nr (h : SwO x0 y0 x1 y1 x y d lo hi) : Nr hi d d := nr_of h.v.lo h.v.hi (by have := h.lh; have := h.l0; omega) h.h1
theorem SwO.rows (h : SwO x0 y0 x1 y1 x y d lo hi) : (y0 - 2048 ≤ 64 * (covF lo d hi d y0 y + 1) ∧ 64 * covF lo d hi d y0 y < y0 + 2048) ∧ (y1 - 2048 < 64 * (covL lo d hi d y1 y + 1) ∧ 64 * covL lo d hi d y1 y ≤ y1 + 2048) :=
  ⟨covF_near h.lo_nr h.hi_nr h.v.by_.1 h.v.by_.2, covL_near h.lo_nr h.hi_nr h.v.by_.1 h.v.by_.2⟩
/-- The parts of a row that is met. -/
theorem SwO.parts (h : SwO x0 y0 x1 y1 x y d lo hi) (h1 : covF lo d hi d y0 y ≤ Y) (h2 : Y ≤ covL lo d hi d y1 y) :
    Nr (iaN lo d (64 * Y - y1) (64 * (Y + 1) - y0) y) (iaD lo d (64 * Y - y1) (64 * (Y + 1) - y0) y) d ∧ iaD lo d (64 * Y - y1) (64 * (Y + 1) - y0) y ≤ d ∧
    Nr (ieN hi d (64 * Y - y1) (64 * (Y + 1) - y0) y) (ieD hi d (64 * Y - y1) (64 * (Y + 1) - y0) y) d ∧ ieD hi d (64 * Y - y1) (64 * (Y + 1) - y0) y ≤ d := by
  have hd := h.v.lo
  have hd2 := h.v.hi
  obtain ⟨b1, b2⟩ := h.v.by_
  obtain ⟨N0, M0, hM0, i0, g1, g2⟩ := (cov_iff hd hd (mle (by omega) h.lh) h.hy).1 ⟨h1, h2⟩
  have h0 : y = 0 → 64 * Y - y1 ≤ 0 ∧ 0 ≤ 64 * (Y + 1) - y0 := by
    intro e; subst e
    have q1 : y0 ≤ 64 * (Y + 1) := le_cancel hM0 (by omega)
    have q2 : 64 * Y ≤ y1 := le_cancel hM0 (by omega)
    omega
  have in0 := (inRow_iff (a := lo) (b := d) (c := hi) (e := d) (up := 64 * Y - y1) (down := 64 * (Y + 1) - y0) (s := y) hd hd h0 hM0).2 ⟨i0, by grind, by grind⟩
  have aD := ia_pos (a := lo) (b := d) (up := 64 * Y - y1) (down := 64 * (Y + 1) - y0) (s := y) hd
  have eD := ie_pos (c := hi) (e := d) (up := 64 * Y - y1) (down := 64 * (Y + 1) - y0) (s := y) hd
  have aDd : iaD lo d (64 * Y - y1) (64 * (Y + 1) - y0) y ≤ d := by unfold iaD laD; repeat' split
                                                                    all_goals omega
  have eDd : ieD hi d (64 * Y - y1) (64 * (Y + 1) - y0) y ≤ d := by unfold ieD eaD; repeat' split
                                                                    all_goals omega
  have aN : lo * iaD lo d (64 * Y - y1) (64 * (Y + 1) - y0) y ≤ iaN lo d (64 * Y - y1) (64 * (Y + 1) - y0) y * d := by
    unfold iaD iaN
    split
    · exact Int.le_refl _
    · split
      · exact ((la_le hd (by omega) (la_pos hd (by omega))).1 (Int.le_refl _)).1
      · exact ((la_le hd (by omega) (la_pos hd (by omega))).1 (Int.le_refl _)).1
  have eN : ieN hi d (64 * Y - y1) (64 * (Y + 1) - y0) y * d ≤ hi * ieD hi d (64 * Y - y1) (64 * (Y + 1) - y0) y := by
    unfold ieD ieN
    split
    · exact Int.le_refl _
    · split
      · exact ((le_ea hd (by omega) (ea_pos hd (by omega))).1 (Int.le_refl _)).1
      · exact ((le_ea hd (by omega) (ea_pos hd (by omega))).1 (Int.le_refl _)).1
  generalize iaN lo d (64 * Y - y1) (64 * (Y + 1) - y0) y = A at *
  generalize iaD lo d (64 * Y - y1) (64 * (Y + 1) - y0) y = B at *
  generalize ieN hi d (64 * Y - y1) (64 * (Y + 1) - y0) y = C at *
  generalize ieD hi d (64 * Y - y1) (64 * (Y + 1) - y0) y = E at *
  have l0 := h.l0
  have lh := h.lh
  have hh := h.h1
  have A0 : 0 ≤ A := by
    refine le_cancel hd ?_
    have := mle (show 0 ≤ B by omega) l0
    omega
  have C0 : 0 ≤ C := by
    have q1 := mle (show 0 ≤ M0 by omega) l0
    have q2 := i0.1
    have q3 : 0 ≤ N0 := le_cancel hd (by omega)
    have q4 := mle (show 0 ≤ E by omega) q3
    have q5 := in0.2
    exact le_cancel hM0 (by omega)
  have A1 : A * d ≤ 2048 * B := by
    have q1 := mle (show 0 ≤ d by omega) in0.1
    have q2 := mle (show 0 ≤ B by omega) i0.2
    have q3 := mle (show 0 ≤ B * M0 from Int.mul_nonneg (by omega) (by omega)) hh
    exact le_cancel hM0 (by grind)
  have C1 : C * d ≤ 2048 * E := by
    have q3 := mle (show 0 ≤ E by omega) hh
    omega
  exact ⟨⟨aD, by omega, A0, A1⟩, aDd, ⟨eD, by omega, C0, C1⟩, eDd⟩
theorem SwO.cols (h : SwO x0 y0 x1 y1 x y d lo hi) (h1 : covF lo d hi d y0 y ≤ Y) (h2 : Y ≤ covL lo d hi d y1 y) :
    (x0 - 2048 ≤ 64 * (swF x0 y0 y1 x y d lo hi Y + 1) ∧ 64 * swF x0 y0 y1 x y d lo hi Y < x0 + 2048) ∧ (x1 - 2048 < 64 * (swL x1 y0 y1 x y d lo hi Y + 1) ∧ 64 * swL x1 y0 y1 x y d lo hi Y ≤ x1 + 2048) := by
  obtain ⟨a, -, c, -⟩ := h.parts h1 h2
  exact ⟨covF_near a c h.v.bx.1 h.v.bx.2, covL_near a c h.v.bx.1 h.v.bx.2⟩
theorem SwO.len (h : SwO x0 y0 x1 y1 x y d lo hi) (k : Nat) (hk : covF lo d hi d y0 y + k ≤ covL lo d hi d y1 y + 1) : (swK x0 y0 x1 y1 x y d lo hi (covF lo d hi d y0 y) k).length ≤ 90 * k := by
  induction k with
  | zero => simp [swK]
  | succ k ih =>
    have q := ih (by omega)
    obtain ⟨⟨c1, -⟩, -, c2⟩ := h.cols (Y := covF lo d hi d y0 y + k) (by omega) (by omega)
    have := h.wx
    have rl : ∀ (y a : Int) (k : Nat), (rowK y a k).length = k := fun y a k => by
      induction k with
      | zero => rfl
      | succ k ih => simp [rowK, ih]
    rw [swK, List.length_append, rl]
    omega
end
end Go.Proofs.Ytkhcogfajihecaa
