/- The reference's Times, Enter, Leave. -/
import Derived.Test.YtkhcogfajihecaaS8
import Derived.Test.YtkhcogfajihecaaS8b
import Derived.Test.YtkhcogfajihecaaS8c
import Derived.Test.YtkhcogfajihecaaSTime
set_option linter.unusedVariables false
set_option linter.unusedSimpArgs false
namespace Go.Proofs.Ytkhcogfajihecaa
open Go Go.RowKit Hd

theorem Times_x (a b x y d x0 y0 x1 y1 b0 b1 b2 b3 : Int) (h1 : ∀ w, Calls Try.prog 102 #[.int .i64 a, .int .i64 x, .int .i64 x0, .int .i64 x1] w fun e w' => e = .returned (.agg #[.int .i64 0, .int .i64 0, .int .i64 0, .int .i64 0, .bool false, .bool true]) ∧ Below w.heap.size w w') (h2 : ∀ w, Calls Try.prog 102 #[.int .i64 b, .int .i64 y, .int .i64 y0, .int .i64 y1] w fun e w' => e = .returned (.agg #[.int .i64 b0, .int .i64 b1, .int .i64 b2, .int .i64 b3, .bool false, .bool false]) ∧ Below w.heap.size w w') (b0a : -4194304 ≤ b0) (b0b : b0 ≤ 4194304) (b1a : 0 ≤ b1) (b1b : b1 ≤ 67108864) (b2a : -4194304 ≤ b2) (b2b : b2 ≤ 4194304) (b3a : 0 ≤ b3) (b3b : b3 ≤ 67108864) (w : World) :
    Calls Try.prog 99 #[.agg #[.int .i64 a, .int .i64 b], .agg #[.int .i64 x, .int .i64 y, .int .i64 d], .agg #[.int .i64 x0, .int .i64 y0, .int .i64 x1, .int .i64 y1]] w fun e w' => e = .returned (.agg #[.int .i64 ((reS (tmC ⟨b0, b1, b2, b3⟩ ⟨b0, b1, b2, b3⟩)).i), .int .i64 ((reS (tmC ⟨b0, b1, b2, b3⟩ ⟨b0, b1, b2, b3⟩)).j), .int .i64 ((reS (tmC ⟨b0, b1, b2, b3⟩ ⟨b0, b1, b2, b3⟩)).o), .int .i64 ((reS (tmC ⟨b0, b1, b2, b3⟩ ⟨b0, b1, b2, b3⟩)).u), .bool (emB (tmC ⟨b0, b1, b2, b3⟩ ⟨b0, b1, b2, b3⟩)), .bool false]) ∧ Below w.heap.size w w' := by
  have g1 : ¬ b0 * b1 < b0 * b1 := by omega
  have g2 : ¬ b2 * b3 < b2 * b3 := by omega
  by_cases g3 : b0 < 0
  · by_cases g4 : b2 * 1 < 0 * b3
    · have g3' : b0 * 1 < 0 * b1 := by omega
      have eM : tmC ⟨b0, b1, b2, b3⟩ ⟨b0, b1, b2, b3⟩ = ⟨0, 1, b2, b3⟩ := by simp only [tmC, cutI, cutO, if_neg g1, if_neg g2, if_pos g3']
      have eE : emB ⟨0, 1, b2, b3⟩ = true := decide_eq_true g4
      rw [eM, show reS ⟨0, 1, b2, b3⟩ = sz from if_pos eE, eE]
      exact Times_xfftt a b x y d x0 y0 x1 y1 b0 b1 b2 b3 h1 h2 b0a b0b b1a b1b b2a b2b b3a b3b g1 g2 g3 g4 w
    · have g3' : b0 * 1 < 0 * b1 := by omega
      have eM : tmC ⟨b0, b1, b2, b3⟩ ⟨b0, b1, b2, b3⟩ = ⟨0, 1, b2, b3⟩ := by simp only [tmC, cutI, cutO, if_neg g1, if_neg g2, if_pos g3']
      have eE : emB ⟨0, 1, b2, b3⟩ = false := decide_eq_false g4
      rw [eM, show reS ⟨0, 1, b2, b3⟩ = ⟨0, 1, b2, b3⟩ from if_neg (by rw [eE]; decide), eE]
      exact Times_xfftf a b x y d x0 y0 x1 y1 b0 b1 b2 b3 h1 h2 b0a b0b b1a b1b b2a b2b b3a b3b g1 g2 g3 g4 w
  · by_cases g4 : b2 * b1 < b0 * b3
    · have g3' : ¬ b0 * 1 < 0 * b1 := by omega
      have eM : tmC ⟨b0, b1, b2, b3⟩ ⟨b0, b1, b2, b3⟩ = ⟨b0, b1, b2, b3⟩ := by simp only [tmC, cutI, cutO, if_neg g1, if_neg g2, if_neg g3']
      have eE : emB ⟨b0, b1, b2, b3⟩ = true := decide_eq_true g4
      rw [eM, show reS ⟨b0, b1, b2, b3⟩ = sz from if_pos eE, eE]
      exact Times_xffft a b x y d x0 y0 x1 y1 b0 b1 b2 b3 h1 h2 b0a b0b b1a b1b b2a b2b b3a b3b g1 g2 g3 g4 w
    · have g3' : ¬ b0 * 1 < 0 * b1 := by omega
      have eM : tmC ⟨b0, b1, b2, b3⟩ ⟨b0, b1, b2, b3⟩ = ⟨b0, b1, b2, b3⟩ := by simp only [tmC, cutI, cutO, if_neg g1, if_neg g2, if_neg g3']
      have eE : emB ⟨b0, b1, b2, b3⟩ = false := decide_eq_false g4
      rw [eM, show reS ⟨b0, b1, b2, b3⟩ = ⟨b0, b1, b2, b3⟩ from if_neg (by rw [eE]; decide), eE]
      exact Times_xffff a b x y d x0 y0 x1 y1 b0 b1 b2 b3 h1 h2 b0a b0b b1a b1b b2a b2b b3a b3b g1 g2 g3 g4 w

theorem Times_y (a b x y d x0 y0 x1 y1 a0 a1 a2 a3 : Int) (h1 : ∀ w, Calls Try.prog 102 #[.int .i64 a, .int .i64 x, .int .i64 x0, .int .i64 x1] w fun e w' => e = .returned (.agg #[.int .i64 a0, .int .i64 a1, .int .i64 a2, .int .i64 a3, .bool false, .bool false]) ∧ Below w.heap.size w w') (h2 : ∀ w, Calls Try.prog 102 #[.int .i64 b, .int .i64 y, .int .i64 y0, .int .i64 y1] w fun e w' => e = .returned (.agg #[.int .i64 0, .int .i64 0, .int .i64 0, .int .i64 0, .bool false, .bool true]) ∧ Below w.heap.size w w') (a0a : -4194304 ≤ a0) (a0b : a0 ≤ 4194304) (a1a : 0 ≤ a1) (a1b : a1 ≤ 67108864) (a2a : -4194304 ≤ a2) (a2b : a2 ≤ 4194304) (a3a : 0 ≤ a3) (a3b : a3 ≤ 67108864) (w : World) :
    Calls Try.prog 99 #[.agg #[.int .i64 a, .int .i64 b], .agg #[.int .i64 x, .int .i64 y, .int .i64 d], .agg #[.int .i64 x0, .int .i64 y0, .int .i64 x1, .int .i64 y1]] w fun e w' => e = .returned (.agg #[.int .i64 ((reS (tmC ⟨a0, a1, a2, a3⟩ ⟨a0, a1, a2, a3⟩)).i), .int .i64 ((reS (tmC ⟨a0, a1, a2, a3⟩ ⟨a0, a1, a2, a3⟩)).j), .int .i64 ((reS (tmC ⟨a0, a1, a2, a3⟩ ⟨a0, a1, a2, a3⟩)).o), .int .i64 ((reS (tmC ⟨a0, a1, a2, a3⟩ ⟨a0, a1, a2, a3⟩)).u), .bool (emB (tmC ⟨a0, a1, a2, a3⟩ ⟨a0, a1, a2, a3⟩)), .bool false]) ∧ Below w.heap.size w w' := by
  have g1 : ¬ a0 * a1 < a0 * a1 := by omega
  have g2 : ¬ a2 * a3 < a2 * a3 := by omega
  by_cases g3 : a0 < 0
  · by_cases g4 : a2 * 1 < 0 * a3
    · have g3' : a0 * 1 < 0 * a1 := by omega
      have eM : tmC ⟨a0, a1, a2, a3⟩ ⟨a0, a1, a2, a3⟩ = ⟨0, 1, a2, a3⟩ := by simp only [tmC, cutI, cutO, if_neg g1, if_neg g2, if_pos g3']
      have eE : emB ⟨0, 1, a2, a3⟩ = true := decide_eq_true g4
      rw [eM, show reS ⟨0, 1, a2, a3⟩ = sz from if_pos eE, eE]
      exact Times_yfftt a b x y d x0 y0 x1 y1 a0 a1 a2 a3 h1 h2 a0a a0b a1a a1b a2a a2b a3a a3b g1 g2 g3 g4 w
    · have g3' : a0 * 1 < 0 * a1 := by omega
      have eM : tmC ⟨a0, a1, a2, a3⟩ ⟨a0, a1, a2, a3⟩ = ⟨0, 1, a2, a3⟩ := by simp only [tmC, cutI, cutO, if_neg g1, if_neg g2, if_pos g3']
      have eE : emB ⟨0, 1, a2, a3⟩ = false := decide_eq_false g4
      rw [eM, show reS ⟨0, 1, a2, a3⟩ = ⟨0, 1, a2, a3⟩ from if_neg (by rw [eE]; decide), eE]
      exact Times_yfftf a b x y d x0 y0 x1 y1 a0 a1 a2 a3 h1 h2 a0a a0b a1a a1b a2a a2b a3a a3b g1 g2 g3 g4 w
  · by_cases g4 : a2 * a1 < a0 * a3
    · have g3' : ¬ a0 * 1 < 0 * a1 := by omega
      have eM : tmC ⟨a0, a1, a2, a3⟩ ⟨a0, a1, a2, a3⟩ = ⟨a0, a1, a2, a3⟩ := by simp only [tmC, cutI, cutO, if_neg g1, if_neg g2, if_neg g3']
      have eE : emB ⟨a0, a1, a2, a3⟩ = true := decide_eq_true g4
      rw [eM, show reS ⟨a0, a1, a2, a3⟩ = sz from if_pos eE, eE]
      exact Times_yffft a b x y d x0 y0 x1 y1 a0 a1 a2 a3 h1 h2 a0a a0b a1a a1b a2a a2b a3a a3b g1 g2 g3 g4 w
    · have g3' : ¬ a0 * 1 < 0 * a1 := by omega
      have eM : tmC ⟨a0, a1, a2, a3⟩ ⟨a0, a1, a2, a3⟩ = ⟨a0, a1, a2, a3⟩ := by simp only [tmC, cutI, cutO, if_neg g1, if_neg g2, if_neg g3']
      have eE : emB ⟨a0, a1, a2, a3⟩ = false := decide_eq_false g4
      rw [eM, show reS ⟨a0, a1, a2, a3⟩ = ⟨a0, a1, a2, a3⟩ from if_neg (by rw [eE]; decide), eE]
      exact Times_yffff a b x y d x0 y0 x1 y1 a0 a1 a2 a3 h1 h2 a0a a0b a1a a1b a2a a2b a3a a3b g1 g2 g3 g4 w

theorem Times_xy (a b x y d x0 y0 x1 y1 a0 a1 a2 a3 b0 b1 b2 b3 : Int) (h1 : ∀ w, Calls Try.prog 102 #[.int .i64 a, .int .i64 x, .int .i64 x0, .int .i64 x1] w fun e w' => e = .returned (.agg #[.int .i64 a0, .int .i64 a1, .int .i64 a2, .int .i64 a3, .bool false, .bool false]) ∧ Below w.heap.size w w') (h2 : ∀ w, Calls Try.prog 102 #[.int .i64 b, .int .i64 y, .int .i64 y0, .int .i64 y1] w fun e w' => e = .returned (.agg #[.int .i64 b0, .int .i64 b1, .int .i64 b2, .int .i64 b3, .bool false, .bool false]) ∧ Below w.heap.size w w') (a0a : -4194304 ≤ a0) (a0b : a0 ≤ 4194304) (a1a : 0 ≤ a1) (a1b : a1 ≤ 67108864) (a2a : -4194304 ≤ a2) (a2b : a2 ≤ 4194304) (a3a : 0 ≤ a3) (a3b : a3 ≤ 67108864) (b0a : -4194304 ≤ b0) (b0b : b0 ≤ 4194304) (b1a : 0 ≤ b1) (b1b : b1 ≤ 67108864) (b2a : -4194304 ≤ b2) (b2b : b2 ≤ 4194304) (b3a : 0 ≤ b3) (b3b : b3 ≤ 67108864) (w : World) :
    Calls Try.prog 99 #[.agg #[.int .i64 a, .int .i64 b], .agg #[.int .i64 x, .int .i64 y, .int .i64 d], .agg #[.int .i64 x0, .int .i64 y0, .int .i64 x1, .int .i64 y1]] w fun e w' => e = .returned (.agg #[.int .i64 ((reS (tmC ⟨a0, a1, a2, a3⟩ ⟨b0, b1, b2, b3⟩)).i), .int .i64 ((reS (tmC ⟨a0, a1, a2, a3⟩ ⟨b0, b1, b2, b3⟩)).j), .int .i64 ((reS (tmC ⟨a0, a1, a2, a3⟩ ⟨b0, b1, b2, b3⟩)).o), .int .i64 ((reS (tmC ⟨a0, a1, a2, a3⟩ ⟨b0, b1, b2, b3⟩)).u), .bool (emB (tmC ⟨a0, a1, a2, a3⟩ ⟨b0, b1, b2, b3⟩)), .bool false]) ∧ Below w.heap.size w w' := by
  by_cases g1 : a0 * b1 < b0 * a1
  · by_cases g2 : b2 * a3 < a2 * b3
    · by_cases g3 : b0 < 0
      · by_cases g4 : b2 * 1 < 0 * b3
        · have g3' : b0 * 1 < 0 * b1 := by omega
          have eM : tmC ⟨a0, a1, a2, a3⟩ ⟨b0, b1, b2, b3⟩ = ⟨0, 1, b2, b3⟩ := by simp only [tmC, cutI, cutO, if_pos g1, if_pos g2, if_pos g3']
          have eE : emB ⟨0, 1, b2, b3⟩ = true := decide_eq_true g4
          rw [eM, show reS ⟨0, 1, b2, b3⟩ = sz from if_pos eE, eE]
          exact Times_xytttt a b x y d x0 y0 x1 y1 a0 a1 a2 a3 b0 b1 b2 b3 h1 h2 a0a a0b a1a a1b a2a a2b a3a a3b b0a b0b b1a b1b b2a b2b b3a b3b g1 g2 g3 g4 w
        · have g3' : b0 * 1 < 0 * b1 := by omega
          have eM : tmC ⟨a0, a1, a2, a3⟩ ⟨b0, b1, b2, b3⟩ = ⟨0, 1, b2, b3⟩ := by simp only [tmC, cutI, cutO, if_pos g1, if_pos g2, if_pos g3']
          have eE : emB ⟨0, 1, b2, b3⟩ = false := decide_eq_false g4
          rw [eM, show reS ⟨0, 1, b2, b3⟩ = ⟨0, 1, b2, b3⟩ from if_neg (by rw [eE]; decide), eE]
          exact Times_xytttf a b x y d x0 y0 x1 y1 a0 a1 a2 a3 b0 b1 b2 b3 h1 h2 a0a a0b a1a a1b a2a a2b a3a a3b b0a b0b b1a b1b b2a b2b b3a b3b g1 g2 g3 g4 w
      · by_cases g4 : b2 * b1 < b0 * b3
        · have g3' : ¬ b0 * 1 < 0 * b1 := by omega
          have eM : tmC ⟨a0, a1, a2, a3⟩ ⟨b0, b1, b2, b3⟩ = ⟨b0, b1, b2, b3⟩ := by simp only [tmC, cutI, cutO, if_pos g1, if_pos g2, if_neg g3']
          have eE : emB ⟨b0, b1, b2, b3⟩ = true := decide_eq_true g4
          rw [eM, show reS ⟨b0, b1, b2, b3⟩ = sz from if_pos eE, eE]
          exact Times_xyttft a b x y d x0 y0 x1 y1 a0 a1 a2 a3 b0 b1 b2 b3 h1 h2 a0a a0b a1a a1b a2a a2b a3a a3b b0a b0b b1a b1b b2a b2b b3a b3b g1 g2 g3 g4 w
        · have g3' : ¬ b0 * 1 < 0 * b1 := by omega
          have eM : tmC ⟨a0, a1, a2, a3⟩ ⟨b0, b1, b2, b3⟩ = ⟨b0, b1, b2, b3⟩ := by simp only [tmC, cutI, cutO, if_pos g1, if_pos g2, if_neg g3']
          have eE : emB ⟨b0, b1, b2, b3⟩ = false := decide_eq_false g4
          rw [eM, show reS ⟨b0, b1, b2, b3⟩ = ⟨b0, b1, b2, b3⟩ from if_neg (by rw [eE]; decide), eE]
          exact Times_xyttff a b x y d x0 y0 x1 y1 a0 a1 a2 a3 b0 b1 b2 b3 h1 h2 a0a a0b a1a a1b a2a a2b a3a a3b b0a b0b b1a b1b b2a b2b b3a b3b g1 g2 g3 g4 w
    · by_cases g3 : b0 < 0
      · by_cases g4 : a2 * 1 < 0 * a3
        · have g3' : b0 * 1 < 0 * b1 := by omega
          have eM : tmC ⟨a0, a1, a2, a3⟩ ⟨b0, b1, b2, b3⟩ = ⟨0, 1, a2, a3⟩ := by simp only [tmC, cutI, cutO, if_pos g1, if_neg g2, if_pos g3']
          have eE : emB ⟨0, 1, a2, a3⟩ = true := decide_eq_true g4
          rw [eM, show reS ⟨0, 1, a2, a3⟩ = sz from if_pos eE, eE]
          exact Times_xytftt a b x y d x0 y0 x1 y1 a0 a1 a2 a3 b0 b1 b2 b3 h1 h2 a0a a0b a1a a1b a2a a2b a3a a3b b0a b0b b1a b1b b2a b2b b3a b3b g1 g2 g3 g4 w
        · have g3' : b0 * 1 < 0 * b1 := by omega
          have eM : tmC ⟨a0, a1, a2, a3⟩ ⟨b0, b1, b2, b3⟩ = ⟨0, 1, a2, a3⟩ := by simp only [tmC, cutI, cutO, if_pos g1, if_neg g2, if_pos g3']
          have eE : emB ⟨0, 1, a2, a3⟩ = false := decide_eq_false g4
          rw [eM, show reS ⟨0, 1, a2, a3⟩ = ⟨0, 1, a2, a3⟩ from if_neg (by rw [eE]; decide), eE]
          exact Times_xytftf a b x y d x0 y0 x1 y1 a0 a1 a2 a3 b0 b1 b2 b3 h1 h2 a0a a0b a1a a1b a2a a2b a3a a3b b0a b0b b1a b1b b2a b2b b3a b3b g1 g2 g3 g4 w
      · by_cases g4 : a2 * b1 < b0 * a3
        · have g3' : ¬ b0 * 1 < 0 * b1 := by omega
          have eM : tmC ⟨a0, a1, a2, a3⟩ ⟨b0, b1, b2, b3⟩ = ⟨b0, b1, a2, a3⟩ := by simp only [tmC, cutI, cutO, if_pos g1, if_neg g2, if_neg g3']
          have eE : emB ⟨b0, b1, a2, a3⟩ = true := decide_eq_true g4
          rw [eM, show reS ⟨b0, b1, a2, a3⟩ = sz from if_pos eE, eE]
          exact Times_xytfft a b x y d x0 y0 x1 y1 a0 a1 a2 a3 b0 b1 b2 b3 h1 h2 a0a a0b a1a a1b a2a a2b a3a a3b b0a b0b b1a b1b b2a b2b b3a b3b g1 g2 g3 g4 w
        · have g3' : ¬ b0 * 1 < 0 * b1 := by omega
          have eM : tmC ⟨a0, a1, a2, a3⟩ ⟨b0, b1, b2, b3⟩ = ⟨b0, b1, a2, a3⟩ := by simp only [tmC, cutI, cutO, if_pos g1, if_neg g2, if_neg g3']
          have eE : emB ⟨b0, b1, a2, a3⟩ = false := decide_eq_false g4
          rw [eM, show reS ⟨b0, b1, a2, a3⟩ = ⟨b0, b1, a2, a3⟩ from if_neg (by rw [eE]; decide), eE]
          exact Times_xytfff a b x y d x0 y0 x1 y1 a0 a1 a2 a3 b0 b1 b2 b3 h1 h2 a0a a0b a1a a1b a2a a2b a3a a3b b0a b0b b1a b1b b2a b2b b3a b3b g1 g2 g3 g4 w
  · by_cases g2 : b2 * a3 < a2 * b3
    · by_cases g3 : a0 < 0
      · by_cases g4 : b2 * 1 < 0 * b3
        · have g3' : a0 * 1 < 0 * a1 := by omega
          have eM : tmC ⟨a0, a1, a2, a3⟩ ⟨b0, b1, b2, b3⟩ = ⟨0, 1, b2, b3⟩ := by simp only [tmC, cutI, cutO, if_neg g1, if_pos g2, if_pos g3']
          have eE : emB ⟨0, 1, b2, b3⟩ = true := decide_eq_true g4
          rw [eM, show reS ⟨0, 1, b2, b3⟩ = sz from if_pos eE, eE]
          exact Times_xyfttt a b x y d x0 y0 x1 y1 a0 a1 a2 a3 b0 b1 b2 b3 h1 h2 a0a a0b a1a a1b a2a a2b a3a a3b b0a b0b b1a b1b b2a b2b b3a b3b g1 g2 g3 g4 w
        · have g3' : a0 * 1 < 0 * a1 := by omega
          have eM : tmC ⟨a0, a1, a2, a3⟩ ⟨b0, b1, b2, b3⟩ = ⟨0, 1, b2, b3⟩ := by simp only [tmC, cutI, cutO, if_neg g1, if_pos g2, if_pos g3']
          have eE : emB ⟨0, 1, b2, b3⟩ = false := decide_eq_false g4
          rw [eM, show reS ⟨0, 1, b2, b3⟩ = ⟨0, 1, b2, b3⟩ from if_neg (by rw [eE]; decide), eE]
          exact Times_xyfttf a b x y d x0 y0 x1 y1 a0 a1 a2 a3 b0 b1 b2 b3 h1 h2 a0a a0b a1a a1b a2a a2b a3a a3b b0a b0b b1a b1b b2a b2b b3a b3b g1 g2 g3 g4 w
      · by_cases g4 : b2 * a1 < a0 * b3
        · have g3' : ¬ a0 * 1 < 0 * a1 := by omega
          have eM : tmC ⟨a0, a1, a2, a3⟩ ⟨b0, b1, b2, b3⟩ = ⟨a0, a1, b2, b3⟩ := by simp only [tmC, cutI, cutO, if_neg g1, if_pos g2, if_neg g3']
          have eE : emB ⟨a0, a1, b2, b3⟩ = true := decide_eq_true g4
          rw [eM, show reS ⟨a0, a1, b2, b3⟩ = sz from if_pos eE, eE]
          exact Times_xyftft a b x y d x0 y0 x1 y1 a0 a1 a2 a3 b0 b1 b2 b3 h1 h2 a0a a0b a1a a1b a2a a2b a3a a3b b0a b0b b1a b1b b2a b2b b3a b3b g1 g2 g3 g4 w
        · have g3' : ¬ a0 * 1 < 0 * a1 := by omega
          have eM : tmC ⟨a0, a1, a2, a3⟩ ⟨b0, b1, b2, b3⟩ = ⟨a0, a1, b2, b3⟩ := by simp only [tmC, cutI, cutO, if_neg g1, if_pos g2, if_neg g3']
          have eE : emB ⟨a0, a1, b2, b3⟩ = false := decide_eq_false g4
          rw [eM, show reS ⟨a0, a1, b2, b3⟩ = ⟨a0, a1, b2, b3⟩ from if_neg (by rw [eE]; decide), eE]
          exact Times_xyftff a b x y d x0 y0 x1 y1 a0 a1 a2 a3 b0 b1 b2 b3 h1 h2 a0a a0b a1a a1b a2a a2b a3a a3b b0a b0b b1a b1b b2a b2b b3a b3b g1 g2 g3 g4 w
    · by_cases g3 : a0 < 0
      · by_cases g4 : a2 * 1 < 0 * a3
        · have g3' : a0 * 1 < 0 * a1 := by omega
          have eM : tmC ⟨a0, a1, a2, a3⟩ ⟨b0, b1, b2, b3⟩ = ⟨0, 1, a2, a3⟩ := by simp only [tmC, cutI, cutO, if_neg g1, if_neg g2, if_pos g3']
          have eE : emB ⟨0, 1, a2, a3⟩ = true := decide_eq_true g4
          rw [eM, show reS ⟨0, 1, a2, a3⟩ = sz from if_pos eE, eE]
          exact Times_xyfftt a b x y d x0 y0 x1 y1 a0 a1 a2 a3 b0 b1 b2 b3 h1 h2 a0a a0b a1a a1b a2a a2b a3a a3b b0a b0b b1a b1b b2a b2b b3a b3b g1 g2 g3 g4 w
        · have g3' : a0 * 1 < 0 * a1 := by omega
          have eM : tmC ⟨a0, a1, a2, a3⟩ ⟨b0, b1, b2, b3⟩ = ⟨0, 1, a2, a3⟩ := by simp only [tmC, cutI, cutO, if_neg g1, if_neg g2, if_pos g3']
          have eE : emB ⟨0, 1, a2, a3⟩ = false := decide_eq_false g4
          rw [eM, show reS ⟨0, 1, a2, a3⟩ = ⟨0, 1, a2, a3⟩ from if_neg (by rw [eE]; decide), eE]
          exact Times_xyfftf a b x y d x0 y0 x1 y1 a0 a1 a2 a3 b0 b1 b2 b3 h1 h2 a0a a0b a1a a1b a2a a2b a3a a3b b0a b0b b1a b1b b2a b2b b3a b3b g1 g2 g3 g4 w
      · by_cases g4 : a2 * a1 < a0 * a3
        · have g3' : ¬ a0 * 1 < 0 * a1 := by omega
          have eM : tmC ⟨a0, a1, a2, a3⟩ ⟨b0, b1, b2, b3⟩ = ⟨a0, a1, a2, a3⟩ := by simp only [tmC, cutI, cutO, if_neg g1, if_neg g2, if_neg g3']
          have eE : emB ⟨a0, a1, a2, a3⟩ = true := decide_eq_true g4
          rw [eM, show reS ⟨a0, a1, a2, a3⟩ = sz from if_pos eE, eE]
          exact Times_xyffft a b x y d x0 y0 x1 y1 a0 a1 a2 a3 b0 b1 b2 b3 h1 h2 a0a a0b a1a a1b a2a a2b a3a a3b b0a b0b b1a b1b b2a b2b b3a b3b g1 g2 g3 g4 w
        · have g3' : ¬ a0 * 1 < 0 * a1 := by omega
          have eM : tmC ⟨a0, a1, a2, a3⟩ ⟨b0, b1, b2, b3⟩ = ⟨a0, a1, a2, a3⟩ := by simp only [tmC, cutI, cutO, if_neg g1, if_neg g2, if_neg g3']
          have eE : emB ⟨a0, a1, a2, a3⟩ = false := decide_eq_false g4
          rw [eM, show reS ⟨a0, a1, a2, a3⟩ = ⟨a0, a1, a2, a3⟩ from if_neg (by rw [eE]; decide), eE]
          exact Times_xyffff a b x y d x0 y0 x1 y1 a0 a1 a2 a3 b0 b1 b2 b3 h1 h2 a0a a0b a1a a1b a2a a2b a3a a3b b0a b0b b1a b1b b2a b2b b3a b3b g1 g2 g3 g4 w

theorem axis_some (p x lo hi : Int) (p1 : -2097152 ≤ p) (p2 : p ≤ 2097152) (l1 : -2097152 ≤ lo) (l2 : lo ≤ 2097152) (h1 : -2097152 ≤ hi) (h2 : hi ≤ 2097152) (x0 : x ≠ 0) (x1 : -67108864 ≤ x) (x2 : x ≤ 67108864) (w : World) :
    Calls Try.prog 102 #[.int .i64 p, .int .i64 x, .int .i64 lo, .int .i64 hi] w fun e w' => e = .returned (.agg #[.int .i64 (axS p x lo hi).i, .int .i64 (axS p x lo hi).j, .int .i64 (axS p x lo hi).o, .int .i64 (axS p x lo hi).u, .bool false, .bool false]) ∧ Below w.heap.size w w' := by
  by_cases hn : x < 0
  · rw [show axS p x lo hi = ⟨p - hi, -x, p - lo, -x⟩ from if_pos hn]
    exact axis_neg p x lo hi _ _ _ p1 p2 l1 l2 h1 h2 hn x1 rfl rfl rfl w
  · rw [show axS p x lo hi = ⟨lo - p, x, hi - p, x⟩ from if_neg hn]
    exact axis_pos p x lo hi _ _ _ p1 p2 l1 l2 h1 h2 (by omega) x2 rfl rfl rfl w
theorem axis_none (p lo hi : Int) (p1 : -2097152 ≤ p) (p2 : p ≤ 2097152) (l1 : -2097152 ≤ lo) (l2 : lo ≤ 2097152) (h1 : -2097152 ≤ hi) (h2 : hi ≤ 2097152) (h : p < lo ∨ hi < p) (w : World) :
    Calls Try.prog 102 #[.int .i64 p, .int .i64 0, .int .i64 lo, .int .i64 hi] w fun e w' => e = .returned (.agg #[.int .i64 0, .int .i64 0, .int .i64 0, .int .i64 0, .bool true, .bool false]) ∧ Below w.heap.size w w' := by
  by_cases g : p < lo
  · exact axis_e1 p lo hi p1 p2 l1 l2 h1 h2 g w
  · exact axis_e2 p lo hi p1 p2 l1 l2 h1 h2 (by omega) (by omega) w
theorem axS_bd {p x lo hi : Int} (p1 : -2097152 ≤ p) (p2 : p ≤ 2097152) (l1 : -2097152 ≤ lo) (l2 : lo ≤ 2097152) (h1 : -2097152 ≤ hi) (h2 : hi ≤ 2097152) (x0 : x ≠ 0) (x1 : -67108864 ≤ x) (x2 : x ≤ 67108864) : Bd (axS p x lo hi).i (axS p x lo hi).j (axS p x lo hi).o (axS p x lo hi).u := by
  unfold axS; split <;> (constructor <;> (try dsimp only) <;> omega)
theorem Times_any (a b x y d x0 y0 x1 y1 : Int) (h : Ok3 a b x y d x0 y0 x1 y1) (w : World) :
    Calls Try.prog 99 #[.agg #[.int .i64 a, .int .i64 b], .agg #[.int .i64 x, .int .i64 y, .int .i64 d], .agg #[.int .i64 x0, .int .i64 y0, .int .i64 x1, .int .i64 y1]] w fun e w' => e = .returned (.agg #[.int .i64 ((tmR a b x y x0 y0 x1 y1).i), .int .i64 ((tmR a b x y x0 y0 x1 y1).j), .int .i64 ((tmR a b x y x0 y0 x1 y1).o), .int .i64 ((tmR a b x y x0 y0 x1 y1).u), .bool (tmE a b x y x0 y0 x1 y1), .bool false]) ∧ Below w.heap.size w w' := by
  have hn := ok3_n h
  have ex := h.2.1.bx
  have ey := h.2.1.by_
  have ed := h.2.1.hi
  obtain ⟨⟨p1, p2, p3, p4⟩, -, r1, r2, r3, r4, r5, r6, r7, r8, r9, r10⟩ := h
  by_cases hX : tmX a x x0 x1
  · have eE : tmE a b x y x0 y0 x1 y1 = true := by unfold tmE; rw [decide_eq_true (.inl hX)]; rfl
    rw [show tmR a b x y x0 y0 x1 y1 = sz from if_pos eE, eE]
    obtain ⟨rfl, hx⟩ := hX
    exact Times_eX a b 0 y d x0 y0 x1 y1 _ _ _ _ _ _ (fun w => axis_none a x0 x1 p1 p2 r1 r2 r5 r6 hx w) (fun w => axis_some b y y0 y1 p3 p4 r3 r4 r7 r8 (by omega) (by omega) (by omega) w) w
  by_cases hY : tmX b y y0 y1
  · have eE : tmE a b x y x0 y0 x1 y1 = true := by unfold tmE; rw [decide_eq_true (.inr hY)]; rfl
    rw [show tmR a b x y x0 y0 x1 y1 = sz from if_pos eE, eE]
    obtain ⟨rfl, hy⟩ := hY
    exact Times_eY a b x 0 d x0 y0 x1 y1 _ _ _ _ _ (fun w => axis_some a x x0 x1 p1 p2 r1 r2 r5 r6 (by omega) (by omega) (by omega) w) (fun w => axis_none b y0 y1 p3 p4 r3 r4 r7 r8 hy w) w
  have eE : tmE a b x y x0 y0 x1 y1 = emB (tmS a b x y x0 y0 x1 y1) := by unfold tmE; rw [decide_eq_false (by rintro (h | h); exact hX h; exact hY h)]; rfl
  have eR : tmR a b x y x0 y0 x1 y1 = reS (tmS a b x y x0 y0 x1 y1) := by unfold tmR reS; rw [eE]
  rw [eR, eE]
  unfold tmS
  by_cases hx : x = 0
  · subst hx
    have h0 : ¬ (a < x0 ∨ x1 < a) := fun h => hX ⟨rfl, h⟩
    rw [if_pos rfl, if_neg (show y ≠ 0 by omega)]
    have b := axS_bd (p := b) (x := y) (lo := y0) (hi := y1) p3 p4 r3 r4 r7 r8 (by omega) (by omega) (by omega)
    exact Times_x a _ 0 y d x0 y0 x1 y1 _ _ _ _ (fun w => axis_all a x0 x1 p1 p2 r1 r2 r5 r6 (by omega) (by omega) w) (fun w => axis_some _ y y0 y1 p3 p4 r3 r4 r7 r8 (by omega) (by omega) (by omega) w) b.i1 b.i2 b.j1 b.j2 b.o1 b.o2 b.u1 b.u2 w
  · rw [if_neg hx]
    have c := axS_bd (p := a) (x := x) (lo := x0) (hi := x1) p1 p2 r1 r2 r5 r6 hx (by omega) (by omega)
    by_cases hy : y = 0
    · subst hy
      have h0 : ¬ (b < y0 ∨ y1 < b) := fun h => hY ⟨rfl, h⟩
      rw [if_pos rfl]
      exact Times_y _ b x 0 d x0 y0 x1 y1 _ _ _ _ (fun w => axis_some _ x x0 x1 p1 p2 r1 r2 r5 r6 hx (by omega) (by omega) w) (fun w => axis_all b y0 y1 p3 p4 r3 r4 r7 r8 (by omega) (by omega) w) c.i1 c.i2 c.j1 c.j2 c.o1 c.o2 c.u1 c.u2 w
    · rw [if_neg hy]
      have e := axS_bd (p := b) (x := y) (lo := y0) (hi := y1) p3 p4 r3 r4 r7 r8 hy (by omega) (by omega)
      exact Times_xy _ _ x y d x0 y0 x1 y1 _ _ _ _ _ _ _ _ (fun w => axis_some _ x x0 x1 p1 p2 r1 r2 r5 r6 hx (by omega) (by omega) w) (fun w => axis_some _ y y0 y1 p3 p4 r3 r4 r7 r8 hy (by omega) (by omega) w) c.i1 c.i2 c.j1 c.j2 c.o1 c.o2 c.u1 c.u2 e.i1 e.i2 e.j1 e.j2 e.o1 e.o2 e.u1 e.u2 w
theorem tmS_bd {a b x y d x0 y0 x1 y1 : Int} (h : Ok3 a b x y d x0 y0 x1 y1) (he : tmE a b x y x0 y0 x1 y1 = false) : Bd (tmS a b x y x0 y0 x1 y1).i (tmS a b x y x0 y0 x1 y1).j (tmS a b x y x0 y0 x1 y1).o (tmS a b x y x0 y0 x1 y1).u := by
  have hn := ok3_n h
  have ex := h.2.1.bx
  have ey := h.2.1.by_
  have ed := h.2.1.hi
  obtain ⟨⟨p1, p2, p3, p4⟩, -, r1, r2, r3, r4, r5, r6, r7, r8, r9, r10⟩ := h
  have cI : ∀ {s : Sp} {X L : Int}, Bd s.i s.j s.o s.u → 0 ≤ X → X ≤ 67108864 → -4194304 ≤ L → L ≤ 4194304 → Bd (cutI s X L).i (cutI s X L).j (cutI s X L).o (cutI s X L).u := by
    intro s X L h x1 x2 l1 l2; unfold cutI; split
    · exact ⟨l1, l2, x1, x2, h.o1, h.o2, h.u1, h.u2⟩
    · exact h
  have cO : ∀ {s : Sp} {X L : Int}, Bd s.i s.j s.o s.u → 0 ≤ X → X ≤ 67108864 → -4194304 ≤ L → L ≤ 4194304 → Bd (cutO s X L).i (cutO s X L).j (cutO s X L).o (cutO s X L).u := by
    intro s X L h x1 x2 l1 l2; unfold cutO; split
    · exact ⟨h.i1, h.i2, h.j1, h.j2, l1, l2, x1, x2⟩
    · exact h
  have cC : ∀ {A B : Sp}, Bd A.i A.j A.o A.u → Bd B.i B.j B.o B.u → Bd (tmC A B).i (tmC A B).j (tmC A B).o (tmC A B).u := fun {A B} a b =>
    cI (cO (cI a b.j1 b.j2 b.i1 b.i2) b.u1 b.u2 b.o1 b.o2) (by omega) (by omega) (by omega) (by omega)
  unfold tmS
  by_cases hx : x = 0
  · rw [if_pos hx, if_neg (show y ≠ 0 by omega)]
    have b := axS_bd (p := b) (x := y) (lo := y0) (hi := y1) p3 p4 r3 r4 r7 r8 (by omega) (by omega) (by omega)
    exact cC b b
  · rw [if_neg hx]
    have c := axS_bd (p := a) (x := x) (lo := x0) (hi := x1) p1 p2 r1 r2 r5 r6 hx (by omega) (by omega)
    by_cases hy : y = 0
    · rw [if_pos hy]; exact cC c c
    · rw [if_neg hy]
      exact cC c (axS_bd p3 p4 r3 r4 r7 r8 hy (by omega) (by omega))

set_option maxRecDepth 100000 in
set_option maxHeartbeats 4000000 in
theorem REnter_bad (a b x y d x0 y0 x1 y1 : Int) (h : ¬ Ok3 a b x y d x0 y0 x1 y1) (w : World) :
    Calls Try.prog 91 #[.agg #[.int .i64 a, .int .i64 b], .agg #[.int .i64 x, .int .i64 y, .int .i64 d], .agg #[.int .i64 x0, .int .i64 y0, .int .i64 x1, .int .i64 y1]] w fun e w' => e = .returned (.tuple #[.agg #[.int .i64 (enN a b x y d x0 y0 x1 y1), .int .i64 (enD a b x y d x0 y0 x1 y1)], .bool (visB a b x y d x0 y0 x1 y1)]) ∧ Below w.heap.size w w' := by
  have HV := Lib.hid (fun w => RValid_any a b x y d x0 y0 x1 y1 w)
  rw [decide_eq_false h] at HV
  have hv : visB a b x y d x0 y0 x1 y1 = false := by unfold visB; rw [decide_eq_false h]; rfl
  rw [show enN a b x y d x0 y0 x1 y1 = 0 from if_neg (by rw [hv]; decide), show enD a b x y d x0 y0 x1 y1 = 0 from if_neg (by rw [hv]; decide), hv]
  clear h hv
  obtain ⟨HB, B_p, B_v, B_r, B_z⟩ := box4 w 43 #[.int .i64 a, .int .i64 b] 59 #[.int .i64 x, .int .i64 y, .int .i64 d] 45 #[.int .i64 x0, .int .i64 y0, .int .i64 x1, .int .i64 y1] 99 #[.int .i64 0, .int .i64 0]
  go_enter Try.func91, Try.ntmps91
  go_wp2_with fail
  generalize (((w.alloc (.cells #[.int .i64 a, .int .i64 b] 43)).alloc (.cells #[.int .i64 x, .int .i64 y, .int .i64 d] 59)).alloc (.cells #[.int .i64 x0, .int .i64 y0, .int .i64 x1, .int .i64 y1] 45)).alloc (.cells #[.int .i64 0, .int .i64 0] 99) = W0 at *
  obtain ⟨c0p, c1p⟩ := cells2 B_p
  obtain ⟨c0v, c1v, c2v⟩ := cells3 B_v
  obtain ⟨c0r, c1r, c2r, c3r⟩ := cells4 B_r
  refine (HV.out _).mono ?_
  clear c0p c1p c0v c1v c2v c0r c1r c2r c3r
  rintro e w1 ⟨rfl, bb⟩
  replace bb := nextw (w0 := W0) (by exact sm) bb
  replace B_p := mv B_p bb
  replace B_v := mv B_v bb
  replace B_r := mv B_r bb
  replace B_z := mv B_z bb
  replace HB := nx HB bb
  clear bb
  go_upto_region 2 with (fail)
  obtain ⟨s0, s1⟩ := cells2 (stor2 B_z (.int .i64 0) (.int .i64 0))
  have HF := stb2 HB (y := w.heap.size + 1 + 1 + 1) (by omega) 0 (.int .i64 0) 1 (.int .i64 0)
  obtain ⟨c0z, c1z⟩ := cells2 B_z
  obtain ⟨f0z, f1z⟩ := froz2 B_z
  go_wp2_with fail
  exact bodyPost_ret (v := .tuple #[.agg #[.int .i64 0, .int .i64 0], .bool false]) (by simp [results, Try.results91, go_sem, s0, s1]) rfl ⟨rfl, nextw HF.out (by exact sm)⟩

set_option maxRecDepth 100000 in
set_option maxHeartbeats 4000000 in
theorem REnter_emp (a b x y d x0 y0 x1 y1 : Int) (h : Ok3 a b x y d x0 y0 x1 y1) (he : tmE a b x y x0 y0 x1 y1 = true) (w : World) :
    Calls Try.prog 91 #[.agg #[.int .i64 a, .int .i64 b], .agg #[.int .i64 x, .int .i64 y, .int .i64 d], .agg #[.int .i64 x0, .int .i64 y0, .int .i64 x1, .int .i64 y1]] w fun e w' => e = .returned (.tuple #[.agg #[.int .i64 (enN a b x y d x0 y0 x1 y1), .int .i64 (enD a b x y d x0 y0 x1 y1)], .bool (visB a b x y d x0 y0 x1 y1)]) ∧ Below w.heap.size w w' := by
  have HV := Lib.hid (fun w => RValid_any a b x y d x0 y0 x1 y1 w)
  rw [decide_eq_true h] at HV
  have HT := Lib.hid (fun w => Times_any a b x y d x0 y0 x1 y1 h w)
  have hv : visB a b x y d x0 y0 x1 y1 = false := by rcases tm_vis h with ⟨g, -⟩ | ⟨-, g⟩; rw [g] at he; cases he; exact g
  rw [show enN a b x y d x0 y0 x1 y1 = 0 from if_neg (by rw [hv]; decide), show enD a b x y d x0 y0 x1 y1 = 0 from if_neg (by rw [hv]; decide), hv]
  clear hv h
  rw [show tmR a b x y x0 y0 x1 y1 = sz from if_pos he, he] at HT
  clear he
  dsimp only [sz] at HT
  obtain ⟨HB, B_p, B_v, B_r, B_z⟩ := box4 w 43 #[.int .i64 a, .int .i64 b] 59 #[.int .i64 x, .int .i64 y, .int .i64 d] 45 #[.int .i64 x0, .int .i64 y0, .int .i64 x1, .int .i64 y1] 99 #[.int .i64 0, .int .i64 0]
  go_enter Try.func91, Try.ntmps91
  go_wp2_with fail
  generalize (((w.alloc (.cells #[.int .i64 a, .int .i64 b] 43)).alloc (.cells #[.int .i64 x, .int .i64 y, .int .i64 d] 59)).alloc (.cells #[.int .i64 x0, .int .i64 y0, .int .i64 x1, .int .i64 y1] 45)).alloc (.cells #[.int .i64 0, .int .i64 0] 99) = W0 at *
  obtain ⟨c0p, c1p⟩ := cells2 B_p
  obtain ⟨c0v, c1v, c2v⟩ := cells3 B_v
  obtain ⟨c0r, c1r, c2r, c3r⟩ := cells4 B_r
  refine (HV.out _).mono ?_
  clear c0p c1p c0v c1v c2v c0r c1r c2r c3r
  rintro e w1 ⟨rfl, bb⟩
  replace bb := nextw (w0 := W0) (by exact sm) bb
  replace B_p := mv B_p bb
  replace B_v := mv B_v bb
  replace B_r := mv B_r bb
  replace B_z := mv B_z bb
  replace HB := nx HB bb
  clear bb
  go_upto_region 3 with (fail)
  obtain ⟨c0p, c1p⟩ := cells2 B_p
  obtain ⟨c0v, c1v, c2v⟩ := cells3 B_v
  obtain ⟨c0r, c1r, c2r, c3r⟩ := cells4 B_r
  go_wp2_with fail
  refine (HT.out _).mono ?_
  clear c0p c1p c0v c1v c2v c0r c1r c2r c3r
  rintro e w2 ⟨rfl, bb⟩
  replace bb := nextw (w0 := w1) (by exact sm) bb
  replace B_p := mv B_p bb
  replace B_v := mv B_v bb
  replace B_r := mv B_r bb
  replace B_z := mv B_z bb
  replace HB := nx HB bb
  clear bb
  have lt_sp := B_p.out.lt
  have lt_sv := B_v.out.lt
  have lt_sr := B_r.out.lt
  have lt_sz := B_z.out.lt
  obtain ⟨bb, B_s⟩ := box1 w2 124 #[.int .i64 0, .int .i64 0, .int .i64 0, .int .i64 0, .bool true, .bool false]
  replace bb := bb.out
  replace B_p := mv B_p bb
  replace B_v := mv B_v bb
  replace B_r := mv B_r bb
  replace B_z := mv B_z bb
  replace HB := nx HB bb
  clear bb
  go_upto_region 4 with (fail)
  generalize w2.alloc (.cells #[.int .i64 0, .int .i64 0, .int .i64 0, .int .i64 0, .bool true, .bool false] 124) = WS at *
  obtain ⟨c0s, c1s, c2s, c3s, c4s, c5s⟩ := cells6 B_s
  go_upto_region 5 with (fail)
  obtain ⟨s0, s1⟩ := cells2 (stor2 B_z (.int .i64 0) (.int .i64 0))
  have HF := stb2 HB (y := w.heap.size + 1 + 1 + 1) (by omega) 0 (.int .i64 0) 1 (.int .i64 0)
  obtain ⟨c0z, c1z⟩ := cells2 B_z
  obtain ⟨f0z, f1z⟩ := froz2 B_z
  go_wp2_with fail
  exact bodyPost_ret (v := .tuple #[.agg #[.int .i64 0, .int .i64 0], .bool false]) (by simp [results, Try.results91, go_sem, s0, s1]) rfl ⟨rfl, nextw HF.out (by exact sm)⟩

set_option maxRecDepth 100000 in
set_option maxHeartbeats 4000000 in
theorem REnter_ok (a b x y d x0 y0 x1 y1 : Int) (h : Ok3 a b x y d x0 y0 x1 y1) (he : tmE a b x y x0 y0 x1 y1 = false) (w : World) :
    Calls Try.prog 91 #[.agg #[.int .i64 a, .int .i64 b], .agg #[.int .i64 x, .int .i64 y, .int .i64 d], .agg #[.int .i64 x0, .int .i64 y0, .int .i64 x1, .int .i64 y1]] w fun e w' => e = .returned (.tuple #[.agg #[.int .i64 (enN a b x y d x0 y0 x1 y1), .int .i64 (enD a b x y d x0 y0 x1 y1)], .bool (visB a b x y d x0 y0 x1 y1)]) ∧ Below w.heap.size w w' := by
  have HV := Lib.hid (fun w => RValid_any a b x y d x0 y0 x1 y1 w)
  rw [decide_eq_true h] at HV
  have HT := Lib.hid (fun w => Times_any a b x y d x0 y0 x1 y1 h w)
  have hv : visB a b x y d x0 y0 x1 y1 = true ∧ Wf (tmS a b x y x0 y0 x1 y1) ∧ 1 ≤ (tmS a b x y x0 y0 x1 y1).u ∧ lwN ((tmS a b x y x0 y0 x1 y1).i * d) (tmS a b x y x0 y0 x1 y1).j = enN a b x y d x0 y0 x1 y1 ∧ lwD ((tmS a b x y x0 y0 x1 y1).i * d) (tmS a b x y x0 y0 x1 y1).j = enD a b x y d x0 y0 x1 y1 := by rcases tm_vis h with ⟨-, g1, g2, g3, g4, g5, g6, g7⟩ | ⟨g, -⟩; exact ⟨g1, g2, g3, g4, g5⟩; rw [g] at he; cases he
  obtain ⟨hv, hw, hu, hN, hD⟩ := hv
  have bt := tmS_bd h he
  have e1 := h.2.1.lo
  have e2 := h.2.1.hi
  rw [hv]
  rw [show tmR a b x y x0 y0 x1 y1 = tmS a b x y x0 y0 x1 y1 from if_neg (by rw [he]; decide), he] at HT
  have e3 := hw.j1
  have e4 := hw.i0
  have e5 := wf_o hw hu
  clear he hv h hw
  generalize enN a b x y d x0 y0 x1 y1 = N1 at *
  generalize enD a b x y d x0 y0 x1 y1 = D1 at *
  generalize tmS a b x y x0 y0 x1 y1 = S1 at *
  obtain ⟨i1, j1, o1, u1⟩ := S1
  dsimp only at *
  obtain ⟨b1, b2, b3, b4, b5, b6, b7, b8⟩ := bt
  have bb := dist_bd (i := i1) (d := d) (by omega) (by omega) e1 e2
  have HD := Lib.hid (fun w => Lowest_any (i1 * d) j1 bb.1 (by omega) (by omega) (by omega) w)
  rw [hN, hD] at HD
  obtain ⟨m1, m2⟩ := bb
  clear hN hD b1 b2 b3 b4 b5 b6 b7 b8 e1 e2 e3 e4 e5 hu
  obtain ⟨HB, B_p, B_v, B_r, B_z⟩ := box4 w 43 #[.int .i64 a, .int .i64 b] 59 #[.int .i64 x, .int .i64 y, .int .i64 d] 45 #[.int .i64 x0, .int .i64 y0, .int .i64 x1, .int .i64 y1] 99 #[.int .i64 0, .int .i64 0]
  go_enter Try.func91, Try.ntmps91
  go_wp2_with fail
  generalize (((w.alloc (.cells #[.int .i64 a, .int .i64 b] 43)).alloc (.cells #[.int .i64 x, .int .i64 y, .int .i64 d] 59)).alloc (.cells #[.int .i64 x0, .int .i64 y0, .int .i64 x1, .int .i64 y1] 45)).alloc (.cells #[.int .i64 0, .int .i64 0] 99) = W0 at *
  obtain ⟨c0p, c1p⟩ := cells2 B_p
  obtain ⟨c0v, c1v, c2v⟩ := cells3 B_v
  obtain ⟨c0r, c1r, c2r, c3r⟩ := cells4 B_r
  refine (HV.out _).mono ?_
  clear c0p c1p c0v c1v c2v c0r c1r c2r c3r
  rintro e w1 ⟨rfl, bb⟩
  replace bb := nextw (w0 := W0) (by exact sm) bb
  replace B_p := mv B_p bb
  replace B_v := mv B_v bb
  replace B_r := mv B_r bb
  replace B_z := mv B_z bb
  replace HB := nx HB bb
  clear bb
  go_upto_region 3 with (fail)
  obtain ⟨c0p, c1p⟩ := cells2 B_p
  obtain ⟨c0v, c1v, c2v⟩ := cells3 B_v
  obtain ⟨c0r, c1r, c2r, c3r⟩ := cells4 B_r
  go_wp2_with fail
  refine (HT.out _).mono ?_
  clear c0p c1p c0v c1v c2v c0r c1r c2r c3r
  rintro e w2 ⟨rfl, bb⟩
  replace bb := nextw (w0 := w1) (by exact sm) bb
  replace B_p := mv B_p bb
  replace B_v := mv B_v bb
  replace B_r := mv B_r bb
  replace B_z := mv B_z bb
  replace HB := nx HB bb
  clear bb
  have lt_sp := B_p.out.lt
  have lt_sv := B_v.out.lt
  have lt_sr := B_r.out.lt
  have lt_sz := B_z.out.lt
  obtain ⟨bb, B_s⟩ := box1 w2 124 #[.int .i64 i1, .int .i64 j1, .int .i64 o1, .int .i64 u1, .bool false, .bool false]
  replace bb := bb.out
  replace B_p := mv B_p bb
  replace B_v := mv B_v bb
  replace B_r := mv B_r bb
  replace B_z := mv B_z bb
  replace HB := nx HB bb
  clear bb
  go_upto_region 4 with (fail)
  generalize w2.alloc (.cells #[.int .i64 i1, .int .i64 j1, .int .i64 o1, .int .i64 u1, .bool false, .bool false] 124) = WS at *
  obtain ⟨c0s, c1s, c2s, c3s, c4s, c5s⟩ := cells6 B_s
  go_upto_region 6 with (fail)
  obtain ⟨c0v, c1v, c2v⟩ := cells3 B_v
  go_wp2_with fail
  refine (HD.out _).mono ?_
  clear c0s c1s c2s c3s c4s c5s c0v c1v c2v
  rintro e w3 ⟨rfl, bb⟩
  replace bb := nextw (w0 := WS) (by exact sm) bb
  replace B_p := mv B_p bb
  replace B_v := mv B_v bb
  replace B_r := mv B_r bb
  replace B_z := mv B_z bb
  replace B_s := mv B_s bb
  replace HB := nx HB bb
  clear bb
  obtain ⟨s0, s1⟩ := cells2 (stor2 B_z (.int .i64 N1) (.int .i64 D1))
  have HF := stb2 HB (y := w.heap.size + 1 + 1 + 1) (by omega) 0 (.int .i64 N1) 1 (.int .i64 D1)
  obtain ⟨c0z, c1z⟩ := cells2 B_z
  obtain ⟨f0z, f1z⟩ := froz2 B_z
  go_wp2_with fail
  exact bodyPost_ret (v := .tuple #[.agg #[.int .i64 N1, .int .i64 D1], .bool true]) (by simp [results, Try.results91, go_sem, s0, s1]) rfl ⟨rfl, nextw HF.out (by exact sm)⟩

theorem REnter_any (a b x y d x0 y0 x1 y1 : Int) (w : World) : Calls Try.prog 91 #[.agg #[.int .i64 a, .int .i64 b], .agg #[.int .i64 x, .int .i64 y, .int .i64 d], .agg #[.int .i64 x0, .int .i64 y0, .int .i64 x1, .int .i64 y1]] w fun e w' => e = .returned (.tuple #[.agg #[.int .i64 (enN a b x y d x0 y0 x1 y1), .int .i64 (enD a b x y d x0 y0 x1 y1)], .bool (visB a b x y d x0 y0 x1 y1)]) ∧ Below w.heap.size w w' := by
  by_cases h : Ok3 a b x y d x0 y0 x1 y1
  · rcases he : tmE a b x y x0 y0 x1 y1 with _ | _
    · exact REnter_ok a b x y d x0 y0 x1 y1 h he w
    · exact REnter_emp a b x y d x0 y0 x1 y1 h he w
  · exact REnter_bad a b x y d x0 y0 x1 y1 h w

set_option maxRecDepth 100000 in
set_option maxHeartbeats 4000000 in
theorem RLeave_bad (a b x y d x0 y0 x1 y1 : Int) (h : ¬ Ok3 a b x y d x0 y0 x1 y1) (w : World) :
    Calls Try.prog 92 #[.agg #[.int .i64 a, .int .i64 b], .agg #[.int .i64 x, .int .i64 y, .int .i64 d], .agg #[.int .i64 x0, .int .i64 y0, .int .i64 x1, .int .i64 y1]] w fun e w' => e = .returned (.tuple #[.agg #[.int .i64 (leN a b x y d x0 y0 x1 y1), .int .i64 (leD a b x y d x0 y0 x1 y1)], .bool (visB a b x y d x0 y0 x1 y1)]) ∧ Below w.heap.size w w' := by
  have HV := Lib.hid (fun w => RValid_any a b x y d x0 y0 x1 y1 w)
  rw [decide_eq_false h] at HV
  have hv : visB a b x y d x0 y0 x1 y1 = false := by unfold visB; rw [decide_eq_false h]; rfl
  rw [show leN a b x y d x0 y0 x1 y1 = 0 from if_neg (by rw [hv]; decide), show leD a b x y d x0 y0 x1 y1 = 0 from if_neg (by rw [hv]; decide), hv]
  clear h hv
  obtain ⟨HB, B_p, B_v, B_r, B_z⟩ := box4 w 43 #[.int .i64 a, .int .i64 b] 59 #[.int .i64 x, .int .i64 y, .int .i64 d] 45 #[.int .i64 x0, .int .i64 y0, .int .i64 x1, .int .i64 y1] 99 #[.int .i64 0, .int .i64 0]
  go_enter Try.func92, Try.ntmps92
  go_wp2_with fail
  generalize (((w.alloc (.cells #[.int .i64 a, .int .i64 b] 43)).alloc (.cells #[.int .i64 x, .int .i64 y, .int .i64 d] 59)).alloc (.cells #[.int .i64 x0, .int .i64 y0, .int .i64 x1, .int .i64 y1] 45)).alloc (.cells #[.int .i64 0, .int .i64 0] 99) = W0 at *
  obtain ⟨c0p, c1p⟩ := cells2 B_p
  obtain ⟨c0v, c1v, c2v⟩ := cells3 B_v
  obtain ⟨c0r, c1r, c2r, c3r⟩ := cells4 B_r
  refine (HV.out _).mono ?_
  clear c0p c1p c0v c1v c2v c0r c1r c2r c3r
  rintro e w1 ⟨rfl, bb⟩
  replace bb := nextw (w0 := W0) (by exact sm) bb
  replace B_p := mv B_p bb
  replace B_v := mv B_v bb
  replace B_r := mv B_r bb
  replace B_z := mv B_z bb
  replace HB := nx HB bb
  clear bb
  go_upto_region 2 with (fail)
  obtain ⟨s0, s1⟩ := cells2 (stor2 B_z (.int .i64 0) (.int .i64 0))
  have HF := stb2 HB (y := w.heap.size + 1 + 1 + 1) (by omega) 0 (.int .i64 0) 1 (.int .i64 0)
  obtain ⟨c0z, c1z⟩ := cells2 B_z
  obtain ⟨f0z, f1z⟩ := froz2 B_z
  go_wp2_with fail
  exact bodyPost_ret (v := .tuple #[.agg #[.int .i64 0, .int .i64 0], .bool false]) (by simp [results, Try.results92, go_sem, s0, s1]) rfl ⟨rfl, nextw HF.out (by exact sm)⟩

set_option maxRecDepth 100000 in
set_option maxHeartbeats 4000000 in
theorem RLeave_emp (a b x y d x0 y0 x1 y1 : Int) (h : Ok3 a b x y d x0 y0 x1 y1) (he : tmE a b x y x0 y0 x1 y1 = true) (w : World) :
    Calls Try.prog 92 #[.agg #[.int .i64 a, .int .i64 b], .agg #[.int .i64 x, .int .i64 y, .int .i64 d], .agg #[.int .i64 x0, .int .i64 y0, .int .i64 x1, .int .i64 y1]] w fun e w' => e = .returned (.tuple #[.agg #[.int .i64 (leN a b x y d x0 y0 x1 y1), .int .i64 (leD a b x y d x0 y0 x1 y1)], .bool (visB a b x y d x0 y0 x1 y1)]) ∧ Below w.heap.size w w' := by
  have HV := Lib.hid (fun w => RValid_any a b x y d x0 y0 x1 y1 w)
  rw [decide_eq_true h] at HV
  have HT := Lib.hid (fun w => Times_any a b x y d x0 y0 x1 y1 h w)
  have hv : visB a b x y d x0 y0 x1 y1 = false := by rcases tm_vis h with ⟨g, -⟩ | ⟨-, g⟩; rw [g] at he; cases he; exact g
  rw [show leN a b x y d x0 y0 x1 y1 = 0 from if_neg (by rw [hv]; decide), show leD a b x y d x0 y0 x1 y1 = 0 from if_neg (by rw [hv]; decide), hv]
  clear hv h
  rw [show tmR a b x y x0 y0 x1 y1 = sz from if_pos he, he] at HT
  clear he
  dsimp only [sz] at HT
  obtain ⟨HB, B_p, B_v, B_r, B_z⟩ := box4 w 43 #[.int .i64 a, .int .i64 b] 59 #[.int .i64 x, .int .i64 y, .int .i64 d] 45 #[.int .i64 x0, .int .i64 y0, .int .i64 x1, .int .i64 y1] 99 #[.int .i64 0, .int .i64 0]
  go_enter Try.func92, Try.ntmps92
  go_wp2_with fail
  generalize (((w.alloc (.cells #[.int .i64 a, .int .i64 b] 43)).alloc (.cells #[.int .i64 x, .int .i64 y, .int .i64 d] 59)).alloc (.cells #[.int .i64 x0, .int .i64 y0, .int .i64 x1, .int .i64 y1] 45)).alloc (.cells #[.int .i64 0, .int .i64 0] 99) = W0 at *
  obtain ⟨c0p, c1p⟩ := cells2 B_p
  obtain ⟨c0v, c1v, c2v⟩ := cells3 B_v
  obtain ⟨c0r, c1r, c2r, c3r⟩ := cells4 B_r
  refine (HV.out _).mono ?_
  clear c0p c1p c0v c1v c2v c0r c1r c2r c3r
  rintro e w1 ⟨rfl, bb⟩
  replace bb := nextw (w0 := W0) (by exact sm) bb
  replace B_p := mv B_p bb
  replace B_v := mv B_v bb
  replace B_r := mv B_r bb
  replace B_z := mv B_z bb
  replace HB := nx HB bb
  clear bb
  go_upto_region 3 with (fail)
  obtain ⟨c0p, c1p⟩ := cells2 B_p
  obtain ⟨c0v, c1v, c2v⟩ := cells3 B_v
  obtain ⟨c0r, c1r, c2r, c3r⟩ := cells4 B_r
  go_wp2_with fail
  refine (HT.out _).mono ?_
  clear c0p c1p c0v c1v c2v c0r c1r c2r c3r
  rintro e w2 ⟨rfl, bb⟩
  replace bb := nextw (w0 := w1) (by exact sm) bb
  replace B_p := mv B_p bb
  replace B_v := mv B_v bb
  replace B_r := mv B_r bb
  replace B_z := mv B_z bb
  replace HB := nx HB bb
  clear bb
  have lt_sp := B_p.out.lt
  have lt_sv := B_v.out.lt
  have lt_sr := B_r.out.lt
  have lt_sz := B_z.out.lt
  obtain ⟨bb, B_s⟩ := box1 w2 124 #[.int .i64 0, .int .i64 0, .int .i64 0, .int .i64 0, .bool true, .bool false]
  replace bb := bb.out
  replace B_p := mv B_p bb
  replace B_v := mv B_v bb
  replace B_r := mv B_r bb
  replace B_z := mv B_z bb
  replace HB := nx HB bb
  clear bb
  go_upto_region 4 with (fail)
  generalize w2.alloc (.cells #[.int .i64 0, .int .i64 0, .int .i64 0, .int .i64 0, .bool true, .bool false] 124) = WS at *
  obtain ⟨c0s, c1s, c2s, c3s, c4s, c5s⟩ := cells6 B_s
  go_upto_region 5 with (fail)
  obtain ⟨s0, s1⟩ := cells2 (stor2 B_z (.int .i64 0) (.int .i64 0))
  have HF := stb2 HB (y := w.heap.size + 1 + 1 + 1) (by omega) 0 (.int .i64 0) 1 (.int .i64 0)
  obtain ⟨c0z, c1z⟩ := cells2 B_z
  obtain ⟨f0z, f1z⟩ := froz2 B_z
  go_wp2_with fail
  exact bodyPost_ret (v := .tuple #[.agg #[.int .i64 0, .int .i64 0], .bool false]) (by simp [results, Try.results92, go_sem, s0, s1]) rfl ⟨rfl, nextw HF.out (by exact sm)⟩

set_option maxRecDepth 100000 in
set_option maxHeartbeats 4000000 in
theorem RLeave_ok (a b x y d x0 y0 x1 y1 : Int) (h : Ok3 a b x y d x0 y0 x1 y1) (he : tmE a b x y x0 y0 x1 y1 = false) (w : World) :
    Calls Try.prog 92 #[.agg #[.int .i64 a, .int .i64 b], .agg #[.int .i64 x, .int .i64 y, .int .i64 d], .agg #[.int .i64 x0, .int .i64 y0, .int .i64 x1, .int .i64 y1]] w fun e w' => e = .returned (.tuple #[.agg #[.int .i64 (leN a b x y d x0 y0 x1 y1), .int .i64 (leD a b x y d x0 y0 x1 y1)], .bool (visB a b x y d x0 y0 x1 y1)]) ∧ Below w.heap.size w w' := by
  have HV := Lib.hid (fun w => RValid_any a b x y d x0 y0 x1 y1 w)
  rw [decide_eq_true h] at HV
  have HT := Lib.hid (fun w => Times_any a b x y d x0 y0 x1 y1 h w)
  have hv : visB a b x y d x0 y0 x1 y1 = true ∧ Wf (tmS a b x y x0 y0 x1 y1) ∧ 1 ≤ (tmS a b x y x0 y0 x1 y1).u ∧ lwN ((tmS a b x y x0 y0 x1 y1).o * d) (tmS a b x y x0 y0 x1 y1).u = leN a b x y d x0 y0 x1 y1 ∧ lwD ((tmS a b x y x0 y0 x1 y1).o * d) (tmS a b x y x0 y0 x1 y1).u = leD a b x y d x0 y0 x1 y1 := by rcases tm_vis h with ⟨-, g1, g2, g3, g4, g5, g6, g7⟩ | ⟨g, -⟩; exact ⟨g1, g2, g3, g6, g7⟩; rw [g] at he; cases he
  obtain ⟨hv, hw, hu, hN, hD⟩ := hv
  have bt := tmS_bd h he
  have e1 := h.2.1.lo
  have e2 := h.2.1.hi
  rw [hv]
  rw [show tmR a b x y x0 y0 x1 y1 = tmS a b x y x0 y0 x1 y1 from if_neg (by rw [he]; decide), he] at HT
  have e3 := hw.j1
  have e4 := hw.i0
  have e5 := wf_o hw hu
  clear he hv h hw
  generalize leN a b x y d x0 y0 x1 y1 = N1 at *
  generalize leD a b x y d x0 y0 x1 y1 = D1 at *
  generalize tmS a b x y x0 y0 x1 y1 = S1 at *
  obtain ⟨i1, j1, o1, u1⟩ := S1
  dsimp only at *
  obtain ⟨b1, b2, b3, b4, b5, b6, b7, b8⟩ := bt
  have bb := dist_bd (i := o1) (d := d) (by omega) (by omega) e1 e2
  have HD := Lib.hid (fun w => Lowest_any (o1 * d) u1 bb.1 (by omega) (by omega) (by omega) w)
  rw [hN, hD] at HD
  obtain ⟨m1, m2⟩ := bb
  clear hN hD b1 b2 b3 b4 b5 b6 b7 b8 e1 e2 e3 e4 e5 hu
  obtain ⟨HB, B_p, B_v, B_r, B_z⟩ := box4 w 43 #[.int .i64 a, .int .i64 b] 59 #[.int .i64 x, .int .i64 y, .int .i64 d] 45 #[.int .i64 x0, .int .i64 y0, .int .i64 x1, .int .i64 y1] 99 #[.int .i64 0, .int .i64 0]
  go_enter Try.func92, Try.ntmps92
  go_wp2_with fail
  generalize (((w.alloc (.cells #[.int .i64 a, .int .i64 b] 43)).alloc (.cells #[.int .i64 x, .int .i64 y, .int .i64 d] 59)).alloc (.cells #[.int .i64 x0, .int .i64 y0, .int .i64 x1, .int .i64 y1] 45)).alloc (.cells #[.int .i64 0, .int .i64 0] 99) = W0 at *
  obtain ⟨c0p, c1p⟩ := cells2 B_p
  obtain ⟨c0v, c1v, c2v⟩ := cells3 B_v
  obtain ⟨c0r, c1r, c2r, c3r⟩ := cells4 B_r
  refine (HV.out _).mono ?_
  clear c0p c1p c0v c1v c2v c0r c1r c2r c3r
  rintro e w1 ⟨rfl, bb⟩
  replace bb := nextw (w0 := W0) (by exact sm) bb
  replace B_p := mv B_p bb
  replace B_v := mv B_v bb
  replace B_r := mv B_r bb
  replace B_z := mv B_z bb
  replace HB := nx HB bb
  clear bb
  go_upto_region 3 with (fail)
  obtain ⟨c0p, c1p⟩ := cells2 B_p
  obtain ⟨c0v, c1v, c2v⟩ := cells3 B_v
  obtain ⟨c0r, c1r, c2r, c3r⟩ := cells4 B_r
  go_wp2_with fail
  refine (HT.out _).mono ?_
  clear c0p c1p c0v c1v c2v c0r c1r c2r c3r
  rintro e w2 ⟨rfl, bb⟩
  replace bb := nextw (w0 := w1) (by exact sm) bb
  replace B_p := mv B_p bb
  replace B_v := mv B_v bb
  replace B_r := mv B_r bb
  replace B_z := mv B_z bb
  replace HB := nx HB bb
  clear bb
  have lt_sp := B_p.out.lt
  have lt_sv := B_v.out.lt
  have lt_sr := B_r.out.lt
  have lt_sz := B_z.out.lt
  obtain ⟨bb, B_s⟩ := box1 w2 124 #[.int .i64 i1, .int .i64 j1, .int .i64 o1, .int .i64 u1, .bool false, .bool false]
  replace bb := bb.out
  replace B_p := mv B_p bb
  replace B_v := mv B_v bb
  replace B_r := mv B_r bb
  replace B_z := mv B_z bb
  replace HB := nx HB bb
  clear bb
  go_upto_region 4 with (fail)
  generalize w2.alloc (.cells #[.int .i64 i1, .int .i64 j1, .int .i64 o1, .int .i64 u1, .bool false, .bool false] 124) = WS at *
  obtain ⟨c0s, c1s, c2s, c3s, c4s, c5s⟩ := cells6 B_s
  go_upto_region 6 with (fail)
  obtain ⟨c0v, c1v, c2v⟩ := cells3 B_v
  go_wp2_with fail
  refine (HD.out _).mono ?_
  clear c0s c1s c2s c3s c4s c5s c0v c1v c2v
  rintro e w3 ⟨rfl, bb⟩
  replace bb := nextw (w0 := WS) (by exact sm) bb
  replace B_p := mv B_p bb
  replace B_v := mv B_v bb
  replace B_r := mv B_r bb
  replace B_z := mv B_z bb
  replace B_s := mv B_s bb
  replace HB := nx HB bb
  clear bb
  obtain ⟨s0, s1⟩ := cells2 (stor2 B_z (.int .i64 N1) (.int .i64 D1))
  have HF := stb2 HB (y := w.heap.size + 1 + 1 + 1) (by omega) 0 (.int .i64 N1) 1 (.int .i64 D1)
  obtain ⟨c0z, c1z⟩ := cells2 B_z
  obtain ⟨f0z, f1z⟩ := froz2 B_z
  go_wp2_with fail
  exact bodyPost_ret (v := .tuple #[.agg #[.int .i64 N1, .int .i64 D1], .bool true]) (by simp [results, Try.results92, go_sem, s0, s1]) rfl ⟨rfl, nextw HF.out (by exact sm)⟩

theorem RLeave_any (a b x y d x0 y0 x1 y1 : Int) (w : World) : Calls Try.prog 92 #[.agg #[.int .i64 a, .int .i64 b], .agg #[.int .i64 x, .int .i64 y, .int .i64 d], .agg #[.int .i64 x0, .int .i64 y0, .int .i64 x1, .int .i64 y1]] w fun e w' => e = .returned (.tuple #[.agg #[.int .i64 (leN a b x y d x0 y0 x1 y1), .int .i64 (leD a b x y d x0 y0 x1 y1)], .bool (visB a b x y d x0 y0 x1 y1)]) ∧ Below w.heap.size w w' := by
  by_cases h : Ok3 a b x y d x0 y0 x1 y1
  · rcases he : tmE a b x y x0 y0 x1 y1 with _ | _
    · exact RLeave_ok a b x y d x0 y0 x1 y1 h he w
    · exact RLeave_emp a b x y d x0 y0 x1 y1 h he w
  · exact RLeave_bad a b x y d x0 y0 x1 y1 h w
end Go.Proofs.Ytkhcogfajihecaa
