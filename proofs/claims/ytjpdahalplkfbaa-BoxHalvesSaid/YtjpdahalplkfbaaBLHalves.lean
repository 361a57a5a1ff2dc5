/- The law BoxHalves. -/
import Derived.Test.YtjpdahalplkfbaaBLHalvA
import Derived.Test.YtjpdahalplkfbaaBLHalvB
import Derived.Test.YtjpdahalplkfbaaBLHalvC
import Derived.Test.YtjpdahalplkfbaaBLHalvD
set_option linter.unusedVariables false
set_option linter.unusedSimpArgs false
namespace Go.Proofs.Ytjpdahalplkfbaa
open Go Go.RowKit Hd

def Halves0V (x0 y0 x1 y1 f c x y h : Int) : Value := if OkB x0 y0 x1 y1 f c then if oneP x0 y0 x1 y1 c then .bool true else if spX x0 y0 x1 y1 c then if HasP x0 y0 x1 y1 f c x y h then if HasP x0 y0 (x0 + (x1 - x0 + 1) / 2 - 1) y1 f c x y h then if HasP (x0 + (x1 - x0 + 1) / 2) y0 x1 y1 f c x y h then .bool true else .bool true else if HasP (x0 + (x1 - x0 + 1) / 2) y0 x1 y1 f c x y h then .bool true else .bool true else if HasP x0 y0 (x0 + (x1 - x0 + 1) / 2 - 1) y1 f c x y h then .bool true else if HasP (x0 + (x1 - x0 + 1) / 2) y0 x1 y1 f c x y h then .bool true else .bool true else if spY y0 y1 c then if HasP x0 y0 x1 y1 f c x y h then if HasP x0 y0 x1 (y0 + (y1 - y0 + 1) / 2 - 1) f c x y h then if HasP x0 (y0 + (y1 - y0 + 1) / 2) x1 y1 f c x y h then .bool true else .bool true else if HasP x0 (y0 + (y1 - y0 + 1) / 2) x1 y1 f c x y h then .bool true else .bool true else if HasP x0 y0 x1 (y0 + (y1 - y0 + 1) / 2 - 1) f c x y h then .bool true else if HasP x0 (y0 + (y1 - y0 + 1) / 2) x1 y1 f c x y h then .bool true else .bool true else if HasP x0 y0 x1 y1 f c x y h then if HasP x0 y0 x1 y1 f (c / 2) x y h then if HasP x0 y0 x1 y1 ((f + c / 2) % 256) (c - c / 2) x y h then .bool true else .bool true else if HasP x0 y0 x1 y1 ((f + c / 2) % 256) (c - c / 2) x y h then .bool true else .bool true else if HasP x0 y0 x1 y1 f (c / 2) x y h then .bool true else if HasP x0 y0 x1 y1 ((f + c / 2) % 256) (c - c / 2) x y h then .bool true else .bool true else .bool true
theorem Halves0_any (x0 y0 x1 y1 f c x y h : Int)  (w : World) :
    Calls Try.prog 7 #[.agg #[.int .i64 x0, .int .i64 y0, .int .i64 x1, .int .i64 y1, .int .i64 f, .int .i64 c], .agg #[.int .i64 x, .int .i64 y, .int .i64 h]] w fun e w' => e = .returned (Halves0V x0 y0 x1 y1 f c x y h) ∧ Below w.heap.size w w' := by
  unfold Halves0V
  by_cases dd0 : OkB x0 y0 x1 y1 f c
  · rw [if_pos dd0]
    by_cases dd1 : oneP x0 y0 x1 y1 c
    · rw [if_pos dd1]
      exact Halves0_w0 x0 y0 x1 y1 f c x y h    dd0 dd1 w
    · rw [if_neg dd1]
      by_cases dd2 : spX x0 y0 x1 y1 c
      · rw [if_pos dd2]
        by_cases dd3 : HasP x0 y0 x1 y1 f c x y h
        · rw [if_pos dd3]
          by_cases dd4 : HasP x0 y0 (x0 + (x1 - x0 + 1) / 2 - 1) y1 f c x y h
          · rw [if_pos dd4]
            by_cases dd5 : HasP (x0 + (x1 - x0 + 1) / 2) y0 x1 y1 f c x y h
            · rw [if_pos dd5]
              exfalso; first | (have hv := halv_x dd0 dd1 dd2; have h1 := hv.has x y h; have h2 := hv.non x y h; clear hv; (first | exact h2 (by assumption) (by assumption) | exact absurd (h1.2 (.inl (by assumption))) (by assumption) | exact absurd (h1.2 (.inr (by assumption))) (by assumption) | (rcases h1.1 (by assumption) with k | k <;> exact absurd k (by assumption)))) | (have hv := halv_y dd0 dd1 dd3; have h1 := hv.has x y h; have h2 := hv.non x y h; clear hv; (first | exact h2 (by assumption) (by assumption) | exact absurd (h1.2 (.inl (by assumption))) (by assumption) | exact absurd (h1.2 (.inr (by assumption))) (by assumption) | (rcases h1.1 (by assumption) with k | k <;> exact absurd k (by assumption)))) | (have hv := halv_h dd0 dd1 dd2 dd3; have h1 := hv.has x y h; have h2 := hv.non x y h; clear hv; (first | exact h2 (by assumption) (by assumption) | exact absurd (h1.2 (.inl (by assumption))) (by assumption) | exact absurd (h1.2 (.inr (by assumption))) (by assumption) | (rcases h1.1 (by assumption) with k | k <;> exact absurd k (by assumption))))
            · rw [if_neg dd5]
              exact Halves0_w2 x0 y0 x1 y1 f c x y h _ _ _ rfl rfl rfl  dd0 dd1 dd2 dd3 dd4 dd5 w
          · rw [if_neg dd4]
            by_cases dd5 : HasP (x0 + (x1 - x0 + 1) / 2) y0 x1 y1 f c x y h
            · rw [if_pos dd5]
              exact Halves0_w10 x0 y0 x1 y1 f c x y h _ _ _ rfl rfl rfl  dd0 dd1 dd2 dd3 dd4 dd5 w
            · rw [if_neg dd5]
              exfalso; first | (have hv := halv_x dd0 dd1 dd2; have h1 := hv.has x y h; have h2 := hv.non x y h; clear hv; (first | exact h2 (by assumption) (by assumption) | exact absurd (h1.2 (.inl (by assumption))) (by assumption) | exact absurd (h1.2 (.inr (by assumption))) (by assumption) | (rcases h1.1 (by assumption) with k | k <;> exact absurd k (by assumption)))) | (have hv := halv_y dd0 dd1 dd3; have h1 := hv.has x y h; have h2 := hv.non x y h; clear hv; (first | exact h2 (by assumption) (by assumption) | exact absurd (h1.2 (.inl (by assumption))) (by assumption) | exact absurd (h1.2 (.inr (by assumption))) (by assumption) | (rcases h1.1 (by assumption) with k | k <;> exact absurd k (by assumption)))) | (have hv := halv_h dd0 dd1 dd2 dd3; have h1 := hv.has x y h; have h2 := hv.non x y h; clear hv; (first | exact h2 (by assumption) (by assumption) | exact absurd (h1.2 (.inl (by assumption))) (by assumption) | exact absurd (h1.2 (.inr (by assumption))) (by assumption) | (rcases h1.1 (by assumption) with k | k <;> exact absurd k (by assumption))))
        · rw [if_neg dd3]
          by_cases dd4 : HasP x0 y0 (x0 + (x1 - x0 + 1) / 2 - 1) y1 f c x y h
          · rw [if_pos dd4]
            exfalso; first | (have hv := halv_x dd0 dd1 dd2; have h1 := hv.has x y h; have h2 := hv.non x y h; clear hv; (first | exact h2 (by assumption) (by assumption) | exact absurd (h1.2 (.inl (by assumption))) (by assumption) | exact absurd (h1.2 (.inr (by assumption))) (by assumption) | (rcases h1.1 (by assumption) with k | k <;> exact absurd k (by assumption)))) | (have hv := halv_y dd0 dd1 dd3; have h1 := hv.has x y h; have h2 := hv.non x y h; clear hv; (first | exact h2 (by assumption) (by assumption) | exact absurd (h1.2 (.inl (by assumption))) (by assumption) | exact absurd (h1.2 (.inr (by assumption))) (by assumption) | (rcases h1.1 (by assumption) with k | k <;> exact absurd k (by assumption)))) | (have hv := halv_h dd0 dd1 dd2 dd3; have h1 := hv.has x y h; have h2 := hv.non x y h; clear hv; (first | exact h2 (by assumption) (by assumption) | exact absurd (h1.2 (.inl (by assumption))) (by assumption) | exact absurd (h1.2 (.inr (by assumption))) (by assumption) | (rcases h1.1 (by assumption) with k | k <;> exact absurd k (by assumption))))
          · rw [if_neg dd4]
            by_cases dd5 : HasP (x0 + (x1 - x0 + 1) / 2) y0 x1 y1 f c x y h
            · rw [if_pos dd5]
              exfalso; first | (have hv := halv_x dd0 dd1 dd2; have h1 := hv.has x y h; have h2 := hv.non x y h; clear hv; (first | exact h2 (by assumption) (by assumption) | exact absurd (h1.2 (.inl (by assumption))) (by assumption) | exact absurd (h1.2 (.inr (by assumption))) (by assumption) | (rcases h1.1 (by assumption) with k | k <;> exact absurd k (by assumption)))) | (have hv := halv_y dd0 dd1 dd3; have h1 := hv.has x y h; have h2 := hv.non x y h; clear hv; (first | exact h2 (by assumption) (by assumption) | exact absurd (h1.2 (.inl (by assumption))) (by assumption) | exact absurd (h1.2 (.inr (by assumption))) (by assumption) | (rcases h1.1 (by assumption) with k | k <;> exact absurd k (by assumption)))) | (have hv := halv_h dd0 dd1 dd2 dd3; have h1 := hv.has x y h; have h2 := hv.non x y h; clear hv; (first | exact h2 (by assumption) (by assumption) | exact absurd (h1.2 (.inl (by assumption))) (by assumption) | exact absurd (h1.2 (.inr (by assumption))) (by assumption) | (rcases h1.1 (by assumption) with k | k <;> exact absurd k (by assumption))))
            · rw [if_neg dd5]
              exact Halves0_w9 x0 y0 x1 y1 f c x y h _ _ _ rfl rfl rfl  dd0 dd1 dd2 dd3 dd4 dd5 w
      · rw [if_neg dd2]
        by_cases dd3 : spY y0 y1 c
        · rw [if_pos dd3]
          by_cases dd4 : HasP x0 y0 x1 y1 f c x y h
          · rw [if_pos dd4]
            by_cases dd5 : HasP x0 y0 x1 (y0 + (y1 - y0 + 1) / 2 - 1) f c x y h
            · rw [if_pos dd5]
              by_cases dd6 : HasP x0 (y0 + (y1 - y0 + 1) / 2) x1 y1 f c x y h
              · rw [if_pos dd6]
                exfalso; first | (have hv := halv_x dd0 dd1 dd2; have h1 := hv.has x y h; have h2 := hv.non x y h; clear hv; (first | exact h2 (by assumption) (by assumption) | exact absurd (h1.2 (.inl (by assumption))) (by assumption) | exact absurd (h1.2 (.inr (by assumption))) (by assumption) | (rcases h1.1 (by assumption) with k | k <;> exact absurd k (by assumption)))) | (have hv := halv_y dd0 dd1 dd3; have h1 := hv.has x y h; have h2 := hv.non x y h; clear hv; (first | exact h2 (by assumption) (by assumption) | exact absurd (h1.2 (.inl (by assumption))) (by assumption) | exact absurd (h1.2 (.inr (by assumption))) (by assumption) | (rcases h1.1 (by assumption) with k | k <;> exact absurd k (by assumption)))) | (have hv := halv_h dd0 dd1 dd2 dd3; have h1 := hv.has x y h; have h2 := hv.non x y h; clear hv; (first | exact h2 (by assumption) (by assumption) | exact absurd (h1.2 (.inl (by assumption))) (by assumption) | exact absurd (h1.2 (.inr (by assumption))) (by assumption) | (rcases h1.1 (by assumption) with k | k <;> exact absurd k (by assumption))))
              · rw [if_neg dd6]
                exact Halves0_w3 x0 y0 x1 y1 f c x y h _ _ _ rfl rfl rfl  dd0 dd1 dd2 dd3 dd4 dd5 dd6 w
            · rw [if_neg dd5]
              by_cases dd6 : HasP x0 (y0 + (y1 - y0 + 1) / 2) x1 y1 f c x y h
              · rw [if_pos dd6]
                exact Halves0_w8 x0 y0 x1 y1 f c x y h _ _ _ rfl rfl rfl  dd0 dd1 dd2 dd3 dd4 dd5 dd6 w
              · rw [if_neg dd6]
                exfalso; first | (have hv := halv_x dd0 dd1 dd2; have h1 := hv.has x y h; have h2 := hv.non x y h; clear hv; (first | exact h2 (by assumption) (by assumption) | exact absurd (h1.2 (.inl (by assumption))) (by assumption) | exact absurd (h1.2 (.inr (by assumption))) (by assumption) | (rcases h1.1 (by assumption) with k | k <;> exact absurd k (by assumption)))) | (have hv := halv_y dd0 dd1 dd3; have h1 := hv.has x y h; have h2 := hv.non x y h; clear hv; (first | exact h2 (by assumption) (by assumption) | exact absurd (h1.2 (.inl (by assumption))) (by assumption) | exact absurd (h1.2 (.inr (by assumption))) (by assumption) | (rcases h1.1 (by assumption) with k | k <;> exact absurd k (by assumption)))) | (have hv := halv_h dd0 dd1 dd2 dd3; have h1 := hv.has x y h; have h2 := hv.non x y h; clear hv; (first | exact h2 (by assumption) (by assumption) | exact absurd (h1.2 (.inl (by assumption))) (by assumption) | exact absurd (h1.2 (.inr (by assumption))) (by assumption) | (rcases h1.1 (by assumption) with k | k <;> exact absurd k (by assumption))))
          · rw [if_neg dd4]
            by_cases dd5 : HasP x0 y0 x1 (y0 + (y1 - y0 + 1) / 2 - 1) f c x y h
            · rw [if_pos dd5]
              exfalso; first | (have hv := halv_x dd0 dd1 dd2; have h1 := hv.has x y h; have h2 := hv.non x y h; clear hv; (first | exact h2 (by assumption) (by assumption) | exact absurd (h1.2 (.inl (by assumption))) (by assumption) | exact absurd (h1.2 (.inr (by assumption))) (by assumption) | (rcases h1.1 (by assumption) with k | k <;> exact absurd k (by assumption)))) | (have hv := halv_y dd0 dd1 dd3; have h1 := hv.has x y h; have h2 := hv.non x y h; clear hv; (first | exact h2 (by assumption) (by assumption) | exact absurd (h1.2 (.inl (by assumption))) (by assumption) | exact absurd (h1.2 (.inr (by assumption))) (by assumption) | (rcases h1.1 (by assumption) with k | k <;> exact absurd k (by assumption)))) | (have hv := halv_h dd0 dd1 dd2 dd3; have h1 := hv.has x y h; have h2 := hv.non x y h; clear hv; (first | exact h2 (by assumption) (by assumption) | exact absurd (h1.2 (.inl (by assumption))) (by assumption) | exact absurd (h1.2 (.inr (by assumption))) (by assumption) | (rcases h1.1 (by assumption) with k | k <;> exact absurd k (by assumption))))
            · rw [if_neg dd5]
              by_cases dd6 : HasP x0 (y0 + (y1 - y0 + 1) / 2) x1 y1 f c x y h
              · rw [if_pos dd6]
                exfalso; first | (have hv := halv_x dd0 dd1 dd2; have h1 := hv.has x y h; have h2 := hv.non x y h; clear hv; (first | exact h2 (by assumption) (by assumption) | exact absurd (h1.2 (.inl (by assumption))) (by assumption) | exact absurd (h1.2 (.inr (by assumption))) (by assumption) | (rcases h1.1 (by assumption) with k | k <;> exact absurd k (by assumption)))) | (have hv := halv_y dd0 dd1 dd3; have h1 := hv.has x y h; have h2 := hv.non x y h; clear hv; (first | exact h2 (by assumption) (by assumption) | exact absurd (h1.2 (.inl (by assumption))) (by assumption) | exact absurd (h1.2 (.inr (by assumption))) (by assumption) | (rcases h1.1 (by assumption) with k | k <;> exact absurd k (by assumption)))) | (have hv := halv_h dd0 dd1 dd2 dd3; have h1 := hv.has x y h; have h2 := hv.non x y h; clear hv; (first | exact h2 (by assumption) (by assumption) | exact absurd (h1.2 (.inl (by assumption))) (by assumption) | exact absurd (h1.2 (.inr (by assumption))) (by assumption) | (rcases h1.1 (by assumption) with k | k <;> exact absurd k (by assumption))))
              · rw [if_neg dd6]
                exact Halves0_w7 x0 y0 x1 y1 f c x y h _ _ _ rfl rfl rfl  dd0 dd1 dd2 dd3 dd4 dd5 dd6 w
        · rw [if_neg dd3]
          by_cases dd4 : HasP x0 y0 x1 y1 f c x y h
          · rw [if_pos dd4]
            by_cases dd5 : HasP x0 y0 x1 y1 f (c / 2) x y h
            · rw [if_pos dd5]
              by_cases dd6 : HasP x0 y0 x1 y1 ((f + c / 2) % 256) (c - c / 2) x y h
              · rw [if_pos dd6]
                exfalso; first | (have hv := halv_x dd0 dd1 dd2; have h1 := hv.has x y h; have h2 := hv.non x y h; clear hv; (first | exact h2 (by assumption) (by assumption) | exact absurd (h1.2 (.inl (by assumption))) (by assumption) | exact absurd (h1.2 (.inr (by assumption))) (by assumption) | (rcases h1.1 (by assumption) with k | k <;> exact absurd k (by assumption)))) | (have hv := halv_y dd0 dd1 dd3; have h1 := hv.has x y h; have h2 := hv.non x y h; clear hv; (first | exact h2 (by assumption) (by assumption) | exact absurd (h1.2 (.inl (by assumption))) (by assumption) | exact absurd (h1.2 (.inr (by assumption))) (by assumption) | (rcases h1.1 (by assumption) with k | k <;> exact absurd k (by assumption)))) | (have hv := halv_h dd0 dd1 dd2 dd3; have h1 := hv.has x y h; have h2 := hv.non x y h; clear hv; (first | exact h2 (by assumption) (by assumption) | exact absurd (h1.2 (.inl (by assumption))) (by assumption) | exact absurd (h1.2 (.inr (by assumption))) (by assumption) | (rcases h1.1 (by assumption) with k | k <;> exact absurd k (by assumption))))
              · rw [if_neg dd6]
                exact Halves0_w4 x0 y0 x1 y1 f c x y h _ _ _ rfl rfl rfl  dd0 dd1 dd2 dd3 dd4 dd5 dd6 w
            · rw [if_neg dd5]
              by_cases dd6 : HasP x0 y0 x1 y1 ((f + c / 2) % 256) (c - c / 2) x y h
              · rw [if_pos dd6]
                exact Halves0_w6 x0 y0 x1 y1 f c x y h _ _ _ rfl rfl rfl  dd0 dd1 dd2 dd3 dd4 dd5 dd6 w
              · rw [if_neg dd6]
                exfalso; first | (have hv := halv_x dd0 dd1 dd2; have h1 := hv.has x y h; have h2 := hv.non x y h; clear hv; (first | exact h2 (by assumption) (by assumption) | exact absurd (h1.2 (.inl (by assumption))) (by assumption) | exact absurd (h1.2 (.inr (by assumption))) (by assumption) | (rcases h1.1 (by assumption) with k | k <;> exact absurd k (by assumption)))) | (have hv := halv_y dd0 dd1 dd3; have h1 := hv.has x y h; have h2 := hv.non x y h; clear hv; (first | exact h2 (by assumption) (by assumption) | exact absurd (h1.2 (.inl (by assumption))) (by assumption) | exact absurd (h1.2 (.inr (by assumption))) (by assumption) | (rcases h1.1 (by assumption) with k | k <;> exact absurd k (by assumption)))) | (have hv := halv_h dd0 dd1 dd2 dd3; have h1 := hv.has x y h; have h2 := hv.non x y h; clear hv; (first | exact h2 (by assumption) (by assumption) | exact absurd (h1.2 (.inl (by assumption))) (by assumption) | exact absurd (h1.2 (.inr (by assumption))) (by assumption) | (rcases h1.1 (by assumption) with k | k <;> exact absurd k (by assumption))))
          · rw [if_neg dd4]
            by_cases dd5 : HasP x0 y0 x1 y1 f (c / 2) x y h
            · rw [if_pos dd5]
              exfalso; first | (have hv := halv_x dd0 dd1 dd2; have h1 := hv.has x y h; have h2 := hv.non x y h; clear hv; (first | exact h2 (by assumption) (by assumption) | exact absurd (h1.2 (.inl (by assumption))) (by assumption) | exact absurd (h1.2 (.inr (by assumption))) (by assumption) | (rcases h1.1 (by assumption) with k | k <;> exact absurd k (by assumption)))) | (have hv := halv_y dd0 dd1 dd3; have h1 := hv.has x y h; have h2 := hv.non x y h; clear hv; (first | exact h2 (by assumption) (by assumption) | exact absurd (h1.2 (.inl (by assumption))) (by assumption) | exact absurd (h1.2 (.inr (by assumption))) (by assumption) | (rcases h1.1 (by assumption) with k | k <;> exact absurd k (by assumption)))) | (have hv := halv_h dd0 dd1 dd2 dd3; have h1 := hv.has x y h; have h2 := hv.non x y h; clear hv; (first | exact h2 (by assumption) (by assumption) | exact absurd (h1.2 (.inl (by assumption))) (by assumption) | exact absurd (h1.2 (.inr (by assumption))) (by assumption) | (rcases h1.1 (by assumption) with k | k <;> exact absurd k (by assumption))))
            · rw [if_neg dd5]
              by_cases dd6 : HasP x0 y0 x1 y1 ((f + c / 2) % 256) (c - c / 2) x y h
              · rw [if_pos dd6]
                exfalso; first | (have hv := halv_x dd0 dd1 dd2; have h1 := hv.has x y h; have h2 := hv.non x y h; clear hv; (first | exact h2 (by assumption) (by assumption) | exact absurd (h1.2 (.inl (by assumption))) (by assumption) | exact absurd (h1.2 (.inr (by assumption))) (by assumption) | (rcases h1.1 (by assumption) with k | k <;> exact absurd k (by assumption)))) | (have hv := halv_y dd0 dd1 dd3; have h1 := hv.has x y h; have h2 := hv.non x y h; clear hv; (first | exact h2 (by assumption) (by assumption) | exact absurd (h1.2 (.inl (by assumption))) (by assumption) | exact absurd (h1.2 (.inr (by assumption))) (by assumption) | (rcases h1.1 (by assumption) with k | k <;> exact absurd k (by assumption)))) | (have hv := halv_h dd0 dd1 dd2 dd3; have h1 := hv.has x y h; have h2 := hv.non x y h; clear hv; (first | exact h2 (by assumption) (by assumption) | exact absurd (h1.2 (.inl (by assumption))) (by assumption) | exact absurd (h1.2 (.inr (by assumption))) (by assumption) | (rcases h1.1 (by assumption) with k | k <;> exact absurd k (by assumption))))
              · rw [if_neg dd6]
                exact Halves0_w5 x0 y0 x1 y1 f c x y h _ _ _ rfl rfl rfl  dd0 dd1 dd2 dd3 dd4 dd5 dd6 w
  · rw [if_neg dd0]
    exact Halves0_w1 x0 y0 x1 y1 f c x y h    dd0 w

theorem Halves_any (x0 y0 x1 y1 f c x y h : Int)  (w : World) : Calls Try.prog 7 #[.agg #[.int .i64 x0, .int .i64 y0, .int .i64 x1, .int .i64 y1, .int .i64 f, .int .i64 c], .agg #[.int .i64 x, .int .i64 y, .int .i64 h]] w fun e w' => e = .returned (.bool true) ∧ Below w.heap.size w w' := by
  have e := Halves0_any x0 y0 x1 y1 f c x y h  w
  rwa [show Halves0V x0 y0 x1 y1 f c x y h = .bool true from (by unfold Halves0V; (repeat' split); all_goals rfl)] at e
end Go.Proofs.Ytjpdahalplkfbaa
