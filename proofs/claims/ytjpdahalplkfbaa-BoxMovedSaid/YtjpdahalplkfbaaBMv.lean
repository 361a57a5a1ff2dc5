/- Move, case by case. -/
import Derived.Test.YtjpdahalplkfbaaB2
set_option linter.unusedVariables false
set_option linter.unusedSimpArgs false
namespace Go.Proofs.Ytjpdahalplkfbaa
open Go Go.RowKit Hd

theorem Move_bad {x0 y0 x1 y1 f c a b k l : Int} (h : ¬ mvArg x0 y0 x1 y1 f c a b k l) (w : World) : Calls Try.prog 33 #[.agg #[.int .i64 x0, .int .i64 y0, .int .i64 x1, .int .i64 y1, .int .i64 f, .int .i64 c], .int .i64 a, .int .i64 b, .int .i64 k, .int .i64 l] w fun e w' => e = .returned (.tuple #[.agg #[.int .i64 0, .int .i64 0, .int .i64 0, .int .i64 0, .int .i64 0, .int .i64 0], .int .i64 1]) ∧ Below w.heap.size w w' := by
  have e := Move_is x0 y0 x1 y1 f c a b k l w; unfold mvV at e; rwa [if_neg h] at e
theorem Move_far {x0 y0 x1 y1 f c a b k l : Int} (h : mvArg x0 y0 x1 y1 f c a b k l) (g : ¬ mvRng x0 y0 x1 y1 a b k l) (w : World) : Calls Try.prog 33 #[.agg #[.int .i64 x0, .int .i64 y0, .int .i64 x1, .int .i64 y1, .int .i64 f, .int .i64 c], .int .i64 a, .int .i64 b, .int .i64 k, .int .i64 l] w fun e w' => e = .returned (.tuple #[.agg #[.int .i64 0, .int .i64 0, .int .i64 0, .int .i64 0, .int .i64 0, .int .i64 0], .int .i64 2]) ∧ Below w.heap.size w w' := by
  have e := Move_is x0 y0 x1 y1 f c a b k l w; unfold mvV at e; rwa [if_pos h, if_neg g] at e
theorem Move_ok {x0 y0 x1 y1 f c a b k l : Int} (h : mvArg x0 y0 x1 y1 f c a b k l) (g : mvRng x0 y0 x1 y1 a b k l) (w : World) : Calls Try.prog 33 #[.agg #[.int .i64 x0, .int .i64 y0, .int .i64 x1, .int .i64 y1, .int .i64 f, .int .i64 c], .int .i64 a, .int .i64 b, .int .i64 k, .int .i64 l] w fun e w' => e = .returned (.tuple #[.agg #[.int .i64 (x0 + a), .int .i64 (y0 + k), .int .i64 (x1 + b), .int .i64 (y1 + l), .int .i64 f, .int .i64 c], .int .i64 0]) ∧ Below w.heap.size w w' := by
  have e := Move_is x0 y0 x1 y1 f c a b k l w; unfold mvV at e; rwa [if_pos h, if_pos g] at e

theorem RMove_bad {x0 y0 x1 y1 f c a b k l : Int} (h : ¬ mvArg x0 y0 x1 y1 f c a b k l) (w : World) : Calls Try.prog 34 #[.agg #[.int .i64 x0, .int .i64 y0, .int .i64 x1, .int .i64 y1, .int .i64 f, .int .i64 c], .int .i64 a, .int .i64 b, .int .i64 k, .int .i64 l] w fun e w' => e = .returned (.tuple #[.agg #[.int .i64 0, .int .i64 0, .int .i64 0, .int .i64 0, .int .i64 0, .int .i64 0], .int .i64 1]) ∧ Below w.heap.size w w' := by
  have e := RMove_is x0 y0 x1 y1 f c a b k l w; unfold mvV at e; rwa [if_neg h] at e
theorem RMove_far {x0 y0 x1 y1 f c a b k l : Int} (h : mvArg x0 y0 x1 y1 f c a b k l) (g : ¬ mvRng x0 y0 x1 y1 a b k l) (w : World) : Calls Try.prog 34 #[.agg #[.int .i64 x0, .int .i64 y0, .int .i64 x1, .int .i64 y1, .int .i64 f, .int .i64 c], .int .i64 a, .int .i64 b, .int .i64 k, .int .i64 l] w fun e w' => e = .returned (.tuple #[.agg #[.int .i64 0, .int .i64 0, .int .i64 0, .int .i64 0, .int .i64 0, .int .i64 0], .int .i64 2]) ∧ Below w.heap.size w w' := by
  have e := RMove_is x0 y0 x1 y1 f c a b k l w; unfold mvV at e; rwa [if_pos h, if_neg g] at e
theorem RMove_ok {x0 y0 x1 y1 f c a b k l : Int} (h : mvArg x0 y0 x1 y1 f c a b k l) (g : mvRng x0 y0 x1 y1 a b k l) (w : World) : Calls Try.prog 34 #[.agg #[.int .i64 x0, .int .i64 y0, .int .i64 x1, .int .i64 y1, .int .i64 f, .int .i64 c], .int .i64 a, .int .i64 b, .int .i64 k, .int .i64 l] w fun e w' => e = .returned (.tuple #[.agg #[.int .i64 (x0 + a), .int .i64 (y0 + k), .int .i64 (x1 + b), .int .i64 (y1 + l), .int .i64 f, .int .i64 c], .int .i64 0]) ∧ Below w.heap.size w w' := by
  have e := RMove_is x0 y0 x1 y1 f c a b k l w; unfold mvV at e; rwa [if_pos h, if_pos g] at e
end Go.Proofs.Ytjpdahalplkfbaa
