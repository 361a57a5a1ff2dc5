/- Split case by case. -/
import Derived.Test.YtjpdahalplkfbaaB3
set_option linter.unusedVariables false
set_option linter.unusedSimpArgs false
namespace Go.Proofs.Ytjpdahalplkfbaa
open Go Go.RowKit Hd

theorem Split_bad {x0 y0 x1 y1 f c : Int} (h : ¬ OkB x0 y0 x1 y1 f c) (w : World) : Calls Try.prog 26 #[.agg #[.int .i64 x0, .int .i64 y0, .int .i64 x1, .int .i64 y1, .int .i64 f, .int .i64 c]] w fun e w' => e = .returned (.tuple #[.agg #[.int .i64 0, .int .i64 0, .int .i64 0, .int .i64 0, .int .i64 0, .int .i64 0], .agg #[.int .i64 0, .int .i64 0, .int .i64 0, .int .i64 0, .int .i64 0, .int .i64 0], .bool false]) ∧ Below w.heap.size w w' := by
  have e := Split_is x0 y0 x1 y1 f c w; unfold splitV at e; rwa [if_neg h] at e

theorem Split_one {x0 y0 x1 y1 f c : Int} (h : OkB x0 y0 x1 y1 f c) (h1 : oneP x0 y0 x1 y1 c) (w : World) : Calls Try.prog 26 #[.agg #[.int .i64 x0, .int .i64 y0, .int .i64 x1, .int .i64 y1, .int .i64 f, .int .i64 c]] w fun e w' => e = .returned (.tuple #[.agg #[.int .i64 0, .int .i64 0, .int .i64 0, .int .i64 0, .int .i64 0, .int .i64 0], .agg #[.int .i64 0, .int .i64 0, .int .i64 0, .int .i64 0, .int .i64 0, .int .i64 0], .bool false]) ∧ Below w.heap.size w w' := by
  have e := Split_is x0 y0 x1 y1 f c w; unfold splitV at e; rwa [if_pos h, if_pos h1] at e

theorem Split_x {x0 y0 x1 y1 f c : Int} (h : OkB x0 y0 x1 y1 f c) (h1 : ¬ oneP x0 y0 x1 y1 c) (h2 : spX x0 y0 x1 y1 c) (w : World) : Calls Try.prog 26 #[.agg #[.int .i64 x0, .int .i64 y0, .int .i64 x1, .int .i64 y1, .int .i64 f, .int .i64 c]] w fun e w' => e = .returned (.tuple #[.agg #[.int .i64 x0, .int .i64 y0, .int .i64 (x0 + (x1 - x0 + 1) / 2 - 1), .int .i64 y1, .int .i64 f, .int .i64 c], .agg #[.int .i64 (x0 + (x1 - x0 + 1) / 2), .int .i64 y0, .int .i64 x1, .int .i64 y1, .int .i64 f, .int .i64 c], .bool true]) ∧ Below w.heap.size w w' := by
  have e := Split_is x0 y0 x1 y1 f c w; unfold splitV at e; rwa [if_pos h, if_neg h1, if_pos h2] at e

theorem Split_y {x0 y0 x1 y1 f c : Int} (h : OkB x0 y0 x1 y1 f c) (h1 : ¬ oneP x0 y0 x1 y1 c) (h2 : ¬ spX x0 y0 x1 y1 c) (h3 : spY y0 y1 c) (w : World) : Calls Try.prog 26 #[.agg #[.int .i64 x0, .int .i64 y0, .int .i64 x1, .int .i64 y1, .int .i64 f, .int .i64 c]] w fun e w' => e = .returned (.tuple #[.agg #[.int .i64 x0, .int .i64 y0, .int .i64 x1, .int .i64 (y0 + (y1 - y0 + 1) / 2 - 1), .int .i64 f, .int .i64 c], .agg #[.int .i64 x0, .int .i64 (y0 + (y1 - y0 + 1) / 2), .int .i64 x1, .int .i64 y1, .int .i64 f, .int .i64 c], .bool true]) ∧ Below w.heap.size w w' := by
  have e := Split_is x0 y0 x1 y1 f c w; unfold splitV at e; rwa [if_pos h, if_neg h1, if_neg h2, if_pos h3] at e

theorem Split_h {x0 y0 x1 y1 f c : Int} (h : OkB x0 y0 x1 y1 f c) (h1 : ¬ oneP x0 y0 x1 y1 c) (h2 : ¬ spX x0 y0 x1 y1 c) (h3 : ¬ spY y0 y1 c) (w : World) : Calls Try.prog 26 #[.agg #[.int .i64 x0, .int .i64 y0, .int .i64 x1, .int .i64 y1, .int .i64 f, .int .i64 c]] w fun e w' => e = .returned (.tuple #[.agg #[.int .i64 x0, .int .i64 y0, .int .i64 x1, .int .i64 y1, .int .i64 f, .int .i64 (c / 2)], .agg #[.int .i64 x0, .int .i64 y0, .int .i64 x1, .int .i64 y1, .int .i64 ((f + c / 2) % 256), .int .i64 (c - c / 2)], .bool true]) ∧ Below w.heap.size w w' := by
  have e := Split_is x0 y0 x1 y1 f c w; unfold splitV at e; rwa [if_pos h, if_neg h1, if_neg h2, if_neg h3] at e
end Go.Proofs.Ytjpdahalplkfbaa
