/- heading.fullArc, Shift, Grow. -/
import Derived.Test.YtjpdahalplkfbaaHArc
namespace Go.Proofs.Ytjpdahalplkfbaa
open Go Go.RowKit Hd

set_option maxRecDepth 100000 in
set_option maxHeartbeats 1000000 in
theorem fullArc_any  (w : World) :
    Calls Try.prog 64 #[] w fun e w' => e = .returned (av 0 256) ∧ Below w.heap.size w w' := by
  go_enter Try.func64, Try.ntmps64
  go_wp2
  exact bodyPost_ret (v := .agg #[.int .i64 0, .int .i64 256]) (by simp [results, Try.results64, go_sem]) rfl ⟨rfl, (Below.refl _ _).alloc (Nat.le_refl _) _⟩

end Go.Proofs.Ytjpdahalplkfbaa
