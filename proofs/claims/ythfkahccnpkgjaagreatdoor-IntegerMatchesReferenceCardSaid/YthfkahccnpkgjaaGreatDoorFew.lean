/- The laws' few, decided. -/
import Derived.Test.YthfkahccnpkgjaaGreatDoorAwake
import Derived.Test.YthfkahccnpkgjaaGreatDoorRefB

set_option linter.unusedVariables false
set_option linter.unusedSimpArgs false

namespace Go.Proofs.YthfkahccnpkgjaaGreatDoor
open Go Go.RowKit Num

theorem few_yes (s : Bool) (A : Option Addr) (n c : Nat) (hn : n ≤ 12) (w : World) :
    Calls Tryz.prog 5 #[.agg #[.bool s, .slice A n c]] w fun e w' => e = .returned (.bool true) ∧ Below w.heap.size w w' := by
  have := few_any s A n c (by omega) w
  rwa [decide_eq_true hn] at this
theorem few_no (s : Bool) (A : Option Addr) (n c : Nat) (hm : n ≤ 9223372036854775807) (hn : 12 < n) (w : World) :
    Calls Tryz.prog 5 #[.agg #[.bool s, .slice A n c]] w fun e w' => e = .returned (.bool false) ∧ Below w.heap.size w w' := by
  have := few_any s A n c hm w
  rwa [decide_eq_false (by omega)] at this
end Go.Proofs.YthfkahccnpkgjaaGreatDoor
