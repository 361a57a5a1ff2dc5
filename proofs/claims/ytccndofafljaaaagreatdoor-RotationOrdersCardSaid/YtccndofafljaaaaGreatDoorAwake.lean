/- The laws' 'awake': true. -/
import Derived.Test.YtccndofafljaaaaGreatDoorAwk1

set_option linter.unusedVariables false
set_option linter.unusedSimpArgs false

namespace Go.Proofs.YtccndofafljaaaaGreatDoor
open Go Go.RowKit Num

/-- Behind a store into a variable of the type Int that lies from B on, what lies below B is as it was. -/
theorem kept2 {w w1 : World} {x : Nat} (h : Below w.heap.size w w1) (hx : w.heap.size ≤ x) (u v : Value) : Below w.heap.size w ((w1.setCell ⟨x, 0, none⟩ u).setCell ⟨x, 1, none⟩ v) := Below.store h hx u v

theorem Gcd_12 (v1 v2 : Value) (w : World) (h1 : Can w v1 (-12)) (h2 : Can w v2 18) :
    Calls Tryz.prog 60 #[v1, v2] w fun e w' => ∃ v, e = .returned v ∧ Can w' v 6 ∧ Below w.heap.size w w' :=
  Gcd_can v1 v2 (-12) 18 w h1 h2 (by decide) (by decide)
end Go.Proofs.YtccndofafljaaaaGreatDoor
