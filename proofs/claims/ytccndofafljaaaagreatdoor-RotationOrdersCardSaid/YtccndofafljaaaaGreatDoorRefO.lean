/- The reference: trim, whose result is memory of its own. -/
import Derived.Test.YtccndofafljaaaaGreatDoorRefA

set_option linter.unusedVariables false
set_option linter.unusedSimpArgs false

namespace Go.Proofs.YtccndofafljaaaaGreatDoor
open Go Go.RowKit Num

/-- v reads as the words of n, in a block from w's end on. -/
def Owned (w w' : World) (n : Nat) (v : Value) : Prop := (n = 0 ∧ ∃ A c, v = .slice A 0 c ∧ c ≤ maxLen) ∨ (n ≠ 0 ∧ ∃ g cap ex, v = .slice (some ⟨g, 0, none⟩) (digs n).length cap ∧ w.heap.size ≤ g ∧ OwnX w' g (digs n) ex ∧ (digs n).length ≤ cap ∧ cap ≤ maxLen)

end Go.Proofs.YtccndofafljaaaaGreatDoor
