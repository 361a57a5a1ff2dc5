/- integer.Parse, in general. -/
import Derived.Test.YtccndofafljaaaaGreatDoorDec

set_option linter.unusedVariables false
set_option linter.unusedSimpArgs false

namespace Go.Proofs.YtccndofafljaaaaGreatDoor
open Go Go.RowKit Num Go.Lib

theorem ival_numD (l : List UInt8) (L : List Nat) (h : val L = valD (bodyD l)) : ival (negD l) L = numD l := by
  unfold ival numD
  rw [h]
theorem numD_words (l : List UInt8) (hn : l.length ≤ 2000) (h : decOK (bodyD l)) : (numD l).natAbs < 4294967296 ^ 223 := by
  have h1 := valD_lt _ h.2.2
  have h2 := bodyD_len l
  have h3 := pow_chain (bodyD l).length 223 (by omega)
  have h4 : (numD l).natAbs = valD (bodyD l) := by unfold numD; split <;> simp
  rw [h4]
  exact Nat.lt_of_lt_of_le h1 h3
theorem str_ne {l : List UInt8} (h : l ≠ [48]) : (l == [48]) = false := by
  rw [beq_eq_false_iff_ne]
  exact h

end Go.Proofs.YtccndofafljaaaaGreatDoor
