/- The reference: Same; the law's few.
   The reference's trim.
   The reference's Norm and Of.
   The reference's Of. -/
import Derived.Test.YtccndofafljaaaaGreatDoorInts
import Derived.Laws.AppendOwnNone

set_option linter.unusedVariables false
set_option linter.unusedSimpArgs false

namespace Go.Proofs.YtccndofafljaaaaGreatDoor
open Go Go.RowKit Num

theorem take_eq_step {l1 l2 : List Nat} {k : Nat} (h : l1.take k = l2.take k) (h1 : k < l1.length) (h2 : k < l2.length) : l1.take (k + 1) = l2.take (k + 1) ↔ l1.getD k 0 = l2.getD k 0 := by
  have e1 := List.take_succ_eq_append_getElem h1
  have e2 := List.take_succ_eq_append_getElem h2
  rw [e1, e2, h, List.append_cancel_left_eq]
  simp [List.getD, h1, h2]

end Go.Proofs.YtccndofafljaaaaGreatDoor

namespace Go.Proofs.YtccndofafljaaaaGreatDoor
open Go Go.RowKit Num

theorem cells_of {w : World} {l : List Nat} {b off k : Nat} (hb : b < w.heap.size) (hk : k ≤ l.length) (hc : ∀ i, i < l.length → w.cell? ⟨b, off + i, none⟩ = some (.int .u32 (l.getD i 0 : Nat))) (o : Obj) :
    ∀ j u, (ws (l.take k))[j]? = some u → (w.alloc o).cell? ((⟨b, off, none⟩ : Addr).add j) = some u := by
  intro j u hu
  have hj : j < k := by
    rcases Nat.lt_or_ge j k with h1 | h1
    · exact h1
    · rw [ws_getElem?, List.getElem?_eq_none (by rw [List.length_take]; omega)] at hu; cases hu
  have h2 : (⟨b, off, none⟩ : Addr).add j = ⟨b, off + j, none⟩ := by
    unfold Addr.add
    by_cases h0 : j = 0
    · simp [h0]
    · simp [h0]
  rw [ws_getElem?, List.getElem?_take, if_pos hj] at hu
  rw [h2, World.cell?_alloc_lt w _ ⟨b, off + j, none⟩ hb, hc j (by omega)]
  rw [List.getElem?_eq_getElem (by omega)] at hu
  simp only [Option.map_some] at hu
  rw [← hu]
  simp [List.getD, show j < l.length from by omega]

end Go.Proofs.YtccndofafljaaaaGreatDoor

namespace Go.Proofs.YtccndofafljaaaaGreatDoor
open Go Go.RowKit Num

theorem can_mk {w : World} {m : Value} {n : Nat} {z : Int} {s : Bool} (h : Mag w m n) (hz : z.natAbs = n) (hs : s = decide (z < 0)) : Can w (.agg #[.bool s, m]) z := by
  refine ⟨m, by rw [hs], ?_⟩
  rw [hz]; exact h

end Go.Proofs.YtccndofafljaaaaGreatDoor

namespace Go.Proofs.YtccndofafljaaaaGreatDoor
open Go Go.RowKit Num

end Go.Proofs.YtccndofafljaaaaGreatDoor
