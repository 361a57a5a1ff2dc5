/- The sizes of numbers: wayfinderref02.Few, the laws' few. -/
import Derived.Test.YtccndofafljaaaaDoorQBox

set_option linter.unusedVariables false
set_option linter.unusedSimpArgs false

namespace Go.Proofs.YtccndofafljaaaaDoor
open Go Go.RowKit Num

/-- The words of numbers, at most 100 of each part. -/
def fewSum : List (Nat × Nat) → Nat
  | [] => 0
  | (a, b) :: t => min a 100 + min b 100 + fewSum t
theorem fewSum_append (a b : List (Nat × Nat)) : fewSum (a ++ b) = fewSum a + fewSum b := by
  induction a with
  | nil => simp [fewSum]
  | cons x t ih => obtain ⟨p, q⟩ := x; simp only [List.cons_append, fewSum, ih]; omega
theorem fewSum_step {L : List (Nat × Nat)} {i : Nat} (h : i < L.length) : fewSum (L.take (i + 1)) = fewSum (L.take i) + (min (L.getD i (0, 0)).1 100 + min (L.getD i (0, 0)).2 100) := by
  rw [List.take_succ_eq_append_getElem h, fewSum_append]
  simp [fewSum, List.getD, h]
theorem fewSum_le (L : List (Nat × Nat)) (i : Nat) : fewSum (L.take i) ≤ 200 * i := by
  induction i with
  | zero => simp [fewSum]
  | succ i ih =>
    rcases Nat.lt_or_ge i L.length with h | h
    · rw [fewSum_step h]; omega
    · rw [List.take_of_length_le (by omega)] at ih ⊢; omega
/-- A slice of numbers whose parts have so many words. -/
def Rats (w : World) (v : Value) (L : List (Nat × Nat)) : Prop := ∃ g, v = .slice (some ⟨g, 0, none⟩) L.length L.length ∧ ∀ i, i < L.length →
  (∃ A c, w.cell? ⟨g, i * 4 + 1, none⟩ = some (.slice A (L.getD i (0, 0)).1 c)) ∧ (∃ A c, w.cell? ⟨g, i * 4 + 2 + 1, none⟩ = some (.slice A (L.getD i (0, 0)).2 c))

set_option maxRecDepth 100000 in
set_option maxHeartbeats 2000000 in
theorem Few_any (v : Value) (L : List (Nat × Nat)) (w : World) (h : Rats w v L) (hL : L.length ≤ 12) (hm : ∀ p ∈ L, p.1 ≤ 9223372036854775807 ∧ p.2 ≤ 9223372036854775807) :
    Calls Tryd.prog 54 #[v] w fun e w' => e = .returned (.bool (decide (fewSum L ≤ 60))) ∧ Below w.heap.size w w' := by
  obtain ⟨g, rfl, hc⟩ := h
  have HC := Lib.hid hc
  have HM := Lib.hid hm
  clear hc hm
  go_enter Tryd.func54, Tryd.ntmps54
  go_wp2_with fail
  go_loopw [3, 4] (fun n i wr => ∃ (k m : Nat), k ≤ L.length ∧ n = .int .i64 (fewSum (L.take k)) ∧ i = .int .i64 k ∧ wr = w.drewN m) (fun _ i _ => L.length - (RowKit.intOf i).toNat)
  case atStart => exact ⟨0, 0, Nat.zero_le _, rfl, rfl, rfl⟩
  case round =>
    obtain ⟨k, m, hk, rfl, rfl, rfl⟩ := hrel
    have hs := fewSum_le L k
    by_cases hk1 : k < L.length
    · obtain ⟨⟨A, c, x1⟩, ⟨B, d, x2⟩⟩ := HC.out k hk1
      have hst := fewSum_step hk1
      obtain ⟨h1, h2⟩ := HM.out (L.getD k (0, 0)) (by simp [List.getD, hk1])
      generalize (L.getD k (0, 0)).1 = p at *
      generalize (L.getD k (0, 0)).2 = q at *
      have HST := Lib.hid hst
      clear hst
      generalize fewSum (L.take k) = S at *
      have hkI : (k : Int) < (L.length : Int) := by omega
      have hk50 : (k : Int) < 50 := by omega
      go_wp2
      go_quiet (fail)
      go_wp2
      go_roundw
      case rel => exact ⟨k + 1, _, by omega, by rw [HST.out]; go_num, by go_num, rfl⟩
      case measure => simp only [RowKit.intOf]; omega
    · obtain rfl : k = L.length := by omega
      rw [List.take_length] at *
      go_wp2
      go_ret
      exact ⟨by simp; omega, bel_drewN (Below.refl _ _) m⟩
end Go.Proofs.YtccndofafljaaaaDoor
