/- wayfinderbase.Plans: the bytes as strings. -/
import Derived.Test.YtkhcogfajihecaaY27
import Derived.Laws.BytesString
import Derived.Laws.Cells
set_option linter.unusedSimpArgs false
set_option linter.unusedVariables false
set_option maxRecDepth 100000
namespace Go.Proofs.Ytkhcogfajihecaa
open Go Go.RowKit Hd

def strB (l : List Int) : ByteArray := l.foldl (fun r n => r.push (UInt8.ofNat n.toNat)) ByteArray.empty
theorem conv_bytes {w : World} {lo hi : Nat} {A : Option Addr} {n c : Nat} {l : List Int} (L : KB w lo hi A n c l) : (convert 22 9 (.slice A n c)).run Try.prog w = .ok (.string (strB l)) w := by
  rw [run_convert_bytes_string w _ _ _ A n c Try.underlying22 Try.underlying5 Try.underlying9]
  have hl := L.len
  cases A with
  | none =>
    have hm0 : l = [] := by
      apply Classical.byContradiction
      intro h
      obtain ⟨g, o, e, -⟩ := L.row h
      cases e
    subst hm0
    simp only [List.length_nil] at hl
    subst hl
    simp [Conv.bytesToString, strB]
  | some ad =>
    refine run_bytesToString w ad n c l ?_
    have h := run_loadCells_list (P := Try.prog) (w := w) ad (vb l) (fun j u hu => by
      by_cases hne : l = []
      · subst hne; simp [vb] at hu
      · obtain ⟨g, o, e, -, hc⟩ := L.row hne
        cases e
        rcases Nat.lt_or_ge j l.length with h1 | h1
        · rw [vb_get l h1] at hu
          injection hu with hu
          subst hu
          have := hc j h1
          unfold Addr.add
          split
          · rename_i e; subst e; simpa using this
          · exact this
        · rw [List.getElem?_eq_none (by rw [vb_len]; exact h1)] at hu; cases hu)
    rw [vb_len, ← hl] at h
    exact h
end Go.Proofs.Ytkhcogfajihecaa
