/- A plan as an argument: a struct of two ints and a slice of bytes. -/
import Derived.Test.YtkhcogfajihecaaYKit
import Derived.Test.YtkhcogfajihecaaYBytes
import Derived.Deep.SlicePairs
import Derived.Deep.Slices
import Derived.Deep.Strs
import Derived.ChangeArms
set_option linter.unusedVariables false
set_option linter.unusedSimpArgs false
set_option maxRecDepth 100000
namespace Go.Proofs.Ytkhcogfajihecaa
open Go Go.ChangeShapes Go.WideShapes Go.ChangeAt Go.RowKit Go.Joins Go.Deep

theorem add_of {a : Addr} (hs : a.spot = none) (n : Nat) : a.add n = ⟨a.block, a.off + n, none⟩ := by
  obtain ⟨b, o, s⟩ := a
  simp only at hs
  subst hs
  unfold Addr.add
  split
  · rename_i h; subst h; rfl
  · rfl
theorem spot_of {W : World} {a : Addr} {v : Value} (h : W.cell? a = some v) : a.spot = none ∧ a.block < W.heap.size := by
  unfold World.cell? at h
  split at h
  · rename_i hb
    split at h
    · cases h
    · rename_i hs
      refine ⟨by simpa using hs, ?_⟩
      rcases Nat.lt_or_ge a.block W.heap.size with h1 | h1
      · exact h1
      · rw [Array.getElem?_eq_none h1] at hb; cases hb
  · cases h
def intOfV : Value → Int
  | .int _ n => n
  | _ => 0
section
variable {H : Type} {enc : TypeId × Value → H} {W : World} {r : Reach} {b0 : Nat}
theorem open_bytes {fuel : Nat} {c : Value} {x : DataW H × List MemPlace} {sp : Nat → Bool} {hd : Bool} (h : DataW.trod enc Try.prog W 0 sp hd fuel 22 [c] = some x) : ∃ (A : Option Addr) (n cap : Nat) (l : List Int), c = .slice A n cap ∧ KB W 0 W.heap.size A n cap l := by
  rcases open_slice1 Try.underlying22 (by kernel_rfl) h with ⟨hc, -⟩ | ⟨a, len, cap, m, n, V, D, Pl, hc, -, hl, -, hm, -, hx⟩
  · injection hc with hc _
    exact ⟨none, 0, 0, [], hc, kb_nil W 0⟩
  · injection hc with hc _
    have hlm : len ≤ m := by rw [hm]; split <;> omega
    have key : ∀ i, i < len → ∃ k : Int, V i = .int .u8 k ∧ 0 ≤ k ∧ k ≤ 255 := by
      intro i hi
      obtain ⟨-, t0⟩ := hx i (by omega)
      obtain ⟨n0, k0, q1, q2⟩ := DataW.trod_int Try.underlying5 t0
      injection k0 with k0 _
      exact ⟨n0, k0, (u8_of (by first | exact q1 | exact q2)).1, (u8_of (by first | exact q1 | exact q2)).2⟩
    refine ⟨some a, len, cap, (List.range len).map fun i => intOfV (V i), hc, by simp, hl, Nat.le_refl _, fun b hb => ?_, fun hne => ?_⟩
    · obtain ⟨i, hi, rfl⟩ := List.mem_map.1 hb
      rw [List.mem_range] at hi
      obtain ⟨k, e, h1, h2⟩ := key i hi
      rw [e]; exact ⟨h1, h2⟩
    · have h0 : 0 < len := by
        rcases Nat.eq_zero_or_pos len with h | h
        · subst h; exact absurd rfl hne
        · exact h
      obtain ⟨f0, -⟩ := hx 0 (by omega)
      have e0 : a.add 0 = a := rfl
      rw [e0] at f0
      obtain ⟨hs, hb⟩ := spot_of f0
      refine ⟨a.block, a.off, ?_, ⟨Nat.zero_le _, hb⟩, fun i hi => ?_⟩
      · obtain ⟨b, o, s⟩ := a
        simp only at hs
        subst hs
        rfl
      · rw [List.length_map, List.length_range] at hi
        obtain ⟨g0, -⟩ := hx i (by omega)
        obtain ⟨k, e, -⟩ := key i hi
        have eg : ((List.range len).map fun i => intOfV (V i)).getD i 0 = k := by
          rw [List.getD_eq_getElem?_getD, List.getElem?_map, List.getElem?_range hi]
          simp [e, intOfV]
        rw [eg]
        rw [add_of hs, e] at g0
        exact g0
theorem cells_B : Try.prog.cellsOf 24 = 3 := by kernel_rfl
theorem types_B : Try.prog.cellTypes Try.prog.depth 24 = some [3, 3, 22] := by kernel_rfl
theorem flat3' {α : Type} {cs : Array α} (h : cs.size = 3) : ∃ c0 c1 c2, cs = #[c0, c1, c2] := by
  obtain ⟨l⟩ := cs
  match l, h with
  | [c0, c1, c2], _ => exact ⟨c0, c1, c2, rfl⟩
theorem open_B {v : Value} {d : DataW H} {p : List MemPlace} {sp : Nat → Bool} {hd : Bool} (hv : Value.okWide Try.prog W r b0 24 v) (ht : DataW.Trod enc Try.prog W 0 sp hd 24 v d p) : ∃ (x y : Int) (A : Option Addr) (n c : Nat) (l : List Int), v = .agg #[.int .i64 x, .int .i64 y, .slice A n c] ∧ KB W 0 W.heap.size A n c l := by
  obtain ⟨cs, rfl, hs, hr⟩ := flat_struct Try.underlying24 hv
  obtain ⟨c0, c1, c2, rfl⟩ := flat3' (hs.trans cells_B)
  obtain ⟨x, rfl, -⟩ := flat_int hr types_B 0 rfl rfl Try.underlying3
  obtain ⟨y, rfl, -⟩ := flat_int hr types_B 1 rfl rfl Try.underlying3
  obtain ⟨fuel, hf⟩ := ht
  obtain ⟨y0, y1, y2, n, -, -, -, -, h2⟩ := trod_struct3 Try.underlying24 hf
  obtain ⟨A, n', cap, l, rfl, P⟩ := open_bytes (c := c2) h2
  exact ⟨x, y, A, n', cap, l, rfl, P⟩
end
end Go.Proofs.Ytkhcogfajihecaa
