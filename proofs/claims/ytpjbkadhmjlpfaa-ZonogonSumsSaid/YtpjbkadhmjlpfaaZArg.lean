/- A zonogon as an argument: a struct of two ints and a slice of points. -/
import Derived.Test.YtpjbkadhmjlpfaaZKit
import Derived.Test.YtpjbkadhmjlpfaaZBase
import Derived.Deep.SlicePairs
import Derived.Deep.Strs
import Derived.ChangeArms
set_option linter.unusedVariables false
set_option linter.unusedSimpArgs false
namespace Go.Proofs.Ytpjbkadhmjlpfaa
open Go Go.ChangeShapes Go.WideShapes Go.ChangeAt Go.RowKit Go.Joins Go.Deep

theorem add_of {a : Addr} (hs : a.spot = none) (n : Nat) : a.add n = ⟨a.block, a.off + n, none⟩ := by
  obtain ⟨b, o, s⟩ := a
  simp only at hs
  subst hs
  unfold Addr.add
  split
  · rename_i h; subst h; rfl
  · rfl
theorem spot_of {W : World} {a : Addr} {v : Value} (h : W.cell? a = some v) : a.spot = none ∧ a.block < W.heap.size := by
  unfold World.cell? at h
  split at h
  · rename_i hb
    split at h
    · cases h
    · rename_i hs
      refine ⟨by simpa using hs, ?_⟩
      rcases Nat.lt_or_ge a.block W.heap.size with h1 | h1
      · exact h1
      · rw [Array.getElem?_eq_none h1] at hb; cases hb
  · cases h
theorem u8_of {n : Int} (h : (Lit.int .u8 n).wf = true) : 0 ≤ n ∧ n ≤ 255 := by
  have h1 : IntKind.u8.min ≤ n ∧ n ≤ IntKind.u8.max := by simpa [Lit.wf] using h
  have h2 : IntKind.u8.min = 0 := by decide
  have h3 : IntKind.u8.max = 255 := by decide
  omega
def intOfV : Value → Int
  | .int _ n => n
  | _ => 0
section
variable {H : Type} {enc : TypeId × Value → H} {W : World} {r : Reach} {b0 : Nat}
theorem open_pts {fuel : Nat} {c : Value} {x : DataW H × List MemPlace} {sp : Nat → Bool} {hd : Bool} (h : DataW.trod enc Try.prog W 0 sp hd fuel 22 [c] = some x) : ∃ (A : Option Addr) (n cap : Nat) (l : List P2), c = .slice A n cap ∧ PL W 0 W.heap.size A n cap l := by
  rcases open_slice_pairs Try.underlying22 Try.underlying39 (by kernel_rfl) rfl rfl (by kernel_rfl) (by kernel_rfl) h with ⟨hc, -⟩ | ⟨a, len, cap, m, n, V0, V1, D0, D1, Q0, Q1, hc, -, hl, -, hm, -, hx⟩
  · injection hc with hc _
    exact ⟨none, 0, 0, [], hc, pl_nil W 0⟩
  · injection hc with hc _
    have hlm : len ≤ m := by rw [hm]; split <;> omega
    refine ⟨some a, len, cap, (List.range len).map fun i => (intOfV (V0 i), intOfV (V1 i)), hc, by simp, hl, Nat.le_refl _, fun hne => ?_⟩
    have h0 : 0 < len := by
      rcases Nat.eq_zero_or_pos len with h | h
      · subst h; exact absurd rfl hne
      · exact h
    obtain ⟨f0, -, -, -⟩ := hx 0 (by omega)
    rw [Nat.zero_mul] at f0
    have e0 : a.add 0 = a := rfl
    rw [e0] at f0
    obtain ⟨hs, hb⟩ := spot_of f0
    refine ⟨a.block, a.off, ?_, ⟨Nat.zero_le _, hb⟩, fun i hi => ?_⟩
    · obtain ⟨b, o, s⟩ := a
      simp only at hs
      subst hs
      rfl
    · rw [List.length_map, List.length_range] at hi
      obtain ⟨g0, g1, t0, t1⟩ := hx i (by omega)
      obtain ⟨n0, k0, -, -⟩ := DataW.trod_int Try.underlying3 t0
      obtain ⟨n1, k1, -, -⟩ := DataW.trod_int Try.underlying3 t1
      injection k0 with k0 _
      injection k1 with k1 _
      have eg : ((List.range len).map fun i => (intOfV (V0 i), intOfV (V1 i))).getD i z2 = (n0, n1) := by
        rw [List.getD_eq_getElem?_getD, List.getElem?_map, List.getElem?_range hi]
        simp [k0, k1, intOfV]
      rw [eg]
      rw [add_of hs] at g0 g1
      rw [k0] at g0
      rw [k1] at g1
      exact ⟨g0, g1⟩
theorem cells_Z : Try.prog.cellsOf 24 = 3 := by kernel_rfl
theorem types_Z : Try.prog.cellTypes Try.prog.depth 24 = some [3, 3, 22] := by kernel_rfl
theorem open_Z {v : Value} {d : DataW H} {p : List MemPlace} {sp : Nat → Bool} {hd : Bool} (hv : Value.okWide Try.prog W r b0 24 v) (ht : DataW.Trod enc Try.prog W 0 sp hd 24 v d p) : ∃ (x y : Int) (A : Option Addr) (n c : Nat) (l : List P2), v = .agg #[.int .i64 x, .int .i64 y, .slice A n c] ∧ PL W 0 W.heap.size A n c l := by
  obtain ⟨cs, rfl, hs, hr⟩ := flat_struct Try.underlying24 hv
  obtain ⟨c0, c1, c2, rfl⟩ := flat3 (hs.trans cells_Z)
  obtain ⟨x, rfl, -⟩ := flat_int hr types_Z 0 rfl rfl Try.underlying3
  obtain ⟨y, rfl, -⟩ := flat_int hr types_Z 1 rfl rfl Try.underlying3
  obtain ⟨fuel, hf⟩ := ht
  obtain ⟨y0, y1, y2, n, -, -, -, -, h2⟩ := trod_struct3 Try.underlying24 hf
  obtain ⟨A, n', cap, l, rfl, P⟩ := open_pts (c := c2) h2
  exact ⟨x, y, A, n', cap, l, rfl, P⟩
end
end Go.Proofs.Ytpjbkadhmjlpfaa
