/-
  Slices of words in memory: what is known of a slice value of type []uint32.
-/
import Derived.Test.YtgfoplokplnpgaaDoorNat
import Derived.Test.YtgfoplokplnpgaaDoorChecked
import Derived.WalkKit
import Derived.Deep.OwnRows
import Derived.Lib.Hide
namespace Go.Proofs.YtgfoplokplnpgaaDoor
open Go Go.RowKit Num

def ws (l : List Nat) : List Value := l.map fun (n : Nat) => .int .u32 (n : Int)

theorem ws_length (l : List Nat) : (ws l).length = l.length := by simp [ws]
theorem ws_getElem? (l : List Nat) (i : Nat) : (ws l)[i]? = (l[i]?).map fun (n : Nat) => Value.int .u32 (n : Int) := by simp [ws]
theorem ws_append (a b : List Nat) : ws (a ++ b) = ws a ++ ws b := by simp [ws]
theorem ws_oneCell (l : List Nat) : ∀ u ∈ ws l, u.oneCell' = true := by
  intro u hu
  simp [ws] at hu
  obtain ⟨n, _, rfl⟩ := hu
  rfl

/-- The slice value v reads as the words l in the world w. -/
structure U32 (w : World) (v : Value) (l : List Nat) : Prop where
  lt : ∀ x ∈ l, x < 4294967296
  form : ∃ A cap, v = .slice A l.length cap ∧ l.length ≤ cap ∧ cap ≤ maxLen ∧
    (l ≠ [] → ∃ b off, A = some ⟨b, off, none⟩ ∧ b < w.heap.size ∧ ∀ i, i < l.length → w.cell? ⟨b, off + i, none⟩ = some (.int .u32 (l.getD i 0 : Nat)))

/-- The slice value v reads as the words of the number n. -/
def Mag (w : World) (v : Value) (n : Nat) : Prop := U32 w v (digs n)

theorem U32.below {w w' : World} {v : Value} {l : List Nat} (h : U32 w v l) (hb : Below w.heap.size w w') : U32 w' v l := by
  refine ⟨h.lt, ?_⟩
  obtain ⟨A, cap, rfl, h1, h2, h3⟩ := h.form
  refine ⟨A, cap, rfl, h1, h2, fun hne => ?_⟩
  obtain ⟨b, off, rfl, hlt, hc⟩ := h3 hne
  exact ⟨b, off, rfl, Nat.lt_of_lt_of_le hlt hb.size, fun i hi => (hb.cell (p := ⟨b, off + i, none⟩) hlt).trans (hc i hi)⟩
theorem Mag.below {w w' : World} {v : Value} {n : Nat} (h : Mag w v n) (hb : Below w.heap.size w w') : Mag w' v n := U32.below h hb

theorem bcell {W w1 : World} (hb : Below W.heap.size W w1) : (∀ b o, b < W.heap.size → w1.cell? ⟨b, o, none⟩ = W.cell? ⟨b, o, none⟩) ∧ (∀ b o, b < W.heap.size → w1.frozen? ⟨b, o, none⟩ = W.frozen? ⟨b, o, none⟩) :=
  ⟨fun b o h => hb.cell (p := ⟨b, o, none⟩) h, fun b o h => hb.frozen (p := ⟨b, o, none⟩) h⟩

/-- The two forms of a slice of words: without elements, or at a place. -/
theorem U32.cases {w : World} {v : Value} {l : List Nat} (h : U32 w v l) :
    (l = [] ∧ ∃ A cap, v = .slice A 0 cap ∧ cap ≤ maxLen) ∨
    (0 < l.length ∧ ∃ b off cap, v = .slice (some ⟨b, off, none⟩) l.length cap ∧ l.length ≤ cap ∧ cap ≤ maxLen ∧ b < w.heap.size ∧ ∀ i, i < l.length → w.cell? ⟨b, off + i, none⟩ = some (.int .u32 (l.getD i 0 : Nat))) := by
  obtain ⟨A, cap, rfl, h1, h2, h3⟩ := h.form
  rcases l with _ | ⟨x, xs⟩
  · exact .inl ⟨rfl, A, cap, rfl, h2⟩
  · obtain ⟨b, off, rfl, hlt, hc⟩ := h3 (by simp)
    exact .inr ⟨by simp, b, off, cap, rfl, h1, h2, hlt, hc⟩

theorem U32.nil {w : World} (A : Option Addr) {cap : Nat} (hc : cap ≤ maxLen) : U32 w (.slice A 0 cap) [] :=
  ⟨by simp, A, cap, rfl, Nat.zero_le _, hc, fun h => absurd rfl h⟩

theorem U32.of_own {w : World} {base : Nat} {v : Value} {l : List Nat} (hlt : ∀ x ∈ l, x < 4294967296) (h : w.ownsRow base 46 1 v l.length (ws l)) : U32 w v l := by
  refine ⟨hlt, ?_⟩
  rcases h.2 with ⟨rfl, hx⟩ | ⟨g, cap, cur, rfl, hg, hh, hnc, hcm, hcs, htake⟩
  · have hl : l = [] := List.eq_nil_of_length_eq_zero hx
    subst hl
    exact ⟨none, 0, rfl, Nat.le_refl _, Nat.zero_le _, fun h => absurd rfl h⟩
  · refine ⟨some ⟨g, 0, none⟩, cap, rfl, hnc, hcm, fun _ => ⟨g, 0, rfl, ?_, fun i hi => ?_⟩⟩
    · rcases Nat.lt_or_ge g w.heap.size with h1 | h1
      · exact h1
      · rw [Array.getElem?_eq_none h1] at hh; cases hh
    · have := World.ownsRow.cellAt (g := g) (cap := cap) h i (by omega)
      rw [Nat.zero_add, this, ws_getElem?]
      simp [hi]

theorem info32 : (Tryd.prog.info? 46).map (fun i => (i.zero, i.size, i.bytes)) = some (some (.int .u32 0), 1, 4) := by kernel_rfl

end Go.Proofs.YtgfoplokplnpgaaDoor
