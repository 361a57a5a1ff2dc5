/- The contracts that the laws' 'awake' wants, in terms of whole numbers. -/
import Derived.Test.YtccndofafljaaaaGreatDoorText
import Derived.Test.YtccndofafljaaaaGreatDoorRefA

set_option linter.unusedVariables false
set_option linter.unusedSimpArgs false

namespace Go.Proofs.YtccndofafljaaaaGreatDoor
open Go Go.RowKit Num

theorem ival_can (z : Int) : ival (decide (z < 0)) (digs z.natAbs) = z := by
  rw [ival_digs]
  by_cases h : z < 0
  · rw [if_pos (by simpa using h)]; omega
  · rw [if_neg (by simpa using h)]; omega
theorem Can.shape {w : World} {v : Value} {z : Int} (h : Can w v z) : ∃ s A k c, v = .agg #[.bool s, .slice A k c] := by
  obtain ⟨m, rfl, hu⟩ := h
  obtain ⟨A, c, rfl, -⟩ := hu.form
  exact ⟨_, _, _, _, rfl⟩
abbrev Fits (z : Int) : Prop := (digs z.natAbs).length ≤ 50000
theorem fits_small {z : Int} (h : z.natAbs < 18446744073709551616) : Fits z := by
  have := len2 h
  unfold Fits; omega

theorem DivMod_can (v1 v2 : Value) (z1 z2 : Int) (w : World) (h1 : Can w v1 z1) (h2 : Can w v2 z2) (f1 : Fits z1) (f2 : Fits z2) (h0 : z2 ≠ 0) :
    Calls Tryz.prog 80 #[v1, v2] w fun e w' => ∃ q r, e = .returned (.tuple #[q, r, .int .i64 0]) ∧ Can w' q (z1 / z2) ∧ Can w' r (z1 % z2) ∧ Below w.heap.size w w' := by
  obtain ⟨m1, rfl, u1⟩ := h1
  obtain ⟨m2, rfl, u2⟩ := h2
  have c := DivMod_any (decide (z1 < 0)) (decide (z2 < 0)) m1 m2 _ _ w u1 u2 f1 f2 (by rw [val_digs]; omega)
  rw [ival_can, ival_can] at c
  exact c
theorem DivMod_none (v1 m2 : Value) (z1 : Int) (s2 : Bool) (l2 : List Nat) (w : World) (h1 : Can w v1 z1) (h2 : U32 w m2 l2) (f1 : Fits z1) (f2 : l2.length ≤ 50000) (h0 : val l2 = 0) :
    Calls Tryz.prog 80 #[v1, .agg #[.bool s2, m2]] w fun e w' => e = .returned (.tuple #[.agg #[.bool false, .slice none 0 0], .agg #[.bool false, .slice none 0 0], .int .i64 10]) ∧ Below w.heap.size w w' := by
  obtain ⟨m1, rfl, u1⟩ := h1
  exact DivMod_zero (decide (z1 < 0)) s2 m1 m2 _ l2 w u1 h2 f1 f2 h0
theorem Gcd_can (v1 v2 : Value) (z1 z2 : Int) (w : World) (h1 : Can w v1 z1) (h2 : Can w v2 z2) (f1 : z1.natAbs < 18446744073709551616) (f2 : z2.natAbs < 18446744073709551616) :
    Calls Tryz.prog 60 #[v1, v2] w fun e w' => ∃ v, e = .returned v ∧ Can w' v (Nat.gcd z1.natAbs z2.natAbs : Nat) ∧ Below w.heap.size w w' := by
  obtain ⟨m1, rfl, u1⟩ := h1
  obtain ⟨m2, rfl, u2⟩ := h2
  have e1 := val_digs z1.natAbs
  have e2 := val_digs z2.natAbs
  rcases Nat.lt_or_ge z1.natAbs z2.natAbs with h | h
  · have c := Gcd_swap (decide (z1 < 0)) (decide (z2 < 0)) m1 m2 _ _ w u1 u2 (by rw [e1]; exact f1) (by rw [e2]; exact f2) (by rw [e1, e2]; exact h)
    rw [e1, e2] at c
    exact c
  · have c := Gcd_keep (decide (z1 < 0)) (decide (z2 < 0)) m1 m2 _ _ w u1 u2 (by rw [e1]; exact f1) (by rw [e2]; exact f2) (by rw [e1, e2]; exact h)
    rw [e1, e2] at c
    exact c
/-- A literal slice of words. -/
theorem lit1 (w : World) (x : Nat) (hx : x < 4294967296) : U32 (w.alloc (.cells #[.int .u32 (x : Int)] 69)) (.slice (some ⟨w.heap.size, 0, none⟩) 1 1) [x] :=
  U32.lit w [x] #[.int .u32 (x : Int)] 69 (by intro y hy; simp at hy; omega) (by simp [maxLen]) (by simp [ws])
theorem lit2 (w : World) (x y : Nat) (hx : x < 4294967296) (hy : y < 4294967296) : U32 (w.alloc (.cells #[.int .u32 (x : Int), .int .u32 (y : Int)] 69)) (.slice (some ⟨w.heap.size, 0, none⟩) 2 2) [x, y] :=
  U32.lit w [x, y] #[.int .u32 (x : Int), .int .u32 (y : Int)] 69 (by intro z hz; simp at hz; omega) (by simp [maxLen]) (by simp [ws])

theorem below_lit {w w' : World} {o : Obj} (h : Below (w.alloc o).heap.size (w.alloc o) w') : Below w.heap.size w w' := nextw ((Below.refl _ _).alloc (Nat.le_refl _) _) h
theorem DivMod_lit (v1 : Value) (z1 : Int) (w : World) (g : Nat) (hg : w.heap.size = g) (h1 : Can w v1 z1) (f1 : Fits z1) :
    Calls Tryz.prog 80 #[v1, .agg #[.bool true, .slice (some ⟨g, 0, none⟩) 1 1]] (w.alloc (.cells #[.int .u32 0] 69)) fun e w' => e = .returned (.tuple #[.agg #[.bool false, .slice none 0 0], .agg #[.bool false, .slice none 0 0], .int .i64 10]) ∧ Below w.heap.size w w' := by
  subst hg
  have c := DivMod_none v1 _ z1 true [0] _ (h1.below ((Below.refl _ _).alloc (Nat.le_refl _) (.cells #[.int .u32 0] 69))) (lit1 w 0 (by omega)) f1 (by simp) (by simp [val])
  exact c.mono fun _ _ h => ⟨h.1, below_lit h.2⟩
theorem dec_big : Lib.decDigits 4294967296 = [52, 50, 57, 52, 57, 54, 55, 50, 57, 54] := by
  simp [Lib.decDigits]
theorem Text_lit (w : World) (htab : Tab10 w) (g : Nat) (hg : w.heap.size = g) :
    Calls Tryz.prog 59 #[.agg #[.bool true, .slice (some ⟨g, 0, none⟩) 2 2]] (w.alloc (.cells #[.int .u32 0, .int .u32 1] 69)) fun e w' => e = .returned (.string ⟨#[45, 52, 50, 57, 52, 57, 54, 55, 50, 57, 54]⟩) ∧ Below w.heap.size w w' := by
  subst hg
  have c := Text_more true _ [0, 1] _ (lit2 w 0 1 (by omega) (by omega)) (by simp [val]) (by have := len2 (n := val [0, 1]) (by simp [val]); omega) (Lib.tabIs_alloc htab _)
  have e : val [0, 1] = 4294967296 := by simp [val]
  rw [e, dec_big] at c
  exact c.mono fun _ _ h => ⟨h.1, below_lit h.2⟩
end Go.Proofs.YtccndofafljaaaaGreatDoor
