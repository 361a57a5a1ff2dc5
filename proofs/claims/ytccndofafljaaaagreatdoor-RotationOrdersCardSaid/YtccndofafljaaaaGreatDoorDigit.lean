/- integer.appendDigit, value, decimal. -/
import Derived.Test.YtccndofafljaaaaGreatDoorRefC
import Derived.Test.YtccndofafljaaaaGreatDoorRText

set_option linter.unusedVariables false
set_option linter.unusedSimpArgs false

namespace Go.Proofs.YtccndofafljaaaaGreatDoor
open Go Go.RowKit Num

/-- What holds at the head of appendDigit's loop. -/
structure ADAt (base : Nat) (w wr : World) (v : Value) (l : List Nat) (d k c : Nat) (done : List Nat) : Prop where
  row : wr.ownsRow base 69 1 v l.length (ws (done ++ l.drop k))
  len : done.length = k
  lt : ∀ x ∈ done, x < 4294967296
  carry : c ≤ 9
  eq : val done + 4294967296 ^ k * c = 10 * val (l.take k) + d
  below : Below base w wr
theorem ten_step {D P c a d x : Nat} (e : D + P * c = 10 * a + d) : D + P * ((c + 10 * x) % 4294967296) + P * 4294967296 * ((c + 10 * x) / 4294967296) = 10 * (a + P * x) + d := by
  rw [Nat.add_assoc, carry_join, Nat.mul_add, Nat.mul_add, Nat.mul_left_comm P 10 x]
  omega
theorem ADAt.step {base : Nat} {w wr : World} {g cap : Nat} {l : List Nat} {d k c : Nat} {done : List Nat} (h : ADAt base w wr (.slice (some ⟨g, 0, none⟩) l.length cap) l d k c done) (hk : k < l.length) (hl : ∀ x ∈ l, x < 4294967296) {s : Nat} (hs : c + 10 * l.getD k 0 = s) (hb : base ≤ g) :
    ADAt base w (wr.setCell ⟨g, k, none⟩ (.int .u32 ((s % 4294967296 : Nat) : Int))) (.slice (some ⟨g, 0, none⟩) l.length cap) l d (k + 1) (s / 4294967296) (done ++ [s % 4294967296]) := by
  have a1 := getD_lt hl k
  have hc := h.carry
  refine ⟨?_, by simp [h.len], ?_, by omega, ?_, h.below.setCell hb _⟩
  · have e := (h.row.stored k (.int .u32 ((s % 4294967296 : Nat) : Int))).1
    have hd : l.drop k = l.getD k 0 :: l.drop (k + 1) := by
      rw [List.drop_eq_getElem_cons hk]; simp [List.getD, hk]
    have hs2 := set_done done (l.getD k 0) (s % 4294967296) (l.drop (k + 1))
    rw [h.len] at hs2
    rw [hd] at e
    rw [show (ws (done ++ l.getD k 0 :: l.drop (k + 1))).set k (.int .u32 ((s % 4294967296 : Nat) : Int)) = ws (done ++ [s % 4294967296] ++ l.drop (k + 1)) by
      rw [List.append_assoc, List.singleton_append, ← hs2]; simp [ws, List.map_set]] at e
    exact e
  · intro x hx
    rcases List.mem_append.1 hx with hx | hx
    · exact h.lt x hx
    · rw [List.mem_singleton] at hx; omega
  · subst hs
    rw [val_snoc, h.len, val_take_succ, Nat.pow_succ]
    exact ten_step h.eq
theorem ADAt.start {base : Nat} {w : World} {v : Value} {l : List Nat} {d : Nat} (h : w.ownsRow base 69 1 v l.length (ws l)) (hd : d ≤ 9) : ADAt base w w v l d 0 d [] :=
  ⟨by simpa using h, rfl, by simp, hd, by simp [val], Below.refl _ _⟩
theorem ADAt.done {base : Nat} {w wr : World} {v : Value} {l : List Nat} {d c : Nat} {done : List Nat} (h : ADAt base w wr v l d l.length c done) : wr.ownsRow base 69 1 v l.length (ws done) ∧ val done + 4294967296 ^ done.length * c = 10 * val l + d := by
  have h1 := h.row
  have h2 := h.eq
  rw [List.drop_length, List.append_nil] at h1
  rw [List.take_length] at h2
  rw [h.len]
  exact ⟨h1, h2⟩
theorem ahead_base2 {wr : World} {base n : Nat} {v : Value} {l : List Nat} (h : wr.ownsRow base 69 1 v n (ws l)) (o : Obj) : (wr.alloc o).ownsRow base 69 1 v n (ws l) := h.alloc o
theorem ahead_base {wr : World} {base : Nat} {v : Value} {l : List Nat} (h : wr.ownsRow base 69 1 v l.length (ws l)) (o : Obj) : (wr.alloc o).ownsRow base 69 1 v l.length (ws l) := h.alloc o

/-- What appendDigit leaves. -/
def Digited (base : Nat) (l : List Nat) (d : Nat) (w : World) (e : Ending) (w' : World) : Prop := ∃ (v' : Value) (l' : List Nat), e = .returned v' ∧ w'.ownsRow base 69 1 v' l'.length (ws l') ∧ (∀ x ∈ l', x < 4294967296) ∧ val l' = 10 * val l + d ∧ l'.length ≤ l.length + 1 ∧ Below base w w'

end Go.Proofs.YtccndofafljaaaaGreatDoor
