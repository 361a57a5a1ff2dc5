/- The reference: add, sub.
   The reference: sub.
   The reference: Abs. -/
import Derived.Test.YtccndofafljaaaaGreatDoorRefB
import Derived.Test.YtccndofafljaaaaGreatDoorRefA
import Derived.Test.YtccndofafljaaaaGreatDoorMagn

set_option linter.unusedVariables false
set_option linter.unusedSimpArgs false

namespace Go.Proofs.YtccndofafljaaaaGreatDoor
open Go Go.RowKit Num

/-- A slice of words that the call itself appends to. -/
structure OutAt (w wr : World) (v : Value) (done : List Nat) : Prop where
  row : wr.ownsRow w.heap.size 69 1 v done.length (ws done)
  below : Below w.heap.size w wr
theorem OutAt.start (w : World) : OutAt w w (.slice none 0 0) [] := ⟨World.ownsRow_nil _ _ _ _, Below.refl _ _⟩
theorem OutAt.u32 {w wr : World} {v : Value} {done : List Nat} (h : OutAt w wr v done) (hl : ∀ x ∈ done, x < 4294967296) : U32 wr v done := by
  by_cases hv : v = .slice none 0 0
  · have : done.length = 0 := by
      rcases h.row.2 with ⟨_, h0⟩ | ⟨g', cap', cur, e, _⟩
      · exact h0
      · rw [hv] at e; cases e
    have hd := List.eq_nil_of_length_eq_zero this
    subst hv hd
    exact U32.nil none (Nat.zero_le _)
  · obtain ⟨g', cap', ex', rfl, _, ho, hc, hm⟩ := OwnX.of_row h.row hv
    exact ho.u32 hl hc hm
theorem OutAt.ahead {w wr : World} {v : Value} {done : List Nat} (h : OutAt w wr v done) (o : Obj) : (wr.alloc o).ownsRow w.heap.size 69 1 v done.length (ws done) := by
  refine h.row.kept (row := none) ⟨rfl, rfl, rfl, by simp, fun k hk _ => Below.heap_alloc _ _ _ hk⟩ ?_
  cases v.ownBlock
  · exact .inl rfl
  · exact .inr (by simp)
theorem OutAt.next {w wr w2 : World} {v v' : Value} {done : List Nat} {x : Nat} (h : OutAt w wr v done)
    (hrow : w2.ownsRow w.heap.size 69 1 v' (done.length + 1) (ws done ++ [.int .u32 (x : Int)])) (hgr : (wr.alloc (.cells #[.int .u32 (x : Int)] 69)).grownBy w2 v.ownBlock) : OutAt w w2 v' (done ++ [x]) := by
  refine ⟨?_, ?_⟩
  · rw [List.length_append, ws_append]
    exact hrow
  · exact (h.below.alloc h.below.size _).grown hgr (by have := h.below.size; simp; omega) (fun k hk => (h.row.lt k hk).1)
theorem OutAt.form {w wr : World} {v : Value} {done : List Nat} (h : OutAt w wr v done) : ∃ A c, v = .slice A done.length c := by
  rcases h.row.2 with ⟨rfl, h0⟩ | ⟨g', cap', cur, rfl, _⟩
  · exact ⟨none, 0, by rw [h0]⟩
  · exact ⟨_, _, rfl⟩

/-- What holds at the head of add's loop. -/
structure RAddAt (w wr : World) (l1 l2 : List Nat) (k c : Nat) (v : Value) (done : List Nat) : Prop where
  out : OutAt w wr v done
  len : done.length = k
  lt : ∀ x ∈ done, x < 4294967296
  carry : c < 2
  eq : val done + 4294967296 ^ k * c = val (l1.take k) + val (l2.take k)
theorem RAddAt.step {w wr w2 : World} {l1 l2 : List Nat} {k c : Nat} {v v' : Value} {done : List Nat} (h : RAddAt w wr l1 l2 k c v done) (h1 : ∀ x ∈ l1, x < 4294967296) (h2 : ∀ x ∈ l2, x < 4294967296) {s : Nat} (hs : c + l1.getD k 0 + l2.getD k 0 = s)
    (hrow : w2.ownsRow w.heap.size 69 1 v' (done.length + 1) (ws done ++ [.int .u32 ((s % 4294967296 : Nat) : Int)])) (hgr : (wr.alloc (.cells #[.int .u32 ((s % 4294967296 : Nat) : Int)] 69)).grownBy w2 v.ownBlock) :
    RAddAt w w2 l1 l2 (k + 1) (s / 4294967296) v' (done ++ [s % 4294967296]) := by
  have a1 := getD_lt h1 k
  have a2 := getD_lt h2 k
  have hc := h.carry
  refine ⟨h.out.next hrow hgr, by simp [h.len], ?_, by omega, ?_⟩
  · intro x hx
    rcases List.mem_append.1 hx with hx | hx
    · exact h.lt x hx
    · simp at hx; omega
  · subst hs
    rw [val_snoc, h.len, val_take_succ, val_take_succ, Nat.pow_succ]
    exact carry_step h.eq
theorem RAddAt.done {w wr : World} {l1 l2 : List Nat} {k : Nat} {v : Value} {done : List Nat} (h : RAddAt w wr l1 l2 k 0 v done) (h1 : l1.length ≤ k) (h2 : l2.length ≤ k) : U32 wr v done ∧ val done = val l1 + val l2 := by
  refine ⟨h.out.u32 h.lt, ?_⟩
  have e := h.eq
  rw [List.take_of_length_le h1, List.take_of_length_le h2] at e
  omega

theorem mod_word (s : Nat) : ((s % 4294967296 : Nat) : Int) = (s : Int) % 4294967296 := by omega

end Go.Proofs.YtccndofafljaaaaGreatDoor

namespace Go.Proofs.YtccndofafljaaaaGreatDoor
open Go Go.RowKit Num

/-- What holds at the head of sub's loop. -/
structure RSubAt (w wr : World) (l1 l2 : List Nat) (k b : Nat) (v : Value) (done : List Nat) : Prop where
  out : OutAt w wr v done
  len : done.length = k
  lt : ∀ x ∈ done, x < 4294967296
  carry : b < 2
  eq : val (l1.take k) + 4294967296 ^ k * b = val done + val (l2.take k)
theorem RSubAt.step {w wr w2 : World} {l1 l2 : List Nat} {k b : Nat} {v v' : Value} {done : List Nat} (h : RSubAt w wr l1 l2 k b v done) (h1 : ∀ x ∈ l1, x < 4294967296) (h2 : ∀ x ∈ l2, x < 4294967296) {p b' : Nat} (hp : p < 4294967296) (hb' : b' < 2) (hs : l1.getD k 0 + 4294967296 * b' = p + l2.getD k 0 + b)
    (hrow : w2.ownsRow w.heap.size 69 1 v' (done.length + 1) (ws done ++ [.int .u32 (p : Int)])) (hgr : (wr.alloc (.cells #[.int .u32 (p : Int)] 69)).grownBy w2 v.ownBlock) :
    RSubAt w w2 l1 l2 (k + 1) b' v' (done ++ [p]) := by
  refine ⟨h.out.next hrow hgr, by simp [h.len], ?_, hb', ?_⟩
  · intro x hx
    rcases List.mem_append.1 hx with hx | hx
    · exact h.lt x hx
    · simp at hx; omega
  · rw [val_snoc, h.len, val_take_succ, val_take_succ, Nat.pow_succ]
    have e := borrow_step (d := val done) (P := 4294967296 ^ k) (b := b) (a := val (l1.take k)) (c := val (l2.take k)) (x := l1.getD k 0) (y := l2.getD k 0) (b' := b') h.eq (by omega)
    rw [show l1.getD k 0 + 4294967296 * b' - l2.getD k 0 - b = p by omega] at e
    exact e
theorem RSubAt.done {w wr : World} {l1 l2 : List Nat} {b : Nat} {v : Value} {done : List Nat} (hs : RSubAt w wr l1 l2 l1.length b v done) (hle : l2.length ≤ l1.length) (hv : val l2 ≤ val l1) : U32 wr v done ∧ val done = val l1 - val l2 := by
  refine ⟨hs.out.u32 hs.lt, ?_⟩
  have e := hs.eq
  have t2 : l2.take l1.length = l2 := List.take_of_length_le (by omega)
  rw [List.take_length, t2] at e
  have hl := val_lt hs.lt
  rw [hs.len] at hl
  have hb := hs.carry
  rcases Nat.eq_zero_or_pos b with h0 | h0
  · rw [h0, Nat.mul_zero] at e; omega
  · have h1 : b = 1 := by omega
    rw [h1, Nat.mul_one] at e; omega

end Go.Proofs.YtccndofafljaaaaGreatDoor

namespace Go.Proofs.YtccndofafljaaaaGreatDoor
open Go Go.RowKit Num

end Go.Proofs.YtccndofafljaaaaGreatDoor
