/- Plain mathematics: numbers as lists of words of 32 bits.
   Slices of words in memory: what is known of a slice value of type []uint32.
   integer.trim
   integer.words, signed, number, length; cmp.Compare
   Arrays of words that a call makes and writes.
   Plain mathematics: Lehmer's steps of Euclid's algorithm. -/
import Derived.Test.YtccndofafljaaaaGreatDoorChecked
import Derived.WalkKit
import Derived.Deep.OwnRows
import Derived.Lib.Hide
import Derived.BigQuiet
import Derived.Deep.QuietTactic
import Derived.Outline
import Derived.Handy

set_option linter.unusedVariables false
set_option linter.unusedSimpArgs false

namespace Go.Proofs.YtccndofafljaaaaGreatDoor
namespace Num

/-- The number that a list of words stands for, the lowest word first. -/
def val : List Nat → Nat
  | [] => 0
  | x :: xs => x + 4294967296 * val xs

/-- The words of a number, without leading zeros. -/
def digs (n : Nat) : List Nat :=
  if h : n = 0 then [] else n % 4294967296 :: digs (n / 4294967296)
  termination_by n
  decreasing_by omega

theorem digs_zero : digs 0 = [] := by rw [digs]; simp
theorem digs_pos {n : Nat} (h : n ≠ 0) : digs n = n % 4294967296 :: digs (n / 4294967296) := by rw [digs]; simp [h]

theorem val_digs (n : Nat) : val (digs n) = n := by
  induction n using Nat.strongRecOn with
  | _ n ih =>
    by_cases h : n = 0
    · subst h; rw [digs_zero]; rfl
    · rw [digs_pos h, val, ih _ (by omega)]; omega

theorem digs_lt (n : Nat) : ∀ x ∈ digs n, x < 4294967296 := by
  induction n using Nat.strongRecOn with
  | _ n ih =>
    by_cases h : n = 0
    · subst h; rw [digs_zero]; simp
    · rw [digs_pos h]
      intro x hx
      rcases List.mem_cons.1 hx with rfl | hx
      · omega
      · exact ih _ (by omega) x hx

theorem val_append (a b : List Nat) : val (a ++ b) = val a + 4294967296 ^ a.length * val b := by
  induction a with
  | nil => simp [val]
  | cons x xs ih =>
    simp only [List.cons_append, val, ih, List.length_cons, Nat.pow_succ]
    rw [Nat.mul_add, Nat.add_assoc]
    congr 1
    congr 1
    rw [Nat.mul_comm (4294967296 ^ xs.length) 4294967296, Nat.mul_assoc]

theorem val_snoc (a : List Nat) (x : Nat) : val (a ++ [x]) = val a + 4294967296 ^ a.length * x := by
  rw [val_append]; simp [val]

theorem val_lt {l : List Nat} (h : ∀ x ∈ l, x < 4294967296) : val l < 4294967296 ^ l.length := by
  induction l with
  | nil => simp [val]
  | cons x xs ih =>
    have h1 := ih (fun y hy => h y (List.mem_cons_of_mem _ hy))
    have h2 := h x (List.mem_cons_self ..)
    simp only [val, List.length_cons, Nat.pow_succ]
    omega

theorem digs_val_cons {x : Nat} {xs : List Nat} (hx : x < 4294967296) (hne : x + 4294967296 * val xs ≠ 0) : digs (val (x :: xs)) = x :: digs (val xs) := by
  rw [val, digs_pos hne]
  rw [show (x + 4294967296 * val xs) % 4294967296 = x from by omega, show (x + 4294967296 * val xs) / 4294967296 = val xs from by omega]

/-- A list whose highest word is not zero is the one of its number. -/
theorem digs_val {l : List Nat} (h : ∀ x ∈ l, x < 4294967296) (hl : ∀ x, l.getLast? = some x → x ≠ 0) : digs (val l) = l := by
  induction l with
  | nil => simp [val, digs_zero]
  | cons x xs ih =>
    have hx := h x (List.mem_cons_self ..)
    have h' : ∀ y ∈ xs, y < 4294967296 := fun y hy => h y (List.mem_cons_of_mem _ hy)
    rcases xs with _ | ⟨y, ys⟩
    · have : x ≠ 0 := hl x (by simp)
      rw [digs_val_cons hx (by simp [val]; exact this)]
      simp [val, digs_zero]
    · have ih' := ih h' (fun z hz => hl z (by rw [List.getLast?_cons_cons]; exact hz))
      have hpos : val (y :: ys) ≠ 0 := by
        intro h0
        rw [h0, digs_zero] at ih'
        exact absurd ih' (by simp)
      rw [digs_val_cons hx (by omega), ih']

/-- A leading zero word does not count. -/
theorem val_snoc_zero (l : List Nat) : val (l ++ [0]) = val l := by rw [val_snoc]; simp

theorem digs_getLast {n x : Nat} (h : (digs n).getLast? = some x) : x ≠ 0 := by
  induction n using Nat.strongRecOn with
  | _ n ih =>
    by_cases hn : n = 0
    · subst hn; rw [digs_zero] at h; simp at h
    · rw [digs_pos hn] at h
      by_cases h2 : n / 4294967296 = 0
      · rw [h2, digs_zero] at h
        simp at h
        omega
      · rw [digs_pos h2, List.getLast?_cons_cons, ← digs_pos h2] at h
        exact ih _ (by omega) h

theorem digs_length_le {n k : Nat} (h : n < 4294967296 ^ k) : (digs n).length ≤ k := by
  induction k generalizing n with
  | zero =>
    have : n = 0 := by simp at h; exact h
    subst this; rw [digs_zero]; simp
  | succ k ih =>
    by_cases hn : n = 0
    · subst hn; rw [digs_zero]; simp
    · rw [digs_pos hn, List.length_cons]
      have : n / 4294967296 < 4294967296 ^ k := by
        rw [Nat.pow_succ] at h
        exact Nat.div_lt_of_lt_mul (by rw [Nat.mul_comm]; exact h)
      have := ih this
      omega

theorem pow_le_of_length {n k : Nat} (h : k < (digs n).length) : 4294967296 ^ k ≤ n := by
  rcases Nat.lt_or_ge n (4294967296 ^ k) with h1 | h1
  · have := digs_length_le h1; omega
  · exact h1

theorem lt_pow_length (n : Nat) : n < 4294967296 ^ (digs n).length := by
  have := val_lt (digs_lt n)
  rwa [val_digs] at this

theorem digs_eq_nil {n : Nat} : digs n = [] ↔ n = 0 := by
  constructor
  · intro h
    have := val_digs n
    rw [h] at this
    exact this.symm
  · rintro rfl; exact digs_zero

theorem digs_inj {a b : Nat} (h : digs a = digs b) : a = b := by
  have h1 := val_digs a
  rw [h, val_digs] at h1
  exact h1.symm

theorem digs_one {n : Nat} (h0 : n ≠ 0) (h : n < 4294967296) : digs n = [n] := by
  rw [digs_pos h0, show n % 4294967296 = n from by omega, show n / 4294967296 = 0 from by omega, digs_zero]

theorem digs_two {n : Nat} (h0 : 4294967296 ≤ n) (h : n < 18446744073709551616) : digs n = [n % 4294967296, n / 4294967296] := by
  rw [digs_pos (by omega), digs_one (by omega) (by omega)]

theorem length_mono {a b : Nat} (h : a ≤ b) : (digs a).length ≤ (digs b).length :=
  digs_length_le (Nat.lt_of_le_of_lt h (lt_pow_length b))

end Num
end Go.Proofs.YtccndofafljaaaaGreatDoor

namespace Go.Proofs.YtccndofafljaaaaGreatDoor
open Go Go.RowKit Num

def ws (l : List Nat) : List Value := l.map fun (n : Nat) => .int .u32 (n : Int)

theorem ws_length (l : List Nat) : (ws l).length = l.length := by simp [ws]
theorem ws_getElem? (l : List Nat) (i : Nat) : (ws l)[i]? = (l[i]?).map fun (n : Nat) => Value.int .u32 (n : Int) := by simp [ws]
theorem ws_append (a b : List Nat) : ws (a ++ b) = ws a ++ ws b := by simp [ws]
theorem ws_oneCell (l : List Nat) : ∀ u ∈ ws l, u.oneCell' = true := by
  intro u hu
  simp [ws] at hu
  obtain ⟨n, _, rfl⟩ := hu
  rfl

/-- The slice value v reads as the words l in the world w. -/
structure U32 (w : World) (v : Value) (l : List Nat) : Prop where
  lt : ∀ x ∈ l, x < 4294967296
  form : ∃ A cap, v = .slice A l.length cap ∧ l.length ≤ cap ∧ cap ≤ maxLen ∧
    (l ≠ [] → ∃ b off, A = some ⟨b, off, none⟩ ∧ b < w.heap.size ∧ ∀ i, i < l.length → w.cell? ⟨b, off + i, none⟩ = some (.int .u32 (l.getD i 0 : Nat)))

/-- The slice value v reads as the words of the number n. -/
def Mag (w : World) (v : Value) (n : Nat) : Prop := U32 w v (digs n)

theorem U32.below {w w' : World} {v : Value} {l : List Nat} (h : U32 w v l) (hb : Below w.heap.size w w') : U32 w' v l := by
  refine ⟨h.lt, ?_⟩
  obtain ⟨A, cap, rfl, h1, h2, h3⟩ := h.form
  refine ⟨A, cap, rfl, h1, h2, fun hne => ?_⟩
  obtain ⟨b, off, rfl, hlt, hc⟩ := h3 hne
  exact ⟨b, off, rfl, Nat.lt_of_lt_of_le hlt hb.size, fun i hi => (hb.cell (p := ⟨b, off + i, none⟩) hlt).trans (hc i hi)⟩
theorem Mag.below {w w' : World} {v : Value} {n : Nat} (h : Mag w v n) (hb : Below w.heap.size w w') : Mag w' v n := U32.below h hb

theorem bcell {W w1 : World} (hb : Below W.heap.size W w1) : (∀ b o, b < W.heap.size → w1.cell? ⟨b, o, none⟩ = W.cell? ⟨b, o, none⟩) ∧ (∀ b o, b < W.heap.size → w1.frozen? ⟨b, o, none⟩ = W.frozen? ⟨b, o, none⟩) :=
  ⟨fun b o h => hb.cell (p := ⟨b, o, none⟩) h, fun b o h => hb.frozen (p := ⟨b, o, none⟩) h⟩

/-- The two forms of a slice of words: without elements, or at a place. -/
theorem U32.cases {w : World} {v : Value} {l : List Nat} (h : U32 w v l) :
    (l = [] ∧ ∃ A cap, v = .slice A 0 cap ∧ cap ≤ maxLen) ∨
    (0 < l.length ∧ ∃ b off cap, v = .slice (some ⟨b, off, none⟩) l.length cap ∧ l.length ≤ cap ∧ cap ≤ maxLen ∧ b < w.heap.size ∧ ∀ i, i < l.length → w.cell? ⟨b, off + i, none⟩ = some (.int .u32 (l.getD i 0 : Nat))) := by
  obtain ⟨A, cap, rfl, h1, h2, h3⟩ := h.form
  rcases l with _ | ⟨x, xs⟩
  · exact .inl ⟨rfl, A, cap, rfl, h2⟩
  · obtain ⟨b, off, rfl, hlt, hc⟩ := h3 (by simp)
    exact .inr ⟨by simp, b, off, cap, rfl, h1, h2, hlt, hc⟩

theorem U32.nil {w : World} (A : Option Addr) {cap : Nat} (hc : cap ≤ maxLen) : U32 w (.slice A 0 cap) [] :=
  ⟨by simp, A, cap, rfl, Nat.zero_le _, hc, fun h => absurd rfl h⟩

theorem U32.of_own {w : World} {base : Nat} {v : Value} {l : List Nat} (hlt : ∀ x ∈ l, x < 4294967296) (h : w.ownsRow base 69 1 v l.length (ws l)) : U32 w v l := by
  refine ⟨hlt, ?_⟩
  rcases h.2 with ⟨rfl, hx⟩ | ⟨g, cap, cur, rfl, hg, hh, hnc, hcm, hcs, htake⟩
  · have hl : l = [] := List.eq_nil_of_length_eq_zero hx
    subst hl
    exact ⟨none, 0, rfl, Nat.le_refl _, Nat.zero_le _, fun h => absurd rfl h⟩
  · refine ⟨some ⟨g, 0, none⟩, cap, rfl, hnc, hcm, fun _ => ⟨g, 0, rfl, ?_, fun i hi => ?_⟩⟩
    · rcases Nat.lt_or_ge g w.heap.size with h1 | h1
      · exact h1
      · rw [Array.getElem?_eq_none h1] at hh; cases hh
    · have := World.ownsRow.cellAt (g := g) (cap := cap) h i (by omega)
      rw [Nat.zero_add, this, ws_getElem?]
      simp [hi]

theorem info32 : (Tryz.prog.info? 69).map (fun i => (i.zero, i.size, i.bytes)) = some (some (.int .u32 0), 1, 4) := by kernel_rfl

end Go.Proofs.YtccndofafljaaaaGreatDoor

namespace Go.Proofs.YtccndofafljaaaaGreatDoor
open Go Go.RowKit Num

theorem val_take_zero {l : List Nat} {k : Nat} (hk : k < l.length) (h0 : l.getD k 0 = 0) : val (l.take k) = val (l.take (k + 1)) := by
  rw [List.take_succ_eq_append_getElem hk]
  have : l[k] = 0 := by rw [← h0]; simp [List.getD, hk]
  rw [this, val_snoc_zero]

theorem take_last {l : List Nat} {k : Nat} (hk : k < l.length) : (l.take (k + 1)).getLast? = some (l.getD k 0) := by
  rw [List.take_succ_eq_append_getElem hk, List.getLast?_append]
  simp [List.getD, hk]

/-- A cut at the front, whose highest word is not zero, reads as the number. -/
theorem mag_of_take {w : World} {l : List Nat} {b off cap k : Nat} (hlt : ∀ x ∈ l, x < 4294967296) (hk : k ≤ l.length) (hlc : l.length ≤ cap) (hcap : cap ≤ maxLen) (hb : b < w.heap.size)
    (hc : ∀ i, i < l.length → w.cell? ⟨b, off + i, none⟩ = some (.int .u32 (l.getD i 0 : Nat))) (hv : val (l.take k) = val l) (hl : ∀ j, k = j + 1 → l.getD j 0 ≠ 0) :
    Mag w (.slice (some ⟨b, off, none⟩) k cap) (val l) := by
  have hlt' : ∀ x ∈ l.take k, x < 4294967296 := fun x hx => hlt x (List.mem_of_mem_take hx)
  have hd : digs (val l) = l.take k := by
    rw [← hv]
    refine digs_val hlt' fun x hx => ?_
    rcases k with _ | j
    · simp at hx
    · rw [take_last (by omega)] at hx
      injection hx with hx
      rw [← hx]
      exact hl j rfl
  unfold Mag
  rw [hd]
  have hlen : (l.take k).length = k := by simp; omega
  refine ⟨hlt', some ⟨b, off, none⟩, cap, by rw [hlen], by omega, hcap, fun _ => ⟨b, off, rfl, hb, fun i hi => ?_⟩⟩
  rw [hc i (by omega)]
  congr 2
  rw [hlen] at hi
  simp [List.getD, hi]

theorem mag_take {W : World} {l : List Nat} {b off cap k : Nat} (h : U32 W (.slice (some ⟨b, off, none⟩) l.length cap) l) (hpos : 0 < l.length) (hk : k ≤ l.length)
    (hv : val (l.take k) = val l) (hl : ∀ j, k = j + 1 → l.getD j 0 ≠ 0) : Mag W (.slice (some ⟨b, off, none⟩) k cap) (val l) := by
  rcases h.cases with ⟨rfl, _⟩ | ⟨_, b', off', cap', e, h1, h2, h3, h4⟩
  · simp at hpos
  · injection e with e1 e2 e3
    injection e1 with e1
    injection e1 with e1 e4
    subst e1 e3 e4
    exact mag_of_take h.lt hk h1 h2 h3 h4 hv hl

theorem Mag.length {w : World} {A : Option Addr} {k cap n : Nat} (h : Mag w (.slice A k cap) n) : k = (digs n).length := by
  obtain ⟨A', cap', e, -⟩ := h.form
  injection e
theorem digs_front {l : List Nat} (h : ∀ x ∈ l, x < 4294967296) : digs (val l) = l.take (digs (val l)).length := by
  induction l with
  | nil => simp [val, digs_zero]
  | cons x xs ih =>
    have hx := h x (List.mem_cons_self ..)
    have ih' := ih (fun y hy => h y (List.mem_cons_of_mem _ hy))
    by_cases h0 : x + 4294967296 * val xs = 0
    · rw [val, h0, digs_zero]; rfl
    · rw [digs_val_cons hx h0, List.length_cons, List.take_succ_cons, ← ih']

/-- v' is the front part of v, of the length k. -/
def Front (v v' : Value) (k : Nat) : Prop := ∀ A n cap, v = .slice A n cap → v' = .slice A k cap
theorem slice_len {A A' : Option Addr} {n cap n' cap' : Nat} (e : Value.slice A n cap = .slice A' n' cap') (k : Nat) :
    Value.slice A k cap = .slice A' k cap' := by
  injection e with e1 e2 e3
  rw [e1, e3]

set_option maxHeartbeats 400000 in
theorem trim_any (v : Value) (l : List Nat) (w : World) (h : U32 w v l) :
    Calls Tryz.prog 67 #[v] w fun e w' => ∃ v', e = .returned v' ∧ w = w' ∧ (∀ W, U32 W v l → Mag W v' (val l)) ∧ Front v v' (digs (val l)).length := by
  rcases h.cases with ⟨rfl, A, cap, rfl, hcap⟩ | ⟨hpos, b, off, cap, rfl, hlc, hcap, hb, hc⟩
  · have hm : ∀ A W, Mag W (.slice A 0 cap) (val []) := fun A W => by unfold Mag; rw [val, digs_zero]; exact U32.nil A hcap
    unfold maxLen at hcap
    go_enter Tryz.func67, Tryz.ntmps67
    go_wp2
    go_loop [3] (fun i => i = .int .i64 0) (fun _ => 0)
    case atStart => rfl
    case round =>
      subst hrel
      go_wp2
      go_ret
      refine ⟨_, rfl, rfl, fun W _ => hm _ W, fun A' n' cap' e => ?_⟩
      rw [val, digs_zero]
      exact slice_len e 0
  · have hlt := h.lt
    have hcap' := hcap
    unfold maxLen at hcap
    go_enter Tryz.func67, Tryz.ntmps67
    go_wp2
    go_loop [3] (fun i => ∃ k : Nat, k ≤ l.length ∧ i = .int .i64 k ∧ val (l.take k) = val l) (fun i => (intOf i).toNat)
    case atStart => exact ⟨l.length, Nat.le_refl _, rfl, by rw [List.take_length]⟩
    case round =>
      obtain ⟨k, hk, rfl, hv⟩ := hrel
      have HV := Lib.hid hv
      clear hv
      rcases k with _ | k
      · go_wp2
        go_ret
        have hfin := mag_take h hpos hk HV.out (fun j hj => by omega)
        refine ⟨_, rfl, rfl, fun W hW => mag_take hW hpos hk HV.out (fun j hj => by omega), fun A' n' cap' e => ?_⟩
        rw [← hfin.length]
        exact slice_len e _
      · have hck := hc k (by omega)
        go_wp2
        · have h0 : ((l[k]?.getD 0 : Nat) : Int) = 0 := beq_iff_eq.1 (by assumption)
          go_round
          case rel => exact ⟨k, by omega, rfl, (val_take_zero (by omega) (by simp only [List.getD_eq_getElem?_getD]; omega)).trans HV.out⟩
          case measure => simp [intOf]
        · have h0 : ((l[k]?.getD 0 : Nat) : Int) ≠ 0 := beq_eq_false_iff_ne.1 (by assumption)
          go_ret
          have hq : ∀ j, k + 1 = j + 1 → l.getD j 0 ≠ 0 := fun j hj => by
            obtain rfl : j = k := by omega
            simp only [List.getD_eq_getElem?_getD]; omega
          have hfin := mag_take h hpos hk HV.out hq
          refine ⟨_, rfl, rfl, fun W hW => mag_take hW hpos hk HV.out hq, fun A' n' cap' e => ?_⟩
          rw [← hfin.length]
          exact slice_len e _

/-- What trim returns. -/
def trimV (v : Value) (n : Nat) : Value := match v with
  | .slice A _ cap => .slice A (digs n).length cap
  | v => v

theorem trim_eq (v : Value) (l : List Nat) (w : World) (h : U32 w v l) :
    Calls Tryz.prog 67 #[v] w fun e w' => e = .returned (trimV v (val l)) ∧ w' = w := by
  refine (trim_any v l w h).mono fun e w' hh => ?_
  obtain ⟨v', rfl, rfl, _, hf⟩ := hh
  obtain ⟨A, cap, rfl, _⟩ := h.form
  rw [hf _ _ _ rfl]
  exact ⟨rfl, rfl⟩
theorem trimV_mag {w : World} {v : Value} {l : List Nat} (h : U32 w v l) : Mag w (trimV v (val l)) (val l) := by
  unfold Mag
  rcases h.cases with ⟨rfl, A, cap, rfl, hcap⟩ | ⟨hpos, b, off, cap, rfl, hlc, hcap, hb, hc⟩
  · unfold trimV
    rw [val, digs_zero]
    exact U32.nil A hcap
  · unfold trimV
    have hd := digs_front h.lt
    have hle : (digs (val l)).length ≤ l.length := digs_length_le (val_lt h.lt)
    refine ⟨digs_lt _, _, cap, rfl, by omega, hcap, fun _ => ⟨b, off, rfl, hb, fun i hi => ?_⟩⟩
    rw [hc i (by omega), hd]
    congr 2
    simp [List.getD, hi, show i < l.length from by omega]
end Go.Proofs.YtccndofafljaaaaGreatDoor

namespace Go.Proofs.YtccndofafljaaaaGreatDoor
open Go Go.RowKit Num

theorem U32.lit (w : World) (l : List Nat) (cs : Array Value) (T : TypeId) (hlt : ∀ x ∈ l, x < 4294967296) (hm : l.length ≤ maxLen) (hcs : cs.toList = ws l) :
    U32 (w.alloc (.cells cs T)) (.slice (some ⟨w.heap.size, 0, none⟩) l.length l.length) l := by
  refine ⟨hlt, some ⟨w.heap.size, 0, none⟩, l.length, rfl, Nat.le_refl _, hm, fun _ => ⟨w.heap.size, 0, rfl, by simp, fun i hi => ?_⟩⟩
  rw [cell_of_row (w.alloc (.cells cs T)) w.heap.size (0 + i) cs T (0, 0) (heap_alloc_new w _), Nat.zero_add, ← Array.getElem?_toList, hcs, ws_getElem?]
  simp [hi]

set_option maxHeartbeats 400000 in
theorem words_any (n : Nat) (hn : n < 18446744073709551616) (w : World) :
    Calls Tryz.prog 64 #[.int .u64 n] w fun e w' => ∃ v', e = .returned v' ∧ Mag w' v' n ∧ Below w.heap.size w w' := by
  have hv : val [n % 4294967296, n / 4294967296] = n := by simp only [val]; omega
  have hU : U32 (w.alloc (.cells #[.int .u32 (n % 4294967296 : Nat), .int .u32 (n / 4294967296 : Nat)] 69)) (.slice (some ⟨w.heap.size, 0, none⟩) 2 2) [n % 4294967296, n / 4294967296] :=
    U32.lit w [n % 4294967296, n / 4294967296] _ _ (by intro x hx; simp at hx; omega) (by simp [maxLen]) (by simp [ws])
  have HV := Lib.hid hv
  clear hv
  go_enter Tryz.func64, Tryz.ntmps64
  go_wp2_with fail
  refine (trim_any _ _ _ hU).mono ?_
  rintro e w' ⟨v', rfl, rfl, hm, -⟩
  have hm1 := hm _ hU
  rw [HV.out] at hm1
  clear hm
  go_wp2
  go_ret
  exact ⟨_, rfl, hm1, (Below.refl _ _).alloc (Nat.le_refl _) _⟩

set_option maxHeartbeats 400000 in
theorem signed_any (s : Bool) (v : Value) (l : List Nat) (w : World) (h : U32 w v l) :
    Calls Tryz.prog 63 #[.bool s, v] w fun e w' => ∃ v', e = .returned (.agg #[.bool (s && decide (val l ≠ 0)), v']) ∧ Mag w' v' (val l) ∧ Below w.heap.size w w' := by
  have hU := h.below ((Below.refl _ _).alloc (Nat.le_refl _) (Obj.cells #[Value.bool false, Value.slice none 0 0] 24))
  go_enter Tryz.func63, Tryz.ntmps63
  go_wp2_with fail
  refine (trim_any _ _ _ hU).mono ?_
  rintro e w' ⟨v', rfl, rfl, hm, -⟩
  have hm' := hm w h
  clear hm
  obtain ⟨A, cap, rfl, h1, h2, -⟩ := id hm'.form
  rcases Nat.eq_zero_or_pos (digs (val l)).length with h0 | h0
  · have hz : digs (val l) = [] := List.eq_nil_of_length_eq_zero h0
    have hz' := digs_eq_nil.1 hz
    rw [hz', digs_zero]
    have HZ := Lib.hid hz'
    clear h0 hz hz' h1 hm'
    simp only [List.length_nil]
    go_wp2
    go_returns
    exact ⟨.slice none 0 0, by simp [HZ.out], by unfold Mag; rw [HZ.out, digs_zero]; exact U32.nil none (Nat.zero_le _), by go_grown⟩
  · have h0' : val l ≠ 0 := by
      intro h; rw [h, digs_zero] at h0; simp at h0
    go_wp2
    go_returns
    exact ⟨_, by simp [h0'], hm'.below (by go_grown), by go_grown⟩

/-- -1, 0 or 1, as a is less than, equal to or greater than b. -/
def cmpI (a b : Int) : Int := if a < b then -1 else if b < a then 1 else 0

theorem cmp_int (a b : Int) (w : World) :
    Calls Tryz.prog 81 #[.int .i64 a, .int .i64 b] w fun e w' => e = .returned (.int .i64 (cmpI a b)) ∧ w' = w := by
  unfold cmpI
  by_cases h1 : a < b
  · go_enter Tryz.func81, Tryz.ntmps81
    go_wp2
    go_ret
    exact ⟨by simp [h1], rfl⟩
  · by_cases h2 : b < a
    · go_enter Tryz.func81, Tryz.ntmps81
      go_wp2
      go_ret
      exact ⟨by simp [h1, h2], rfl⟩
    · go_enter Tryz.func81, Tryz.ntmps81
      go_wp2
      go_ret
      exact ⟨by simp [h1, h2], rfl⟩

theorem cmp_u32 (a b : Int) (w : World) :
    Calls Tryz.prog 82 #[.int .u32 a, .int .u32 b] w fun e w' => e = .returned (.int .i64 (cmpI a b)) ∧ w' = w := by
  unfold cmpI
  by_cases h1 : a < b
  · go_enter Tryz.func82, Tryz.ntmps82
    go_wp2
    go_ret
    exact ⟨by simp [h1], rfl⟩
  · by_cases h2 : b < a
    · go_enter Tryz.func82, Tryz.ntmps82
      go_wp2
      go_ret
      exact ⟨by simp [h1, h2], rfl⟩
    · go_enter Tryz.func82, Tryz.ntmps82
      go_wp2
      go_ret
      exact ⟨by simp [h1, h2], rfl⟩

theorem ret_int {k : IntKind} {a b : Int} (h : a = b) : Ending.returned (.int k a) = .returned (.int k b) := by rw [h]
theorem or_zero64 (n : Nat) (hn : n < 18446744073709551616) : bits .or .u64 0 (n : Int) = n := by
  have := u64_or_nat 0 n (by omega) hn
  simpa using this
theorem or_zero64' (n : Int) (h0 : 0 ≤ n) (hn : n < 18446744073709551616) : bits .or .u64 0 n = n := by
  obtain ⟨m, rfl⟩ := Int.eq_ofNat_of_zero_le h0
  exact or_zero64 m (by omega)
theorem or_join64 (lo hi : Int) (h0 : 0 ≤ lo) (h1 : lo < 4294967296) (h2 : 0 ≤ hi) (h3 : hi < 4294967296) : bits .or .u64 lo (hi * 4294967296) = lo + hi * 4294967296 := by
  obtain ⟨a, rfl⟩ := Int.eq_ofNat_of_zero_le h0
  obtain ⟨b, rfl⟩ := Int.eq_ofNat_of_zero_le h2
  have e := u64_or_nat a (b * 4294967296) (by omega) (by omega)
  rw [Nat.or_comm, nat_join 32 (b * 4294967296) a (by omega) (by omega)] at e
  rw [show ((b : Int) * 4294967296) = ((b * 4294967296 : Nat) : Int) from by omega, e]
  omega

theorem number_any (v : Value) (n : Nat) (hn : n < 18446744073709551616) (w : World) (h : Mag w v n) :
    Calls Tryz.prog 93 #[v] w fun e w' => e = .returned (.int .u64 n) ∧ w = w' := by
  rcases Nat.lt_or_ge n 4294967296 with h1 | h1
  · rcases Nat.eq_zero_or_pos n with h0 | h0
    · subst h0
      unfold Mag at h
      rw [digs_zero] at h
      obtain ⟨A, cap, rfl, -, -, -⟩ := h.form
      go_enter Tryz.func93, Tryz.ntmps93
      go_wp2
      go_rounds 1
      go_ret
      exact ⟨rfl, rfl⟩
    · unfold Mag at h
      rw [digs_one (by omega) (by omega)] at h
      obtain ⟨A, cap, rfl, -, -, h3⟩ := h.form
      obtain ⟨b, off, rfl, hb, hc⟩ := h3 (by simp)
      have hc0 := hc 0 (by simp)
      clear hc h3
      simp only [List.getD_cons_zero, Nat.add_zero] at hc0
      simp only [List.length_cons, List.length_nil]
      go_enter Tryz.func93, Tryz.ntmps93
      go_wp2
      go_rounds 2
      go_ret
      exact ⟨ret_int (or_zero64 n hn), rfl⟩
  · unfold Mag at h
    rw [digs_two (by omega) (by omega)] at h
    obtain ⟨A, cap, rfl, -, -, h3⟩ := h.form
    obtain ⟨b, off, rfl, hb, hc⟩ := h3 (by simp)
    have hc0 := hc 0 (by simp)
    have hc1 := hc 1 (by simp)
    clear hc h3
    simp only [List.getD_cons_zero, List.getD_cons_succ, Nat.add_zero] at hc0 hc1
    simp only [List.length_cons, List.length_nil]
    go_enter Tryz.func93, Tryz.ntmps93
    go_wp2
    go_rounds 3
    go_ret
    exact ⟨ret_int (by rw [or_zero64' _ (by omega) (by omega), or_join64 _ _ (by omega) (by omega) (by omega) (by omega)]; omega), rfl⟩
end Go.Proofs.YtccndofafljaaaaGreatDoor

namespace Go.Proofs.YtccndofafljaaaaGreatDoor
open Go Go.RowKit Num

/-- Block g is just the words l, none frozen. -/
def Own (w : World) (g : Nat) (l : List Nat) : Prop := w.heap[g]? = some (.cells (ws l).toArray 69 (0, 0))

section
variable {w w' : World} {g : Nat} {l : List Nat}

theorem Own.lt (h : Own w g l) : g < w.heap.size := by
  rcases Nat.lt_or_ge g w.heap.size with hlt | hge
  · exact hlt
  · unfold Own at h; rw [Array.getElem?_eq_none hge] at h; cases h
theorem Own.cell (h : Own w g l) {i : Nat} (hi : i < l.length) : w.cell? ⟨g, i, none⟩ = some (.int .u32 (l.getD i 0 : Nat)) := by
  rw [cell_of_row w g i _ _ (0, 0) h]
  simp only [List.getElem?_toArray, ws_getElem?]
  simp [hi]
theorem Own.frozen (h : Own w g l) (i : Nat) : w.frozen? ⟨g, i, none⟩ = false := frozen_of_row w g i _ _ h
theorem Own.drew (h : Own w g l) : Own w.drew g l := h
theorem Own.drewN (h : Own w g l) (n : Nat) : Own (w.drewN n) g l := h
theorem Own.below {B : Nat} (h : Own w g l) (hb : Below B w w') (hg : g < B) : Own w' g l := (hb.block g hg).trans h
theorem Own.alloc (h : Own w g l) (o : Obj) : Own (w.alloc o) g l := (Below.heap_alloc w o g h.lt).trans h
theorem Own.other (h : Own w g l) {a : Addr} (hne : g ≠ a.block) (v : Value) : Own (w.setCell a v) g l := (heap_setCell_other w a g v hne).trans h
theorem Own.grown {row : Option Nat} (h : Own w g l) (hg : w.grownBy w' row) (hne : some g ≠ row) : Own w' g l := (hg.block g h.lt hne).trans h
theorem Own.set (h : Own w g l) (i x : Nat) : Own (w.setCell ⟨g, i, none⟩ (.int .u32 (x : Int))) g (l.set i x) := by
  unfold Own
  rw [heap_setCell_same w g i _ _ _ h]
  congr 2
  simp [ws, List.map_set]
theorem Own.new (w : World) (l : List Nat) : Own (w.alloc (.cells (ws l).toArray 69)) w.heap.size l := heap_alloc_new w _
theorem Own.u32 (h : Own w g l) (hlt : ∀ x ∈ l, x < 4294967296) (hm : l.length ≤ maxLen) : U32 w (.slice (some ⟨g, 0, none⟩) l.length l.length) l :=
  ⟨hlt, _, _, rfl, Nat.le_refl _, hm, fun _ => ⟨g, 0, rfl, h.lt, fun i hi => by rw [Nat.zero_add]; exact h.cell hi⟩⟩
/-- A part of a block. -/
theorem Own.part (h : Own w g l) (hlt : ∀ x ∈ l, x < 4294967296) {off n cap : Nat} (hn : off + n ≤ l.length) (hc : n ≤ cap) (hm : cap ≤ maxLen) :
    U32 w (.slice (some ⟨g, off, none⟩) n cap) ((l.drop off).take n) := by
  have hlen : ((l.drop off).take n).length = n := by simp; omega
  refine ⟨fun x hx => hlt x (List.mem_of_mem_drop (List.mem_of_mem_take hx)), some ⟨g, off, none⟩, cap, by rw [hlen], by omega, hm, fun _ => ⟨g, off, rfl, h.lt, fun i hi => ?_⟩⟩
  rw [hlen] at hi
  rw [h.cell (by omega)]
  congr 2
  simp [List.getD, List.getElem?_take, hi, List.getElem?_drop]
end

theorem made_ws (n : Nat) : madeCells #[.int .u32 0] n = (ws (List.replicate n 0)).toArray := by
  apply Array.ext'
  rw [toList_madeCells_one]
  simp [ws]

/-- make([]uint32, n), for whatever the size is spelled. -/
theorem make_u32 {x : Int} (n : Nat) (hx : x = n) (hn : n ≤ 1048576) (w : World) :
    (Instr.makeSlice 22 (.int .i64 x) (.int .i64 x)).run Tryz.prog w = .ok (.slice (some ⟨w.heap.size, 0, none⟩) n n) (w.alloc (.cells (ws (List.replicate n 0)).toArray 69)) := by
  subst hx
  rw [← made_ws]
  exact run_make_row' _ _ _ 4 Tryz.underlying22 info32 rfl _ _ n (by omega) (by omega) w

theorem getD_lt {l : List Nat} (hlt : ∀ x ∈ l, x < 4294967296) (i : Nat) : l.getD i 0 < 4294967296 := by
  rw [List.getD_eq_getElem?_getD]
  rcases h : l[i]? with _ | x
  · simp
  · exact hlt x (List.mem_of_getElem? h)

theorem val_take_succ (l : List Nat) (k : Nat) : val (l.take (k + 1)) = val (l.take k) + 4294967296 ^ k * l.getD k 0 := by
  rcases Nat.lt_or_ge k l.length with h | h
  · rw [List.take_succ_eq_append_getElem h, val_snoc]
    have : (l.take k).length = k := by simp; omega
    rw [this]
    simp [List.getD, h]
  · rw [List.take_of_length_le (by omega), List.take_of_length_le h]
    simp [List.getD, List.getElem?_eq_none h]

theorem set_done (done : List Nat) (m x : Nat) (rest : List Nat) : (done ++ m :: rest).set done.length x = done ++ x :: rest := by
  rw [List.set_append_right _ _ (Nat.le_refl _)]
  simp
end Go.Proofs.YtccndofafljaaaaGreatDoor

namespace Go.Proofs.YtccndofafljaaaaGreatDoor
namespace Num
theorem step_core {P X Y a0 b0 aa ab ba bb x y t : Int} (ha0 : 0 ≤ a0) (ha1 : a0 < P) (hb0 : 0 ≤ b0) (hb1 : b0 < P)
    (s1 : 0 ≤ aa) (s2 : ab ≤ 0) (s3 : ba ≤ 0) (s4 : 0 ≤ bb) (e1 : X = bb * x - ab * y) (e2 : Y = aa * y - ba * x) (d1 : 0 < y + ba) (d2 : 0 < y + bb) (xab : 0 ≤ x + ab)
    (t1 : (x + aa) / (y + ba) = t) (t2 : (x + ab) / (y + bb) = t) (hX : X < 4611686018427387904) (hY : Y < 4611686018427387904) :
    0 ≤ t ∧ 0 ≤ aa - t * ba ∧ ab - t * bb ≤ 0 ∧ 0 ≤ (x - t * y) + (ab - t * bb) ∧ 0 ≤ x - t * y ∧ x - t * y < y ∧
    X = bb * (x - t * y) - (ab - t * bb) * y ∧ Y = (aa - t * ba) * y - ba * (x - t * y) ∧ aa - t * ba < 2147483648 ∧ -2147483648 < ab - t * bb ∧
    0 ≤ (x - t * y) * P + (aa - t * ba) * a0 + (ab - t * bb) * b0 ∧ (x - t * y) * P + (aa - t * ba) * a0 + (ab - t * bb) * b0 < y * P + ba * a0 + bb * b0 := by
  have ht : 0 ≤ t := by rw [← t2]; exact Int.ediv_nonneg xab (Int.le_of_lt d2)
  have m1 := Int.emod_nonneg (x + aa) (Int.ne_of_gt d1)
  have m2 := Int.emod_lt_of_pos (x + aa) d1
  have m3 := Int.mul_ediv_add_emod (x + aa) (y + ba)
  have n1 := Int.emod_nonneg (x + ab) (Int.ne_of_gt d2)
  have n2 := Int.emod_lt_of_pos (x + ab) d2
  have n3 := Int.mul_ediv_add_emod (x + ab) (y + bb)
  rw [t1] at m3
  rw [t2] at n3
  generalize (x + aa) % (y + ba) = r1 at *
  generalize (x + ab) % (y + bb) = r2 at *
  rw [Int.add_mul] at m3 n3
  have c1 : y * t = t * y := Int.mul_comm _ _
  have c2 : ba * t = t * ba := Int.mul_comm _ _
  have c3 : bb * t = t * bb := Int.mul_comm _ _
  rw [c1, c2] at m3
  rw [c1, c3] at n3
  have p1 : t * ba ≤ 0 := Int.mul_nonpos_of_nonneg_of_nonpos ht s3
  have p2 : 0 ≤ t * bb := Int.mul_nonneg ht s4
  obtain ⟨u, hu⟩ : ∃ u, aa - t * ba = u := ⟨_, rfl⟩
  obtain ⟨v, hv⟩ : ∃ v, -(ab - t * bb) = v := ⟨_, rfl⟩
  obtain ⟨z, hz⟩ : ∃ z, x - t * y = z := ⟨_, rfl⟩
  have hv' : ab - t * bb = -v := by omega
  rw [hu, hv', hz]
  have hu0 : 0 ≤ u := by omega
  have hv0 : 0 ≤ v := by omega
  have f1 : z + u = r1 := by omega
  have f2 : z - v = r2 := by omega
  have hz0 : 0 ≤ z := by omega
  have hzy : z < y := by omega
  have eX : X = bb * z + v * y := by
    rw [e1, ← hz, ← hv, Int.mul_sub, Int.neg_mul, Int.sub_mul]
    have : bb * (t * y) = t * bb * y := by rw [← Int.mul_assoc, Int.mul_comm bb t]
    omega
  have eY : Y = u * y - ba * z := by
    rw [e2, ← hu, ← hz, Int.mul_sub, Int.sub_mul]
    have : ba * (t * y) = t * ba * y := by rw [← Int.mul_assoc, Int.mul_comm ba t]
    omega
  have q1 : 0 ≤ bb * z := Int.mul_nonneg s4 hz0
  have q2 : ba * z ≤ 0 := Int.mul_nonpos_of_nonpos_of_nonneg s3 hz0
  have q3 : v * v ≤ v * y := Int.mul_le_mul_of_nonneg_left (by omega) hv0
  have q4 : u * u ≤ u * y := Int.mul_le_mul_of_nonneg_left (by omega) hu0
  have sq : ∀ k : Int, 0 ≤ k → k * k < 4611686018427387904 → k < 2147483648 := by
    intro k hk h
    rcases Int.lt_or_le k 2147483648 with h1 | h1
    · exact h1
    · have := Int.mul_le_mul h1 h1 (by omega) hk
      omega
  have hub := sq u hu0 (by omega)
  have hvb := sq v hv0 (by omega)
  have w1 : 0 ≤ u * a0 := Int.mul_nonneg hu0 ha0
  have w2 : v * b0 ≤ v * P := Int.mul_le_mul_of_nonneg_left (by omega) hv0
  have w3 : v * P ≤ z * P := Int.mul_le_mul_of_nonneg_right (by omega) (by omega)
  have w4 : (u - ba) * a0 ≤ (u - ba) * P := Int.mul_le_mul_of_nonneg_left (by omega) (by omega)
  have w5 : (z + u + 1) * P ≤ (y + ba) * P := Int.mul_le_mul_of_nonneg_right (by omega) (by omega)
  have w6 : 0 ≤ bb * b0 := Int.mul_nonneg s4 hb0
  have w7 : 0 ≤ v * b0 := Int.mul_nonneg hv0 hb0
  simp only [Int.add_mul, Int.sub_mul, Int.one_mul] at w4 w5
  refine ⟨ht, hu0, by omega, by omega, hz0, hzy, by rw [eX, Int.neg_mul]; omega, eY, hub, by omega, ?_, ?_⟩
  · rw [Int.neg_mul]; omega
  · rw [Int.neg_mul]; omega

theorem gcd_step (A B t : Int) : Int.gcd B (A - t * B) = Int.gcd A B := by
  rw [Int.gcd_comm A B]
  apply Nat.dvd_antisymm
  · apply Int.dvd_gcd
    · exact Int.gcd_dvd_left ..
    · have h1 := Int.gcd_dvd_left B (A - t * B)
      have h2 := Int.gcd_dvd_right B (A - t * B)
      have := Int.dvd_add h2 (Int.dvd_mul_of_dvd_right h1 (b := t))
      rwa [Int.sub_add_cancel] at this
  · apply Int.dvd_gcd
    · exact Int.gcd_dvd_left ..
    · have h1 := Int.gcd_dvd_left B A
      have h2 := Int.gcd_dvd_right B A
      exact Int.dvd_sub h2 (Int.dvd_mul_of_dvd_right h1 (b := t))

/-- What holds at the head of Lehmer's loop: a = X*P + a0, b = Y*P + b0. -/
structure Lehm (a b X Y aa ab ba bb x y : Int) : Prop where
  hx : x = aa * X + ab * Y
  hy : y = ba * X + bb * Y
  form : (0 ≤ aa ∧ ab ≤ 0 ∧ ba ≤ 0 ∧ 0 ≤ bb ∧ X = bb * x - ab * y ∧ Y = aa * y - ba * x) ∨ (aa ≤ 0 ∧ 0 ≤ ab ∧ 0 ≤ ba ∧ bb ≤ 0 ∧ Y = ba * x - aa * y ∧ X = ab * y - bb * x)
  x0 : 0 ≤ x
  x1 : x < 4611686018427387904
  y0 : 0 ≤ y
  y1 : y < 4611686018427387904
  xaa : 0 ≤ x + aa
  xab : 0 ≤ x + ab
  yba : 0 ≤ y + ba
  ybb : 0 ≤ y + bb
  aa1 : -2147483648 < aa ∧ aa < 2147483648
  ab1 : -2147483648 < ab ∧ ab < 2147483648
  ba1 : -2147483648 < ba ∧ ba < 2147483648
  bb1 : -2147483648 < bb ∧ bb < 2147483648
  gcd : Int.gcd (aa * a + ab * b) (ba * a + bb * b) = Int.gcd a b
  nonneg : 0 ≤ ba * a + bb * b
  le : ba * a + bb * b ≤ aa * a + ab * b
  top : aa * a + ab * b ≤ a
  start : ab = 0 ∧ aa = 1 ∧ ba = 0 ∧ bb = 1 ∨ ba * a + bb * b < b

theorem Lehm.first {a b X Y : Int} (h0 : 0 ≤ b) (h1 : b ≤ a) (hX0 : 0 ≤ X) (hX : X < 4611686018427387904) (hY0 : 0 ≤ Y) (hY : Y < 4611686018427387904) : Lehm a b X Y 1 0 0 1 X Y := by
  refine ⟨by omega, by omega, Or.inl (by omega), hX0, hX, hY0, hY, by omega, by omega, by omega, by omega, by omega, by omega, by omega, by omega, by simp, by omega, by omega, by omega, Or.inl (by omega)⟩

theorem Lehm.step {a b X Y P a0 b0 aa ab ba bb x y t : Int} (h : Lehm a b X Y aa ab ba bb x y) (ea : a = X * P + a0) (eb : b = Y * P + b0) (ha0 : 0 ≤ a0) (ha1 : a0 < P) (hb0 : 0 ≤ b0) (hb1 : b0 < P)
    (hX : X < 4611686018427387904) (hY : Y < 4611686018427387904) (n1 : y + ba ≠ 0) (n2 : y + bb ≠ 0) (t1 : (x + aa) / (y + ba) = t) (t2 : (x + ab) / (y + bb) = t) :
    Lehm a b X Y ba bb (aa - t * ba) (ab - t * bb) y (x - t * y) ∧ x - t * y < y ∧ 0 ≤ t ∧ t * y ≤ x := by
  have hyba := h.yba
  have hybb := h.ybb
  have hB : ba * a + bb * b = y * P + ba * a0 + bb * b0 := by
    rw [h.hy, ea, eb, Int.mul_add, Int.mul_add, Int.add_mul]
    simp only [Int.mul_assoc]; omega
  have hA : aa * a + ab * b = x * P + aa * a0 + ab * b0 := by
    rw [h.hx, ea, eb, Int.mul_add, Int.mul_add, Int.add_mul]
    simp only [Int.mul_assoc]; omega
  have hB' : (aa - t * ba) * a + (ab - t * bb) * b = (aa * a + ab * b) - t * (ba * a + bb * b) := by
    rw [Int.sub_mul, Int.sub_mul, Int.mul_add]
    simp only [Int.mul_assoc]; omega
  have hB'' : (aa - t * ba) * a + (ab - t * bb) * b = (x - t * y) * P + (aa - t * ba) * a0 + (ab - t * bb) * b0 := by
    rw [hB', hA, hB]
    simp only [Int.sub_mul, Int.mul_add, Int.mul_assoc]; omega
  have hy' : x - t * y = (aa - t * ba) * X + (ab - t * bb) * Y := by
    rw [h.hx, h.hy]
    simp only [Int.sub_mul, Int.mul_add, Int.mul_assoc]; omega
  have hg : Int.gcd (ba * a + bb * b) ((aa - t * ba) * a + (ab - t * bb) * b) = Int.gcd a b := by
    rw [hB', gcd_step]; exact h.gcd
  have hle := h.le
  have htop := h.top
  have hx1 := h.x1
  have hy1 := h.y1
  have hy0 := h.y0
  have ba1 := h.ba1
  have bb1 := h.bb1
  have hst := h.start
  rcases h.form with ⟨s1, s2, s3, s4, e1, e2⟩ | ⟨s1, s2, s3, s4, e1, e2⟩
  · obtain ⟨c1, c2, c3, c4, c5, c6, c7, c8, c9, c10, c11, c12⟩ := step_core (P := P) ha0 ha1 hb0 hb1 s1 s2 s3 s4 e1 e2 (by omega) (by omega) h.xab t1 t2 hX hY
    rw [← hB''] at c11 c12
    rw [← hB] at c12
    refine ⟨⟨h.hy, hy', Or.inr ⟨s3, s4, c2, c3, c8, c7⟩, hy0, hy1, c5, by omega, hyba, hybb, by omega, by omega, ba1, bb1, by omega, by omega, hg, c11, by omega, by omega, Or.inr ?_⟩, c6, c1, by omega⟩
    rcases hst with ⟨q1, q2, q3, q4⟩ | hst
    · subst q1 q2 q3 q4; omega
    · omega
  · obtain ⟨c1, c2, c3, c4, c5, c6, c7, c8, c9, c10, c11, c12⟩ := step_core (P := P) hb0 hb1 ha0 ha1 s2 s1 s4 s3 e1 e2 (by omega) (by omega) h.xaa t2 t1 hY hX
    have k1 : (x - t * y) * P + (ab - t * bb) * b0 + (aa - t * ba) * a0 = (aa - t * ba) * a + (ab - t * bb) * b := by omega
    have k2 : y * P + bb * b0 + ba * a0 = ba * a + bb * b := by omega
    rw [k1] at c11 c12
    rw [k2] at c12
    refine ⟨⟨h.hy, hy', Or.inl ⟨s3, s4, c3, c2, c8, c7⟩, hy0, hy1, c5, by omega, hyba, hybb, by omega, by omega, ba1, bb1, by omega, by omega, hg, c11, by omega, by omega, Or.inr ?_⟩, c6, c1, by omega⟩
    rcases hst with ⟨q1, q2, q3, q4⟩ | hst
    · subst q1 q2 q3 q4; omega
    · omega
end Num
end Go.Proofs.YtccndofafljaaaaGreatDoor
