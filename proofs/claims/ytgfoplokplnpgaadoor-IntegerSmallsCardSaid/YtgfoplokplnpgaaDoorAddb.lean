/- integer.addBack -/
import Derived.Test.YtgfoplokplnpgaaDoorSub
namespace Go.Proofs.YtgfoplokplnpgaaDoor
open Go Go.RowKit Num

/-- WHAT HOLDS AT THE HEAD OF addBack's LOOP. -/
structure AddAt (w wr : World) (g : Nat) (pre S : List Nat) (ex : List Value) (d : List Nat) (k c : Nat) (done : List Nat) : Prop where
  own : OwnX wr g (pre ++ (done ++ S.drop k)) ex
  len : done.length = k
  lt : ∀ x ∈ done, x < 4294967296
  carry : c < 2
  eq : val done + 4294967296 ^ k * c = val (S.take k) + val (d.take k)
  grown : w.grownBy wr (some g)

theorem AddAt.step {w wr : World} {g : Nat} {pre S : List Nat} {ex : List Value} {d : List Nat} {k c : Nat} {done : List Nat} (h : AddAt w wr g pre S ex d k c done)
    (hk : k < S.length) (hS : ∀ x ∈ S, x < 4294967296) (hd : ∀ x ∈ d, x < 4294967296) :
    AddAt w (wr.setCell ⟨g, pre.length + k, none⟩ (.int .u32 (((c + (S.getD k 0 + d.getD k 0)) % 4294967296 : Nat) : Int))) g pre S ex d (k + 1)
      ((c + (S.getD k 0 + d.getD k 0)) / 4294967296) (done ++ [(c + (S.getD k 0 + d.getD k 0)) % 4294967296]) := by
  have hp := getD_lt hS k
  have hx := getD_lt hd k
  have hc := h.carry
  have hlen := h.len
  have he := h.eq
  refine ⟨?_, by rw [List.length_append, hlen]; rfl, ?_, by omega, ?_, grown_trans h.grown (grown_set _ _ _ _)⟩
  · have e := h.own.set (i := pre.length + k) (by simp; omega) ((c + (S.getD k 0 + d.getD k 0)) % 4294967296)
    rw [List.drop_eq_getElem_cons hk] at e
    have hs := set_mid pre done S[k] ((c + (S.getD k 0 + d.getD k 0)) % 4294967296) (S.drop (k + 1))
    rw [hlen] at hs
    rw [hs] at e
    exact e
  · intro x hx'
    rcases List.mem_append.1 hx' with h1 | h1
    · exact h.lt x h1
    · rw [List.mem_singleton] at h1; rw [h1]; omega
  · rw [val_snoc, hlen, val_take_succ, val_take_succ, Nat.pow_succ, Nat.add_assoc, carry_join', Nat.mul_add, Nat.mul_add]
    omega

theorem AddAt.start {w : World} {g : Nat} {pre S : List Nat} {ex : List Value} (h : OwnX w g (pre ++ S) ex) (d : List Nat) : AddAt w w g pre S ex d 0 0 [] :=
  ⟨by simpa using h, rfl, by simp, by omega, by simp [val], grown_refl _ _⟩

/-- What addBack leaves: the sum, but for what goes round the corner. -/
def Added (w w' : World) (g : Nat) (pre S : List Nat) (ex : List Value) (d : List Nat) (m : Nat) : Prop :=
  ∃ (R : List Nat) (t : Nat), R.length = m + 1 ∧ (∀ x ∈ R, x < 4294967296) ∧ OwnX w' g (pre ++ (R ++ S.drop (m + 1))) ex ∧ w.grownBy w' (some g) ∧
    val R + 4294967296 ^ (m + 1) * t = val (S.take (m + 1)) + val d

theorem AddAt.done {w wr : World} {g : Nat} {pre S : List Nat} {ex : List Value} {d : List Nat} {c : Nat} {done : List Nat} (h : AddAt w wr g pre S ex d d.length c done)
    (hk : d.length < S.length) (hS : ∀ x ∈ S, x < 4294967296) :
    Added w (wr.setCell ⟨g, pre.length + d.length, none⟩ (.int .u32 (((S.getD d.length 0 + c) % 4294967296 : Nat) : Int))) g pre S ex d d.length := by
  have hp := getD_lt hS d.length
  have hlen := h.len
  have he := h.eq
  refine ⟨done ++ [(S.getD d.length 0 + c) % 4294967296], (S.getD d.length 0 + c) / 4294967296, by rw [List.length_append, hlen]; rfl, ?_, ?_, grown_trans h.grown (grown_set _ _ _ _), ?_⟩
  · intro x hx'
    rcases List.mem_append.1 hx' with h1 | h1
    · exact h.lt x h1
    · rw [List.mem_singleton] at h1; rw [h1]; omega
  · have e := h.own.set (i := pre.length + d.length) (by simp; omega) ((S.getD d.length 0 + c) % 4294967296)
    rw [List.drop_eq_getElem_cons hk] at e
    have hs := set_mid pre done S[d.length] ((S.getD d.length 0 + c) % 4294967296) (S.drop (d.length + 1))
    rw [hlen] at hs
    rw [hs] at e
    exact e
  · rw [List.take_length] at he
    rw [val_snoc, hlen, val_take_succ, Nat.pow_succ, Nat.add_assoc, carry_join', Nat.mul_add]
    omega

set_option maxRecDepth 100000 in
set_option maxHeartbeats 2000000 in
theorem addBack_any (g cap : Nat) (v2 : Value) (pre S d : List Nat) (ex : List Value) (w : World) (h : OwnX w g (pre ++ S) ex) (hS : ∀ x ∈ S, x < 4294967296) (h2 : U32 w v2 d) (hne : ∀ b off n c, v2 = .slice (some ⟨b, off, none⟩) n c → b ≠ g)
    (hk : d.length < S.length) (hp : pre.length ≤ 1000000) (hl : S.length ≤ 1000000) :
    Calls Tryd.prog 98 #[.slice (some ⟨g, pre.length, none⟩) (d.length + 1) cap, v2] w fun e w' => e = .returned (.tuple #[]) ∧ Added w w' g pre S ex d d.length := by
  obtain ⟨A2, cap2, rfl, -, -, hf2⟩ := id h2.form
  have h0 := AddAt.start h d
  go_enter Tryd.func98, Tryd.ntmps98
  go_wp2
  go_loopw [4, 5, 6, 9] (fun cy _ _ i wr => ∃ (k c : Nat) (done : List Nat), k ≤ d.length ∧ cy = .int .u64 c ∧ i = .int .i64 k ∧ AddAt w wr g pre S ex d k c done) (fun _ _ _ i _ => d.length - (intOf i).toNat)
  case atStart => exact ⟨0, 0, [], Nat.zero_le _, rfl, rfl, h0⟩
  case round =>
    obtain ⟨k, c, done, hkd, rfl, rfl, hs⟩ := hrel
    have hlen := hs.len
    have hcy := hs.carry
    have hc0 := hs.own.cell (i := pre.length + k) (by simp; omega)
    rw [getD_mid pre done S k hlen (by omega)] at hc0
    have hfz := hs.own.frozen (pre.length + k)
    have a1 := getD_lt hS k
    by_cases hk1 : k < d.length
    · obtain ⟨b2, o2, rfl, hb2, hcell2⟩ := hf2 (by intro h; rw [h] at hk1; simp at hk1)
      have hy := hs.grown.cell (hcell2 k hk1) (by intro he; injection he with he; exact hne b2 o2 _ _ rfl he)
      have a2 := getD_lt h2.lt k
      have HS := Lib.hid (hs.step (by omega) hS h2.lt)
      clear hs h0 hf2 hcell2
      generalize d.getD k 0 = x at *
      generalize S.getD k 0 = p at *
      go_wp2
      go_roundw
      case rel => exact ⟨k + 1, (c + (p + x)) / 4294967296, _, by omega, by go_num, by go_num, HS.out⟩
      case measure => simp only [intOf]; omega
    · obtain rfl : k = d.length := by omega
      have HS := Lib.hid (hs.done hk hS)
      clear hs h0 hf2
      generalize S.getD d.length 0 = p at *
      have hw : IntKind.u32.wrap ((p : Int) + (c : Int)) = (((p + c) % 4294967296 : Nat) : Int) := by rw [IntKind.wrap_u32]; omega
      go_wp2
      go_end0
      exact ⟨rfl, HS.out⟩
end Go.Proofs.YtgfoplokplnpgaaDoor
