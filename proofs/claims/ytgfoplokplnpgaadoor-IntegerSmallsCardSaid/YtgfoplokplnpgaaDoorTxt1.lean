/- Text: the numeral, in groups. -/
import Derived.Test.YtgfoplokplnpgaaDoorGrp
namespace Go.Proofs.YtgfoplokplnpgaaDoor
open Go Go.RowKit Num Go.Lib

theorem groups_drop : ∀ (i n : Nat), (groups n).drop i = groups (n / 1000000000 ^ i)
  | 0, n => by rw [Nat.pow_zero, Nat.div_one]; rfl
  | i + 1, n => by
    by_cases h : n = 0
    · subst h
      rw [Nat.zero_div, groups_zero]; rfl
    · rw [groups_pos h, List.drop_succ_cons, groups_drop i, Nat.pow_succ, Nat.mul_comm, Nat.div_div_eq_div_mul]
theorem groups_nil {n : Nat} : groups n = [] ↔ n = 0 := by
  constructor
  · intro h
    by_cases h0 : n = 0
    · exact h0
    · rw [groups_pos h0] at h; cases h
  · rintro rfl; exact groups_zero
theorem groups_at {n i : Nat} (h : i < (groups n).length) : n / 1000000000 ^ i ≠ 0 ∧ (groups n).getD i 0 = n / 1000000000 ^ i % 1000000000 := by
  have hd := groups_drop i n
  have h1 : n / 1000000000 ^ i ≠ 0 := by
    intro h0
    rw [h0, groups_zero, List.drop_eq_nil_iff] at hd
    omega
  refine ⟨h1, ?_⟩
  rw [groups_pos h1, List.drop_eq_getElem_cons h] at hd
  injection hd with e _
  rw [← e]
  simp [List.getD, h]
theorem groups_out {n i : Nat} (h : (groups n).length ≤ i) : n / 1000000000 ^ i = 0 := by
  have hd := groups_drop i n
  rw [List.drop_eq_nil_iff.2 h] at hd
  exact groups_nil.1 hd.symm
theorem pow9 (n i : Nat) : n / 1000000000 ^ i / 1000000000 = n / 1000000000 ^ (i + 1) := by
  rw [Nat.div_div_eq_div_mul, ← Nat.pow_succ]

/-- k decimal places of x. -/
def places : Nat → Nat → List UInt8
  | 0, _ => []
  | k + 1, x => places k (x / 10) ++ [UInt8.ofNat (48 + x % 10)]
theorem digits_places : ∀ (k n : Nat), 10 ^ k ≤ n → decDigits n = decDigits (n / 10 ^ k) ++ places k (n % 10 ^ k)
  | 0, n, _ => by rw [Nat.pow_zero, Nat.div_one, places, List.append_nil]
  | k + 1, n, h => by
    have hp : 0 < 10 ^ k := Nat.pow_pos (by omega)
    have h10 : ¬ n < 10 := by rw [Nat.pow_succ] at h; omega
    have ih := digits_places k (n / 10) (by rw [Nat.pow_succ] at h; omega)
    have e0 := decDigits.eq_1 n
    rw [dif_neg h10] at e0
    rw [e0, ih, places, Nat.div_div_eq_div_mul, ← List.append_assoc]
    have e1 : 10 * 10 ^ k = 10 ^ (k + 1) := by rw [Nat.pow_succ, Nat.mul_comm]
    have e2 : n / 10 % 10 ^ k = n % 10 ^ (k + 1) / 10 := by
      rw [← e1, Nat.mod_mul_right_div_self]
    have e3 : n % 10 ^ (k + 1) % 10 = n % 10 := by
      rw [← e1, Nat.mod_mul_right_mod]
    rw [e1, e2, e3]
theorem nDigits_le : ∀ (k x : Nat), x < 10 ^ (k + 1) → nDigits x ≤ k + 1
  | 0, x, h => by rw [nDigits_small (by simpa using h)]; omega
  | k + 1, x, h => by
    by_cases h0 : x < 10
    · rw [nDigits_small h0]; omega
    · rw [nDigits_big h0]
      have := nDigits_le k (x / 10) (by rw [Nat.pow_succ] at h; omega)
      omega
theorem places_pad : ∀ (k x : Nat), x < 10 ^ (k + 1) → places (k + 1) x = List.replicate (k + 1 - nDigits x) 48 ++ decDigits x
  | 0, x, h => by
    have h0 : x < 10 := by simpa using h
    rw [nDigits_small h0, decDigits, dif_pos h0, places, places, Nat.mod_eq_of_lt h0]; rfl
  | k + 1, x, h => by
    rw [places]
    by_cases h0 : x < 10
    · have h1 : x / 10 = 0 := by omega
      rw [h1, places_pad k 0 (Nat.pow_pos (by omega)), nDigits_small h0, nDigits_small (by omega), decDigits, dif_pos (by omega), decDigits, dif_pos h0, Nat.mod_eq_of_lt h0, List.append_assoc]
      have : (UInt8.ofNat (48 + 0)) = 48 := rfl
      rw [this, ← List.append_assoc, show k + 1 + 1 - 1 = (k + 1 - 1) + 1 from by omega, List.replicate_succ']
    · have ih := places_pad k (x / 10) (by rw [Nat.pow_succ] at h; omega)
      have e0 := decDigits.eq_1 x
      rw [dif_neg h0] at e0
      rw [ih, e0, nDigits_big h0, ← List.append_assoc, show k + 1 + 1 - (nDigits (x / 10) + 1) = k + 1 - nDigits (x / 10) from by omega]
/-- One group more. -/
theorem digits_group {n : Nat} (h : 1000000000 ≤ n) : decDigits n = decDigits (n / 1000000000) ++ (List.replicate (9 - (decDigits (n % 1000000000)).length) 48 ++ decDigits (n % 1000000000)) := by
  have h1 := digits_places 9 n h
  rw [show (10 : Nat) ^ 9 = 1000000000 from rfl] at h1
  rw [h1, places_pad 8 _ (by have := Nat.mod_lt n (show 1000000000 > 0 by omega); simpa using this), decDigits_length]
theorem nDigits_two : ∀ (k x : Nat), x < 2 ^ k → nDigits x ≤ k + 1
  | 0, x, h => by rw [nDigits_small (by have : x = 0 := by simpa using h
                                        omega)]; omega
  | k + 1, x, h => by
    by_cases h0 : x < 10
    · rw [nDigits_small h0]; omega
    · rw [nDigits_big h0]
      have := nDigits_two k (x / 10) (by rw [Nat.pow_succ] at h; omega)
      omega
theorem digits_room {n : Nat} (h : (digs n).length ≤ 100000) (m : Nat) (hm : m ≤ n) : (decDigits m).length ≤ 3200001 := by
  rw [decDigits_length]
  refine Nat.le_trans (nDigits_two (32 * (digs n).length) m ?_) (by omega)
  have h1 : n < 4294967296 ^ (digs n).length := by
    have := val_lt (digs_lt n)
    rwa [val_digs] at this
  rw [Nat.pow_mul]
  exact Nat.lt_of_le_of_lt hm h1
theorem repeat_zero (c : Nat) : repeatL [48] c = List.replicate c (48 : UInt8) := by
  induction c with
  | zero => rfl
  | succ c ih => simp [repeatL, ih, List.replicate_succ]

theorem bld_below {B b : Nat} {bs : List Value} {w w' : World} (h : IsBuilder 61 5 B b bs w) (hb : Below w.heap.size w w') : IsBuilder 61 5 B b bs w' := by
  have key : ∀ p, BuilderAt 61 5 B b p bs w → BuilderAt 61 5 B b p bs w' := by
    intro p hp
    have hlt := hp.lt
    obtain ⟨hB, v, hh, ho, hne⟩ := hp
    refine ⟨hB, v, (hb.block b hlt).trans hh, ho.kept (row := none) ⟨hb.os, hb.tape, hb.output, hb.size, fun i hi _ => hb.block i hi⟩ ?_, hne⟩
    cases v.ownBlock
    · exact .inl rfl
    · exact .inr (by simp)
  exact h.imp (key _) (key _)
end Go.Proofs.YtgfoplokplnpgaaDoor
