/- The number of binary digits. -/
import Derived.Test.YtgfoplokplnpgaaDoorNat
import Derived.Lib.BitFns
namespace Go.Proofs.YtgfoplokplnpgaaDoor
open Go Num

/-- The number of binary digits of n. -/
def blen (n : Nat) : Nat := if n = 0 then 0 else n.log2 + 1

theorem blen_unique {n k : Nat} (h : n < 2 ^ k) (hl : ∀ j, k = j + 1 → 2 ^ j ≤ n) : blen n = k := by
  unfold blen
  rcases k with _ | j
  · have : n = 0 := by simpa using h
    rw [if_pos this]
  · have h1 := hl j rfl
    have hp : 0 < 2 ^ j := Nat.pow_pos (by omega)
    have h0 : n ≠ 0 := by omega
    rw [if_neg h0, (Nat.log2_eq_iff h0).2 ⟨h1, h⟩]

theorem lt_blen (n : Nat) : n < 2 ^ blen n := by
  unfold blen
  by_cases h : n = 0
  · subst h; simp
  · rw [if_neg h]; exact Nat.lt_log2_self

theorem blen_le {n j : Nat} (h : blen n = j + 1) : 2 ^ j ≤ n := by
  unfold blen at h
  by_cases h0 : n = 0
  · rw [if_pos h0] at h; omega
  · rw [if_neg h0] at h
    have : n.log2 = j := by omega
    rw [← this]; exact Nat.log2_self_le h0

theorem blen_zero : blen 0 = 0 := rfl
theorem blen_pos {n : Nat} (h : n ≠ 0) : 0 < blen n := by unfold blen; rw [if_neg h]; omega

theorem bitLen_eq (n : Nat) (h : n < 18446744073709551616) : Lib.bitLen n = blen n := by
  induction n using Nat.strongRecOn with
  | _ n ih =>
    by_cases h0 : n = 0
    · subst h0; rfl
    · rw [Lib.bitLen_half n h0 (by omega), ih (n / 2) (by omega) (by omega)]
      have h1 := lt_blen (n / 2)
      refine (blen_unique (by rw [Nat.pow_add]; omega) fun j hj => ?_).symm
      obtain rfl : j = blen (n / 2) := by omega
      rcases hb : blen (n / 2) with _ | i
      · simp; omega
      · have := blen_le hb
        rw [Nat.pow_succ]; omega

theorem blen_top {v x k : Nat} (hv : v < 4294967296 ^ k) (hx : x ≠ 0) : blen (v + 4294967296 ^ k * x) = 32 * k + blen x := by
  have hp : 4294967296 ^ k = 2 ^ (32 * k) := by rw [Nat.pow_mul]
  rw [hp] at hv ⊢
  have h1 := lt_blen x
  refine blen_unique ?_ fun j hj => ?_
  · rw [Nat.pow_add]
    have : 2 ^ (32 * k) * (x + 1) ≤ 2 ^ (32 * k) * 2 ^ blen x := Nat.mul_le_mul_left _ h1
    rw [Nat.mul_succ] at this
    omega
  · obtain ⟨i, hi⟩ : ∃ i, blen x = i + 1 := ⟨blen x - 1, by have := blen_pos hx; omega⟩
    have h2 := blen_le hi
    obtain rfl : j = 32 * k + i := by omega
    rw [Nat.pow_add]
    have := Nat.mul_le_mul_left (2 ^ (32 * k)) h2
    omega
end Go.Proofs.YtgfoplokplnpgaaDoor
