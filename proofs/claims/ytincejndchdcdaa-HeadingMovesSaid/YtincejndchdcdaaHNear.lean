/- Plain mathematics: moved and longer arcs. -/
import Derived.Test.YtincejndchdcdaaHGrow
namespace Go.Proofs.Ytincejndchdcdaa
open Go Go.RowKit Hd

/-- The arc that is moved by n marks. -/
def shF (f c n : Int) : Int := if c = 256 then 0 else (f + n) % 256
/-- The arc that is n marks longer on both sides. -/
def grF (f c n : Int) : Int := if 256 ≤ c + 2 * n then 0 else (f - n) % 256
def grC (c n : Int) : Int := if 256 ≤ c + 2 * n then 256 else c + 2 * n
theorem shF_ok {f c n : Int} (h : OkA f c) : OkA (shF f c n) c := by unfold shF OkA at *; split <;> omega
theorem grow_ok {f c n : Int} (h : OkA f c) (h0 : 0 ≤ n) : OkA (grF f c n) (grC c n) := by unfold grF grC OkA at *; split <;> omega
theorem tmod_cong (n : Int) : n.tmod 256 % 256 = n % 256 := by
  have h1 := Int.tmod_eq_emod (a := n) (b := 256)
  split at h1 <;> omega
theorem has_shift {f c n m : Int} (_ : OkA f c) : hasB (shF f c n) c m = hasB f c (m - n.tmod 256) := by
  have e := tmod_cong n
  unfold hasB shF
  by_cases hc : c = 256
  · rw [if_pos hc, decide_eq_true (by omega), decide_eq_true (by omega)]
  · rw [if_neg hc]
    have : (m - (f + n) % 256) % 256 = (m - n.tmod 256 - f) % 256 := by omega
    rw [this]
/-- Whether one of the first k marks from m - n on is in the arc. -/
def nearB (f c m n : Int) (k : Nat) : Bool := (List.range k).any fun (j : Nat) => hasB f c (m + ((j : Int) - n))
theorem near_zero (f c m n : Int) : nearB f c m n 0 = false := rfl
theorem near_succ (f c m n : Int) (k : Nat) : nearB f c m n (k + 1) = (nearB f c m n k || hasB f c (m + ((k : Int) - n))) := by
  unfold nearB
  rw [List.range_succ, List.any_append]; simp
theorem near_iff {f c m n : Int} {k : Nat} : nearB f c m n k = true ↔ ∃ j : Int, 0 ≤ j ∧ j < k ∧ (m + (j - n) - f) % 256 < c := by
  unfold nearB
  rw [List.any_eq_true]
  constructor
  · rintro ⟨j, hj, hh⟩
    exact ⟨j, by omega, by have := List.mem_range.1 hj; omega, of_decide_eq_true hh⟩
  · rintro ⟨j, j0, j1, hh⟩
    refine ⟨j.toNat, List.mem_range.2 (by omega), decide_eq_true ?_⟩
    rw [Int.toNat_of_nonneg j0]; exact hh
theorem has_grow {f c m n : Int} (h : OkA f c) (h0 : 0 ≤ n) : nearB f c m n (2 * n + 1).toNat = hasB (grF f c n) (grC c n) m := by
  have hc0 := h.c0
  have hc1 := h.c1
  rw [Bool.eq_iff_iff, near_iff]
  unfold hasB grF grC
  rw [decide_eq_true_eq]
  obtain ⟨x, hx⟩ : ∃ x, (m - f) % 256 = x := ⟨_, rfl⟩
  by_cases hf : 256 ≤ c + 2 * n
  · rw [if_pos hf, if_pos hf]
    refine ⟨fun _ => by omega, fun _ => ?_⟩
    by_cases h1 : x < c
    · exact ⟨n, h0, by omega, by omega⟩
    by_cases h2 : x - c + 1 ≤ n
    · exact ⟨n - (x - c + 1), by omega, by omega, by omega⟩
    · exact ⟨n + (256 - x), by omega, by omega, by omega⟩
  · rw [if_neg hf, if_neg hf]
    constructor
    · rintro ⟨j, j0, j1, hj⟩
      omega
    · intro hz
      obtain ⟨z, hzz⟩ : ∃ z, (m - (f - n) % 256) % 256 = z := ⟨_, rfl⟩
      rw [hzz] at hz
      by_cases h1 : z ≤ 2 * n
      · exact ⟨2 * n - z, by omega, by omega, by omega⟩
      · exact ⟨0, by omega, by omega, by omega⟩
end Go.Proofs.Ytincejndchdcdaa
