/-
  Plain mathematics: numbers as lists of words of 32 bits.
-/
namespace Go.Proofs.YtgfoplokplnpgaaDoor
namespace Num

/-- The number that a list of words stands for, the lowest word first. -/
def val : List Nat → Nat
  | [] => 0
  | x :: xs => x + 4294967296 * val xs

/-- The words of a number, without leading zeros. -/
def digs (n : Nat) : List Nat :=
  if h : n = 0 then [] else n % 4294967296 :: digs (n / 4294967296)
  termination_by n
  decreasing_by omega

theorem digs_zero : digs 0 = [] := by rw [digs]; simp
theorem digs_pos {n : Nat} (h : n ≠ 0) : digs n = n % 4294967296 :: digs (n / 4294967296) := by rw [digs]; simp [h]

theorem val_digs (n : Nat) : val (digs n) = n := by
  induction n using Nat.strongRecOn with
  | _ n ih =>
    by_cases h : n = 0
    · subst h; rw [digs_zero]; rfl
    · rw [digs_pos h, val, ih _ (by omega)]; omega

theorem digs_lt (n : Nat) : ∀ x ∈ digs n, x < 4294967296 := by
  induction n using Nat.strongRecOn with
  | _ n ih =>
    by_cases h : n = 0
    · subst h; rw [digs_zero]; simp
    · rw [digs_pos h]
      intro x hx
      rcases List.mem_cons.1 hx with rfl | hx
      · omega
      · exact ih _ (by omega) x hx

theorem val_append (a b : List Nat) : val (a ++ b) = val a + 4294967296 ^ a.length * val b := by
  induction a with
  | nil => simp [val]
  | cons x xs ih =>
    simp only [List.cons_append, val, ih, List.length_cons, Nat.pow_succ]
    rw [Nat.mul_add, Nat.add_assoc]
    congr 1
    congr 1
    rw [Nat.mul_comm (4294967296 ^ xs.length) 4294967296, Nat.mul_assoc]

theorem val_snoc (a : List Nat) (x : Nat) : val (a ++ [x]) = val a + 4294967296 ^ a.length * x := by
  rw [val_append]; simp [val]

theorem val_lt {l : List Nat} (h : ∀ x ∈ l, x < 4294967296) : val l < 4294967296 ^ l.length := by
  induction l with
  | nil => simp [val]
  | cons x xs ih =>
    have h1 := ih (fun y hy => h y (List.mem_cons_of_mem _ hy))
    have h2 := h x (List.mem_cons_self ..)
    simp only [val, List.length_cons, Nat.pow_succ]
    omega

theorem digs_val_cons {x : Nat} {xs : List Nat} (hx : x < 4294967296) (hne : x + 4294967296 * val xs ≠ 0) : digs (val (x :: xs)) = x :: digs (val xs) := by
  rw [val, digs_pos hne]
  rw [show (x + 4294967296 * val xs) % 4294967296 = x from by omega, show (x + 4294967296 * val xs) / 4294967296 = val xs from by omega]

/-- A list whose highest word is not zero is the one of its number. -/
theorem digs_val {l : List Nat} (h : ∀ x ∈ l, x < 4294967296) (hl : ∀ x, l.getLast? = some x → x ≠ 0) : digs (val l) = l := by
  induction l with
  | nil => simp [val, digs_zero]
  | cons x xs ih =>
    have hx := h x (List.mem_cons_self ..)
    have h' : ∀ y ∈ xs, y < 4294967296 := fun y hy => h y (List.mem_cons_of_mem _ hy)
    rcases xs with _ | ⟨y, ys⟩
    · have : x ≠ 0 := hl x (by simp)
      rw [digs_val_cons hx (by simp [val]; exact this)]
      simp [val, digs_zero]
    · have ih' := ih h' (fun z hz => hl z (by rw [List.getLast?_cons_cons]; exact hz))
      have hpos : val (y :: ys) ≠ 0 := by
        intro h0
        rw [h0, digs_zero] at ih'
        exact absurd ih' (by simp)
      rw [digs_val_cons hx (by omega), ih']

/-- A leading zero word does not count. -/
theorem val_snoc_zero (l : List Nat) : val (l ++ [0]) = val l := by rw [val_snoc]; simp

theorem digs_getLast {n x : Nat} (h : (digs n).getLast? = some x) : x ≠ 0 := by
  induction n using Nat.strongRecOn with
  | _ n ih =>
    by_cases hn : n = 0
    · subst hn; rw [digs_zero] at h; simp at h
    · rw [digs_pos hn] at h
      by_cases h2 : n / 4294967296 = 0
      · rw [h2, digs_zero] at h
        simp at h
        omega
      · rw [digs_pos h2, List.getLast?_cons_cons, ← digs_pos h2] at h
        exact ih _ (by omega) h

theorem digs_length_le {n k : Nat} (h : n < 4294967296 ^ k) : (digs n).length ≤ k := by
  induction k generalizing n with
  | zero =>
    have : n = 0 := by simp at h; exact h
    subst this; rw [digs_zero]; simp
  | succ k ih =>
    by_cases hn : n = 0
    · subst hn; rw [digs_zero]; simp
    · rw [digs_pos hn, List.length_cons]
      have : n / 4294967296 < 4294967296 ^ k := by
        rw [Nat.pow_succ] at h
        exact Nat.div_lt_of_lt_mul (by rw [Nat.mul_comm]; exact h)
      have := ih this
      omega

theorem pow_le_of_length {n k : Nat} (h : k < (digs n).length) : 4294967296 ^ k ≤ n := by
  rcases Nat.lt_or_ge n (4294967296 ^ k) with h1 | h1
  · have := digs_length_le h1; omega
  · exact h1

theorem lt_pow_length (n : Nat) : n < 4294967296 ^ (digs n).length := by
  have := val_lt (digs_lt n)
  rwa [val_digs] at this

theorem digs_eq_nil {n : Nat} : digs n = [] ↔ n = 0 := by
  constructor
  · intro h
    have := val_digs n
    rw [h] at this
    exact this.symm
  · rintro rfl; exact digs_zero

theorem digs_inj {a b : Nat} (h : digs a = digs b) : a = b := by
  have h1 := val_digs a
  rw [h, val_digs] at h1
  exact h1.symm

theorem digs_one {n : Nat} (h0 : n ≠ 0) (h : n < 4294967296) : digs n = [n] := by
  rw [digs_pos h0, show n % 4294967296 = n from by omega, show n / 4294967296 = 0 from by omega, digs_zero]

theorem digs_two {n : Nat} (h0 : 4294967296 ≤ n) (h : n < 18446744073709551616) : digs n = [n % 4294967296, n / 4294967296] := by
  rw [digs_pos (by omega), digs_one (by omega) (by omega)]

theorem length_mono {a b : Nat} (h : a ≤ b) : (digs a).length ≤ (digs b).length :=
  digs_length_le (Nat.lt_of_le_of_lt h (lt_pow_length b))

end Num
end Go.Proofs.YtgfoplokplnpgaaDoor
