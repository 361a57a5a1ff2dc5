/- integer.decimal, value. -/
import Derived.Test.YtccndofafljaaaaGreatDoorDigit
import Derived.Lib.Strings

set_option linter.unusedVariables false
set_option linter.unusedSimpArgs false

namespace Go.Proofs.YtccndofafljaaaaGreatDoor
open Go Go.RowKit Num Go.Lib

/-- What decimal digits stand for. -/
def valD (l : List UInt8) : Nat := l.foldl (fun a b => 10 * a + (b.toNat - 48)) 0
theorem valD_nil : valD [] = 0 := rfl
theorem valD_snoc (l : List UInt8) (b : UInt8) : valD (l ++ [b]) = 10 * valD l + (b.toNat - 48) := by simp [valD, List.foldl_append]
/-- Is it a digit? -/
def isD (b : UInt8) : Prop := 48 ≤ b.toNat ∧ b.toNat ≤ 57
instance (b : UInt8) : Decidable (isD b) := inferInstanceAs (Decidable (_ ∧ _))
theorem isD_of {r : Nat} (h : r < 10) : isD (UInt8.ofNat (48 + r)) ∧ (UInt8.ofNat (48 + r)).toNat = 48 + r := by
  have : (UInt8.ofNat (48 + r)).toNat = 48 + r := by rw [UInt8.toNat_ofNat']; omega
  exact ⟨⟨by omega, by omega⟩, this⟩
theorem isD_back {b : UInt8} (h : isD b) : UInt8.ofNat (48 + (b.toNat - 48)) = b := by
  obtain ⟨h1, h2⟩ := h
  apply UInt8.toNat_inj.1
  rw [UInt8.toNat_ofNat']; omega
theorem valD_digits (n : Nat) : valD (decDigits n) = n := by
  induction n using Nat.strongRecOn with
  | ind n ih =>
    rw [decDigits]
    split
    · rename_i h
      simp [valD]
      omega
    · rename_i h
      rw [valD_snoc, ih (n / 10) (by omega), (isD_of (Nat.mod_lt n (by omega))).2]; omega
theorem digits_isD (n : Nat) : ∀ b ∈ decDigits n, isD b := by
  induction n using Nat.strongRecOn with
  | ind n ih =>
    rw [decDigits]
    split
    · rename_i h
      intro b hb
      rw [List.mem_singleton] at hb
      subst hb
      exact (isD_of h).1
    · rename_i h
      intro b hb
      rcases List.mem_append.1 hb with hb | hb
      · exact ih (n / 10) (by omega) b hb
      · rw [List.mem_singleton] at hb
        subst hb
        exact (isD_of (Nat.mod_lt n (by omega))).1
theorem digits_ne (n : Nat) : decDigits n ≠ [] := by
  rw [decDigits]; split <;> simp
theorem digits_head (n : Nat) (h : n ≠ 0) : ∃ b t, decDigits n = b :: t ∧ b ≠ 48 := by
  induction n using Nat.strongRecOn with
  | ind n ih =>
    rw [decDigits]
    split
    · rename_i h1
      refine ⟨_, [], rfl, ?_⟩
      intro e
      have := (isD_of h1).2
      rw [e] at this
      have e2 : (48 : UInt8).toNat = 48 := rfl
      omega
    · rename_i h1
      obtain ⟨b, t, e, hb⟩ := ih (n / 10) (by omega) (by omega)
      exact ⟨b, t ++ [UInt8.ofNat (48 + n % 10)], by rw [e]; rfl, hb⟩
/-- Is it a decimal form of a natural number? -/
def decOK (l : List UInt8) : Prop := l ≠ [] ∧ ¬ (1 < l.length ∧ l.headD 0 = 48) ∧ ∀ b ∈ l, isD b
theorem decOK_digits (n : Nat) : decOK (decDigits n) := by
  refine ⟨digits_ne n, ?_, digits_isD n⟩
  rintro ⟨h1, h2⟩
  by_cases h0 : n = 0
  · subst h0; rw [decDigits] at h1; simp at h1
  · obtain ⟨b, t, e, hb⟩ := digits_head n h0
    rw [e] at h2
    exact hb h2
theorem decOK_back (l : List UInt8) (h : decOK l) : decDigits (valD l) = l := by
  suffices H : ∀ (n : Nat) (l : List UInt8), l.length = n → decOK l → decDigits (valD l) = l from H _ l rfl h
  intro n
  induction n with
  | zero => intro l e ⟨h, _⟩; exact absurd (List.eq_nil_of_length_eq_zero e) h
  | succ n ih =>
    intro l e ⟨h1, h2, h3⟩
    obtain ⟨p, b, rfl⟩ : ∃ p b, l = p ++ [b] := ⟨l.dropLast, l.getLast h1, (List.dropLast_concat_getLast h1).symm⟩
    have hb := h3 b (by simp)
    rw [valD_snoc]
    by_cases hp : p = []
    · subst hp
      have hb2 := hb
      obtain ⟨h4, h5⟩ := hb2
      rw [valD_nil, decDigits, dif_pos (by omega), show 48 + (10 * 0 + (b.toNat - 48)) = 48 + (b.toNat - 48) by omega, isD_back hb]; rfl
    · have hp2 : p.headD 0 ≠ 48 := by
        intro e2
        apply h2
        obtain ⟨x, t, rfl⟩ := List.exists_cons_of_ne_nil hp
        exact ⟨by simp, e2⟩
      have ip := ih p (by simpa using e) ⟨hp, fun h => hp2 h.2, fun x hx => h3 x (by simp [hx])⟩
      have hv : valD p ≠ 0 := by
        intro h0
        rw [h0, decDigits] at ip
        rw [← ip] at hp2
        exact hp2 rfl
      obtain ⟨h4, h5⟩ := hb
      rw [decDigits, dif_neg (by omega), show (10 * valD p + (b.toNat - 48)) / 10 = valD p by omega, show (10 * valD p + (b.toNat - 48)) % 10 = b.toNat - 48 by omega, ip, isD_back ⟨h4, h5⟩]
theorem digits_len (k : Nat) : ∀ n : Nat, n < 10 ^ (k + 1) → (decDigits n).length ≤ k + 1 := by
  induction k with
  | zero => intro n h; rw [decDigits, dif_pos (by simpa using h)]; simp
  | succ k ih =>
    intro n h
    rw [decDigits]
    split
    · simp
    · have := ih (n / 10) (by rw [Nat.pow_succ] at h; omega)
      rw [List.length_append]
      simpa using this
theorem valD_take_succ (l : List UInt8) (k : Nat) (h : k < l.length) : valD (l.take (k + 1)) = 10 * valD (l.take k) + ((l.getD k 0).toNat - 48) := by
  rw [List.take_add_one, List.getElem?_eq_getElem h]
  simp only [Option.toList]
  rw [valD_snoc]
  simp [List.getD, h]
/-- Does it begin with a sign? -/
def negD (l : List UInt8) : Bool := hasPrefix l [45]
/-- What is behind the sign. -/
def bodyD (l : List UInt8) : List UInt8 := trimPrefix l [45]
/-- The number that a decimal form stands for. -/
def numD (l : List UInt8) : Int := if negD l then -(valD (bodyD l) : Int) else (valD (bodyD l) : Int)
/-- Is it the decimal form of an integer? -/
def goodD (l : List UInt8) : Prop := decOK (bodyD l) ∧ ¬ (negD l = true ∧ bodyD l = [48])
theorem negD_cons (a : UInt8) (t : List UInt8) : negD (a :: t) = decide (a = 45) := by
  unfold negD hasPrefix
  rw [List.isPrefixOf, List.isPrefixOf, Bool.and_true]
  by_cases h : a = 45
  · subst h; rfl
  · rw [decide_eq_false h, beq_eq_false_iff_ne]; exact fun e => h e.symm
theorem bodyD_cons (a : UInt8) (t : List UInt8) : bodyD (a :: t) = if a = 45 then t else a :: t := by
  unfold bodyD trimPrefix
  have h := negD_cons a t
  unfold negD at h
  rw [h]
  by_cases h : a = 45
  · rw [if_pos h, if_pos (by simpa using h)]; rfl
  · rw [if_neg h, if_neg (by simpa using h)]
theorem bodyD_len (l : List UInt8) : (bodyD l).length ≤ l.length := by
  cases l with
  | nil => simp [bodyD, trimPrefix, hasPrefix]
  | cons a t => rw [bodyD_cons]; split <;> simp
theorem zText_parts (z : Int) : negD (zText z) = decide (z < 0) ∧ bodyD (zText z) = decDigits z.natAbs := by
  unfold zText
  by_cases h : z < 0
  · rw [decide_eq_true h]
    show negD (45 :: decDigits z.natAbs) = true ∧ bodyD (45 :: decDigits z.natAbs) = _
    rw [negD_cons, bodyD_cons]
    exact ⟨by simp, by simp⟩
  · rw [decide_eq_false h]
    show negD (decDigits z.natAbs) = false ∧ bodyD (decDigits z.natAbs) = _
    obtain ⟨b, t, e⟩ := List.exists_cons_of_ne_nil (digits_ne z.natAbs)
    have hb := digits_isD z.natAbs b (by rw [e]; simp)
    have hne : b ≠ 45 := by
      intro h2
      rw [h2] at hb
      exact absurd hb (by decide)
    rw [e, negD_cons, bodyD_cons]
    exact ⟨by simpa using hne, by rw [if_neg hne]⟩
theorem goodD_text (z : Int) : goodD (zText z) := by
  obtain ⟨h1, h2⟩ := zText_parts z
  refine ⟨by rw [h2]; exact decOK_digits _, ?_⟩
  rw [h1, h2]
  rintro ⟨h3, h4⟩
  have h5 := valD_digits z.natAbs
  rw [h4] at h5
  have h6 : valD [48] = 0 := by decide
  have := of_decide_eq_true h3
  omega
theorem numD_text (z : Int) : numD (zText z) = z := by
  obtain ⟨h1, h2⟩ := zText_parts z
  unfold numD
  rw [h1, h2, valD_digits]
  by_cases h : z < 0
  · rw [decide_eq_true h, if_pos rfl]; omega
  · rw [decide_eq_false h, if_neg (by simp)]; omega
theorem text_numD (l : List UInt8) (h : goodD l) : zText (numD l) = l := by
  obtain ⟨h1, h2⟩ := h
  have h3 := decOK_back _ h1
  cases l with
  | nil => exact absurd (by simp [bodyD, trimPrefix, hasPrefix]) h1.1
  | cons a t =>
    unfold numD zText
    rw [negD_cons] at h2 ⊢
    rw [bodyD_cons] at h1 h2 h3 ⊢
    by_cases ha : a = 45
    · rw [if_pos ha] at h1 h2 h3 ⊢
      rw [decide_eq_true ha] at h2 ⊢
      rw [if_pos rfl]
      have h4 : valD t ≠ 0 := by
        intro h0
        rw [h0, decDigits] at h3
        exact h2 ⟨rfl, h3.symm⟩
      rw [decide_eq_true (by omega), Int.natAbs_neg, Int.natAbs_natCast, h3, ha]; rfl
    · rw [if_neg ha] at h1 h2 h3 ⊢
      rw [decide_eq_false ha]
      rw [if_neg (by simp), decide_eq_false (by omega), Int.natAbs_natCast, h3]; rfl
theorem bad_text {l : List UInt8} (h : ¬ goodD l) (z : Int) : l ≠ zText z := fun e => h (by rw [e]; exact goodD_text z)
theorem valD_lt (l : List UInt8) (h : ∀ b ∈ l, isD b) : valD l < 10 ^ l.length := by
  suffices H : ∀ (n : Nat) (l : List UInt8), l.length = n → (∀ b ∈ l, isD b) → valD l < 10 ^ n from H _ l rfl h
  intro n
  induction n with
  | zero => intro l e _; rw [List.eq_nil_of_length_eq_zero e]; simp [valD]
  | succ n ih =>
    intro l e h
    have h1 : l ≠ [] := by intro h0; rw [h0] at e; simp at e
    obtain ⟨p, b, rfl⟩ : ∃ p b, l = p ++ [b] := ⟨l.dropLast, l.getLast h1, (List.dropLast_concat_getLast h1).symm⟩
    have hb := h b (by simp)
    obtain ⟨h4, h5⟩ := hb
    have := ih p (by simpa using e) (fun x hx => h x (by simp [hx]))
    rw [valD_snoc, Nat.pow_succ]; omega
theorem pow_chain (n k : Nat) (h : n ≤ 9 * k) : 10 ^ n ≤ 4294967296 ^ k := by
  have h5 : 10 ^ n ≤ 10 ^ (9 * k) := Nat.pow_le_pow_right (by omega) h
  rw [Nat.pow_mul] at h5
  exact Nat.le_trans h5 (Nat.pow_le_pow_left (by decide) _)
theorem text_bound (z : Int) (h : (zText z).length ≤ 2000) : z.natAbs < 4294967296 ^ 223 := by
  obtain ⟨h1, h2⟩ := zText_parts z
  have h3 := bodyD_len (zText z)
  rw [h2] at h3
  have h4 := valD_lt _ (digits_isD z.natAbs)
  rw [valD_digits] at h4
  exact Nat.lt_of_lt_of_le h4 (pow_chain _ 223 (by omega))
theorem text_len12 (z : Int) (h : z.natAbs < 4294967296 ^ 12) : (zText z).length ≤ 2000 := by
  have h1 : (4294967296 : Nat) ^ 12 ≤ (10 ^ 10) ^ 12 := Nat.pow_le_pow_left (by decide) _
  have h2 := digits_len 119 z.natAbs (by rw [show (10 : Nat) ^ (119 + 1) = (10 ^ 10) ^ 12 by rw [← Nat.pow_mul]]; omega)
  unfold zText signText
  rw [List.length_append]
  split <;> simp <;> omega
instance (l : List UInt8) : Decidable (decOK l) := inferInstanceAs (Decidable (_ ∧ _ ∧ _))
theorem isD_take {l : List UInt8} {k : Nat} (h : ∀ b ∈ l.take k, isD b) (hk : k < l.length) (h1 : isD (l.getD k 0)) : ∀ b ∈ l.take (k + 1), isD b := by
  intro b hb
  rw [List.take_add_one, List.getElem?_eq_getElem hk] at hb
  rcases List.mem_append.1 hb with hb | hb
  · exact h b hb
  · simp only [Option.toList, List.mem_singleton] at hb
    subst hb
    simpa [List.getD, hk] using h1
theorem getD_mem {l : List UInt8} {k : Nat} (hk : k < l.length) : l.getD k 0 ∈ l := by
  simp [List.getD, hk]
theorem byte_at (l : List UInt8) (k : Nat) (hk : k < l.length) (h : k < (⟨l.toArray⟩ : ByteArray).size) : (⟨l.toArray⟩ : ByteArray)[k]'h = l.getD k 0 := by
  simp only [List.getD, List.getElem?_eq_getElem hk, Option.getD_some]
  rfl

/-- What value leaves after k digits. -/
structure ValAt (base : Nat) (w wr : World) (l : List UInt8) (k : Nat) (v : Value) (L : List Nat) : Prop where
  row : wr.ownsRow base 69 1 v L.length (ws L)
  lt : ∀ x ∈ L, x < 4294967296
  eq : val L = valD (l.take k)
  len : L.length ≤ k
  below : Below base w wr

end Go.Proofs.YtccndofafljaaaaGreatDoor
