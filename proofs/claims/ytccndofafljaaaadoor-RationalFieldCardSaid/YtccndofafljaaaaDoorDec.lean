/- integer.decimal, value. -/
import Derived.Test.YtccndofafljaaaaDoorDigit
import Derived.Lib.Strings

set_option linter.unusedVariables false
set_option linter.unusedSimpArgs false

namespace Go.Proofs.YtccndofafljaaaaDoor
open Go Go.RowKit Num Go.Lib

/-- What decimal digits stand for. -/
def valD (l : List UInt8) : Nat := l.foldl (fun a b => 10 * a + (b.toNat - 48)) 0
theorem valD_nil : valD [] = 0 := rfl
theorem valD_snoc (l : List UInt8) (b : UInt8) : valD (l ++ [b]) = 10 * valD l + (b.toNat - 48) := by simp [valD, List.foldl_append]
/-- Is it a digit? -/
def isD (b : UInt8) : Prop := 48 ≤ b.toNat ∧ b.toNat ≤ 57
instance (b : UInt8) : Decidable (isD b) := inferInstanceAs (Decidable (_ ∧ _))
theorem isD_of {r : Nat} (h : r < 10) : isD (UInt8.ofNat (48 + r)) ∧ (UInt8.ofNat (48 + r)).toNat = 48 + r := by
  have : (UInt8.ofNat (48 + r)).toNat = 48 + r := by rw [UInt8.toNat_ofNat']; omega
  exact ⟨⟨by omega, by omega⟩, this⟩
theorem isD_back {b : UInt8} (h : isD b) : UInt8.ofNat (48 + (b.toNat - 48)) = b := by
  obtain ⟨h1, h2⟩ := h
  apply UInt8.toNat_inj.1
  rw [UInt8.toNat_ofNat']; omega
theorem valD_digits (n : Nat) : valD (decDigits n) = n := by
  induction n using Nat.strongRecOn with
  | ind n ih =>
    rw [decDigits]
    split
    · rename_i h
      simp [valD]
      omega
    · rename_i h
      rw [valD_snoc, ih (n / 10) (by omega), (isD_of (Nat.mod_lt n (by omega))).2]; omega
theorem digits_isD (n : Nat) : ∀ b ∈ decDigits n, isD b := by
  induction n using Nat.strongRecOn with
  | ind n ih =>
    rw [decDigits]
    split
    · rename_i h
      intro b hb
      rw [List.mem_singleton] at hb
      subst hb
      exact (isD_of h).1
    · rename_i h
      intro b hb
      rcases List.mem_append.1 hb with hb | hb
      · exact ih (n / 10) (by omega) b hb
      · rw [List.mem_singleton] at hb
        subst hb
        exact (isD_of (Nat.mod_lt n (by omega))).1
theorem digits_ne (n : Nat) : decDigits n ≠ [] := by
  rw [decDigits]; split <;> simp
theorem digits_head (n : Nat) (h : n ≠ 0) : ∃ b t, decDigits n = b :: t ∧ b ≠ 48 := by
  induction n using Nat.strongRecOn with
  | ind n ih =>
    rw [decDigits]
    split
    · rename_i h1
      refine ⟨_, [], rfl, ?_⟩
      intro e
      have := (isD_of h1).2
      rw [e] at this
      have e2 : (48 : UInt8).toNat = 48 := rfl
      omega
    · rename_i h1
      obtain ⟨b, t, e, hb⟩ := ih (n / 10) (by omega) (by omega)
      exact ⟨b, t ++ [UInt8.ofNat (48 + n % 10)], by rw [e]; rfl, hb⟩
/-- Is it a decimal form of a natural number? -/
def decOK (l : List UInt8) : Prop := l ≠ [] ∧ ¬ (1 < l.length ∧ l.headD 0 = 48) ∧ ∀ b ∈ l, isD b
theorem decOK_digits (n : Nat) : decOK (decDigits n) := by
  refine ⟨digits_ne n, ?_, digits_isD n⟩
  rintro ⟨h1, h2⟩
  by_cases h0 : n = 0
  · subst h0; rw [decDigits] at h1; simp at h1
  · obtain ⟨b, t, e, hb⟩ := digits_head n h0
    rw [e] at h2
    exact hb h2
theorem decOK_back (l : List UInt8) (h : decOK l) : decDigits (valD l) = l := by
  suffices H : ∀ (n : Nat) (l : List UInt8), l.length = n → decOK l → decDigits (valD l) = l from H _ l rfl h
  intro n
  induction n with
  | zero => intro l e ⟨h, _⟩; exact absurd (List.eq_nil_of_length_eq_zero e) h
  | succ n ih =>
    intro l e ⟨h1, h2, h3⟩
    obtain ⟨p, b, rfl⟩ : ∃ p b, l = p ++ [b] := ⟨l.dropLast, l.getLast h1, (List.dropLast_concat_getLast h1).symm⟩
    have hb := h3 b (by simp)
    rw [valD_snoc]
    by_cases hp : p = []
    · subst hp
      have hb2 := hb
      obtain ⟨h4, h5⟩ := hb2
      rw [valD_nil, decDigits, dif_pos (by omega), show 48 + (10 * 0 + (b.toNat - 48)) = 48 + (b.toNat - 48) by omega, isD_back hb]; rfl
    · have hp2 : p.headD 0 ≠ 48 := by
        intro e2
        apply h2
        obtain ⟨x, t, rfl⟩ := List.exists_cons_of_ne_nil hp
        exact ⟨by simp, e2⟩
      have ip := ih p (by simpa using e) ⟨hp, fun h => hp2 h.2, fun x hx => h3 x (by simp [hx])⟩
      have hv : valD p ≠ 0 := by
        intro h0
        rw [h0, decDigits] at ip
        rw [← ip] at hp2
        exact hp2 rfl
      obtain ⟨h4, h5⟩ := hb
      rw [decDigits, dif_neg (by omega), show (10 * valD p + (b.toNat - 48)) / 10 = valD p by omega, show (10 * valD p + (b.toNat - 48)) % 10 = b.toNat - 48 by omega, ip, isD_back ⟨h4, h5⟩]
theorem digits_len (k : Nat) : ∀ n : Nat, n < 10 ^ (k + 1) → (decDigits n).length ≤ k + 1 := by
  induction k with
  | zero => intro n h; rw [decDigits, dif_pos (by simpa using h)]; simp
  | succ k ih =>
    intro n h
    rw [decDigits]
    split
    · simp
    · have := ih (n / 10) (by rw [Nat.pow_succ] at h; omega)
      rw [List.length_append]
      simpa using this
theorem valD_take_succ (l : List UInt8) (k : Nat) (h : k < l.length) : valD (l.take (k + 1)) = 10 * valD (l.take k) + ((l.getD k 0).toNat - 48) := by
  rw [List.take_add_one, List.getElem?_eq_getElem h]
  simp only [Option.toList]
  rw [valD_snoc]
  simp [List.getD, h]
/-- Does it begin with a sign? -/
def negD (l : List UInt8) : Bool := hasPrefix l [45]
/-- What is behind the sign. -/
def bodyD (l : List UInt8) : List UInt8 := trimPrefix l [45]
/-- The number that a decimal form stands for. -/
def numD (l : List UInt8) : Int := if negD l then -(valD (bodyD l) : Int) else (valD (bodyD l) : Int)
/-- Is it the decimal form of an integer? -/
def goodD (l : List UInt8) : Prop := decOK (bodyD l) ∧ ¬ (negD l = true ∧ bodyD l = [48])
theorem negD_cons (a : UInt8) (t : List UInt8) : negD (a :: t) = decide (a = 45) := by
  unfold negD hasPrefix
  rw [List.isPrefixOf, List.isPrefixOf, Bool.and_true]
  by_cases h : a = 45
  · subst h; rfl
  · rw [decide_eq_false h, beq_eq_false_iff_ne]; exact fun e => h e.symm
theorem bodyD_cons (a : UInt8) (t : List UInt8) : bodyD (a :: t) = if a = 45 then t else a :: t := by
  unfold bodyD trimPrefix
  have h := negD_cons a t
  unfold negD at h
  rw [h]
  by_cases h : a = 45
  · rw [if_pos h, if_pos (by simpa using h)]; rfl
  · rw [if_neg h, if_neg (by simpa using h)]
theorem bodyD_len (l : List UInt8) : (bodyD l).length ≤ l.length := by
  cases l with
  | nil => simp [bodyD, trimPrefix, hasPrefix]
  | cons a t => rw [bodyD_cons]; split <;> simp
theorem zText_parts (z : Int) : negD (zText z) = decide (z < 0) ∧ bodyD (zText z) = decDigits z.natAbs := by
  unfold zText
  by_cases h : z < 0
  · rw [decide_eq_true h]
    show negD (45 :: decDigits z.natAbs) = true ∧ bodyD (45 :: decDigits z.natAbs) = _
    rw [negD_cons, bodyD_cons]
    exact ⟨by simp, by simp⟩
  · rw [decide_eq_false h]
    show negD (decDigits z.natAbs) = false ∧ bodyD (decDigits z.natAbs) = _
    obtain ⟨b, t, e⟩ := List.exists_cons_of_ne_nil (digits_ne z.natAbs)
    have hb := digits_isD z.natAbs b (by rw [e]; simp)
    have hne : b ≠ 45 := by
      intro h2
      rw [h2] at hb
      exact absurd hb (by decide)
    rw [e, negD_cons, bodyD_cons]
    exact ⟨by simpa using hne, by rw [if_neg hne]⟩
theorem goodD_text (z : Int) : goodD (zText z) := by
  obtain ⟨h1, h2⟩ := zText_parts z
  refine ⟨by rw [h2]; exact decOK_digits _, ?_⟩
  rw [h1, h2]
  rintro ⟨h3, h4⟩
  have h5 := valD_digits z.natAbs
  rw [h4] at h5
  have h6 : valD [48] = 0 := by decide
  have := of_decide_eq_true h3
  omega
theorem numD_text (z : Int) : numD (zText z) = z := by
  obtain ⟨h1, h2⟩ := zText_parts z
  unfold numD
  rw [h1, h2, valD_digits]
  by_cases h : z < 0
  · rw [decide_eq_true h, if_pos rfl]; omega
  · rw [decide_eq_false h, if_neg (by simp)]; omega
theorem text_numD (l : List UInt8) (h : goodD l) : zText (numD l) = l := by
  obtain ⟨h1, h2⟩ := h
  have h3 := decOK_back _ h1
  cases l with
  | nil => exact absurd (by simp [bodyD, trimPrefix, hasPrefix]) h1.1
  | cons a t =>
    unfold numD zText
    rw [negD_cons] at h2 ⊢
    rw [bodyD_cons] at h1 h2 h3 ⊢
    by_cases ha : a = 45
    · rw [if_pos ha] at h1 h2 h3 ⊢
      rw [decide_eq_true ha] at h2 ⊢
      rw [if_pos rfl]
      have h4 : valD t ≠ 0 := by
        intro h0
        rw [h0, decDigits] at h3
        exact h2 ⟨rfl, h3.symm⟩
      rw [decide_eq_true (by omega), Int.natAbs_neg, Int.natAbs_natCast, h3, ha]; rfl
    · rw [if_neg ha] at h1 h2 h3 ⊢
      rw [decide_eq_false ha]
      rw [if_neg (by simp), decide_eq_false (by omega), Int.natAbs_natCast, h3]; rfl
theorem bad_text {l : List UInt8} (h : ¬ goodD l) (z : Int) : l ≠ zText z := fun e => h (by rw [e]; exact goodD_text z)
theorem valD_lt (l : List UInt8) (h : ∀ b ∈ l, isD b) : valD l < 10 ^ l.length := by
  suffices H : ∀ (n : Nat) (l : List UInt8), l.length = n → (∀ b ∈ l, isD b) → valD l < 10 ^ n from H _ l rfl h
  intro n
  induction n with
  | zero => intro l e _; rw [List.eq_nil_of_length_eq_zero e]; simp [valD]
  | succ n ih =>
    intro l e h
    have h1 : l ≠ [] := by intro h0; rw [h0] at e; simp at e
    obtain ⟨p, b, rfl⟩ : ∃ p b, l = p ++ [b] := ⟨l.dropLast, l.getLast h1, (List.dropLast_concat_getLast h1).symm⟩
    have hb := h b (by simp)
    obtain ⟨h4, h5⟩ := hb
    have := ih p (by simpa using e) (fun x hx => h x (by simp [hx]))
    rw [valD_snoc, Nat.pow_succ]; omega
theorem pow_chain (n k : Nat) (h : n ≤ 9 * k) : 10 ^ n ≤ 4294967296 ^ k := by
  have h5 : 10 ^ n ≤ 10 ^ (9 * k) := Nat.pow_le_pow_right (by omega) h
  rw [Nat.pow_mul] at h5
  exact Nat.le_trans h5 (Nat.pow_le_pow_left (by decide) _)
theorem text_bound (z : Int) (h : (zText z).length ≤ 2000) : z.natAbs < 4294967296 ^ 223 := by
  obtain ⟨h1, h2⟩ := zText_parts z
  have h3 := bodyD_len (zText z)
  rw [h2] at h3
  have h4 := valD_lt _ (digits_isD z.natAbs)
  rw [valD_digits] at h4
  exact Nat.lt_of_lt_of_le h4 (pow_chain _ 223 (by omega))
theorem text_len12 (z : Int) (h : z.natAbs < 4294967296 ^ 12) : (zText z).length ≤ 2000 := by
  have h1 : (4294967296 : Nat) ^ 12 ≤ (10 ^ 10) ^ 12 := Nat.pow_le_pow_left (by decide) _
  have h2 := digits_len 119 z.natAbs (by rw [show (10 : Nat) ^ (119 + 1) = (10 ^ 10) ^ 12 by rw [← Nat.pow_mul]]; omega)
  unfold zText signText
  rw [List.length_append]
  split <;> simp <;> omega
instance (l : List UInt8) : Decidable (decOK l) := inferInstanceAs (Decidable (_ ∧ _ ∧ _))
theorem isD_take {l : List UInt8} {k : Nat} (h : ∀ b ∈ l.take k, isD b) (hk : k < l.length) (h1 : isD (l.getD k 0)) : ∀ b ∈ l.take (k + 1), isD b := by
  intro b hb
  rw [List.take_add_one, List.getElem?_eq_getElem hk] at hb
  rcases List.mem_append.1 hb with hb | hb
  · exact h b hb
  · simp only [Option.toList, List.mem_singleton] at hb
    subst hb
    simpa [List.getD, hk] using h1
theorem getD_mem {l : List UInt8} {k : Nat} (hk : k < l.length) : l.getD k 0 ∈ l := by
  simp [List.getD, hk]
theorem byte_at (l : List UInt8) (k : Nat) (hk : k < l.length) (h : k < (⟨l.toArray⟩ : ByteArray).size) : (⟨l.toArray⟩ : ByteArray)[k]'h = l.getD k 0 := by
  simp only [List.getD, List.getElem?_eq_getElem hk, Option.getD_some]
  rfl

set_option maxRecDepth 100000 in
set_option maxHeartbeats 4000000 in
theorem decimal_any (l : List UInt8) (w : World) (hn : l.length ≤ 100000) :
    Calls Tryd.prog 67 #[.string ⟨l.toArray⟩] w fun e w' => e = .returned (.bool (decide (decOK l))) ∧ w = w' := by
  by_cases h0 : l = []
  · subst h0
    have hf : decide (decOK []) = false := by decide
    rw [hf]
    go_enter Tryd.func67, Tryd.ntmps67
    go_wp2_with fail
    go_ret
    exact ⟨rfl, rfl⟩
  · have hne : l.isEmpty = false := by cases l with | nil => exact absurd rfl h0 | cons a t => rfl
    have hpos : 0 < l.length := List.length_pos_iff.2 h0
    have hx0 := byte_at l 0 hpos
    have H0 := Lib.hid h0
    clear h0
    by_cases h1 : 1 < l.length ∧ l.headD 0 = 48
    · have hf : decide (decOK l) = false := decide_eq_false (fun h => h.2.1 h1)
      rw [hf]
      obtain ⟨h1, h2⟩ := h1
      have h3 : (l.getD 0 0).toNat = 48 := by
        cases l with
        | nil => simp at hpos
        | cons a t => simp only [List.headD] at h2; subst h2; rfl
      generalize l.getD 0 0 = b at *
      clear hf h2
      go_enter Tryd.func67, Tryd.ntmps67
      go_wp2_with fail
      go_ret
      exact ⟨rfl, rfl⟩
    · have hd1 : ¬ (1 < l.length ∧ (l.getD 0 0).toNat = 48) := by
        rintro ⟨h2, h3⟩
        refine h1 ⟨h2, ?_⟩
        cases l with
        | nil => simp at hpos
        | cons a t => exact UInt8.toNat_inj.1 h3
      have H1 := Lib.hid h1
      clear h1
      rcases Nat.lt_or_ge 1 l.length with h2 | h2
      · have h3 : ¬ ((l.getD 0 0).toNat : Int) = 48 := by
          intro h
          exact hd1 ⟨h2, by omega⟩
        clear hd1
        generalize l.getD 0 0 = b0 at *
        go_enter Tryd.func67, Tryd.ntmps67
        go_wp2_with fail
        go_loop [18] (fun v => ∃ k : Nat, v = .int .i64 k ∧ k ≤ l.length ∧ ∀ b ∈ l.take k, isD b) (fun v => l.length - (RowKit.intOf v).toNat)
        case atStart => exact ⟨0, rfl, by omega, by simp⟩
        case round =>
          obtain ⟨k, rfl, hk, hd⟩ := hrel
          have HDK := Lib.hid hd
          clear hd
          by_cases hk1 : k < l.length
          · have hx := byte_at l k hk1
            by_cases hlo : (l.getD k 0).toNat < 48
            · have hf : decide (decOK l) = false := decide_eq_false (fun h => by have := (h.2.2 _ (getD_mem hk1)).1; omega)
              have HF := Lib.hid hf
              clear hf
              generalize l.getD k 0 = x at *
              go_wp2_with fail
              go_ret
              exact ⟨congrArg (fun b => Ending.returned (.bool b)) HF.out.symm, rfl⟩
            · by_cases hhi : 57 < (l.getD k 0).toNat
              · have hf : decide (decOK l) = false := decide_eq_false (fun h => by have := (h.2.2 _ (getD_mem hk1)).2; omega)
                have HF := Lib.hid hf
                clear hf
                generalize l.getD k 0 = x at *
                go_wp2_with fail
                go_ret
                exact ⟨congrArg (fun b => Ending.returned (.bool b)) HF.out.symm, rfl⟩
              · have HN := Lib.hid (isD_take HDK.out hk1 ⟨by omega, by omega⟩)
                clear HDK
                generalize l.getD k 0 = x at *
                go_wp2_with fail
                go_round
                case rel => first | exact ⟨k + 1, rfl, by omega, HN.out⟩ | exact ⟨_, _, .int .i64 ((k : Int) + 1), ⟨k + 1, rfl, by omega, HN.out⟩, rfl, rfl, rfl⟩
                case measure => simp only [RowKit.intOf]; omega
          · obtain rfl : k = l.length := by omega
            have ht : decide (decOK l) = true := decide_eq_true ⟨H0.out, H1.out, by have h := HDK.out; rw [List.take_length] at h; exact h⟩
            have HF := Lib.hid ht
            clear ht
            go_wp2_with fail
            go_ret
            exact ⟨congrArg (fun b => Ending.returned (.bool b)) HF.out.symm, rfl⟩
      · clear hd1 hx0
        have h1 : l.length = 1 := by omega
        go_enter Tryd.func67, Tryd.ntmps67
        go_wp2_with fail
        go_loop [18] (fun v => ∃ k : Nat, v = .int .i64 k ∧ k ≤ l.length ∧ ∀ b ∈ l.take k, isD b) (fun v => l.length - (RowKit.intOf v).toNat)
        case atStart => exact ⟨0, rfl, by omega, by simp⟩
        case round =>
          obtain ⟨k, rfl, hk, hd⟩ := hrel
          have HDK := Lib.hid hd
          clear hd
          by_cases hk1 : k < l.length
          · have hx := byte_at l k hk1
            by_cases hlo : (l.getD k 0).toNat < 48
            · have hf : decide (decOK l) = false := decide_eq_false (fun h => by have := (h.2.2 _ (getD_mem hk1)).1; omega)
              have HF := Lib.hid hf
              clear hf
              generalize l.getD k 0 = x at *
              go_wp2_with fail
              go_ret
              exact ⟨congrArg (fun b => Ending.returned (.bool b)) HF.out.symm, rfl⟩
            · by_cases hhi : 57 < (l.getD k 0).toNat
              · have hf : decide (decOK l) = false := decide_eq_false (fun h => by have := (h.2.2 _ (getD_mem hk1)).2; omega)
                have HF := Lib.hid hf
                clear hf
                generalize l.getD k 0 = x at *
                go_wp2_with fail
                go_ret
                exact ⟨congrArg (fun b => Ending.returned (.bool b)) HF.out.symm, rfl⟩
              · have HN := Lib.hid (isD_take HDK.out hk1 ⟨by omega, by omega⟩)
                clear HDK
                generalize l.getD k 0 = x at *
                go_wp2_with fail
                go_round
                case rel => first | exact ⟨k + 1, rfl, by omega, HN.out⟩ | exact ⟨_, _, .int .i64 ((k : Int) + 1), ⟨k + 1, rfl, by omega, HN.out⟩, rfl, rfl, rfl⟩
                case measure => simp only [RowKit.intOf]; omega
          · obtain rfl : k = l.length := by omega
            have ht : decide (decOK l) = true := decide_eq_true ⟨H0.out, H1.out, by have h := HDK.out; rw [List.take_length] at h; exact h⟩
            have HF := Lib.hid ht
            clear ht
            go_wp2_with fail
            go_ret
            exact ⟨congrArg (fun b => Ending.returned (.bool b)) HF.out.symm, rfl⟩

/-- What value leaves after k digits. -/
structure ValAt (base : Nat) (w wr : World) (l : List UInt8) (k : Nat) (v : Value) (L : List Nat) : Prop where
  row : wr.ownsRow base 35 1 v L.length (ws L)
  lt : ∀ x ∈ L, x < 4294967296
  eq : val L = valD (l.take k)
  len : L.length ≤ k
  below : Below base w wr

set_option maxRecDepth 100000 in
set_option maxHeartbeats 4000000 in
theorem value_any (l : List UInt8) (w : World) (hn : l.length ≤ 2000) (hd : ∀ b ∈ l, isD b) :
    Calls Tryd.prog 68 #[.string ⟨l.toArray⟩] w fun e w' => ∃ v L, e = .returned v ∧ ValAt w.heap.size w w' l l.length v L := by
  have HD := Lib.hid hd
  clear hd
  obtain ⟨base, hbase⟩ : ∃ base, w.heap.size = base := ⟨_, rfl⟩
  have HB0 := Lib.hid hbase
  have hs0 : ValAt base w w l 0 (.slice none 0 0) [] := ⟨World.ownsRow_nil _ _ _ _, by simp, by simp [val, valD], by simp, Below.refl _ _⟩
  have HS0 := Lib.hid hs0
  rw [hbase]
  clear hs0 hbase
  go_enter Tryd.func68, Tryd.ntmps68
  go_wp2_with fail
  go_loopw [3, 4, 7] (fun v _ i wr => ∃ (k : Nat) (L : List Nat), k ≤ l.length ∧ i = .int .i64 k ∧ ValAt base w wr l k v L) (fun _ _ i _ => l.length - (RowKit.intOf i).toNat)
  case atStart => exact ⟨0, [], by omega, rfl, HS0.out⟩
  case round =>
    clear HS0
    obtain ⟨k, L, hk, rfl, hs⟩ := hrel
    by_cases hk1 : k < l.length
    · have hx := byte_at l k hk1
      have h9 := HD.out _ (getD_mem hk1)
      have htk := valD_take_succ l k hk1
      have HS := Lib.hid hs
      clear hs
      obtain ⟨d, hd⟩ : ∃ d, (l.getD k 0).toNat = 48 + d := ⟨(l.getD k 0).toNat - 48, by have := h9.1; omega⟩
      have hd9 : d ≤ 9 := by have := h9.2; omega
      generalize l.getD k 0 = b at *
      have HBD := Lib.hid hd
      rw [hd, show 48 + d - 48 = d by omega] at htk
      have HT := Lib.hid htk
      clear htk h9
      have hd8 : (b.toNat : Int) - 48 = (d : Int) := by omega
      clear hd
      go_wp2_with fail
      refine (appendDigit_any base _ L d wr HS.out.row HS.out.lt hd9 (by have := HS.out.below.size; have := HB0.out; omega) (by have := HS.out.len; omega)).mono ?_
      rintro e w1 ⟨v1, L1, rfl, hr1, hl1, he1, hn1, hb1⟩
      have HN := Lib.hid (show ValAt base w w1 l (k + 1) v1 L1 from ⟨hr1, hl1, by rw [he1, HS.out.eq, HT.out], by have := HS.out.len; omega, HS.out.below.trans hb1⟩)
      clear hr1 hl1 he1 hn1 hb1 HS HT
      go_wp2_with fail
      go_roundw
      case rel => exact ⟨k + 1, L1, by omega, by go_num, HN.out⟩
      case measure => simp only [RowKit.intOf]; omega
    · obtain rfl : k = l.length := by omega
      have HS := Lib.hid hs
      clear hs
      go_wp2_with fail
      go_ret
      exact ⟨_, L, rfl, HS.out⟩
end Go.Proofs.YtccndofafljaaaaDoor
