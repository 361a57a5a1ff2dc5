/- integer.subtractTimes, integer.addBack -/
import Derived.Test.YtgfoplokplnpgaaDoorEst
namespace Go.Proofs.YtgfoplokplnpgaaDoor
open Go Go.RowKit Num

/-- The difference of two words in 64 bits, round the corner. -/
def subw (p low : Nat) : Nat := (p + 18446744073709551616 - low) % 18446744073709551616
theorem subw_spec {p low : Nat} (hp : p < 4294967296) (hl : low < 4294967296) :
    subw p low < 18446744073709551616 ∧ subw p low / 9223372036854775808 < 2 ∧ subw p low % 4294967296 + low = p + 4294967296 * (subw p low / 9223372036854775808) ∧
    IntKind.u64.wrap ((p : Int) - (low : Int)) = (subw p low : Int) := by
  have e : IntKind.u64.wrap ((p : Int) - (low : Int)) = ((p : Int) - (low : Int)) % 18446744073709551616 := by simp [IntKind.wrap, IntKind.bits, IntKind.signed]
  rw [e]
  unfold subw
  omega

/-- WHAT HOLDS AT THE HEAD OF subtractTimes' LOOP. -/
structure SubAt (w wr : World) (g : Nat) (pre S : List Nat) (ex : List Value) (d : List Nat) (q k c : Nat) (done : List Nat) : Prop where
  own : OwnX wr g (pre ++ (done ++ S.drop k)) ex
  len : done.length = k
  lt : ∀ x ∈ done, x < 4294967296
  carry : c < 4294967296
  eq : val (S.take k) + 4294967296 ^ k * c = val done + q * val (d.take k)
  grown : w.grownBy wr (some g)

theorem sub_carry {c m low L : Nat} (hc : c < 4294967296) (hm : m ≤ 18446744065119617025) (hlow : low = (c + m) % 4294967296) (hL : L / 9223372036854775808 < 2) (hL2 : low = 0 → L / 9223372036854775808 = 0) :
    (c + m) / 4294967296 + L / 9223372036854775808 < 4294967296 := by omega

theorem set_mid (pre done : List Nat) (y x : Nat) (rest : List Nat) : (pre ++ (done ++ y :: rest)).set (pre.length + done.length) x = pre ++ ((done ++ [x]) ++ rest) := by
  rw [List.set_append_right _ _ (by omega), Nat.add_sub_cancel_left, set_done]
  simp

theorem getD_mid (pre done S : List Nat) (k : Nat) (hd : done.length = k) (hk : k < S.length) : (pre ++ (done ++ S.drop k)).getD (pre.length + k) 0 = S.getD k 0 := by
  simp only [List.getD_eq_getElem?_getD]
  rw [List.getElem?_append_right (by omega), Nat.add_sub_cancel_left, List.getElem?_append_right (by omega), hd, Nat.sub_self, List.getElem?_drop, Nat.add_zero]

theorem SubAt.step {w wr : World} {g : Nat} {pre S : List Nat} {ex : List Value} {d : List Nat} {q k c : Nat} {done : List Nat} (h : SubAt w wr g pre S ex d q k c done)
    (hk : k < S.length) (hS : ∀ x ∈ S, x < 4294967296) (hd : ∀ x ∈ d, x < 4294967296) (hq : q < 4294967296) :
    SubAt w (wr.setCell ⟨g, pre.length + k, none⟩ (.int .u32 ((subw (S.getD k 0) ((c + d.getD k 0 * q) % 4294967296) % 4294967296 : Nat) : Int))) g pre S ex d q (k + 1)
      ((c + d.getD k 0 * q) / 4294967296 + subw (S.getD k 0) ((c + d.getD k 0 * q) % 4294967296) / 9223372036854775808) (done ++ [subw (S.getD k 0) ((c + d.getD k 0 * q) % 4294967296) % 4294967296]) := by
  have hp := getD_lt hS k
  have hx := getD_lt hd k
  have hm : d.getD k 0 * q ≤ 4294967295 * 4294967295 := Nat.mul_le_mul (by omega) (by omega)
  have hc := h.carry
  obtain ⟨s1, s2, s3, _⟩ := subw_spec hp (Nat.mod_lt (c + d.getD k 0 * q) (by omega : 4294967296 > 0))
  have hlen := h.len
  have he := h.eq
  refine ⟨?_, by rw [List.length_append, hlen]; rfl, ?_, ?_, ?_, grown_trans h.grown (grown_set _ _ _ _)⟩
  · have e := h.own.set (i := pre.length + k) (by simp; omega) (subw (S.getD k 0) ((c + d.getD k 0 * q) % 4294967296) % 4294967296)
    rw [List.drop_eq_getElem_cons hk] at e
    have hs := set_mid pre done S[k] (subw (S.getD k 0) ((c + d.getD k 0 * q) % 4294967296) % 4294967296) (S.drop (k + 1))
    rw [hlen] at hs
    rw [hs] at e
    exact e
  · intro x hx'
    rcases List.mem_append.1 hx' with h1 | h1
    · exact h.lt x h1
    · rw [List.mem_singleton] at h1; rw [h1]; omega
  · refine sub_carry hc (by omega) rfl s2 fun h0 => ?_
    rw [h0]
    unfold subw
    omega
  · rw [val_snoc, hlen, val_take_succ, val_take_succ, Nat.pow_succ, Nat.mul_add, Nat.mul_add]
    generalize 4294967296 ^ k = P at *
    generalize subw (S.getD k 0) ((c + d.getD k 0 * q) % 4294967296) = L at *
    generalize S.getD k 0 = p at *
    have e1 : q * (P * d.getD k 0) = P * (d.getD k 0 * q) := by rw [Nat.mul_left_comm, Nat.mul_comm q]
    rw [e1]
    generalize d.getD k 0 * q = m at *
    have e2 : P * 4294967296 * ((c + m) / 4294967296) + P * 4294967296 * (L / 9223372036854775808) + P * p = P * (L % 4294967296) + P * c + P * m := by
      have e3 : 4294967296 * ((c + m) / 4294967296) + 4294967296 * (L / 9223372036854775808) + p = L % 4294967296 + c + m := by omega
      have e4 := congrArg (fun z => P * z) e3
      simp only [Nat.mul_add] at e4
      rw [Nat.mul_assoc, Nat.mul_assoc]
      exact e4
    omega

theorem SubAt.start {w : World} {g : Nat} {pre S : List Nat} {ex : List Value} (h : OwnX w g (pre ++ S) ex) (d : List Nat) (q : Nat) : SubAt w w g pre S ex d q 0 0 [] :=
  ⟨by simpa using h, rfl, by simp, by omega, by simp [val], grown_refl _ _⟩

/-- What subtractTimes leaves: the difference, and whether it went round the corner. -/
def Subbed (w w' : World) (g : Nat) (pre S : List Nat) (ex : List Value) (d : List Nat) (q m : Nat) (b : Bool) : Prop :=
  ∃ (R : List Nat) (t : Nat), R.length = m + 1 ∧ (∀ x ∈ R, x < 4294967296) ∧ OwnX w' g (pre ++ (R ++ S.drop (m + 1))) ex ∧ w.grownBy w' (some g) ∧
    val (S.take (m + 1)) + 4294967296 ^ (m + 1) * t = val R + q * val d ∧ b = decide (t ≠ 0)

theorem SubAt.done {w wr : World} {g : Nat} {pre S : List Nat} {ex : List Value} {d : List Nat} {q c : Nat} {done : List Nat} (h : SubAt w wr g pre S ex d q d.length c done)
    (hk : d.length < S.length) (hS : ∀ x ∈ S, x < 4294967296) :
    Subbed w (wr.setCell ⟨g, pre.length + d.length, none⟩ (.int .u32 ((subw (S.getD d.length 0) c % 4294967296 : Nat) : Int))) g pre S ex d q d.length ((((subw (S.getD d.length 0) c : Nat) : Int) / 9223372036854775808) != 0) := by
  have hp := getD_lt hS d.length
  obtain ⟨s1, s2, s3, _⟩ := subw_spec hp h.carry
  have hlen := h.len
  have he := h.eq
  refine ⟨done ++ [subw (S.getD d.length 0) c % 4294967296], subw (S.getD d.length 0) c / 9223372036854775808, by rw [List.length_append, hlen]; rfl, ?_, ?_, grown_trans h.grown (grown_set _ _ _ _), ?_, ?_⟩
  · intro x hx'
    rcases List.mem_append.1 hx' with h1 | h1
    · exact h.lt x h1
    · rw [List.mem_singleton] at h1; rw [h1]; omega
  · have e := h.own.set (i := pre.length + d.length) (by simp; omega) (subw (S.getD d.length 0) c % 4294967296)
    rw [List.drop_eq_getElem_cons hk] at e
    have hs := set_mid pre done S[d.length] (subw (S.getD d.length 0) c % 4294967296) (S.drop (d.length + 1))
    rw [hlen] at hs
    rw [hs] at e
    exact e
  · rw [List.take_length] at he
    rw [val_snoc, hlen, val_take_succ, Nat.pow_succ]
    generalize 4294967296 ^ d.length = P at *
    generalize subw (S.getD d.length 0) c = L at *
    generalize S.getD d.length 0 = p at *
    have e2 : P * 4294967296 * (L / 9223372036854775808) + P * p = P * (L % 4294967296) + P * c := by
      rw [Nat.mul_assoc, ← Nat.mul_add, ← Nat.mul_add]
      congr 1
      omega
    omega
  · generalize subw (S.getD d.length 0) c = L at *
    have : ((L : Int) / 9223372036854775808) = ((L / 9223372036854775808 : Nat) : Int) := by omega
    rw [this]
    by_cases h0 : L / 9223372036854775808 = 0
    · simp [h0]
    · have h1 : ((L / 9223372036854775808 : Nat) : Int) ≠ 0 := by omega
      rw [bne_iff_ne.2 h1, decide_eq_true h0]

set_option maxRecDepth 100000 in
set_option maxHeartbeats 2000000 in
theorem subtractTimes_any (g cap : Nat) (v2 : Value) (pre S d : List Nat) (ex : List Value) (q : Nat) (w : World) (h : OwnX w g (pre ++ S) ex) (hS : ∀ x ∈ S, x < 4294967296) (h2 : U32 w v2 d) (hne : ∀ b off n c, v2 = .slice (some ⟨b, off, none⟩) n c → b ≠ g)
    (hk : d.length < S.length) (hp : pre.length ≤ 1000000) (hl : S.length ≤ 1000000) (hq : q < 4294967296) :
    Calls Tryd.prog 97 #[.slice (some ⟨g, pre.length, none⟩) (d.length + 1) cap, v2, .int .u32 q] w fun e w' => ∃ b, e = .returned (.bool b) ∧ Subbed w w' g pre S ex d q d.length b := by
  obtain ⟨A2, cap2, rfl, -, -, hf2⟩ := id h2.form
  have h0 := SubAt.start h d q
  go_enter Tryd.func97, Tryd.ntmps97
  go_wp2
  go_loopw [7, 8, 9, 10, 15] (fun cy _ _ _ i wr => ∃ (k c : Nat) (done : List Nat), k ≤ d.length ∧ cy = .int .u64 c ∧ i = .int .i64 k ∧ SubAt w wr g pre S ex d q k c done) (fun _ _ _ _ i _ => d.length - (intOf i).toNat)
  case atStart => exact ⟨0, 0, [], Nat.zero_le _, rfl, rfl, h0⟩
  case round =>
    obtain ⟨k, c, done, hkd, rfl, rfl, hs⟩ := hrel
    have hlen := hs.len
    have hcy := hs.carry
    have hc0 := hs.own.cell (i := pre.length + k) (by simp; omega)
    rw [getD_mid pre done S k hlen (by omega)] at hc0
    have hfz := hs.own.frozen (pre.length + k)
    have a1 := getD_lt hS k
    by_cases hk1 : k < d.length
    · obtain ⟨b2, o2, rfl, hb2, hcell2⟩ := hf2 (by intro h; rw [h] at hk1; simp at hk1)
      have hy := hs.grown.cell (hcell2 k hk1) (by intro he; injection he with he; exact hne b2 o2 _ _ rfl he)
      have a2 := getD_lt h2.lt k
      have HS := Lib.hid (hs.step (by omega) hS h2.lt hq)
      have hm : d.getD k 0 * q ≤ 4294967295 * 4294967295 := Nat.mul_le_mul (by omega) (by omega)
      clear hs h0 hf2 hcell2
      generalize d.getD k 0 = x at *
      generalize S.getD k 0 = p at *
      have hm1 : 0 ≤ (x : Int) * (q : Int) := by rw [← Int.natCast_mul]; exact Int.natCast_nonneg _
      have hm2 : (x : Int) * (q : Int) < 18446744073709551616 := by rw [← Int.natCast_mul]; omega
      have hsum : (c : Int) + (x : Int) * (q : Int) = ((c + x * q : Nat) : Int) := by rw [Int.natCast_add, Int.natCast_mul]
      have hsb : c + x * q < 18446744073709551616 := by omega
      obtain ⟨s, hse⟩ : ∃ s, s = c + x * q := ⟨_, rfl⟩
      rw [← hse] at hsum hsb HS
      have hwp := (subw_spec a1 (Nat.mod_lt s (by omega : 4294967296 > 0))).2.2.2
      have hwb := (subw_spec a1 (Nat.mod_lt s (by omega : 4294967296 > 0))).1
      rw [show ((s % 4294967296 : Nat) : Int) = (s : Int) % 4294967296 from by omega] at hwp
      clear hse hm
      generalize subw p (s % 4294967296) = L at *
      go_wp2
      go_roundw
      case rel => exact ⟨k + 1, s / 4294967296 + L / 9223372036854775808, _, by omega, by go_num, by go_num, HS.out⟩
      case measure => simp only [intOf]; omega
    · obtain rfl : k = d.length := by omega
      have HS := Lib.hid (hs.done hk hS)
      have hwp := (subw_spec a1 hcy).2.2.2
      have hwb := (subw_spec a1 hcy).1
      clear hs h0 hf2
      generalize S.getD d.length 0 = p at *
      generalize subw p c = L at *
      go_wp2
      go_ret
      exact ⟨_, rfl, HS.out⟩
end Go.Proofs.YtgfoplokplnpgaaDoor
