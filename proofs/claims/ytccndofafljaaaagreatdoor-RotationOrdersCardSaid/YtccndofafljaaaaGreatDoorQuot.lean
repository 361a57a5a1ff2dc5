/- integer.estimate
   integer.subtractTimes, integer.addBack
   integer.addBack
   integer.takeOff
   integer.divideLong
   integer.divide -/
import Derived.Test.YtccndofafljaaaaGreatDoorMagn

set_option linter.unusedVariables false
set_option linter.unusedSimpArgs false

namespace Go.Proofs.YtccndofafljaaaaGreatDoor
open Go Go.RowKit Num

/-- The estimate of a word of the quotient by three and two words: the greatest word that is not too great for them. -/
structure Est (h s p2 p1 p0 q : Nat) : Prop where
  lt : q < 4294967296
  le : q * (h * 4294967296 + s) ≤ (p2 * 4294967296 + p1) * 4294967296 + p0
  most : ∀ x, x < 4294967296 → x * (h * 4294967296 + s) ≤ (p2 * 4294967296 + p1) * 4294967296 + p0 → x ≤ q

/-- WHAT HOLDS AT THE HEAD OF estimate's LOOP. -/
structure EstAt (h s p2 p1 p0 q r : Nat) : Prop where
  eq : q * h + r = p2 * 4294967296 + p1
  rlt : r < 8589934592
  most : ∀ x, x < 4294967296 → x * (h * 4294967296 + s) ≤ (p2 * 4294967296 + p1) * 4294967296 + p0 → x ≤ q

theorem EstAt.qle {h s p2 p1 p0 q r : Nat} (e : EstAt h s p2 p1 p0 q r) (hh : 0 < h) (hp : p2 * 4294967296 + p1 < 18446744073709551616) : q < 18446744073709551616 := by
  have := Nat.le_mul_of_pos_right q hh
  have := e.eq
  omega

theorem EstAt.start {h s p2 p1 p0 : Nat} (hh : 0 < h) (hh2 : h < 4294967296) (h0 : p0 < 4294967296) : EstAt h s p2 p1 p0 ((p2 * 4294967296 + p1) / h) ((p2 * 4294967296 + p1) % h) := by
  refine ⟨by rw [Nat.mul_comm]; exact Nat.div_add_mod _ _, by have := Nat.mod_lt (p2 * 4294967296 + p1) hh; omega, fun x _ hx => ?_⟩
  rw [Nat.le_div_iff_mul_le hh]
  rw [Nat.mul_add, ← Nat.mul_assoc] at hx
  omega

theorem EstAt.step {h s p2 p1 p0 q r : Nat} (e : EstAt h s p2 p1 p0 q r) (hr : r < 4294967296) (hh2 : h < 4294967296) (hc : 4294967296 ≤ q ∨ r * 4294967296 + p0 < q * s) : 1 ≤ q ∧ EstAt h s p2 p1 p0 (q - 1) (r + h) := by
  have hq1 : 1 ≤ q := by
    rcases hc with hc | hc
    · omega
    · rcases Nat.eq_zero_or_pos q with h0 | h0
      · subst h0; omega
      · exact h0
  refine ⟨hq1, ?_, by omega, fun x hx hle => ?_⟩
  · have := e.eq
    obtain ⟨k, rfl⟩ : ∃ k, q = k + 1 := ⟨q - 1, by omega⟩
    rw [Nat.add_mul, Nat.one_mul] at this
    simp only [Nat.add_sub_cancel]
    omega
  · have h1 := e.most x hx hle
    rcases hc with hc | hc
    · omega
    · rcases Nat.lt_or_ge x q with h2 | h2
      · omega
      · exfalso
        have hxq : x = q := by omega
        subst hxq
        rw [Nat.mul_add, ← Nat.mul_assoc, ← e.eq] at hle
        rw [Nat.add_mul] at hle
        omega

theorem EstAt.done {h s p2 p1 p0 q r : Nat} (e : EstAt h s p2 p1 p0 q r) (hh : 0 < h) (hs : s < 4294967296) (hp2 : p2 ≤ h) (hp1 : p1 < 4294967296) (hc : 4294967296 ≤ r ∨ (q < 4294967296 ∧ q * s ≤ r * 4294967296 + p0)) : Est h s p2 p1 p0 q := by
  have he := e.eq
  have hq : q < 4294967296 := by
    rcases hc with hc | hc
    · have h1 : p2 * 4294967296 ≤ h * 4294967296 := Nat.mul_le_mul_right _ hp2
      have h2 : q * h < 4294967296 * h := by rw [Nat.mul_comm 4294967296]; omega
      exact Nat.lt_of_mul_lt_mul_right h2
    · exact hc.1
  refine ⟨hq, ?_, e.most⟩
  have h3 : q * s ≤ r * 4294967296 + p0 := by
    rcases hc with hc | hc
    · have h4 : q * s ≤ 4294967295 * 4294967295 := Nat.mul_le_mul (by omega) (by omega)
      omega
    · exact hc.2
  rw [Nat.mul_add, ← Nat.mul_assoc, ← he, Nat.add_mul]
  omega

set_option maxRecDepth 100000 in
set_option maxHeartbeats 2000000 in
theorem estimate_any (v1 v2 : Value) (lp ld : List Nat) (m : Nat) (w : World) (h1 : U32 w v1 lp) (h2 : U32 w v2 ld) (hlp : lp.length = m + 3) (hld : ld.length = m + 2) (hm : m ≤ 1000000)
    (hh : 0 < ld.getD (m + 1) 0) (hp2 : lp.getD (m + 2) 0 ≤ ld.getD (m + 1) 0) :
    Calls Tryz.prog 122 #[v1, v2] w fun e w' => ∃ q : Nat, e = .returned (.int .u32 q) ∧ Est (ld.getD (m + 1) 0) (ld.getD m 0) (lp.getD (m + 2) 0) (lp.getD (m + 1) 0) (lp.getD m 0) q ∧ ∃ n, w' = w.drewN n := by
  obtain ⟨A1, cap1, rfl, -, -, hf1⟩ := id h1.form
  obtain ⟨A2, cap2, rfl, -, -, hf2⟩ := id h2.form
  obtain ⟨b1, o1, rfl, hb1, hc1⟩ := hf1 (by intro h; rw [h, List.length_nil] at hlp; omega)
  obtain ⟨b2, o2, rfl, hb2, hc2⟩ := hf2 (by intro h; rw [h, List.length_nil] at hld; omega)
  have x2 := hc1 (m + 2) (by omega)
  have x1 := hc1 (m + 1) (by omega)
  have x0 := hc1 m (by omega)
  have y1 := hc2 (m + 1) (by omega)
  have y0 := hc2 m (by omega)
  have bx2 := getD_lt h1.lt (m + 2)
  have bx1 := getD_lt h1.lt (m + 1)
  have bx0 := getD_lt h1.lt m
  have by1 := getD_lt h2.lt (m + 1)
  have by0 := getD_lt h2.lt m
  rw [hlp, hld]
  clear h1 h2 hf1 hf2 hc1 hc2 hlp hld
  generalize lp.getD (m + 2) 0 = p2 at *
  generalize lp.getD (m + 1) 0 = p1 at *
  generalize lp.getD m 0 = p0 at *
  generalize ld.getD (m + 1) 0 = h at *
  generalize ld.getD m 0 = s at *
  have hor := or_join64' p2 p1 bx2 bx1
  have hst := EstAt.start (s := s) (p2 := p2) (p1 := p1) hh by1 bx0
  have htop : p2 * 4294967296 + p1 < 18446744073709551616 := by omega
  have HS := Lib.hid hst
  have hh' : (1 : Int) ≤ (h : Int) := by omega
  clear hst
  have HT : Hid (∃ t, t = p2 * 4294967296 + p1) := ⟨_, rfl⟩
  obtain ⟨t, ht⟩ := HT.out
  rw [← ht] at hor htop HS
  have HTE := Lib.hid ht
  clear HT ht
  have hq0 : (t : Int) / (h : Int) = ((t / h : Nat) : Int) := (Int.natCast_ediv _ _).symm
  have hr0 : (t : Int) % (h : Int) = ((t % h : Nat) : Int) := (Int.natCast_emod _ _).symm
  have hqb0 : t / h < 18446744073709551616 := Nat.lt_of_le_of_lt (Nat.div_le_self _ _) htop
  generalize t / h = q0 at *
  generalize t % h = r0 at *
  go_enter Tryz.func122, Tryz.ntmps122
  go_wp2
  go_quiet (fail)
  go_wp2
  go_quiet (fail)
  go_wp2
  have HR0 := Lib.hid hr0
  clear hor hq0 hr0
  go_loopw [8, 9] (fun qv rv wr => ∃ (q r n : Nat), qv = .int .u64 q ∧ rv = .int .u64 r ∧ EstAt h s p2 p1 p0 q r ∧ wr = w.drewN n) (fun _ rv _ => (4294967296 - intOf rv).toNat)
  case atStart => exact ⟨q0, r0, _, by go_num, by first | rfl | rw [HR0.out], HS.out, by rw [World.drewN_drewN]⟩
  case round =>
    obtain ⟨q, r, n, rfl, rfl, he, rfl⟩ := hrel
    have hq := he.qle hh (by rw [← HTE.out]; exact htop)
    have hrl := he.rlt
    have HE := Lib.hid he
    clear he HS
    by_cases hr : r < 4294967296
    · have g1 : ((r : Int) / 4294967296 == 0) = true := by rw [beq_iff_eq]; omega
      by_cases hqb : q < 4294967296
      · have g2 : ((q : Int) / 4294967296 != 0) = false := by rw [bne_eq_false_iff_eq]; omega
        have hor2 := or_join64' r p0 hr bx0
        have hm : q * s ≤ 4294967295 * 4294967295 := Nat.mul_le_mul (by omega) (by omega)
        have hm1 : 0 ≤ (q : Int) * (s : Int) := by rw [← Int.natCast_mul]; exact Int.natCast_nonneg _
        have hm2 : (q : Int) * (s : Int) < 18446744073709551616 := by rw [← Int.natCast_mul]; omega
        have HM : Hid ((q : Int) * (s : Int) = ((q * s : Nat) : Int)) := (Int.natCast_mul _ _).symm
        by_cases hg : r * 4294967296 + p0 < q * s
        · have g3 : decide (((r * 4294967296 + p0 : Nat) : Int) < (q : Int) * (s : Int)) = true := by rw [decide_eq_true_iff, HM.out]; omega
          have HST := Lib.hid (HE.out.step hr by1 (.inr hg))
          have hq1 := HST.out.1
          clear hg hm
          obtain ⟨rp, hrp⟩ : ∃ rp, rp = r * 4294967296 + p0 := ⟨_, rfl⟩
          rw [← hrp] at g3 hor2
          have hrpb : rp < 18446744073709551616 := by omega
          clear hrp
          have hrI : (r : Int) < 4294967296 := by omega
          go_wp2
          go_quiet (fail)
          go_wp2
          go_roundw
          case rel => exact ⟨q - 1, r + h, n + nq, by go_num, by go_num, HST.out.2, rfl⟩
          case measure => simp only [intOf]; omega
        · have g3 : decide (((r * 4294967296 + p0 : Nat) : Int) < (q : Int) * (s : Int)) = false := by rw [decide_eq_false_iff_not, HM.out]; omega
          have HD := Lib.hid (HE.out.done hh by0 hp2 bx1 (.inr ⟨hqb, by omega⟩))
          clear hm
          obtain ⟨rp, hrp⟩ : ∃ rp, rp = r * 4294967296 + p0 := ⟨_, rfl⟩
          rw [← hrp] at g3 hor2
          have hrpb : rp < 18446744073709551616 := by omega
          clear hrp hg
          go_wp2
          go_quiet (fail)
          go_wp2
          go_ret
          exact ⟨q, rfl, HD.out, _, rfl⟩
      · have g2 : ((q : Int) / 4294967296 != 0) = true := by rw [bne_iff_ne]; omega
        have HST := Lib.hid (HE.out.step hr by1 (.inl (by omega)))
        have hq1 := HST.out.1
        have hrI : (r : Int) < 4294967296 := by omega
        go_wp2
        go_quiet (fail)
        go_wp2
        go_roundw
        case rel => exact ⟨q - 1, r + h, n + nq, by go_num, by go_num, HST.out.2, rfl⟩
        case measure => simp only [intOf]; omega
    · have g1 : ((r : Int) / 4294967296 == 0) = false := by rw [beq_eq_false_iff_ne]; omega
      have HD := Lib.hid (HE.out.done hh by0 hp2 bx1 (.inl (by omega)))
      have hqb := HD.out.lt
      go_wp2
      go_quiet (fail)
      go_wp2
      go_ret
      exact ⟨q, rfl, HD.out, _, rfl⟩
end Go.Proofs.YtccndofafljaaaaGreatDoor

namespace Go.Proofs.YtccndofafljaaaaGreatDoor
open Go Go.RowKit Num

/-- The difference of two words in 64 bits, round the corner. -/
def subw (p low : Nat) : Nat := (p + 18446744073709551616 - low) % 18446744073709551616
theorem subw_spec {p low : Nat} (hp : p < 4294967296) (hl : low < 4294967296) :
    subw p low < 18446744073709551616 ∧ subw p low / 9223372036854775808 < 2 ∧ subw p low % 4294967296 + low = p + 4294967296 * (subw p low / 9223372036854775808) ∧
    IntKind.u64.wrap ((p : Int) - (low : Int)) = (subw p low : Int) := by
  have e : IntKind.u64.wrap ((p : Int) - (low : Int)) = ((p : Int) - (low : Int)) % 18446744073709551616 := by simp [IntKind.wrap, IntKind.bits, IntKind.signed]
  rw [e]
  unfold subw
  omega

/-- WHAT HOLDS AT THE HEAD OF subtractTimes' LOOP. -/
structure SubAt (w wr : World) (g : Nat) (pre S : List Nat) (ex : List Value) (d : List Nat) (q k c : Nat) (done : List Nat) : Prop where
  own : OwnX wr g (pre ++ (done ++ S.drop k)) ex
  len : done.length = k
  lt : ∀ x ∈ done, x < 4294967296
  carry : c < 4294967296
  eq : val (S.take k) + 4294967296 ^ k * c = val done + q * val (d.take k)
  grown : w.grownBy wr (some g)

theorem sub_carry {c m low L : Nat} (hc : c < 4294967296) (hm : m ≤ 18446744065119617025) (hlow : low = (c + m) % 4294967296) (hL : L / 9223372036854775808 < 2) (hL2 : low = 0 → L / 9223372036854775808 = 0) :
    (c + m) / 4294967296 + L / 9223372036854775808 < 4294967296 := by omega

theorem set_mid (pre done : List Nat) (y x : Nat) (rest : List Nat) : (pre ++ (done ++ y :: rest)).set (pre.length + done.length) x = pre ++ ((done ++ [x]) ++ rest) := by
  rw [List.set_append_right _ _ (by omega), Nat.add_sub_cancel_left, set_done]
  simp

theorem getD_mid (pre done S : List Nat) (k : Nat) (hd : done.length = k) (hk : k < S.length) : (pre ++ (done ++ S.drop k)).getD (pre.length + k) 0 = S.getD k 0 := by
  simp only [List.getD_eq_getElem?_getD]
  rw [List.getElem?_append_right (by omega), Nat.add_sub_cancel_left, List.getElem?_append_right (by omega), hd, Nat.sub_self, List.getElem?_drop, Nat.add_zero]

theorem SubAt.step {w wr : World} {g : Nat} {pre S : List Nat} {ex : List Value} {d : List Nat} {q k c : Nat} {done : List Nat} (h : SubAt w wr g pre S ex d q k c done)
    (hk : k < S.length) (hS : ∀ x ∈ S, x < 4294967296) (hd : ∀ x ∈ d, x < 4294967296) (hq : q < 4294967296) :
    SubAt w (wr.setCell ⟨g, pre.length + k, none⟩ (.int .u32 ((subw (S.getD k 0) ((c + d.getD k 0 * q) % 4294967296) % 4294967296 : Nat) : Int))) g pre S ex d q (k + 1)
      ((c + d.getD k 0 * q) / 4294967296 + subw (S.getD k 0) ((c + d.getD k 0 * q) % 4294967296) / 9223372036854775808) (done ++ [subw (S.getD k 0) ((c + d.getD k 0 * q) % 4294967296) % 4294967296]) := by
  have hp := getD_lt hS k
  have hx := getD_lt hd k
  have hm : d.getD k 0 * q ≤ 4294967295 * 4294967295 := Nat.mul_le_mul (by omega) (by omega)
  have hc := h.carry
  obtain ⟨s1, s2, s3, _⟩ := subw_spec hp (Nat.mod_lt (c + d.getD k 0 * q) (by omega : 4294967296 > 0))
  have hlen := h.len
  have he := h.eq
  refine ⟨?_, by rw [List.length_append, hlen]; rfl, ?_, ?_, ?_, grown_trans h.grown (grown_set _ _ _ _)⟩
  · have e := h.own.set (i := pre.length + k) (by simp; omega) (subw (S.getD k 0) ((c + d.getD k 0 * q) % 4294967296) % 4294967296)
    rw [List.drop_eq_getElem_cons hk] at e
    have hs := set_mid pre done S[k] (subw (S.getD k 0) ((c + d.getD k 0 * q) % 4294967296) % 4294967296) (S.drop (k + 1))
    rw [hlen] at hs
    rw [hs] at e
    exact e
  · intro x hx'
    rcases List.mem_append.1 hx' with h1 | h1
    · exact h.lt x h1
    · rw [List.mem_singleton] at h1; rw [h1]; omega
  · refine sub_carry hc (by omega) rfl s2 fun h0 => ?_
    rw [h0]
    unfold subw
    omega
  · rw [val_snoc, hlen, val_take_succ, val_take_succ, Nat.pow_succ, Nat.mul_add, Nat.mul_add]
    generalize 4294967296 ^ k = P at *
    generalize subw (S.getD k 0) ((c + d.getD k 0 * q) % 4294967296) = L at *
    generalize S.getD k 0 = p at *
    have e1 : q * (P * d.getD k 0) = P * (d.getD k 0 * q) := by rw [Nat.mul_left_comm, Nat.mul_comm q]
    rw [e1]
    generalize d.getD k 0 * q = m at *
    have e2 : P * 4294967296 * ((c + m) / 4294967296) + P * 4294967296 * (L / 9223372036854775808) + P * p = P * (L % 4294967296) + P * c + P * m := by
      have e3 : 4294967296 * ((c + m) / 4294967296) + 4294967296 * (L / 9223372036854775808) + p = L % 4294967296 + c + m := by omega
      have e4 := congrArg (fun z => P * z) e3
      simp only [Nat.mul_add] at e4
      rw [Nat.mul_assoc, Nat.mul_assoc]
      exact e4
    omega

theorem SubAt.start {w : World} {g : Nat} {pre S : List Nat} {ex : List Value} (h : OwnX w g (pre ++ S) ex) (d : List Nat) (q : Nat) : SubAt w w g pre S ex d q 0 0 [] :=
  ⟨by simpa using h, rfl, by simp, by omega, by simp [val], grown_refl _ _⟩

/-- What subtractTimes leaves: the difference, and whether it went round the corner. -/
def Subbed (w w' : World) (g : Nat) (pre S : List Nat) (ex : List Value) (d : List Nat) (q m : Nat) (b : Bool) : Prop :=
  ∃ (R : List Nat) (t : Nat), R.length = m + 1 ∧ (∀ x ∈ R, x < 4294967296) ∧ OwnX w' g (pre ++ (R ++ S.drop (m + 1))) ex ∧ w.grownBy w' (some g) ∧
    val (S.take (m + 1)) + 4294967296 ^ (m + 1) * t = val R + q * val d ∧ b = decide (t ≠ 0)

theorem SubAt.done {w wr : World} {g : Nat} {pre S : List Nat} {ex : List Value} {d : List Nat} {q c : Nat} {done : List Nat} (h : SubAt w wr g pre S ex d q d.length c done)
    (hk : d.length < S.length) (hS : ∀ x ∈ S, x < 4294967296) :
    Subbed w (wr.setCell ⟨g, pre.length + d.length, none⟩ (.int .u32 ((subw (S.getD d.length 0) c % 4294967296 : Nat) : Int))) g pre S ex d q d.length ((((subw (S.getD d.length 0) c : Nat) : Int) / 9223372036854775808) != 0) := by
  have hp := getD_lt hS d.length
  obtain ⟨s1, s2, s3, _⟩ := subw_spec hp h.carry
  have hlen := h.len
  have he := h.eq
  refine ⟨done ++ [subw (S.getD d.length 0) c % 4294967296], subw (S.getD d.length 0) c / 9223372036854775808, by rw [List.length_append, hlen]; rfl, ?_, ?_, grown_trans h.grown (grown_set _ _ _ _), ?_, ?_⟩
  · intro x hx'
    rcases List.mem_append.1 hx' with h1 | h1
    · exact h.lt x h1
    · rw [List.mem_singleton] at h1; rw [h1]; omega
  · have e := h.own.set (i := pre.length + d.length) (by simp; omega) (subw (S.getD d.length 0) c % 4294967296)
    rw [List.drop_eq_getElem_cons hk] at e
    have hs := set_mid pre done S[d.length] (subw (S.getD d.length 0) c % 4294967296) (S.drop (d.length + 1))
    rw [hlen] at hs
    rw [hs] at e
    exact e
  · rw [List.take_length] at he
    rw [val_snoc, hlen, val_take_succ, Nat.pow_succ]
    generalize 4294967296 ^ d.length = P at *
    generalize subw (S.getD d.length 0) c = L at *
    generalize S.getD d.length 0 = p at *
    have e2 : P * 4294967296 * (L / 9223372036854775808) + P * p = P * (L % 4294967296) + P * c := by
      rw [Nat.mul_assoc, ← Nat.mul_add, ← Nat.mul_add]
      congr 1
      omega
    omega
  · generalize subw (S.getD d.length 0) c = L at *
    have : ((L : Int) / 9223372036854775808) = ((L / 9223372036854775808 : Nat) : Int) := by omega
    rw [this]
    by_cases h0 : L / 9223372036854775808 = 0
    · simp [h0]
    · have h1 : ((L / 9223372036854775808 : Nat) : Int) ≠ 0 := by omega
      rw [bne_iff_ne.2 h1, decide_eq_true h0]

set_option maxRecDepth 100000 in
set_option maxHeartbeats 2000000 in
theorem subtractTimes_any (g cap : Nat) (v2 : Value) (pre S d : List Nat) (ex : List Value) (q : Nat) (w : World) (h : OwnX w g (pre ++ S) ex) (hS : ∀ x ∈ S, x < 4294967296) (h2 : U32 w v2 d) (hne : ∀ b off n c, v2 = .slice (some ⟨b, off, none⟩) n c → b ≠ g)
    (hk : d.length < S.length) (hp : pre.length ≤ 1000000) (hl : S.length ≤ 1000000) (hq : q < 4294967296) :
    Calls Tryz.prog 123 #[.slice (some ⟨g, pre.length, none⟩) (d.length + 1) cap, v2, .int .u32 q] w fun e w' => ∃ b, e = .returned (.bool b) ∧ Subbed w w' g pre S ex d q d.length b := by
  obtain ⟨A2, cap2, rfl, -, -, hf2⟩ := id h2.form
  have h0 := SubAt.start h d q
  go_enter Tryz.func123, Tryz.ntmps123
  go_wp2
  go_loopw [7, 8, 9, 10, 15] (fun cy _ _ _ i wr => ∃ (k c : Nat) (done : List Nat), k ≤ d.length ∧ cy = .int .u64 c ∧ i = .int .i64 k ∧ SubAt w wr g pre S ex d q k c done) (fun _ _ _ _ i _ => d.length - (intOf i).toNat)
  case atStart => exact ⟨0, 0, [], Nat.zero_le _, rfl, rfl, h0⟩
  case round =>
    obtain ⟨k, c, done, hkd, rfl, rfl, hs⟩ := hrel
    have hlen := hs.len
    have hcy := hs.carry
    have hc0 := hs.own.cell (i := pre.length + k) (by simp; omega)
    rw [getD_mid pre done S k hlen (by omega)] at hc0
    have hfz := hs.own.frozen (pre.length + k)
    have a1 := getD_lt hS k
    by_cases hk1 : k < d.length
    · obtain ⟨b2, o2, rfl, hb2, hcell2⟩ := hf2 (by intro h; rw [h] at hk1; simp at hk1)
      have hy := hs.grown.cell (hcell2 k hk1) (by intro he; injection he with he; exact hne b2 o2 _ _ rfl he)
      have a2 := getD_lt h2.lt k
      have HS := Lib.hid (hs.step (by omega) hS h2.lt hq)
      have hm : d.getD k 0 * q ≤ 4294967295 * 4294967295 := Nat.mul_le_mul (by omega) (by omega)
      clear hs h0 hf2 hcell2
      generalize d.getD k 0 = x at *
      generalize S.getD k 0 = p at *
      have hm1 : 0 ≤ (x : Int) * (q : Int) := by rw [← Int.natCast_mul]; exact Int.natCast_nonneg _
      have hm2 : (x : Int) * (q : Int) < 18446744073709551616 := by rw [← Int.natCast_mul]; omega
      have hsum : (c : Int) + (x : Int) * (q : Int) = ((c + x * q : Nat) : Int) := by rw [Int.natCast_add, Int.natCast_mul]
      have hsb : c + x * q < 18446744073709551616 := by omega
      obtain ⟨s, hse⟩ : ∃ s, s = c + x * q := ⟨_, rfl⟩
      rw [← hse] at hsum hsb HS
      have hwp := (subw_spec a1 (Nat.mod_lt s (by omega : 4294967296 > 0))).2.2.2
      have hwb := (subw_spec a1 (Nat.mod_lt s (by omega : 4294967296 > 0))).1
      rw [show ((s % 4294967296 : Nat) : Int) = (s : Int) % 4294967296 from by omega] at hwp
      clear hse hm
      generalize subw p (s % 4294967296) = L at *
      go_wp2
      go_roundw
      case rel => exact ⟨k + 1, s / 4294967296 + L / 9223372036854775808, _, by omega, by go_num, by go_num, HS.out⟩
      case measure => simp only [intOf]; omega
    · obtain rfl : k = d.length := by omega
      have HS := Lib.hid (hs.done hk hS)
      have hwp := (subw_spec a1 hcy).2.2.2
      have hwb := (subw_spec a1 hcy).1
      clear hs h0 hf2
      generalize S.getD d.length 0 = p at *
      generalize subw p c = L at *
      go_wp2
      go_ret
      exact ⟨_, rfl, HS.out⟩
end Go.Proofs.YtccndofafljaaaaGreatDoor

namespace Go.Proofs.YtccndofafljaaaaGreatDoor
open Go Go.RowKit Num

/-- WHAT HOLDS AT THE HEAD OF addBack's LOOP. -/
structure AddAt (w wr : World) (g : Nat) (pre S : List Nat) (ex : List Value) (d : List Nat) (k c : Nat) (done : List Nat) : Prop where
  own : OwnX wr g (pre ++ (done ++ S.drop k)) ex
  len : done.length = k
  lt : ∀ x ∈ done, x < 4294967296
  carry : c < 2
  eq : val done + 4294967296 ^ k * c = val (S.take k) + val (d.take k)
  grown : w.grownBy wr (some g)

theorem AddAt.step {w wr : World} {g : Nat} {pre S : List Nat} {ex : List Value} {d : List Nat} {k c : Nat} {done : List Nat} (h : AddAt w wr g pre S ex d k c done)
    (hk : k < S.length) (hS : ∀ x ∈ S, x < 4294967296) (hd : ∀ x ∈ d, x < 4294967296) :
    AddAt w (wr.setCell ⟨g, pre.length + k, none⟩ (.int .u32 (((c + (S.getD k 0 + d.getD k 0)) % 4294967296 : Nat) : Int))) g pre S ex d (k + 1)
      ((c + (S.getD k 0 + d.getD k 0)) / 4294967296) (done ++ [(c + (S.getD k 0 + d.getD k 0)) % 4294967296]) := by
  have hp := getD_lt hS k
  have hx := getD_lt hd k
  have hc := h.carry
  have hlen := h.len
  have he := h.eq
  refine ⟨?_, by rw [List.length_append, hlen]; rfl, ?_, by omega, ?_, grown_trans h.grown (grown_set _ _ _ _)⟩
  · have e := h.own.set (i := pre.length + k) (by simp; omega) ((c + (S.getD k 0 + d.getD k 0)) % 4294967296)
    rw [List.drop_eq_getElem_cons hk] at e
    have hs := set_mid pre done S[k] ((c + (S.getD k 0 + d.getD k 0)) % 4294967296) (S.drop (k + 1))
    rw [hlen] at hs
    rw [hs] at e
    exact e
  · intro x hx'
    rcases List.mem_append.1 hx' with h1 | h1
    · exact h.lt x h1
    · rw [List.mem_singleton] at h1; rw [h1]; omega
  · rw [val_snoc, hlen, val_take_succ, val_take_succ, Nat.pow_succ, Nat.add_assoc, carry_join', Nat.mul_add, Nat.mul_add]
    omega

theorem AddAt.start {w : World} {g : Nat} {pre S : List Nat} {ex : List Value} (h : OwnX w g (pre ++ S) ex) (d : List Nat) : AddAt w w g pre S ex d 0 0 [] :=
  ⟨by simpa using h, rfl, by simp, by omega, by simp [val], grown_refl _ _⟩

/-- What addBack leaves: the sum, but for what goes round the corner. -/
def Added (w w' : World) (g : Nat) (pre S : List Nat) (ex : List Value) (d : List Nat) (m : Nat) : Prop :=
  ∃ (R : List Nat) (t : Nat), R.length = m + 1 ∧ (∀ x ∈ R, x < 4294967296) ∧ OwnX w' g (pre ++ (R ++ S.drop (m + 1))) ex ∧ w.grownBy w' (some g) ∧
    val R + 4294967296 ^ (m + 1) * t = val (S.take (m + 1)) + val d

theorem AddAt.done {w wr : World} {g : Nat} {pre S : List Nat} {ex : List Value} {d : List Nat} {c : Nat} {done : List Nat} (h : AddAt w wr g pre S ex d d.length c done)
    (hk : d.length < S.length) (hS : ∀ x ∈ S, x < 4294967296) :
    Added w (wr.setCell ⟨g, pre.length + d.length, none⟩ (.int .u32 (((S.getD d.length 0 + c) % 4294967296 : Nat) : Int))) g pre S ex d d.length := by
  have hp := getD_lt hS d.length
  have hlen := h.len
  have he := h.eq
  refine ⟨done ++ [(S.getD d.length 0 + c) % 4294967296], (S.getD d.length 0 + c) / 4294967296, by rw [List.length_append, hlen]; rfl, ?_, ?_, grown_trans h.grown (grown_set _ _ _ _), ?_⟩
  · intro x hx'
    rcases List.mem_append.1 hx' with h1 | h1
    · exact h.lt x h1
    · rw [List.mem_singleton] at h1; rw [h1]; omega
  · have e := h.own.set (i := pre.length + d.length) (by simp; omega) ((S.getD d.length 0 + c) % 4294967296)
    rw [List.drop_eq_getElem_cons hk] at e
    have hs := set_mid pre done S[d.length] ((S.getD d.length 0 + c) % 4294967296) (S.drop (d.length + 1))
    rw [hlen] at hs
    rw [hs] at e
    exact e
  · rw [List.take_length] at he
    rw [val_snoc, hlen, val_take_succ, Nat.pow_succ, Nat.add_assoc, carry_join', Nat.mul_add]
    omega

set_option maxRecDepth 100000 in
set_option maxHeartbeats 2000000 in
theorem addBack_any (g cap : Nat) (v2 : Value) (pre S d : List Nat) (ex : List Value) (w : World) (h : OwnX w g (pre ++ S) ex) (hS : ∀ x ∈ S, x < 4294967296) (h2 : U32 w v2 d) (hne : ∀ b off n c, v2 = .slice (some ⟨b, off, none⟩) n c → b ≠ g)
    (hk : d.length < S.length) (hp : pre.length ≤ 1000000) (hl : S.length ≤ 1000000) :
    Calls Tryz.prog 124 #[.slice (some ⟨g, pre.length, none⟩) (d.length + 1) cap, v2] w fun e w' => e = .returned (.tuple #[]) ∧ Added w w' g pre S ex d d.length := by
  obtain ⟨A2, cap2, rfl, -, -, hf2⟩ := id h2.form
  have h0 := AddAt.start h d
  go_enter Tryz.func124, Tryz.ntmps124
  go_wp2
  go_loopw [4, 5, 6, 9] (fun cy _ _ i wr => ∃ (k c : Nat) (done : List Nat), k ≤ d.length ∧ cy = .int .u64 c ∧ i = .int .i64 k ∧ AddAt w wr g pre S ex d k c done) (fun _ _ _ i _ => d.length - (intOf i).toNat)
  case atStart => exact ⟨0, 0, [], Nat.zero_le _, rfl, rfl, h0⟩
  case round =>
    obtain ⟨k, c, done, hkd, rfl, rfl, hs⟩ := hrel
    have hlen := hs.len
    have hcy := hs.carry
    have hc0 := hs.own.cell (i := pre.length + k) (by simp; omega)
    rw [getD_mid pre done S k hlen (by omega)] at hc0
    have hfz := hs.own.frozen (pre.length + k)
    have a1 := getD_lt hS k
    by_cases hk1 : k < d.length
    · obtain ⟨b2, o2, rfl, hb2, hcell2⟩ := hf2 (by intro h; rw [h] at hk1; simp at hk1)
      have hy := hs.grown.cell (hcell2 k hk1) (by intro he; injection he with he; exact hne b2 o2 _ _ rfl he)
      have a2 := getD_lt h2.lt k
      have HS := Lib.hid (hs.step (by omega) hS h2.lt)
      clear hs h0 hf2 hcell2
      generalize d.getD k 0 = x at *
      generalize S.getD k 0 = p at *
      go_wp2
      go_roundw
      case rel => exact ⟨k + 1, (c + (p + x)) / 4294967296, _, by omega, by go_num, by go_num, HS.out⟩
      case measure => simp only [intOf]; omega
    · obtain rfl : k = d.length := by omega
      have HS := Lib.hid (hs.done hk hS)
      clear hs h0 hf2
      generalize S.getD d.length 0 = p at *
      have hw : IntKind.u32.wrap ((p : Int) + (c : Int)) = (((p + c) % 4294967296 : Nat) : Int) := by rw [IntKind.wrap_u32]; omega
      go_wp2
      go_end0
      exact ⟨rfl, HS.out⟩
end Go.Proofs.YtccndofafljaaaaGreatDoor

namespace Go.Proofs.YtccndofafljaaaaGreatDoor
open Go Go.RowKit Num

theorem OwnX.part {w : World} {g : Nat} {pre S : List Nat} {ex : List Value} (h : OwnX w g (pre ++ S) ex) (hS : ∀ x ∈ S, x < 4294967296) {n cap : Nat} (hn : n ≤ S.length) (hc : n ≤ cap) (hm : cap ≤ maxLen) :
    U32 w (.slice (some ⟨g, pre.length, none⟩) n cap) (S.take n) := by
  have hlen : (S.take n).length = n := by simp; omega
  refine ⟨fun x hx => hS x (List.mem_of_mem_take hx), some ⟨g, pre.length, none⟩, cap, by rw [hlen], by omega, hm, fun _ => ⟨g, pre.length, rfl, h.lt, fun i hi => ?_⟩⟩
  rw [hlen] at hi
  rw [h.cell (by simp; omega)]
  congr 2
  simp only [List.getD_eq_getElem?_getD]
  rw [List.getElem?_append_right (by omega), Nat.add_sub_cancel_left, List.getElem?_take, if_pos hi]

theorem split2 {l : List Nat} {m : Nat} (hl : l.length = m + 2) : val l = val (l.take m) + 4294967296 ^ m * (l.getD (m + 1) 0 * 4294967296 + l.getD m 0) := by
  have h1 := val_take_succ l (m + 1)
  rw [List.take_of_length_le (by omega), val_take_succ l m, Nat.pow_succ] at h1
  rw [h1, Nat.mul_add, Nat.mul_assoc, Nat.mul_comm 4294967296 (l.getD (m + 1) 0)]
  omega
theorem split3 {l : List Nat} {m : Nat} (hl : l.length = m + 3) : val l = val (l.take m) + 4294967296 ^ m * ((l.getD (m + 2) 0 * 4294967296 + l.getD (m + 1) 0) * 4294967296 + l.getD m 0) := by
  have h1 := val_take_succ l (m + 2)
  rw [List.take_of_length_le (by omega), val_take_succ l (m + 1), val_take_succ l m] at h1
  simp only [Nat.pow_succ] at h1
  rw [h1]
  generalize 4294967296 ^ m = E
  generalize l.getD (m + 2) 0 = a
  generalize l.getD (m + 1) 0 = b
  generalize l.getD m 0 = c
  have e1 : E * 4294967296 * 4294967296 * a = E * (a * 4294967296 * 4294967296) := by rw [Nat.mul_assoc, Nat.mul_assoc, Nat.mul_comm a, ← Nat.mul_assoc 4294967296, Nat.mul_comm (4294967296 * a) 4294967296, Nat.mul_assoc]
  have e2 : E * 4294967296 * b = E * (b * 4294967296) := by rw [Nat.mul_assoc, Nat.mul_comm b]
  rw [e1, e2, Nat.add_mul, Nat.mul_add, Nat.mul_add]
  omega

theorem top_le {E D0 P0 h s N p2 p1 p0 D P : Nat} (hD : D = D0 + E * (h * 4294967296 + s)) (hD0 : D0 < E) (hs : s < 4294967296) (hP : P = P0 + E * N) (hN : N = (p2 * 4294967296 + p1) * 4294967296 + p0) (hlt : P < D * 4294967296) : p2 ≤ h := by
  rcases Nat.lt_or_ge h p2 with hgt | hle
  · exfalso
    have h1 : (h * 4294967296 + s + 1) * 4294967296 ≤ N := by omega
    have h2 : E * ((h * 4294967296 + s + 1) * 4294967296) ≤ E * N := Nat.mul_le_mul_left _ h1
    have h3 : D * 4294967296 ≤ (E * (h * 4294967296 + s + 1)) * 4294967296 := by
      refine Nat.mul_le_mul_right _ ?_
      rw [Nat.mul_add E _ 1]; omega
    rw [Nat.mul_assoc] at h3
    omega
  · exact hle

/-- The estimate is right, or one too great. -/
theorem est_ok {E D0 P0 h s p2 p1 p0 D P q : Nat} (hD : D = D0 + E * (h * 4294967296 + s)) (hD0 : D0 < E) (hP0 : P0 < E) (hh : 0 < h)
    (hP : P = P0 + E * ((p2 * 4294967296 + p1) * 4294967296 + p0)) (hlt : P < D * 4294967296) (e : Est h s p2 p1 p0 q) : P / D ≤ q ∧ q ≤ P / D + 1 := by
  have hDpos : 0 < D := by
    rcases Nat.eq_zero_or_pos D with h0 | h0
    · rw [h0] at hlt; omega
    · exact h0
  constructor
  · refine e.most _ (Nat.div_lt_of_lt_mul hlt) ?_
    have h1 : P / D * D ≤ P := Nat.div_mul_le_self _ _
    have h2 : P / D * (E * (h * 4294967296 + s)) ≤ P / D * D := Nat.mul_le_mul_left _ (by omega)
    rw [Nat.mul_left_comm] at h2
    have h3 : E * (P / D * (h * 4294967296 + s)) < E * ((p2 * 4294967296 + p1) * 4294967296 + p0 + 1) := by rw [Nat.mul_add E _ 1]; omega
    have := Nat.lt_of_mul_lt_mul_left h3
    omega
  · rcases Nat.eq_zero_or_pos q with h0 | h0
    · rw [h0]; exact Nat.zero_le _
    · obtain ⟨k, rfl⟩ : ∃ k, q = k + 1 := ⟨q - 1, by omega⟩
      refine Nat.succ_le_succ ((Nat.le_div_iff_mul_le hDpos).2 ?_)
      have hk := e.lt
      have he := e.le
      have h1 : k * D ≤ k * (E * (h * 4294967296 + s + 1)) := Nat.mul_le_mul_left _ (by rw [Nat.mul_add E _ 1]; omega)
      rw [Nat.mul_left_comm] at h1
      have h2 : k * (h * 4294967296 + s + 1) ≤ (k + 1) * (h * 4294967296 + s) := by
        rw [Nat.mul_add k _ 1, Nat.add_mul]
        omega
      have h3 : E * (k * (h * 4294967296 + s + 1)) ≤ E * ((p2 * 4294967296 + p1) * 4294967296 + p0) := Nat.mul_le_mul_left _ (Nat.le_trans h2 he)
      omega

/-- Whether the product fits decides between the two. -/
theorem fits {P D q Z R : Nat} (hD : 0 < D) (h1 : P / D ≤ q) (e : P = R + q * D) (hR : R < Z) : q = P / D ∧ R = P % D := by
  have h2 : q ≤ P / D := (Nat.le_div_iff_mul_le hD).2 (by omega)
  have h3 : q = P / D := by omega
  refine ⟨h3, ?_⟩
  have := Nat.div_add_mod P D
  rw [Nat.mul_comm, ← h3] at this
  omega
theorem fits_not {P D q Z R R' t' : Nat} (hD : 0 < D) (h1 : P / D ≤ q) (h2 : q ≤ P / D + 1) (e : P + Z = R + q * D) (hR : R < Z) (hDZ : D ≤ Z) (hR' : R' < Z) (e' : R' + Z * t' = R + D) : q = P / D + 1 ∧ R' = P % D := by
  have h3 : q = P / D + 1 := by
    rcases Nat.lt_or_ge (P / D) q with h | h
    · omega
    · have : q = P / D := by omega
      have h4 := Nat.div_mul_le_self P D
      rw [← this] at h4
      omega
  refine ⟨h3, ?_⟩
  have h4 := Nat.div_add_mod P D
  have h5 := Nat.mod_lt P hD
  rw [Nat.mul_comm] at h4
  rw [h3, Nat.add_mul, Nat.one_mul] at e
  have ht : t' = 1 := by
    rcases Nat.lt_trichotomy t' 1 with h | h | h
    · have : t' = 0 := by omega
      rw [this, Nat.mul_zero] at e'
      omega
    · exact h
    · have : Z * 2 ≤ Z * t' := Nat.mul_le_mul_left _ h
      omega
  rw [ht, Nat.mul_one] at e'
  omega

/-- What takeOff leaves. -/
def Taken (w w' : World) (g : Nat) (pre S : List Nat) (ex : List Value) (m r : Nat) : Prop :=
  ∃ R : List Nat, R.length = m + 1 ∧ (∀ x ∈ R, x < 4294967296) ∧ OwnX w' g (pre ++ (R ++ S.drop (m + 1))) ex ∧ w.grownBy w' (some g) ∧ val R = r

theorem taken_fits {w w1 w' : World} {g : Nat} {pre S : List Nat} {ex : List Value} {d : List Nat} {q : Nat} {m : Nat} (hg : w.grownBy w1 (some g)) (h : Subbed w1 w' g pre S ex d q m false) (hD : 0 < val d) (h1 : val (S.take (m + 1)) / val d ≤ q) :
    q = val (S.take (m + 1)) / val d ∧ Taken w w' g pre S ex m (val (S.take (m + 1)) % val d) := by
  obtain ⟨R, t, hl, hlt, ho, hgr, he, hb⟩ := h
  have ht : t = 0 := by
    by_cases h0 : t = 0
    · exact h0
    · rw [decide_eq_true h0] at hb; cases hb
  rw [ht, Nat.mul_zero, Nat.add_zero] at he
  have hR := val_lt hlt
  obtain ⟨e1, e2⟩ := fits hD h1 he hR
  exact ⟨e1, R, hl, hlt, ho, grown_trans hg hgr, e2⟩

theorem taken_not {w w1 w2 w' : World} {g : Nat} {pre S R : List Nat} {ex : List Value} {d : List Nat} {q : Nat} {m t : Nat} (hg : w.grownBy w1 (some g)) (hl : R.length = m + 1) (hlt : ∀ x ∈ R, x < 4294967296) (hgr : w1.grownBy w2 (some g))
    (he : val (S.take (m + 1)) + 4294967296 ^ (m + 1) * t = val R + q * val d) (ht : true = decide (t ≠ 0)) (hA : Added w2 w' g pre (R ++ S.drop (m + 1)) ex d m) (hD : 0 < val d) (hDZ : val d ≤ 4294967296 ^ (m + 1)) (h1 : val (S.take (m + 1)) / val d ≤ q) (h2 : q ≤ val (S.take (m + 1)) / val d + 1) :
    q = val (S.take (m + 1)) / val d + 1 ∧ Taken w w' g pre S ex m (val (S.take (m + 1)) % val d) := by
  obtain ⟨R', t', hl', hlt', ho', hgr', he'⟩ := hA
  have ht0 : t ≠ 0 := by
    intro h0; rw [h0] at ht; simp at ht
  have hd1 : (R ++ S.drop (m + 1)).take (m + 1) = R := by rw [List.take_append_of_le_length (by omega), List.take_of_length_le (by omega)]
  have hd2 : (R ++ S.drop (m + 1)).drop (m + 1) = S.drop (m + 1) := by rw [← hl, List.drop_left]
  rw [hd1] at he'
  rw [hd2] at ho'
  have hR := val_lt hlt
  have hR' := val_lt hlt'
  rw [hl] at hR
  rw [hl'] at hR'
  generalize 4294967296 ^ (m + 1) = Z at *
  have ht1 : t = 1 := by
    rcases Nat.lt_or_ge t 2 with h | h
    · omega
    · exfalso
      have h3 : Z * 2 ≤ Z * t := Nat.mul_le_mul_left _ h
      have h4 := Nat.div_mul_le_self (val (S.take (m + 1))) (val d)
      have h5 : q * val d ≤ (val (S.take (m + 1)) / val d + 1) * val d := Nat.mul_le_mul_right _ h2
      rw [Nat.add_mul, Nat.one_mul] at h5
      omega
  rw [ht1, Nat.mul_one] at he
  obtain ⟨e1, e2⟩ := fits_not hD h1 h2 he hR hDZ hR' he'
  exact ⟨e1, R', hl', hlt', ho', grown_trans hg (grown_trans hgr hgr'), e2⟩

set_option maxRecDepth 100000 in
set_option maxHeartbeats 2000000 in
theorem takeOff_any (g cap : Nat) (v2 : Value) (pre S d : List Nat) (ex : List Value) (m : Nat) (w : World) (h : OwnX w g (pre ++ S) ex) (hS : ∀ x ∈ S, x < 4294967296) (h2 : U32 w v2 d) (hne : ∀ b off n c, v2 = .slice (some ⟨b, off, none⟩) n c → b ≠ g)
    (hd : d.length = m + 2) (hk : d.length < S.length) (hp : pre.length ≤ 1000000) (hl : S.length ≤ 1000000) (hc : d.length + 1 ≤ cap) (hm : cap ≤ maxLen) (hh : 0 < d.getD (m + 1) 0) (hlt : val (S.take (d.length + 1)) < val d * 4294967296) :
    Calls Tryz.prog 114 #[.slice (some ⟨g, pre.length, none⟩) (d.length + 1) cap, v2] w fun e w' => e = .returned (.int .u32 ((val (S.take (d.length + 1)) / val d : Nat) : Int)) ∧ Taken w w' g pre S ex d.length (val (S.take (d.length + 1)) % val d) := by
  have hU := h.part hS (n := d.length + 1) (by omega) hc hm
  have hsl : (S.take (d.length + 1)).length = m + 3 := by rw [List.length_take]; omega
  have hDs := split2 hd
  have hPs := split3 hsl
  have hD0 := take_val_lt h2.lt (k := m) (by omega)
  have hP0 := take_val_lt hU.lt (k := m) (by omega)
  have hs0 := getD_lt h2.lt m
  have htop := top_le hDs hD0 hs0 hPs rfl hlt
  have hDpos : 0 < val d := by
    rcases Nat.eq_zero_or_pos (val d) with h0 | h0
    · rw [h0] at hlt; omega
    · exact h0
  have hDZ : val d ≤ 4294967296 ^ (d.length + 1) := by
    have := val_lt h2.lt
    rw [Nat.pow_succ]; omega
  have hEst := fun q (e : Est _ _ _ _ _ q) => est_ok hDs hD0 hP0 hh hPs hlt e
  have HE := Lib.hid hEst
  have HDP := Lib.hid hDpos
  have HDZ := Lib.hid hDZ
  have c1 := estimate_any _ v2 _ d m w hU h2 hsl hd (by omega) hh htop
  have HC := Lib.hid c1
  have HDL := Lib.hid hd
  clear hEst hDZ hDpos hlt hDs hPs hD0 hP0 hs0 htop c1 hsl hd
  go_enter Tryz.func114, Tryz.ntmps114
  go_wp2_with fail
  refine HC.out.mono ?_
  rintro e w1 ⟨q, rfl, hq, n, rfl⟩
  have hqlt := hq.lt
  obtain ⟨hq1, hq2⟩ := HE.out q hq
  have HQ1 := Lib.hid hq1
  have HQ2 := Lib.hid hq2
  clear hq1 hq2 hq HC
  have c2 := subtractTimes_any g cap v2 pre S d ex q (w.drewN n) (h.drewN n) hS (h2.below ⟨rfl, rfl, rfl, Nat.le_refl _, fun _ _ => rfl⟩) hne hk hp hl hqlt
  have HC2 := Lib.hid c2
  clear c2
  go_wp2_with fail
  refine HC2.out.mono ?_
  rintro e w1 ⟨b, rfl, hsub⟩
  rcases b with _ | _
  · have HT := Lib.hid (taken_fits (grown_drewN w _ n) hsub HDP.out HQ1.out)
    clear hsub
    go_wp2
    go_ret
    exact ⟨ret_int (by rw [HT.out.1]), HT.out.2⟩
  · obtain ⟨R, t, hRl, hRlt, ho, hgr, he, ht⟩ := hsub
    have hRS : ∀ x ∈ R ++ S.drop (d.length + 1), x < 4294967296 := by
      intro x hx
      rcases List.mem_append.1 hx with h1 | h1
      · exact hRlt x h1
      · exact hS x (List.mem_of_mem_drop h1)
    have h2' : U32 w1 v2 d := by
      refine ⟨h2.lt, ?_⟩
      obtain ⟨A, c2, rfl, e1, e2, e3⟩ := h2.form
      refine ⟨A, c2, rfl, e1, e2, fun hne' => ?_⟩
      obtain ⟨b, off, rfl, hb, hcell⟩ := e3 hne'
      exact ⟨b, off, rfl, Nat.lt_of_lt_of_le hb hgr.size, fun i hi => hgr.cell (hcell i hi) (by intro he; injection he with he; exact hne b off _ _ rfl he)⟩
    have hq1 : 1 ≤ q := by
      rcases Nat.eq_zero_or_pos q with h0 | h0
      · exfalso
        have ht0 : t ≠ 0 := by intro h1; rw [h1] at ht; simp at ht
        rw [h0, Nat.zero_mul, Nat.add_zero] at he
        have h3 := val_lt hRlt
        rw [hRl] at h3
        have : 4294967296 ^ (d.length + 1) ≤ 4294967296 ^ (d.length + 1) * t := Nat.le_mul_of_pos_right _ (by omega)
        omega
      · exact h0
    have HE2 := Lib.hid he
    have HT2 := Lib.hid ht
    have HRL := Lib.hid hRl
    have hlen2 : d.length < (R ++ S.drop (d.length + 1)).length ∧ (R ++ S.drop (d.length + 1)).length ≤ 1000000 := by
      rw [List.length_append, List.length_drop, hRl]; omega
    obtain ⟨hl3, hl4⟩ := hlen2
    clear he ht hRl
    have c3 := addBack_any g cap v2 pre (R ++ S.drop (d.length + 1)) d ex w1 ho hRS h2' hne hl3 hp hl4
    have HC3 := Lib.hid c3
    clear c3 hl3 hl4 HC2 HDL
    go_wp2_with fail
    refine HC3.out.mono ?_
    rintro e w2 ⟨rfl, hA⟩
    have HT := Lib.hid (taken_not (grown_drewN w _ n) HRL.out hRlt hgr HE2.out HT2.out hA HDP.out HDZ.out HQ1.out HQ2.out)
    clear hA
    go_wp2
    go_ret
    exact ⟨ret_int (by rw [HT.out.1]; omega), HT.out.2⟩
end Go.Proofs.YtccndofafljaaaaGreatDoor

namespace Go.Proofs.YtccndofafljaaaaGreatDoor
open Go Go.RowKit Num

/-- WHAT HOLDS AT THE HEAD OF divideLong's LOOP, the words of the quotient from k on done. -/
structure DivAt (w wr : World) (gq g : Nat) (ex : List Value) (vd : Value) (ld : List Nat) (nq A k : Nat) (X Q : List Nat) : Prop where
  oq : Own wr gq (List.replicate k 0 ++ Q)
  ox : OwnX wr g X ex
  ud : U32 wr vd ld
  xlen : X.length = nq + ld.length
  qlen : k + Q.length = nq
  xlt : ∀ x ∈ X, x < 4294967296
  qlt : ∀ x ∈ Q, x < 4294967296
  small : val (X.drop k) < val ld
  eq : A = val X + 4294967296 ^ k * (val ld * val Q)
  below : Below w.heap.size w wr

theorem drop_high {X : List Nat} (h : ∀ x ∈ X, x < 4294967296) {k m : Nat} (hs : val (X.drop k) < 4294967296 ^ m) : val (X.drop (k + m)) = 0 := by
  have h1 := val_drop_div (l := X.drop k) (fun x hx => h x (List.mem_of_mem_drop hx)) m
  rw [List.drop_drop, Nat.div_eq_of_lt hs] at h1
  exact h1

theorem val_split (X : List Nat) (i : Nat) (hi : i ≤ X.length) : val X = val (X.take i) + 4294967296 ^ i * val (X.drop i) := by
  have h := val_append (X.take i) (X.drop i)
  rw [List.take_append_drop, List.length_take, Nat.min_eq_left hi] at h
  exact h

theorem DivAt.part {w wr : World} {gq g : Nat} {ex : List Value} {vd : Value} {ld : List Nat} {nq A i : Nat} {X Q : List Nat} (h : DivAt w wr gq g ex vd ld nq A (i + 1) X Q) :
    val ((X.drop i).take (ld.length + 1)) = val (X.drop i) ∧ val (X.drop i) < val ld * 4294967296 ∧ val ((X.drop i).drop (ld.length + 1)) = 0 := by
  have hx := h.xlen
  have hq := h.qlen
  have hs := h.small
  have hld := val_lt h.ud.lt
  have hz : val ((X.drop i).drop (ld.length + 1)) = 0 := by
    have := drop_high h.xlt (k := i + 1) (m := ld.length) (Nat.lt_trans hs hld)
    rw [List.drop_drop, show i + (ld.length + 1) = i + 1 + ld.length from by omega]
    exact this
  refine ⟨?_, ?_, hz⟩
  · have := val_split (X.drop i) (ld.length + 1) (by rw [List.length_drop]; omega)
    rw [hz, Nat.mul_zero, Nat.add_zero] at this
    exact this.symm
  · rw [val_drop (by omega)]
    have := getD_lt h.xlt i
    omega

theorem DivAt.step {w wr w' : World} {gq g : Nat} {ex : List Value} {vd : Value} {ld : List Nat} {nq A i : Nat} {X Q : List Nat} (h : DivAt w wr gq g ex vd ld nq A (i + 1) X Q) (hgq : gq ≠ g) (hb : w.heap.size ≤ g) (hbq : w.heap.size ≤ gq)
    (hne : ∀ b off n c, vd = .slice (some ⟨b, off, none⟩) n c → b ≠ g ∧ b ≠ gq)
    (ht : Taken wr w' g (X.take i) (X.drop i) ex ld.length (val ((X.drop i).take (ld.length + 1)) % val ld)) :
    w'.cell? ⟨gq, i, none⟩ = some (.int .u32 0) ∧ w'.frozen? ⟨gq, i, none⟩ = false ∧
    ∃ X', DivAt w (w'.setCell ⟨gq, i, none⟩ (.int .u32 ((val ((X.drop i).take (ld.length + 1)) / val ld : Nat) : Int))) gq g ex vd ld nq A i X' (val ((X.drop i).take (ld.length + 1)) / val ld :: Q) := by
  obtain ⟨p1, p2, p3⟩ := h.part
  obtain ⟨R, hRl, hRlt, ho, hgr, hRv⟩ := ht
  have hx := h.xlen
  have hq := h.qlen
  have hs := h.small
  have hoq := h.oq.grown hgr (by intro he; injection he with he; exact hgq he)
  rw [p1] at hRv ⊢
  have hDpos : 0 < val ld := by omega
  have hil : (X.take i).length = i := by rw [List.length_take]; omega
  have hc0 := hoq.cell (i := i) (by rw [List.length_append, List.length_replicate]; omega)
  have hc0' : (List.replicate (i + 1) 0 ++ Q).getD i 0 = 0 := by
    simp only [List.getD_eq_getElem?_getD]
    rw [List.getElem?_append_left (by rw [List.length_replicate]; omega), List.getElem?_replicate]
    simp
  rw [hc0'] at hc0
  refine ⟨hc0, hoq.frozen i, X.take i ++ (R ++ (X.drop i).drop (ld.length + 1)), ?_, ?_, ?_, ?_, ?_, ?_, ?_, ?_, ?_, ?_⟩
  · have e := hoq.set i (val (X.drop i) / val ld)
    rw [show List.replicate (i + 1) 0 ++ Q = List.replicate i 0 ++ 0 :: Q from by rw [List.replicate_succ', List.append_assoc]; rfl] at e
    have hsd := set_done (List.replicate i 0) 0 (val (X.drop i) / val ld) Q
    rw [List.length_replicate] at hsd
    rw [hsd] at e
    exact e
  · exact ho.other (by intro e; exact hgq e.symm) _
  · have hu := h.ud
    refine ⟨hu.lt, ?_⟩
    obtain ⟨A', c2, rfl, e1, e2, e3⟩ := hu.form
    refine ⟨A', c2, rfl, e1, e2, fun hne' => ?_⟩
    obtain ⟨b, off, rfl, hbb, hcell⟩ := e3 hne'
    obtain ⟨n1, n2⟩ := hne b off _ _ rfl
    refine ⟨b, off, rfl, by rw [World.size_setCell]; exact Nat.lt_of_lt_of_le hbb hgr.size, fun j hj => ?_⟩
    rw [World.cell?_of_block (a := ⟨b, off + j, none⟩) (heap_setCell_other w' ⟨gq, i, none⟩ b _ n2)]
    exact hgr.cell (hcell j hj) (by intro he; injection he with he; exact n1 he)
  · rw [List.length_append, List.length_append, hil, hRl, List.length_drop, List.length_drop]; omega
  · rw [List.length_cons]; omega
  · intro x hx'
    rcases List.mem_append.1 hx' with h1 | h1
    · exact h.xlt x (List.mem_of_mem_take h1)
    · rcases List.mem_append.1 h1 with h1 | h1
      · exact hRlt x h1
      · exact h.xlt x (List.mem_of_mem_drop (List.mem_of_mem_drop h1))
  · intro x hx'
    rcases List.mem_cons.1 hx' with h1 | h1
    · rw [h1]; exact Nat.div_lt_of_lt_mul p2
    · exact h.qlt x h1
  · have hd : (X.take i ++ (R ++ (X.drop i).drop (ld.length + 1))).drop i = R ++ (X.drop i).drop (ld.length + 1) := by
      have := List.drop_left (l₁ := X.take i) (l₂ := R ++ (X.drop i).drop (ld.length + 1))
      rw [hil] at this
      exact this
    rw [hd, val_append, p3, Nat.mul_zero, Nat.add_zero, hRv]
    exact Nat.mod_lt _ hDpos
  · have he := h.eq
    have h1 := val_split X i (by omega)
    have h2 := Nat.div_add_mod (val (X.drop i)) (val ld)
    rw [he, val_append, val_append, hil, p3, Nat.mul_zero, Nat.add_zero, hRv, val, Nat.pow_succ]
    generalize 4294967296 ^ i = P at *
    generalize val (X.drop i) / val ld = a at *
    generalize val (X.drop i) % val ld = b at *
    rw [h1, ← h2]
    simp only [Nat.mul_add]
    have e1 : P * 4294967296 * (val ld * val Q) = P * (val ld * (4294967296 * val Q)) := by rw [Nat.mul_assoc, Nat.mul_left_comm 4294967296]
    rw [e1]
    omega
  · exact (h.below.grown hgr h.below.size (fun k hk => by injection hk with hk; omega)).setCell hbq _

theorem U32.drewN {w : World} {v : Value} {l : List Nat} (h : U32 w v l) (n : Nat) : U32 (w.drewN n) v l := h.below ⟨rfl, rfl, rfl, Nat.le_refl _, fun _ _ => rfl⟩

theorem row_form {w : World} {base : Nat} {v : Value} {l : List Nat} (h : w.ownsRow base 69 1 v l.length (ws l)) (hne : 0 < l.length) :
    ∃ g cap ex, v = .slice (some ⟨g, 0, none⟩) l.length cap ∧ base ≤ g ∧ g < w.heap.size ∧ OwnX w g l ex ∧ l.length ≤ cap ∧ cap ≤ maxLen := by
  have hv : v ≠ .slice none 0 0 := by
    rintro rfl
    rcases h.2 with ⟨_, h0⟩ | ⟨g, cap, cur, e, _⟩
    · omega
    · cases e
  obtain ⟨g, cap, ex, e, hb, ho, h1, h2⟩ := OwnX.of_row h hv
  exact ⟨g, cap, ex, e, hb, ho.lt, ho, h1, h2⟩

theorem digs_top {b m : Nat} (h : (digs b).length = m + 1) : 0 < (digs b).getD m 0 := by
  have h1 := take_last (l := digs b) (k := m) (by omega)
  rw [List.take_of_length_le (by omega)] at h1
  exact Nat.pos_of_ne_zero (digs_getLast h1)

/-- How divideLong's loop begins. -/
theorem DivAt.start {w wr : World} {g : Nat} {ex : List Value} {vd : Value} {A D nq : Nat} (ox : OwnX wr g (digs A ++ [0]) ex) (ud : U32 wr vd (digs D)) (hD : 0 < D) (hl : (digs A).length + 1 = nq + (digs D).length)
    (hb : Below w.heap.size w wr) (hd2 : 1 ≤ (digs D).length) :
    DivAt w (wr.alloc (.cells (ws (List.replicate nq 0)).toArray 69)) wr.heap.size g ex vd (digs D) nq A nq (digs A ++ [0]) [] := by
  refine ⟨by rw [List.append_nil]; exact Own.new wr _, ox.alloc _, ud.below ((Below.refl _ _).alloc (Nat.le_refl _) _), by rw [List.length_append]; exact hl, by simp, ?_, by simp, ?_, ?_, hb.alloc hb.size _⟩
  · intro x hx
    rcases List.mem_append.1 hx with h1 | h1
    · exact digs_lt A x h1
    · rw [List.mem_singleton] at h1; omega
  · rw [val_digs]
    have hle : nq ≤ (digs A).length := by omega
    have h1 : (digs A ++ [0]).drop nq = (digs A).drop nq ++ [0] := List.drop_append_of_le_length hle
    rw [h1, val_snoc_zero]
    have h2 := val_lt (l := (digs A).drop nq) (fun x hx => digs_lt A x (List.mem_of_mem_drop hx))
    obtain ⟨j, hj⟩ : ∃ j, (digs D).length = j + 1 := ⟨(digs D).length - 1, by omega⟩
    have h3 := pow_le_of_length (n := D) (k := j) (by omega)
    rw [List.length_drop, show (digs A).length - nq = j from by omega] at h2
    omega
  · rw [val_snoc_zero, val_digs]; simp [val]

theorem rest_row {w : World} {base : Nat} {v : Value} {l : List Nat} (h : w.ownsRow base 69 1 v (l.length + 1) (ws l ++ [.int .u32 0])) :
    ∃ g cap ex, v = .slice (some ⟨g, 0, none⟩) (l.length + 1) cap ∧ base ≤ g ∧ g < w.heap.size ∧ OwnX w g (l ++ [0]) ex ∧ l.length + 1 ≤ cap ∧ cap ≤ maxLen := by
  have e : (l ++ [0]).length = l.length + 1 := by simp
  have h' : w.ownsRow base 69 1 v (l ++ [0]).length (ws (l ++ [0])) := by rw [ws_append, e]; exact h
  have := row_form h' (by rw [e]; omega)
  rw [e] at this
  exact this

set_option maxRecDepth 100000 in
set_option maxHeartbeats 2000000 in
theorem divideLong_any (v1 v2 : Value) (a b : Nat) (w : World) (h1 : Mag w v1 a) (h2 : Mag w v2 b) (hb2 : 2 ≤ (digs b).length) (hab : b ≤ a) (hn : (digs a).length ≤ 100000) :
    Calls Tryz.prog 104 #[v1, v2] w fun e w' => ∃ q r, e = .returned (.tuple #[q, r]) ∧ Mag w' q (a / b) ∧ Mag w' r (a % b) ∧ Below w.heap.size w w' := by
  have hnb : (digs b).length ≤ 100000 := Nat.le_trans (length_mono hab) hn
  obtain ⟨m, hm⟩ : ∃ m, (digs b).length = m + 2 := ⟨(digs b).length - 2, by omega⟩
  have htop := digs_top (b := b) (m := m + 1) (by omega)
  have htl := getD_lt (digs_lt b) (m + 1)
  have hble := Lib.bitLen_le ((digs b).getD (m + 1) 0) 32 (by omega) htl
  obtain ⟨sh, hsh⟩ : ∃ sh, sh = 32 - Lib.bitLen ((digs b).getD (m + 1) 0) := ⟨_, rfl⟩
  have c0 : Calls Tryz.prog 112 #[.int .u32 ((digs b).getD (m + 1) 0 : Nat)] w fun e w' => e = .returned (.int .i64 (sh : Int)) ∧ w = w' :=
    (Tryz.bits_LeadingZeros32 _ w (by omega) (by omega)).mono fun _ _ h => ⟨by rw [h.1, Int.toNat_natCast]; exact ret_int (by omega), h.2.symm⟩
  have c1 := raise_any v2 (digs b) sh w h2 (by omega) (by omega)
  rw [val_digs] at c1
  obtain ⟨A2, cap2, rfl, _, _, hf⟩ := id h2.form
  obtain ⟨b2, o2, rfl, hb2lt, hcell2⟩ := hf (by intro h; rw [h] at hb2; simp at hb2)
  have hcx := hcell2 (m + 1) (by omega)
  have hix : m + 1 = (digs b).length - 1 := by omega
  rw [hix] at hcx c0
  have HS := Lib.hid hsh
  have HM := Lib.hid hm
  have HC0 := Lib.hid c0
  have HC1 := Lib.hid c1
  have HH1 := Lib.hid h1
  have HH2 := Lib.hid h2
  clear hsh hm c0 c1 hf hcell2 hix htop htl hble h1 h2
  generalize (digs b).getD ((digs b).length - 1) 0 = top at *
  have hb1 : 1 ≤ (digs b).length := by omega
  go_enter Tryz.func104, Tryz.ntmps104
  go_wp2_with fail
  refine HC0.out.mono ?_
  rintro e w' ⟨rfl, rfl⟩
  go_wp2_with fail
  refine HC1.out.mono ?_
  rintro e w1 ⟨vd, rfl, hmd, hrd, hbd⟩
  have hv1 : Mag w1 v1 a := HH1.out.below hbd
  have c2 := raise_any v1 (digs a) sh w1 hv1 (by omega) (by have := HS.out; omega)
  rw [val_digs] at c2
  have HC2 := Lib.hid c2
  clear c2
  go_wp2_with fail
  refine HC2.out.mono ?_
  rintro e w2 ⟨va, rfl, hma, hra, hba⟩
  have hbpos : 0 < b := by
    rcases Nat.eq_zero_or_pos b with h0 | h0
    · rw [h0, digs_zero] at hb1; simp at hb1
    · exact h0
  have h2p : 0 < 2 ^ sh := Nat.pow_pos (by omega)
  have hDb : b ≤ b * 2 ^ sh := Nat.le_mul_of_pos_right _ h2p
  have hDA : b * 2 ^ sh ≤ a * 2 ^ sh := Nat.mul_le_mul_right _ hab
  have hfin1 : a * 2 ^ sh / (b * 2 ^ sh) = a / b := Nat.mul_div_mul_right _ _ h2p
  have hfin2 : a * 2 ^ sh % (b * 2 ^ sh) / 2 ^ sh = a % b := by rw [Nat.mul_mod_mul_right, Nat.mul_div_cancel _ h2p]
  have hAl : a * 2 ^ sh < 4294967296 ^ ((digs a).length + 1) := by
    have e1 := lt_pow_length a
    have e3 : 2 ^ sh ≤ 4294967296 := Nat.pow_le_pow_right (j := 32) (by omega) (by have := HS.out; omega)
    rw [Nat.pow_succ]
    exact Nat.lt_of_lt_of_le (Nat.mul_lt_mul_of_pos_right e1 h2p) (Nat.mul_le_mul_left _ e3)
  have hnA := digs_length_le hAl
  have hnDA := length_mono hDA
  have hnbD := length_mono hDb
  have hD0 : 0 < b * 2 ^ sh := by omega
  clear hAl hDb h2p
  generalize a * 2 ^ sh = A at *
  generalize b * 2 ^ sh = D at *
  have hsh32 : sh ≤ 32 := by have := HS.out; omega
  obtain ⟨gd, capd, exd, rfl, hgd1, hgd2, _, hcd1, hcd2⟩ := row_form hrd (by omega)
  obtain ⟨ga, capa, exa, rfl, hga1, hga2, _, hca1, hca2⟩ := row_form hra (by omega)
  have hudD : U32 w2 (.slice (some ⟨gd, 0, none⟩) (digs D).length capd) (digs D) := Mag.below hmd hba
  have HF1 := Lib.hid hfin1
  have HF2 := Lib.hid hfin2
  have HRA := Lib.hid hra
  have HUD := Lib.hid hudD
  have hb02 : Below w.heap.size w w2 := hbd.trans (hba.mono hbd.size)
  obtain ⟨i0, hi, hz0, hz1, hz2⟩ := info_parts info32
  have hmk := make_u32 (x := ((digs A).length : Int) + 1 - ((digs D).length : Int)) ((digs A).length + 1 - (digs D).length) (by omega) (by omega)
  clear hfin1 hfin2 hra hrd hmd hma hudD hcd1 hcd2 hga2 HH1 HH2 HC0 HC1 HC2 hv1 HM
  have hcell0 : ∀ j u, [Value.int .u32 0][j]? = some u → (w2.alloc (.cells #[.int .u32 0] 69)).cell? ((⟨w2.heap.size, 0, none⟩ : Addr).add j) = some u := by
    intro j u hj
    match j, hj with
    | 0, hj => simp at hj; subst hj; simp [Addr.add]
  have HCELL := Lib.hid hcell0
  have hone : ∀ u ∈ [Value.int .u32 0], u.oneCell' = true := by intro u hu; simp at hu; subst hu; rfl
  have HONE := Lib.hid hone
  clear hcell0 hone
  have hsz : w1.heap.size ≤ w2.heap.size + 1 := by have := hba.size; omega
  go_wp2_with ((at_builtin; go_loud (refine wpList_append_own _ rfl _ _ 22 rfl w1.heap.size 69 i0 (.int .u32 0) 1 4 Tryz.underlying22 hi hz0 hz1 hz2 rfl (by decide) (.slice (some ⟨ga, 0, none⟩) (digs A).length capa) (digs A).length (ws (digs A)) rfl (HRA.out.alloc _) ⟨w2.heap.size, 0, none⟩ 1 1 [.int .u32 0] rfl rfl HCELL.out HONE.out (by simp only [maxLen]; omega) (by omega) (by simp; omega) ?_; intro v3 w3 hown3 hgrow3 hnil3; obtain ⟨g, c3, ex, rfl, hg1, hg2, hox, hc3, hm3⟩ := rest_row hown3)))
  have hb03 : Below w.heap.size w w3 := (hb02.alloc hb02.size _).grown hgrow3 (by have := hb02.size; simp; omega) (fun k hk => by simp only [Value.ownBlock, Option.some.injEq] at hk; have := hbd.size; omega)
  have hb23 : Below w1.heap.size w2 w3 := ((Below.refl _ _).alloc hba.size _).grown hgrow3 (by have := hba.size; simp; omega) (fun k hk => by simp only [Value.ownBlock, Option.some.injEq] at hk; omega)
  have hud3 : U32 w3 (.slice (some ⟨gd, 0, none⟩) (digs D).length capd) (digs D) := by
    refine ⟨HUD.out.lt, some ⟨gd, 0, none⟩, capd, rfl, ?_, ?_, fun _ => ⟨gd, 0, rfl, ?_, ?_⟩⟩
    · obtain ⟨A', c', e, e1, _⟩ := HUD.out.form; injection e with e2 e3 e4; rw [e4]; exact e1
    · obtain ⟨A', c', e, _, e1, _⟩ := HUD.out.form; injection e with e2 e3 e4; rw [e4]; exact e1
    · have := hb23.size; have := hba.size; omega
    · intro i hi
      obtain ⟨A', c', e, _, _, e1⟩ := HUD.out.form
      obtain ⟨b', o', e5, _, e6⟩ := e1 (by intro h; rw [h] at hi; simp at hi)
      injection e with e2 e3 e4
      subst e2
      injection e5 with e5
      injection e5 with e7 e8
      subst e7 e8
      exact (hb23.cell (p := ⟨gd, 0 + i, none⟩) hgd2).trans (e6 i hi)
  have hstart := DivAt.start (nq := (digs A).length + 1 - (digs D).length) hox hud3 hD0 (by omega) hb03 (by omega)
  have hgw : w.heap.size ≤ g := by have := hbd.size; omega
  have hgdg : gd < g := by omega
  have hg2' : g < w3.heap.size := hg2
  have hwq : w.heap.size ≤ w3.heap.size := hb03.size
  have HST := Lib.hid hstart
  clear hstart hox hb02 hb03 hb23 hud3 hown3 hgrow3 hnil3 hcx hmk hba hbd HRA HUD HCELL HONE hi hz0 hz1 hz2
  go_loopw [9] (fun i wr => ∃ (k : Nat) (X Q : List Nat), k ≤ (digs A).length + 1 - (digs D).length ∧ i = .int .i64 ((k : Int) - 1) ∧
      DivAt w wr w3.heap.size g ex (.slice (some ⟨gd, 0, none⟩) (digs D).length capd) (digs D) ((digs A).length + 1 - (digs D).length) A k X Q) (fun i _ => (intOf i + 1).toNat)
  case atStart => exact ⟨_, _, _, Nat.le_refl _, rfl, HST.out⟩
  case round =>
    obtain ⟨k, X, Q, hk, rfl, hs⟩ := hrel
    rcases k with _ | k
    · have hql := hs.qlen
      have hxl := hs.xlen
      have hUq : U32 wr (.slice (some ⟨w3.heap.size, 0, none⟩) ((digs A).length + 1 - (digs D).length) ((digs A).length + 1 - (digs D).length)) Q := by
        have ho := hs.oq
        rw [List.replicate_zero, List.nil_append] at ho
        have := ho.u32 hs.qlt (by simp only [maxLen]; omega)
        rwa [show Q.length = (digs A).length + 1 - (digs D).length from by omega] at this
      have hUx : U32 wr (.slice (some ⟨g, 0, none⟩) ((digs A).length + 1) c3) X := by
        have := hs.ox.u32 hs.xlt (cap := c3) (by omega) hm3
        rwa [show X.length = (digs A).length + 1 from by omega] at this
      have he := hs.eq
      have hsm := hs.small
      rw [List.drop_zero, val_digs] at hsm
      rw [Nat.pow_zero, Nat.one_mul, val_digs] at he
      have hdiv : val Q = A / D := by rw [he, Nat.add_mul_div_left _ _ hD0, Nat.div_eq_of_lt hsm, Nat.zero_add]
      have hmod : val X = A % D := by rw [he, Nat.add_mul_mod_self_left, Nat.mod_eq_of_lt hsm]
      have HQ := Lib.hid hdiv
      have HX := Lib.hid hmod
      have hbw := hs.below
      clear hdiv hmod he hsm hs hql hxl HST
      go_wp2_with fail
      refine (trim_any _ _ _ hUq).mono ?_
      rintro e w' ⟨vq, rfl, rfl, hmq, -⟩
      have hmq1 := hmq _ hUq
      rw [HQ.out, HF1.out] at hmq1
      clear hmq
      go_wp2_with fail
      refine (trim_any _ _ _ hUx).mono ?_
      rintro e w' ⟨vx, rfl, rfl, hmx, -⟩
      have hmx1 := hmx _ hUx
      rw [HX.out] at hmx1
      have hlx : (digs (A % D)).length ≤ 500000 := by
        have := length_mono (Nat.mod_le A D); omega
      have cl := lower_any vx (digs (A % D)) sh wr hmx1 hlx (by omega)
      rw [val_digs, HF2.out] at cl
      have HCL := Lib.hid cl
      clear hmx cl
      go_wp2_with fail
      refine HCL.out.mono ?_
      rintro e w' ⟨vr, rfl, hmr, hbr⟩
      have hq' := hmq1.below hbr
      have hb' := hbw.trans (hbr.mono hbw.size)
      clear hmx1 hmq1 HCL
      go_wp2
      go_returns
      exact ⟨_, _, rfl, hq', hmr, hb'⟩
    · have e1 : (((k + 1 : Nat) : Int) - 1) = (k : Int) := by omega
      rw [e1]
      clear e1 HST
      have hxl := hs.xlen
      have hpart := hs.part
      have hkl : (X.take k).length = k := by rw [List.length_take]; omega
      have ct := takeOff_any g (c3 - k) (.slice (some ⟨gd, 0, none⟩) (digs D).length capd) (X.take k) (X.drop k) (digs D) ex ((digs D).length - 2) wr (by rw [List.take_append_drop]; exact hs.ox) (fun x hx => hs.xlt x (List.mem_of_mem_drop hx)) hs.ud
        (fun b off n c e => by injection e with e; injection e with e; injection e with e; omega) (by omega) (by rw [List.length_drop]; omega) (by omega) (by rw [List.length_drop]; omega) (by omega) (by omega)
        (digs_top (by omega)) (by rw [hpart.1]; exact hpart.2.1)
      rw [hkl] at ct
      have HCT := Lib.hid ct
      have HDA := Lib.hid hs
      have hlen1 : k + (digs D).length + 1 - k = (digs D).length + 1 := by omega
      have HL1 := Lib.hid hlen1
      clear hs hpart ct hxl hkl hlen1
      go_wp2_with fail
      rw [HL1.out]
      refine HCT.out.mono ?_
      rintro e w' ⟨rfl, ht⟩
      obtain ⟨hc0, hfz, hnext⟩ := HDA.out.step (Nat.ne_of_gt hg2') hgw hwq (fun b off n c e => by injection e with e; injection e with e; injection e with e; omega) ht
      have HN := Lib.hid hnext
      clear hnext ht HCT
      go_wp2
      go_roundw
      case rel =>
        obtain ⟨X', hX'⟩ := HN.out
        exact ⟨k, X', _, by omega, rfl, hX'⟩
      case measure => simp only [intOf]; omega
end Go.Proofs.YtccndofafljaaaaGreatDoor

namespace Go.Proofs.YtccndofafljaaaaGreatDoor
open Go Go.RowKit Num

theorem cmpI_lt {a b : Nat} : (cmpI a b < 0 ↔ a < b) ∧ (0 ≤ cmpI a b ↔ b ≤ a) := by
  rw [cmpI_nat]
  by_cases h : a < b
  · rw [if_pos h]; omega
  · rw [if_neg h]
    by_cases h' : b < a
    · rw [if_pos h']; omega
    · rw [if_neg h']; omega

set_option maxRecDepth 100000 in
set_option maxHeartbeats 600000 in
theorem divide_lt (v1 v2 : Value) (a b : Nat) (w : World) (g1 : Mag w v1 a) (g2 : Mag w v2 b) (hb : 0 < b) (hna : (digs a).length ≤ 100000) (hnb : (digs b).length ≤ 100000) (hlt : a < b) :
    Calls Tryz.prog 91 #[v1, v2] w fun e w' => ∃ q r, e = .returned (.tuple #[q, r]) ∧ Mag w' q (a / b) ∧ Mag w' r (a % b) ∧ Below w.heap.size w w' := by
  have c0 := compare_any v1 v2 a b w g1 g2 (by omega) (by omega)
  have HC0 := Lib.hid c0
  have HH1 := Lib.hid g1
  have HH2 := Lib.hid g2
  have hl : 0 < (digs b).length := by
    rcases Nat.eq_zero_or_pos (digs b).length with h | h
    · have := digs_eq_nil.1 (List.eq_nil_of_length_eq_zero h); omega
    · exact h
  obtain ⟨A2, cap2, rfl, -, -, hf2⟩ := id g2.form
  obtain ⟨b2, o2, rfl, hb2lt, hcell2⟩ := hf2 (by intro h; rw [h] at hl; simp at hl)
  obtain ⟨A1, cap1, rfl, -, -, -⟩ := id g1.form
  clear c0 hf2 g1 g2
  have hneg := cmpI_lt.1.2 hlt
  have hq : a / b = 0 := Nat.div_eq_of_lt hlt
  have hr : a % b = a := Nat.mod_eq_of_lt hlt
  rw [hq, hr]
  clear hcell2 hq hr
  go_enter Tryz.func91, Tryz.ntmps91
  go_wp2_with fail
  refine HC0.out.mono ?_
  rintro e w1 ⟨rfl, n, rfl⟩
  generalize cmpI a b = cv at *
  go_wp2_with fail
  have hU : U32 (w.drewN n) (.slice A1 (digs a).length cap1) (digs a) := U32.drewN HH1.out n
  refine (clone_any _ (digs a) _ hU (by omega)).mono ?_
  rintro e w2 ⟨v', rfl, hcl, hbl⟩
  have hm := hcl.u32 (digs_lt a)
  have hbl' : Below w.heap.size w w2 := ⟨hbl.os, hbl.tape, hbl.output, hbl.size, hbl.block⟩
  clear hcl hbl
  go_wp2
  go_returns
  exact ⟨_, _, rfl, by unfold Mag; rw [digs_zero]; exact U32.nil none (Nat.zero_le _), hm, hbl'⟩

set_option maxRecDepth 100000 in
set_option maxHeartbeats 600000 in
theorem divide_one (v1 v2 : Value) (a b : Nat) (w : World) (g1 : Mag w v1 a) (g2 : Mag w v2 b) (hb : 0 < b) (hna : (digs a).length ≤ 100000) (hnb : (digs b).length ≤ 100000) (hlt : ¬ a < b) (h1 : (digs b).length < 2) :
    Calls Tryz.prog 91 #[v1, v2] w fun e w' => ∃ q r, e = .returned (.tuple #[q, r]) ∧ Mag w' q (a / b) ∧ Mag w' r (a % b) ∧ Below w.heap.size w w' := by
  have c0 := compare_any v1 v2 a b w g1 g2 (by omega) (by omega)
  have HC0 := Lib.hid c0
  have HH1 := Lib.hid g1
  have HH2 := Lib.hid g2
  have hl : 0 < (digs b).length := by
    rcases Nat.eq_zero_or_pos (digs b).length with h | h
    · have := digs_eq_nil.1 (List.eq_nil_of_length_eq_zero h); omega
    · exact h
  obtain ⟨A2, cap2, rfl, -, -, hf2⟩ := id g2.form
  obtain ⟨b2, o2, rfl, hb2lt, hcell2⟩ := hf2 (by intro h; rw [h] at hl; simp at hl)
  obtain ⟨A1, cap1, rfl, -, -, -⟩ := id g1.form
  clear c0 hf2 g1 g2
  have hge := cmpI_lt.2.2 (Nat.le_of_not_lt hlt)
  have hle : b ≤ a := Nat.le_of_not_lt hlt
  have hl1 : (digs b).length = 1 := by omega
  have hbs : b < 4294967296 := by have := lt_pow_length b; rw [hl1] at this; omega
  have hd1 := digs_one (n := b) (by omega) hbs
  have hc0 := hcell2 0 (by omega)
  rw [hd1] at hc0
  simp only [List.getD_cons_zero, Nat.add_zero] at hc0
  rw [hl1] at HC0 ⊢
  clear hcell2 hl h1 hl1 hnb hd1 HH2
  go_enter Tryz.func91, Tryz.ntmps91
  go_wp2_with fail
  refine HC0.out.mono ?_
  rintro e w1 ⟨rfl, n, rfl⟩
  generalize cmpI a b = cv at *
  go_wp2_with fail
  have hU : U32 (w.drewN n) (.slice A1 (digs a).length cap1) (digs a) := U32.drewN HH1.out n
  refine (clone_any _ (digs a) _ hU (by omega)).mono ?_
  rintro e w2 ⟨v', rfl, hcl, hbl⟩
  have hbl' : Below w.heap.size w w2 := ⟨hbl.os, hbl.tape, hbl.output, hbl.size, hbl.block⟩
  have hla : 0 < (digs a).length := by
    rcases Nat.eq_zero_or_pos (digs a).length with h | h
    · have := digs_eq_nil.1 (List.eq_nil_of_length_eq_zero h); omega
    · exact h
  rcases hcl with ⟨h0, _⟩ | ⟨g, cap, ex, rfl, hg, ho, hc1, hc2⟩
  · rw [h0] at hla; simp at hla
  have hg' : w.heap.size ≤ g := hg
  have hcx := (hbl'.cell (p := ⟨b2, o2, none⟩) hb2lt).trans hc0
  have cs := shorten_any g cap b (digs a) ex w2 ho (digs_lt a) hb hbs (by omega) hc1
  rw [val_digs] at cs
  have hrb : a % b < 4294967296 := Nat.lt_trans (Nat.mod_lt _ hb) hbs
  obtain ⟨r, hr⟩ : ∃ r, r = a % b := ⟨_, rfl⟩
  rw [← hr] at cs hrb
  have HR := Lib.hid hr
  clear hr
  have HCS := Lib.hid cs
  clear cs hbl hc0 hg
  go_wp2_with fail
  refine HCS.out.mono ?_
  rintro e w3 ⟨rfl, l', hl', hlt', hv', ho', hgr⟩
  have hb3 : Below w.heap.size w w3 := hbl'.grown hgr hbl'.size (fun k hk => by injection hk with hk; omega)
  have hU3 : U32 w3 (.slice (some ⟨g, 0, none⟩) (digs a).length cap) l' := by
    have := ho'.u32 hlt' (cap := cap) (by omega) hc2
    rwa [hl'] at this
  have HL' := Lib.hid hl'
  have HV' := Lib.hid hv'
  clear hl' hv' HCS ho ho' hgr hbl'
  go_wp2_with fail
  refine (trim_any _ _ _ hU3).mono ?_
  rintro e w' ⟨vq, rfl, rfl, hmq, -⟩
  have hmq1 := hmq _ hU3
  rw [HV'.out] at hmq1
  clear hmq hU3
  go_wp2_with fail
  refine (words_any r (by omega) _).mono ?_
  rintro e w4 ⟨vr, rfl, hmr, hb4⟩
  have hmq2 := hmq1.below hb4
  have hb5 := hb3.trans (hb4.mono hb3.size)
  clear hmq1
  go_wp2
  go_returns
  exact ⟨_, _, rfl, hmq2, by rw [← HR.out]; exact hmr, hb5⟩

set_option maxRecDepth 100000 in
set_option maxHeartbeats 600000 in
theorem divide_more (v1 v2 : Value) (a b : Nat) (w : World) (g1 : Mag w v1 a) (g2 : Mag w v2 b) (hb : 0 < b) (hna : (digs a).length ≤ 100000) (hnb : (digs b).length ≤ 100000) (hlt : ¬ a < b) (h1 : 2 ≤ (digs b).length) :
    Calls Tryz.prog 91 #[v1, v2] w fun e w' => ∃ q r, e = .returned (.tuple #[q, r]) ∧ Mag w' q (a / b) ∧ Mag w' r (a % b) ∧ Below w.heap.size w w' := by
  have c0 := compare_any v1 v2 a b w g1 g2 (by omega) (by omega)
  have HC0 := Lib.hid c0
  have HH1 := Lib.hid g1
  have HH2 := Lib.hid g2
  have hl : 0 < (digs b).length := by
    rcases Nat.eq_zero_or_pos (digs b).length with h | h
    · have := digs_eq_nil.1 (List.eq_nil_of_length_eq_zero h); omega
    · exact h
  obtain ⟨A2, cap2, rfl, -, -, hf2⟩ := id g2.form
  obtain ⟨b2, o2, rfl, hb2lt, hcell2⟩ := hf2 (by intro h; rw [h] at hl; simp at hl)
  obtain ⟨A1, cap1, rfl, -, -, -⟩ := id g1.form
  clear c0 hf2 g1 g2
  have hge := cmpI_lt.2.2 (Nat.le_of_not_lt hlt)
  have hle : b ≤ a := Nat.le_of_not_lt hlt
  have hne1 : (((digs b).length : Int) == 1) = false := by rw [beq_eq_false_iff_ne]; omega
  clear hcell2 hl
  go_enter Tryz.func91, Tryz.ntmps91
  go_wp2_with fail
  refine HC0.out.mono ?_
  rintro e w1 ⟨rfl, n, rfl⟩
  generalize cmpI a b = cv at *
  have c1 := divideLong_any (.slice A1 (digs a).length cap1) (.slice (some ⟨b2, o2, none⟩) (digs b).length cap2) a b (w.drewN n) (U32.drewN HH1.out n) (U32.drewN HH2.out n) h1 hle hna
  have HC1 := Lib.hid c1
  clear c1
  go_wp2_with fail
  refine HC1.out.mono ?_
  rintro e w2 ⟨q, r, rfl, hmq, hmr, hbl⟩
  have hbl' : Below w.heap.size w w2 := ⟨hbl.os, hbl.tape, hbl.output, hbl.size, hbl.block⟩
  clear hbl
  go_wp2
  go_returns
  exact ⟨_, _, rfl, hmq, hmr, hbl'⟩

set_option maxRecDepth 100000 in
set_option maxHeartbeats 2000000 in
theorem divide_any (v1 v2 : Value) (a b : Nat) (w : World) (h1 : Mag w v1 a) (h2 : Mag w v2 b) (hb : 0 < b) (hna : (digs a).length ≤ 100000) (hnb : (digs b).length ≤ 100000) :
    Calls Tryz.prog 91 #[v1, v2] w fun e w' => ∃ q r, e = .returned (.tuple #[q, r]) ∧ Mag w' q (a / b) ∧ Mag w' r (a % b) ∧ Below w.heap.size w w' := by
  by_cases hlt : a < b
  · exact divide_lt v1 v2 a b w h1 h2 hb hna hnb hlt
  · rcases Nat.lt_or_ge (digs b).length 2 with h | h
    · exact divide_one v1 v2 a b w h1 h2 hb hna hnb hlt h
    · exact divide_more v1 v2 a b w h1 h2 hb hna hnb hlt h
end Go.Proofs.YtccndofafljaaaaGreatDoor
