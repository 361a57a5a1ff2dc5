/- integer.estimate -/
import Derived.Test.YtgfoplokplnpgaaDoorLower
namespace Go.Proofs.YtgfoplokplnpgaaDoor
open Go Go.RowKit Num

/-- The estimate of a word of the quotient by three and two words: the greatest word that is not too great for them. -/
structure Est (h s p2 p1 p0 q : Nat) : Prop where
  lt : q < 4294967296
  le : q * (h * 4294967296 + s) ≤ (p2 * 4294967296 + p1) * 4294967296 + p0
  most : ∀ x, x < 4294967296 → x * (h * 4294967296 + s) ≤ (p2 * 4294967296 + p1) * 4294967296 + p0 → x ≤ q

/-- WHAT HOLDS AT THE HEAD OF estimate's LOOP. -/
structure EstAt (h s p2 p1 p0 q r : Nat) : Prop where
  eq : q * h + r = p2 * 4294967296 + p1
  rlt : r < 8589934592
  most : ∀ x, x < 4294967296 → x * (h * 4294967296 + s) ≤ (p2 * 4294967296 + p1) * 4294967296 + p0 → x ≤ q

theorem EstAt.qle {h s p2 p1 p0 q r : Nat} (e : EstAt h s p2 p1 p0 q r) (hh : 0 < h) (hp : p2 * 4294967296 + p1 < 18446744073709551616) : q < 18446744073709551616 := by
  have := Nat.le_mul_of_pos_right q hh
  have := e.eq
  omega

theorem EstAt.start {h s p2 p1 p0 : Nat} (hh : 0 < h) (hh2 : h < 4294967296) (h0 : p0 < 4294967296) : EstAt h s p2 p1 p0 ((p2 * 4294967296 + p1) / h) ((p2 * 4294967296 + p1) % h) := by
  refine ⟨by rw [Nat.mul_comm]; exact Nat.div_add_mod _ _, by have := Nat.mod_lt (p2 * 4294967296 + p1) hh; omega, fun x _ hx => ?_⟩
  rw [Nat.le_div_iff_mul_le hh]
  rw [Nat.mul_add, ← Nat.mul_assoc] at hx
  omega

theorem EstAt.step {h s p2 p1 p0 q r : Nat} (e : EstAt h s p2 p1 p0 q r) (hr : r < 4294967296) (hh2 : h < 4294967296) (hc : 4294967296 ≤ q ∨ r * 4294967296 + p0 < q * s) : 1 ≤ q ∧ EstAt h s p2 p1 p0 (q - 1) (r + h) := by
  have hq1 : 1 ≤ q := by
    rcases hc with hc | hc
    · omega
    · rcases Nat.eq_zero_or_pos q with h0 | h0
      · subst h0; omega
      · exact h0
  refine ⟨hq1, ?_, by omega, fun x hx hle => ?_⟩
  · have := e.eq
    obtain ⟨k, rfl⟩ : ∃ k, q = k + 1 := ⟨q - 1, by omega⟩
    rw [Nat.add_mul, Nat.one_mul] at this
    simp only [Nat.add_sub_cancel]
    omega
  · have h1 := e.most x hx hle
    rcases hc with hc | hc
    · omega
    · rcases Nat.lt_or_ge x q with h2 | h2
      · omega
      · exfalso
        have hxq : x = q := by omega
        subst hxq
        rw [Nat.mul_add, ← Nat.mul_assoc, ← e.eq] at hle
        rw [Nat.add_mul] at hle
        omega

theorem EstAt.done {h s p2 p1 p0 q r : Nat} (e : EstAt h s p2 p1 p0 q r) (hh : 0 < h) (hs : s < 4294967296) (hp2 : p2 ≤ h) (hp1 : p1 < 4294967296) (hc : 4294967296 ≤ r ∨ (q < 4294967296 ∧ q * s ≤ r * 4294967296 + p0)) : Est h s p2 p1 p0 q := by
  have he := e.eq
  have hq : q < 4294967296 := by
    rcases hc with hc | hc
    · have h1 : p2 * 4294967296 ≤ h * 4294967296 := Nat.mul_le_mul_right _ hp2
      have h2 : q * h < 4294967296 * h := by rw [Nat.mul_comm 4294967296]; omega
      exact Nat.lt_of_mul_lt_mul_right h2
    · exact hc.1
  refine ⟨hq, ?_, e.most⟩
  have h3 : q * s ≤ r * 4294967296 + p0 := by
    rcases hc with hc | hc
    · have h4 : q * s ≤ 4294967295 * 4294967295 := Nat.mul_le_mul (by omega) (by omega)
      omega
    · exact hc.2
  rw [Nat.mul_add, ← Nat.mul_assoc, ← he, Nat.add_mul]
  omega

set_option maxRecDepth 100000 in
set_option maxHeartbeats 2000000 in
theorem estimate_any (v1 v2 : Value) (lp ld : List Nat) (m : Nat) (w : World) (h1 : U32 w v1 lp) (h2 : U32 w v2 ld) (hlp : lp.length = m + 3) (hld : ld.length = m + 2) (hm : m ≤ 1000000)
    (hh : 0 < ld.getD (m + 1) 0) (hp2 : lp.getD (m + 2) 0 ≤ ld.getD (m + 1) 0) :
    Calls Tryd.prog 96 #[v1, v2] w fun e w' => ∃ q : Nat, e = .returned (.int .u32 q) ∧ Est (ld.getD (m + 1) 0) (ld.getD m 0) (lp.getD (m + 2) 0) (lp.getD (m + 1) 0) (lp.getD m 0) q ∧ ∃ n, w' = w.drewN n := by
  obtain ⟨A1, cap1, rfl, -, -, hf1⟩ := id h1.form
  obtain ⟨A2, cap2, rfl, -, -, hf2⟩ := id h2.form
  obtain ⟨b1, o1, rfl, hb1, hc1⟩ := hf1 (by intro h; rw [h, List.length_nil] at hlp; omega)
  obtain ⟨b2, o2, rfl, hb2, hc2⟩ := hf2 (by intro h; rw [h, List.length_nil] at hld; omega)
  have x2 := hc1 (m + 2) (by omega)
  have x1 := hc1 (m + 1) (by omega)
  have x0 := hc1 m (by omega)
  have y1 := hc2 (m + 1) (by omega)
  have y0 := hc2 m (by omega)
  have bx2 := getD_lt h1.lt (m + 2)
  have bx1 := getD_lt h1.lt (m + 1)
  have bx0 := getD_lt h1.lt m
  have by1 := getD_lt h2.lt (m + 1)
  have by0 := getD_lt h2.lt m
  rw [hlp, hld]
  clear h1 h2 hf1 hf2 hc1 hc2 hlp hld
  generalize lp.getD (m + 2) 0 = p2 at *
  generalize lp.getD (m + 1) 0 = p1 at *
  generalize lp.getD m 0 = p0 at *
  generalize ld.getD (m + 1) 0 = h at *
  generalize ld.getD m 0 = s at *
  have hor := or_join64' p2 p1 bx2 bx1
  have hst := EstAt.start (s := s) (p2 := p2) (p1 := p1) hh by1 bx0
  have htop : p2 * 4294967296 + p1 < 18446744073709551616 := by omega
  have HS := Lib.hid hst
  have hh' : (1 : Int) ≤ (h : Int) := by omega
  clear hst
  have HT : Hid (∃ t, t = p2 * 4294967296 + p1) := ⟨_, rfl⟩
  obtain ⟨t, ht⟩ := HT.out
  rw [← ht] at hor htop HS
  have HTE := Lib.hid ht
  clear HT ht
  have hq0 : (t : Int) / (h : Int) = ((t / h : Nat) : Int) := (Int.natCast_ediv _ _).symm
  have hr0 : (t : Int) % (h : Int) = ((t % h : Nat) : Int) := (Int.natCast_emod _ _).symm
  have hqb0 : t / h < 18446744073709551616 := Nat.lt_of_le_of_lt (Nat.div_le_self _ _) htop
  generalize t / h = q0 at *
  generalize t % h = r0 at *
  go_enter Tryd.func96, Tryd.ntmps96
  go_wp2
  go_quiet (fail)
  go_wp2
  go_quiet (fail)
  go_wp2
  have HR0 := Lib.hid hr0
  clear hor hq0 hr0
  go_loopw [8, 9] (fun qv rv wr => ∃ (q r n : Nat), qv = .int .u64 q ∧ rv = .int .u64 r ∧ EstAt h s p2 p1 p0 q r ∧ wr = w.drewN n) (fun _ rv _ => (4294967296 - intOf rv).toNat)
  case atStart => exact ⟨q0, r0, _, by go_num, by first | rfl | rw [HR0.out], HS.out, by rw [World.drewN_drewN]⟩
  case round =>
    obtain ⟨q, r, n, rfl, rfl, he, rfl⟩ := hrel
    have hq := he.qle hh (by rw [← HTE.out]; exact htop)
    have hrl := he.rlt
    have HE := Lib.hid he
    clear he HS
    by_cases hr : r < 4294967296
    · have g1 : ((r : Int) / 4294967296 == 0) = true := by rw [beq_iff_eq]; omega
      by_cases hqb : q < 4294967296
      · have g2 : ((q : Int) / 4294967296 != 0) = false := by rw [bne_eq_false_iff_eq]; omega
        have hor2 := or_join64' r p0 hr bx0
        have hm : q * s ≤ 4294967295 * 4294967295 := Nat.mul_le_mul (by omega) (by omega)
        have hm1 : 0 ≤ (q : Int) * (s : Int) := by rw [← Int.natCast_mul]; exact Int.natCast_nonneg _
        have hm2 : (q : Int) * (s : Int) < 18446744073709551616 := by rw [← Int.natCast_mul]; omega
        have HM : Hid ((q : Int) * (s : Int) = ((q * s : Nat) : Int)) := (Int.natCast_mul _ _).symm
        by_cases hg : r * 4294967296 + p0 < q * s
        · have g3 : decide (((r * 4294967296 + p0 : Nat) : Int) < (q : Int) * (s : Int)) = true := by rw [decide_eq_true_iff, HM.out]; omega
          have HST := Lib.hid (HE.out.step hr by1 (.inr hg))
          have hq1 := HST.out.1
          clear hg hm
          obtain ⟨rp, hrp⟩ : ∃ rp, rp = r * 4294967296 + p0 := ⟨_, rfl⟩
          rw [← hrp] at g3 hor2
          have hrpb : rp < 18446744073709551616 := by omega
          clear hrp
          have hrI : (r : Int) < 4294967296 := by omega
          go_wp2
          go_quiet (fail)
          go_wp2
          go_roundw
          case rel => exact ⟨q - 1, r + h, n + nq, by go_num, by go_num, HST.out.2, rfl⟩
          case measure => simp only [intOf]; omega
        · have g3 : decide (((r * 4294967296 + p0 : Nat) : Int) < (q : Int) * (s : Int)) = false := by rw [decide_eq_false_iff_not, HM.out]; omega
          have HD := Lib.hid (HE.out.done hh by0 hp2 bx1 (.inr ⟨hqb, by omega⟩))
          clear hm
          obtain ⟨rp, hrp⟩ : ∃ rp, rp = r * 4294967296 + p0 := ⟨_, rfl⟩
          rw [← hrp] at g3 hor2
          have hrpb : rp < 18446744073709551616 := by omega
          clear hrp hg
          go_wp2
          go_quiet (fail)
          go_wp2
          go_ret
          exact ⟨q, rfl, HD.out, _, rfl⟩
      · have g2 : ((q : Int) / 4294967296 != 0) = true := by rw [bne_iff_ne]; omega
        have HST := Lib.hid (HE.out.step hr by1 (.inl (by omega)))
        have hq1 := HST.out.1
        have hrI : (r : Int) < 4294967296 := by omega
        go_wp2
        go_quiet (fail)
        go_wp2
        go_roundw
        case rel => exact ⟨q - 1, r + h, n + nq, by go_num, by go_num, HST.out.2, rfl⟩
        case measure => simp only [intOf]; omega
    · have g1 : ((r : Int) / 4294967296 == 0) = false := by rw [beq_eq_false_iff_ne]; omega
      have HD := Lib.hid (HE.out.done hh by0 hp2 bx1 (.inl (by omega)))
      have hqb := HD.out.lt
      go_wp2
      go_quiet (fail)
      go_wp2
      go_ret
      exact ⟨q, rfl, HD.out, _, rfl⟩
end Go.Proofs.YtgfoplokplnpgaaDoor
