/- integer.commonSmall, integer.rootSmall, integer.root -/
import Derived.Test.YtgfoplokplnpgaaDoorInt6
import Derived.Test.YtgfoplokplnpgaaDoorShift
namespace Go.Proofs.YtgfoplokplnpgaaDoor
open Go Go.RowKit Num

set_option maxRecDepth 100000 in
set_option maxHeartbeats 1000000 in
theorem commonSmall_any (a b : Nat) (ha : a < 18446744073709551616) (hb : b < 18446744073709551616) (w : World) :
    Calls Tryd.prog 71 #[.int .u64 a, .int .u64 b] w fun e w' => e = .returned (.int .u64 (Nat.gcd a b : Nat)) ∧ ∃ n, w' = w.drewN n := by
  have HG : Hid (Nat.gcd a b = Nat.gcd a b) := rfl
  generalize hg : Nat.gcd a b = g at *
  have HGG := Lib.hid hg
  clear hg
  go_enter Tryd.func71, Tryd.ntmps71
  go_wp2
  go_loopw [0, 1] (fun av bv wr => ∃ (x y n : Nat), av = .int .u64 x ∧ bv = .int .u64 y ∧ x < 18446744073709551616 ∧ y < 18446744073709551616 ∧ Nat.gcd x y = g ∧ wr = w.drewN n) (fun _ bv _ => (intOf bv).toNat)
  case atStart => exact ⟨a, b, 0, rfl, rfl, ha, hb, HGG.out, rfl⟩
  case round =>
    obtain ⟨x, y, n, rfl, rfl, hx, hy, he, rfl⟩ := hrel
    have HE := Lib.hid he
    clear he HG HGG
    by_cases hy0 : y = 0
    · subst hy0
      go_wp2
      go_ret
      exact ⟨by rw [← HE.out, Nat.gcd_zero_right]; rfl, n, rfl⟩
    · have hb1 : ((y : Int) != 0) = true := by rw [bne_iff_ne]; omega
      have hy1 : (1 : Int) ≤ (y : Int) := by omega
      have hm : (x : Int) % (y : Int) = ((x % y : Nat) : Int) := (Int.natCast_emod _ _).symm
      have hlt := Nat.mod_lt x (by omega : y > 0)
      have HM : Hid (Nat.gcd y (x % y) = g) := by
        unfold Hid; rw [Nat.gcd_comm, ← Nat.gcd_rec, Nat.gcd_comm]; exact HE.out
      have hlt2 : x % y < 18446744073709551616 := by omega
      generalize x % y = z at *
      clear hy0
      go_wp2
      go_quiet (fail)
      go_wp2
      go_roundw
      case rel => exact ⟨y, z, n + nq, rfl, by go_num, hy, hlt2, HM.out, by first | rfl | rw [World.drewN_drewN]⟩
      case measure => simp only [intOf]; omega

/-- s is the greatest number whose square is at most n. -/
def IsRoot (n s : Nat) : Prop := s * s ≤ n ∧ n < (s + 1) * (s + 1)

theorem newton {n s : Nat} (hs : 0 < s) : n < ((s + n / s) / 2 + 1) * ((s + n / s) / 2 + 1) := by
  have h1 := Nat.div_add_mod n s
  have h2 := Nat.mod_lt n hs
  generalize n / s = q at *
  generalize n % s = r at *
  have h3 : s + q + 1 ≤ 2 * ((s + q) / 2 + 1) := by omega
  generalize (s + q) / 2 + 1 = t at *
  have h4 : (s + q + 1) * (s + q + 1) ≤ (2 * t) * (2 * t) := Nat.mul_le_mul h3 h3
  have h5 : (2 * t) * (2 * t) = 4 * (t * t) := by rw [Nat.mul_mul_mul_comm]
  have h6 : 4 * (s * (q + 1)) ≤ (s + (q + 1)) * (s + (q + 1)) := by
    generalize q + 1 = p
    rcases Nat.le_total s p with h | h
    · obtain ⟨d, rfl⟩ := Nat.le.dest h
      have : (s + (s + d)) * (s + (s + d)) = 4 * (s * (s + d)) + d * d := by grind
      omega
    · obtain ⟨d, rfl⟩ := Nat.le.dest h
      have : (p + d + p) * (p + d + p) = 4 * ((p + d) * p) + d * d := by grind
      omega
  have h7 : s * (q + 1) = s * q + s := by rw [Nat.mul_add, Nat.mul_one]
  rw [show s + (q + 1) = s + q + 1 from rfl] at h6
  omega

theorem newton_done {n s : Nat} (hs : 0 < s) (h : s ≤ (s + n / s) / 2) : s * s ≤ n := by
  have h1 : s ≤ n / s := by omega
  exact Nat.le_trans (Nat.mul_le_mul_left s h1) (Nat.mul_div_le n s)

theorem root_unique {n s t : Nat} (h1 : IsRoot n s) (h2 : IsRoot n t) : s = t := by
  rcases Nat.lt_trichotomy s t with h | h | h
  · have := Nat.mul_le_mul (show s + 1 ≤ t from h) (show s + 1 ≤ t from h)
    have := h1.2; have := h2.1; omega
  · exact h
  · have := Nat.mul_le_mul (show t + 1 ≤ s from h) (show t + 1 ≤ s from h)
    have := h2.2; have := h1.1; omega

set_option maxRecDepth 100000 in
set_option maxHeartbeats 1000000 in
theorem rootSmall_any (n : Nat) (hn : n < 18446744073709551616) (w : World) :
    Calls Tryd.prog 72 #[.int .u64 n] w fun e w' => ∃ s : Nat, e = .returned (.int .u64 s) ∧ IsRoot n s ∧ s < 18446744073709551616 ∧ w = w' := by
  by_cases h0 : n = 0
  · subst h0
    go_enter Tryd.func72, Tryd.ntmps72
    go_wp2
    go_ret
    exact ⟨0, rfl, ⟨Nat.le_refl _, by omega⟩, by omega, rfl⟩
  · have hb1 : ((n : Int) == 0) = false := by rw [beq_eq_false_iff_ne]; omega
    have hbl := Lib.bitLen_le n 64 (by omega) (by omega)
    have hbe := bitLen_eq n hn
    have hlt := lt_blen n
    rw [← hbe] at hlt
    have c0 : Calls Tryd.prog 89 #[.int .u64 (n : Int)] w fun e w' => e = .returned (.int .i64 (Lib.bitLen n : Int)) ∧ w = w' :=
      (Tryd.bits_Len64 n w (by omega) (by omega)).mono fun _ _ h => ⟨by rw [h.1, Int.toNat_natCast], h.2.symm⟩
    have HC0 := Lib.hid c0
    generalize Lib.bitLen n = b at *
    have hp : n < 2 ^ ((b + 1) / 2) * 2 ^ ((b + 1) / 2) := by
      rw [← Nat.pow_add]
      exact Nat.lt_of_lt_of_le hlt (Nat.pow_le_pow_right (by omega) (by omega))
    have hp2 : 2 ^ ((b + 1) / 2) ≤ 2 ^ 32 := Nat.pow_le_pow_right (by omega) (by omega)
    have hp0 : 0 < 2 ^ ((b + 1) / 2) := Nat.pow_pos (by omega)
    have HP := Lib.hid hp
    have hn1 : 1 ≤ n := by omega
    clear c0 hbe hlt hp h0
    go_enter Tryd.func72, Tryd.ntmps72
    go_wp2_with fail
    refine HC0.out.mono ?_
    rintro e w1 ⟨rfl, rfl⟩
    have hw : IntKind.u64.wrap ((2 : Int) ^ ((b + 1) / 2)) = ((2 ^ ((b + 1) / 2) : Nat) : Int) := by
      rw [IntWalk.u64_in _ (by rw [show ((2 : Int) ^ ((b + 1) / 2)) = ((2 ^ ((b + 1) / 2) : Nat) : Int) from by rw [Int.natCast_pow]; rfl]; omega), Int.natCast_pow]; rfl
    have HP2 : Hid (n < (2 ^ ((b + 1) / 2) + 1) * (2 ^ ((b + 1) / 2) + 1)) := Nat.lt_of_lt_of_le HP.out (Nat.mul_le_mul (Nat.le_succ _) (Nat.le_succ _))
    generalize 2 ^ ((b + 1) / 2) = p at *
    have HW := Lib.hid hw
    clear hw
    go_wp2
    go_loop [3] (fun v => ∃ s : Nat, v = .int .u64 s ∧ 0 < s ∧ s ≤ 4294967296 ∧ n < (s + 1) * (s + 1)) (fun v => (intOf v).toNat)
    case atStart => exact ⟨p, by rw [HW.out], hp0, hp2, HP2.out⟩
    case round =>
      obtain ⟨s, rfl, hs0, hs1, hs2⟩ := hrel
      have hq : n / s ≤ s + 2 := by
        have h1 : n / s < s + 3 := (Nat.div_lt_iff_lt_mul hs0).2 (by
          have : (s + 1) * (s + 1) ≤ (s + 3) * s := by grind
          omega)
        omega
      have hqe : (n : Int) / (s : Int) = ((n / s : Nat) : Int) := (Int.natCast_ediv _ _).symm
      have HN := Lib.hid (newton (n := n) hs0)
      have HD := Lib.hid (newton_done (n := n) hs0)
      have HS2 := Lib.hid hs2
      have hs3 : (1 : Int) ≤ (s : Int) := by omega
      clear hs2
      generalize n / s = q at *
      by_cases hge : s ≤ (s + q) / 2
      · have hr : IsRoot n s := ⟨HD.out hge, HS2.out⟩
        go_wp2
        go_ret
        exact ⟨s, rfl, hr, by omega, rfl⟩
      · have ht0 : 0 < (s + q) / 2 := by
          rcases Nat.eq_zero_or_pos ((s + q) / 2) with h | h
          · have := HN.out; rw [h] at this; omega
          · exact h
        go_wp2
        go_round
        case rel => exact ⟨(s + q) / 2, by go_num, ht0, by omega, HN.out⟩
        case measure => simp only [intOf]; omega
end Go.Proofs.YtgfoplokplnpgaaDoor
