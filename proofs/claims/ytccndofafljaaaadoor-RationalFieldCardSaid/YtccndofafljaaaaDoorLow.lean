/- integer.commonSmall, integer.rootSmall, integer.root
   integer.common and integer.root at magnitudes of at most two words.
   Gcd and Sqrt at magnitudes of at most two words. -/
import Derived.Test.YtccndofafljaaaaDoorInts
import Derived.Test.YtccndofafljaaaaDoorMagn
import Derived.Test.YtccndofafljaaaaDoorInt7

set_option linter.unusedVariables false
set_option linter.unusedSimpArgs false

namespace Go.Proofs.YtccndofafljaaaaDoor
open Go Go.RowKit Num

set_option maxRecDepth 100000 in
set_option maxHeartbeats 1000000 in
theorem commonSmall_any (a b : Nat) (ha : a < 18446744073709551616) (hb : b < 18446744073709551616) (w : World) :
    Calls Tryd.prog 91 #[.int .u64 a, .int .u64 b] w fun e w' => e = .returned (.int .u64 (Nat.gcd a b : Nat)) ∧ ∃ n, w' = w.drewN n := by
  have HG : Hid (Nat.gcd a b = Nat.gcd a b) := rfl
  generalize hg : Nat.gcd a b = g at *
  have HGG := Lib.hid hg
  clear hg
  go_enter Tryd.func91, Tryd.ntmps91
  go_wp2
  go_loopw [0, 1] (fun av bv wr => ∃ (x y n : Nat), av = .int .u64 x ∧ bv = .int .u64 y ∧ x < 18446744073709551616 ∧ y < 18446744073709551616 ∧ Nat.gcd x y = g ∧ wr = w.drewN n) (fun _ bv _ => (intOf bv).toNat)
  case atStart => exact ⟨a, b, 0, rfl, rfl, ha, hb, HGG.out, rfl⟩
  case round =>
    obtain ⟨x, y, n, rfl, rfl, hx, hy, he, rfl⟩ := hrel
    have HE := Lib.hid he
    clear he HG HGG
    by_cases hy0 : y = 0
    · subst hy0
      go_wp2
      go_ret
      exact ⟨by rw [← HE.out, Nat.gcd_zero_right]; rfl, n, rfl⟩
    · have hb1 : ((y : Int) != 0) = true := by rw [bne_iff_ne]; omega
      have hy1 : (1 : Int) ≤ (y : Int) := by omega
      have hm : (x : Int) % (y : Int) = ((x % y : Nat) : Int) := (Int.natCast_emod _ _).symm
      have hlt := Nat.mod_lt x (by omega : y > 0)
      have HM : Hid (Nat.gcd y (x % y) = g) := by
        unfold Hid; rw [Nat.gcd_comm, ← Nat.gcd_rec, Nat.gcd_comm]; exact HE.out
      have hlt2 : x % y < 18446744073709551616 := by omega
      generalize x % y = z at *
      clear hy0
      go_wp2
      go_quiet (fail)
      go_wp2
      go_roundw
      case rel => exact ⟨y, z, n + nq, rfl, by go_num, hy, hlt2, HM.out, by first | rfl | rw [World.drewN_drewN]⟩
      case measure => simp only [intOf]; omega

/-- s is the greatest number whose square is at most n. -/
def IsRoot (n s : Nat) : Prop := s * s ≤ n ∧ n < (s + 1) * (s + 1)

theorem newton {n s : Nat} (hs : 0 < s) : n < ((s + n / s) / 2 + 1) * ((s + n / s) / 2 + 1) := by
  have h1 := Nat.div_add_mod n s
  have h2 := Nat.mod_lt n hs
  generalize n / s = q at *
  generalize n % s = r at *
  have h3 : s + q + 1 ≤ 2 * ((s + q) / 2 + 1) := by omega
  generalize (s + q) / 2 + 1 = t at *
  have h4 : (s + q + 1) * (s + q + 1) ≤ (2 * t) * (2 * t) := Nat.mul_le_mul h3 h3
  have h5 : (2 * t) * (2 * t) = 4 * (t * t) := by rw [Nat.mul_mul_mul_comm]
  have h6 : 4 * (s * (q + 1)) ≤ (s + (q + 1)) * (s + (q + 1)) := by
    generalize q + 1 = p
    rcases Nat.le_total s p with h | h
    · obtain ⟨d, rfl⟩ := Nat.le.dest h
      have : (s + (s + d)) * (s + (s + d)) = 4 * (s * (s + d)) + d * d := by grind
      omega
    · obtain ⟨d, rfl⟩ := Nat.le.dest h
      have : (p + d + p) * (p + d + p) = 4 * ((p + d) * p) + d * d := by grind
      omega
  have h7 : s * (q + 1) = s * q + s := by rw [Nat.mul_add, Nat.mul_one]
  rw [show s + (q + 1) = s + q + 1 from rfl] at h6
  omega

theorem newton_done {n s : Nat} (hs : 0 < s) (h : s ≤ (s + n / s) / 2) : s * s ≤ n := by
  have h1 : s ≤ n / s := by omega
  exact Nat.le_trans (Nat.mul_le_mul_left s h1) (Nat.mul_div_le n s)

theorem root_unique {n s t : Nat} (h1 : IsRoot n s) (h2 : IsRoot n t) : s = t := by
  rcases Nat.lt_trichotomy s t with h | h | h
  · have := Nat.mul_le_mul (show s + 1 ≤ t from h) (show s + 1 ≤ t from h)
    have := h1.2; have := h2.1; omega
  · exact h
  · have := Nat.mul_le_mul (show t + 1 ≤ s from h) (show t + 1 ≤ s from h)
    have := h2.2; have := h1.1; omega

set_option maxRecDepth 100000 in
set_option maxHeartbeats 1000000 in
theorem rootSmall_any (n : Nat) (hn : n < 18446744073709551616) (w : World) :
    Calls Tryd.prog 84 #[.int .u64 n] w fun e w' => ∃ s : Nat, e = .returned (.int .u64 s) ∧ IsRoot n s ∧ s < 18446744073709551616 ∧ w = w' := by
  by_cases h0 : n = 0
  · subst h0
    go_enter Tryd.func84, Tryd.ntmps84
    go_wp2
    go_ret
    exact ⟨0, rfl, ⟨Nat.le_refl _, by omega⟩, by omega, rfl⟩
  · have hb1 : ((n : Int) == 0) = false := by rw [beq_eq_false_iff_ne]; omega
    have hbl := Lib.bitLen_le n 64 (by omega) (by omega)
    have hbe := bitLen_eq n hn
    have hlt := lt_blen n
    rw [← hbe] at hlt
    have c0 : Calls Tryd.prog 103 #[.int .u64 (n : Int)] w fun e w' => e = .returned (.int .i64 (Lib.bitLen n : Int)) ∧ w = w' :=
      (Tryd.bits_Len64 n w (by omega) (by omega)).mono fun _ _ h => ⟨by rw [h.1, Int.toNat_natCast], h.2.symm⟩
    have HC0 := Lib.hid c0
    generalize Lib.bitLen n = b at *
    have hp : n < 2 ^ ((b + 1) / 2) * 2 ^ ((b + 1) / 2) := by
      rw [← Nat.pow_add]
      exact Nat.lt_of_lt_of_le hlt (Nat.pow_le_pow_right (by omega) (by omega))
    have hp2 : 2 ^ ((b + 1) / 2) ≤ 2 ^ 32 := Nat.pow_le_pow_right (by omega) (by omega)
    have hp0 : 0 < 2 ^ ((b + 1) / 2) := Nat.pow_pos (by omega)
    have HP := Lib.hid hp
    have hn1 : 1 ≤ n := by omega
    clear c0 hbe hlt hp h0
    go_enter Tryd.func84, Tryd.ntmps84
    go_wp2_with fail
    refine HC0.out.mono ?_
    rintro e w1 ⟨rfl, rfl⟩
    have hw : IntKind.u64.wrap ((2 : Int) ^ ((b + 1) / 2)) = ((2 ^ ((b + 1) / 2) : Nat) : Int) := by
      rw [IntWalk.u64_in _ (by rw [show ((2 : Int) ^ ((b + 1) / 2)) = ((2 ^ ((b + 1) / 2) : Nat) : Int) from by rw [Int.natCast_pow]; rfl]; omega), Int.natCast_pow]; rfl
    have HP2 : Hid (n < (2 ^ ((b + 1) / 2) + 1) * (2 ^ ((b + 1) / 2) + 1)) := Nat.lt_of_lt_of_le HP.out (Nat.mul_le_mul (Nat.le_succ _) (Nat.le_succ _))
    generalize 2 ^ ((b + 1) / 2) = p at *
    have HW := Lib.hid hw
    clear hw
    go_wp2
    go_loop [3] (fun v => ∃ s : Nat, v = .int .u64 s ∧ 0 < s ∧ s ≤ 4294967296 ∧ n < (s + 1) * (s + 1)) (fun v => (intOf v).toNat)
    case atStart => exact ⟨p, by rw [HW.out], hp0, hp2, HP2.out⟩
    case round =>
      obtain ⟨s, rfl, hs0, hs1, hs2⟩ := hrel
      have hq : n / s ≤ s + 2 := by
        have h1 : n / s < s + 3 := (Nat.div_lt_iff_lt_mul hs0).2 (by
          have : (s + 1) * (s + 1) ≤ (s + 3) * s := by grind
          omega)
        omega
      have hqe : (n : Int) / (s : Int) = ((n / s : Nat) : Int) := (Int.natCast_ediv _ _).symm
      have HN := Lib.hid (newton (n := n) hs0)
      have HD := Lib.hid (newton_done (n := n) hs0)
      have HS2 := Lib.hid hs2
      have hs3 : (1 : Int) ≤ (s : Int) := by omega
      clear hs2
      generalize n / s = q at *
      by_cases hge : s ≤ (s + q) / 2
      · have hr : IsRoot n s := ⟨HD.out hge, HS2.out⟩
        go_wp2
        go_ret
        exact ⟨s, rfl, hr, by omega, rfl⟩
      · have ht0 : 0 < (s + q) / 2 := by
          rcases Nat.eq_zero_or_pos ((s + q) / 2) with h | h
          · have := HN.out; rw [h] at this; omega
          · exact h
        go_wp2
        go_round
        case rel => exact ⟨(s + q) / 2, by go_num, ht0, by omega, HN.out⟩
        case measure => simp only [intOf]; omega
end Go.Proofs.YtccndofafljaaaaDoor

namespace Go.Proofs.YtccndofafljaaaaDoor
open Go Go.RowKit Num

theorem len2 {n : Nat} (h : n < 18446744073709551616) : (digs n).length ≤ 2 := digs_length_le (by omega)

set_option maxRecDepth 100000 in
set_option maxHeartbeats 1000000 in
theorem common_keep (v1 v2 : Value) (a b : Nat) (w : World) (h1 : Mag w v1 a) (h2 : Mag w v2 b) (hba : b ≤ a) (ha : a < 18446744073709551616) :
    Calls Tryd.prog 70 #[v1, v2] w fun e w' => ∃ v, e = .returned v ∧ Mag w' v (Nat.gcd a b) ∧ Below w.heap.size w w' := by
  have hle : b ≤ a := by omega
  have hb : b < 18446744073709551616 := by omega
  have la := len2 ha
  have lb := len2 hb
  have c0 := compare_any v1 v2 a b w h1 h2 (by omega) (by omega)
  have hcv := cmpI_lt.2.2 hba
  generalize cmpI a b = cv at *
  have HC0 := Lib.hid c0
  obtain ⟨A1, k1, rfl, -, -, -⟩ := h1.form'
  obtain ⟨A2, k2, rfl, -, -, -⟩ := h2.form'
  have HH1 := Lib.hid h1
  have HH2 := Lib.hid h2
  clear c0 h1 h2
  have hbel0 := fun n => bel_drewN (Below.refl w.heap.size w) n
  have HB0 := Lib.hid hbel0
  clear hbel0
  by_cases hb0 : b = 0
  · have hg : Nat.gcd a b = a := by rw [hb0, Nat.gcd_zero_right]
    rw [hg]
    have hz : (digs b).length = 0 := nat_len_zero.2 hb0
    rw [hz] at HC0 ⊢
    clear hg hz
    go_enter Tryd.func70, Tryd.ntmps70
    go_wp2_with fail
    refine HC0.out.mono ?_
    rintro e w1 ⟨rfl, n, rfl⟩
    have hm := U32.drewN HH1.out n
    go_wp2
    go_rounds 1
    go_ret
    exact ⟨_, rfl, hm, HB0.out n⟩
  · have hg : Nat.gcd b (a % b) = Nat.gcd a b := by rw [Nat.gcd_comm a b, Nat.gcd_rec b a, Nat.gcd_comm]
    have HG := Lib.hid hg
    have hr := Nat.mod_lt a (by omega : b > 0)
    have hr64 : a % b < 18446744073709551616 := by omega
    have hz : (((digs b).length : Int) == 0) = false := by rw [beq_eq_false_iff_ne]; intro h; exact hb0 (nat_len_zero.1 (by omega))
    have hgb : Nat.gcd a b < 18446744073709551616 := Nat.lt_of_le_of_lt (Nat.gcd_le_right a (by omega)) hb
    have cd := fun n => divide_any (.slice A1 (digs a).length k1) (.slice A2 (digs b).length k2) a b (w.drewN n) (U32.drewN HH1.out n) (U32.drewN HH2.out n) (by omega) (by omega) (by omega)
    have HCD := Lib.hid cd
    have cs := fun W => commonSmall_any b (a % b) hb hr64 W
    rw [hg] at cs
    have HCS := Lib.hid cs
    generalize Nat.gcd a b = g at *
    clear cd cs hg hb0 hr
    go_enter Tryd.func70, Tryd.ntmps70
    go_wp2_with fail
    refine HC0.out.mono ?_
    rintro e w1 ⟨rfl, n, rfl⟩
    have h2n := U32.drewN HH2.out n
    have HBn := HB0.out n
    go_wp2_with fail
    refine wp_loop_rounds 1 ?_
    rw [rounds_succ]
    go_wp2_with fail
    refine (HCD.out n).mono ?_
    rintro e w2 ⟨vq, vr, rfl, hmq, hmr, hb2⟩
    have h22 := U32.below h2n hb2
    have hbw := HBn.trans (hb2.mono (Nat.le_refl _))
    clear hb2 hmq
    go_wp2_with fail
    refine (number_any _ b hb _ h22).mono ?_
    rintro e w3 ⟨rfl, rfl⟩
    go_wp2_with fail
    refine (number_any _ (a % b) hr64 _ hmr).mono ?_
    rintro e w3 ⟨rfl, rfl⟩
    go_wp2_with fail
    have HCSW := HCS.out w2
    refine HCSW.mono ?_
    rintro e w3 ⟨rfl, n3, rfl⟩
    have hbw3 := bel_drewN hbw n3
    clear HCSW hbw
    go_wp2_with fail
    refine (words_any g hgb _).mono ?_
    rintro e w4 ⟨v4, rfl, hm4, hb4⟩
    have hbw4 := hbw3.trans (hb4.mono hbw3.size)
    clear hb4
    go_wp2
    go_ret
    exact ⟨_, rfl, hm4, hbw4⟩

set_option maxRecDepth 100000 in
set_option maxHeartbeats 1000000 in
theorem common_swap (v1 v2 : Value) (a b : Nat) (w : World) (h1 : Mag w v1 a) (h2 : Mag w v2 b) (hba : b < a) (ha : a < 18446744073709551616) :
    Calls Tryd.prog 70 #[v2, v1] w fun e w' => ∃ v, e = .returned v ∧ Mag w' v (Nat.gcd a b) ∧ Below w.heap.size w w' := by
  have hle : b ≤ a := by omega
  have hb : b < 18446744073709551616 := by omega
  have la := len2 ha
  have lb := len2 hb
  have c0 := compare_any v2 v1 b a w h2 h1 (by omega) (by omega)
  have hcv := cmpI_lt.1.2 hba
  generalize cmpI b a = cv at *
  have HC0 := Lib.hid c0
  obtain ⟨A1, k1, rfl, -, -, -⟩ := h1.form'
  obtain ⟨A2, k2, rfl, -, -, -⟩ := h2.form'
  have HH1 := Lib.hid h1
  have HH2 := Lib.hid h2
  clear c0 h1 h2
  have hbel0 := fun n => bel_drewN (Below.refl w.heap.size w) n
  have HB0 := Lib.hid hbel0
  clear hbel0
  by_cases hb0 : b = 0
  · have hg : Nat.gcd a b = a := by rw [hb0, Nat.gcd_zero_right]
    rw [hg]
    have hz : (digs b).length = 0 := nat_len_zero.2 hb0
    rw [hz] at HC0 ⊢
    clear hg hz
    go_enter Tryd.func70, Tryd.ntmps70
    go_wp2_with fail
    refine HC0.out.mono ?_
    rintro e w1 ⟨rfl, n, rfl⟩
    have hm := U32.drewN HH1.out n
    go_wp2
    go_rounds 1
    go_ret
    exact ⟨_, rfl, hm, HB0.out n⟩
  · have hg : Nat.gcd b (a % b) = Nat.gcd a b := by rw [Nat.gcd_comm a b, Nat.gcd_rec b a, Nat.gcd_comm]
    have HG := Lib.hid hg
    have hr := Nat.mod_lt a (by omega : b > 0)
    have hr64 : a % b < 18446744073709551616 := by omega
    have hz : (((digs b).length : Int) == 0) = false := by rw [beq_eq_false_iff_ne]; intro h; exact hb0 (nat_len_zero.1 (by omega))
    have hgb : Nat.gcd a b < 18446744073709551616 := Nat.lt_of_le_of_lt (Nat.gcd_le_right a (by omega)) hb
    have cd := fun n => divide_any (.slice A1 (digs a).length k1) (.slice A2 (digs b).length k2) a b (w.drewN n) (U32.drewN HH1.out n) (U32.drewN HH2.out n) (by omega) (by omega) (by omega)
    have HCD := Lib.hid cd
    have cs := fun W => commonSmall_any b (a % b) hb hr64 W
    rw [hg] at cs
    have HCS := Lib.hid cs
    generalize Nat.gcd a b = g at *
    clear cd cs hg hb0 hr
    go_enter Tryd.func70, Tryd.ntmps70
    go_wp2_with fail
    refine HC0.out.mono ?_
    rintro e w1 ⟨rfl, n, rfl⟩
    have h2n := U32.drewN HH2.out n
    have HBn := HB0.out n
    go_wp2_with fail
    refine wp_loop_rounds 1 ?_
    rw [rounds_succ]
    go_wp2_with fail
    refine (HCD.out n).mono ?_
    rintro e w2 ⟨vq, vr, rfl, hmq, hmr, hb2⟩
    have h22 := U32.below h2n hb2
    have hbw := HBn.trans (hb2.mono (Nat.le_refl _))
    clear hb2 hmq
    go_wp2_with fail
    refine (number_any _ b hb _ h22).mono ?_
    rintro e w3 ⟨rfl, rfl⟩
    go_wp2_with fail
    refine (number_any _ (a % b) hr64 _ hmr).mono ?_
    rintro e w3 ⟨rfl, rfl⟩
    go_wp2_with fail
    have HCSW := HCS.out w2
    refine HCSW.mono ?_
    rintro e w3 ⟨rfl, n3, rfl⟩
    have hbw3 := bel_drewN hbw n3
    clear HCSW hbw
    go_wp2_with fail
    refine (words_any g hgb _).mono ?_
    rintro e w4 ⟨v4, rfl, hm4, hb4⟩
    have hbw4 := hbw3.trans (hb4.mono hbw3.size)
    clear hb4
    go_wp2
    go_ret
    exact ⟨_, rfl, hm4, hbw4⟩

set_option maxRecDepth 100000 in
set_option maxHeartbeats 1000000 in
theorem root_small (v : Value) (n : Nat) (w : World) (h : Mag w v n) (hn : n < 18446744073709551616) :
    Calls Tryd.prog 65 #[v] w fun e w' => ∃ v' s, e = .returned v' ∧ Mag w' v' s ∧ IsRoot n s ∧ Below w.heap.size w w' := by
  have hl := len2 hn
  obtain ⟨A1, k1, rfl, -, -, -⟩ := h.form'
  go_enter Tryd.func65, Tryd.ntmps65
  go_wp2_with fail
  refine (number_any _ n hn _ h).mono ?_
  rintro e w1 ⟨rfl, rfl⟩
  go_wp2_with fail
  refine (rootSmall_any n hn w).mono ?_
  rintro e w1 ⟨s, rfl, hr, hs, rfl⟩
  go_wp2_with fail
  refine (words_any s hs _).mono ?_
  rintro e w4 ⟨v4, rfl, hm4, hb4⟩
  have HR := Lib.hid hr
  clear hr
  go_wp2
  go_ret
  exact ⟨_, s, rfl, hm4, HR.out, hb4⟩
end Go.Proofs.YtccndofafljaaaaDoor

namespace Go.Proofs.YtccndofafljaaaaDoor
open Go Go.RowKit Num

set_option maxRecDepth 100000 in
set_option maxHeartbeats 2000000 in
theorem Gcd_keep (s1 s2 : Bool) (m1 m2 : Value) (l1 l2 : List Nat) (w : World) (h1 : U32 w m1 l1) (h2 : U32 w m2 l2) (hv1 : val l1 < 18446744073709551616) (hv2 : val l2 < 18446744073709551616) (hle : val l2 ≤ val l1) :
    Calls Tryd.prog 34 #[.agg #[.bool s1, m1], .agg #[.bool s2, m2]] w fun e w' => ∃ v, e = .returned v ∧ Can w' v (Nat.gcd (val l1) (val l2) : Nat) ∧ Below w.heap.size w w' := by
  have bA := ((Box.new w s1 m1).alloc (.cells #[.bool s2, m2] 24)).alloc (.cells #[.bool false, .slice none 0 0] 24)
  have bB := (Box.new (w.alloc (.cells #[.bool s1, m1] 24)) s2 m2).alloc (.cells #[.bool false, .slice none 0 0] 24)
  have bR := Box.new ((w.alloc (.cells #[.bool s1, m1] 24)).alloc (.cells #[.bool s2, m2] 24)) false (.slice none 0 0)
  have hb0 : Below w.heap.size w (((w.alloc (.cells #[.bool s1, m1] 24)).alloc (.cells #[.bool s2, m2] 24)).alloc (.cells #[.bool false, .slice none 0 0] 24)) := ((((Below.refl w.heap.size w).alloc (Nat.le_refl _) _).alloc (by simp) _).alloc (by simp; omega) _)
  have hsz : w.heap.size + 3 = (((w.alloc (.cells #[.bool s1, m1] 24)).alloc (.cells #[.bool s2, m2] 24)).alloc (.cells #[.bool false, .slice none 0 0] 24)).heap.size := by simp
  simp only [World.size_alloc] at bB bR
  have h1' := h1.below hb0
  have h2' := h2.below hb0
  have hl1 := length_val_le h1.lt
  have hl2 := length_val_le h2.lt
  have cA0 := Box.c0 bA
  have cA1 := Box.c1 bA
  have fA0 := Box.f0 bA
  have fA1 := Box.f1 bA
  have cB0 := Box.c0 bB
  have cB1 := Box.c1 bB
  have fB0 := Box.f0 bB
  have fB1 := Box.f1 bB
  have cR0 := Box.c0 bR
  have cR1 := Box.c1 bR
  have fR0 := Box.f0 bR
  have fR1 := Box.f1 bR
  have hmt1 := trimV_mag h1'
  have hmt2 := trimV_mag h2'
  have hgl : (digs (Nat.gcd (val l1) (val l2))).length ≤ 2 := len2 (by
    rcases Nat.eq_zero_or_pos (val l1) with h0 | h0
    · rw [h0]; simp; exact hv2
    · have := Nat.gcd_le_left (val l2) h0
      first | omega | (rw [Nat.gcd_comm]; omega))
  have HZ : Hid ((if false = true then -((Nat.gcd (val l1) (val l2) : Nat) : Int) else ((Nat.gcd (val l1) (val l2) : Nat) : Int)) = (Nat.gcd (val l1) (val l2) : Nat)) := by
    unfold Hid; first | rfl | (rw [Nat.gcd_comm]; rfl)
  go_enter Tryd.func34, Tryd.ntmps34
  go_wp2
  generalize ((w.alloc (.cells #[.bool s1, m1] 24)).alloc (.cells #[.bool s2, m2] 24)).alloc (.cells #[.bool false, .slice none 0 0] 24) = W0 at *
  have hge : w.heap.size + 3 ≤ W0.heap.size := by omega
  clear hsz
  go_region_held3 (fun w' => w'.cell? ⟨w.heap.size, 0, none⟩ = some (.bool s1) ∧ w'.cell? ⟨w.heap.size, 1, none⟩ = some m1 ∧ w'.cell? ⟨w.heap.size + 1, 0, none⟩ = some (.bool s2) ∧ w'.cell? ⟨w.heap.size + 1, 1, none⟩ = some m2) (((try dsimp only); (repeat' apply And.intro) <;> (first | go_keep | (rw [far2 (by omega)]; assumption) | assumption)))
    (first
      | (go_at_call_of 36 (m1); refine (trim_eq m1 l1 _ (U32.below h1' (by exact ⟨rfl, rfl, rfl, Nat.le_refl _, fun _ _ => rfl⟩))).mono ?_; rintro e w' ⟨rfl, rfl⟩)
      | (go_at_call_of 36 (m2); refine (trim_eq m2 l2 _ (U32.below h2' (by exact ⟨rfl, rfl, rfl, Nat.le_refl _, fun _ _ => rfl⟩))).mono ?_; rintro e w' ⟨rfl, rfl⟩)
      | (go_at_call 70; refine (common_keep (trimV m1 (val l1)) (trimV m2 (val l2)) (val l1) (val l2) _ (U32.below hmt1 (by exact ⟨rfl, rfl, rfl, Nat.le_refl _, fun _ _ => rfl⟩)) (U32.below hmt2 (by exact ⟨rfl, rfl, rfl, Nat.le_refl _, fun _ _ => rfl⟩)) hle hv1).mono ?_; rintro e w2 ⟨v2, rfl, hm2, hb2⟩; replace hb2 := undraw1 hb2; have bAw2 := Box.below bA hb2 (by first | omega | (simp; done) | exact Nat.lt_of_lt_of_le (by omega) hge | (simp <;> omega)); have cA0w2 := Box.c0 bAw2; have cA1w2 := Box.c1 bAw2; have bBw2 := Box.below bB hb2 (by first | omega | (simp; done) | exact Nat.lt_of_lt_of_le (by omega) hge | (simp <;> omega)); have cB0w2 := Box.c0 bBw2; have cB1w2 := Box.c1 bBw2; have bRw2 := Box.below bR hb2 (by first | omega | (simp; done) | exact Nat.lt_of_lt_of_le (by omega) hge | (simp <;> omega)); have cR0w2 := Box.c0 bRw2; have cR1w2 := Box.c1 bRw2; have fR0w2 := Box.f0 bRw2; have fR1w2 := Box.f1 bRw2; have hzw2 : w.heap.size + 3 ≤ w2.heap.size := (by have hq := hb2.size; first | omega | exact Nat.le_trans hge hq | (simp at hq; omega)))
      | (go_at_call 51; refine (clone_any v2 _ _ hm2 (by omega)).mono ?_; rintro e w4 ⟨v4, rfl, hcl, hb4⟩; have bAw4 := Box.below bAw2 hb4 (by first | omega | (simp; done) | exact Nat.lt_of_lt_of_le (by omega) hge | (simp <;> omega)); have cA0w4 := Box.c0 bAw4; have cA1w4 := Box.c1 bAw4; have bBw4 := Box.below bBw2 hb4 (by first | omega | (simp; done) | exact Nat.lt_of_lt_of_le (by omega) hge | (simp <;> omega)); have cB0w4 := Box.c0 bBw4; have cB1w4 := Box.c1 bBw4; have bRw4 := Box.below bRw2 hb4 (by first | omega | (simp; done) | exact Nat.lt_of_lt_of_le (by omega) hge | (simp <;> omega)); have cR0w4 := Box.c0 bRw4; have cR1w4 := Box.c1 bRw4; have fR0w4 := Box.f0 bRw4; have fR1w4 := Box.f1 bRw4; have hzw4 : w.heap.size + 3 ≤ w4.heap.size := (by have hq := hb4.size; first | omega | exact Nat.le_trans hge hq | (simp at hq; omega)))
      | (go_at_call 41; refine (signed_can false _ (digs (Nat.gcd (val l1) (val l2))) _ (hcl.u32 (digs_lt _))).mono ?_; rintro e w3 ⟨sg, A3, k3, c3, rfl, hm3, hb3⟩; have bAw3 := Box.below bAw4 hb3 (by first | omega | (simp; done) | exact Nat.lt_of_lt_of_le (by omega) hge | (simp <;> omega)); have cA0w3 := Box.c0 bAw3; have cA1w3 := Box.c1 bAw3; have bBw3 := Box.below bBw4 hb3 (by first | omega | (simp; done) | exact Nat.lt_of_lt_of_le (by omega) hge | (simp <;> omega)); have cB0w3 := Box.c0 bBw3; have cB1w3 := Box.c1 bBw3; have bRw3 := Box.below bRw4 hb3 (by first | omega | (simp; done) | exact Nat.lt_of_lt_of_le (by omega) hge | (simp <;> omega)); have cR0w3 := Box.c0 bRw3; have cR1w3 := Box.c1 bRw3; have fR0w3 := Box.f0 bRw3; have fR1w3 := Box.f1 bRw3; have hzw3 : w.heap.size + 3 ≤ w3.heap.size := (by have hq := hb3.size; first | omega | exact Nat.le_trans hge hq | (simp at hq; omega))))
  all_goals
    have hb0' : Below w.heap.size w W0 := hb0
    replace hb2 := hb2.trans (hb4.mono hb2.size)
    have bS := bRw3.store sg (.slice A3 k3 c3)
    have s0 := bS.c0
    have s1' := bS.c1
    have hfin := bRw3.can hm3 sg (.slice A3 k3 c3)
    have hbel : Below w.heap.size w w3 := (hb0'.trans (hb2.mono (by omega))).trans (hb3.mono (by omega))
    have hbel2 := Below.store hbel (x := w.heap.size + 1 + 1) (by omega) (.bool sg) (.slice A3 k3 c3)
    rw [ival_digs, HZ.out] at hfin
    clear hm3 hb2 hb3 bS hbel
    generalize (w3.setCell ⟨w.heap.size + 1 + 1, 0, none⟩ (.bool sg)).setCell ⟨w.heap.size + 1 + 1, 1, none⟩ (.slice A3 k3 c3) = W at *
    go_wp2
    exact bodyPost_ret (v := .agg #[.bool sg, .slice A3 k3 c3]) (by simp [results, Tryd.results34, go_sem, s0, s1']) rfl ⟨_, rfl, hfin, hbel2⟩

set_option maxRecDepth 100000 in
set_option maxHeartbeats 2000000 in
theorem Gcd_swap (s1 s2 : Bool) (m1 m2 : Value) (l1 l2 : List Nat) (w : World) (h1 : U32 w m1 l1) (h2 : U32 w m2 l2) (hv1 : val l1 < 18446744073709551616) (hv2 : val l2 < 18446744073709551616) (hle : val l1 < val l2) :
    Calls Tryd.prog 34 #[.agg #[.bool s1, m1], .agg #[.bool s2, m2]] w fun e w' => ∃ v, e = .returned v ∧ Can w' v (Nat.gcd (val l1) (val l2) : Nat) ∧ Below w.heap.size w w' := by
  have bA := ((Box.new w s1 m1).alloc (.cells #[.bool s2, m2] 24)).alloc (.cells #[.bool false, .slice none 0 0] 24)
  have bB := (Box.new (w.alloc (.cells #[.bool s1, m1] 24)) s2 m2).alloc (.cells #[.bool false, .slice none 0 0] 24)
  have bR := Box.new ((w.alloc (.cells #[.bool s1, m1] 24)).alloc (.cells #[.bool s2, m2] 24)) false (.slice none 0 0)
  have hb0 : Below w.heap.size w (((w.alloc (.cells #[.bool s1, m1] 24)).alloc (.cells #[.bool s2, m2] 24)).alloc (.cells #[.bool false, .slice none 0 0] 24)) := ((((Below.refl w.heap.size w).alloc (Nat.le_refl _) _).alloc (by simp) _).alloc (by simp; omega) _)
  have hsz : w.heap.size + 3 = (((w.alloc (.cells #[.bool s1, m1] 24)).alloc (.cells #[.bool s2, m2] 24)).alloc (.cells #[.bool false, .slice none 0 0] 24)).heap.size := by simp
  simp only [World.size_alloc] at bB bR
  have h1' := h1.below hb0
  have h2' := h2.below hb0
  have hl1 := length_val_le h1.lt
  have hl2 := length_val_le h2.lt
  have cA0 := Box.c0 bA
  have cA1 := Box.c1 bA
  have fA0 := Box.f0 bA
  have fA1 := Box.f1 bA
  have cB0 := Box.c0 bB
  have cB1 := Box.c1 bB
  have fB0 := Box.f0 bB
  have fB1 := Box.f1 bB
  have cR0 := Box.c0 bR
  have cR1 := Box.c1 bR
  have fR0 := Box.f0 bR
  have fR1 := Box.f1 bR
  have hmt1 := trimV_mag h1'
  have hmt2 := trimV_mag h2'
  have hgl : (digs (Nat.gcd (val l2) (val l1))).length ≤ 2 := len2 (by
    rcases Nat.eq_zero_or_pos (val l1) with h0 | h0
    · rw [h0]; simp; exact hv2
    · have := Nat.gcd_le_left (val l2) h0
      first | omega | (rw [Nat.gcd_comm]; omega))
  have HZ : Hid ((if false = true then -((Nat.gcd (val l2) (val l1) : Nat) : Int) else ((Nat.gcd (val l2) (val l1) : Nat) : Int)) = (Nat.gcd (val l1) (val l2) : Nat)) := by
    unfold Hid; first | rfl | (rw [Nat.gcd_comm]; rfl)
  go_enter Tryd.func34, Tryd.ntmps34
  go_wp2
  generalize ((w.alloc (.cells #[.bool s1, m1] 24)).alloc (.cells #[.bool s2, m2] 24)).alloc (.cells #[.bool false, .slice none 0 0] 24) = W0 at *
  have hge : w.heap.size + 3 ≤ W0.heap.size := by omega
  clear hsz
  go_region_held3 (fun w' => w'.cell? ⟨w.heap.size, 0, none⟩ = some (.bool s1) ∧ w'.cell? ⟨w.heap.size, 1, none⟩ = some m1 ∧ w'.cell? ⟨w.heap.size + 1, 0, none⟩ = some (.bool s2) ∧ w'.cell? ⟨w.heap.size + 1, 1, none⟩ = some m2) (((try dsimp only); (repeat' apply And.intro) <;> (first | go_keep | (rw [far2 (by omega)]; assumption) | assumption)))
    (first
      | (go_at_call_of 36 (m1); refine (trim_eq m1 l1 _ (U32.below h1' (by exact ⟨rfl, rfl, rfl, Nat.le_refl _, fun _ _ => rfl⟩))).mono ?_; rintro e w' ⟨rfl, rfl⟩)
      | (go_at_call_of 36 (m2); refine (trim_eq m2 l2 _ (U32.below h2' (by exact ⟨rfl, rfl, rfl, Nat.le_refl _, fun _ _ => rfl⟩))).mono ?_; rintro e w' ⟨rfl, rfl⟩)
      | (go_at_call 70; refine (common_swap (trimV m2 (val l2)) (trimV m1 (val l1)) (val l2) (val l1) _ (U32.below hmt2 (by exact ⟨rfl, rfl, rfl, Nat.le_refl _, fun _ _ => rfl⟩)) (U32.below hmt1 (by exact ⟨rfl, rfl, rfl, Nat.le_refl _, fun _ _ => rfl⟩)) hle hv2).mono ?_; rintro e w2 ⟨v2, rfl, hm2, hb2⟩; replace hb2 := undraw1 hb2; have bAw2 := Box.below bA hb2 (by first | omega | (simp; done) | exact Nat.lt_of_lt_of_le (by omega) hge | (simp <;> omega)); have cA0w2 := Box.c0 bAw2; have cA1w2 := Box.c1 bAw2; have bBw2 := Box.below bB hb2 (by first | omega | (simp; done) | exact Nat.lt_of_lt_of_le (by omega) hge | (simp <;> omega)); have cB0w2 := Box.c0 bBw2; have cB1w2 := Box.c1 bBw2; have bRw2 := Box.below bR hb2 (by first | omega | (simp; done) | exact Nat.lt_of_lt_of_le (by omega) hge | (simp <;> omega)); have cR0w2 := Box.c0 bRw2; have cR1w2 := Box.c1 bRw2; have fR0w2 := Box.f0 bRw2; have fR1w2 := Box.f1 bRw2; have hzw2 : w.heap.size + 3 ≤ w2.heap.size := (by have hq := hb2.size; first | omega | exact Nat.le_trans hge hq | (simp at hq; omega)))
      | (go_at_call 51; refine (clone_any v2 _ _ hm2 (by omega)).mono ?_; rintro e w4 ⟨v4, rfl, hcl, hb4⟩; have bAw4 := Box.below bAw2 hb4 (by first | omega | (simp; done) | exact Nat.lt_of_lt_of_le (by omega) hge | (simp <;> omega)); have cA0w4 := Box.c0 bAw4; have cA1w4 := Box.c1 bAw4; have bBw4 := Box.below bBw2 hb4 (by first | omega | (simp; done) | exact Nat.lt_of_lt_of_le (by omega) hge | (simp <;> omega)); have cB0w4 := Box.c0 bBw4; have cB1w4 := Box.c1 bBw4; have bRw4 := Box.below bRw2 hb4 (by first | omega | (simp; done) | exact Nat.lt_of_lt_of_le (by omega) hge | (simp <;> omega)); have cR0w4 := Box.c0 bRw4; have cR1w4 := Box.c1 bRw4; have fR0w4 := Box.f0 bRw4; have fR1w4 := Box.f1 bRw4; have hzw4 : w.heap.size + 3 ≤ w4.heap.size := (by have hq := hb4.size; first | omega | exact Nat.le_trans hge hq | (simp at hq; omega)))
      | (go_at_call 41; refine (signed_can false _ (digs (Nat.gcd (val l2) (val l1))) _ (hcl.u32 (digs_lt _))).mono ?_; rintro e w3 ⟨sg, A3, k3, c3, rfl, hm3, hb3⟩; have bAw3 := Box.below bAw4 hb3 (by first | omega | (simp; done) | exact Nat.lt_of_lt_of_le (by omega) hge | (simp <;> omega)); have cA0w3 := Box.c0 bAw3; have cA1w3 := Box.c1 bAw3; have bBw3 := Box.below bBw4 hb3 (by first | omega | (simp; done) | exact Nat.lt_of_lt_of_le (by omega) hge | (simp <;> omega)); have cB0w3 := Box.c0 bBw3; have cB1w3 := Box.c1 bBw3; have bRw3 := Box.below bRw4 hb3 (by first | omega | (simp; done) | exact Nat.lt_of_lt_of_le (by omega) hge | (simp <;> omega)); have cR0w3 := Box.c0 bRw3; have cR1w3 := Box.c1 bRw3; have fR0w3 := Box.f0 bRw3; have fR1w3 := Box.f1 bRw3; have hzw3 : w.heap.size + 3 ≤ w3.heap.size := (by have hq := hb3.size; first | omega | exact Nat.le_trans hge hq | (simp at hq; omega))))
  all_goals
    have hb0' : Below w.heap.size w W0 := hb0
    replace hb2 := hb2.trans (hb4.mono hb2.size)
    have bS := bRw3.store sg (.slice A3 k3 c3)
    have s0 := bS.c0
    have s1' := bS.c1
    have hfin := bRw3.can hm3 sg (.slice A3 k3 c3)
    have hbel : Below w.heap.size w w3 := (hb0'.trans (hb2.mono (by omega))).trans (hb3.mono (by omega))
    have hbel2 := Below.store hbel (x := w.heap.size + 1 + 1) (by omega) (.bool sg) (.slice A3 k3 c3)
    rw [ival_digs, HZ.out] at hfin
    clear hm3 hb2 hb3 bS hbel
    generalize (w3.setCell ⟨w.heap.size + 1 + 1, 0, none⟩ (.bool sg)).setCell ⟨w.heap.size + 1 + 1, 1, none⟩ (.slice A3 k3 c3) = W at *
    go_wp2
    exact bodyPost_ret (v := .agg #[.bool sg, .slice A3 k3 c3]) (by simp [results, Tryd.results34, go_sem, s0, s1']) rfl ⟨_, rfl, hfin, hbel2⟩

set_option maxRecDepth 100000 in
set_option maxHeartbeats 1000000 in
theorem Sqrt_small (m : Value) (l : List Nat) (w : World) (h : U32 w m l) (hv : val l < 18446744073709551616) :
    Calls Tryd.prog 31 #[.agg #[.bool false, m]] w fun e w' => ∃ v s, e = .returned (.tuple #[v, .int .i64 0]) ∧ Can w' v (s : Nat) ∧ IsRoot (val l) s ∧ Below w.heap.size w w' := by
  obtain ⟨A1, k1, rfl, -⟩ := id h.form
  have bR := (Box.new (w.alloc (.cells #[.bool false, .slice A1 l.length k1] 24)) false (.slice none 0 0))
  have bA := (Box.new w false (.slice A1 l.length k1)).alloc (.cells #[.bool false, .slice none 0 0] 24)
  rw [World.size_alloc] at bR
  have hb0 : Below w.heap.size w ((w.alloc (.cells #[.bool false, .slice A1 l.length k1] 24)).alloc (.cells #[.bool false, .slice none 0 0] 24)) := ((Below.refl w.heap.size w).alloc (Nat.le_refl _) _).alloc (by simp) _
  have h' := h.below hb0
  have hsz : w.heap.size + 2 = ((w.alloc (.cells #[.bool false, .slice A1 l.length k1] 24)).alloc (.cells #[.bool false, .slice none 0 0] 24)).heap.size := by simp
  have hsg : 0 ≤ sgn (ival false l) := by
    unfold sgn ival
    simp only [Bool.false_eq_true, if_false]
    rw [if_neg (by omega)]
    split <;> omega
  have c0 := Sign_any false (.slice A1 l.length k1) l _ h'
  generalize sgn (ival false l) = sv at *
  have HC0 := Lib.hid c0
  clear c0
  go_enter Tryd.func31, Tryd.ntmps31
  go_wp2_with fail
  refine HC0.out.mono ?_
  rintro e w1 ⟨rfl, hb1⟩
  generalize (w.alloc (.cells #[.bool false, .slice A1 l.length k1] 24)).alloc (.cells #[.bool false, .slice none 0 0] 24) = W0 at *
  have hge : w.heap.size + 2 ≤ W0.heap.size := by omega
  clear hsz HC0
  have bAw1 := Box.below bA hb1 (by first | omega | (simp; done) | exact Nat.lt_of_lt_of_le (by omega) hge | (simp <;> omega))
  have cA0w1 := Box.c0 bAw1
  have cA1w1 := Box.c1 bAw1
  have bRw1 := Box.below bR hb1 (by first | omega | (simp; done) | exact Nat.lt_of_lt_of_le (by omega) hge | (simp <;> omega))
  have cR0w1 := Box.c0 bRw1
  have cR1w1 := Box.c1 bRw1
  have fR0w1 := Box.f0 bRw1
  have fR1w1 := Box.f1 bRw1
  have hzw1 : w.heap.size + 2 ≤ w1.heap.size := (by have hq := hb1.size; first | omega | exact Nat.le_trans hge hq | (simp at hq; omega))
  have h1 := h'.below hb1
  go_wp2_with fail
  refine (trim_eq _ l _ h1).mono ?_
  rintro e w2 ⟨rfl, rfl⟩
  have hm := trimV_mag h1
  go_wp2_with fail
  refine (root_small _ (val l) _ hm hv).mono ?_
  rintro e w3 ⟨v3, s, rfl, hm3, hr, hb3⟩
  have bAw3 := Box.below bAw1 hb3 (by first | omega | (simp; done) | exact Nat.lt_of_lt_of_le (by omega) hge | (simp <;> omega))
  have cA0w3 := Box.c0 bAw3
  have cA1w3 := Box.c1 bAw3
  have bRw3 := Box.below bRw1 hb3 (by first | omega | (simp; done) | exact Nat.lt_of_lt_of_le (by omega) hge | (simp <;> omega))
  have cR0w3 := Box.c0 bRw3
  have cR1w3 := Box.c1 bRw3
  have fR0w3 := Box.f0 bRw3
  have fR1w3 := Box.f1 bRw3
  have hzw3 : w.heap.size + 2 ≤ w3.heap.size := (by have hq := hb3.size; first | omega | exact Nat.le_trans hge hq | (simp at hq; omega))
  have HR := Lib.hid hr
  clear hr hm
  go_wp2_with fail
  refine (signed_can false _ (digs s) _ hm3).mono ?_
  rintro e w5 ⟨sg, A3, k3, c3, rfl, hm5, hb5⟩
  have bAw5 := Box.below bAw3 hb5 (by first | omega | (simp; done) | exact Nat.lt_of_lt_of_le (by omega) hge | (simp <;> omega))
  have cA0w5 := Box.c0 bAw5
  have cA1w5 := Box.c1 bAw5
  have bRw5 := Box.below bRw3 hb5 (by first | omega | (simp; done) | exact Nat.lt_of_lt_of_le (by omega) hge | (simp <;> omega))
  have cR0w5 := Box.c0 bRw5
  have cR1w5 := Box.c1 bRw5
  have fR0w5 := Box.f0 bRw5
  have fR1w5 := Box.f1 bRw5
  have hzw5 : w.heap.size + 2 ≤ w5.heap.size := (by have hq := hb5.size; first | omega | exact Nat.le_trans hge hq | (simp at hq; omega))
  have bS := bRw5.store sg (.slice A3 k3 c3)
  have s0 := bS.c0
  have s1 := bS.c1
  have hfin := bRw5.can hm5 sg (.slice A3 k3 c3)
  have hbel : Below w.heap.size w w5 := ((hb0.trans (hb1.mono (by omega))).trans (hb3.mono (by omega))).trans (hb5.mono (by omega))
  have hbel2 := Below.store hbel (x := w.heap.size + 1) (by omega) (.bool sg) (.slice A3 k3 c3)
  rw [ival_digs] at hfin
  simp only [Bool.false_eq_true, if_false] at hfin
  clear hm5 hm3 hb1 hb3 hb5 bS hbel
  go_wp2_with fail
  generalize (w5.setCell ⟨w.heap.size + 1, 0, none⟩ (.bool sg)).setCell ⟨w.heap.size + 1, 1, none⟩ (.slice A3 k3 c3) = W at *
  exact bodyPost_ret (v := .tuple #[.agg #[.bool sg, .slice A3 k3 c3], .int .i64 0]) (by simp [results, Tryd.results31, go_sem, s0, s1]) rfl ⟨_, s, rfl, hfin, HR.out, hbel2⟩
end Go.Proofs.YtccndofafljaaaaDoor
