/- integer.common and integer.root at magnitudes of at most two words. -/
import Derived.Test.YtgfoplokplnpgaaDoorRoot
import Derived.Test.YtgfoplokplnpgaaDoorInt7
namespace Go.Proofs.YtgfoplokplnpgaaDoor
open Go Go.RowKit Num

theorem len2 {n : Nat} (h : n < 18446744073709551616) : (digs n).length ≤ 2 := digs_length_le (by omega)

set_option maxRecDepth 100000 in
set_option maxHeartbeats 1000000 in
theorem common_keep (v1 v2 : Value) (a b : Nat) (w : World) (h1 : Mag w v1 a) (h2 : Mag w v2 b) (hba : b ≤ a) (ha : a < 18446744073709551616) :
    Calls Tryd.prog 49 #[v1, v2] w fun e w' => ∃ v, e = .returned v ∧ Mag w' v (Nat.gcd a b) ∧ Below w.heap.size w w' := by
  have hle : b ≤ a := by omega
  have hb : b < 18446744073709551616 := by omega
  have la := len2 ha
  have lb := len2 hb
  have c0 := compare_any v1 v2 a b w h1 h2 (by omega) (by omega)
  have hcv := cmpI_lt.2.2 hba
  generalize cmpI a b = cv at *
  have HC0 := Lib.hid c0
  obtain ⟨A1, k1, rfl, -, -, -⟩ := h1.form'
  obtain ⟨A2, k2, rfl, -, -, -⟩ := h2.form'
  have HH1 := Lib.hid h1
  have HH2 := Lib.hid h2
  clear c0 h1 h2
  have hbel0 := fun n => bel_drewN (Below.refl w.heap.size w) n
  have HB0 := Lib.hid hbel0
  clear hbel0
  by_cases hb0 : b = 0
  · have hg : Nat.gcd a b = a := by rw [hb0, Nat.gcd_zero_right]
    rw [hg]
    have hz : (digs b).length = 0 := nat_len_zero.2 hb0
    rw [hz] at HC0 ⊢
    clear hg hz
    go_enter Tryd.func49, Tryd.ntmps49
    go_wp2_with fail
    refine HC0.out.mono ?_
    rintro e w1 ⟨rfl, n, rfl⟩
    have hm := U32.drewN HH1.out n
    go_wp2
    go_rounds 1
    go_ret
    exact ⟨_, rfl, hm, HB0.out n⟩
  · have hg : Nat.gcd b (a % b) = Nat.gcd a b := by rw [Nat.gcd_comm a b, Nat.gcd_rec b a, Nat.gcd_comm]
    have HG := Lib.hid hg
    have hr := Nat.mod_lt a (by omega : b > 0)
    have hr64 : a % b < 18446744073709551616 := by omega
    have hz : (((digs b).length : Int) == 0) = false := by rw [beq_eq_false_iff_ne]; intro h; exact hb0 (nat_len_zero.1 (by omega))
    have hgb : Nat.gcd a b < 18446744073709551616 := Nat.lt_of_le_of_lt (Nat.gcd_le_right a (by omega)) hb
    have cd := fun n => divide_any (.slice A1 (digs a).length k1) (.slice A2 (digs b).length k2) a b (w.drewN n) (U32.drewN HH1.out n) (U32.drewN HH2.out n) (by omega) (by omega) (by omega)
    have HCD := Lib.hid cd
    have cs := fun W => commonSmall_any b (a % b) hb hr64 W
    rw [hg] at cs
    have HCS := Lib.hid cs
    generalize Nat.gcd a b = g at *
    clear cd cs hg hb0 hr
    go_enter Tryd.func49, Tryd.ntmps49
    go_wp2_with fail
    refine HC0.out.mono ?_
    rintro e w1 ⟨rfl, n, rfl⟩
    have h2n := U32.drewN HH2.out n
    have HBn := HB0.out n
    go_wp2_with fail
    refine wp_loop_rounds 1 ?_
    rw [rounds_succ]
    go_wp2_with fail
    refine (HCD.out n).mono ?_
    rintro e w2 ⟨vq, vr, rfl, hmq, hmr, hb2⟩
    have h22 := U32.below h2n hb2
    have hbw := HBn.trans (hb2.mono (Nat.le_refl _))
    clear hb2 hmq
    go_wp2_with fail
    refine (number_any _ b hb _ h22).mono ?_
    rintro e w3 ⟨rfl, rfl⟩
    go_wp2_with fail
    refine (number_any _ (a % b) hr64 _ hmr).mono ?_
    rintro e w3 ⟨rfl, rfl⟩
    go_wp2_with fail
    have HCSW := HCS.out w2
    refine HCSW.mono ?_
    rintro e w3 ⟨rfl, n3, rfl⟩
    have hbw3 := bel_drewN hbw n3
    clear HCSW hbw
    go_wp2_with fail
    refine (words_any g hgb _).mono ?_
    rintro e w4 ⟨v4, rfl, hm4, hb4⟩
    have hbw4 := hbw3.trans (hb4.mono hbw3.size)
    clear hb4
    go_wp2
    go_ret
    exact ⟨_, rfl, hm4, hbw4⟩

set_option maxRecDepth 100000 in
set_option maxHeartbeats 1000000 in
theorem common_swap (v1 v2 : Value) (a b : Nat) (w : World) (h1 : Mag w v1 a) (h2 : Mag w v2 b) (hba : b < a) (ha : a < 18446744073709551616) :
    Calls Tryd.prog 49 #[v2, v1] w fun e w' => ∃ v, e = .returned v ∧ Mag w' v (Nat.gcd a b) ∧ Below w.heap.size w w' := by
  have hle : b ≤ a := by omega
  have hb : b < 18446744073709551616 := by omega
  have la := len2 ha
  have lb := len2 hb
  have c0 := compare_any v2 v1 b a w h2 h1 (by omega) (by omega)
  have hcv := cmpI_lt.1.2 hba
  generalize cmpI b a = cv at *
  have HC0 := Lib.hid c0
  obtain ⟨A1, k1, rfl, -, -, -⟩ := h1.form'
  obtain ⟨A2, k2, rfl, -, -, -⟩ := h2.form'
  have HH1 := Lib.hid h1
  have HH2 := Lib.hid h2
  clear c0 h1 h2
  have hbel0 := fun n => bel_drewN (Below.refl w.heap.size w) n
  have HB0 := Lib.hid hbel0
  clear hbel0
  by_cases hb0 : b = 0
  · have hg : Nat.gcd a b = a := by rw [hb0, Nat.gcd_zero_right]
    rw [hg]
    have hz : (digs b).length = 0 := nat_len_zero.2 hb0
    rw [hz] at HC0 ⊢
    clear hg hz
    go_enter Tryd.func49, Tryd.ntmps49
    go_wp2_with fail
    refine HC0.out.mono ?_
    rintro e w1 ⟨rfl, n, rfl⟩
    have hm := U32.drewN HH1.out n
    go_wp2
    go_rounds 1
    go_ret
    exact ⟨_, rfl, hm, HB0.out n⟩
  · have hg : Nat.gcd b (a % b) = Nat.gcd a b := by rw [Nat.gcd_comm a b, Nat.gcd_rec b a, Nat.gcd_comm]
    have HG := Lib.hid hg
    have hr := Nat.mod_lt a (by omega : b > 0)
    have hr64 : a % b < 18446744073709551616 := by omega
    have hz : (((digs b).length : Int) == 0) = false := by rw [beq_eq_false_iff_ne]; intro h; exact hb0 (nat_len_zero.1 (by omega))
    have hgb : Nat.gcd a b < 18446744073709551616 := Nat.lt_of_le_of_lt (Nat.gcd_le_right a (by omega)) hb
    have cd := fun n => divide_any (.slice A1 (digs a).length k1) (.slice A2 (digs b).length k2) a b (w.drewN n) (U32.drewN HH1.out n) (U32.drewN HH2.out n) (by omega) (by omega) (by omega)
    have HCD := Lib.hid cd
    have cs := fun W => commonSmall_any b (a % b) hb hr64 W
    rw [hg] at cs
    have HCS := Lib.hid cs
    generalize Nat.gcd a b = g at *
    clear cd cs hg hb0 hr
    go_enter Tryd.func49, Tryd.ntmps49
    go_wp2_with fail
    refine HC0.out.mono ?_
    rintro e w1 ⟨rfl, n, rfl⟩
    have h2n := U32.drewN HH2.out n
    have HBn := HB0.out n
    go_wp2_with fail
    refine wp_loop_rounds 1 ?_
    rw [rounds_succ]
    go_wp2_with fail
    refine (HCD.out n).mono ?_
    rintro e w2 ⟨vq, vr, rfl, hmq, hmr, hb2⟩
    have h22 := U32.below h2n hb2
    have hbw := HBn.trans (hb2.mono (Nat.le_refl _))
    clear hb2 hmq
    go_wp2_with fail
    refine (number_any _ b hb _ h22).mono ?_
    rintro e w3 ⟨rfl, rfl⟩
    go_wp2_with fail
    refine (number_any _ (a % b) hr64 _ hmr).mono ?_
    rintro e w3 ⟨rfl, rfl⟩
    go_wp2_with fail
    have HCSW := HCS.out w2
    refine HCSW.mono ?_
    rintro e w3 ⟨rfl, n3, rfl⟩
    have hbw3 := bel_drewN hbw n3
    clear HCSW hbw
    go_wp2_with fail
    refine (words_any g hgb _).mono ?_
    rintro e w4 ⟨v4, rfl, hm4, hb4⟩
    have hbw4 := hbw3.trans (hb4.mono hbw3.size)
    clear hb4
    go_wp2
    go_ret
    exact ⟨_, rfl, hm4, hbw4⟩

set_option maxRecDepth 100000 in
set_option maxHeartbeats 1000000 in
theorem root_small (v : Value) (n : Nat) (w : World) (h : Mag w v n) (hn : n < 18446744073709551616) :
    Calls Tryd.prog 55 #[v] w fun e w' => ∃ v' s, e = .returned v' ∧ Mag w' v' s ∧ IsRoot n s ∧ Below w.heap.size w w' := by
  have hl := len2 hn
  obtain ⟨A1, k1, rfl, -, -, -⟩ := h.form'
  go_enter Tryd.func55, Tryd.ntmps55
  go_wp2_with fail
  refine (number_any _ n hn _ h).mono ?_
  rintro e w1 ⟨rfl, rfl⟩
  go_wp2_with fail
  refine (rootSmall_any n hn w).mono ?_
  rintro e w1 ⟨s, rfl, hr, hs, rfl⟩
  go_wp2_with fail
  refine (words_any s hs _).mono ?_
  rintro e w4 ⟨v4, rfl, hm4, hb4⟩
  have HR := Lib.hid hr
  clear hr
  go_wp2
  go_ret
  exact ⟨_, s, rfl, hm4, HR.out, hb4⟩
end Go.Proofs.YtgfoplokplnpgaaDoor
