/- integer.commonSmall, integer.rootSmall, integer.root
   integer.common and integer.root at magnitudes of at most two words.
   Gcd and Sqrt at magnitudes of at most two words. -/
import Derived.Test.YtccndofafljaaaaGreatDoorInts
import Derived.Test.YtccndofafljaaaaGreatDoorMagn
import Derived.Test.YtccndofafljaaaaGreatDoorInt7

set_option linter.unusedVariables false
set_option linter.unusedSimpArgs false

namespace Go.Proofs.YtccndofafljaaaaGreatDoor
open Go Go.RowKit Num

set_option maxRecDepth 100000 in
set_option maxHeartbeats 1000000 in
theorem commonSmall_any (a b : Nat) (ha : a < 18446744073709551616) (hb : b < 18446744073709551616) (w : World) :
    Calls Tryz.prog 92 #[.int .u64 a, .int .u64 b] w fun e w' => e = .returned (.int .u64 (Nat.gcd a b : Nat)) ∧ ∃ n, w' = w.drewN n := by
  have HG : Hid (Nat.gcd a b = Nat.gcd a b) := rfl
  generalize hg : Nat.gcd a b = g at *
  have HGG := Lib.hid hg
  clear hg
  go_enter Tryz.func92, Tryz.ntmps92
  go_wp2
  go_loopw [0, 1] (fun av bv wr => ∃ (x y n : Nat), av = .int .u64 x ∧ bv = .int .u64 y ∧ x < 18446744073709551616 ∧ y < 18446744073709551616 ∧ Nat.gcd x y = g ∧ wr = w.drewN n) (fun _ bv _ => (intOf bv).toNat)
  case atStart => exact ⟨a, b, 0, rfl, rfl, ha, hb, HGG.out, rfl⟩
  case round =>
    obtain ⟨x, y, n, rfl, rfl, hx, hy, he, rfl⟩ := hrel
    have HE := Lib.hid he
    clear he HG HGG
    by_cases hy0 : y = 0
    · subst hy0
      go_wp2
      go_ret
      exact ⟨by rw [← HE.out, Nat.gcd_zero_right]; rfl, n, rfl⟩
    · have hb1 : ((y : Int) != 0) = true := by rw [bne_iff_ne]; omega
      have hy1 : (1 : Int) ≤ (y : Int) := by omega
      have hm : (x : Int) % (y : Int) = ((x % y : Nat) : Int) := (Int.natCast_emod _ _).symm
      have hlt := Nat.mod_lt x (by omega : y > 0)
      have HM : Hid (Nat.gcd y (x % y) = g) := by
        unfold Hid; rw [Nat.gcd_comm, ← Nat.gcd_rec, Nat.gcd_comm]; exact HE.out
      have hlt2 : x % y < 18446744073709551616 := by omega
      generalize x % y = z at *
      clear hy0
      go_wp2
      go_quiet (fail)
      go_wp2
      go_roundw
      case rel => exact ⟨y, z, n + nq, rfl, by go_num, hy, hlt2, HM.out, by first | rfl | rw [World.drewN_drewN]⟩
      case measure => simp only [intOf]; omega

/-- s is the greatest number whose square is at most n. -/
def IsRoot (n s : Nat) : Prop := s * s ≤ n ∧ n < (s + 1) * (s + 1)

theorem newton {n s : Nat} (hs : 0 < s) : n < ((s + n / s) / 2 + 1) * ((s + n / s) / 2 + 1) := by
  have h1 := Nat.div_add_mod n s
  have h2 := Nat.mod_lt n hs
  generalize n / s = q at *
  generalize n % s = r at *
  have h3 : s + q + 1 ≤ 2 * ((s + q) / 2 + 1) := by omega
  generalize (s + q) / 2 + 1 = t at *
  have h4 : (s + q + 1) * (s + q + 1) ≤ (2 * t) * (2 * t) := Nat.mul_le_mul h3 h3
  have h5 : (2 * t) * (2 * t) = 4 * (t * t) := by rw [Nat.mul_mul_mul_comm]
  have h6 : 4 * (s * (q + 1)) ≤ (s + (q + 1)) * (s + (q + 1)) := by
    generalize q + 1 = p
    rcases Nat.le_total s p with h | h
    · obtain ⟨d, rfl⟩ := Nat.le.dest h
      have : (s + (s + d)) * (s + (s + d)) = 4 * (s * (s + d)) + d * d := by grind
      omega
    · obtain ⟨d, rfl⟩ := Nat.le.dest h
      have : (p + d + p) * (p + d + p) = 4 * ((p + d) * p) + d * d := by grind
      omega
  have h7 : s * (q + 1) = s * q + s := by rw [Nat.mul_add, Nat.mul_one]
  rw [show s + (q + 1) = s + q + 1 from rfl] at h6
  omega

theorem newton_done {n s : Nat} (hs : 0 < s) (h : s ≤ (s + n / s) / 2) : s * s ≤ n := by
  have h1 : s ≤ n / s := by omega
  exact Nat.le_trans (Nat.mul_le_mul_left s h1) (Nat.mul_div_le n s)

theorem root_unique {n s t : Nat} (h1 : IsRoot n s) (h2 : IsRoot n t) : s = t := by
  rcases Nat.lt_trichotomy s t with h | h | h
  · have := Nat.mul_le_mul (show s + 1 ≤ t from h) (show s + 1 ≤ t from h)
    have := h1.2; have := h2.1; omega
  · exact h
  · have := Nat.mul_le_mul (show t + 1 ≤ s from h) (show t + 1 ≤ s from h)
    have := h2.2; have := h1.1; omega

end Go.Proofs.YtccndofafljaaaaGreatDoor

namespace Go.Proofs.YtccndofafljaaaaGreatDoor
open Go Go.RowKit Num

theorem len2 {n : Nat} (h : n < 18446744073709551616) : (digs n).length ≤ 2 := digs_length_le (by omega)

set_option maxRecDepth 100000 in
set_option maxHeartbeats 1000000 in
theorem common_keep (v1 v2 : Value) (a b : Nat) (w : World) (h1 : Mag w v1 a) (h2 : Mag w v2 b) (hba : b ≤ a) (ha : a < 18446744073709551616) :
    Calls Tryz.prog 79 #[v1, v2] w fun e w' => ∃ v, e = .returned v ∧ Mag w' v (Nat.gcd a b) ∧ Below w.heap.size w w' := by
  have hle : b ≤ a := by omega
  have hb : b < 18446744073709551616 := by omega
  have la := len2 ha
  have lb := len2 hb
  have c0 := compare_any v1 v2 a b w h1 h2 (by omega) (by omega)
  have hcv := cmpI_lt.2.2 hba
  generalize cmpI a b = cv at *
  have HC0 := Lib.hid c0
  obtain ⟨A1, k1, rfl, -, -, -⟩ := h1.form'
  obtain ⟨A2, k2, rfl, -, -, -⟩ := h2.form'
  have HH1 := Lib.hid h1
  have HH2 := Lib.hid h2
  clear c0 h1 h2
  have hbel0 := fun n => bel_drewN (Below.refl w.heap.size w) n
  have HB0 := Lib.hid hbel0
  clear hbel0
  by_cases hb0 : b = 0
  · have hg : Nat.gcd a b = a := by rw [hb0, Nat.gcd_zero_right]
    rw [hg]
    have hz : (digs b).length = 0 := nat_len_zero.2 hb0
    rw [hz] at HC0 ⊢
    clear hg hz
    go_enter Tryz.func79, Tryz.ntmps79
    go_wp2_with fail
    refine HC0.out.mono ?_
    rintro e w1 ⟨rfl, n, rfl⟩
    have hm := U32.drewN HH1.out n
    go_wp2
    go_rounds 1
    go_ret
    exact ⟨_, rfl, hm, HB0.out n⟩
  · have hg : Nat.gcd b (a % b) = Nat.gcd a b := by rw [Nat.gcd_comm a b, Nat.gcd_rec b a, Nat.gcd_comm]
    have HG := Lib.hid hg
    have hr := Nat.mod_lt a (by omega : b > 0)
    have hr64 : a % b < 18446744073709551616 := by omega
    have hz : (((digs b).length : Int) == 0) = false := by rw [beq_eq_false_iff_ne]; intro h; exact hb0 (nat_len_zero.1 (by omega))
    have hgb : Nat.gcd a b < 18446744073709551616 := Nat.lt_of_le_of_lt (Nat.gcd_le_right a (by omega)) hb
    have cd := fun n => divide_any (.slice A1 (digs a).length k1) (.slice A2 (digs b).length k2) a b (w.drewN n) (U32.drewN HH1.out n) (U32.drewN HH2.out n) (by omega) (by omega) (by omega)
    have HCD := Lib.hid cd
    have cs := fun W => commonSmall_any b (a % b) hb hr64 W
    rw [hg] at cs
    have HCS := Lib.hid cs
    generalize Nat.gcd a b = g at *
    clear cd cs hg hb0 hr
    go_enter Tryz.func79, Tryz.ntmps79
    go_wp2_with fail
    refine HC0.out.mono ?_
    rintro e w1 ⟨rfl, n, rfl⟩
    have h2n := U32.drewN HH2.out n
    have HBn := HB0.out n
    go_wp2_with fail
    refine wp_loop_rounds 1 ?_
    rw [rounds_succ]
    go_wp2_with fail
    refine (HCD.out n).mono ?_
    rintro e w2 ⟨vq, vr, rfl, hmq, hmr, hb2⟩
    have h22 := U32.below h2n hb2
    have hbw := HBn.trans (hb2.mono (Nat.le_refl _))
    clear hb2 hmq
    go_wp2_with fail
    refine (number_any _ b hb _ h22).mono ?_
    rintro e w3 ⟨rfl, rfl⟩
    go_wp2_with fail
    refine (number_any _ (a % b) hr64 _ hmr).mono ?_
    rintro e w3 ⟨rfl, rfl⟩
    go_wp2_with fail
    have HCSW := HCS.out w2
    refine HCSW.mono ?_
    rintro e w3 ⟨rfl, n3, rfl⟩
    have hbw3 := bel_drewN hbw n3
    clear HCSW hbw
    go_wp2_with fail
    refine (words_any g hgb _).mono ?_
    rintro e w4 ⟨v4, rfl, hm4, hb4⟩
    have hbw4 := hbw3.trans (hb4.mono hbw3.size)
    clear hb4
    go_wp2
    go_ret
    exact ⟨_, rfl, hm4, hbw4⟩

set_option maxRecDepth 100000 in
set_option maxHeartbeats 1000000 in
theorem common_swap (v1 v2 : Value) (a b : Nat) (w : World) (h1 : Mag w v1 a) (h2 : Mag w v2 b) (hba : b < a) (ha : a < 18446744073709551616) :
    Calls Tryz.prog 79 #[v2, v1] w fun e w' => ∃ v, e = .returned v ∧ Mag w' v (Nat.gcd a b) ∧ Below w.heap.size w w' := by
  have hle : b ≤ a := by omega
  have hb : b < 18446744073709551616 := by omega
  have la := len2 ha
  have lb := len2 hb
  have c0 := compare_any v2 v1 b a w h2 h1 (by omega) (by omega)
  have hcv := cmpI_lt.1.2 hba
  generalize cmpI b a = cv at *
  have HC0 := Lib.hid c0
  obtain ⟨A1, k1, rfl, -, -, -⟩ := h1.form'
  obtain ⟨A2, k2, rfl, -, -, -⟩ := h2.form'
  have HH1 := Lib.hid h1
  have HH2 := Lib.hid h2
  clear c0 h1 h2
  have hbel0 := fun n => bel_drewN (Below.refl w.heap.size w) n
  have HB0 := Lib.hid hbel0
  clear hbel0
  by_cases hb0 : b = 0
  · have hg : Nat.gcd a b = a := by rw [hb0, Nat.gcd_zero_right]
    rw [hg]
    have hz : (digs b).length = 0 := nat_len_zero.2 hb0
    rw [hz] at HC0 ⊢
    clear hg hz
    go_enter Tryz.func79, Tryz.ntmps79
    go_wp2_with fail
    refine HC0.out.mono ?_
    rintro e w1 ⟨rfl, n, rfl⟩
    have hm := U32.drewN HH1.out n
    go_wp2
    go_rounds 1
    go_ret
    exact ⟨_, rfl, hm, HB0.out n⟩
  · have hg : Nat.gcd b (a % b) = Nat.gcd a b := by rw [Nat.gcd_comm a b, Nat.gcd_rec b a, Nat.gcd_comm]
    have HG := Lib.hid hg
    have hr := Nat.mod_lt a (by omega : b > 0)
    have hr64 : a % b < 18446744073709551616 := by omega
    have hz : (((digs b).length : Int) == 0) = false := by rw [beq_eq_false_iff_ne]; intro h; exact hb0 (nat_len_zero.1 (by omega))
    have hgb : Nat.gcd a b < 18446744073709551616 := Nat.lt_of_le_of_lt (Nat.gcd_le_right a (by omega)) hb
    have cd := fun n => divide_any (.slice A1 (digs a).length k1) (.slice A2 (digs b).length k2) a b (w.drewN n) (U32.drewN HH1.out n) (U32.drewN HH2.out n) (by omega) (by omega) (by omega)
    have HCD := Lib.hid cd
    have cs := fun W => commonSmall_any b (a % b) hb hr64 W
    rw [hg] at cs
    have HCS := Lib.hid cs
    generalize Nat.gcd a b = g at *
    clear cd cs hg hb0 hr
    go_enter Tryz.func79, Tryz.ntmps79
    go_wp2_with fail
    refine HC0.out.mono ?_
    rintro e w1 ⟨rfl, n, rfl⟩
    have h2n := U32.drewN HH2.out n
    have HBn := HB0.out n
    go_wp2_with fail
    refine wp_loop_rounds 1 ?_
    rw [rounds_succ]
    go_wp2_with fail
    refine (HCD.out n).mono ?_
    rintro e w2 ⟨vq, vr, rfl, hmq, hmr, hb2⟩
    have h22 := U32.below h2n hb2
    have hbw := HBn.trans (hb2.mono (Nat.le_refl _))
    clear hb2 hmq
    go_wp2_with fail
    refine (number_any _ b hb _ h22).mono ?_
    rintro e w3 ⟨rfl, rfl⟩
    go_wp2_with fail
    refine (number_any _ (a % b) hr64 _ hmr).mono ?_
    rintro e w3 ⟨rfl, rfl⟩
    go_wp2_with fail
    have HCSW := HCS.out w2
    refine HCSW.mono ?_
    rintro e w3 ⟨rfl, n3, rfl⟩
    have hbw3 := bel_drewN hbw n3
    clear HCSW hbw
    go_wp2_with fail
    refine (words_any g hgb _).mono ?_
    rintro e w4 ⟨v4, rfl, hm4, hb4⟩
    have hbw4 := hbw3.trans (hb4.mono hbw3.size)
    clear hb4
    go_wp2
    go_ret
    exact ⟨_, rfl, hm4, hbw4⟩

end Go.Proofs.YtccndofafljaaaaGreatDoor

namespace Go.Proofs.YtccndofafljaaaaGreatDoor
open Go Go.RowKit Num

set_option maxRecDepth 100000 in
set_option maxHeartbeats 2000000 in
theorem Gcd_keep (s1 s2 : Bool) (m1 m2 : Value) (l1 l2 : List Nat) (w : World) (h1 : U32 w m1 l1) (h2 : U32 w m2 l2) (hv1 : val l1 < 18446744073709551616) (hv2 : val l2 < 18446744073709551616) (hle : val l2 ≤ val l1) :
    Calls Tryz.prog 60 #[.agg #[.bool s1, m1], .agg #[.bool s2, m2]] w fun e w' => ∃ v, e = .returned v ∧ Can w' v (Nat.gcd (val l1) (val l2) : Nat) ∧ Below w.heap.size w w' := by
  have bA := ((Box.new w s1 m1).alloc (.cells #[.bool s2, m2] 24)).alloc (.cells #[.bool false, .slice none 0 0] 24)
  have bB := (Box.new (w.alloc (.cells #[.bool s1, m1] 24)) s2 m2).alloc (.cells #[.bool false, .slice none 0 0] 24)
  have bR := Box.new ((w.alloc (.cells #[.bool s1, m1] 24)).alloc (.cells #[.bool s2, m2] 24)) false (.slice none 0 0)
  have hb0 : Below w.heap.size w (((w.alloc (.cells #[.bool s1, m1] 24)).alloc (.cells #[.bool s2, m2] 24)).alloc (.cells #[.bool false, .slice none 0 0] 24)) := ((((Below.refl w.heap.size w).alloc (Nat.le_refl _) _).alloc (by simp) _).alloc (by simp; omega) _)
  have hsz : w.heap.size + 3 = (((w.alloc (.cells #[.bool s1, m1] 24)).alloc (.cells #[.bool s2, m2] 24)).alloc (.cells #[.bool false, .slice none 0 0] 24)).heap.size := by simp
  simp only [World.size_alloc] at bB bR
  have h1' := h1.below hb0
  have h2' := h2.below hb0
  have hl1 := length_val_le h1.lt
  have hl2 := length_val_le h2.lt
  have cA0 := Box.c0 bA
  have cA1 := Box.c1 bA
  have fA0 := Box.f0 bA
  have fA1 := Box.f1 bA
  have cB0 := Box.c0 bB
  have cB1 := Box.c1 bB
  have fB0 := Box.f0 bB
  have fB1 := Box.f1 bB
  have cR0 := Box.c0 bR
  have cR1 := Box.c1 bR
  have fR0 := Box.f0 bR
  have fR1 := Box.f1 bR
  have hmt1 := trimV_mag h1'
  have hmt2 := trimV_mag h2'
  have hgl : (digs (Nat.gcd (val l1) (val l2))).length ≤ 2 := len2 (by
    rcases Nat.eq_zero_or_pos (val l1) with h0 | h0
    · rw [h0]; simp; exact hv2
    · have := Nat.gcd_le_left (val l2) h0
      first | omega | (rw [Nat.gcd_comm]; omega))
  have HZ : Hid ((if false = true then -((Nat.gcd (val l1) (val l2) : Nat) : Int) else ((Nat.gcd (val l1) (val l2) : Nat) : Int)) = (Nat.gcd (val l1) (val l2) : Nat)) := by
    unfold Hid; first | rfl | (rw [Nat.gcd_comm]; rfl)
  go_enter Tryz.func60, Tryz.ntmps60
  go_wp2
  generalize ((w.alloc (.cells #[.bool s1, m1] 24)).alloc (.cells #[.bool s2, m2] 24)).alloc (.cells #[.bool false, .slice none 0 0] 24) = W0 at *
  have hge : w.heap.size + 3 ≤ W0.heap.size := by omega
  clear hsz
  go_region_held3 (fun w' => w'.cell? ⟨w.heap.size, 0, none⟩ = some (.bool s1) ∧ w'.cell? ⟨w.heap.size, 1, none⟩ = some m1 ∧ w'.cell? ⟨w.heap.size + 1, 0, none⟩ = some (.bool s2) ∧ w'.cell? ⟨w.heap.size + 1, 1, none⟩ = some m2) (((try dsimp only); (repeat' apply And.intro) <;> (first | go_keep | (rw [far2 (by omega)]; assumption) | assumption)))
    (first
      | (go_at_call_of 67 (m1); refine (trim_eq m1 l1 _ (U32.below h1' (by exact ⟨rfl, rfl, rfl, Nat.le_refl _, fun _ _ => rfl⟩))).mono ?_; rintro e w' ⟨rfl, rfl⟩)
      | (go_at_call_of 67 (m2); refine (trim_eq m2 l2 _ (U32.below h2' (by exact ⟨rfl, rfl, rfl, Nat.le_refl _, fun _ _ => rfl⟩))).mono ?_; rintro e w' ⟨rfl, rfl⟩)
      | (go_at_call 79; refine (common_keep (trimV m1 (val l1)) (trimV m2 (val l2)) (val l1) (val l2) _ (U32.below hmt1 (by exact ⟨rfl, rfl, rfl, Nat.le_refl _, fun _ _ => rfl⟩)) (U32.below hmt2 (by exact ⟨rfl, rfl, rfl, Nat.le_refl _, fun _ _ => rfl⟩)) hle hv1).mono ?_; rintro e w2 ⟨v2, rfl, hm2, hb2⟩; replace hb2 := undraw1 hb2; have bAw2 := Box.below bA hb2 (by first | omega | (simp; done) | exact Nat.lt_of_lt_of_le (by omega) hge | (simp <;> omega)); have cA0w2 := Box.c0 bAw2; have cA1w2 := Box.c1 bAw2; have bBw2 := Box.below bB hb2 (by first | omega | (simp; done) | exact Nat.lt_of_lt_of_le (by omega) hge | (simp <;> omega)); have cB0w2 := Box.c0 bBw2; have cB1w2 := Box.c1 bBw2; have bRw2 := Box.below bR hb2 (by first | omega | (simp; done) | exact Nat.lt_of_lt_of_le (by omega) hge | (simp <;> omega)); have cR0w2 := Box.c0 bRw2; have cR1w2 := Box.c1 bRw2; have fR0w2 := Box.f0 bRw2; have fR1w2 := Box.f1 bRw2; have hzw2 : w.heap.size + 3 ≤ w2.heap.size := (by have hq := hb2.size; first | omega | exact Nat.le_trans hge hq | (simp at hq; omega)))
      | (go_at_call 69; refine (clone_any v2 _ _ hm2 (by omega)).mono ?_; rintro e w4 ⟨v4, rfl, hcl, hb4⟩; have bAw4 := Box.below bAw2 hb4 (by first | omega | (simp; done) | exact Nat.lt_of_lt_of_le (by omega) hge | (simp <;> omega)); have cA0w4 := Box.c0 bAw4; have cA1w4 := Box.c1 bAw4; have bBw4 := Box.below bBw2 hb4 (by first | omega | (simp; done) | exact Nat.lt_of_lt_of_le (by omega) hge | (simp <;> omega)); have cB0w4 := Box.c0 bBw4; have cB1w4 := Box.c1 bBw4; have bRw4 := Box.below bRw2 hb4 (by first | omega | (simp; done) | exact Nat.lt_of_lt_of_le (by omega) hge | (simp <;> omega)); have cR0w4 := Box.c0 bRw4; have cR1w4 := Box.c1 bRw4; have fR0w4 := Box.f0 bRw4; have fR1w4 := Box.f1 bRw4; have hzw4 : w.heap.size + 3 ≤ w4.heap.size := (by have hq := hb4.size; first | omega | exact Nat.le_trans hge hq | (simp at hq; omega)))
      | (go_at_call 63; refine (signed_can false _ (digs (Nat.gcd (val l1) (val l2))) _ (hcl.u32 (digs_lt _))).mono ?_; rintro e w3 ⟨sg, A3, k3, c3, rfl, hm3, hb3⟩; have bAw3 := Box.below bAw4 hb3 (by first | omega | (simp; done) | exact Nat.lt_of_lt_of_le (by omega) hge | (simp <;> omega)); have cA0w3 := Box.c0 bAw3; have cA1w3 := Box.c1 bAw3; have bBw3 := Box.below bBw4 hb3 (by first | omega | (simp; done) | exact Nat.lt_of_lt_of_le (by omega) hge | (simp <;> omega)); have cB0w3 := Box.c0 bBw3; have cB1w3 := Box.c1 bBw3; have bRw3 := Box.below bRw4 hb3 (by first | omega | (simp; done) | exact Nat.lt_of_lt_of_le (by omega) hge | (simp <;> omega)); have cR0w3 := Box.c0 bRw3; have cR1w3 := Box.c1 bRw3; have fR0w3 := Box.f0 bRw3; have fR1w3 := Box.f1 bRw3; have hzw3 : w.heap.size + 3 ≤ w3.heap.size := (by have hq := hb3.size; first | omega | exact Nat.le_trans hge hq | (simp at hq; omega))))
  all_goals
    have hb0' : Below w.heap.size w W0 := hb0
    replace hb2 := hb2.trans (hb4.mono hb2.size)
    have bS := bRw3.store sg (.slice A3 k3 c3)
    have s0 := bS.c0
    have s1' := bS.c1
    have hfin := bRw3.can hm3 sg (.slice A3 k3 c3)
    have hbel : Below w.heap.size w w3 := (hb0'.trans (hb2.mono (by omega))).trans (hb3.mono (by omega))
    have hbel2 := Below.store hbel (x := w.heap.size + 1 + 1) (by omega) (.bool sg) (.slice A3 k3 c3)
    rw [ival_digs, HZ.out] at hfin
    clear hm3 hb2 hb3 bS hbel
    generalize (w3.setCell ⟨w.heap.size + 1 + 1, 0, none⟩ (.bool sg)).setCell ⟨w.heap.size + 1 + 1, 1, none⟩ (.slice A3 k3 c3) = W at *
    go_wp2
    exact bodyPost_ret (v := .agg #[.bool sg, .slice A3 k3 c3]) (by simp [results, Tryz.results60, go_sem, s0, s1']) rfl ⟨_, rfl, hfin, hbel2⟩

set_option maxRecDepth 100000 in
set_option maxHeartbeats 2000000 in
theorem Gcd_swap (s1 s2 : Bool) (m1 m2 : Value) (l1 l2 : List Nat) (w : World) (h1 : U32 w m1 l1) (h2 : U32 w m2 l2) (hv1 : val l1 < 18446744073709551616) (hv2 : val l2 < 18446744073709551616) (hle : val l1 < val l2) :
    Calls Tryz.prog 60 #[.agg #[.bool s1, m1], .agg #[.bool s2, m2]] w fun e w' => ∃ v, e = .returned v ∧ Can w' v (Nat.gcd (val l1) (val l2) : Nat) ∧ Below w.heap.size w w' := by
  have bA := ((Box.new w s1 m1).alloc (.cells #[.bool s2, m2] 24)).alloc (.cells #[.bool false, .slice none 0 0] 24)
  have bB := (Box.new (w.alloc (.cells #[.bool s1, m1] 24)) s2 m2).alloc (.cells #[.bool false, .slice none 0 0] 24)
  have bR := Box.new ((w.alloc (.cells #[.bool s1, m1] 24)).alloc (.cells #[.bool s2, m2] 24)) false (.slice none 0 0)
  have hb0 : Below w.heap.size w (((w.alloc (.cells #[.bool s1, m1] 24)).alloc (.cells #[.bool s2, m2] 24)).alloc (.cells #[.bool false, .slice none 0 0] 24)) := ((((Below.refl w.heap.size w).alloc (Nat.le_refl _) _).alloc (by simp) _).alloc (by simp; omega) _)
  have hsz : w.heap.size + 3 = (((w.alloc (.cells #[.bool s1, m1] 24)).alloc (.cells #[.bool s2, m2] 24)).alloc (.cells #[.bool false, .slice none 0 0] 24)).heap.size := by simp
  simp only [World.size_alloc] at bB bR
  have h1' := h1.below hb0
  have h2' := h2.below hb0
  have hl1 := length_val_le h1.lt
  have hl2 := length_val_le h2.lt
  have cA0 := Box.c0 bA
  have cA1 := Box.c1 bA
  have fA0 := Box.f0 bA
  have fA1 := Box.f1 bA
  have cB0 := Box.c0 bB
  have cB1 := Box.c1 bB
  have fB0 := Box.f0 bB
  have fB1 := Box.f1 bB
  have cR0 := Box.c0 bR
  have cR1 := Box.c1 bR
  have fR0 := Box.f0 bR
  have fR1 := Box.f1 bR
  have hmt1 := trimV_mag h1'
  have hmt2 := trimV_mag h2'
  have hgl : (digs (Nat.gcd (val l2) (val l1))).length ≤ 2 := len2 (by
    rcases Nat.eq_zero_or_pos (val l1) with h0 | h0
    · rw [h0]; simp; exact hv2
    · have := Nat.gcd_le_left (val l2) h0
      first | omega | (rw [Nat.gcd_comm]; omega))
  have HZ : Hid ((if false = true then -((Nat.gcd (val l2) (val l1) : Nat) : Int) else ((Nat.gcd (val l2) (val l1) : Nat) : Int)) = (Nat.gcd (val l1) (val l2) : Nat)) := by
    unfold Hid; first | rfl | (rw [Nat.gcd_comm]; rfl)
  go_enter Tryz.func60, Tryz.ntmps60
  go_wp2
  generalize ((w.alloc (.cells #[.bool s1, m1] 24)).alloc (.cells #[.bool s2, m2] 24)).alloc (.cells #[.bool false, .slice none 0 0] 24) = W0 at *
  have hge : w.heap.size + 3 ≤ W0.heap.size := by omega
  clear hsz
  go_region_held3 (fun w' => w'.cell? ⟨w.heap.size, 0, none⟩ = some (.bool s1) ∧ w'.cell? ⟨w.heap.size, 1, none⟩ = some m1 ∧ w'.cell? ⟨w.heap.size + 1, 0, none⟩ = some (.bool s2) ∧ w'.cell? ⟨w.heap.size + 1, 1, none⟩ = some m2) (((try dsimp only); (repeat' apply And.intro) <;> (first | go_keep | (rw [far2 (by omega)]; assumption) | assumption)))
    (first
      | (go_at_call_of 67 (m1); refine (trim_eq m1 l1 _ (U32.below h1' (by exact ⟨rfl, rfl, rfl, Nat.le_refl _, fun _ _ => rfl⟩))).mono ?_; rintro e w' ⟨rfl, rfl⟩)
      | (go_at_call_of 67 (m2); refine (trim_eq m2 l2 _ (U32.below h2' (by exact ⟨rfl, rfl, rfl, Nat.le_refl _, fun _ _ => rfl⟩))).mono ?_; rintro e w' ⟨rfl, rfl⟩)
      | (go_at_call 79; refine (common_swap (trimV m2 (val l2)) (trimV m1 (val l1)) (val l2) (val l1) _ (U32.below hmt2 (by exact ⟨rfl, rfl, rfl, Nat.le_refl _, fun _ _ => rfl⟩)) (U32.below hmt1 (by exact ⟨rfl, rfl, rfl, Nat.le_refl _, fun _ _ => rfl⟩)) hle hv2).mono ?_; rintro e w2 ⟨v2, rfl, hm2, hb2⟩; replace hb2 := undraw1 hb2; have bAw2 := Box.below bA hb2 (by first | omega | (simp; done) | exact Nat.lt_of_lt_of_le (by omega) hge | (simp <;> omega)); have cA0w2 := Box.c0 bAw2; have cA1w2 := Box.c1 bAw2; have bBw2 := Box.below bB hb2 (by first | omega | (simp; done) | exact Nat.lt_of_lt_of_le (by omega) hge | (simp <;> omega)); have cB0w2 := Box.c0 bBw2; have cB1w2 := Box.c1 bBw2; have bRw2 := Box.below bR hb2 (by first | omega | (simp; done) | exact Nat.lt_of_lt_of_le (by omega) hge | (simp <;> omega)); have cR0w2 := Box.c0 bRw2; have cR1w2 := Box.c1 bRw2; have fR0w2 := Box.f0 bRw2; have fR1w2 := Box.f1 bRw2; have hzw2 : w.heap.size + 3 ≤ w2.heap.size := (by have hq := hb2.size; first | omega | exact Nat.le_trans hge hq | (simp at hq; omega)))
      | (go_at_call 69; refine (clone_any v2 _ _ hm2 (by omega)).mono ?_; rintro e w4 ⟨v4, rfl, hcl, hb4⟩; have bAw4 := Box.below bAw2 hb4 (by first | omega | (simp; done) | exact Nat.lt_of_lt_of_le (by omega) hge | (simp <;> omega)); have cA0w4 := Box.c0 bAw4; have cA1w4 := Box.c1 bAw4; have bBw4 := Box.below bBw2 hb4 (by first | omega | (simp; done) | exact Nat.lt_of_lt_of_le (by omega) hge | (simp <;> omega)); have cB0w4 := Box.c0 bBw4; have cB1w4 := Box.c1 bBw4; have bRw4 := Box.below bRw2 hb4 (by first | omega | (simp; done) | exact Nat.lt_of_lt_of_le (by omega) hge | (simp <;> omega)); have cR0w4 := Box.c0 bRw4; have cR1w4 := Box.c1 bRw4; have fR0w4 := Box.f0 bRw4; have fR1w4 := Box.f1 bRw4; have hzw4 : w.heap.size + 3 ≤ w4.heap.size := (by have hq := hb4.size; first | omega | exact Nat.le_trans hge hq | (simp at hq; omega)))
      | (go_at_call 63; refine (signed_can false _ (digs (Nat.gcd (val l2) (val l1))) _ (hcl.u32 (digs_lt _))).mono ?_; rintro e w3 ⟨sg, A3, k3, c3, rfl, hm3, hb3⟩; have bAw3 := Box.below bAw4 hb3 (by first | omega | (simp; done) | exact Nat.lt_of_lt_of_le (by omega) hge | (simp <;> omega)); have cA0w3 := Box.c0 bAw3; have cA1w3 := Box.c1 bAw3; have bBw3 := Box.below bBw4 hb3 (by first | omega | (simp; done) | exact Nat.lt_of_lt_of_le (by omega) hge | (simp <;> omega)); have cB0w3 := Box.c0 bBw3; have cB1w3 := Box.c1 bBw3; have bRw3 := Box.below bRw4 hb3 (by first | omega | (simp; done) | exact Nat.lt_of_lt_of_le (by omega) hge | (simp <;> omega)); have cR0w3 := Box.c0 bRw3; have cR1w3 := Box.c1 bRw3; have fR0w3 := Box.f0 bRw3; have fR1w3 := Box.f1 bRw3; have hzw3 : w.heap.size + 3 ≤ w3.heap.size := (by have hq := hb3.size; first | omega | exact Nat.le_trans hge hq | (simp at hq; omega))))
  all_goals
    have hb0' : Below w.heap.size w W0 := hb0
    replace hb2 := hb2.trans (hb4.mono hb2.size)
    have bS := bRw3.store sg (.slice A3 k3 c3)
    have s0 := bS.c0
    have s1' := bS.c1
    have hfin := bRw3.can hm3 sg (.slice A3 k3 c3)
    have hbel : Below w.heap.size w w3 := (hb0'.trans (hb2.mono (by omega))).trans (hb3.mono (by omega))
    have hbel2 := Below.store hbel (x := w.heap.size + 1 + 1) (by omega) (.bool sg) (.slice A3 k3 c3)
    rw [ival_digs, HZ.out] at hfin
    clear hm3 hb2 hb3 bS hbel
    generalize (w3.setCell ⟨w.heap.size + 1 + 1, 0, none⟩ (.bool sg)).setCell ⟨w.heap.size + 1 + 1, 1, none⟩ (.slice A3 k3 c3) = W at *
    go_wp2
    exact bodyPost_ret (v := .agg #[.bool sg, .slice A3 k3 c3]) (by simp [results, Tryz.results60, go_sem, s0, s1']) rfl ⟨_, rfl, hfin, hbel2⟩

end Go.Proofs.YtccndofafljaaaaGreatDoor
