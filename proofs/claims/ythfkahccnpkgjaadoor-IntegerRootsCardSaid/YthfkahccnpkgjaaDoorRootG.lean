/- integer.root, in general. -/
import Derived.Test.YthfkahccnpkgjaaDoorLeh
import Derived.Test.YthfkahccnpkgjaaDoorLow
import Derived.Test.YthfkahccnpkgjaaDoorRefB

set_option linter.unusedVariables false
set_option linter.unusedSimpArgs false

namespace Go.Proofs.YthfkahccnpkgjaaDoor
open Go Go.RowKit Num

theorem root_start {n m h r : Nat} (hm : 2 * h = m) (hr : IsRoot (n / 2 ^ m) r) : n < ((r + 1) * 2 ^ h + 1) * ((r + 1) * 2 ^ h + 1) := by
  subst hm
  have hP : 0 < 2 ^ (2 * h) := Nat.two_pow_pos _
  have h1 := Nat.lt_mul_div_succ n hP
  have h2 : n / 2 ^ (2 * h) + 1 ≤ (r + 1) * (r + 1) := hr.2
  have h3 := Nat.mul_le_mul_left (2 ^ (2 * h)) h2
  have h4 : 2 ^ (2 * h) * ((r + 1) * (r + 1)) = ((r + 1) * 2 ^ h) * ((r + 1) * 2 ^ h) := by
    rw [show 2 * h = h + h by omega, Nat.pow_add]
    simp only [Nat.mul_assoc, Nat.mul_comm, Nat.mul_left_comm]
  have h5 : ((r + 1) * 2 ^ h) * ((r + 1) * 2 ^ h) ≤ ((r + 1) * 2 ^ h + 1) * ((r + 1) * 2 ^ h + 1) := Nat.mul_le_mul (by omega) (by omega)
  omega
theorem newton_pos {n s : Nat} (hs : 0 < s) (hn : 0 < n) : 0 < (s + n / s) / 2 := by
  rcases Nat.lt_or_ge s 2 with h | h
  · have : s = 1 := by omega
    subst this
    rw [Nat.div_one]; omega
  · generalize n / s = q
    omega
theorem shrink {n m k : Nat} (hm : 32 ≤ m) (h : (digs n).length ≤ k + 1) : (digs (n / 2 ^ m)).length ≤ k := by
  apply digs_length_le
  have h1 := lt_pow_length n
  have h2 : 4294967296 ^ (digs n).length ≤ 4294967296 ^ (k + 1) := Nat.pow_le_pow_right (by omega) h
  rw [Nat.div_lt_iff_lt_mul (Nat.two_pow_pos m)]
  have h3 : 2 ^ 32 ≤ 2 ^ m := Nat.pow_le_pow_right (by omega) hm
  have h4 : 4294967296 ^ k * 2 ^ 32 ≤ 4294967296 ^ k * 2 ^ m := Nat.mul_le_mul_left _ h3
  rw [Nat.pow_succ] at h2
  have h5 : (2 : Nat) ^ 32 = 4294967296 := rfl
  rw [h5] at h4
  omega
theorem start_len {n r h k : Nat} (hr : r * r ≤ n) (hn : (digs n).length ≤ k) (hh : h ≤ 32 * k) : (digs ((r + 1) * 2 ^ h)).length ≤ 2 * k + 1 := by
  apply digs_length_le
  have h1 := lt_pow_length n
  have h2 : 4294967296 ^ (digs n).length ≤ 4294967296 ^ k := Nat.pow_le_pow_right (by omega) hn
  have h3 : r ≤ n := by
    rcases Nat.eq_zero_or_pos r with h | h
    · omega
    · exact Nat.le_trans (Nat.le_mul_of_pos_left r h) hr
  have h4 : 2 ^ h ≤ 2 ^ (32 * k) := Nat.pow_le_pow_right (by omega) hh
  rw [Nat.pow_mul] at h4
  have h5 : (2 : Nat) ^ 32 = 4294967296 := rfl
  rw [h5] at h4
  have h6 : (r + 1) * 2 ^ h ≤ 4294967296 ^ k * 4294967296 ^ k := Nat.mul_le_mul (by omega) h4
  have h7 : 0 < 4294967296 ^ k := Nat.pow_pos (by omega)
  have h8 : 0 < 4294967296 ^ k * 4294967296 ^ k := Nat.mul_pos h7 h7
  rw [show 2 * k + 1 = k + k + 1 by omega, Nat.pow_succ, Nat.pow_add]
  omega
theorem add_len {a b k : Nat} (ha : (digs a).length ≤ k) (hb : (digs b).length ≤ k) : (digs (a + b)).length ≤ k + 1 := by
  apply digs_length_le
  have h1 := lt_pow_length a
  have h2 := lt_pow_length b
  have h3 : 4294967296 ^ (digs a).length ≤ 4294967296 ^ k := Nat.pow_le_pow_right (by omega) ha
  have h4 : 4294967296 ^ (digs b).length ≤ 4294967296 ^ k := Nat.pow_le_pow_right (by omega) hb
  rw [Nat.pow_succ]
  omega
theorem lower_one {v : Value} {n : Nat} {w : World} (h : Mag w v n) (hn : (digs n).length ≤ 500000) :
    Calls Tryd.prog 74 #[v, .int .i64 1] w fun e w' => ∃ v', e = .returned v' ∧ Mag w' v' (n / 2) ∧ Below w.heap.size w w' := by
  have c := lower_any v (digs n) 1 w h hn (by omega)
  rw [val_digs, Nat.pow_one] at c
  exact c
theorem sum_mag {v1 v2 : Value} {a b : Nat} {w : World} (h1 : Mag w v1 a) (h2 : Mag w v2 b) (hn1 : (digs a).length ≤ 1000000) (hn2 : (digs b).length ≤ 1000000) :
    Calls Tryd.prog 38 #[v1, v2] w fun e w' => ∃ v', e = .returned v' ∧ Mag w' v' (a + b) ∧ Below w.heap.size w w' := by
  have c := sum_any v1 v2 (digs a) (digs b) w h1 h2 hn1 hn2
  rw [val_digs, val_digs] at c
  exact c
theorem compare_b {v1 v2 : Value} {a b : Nat} {w : World} (h1 : Mag w v1 a) (h2 : Mag w v2 b) (hn1 : (digs a).length ≤ 1000000) (hn2 : (digs b).length ≤ 1000000) :
    Calls Tryd.prog 42 #[v1, v2] w fun e w' => ∃ c : Int, (c < 0 ↔ a < b) ∧ e = .returned (.int .i64 c) ∧ Below w.heap.size w w' :=
  (compare_any v1 v2 a b w h1 h2 hn1 hn2).mono fun e w' ⟨he, n, hw⟩ => ⟨_, cmpI_lt.1, he, by subst hw; exact ⟨rfl, rfl, rfl, Nat.le_refl _, fun _ _ => rfl⟩⟩

/-- What holds at the head of Newton's loop. -/
structure RootAt (w wr : World) (n : Nat) (v vs : Value) (s : Nat) : Prop where
  mv : Mag wr v n
  ms : Mag wr vs s
  pos : 0 < s
  above : n < (s + 1) * (s + 1)
  len : (digs s).length ≤ 100000
  below : Below w.heap.size w wr

set_option maxRecDepth 100000 in
set_option maxHeartbeats 8000000 in
theorem root_ind (K : Nat) (hK : K ≤ 49999) : ∀ (v : Value) (n : Nat) (w : World), Mag w v n → (digs n).length ≤ K →
    Calls Tryd.prog 55 #[v] w fun e w' => ∃ v' s, e = .returned v' ∧ Mag w' v' s ∧ IsRoot n s ∧ Below w.heap.size w w' := by
  induction K with
  | zero =>
    intro v n w h hl
    have h1 := lt_pow_length n
    have h2 : 4294967296 ^ (digs n).length ≤ 4294967296 ^ 0 := Nat.pow_le_pow_right (by omega) hl
    exact root_small v n w h (by omega)
  | succ K ih =>
    intro v n w h hl
    by_cases h2 : (digs n).length ≤ 2
    · have h1 := lt_pow_length n
      have h3 : 4294967296 ^ (digs n).length ≤ 4294967296 ^ 2 := Nat.pow_le_pow_right (by omega) h2
      exact root_small v n w h (by omega)
    · have hpow := pow_le_of_length (n := n) (k := 2) (by omega)
      have hlt := lt_blen n
      have hbl : 64 < blen n := by
        rcases Nat.lt_or_ge 64 (blen n) with h | h
        · exact h
        · have : 2 ^ blen n ≤ 2 ^ 64 := Nat.pow_le_pow_right (by omega) h
          omega
      have hbu := blen_words hl
      obtain ⟨hh, hhe⟩ : ∃ hh, blen n / 4 = hh := ⟨_, rfl⟩
      obtain ⟨m, hm⟩ : ∃ m, 2 * hh = m := ⟨_, rfl⟩
      obtain ⟨bl, hble⟩ : ∃ bl, blen n = bl := ⟨_, rfl⟩
      have hnpos : 0 < n := by omega
      have hIH := fun v1 w1 (h1 : Mag w1 v1 (n / 2 ^ m)) => ih (by omega) v1 (n / 2 ^ m) w1 h1 (shrink (by omega) hl)
      have hlen := length_any v n w h (by omega)
      rw [hble] at hlen hhe hbu hbl
      have IH := Lib.hid hIH
      have HLEN := Lib.hid hlen
      have hq4 : (bl : Int) / 4 = (hh : Int) := by omega
      have hm2 : 2 * (hh : Int) = (m : Int) := by omega
      have hm32 : m ≤ 1000000 := by omega
      have hhu : hh ≤ 400000 := by omega
      have H := Lib.hid h
      have HL := Lib.hid hl
      have HM := Lib.hid hm
      have HP := Lib.hid hnpos
      have HBU := Lib.hid (And.intro hbu hhe)
      have hl2 : ¬ ((digs n).length : Int) ≤ 2 := by omega
      obtain ⟨A, c, rfl, -, -, -⟩ := h.form'
      clear ih hIH hlen h hpow hlt hbl hm hnpos h2 hble hbu hhe
      go_enter Tryd.func55, Tryd.ntmps55
      go_wp2_with fail
      refine HLEN.out.mono ?_
      rintro e w ⟨rfl, rfl⟩
      go_wp2_with fail
      refine (lower_any _ (digs n) m _ H.out (by omega) (by omega)).mono ?_
      rw [val_digs]
      rintro e w2 ⟨v2, rfl, m2, b2⟩
      have M2 := Lib.hid m2
      have B2 := Lib.hid b2
      clear m2 b2
      go_wp2_with fail
      refine (IH.out v2 _ M2.out).mono ?_
      rintro e w3 ⟨v3, r, rfl, m3, hr, b3⟩
      have M3 := Lib.hid m3
      have HR := Lib.hid hr
      have B3 := Lib.hid (nextw B2.out b3)
      clear m3 b3 hr M2 B2
      go_wp2_with fail
      refine (words_any 1 (by omega) _).mono ?_
      rintro e w4 ⟨v4, rfl, m4, b4⟩
      have M3' := Lib.hid (Mag.below M3.out b4)
      have M4 := Lib.hid m4
      have B4 := Lib.hid (nextw B3.out b4)
      have hrl : r * r ≤ n := Nat.le_trans HR.out.1 (Nat.div_le_self _ _)
      have hrn : (digs r).length ≤ 50000 := by
        refine Nat.le_trans (length_mono ?_) (Nat.le_trans HL.out (by omega))
        rcases Nat.eq_zero_or_pos r with h | h
        · omega
        · exact Nat.le_trans (Nat.le_mul_of_pos_left r h) hrl
      have HRL := Lib.hid hrl
      have h1l : (digs 1).length ≤ 1000000 := by rw [digs_one (by omega) (by omega)]; simp
      clear m4 b4 M3 B3 hrl
      go_wp2_with fail
      refine (sum_mag M3'.out M4.out (by omega) h1l).mono ?_
      rintro e w5 ⟨v5, rfl, m5, b5⟩
      have M5 := Lib.hid m5
      have B5 := Lib.hid (nextw B4.out b5)
      have hrn1 := add_len (b := 1) hrn (by rw [digs_one (by omega) (by omega)]; simp)
      clear m5 b5 M3' M4 B4 h1l
      go_wp2_with fail
      refine (raise_any _ (digs (r + 1)) hh _ M5.out (by omega) (by omega)).mono ?_
      rw [val_digs]
      rintro e w6 ⟨v6, rfl, m6, -, b6⟩
      have hs6 : 0 < (r + 1) * 2 ^ hh := Nat.mul_pos (by omega) (Nat.two_pow_pos _)
      have hl6 := start_len HRL.out HL.out (h := hh) (by have := HBU.out; omega)
      have HS0 : Hid (RootAt w w6 n (.slice A (digs n).length c) v6 ((r + 1) * 2 ^ hh)) :=
        ⟨Mag.below H.out (nextw B5.out b6), m6, hs6, root_start HM.out HR.out, by omega, nextw B5.out b6⟩
      obtain ⟨A6, c6, rfl, -, -, -⟩ := m6.form'
      clear m6 b6 M5 B5 hs6 hl6 hrn hrn1
      go_wp2_with fail
      go_loopg [4, 5, 6, 7] ((r + 1) * 2 ^ hh) (fun k vs _ _ _ wr => ∃ (A6 : Option Addr) (c6 : Nat), vs = .slice A6 (digs k).length c6 ∧ RootAt w wr n (.slice A (digs n).length c) (.slice A6 (digs k).length c6) k)
      case atStart => exact ⟨_, _, rfl, HS0.out⟩
      case round =>
        clear HS0
        obtain ⟨A6, c6, rfl, hs⟩ := hrel
        have HS := Lib.hid hs
        have hkl := hs.len
        have hnl : (digs n).length ≤ 50000 := Nat.le_trans HL.out (by omega)
        clear hs
        go_wp2_with fail
        refine (divide_any _ _ n gk _ HS.out.mv HS.out.ms HS.out.pos (by omega) hkl).mono ?_
        rintro e w7 ⟨vq, vr, rfl, mq, -, b7⟩
        have MQ := Lib.hid mq
        have B7 := Lib.hid b7
        have hql : (digs (n / gk)).length ≤ 50000 := Nat.le_trans (length_mono (Nat.div_le_self _ _)) hnl
        clear mq b7
        go_wp2_with fail
        refine (sum_mag (Mag.below HS.out.ms B7.out) MQ.out (by omega) (by omega)).mono ?_
        rintro e w8 ⟨v8, rfl, m8, b8⟩
        have M8 := Lib.hid m8
        have B8 := Lib.hid (nextw B7.out b8)
        have hsl := add_len (k := 100000) hkl (Nat.le_trans hql (by omega))
        clear m8 b8 MQ B7
        go_wp2_with fail
        refine (lower_one M8.out (by omega)).mono ?_
        rintro e w9 ⟨v9, rfl, m9, b9⟩
        obtain ⟨A9, c9, rfl, -, -, -⟩ := m9.form'
        obtain ⟨t, ht⟩ : ∃ t, (gk + n / gk) / 2 = t := ⟨_, rfl⟩
        rw [ht] at m9 ⊢
        have M9 := Lib.hid m9
        have B9 := Lib.hid (nextw B8.out b9)
        have HT := Lib.hid ht
        have htl : (digs t).length ≤ 100001 := by rw [← ht]; exact Nat.le_trans (length_mono (Nat.div_le_self _ _)) hsl
        clear m9 b9 M8 B8 ht
        go_wp2_with fail
        refine (compare_b M9.out (Mag.below HS.out.ms B9.out) (by omega) (by omega)).mono ?_
        rintro e w10 ⟨cc, hcc, rfl, b10⟩
        have B10 := Lib.hid (nextw B9.out b10)
        have M10 := Lib.hid (Mag.below M9.out b10)
        have HCC := Lib.hid hcc
        clear b10 M9 B9 hcc
        by_cases hlt : t < gk
        · have hc0 : ¬ (0 : Int) ≤ cc := by have := HCC.out.2 hlt; omega
          have HN : Hid (RootAt w w10 n (.slice A (digs n).length c) (.slice A9 (digs t).length c9) t) := by
            have hp := newton_pos HS.out.pos HP.out
            have hnw := newton (n := n) HS.out.pos
            rw [HT.out] at hp hnw
            exact ⟨Mag.below HS.out.mv B10.out, M10.out, hp, hnw, Nat.le_trans (length_mono (Nat.le_of_lt hlt)) hkl, nextw HS.out.below B10.out⟩
          have HLT := Lib.hid hlt
          clear HS M10 B10 HCC hlt
          go_wp2_with fail
          go_roundg t
          case measure => exact HLT.out
          case rel => exact ⟨_, _, rfl, HN.out⟩
        · have hc0 : (0 : Int) ≤ cc := by
            rcases Int.lt_or_le cc 0 with h | h
            · exact absurd (HCC.out.1 h) hlt
            · exact h
          have HF : Hid (IsRoot n gk) := ⟨newton_done HS.out.pos (by rw [HT.out]; omega), HS.out.above⟩
          have HM2 := Lib.hid (Mag.below HS.out.ms B10.out)
          have HB2 := Lib.hid (nextw HS.out.below B10.out)
          clear HS M10 B10 HCC hlt
          go_wp2_with fail
          go_ret
          exact ⟨_, gk, rfl, HM2.out, HF.out, HB2.out⟩
end Go.Proofs.YthfkahccnpkgjaaDoor
