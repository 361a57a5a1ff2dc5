/- integer.common, in general; integer.Gcd. -/
import Derived.Test.YtccndofafljaaaaGreatDoorLeh

set_option linter.unusedVariables false
set_option linter.unusedSimpArgs false

namespace Go.Proofs.YtccndofafljaaaaGreatDoor
open Go Go.RowKit Num

/-- What holds at the head of common's loop. -/
structure ComAt (w wr : World) (g : Nat) (va vb : Value) (a b : Nat) : Prop where
  ma : Mag wr va a
  mb : Mag wr vb b
  gcd : Nat.gcd a b = g
  le : b ≤ a
  len : (digs a).length ≤ 100000
  below : Below w.heap.size w wr
theorem ComAt.next {w wr w2 : World} {g : Nat} {va vb va' vb' : Value} {a b a' b' : Nat} (h : ComAt w wr g va vb a b) (ma : Mag w2 va' a') (mb : Mag w2 vb' b') (hg : Nat.gcd a' b' = Nat.gcd a b) (hl : b' ≤ a') (ha : a' ≤ a) (hb : Below wr.heap.size wr w2) : ComAt w w2 g va' vb' a' b' :=
  ⟨ma, mb, hg.trans h.gcd, hl, Nat.le_trans (length_mono ha) h.len, nextw h.below hb⟩
theorem small_of_len {n : Nat} (h : ¬ 2 < (digs n).length) : n < 18446744073709551616 := by
  have h1 := lt_pow_length n
  have h2 : 4294967296 ^ (digs n).length ≤ 4294967296 ^ 2 := Nat.pow_le_pow_right (by omega) (by omega)
  omega

set_option maxRecDepth 100000 in
set_option maxHeartbeats 4000000 in
theorem common_more (v1 v2 : Value) (a b : Nat) (w : World) (h1 : Mag w v1 a) (h2 : Mag w v2 b) (hab : b ≤ a) (hn : (digs a).length ≤ 100000) :
    Calls Tryz.prog 79 #[v1, v2] w fun e w' => ∃ v, e = .returned v ∧ Mag w' v (Nat.gcd a b) ∧ Below w.heap.size w w' := by
  have hle : b ≤ a := by omega
  have hlb : (digs b).length ≤ (digs a).length := length_mono hle
  have c0 := compare_any v1 v2 a b w h1 h2 (by omega) (by omega)
  have hcv : 0 ≤ cmpI a b := cmpI_lt.2.2 hab
  generalize cmpI a b = cv at *
  have HC0 := Lib.hid c0
  obtain ⟨A1, k1, rfl, -, -, -⟩ := h1.form'
  obtain ⟨A2, k2, rfl, -, -, -⟩ := h2.form'
  obtain ⟨g, hg⟩ : ∃ g, Nat.gcd a b = g := ⟨_, rfl⟩
  rw [hg]
  have S0 := Lib.hid (fun n => (⟨U32.drewN h1 n, U32.drewN h2 n, hg, hle, hn, bel_drewN (Below.refl w.heap.size w) n⟩ : ComAt w (w.drewN n) g (.slice A1 (digs a).length k1) (.slice A2 (digs b).length k2) a b))
  clear c0 h1 h2 hg hle hlb hn hab
  go_enter Tryz.func79, Tryz.ntmps79
  go_wp2_with fail
  refine HC0.out.mono ?_
  rintro e w1 ⟨rfl, n, rfl⟩
  have S := Lib.hid (S0.out n)
  clear S0 HC0
  go_wp2_with fail
  go_loopg [0, 1] b (fun k va vb wr => ∃ (a' : Nat) (A1 A2 : Option Addr) (k1 c1 c2 : Nat), va = .slice A1 k1 c1 ∧ vb = .slice A2 (digs k).length c2 ∧ ComAt w wr g (.slice A1 k1 c1) (.slice A2 (digs k).length c2) a' k)
  case atStart => exact ⟨_, _, _, _, _, _, rfl, rfl, S.out⟩
  case round =>
    obtain ⟨a', B1, B2, q1, c1, c2, rfl, rfl, hs⟩ := hrel
    have HS := Lib.hid hs
    clear hs S
    by_cases h3 : 2 < (digs gk).length
    · have hl3 := (HS.out.mb).length
      have hll : (digs gk).length ≤ (digs a').length := length_mono HS.out.le
      go_wp2_with fail
      refine (closer_any _ _ a' gk _ HS.out.ma HS.out.mb HS.out.le (by omega) HS.out.len).mono ?_
      rintro e w2 ⟨va, vb, x', y', rfl, m1, m2, hg, r1, r2, r3, bb⟩
      obtain ⟨C1, d1, rfl, -, -, -⟩ := m1.form'
      obtain ⟨C2, d2, rfl, -, -, -⟩ := m2.form'
      have HN := Lib.hid (HS.out.next m1 m2 hg r2 r3 bb)
      have HL := Lib.hid r1
      clear m1 m2 hg r1 r2 r3 bb h3 hl3 hll
      go_wp2_with fail
      go_roundg y'
      case measure => exact HL.out
      case rel => exact ⟨x', _, _, _, _, _, rfl, rfl, HN.out⟩
    · have hb := small_of_len h3
      by_cases h0 : gk = 0
      · subst h0
        rw [digs_zero]
        have HG : Hid (a' = g) := by have := HS.out.gcd; rwa [Nat.gcd_zero_right] at this
        have HF : Hid (Mag wr (.slice B1 q1 c1) g) := HG.out ▸ HS.out.ma
        have HB := Lib.hid HS.out.below
        clear HS HG h3 hb
        simp only [List.length_nil]
        go_wp2_with fail
        go_ret
        exact ⟨_, rfl, HF.out, HB.out⟩
      · have hpos : 0 < gk := Nat.pos_of_ne_zero h0
        have hz : (((digs gk).length : Int) == 0) = false := by rw [beq_eq_false_iff_ne]; intro h; exact h0 (nat_len_zero.1 (by omega))
        have hr := Nat.mod_lt a' hpos
        have hgg : Nat.gcd gk (a' % gk) = g := by have := HS.out.gcd; rw [← this, Nat.gcd_comm a' gk, Nat.gcd_rec gk a', Nat.gcd_comm]
        have HG := Lib.hid hgg
        clear hgg
        have hgb : g < 18446744073709551616 := by have := HS.out.gcd; have h5 := Nat.gcd_le_right a' hpos; omega
        have hll : (digs gk).length ≤ (digs a').length := length_mono HS.out.le
        have hlen := HS.out.len
        have HD := Lib.hid (divide_any _ _ a' gk wr HS.out.ma HS.out.mb hpos hlen (by omega))
        have HR := Lib.hid (show a' % gk < 18446744073709551616 by omega)
        have HP := Lib.hid hgb
        have HB := Lib.hid HS.out.below
        have HM := Lib.hid HS.out.mb
        have HBB := Lib.hid hb
        clear HS h0 hpos hr hgb hll hlen hb
        go_wp2_with fail
        refine HD.out.mono ?_
        rintro e w2 ⟨vq, vr, rfl, hmq, hmr, hb2⟩
        have HM2 := Lib.hid (Mag.below HM.out hb2)
        have HB2 := Lib.hid (nextw HB.out hb2)
        have HMR := Lib.hid hmr
        clear hb2 hmq hmr
        go_wp2_with fail
        refine (number_any _ gk HBB.out _ HM2.out).mono ?_
        rintro e w3 ⟨rfl, rfl⟩
        go_wp2_with fail
        refine (number_any _ (a' % gk) HR.out _ HMR.out).mono ?_
        rintro e w3 ⟨rfl, rfl⟩
        go_wp2_with fail
        refine (commonSmall_any gk (a' % gk) HBB.out HR.out w2).mono ?_
        rw [HG.out]
        rintro e w3 ⟨rfl, n3, rfl⟩
        go_wp2_with fail
        refine (words_any g HP.out _).mono ?_
        rintro e w4 ⟨v4, rfl, hm4, hb4⟩
        have HF := Lib.hid (And.intro hm4 (nextw HB2.out (undraw hb4)))
        clear hm4 hb4
        go_wp2_with fail
        go_ret
        exact ⟨_, rfl, HF.out.1, HF.out.2⟩

set_option maxRecDepth 100000 in
set_option maxHeartbeats 4000000 in
theorem common_less (v1 v2 : Value) (a b : Nat) (w : World) (h1 : Mag w v1 a) (h2 : Mag w v2 b) (hab : a < b) (hn : (digs b).length ≤ 100000) :
    Calls Tryz.prog 79 #[v1, v2] w fun e w' => ∃ v, e = .returned v ∧ Mag w' v (Nat.gcd a b) ∧ Below w.heap.size w w' := by
  have hle : a ≤ b := by omega
  have hlb : (digs a).length ≤ (digs b).length := length_mono hle
  have c0 := compare_any v1 v2 a b w h1 h2 (by omega) (by omega)
  have hcv : cmpI a b < 0 := cmpI_lt.1.2 hab
  generalize cmpI a b = cv at *
  have HC0 := Lib.hid c0
  obtain ⟨A1, k1, rfl, -, -, -⟩ := h1.form'
  obtain ⟨A2, k2, rfl, -, -, -⟩ := h2.form'
  obtain ⟨g, hg⟩ : ∃ g, Nat.gcd a b = g := ⟨_, rfl⟩
  rw [hg]
  have S0 := Lib.hid (fun n => (⟨U32.drewN h2 n, U32.drewN h1 n, (Nat.gcd_comm b a).trans hg, hle, hn, bel_drewN (Below.refl w.heap.size w) n⟩ : ComAt w (w.drewN n) g (.slice A2 (digs b).length k2) (.slice A1 (digs a).length k1) b a))
  clear c0 h1 h2 hg hle hlb hn hab
  go_enter Tryz.func79, Tryz.ntmps79
  go_wp2_with fail
  refine HC0.out.mono ?_
  rintro e w1 ⟨rfl, n, rfl⟩
  have S := Lib.hid (S0.out n)
  clear S0 HC0
  go_wp2_with fail
  go_loopg [0, 1] a (fun k va vb wr => ∃ (a' : Nat) (A1 A2 : Option Addr) (k1 c1 c2 : Nat), va = .slice A1 k1 c1 ∧ vb = .slice A2 (digs k).length c2 ∧ ComAt w wr g (.slice A1 k1 c1) (.slice A2 (digs k).length c2) a' k)
  case atStart => exact ⟨_, _, _, _, _, _, rfl, rfl, S.out⟩
  case round =>
    obtain ⟨a', B1, B2, q1, c1, c2, rfl, rfl, hs⟩ := hrel
    have HS := Lib.hid hs
    clear hs S
    by_cases h3 : 2 < (digs gk).length
    · have hl3 := (HS.out.mb).length
      have hll : (digs gk).length ≤ (digs a').length := length_mono HS.out.le
      go_wp2_with fail
      refine (closer_any _ _ a' gk _ HS.out.ma HS.out.mb HS.out.le (by omega) HS.out.len).mono ?_
      rintro e w2 ⟨va, vb, x', y', rfl, m1, m2, hg, r1, r2, r3, bb⟩
      obtain ⟨C1, d1, rfl, -, -, -⟩ := m1.form'
      obtain ⟨C2, d2, rfl, -, -, -⟩ := m2.form'
      have HN := Lib.hid (HS.out.next m1 m2 hg r2 r3 bb)
      have HL := Lib.hid r1
      clear m1 m2 hg r1 r2 r3 bb h3 hl3 hll
      go_wp2_with fail
      go_roundg y'
      case measure => exact HL.out
      case rel => exact ⟨x', _, _, _, _, _, rfl, rfl, HN.out⟩
    · have hb := small_of_len h3
      by_cases h0 : gk = 0
      · subst h0
        rw [digs_zero]
        have HG : Hid (a' = g) := by have := HS.out.gcd; rwa [Nat.gcd_zero_right] at this
        have HF : Hid (Mag wr (.slice B1 q1 c1) g) := HG.out ▸ HS.out.ma
        have HB := Lib.hid HS.out.below
        clear HS HG h3 hb
        simp only [List.length_nil]
        go_wp2_with fail
        go_ret
        exact ⟨_, rfl, HF.out, HB.out⟩
      · have hpos : 0 < gk := Nat.pos_of_ne_zero h0
        have hz : (((digs gk).length : Int) == 0) = false := by rw [beq_eq_false_iff_ne]; intro h; exact h0 (nat_len_zero.1 (by omega))
        have hr := Nat.mod_lt a' hpos
        have hgg : Nat.gcd gk (a' % gk) = g := by have := HS.out.gcd; rw [← this, Nat.gcd_comm a' gk, Nat.gcd_rec gk a', Nat.gcd_comm]
        have HG := Lib.hid hgg
        clear hgg
        have hgb : g < 18446744073709551616 := by have := HS.out.gcd; have h5 := Nat.gcd_le_right a' hpos; omega
        have hll : (digs gk).length ≤ (digs a').length := length_mono HS.out.le
        have hlen := HS.out.len
        have HD := Lib.hid (divide_any _ _ a' gk wr HS.out.ma HS.out.mb hpos hlen (by omega))
        have HR := Lib.hid (show a' % gk < 18446744073709551616 by omega)
        have HP := Lib.hid hgb
        have HB := Lib.hid HS.out.below
        have HM := Lib.hid HS.out.mb
        have HBB := Lib.hid hb
        clear HS h0 hpos hr hgb hll hlen hb
        go_wp2_with fail
        refine HD.out.mono ?_
        rintro e w2 ⟨vq, vr, rfl, hmq, hmr, hb2⟩
        have HM2 := Lib.hid (Mag.below HM.out hb2)
        have HB2 := Lib.hid (nextw HB.out hb2)
        have HMR := Lib.hid hmr
        clear hb2 hmq hmr
        go_wp2_with fail
        refine (number_any _ gk HBB.out _ HM2.out).mono ?_
        rintro e w3 ⟨rfl, rfl⟩
        go_wp2_with fail
        refine (number_any _ (a' % gk) HR.out _ HMR.out).mono ?_
        rintro e w3 ⟨rfl, rfl⟩
        go_wp2_with fail
        refine (commonSmall_any gk (a' % gk) HBB.out HR.out w2).mono ?_
        rw [HG.out]
        rintro e w3 ⟨rfl, n3, rfl⟩
        go_wp2_with fail
        refine (words_any g HP.out _).mono ?_
        rintro e w4 ⟨v4, rfl, hm4, hb4⟩
        have HF := Lib.hid (And.intro hm4 (nextw HB2.out (undraw hb4)))
        clear hm4 hb4
        go_wp2_with fail
        go_ret
        exact ⟨_, rfl, HF.out.1, HF.out.2⟩

theorem common_any (v1 v2 : Value) (a b : Nat) (w : World) (h1 : Mag w v1 a) (h2 : Mag w v2 b) (hn1 : (digs a).length ≤ 100000) (hn2 : (digs b).length ≤ 100000) :
    Calls Tryz.prog 79 #[v1, v2] w fun e w' => ∃ v, e = .returned v ∧ Mag w' v (Nat.gcd a b) ∧ Below w.heap.size w w' := by
  rcases Nat.lt_or_ge a b with h | h
  · exact common_less v1 v2 a b w h1 h2 h hn2
  · exact common_more v1 v2 a b w h1 h2 h hn1
end Go.Proofs.YtccndofafljaaaaGreatDoor
