/- integer.divide -/
import Derived.Test.YtgfoplokplnpgaaDoorDivL
namespace Go.Proofs.YtgfoplokplnpgaaDoor
open Go Go.RowKit Num

theorem cmpI_lt {a b : Nat} : (cmpI a b < 0 ↔ a < b) ∧ (0 ≤ cmpI a b ↔ b ≤ a) := by
  rw [cmpI_nat]
  by_cases h : a < b
  · rw [if_pos h]; omega
  · rw [if_neg h]
    by_cases h' : b < a
    · rw [if_pos h']; omega
    · rw [if_neg h']; omega

set_option maxRecDepth 100000 in
set_option maxHeartbeats 600000 in
theorem divide_lt (v1 v2 : Value) (a b : Nat) (w : World) (g1 : Mag w v1 a) (g2 : Mag w v2 b) (hb : 0 < b) (hna : (digs a).length ≤ 100000) (hnb : (digs b).length ≤ 100000) (hlt : a < b) :
    Calls Tryd.prog 37 #[v1, v2] w fun e w' => ∃ q r, e = .returned (.tuple #[q, r]) ∧ Mag w' q (a / b) ∧ Mag w' r (a % b) ∧ Below w.heap.size w w' := by
  have c0 := compare_any v1 v2 a b w g1 g2 (by omega) (by omega)
  have HC0 := Lib.hid c0
  have HH1 := Lib.hid g1
  have HH2 := Lib.hid g2
  have hl : 0 < (digs b).length := by
    rcases Nat.eq_zero_or_pos (digs b).length with h | h
    · have := digs_eq_nil.1 (List.eq_nil_of_length_eq_zero h); omega
    · exact h
  obtain ⟨A2, cap2, rfl, -, -, hf2⟩ := id g2.form
  obtain ⟨b2, o2, rfl, hb2lt, hcell2⟩ := hf2 (by intro h; rw [h] at hl; simp at hl)
  obtain ⟨A1, cap1, rfl, -, -, -⟩ := id g1.form
  clear c0 hf2 g1 g2
  have hneg := cmpI_lt.1.2 hlt
  have hq : a / b = 0 := Nat.div_eq_of_lt hlt
  have hr : a % b = a := Nat.mod_eq_of_lt hlt
  rw [hq, hr]
  clear hcell2 hq hr
  go_enter Tryd.func37, Tryd.ntmps37
  go_wp2_with fail
  refine HC0.out.mono ?_
  rintro e w1 ⟨rfl, n, rfl⟩
  generalize cmpI a b = cv at *
  go_wp2_with fail
  have hU : U32 (w.drewN n) (.slice A1 (digs a).length cap1) (digs a) := U32.drewN HH1.out n
  refine (clone_any _ (digs a) _ hU (by omega)).mono ?_
  rintro e w2 ⟨v', rfl, hcl, hbl⟩
  have hm := hcl.u32 (digs_lt a)
  have hbl' : Below w.heap.size w w2 := ⟨hbl.os, hbl.tape, hbl.output, hbl.size, hbl.block⟩
  clear hcl hbl
  go_wp2
  go_returns
  exact ⟨_, _, rfl, by unfold Mag; rw [digs_zero]; exact U32.nil none (Nat.zero_le _), hm, hbl'⟩

set_option maxRecDepth 100000 in
set_option maxHeartbeats 600000 in
theorem divide_one (v1 v2 : Value) (a b : Nat) (w : World) (g1 : Mag w v1 a) (g2 : Mag w v2 b) (hb : 0 < b) (hna : (digs a).length ≤ 100000) (hnb : (digs b).length ≤ 100000) (hlt : ¬ a < b) (h1 : (digs b).length < 2) :
    Calls Tryd.prog 37 #[v1, v2] w fun e w' => ∃ q r, e = .returned (.tuple #[q, r]) ∧ Mag w' q (a / b) ∧ Mag w' r (a % b) ∧ Below w.heap.size w w' := by
  have c0 := compare_any v1 v2 a b w g1 g2 (by omega) (by omega)
  have HC0 := Lib.hid c0
  have HH1 := Lib.hid g1
  have HH2 := Lib.hid g2
  have hl : 0 < (digs b).length := by
    rcases Nat.eq_zero_or_pos (digs b).length with h | h
    · have := digs_eq_nil.1 (List.eq_nil_of_length_eq_zero h); omega
    · exact h
  obtain ⟨A2, cap2, rfl, -, -, hf2⟩ := id g2.form
  obtain ⟨b2, o2, rfl, hb2lt, hcell2⟩ := hf2 (by intro h; rw [h] at hl; simp at hl)
  obtain ⟨A1, cap1, rfl, -, -, -⟩ := id g1.form
  clear c0 hf2 g1 g2
  have hge := cmpI_lt.2.2 (Nat.le_of_not_lt hlt)
  have hle : b ≤ a := Nat.le_of_not_lt hlt
  have hl1 : (digs b).length = 1 := by omega
  have hbs : b < 4294967296 := by have := lt_pow_length b; rw [hl1] at this; omega
  have hd1 := digs_one (n := b) (by omega) hbs
  have hc0 := hcell2 0 (by omega)
  rw [hd1] at hc0
  simp only [List.getD_cons_zero, Nat.add_zero] at hc0
  rw [hl1] at HC0 ⊢
  clear hcell2 hl h1 hl1 hnb hd1 HH2
  go_enter Tryd.func37, Tryd.ntmps37
  go_wp2_with fail
  refine HC0.out.mono ?_
  rintro e w1 ⟨rfl, n, rfl⟩
  generalize cmpI a b = cv at *
  go_wp2_with fail
  have hU : U32 (w.drewN n) (.slice A1 (digs a).length cap1) (digs a) := U32.drewN HH1.out n
  refine (clone_any _ (digs a) _ hU (by omega)).mono ?_
  rintro e w2 ⟨v', rfl, hcl, hbl⟩
  have hbl' : Below w.heap.size w w2 := ⟨hbl.os, hbl.tape, hbl.output, hbl.size, hbl.block⟩
  have hla : 0 < (digs a).length := by
    rcases Nat.eq_zero_or_pos (digs a).length with h | h
    · have := digs_eq_nil.1 (List.eq_nil_of_length_eq_zero h); omega
    · exact h
  rcases hcl with ⟨h0, _⟩ | ⟨g, cap, ex, rfl, hg, ho, hc1, hc2⟩
  · rw [h0] at hla; simp at hla
  have hg' : w.heap.size ≤ g := hg
  have hcx := (hbl'.cell (p := ⟨b2, o2, none⟩) hb2lt).trans hc0
  have cs := shorten_any g cap b (digs a) ex w2 ho (digs_lt a) hb hbs (by omega) hc1
  rw [val_digs] at cs
  have hrb : a % b < 4294967296 := Nat.lt_trans (Nat.mod_lt _ hb) hbs
  obtain ⟨r, hr⟩ : ∃ r, r = a % b := ⟨_, rfl⟩
  rw [← hr] at cs hrb
  have HR := Lib.hid hr
  clear hr
  have HCS := Lib.hid cs
  clear cs hbl hc0 hg
  go_wp2_with fail
  refine HCS.out.mono ?_
  rintro e w3 ⟨rfl, l', hl', hlt', hv', ho', hgr⟩
  have hb3 : Below w.heap.size w w3 := hbl'.grown hgr hbl'.size (fun k hk => by injection hk with hk; omega)
  have hU3 : U32 w3 (.slice (some ⟨g, 0, none⟩) (digs a).length cap) l' := by
    have := ho'.u32 hlt' (cap := cap) (by omega) hc2
    rwa [hl'] at this
  have HL' := Lib.hid hl'
  have HV' := Lib.hid hv'
  clear hl' hv' HCS ho ho' hgr hbl'
  go_wp2_with fail
  refine (trim_any _ _ _ hU3).mono ?_
  rintro e w' ⟨vq, rfl, rfl, hmq, -⟩
  have hmq1 := hmq _ hU3
  rw [HV'.out] at hmq1
  clear hmq hU3
  go_wp2_with fail
  refine (words_any r (by omega) _).mono ?_
  rintro e w4 ⟨vr, rfl, hmr, hb4⟩
  have hmq2 := hmq1.below hb4
  have hb5 := hb3.trans (hb4.mono hb3.size)
  clear hmq1
  go_wp2
  go_returns
  exact ⟨_, _, rfl, hmq2, by rw [← HR.out]; exact hmr, hb5⟩

set_option maxRecDepth 100000 in
set_option maxHeartbeats 600000 in
theorem divide_more (v1 v2 : Value) (a b : Nat) (w : World) (g1 : Mag w v1 a) (g2 : Mag w v2 b) (hb : 0 < b) (hna : (digs a).length ≤ 100000) (hnb : (digs b).length ≤ 100000) (hlt : ¬ a < b) (h1 : 2 ≤ (digs b).length) :
    Calls Tryd.prog 37 #[v1, v2] w fun e w' => ∃ q r, e = .returned (.tuple #[q, r]) ∧ Mag w' q (a / b) ∧ Mag w' r (a % b) ∧ Below w.heap.size w w' := by
  have c0 := compare_any v1 v2 a b w g1 g2 (by omega) (by omega)
  have HC0 := Lib.hid c0
  have HH1 := Lib.hid g1
  have HH2 := Lib.hid g2
  have hl : 0 < (digs b).length := by
    rcases Nat.eq_zero_or_pos (digs b).length with h | h
    · have := digs_eq_nil.1 (List.eq_nil_of_length_eq_zero h); omega
    · exact h
  obtain ⟨A2, cap2, rfl, -, -, hf2⟩ := id g2.form
  obtain ⟨b2, o2, rfl, hb2lt, hcell2⟩ := hf2 (by intro h; rw [h] at hl; simp at hl)
  obtain ⟨A1, cap1, rfl, -, -, -⟩ := id g1.form
  clear c0 hf2 g1 g2
  have hge := cmpI_lt.2.2 (Nat.le_of_not_lt hlt)
  have hle : b ≤ a := Nat.le_of_not_lt hlt
  have hne1 : (((digs b).length : Int) == 1) = false := by rw [beq_eq_false_iff_ne]; omega
  clear hcell2 hl
  go_enter Tryd.func37, Tryd.ntmps37
  go_wp2_with fail
  refine HC0.out.mono ?_
  rintro e w1 ⟨rfl, n, rfl⟩
  generalize cmpI a b = cv at *
  have c1 := divideLong_any (.slice A1 (digs a).length cap1) (.slice (some ⟨b2, o2, none⟩) (digs b).length cap2) a b (w.drewN n) (U32.drewN HH1.out n) (U32.drewN HH2.out n) h1 hle hna
  have HC1 := Lib.hid c1
  clear c1
  go_wp2_with fail
  refine HC1.out.mono ?_
  rintro e w2 ⟨q, r, rfl, hmq, hmr, hbl⟩
  have hbl' : Below w.heap.size w w2 := ⟨hbl.os, hbl.tape, hbl.output, hbl.size, hbl.block⟩
  clear hbl
  go_wp2
  go_returns
  exact ⟨_, _, rfl, hmq, hmr, hbl'⟩

set_option maxRecDepth 100000 in
set_option maxHeartbeats 2000000 in
theorem divide_any (v1 v2 : Value) (a b : Nat) (w : World) (h1 : Mag w v1 a) (h2 : Mag w v2 b) (hb : 0 < b) (hna : (digs a).length ≤ 100000) (hnb : (digs b).length ≤ 100000) :
    Calls Tryd.prog 37 #[v1, v2] w fun e w' => ∃ q r, e = .returned (.tuple #[q, r]) ∧ Mag w' q (a / b) ∧ Mag w' r (a % b) ∧ Below w.heap.size w w' := by
  by_cases hlt : a < b
  · exact divide_lt v1 v2 a b w h1 h2 hb hna hnb hlt
  · rcases Nat.lt_or_ge (digs b).length 2 with h | h
    · exact divide_one v1 v2 a b w h1 h2 hb hna hnb hlt h
    · exact divide_more v1 v2 a b w h1 h2 hb hna hnb hlt h
end Go.Proofs.YtgfoplokplnpgaaDoor
