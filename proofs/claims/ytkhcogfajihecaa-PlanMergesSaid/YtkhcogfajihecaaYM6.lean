/- Plain mathematics: merges of plans. -/
import Derived.Test.YtkhcogfajihecaaY28
set_option linter.unusedSimpArgs false
set_option linter.unusedVariables false
namespace Go.Proofs.Ytkhcogfajihecaa
open Go Go.RowKit Hd
section
variable {p q u v s t : Int} {l l2 l3 : List Int}
theorem mgE_al (h : mgE p q l u v l2 = 0) : AlP p q l u v l2 ∧ ∀ i, i < l.length → ¬ conf l l2 i := by
  unfold mgE at h
  split at h
  · rename_i h1
    split at h
    · rename_i h2; exact ⟨h1, h2⟩
    · cases h
  · cases h
theorem okp_mg (h : AlP p q l u v l2) (k : Nat) : OkP p q (mgK l l2 k) := by
  have hl := al_len h
  obtain ⟨⟨a1, a2, a3, a4⟩, ⟨b1, b2, b3, b4⟩, e1, e2⟩ := h
  refine ⟨a1, a2, by rw [mgK_len]; exact a3, fun b hb => ?_⟩
  unfold mgK at hb
  obtain ⟨i, hi, rfl⟩ := List.mem_map.1 hb
  rw [List.mem_range] at hi
  split
  · exact b4 _ (getB_mem (by omega))
  · exact a4 _ (getB_mem hi)
theorem mg_at (i : Nat) (hi : i < l.length) : (mgK l l2 l.length).getD i 0 = if l2.getD i 0 ≠ 0 then l2.getD i 0 else l.getD i 0 := by
  rw [mgK_get hi]
  by_cases h : l2.getD i 0 ≠ 0
  · rw [if_pos ⟨hi, h⟩, if_pos h]
  · rw [if_neg (fun g => h g.2), if_neg h]
theorem bel_l (h : mgE p q l u v l2 = 0) : BelP p q l p q (mgK l l2 l.length) := by
  obtain ⟨ha, hc⟩ := mgE_al h
  refine ⟨⟨ha.1, okp_mg ha _, rfl, rfl⟩, fun i hi h0 => ?_⟩
  rw [mg_at i hi]
  split
  · rename_i h2
    have := hc i hi
    unfold conf at this
    omega
  · rfl
theorem bel_r (h : mgE p q l u v l2 = 0) : BelP u v l2 p q (mgK l l2 l.length) := by
  obtain ⟨ha, hc⟩ := mgE_al h
  have hl := al_len ha
  refine ⟨⟨ha.2.1, okp_mg ha _, ha.2.2.1.symm, ha.2.2.2.symm⟩, fun i hi h0 => ?_⟩
  rw [mg_at i (by omega), if_pos h0]
theorem bel_self (h : OkP p q l) : BelP p q l p q l := ⟨⟨h, h, rfl, rfl⟩, fun _ _ _ => rfl⟩
theorem bel_lub (h : mgE p q l u v l2 = 0) (h1 : BelP p q l s t l3) (h2 : BelP u v l2 s t l3) : BelP p q (mgK l l2 l.length) s t l3 := by
  obtain ⟨ha, hc⟩ := mgE_al h
  have hl := al_len ha
  refine ⟨⟨okp_mg ha _, h1.1.2.1, h1.1.2.2.1, h1.1.2.2.2⟩, fun i hi h0 => ?_⟩
  rw [mgK_len] at hi
  rw [mg_at i hi] at h0 ⊢
  split
  · rename_i g; exact h2.2 i (by omega) g
  · rename_i g; rw [if_neg g] at h0; exact h1.2 i hi h0
theorem mg_bad (h : mgE p q l u v l2 ≠ 0) (h1 : BelP p q l s t l3) (h2 : BelP u v l2 s t l3) : False := by
  refine h (mgE_0 ⟨h1.1.1, h2.1.1, h1.1.2.2.1.trans h2.1.2.2.1.symm, h1.1.2.2.2.trans h2.1.2.2.2.symm⟩ (fun i hi g => ?_))
  have hl1 := al_len h1.1
  have hl2 := al_len h2.1
  have e1 := h1.2 i hi g.2.1
  have e2 := h2.2 i (by omega) g.1
  exact g.2.2 (e1.trans e2.symm)
theorem mg_assoc (h : mgE p q l u v l2 = 0) (h2 : mgE u v l2 s t l3 = 0) :
    mgE p q (mgK l l2 l.length) s t l3 = mgE p q l u v (mgK l2 l3 l2.length) ∧ mgV p q (mgK l l2 l.length) s t l3 = mgV p q l u v (mgK l2 l3 l2.length) := by
  obtain ⟨ha, hc⟩ := mgE_al h
  obtain ⟨hb, hd⟩ := mgE_al h2
  have hl := al_len ha
  have hl2 := al_len hb
  have a1 : AlP p q (mgK l l2 l.length) s t l3 := ⟨okp_mg ha _, hb.2.1, ha.2.2.1.trans hb.2.2.1, ha.2.2.2.trans hb.2.2.2⟩
  have a2 : AlP p q l u v (mgK l2 l3 l2.length) := ⟨ha.1, okp_mg hb _, ha.2.2.1, ha.2.2.2⟩
  have key : ∀ i, i < l.length → (conf (mgK l l2 l.length) l3 i ↔ conf l (mgK l2 l3 l2.length) i) := by
    intro i hi
    have c1 := hc i hi
    have c2 := hd i (by omega)
    unfold conf at *
    rw [mg_at i hi, mg_at i (by omega)]
    split <;> split <;> omega
  have eE : mgE p q (mgK l l2 l.length) s t l3 = mgE p q l u v (mgK l2 l3 l2.length) := by
    by_cases g : ∀ i, i < l.length → ¬ conf l (mgK l2 l3 l2.length) i
    · rw [mgE_0 a2 g, mgE_0 a1 (fun i hi k => by rw [mgK_len] at hi; exact g i hi ((key i hi).1 k))]
    · have : ∃ i, i < l.length ∧ conf l (mgK l2 l3 l2.length) i := by
        apply Classical.byContradiction
        intro k
        exact g (fun i hi c => k ⟨i, hi, c⟩)
      obtain ⟨i, hi, c⟩ := this
      rw [mgE_11 a2 hi c, mgE_11 a1 (by rw [mgK_len]; exact hi) ((key i hi).2 c)]
  refine ⟨eE, ?_⟩
  unfold mgV
  rw [eE]
  split
  · refine ext_getD (by rw [mgK_len, mgK_len, mgK_len]) (fun i hi => ?_)
    rw [mgK_len, mgK_len] at hi
    rw [mg_at i (by rw [mgK_len]; exact hi), mg_at i hi, mg_at i hi, mg_at i (by omega)]
    (repeat' split) <;> first | rfl | omega | simp_all
  · rfl
theorem mg_assocX (h : mgE p q l u v l2 = 0) (h2 : mgE u v l2 s t l3 = 0) (x : Int) : mgX p q (mgK l l2 l.length) s t l3 x = mgX p q l u v (mgK l2 l3 l2.length) x := by
  unfold mgX
  rw [(mg_assoc h h2).1]
end
end Go.Proofs.Ytkhcogfajihecaa
