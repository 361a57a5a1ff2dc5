/- The law HeadingMeets. -/
import Derived.Test.YtjpdahalplkfbaaHCount
import Derived.Test.YtjpdahalplkfbaaHRMeet
import Derived.Test.YtjpdahalplkfbaaHCount
set_option linter.unusedSimpArgs false
set_option linter.unusedVariables false
namespace Go.Proofs.Ytjpdahalplkfbaa
open Go Go.RowKit Hd

theorem Meet_ok (f c g d : Int) (ha : OkA f c) (hb : OkA g d) (w : World) :
    Calls Try.prog 50 #[av f c, av g d] w fun e w' => ListedA (refAll f c g d) w e w' := by
  by_cases hc : c = 256
  · obtain rfl := ha.full hc
    subst hc
    by_cases hd : d = 256
    · obtain rfl := hb.full hd
      subst hd
      rw [all_full]; exact Meet_full ha hb w
    · have hn : ¬ ((256 : Int) = 256 ∧ d = 256) := fun h => hd h.2
      have g0 := hb.f0
      by_cases hg : g = 0
      · subst hg
        rw [all_one ha hb hn]; exact Meet_feq d ha hb (by simpa using hd) w
      · rw [all_two ha hb hn (.inl rfl) (.inr rfl) ⟨.inl rfl, .inr rfl⟩ (by omega)]
        exact Meet_flt g d ha hb (by simpa using hd) (by omega) w
  · have hn : ¬ (c = 256 ∧ d = 256) := fun h => hc h.1
    have hb0 : (c == 256) = false := by simpa using hc
    rcases Int.lt_trichotomy f g with h | h | h
    · rw [all_two ha hb hn (.inl rfl) (.inr rfl) ⟨.inl rfl, .inr rfl⟩ h]; exact Meet_clt f c g d ha hb hb0 h w
    · subst h; rw [all_one ha hb hn]; exact Meet_ceq f c d ha hb hb0 w
    · rw [all_two ha hb hn (.inr rfl) (.inl rfl) ⟨.inr rfl, .inl rfl⟩ h]; exact Meet_cgt f c g d ha hb hb0 h w
/-- What the law asks of the list. -/
theorem all_fine {f c g d : Int} (ha : OkA f c) (hb : OkA g d) (m : Int) : AllOk (refAll f c g d) ∧ (refAll f c g d).length ≤ 2 ∧ cntL (refAll f c g d) m = if bothB f c g d m = true then 1 else 0 := by
  have a0 := ha.f0; have a1 := ha.f1
  have b0 := hb.f0; have b1 := hb.f1
  by_cases hfull : c = 256 ∧ d = 256
  · obtain ⟨hc, hd⟩ := hfull
    obtain rfl := ha.full hc
    obtain rfl := hb.full hd
    subst hc hd
    rw [all_full]
    refine ⟨fun p hp => ?_, by decide, ?_⟩
    · simp only [List.mem_singleton] at hp; subst hp; exact .inl ⟨rfl, rfl⟩
    · have h1 : hasB 0 256 m = true := has_iff.2 (by omega)
      have h2 : bothB 0 256 0 256 m = true := both_iff.2 (by omega)
      rw [if_pos h2]
      show (List.filter (fun p => hasB p.1 p.2 m) [(0, 256)]).length = 1
      simp [h1]
  · by_cases hfg : f = g
    · subst hfg
      rw [all_one ha hb hfull]
      refine ⟨allOk_add ha hb a0 (by omega) allOk_nil, addAt_le (n := 1) (by simp), ?_⟩
      rw [cntL_add, ← count_one ha hb hfull m]; simp [cntL]
    · rcases Int.lt_or_gt_of_ne hfg with h | h
      · rw [all_two ha hb hfull (.inl rfl) (.inr rfl) ⟨.inl rfl, .inr rfl⟩ h]
        refine ⟨allOk_add ha hb b0 (by omega) (allOk_add ha hb a0 (by omega) allOk_nil), addAt_le (n := 1) (addAt_le (n := 0) (by simp)), ?_⟩
        rw [cntL_add, cntL_add, ← count_two ha hb hfull hfg m]; simp [cntL]
      · rw [all_two ha hb hfull (.inr rfl) (.inl rfl) ⟨.inr rfl, .inl rfl⟩ h]
        refine ⟨allOk_add ha hb a0 (by omega) (allOk_add ha hb b0 (by omega) allOk_nil), addAt_le (n := 1) (addAt_le (n := 0) (by simp)), ?_⟩
        rw [cntL_add, cntL_add, ← count_two ha hb hfull hfg m, Nat.add_comm]; simp [cntL]

end Go.Proofs.Ytjpdahalplkfbaa
