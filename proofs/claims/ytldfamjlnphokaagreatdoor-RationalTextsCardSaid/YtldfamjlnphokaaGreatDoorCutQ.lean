/- The text of a fraction: cut at its slash; it is read back. -/
import Derived.Test.YtldfamjlnphokaaGreatDoorQ4
import Derived.Lib.IndexMore

set_option linter.unusedVariables false
set_option linter.unusedSimpArgs false

namespace Go.Proofs.YtldfamjlnphokaaGreatDoor
open Go Go.RowKit Num

theorem cut_hit (f b : List UInt8) (h : 47 ∉ f) : Lib.cut (f ++ 47 :: b) [47] = (f, b, true) := by
  have hi : Lib.index (f ++ 47 :: b) [47] = f.length := by
    refine Lib.index_first (by simp) ?_ ?_
    · unfold Lib.occAt
      rw [List.drop_left]
      simp [List.isPrefixOf]
    · intro j hj
      rcases ho : Lib.occAt (f ++ 47 :: b) [47] j with _ | _
      · rfl
      · have := Lib.occAt_head (c := 47) (t := []) rfl ho
        rw [List.getElem?_append_left hj] at this
        exact absurd (List.mem_of_getElem? this) h
  unfold Lib.cut
  rw [hi, if_pos (by omega)]
  simp
theorem cut_miss (l : List UInt8) (h : 47 ∉ l) : Lib.cut l [47] = (l, [], false) := by
  have hi : Lib.index l [47] = -1 := by
    refine Lib.index_none ?_
    intro j hj
    rcases ho : Lib.occAt l [47] j with _ | _
    · rfl
    · exact absurd (List.mem_of_getElem? (Lib.occAt_head (c := 47) (t := []) rfl ho)) h
  unfold Lib.cut
  rw [hi, if_neg (by omega)]
/-- Every string is cut in one of the two ways. -/
theorem cut_cases (l : List UInt8) : (47 ∉ l) ∨ ∃ f b, 47 ∉ f ∧ l = f ++ 47 :: b := by
  induction l with
  | nil => exact .inl (by simp)
  | cons a t ih =>
    by_cases ha : a = 47
    · subst ha; exact .inr ⟨[], t, by simp, rfl⟩
    · rcases ih with h | ⟨f, b, hf, rfl⟩
      · exact .inl (by simp [h, Ne.symm ha])
      · exact .inr ⟨a :: f, b, by simp [hf, Ne.symm ha], rfl⟩
theorem text_no_slash (z : Int) : (47 : UInt8) ∉ zText z := by
  intro h
  have hp := zText_parts z
  have hb : (47 : UInt8) ∈ bodyD (zText z) := by
    rcases hz : zText z with _ | ⟨a, t⟩
    · rw [hz] at h; cases h
    · rw [hz] at h
      rw [bodyD_cons]
      by_cases ha : a = 45
      · rw [if_pos ha]; subst ha
        rcases List.mem_cons.1 h with e | e
        · exact absurd e (by decide)
        · exact e
      · rw [if_neg ha]; exact h
  rw [hp.2] at hb
  have := digits_isD _ _ hb
  exact absurd this (by unfold isD; decide)
theorem zText_inj {a b : Int} (h : zText a = zText b) : a = b := by rw [← numD_text a, ← numD_text b, h]
/-- Two numbers have the same text exactly if they are equal. -/
theorem qText_inj {r s : Rat} (h : qText r = qText s) : r = s := by
  unfold qText at h
  have e (x : Rat) : x = Rat.divInt x.num x.den := (Rat.num_divInt_den x).symm
  by_cases h1 : (r.den : Int) = 1 <;> by_cases h2 : (s.den : Int) = 1
  · rw [if_pos h1, if_pos h2] at h
    rw [e r, e s, zText_inj h, h1, h2]
  · rw [if_pos h1, if_neg h2] at h
    exact absurd (h ▸ (by simp : (47 : UInt8) ∈ zText s.num ++ 47 :: zText s.den)) (text_no_slash r.num)
  · rw [if_neg h1, if_pos h2] at h
    exact absurd (h ▸ (by simp : (47 : UInt8) ∈ zText r.num ++ 47 :: zText r.den)) (text_no_slash s.num)
  · rw [if_neg h1, if_neg h2] at h
    have c1 := cut_hit (zText r.num) (zText r.den) (text_no_slash _)
    have c2 := cut_hit (zText s.num) (zText s.den) (text_no_slash _)
    rw [h, c2] at c1
    simp only [Prod.mk.injEq, and_true] at c1
    rw [e r, e s, zText_inj c1.1, zText_inj c1.2]
end Go.Proofs.YtldfamjlnphokaaGreatDoor
