/- Plain mathematics: the boxes of Meet. -/
import Derived.Test.YtjpdahalplkfbaaBHalf
set_option linter.unusedVariables false
namespace Go.Proofs.Ytjpdahalplkfbaa
open Go Go.RowKit Hd

/-- How many marks the arcs of a list have. -/
def totA (l : List (Int × Int)) : Int := match l with
  | [] => 0
  | p :: l => p.2 + totA l
theorem totA_app (l m : List (Int × Int)) : totA (l ++ m) = totA l + totA m := by
  induction l with
  | nil => simp [totA]
  | cons p l ih => simp only [List.cons_append, totA, ih]; omega
theorem tot_add (f c g d : Int) (l : List (Int × Int)) (m : Int) : totA (addAt f c g d l m) = totA l + if startB f c g d m = true then cntM f c g d m else 0 := by
  unfold addAt
  split
  · rw [totA_app]; simp [totA]
  · omega
/-- An arc that is added lies in both. -/
theorem add_in {f c g d m : Int} (ha : OkA f c) (hb : OkA g d) : arcIn m (cntM f c g d m) f c ∧ arcIn m (cntM f c g d m) g d := by
  unfold arcIn cntM ah
  (repeat' split) <;> omega
theorem in_add {f c g d m : Int} {l : List (Int × Int)} (ha : OkA f c) (hb : OkA g d) (h : ∀ p ∈ l, arcIn p.1 p.2 f c ∧ arcIn p.1 p.2 g d) : ∀ p ∈ addAt f c g d l m, arcIn p.1 p.2 f c ∧ arcIn p.1 p.2 g d := by
  intro p hp
  unfold addAt at hp
  split at hp
  · rcases List.mem_append.1 hp with k | k
    · exact h p k
    · obtain rfl := List.mem_singleton.1 k; exact add_in ha hb
  · exact h p hp
theorem ah_eq (f c m : Int) : (c = 256 ∧ ah f c m = 256) ∨ (c ≠ 256 ∧ ah f c m = c - (m - f) % 256) := by
  unfold ah; split
  · exact .inl ⟨by assumption, rfl⟩
  · exact .inr ⟨by assumption, rfl⟩
theorem tot_two {f c g d : Int} (ha : OkA f c) (hb : OkA g d) (hn : ¬ (c = 256 ∧ d = 256)) (hne : f ≠ g) :
    ((if startB f c g d f = true then cntM f c g d f else 0) + (if startB f c g d g = true then cntM f c g d g else 0) ≤ c) ∧
    (((if startB f c g d f = true then cntM f c g d f else 0) + (if startB f c g d g = true then cntM f c g d g else 0) = c) ↔ arcIn f c g d) := by
  have a0 := ha.f0; have a1 := ha.f1; have a2 := ha.c0; have a3 := ha.c1; have a4 := ha.full
  have b0 := hb.f0; have b1 := hb.f1; have b2 := hb.c0; have b3 := hb.c1; have b4 := hb.full
  rw [cnt_f f c g d ha, cnt_g f c g d hb]
  have h1 := start_f ha hb
  have h2 := start_g ha hb
  have k1 := ah_eq f c g
  have k2 := ah_eq g d f
  unfold arcIn
  generalize ah f c g = A at *
  generalize ah g d f = B at *
  by_cases s1 : startB f c g d f = true <;> by_cases s2 : startB f c g d g = true
  · have p1 := h1.1 s1; have p2 := h2.1 s2; clear h1 h2; rw [if_pos s1, if_pos s2]; omega
  · have p1 := h1.1 s1; have p2 := mt h2.2 s2; clear h1 h2; rw [if_pos s1, if_neg s2]; omega
  · have p1 := mt h1.2 s1; have p2 := h2.1 s2; clear h1 h2; rw [if_neg s1, if_pos s2]; omega
  · have p1 := mt h1.2 s1; have p2 := mt h2.2 s2; clear h1 h2; rw [if_neg s1, if_neg s2]; omega
theorem tot_one {f c d : Int} (ha : OkA f c) (hb : OkA f d) (hn : ¬ (c = 256 ∧ d = 256)) :
    ((if startB f c f d f = true then cntM f c f d f else 0) ≤ c) ∧ (((if startB f c f d f = true then cntM f c f d f else 0) = c) ↔ arcIn f c f d) := by
  have a0 := ha.f0; have a1 := ha.f1; have a2 := ha.c0; have a3 := ha.c1; have a4 := ha.full
  have b2 := hb.c0; have b3 := hb.c1; have b4 := hb.full
  rw [cnt_f f c f d ha]
  have h1 := start_f ha hb
  have k2 := ah_eq f d f
  unfold arcIn
  generalize ah f d f = B at *
  by_cases s1 : startB f c f d f = true
  · have p1 := h1.1 s1; clear h1; rw [if_pos s1]; omega
  · have p1 := mt h1.2 s1; clear h1; rw [if_neg s1]; omega
theorem tot_all {f c g d : Int} (ha : OkA f c) (hb : OkA g d) : (totA (refAll f c g d) ≤ c ∧ (totA (refAll f c g d) = c ↔ arcIn f c g d)) ∧ (∀ p ∈ refAll f c g d, arcIn p.1 p.2 f c ∧ arcIn p.1 p.2 g d) := by
  have nil : ∀ p ∈ ([] : List (Int × Int)), arcIn p.1 p.2 f c ∧ arcIn p.1 p.2 g d := fun p hp => by simp at hp
  by_cases hn : c = 256 ∧ d = 256
  · obtain ⟨rfl, rfl⟩ := hn
    obtain rfl := ha.full rfl
    obtain rfl := hb.full rfl
    rw [all_full]
    refine ⟨⟨by simp [totA], by simp [totA, arcIn]⟩, fun p hp => ?_⟩
    obtain rfl := List.mem_singleton.1 hp
    exact ⟨.inl rfl, .inl rfl⟩
  · by_cases hne : f = g
    · subst hne
      rw [all_one ha hb hn]
      refine ⟨?_, in_add ha hb nil⟩
      rw [tot_add]
      have := tot_one ha hb hn
      simp only [totA, Int.zero_add]; exact this
    · have t := tot_two ha hb hn hne
      rcases Int.lt_or_gt_of_ne hne with h | h
      · rw [all_two ha hb hn (.inl rfl) (.inr rfl) ⟨.inl rfl, .inr rfl⟩ h]
        refine ⟨?_, in_add ha hb (in_add ha hb nil)⟩
        rw [tot_add, tot_add]; simp only [totA, Int.zero_add]; exact t
      · rw [all_two ha hb hn (.inr rfl) (.inl rfl) ⟨.inr rfl, .inl rfl⟩ h]
        refine ⟨?_, in_add ha hb (in_add ha hb nil)⟩
        rw [tot_add, tot_add]; simp only [totA, Int.zero_add]; rw [Int.add_comm]; exact t
end Go.Proofs.Ytjpdahalplkfbaa
