/- Plain mathematics: a mark of two arcs is in one of the arcs of their meet. -/
import Derived.Test.YtjpdahalplkfbaaHMeetM
set_option linter.unusedSimpArgs false
set_option linter.unusedVariables false
namespace Go.Proofs.Ytjpdahalplkfbaa
open Go Go.RowKit Hd

/-- How many arcs of a list have the mark m. -/
def cntL (L : List (Int × Int)) (m : Int) : Nat := (L.filter fun p => hasB p.1 p.2 m).length
theorem cntL_snoc (L : List (Int × Int)) (F N m : Int) : cntL (L ++ [(F, N)]) m = cntL L m + if hasB F N m = true then 1 else 0 := by
  unfold cntL
  rw [List.filter_append, List.length_append]
  by_cases h : hasB F N m = true <;> simp [List.filter_cons, h]
theorem cntL_take {L : List (Int × Int)} {k : Nat} (m : Int) (hk : k < L.length) : cntL (L.take (k + 1)) m = cntL (L.take k) m + if hasB (L.getD k (0, 0)).1 (L.getD k (0, 0)).2 m = true then 1 else 0 := by
  rw [List.take_succ_eq_append_getElem hk]
  have : L.getD k (0, 0) = L[k] := by simp [List.getD, hk]
  rw [this]
  exact cntL_snoc _ _ _ _
theorem cntL_add (f c g d : Int) (L : List (Int × Int)) (p m : Int) : cntL (addAt f c g d L p) m = cntL L m + if startB f c g d p = true ∧ hasB p (cntM f c g d p) m = true then 1 else 0 := by
  unfold addAt
  by_cases h : startB f c g d p = true
  · rw [if_pos h, cntL_snoc]
    by_cases h2 : hasB p (cntM f c g d p) m = true
    · rw [if_pos h2, if_pos ⟨h, h2⟩]
    · rw [if_neg h2, if_neg (fun e => h2 e.2)]
  · rw [if_neg h, if_neg (fun e => h e.1)]; rfl
/-- All arcs of a list are valid. -/
def AllOk (L : List (Int × Int)) : Prop := ∀ p ∈ L, OkA p.1 p.2
theorem allOk_add {f c g d p : Int} {L : List (Int × Int)} (ha : OkA f c) (hb : OkA g d) (p0 : 0 ≤ p) (p1 : p ≤ 255) (h : AllOk L) : AllOk (addAt f c g d L p) := by
  unfold addAt
  split
  · rename_i hs
    intro x hx
    rcases List.mem_append.1 hx with hx | hx
    · exact h x hx
    · simp only [List.mem_singleton] at hx
      subst hx
      have h1 := cnt_pos ha hb hs
      have h2 := (cnt_both ha hb hs (n := 1) (by omega) h1).2
      exact .inr ⟨p0, by show p < 256; omega, h1, by show cntM f c g d p < 256; omega⟩
  · exact h
theorem allOk_nil : AllOk [] := fun p hp => by simp at hp
theorem allOk_getD {L : List (Int × Int)} (h : AllOk L) {k : Nat} (hk : k < L.length) : OkA (L.getD k (0, 0)).1 (L.getD k (0, 0)).2 := by
  have : L.getD k (0, 0) = L[k] := by simp [List.getD, hk]
  rw [this]; exact h _ (List.getElem_mem hk)
theorem start_f {f c g d : Int} (ha : OkA f c) (hb : OkA g d) : startB f c g d f = true ↔ (f - g) % 256 < d ∧ ¬ (c = 256 ∧ (f - 1 - g) % 256 < d) := by
  have a2 := ha.c0; have a3 := ha.c1
  rw [start_iff]; omega
theorem start_g {f c g d : Int} (ha : OkA f c) (hb : OkA g d) : startB f c g d g = true ↔ (g - f) % 256 < c ∧ ¬ (d = 256 ∧ (g - 1 - f) % 256 < c) := by
  have a2 := hb.c0; have a3 := hb.c1
  rw [start_iff]; omega
theorem cnt_f (f c g d : Int) (ha : OkA f c) : cntM f c g d f = min c (ah g d f) := by
  have a3 := ha.c1
  have e : ah f c f = c := by unfold ah; split <;> omega
  unfold cntM; rw [e]; split <;> omega
theorem cnt_g (f c g d : Int) (hb : OkA g d) : cntM f c g d g = min (ah f c g) d := by
  have a3 := hb.c1
  have e : ah g d g = d := by unfold ah; split <;> omega
  unfold cntM; rw [e]; split <;> omega
theorem has_iff {f c m : Int} : hasB f c m = true ↔ (m - f) % 256 < c := by unfold hasB; simp
/-- One arc of the two has a mark of both, and no other mark is in them. -/
theorem count_two {f c g d : Int} (ha : OkA f c) (hb : OkA g d) (hn : ¬ (c = 256 ∧ d = 256)) (hne : f ≠ g) (m : Int) :
    (if startB f c g d f = true ∧ hasB f (cntM f c g d f) m = true then 1 else 0) + (if startB f c g d g = true ∧ hasB g (cntM f c g d g) m = true then 1 else 0) = if bothB f c g d m = true then 1 else 0 := by
  have a0 := ha.f0; have a1 := ha.f1; have a2 := ha.c0; have a3 := ha.c1; have a4 := ha.full
  have b0 := hb.f0; have b1 := hb.f1; have b2 := hb.c0; have b3 := hb.c1; have b4 := hb.full
  rw [cnt_f f c g d ha, cnt_g f c g d hb]
  simp only [start_f ha hb, start_g ha hb, has_iff, both_iff]
  obtain ⟨x, hx⟩ : ∃ x, (m - f) % 256 = x := ⟨_, rfl⟩
  obtain ⟨y, hy⟩ : ∃ y, (m - g) % 256 = y := ⟨_, rfl⟩
  obtain ⟨t, ht⟩ : ∃ t, (g - f) % 256 = t := ⟨_, rfl⟩
  have e1 : (f - g) % 256 = 256 - t := by omega
  have e2 : (f - 1 - g) % 256 = 255 - t := by omega
  have e3 : (g - 1 - f) % 256 = t - 1 := by omega
  have e4 : y = if t ≤ x then x - t else x - t + 256 := by split <;> omega
  have t0 : 1 ≤ t := by omega
  have t1 : t ≤ 255 := by omega
  have x0 : 0 ≤ x := by omega
  have x1 : x ≤ 255 := by omega
  have hg : ah g d f = if d = 256 then 256 else d - (256 - t) := by unfold ah; rw [e1]
  have hf : ah f c g = if c = 256 then 256 else c - t := by unfold ah; rw [ht]
  rw [hg, hf, hx, hy, ht, e1, e2, e3]
  have hfull : c = 256 → d ≠ 256 := fun h1 h2 => hn ⟨h1, h2⟩
  clear hx hy ht e1 e2 e3 hg hf a0 a1 a4 b0 b1 b4 hne hn ha hb
  by_cases hc : c = 256
  · have hd : ¬ d = 256 := hfull hc
    rw [if_pos hc, if_neg hd]
    split at e4 <;> (repeat' split) <;> omega
  · rw [if_neg hc]
    by_cases hd : d = 256
    · rw [if_pos hd]
      split at e4 <;> (repeat' split) <;> omega
    · rw [if_neg hd]
      split at e4 <;> (repeat' split) <;> omega
theorem count_one {f c d : Int} (ha : OkA f c) (hb : OkA f d) (hn : ¬ (c = 256 ∧ d = 256)) (m : Int) :
    (if startB f c f d f = true ∧ hasB f (cntM f c f d f) m = true then 1 else 0) = if bothB f c f d m = true then 1 else 0 := by
  have a2 := ha.c0; have a3 := ha.c1; have a4 := ha.full
  have b2 := hb.c0; have b3 := hb.c1; have b4 := hb.full
  rw [cnt_f f c f d ha]
  simp only [start_f ha hb, has_iff, both_iff]
  have hg : ah f d f = d := by unfold ah; split <;> omega
  rw [hg]
  (repeat' split) <;> omega
end Go.Proofs.Ytjpdahalplkfbaa
