/- Plain mathematics: the shortest arc with all marks of two arcs. -/
import Derived.Test.YtjpdahalplkfbaaHHull2
namespace Go.Proofs.Ytjpdahalplkfbaa
open Go Go.RowKit Hd

/-- The least number of marks from `frm` on, of the first k, that has all of u. -/
def needN (u : Int → Bool) (frm : Int) : Nat → Int
  | 0 => 0
  | k + 1 => if u ((frm + k) % 256) then k + 1 else needN u frm k
theorem need_range (u : Int → Bool) (frm : Int) (k : Nat) : 0 ≤ needN u frm k ∧ needN u frm k ≤ k := by
  induction k with
  | zero => exact ⟨Int.le_refl _, Int.le_refl _⟩
  | succ k ih => unfold needN; split <;> omega
theorem need_ge {u : Int → Bool} {frm : Int} {k : Nat} {i : Int} (h0 : 0 ≤ i) (h1 : i < k) (hu : u ((frm + i) % 256) = true) : i + 1 ≤ needN u frm k := by
  induction k with
  | zero => omega
  | succ k ih =>
    unfold needN
    by_cases he : i = k
    · subst he; rw [if_pos hu]; omega
    · have := ih (by omega)
      have := (need_range u frm k).2
      split <;> omega
theorem need_at (u : Int → Bool) (frm : Int) (k : Nat) : needN u frm k = 0 ∨ ∃ i : Int, 0 ≤ i ∧ i < k ∧ u ((frm + i) % 256) = true ∧ needN u frm k = i + 1 := by
  induction k with
  | zero => exact .inl rfl
  | succ k ih =>
    unfold needN
    by_cases hu : u ((frm + k) % 256) = true
    · rw [if_pos hu]; exact .inr ⟨k, by omega, by omega, hu, rfl⟩
    · rw [if_neg hu]
      rcases ih with h | ⟨i, h0, h1, h2, h3⟩
      · exact .inl h
      · exact .inr ⟨i, h0, by omega, h2, h3⟩
/-- What the search from 255 down has found after k steps. -/
def best (u : Int → Bool) : Nat → Int × Int
  | 0 => (0, 256)
  | k + 1 => if needN u (255 - k) 256 < 256 ∧ needN u (255 - k) 256 ≤ (best u k).2 then (255 - k, needN u (255 - k) 256) else best u k
structure BestAt (u : Int → Bool) (k : Nat) (F N : Int) : Prop where
  le : N ≤ 256
  full : N = 256 → F = 0
  at_ : N < 256 → 255 - k < F ∧ F ≤ 255 ∧ needN u F 256 = N
  min : ∀ frm : Int, 255 - k < frm → frm ≤ 255 → needN u frm 256 < 256 → N < needN u frm 256 ∨ N = needN u frm 256 ∧ F ≤ frm
theorem best_at (u : Int → Bool) (k : Nat) : BestAt u k (best u k).1 (best u k).2 := by
  induction k with
  | zero => exact ⟨Int.le_refl _, fun _ => rfl, fun h => absurd h (by show ¬ (256 : Int) < 256; decide), fun frm h1 h2 => by omega⟩
  | succ k ih =>
    have h1 := ih.le
    have h2 := ih.full
    have h3 := ih.at_
    have h4 := ih.min
    unfold best
    by_cases hc : needN u (255 - k) 256 < 256 ∧ needN u (255 - k) 256 ≤ (best u k).2
    · rw [if_pos hc]
      refine ⟨by show needN u (255 - k) 256 ≤ 256; omega, fun h => ?_, fun _ => ⟨by show 255 - ((k + 1 : Nat) : Int) < 255 - k; omega, by show (255 : Int) - k ≤ 255; omega, rfl⟩, fun frm f1 f2 f3 => ?_⟩
      · exfalso; change needN u (255 - k) 256 = 256 at h; omega
      · show needN u (255 - k) 256 < needN u frm 256 ∨ needN u (255 - k) 256 = needN u frm 256 ∧ 255 - (k : Int) ≤ frm
        by_cases he : frm = 255 - k
        · subst he; omega
        · have := h4 frm (by omega) f2 f3; omega
    · rw [if_neg hc]
      refine ⟨h1, h2, fun h => ?_, fun frm f1 f2 f3 => ?_⟩
      · have := h3 h; omega
      · by_cases he : frm = 255 - k
        · subst he; omega
        · exact h4 frm (by omega) f2 f3

/-- The marks of one of two arcs. -/
def uni (f c g d : Int) (i : Int) : Bool := hasB f c i || hasB g d i
theorem uni_iff {f c g d i : Int} : uni f c g d i = true ↔ (i - f) % 256 < c ∨ (i - g) % 256 < d := by
  unfold uni hasB; simp
theorem need_start {f c g d : Int} (ha : OkA f c) (hb : OkA g d) : needN (uni f c g d) f 256 = covC f c g d := by
  have a0 := ha.f0; have a1 := ha.f1; have a2 := ha.c0; have a3 := ha.c1
  have b0 := hb.f0; have b1 := hb.f1; have b2 := hb.c0; have b3 := hb.c1
  have hr := need_range (uni f c g d) f 256
  obtain ⟨t, ht⟩ : ∃ t, (g - f) % 256 = t := ⟨_, rfl⟩
  have hre : reach f c g d = max c (t + d) := by unfold reach; rw [ht]
  unfold covC
  by_cases hc : 256 ≤ reach f c g d
  · rw [if_pos hc]
    have := need_ge (u := uni f c g d) (frm := f) (k := 256) (i := 255) (by omega) (by omega) (uni_iff.2 (by omega))
    omega
  · rw [if_neg hc]
    have hlo : reach f c g d ≤ needN (uni f c g d) f 256 := by
      by_cases h1 : t + d ≤ c
      · have := need_ge (u := uni f c g d) (frm := f) (k := 256) (i := c - 1) (by omega) (by omega) (uni_iff.2 (by omega))
        omega
      · have := need_ge (u := uni f c g d) (frm := f) (k := 256) (i := t + d - 1) (by omega) (by omega) (uni_iff.2 (by omega))
        omega
    have hhi : needN (uni f c g d) f 256 ≤ reach f c g d := by
      rcases need_at (uni f c g d) f 256 with h | ⟨i, i0, i1, i2, i3⟩
      · omega
      · have := uni_iff.1 i2
        omega
    omega
theorem uni_comm (f c g d : Int) : uni f c g d = uni g d f c := funext fun i => by unfold uni; exact Bool.or_comm _ _

/-- The search finds the hull. -/
theorem best_hull {f c g d : Int} (ha : OkA f c) (hb : OkA g d) : best (uni f c g d) 256 = (hullF f c g d, hullC f c g d) := by
  have a0 := ha.f0; have a1 := ha.f1; have a2 := ha.c0; have a3 := ha.c1
  have b0 := hb.f0; have b1 := hb.f1; have b2 := hb.c0; have b3 := hb.c1
  have hB := best_at (uni f c g d) 256
  have nf := need_start ha hb
  have ng := need_start hb ha
  rw [← uni_comm] at ng
  have mf := hB.min f (by omega) (by omega)
  have mg := hB.min g (by omega) (by omega)
  have hle := hB.le
  have hfu := hB.full
  have hat := hB.at_
  have hmin := hB.min
  have hcf : covF f c g d = if 256 ≤ reach f c g d then 0 else f := rfl
  have hcg : covF g d f c = if 256 ≤ reach g d f c then 0 else g := rfl
  have kf : covC f c g d = if 256 ≤ reach f c g d then 256 else reach f c g d := rfl
  have kg : covC g d f c = if 256 ≤ reach g d f c then 256 else reach g d f c := rfl
  rw [nf] at mf
  rw [ng] at mg
  generalize hF : (best (uni f c g d) 256).1 = F at *
  generalize hN : (best (uni f c g d) 256).2 = N at *
  have hpair : best (uni f c g d) 256 = (F, N) := by rw [← hF, ← hN]
  rw [hpair]
  -- where the least one begins
  have hstart : N < 256 → F = f ∨ F = g := by
    intro h
    obtain ⟨F0, F1, FN⟩ := hat h
    have hpos := need_ge (u := uni f c g d) (frm := F) (k := 256) (i := (f - F) % 256) (by omega) (by omega) (uni_iff.2 (by omega))
    by_cases hu : uni f c g d F = true
    · by_cases hv : uni f c g d ((F + 255) % 256) = true
      · have := need_ge (u := uni f c g d) (frm := F) (k := 256) (i := 255) (by omega) (by omega) hv
        omega
      · have h1 := uni_iff.1 hu
        have h2 : ¬ (((F + 255) % 256 - f) % 256 < c ∨ ((F + 255) % 256 - g) % 256 < d) := fun e => hv (uni_iff.2 e)
        omega
    · exfalso
      have h2 : ¬ ((F - f) % 256 < c ∨ (F - g) % 256 < d) := fun e => hu (uni_iff.2 e)
      have hlt : needN (uni f c g d) ((F + 1) % 256) 256 < N := by
        rcases need_at (uni f c g d) ((F + 1) % 256) 256 with h0 | ⟨i, i0, i1, i2, i3⟩
        · omega
        · have h3 := uni_iff.1 i2
          by_cases he : i = 255
          · subst he; omega
          · have := need_ge (u := uni f c g d) (frm := F) (k := 256) (i := i + 1) (by omega) (by omega) (uni_iff.2 (by omega))
            omega
      have := hmin ((F + 1) % 256) (by omega) (by omega) (by omega)
      omega
  have hswap : hullSwap f c g d ↔ (covC g d f c < covC f c g d ∨ covC g d f c = covC f c g d ∧ covF g d f c < covF f c g d) := Iff.rfl
  unfold hullF hullC
  by_cases hs : hullSwap f c g d
  · rw [if_pos hs, if_pos hs]
    have hs2 := hswap.1 hs
    rw [hcf, hcg] at hs2
    rw [hcg]
    by_cases h256 : N < 256
    · have hst := hstart h256
      have hFN := (hat h256).2.2
      rcases hst with rfl | rfl
      · rw [nf] at hFN
        have : F = if 256 ≤ reach g d F c then 0 else g := by split at hs2 <;> split at hs2 <;> (try split) <;> (try split at kf) <;> (try split at kg) <;> omega
        have h2 : N = covC g d F c := by split at hs2 <;> split at hs2 <;> (try split at kf) <;> (try split at kg) <;> omega
        rw [← this, h2]
      · rw [ng] at hFN
        have : F = if 256 ≤ reach F d f c then 0 else F := by split <;> (try split at kf) <;> (try split at kg) <;> omega
        rw [← this, hFN]
    · exfalso
      have e : N = 256 := by omega
      split at kf <;> split at kg <;> (try split at hs2) <;> (try split at hs2) <;> omega
  · rw [if_neg hs, if_neg hs]
    have hs2 : ¬ (covC g d f c < covC f c g d ∨ covC g d f c = covC f c g d ∧ covF g d f c < covF f c g d) := fun e => hs (hswap.2 e)
    rw [hcf, hcg] at hs2
    rw [hcf]
    by_cases h256 : N < 256
    · have hst := hstart h256
      have hFN := (hat h256).2.2
      rcases hst with rfl | rfl
      · rw [nf] at hFN
        have : F = if 256 ≤ reach F c g d then 0 else F := by split <;> (try split at kf) <;> (try split at kg) <;> omega
        rw [← this, hFN]
      · rw [ng] at hFN
        have h3 : F = (if 256 ≤ reach f c F d then 0 else f) ∧ N = covC f c F d := by
          split at kf <;> split at kg <;> (try split at hs2) <;> (try split at hs2) <;> (try split) <;> omega
        rw [← h3.1, h3.2]
    · have e : N = 256 := by omega
      have := hfu e
      have h3 : F = (if 256 ≤ reach f c g d then 0 else f) ∧ N = covC f c g d := by
        split at kf <;> (try split) <;> omega
      rw [← h3.1, h3.2]
theorem cov_has {f c g d m : Int} (ha : OkA f c) (hb : OkA g d) (h : uni f c g d m = true) : hasB (covF f c g d) (covC f c g d) m = true := by
  have a0 := ha.f0; have a1 := ha.f1; have a2 := ha.c0; have a3 := ha.c1
  have b0 := hb.f0; have b1 := hb.f1; have b2 := hb.c0; have b3 := hb.c1
  have hu := uni_iff.1 h
  obtain ⟨t, ht⟩ : ∃ t, (g - f) % 256 = t := ⟨_, rfl⟩
  have hre : reach f c g d = max c (t + d) := by unfold reach; rw [ht]
  unfold covF covC hasB
  by_cases hc : 256 ≤ reach f c g d
  · rw [if_pos hc, if_pos hc]; exact decide_eq_true (by omega)
  · rw [if_neg hc, if_neg hc]; exact decide_eq_true (by omega)
theorem hull_has {f c g d m : Int} (ha : OkA f c) (hb : OkA g d) (h : hasB (hullF f c g d) (hullC f c g d) m = false) : hasB f c m = false ∧ hasB g d m = false := by
  have h1 := cov_has (m := m) ha hb
  have h2 := cov_has (m := m) hb ha
  rw [← uni_comm] at h2
  have h3 : uni f c g d m = false := by
    rcases hu : uni f c g d m with _ | _
    · rfl
    · unfold hullF hullC at h
      split at h
      · rw [h2 hu] at h; exact absurd h (by decide)
      · rw [h1 hu] at h; exact absurd h (by decide)
  unfold uni at h3
  simpa using h3
theorem hull_ok {f c g d : Int} (ha : OkA f c) (hb : OkA g d) : OkA (hullF f c g d) (hullC f c g d) := by
  have cv : ∀ {f c g d : Int}, OkA f c → OkA g d → OkA (covF f c g d) (covC f c g d) := fun {f c g d} ha hb => by
    have := hb.c0
    unfold covF covC reach OkA at *
    split <;> omega
  unfold hullF hullC
  split
  · exact cv hb ha
  · exact cv ha hb
end Go.Proofs.Ytjpdahalplkfbaa
