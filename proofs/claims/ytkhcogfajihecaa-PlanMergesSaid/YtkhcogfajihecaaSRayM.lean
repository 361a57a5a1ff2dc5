/- Plain mathematics: what the distances of a ray mean. -/
import Derived.Test.YtkhcogfajihecaaSRay
namespace Go.Proofs.Ytkhcogfajihecaa
namespace Hd

/-- t/b is from i/j to o/u. -/
def InS (s : Sp) (t b : Int) : Prop := s.i * b ≤ t * s.j ∧ t * s.u ≤ s.o * b
structure Wf (s : Sp) : Prop where
  j1 : 1 ≤ s.j
  u0 : 0 ≤ s.u
  i0 : 0 ≤ s.i
  o1 : s.u = 0 → s.o = 1
  ne : s.i * s.u ≤ s.o * s.j
theorem mul_pos1 {a b : Int} (a1 : 1 ≤ a) (b1 : 1 ≤ b) : 1 ≤ a * b := by have := Int.mul_pos (show 0 < a by omega) (show 0 < b by omega); omega
theorem le_cancel {a b c : Int} (hc : 1 ≤ c) (h : a * c ≤ b * c) : a ≤ b := Int.le_of_mul_le_mul_right h (by omega)
theorem lt_cancel {a b c : Int} (hc : 1 ≤ c) (h : a * c < b * c) : a < b := Int.lt_of_mul_lt_mul_right h (by omega)
theorem mle {a b c : Int} (hc : 0 ≤ c) (h : a ≤ b) : a * c ≤ b * c := Int.mul_le_mul_of_nonneg_right h hc
theorem mlt {a b c : Int} (hc : 1 ≤ c) (h : a < b) : a * c < b * c := Int.mul_lt_mul_of_pos_right h (by omega)

theorem cutI_in {s : Sp} {X L t b : Int} (hj : 1 ≤ s.j) (hX : 1 ≤ X) (hb : 1 ≤ b) : InS (cutI s X L) t b ↔ InS s t b ∧ L * b ≤ t * X := by
  unfold cutI InS
  split <;> rename_i h
  · dsimp only
    constructor
    · rintro ⟨h1, h2⟩
      refine ⟨⟨?_, h2⟩, h1⟩
      have a1 := mle (show 0 ≤ s.j by omega) h1
      have a2 := mlt hb h
      exact le_cancel hX (by grind)
    · rintro ⟨⟨h1, h2⟩, h3⟩
      exact ⟨h3, h2⟩
  · constructor
    · rintro ⟨h1, h2⟩
      refine ⟨⟨h1, h2⟩, ?_⟩
      have a1 := mle (show 0 ≤ X by omega) h1
      have a2 := mle (show 0 ≤ b by omega) (show L * s.j ≤ s.i * X by omega)
      exact le_cancel hj (by grind)
    · rintro ⟨h1, h3⟩
      exact h1
theorem cutO_in {s : Sp} {X H t b : Int} (hu : 0 ≤ s.u) (ho : s.u = 0 → s.o = 1) (hX : 1 ≤ X) (hb : 1 ≤ b) : InS (cutO s X H) t b ↔ InS s t b ∧ t * X ≤ H * b := by
  unfold cutO InS
  split <;> rename_i h
  · dsimp only
    constructor
    · rintro ⟨h1, h2⟩
      refine ⟨⟨h1, ?_⟩, h2⟩
      have a1 := mle hu h2
      have a2 := mlt hb h
      exact le_cancel hX (by grind)
    · rintro ⟨⟨h1, h2⟩, h3⟩
      exact ⟨h1, h3⟩
  · constructor
    · rintro ⟨h1, h2⟩
      refine ⟨⟨h1, h2⟩, ?_⟩
      by_cases h0 : s.u = 0
      · rw [ho h0, h0] at h; omega
      have a1 := mle (show 0 ≤ X by omega) h2
      have a2 := mle (show 0 ≤ b by omega) (show s.o * X ≤ H * s.u by omega)
      exact le_cancel (c := s.u) (by omega) (by grind)
    · rintro ⟨h1, h3⟩
      exact h1
theorem in_ne {s : Sp} {t b : Int} (hj : 1 ≤ s.j) (hu : 0 ≤ s.u) (hb : 1 ≤ b) (h : InS s t b) : s.i * s.u ≤ s.o * s.j := by
  have a1 := mle hu h.1
  have a2 := mle (show 0 ≤ s.j by omega) h.2
  exact le_cancel hb (by grind)
theorem cutP_pre {s : Sp} {X L H : Int} (w : Wf s) (hX : 1 ≤ X) : 1 ≤ (cutP s X L H).j ∧ 0 ≤ (cutP s X L H).u ∧ 0 ≤ (cutP s X L H).i ∧ ((cutP s X L H).u = 0 → (cutP s X L H).o = 1) ∧ 1 ≤ (cutP s X L H).u := by
  obtain ⟨j1, u0, i0, o1, ne⟩ := w
  unfold cutP cutO cutI
  have key : s.i * X < L * s.j → 0 ≤ L := fun h => by
    rcases Int.lt_or_le L 0 with h1 | h1
    · have := Int.mul_nonneg i0 (show 0 ≤ X by omega)
      have := Int.mul_le_mul_of_nonneg_right (show L ≤ -1 by omega) (show 0 ≤ s.j by omega)
      omega
    · exact h1
  split <;> split <;> (try dsimp only at *) <;> rename_i h g <;> refine ⟨by omega, by omega, ?_, by first | exact o1 | (intro; omega), ?_⟩
  all_goals first
    | omega
    | exact i0
    | exact key h
    | exact key (by assumption)
    | skip
  all_goals
    (rcases Int.lt_or_le 0 s.u with h1 | h1
     · omega
     · exfalso
       have h0 : s.u = 0 := by omega
       have h2 := o1 h0
       rw [h0, h2, Int.mul_zero, Int.one_mul] at g
       omega)
theorem cutP_in {s : Sp} {X L H t b : Int} (w : Wf s) (hX : 1 ≤ X) (hb : 1 ≤ b) : InS (cutP s X L H) t b ↔ InS s t b ∧ L * b ≤ t * X ∧ t * X ≤ H * b := by
  unfold cutP
  rw [cutO_in (by unfold cutI; split <;> exact w.u0) (by unfold cutI; split <;> exact w.o1) hX hb, cutI_in w.j1 hX hb, and_assoc]
/-- What a cut leaves. -/
theorem cut_sem {s : Sp} (x lo hi : Int) (w : Wf s) :
    (cutB s x lo hi = true ∧ Wf (cutS s x lo hi) ∧ (x ≠ 0 ∨ 1 ≤ s.u → 1 ≤ (cutS s x lo hi).u) ∧ ∀ t b, 1 ≤ b → (InS (cutS s x lo hi) t b ↔ InS s t b ∧ lo * b ≤ t * x ∧ t * x ≤ hi * b)) ∨
    (cutB s x lo hi = false ∧ ∀ t b, 1 ≤ b → ¬ (InS s t b ∧ lo * b ≤ t * x ∧ t * x ≤ hi * b)) := by
  unfold cutB cutS
  by_cases h0 : x = 0
  · subst h0
    rw [if_pos rfl, if_pos rfl]
    by_cases h : lo ≤ 0 ∧ 0 ≤ hi
    · left
      refine ⟨decide_eq_true h, w, by omega, fun t b hb => ⟨fun g => ⟨g, ?_, ?_⟩, fun g => g.1⟩⟩
      · have := mle (show 0 ≤ b by omega) h.1; omega
      · have := mle (show 0 ≤ b by omega) h.2; omega
    · right
      refine ⟨decide_eq_false h, fun t b hb g => h ⟨?_, ?_⟩⟩
      · exact le_cancel hb (by have := g.2.1; omega)
      · exact le_cancel hb (by have := g.2.2; omega)
  · rw [if_neg h0, if_neg h0]
    have main : ∀ X L H : Int, 1 ≤ X → (∀ t b, (lo * b ≤ t * x ∧ t * x ≤ hi * b) ↔ (L * b ≤ t * X ∧ t * X ≤ H * b)) →
        (okS (cutP s X L H) = true ∧ Wf (cutP s X L H) ∧ (x ≠ 0 ∨ 1 ≤ s.u → 1 ≤ (cutP s X L H).u) ∧ ∀ t b, 1 ≤ b → (InS (cutP s X L H) t b ↔ InS s t b ∧ lo * b ≤ t * x ∧ t * x ≤ hi * b)) ∨
        (okS (cutP s X L H) = false ∧ ∀ t b, 1 ≤ b → ¬ (InS s t b ∧ lo * b ≤ t * x ∧ t * x ≤ hi * b)) := by
      intro X L H hX hh
      obtain ⟨q1, q2, q3, q4, q5⟩ := cutP_pre (L := L) (H := H) w hX
      unfold okS
      by_cases hk : (cutP s X L H).o * (cutP s X L H).j < (cutP s X L H).i * (cutP s X L H).u
      · right
        refine ⟨by rw [decide_eq_true hk]; rfl, fun t b hb g => ?_⟩
        have := in_ne q1 q2 hb ((cutP_in w hX hb).2 ⟨g.1, (hh t b).1 g.2⟩)
        omega
      · left
        refine ⟨by rw [decide_eq_false hk]; rfl, ⟨q1, q2, q3, q4, by omega⟩, fun _ => q5, fun t b hb => ?_⟩
        rw [cutP_in w hX hb, hh]
    by_cases hn : x < 0
    · rw [if_pos hn]
      exact main (-x) (-hi) (-lo) (by omega) (fun t b => by rw [Int.neg_mul, Int.neg_mul, Int.mul_neg]; omega)
    · rw [if_neg hn]
      exact main x lo hi (by omega) (fun t b => Iff.rfl)
/-- t/b along the ray lies in the rectangle. -/
def Hit (a b x y x0 y0 x1 y1 t m : Int) : Prop := 0 ≤ t ∧ ((x0 - a) * m ≤ t * x ∧ t * x ≤ (x1 - a) * m) ∧ ((y0 - b) * m ≤ t * y ∧ t * y ≤ (y1 - b) * m)
theorem s0_wf : Wf s0 := ⟨by decide, by decide, by decide, fun _ => rfl, by decide⟩
theorem pas_sem (a b x y x0 y0 x1 y1 : Int) :
    (pasB a b x y x0 y0 x1 y1 = true ∧ Wf (pasS a b x y x0 y0 x1 y1) ∧ (x ≠ 0 ∨ y ≠ 0 → 1 ≤ (pasS a b x y x0 y0 x1 y1).u) ∧ ∀ t m, 1 ≤ m → (InS (pasS a b x y x0 y0 x1 y1) t m ↔ Hit a b x y x0 y0 x1 y1 t m)) ∨
    (pasB a b x y x0 y0 x1 y1 = false ∧ ∀ t m, 1 ≤ m → ¬ Hit a b x y x0 y0 x1 y1 t m) := by
  unfold pasB pasS Hit
  have e0 : ∀ t m, 1 ≤ m → (InS s0 t m ↔ 0 ≤ t) := fun t m hm => by show (0 * m ≤ t * 1 ∧ t * 0 ≤ 1 * m) ↔ 0 ≤ t; omega
  rcases cut_sem x (x0 - a) (x1 - a) s0_wf with ⟨h1, w1, u1, i1⟩ | ⟨h1, i1⟩
  · rw [if_pos h1, h1]
    rcases cut_sem y (y0 - b) (y1 - b) w1 with ⟨h2, w2, u2, i2⟩ | ⟨h2, i2⟩
    · left
      refine ⟨by rw [h2]; rfl, w2, fun h => u2 ?_, fun t m hm => ?_⟩
      · rcases h with h | h
        · exact .inr (u1 (.inl h))
        · exact .inl h
      · rw [i2 t m hm, i1 t m hm, e0 t m hm, and_assoc]
    · right
      refine ⟨by rw [h2]; rfl, fun t m hm g => i2 t m hm ⟨(i1 t m hm).2 ⟨(e0 t m hm).2 g.1, g.2.1⟩, g.2.2⟩⟩
  · right
    exact ⟨by rw [h1]; rfl, fun t m hm g => i1 t m hm ⟨(e0 t m hm).2 g.1, g.2.1⟩⟩
/-- Two ranges with the same numbers have the same ends. -/
theorem ends_eq {s r : Sp} (ws : Wf s) (wr : Wf r) (us : 1 ≤ s.u) (ur : 1 ≤ r.u) (h : ∀ t m, 1 ≤ m → (InS s t m ↔ InS r t m)) : s.i * r.j = r.i * s.j ∧ s.o * r.u = r.o * s.u := by
  have a1 := (h s.i s.j ws.j1).1 ⟨Int.le_refl _, ws.ne⟩
  have a2 := (h r.i r.j wr.j1).2 ⟨Int.le_refl _, wr.ne⟩
  have b1 := (h s.o s.u us).1 ⟨ws.ne, Int.le_refl _⟩
  have b2 := (h r.o r.u ur).2 ⟨wr.ne, Int.le_refl _⟩
  exact ⟨Int.le_antisymm a2.1 a1.1, Int.le_antisymm b1.2 b2.2⟩
/-- Some number of the range lies between. -/
theorem meets_sem {s : Sp} {d lo hi : Int} (w : Wf s) (u1 : 1 ≤ s.u) (hd : 1 ≤ d) (hl : lo ≤ hi) :
    (∃ t m, 1 ≤ m ∧ InS s t m ∧ lo * m ≤ t * d ∧ t * d ≤ hi * m) ↔ ¬ hi * s.j < s.i * d ∧ ¬ s.o * d < lo * s.u := by
  have := w.j1
  constructor
  · rintro ⟨t, m, hm, ⟨h1, h2⟩, h3, h4⟩
    constructor
    · have a1 := mle (show 0 ≤ d by omega) h1
      have a2 := mle (show 0 ≤ s.j by omega) h4
      have : s.i * d ≤ hi * s.j := le_cancel hm (by grind)
      omega
    · have a1 := mle (show 0 ≤ d by omega) h2
      have a2 := mle (show 0 ≤ s.u by omega) h3
      have : lo * s.u ≤ s.o * d := le_cancel hm (by grind)
      omega
  · rintro ⟨h1, h2⟩
    by_cases h : lo * s.j ≤ s.i * d
    · exact ⟨s.i, s.j, w.j1, ⟨Int.le_refl _, w.ne⟩, h, by omega⟩
    · refine ⟨lo, d, hd, ⟨by omega, by omega⟩, Int.le_refl _, mle (by omega) hl⟩
theorem before_sem {s : Sp} {d hi : Int} (w : Wf s) (hd : 1 ≤ d) :
    (∃ t m, 1 ≤ m ∧ InS s t m ∧ t * d < hi * m) ↔ s.i * d < hi * s.j := by
  have := w.j1
  constructor
  · rintro ⟨t, m, hm, ⟨h1, h2⟩, h4⟩
    have a1 := mle (show 0 ≤ d by omega) h1
    have a2 := mlt w.j1 h4
    exact lt_cancel hm (by grind)
  · exact fun h => ⟨s.i, s.j, w.j1, ⟨Int.le_refl _, w.ne⟩, h⟩
end Hd
end Go.Proofs.Ytkhcogfajihecaa
