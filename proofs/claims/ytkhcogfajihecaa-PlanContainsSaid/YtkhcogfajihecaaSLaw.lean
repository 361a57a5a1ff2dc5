/- Plain mathematics: what moving, exchanging and taking differences change. -/
import Derived.Test.YtkhcogfajihecaaS10
set_option linter.unusedVariables false
namespace Go.Proofs.Ytkhcogfajihecaa
open Hd

theorem pas_shift {a b x y x0 y0 x1 y1 a' b' p0 q0 p1 q1 : Int} (h1 : p0 - a' = x0 - a) (h2 : p1 - a' = x1 - a) (h3 : q0 - b' = y0 - b) (h4 : q1 - b' = y1 - b) :
    pasB a' b' x y p0 q0 p1 q1 = pasB a b x y x0 y0 x1 y1 ∧ pasS a' b' x y p0 q0 p1 q1 = pasS a b x y x0 y0 x1 y1 := by
  unfold pasB pasS
  rw [h1, h2, h3, h4]
  exact ⟨rfl, rfl⟩
theorem vis_shift {a b x y d x0 y0 x1 y1 a' b' p0 q0 p1 q1 : Int} (h1 : p0 - a' = x0 - a) (h2 : p1 - a' = x1 - a) (h3 : q0 - b' = y0 - b) (h4 : q1 - b' = y1 - b)
    (hk : Ok3 a' b' x y d p0 q0 p1 q1 ↔ Ok3 a b x y d x0 y0 x1 y1) :
    visB a' b' x y d p0 q0 p1 q1 = visB a b x y d x0 y0 x1 y1 ∧ visS a' b' x y d p0 q0 p1 q1 = visS a b x y d x0 y0 x1 y1 := by
  obtain ⟨e1, e2⟩ := pas_shift (x := x) (y := y) h1 h2 h3 h4
  unfold visB visS
  rw [e1, e2]
  by_cases h : Ok3 a b x y d x0 y0 x1 y1
  · rw [if_pos h, if_pos (hk.2 h), decide_eq_true h, decide_eq_true (hk.2 h)]; exact ⟨rfl, rfl⟩
  · rw [if_neg h, if_neg (fun g => h (hk.1 g)), decide_eq_false h, decide_eq_false (fun g => h (hk.1 g))]; exact ⟨rfl, rfl⟩
/-- A moved ray enters a moved rectangle at the same distance. -/
theorem en_shift {a b x y d x0 y0 x1 y1 u v : Int} (p1 : -1048576 ≤ a) (p2 : a ≤ 1048576) (p3 : -1048576 ≤ b) (p4 : b ≤ 1048576) (r1 : -1048576 ≤ x0) (r2 : x0 ≤ 1048576) (r3 : -1048576 ≤ y0) (r4 : y0 ≤ 1048576) (r5 : -1048576 ≤ x1) (r6 : x1 ≤ 1048576) (r7 : -1048576 ≤ y1) (r8 : y1 ≤ 1048576) (u1 : -32768 ≤ u) (u2 : u ≤ 32767) (v1 : -32768 ≤ v) (v2 : v ≤ 32767) :
    enN (a + u) (b + v) x y d (x0 + u) (y0 + v) (x1 + u) (y1 + v) = enN a b x y d x0 y0 x1 y1 ∧ enD (a + u) (b + v) x y d (x0 + u) (y0 + v) (x1 + u) (y1 + v) = enD a b x y d x0 y0 x1 y1 ∧ visB (a + u) (b + v) x y d (x0 + u) (y0 + v) (x1 + u) (y1 + v) = visB a b x y d x0 y0 x1 y1 := by
  have hk : Ok3 (a + u) (b + v) x y d (x0 + u) (y0 + v) (x1 + u) (y1 + v) ↔ Ok3 a b x y d x0 y0 x1 y1 := by
    constructor
    · rintro ⟨-, hv, r⟩
      have := r.hx; have := r.hy
      exact ⟨⟨by omega, by omega, by omega, by omega⟩, hv, ⟨by omega, by omega, by omega, by omega, by omega, by omega, by omega, by omega, by omega, by omega⟩⟩
    · rintro ⟨-, hv, r⟩
      have := r.hx; have := r.hy
      exact ⟨⟨by omega, by omega, by omega, by omega⟩, hv, ⟨by omega, by omega, by omega, by omega, by omega, by omega, by omega, by omega, by omega, by omega⟩⟩
  obtain ⟨e1, e2⟩ := vis_shift (d := d) (x := x) (y := y) (a := a) (b := b) (x0 := x0) (y0 := y0) (x1 := x1) (y1 := y1) (by omega) (by omega) (by omega) (by omega) hk
  unfold enN enD
  rw [e1, e2]
  exact ⟨rfl, rfl, rfl⟩
/-- The coordinates exchanged. -/
theorem en_swap (a b x y d x0 y0 x1 y1 : Int) : enN b a y x d y0 x0 y1 x1 = enN a b x y d x0 y0 x1 y1 ∧ enD b a y x d y0 x0 y1 x1 = enD a b x y d x0 y0 x1 y1 ∧ visB b a y x d y0 x0 y1 x1 = visB a b x y d x0 y0 x1 y1 := by
  have key : ∀ a b x y x0 y0 x1 y1 : Int, Ok3 a b x y d x0 y0 x1 y1 → Ok3 b a y x d y0 x0 y1 x1 := by
    rintro a b x y x0 y0 x1 y1 ⟨p, v, r⟩
    exact ⟨⟨p.y1, p.y2, p.x1, p.x2⟩, ⟨v.lo, v.hi, by rw [Int.add_comm]; exact v.eq⟩, ⟨r.b1, r.b2, r.a1, r.a2, r.d1, r.d2, r.c1, r.c2, r.hy, r.hx⟩⟩
  by_cases hk : Ok3 a b x y d x0 y0 x1 y1
  · have hk2 := key _ _ _ _ _ _ _ _ hk
    have hh : ∀ t m, Hit b a y x y0 x0 y1 x1 t m ↔ Hit a b x y x0 y0 x1 y1 t m := fun t m => by unfold Hit; exact ⟨fun ⟨h1, h2, h3⟩ => ⟨h1, h3, h2⟩, fun ⟨h1, h2, h3⟩ => ⟨h1, h3, h2⟩⟩
    rcases h1 : visB a b x y d x0 y0 x1 y1 with _ | _ <;> rcases h2 : visB b a y x d y0 x0 y1 x1 with _ | _
    · unfold enN enD; rw [if_neg (by first | (rw [h1]; decide) | (rw [h2]; decide)), if_neg (by first | (rw [h1]; decide) | (rw [h2]; decide)), if_neg (by first | (rw [h1]; decide) | (rw [h2]; decide)), if_neg (by first | (rw [h1]; decide) | (rw [h2]; decide))]; exact ⟨rfl, rfl, rfl⟩
    · obtain ⟨-, w, u, i⟩ := visB_wf h2
      exact absurd ((hh _ _).1 ((i _ _ w.j1).1 ⟨Int.le_refl _, w.ne⟩)) (visB_no hk h1 _ _ w.j1)
    · obtain ⟨-, w, u, i⟩ := visB_wf h1
      exact absurd ((hh _ _).2 ((i _ _ w.j1).1 ⟨Int.le_refl _, w.ne⟩)) (visB_no hk2 h2 _ _ w.j1)
    · obtain ⟨-, w1, u1, i1⟩ := visB_wf h1
      obtain ⟨-, w2, u2, i2⟩ := visB_wf h2
      obtain ⟨q1, q2⟩ := ends_eq w2 w1 u2 u1 (fun t m hm => (i2 t m hm).trans ((hh t m).trans (i1 t m hm).symm))
      have e := lw_eq w2.j1 w1.j1 (show (visS b a y x d y0 x0 y1 x1).i * d * (visS a b x y d x0 y0 x1 y1).j = (visS a b x y d x0 y0 x1 y1).i * d * (visS b a y x d y0 x0 y1 x1).j by grind)
      unfold enN enD
      rw [if_pos h1, if_pos h2, if_pos h1, if_pos h2]
      exact ⟨e.1, e.2, rfl⟩
  · have hk2 : ¬ Ok3 b a y x d y0 x0 y1 x1 := fun h => hk (key _ _ _ _ _ _ _ _ h)
    have h1 : visB a b x y d x0 y0 x1 y1 = false := by unfold visB; rw [decide_eq_false hk]; rfl
    have h2 : visB b a y x d y0 x0 y1 x1 = false := by unfold visB; rw [decide_eq_false hk2]; rfl
    unfold enN enD; rw [if_neg (by first | (rw [h1]; decide) | (rw [h2]; decide)), if_neg (by first | (rw [h1]; decide) | (rw [h2]; decide)), if_neg (by first | (rw [h1]; decide) | (rw [h2]; decide)), if_neg (by first | (rw [h1]; decide) | (rw [h2]; decide)), h1, h2]; exact ⟨rfl, rfl, rfl⟩
theorem gap_swap (a b x0 y0 x1 y1 : Int) : gapM b a y0 x0 y1 x1 = gapM a b x0 y0 x1 y1 := by unfold gapM; exact Int.add_comm _ _
/-- The ray from a point, and the one from the origin against the difference. -/
theorem me_point {a b x y d lo hi x0 y0 x1 y1 : Int} (hp : OkP a b) (hq : OkR x0 y0 x1 y1) (hm : OkR (x0 - a) (y0 - b) (x1 - a) (y1 - b)) :
    meB 0 0 x y d lo hi (x0 - a) (y0 - b) (x1 - a) (y1 - b) = meB a b x y d lo hi x0 y0 x1 y1 ∧ beB 0 0 x y d hi (x0 - a) (y0 - b) (x1 - a) (y1 - b) = beB a b x y d hi x0 y0 x1 y1 := by
  have hk : Ok3 0 0 x y d (x0 - a) (y0 - b) (x1 - a) (y1 - b) ↔ Ok3 a b x y d x0 y0 x1 y1 :=
    ⟨fun h => ⟨hp, h.2.1, hq⟩, fun h => ⟨⟨by omega, by omega, by omega, by omega⟩, h.2.1, hm⟩⟩
  obtain ⟨e1, e2⟩ := vis_shift (d := d) (x := x) (y := y) (a := a) (b := b) (x0 := x0) (y0 := y0) (x1 := x1) (y1 := y1) (a' := 0) (b' := 0) (by omega) (by omega) (by omega) (by omega) hk
  unfold meB beB
  rw [e1, e2]
  exact ⟨rfl, rfl⟩
/-- Meets, said of the points of the ray. -/
theorem me_iff {a b x y d lo hi x0 y0 x1 y1 : Int} : meB a b x y d lo hi x0 y0 x1 y1 = true ↔ (0 ≤ lo ∧ lo ≤ hi ∧ hi ≤ 65536) ∧ Ok3 a b x y d x0 y0 x1 y1 ∧ ∃ t m, 1 ≤ m ∧ Hit a b x y x0 y0 x1 y1 t m ∧ lo * m ≤ t * d ∧ t * d ≤ hi * m := by
  unfold meB
  rw [Bool.and_eq_true, decide_eq_true_eq, Bool.and_eq_true, Bool.and_eq_true]
  constructor
  · rintro ⟨hr, hv, h1, h2⟩
    obtain ⟨hk, w, u, i⟩ := visB_wf hv
    rw [Bool.not_eq_true', decide_eq_false_iff_not] at h1 h2
    obtain ⟨t, m, hm, g1, g2, g3⟩ := (meets_sem w u hk.2.1.lo hr.2.1).2 ⟨h1, h2⟩
    exact ⟨hr, hk, t, m, hm, (i t m hm).1 g1, g2, g3⟩
  · rintro ⟨hr, hk, t, m, hm, g1, g2, g3⟩
    rcases hv : visB a b x y d x0 y0 x1 y1 with _ | _
    · exact absurd g1 (visB_no hk hv t m hm)
    · obtain ⟨-, w, u, i⟩ := visB_wf hv
      obtain ⟨h1, h2⟩ := (meets_sem w u hk.2.1.lo hr.2.1).1 ⟨t, m, hm, (i t m hm).2 g1, g2, g3⟩
      refine ⟨hr, rfl, ?_, ?_⟩
      · rw [Bool.not_eq_true', decide_eq_false_iff_not]; exact h1
      · rw [Bool.not_eq_true', decide_eq_false_iff_not]; exact h2
/-- The difference has in it what the rays from points of the other rectangle meet. -/
theorem me_minus {a b x y d lo hi q0 q1 q2 q3 r0 r1 r2 r3 : Int} (ha : r0 ≤ a ∧ a ≤ r2) (hb : r1 ≤ b ∧ b ≤ r3) (hm : OkR (q0 - r2) (q1 - r3) (q2 - r0) (q3 - r1)) (h : meB a b x y d lo hi q0 q1 q2 q3 = true) :
    meB 0 0 x y d lo hi (q0 - r2) (q1 - r3) (q2 - r0) (q3 - r1) = true := by
  rw [me_iff] at h ⊢
  obtain ⟨hr, hk, t, m, hm1, ⟨g0, ⟨g1, g2⟩, g3, g4⟩, g5⟩ := h
  refine ⟨hr, ⟨⟨by omega, by omega, by omega, by omega⟩, hk.2.1, hm⟩, t, m, hm1, ⟨g0, ⟨?_, ?_⟩, ?_, ?_⟩, g5⟩
  · have := mle (show 0 ≤ m by omega) (show q0 - r2 - 0 ≤ q0 - a by omega); omega
  · have := mle (show 0 ≤ m by omega) (show q2 - a ≤ q2 - r0 - 0 by omega); omega
  · have := mle (show 0 ≤ m by omega) (show q1 - r3 - 0 ≤ q1 - b by omega); omega
  · have := mle (show 0 ≤ m by omega) (show q3 - b ≤ q3 - r1 - 0 by omega); omega
end Go.Proofs.Ytkhcogfajihecaa
