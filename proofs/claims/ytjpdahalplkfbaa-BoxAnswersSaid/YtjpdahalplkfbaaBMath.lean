/- Plain mathematics: hulls of boxes contain them, do not depend on their order; a box in a box. -/
import Derived.Test.YtjpdahalplkfbaaB5
set_option linter.unusedVariables false
namespace Go.Proofs.Ytjpdahalplkfbaa
open Go Go.RowKit Hd

theorem hull_comm {f c g d : Int} : hullF f c g d = hullF g d f c ∧ hullC f c g d = hullC g d f c := by
  unfold hullF hullC
  by_cases h1 : hullSwap f c g d <;> by_cases h2 : hullSwap g d f c <;> simp only [h1, h2, if_true, if_false] <;> unfold hullSwap at h1 h2 <;> first | exact ⟨trivial, trivial⟩ | omega
theorem cov_eq (f c g d : Int) : (256 ≤ c ∨ 256 ≤ (g - f) % 256 + d) ∧ covF f c g d = 0 ∧ covC f c g d = 256 ∨ (c < 256 ∧ (g - f) % 256 + d < 256) ∧ covF f c g d = f ∧ covC f c g d = (if c < (g - f) % 256 + d then (g - f) % 256 + d else c) := by
  unfold covF covC reach
  generalize (g - f) % 256 + d = n
  by_cases h : 256 ≤ max c n
  · rw [if_pos h, if_pos h]; left; omega
  · rw [if_neg h, if_neg h]; right; refine ⟨by omega, rfl, ?_⟩; split <;> omega
theorem hull_eq (f c g d : Int) : (hullF f c g d = covF f c g d ∧ hullC f c g d = covC f c g d ∧ (covC f c g d < covC g d f c ∨ covC f c g d = covC g d f c ∧ covF f c g d ≤ covF g d f c)) ∨ (hullF f c g d = covF g d f c ∧ hullC f c g d = covC g d f c ∧ (covC g d f c < covC f c g d ∨ covC g d f c = covC f c g d ∧ covF g d f c < covF f c g d)) := by
  unfold hullF hullC
  by_cases h1 : hullSwap f c g d
  · rw [if_pos h1, if_pos h1]; right; exact ⟨rfl, rfl, h1⟩
  · rw [if_neg h1, if_neg h1]; left; refine ⟨rfl, rfl, ?_⟩; unfold hullSwap at h1; omega
/-- The arc f, c lies in the arc g, d. -/
def arcIn (f c g d : Int) : Prop := d = 256 ∨ (f - g) % 256 + c ≤ d
theorem in_hull {f c g d : Int} (ha : OkA f c) (hb : OkA g d) : arcIn f c (hullF f c g d) (hullC f c g d) ∧ arcIn g d (hullF f c g d) (hullC f c g d) := by
  have a0 := ha.f0; have a1 := ha.f1; have a2 := ha.c0; have a3 := ha.c1; have a4 := ha.full
  have b0 := hb.f0; have b1 := hb.f1; have b2 := hb.c0; have b3 := hb.c1; have b4 := hb.full
  have h1 := cov_eq f c g d
  have h2 := cov_eq g d f c
  have h3 := hull_eq f c g d
  unfold arcIn
  generalize covF f c g d = p at *
  generalize covC f c g d = P at *
  generalize covF g d f c = q at *
  generalize covC g d f c = Q at *
  generalize hullF f c g d = F at *
  generalize hullC f c g d = C at *
  have k1 : (if c < (g - f) % 256 + d then (g - f) % 256 + d else c) = max c ((g - f) % 256 + d) := by split <;> omega
  have k2 : (if d < (f - g) % 256 + c then (f - g) % 256 + c else d) = max d ((f - g) % 256 + c) := by split <;> omega
  rw [k1] at h1; rw [k2] at h2
  clear k1 k2
  rcases h3 with ⟨rfl, rfl, -⟩ | ⟨rfl, rfl, -⟩
  · clear h2
    rcases h1 with ⟨-, rfl, rfl⟩ | ⟨-, rfl, h⟩
    · omega
    · rw [h]; constructor <;> right <;> omega
  · clear h1
    rcases h2 with ⟨-, rfl, rfl⟩ | ⟨-, rfl, h⟩
    · omega
    · rw [h]; constructor <;> right <;> omega
theorem in_iff {f c g d : Int} (ha : OkA f c) (hb : OkA g d) : (hullF f c g d = g ∧ hullC f c g d = d) ↔ arcIn f c g d := by
  constructor
  · rintro ⟨h1, h2⟩
    have := (in_hull ha hb).1
    rwa [h1, h2] at this
  · intro h
    have a0 := ha.f0; have a1 := ha.f1; have a2 := ha.c0; have a3 := ha.c1; have a4 := ha.full
    have b0 := hb.f0; have b1 := hb.f1; have b2 := hb.c0; have b3 := hb.c1; have b4 := hb.full
    have h1 := cov_eq f c g d
    have h2 := cov_eq g d f c
    have h3 := hull_eq f c g d
    unfold arcIn at h
    generalize covF f c g d = p at *
    generalize covC f c g d = P at *
    generalize covF g d f c = q at *
    generalize covC g d f c = Q at *
    generalize hullF f c g d = F at *
    generalize hullC f c g d = C at *
    have k1 : (if c < (g - f) % 256 + d then (g - f) % 256 + d else c) = max c ((g - f) % 256 + d) := by split <;> omega
    have k2 : (if d < (f - g) % 256 + c then (f - g) % 256 + c else d) = max d ((f - g) % 256 + c) := by split <;> omega
    rw [k1] at h1; rw [k2] at h2
    clear k1 k2
    by_cases hd : d = 256
    · have := b4 hd
      rcases h1 with ⟨-, rfl, rfl⟩ | ⟨h1, rfl, rfl⟩ <;> rcases h2 with ⟨-, rfl, rfl⟩ | ⟨h2, rfl, rfl⟩ <;> omega
    · have h : (f - g) % 256 + c ≤ d := by omega
      have e2 : q = g ∧ Q = d := by
        rcases h2 with ⟨h2, -, -⟩ | ⟨-, rfl, rfl⟩
        · omega
        · omega
      obtain ⟨rfl, rfl⟩ := e2
      clear h2
      rcases h1 with ⟨-, rfl, rfl⟩ | ⟨h1, rfl, rfl⟩ <;> omega
theorem arcIn_trans {f c g d k l : Int} (h1 : arcIn f c g d) (h2 : arcIn g d k l) (hb : d ≤ 256) (hl : l ≤ 256) (hc : c ≤ 256) (hc1 : 1 ≤ c) : arcIn f c k l := by
  unfold arcIn at *; omega
theorem arcIn_has {f c g d h : Int} (h1 : arcIn f c g d) (h2 : hasB f c h = true) (h3 : d ≤ 256) : hasB g d h = true := by
  unfold arcIn hasB at *
  simp only [decide_eq_true_eq] at *
  omega
theorem arcIn_refl (f c : Int) : arcIn f c f c := by unfold arcIn; omega
/-- The box of a hull is valid. -/
theorem hull_okB {x0 y0 x1 y1 f c u0 v0 u1 v1 g d : Int} (h : OkB x0 y0 x1 y1 f c ∧ OkB u0 v0 u1 v1 g d) : OkB (min x0 u0) (min y0 v0) (max x1 u1) (max y1 v1) (hullF f c g d) (hullC f c g d) := by
  have hx := h.1.b; have hy := h.2.b
  exact ⟨⟨by omega, by omega⟩, hull_ok h.1.a h.2.a⟩
theorem ins_iff {x0 y0 x1 y1 f c u0 v0 u1 v1 g d : Int} (h : OkB x0 y0 x1 y1 f c ∧ OkB u0 v0 u1 v1 g d) : insM x0 y0 x1 y1 f c u0 v0 u1 v1 g d ↔ (u0 ≤ x0 ∧ x1 ≤ u1 ∧ v0 ≤ y0 ∧ y1 ≤ v1) ∧ arcIn f c g d := by
  unfold insM; rw [in_iff h.1.a h.2.a]
theorem ins_hull1 {x0 y0 x1 y1 f c u0 v0 u1 v1 g d : Int} (h : OkB x0 y0 x1 y1 f c ∧ OkB u0 v0 u1 v1 g d) : InsP x0 y0 x1 y1 f c (min x0 u0) (min y0 v0) (max x1 u1) (max y1 v1) (hullF f c g d) (hullC f c g d) :=
  ⟨⟨h.1, hull_okB h⟩, (ins_iff ⟨h.1, hull_okB h⟩).2 ⟨by omega, (in_hull h.1.a h.2.a).1⟩⟩
theorem ins_hull2 {x0 y0 x1 y1 f c u0 v0 u1 v1 g d : Int} (h : OkB x0 y0 x1 y1 f c ∧ OkB u0 v0 u1 v1 g d) : InsP u0 v0 u1 v1 g d (min x0 u0) (min y0 v0) (max x1 u1) (max y1 v1) (hullF f c g d) (hullC f c g d) :=
  ⟨⟨h.2, hull_okB h⟩, (ins_iff ⟨h.2, hull_okB h⟩).2 ⟨by omega, (in_hull h.1.a h.2.a).2⟩⟩
theorem ins_has {x0 y0 x1 y1 f c u0 v0 u1 v1 g d x y h : Int} (i : InsP x0 y0 x1 y1 f c u0 v0 u1 v1 g d) (k : HasP x0 y0 x1 y1 f c x y h) : HasP u0 v0 u1 v1 g d x y h := by
  obtain ⟨⟨h1, h2⟩, i⟩ := i
  obtain ⟨j, ja⟩ := (ins_iff ⟨h1, h2⟩).1 i
  obtain ⟨-, k1, k2, k3, k4, k5⟩ := k
  exact ⟨h2, by omega, by omega, by omega, by omega, arcIn_has ja k5 h2.a.c1⟩
theorem ins_trans {x0 y0 x1 y1 f c u0 v0 u1 v1 g d p0 q0 p1 q1 k l : Int} (i : InsP x0 y0 x1 y1 f c u0 v0 u1 v1 g d) (j : InsP u0 v0 u1 v1 g d p0 q0 p1 q1 k l) : InsP x0 y0 x1 y1 f c p0 q0 p1 q1 k l := by
  obtain ⟨⟨h1, h2⟩, i⟩ := i
  obtain ⟨⟨-, h3⟩, j⟩ := j
  have i := (ins_iff ⟨h1, h2⟩).1 i
  have j := (ins_iff ⟨h2, h3⟩).1 j
  exact ⟨⟨h1, h3⟩, (ins_iff ⟨h1, h3⟩).2 ⟨by omega, arcIn_trans i.2 j.2 h2.a.c1 h3.a.c1 h1.a.c1 h1.a.c0⟩⟩
theorem ins_self {x0 y0 x1 y1 f c : Int} (h : OkB x0 y0 x1 y1 f c) : InsP x0 y0 x1 y1 f c x0 y0 x1 y1 f c :=
  ⟨⟨h, h⟩, (ins_iff ⟨h, h⟩).2 ⟨by omega, arcIn_refl f c⟩⟩
end Go.Proofs.Ytjpdahalplkfbaa
