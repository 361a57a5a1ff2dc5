/- Plain mathematics: the halves of a box. -/
import Derived.Test.YtjpdahalplkfbaaBMath
import Derived.Test.YtjpdahalplkfbaaBMeet
import Derived.Test.YtjpdahalplkfbaaBSpl
set_option linter.unusedVariables false
namespace Go.Proofs.Ytjpdahalplkfbaa
open Go Go.RowKit Hd

/-- The boxes a0 .. and d0 .. are halves of the box x0 .. -/
structure Halv (x0 y0 x1 y1 f c a0 a1 a2 a3 a4 a5 d0 d1 d2 d3 d4 d5 : Int) : Prop where
  ob : OkB x0 y0 x1 y1 f c
  oc : OkB a0 a1 a2 a3 a4 a5
  od : OkB d0 d1 d2 d3 d4 d5
  vb : 1 < volI x0 y0 x1 y1 f c
  vol : volI a0 a1 a2 a3 a4 a5 + volI d0 d1 d2 d3 d4 d5 = volI x0 y0 x1 y1 f c
  ic : InsP a0 a1 a2 a3 a4 a5 x0 y0 x1 y1 f c
  id : InsP d0 d1 d2 d3 d4 d5 x0 y0 x1 y1 f c
  no : meetLL a0 a1 a2 a3 a4 a5 d0 d1 d2 d3 d4 d5 = []
  has : ∀ x y h, HasP x0 y0 x1 y1 f c x y h ↔ HasP a0 a1 a2 a3 a4 a5 x y h ∨ HasP d0 d1 d2 d3 d4 d5 x y h
  non : ∀ x y h, HasP a0 a1 a2 a3 a4 a5 x y h → HasP d0 d1 d2 d3 d4 d5 x y h → False
theorem vol_one {x0 y0 x1 y1 f c : Int} (b : OkB x0 y0 x1 y1 f c) (h : ¬ oneP x0 y0 x1 y1 c) : 1 < volI x0 y0 x1 y1 f c := by
  unfold volI volM; rw [if_pos b]
  have hb := b.b
  have m := vol_mid b.x b.y
  have h1 : x1 - x0 + 1 = 1 ∨ 2 ≤ x1 - x0 + 1 := by omega
  have h2 : y1 - y0 + 1 = 1 ∨ 2 ≤ y1 - y0 + 1 := by omega
  by_cases hc : 2 ≤ c
  · have := Int.mul_le_mul m.1 hc (by omega) (show (0 : Int) ≤ (x1 - x0 + 1) * (y1 - y0 + 1) by omega); omega
  · obtain rfl : c = 1 := by omega
    rw [Int.mul_one]
    have k : 2 ≤ x1 - x0 + 1 ∨ 2 ≤ y1 - y0 + 1 := by
      by_cases e : x0 = x1 <;> by_cases e2 : y0 = y1
      · exact absurd ⟨e, e2, rfl⟩ h
      all_goals omega
    have hx : 1 ≤ x1 - x0 + 1 := by omega
    have hy : 1 ≤ y1 - y0 + 1 := by omega
    rcases k with k | k
    · have := Int.mul_le_mul k hy (by omega) (show (0 : Int) ≤ x1 - x0 + 1 by omega); omega
    · have := Int.mul_le_mul hx k (by omega) (show (0 : Int) ≤ x1 - x0 + 1 by omega); omega
theorem one_vol {x0 y0 x1 y1 f c : Int} (b : OkB x0 y0 x1 y1 f c) (h : oneP x0 y0 x1 y1 c) : volI x0 y0 x1 y1 f c = 1 := by
  obtain ⟨rfl, rfl, rfl⟩ := h
  unfold volI volM; rw [if_pos b]; simp
theorem vol_x {x0 m x1 n c : Int} : (m - 1 - x0 + 1) * n * c + (x1 - m + 1) * n * c = (x1 - x0 + 1) * n * c := by
  rw [← Int.add_mul, ← Int.add_mul]; congr 2; omega
theorem vol_y {y0 m y1 n c : Int} : n * (m - 1 - y0 + 1) * c + n * (y1 - m + 1) * c = n * (y1 - y0 + 1) * c := by
  rw [← Int.add_mul, ← Int.mul_add]; congr 2; omega
theorem vol_h {n a c : Int} : n * a + n * (c - a) = n * c := by rw [← Int.mul_add]; congr 1; omega
theorem hasM_iff {x0 y0 x1 y1 f c x y h : Int} (b : OkB x0 y0 x1 y1 f c) : HasP x0 y0 x1 y1 f c x y h ↔ x0 ≤ x ∧ x ≤ x1 ∧ y0 ≤ y ∧ y ≤ y1 ∧ (h - f) % 256 < c := by
  unfold HasP hasM hasB; simp only [decide_eq_true_eq]; exact ⟨fun k => k.2, fun k => ⟨b, k⟩⟩
theorem halv_x {x0 y0 x1 y1 f c : Int} (b : OkB x0 y0 x1 y1 f c) (h1 : ¬ oneP x0 y0 x1 y1 c) (h2 : spX x0 y0 x1 y1 c) : Halv x0 y0 x1 y1 f c x0 y0 (x0 + (x1 - x0 + 1) / 2 - 1) y1 f c (x0 + (x1 - x0 + 1) / 2) y0 x1 y1 f c := by
  have hb := b.b
  obtain ⟨m, hm⟩ : ∃ m, x0 + (x1 - x0 + 1) / 2 = m := ⟨_, rfl⟩
  rw [hm]
  have hx := h2.1
  have m1 : x0 < m := by omega
  have m2 : m ≤ x1 := by omega
  have oc : OkB x0 y0 (m - 1) y1 f c := ⟨⟨by omega, by omega⟩, b.a⟩
  have od : OkB m y0 x1 y1 f c := ⟨⟨by omega, by omega⟩, b.a⟩
  refine ⟨b, oc, od, vol_one b h1, ?_, ⟨⟨oc, b⟩, (ins_iff ⟨oc, b⟩).2 ⟨by omega, arcIn_refl f c⟩⟩, ⟨⟨od, b⟩, (ins_iff ⟨od, b⟩).2 ⟨by omega, arcIn_refl f c⟩⟩, ?_, fun x y h => ?_, fun x y h k1 k2 => ?_⟩
  · unfold volI volM; rw [if_pos b, if_pos oc, if_pos od]; exact vol_x
  · unfold meetLL meetL; rw [if_pos ⟨oc, od⟩, if_neg (by omega)]
  · rw [hasM_iff b, hasM_iff oc, hasM_iff od]; omega
  · rw [hasM_iff oc] at k1; rw [hasM_iff od] at k2; omega
theorem halv_y {x0 y0 x1 y1 f c : Int} (b : OkB x0 y0 x1 y1 f c) (h1 : ¬ oneP x0 y0 x1 y1 c) (h2 : spY y0 y1 c) : Halv x0 y0 x1 y1 f c x0 y0 x1 (y0 + (y1 - y0 + 1) / 2 - 1) f c x0 (y0 + (y1 - y0 + 1) / 2) x1 y1 f c := by
  have hb := b.b
  obtain ⟨m, hm⟩ : ∃ m, y0 + (y1 - y0 + 1) / 2 = m := ⟨_, rfl⟩
  rw [hm]
  have hx := h2.1
  have m1 : y0 < m := by omega
  have m2 : m ≤ y1 := by omega
  have oc : OkB x0 y0 x1 (m - 1) f c := ⟨⟨by omega, by omega⟩, b.a⟩
  have od : OkB x0 m x1 y1 f c := ⟨⟨by omega, by omega⟩, b.a⟩
  refine ⟨b, oc, od, vol_one b h1, ?_, ⟨⟨oc, b⟩, (ins_iff ⟨oc, b⟩).2 ⟨by omega, arcIn_refl f c⟩⟩, ⟨⟨od, b⟩, (ins_iff ⟨od, b⟩).2 ⟨by omega, arcIn_refl f c⟩⟩, ?_, fun x y h => ?_, fun x y h k1 k2 => ?_⟩
  · unfold volI volM; rw [if_pos b, if_pos oc, if_pos od]; exact vol_y
  · unfold meetLL meetL; rw [if_pos ⟨oc, od⟩, if_neg (by omega)]
  · rw [hasM_iff b, hasM_iff oc, hasM_iff od]; omega
  · rw [hasM_iff oc] at k1; rw [hasM_iff od] at k2; omega
theorem refAll_none {f c g d : Int} (ha : OkA f c) (hb : OkA g d) (h : ∀ m, bothB f c g d m = false) : refAll f c g d = [] := by
  have hs : ∀ m, startB f c g d m = false := fun m => by unfold startB; rw [h m]; rfl
  have h0 : ∀ k, refL f c g d k = [] := fun k => by
    induction k with
    | zero => rfl
    | succ k ih => show addAt f c g d (refL f c g d k) k = []; rw [ih, add_no (hs _)]
  unfold refAll; rw [h0, if_neg (by rw [h 0]; simp)]
theorem halv_h {x0 y0 x1 y1 f c : Int} (b : OkB x0 y0 x1 y1 f c) (h1 : ¬ oneP x0 y0 x1 y1 c) (h2 : ¬ spX x0 y0 x1 y1 c) (h3 : ¬ spY y0 y1 c) : Halv x0 y0 x1 y1 f c x0 y0 x1 y1 f (c / 2) x0 y0 x1 y1 ((f + c / 2) % 256) (c - c / 2) := by
  have hb := b.b
  have bf := b.a.full
  have hc : 2 ≤ c := by
    unfold spX at h2; unfold spY at h3; unfold oneP at h1; omega
  obtain ⟨a, ea⟩ : ∃ a, c / 2 = a := ⟨_, rfl⟩
  obtain ⟨g, eg⟩ : ∃ g, (f + a) % 256 = g := ⟨_, rfl⟩
  rw [ea, eg]
  have a1 : 1 ≤ a := by omega
  have a2 : a < c := by omega
  have a3 : a ≤ 128 := by omega
  have a4 : c - a ≤ 128 := by omega
  have g1 : 0 ≤ g ∧ g < 256 := by omega
  have oc : OkB x0 y0 x1 y1 f a := ⟨⟨by omega, by omega⟩, .inr (by omega)⟩
  have od : OkB x0 y0 x1 y1 g (c - a) := ⟨⟨by omega, by omega⟩, .inr (by omega)⟩
  refine ⟨b, oc, od, vol_one b h1, ?_, ⟨⟨oc, b⟩, (ins_iff ⟨oc, b⟩).2 ⟨by omega, by unfold arcIn; omega⟩⟩, ⟨⟨od, b⟩, (ins_iff ⟨od, b⟩).2 ⟨by omega, by unfold arcIn; omega⟩⟩, ?_, fun x y h => ?_, fun x y h k1 k2 => ?_⟩
  · unfold volI volM; rw [if_pos b, if_pos oc, if_pos od]; exact vol_h
  · unfold meetLL meetL; rw [if_pos ⟨oc, od⟩]
    have e : refAll f a g (c - a) = [] := refAll_none oc.a od.a fun m => by
      unfold bothB hasB
      by_cases k : (m - f) % 256 < a
      · rw [decide_eq_false (show ¬ (m - g) % 256 < c - a by omega), Bool.and_false]
      · rw [decide_eq_false k, Bool.false_and]
    rw [e]; split <;> rfl
  · rw [hasM_iff b, hasM_iff oc, hasM_iff od]; omega
  · rw [hasM_iff oc] at k1; rw [hasM_iff od] at k2; omega
theorem Vol_at {x0 y0 x1 y1 f c s : Int} (h : volI x0 y0 x1 y1 f c = s) (w : World) : Calls Try.prog 19 #[.agg #[.int .i64 x0, .int .i64 y0, .int .i64 x1, .int .i64 y1, .int .i64 f, .int .i64 c]] w fun e w' => e = .returned (.int .i64 s) ∧ Below w.heap.size w w' := by
  have e := Vol_is x0 y0 x1 y1 f c w; rwa [h] at e
end Go.Proofs.Ytjpdahalplkfbaa
