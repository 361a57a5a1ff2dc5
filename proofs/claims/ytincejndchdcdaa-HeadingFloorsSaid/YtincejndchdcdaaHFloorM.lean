/- Plain mathematics: the floor of a direction. -/
import Derived.Test.YtincejndchdcdaaHAwake
namespace Go.Proofs.Ytincejndchdcdaa
open Go Go.RowKit Hd

theorem cross_id {x y d k : Int} (h : x * x + y * y = d * d) : ((4096 - k * k) * y - 128 * k * x) * (x + d) = (64 * y - k * (x + d)) * (64 * (x + d) + k * y) := by grind
theorem pos_of_mul {a s b c : Int} (hs : 0 < s) (hc : 0 < c) (h : a * s = b * c) : (0 ≤ b → 0 ≤ a) ∧ (b < 0 → a < 0) := by
  constructor
  · intro hb
    rcases Int.lt_or_le a 0 with ha | ha
    · have h1 := Int.mul_pos (show 0 < -a by omega) hs
      have h2 := Int.mul_nonneg hb (show 0 ≤ c by omega)
      rw [Int.neg_mul] at h1; omega
    · exact ha
  · intro hb
    rcases Int.lt_or_le a 0 with ha | ha
    · exact ha
    · have h1 := Int.mul_pos (show 0 < -b by omega) hc
      have h2 := Int.mul_nonneg ha (show 0 ≤ s by omega)
      rw [Int.neg_mul] at h1; omega
theorem le_scale {a b g : Int} (hg : 1 ≤ g) (h : a * g ≤ b * g) : a ≤ b := Int.le_of_mul_le_mul_right h (by omega)
theorem lt_scale {a b g : Int} (hg : 1 ≤ g) (h : a * g < b * g) : a < b := Int.lt_of_mul_lt_mul_right h (by omega)
theorem cmpI_le {a b : Int} (h : a ≤ b) : cmpI a b ≤ 0 := by unfold cmpI; split <;> (try split) <;> omega
theorem cmpI_lt {a b : Int} (h : a < b) : cmpI a b = -1 := if_pos h

/-- A direction of the first quadrant. -/
structure First (u : V3) : Prop where
  x : 0 < u.x
  y : 0 ≤ u.y
theorem first_dirK {k : Int} (h0 : 0 ≤ k) (h1 : k < 64) : First (dirK k) ∧ ∃ g, 1 ≤ g ∧ (dirK k).x * g = 4096 - k * k ∧ (dirK k).y * g = 128 * k := by
  have hb := kk_bound h0 h1
  have hd : 1 ≤ 4096 + k * k := by omega
  obtain ⟨e1, e2, -⟩ := low_mul (x := 4096 - k * k) (y := 128 * k) hd (dir_circle k)
  have hg := gq_pos (x := 4096 - k * k) hd
  change (dirK k).x * _ = _ at e1
  change (dirK k).y * _ = _ at e2
  refine ⟨⟨?_, ?_⟩, _, hg, e1, e2⟩
  · rcases Int.lt_or_le 0 (dirK k).x with h | h
    · exact h
    · have := Int.mul_nonneg (show 0 ≤ -(dirK k).x by omega) (show 0 ≤ gq (4096 - k * k) (4096 + k * k) by omega)
      rw [Int.neg_mul] at this; omega
  · rcases Int.lt_or_le (dirK k).y 0 with h | h
    · have := Int.mul_pos (show 0 < -(dirK k).y by omega) (show 0 < gq (4096 - k * k) (4096 + k * k) by omega)
      rw [Int.neg_mul] at this; omega
    · exact h
theorem lowB_rots {u : V3} (h : First u) {n : Nat} (hn : n ≤ 3) : lowB (rots n u) = decide (2 ≤ n) := by
  have hx := h.x; have hy := h.y
  obtain rfl | rfl | rfl | rfl : n = 0 ∨ n = 1 ∨ n = 2 ∨ n = 3 := by omega
  · show decide (u.y < 0 ∨ u.y = 0 ∧ u.x < 0) = false; exact decide_eq_false (by omega)
  · show decide (u.x < 0 ∨ u.x = 0 ∧ -u.y < 0) = false; exact decide_eq_false (by omega)
  · show decide (-u.y < 0 ∨ -u.y = 0 ∧ -u.x < 0) = true; exact decide_eq_true (by omega)
  · show decide (-u.x < 0 ∨ -u.x = 0 ∧ - -u.y < 0) = true; exact decide_eq_true (by omega)
theorem cross_rots (a b : V3) (n : Nat) : (rots n a).x * (rots n b).y - (rots n a).y * (rots n b).x = a.x * b.y - a.y * b.x := by
  induction n with
  | zero => rfl
  | succ n ih => show -(rots n a).y * (rots n b).x - (rots n a).x * -(rots n b).y = _; rw [← ih]; grind
theorem cmpI_sub {a b c d : Int} (h : b - a = d - c) : cmpI a b = cmpI c d := by unfold cmpI; split <;> split <;> (try split) <;> (try split) <;> omega
theorem cmpV_rots {a b : V3} (ha : First a) (hb : First b) {n : Nat} (hn : n ≤ 3) : cmpV (rots n a) (rots n b) = cmpI (a.y * b.x) (a.x * b.y) := by
  unfold cmpV
  rw [lowB_rots ha hn, lowB_rots hb hn, if_pos rfl]
  exact cmpI_sub (cross_rots a b n)
theorem dir_at {n : Nat} {k : Int} (hn : n ≤ 3) (h0 : 0 ≤ k) (h1 : k < 64) : dir (64 * n + k) = rots n (dirK k) := by
  unfold dir dirM
  have e1 : ((64 * (n : Int) + k) % 256 / 64).toNat = n := by omega
  have e2 : (64 * (n : Int) + k) % 256 % 64 = k := by omega
  rw [e1, e2]
theorem dirK_zero : dirK 0 = ⟨1, 0, 1⟩ := V3.eq (by decide +kernel) (by decide +kernel) (by decide +kernel)

theorem floor_all {v : V3} {h : Int} (hf : FloorAt v h) : 0 ≤ h ∧ h ≤ 255 ∧ cmpV (dir h) v ≤ 0 ∧ (h < 255 → cmpV v (dir (h + 1)) = -1) := by
  obtain ⟨n, u, hn, rfl, hu, u1, u2, rfl⟩ := hf
  have hby := hu.by_
  have hd := hu.lo
  have hc := hu.eq
  have hF : First u := ⟨u1, u2⟩
  obtain ⟨k, hk⟩ : ∃ k, 64 * u.y / (u.x + u.d) = k := ⟨_, rfl⟩
  rw [hk]
  have hs : 0 < u.x + u.d := by omega
  have k0 : 0 ≤ k := by rw [← hk]; exact Int.ediv_nonneg (by omega) (by omega)
  have k1 : k < 64 := by rw [← hk]; exact Int.ediv_lt_of_lt_mul hs (by omega)
  have hle : k * (u.x + u.d) ≤ 64 * u.y := by rw [← hk]; exact Int.ediv_mul_le _ (by omega)
  have hgt : 64 * u.y < (k + 1) * (u.x + u.d) := by rw [← hk]; exact Int.lt_ediv_add_one_mul_self _ hs
  have hpos : ∀ j : Int, 0 ≤ j → 0 < 64 * (u.x + u.d) + j * u.y := fun j hj => by have := Int.mul_nonneg hj u2; omega
  refine ⟨by omega, by omega, ?_, fun hl => ?_⟩
  · rw [dir_at hn k0 k1]
    obtain ⟨hK, g, hg, e1, e2⟩ := first_dirK k0 k1
    rw [cmpV_rots hK hF hn]
    have hp := (pos_of_mul hs (hpos k k0) (cross_id (k := k) hc)).1 (by omega)
    refine cmpI_le (le_scale hg ?_)
    have f1 : (dirK k).y * u.x * g = 128 * k * u.x := by rw [← e2]; grind
    have f2 : (dirK k).x * u.y * g = (4096 - k * k) * u.y := by rw [← e1]; grind
    rw [f1, f2]; omega
  · rcases Int.lt_or_le k 63 with h63 | h63
    · have e : 64 * (n : Int) + k + 1 = 64 * n + (k + 1) := by omega
      rw [e, dir_at hn (by omega) (by omega)]
      obtain ⟨hK, g, hg, e1, e2⟩ := first_dirK (k := k + 1) (by omega) (by omega)
      rw [cmpV_rots hF hK hn]
      have hp := (pos_of_mul hs (hpos (k + 1) (by omega)) (cross_id (k := k + 1) hc)).2 (by omega)
      refine cmpI_lt (lt_scale hg ?_)
      have f1 : u.y * (dirK (k + 1)).x * g = (4096 - (k + 1) * (k + 1)) * u.y := by rw [← e1]; grind
      have f2 : u.x * (dirK (k + 1)).y * g = 128 * (k + 1) * u.x := by rw [← e2]; grind
      rw [f1, f2]; omega
    · obtain rfl : k = 63 := by omega
      have hn2 : n ≤ 2 := by omega
      have e : 64 * (n : Int) + 63 + 1 = 64 * ((n + 1 : Nat) : Int) + 0 := by omega
      rw [e, dir_at (n := n + 1) (by omega) (by omega) (by omega), dirK_zero]
      have hA : First ⟨1, 0, 1⟩ := ⟨by decide, by decide⟩
      unfold cmpV
      rw [lowB_rots hF hn, lowB_rots hA (show n + 1 ≤ 3 by omega)]
      obtain rfl | rfl | rfl : n = 0 ∨ n = 1 ∨ n = 2 := by omega
      · show (if decide (2 ≤ 0) = decide (2 ≤ 1) then cmpI (u.y * -0) (u.x * 1) else _) = -1
        rw [if_pos (by decide)]; exact cmpI_lt (by omega)
      · rw [if_neg (by decide), if_pos (by decide)]
      · show (if decide (2 ≤ 2) = decide (2 ≤ 3) then cmpI (-u.y * - -0) (-u.x * -1) else _) = -1
        rw [if_pos (by decide)]; exact cmpI_lt (by omega)
end Go.Proofs.Ytincejndchdcdaa
