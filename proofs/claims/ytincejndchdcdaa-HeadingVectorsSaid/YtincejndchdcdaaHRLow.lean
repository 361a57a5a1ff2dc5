/- The reference: gcd, abs, lowest. -/
import Derived.Test.YtincejndchdcdaaHDir
namespace Go.Proofs.Ytincejndchdcdaa
open Go Go.RowKit Hd

set_option maxHeartbeats 1000000 in
theorem rgcd_any (a b c : Int) (w : World) (a0 : 0 ≤ a) (a1 : a ≤ 9223372036854775807) (b0 : 0 ≤ b) (b1 : b ≤ 9223372036854775807) (c0 : 0 ≤ c) (c1 : c ≤ 9223372036854775807) :
    Calls Try.prog 61 #[.int .i64 a, .int .i64 b, .int .i64 c] w fun e w' => e = .returned (.int .i64 (Nat.gcd (Nat.gcd a.natAbs b.natAbs) c.natAbs : Nat)) ∧ w = w' := by
  obtain ⟨g, hg⟩ : ∃ g, Nat.gcd a.natAbs b.natAbs = g := ⟨_, rfl⟩
  rw [hg]
  obtain ⟨k, hk⟩ : ∃ k, Nat.gcd g c.natAbs = k := ⟨_, rfl⟩
  rw [hk]
  have HG := Lib.hid hg
  have HK := Lib.hid hk
  clear hg hk
  go_enter Try.func61, Try.ntmps61
  go_wp2
  go_loop [0, 1, 7] (fun va vb _ => ∃ (x y : Int), va = .int .i64 x ∧ vb = .int .i64 y ∧ 0 ≤ x ∧ x ≤ 9223372036854775807 ∧ 0 ≤ y ∧ y ≤ 9223372036854775807 ∧ Hid (Nat.gcd x.natAbs y.natAbs = g)) (fun _ vb _ => (intOf vb).toNat)
  case atStart => exact ⟨a, b, rfl, rfl, by omega, by omega, by omega, by omega, HG⟩
  case round =>
    obtain ⟨x, y, rfl, rfl, x0, x1, y0, y1, hg⟩ := hrel
    by_cases hy : 0 < y
    · have hb : (y == 0) = false := by simp; omega
      have hm := Int.emod_lt_of_pos x hy
      have hn := Int.emod_nonneg x (show y ≠ 0 by omega)
      have HN := Lib.hid ((gcd_next x0 (show 1 ≤ y by omega)).trans hg.out)
      go_wp2
      go_round
      case rel => exact ⟨y, x % y, rfl, rfl, by omega, by omega, by omega, by omega, HN⟩
      case measure => simp [intOf]; omega
    · have HX : Hid (x.natAbs = g) := by have := hg.out; rw [show y.natAbs = 0 by omega, Nat.gcd_zero_right] at this; exact this
      have HK2 : Hid (Nat.gcd x.natAbs c.natAbs = k) := by unfold Hid; rw [HX.out]; exact HK.out
      clear HK HG hg HX
      go_wp2
      go_loop [0, 2, 8] (fun va vb _ => ∃ (x y : Int), va = .int .i64 x ∧ vb = .int .i64 y ∧ 0 ≤ x ∧ x ≤ 9223372036854775807 ∧ 0 ≤ y ∧ y ≤ 9223372036854775807 ∧ Hid (Nat.gcd x.natAbs y.natAbs = k)) (fun _ vb _ => (intOf vb).toNat)
      case atStart => exact ⟨x, c, rfl, rfl, by omega, by omega, by omega, by omega, HK2⟩
      case round =>
        clear HK2
        obtain ⟨p, q, rfl, rfl, p0, p1, q0, q1, hg⟩ := hrel
        by_cases hq : 0 < q
        · have hb : (q == 0) = false := by simp; omega
          have hm := Int.emod_lt_of_pos p hq
          have hn := Int.emod_nonneg p (show q ≠ 0 by omega)
          have HN := Lib.hid ((gcd_next p0 (show 1 ≤ q by omega)).trans hg.out)
          go_wp2
          go_round
          case rel => exact ⟨q, p % q, rfl, rfl, by omega, by omega, by omega, by omega, HN⟩
          case measure => simp [intOf]; omega
        · have HE : Hid ((p : Int) = (k : Int)) := by have := hg.out; rw [show q.natAbs = 0 by omega, Nat.gcd_zero_right] at this; unfold Hid; omega
          go_wp2
          go_ret
          exact ⟨by rw [HE.out]; rfl, rfl⟩

set_option maxHeartbeats 400000 in
theorem rabs_any (n : Int) (w : World) (h1 : -4611686018427387904 ≤ n) (h2 : n ≤ 4611686018427387904) :
    Calls Try.prog 62 #[.int .i64 n] w fun e w' => e = .returned (.int .i64 (n.natAbs : Nat)) ∧ w = w' := by
  by_cases h : n < 0
  · have HE : Hid (((n.natAbs : Nat) : Int) = -n) := by unfold Hid; omega
    rw [HE.out]
    go_enter Try.func62, Try.ntmps62
    go_wp2
    go_ret
    exact ⟨rfl, rfl⟩
  · have HE : Hid (((n.natAbs : Nat) : Int) = n) := by unfold Hid; omega
    rw [HE.out]
    go_enter Try.func62, Try.ntmps62
    go_wp2
    go_ret
    exact ⟨rfl, rfl⟩

theorem rg_at {x y d g a b : Int} (h : gq x d = g) (hc : x * x + y * y = d * d) (hd1 : 1 ≤ d) (hd2 : d ≤ 4611686018427387904) (ha : a = (x.natAbs : Nat)) (hb : b = (y.natAbs : Nat)) (ha1 : a ≤ 4611686018427387904) (hb1 : b ≤ 4611686018427387904) (w : World) :
    Calls Try.prog 61 #[.int .i64 a, .int .i64 b, .int .i64 d] w fun e w' => e = .returned (.int .i64 g) ∧ w = w' := by
  have e : ((Nat.gcd (Nat.gcd a.natAbs b.natAbs) d.natAbs : Nat) : Int) = g := by
    subst ha hb
    rw [Int.natAbs_natCast, Int.natAbs_natCast, gcd3 hc]; exact h
  have c := rgcd_any a b d w (by omega) (by omega) (by omega) (by omega) (by omega) (by omega)
  rwa [e] at c

set_option maxRecDepth 100000 in
set_option maxHeartbeats 1000000 in
theorem rlowest_any (x y d : Int) (w : World) (hcc : x * x + y * y = d * d) (h1 : 1 ≤ d) (h2 : d ≤ 4611686018427387904) (x1 : -4611686018427387904 ≤ x) (x2 : x ≤ 4611686018427387904) (y1 : -4611686018427387904 ≤ y) (y2 : y ≤ 4611686018427387904) :
    Calls Try.prog 49 #[.int .i64 x, .int .i64 y, .int .i64 d] w fun e w' => e = .returned (vv (low x y d)) ∧ Below w.heap.size w w' := by
  have hg1 := gq_pos (x := x) h1
  have hg2 := gq_le (x := x) h1
  obtain ⟨g, hg⟩ : ∃ g, gq x d = g := ⟨_, rfl⟩
  rw [hg] at hg1 hg2
  rw [low_at hg]
  have HX := Lib.hid (fun w => rabs_any x w x1 x2)
  have HY := Lib.hid (fun w => rabs_any y w y1 y2)
  have HC := Lib.hid (fun w => rg_at (a := (x.natAbs : Nat)) (b := (y.natAbs : Nat)) hg hcc h1 h2 rfl rfl (by omega) (by omega) w)
  have hz : (g == 0) = false := by simp; omega
  have HD : Hid (d / g = d.tdiv g) := by unfold Hid; rw [Int.tdiv_eq_ediv_of_nonneg (by omega)]
  have HXX : Hid (0 ≤ x → x / g = x.tdiv g) := by intro h; rw [Int.tdiv_eq_ediv_of_nonneg (by omega)]
  have HYY : Hid (0 ≤ y → y / g = y.tdiv g) := by intro h; rw [Int.tdiv_eq_ediv_of_nonneg (by omega)]
  generalize ((x.natAbs : Nat) : Int) = ax at *
  generalize ((y.natAbs : Nat) : Int) = ay at *
  clear hg hcc
  by_cases hx : 0 ≤ x <;> by_cases hy : 0 ≤ y
  all_goals
    go_enter Try.func49, Try.ntmps49
    go_wp2_with fail
    refine (HX.out _).mono ?_
    rintro e w1 ⟨rfl, rfl⟩
    go_wp2_with fail
    refine (HY.out _).mono ?_
    rintro e w1 ⟨rfl, rfl⟩
    go_wp2_with fail
    refine (HC.out _).mono ?_
    rintro e w1 ⟨rfl, rfl⟩
    clear HC HX HY
    go_wp2_with fail
    go_region
    rw [HD.out]
    try rw [HXX.out hx]
    try rw [HYY.out hy]
    go_wp2
    exact bodyPost_ret (v := .agg #[.int .i64 (x.tdiv g), .int .i64 (y.tdiv g), .int .i64 (d.tdiv g)]) (by simp [results, Try.results49, go_sem]) rfl ⟨rfl, bel_drewN ((Below.refl _ _).alloc (Nat.le_refl _) _) 1⟩
end Go.Proofs.Ytincejndchdcdaa
