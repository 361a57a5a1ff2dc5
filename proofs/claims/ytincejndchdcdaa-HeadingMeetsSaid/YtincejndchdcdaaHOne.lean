/- heading: residue, commonFactor, lowest. -/
import Derived.Test.YtincejndchdcdaaHBase
namespace Go.Proofs.Ytincejndchdcdaa
open Go Go.RowKit Hd

theorem and255 (n : Int) : bits BinOp.and IntKind.i64 n 255 = n % 256 := by
  have h : ((BitVec.ofInt 64 n &&& BitVec.ofInt 64 255).toNat : Int) = n % 256 := by
    rw [BitVec.toNat_and, BitVec.toNat_ofInt, BitVec.toNat_ofInt]
    have e : ((255 : Int) % ((2 ^ 64 : Nat) : Int)).toNat = 2 ^ 8 - 1 := by decide +kernel
    rw [e, Nat.and_two_pow_sub_one_eq_mod]
    have e2 : ((2 ^ 64 : Nat) : Int) = 18446744073709551616 := by decide
    rw [e2]; omega
  show IntKind.i64.wrap ((BitVec.ofInt 64 n &&& BitVec.ofInt 64 255).toNat : Int) = n % 256
  rw [h, IntKind.wrap_i64]
  omega

set_option maxHeartbeats 400000 in
theorem residue_any (n : Int) (w : World) :
    Calls Try.prog 46 #[.int .i64 n] w fun e w' => e = .returned (.int .i64 (n % 256)) ∧ w = w' := by
  have hb := and255 n
  go_enter Try.func46, Try.ntmps46
  go_wp2
  go_ret
  exact ⟨rfl, rfl⟩

theorem gcd_next {a b : Int} (ha : 0 ≤ a) (hb : 1 ≤ b) : Nat.gcd b.natAbs (a % b).natAbs = Nat.gcd a.natAbs b.natAbs := by
  obtain ⟨n, rfl⟩ := Int.eq_ofNat_of_zero_le ha
  obtain ⟨m, rfl⟩ := Int.eq_ofNat_of_zero_le (show 0 ≤ b by omega)
  rw [← Int.natCast_emod, Int.natAbs_natCast, Int.natAbs_natCast, Int.natAbs_natCast, Nat.gcd_comm n m, Nat.gcd_rec m n, Nat.gcd_comm]
set_option maxHeartbeats 400000 in
theorem commonFactor_any (a b : Int) (w : World) (h1 : 1 ≤ a) (h2 : a ≤ 9223372036854775807) (h3 : 0 ≤ b) (h4 : b ≤ 9223372036854775807) :
    Calls Try.prog 60 #[.int .i64 a, .int .i64 b] w fun e w' => e = .returned (.int .i64 (Nat.gcd a.natAbs b.natAbs : Nat)) ∧ ∃ n, w' = w.drewN n := by
  obtain ⟨g, hg⟩ : ∃ g, Nat.gcd a.natAbs b.natAbs = g := ⟨_, rfl⟩
  rw [hg]
  have HG := Lib.hid hg
  clear hg
  go_enter Try.func60, Try.ntmps60
  go_wp2
  go_loopw [0, 1] (fun va vb wr => ∃ (x y : Int) (n : Nat), va = .int .i64 x ∧ vb = .int .i64 y ∧ 0 ≤ x ∧ x ≤ 9223372036854775807 ∧ 0 ≤ y ∧ y ≤ 9223372036854775807 ∧ Hid (Nat.gcd x.natAbs y.natAbs = g) ∧ wr = w.drewN n) (fun _ vb _ => (intOf vb).toNat)
  case atStart => exact ⟨a, b, 0, rfl, rfl, by omega, by omega, by omega, by omega, HG, rfl⟩
  case round =>
    obtain ⟨x, y, n, rfl, rfl, x0, x1, y0, y1, hg, rfl⟩ := hrel
    by_cases hy : y = 0
    · subst hy
      have HE : Hid ((x : Int) = (g : Int)) := by have := hg.out; rw [Int.natAbs_zero, Nat.gcd_zero_right] at this; unfold Hid; omega
      go_wp2
      go_ret
      exact ⟨by rw [HE.out]; rfl, n, rfl⟩
    · have hb : (y == 0) = false := by simpa using hy
      have hm := Int.emod_lt_of_pos x (show 0 < y by omega)
      have hn := Int.emod_nonneg x hy
      have HN := Lib.hid ((gcd_next x0 (show 1 ≤ y by omega)).trans hg.out)
      go_wp2
      go_region
      go_wp2
      go_roundw
      case rel => exact ⟨y, x % y, n + 1, rfl, rfl, by omega, by omega, by omega, by omega, HN, rfl⟩
      case measure => simp [intOf]; omega

theorem low_at {x d g : Int} (h : gq x d = g) (y : Int) : low x y d = ⟨x.tdiv g, y.tdiv g, d.tdiv g⟩ := by unfold low; rw [h]
theorem cf_at {x d g m : Int} (h1 : 1 ≤ d) (h2 : d ≤ 4611686018427387904) (hm : m = x ∨ m = -x) (m0 : 0 ≤ m) (m1 : m ≤ 9223372036854775807) (h : gq x d = g) (w : World) :
    Calls Try.prog 60 #[.int .i64 d, .int .i64 m] w fun e w' => e = .returned (.int .i64 g) ∧ ∃ n, w' = w.drewN n := by
  have e : ((Nat.gcd d.natAbs m.natAbs : Nat) : Int) = g := by
    rw [← h]; unfold gq
    have : m.natAbs = x.natAbs := by omega
    rw [this]
  have c := commonFactor_any d m w h1 (by omega) m0 m1
  rwa [e] at c
/-- The result's variable. -/
theorem made3 (w : World) (n : Nat) (a b c : Int) : Box3 (st3 ((w.alloc (.cells #[.int .i64 0, .int .i64 0, .int .i64 0] 24)).drewN n) w.heap.size (.int .i64 a) (.int .i64 b) (.int .i64 c)) w.heap.size a b c :=
  Box3.store (show Box3 ((w.alloc (.cells #[.int .i64 0, .int .i64 0, .int .i64 0] 24)).drewN n) w.heap.size 0 0 0 from Box3.new w 0 0 0) a b c
theorem below3 (w : World) (n : Nat) (u0 u1 u2 : Value) : Below w.heap.size w (st3 ((w.alloc (.cells #[.int .i64 0, .int .i64 0, .int .i64 0] 24)).drewN n) w.heap.size u0 u1 u2) :=
  Below.store3 (bel_drewN ((Below.refl _ _).alloc (Nat.le_refl _) _) n) (Nat.le_refl _) _ _ _

set_option maxRecDepth 100000 in
set_option maxHeartbeats 1000000 in
theorem lowest_any (x y d : Int) (w : World) (h1 : 1 ≤ d) (h2 : d ≤ 4611686018427387904) (x1 : -4611686018427387904 ≤ x) (x2 : x ≤ 4611686018427387904) (y1 : -4611686018427387904 ≤ y) (y2 : y ≤ 4611686018427387904) :
    Calls Try.prog 47 #[.int .i64 x, .int .i64 y, .int .i64 d] w fun e w' => e = .returned (vv (low x y d)) ∧ Below w.heap.size w w' := by
  have hg1 := gq_pos (x := x) h1
  have hg2 := gq_le (x := x) h1
  obtain ⟨g, hg⟩ : ∃ g, gq x d = g := ⟨_, rfl⟩
  rw [hg] at hg1 hg2
  rw [low_at hg]
  have HC' := Lib.hid (fun m hm m0 m1 w => cf_at (m := m) h1 h2 hm m0 m1 hg w)
  have hz : (g == 0) = false := by simp; omega
  have HD : Hid (d / g = d.tdiv g) := by unfold Hid; rw [Int.tdiv_eq_ediv_of_nonneg (by omega)]
  have H3 := Lib.hid (fun n a b c => (made3 w n a b c))
  have HB := Lib.hid (fun n u0 u1 u2 => (below3 w n u0 u1 u2))
  clear hg
  by_cases hx : 0 ≤ x
  all_goals
    have HC := Lib.hid (fun w => HC'.out (max x (-x)) (by omega) (by omega) (by omega) w)
    have HX : Hid (0 ≤ x → x / g = x.tdiv g) := by intro h; rw [Int.tdiv_eq_ediv_of_nonneg (by omega)]
    have HY : Hid (0 ≤ y → y / g = y.tdiv g) := by intro h; rw [Int.tdiv_eq_ediv_of_nonneg (by omega)]
    have em : Hid (max x (-x) = if 0 ≤ x then x else -x) := by unfold Hid; split <;> omega
    rw [em.out] at HC
    first | rw [if_pos hx] at HC | rw [if_neg hx] at HC
    clear HC' em
    by_cases hy : 0 ≤ y
    all_goals
      go_enter Try.func47, Try.ntmps47
      go_wp2_with fail
      refine (HC.out _).mono ?_
      rintro e w1 ⟨rfl, n, rfl⟩
      clear HC
      go_wp2_with fail
      go_region
      have sS := H3.out (n + 1) (x.tdiv g) (y.tdiv g) (d.tdiv g)
      have hb := HB.out (n + 1) (.int .i64 (x.tdiv g)) (.int .i64 (y.tdiv g)) (.int .i64 (d.tdiv g))
      rw [HD.out]
      try rw [HX.out hx]
      try rw [HY.out hy]
      have s0 := sS.c0
      have s1 := sS.c1
      have s2 := sS.c2
      have HF := Lib.hid hb
      simp only [st3] at s0 s1 s2
      clear sS hb
      go_wp2
      exact bodyPost_ret (v := .agg #[.int .i64 (x.tdiv g), .int .i64 (y.tdiv g), .int .i64 (d.tdiv g)]) (by simp [results, Try.results47, go_sem, s0, s1, s2]) rfl ⟨rfl, HF.out⟩
end Go.Proofs.Ytincejndchdcdaa
