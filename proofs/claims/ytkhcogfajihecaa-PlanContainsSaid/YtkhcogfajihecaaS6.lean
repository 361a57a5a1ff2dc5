/- segment: commonFactor, distance, Enter, Leave. -/
import Derived.Test.YtkhcogfajihecaaS5
set_option linter.unusedVariables false
set_option linter.unusedSimpArgs false
namespace Go.Proofs.Ytkhcogfajihecaa
open Go Go.RowKit Hd

theorem gcd_next {a b : Int} (ha : 0 ≤ a) (hb : 1 ≤ b) : Nat.gcd b.natAbs (a % b).natAbs = Nat.gcd a.natAbs b.natAbs := by
  obtain ⟨n, rfl⟩ := Int.eq_ofNat_of_zero_le ha
  obtain ⟨m, rfl⟩ := Int.eq_ofNat_of_zero_le (show 0 ≤ b by omega)
  rw [← Int.natCast_emod, Int.natAbs_natCast, Int.natAbs_natCast, Int.natAbs_natCast, Nat.gcd_comm n m, Nat.gcd_rec m n, Nat.gcd_comm]

set_option maxHeartbeats 400000 in
theorem Rgcd_any (a b : Int) (w : World) (h1 : 0 ≤ a) (h2 : a ≤ 9223372036854775807) (h3 : 0 ≤ b) (h4 : b ≤ 9223372036854775807) :
    Calls Try.prog 103 #[.int .i64 a, .int .i64 b] w fun e w' => e = .returned (.int .i64 (Nat.gcd a.natAbs b.natAbs : Nat)) ∧ Below w.heap.size w w' := by
  obtain ⟨g, hg⟩ : ∃ g, Nat.gcd a.natAbs b.natAbs = g := ⟨_, rfl⟩
  rw [hg]
  have HG := Lib.hid hg
  clear hg
  go_enter Try.func103, Try.ntmps103
  go_wp2
  go_loopw [0, 1] (fun va vb wr => ∃ (x y : Int) (n : Nat), va = .int .i64 x ∧ vb = .int .i64 y ∧ 0 ≤ x ∧ x ≤ 9223372036854775807 ∧ 0 ≤ y ∧ y ≤ 9223372036854775807 ∧ Hid (Nat.gcd x.natAbs y.natAbs = g) ∧ wr = w.drewN n) (fun _ vb _ => (intOf vb).toNat)
  case atStart => exact ⟨a, b, 0, rfl, rfl, by omega, by omega, by omega, by omega, HG, rfl⟩
  case round =>
    obtain ⟨x, y, n, rfl, rfl, x0, x1, y0, y1, hg, rfl⟩ := hrel
    by_cases hy : y = 0
    · subst hy
      have HE : Hid ((x : Int) = (g : Int)) := by have := hg.out; rw [Int.natAbs_zero, Nat.gcd_zero_right] at this; unfold Hid; omega
      have hz : ¬ (0 : Int) < 0 := by omega
      go_wp2
      go_ret
      exact ⟨by rw [HE.out]; rfl, bel_drewN (Below.refl _ _) _⟩
    · have hb : 0 < y := by omega
      have hm := Int.emod_lt_of_pos x (show 0 < y by omega)
      have hn := Int.emod_nonneg x hy
      have HN := Lib.hid ((gcd_next x0 (show 1 ≤ y by omega)).trans hg.out)
      go_wp2
      go_region
      go_wp2
      go_roundw
      case rel => exact ⟨y, x % y, n + 1, rfl, rfl, by omega, by omega, by omega, by omega, HN, rfl⟩
      case measure => simp [intOf]; omega

theorem Rgg_at {n d g : Int} (h : gg n d = g) (n0 : 0 ≤ n) (n1 : n ≤ 9223372036854775807) (d0 : 0 ≤ d) (d1 : d ≤ 9223372036854775807) (w : World) :
    Calls Try.prog 103 #[.int .i64 n, .int .i64 d] w fun e w' => e = .returned (.int .i64 g) ∧ Below w.heap.size w w' := by
  have c := Rgcd_any n d w n0 n1 d0 d1
  rw [Nat.gcd_comm] at c
  exact h ▸ c

set_option maxRecDepth 100000 in
set_option maxHeartbeats 4000000 in
theorem Lowest_any (n d : Int) (n0 : 0 ≤ n) (n1 : n ≤ 9223372036854775807) (d0 : 1 ≤ d) (d1 : d ≤ 9223372036854775807) (w : World) :
    Calls Try.prog 100 #[.int .i64 n, .int .i64 d] w fun e w' => e = .returned (.agg #[.int .i64 (lwN n d), .int .i64 (lwD n d)]) ∧ Below w.heap.size w w' := by
  obtain ⟨g, hg⟩ : ∃ g, gg n d = g := ⟨_, rfl⟩
  have hg1 : 1 ≤ g := hg ▸ gg_pos d0
  have HG := Lib.hid (fun w => Rgg_at hg n0 n1 (by omega) d1 w)
  rw [show lwN n d = n.tdiv g from by unfold lwN; rw [hg], show lwD n d = d.tdiv g from by unfold lwD; rw [hg]]
  have q1 : 0 ≤ n.tdiv g := Int.tdiv_nonneg n0 (by omega)
  have q2 : n.tdiv g ≤ n := by rw [Int.tdiv_eq_ediv_of_nonneg n0]; exact Int.ediv_le_self _ n0
  have q3 : 0 ≤ d.tdiv g := Int.tdiv_nonneg (by omega) (by omega)
  have q4 : d.tdiv g ≤ d := by rw [Int.tdiv_eq_ediv_of_nonneg (by omega)]; exact Int.ediv_le_self _ (by omega)
  clear hg
  have gne : (g == 0) = false := by rw [beq_eq_false_iff_ne]; omega
  obtain ⟨HB, B_z⟩ := box1 w 99 #[.int .i64 0, .int .i64 0]
  go_enter Try.func100, Try.ntmps100
  go_upto_region 1 with (fail)
  generalize w.alloc (.cells #[.int .i64 0, .int .i64 0] 99) = W0 at *
  go_wp2_with fail
  refine (HG.out _).mono ?_
  rintro e w1 ⟨rfl, bb⟩
  replace bb := nextw (w0 := W0) (by exact sm) bb
  replace B_z := mv B_z bb
  replace HB := nx HB bb
  clear bb
  go_upto_region 2 with (fail)
  obtain ⟨c0z, c1z⟩ := cells2 B_z
  obtain ⟨f0z, f1z⟩ := froz2 B_z
  go_region
  clear c0z c1z f0z f1z
  obtain ⟨s0, s1⟩ := cells2 (stor2 B_z (.int .i64 (n.tdiv g)) (.int .i64 (d.tdiv g)))
  have HF := stb2 HB (y := w.heap.size) (by omega) 0 (.int .i64 (n.tdiv g)) 1 (.int .i64 (d.tdiv g))
  obtain ⟨c0z, c1z⟩ := cells2 B_z
  obtain ⟨f0z, f1z⟩ := froz2 B_z
  go_wp2_with fail
  exact bodyPost_ret (v := .agg #[.int .i64 (n.tdiv g), .int .i64 (d.tdiv g)]) (by simp [results, Try.results100, go_sem, s0, s1]) rfl ⟨rfl, nextw HF.out (by exact sm)⟩

theorem dist_bd {i d : Int} (i0 : 0 ≤ i) (i1 : i ≤ 4194304) (d0 : 1 ≤ d) (d1 : d ≤ 67108864) : 0 ≤ i * d ∧ i * d ≤ 281474976710656 :=
  ⟨Int.mul_nonneg i0 (by omega), (bnd (a := i) (b := d) (by omega) i1 (by omega) d1).2⟩
theorem visB_wf {a b x y d x0 y0 x1 y1 : Int} (h : visB a b x y d x0 y0 x1 y1 = true) : Ok3 a b x y d x0 y0 x1 y1 ∧ Wf (visS a b x y d x0 y0 x1 y1) ∧ 1 ≤ (visS a b x y d x0 y0 x1 y1).u ∧ ∀ t m, 1 ≤ m → (InS (visS a b x y d x0 y0 x1 y1) t m ↔ Hit a b x y x0 y0 x1 y1 t m) := by
  unfold visB at h
  rw [Bool.and_eq_true, decide_eq_true_eq] at h
  obtain ⟨hk, hp⟩ := h
  unfold visS
  rw [if_pos hk]
  rcases pas_sem a b x y x0 y0 x1 y1 with ⟨-, h1, h2, h3⟩ | ⟨h1, -⟩
  · refine ⟨hk, h1, h2 ?_, h3⟩
    have := hk.2.1.eq
    have := hk.2.1.lo
    by_cases hx : x = 0
    · by_cases hy : y = 0
      · subst hx hy
        have := Int.mul_pos (show 0 < d by omega) (show 0 < d by omega)
        omega
      · exact .inr hy
    · exact .inl hx
  · rw [hp] at h1; cases h1
theorem visB_no {a b x y d x0 y0 x1 y1 : Int} (hk : Ok3 a b x y d x0 y0 x1 y1) (h : visB a b x y d x0 y0 x1 y1 = false) (t m : Int) (hm : 1 ≤ m) : ¬ Hit a b x y x0 y0 x1 y1 t m := by
  unfold visB at h
  rw [decide_eq_true hk, Bool.true_and] at h
  rcases pas_sem a b x y x0 y0 x1 y1 with ⟨h1, -⟩ | ⟨-, h1⟩
  · rw [h] at h1; cases h1
  · exact h1 t m hm
theorem wf_o {s : Sp} (h : Wf s) (hu : 1 ≤ s.u) : 0 ≤ s.o := by
  have := Int.mul_nonneg h.i0 h.u0
  have := h.ne
  have := h.j1
  rcases Int.lt_or_le s.o 0 with h1 | h1
  · have := Int.mul_pos_of_neg_of_neg h1 (show -s.j < 0 by omega)
    rw [Int.mul_neg] at this; omega
  · exact h1
/-- Enter and Leave. -/
def enN (a b x y d x0 y0 x1 y1 : Int) : Int := if visB a b x y d x0 y0 x1 y1 = true then lwN ((visS a b x y d x0 y0 x1 y1).i * d) (visS a b x y d x0 y0 x1 y1).j else 0
def enD (a b x y d x0 y0 x1 y1 : Int) : Int := if visB a b x y d x0 y0 x1 y1 = true then lwD ((visS a b x y d x0 y0 x1 y1).i * d) (visS a b x y d x0 y0 x1 y1).j else 0
def leN (a b x y d x0 y0 x1 y1 : Int) : Int := if visB a b x y d x0 y0 x1 y1 = true then lwN ((visS a b x y d x0 y0 x1 y1).o * d) (visS a b x y d x0 y0 x1 y1).u else 0
def leD (a b x y d x0 y0 x1 y1 : Int) : Int := if visB a b x y d x0 y0 x1 y1 = true then lwD ((visS a b x y d x0 y0 x1 y1).o * d) (visS a b x y d x0 y0 x1 y1).u else 0

end Go.Proofs.Ytkhcogfajihecaa
