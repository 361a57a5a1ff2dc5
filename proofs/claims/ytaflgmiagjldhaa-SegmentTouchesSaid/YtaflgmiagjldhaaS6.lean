/- segment: commonFactor, distance, Enter, Leave. -/
import Derived.Test.YtaflgmiagjldhaaS5
set_option linter.unusedVariables false
set_option linter.unusedSimpArgs false
namespace Go.Proofs.Ytaflgmiagjldhaa
open Go Go.RowKit Hd

theorem gcd_next {a b : Int} (ha : 0 ≤ a) (hb : 1 ≤ b) : Nat.gcd b.natAbs (a % b).natAbs = Nat.gcd a.natAbs b.natAbs := by
  obtain ⟨n, rfl⟩ := Int.eq_ofNat_of_zero_le ha
  obtain ⟨m, rfl⟩ := Int.eq_ofNat_of_zero_le (show 0 ≤ b by omega)
  rw [← Int.natCast_emod, Int.natAbs_natCast, Int.natAbs_natCast, Int.natAbs_natCast, Nat.gcd_comm n m, Nat.gcd_rec m n, Nat.gcd_comm]

set_option maxHeartbeats 400000 in
theorem commonFactor_any (a b : Int) (w : World) (h1 : 0 ≤ a) (h2 : a ≤ 9223372036854775807) (h3 : 0 ≤ b) (h4 : b ≤ 9223372036854775807) :
    Calls Try.prog 59 #[.int .i64 a, .int .i64 b] w fun e w' => e = .returned (.int .i64 (Nat.gcd a.natAbs b.natAbs : Nat)) ∧ Below w.heap.size w w' := by
  obtain ⟨g, hg⟩ : ∃ g, Nat.gcd a.natAbs b.natAbs = g := ⟨_, rfl⟩
  rw [hg]
  have HG := Lib.hid hg
  clear hg
  go_enter Try.func59, Try.ntmps59
  go_wp2
  go_loopw [0, 1] (fun va vb wr => ∃ (x y : Int) (n : Nat), va = .int .i64 x ∧ vb = .int .i64 y ∧ 0 ≤ x ∧ x ≤ 9223372036854775807 ∧ 0 ≤ y ∧ y ≤ 9223372036854775807 ∧ Hid (Nat.gcd x.natAbs y.natAbs = g) ∧ wr = w.drewN n) (fun _ vb _ => (intOf vb).toNat)
  case atStart => exact ⟨a, b, 0, rfl, rfl, by omega, by omega, by omega, by omega, HG, rfl⟩
  case round =>
    obtain ⟨x, y, n, rfl, rfl, x0, x1, y0, y1, hg, rfl⟩ := hrel
    by_cases hy : y = 0
    · subst hy
      have HE : Hid ((x : Int) = (g : Int)) := by have := hg.out; rw [Int.natAbs_zero, Nat.gcd_zero_right] at this; unfold Hid; omega
      go_wp2
      go_ret
      exact ⟨by rw [HE.out]; rfl, bel_drewN (Below.refl _ _) _⟩
    · have hb : (y == 0) = false := by simpa using hy
      have hm := Int.emod_lt_of_pos x (show 0 < y by omega)
      have hn := Int.emod_nonneg x hy
      have HN := Lib.hid ((gcd_next x0 (show 1 ≤ y by omega)).trans hg.out)
      go_wp2
      go_region
      go_wp2
      go_roundw
      case rel => exact ⟨y, x % y, n + 1, rfl, rfl, by omega, by omega, by omega, by omega, HN, rfl⟩
      case measure => simp [intOf]; omega

set_option maxHeartbeats 400000 in
theorem Rgcd_any (a b : Int) (w : World) (h1 : 0 ≤ a) (h2 : a ≤ 9223372036854775807) (h3 : 0 ≤ b) (h4 : b ≤ 9223372036854775807) :
    Calls Try.prog 62 #[.int .i64 a, .int .i64 b] w fun e w' => e = .returned (.int .i64 (Nat.gcd a.natAbs b.natAbs : Nat)) ∧ Below w.heap.size w w' := by
  obtain ⟨g, hg⟩ : ∃ g, Nat.gcd a.natAbs b.natAbs = g := ⟨_, rfl⟩
  rw [hg]
  have HG := Lib.hid hg
  clear hg
  go_enter Try.func62, Try.ntmps62
  go_wp2
  go_loopw [0, 1] (fun va vb wr => ∃ (x y : Int) (n : Nat), va = .int .i64 x ∧ vb = .int .i64 y ∧ 0 ≤ x ∧ x ≤ 9223372036854775807 ∧ 0 ≤ y ∧ y ≤ 9223372036854775807 ∧ Hid (Nat.gcd x.natAbs y.natAbs = g) ∧ wr = w.drewN n) (fun _ vb _ => (intOf vb).toNat)
  case atStart => exact ⟨a, b, 0, rfl, rfl, by omega, by omega, by omega, by omega, HG, rfl⟩
  case round =>
    obtain ⟨x, y, n, rfl, rfl, x0, x1, y0, y1, hg, rfl⟩ := hrel
    by_cases hy : y = 0
    · subst hy
      have HE : Hid ((x : Int) = (g : Int)) := by have := hg.out; rw [Int.natAbs_zero, Nat.gcd_zero_right] at this; unfold Hid; omega
      have hz : ¬ (0 : Int) < 0 := by omega
      go_wp2
      go_ret
      exact ⟨by rw [HE.out]; rfl, bel_drewN (Below.refl _ _) _⟩
    · have hb : 0 < y := by omega
      have hm := Int.emod_lt_of_pos x (show 0 < y by omega)
      have hn := Int.emod_nonneg x hy
      have HN := Lib.hid ((gcd_next x0 (show 1 ≤ y by omega)).trans hg.out)
      go_wp2
      go_region
      go_wp2
      go_roundw
      case rel => exact ⟨y, x % y, n + 1, rfl, rfl, by omega, by omega, by omega, by omega, HN, rfl⟩
      case measure => simp [intOf]; omega

theorem gg_at {n d g : Int} (h : gg n d = g) (n0 : 0 ≤ n) (n1 : n ≤ 9223372036854775807) (d0 : 0 ≤ d) (d1 : d ≤ 9223372036854775807) (w : World) :
    Calls Try.prog 59 #[.int .i64 d, .int .i64 n] w fun e w' => e = .returned (.int .i64 g) ∧ Below w.heap.size w w' := h ▸ commonFactor_any d n w d0 d1 n0 n1
theorem Rgg_at {n d g : Int} (h : gg n d = g) (n0 : 0 ≤ n) (n1 : n ≤ 9223372036854775807) (d0 : 0 ≤ d) (d1 : d ≤ 9223372036854775807) (w : World) :
    Calls Try.prog 62 #[.int .i64 n, .int .i64 d] w fun e w' => e = .returned (.int .i64 g) ∧ Below w.heap.size w w' := by
  have c := Rgcd_any n d w n0 n1 d0 d1
  rw [Nat.gcd_comm] at c
  exact h ▸ c

set_option maxRecDepth 100000 in
set_option maxHeartbeats 4000000 in
theorem distance_any (m k n d : Int) (hn : n = m * k) (n0 : 0 ≤ n) (n1 : n ≤ 9223372036854775807) (d0 : 1 ≤ d) (d1 : d ≤ 9223372036854775807) (w : World) :
    Calls Try.prog 35 #[.agg #[.int .i64 m, .int .i64 d], .int .i64 k] w fun e w' => e = .returned (.agg #[.int .i64 (lwN n d), .int .i64 (lwD n d)]) ∧ Below w.heap.size w w' := by
  obtain ⟨g, hg⟩ : ∃ g, gg n d = g := ⟨_, rfl⟩
  have hg1 : 1 ≤ g := hg ▸ gg_pos d0
  have HG := Lib.hid (fun w => gg_at hg n0 n1 (by omega) d1 w)
  rw [show lwN n d = n.tdiv g from by unfold lwN; rw [hg], show lwD n d = d.tdiv g from by unfold lwD; rw [hg]]
  have q1 : 0 ≤ n.tdiv g := Int.tdiv_nonneg n0 (by omega)
  have q2 : n.tdiv g ≤ n := by rw [Int.tdiv_eq_ediv_of_nonneg n0]; exact Int.ediv_le_self _ n0
  have q3 : 0 ≤ d.tdiv g := Int.tdiv_nonneg (by omega) (by omega)
  have q4 : d.tdiv g ≤ d := by rw [Int.tdiv_eq_ediv_of_nonneg (by omega)]; exact Int.ediv_le_self _ (by omega)
  clear hg
  have gne : (g == 0) = false := by rw [beq_eq_false_iff_ne]; omega
  subst hn
  obtain ⟨HB, B_t, B_z⟩ := box2 w 32 #[.int .i64 m, .int .i64 d] 32 #[.int .i64 0, .int .i64 0]
  go_enter Try.func35, Try.ntmps35
  go_upto_region 1 with (fail)
  generalize (w.alloc (.cells #[.int .i64 m, .int .i64 d] 32)).alloc (.cells #[.int .i64 0, .int .i64 0] 32) = W0 at *
  obtain ⟨c0t, c1t⟩ := cells2 B_t
  go_wp2_with fail
  refine (HG.out _).mono ?_
  clear c0t c1t
  rintro e w1 ⟨rfl, bb⟩
  replace bb := nextw (w0 := W0) (by exact sm) bb
  replace B_t := mv B_t bb
  replace B_z := mv B_z bb
  replace HB := nx HB bb
  clear bb
  go_upto_region 3 with (fail)
  obtain ⟨c0t, c1t⟩ := cells2 B_t
  obtain ⟨c0z, c1z⟩ := cells2 B_z
  obtain ⟨f0z, f1z⟩ := froz2 B_z
  go_region
  clear c0t c1t c0z c1z f0z f1z
  obtain ⟨s0, s1⟩ := cells2 (stor2 B_z (.int .i64 ((m * k).tdiv g)) (.int .i64 (d.tdiv g)))
  have HF := stb2 HB (y := w.heap.size + 1) (by omega) 0 (.int .i64 ((m * k).tdiv g)) 1 (.int .i64 (d.tdiv g))
  obtain ⟨c0z, c1z⟩ := cells2 B_z
  obtain ⟨f0z, f1z⟩ := froz2 B_z
  go_wp2_with fail
  exact bodyPost_ret (v := .agg #[.int .i64 ((m * k).tdiv g), .int .i64 (d.tdiv g)]) (by simp [results, Try.results35, go_sem, s0, s1]) rfl ⟨rfl, nextw HF.out (by exact sm)⟩

set_option maxRecDepth 100000 in
set_option maxHeartbeats 4000000 in
theorem Lowest_any (n d : Int) (n0 : 0 ≤ n) (n1 : n ≤ 9223372036854775807) (d0 : 1 ≤ d) (d1 : d ≤ 9223372036854775807) (w : World) :
    Calls Try.prog 38 #[.int .i64 n, .int .i64 d] w fun e w' => e = .returned (.agg #[.int .i64 (lwN n d), .int .i64 (lwD n d)]) ∧ Below w.heap.size w w' := by
  obtain ⟨g, hg⟩ : ∃ g, gg n d = g := ⟨_, rfl⟩
  have hg1 : 1 ≤ g := hg ▸ gg_pos d0
  have HG := Lib.hid (fun w => Rgg_at hg n0 n1 (by omega) d1 w)
  rw [show lwN n d = n.tdiv g from by unfold lwN; rw [hg], show lwD n d = d.tdiv g from by unfold lwD; rw [hg]]
  have q1 : 0 ≤ n.tdiv g := Int.tdiv_nonneg n0 (by omega)
  have q2 : n.tdiv g ≤ n := by rw [Int.tdiv_eq_ediv_of_nonneg n0]; exact Int.ediv_le_self _ n0
  have q3 : 0 ≤ d.tdiv g := Int.tdiv_nonneg (by omega) (by omega)
  have q4 : d.tdiv g ≤ d := by rw [Int.tdiv_eq_ediv_of_nonneg (by omega)]; exact Int.ediv_le_self _ (by omega)
  clear hg
  have gne : (g == 0) = false := by rw [beq_eq_false_iff_ne]; omega
  obtain ⟨HB, B_z⟩ := box1 w 32 #[.int .i64 0, .int .i64 0]
  go_enter Try.func38, Try.ntmps38
  go_upto_region 1 with (fail)
  generalize w.alloc (.cells #[.int .i64 0, .int .i64 0] 32) = W0 at *
  go_wp2_with fail
  refine (HG.out _).mono ?_
  rintro e w1 ⟨rfl, bb⟩
  replace bb := nextw (w0 := W0) (by exact sm) bb
  replace B_z := mv B_z bb
  replace HB := nx HB bb
  clear bb
  go_upto_region 2 with (fail)
  obtain ⟨c0z, c1z⟩ := cells2 B_z
  obtain ⟨f0z, f1z⟩ := froz2 B_z
  go_region
  clear c0z c1z f0z f1z
  obtain ⟨s0, s1⟩ := cells2 (stor2 B_z (.int .i64 (n.tdiv g)) (.int .i64 (d.tdiv g)))
  have HF := stb2 HB (y := w.heap.size) (by omega) 0 (.int .i64 (n.tdiv g)) 1 (.int .i64 (d.tdiv g))
  obtain ⟨c0z, c1z⟩ := cells2 B_z
  obtain ⟨f0z, f1z⟩ := froz2 B_z
  go_wp2_with fail
  exact bodyPost_ret (v := .agg #[.int .i64 (n.tdiv g), .int .i64 (d.tdiv g)]) (by simp [results, Try.results38, go_sem, s0, s1]) rfl ⟨rfl, nextw HF.out (by exact sm)⟩

theorem dist_bd {i d : Int} (i0 : 0 ≤ i) (i1 : i ≤ 4194304) (d0 : 1 ≤ d) (d1 : d ≤ 67108864) : 0 ≤ i * d ∧ i * d ≤ 281474976710656 :=
  ⟨Int.mul_nonneg i0 (by omega), (bnd (a := i) (b := d) (by omega) i1 (by omega) d1).2⟩
theorem visB_wf {a b x y d x0 y0 x1 y1 : Int} (h : visB a b x y d x0 y0 x1 y1 = true) : Ok3 a b x y d x0 y0 x1 y1 ∧ Wf (visS a b x y d x0 y0 x1 y1) ∧ 1 ≤ (visS a b x y d x0 y0 x1 y1).u ∧ ∀ t m, 1 ≤ m → (InS (visS a b x y d x0 y0 x1 y1) t m ↔ Hit a b x y x0 y0 x1 y1 t m) := by
  unfold visB at h
  rw [Bool.and_eq_true, decide_eq_true_eq] at h
  obtain ⟨hk, hp⟩ := h
  unfold visS
  rw [if_pos hk]
  rcases pas_sem a b x y x0 y0 x1 y1 with ⟨-, h1, h2, h3⟩ | ⟨h1, -⟩
  · refine ⟨hk, h1, h2 ?_, h3⟩
    have := hk.2.1.eq
    have := hk.2.1.lo
    by_cases hx : x = 0
    · by_cases hy : y = 0
      · subst hx hy
        have := Int.mul_pos (show 0 < d by omega) (show 0 < d by omega)
        omega
      · exact .inr hy
    · exact .inl hx
  · rw [hp] at h1; cases h1
theorem visB_no {a b x y d x0 y0 x1 y1 : Int} (hk : Ok3 a b x y d x0 y0 x1 y1) (h : visB a b x y d x0 y0 x1 y1 = false) (t m : Int) (hm : 1 ≤ m) : ¬ Hit a b x y x0 y0 x1 y1 t m := by
  unfold visB at h
  rw [decide_eq_true hk, Bool.true_and] at h
  rcases pas_sem a b x y x0 y0 x1 y1 with ⟨h1, -⟩ | ⟨-, h1⟩
  · rw [h] at h1; cases h1
  · exact h1 t m hm
theorem wf_o {s : Sp} (h : Wf s) (hu : 1 ≤ s.u) : 0 ≤ s.o := by
  have := Int.mul_nonneg h.i0 h.u0
  have := h.ne
  have := h.j1
  rcases Int.lt_or_le s.o 0 with h1 | h1
  · have := Int.mul_pos_of_neg_of_neg h1 (show -s.j < 0 by omega)
    rw [Int.mul_neg] at this; omega
  · exact h1
/-- Enter and Leave. -/
def enN (a b x y d x0 y0 x1 y1 : Int) : Int := if visB a b x y d x0 y0 x1 y1 = true then lwN ((visS a b x y d x0 y0 x1 y1).i * d) (visS a b x y d x0 y0 x1 y1).j else 0
def enD (a b x y d x0 y0 x1 y1 : Int) : Int := if visB a b x y d x0 y0 x1 y1 = true then lwD ((visS a b x y d x0 y0 x1 y1).i * d) (visS a b x y d x0 y0 x1 y1).j else 0
def leN (a b x y d x0 y0 x1 y1 : Int) : Int := if visB a b x y d x0 y0 x1 y1 = true then lwN ((visS a b x y d x0 y0 x1 y1).o * d) (visS a b x y d x0 y0 x1 y1).u else 0
def leD (a b x y d x0 y0 x1 y1 : Int) : Int := if visB a b x y d x0 y0 x1 y1 = true then lwD ((visS a b x y d x0 y0 x1 y1).o * d) (visS a b x y d x0 y0 x1 y1).u else 0

set_option maxRecDepth 100000 in
set_option maxHeartbeats 4000000 in
theorem Enter_f (a b x y d x0 y0 x1 y1 : Int) (h : visB a b x y d x0 y0 x1 y1 = false) (w : World) :
    Calls Try.prog 13 #[.agg #[.int .i64 a, .int .i64 b], .agg #[.int .i64 x, .int .i64 y, .int .i64 d], .agg #[.int .i64 x0, .int .i64 y0, .int .i64 x1, .int .i64 y1]] w fun e w' => e = .returned (.tuple #[.agg #[.int .i64 (enN a b x y d x0 y0 x1 y1), .int .i64 (enD a b x y d x0 y0 x1 y1)], .bool (visB a b x y d x0 y0 x1 y1)]) ∧ Below w.heap.size w w' := by
  have HV := Lib.hid (fun w => visit_any a b x y d x0 y0 x1 y1 w)
  have bd := visS_bd a b x y d x0 y0 x1 y1
  rw [show enN a b x y d x0 y0 x1 y1 = 0 from if_neg (by rw [h]; decide), show enD a b x y d x0 y0 x1 y1 = 0 from if_neg (by rw [h]; decide)]
  rw [h] at HV ⊢
  generalize visS a b x y d x0 y0 x1 y1 = S1 at *
  obtain ⟨i1, j1, o1, u1⟩ := S1
  obtain ⟨b1, b2, b3, b4, b5, b6, b7, b8⟩ := bd
  dsimp only at *
  clear h
  obtain ⟨HB, B_p, B_v, B_r, B_z⟩ := box4 w 23 #[.int .i64 a, .int .i64 b] 25 #[.int .i64 x, .int .i64 y, .int .i64 d] 29 #[.int .i64 x0, .int .i64 y0, .int .i64 x1, .int .i64 y1] 32 #[.int .i64 0, .int .i64 0]
  go_enter Try.func13, Try.ntmps13
  go_wp2_with fail
  generalize (((w.alloc (.cells #[.int .i64 a, .int .i64 b] 23)).alloc (.cells #[.int .i64 x, .int .i64 y, .int .i64 d] 25)).alloc (.cells #[.int .i64 x0, .int .i64 y0, .int .i64 x1, .int .i64 y1] 29)).alloc (.cells #[.int .i64 0, .int .i64 0] 32) = W0 at *
  obtain ⟨c0p, c1p⟩ := cells2 B_p
  obtain ⟨c0v, c1v, c2v⟩ := cells3 B_v
  obtain ⟨c0r, c1r, c2r, c3r⟩ := cells4 B_r
  refine (HV.out _).mono ?_
  clear c0p c1p c0v c1v c2v c0r c1r c2r c3r
  rintro e w1 ⟨rfl, bb⟩
  replace bb := nextw (w0 := W0) (by exact sm) bb
  replace B_p := mv B_p bb
  replace B_v := mv B_v bb
  replace B_r := mv B_r bb
  replace B_z := mv B_z bb
  replace HB := nx HB bb
  clear bb
  have lt_sp := B_p.out.lt
  have lt_sv := B_v.out.lt
  have lt_sr := B_r.out.lt
  have lt_sz := B_z.out.lt
  obtain ⟨bb, B_s⟩ := box1 w1 61 #[.int .i64 i1, .int .i64 j1, .int .i64 o1, .int .i64 u1]
  replace bb := bb.out
  replace B_p := mv B_p bb
  replace B_v := mv B_v bb
  replace B_r := mv B_r bb
  replace B_z := mv B_z bb
  replace HB := nx HB bb
  clear bb
  go_upto_region 2 with (fail)
  generalize w1.alloc (.cells #[.int .i64 i1, .int .i64 j1, .int .i64 o1, .int .i64 u1] 61) = WS at *
  obtain ⟨s0, s1⟩ := cells2 (stor2 B_z (.int .i64 0) (.int .i64 0))
  have HF := stb2 HB (y := w.heap.size + 1 + 1 + 1) (by omega) 0 (.int .i64 0) 1 (.int .i64 0)
  obtain ⟨c0z, c1z⟩ := cells2 B_z
  obtain ⟨f0z, f1z⟩ := froz2 B_z
  go_wp2_with fail
  exact bodyPost_ret (v := .tuple #[.agg #[.int .i64 0, .int .i64 0], .bool false]) (by simp [results, Try.results13, go_sem, s0, s1]) rfl ⟨rfl, nextw HF.out (by exact sm)⟩

set_option maxRecDepth 100000 in
set_option maxHeartbeats 4000000 in
theorem Enter_t (a b x y d x0 y0 x1 y1 : Int) (h : visB a b x y d x0 y0 x1 y1 = true) (w : World) :
    Calls Try.prog 13 #[.agg #[.int .i64 a, .int .i64 b], .agg #[.int .i64 x, .int .i64 y, .int .i64 d], .agg #[.int .i64 x0, .int .i64 y0, .int .i64 x1, .int .i64 y1]] w fun e w' => e = .returned (.tuple #[.agg #[.int .i64 (enN a b x y d x0 y0 x1 y1), .int .i64 (enD a b x y d x0 y0 x1 y1)], .bool (visB a b x y d x0 y0 x1 y1)]) ∧ Below w.heap.size w w' := by
  have HV := Lib.hid (fun w => visit_any a b x y d x0 y0 x1 y1 w)
  have bd := visS_bd a b x y d x0 y0 x1 y1
  rw [show enN a b x y d x0 y0 x1 y1 = lwN ((visS a b x y d x0 y0 x1 y1).i * d) (visS a b x y d x0 y0 x1 y1).j from if_pos h, show enD a b x y d x0 y0 x1 y1 = lwD ((visS a b x y d x0 y0 x1 y1).i * d) (visS a b x y d x0 y0 x1 y1).j from if_pos h]
  obtain ⟨hk, hw, hu, -⟩ := visB_wf h
  have e1 := hk.2.1.lo
  have e2 := hk.2.1.hi
  have e3 := hw.j1
  have e4 := hw.i0
  have e5 := wf_o hw hu
  clear hw hk
  rw [h] at HV ⊢
  generalize visS a b x y d x0 y0 x1 y1 = S1 at *
  obtain ⟨i1, j1, o1, u1⟩ := S1
  obtain ⟨b1, b2, b3, b4, b5, b6, b7, b8⟩ := bd
  dsimp only at *
  clear h
  have bb := dist_bd (i := i1) (d := d) (by omega) (by omega) e1 e2
  have HD := Lib.hid (fun w => distance_any i1 d (i1 * d) j1 rfl bb.1 (by omega) (by omega) (by omega) w)
  generalize lwN (i1 * d) j1 = N1 at *
  generalize lwD (i1 * d) j1 = D1 at *
  clear bb b1 b2 b3 b4 b5 b6 b7 b8 e1 e2 e3 e4 e5
  obtain ⟨HB, B_p, B_v, B_r, B_z⟩ := box4 w 23 #[.int .i64 a, .int .i64 b] 25 #[.int .i64 x, .int .i64 y, .int .i64 d] 29 #[.int .i64 x0, .int .i64 y0, .int .i64 x1, .int .i64 y1] 32 #[.int .i64 0, .int .i64 0]
  go_enter Try.func13, Try.ntmps13
  go_wp2_with fail
  generalize (((w.alloc (.cells #[.int .i64 a, .int .i64 b] 23)).alloc (.cells #[.int .i64 x, .int .i64 y, .int .i64 d] 25)).alloc (.cells #[.int .i64 x0, .int .i64 y0, .int .i64 x1, .int .i64 y1] 29)).alloc (.cells #[.int .i64 0, .int .i64 0] 32) = W0 at *
  obtain ⟨c0p, c1p⟩ := cells2 B_p
  obtain ⟨c0v, c1v, c2v⟩ := cells3 B_v
  obtain ⟨c0r, c1r, c2r, c3r⟩ := cells4 B_r
  refine (HV.out _).mono ?_
  clear c0p c1p c0v c1v c2v c0r c1r c2r c3r
  rintro e w1 ⟨rfl, bb⟩
  replace bb := nextw (w0 := W0) (by exact sm) bb
  replace B_p := mv B_p bb
  replace B_v := mv B_v bb
  replace B_r := mv B_r bb
  replace B_z := mv B_z bb
  replace HB := nx HB bb
  clear bb
  have lt_sp := B_p.out.lt
  have lt_sv := B_v.out.lt
  have lt_sr := B_r.out.lt
  have lt_sz := B_z.out.lt
  obtain ⟨bb, B_s⟩ := box1 w1 61 #[.int .i64 i1, .int .i64 j1, .int .i64 o1, .int .i64 u1]
  replace bb := bb.out
  replace B_p := mv B_p bb
  replace B_v := mv B_v bb
  replace B_r := mv B_r bb
  replace B_z := mv B_z bb
  replace HB := nx HB bb
  clear bb
  go_upto_region 2 with (fail)
  generalize w1.alloc (.cells #[.int .i64 i1, .int .i64 j1, .int .i64 o1, .int .i64 u1] 61) = WS at *
  go_upto_region 4 with (fail)
  obtain ⟨c0s, c1s, c2s, c3s⟩ := cells4 B_s
  obtain ⟨c0v, c1v, c2v⟩ := cells3 B_v
  go_wp2_with fail
  refine (HD.out _).mono ?_
  clear c0s c1s c2s c3s c0v c1v c2v
  rintro e w2 ⟨rfl, bb⟩
  replace bb := nextw (w0 := WS) (by exact sm) bb
  replace B_p := mv B_p bb
  replace B_v := mv B_v bb
  replace B_r := mv B_r bb
  replace B_z := mv B_z bb
  replace B_s := mv B_s bb
  replace HB := nx HB bb
  clear bb
  obtain ⟨s0, s1⟩ := cells2 (stor2 B_z (.int .i64 N1) (.int .i64 D1))
  have HF := stb2 HB (y := w.heap.size + 1 + 1 + 1) (by omega) 0 (.int .i64 N1) 1 (.int .i64 D1)
  obtain ⟨c0z, c1z⟩ := cells2 B_z
  obtain ⟨f0z, f1z⟩ := froz2 B_z
  go_wp2_with fail
  exact bodyPost_ret (v := .tuple #[.agg #[.int .i64 N1, .int .i64 D1], .bool true]) (by simp [results, Try.results13, go_sem, s0, s1]) rfl ⟨rfl, nextw HF.out (by exact sm)⟩

theorem Enter_any (a b x y d x0 y0 x1 y1 : Int) (w : World) : Calls Try.prog 13 #[.agg #[.int .i64 a, .int .i64 b], .agg #[.int .i64 x, .int .i64 y, .int .i64 d], .agg #[.int .i64 x0, .int .i64 y0, .int .i64 x1, .int .i64 y1]] w fun e w' => e = .returned (.tuple #[.agg #[.int .i64 (enN a b x y d x0 y0 x1 y1), .int .i64 (enD a b x y d x0 y0 x1 y1)], .bool (visB a b x y d x0 y0 x1 y1)]) ∧ Below w.heap.size w w' := by
  rcases h : visB a b x y d x0 y0 x1 y1 with _ | _
  · exact h ▸ Enter_f a b x y d x0 y0 x1 y1 h w
  · exact h ▸ Enter_t a b x y d x0 y0 x1 y1 h w

set_option maxRecDepth 100000 in
set_option maxHeartbeats 4000000 in
theorem Leave_f (a b x y d x0 y0 x1 y1 : Int) (h : visB a b x y d x0 y0 x1 y1 = false) (w : World) :
    Calls Try.prog 14 #[.agg #[.int .i64 a, .int .i64 b], .agg #[.int .i64 x, .int .i64 y, .int .i64 d], .agg #[.int .i64 x0, .int .i64 y0, .int .i64 x1, .int .i64 y1]] w fun e w' => e = .returned (.tuple #[.agg #[.int .i64 (leN a b x y d x0 y0 x1 y1), .int .i64 (leD a b x y d x0 y0 x1 y1)], .bool (visB a b x y d x0 y0 x1 y1)]) ∧ Below w.heap.size w w' := by
  have HV := Lib.hid (fun w => visit_any a b x y d x0 y0 x1 y1 w)
  have bd := visS_bd a b x y d x0 y0 x1 y1
  rw [show leN a b x y d x0 y0 x1 y1 = 0 from if_neg (by rw [h]; decide), show leD a b x y d x0 y0 x1 y1 = 0 from if_neg (by rw [h]; decide)]
  rw [h] at HV ⊢
  generalize visS a b x y d x0 y0 x1 y1 = S1 at *
  obtain ⟨i1, j1, o1, u1⟩ := S1
  obtain ⟨b1, b2, b3, b4, b5, b6, b7, b8⟩ := bd
  dsimp only at *
  clear h
  obtain ⟨HB, B_p, B_v, B_r, B_z⟩ := box4 w 23 #[.int .i64 a, .int .i64 b] 25 #[.int .i64 x, .int .i64 y, .int .i64 d] 29 #[.int .i64 x0, .int .i64 y0, .int .i64 x1, .int .i64 y1] 32 #[.int .i64 0, .int .i64 0]
  go_enter Try.func14, Try.ntmps14
  go_wp2_with fail
  generalize (((w.alloc (.cells #[.int .i64 a, .int .i64 b] 23)).alloc (.cells #[.int .i64 x, .int .i64 y, .int .i64 d] 25)).alloc (.cells #[.int .i64 x0, .int .i64 y0, .int .i64 x1, .int .i64 y1] 29)).alloc (.cells #[.int .i64 0, .int .i64 0] 32) = W0 at *
  obtain ⟨c0p, c1p⟩ := cells2 B_p
  obtain ⟨c0v, c1v, c2v⟩ := cells3 B_v
  obtain ⟨c0r, c1r, c2r, c3r⟩ := cells4 B_r
  refine (HV.out _).mono ?_
  clear c0p c1p c0v c1v c2v c0r c1r c2r c3r
  rintro e w1 ⟨rfl, bb⟩
  replace bb := nextw (w0 := W0) (by exact sm) bb
  replace B_p := mv B_p bb
  replace B_v := mv B_v bb
  replace B_r := mv B_r bb
  replace B_z := mv B_z bb
  replace HB := nx HB bb
  clear bb
  have lt_sp := B_p.out.lt
  have lt_sv := B_v.out.lt
  have lt_sr := B_r.out.lt
  have lt_sz := B_z.out.lt
  obtain ⟨bb, B_s⟩ := box1 w1 61 #[.int .i64 i1, .int .i64 j1, .int .i64 o1, .int .i64 u1]
  replace bb := bb.out
  replace B_p := mv B_p bb
  replace B_v := mv B_v bb
  replace B_r := mv B_r bb
  replace B_z := mv B_z bb
  replace HB := nx HB bb
  clear bb
  go_upto_region 2 with (fail)
  generalize w1.alloc (.cells #[.int .i64 i1, .int .i64 j1, .int .i64 o1, .int .i64 u1] 61) = WS at *
  obtain ⟨s0, s1⟩ := cells2 (stor2 B_z (.int .i64 0) (.int .i64 0))
  have HF := stb2 HB (y := w.heap.size + 1 + 1 + 1) (by omega) 0 (.int .i64 0) 1 (.int .i64 0)
  obtain ⟨c0z, c1z⟩ := cells2 B_z
  obtain ⟨f0z, f1z⟩ := froz2 B_z
  go_wp2_with fail
  exact bodyPost_ret (v := .tuple #[.agg #[.int .i64 0, .int .i64 0], .bool false]) (by simp [results, Try.results14, go_sem, s0, s1]) rfl ⟨rfl, nextw HF.out (by exact sm)⟩

set_option maxRecDepth 100000 in
set_option maxHeartbeats 4000000 in
theorem Leave_t (a b x y d x0 y0 x1 y1 : Int) (h : visB a b x y d x0 y0 x1 y1 = true) (w : World) :
    Calls Try.prog 14 #[.agg #[.int .i64 a, .int .i64 b], .agg #[.int .i64 x, .int .i64 y, .int .i64 d], .agg #[.int .i64 x0, .int .i64 y0, .int .i64 x1, .int .i64 y1]] w fun e w' => e = .returned (.tuple #[.agg #[.int .i64 (leN a b x y d x0 y0 x1 y1), .int .i64 (leD a b x y d x0 y0 x1 y1)], .bool (visB a b x y d x0 y0 x1 y1)]) ∧ Below w.heap.size w w' := by
  have HV := Lib.hid (fun w => visit_any a b x y d x0 y0 x1 y1 w)
  have bd := visS_bd a b x y d x0 y0 x1 y1
  rw [show leN a b x y d x0 y0 x1 y1 = lwN ((visS a b x y d x0 y0 x1 y1).o * d) (visS a b x y d x0 y0 x1 y1).u from if_pos h, show leD a b x y d x0 y0 x1 y1 = lwD ((visS a b x y d x0 y0 x1 y1).o * d) (visS a b x y d x0 y0 x1 y1).u from if_pos h]
  obtain ⟨hk, hw, hu, -⟩ := visB_wf h
  have e1 := hk.2.1.lo
  have e2 := hk.2.1.hi
  have e3 := hw.j1
  have e4 := hw.i0
  have e5 := wf_o hw hu
  clear hw hk
  rw [h] at HV ⊢
  generalize visS a b x y d x0 y0 x1 y1 = S1 at *
  obtain ⟨i1, j1, o1, u1⟩ := S1
  obtain ⟨b1, b2, b3, b4, b5, b6, b7, b8⟩ := bd
  dsimp only at *
  clear h
  have bb := dist_bd (i := o1) (d := d) (by omega) (by omega) e1 e2
  have HD := Lib.hid (fun w => distance_any o1 d (o1 * d) u1 rfl bb.1 (by omega) (by omega) (by omega) w)
  generalize lwN (o1 * d) u1 = N1 at *
  generalize lwD (o1 * d) u1 = D1 at *
  clear bb b1 b2 b3 b4 b5 b6 b7 b8 e1 e2 e3 e4 e5
  obtain ⟨HB, B_p, B_v, B_r, B_z⟩ := box4 w 23 #[.int .i64 a, .int .i64 b] 25 #[.int .i64 x, .int .i64 y, .int .i64 d] 29 #[.int .i64 x0, .int .i64 y0, .int .i64 x1, .int .i64 y1] 32 #[.int .i64 0, .int .i64 0]
  go_enter Try.func14, Try.ntmps14
  go_wp2_with fail
  generalize (((w.alloc (.cells #[.int .i64 a, .int .i64 b] 23)).alloc (.cells #[.int .i64 x, .int .i64 y, .int .i64 d] 25)).alloc (.cells #[.int .i64 x0, .int .i64 y0, .int .i64 x1, .int .i64 y1] 29)).alloc (.cells #[.int .i64 0, .int .i64 0] 32) = W0 at *
  obtain ⟨c0p, c1p⟩ := cells2 B_p
  obtain ⟨c0v, c1v, c2v⟩ := cells3 B_v
  obtain ⟨c0r, c1r, c2r, c3r⟩ := cells4 B_r
  refine (HV.out _).mono ?_
  clear c0p c1p c0v c1v c2v c0r c1r c2r c3r
  rintro e w1 ⟨rfl, bb⟩
  replace bb := nextw (w0 := W0) (by exact sm) bb
  replace B_p := mv B_p bb
  replace B_v := mv B_v bb
  replace B_r := mv B_r bb
  replace B_z := mv B_z bb
  replace HB := nx HB bb
  clear bb
  have lt_sp := B_p.out.lt
  have lt_sv := B_v.out.lt
  have lt_sr := B_r.out.lt
  have lt_sz := B_z.out.lt
  obtain ⟨bb, B_s⟩ := box1 w1 61 #[.int .i64 i1, .int .i64 j1, .int .i64 o1, .int .i64 u1]
  replace bb := bb.out
  replace B_p := mv B_p bb
  replace B_v := mv B_v bb
  replace B_r := mv B_r bb
  replace B_z := mv B_z bb
  replace HB := nx HB bb
  clear bb
  go_upto_region 2 with (fail)
  generalize w1.alloc (.cells #[.int .i64 i1, .int .i64 j1, .int .i64 o1, .int .i64 u1] 61) = WS at *
  go_upto_region 4 with (fail)
  obtain ⟨c0s, c1s, c2s, c3s⟩ := cells4 B_s
  obtain ⟨c0v, c1v, c2v⟩ := cells3 B_v
  go_wp2_with fail
  refine (HD.out _).mono ?_
  clear c0s c1s c2s c3s c0v c1v c2v
  rintro e w2 ⟨rfl, bb⟩
  replace bb := nextw (w0 := WS) (by exact sm) bb
  replace B_p := mv B_p bb
  replace B_v := mv B_v bb
  replace B_r := mv B_r bb
  replace B_z := mv B_z bb
  replace B_s := mv B_s bb
  replace HB := nx HB bb
  clear bb
  obtain ⟨s0, s1⟩ := cells2 (stor2 B_z (.int .i64 N1) (.int .i64 D1))
  have HF := stb2 HB (y := w.heap.size + 1 + 1 + 1) (by omega) 0 (.int .i64 N1) 1 (.int .i64 D1)
  obtain ⟨c0z, c1z⟩ := cells2 B_z
  obtain ⟨f0z, f1z⟩ := froz2 B_z
  go_wp2_with fail
  exact bodyPost_ret (v := .tuple #[.agg #[.int .i64 N1, .int .i64 D1], .bool true]) (by simp [results, Try.results14, go_sem, s0, s1]) rfl ⟨rfl, nextw HF.out (by exact sm)⟩

theorem Leave_any (a b x y d x0 y0 x1 y1 : Int) (w : World) : Calls Try.prog 14 #[.agg #[.int .i64 a, .int .i64 b], .agg #[.int .i64 x, .int .i64 y, .int .i64 d], .agg #[.int .i64 x0, .int .i64 y0, .int .i64 x1, .int .i64 y1]] w fun e w' => e = .returned (.tuple #[.agg #[.int .i64 (leN a b x y d x0 y0 x1 y1), .int .i64 (leD a b x y d x0 y0 x1 y1)], .bool (visB a b x y d x0 y0 x1 y1)]) ∧ Below w.heap.size w w' := by
  rcases h : visB a b x y d x0 y0 x1 y1 with _ | _
  · exact h ▸ Leave_f a b x y d x0 y0 x1 y1 h w
  · exact h ▸ Leave_t a b x y d x0 y0 x1 y1 h w
end Go.Proofs.Ytaflgmiagjldhaa
