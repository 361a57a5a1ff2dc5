/- heading.cover, Hull. -/
import Derived.Test.YtjpdahalplkfbaaHList
namespace Go.Proofs.Ytjpdahalplkfbaa
open Go Go.RowKit Hd

/-- The number of marks from the beginning of an arc (f, c) to the end of it and of (g, d). -/
def reach (f c g d : Int) : Int := max c ((g - f) % 256 + d)
theorem residue_q {n m : Int} (h : n % 256 = m) (w : World) :
    Calls Try.prog 63 #[.int .i64 n] w fun e w' => e = .returned (.int .i64 m) ∧ w' = w := (residue_at h w).mono fun _ _ h => ⟨h.1, h.2.symm⟩

set_option maxRecDepth 100000 in
set_option maxHeartbeats 1000000 in
theorem cover_full (f c g d : Int) (ha : OkA f c) (hb : OkA g d) (h : 256 ≤ reach f c g d) (w : World) :
    Calls Try.prog 60 #[av f c, av g d] w fun e w' => e = .returned (av 0 256) ∧ Below w.heap.size w w' := by
  have a0 := ha.f0
  have a1 := ha.f1
  have a2 := ha.c0
  have a3 := ha.c1
  have b0 := hb.f0
  have b1 := hb.f1
  have b2 := hb.c0
  have b3 := hb.c1
  obtain ⟨m, hm⟩ : ∃ m, (g - f) % 256 = m := ⟨_, rfl⟩
  have m0 : 0 ≤ m := by omega
  have m1 : m < 256 := by omega
  obtain ⟨N, hN⟩ : ∃ N, (if c < m + d then m + d else c) = N := ⟨_, rfl⟩
  have HR : Hid (reach f c g d = N) := by unfold Hid reach; rw [hm, ← hN]; split <;> omega
  rw [HR.out] at h
  have n1 : 1 ≤ N := by rw [← hN]; split <;> omega
  have HI := Lib.hid hN
  have HM := Lib.hid (fun w => residue_q ((wrap_mod (g - f)).trans hm) w)
  have w1 : IntKind.i64.wrap (m + d) = m + d := by rw [IntKind.wrap_i64]; omega
  clear ha hb hm hN HR
  have HB := Lib.hid (show Below w.heap.size w (((w.alloc (.cells #[.int .i64 f, .int .i64 c] 59)).alloc (.cells #[.int .i64 g, .int .i64 d] 59)).alloc (.cells #[.int .i64 0, .int .i64 0] 59)) from ((((Below.refl _ _).alloc (by simp <;> omega) _).alloc (by simp <;> omega) _).alloc (by simp <;> omega) _))
  have B_a : Box2 (((w.alloc (.cells #[.int .i64 f, .int .i64 c] 59)).alloc (.cells #[.int .i64 g, .int .i64 d] 59)).alloc (.cells #[.int .i64 0, .int .i64 0] 59)) (w.heap.size) f c := by have h := (Box2.alloc (Box2.alloc (Box2.new w f c) (.cells #[.int .i64 g, .int .i64 d] 59)) (.cells #[.int .i64 0, .int .i64 0] 59)); simpa using h
  replace B_a := Lib.hid B_a
  have B_b : Box2 (((w.alloc (.cells #[.int .i64 f, .int .i64 c] 59)).alloc (.cells #[.int .i64 g, .int .i64 d] 59)).alloc (.cells #[.int .i64 0, .int .i64 0] 59)) (w.heap.size + 1) g d := by have h := (Box2.alloc (Box2.new (w.alloc (.cells #[.int .i64 f, .int .i64 c] 59)) g d) (.cells #[.int .i64 0, .int .i64 0] 59)); simpa using h
  replace B_b := Lib.hid B_b
  have B_r : Box2 (((w.alloc (.cells #[.int .i64 f, .int .i64 c] 59)).alloc (.cells #[.int .i64 g, .int .i64 d] 59)).alloc (.cells #[.int .i64 0, .int .i64 0] 59)) (w.heap.size + 1 + 1) 0 0 := by have h := (Box2.new ((w.alloc (.cells #[.int .i64 f, .int .i64 c] 59)).alloc (.cells #[.int .i64 g, .int .i64 d] 59)) 0 0); simpa using h
  replace B_r := Lib.hid B_r
  go_enter Try.func60, Try.ntmps60
  go_wp2_with fail
  generalize ((w.alloc (.cells #[.int .i64 f, .int .i64 c] 59)).alloc (.cells #[.int .i64 g, .int .i64 d] 59)).alloc (.cells #[.int .i64 0, .int .i64 0] 59) = W0 at *
  have c0a := B_a.out.c0
  have c1a := B_a.out.c1
  have c0b := B_b.out.c0
  have c1b := B_b.out.c1
  go_quiet ((go_at_call 63; exact Calls.quiet_of_same (HM.out _)))
  rw [HI.out]
  clear HI w1 HM
  clear c0a c1a c0b c1b
  have bb : Below W0.heap.size W0 (W0.drewN nq) := bel_drewN (Below.refl _ _) _
  generalize W0.drewN nq = w1q at *
  replace B_a := Lib.hid (Box2.below B_a.out bb B_a.out.lt)
  replace B_b := Lib.hid (Box2.below B_b.out bb B_b.out.lt)
  replace B_r := Lib.hid (Box2.below B_r.out bb B_r.out.lt)
  replace HB := Lib.hid (nextw HB.out bb)
  clear bb
  have c0a := B_a.out.c0
  have c1a := B_a.out.c1
  go_wp2_with fail
  refine (fullArc_any _).mono ?_
  clear c0a c1a
  rintro e w2 ⟨rfl, bb⟩
  replace bb := nextw (w0 := w1q) (by exact ⟨rfl, rfl, rfl, Nat.le_refl _, fun _ _ => rfl⟩) bb
  replace B_a := Lib.hid (Box2.below B_a.out bb B_a.out.lt)
  replace B_b := Lib.hid (Box2.below B_b.out bb B_b.out.lt)
  replace B_r := Lib.hid (Box2.below B_r.out bb B_r.out.lt)
  replace HB := Lib.hid (nextw HB.out bb)
  clear bb
  have sS := Box2.store B_r.out 0 256
  have s0 := sS.c0
  have s1 := sS.c1
  have HF := Lib.hid (Below.store2 HB.out (y := w.heap.size + 1 + 1) (by omega) (.int .i64 0) (.int .i64 256))
  clear sS
  have c0r := B_r.out.c0
  have f0r := B_r.out.f0
  have c1r := B_r.out.c1
  have f1r := B_r.out.f1
  go_wp2_with fail
  exact bodyPost_ret (v := .agg #[.int .i64 0, .int .i64 256]) (by simp [results, Try.results60, go_sem, s0, s1]) rfl ⟨rfl, nextw HF.out (by exact ⟨rfl, rfl, rfl, Nat.le_refl _, fun _ _ => rfl⟩)⟩

set_option maxRecDepth 100000 in
set_option maxHeartbeats 1000000 in
theorem cover_part (f c g d : Int) (ha : OkA f c) (hb : OkA g d) (h : reach f c g d < 256) (w : World) :
    Calls Try.prog 60 #[av f c, av g d] w fun e w' => e = .returned (av f (reach f c g d)) ∧ Below w.heap.size w w' := by
  have a0 := ha.f0
  have a1 := ha.f1
  have a2 := ha.c0
  have a3 := ha.c1
  have b0 := hb.f0
  have b1 := hb.f1
  have b2 := hb.c0
  have b3 := hb.c1
  obtain ⟨m, hm⟩ : ∃ m, (g - f) % 256 = m := ⟨_, rfl⟩
  have m0 : 0 ≤ m := by omega
  have m1 : m < 256 := by omega
  obtain ⟨N, hN⟩ : ∃ N, (if c < m + d then m + d else c) = N := ⟨_, rfl⟩
  have HR : Hid (reach f c g d = N) := by unfold Hid reach; rw [hm, ← hN]; split <;> omega
  rw [HR.out] at h
  rw [HR.out]
  have n1 : 1 ≤ N := by rw [← hN]; split <;> omega
  have HI := Lib.hid hN
  have HM := Lib.hid (fun w => residue_q ((wrap_mod (g - f)).trans hm) w)
  have w1 : IntKind.i64.wrap (m + d) = m + d := by rw [IntKind.wrap_i64]; omega
  clear ha hb hm hN HR
  have HB := Lib.hid (show Below w.heap.size w (((w.alloc (.cells #[.int .i64 f, .int .i64 c] 59)).alloc (.cells #[.int .i64 g, .int .i64 d] 59)).alloc (.cells #[.int .i64 0, .int .i64 0] 59)) from ((((Below.refl _ _).alloc (by simp <;> omega) _).alloc (by simp <;> omega) _).alloc (by simp <;> omega) _))
  have B_a : Box2 (((w.alloc (.cells #[.int .i64 f, .int .i64 c] 59)).alloc (.cells #[.int .i64 g, .int .i64 d] 59)).alloc (.cells #[.int .i64 0, .int .i64 0] 59)) (w.heap.size) f c := by have h := (Box2.alloc (Box2.alloc (Box2.new w f c) (.cells #[.int .i64 g, .int .i64 d] 59)) (.cells #[.int .i64 0, .int .i64 0] 59)); simpa using h
  replace B_a := Lib.hid B_a
  have B_b : Box2 (((w.alloc (.cells #[.int .i64 f, .int .i64 c] 59)).alloc (.cells #[.int .i64 g, .int .i64 d] 59)).alloc (.cells #[.int .i64 0, .int .i64 0] 59)) (w.heap.size + 1) g d := by have h := (Box2.alloc (Box2.new (w.alloc (.cells #[.int .i64 f, .int .i64 c] 59)) g d) (.cells #[.int .i64 0, .int .i64 0] 59)); simpa using h
  replace B_b := Lib.hid B_b
  have B_r : Box2 (((w.alloc (.cells #[.int .i64 f, .int .i64 c] 59)).alloc (.cells #[.int .i64 g, .int .i64 d] 59)).alloc (.cells #[.int .i64 0, .int .i64 0] 59)) (w.heap.size + 1 + 1) 0 0 := by have h := (Box2.new ((w.alloc (.cells #[.int .i64 f, .int .i64 c] 59)).alloc (.cells #[.int .i64 g, .int .i64 d] 59)) 0 0); simpa using h
  replace B_r := Lib.hid B_r
  go_enter Try.func60, Try.ntmps60
  go_wp2_with fail
  generalize ((w.alloc (.cells #[.int .i64 f, .int .i64 c] 59)).alloc (.cells #[.int .i64 g, .int .i64 d] 59)).alloc (.cells #[.int .i64 0, .int .i64 0] 59) = W0 at *
  have c0a := B_a.out.c0
  have c1a := B_a.out.c1
  have c0b := B_b.out.c0
  have c1b := B_b.out.c1
  go_quiet ((go_at_call 63; exact Calls.quiet_of_same (HM.out _)))
  rw [HI.out]
  clear HI w1 HM
  clear c0a c1a c0b c1b
  have bb : Below W0.heap.size W0 (W0.drewN nq) := bel_drewN (Below.refl _ _) _
  generalize W0.drewN nq = w1q at *
  replace B_a := Lib.hid (Box2.below B_a.out bb B_a.out.lt)
  replace B_b := Lib.hid (Box2.below B_b.out bb B_b.out.lt)
  replace B_r := Lib.hid (Box2.below B_r.out bb B_r.out.lt)
  replace HB := Lib.hid (nextw HB.out bb)
  clear bb
  have c0a := B_a.out.c0
  have c1a := B_a.out.c1
  have sS := Box2.store B_r.out f N
  have s0 := sS.c0
  have s1 := sS.c1
  have HF := Lib.hid (Below.store2 HB.out (y := w.heap.size + 1 + 1) (by omega) (.int .i64 f) (.int .i64 N))
  clear sS
  have c0r := B_r.out.c0
  have f0r := B_r.out.f0
  have c1r := B_r.out.c1
  have f1r := B_r.out.f1
  go_wp2_with fail
  exact bodyPost_ret (v := .agg #[.int .i64 f, .int .i64 N]) (by simp [results, Try.results60, go_sem, s0, s1]) rfl ⟨rfl, nextw HF.out (by exact ⟨rfl, rfl, rfl, Nat.le_refl _, fun _ _ => rfl⟩)⟩

/-- The least arc that begins where (f, c) does. -/
def covF (f c g d : Int) : Int := if 256 ≤ reach f c g d then 0 else f
def covC (f c g d : Int) : Int := if 256 ≤ reach f c g d then 256 else reach f c g d
theorem cover_any (f c g d : Int) (ha : OkA f c) (hb : OkA g d) (w : World) :
    Calls Try.prog 60 #[av f c, av g d] w fun e w' => e = .returned (av (covF f c g d) (covC f c g d)) ∧ Below w.heap.size w w' := by
  unfold covF covC
  by_cases h : 256 ≤ reach f c g d
  · rw [if_pos h, if_pos h]; exact cover_full f c g d ha hb h w
  · rw [if_neg h, if_neg h]; exact cover_part f c g d ha hb (by omega) w
theorem cover_at {f c g d p q : Int} (ha : OkA f c) (hb : OkA g d) (hp : covF f c g d = p) (hq : covC f c g d = q) (w : World) :
    Calls Try.prog 60 #[av f c, av g d] w fun e w' => e = .returned (av p q) ∧ Below w.heap.size w w' := hp ▸ hq ▸ cover_any f c g d ha hb w
end Go.Proofs.Ytjpdahalplkfbaa
