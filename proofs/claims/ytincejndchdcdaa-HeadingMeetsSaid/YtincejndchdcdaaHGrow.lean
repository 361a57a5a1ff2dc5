/- heading.fullArc, Shift, Grow. -/
import Derived.Test.YtincejndchdcdaaHArc
namespace Go.Proofs.Ytincejndchdcdaa
open Go Go.RowKit Hd

set_option maxRecDepth 100000 in
set_option maxHeartbeats 1000000 in
theorem fullArc_any  (w : World) :
    Calls Try.prog 55 #[] w fun e w' => e = .returned (av 0 256) ∧ Below w.heap.size w w' := by
  go_enter Try.func55, Try.ntmps55
  go_wp2
  exact bodyPost_ret (v := .agg #[.int .i64 0, .int .i64 256]) (by simp [results, Try.results55, go_sem]) rfl ⟨rfl, (Below.refl _ _).alloc (Nat.le_refl _) _⟩

set_option maxRecDepth 100000 in
set_option maxHeartbeats 1000000 in
theorem Shift_bad (f c n : Int) (hn : ¬ OkA f c) (w : World) :
    Calls Try.prog 37 #[av f c, .int .i64 n] w fun e w' => e = .returned (.tuple #[av 0 0, .int .i64 1]) ∧ Below w.heap.size w w' := by
  have HV := Lib.hid (fun w => VA_no hn w)
  clear hn
  have HB := Lib.hid (show Below w.heap.size w ((w.alloc (.cells #[.int .i64 f, .int .i64 c] 43)).alloc (.cells #[.int .i64 0, .int .i64 0] 43)) from (((Below.refl _ _).alloc (by simp <;> omega) _).alloc (by simp <;> omega) _))
  have B_a : Box2 ((w.alloc (.cells #[.int .i64 f, .int .i64 c] 43)).alloc (.cells #[.int .i64 0, .int .i64 0] 43)) (w.heap.size) f c := by have h := (Box2.alloc (Box2.new w f c) (.cells #[.int .i64 0, .int .i64 0] 43)); simpa using h
  replace B_a := Lib.hid B_a
  have B_r : Box2 ((w.alloc (.cells #[.int .i64 f, .int .i64 c] 43)).alloc (.cells #[.int .i64 0, .int .i64 0] 43)) (w.heap.size + 1) 0 0 := by have h := (Box2.new (w.alloc (.cells #[.int .i64 f, .int .i64 c] 43)) 0 0); simpa using h
  replace B_r := Lib.hid B_r
  go_enter Try.func37, Try.ntmps37
  go_wp2_with fail
  generalize (w.alloc (.cells #[.int .i64 f, .int .i64 c] 43)).alloc (.cells #[.int .i64 0, .int .i64 0] 43) = W0 at *
  have c0a := B_a.out.c0
  have c1a := B_a.out.c1
  refine (HV.out _).mono ?_
  clear c0a c1a
  rintro e w1 ⟨rfl, bb⟩
  replace bb := nextw (w0 := W0) (by exact ⟨rfl, rfl, rfl, Nat.le_refl _, fun _ _ => rfl⟩) bb
  replace B_a := Lib.hid (Box2.below B_a.out bb B_a.out.lt)
  replace B_r := Lib.hid (Box2.below B_r.out bb B_r.out.lt)
  replace HB := Lib.hid (nextw HB.out bb)
  clear bb
  have sS := Box2.store B_r.out 0 0
  have s0 := sS.c0
  have s1 := sS.c1
  have HF := Lib.hid (Below.store2 HB.out (y := w.heap.size + 1) (by omega) (.int .i64 0) (.int .i64 0))
  clear sS
  have c0r := B_r.out.c0
  have f0r := B_r.out.f0
  have c1r := B_r.out.c1
  have f1r := B_r.out.f1
  go_wp2_with fail
  exact bodyPost_ret (v := .tuple #[.agg #[.int .i64 0, .int .i64 0], .int .i64 1]) (by simp [results, Try.results37, go_sem, s0, s1]) rfl ⟨rfl, nextw HF.out (by exact ⟨rfl, rfl, rfl, Nat.le_refl _, fun _ _ => rfl⟩)⟩

set_option maxRecDepth 100000 in
set_option maxHeartbeats 1000000 in
theorem Shift_full (n : Int) (w : World) :
    Calls Try.prog 37 #[av 0 256, .int .i64 n] w fun e w' => e = .returned (.tuple #[av 0 256, .int .i64 0]) ∧ Below w.heap.size w w' := by
  have HV := Lib.hid (fun w => VA_yes (f := 0) (c := 256) (.inl ⟨rfl, rfl⟩) w)
  have HB := Lib.hid (show Below w.heap.size w ((w.alloc (.cells #[.int .i64 0, .int .i64 256] 43)).alloc (.cells #[.int .i64 0, .int .i64 0] 43)) from (((Below.refl _ _).alloc (by simp <;> omega) _).alloc (by simp <;> omega) _))
  have B_a : Box2 ((w.alloc (.cells #[.int .i64 0, .int .i64 256] 43)).alloc (.cells #[.int .i64 0, .int .i64 0] 43)) (w.heap.size) 0 256 := by have h := (Box2.alloc (Box2.new w 0 256) (.cells #[.int .i64 0, .int .i64 0] 43)); simpa using h
  replace B_a := Lib.hid B_a
  have B_r : Box2 ((w.alloc (.cells #[.int .i64 0, .int .i64 256] 43)).alloc (.cells #[.int .i64 0, .int .i64 0] 43)) (w.heap.size + 1) 0 0 := by have h := (Box2.new (w.alloc (.cells #[.int .i64 0, .int .i64 256] 43)) 0 0); simpa using h
  replace B_r := Lib.hid B_r
  go_enter Try.func37, Try.ntmps37
  go_wp2_with fail
  generalize (w.alloc (.cells #[.int .i64 0, .int .i64 256] 43)).alloc (.cells #[.int .i64 0, .int .i64 0] 43) = W0 at *
  have c0a := B_a.out.c0
  have c1a := B_a.out.c1
  refine (HV.out _).mono ?_
  clear c0a c1a
  rintro e w1 ⟨rfl, bb⟩
  replace bb := nextw (w0 := W0) (by exact ⟨rfl, rfl, rfl, Nat.le_refl _, fun _ _ => rfl⟩) bb
  replace B_a := Lib.hid (Box2.below B_a.out bb B_a.out.lt)
  replace B_r := Lib.hid (Box2.below B_r.out bb B_r.out.lt)
  replace HB := Lib.hid (nextw HB.out bb)
  clear bb
  have c0a := B_a.out.c0
  have c1a := B_a.out.c1
  have sS := Box2.store B_r.out 0 256
  have s0 := sS.c0
  have s1 := sS.c1
  have HF := Lib.hid (Below.store2 HB.out (y := w.heap.size + 1) (by omega) (.int .i64 0) (.int .i64 256))
  clear sS
  have c0r := B_r.out.c0
  have f0r := B_r.out.f0
  have c1r := B_r.out.c1
  have f1r := B_r.out.f1
  go_wp2_with fail
  exact bodyPost_ret (v := .tuple #[.agg #[.int .i64 0, .int .i64 256], .int .i64 0]) (by simp [results, Try.results37, go_sem, s0, s1]) rfl ⟨rfl, nextw HF.out (by exact ⟨rfl, rfl, rfl, Nat.le_refl _, fun _ _ => rfl⟩)⟩

set_option maxRecDepth 100000 in
set_option maxHeartbeats 1000000 in
theorem Shift_part (f c n : Int) (hv : OkA f c) (hc : c ≠ 256) (w : World) :
    Calls Try.prog 37 #[av f c, .int .i64 n] w fun e w' => e = .returned (.tuple #[av ((f + n) % 256) c, .int .i64 0]) ∧ Below w.heap.size w w' := by
  have HV := Lib.hid (fun w => VA_yes hv w)
  obtain ⟨m, hm⟩ : ∃ m, (f + n) % 256 = m := ⟨_, rfl⟩
  have HM := Lib.hid (fun w => residue_at ((wrap_mod (f + n)).trans hm) w)
  have hz : (c == 256) = false := by simpa using hc
  rw [hm]
  clear hv hm hc
  have HB := Lib.hid (show Below w.heap.size w ((w.alloc (.cells #[.int .i64 f, .int .i64 c] 43)).alloc (.cells #[.int .i64 0, .int .i64 0] 43)) from (((Below.refl _ _).alloc (by simp <;> omega) _).alloc (by simp <;> omega) _))
  have B_a : Box2 ((w.alloc (.cells #[.int .i64 f, .int .i64 c] 43)).alloc (.cells #[.int .i64 0, .int .i64 0] 43)) (w.heap.size) f c := by have h := (Box2.alloc (Box2.new w f c) (.cells #[.int .i64 0, .int .i64 0] 43)); simpa using h
  replace B_a := Lib.hid B_a
  have B_r : Box2 ((w.alloc (.cells #[.int .i64 f, .int .i64 c] 43)).alloc (.cells #[.int .i64 0, .int .i64 0] 43)) (w.heap.size + 1) 0 0 := by have h := (Box2.new (w.alloc (.cells #[.int .i64 f, .int .i64 c] 43)) 0 0); simpa using h
  replace B_r := Lib.hid B_r
  go_enter Try.func37, Try.ntmps37
  go_wp2_with fail
  generalize (w.alloc (.cells #[.int .i64 f, .int .i64 c] 43)).alloc (.cells #[.int .i64 0, .int .i64 0] 43) = W0 at *
  have c0a := B_a.out.c0
  have c1a := B_a.out.c1
  refine (HV.out _).mono ?_
  clear c0a c1a
  rintro e w1 ⟨rfl, bb⟩
  replace bb := nextw (w0 := W0) (by exact ⟨rfl, rfl, rfl, Nat.le_refl _, fun _ _ => rfl⟩) bb
  replace B_a := Lib.hid (Box2.below B_a.out bb B_a.out.lt)
  replace B_r := Lib.hid (Box2.below B_r.out bb B_r.out.lt)
  replace HB := Lib.hid (nextw HB.out bb)
  clear bb
  have c0a := B_a.out.c0
  have c1a := B_a.out.c1
  have sS := Box2.store B_r.out m c
  have s0 := sS.c0
  have s1 := sS.c1
  have HF := Lib.hid (Below.store2 HB.out (y := w.heap.size + 1) (by omega) (.int .i64 m) (.int .i64 c))
  clear sS
  have c0r := B_r.out.c0
  have f0r := B_r.out.f0
  have c1r := B_r.out.c1
  have f1r := B_r.out.f1
  go_wp2_with fail
  first | (go_region_with (first
        | (go_at_call 46; refine (HM.out _).mono ?_; rintro e w9 ⟨rfl, rfl⟩))) | fail
  all_goals (go_wp2; exact bodyPost_ret (v := .tuple #[.agg #[.int .i64 m, .int .i64 c], .int .i64 0]) (by simp [results, Try.results37, go_sem, s0, s1]) rfl ⟨rfl, nextw HF.out (by exact ⟨rfl, rfl, rfl, Nat.le_refl _, fun _ _ => rfl⟩)⟩)

set_option maxRecDepth 100000 in
set_option maxHeartbeats 1000000 in
theorem Grow_bad (f c n : Int) (hn : ¬ OkA f c) (w : World) :
    Calls Try.prog 38 #[av f c, .int .i64 n] w fun e w' => e = .returned (.tuple #[av 0 0, .int .i64 1]) ∧ Below w.heap.size w w' := by
  have HV := Lib.hid (fun w => VA_no hn w)
  clear hn
  have HB := Lib.hid (show Below w.heap.size w ((w.alloc (.cells #[.int .i64 f, .int .i64 c] 43)).alloc (.cells #[.int .i64 0, .int .i64 0] 43)) from (((Below.refl _ _).alloc (by simp <;> omega) _).alloc (by simp <;> omega) _))
  have B_a : Box2 ((w.alloc (.cells #[.int .i64 f, .int .i64 c] 43)).alloc (.cells #[.int .i64 0, .int .i64 0] 43)) (w.heap.size) f c := by have h := (Box2.alloc (Box2.new w f c) (.cells #[.int .i64 0, .int .i64 0] 43)); simpa using h
  replace B_a := Lib.hid B_a
  have B_r : Box2 ((w.alloc (.cells #[.int .i64 f, .int .i64 c] 43)).alloc (.cells #[.int .i64 0, .int .i64 0] 43)) (w.heap.size + 1) 0 0 := by have h := (Box2.new (w.alloc (.cells #[.int .i64 f, .int .i64 c] 43)) 0 0); simpa using h
  replace B_r := Lib.hid B_r
  go_enter Try.func38, Try.ntmps38
  go_wp2_with fail
  generalize (w.alloc (.cells #[.int .i64 f, .int .i64 c] 43)).alloc (.cells #[.int .i64 0, .int .i64 0] 43) = W0 at *
  have c0a := B_a.out.c0
  have c1a := B_a.out.c1
  refine (HV.out _).mono ?_
  clear c0a c1a
  rintro e w1 ⟨rfl, bb⟩
  replace bb := nextw (w0 := W0) (by exact ⟨rfl, rfl, rfl, Nat.le_refl _, fun _ _ => rfl⟩) bb
  replace B_a := Lib.hid (Box2.below B_a.out bb B_a.out.lt)
  replace B_r := Lib.hid (Box2.below B_r.out bb B_r.out.lt)
  replace HB := Lib.hid (nextw HB.out bb)
  clear bb
  have sS := Box2.store B_r.out 0 0
  have s0 := sS.c0
  have s1 := sS.c1
  have HF := Lib.hid (Below.store2 HB.out (y := w.heap.size + 1) (by omega) (.int .i64 0) (.int .i64 0))
  clear sS
  have c0r := B_r.out.c0
  have f0r := B_r.out.f0
  have c1r := B_r.out.c1
  have f1r := B_r.out.f1
  go_wp2_with fail
  exact bodyPost_ret (v := .tuple #[.agg #[.int .i64 0, .int .i64 0], .int .i64 1]) (by simp [results, Try.results38, go_sem, s0, s1]) rfl ⟨rfl, nextw HF.out (by exact ⟨rfl, rfl, rfl, Nat.le_refl _, fun _ _ => rfl⟩)⟩

set_option maxRecDepth 100000 in
set_option maxHeartbeats 1000000 in
theorem Grow_neg (f c n : Int) (hv : OkA f c) (hn : n < 0) (w : World) :
    Calls Try.prog 38 #[av f c, .int .i64 n] w fun e w' => e = .returned (.tuple #[av 0 0, .int .i64 2]) ∧ Below w.heap.size w w' := by
  have HV := Lib.hid (fun w => VA_yes hv w)
  have b0 := hv.c0
  have b1 := hv.c1
  clear hv
  have HB := Lib.hid (show Below w.heap.size w ((w.alloc (.cells #[.int .i64 f, .int .i64 c] 43)).alloc (.cells #[.int .i64 0, .int .i64 0] 43)) from (((Below.refl _ _).alloc (by simp <;> omega) _).alloc (by simp <;> omega) _))
  have B_a : Box2 ((w.alloc (.cells #[.int .i64 f, .int .i64 c] 43)).alloc (.cells #[.int .i64 0, .int .i64 0] 43)) (w.heap.size) f c := by have h := (Box2.alloc (Box2.new w f c) (.cells #[.int .i64 0, .int .i64 0] 43)); simpa using h
  replace B_a := Lib.hid B_a
  have B_r : Box2 ((w.alloc (.cells #[.int .i64 f, .int .i64 c] 43)).alloc (.cells #[.int .i64 0, .int .i64 0] 43)) (w.heap.size + 1) 0 0 := by have h := (Box2.new (w.alloc (.cells #[.int .i64 f, .int .i64 c] 43)) 0 0); simpa using h
  replace B_r := Lib.hid B_r
  go_enter Try.func38, Try.ntmps38
  go_wp2_with fail
  generalize (w.alloc (.cells #[.int .i64 f, .int .i64 c] 43)).alloc (.cells #[.int .i64 0, .int .i64 0] 43) = W0 at *
  have c0a := B_a.out.c0
  have c1a := B_a.out.c1
  refine (HV.out _).mono ?_
  clear c0a c1a
  rintro e w1 ⟨rfl, bb⟩
  replace bb := nextw (w0 := W0) (by exact ⟨rfl, rfl, rfl, Nat.le_refl _, fun _ _ => rfl⟩) bb
  replace B_a := Lib.hid (Box2.below B_a.out bb B_a.out.lt)
  replace B_r := Lib.hid (Box2.below B_r.out bb B_r.out.lt)
  replace HB := Lib.hid (nextw HB.out bb)
  clear bb
  have c0a := B_a.out.c0
  have c1a := B_a.out.c1
  have sS := Box2.store B_r.out 0 0
  have s0 := sS.c0
  have s1 := sS.c1
  have HF := Lib.hid (Below.store2 HB.out (y := w.heap.size + 1) (by omega) (.int .i64 0) (.int .i64 0))
  clear sS
  have c0r := B_r.out.c0
  have f0r := B_r.out.f0
  have c1r := B_r.out.c1
  have f1r := B_r.out.f1
  go_wp2_with fail
  exact bodyPost_ret (v := .tuple #[.agg #[.int .i64 0, .int .i64 0], .int .i64 2]) (by simp [results, Try.results38, go_sem, s0, s1]) rfl ⟨rfl, nextw HF.out (by exact ⟨rfl, rfl, rfl, Nat.le_refl _, fun _ _ => rfl⟩)⟩

set_option maxRecDepth 100000 in
set_option maxHeartbeats 1000000 in
theorem Grow_big (f c n : Int) (hv : OkA f c) (hn : 0 ≤ n) (hn2 : 256 < n) (w : World) :
    Calls Try.prog 38 #[av f c, .int .i64 n] w fun e w' => e = .returned (.tuple #[av 0 0, .int .i64 2]) ∧ Below w.heap.size w w' := by
  have HV := Lib.hid (fun w => VA_yes hv w)
  have b0 := hv.c0
  have b1 := hv.c1
  clear hv
  have HB := Lib.hid (show Below w.heap.size w ((w.alloc (.cells #[.int .i64 f, .int .i64 c] 43)).alloc (.cells #[.int .i64 0, .int .i64 0] 43)) from (((Below.refl _ _).alloc (by simp <;> omega) _).alloc (by simp <;> omega) _))
  have B_a : Box2 ((w.alloc (.cells #[.int .i64 f, .int .i64 c] 43)).alloc (.cells #[.int .i64 0, .int .i64 0] 43)) (w.heap.size) f c := by have h := (Box2.alloc (Box2.new w f c) (.cells #[.int .i64 0, .int .i64 0] 43)); simpa using h
  replace B_a := Lib.hid B_a
  have B_r : Box2 ((w.alloc (.cells #[.int .i64 f, .int .i64 c] 43)).alloc (.cells #[.int .i64 0, .int .i64 0] 43)) (w.heap.size + 1) 0 0 := by have h := (Box2.new (w.alloc (.cells #[.int .i64 f, .int .i64 c] 43)) 0 0); simpa using h
  replace B_r := Lib.hid B_r
  go_enter Try.func38, Try.ntmps38
  go_wp2_with fail
  generalize (w.alloc (.cells #[.int .i64 f, .int .i64 c] 43)).alloc (.cells #[.int .i64 0, .int .i64 0] 43) = W0 at *
  have c0a := B_a.out.c0
  have c1a := B_a.out.c1
  refine (HV.out _).mono ?_
  clear c0a c1a
  rintro e w1 ⟨rfl, bb⟩
  replace bb := nextw (w0 := W0) (by exact ⟨rfl, rfl, rfl, Nat.le_refl _, fun _ _ => rfl⟩) bb
  replace B_a := Lib.hid (Box2.below B_a.out bb B_a.out.lt)
  replace B_r := Lib.hid (Box2.below B_r.out bb B_r.out.lt)
  replace HB := Lib.hid (nextw HB.out bb)
  clear bb
  have c0a := B_a.out.c0
  have c1a := B_a.out.c1
  have sS := Box2.store B_r.out 0 0
  have s0 := sS.c0
  have s1 := sS.c1
  have HF := Lib.hid (Below.store2 HB.out (y := w.heap.size + 1) (by omega) (.int .i64 0) (.int .i64 0))
  clear sS
  have c0r := B_r.out.c0
  have f0r := B_r.out.f0
  have c1r := B_r.out.c1
  have f1r := B_r.out.f1
  go_wp2_with fail
  exact bodyPost_ret (v := .tuple #[.agg #[.int .i64 0, .int .i64 0], .int .i64 2]) (by simp [results, Try.results38, go_sem, s0, s1]) rfl ⟨rfl, nextw HF.out (by exact ⟨rfl, rfl, rfl, Nat.le_refl _, fun _ _ => rfl⟩)⟩

set_option maxRecDepth 100000 in
set_option maxHeartbeats 1000000 in
theorem Grow_full (f c n : Int) (hv : OkA f c) (hn : 0 ≤ n) (hn2 : n ≤ 256) (hc : 256 ≤ c + 2 * n) (w : World) :
    Calls Try.prog 38 #[av f c, .int .i64 n] w fun e w' => e = .returned (.tuple #[av 0 256, .int .i64 0]) ∧ Below w.heap.size w w' := by
  have HV := Lib.hid (fun w => VA_yes hv w)
  have b0 := hv.c0
  have b1 := hv.c1
  clear hv
  have HB := Lib.hid (show Below w.heap.size w ((w.alloc (.cells #[.int .i64 f, .int .i64 c] 43)).alloc (.cells #[.int .i64 0, .int .i64 0] 43)) from (((Below.refl _ _).alloc (by simp <;> omega) _).alloc (by simp <;> omega) _))
  have B_a : Box2 ((w.alloc (.cells #[.int .i64 f, .int .i64 c] 43)).alloc (.cells #[.int .i64 0, .int .i64 0] 43)) (w.heap.size) f c := by have h := (Box2.alloc (Box2.new w f c) (.cells #[.int .i64 0, .int .i64 0] 43)); simpa using h
  replace B_a := Lib.hid B_a
  have B_r : Box2 ((w.alloc (.cells #[.int .i64 f, .int .i64 c] 43)).alloc (.cells #[.int .i64 0, .int .i64 0] 43)) (w.heap.size + 1) 0 0 := by have h := (Box2.new (w.alloc (.cells #[.int .i64 f, .int .i64 c] 43)) 0 0); simpa using h
  replace B_r := Lib.hid B_r
  go_enter Try.func38, Try.ntmps38
  go_wp2_with fail
  generalize (w.alloc (.cells #[.int .i64 f, .int .i64 c] 43)).alloc (.cells #[.int .i64 0, .int .i64 0] 43) = W0 at *
  have c0a := B_a.out.c0
  have c1a := B_a.out.c1
  refine (HV.out _).mono ?_
  clear c0a c1a
  rintro e w1 ⟨rfl, bb⟩
  replace bb := nextw (w0 := W0) (by exact ⟨rfl, rfl, rfl, Nat.le_refl _, fun _ _ => rfl⟩) bb
  replace B_a := Lib.hid (Box2.below B_a.out bb B_a.out.lt)
  replace B_r := Lib.hid (Box2.below B_r.out bb B_r.out.lt)
  replace HB := Lib.hid (nextw HB.out bb)
  clear bb
  have c0a := B_a.out.c0
  have c1a := B_a.out.c1
  go_wp2_with fail
  refine (fullArc_any _).mono ?_
  clear c0a c1a
  rintro e w2 ⟨rfl, bb⟩
  replace bb := nextw (w0 := w1) (by exact ⟨rfl, rfl, rfl, Nat.le_refl _, fun _ _ => rfl⟩) bb
  replace B_a := Lib.hid (Box2.below B_a.out bb B_a.out.lt)
  replace B_r := Lib.hid (Box2.below B_r.out bb B_r.out.lt)
  replace HB := Lib.hid (nextw HB.out bb)
  clear bb
  have sS := Box2.store B_r.out 0 256
  have s0 := sS.c0
  have s1 := sS.c1
  have HF := Lib.hid (Below.store2 HB.out (y := w.heap.size + 1) (by omega) (.int .i64 0) (.int .i64 256))
  clear sS
  have c0r := B_r.out.c0
  have f0r := B_r.out.f0
  have c1r := B_r.out.c1
  have f1r := B_r.out.f1
  go_wp2_with fail
  exact bodyPost_ret (v := .tuple #[.agg #[.int .i64 0, .int .i64 256], .int .i64 0]) (by simp [results, Try.results38, go_sem, s0, s1]) rfl ⟨rfl, nextw HF.out (by exact ⟨rfl, rfl, rfl, Nat.le_refl _, fun _ _ => rfl⟩)⟩

set_option maxRecDepth 100000 in
set_option maxHeartbeats 1000000 in
theorem Grow_part (f c n : Int) (hv : OkA f c) (hn : 0 ≤ n) (hn2 : n ≤ 256) (hc : c + 2 * n < 256) (w : World) :
    Calls Try.prog 38 #[av f c, .int .i64 n] w fun e w' => e = .returned (.tuple #[av ((f - n) % 256) (c + 2 * n), .int .i64 0]) ∧ Below w.heap.size w w' := by
  have HV := Lib.hid (fun w => VA_yes hv w)
  have b0 := hv.c0
  have b1 := hv.c1
  have g0 := hv.f0
  have g1 := hv.f1
  obtain ⟨m, hm⟩ : ∃ m, (f - n) % 256 = m := ⟨_, rfl⟩
  have HM := Lib.hid (fun w => residue_at ((wrap_mod (f - n)).trans hm) w)
  have w1 : IntKind.i64.wrap (2 * n) = 2 * n := by rw [IntKind.wrap_i64]; omega
  have w2 : IntKind.i64.wrap (c + 2 * n) = c + 2 * n := by rw [IntKind.wrap_i64]; omega
  rw [hm]
  clear hv hm
  have HB := Lib.hid (show Below w.heap.size w ((w.alloc (.cells #[.int .i64 f, .int .i64 c] 43)).alloc (.cells #[.int .i64 0, .int .i64 0] 43)) from (((Below.refl _ _).alloc (by simp <;> omega) _).alloc (by simp <;> omega) _))
  have B_a : Box2 ((w.alloc (.cells #[.int .i64 f, .int .i64 c] 43)).alloc (.cells #[.int .i64 0, .int .i64 0] 43)) (w.heap.size) f c := by have h := (Box2.alloc (Box2.new w f c) (.cells #[.int .i64 0, .int .i64 0] 43)); simpa using h
  replace B_a := Lib.hid B_a
  have B_r : Box2 ((w.alloc (.cells #[.int .i64 f, .int .i64 c] 43)).alloc (.cells #[.int .i64 0, .int .i64 0] 43)) (w.heap.size + 1) 0 0 := by have h := (Box2.new (w.alloc (.cells #[.int .i64 f, .int .i64 c] 43)) 0 0); simpa using h
  replace B_r := Lib.hid B_r
  go_enter Try.func38, Try.ntmps38
  go_wp2_with fail
  generalize (w.alloc (.cells #[.int .i64 f, .int .i64 c] 43)).alloc (.cells #[.int .i64 0, .int .i64 0] 43) = W0 at *
  have c0a := B_a.out.c0
  have c1a := B_a.out.c1
  refine (HV.out _).mono ?_
  clear c0a c1a
  rintro e w1 ⟨rfl, bb⟩
  replace bb := nextw (w0 := W0) (by exact ⟨rfl, rfl, rfl, Nat.le_refl _, fun _ _ => rfl⟩) bb
  replace B_a := Lib.hid (Box2.below B_a.out bb B_a.out.lt)
  replace B_r := Lib.hid (Box2.below B_r.out bb B_r.out.lt)
  replace HB := Lib.hid (nextw HB.out bb)
  clear bb
  have c0a := B_a.out.c0
  have c1a := B_a.out.c1
  have sS := Box2.store B_r.out m (c + 2 * n)
  have s0 := sS.c0
  have s1 := sS.c1
  have HF := Lib.hid (Below.store2 HB.out (y := w.heap.size + 1) (by omega) (.int .i64 m) (.int .i64 (c + 2 * n)))
  clear sS
  have c0r := B_r.out.c0
  have f0r := B_r.out.f0
  have c1r := B_r.out.c1
  have f1r := B_r.out.f1
  go_wp2_with fail
  first | (go_region_with (first
        | (go_at_call 46; refine (HM.out _).mono ?_; rintro e w9 ⟨rfl, rfl⟩))) | fail
  all_goals (go_wp2; exact bodyPost_ret (v := .tuple #[.agg #[.int .i64 m, .int .i64 (c + 2 * n)], .int .i64 0]) (by simp [results, Try.results38, go_sem, s0, s1]) rfl ⟨rfl, nextw HF.out (by exact ⟨rfl, rfl, rfl, Nat.le_refl _, fun _ _ => rfl⟩)⟩)
end Go.Proofs.Ytincejndchdcdaa
