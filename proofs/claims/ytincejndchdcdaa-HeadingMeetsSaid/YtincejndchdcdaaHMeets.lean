/- The law HeadingMeets. -/
import Derived.Test.YtincejndchdcdaaHAwake
import Derived.Test.YtincejndchdcdaaHRMeet
import Derived.Test.YtincejndchdcdaaHBArcs
import Derived.Test.YtincejndchdcdaaHCount
set_option linter.unusedSimpArgs false
set_option linter.unusedVariables false
namespace Go.Proofs.Ytincejndchdcdaa
open Go Go.RowKit Hd

theorem Meet_ok (f c g d : Int) (ha : OkA f c) (hb : OkA g d) (w : World) :
    Calls Try.prog 43 #[av f c, av g d] w fun e w' => ListedA (refAll f c g d) w e w' := by
  by_cases hc : c = 256
  · obtain rfl := ha.full hc
    subst hc
    by_cases hd : d = 256
    · obtain rfl := hb.full hd
      subst hd
      rw [all_full]; exact Meet_full ha hb w
    · have hn : ¬ ((256 : Int) = 256 ∧ d = 256) := fun h => hd h.2
      have g0 := hb.f0
      by_cases hg : g = 0
      · subst hg
        rw [all_one ha hb hn]; exact Meet_feq d ha hb (by simpa using hd) w
      · rw [all_two ha hb hn (.inl rfl) (.inr rfl) ⟨.inl rfl, .inr rfl⟩ (by omega)]
        exact Meet_flt g d ha hb (by simpa using hd) (by omega) w
  · have hn : ¬ (c = 256 ∧ d = 256) := fun h => hc h.1
    have hb0 : (c == 256) = false := by simpa using hc
    rcases Int.lt_trichotomy f g with h | h | h
    · rw [all_two ha hb hn (.inl rfl) (.inr rfl) ⟨.inl rfl, .inr rfl⟩ h]; exact Meet_clt f c g d ha hb hb0 h w
    · subst h; rw [all_one ha hb hn]; exact Meet_ceq f c d ha hb hb0 w
    · rw [all_two ha hb hn (.inr rfl) (.inl rfl) ⟨.inr rfl, .inl rfl⟩ h]; exact Meet_cgt f c g d ha hb hb0 h w
/-- What the law asks of the list. -/
theorem all_fine {f c g d : Int} (ha : OkA f c) (hb : OkA g d) (m : Int) : AllOk (refAll f c g d) ∧ (refAll f c g d).length ≤ 2 ∧ cntL (refAll f c g d) m = if bothB f c g d m = true then 1 else 0 := by
  have a0 := ha.f0; have a1 := ha.f1
  have b0 := hb.f0; have b1 := hb.f1
  by_cases hfull : c = 256 ∧ d = 256
  · obtain ⟨hc, hd⟩ := hfull
    obtain rfl := ha.full hc
    obtain rfl := hb.full hd
    subst hc hd
    rw [all_full]
    refine ⟨fun p hp => ?_, by decide, ?_⟩
    · simp only [List.mem_singleton] at hp; subst hp; exact .inl ⟨rfl, rfl⟩
    · have h1 : hasB 0 256 m = true := has_iff.2 (by omega)
      have h2 : bothB 0 256 0 256 m = true := both_iff.2 (by omega)
      rw [if_pos h2]
      show (List.filter (fun p => hasB p.1 p.2 m) [(0, 256)]).length = 1
      simp [h1]
  · by_cases hfg : f = g
    · subst hfg
      rw [all_one ha hb hfull]
      refine ⟨allOk_add ha hb a0 (by omega) allOk_nil, addAt_le (n := 1) (by simp), ?_⟩
      rw [cntL_add, ← count_one ha hb hfull m]; simp [cntL]
    · rcases Int.lt_or_gt_of_ne hfg with h | h
      · rw [all_two ha hb hfull (.inl rfl) (.inr rfl) ⟨.inl rfl, .inr rfl⟩ h]
        refine ⟨allOk_add ha hb b0 (by omega) (allOk_add ha hb a0 (by omega) allOk_nil), addAt_le (n := 1) (addAt_le (n := 0) (by simp)), ?_⟩
        rw [cntL_add, cntL_add, ← count_two ha hb hfull hfg m]; simp [cntL]
      · rw [all_two ha hb hfull (.inr rfl) (.inl rfl) ⟨.inr rfl, .inl rfl⟩ h]
        refine ⟨allOk_add ha hb a0 (by omega) (allOk_add ha hb b0 (by omega) allOk_nil), addAt_le (n := 1) (addAt_le (n := 0) (by simp)), ?_⟩
        rw [cntL_add, cntL_add, ← count_two ha hb hfull hfg m, Nat.add_comm]; simp [cntL]

set_option maxRecDepth 100000 in
set_option maxHeartbeats 4000000 in
theorem Mts_A (f c g d m : Int) (m0 : 0 ≤ m) (m1 : m ≤ 255) (ha : ¬ OkA f c) (w : World) :
    Calls Try.prog 12 #[av f c, av g d, .int .u8 m] w fun e w' => e = .returned (.bool true) ∧ Below w.heap.size w w' := by
  have HA := Lib.hid (fun w => awake_any w)
  have HM := Lib.hid (fun w => Meet_bad1 f c g d ha w)
  have HH := Lib.hid (fun w => Has_bad f c m ha w)
  have HV := Lib.hid (fun w => VA_no ha w)
  clear ha
  have HB := Lib.hid (show Below w.heap.size w ((w.alloc (.cells #[.int .i64 f, .int .i64 c] 43)).alloc (.cells #[.int .i64 g, .int .i64 d] 43)) from (((Below.refl _ _).alloc (by simp <;> omega) _).alloc (by simp <;> omega) _))
  have B_a : Box2 ((w.alloc (.cells #[.int .i64 f, .int .i64 c] 43)).alloc (.cells #[.int .i64 g, .int .i64 d] 43)) (w.heap.size) f c := by have h := (Box2.alloc (Box2.new w f c) (.cells #[.int .i64 g, .int .i64 d] 43)); simpa using h
  replace B_a := Lib.hid B_a
  have B_b : Box2 ((w.alloc (.cells #[.int .i64 f, .int .i64 c] 43)).alloc (.cells #[.int .i64 g, .int .i64 d] 43)) (w.heap.size + 1) g d := by have h := (Box2.new (w.alloc (.cells #[.int .i64 f, .int .i64 c] 43)) g d); simpa using h
  replace B_b := Lib.hid B_b
  go_enter Try.func12, Try.ntmps12
  go_wp2_with fail
  generalize (w.alloc (.cells #[.int .i64 f, .int .i64 c] 43)).alloc (.cells #[.int .i64 g, .int .i64 d] 43) = W0 at *
  refine (HA.out _).mono ?_
  rintro e w1 ⟨rfl, bb⟩
  replace bb := nextw (w0 := W0) (by exact ⟨rfl, rfl, rfl, Nat.le_refl _, fun _ _ => rfl⟩) bb
  replace B_a := Lib.hid (Box2.below B_a.out bb B_a.out.lt)
  replace B_b := Lib.hid (Box2.below B_b.out bb B_b.out.lt)
  replace HB := Lib.hid (nextw HB.out bb)
  clear bb
  have c0a := B_a.out.c0
  have c1a := B_a.out.c1
  have c0b := B_b.out.c0
  have c1b := B_b.out.c1
  go_wp2_with fail
  refine (HM.out _).mono ?_
  clear c0a c1a c0b c1b
  rintro e w2 ⟨rfl, bb⟩
  replace bb := nextw (w0 := w1) (by exact ⟨rfl, rfl, rfl, Nat.le_refl _, fun _ _ => rfl⟩) bb
  replace B_a := Lib.hid (Box2.below B_a.out bb B_a.out.lt)
  replace B_b := Lib.hid (Box2.below B_b.out bb B_b.out.lt)
  replace HB := Lib.hid (nextw HB.out bb)
  clear bb
  go_wp2_with fail
  refine wp_loop_rounds 1 ?_
  rw [rounds_succ]
  have c0a := B_a.out.c0
  have c1a := B_a.out.c1
  have c0b := B_b.out.c0
  have c1b := B_b.out.c1
  go_wp2_with fail
  refine (HH.out _).mono ?_
  clear c0a c1a c0b c1b
  rintro e w3 ⟨rfl, bb⟩
  replace bb := nextw (w0 := w2) (by exact ⟨rfl, rfl, rfl, Nat.le_refl _, fun _ _ => rfl⟩) bb
  replace B_a := Lib.hid (Box2.below B_a.out bb B_a.out.lt)
  replace B_b := Lib.hid (Box2.below B_b.out bb B_b.out.lt)
  replace HB := Lib.hid (nextw HB.out bb)
  clear bb
  have c0a := B_a.out.c0
  have c1a := B_a.out.c1
  have c0b := B_b.out.c0
  have c1b := B_b.out.c1
  go_wp2_with fail
  refine (HV.out _).mono ?_
  clear c0a c1a c0b c1b
  rintro e w4 ⟨rfl, bb⟩
  replace bb := nextw (w0 := w3) (by exact ⟨rfl, rfl, rfl, Nat.le_refl _, fun _ _ => rfl⟩) bb
  replace B_a := Lib.hid (Box2.below B_a.out bb B_a.out.lt)
  replace B_b := Lib.hid (Box2.below B_b.out bb B_b.out.lt)
  replace HB := Lib.hid (nextw HB.out bb)
  clear bb
  have c0a := B_a.out.c0
  have c1a := B_a.out.c1
  have c0b := B_b.out.c0
  have c1b := B_b.out.c1
  clear c0a c1a c0b c1b
  go_wp2
  go_ret
  exact ⟨rfl, nextw HB.out (by exact ⟨rfl, rfl, rfl, Nat.le_refl _, fun _ _ => rfl⟩)⟩

set_option maxRecDepth 100000 in
set_option maxHeartbeats 4000000 in
theorem Mts_Bt (f c g d m : Int) (m0 : 0 ≤ m) (m1 : m ≤ 255) (ha : OkA f c) (hb : ¬ OkA g d) (hx : hasB f c m = true) (w : World) :
    Calls Try.prog 12 #[av f c, av g d, .int .u8 m] w fun e w' => e = .returned (.bool true) ∧ Below w.heap.size w w' := by
  have HA := Lib.hid (fun w => awake_any w)
  have HM := Lib.hid (fun w => Meet_bad2 f c g d ha hb w)
  have HH := Lib.hid (fun w => Has_at (h := m) ha hx w)
  have HH2 := Lib.hid (fun w => Has_bad g d m hb w)
  have HV := Lib.hid (fun w => VA_yes ha w)
  have HW := Lib.hid (fun w => VA_no hb w)
  clear ha hb hx
  have HB := Lib.hid (show Below w.heap.size w ((w.alloc (.cells #[.int .i64 f, .int .i64 c] 43)).alloc (.cells #[.int .i64 g, .int .i64 d] 43)) from (((Below.refl _ _).alloc (by simp <;> omega) _).alloc (by simp <;> omega) _))
  have B_a : Box2 ((w.alloc (.cells #[.int .i64 f, .int .i64 c] 43)).alloc (.cells #[.int .i64 g, .int .i64 d] 43)) (w.heap.size) f c := by have h := (Box2.alloc (Box2.new w f c) (.cells #[.int .i64 g, .int .i64 d] 43)); simpa using h
  replace B_a := Lib.hid B_a
  have B_b : Box2 ((w.alloc (.cells #[.int .i64 f, .int .i64 c] 43)).alloc (.cells #[.int .i64 g, .int .i64 d] 43)) (w.heap.size + 1) g d := by have h := (Box2.new (w.alloc (.cells #[.int .i64 f, .int .i64 c] 43)) g d); simpa using h
  replace B_b := Lib.hid B_b
  go_enter Try.func12, Try.ntmps12
  go_wp2_with fail
  generalize (w.alloc (.cells #[.int .i64 f, .int .i64 c] 43)).alloc (.cells #[.int .i64 g, .int .i64 d] 43) = W0 at *
  refine (HA.out _).mono ?_
  rintro e w1 ⟨rfl, bb⟩
  replace bb := nextw (w0 := W0) (by exact ⟨rfl, rfl, rfl, Nat.le_refl _, fun _ _ => rfl⟩) bb
  replace B_a := Lib.hid (Box2.below B_a.out bb B_a.out.lt)
  replace B_b := Lib.hid (Box2.below B_b.out bb B_b.out.lt)
  replace HB := Lib.hid (nextw HB.out bb)
  clear bb
  have c0a := B_a.out.c0
  have c1a := B_a.out.c1
  have c0b := B_b.out.c0
  have c1b := B_b.out.c1
  go_wp2_with fail
  refine (HM.out _).mono ?_
  clear c0a c1a c0b c1b
  rintro e w2 ⟨rfl, bb⟩
  replace bb := nextw (w0 := w1) (by exact ⟨rfl, rfl, rfl, Nat.le_refl _, fun _ _ => rfl⟩) bb
  replace B_a := Lib.hid (Box2.below B_a.out bb B_a.out.lt)
  replace B_b := Lib.hid (Box2.below B_b.out bb B_b.out.lt)
  replace HB := Lib.hid (nextw HB.out bb)
  clear bb
  go_wp2_with fail
  refine wp_loop_rounds 1 ?_
  rw [rounds_succ]
  have c0a := B_a.out.c0
  have c1a := B_a.out.c1
  have c0b := B_b.out.c0
  have c1b := B_b.out.c1
  go_wp2_with fail
  refine (HH.out _).mono ?_
  clear c0a c1a c0b c1b
  rintro e w3 ⟨rfl, bb⟩
  replace bb := nextw (w0 := w2) (by exact ⟨rfl, rfl, rfl, Nat.le_refl _, fun _ _ => rfl⟩) bb
  replace B_a := Lib.hid (Box2.below B_a.out bb B_a.out.lt)
  replace B_b := Lib.hid (Box2.below B_b.out bb B_b.out.lt)
  replace HB := Lib.hid (nextw HB.out bb)
  clear bb
  have c0a := B_a.out.c0
  have c1a := B_a.out.c1
  have c0b := B_b.out.c0
  have c1b := B_b.out.c1
  go_wp2_with fail
  refine (HH2.out _).mono ?_
  clear c0a c1a c0b c1b
  rintro e w4 ⟨rfl, bb⟩
  replace bb := nextw (w0 := w3) (by exact ⟨rfl, rfl, rfl, Nat.le_refl _, fun _ _ => rfl⟩) bb
  replace B_a := Lib.hid (Box2.below B_a.out bb B_a.out.lt)
  replace B_b := Lib.hid (Box2.below B_b.out bb B_b.out.lt)
  replace HB := Lib.hid (nextw HB.out bb)
  clear bb
  have c0a := B_a.out.c0
  have c1a := B_a.out.c1
  have c0b := B_b.out.c0
  have c1b := B_b.out.c1
  go_wp2_with fail
  refine (HV.out _).mono ?_
  clear c0a c1a c0b c1b
  rintro e w5 ⟨rfl, bb⟩
  replace bb := nextw (w0 := w4) (by exact ⟨rfl, rfl, rfl, Nat.le_refl _, fun _ _ => rfl⟩) bb
  replace B_a := Lib.hid (Box2.below B_a.out bb B_a.out.lt)
  replace B_b := Lib.hid (Box2.below B_b.out bb B_b.out.lt)
  replace HB := Lib.hid (nextw HB.out bb)
  clear bb
  have c0a := B_a.out.c0
  have c1a := B_a.out.c1
  have c0b := B_b.out.c0
  have c1b := B_b.out.c1
  go_wp2_with fail
  refine (HW.out _).mono ?_
  clear c0a c1a c0b c1b
  rintro e w6 ⟨rfl, bb⟩
  replace bb := nextw (w0 := w5) (by exact ⟨rfl, rfl, rfl, Nat.le_refl _, fun _ _ => rfl⟩) bb
  replace B_a := Lib.hid (Box2.below B_a.out bb B_a.out.lt)
  replace B_b := Lib.hid (Box2.below B_b.out bb B_b.out.lt)
  replace HB := Lib.hid (nextw HB.out bb)
  clear bb
  have c0a := B_a.out.c0
  have c1a := B_a.out.c1
  have c0b := B_b.out.c0
  have c1b := B_b.out.c1
  clear c0a c1a c0b c1b
  go_wp2
  go_ret
  exact ⟨rfl, nextw HB.out (by exact ⟨rfl, rfl, rfl, Nat.le_refl _, fun _ _ => rfl⟩)⟩

set_option maxRecDepth 100000 in
set_option maxHeartbeats 4000000 in
theorem Mts_Bf (f c g d m : Int) (m0 : 0 ≤ m) (m1 : m ≤ 255) (ha : OkA f c) (hb : ¬ OkA g d) (hx : hasB f c m = false) (w : World) :
    Calls Try.prog 12 #[av f c, av g d, .int .u8 m] w fun e w' => e = .returned (.bool true) ∧ Below w.heap.size w w' := by
  have HA := Lib.hid (fun w => awake_any w)
  have HM := Lib.hid (fun w => Meet_bad2 f c g d ha hb w)
  have HH := Lib.hid (fun w => Has_at (h := m) ha hx w)
  have HH2 := Lib.hid (fun w => Has_bad g d m hb w)
  have HV := Lib.hid (fun w => VA_yes ha w)
  have HW := Lib.hid (fun w => VA_no hb w)
  clear ha hb hx
  have HB := Lib.hid (show Below w.heap.size w ((w.alloc (.cells #[.int .i64 f, .int .i64 c] 43)).alloc (.cells #[.int .i64 g, .int .i64 d] 43)) from (((Below.refl _ _).alloc (by simp <;> omega) _).alloc (by simp <;> omega) _))
  have B_a : Box2 ((w.alloc (.cells #[.int .i64 f, .int .i64 c] 43)).alloc (.cells #[.int .i64 g, .int .i64 d] 43)) (w.heap.size) f c := by have h := (Box2.alloc (Box2.new w f c) (.cells #[.int .i64 g, .int .i64 d] 43)); simpa using h
  replace B_a := Lib.hid B_a
  have B_b : Box2 ((w.alloc (.cells #[.int .i64 f, .int .i64 c] 43)).alloc (.cells #[.int .i64 g, .int .i64 d] 43)) (w.heap.size + 1) g d := by have h := (Box2.new (w.alloc (.cells #[.int .i64 f, .int .i64 c] 43)) g d); simpa using h
  replace B_b := Lib.hid B_b
  go_enter Try.func12, Try.ntmps12
  go_wp2_with fail
  generalize (w.alloc (.cells #[.int .i64 f, .int .i64 c] 43)).alloc (.cells #[.int .i64 g, .int .i64 d] 43) = W0 at *
  refine (HA.out _).mono ?_
  rintro e w1 ⟨rfl, bb⟩
  replace bb := nextw (w0 := W0) (by exact ⟨rfl, rfl, rfl, Nat.le_refl _, fun _ _ => rfl⟩) bb
  replace B_a := Lib.hid (Box2.below B_a.out bb B_a.out.lt)
  replace B_b := Lib.hid (Box2.below B_b.out bb B_b.out.lt)
  replace HB := Lib.hid (nextw HB.out bb)
  clear bb
  have c0a := B_a.out.c0
  have c1a := B_a.out.c1
  have c0b := B_b.out.c0
  have c1b := B_b.out.c1
  go_wp2_with fail
  refine (HM.out _).mono ?_
  clear c0a c1a c0b c1b
  rintro e w2 ⟨rfl, bb⟩
  replace bb := nextw (w0 := w1) (by exact ⟨rfl, rfl, rfl, Nat.le_refl _, fun _ _ => rfl⟩) bb
  replace B_a := Lib.hid (Box2.below B_a.out bb B_a.out.lt)
  replace B_b := Lib.hid (Box2.below B_b.out bb B_b.out.lt)
  replace HB := Lib.hid (nextw HB.out bb)
  clear bb
  go_wp2_with fail
  refine wp_loop_rounds 1 ?_
  rw [rounds_succ]
  have c0a := B_a.out.c0
  have c1a := B_a.out.c1
  have c0b := B_b.out.c0
  have c1b := B_b.out.c1
  go_wp2_with fail
  refine (HH.out _).mono ?_
  clear c0a c1a c0b c1b
  rintro e w3 ⟨rfl, bb⟩
  replace bb := nextw (w0 := w2) (by exact ⟨rfl, rfl, rfl, Nat.le_refl _, fun _ _ => rfl⟩) bb
  replace B_a := Lib.hid (Box2.below B_a.out bb B_a.out.lt)
  replace B_b := Lib.hid (Box2.below B_b.out bb B_b.out.lt)
  replace HB := Lib.hid (nextw HB.out bb)
  clear bb
  have c0a := B_a.out.c0
  have c1a := B_a.out.c1
  have c0b := B_b.out.c0
  have c1b := B_b.out.c1
  go_wp2_with fail
  refine (HV.out _).mono ?_
  clear c0a c1a c0b c1b
  rintro e w4 ⟨rfl, bb⟩
  replace bb := nextw (w0 := w3) (by exact ⟨rfl, rfl, rfl, Nat.le_refl _, fun _ _ => rfl⟩) bb
  replace B_a := Lib.hid (Box2.below B_a.out bb B_a.out.lt)
  replace B_b := Lib.hid (Box2.below B_b.out bb B_b.out.lt)
  replace HB := Lib.hid (nextw HB.out bb)
  clear bb
  have c0a := B_a.out.c0
  have c1a := B_a.out.c1
  have c0b := B_b.out.c0
  have c1b := B_b.out.c1
  go_wp2_with fail
  refine (HW.out _).mono ?_
  clear c0a c1a c0b c1b
  rintro e w5 ⟨rfl, bb⟩
  replace bb := nextw (w0 := w4) (by exact ⟨rfl, rfl, rfl, Nat.le_refl _, fun _ _ => rfl⟩) bb
  replace B_a := Lib.hid (Box2.below B_a.out bb B_a.out.lt)
  replace B_b := Lib.hid (Box2.below B_b.out bb B_b.out.lt)
  replace HB := Lib.hid (nextw HB.out bb)
  clear bb
  have c0a := B_a.out.c0
  have c1a := B_a.out.c1
  have c0b := B_b.out.c0
  have c1b := B_b.out.c1
  clear c0a c1a c0b c1b
  go_wp2
  go_ret
  exact ⟨rfl, nextw HB.out (by exact ⟨rfl, rfl, rfl, Nat.le_refl _, fun _ _ => rfl⟩)⟩

set_option maxRecDepth 100000 in
set_option maxHeartbeats 8000000 in
theorem Mts_Ctt (f c g d m : Int) (m0 : 0 ≤ m) (m1 : m ≤ 255) (ha : OkA f c) (hb : OkA g d) (h1 : hasB f c m = true) (h2 : hasB g d m = true) (w : World) :
    Calls Try.prog 12 #[av f c, av g d, .int .u8 m] w fun e w' => e = .returned (.bool true) ∧ Below w.heap.size w w' := by
  have HA := Lib.hid (fun w => awake_any w)
  have HM := Lib.hid (fun w => Meet_ok f c g d ha hb w)
  have HR := Lib.hid (fun w => RMeet_ok f c g d ha hb w)
  have hfine := all_fine ha hb m
  have hbb : bothB f c g d m = true := by unfold bothB; rw [h1, h2]; rfl
  rw [hbb] at hfine
  clear hbb
  have HH := Lib.hid (fun w => Has_at (h := m) ha h1 w)
  have HH2 := Lib.hid (fun w => Has_at (h := m) hb h2 w)
  have HV := Lib.hid (fun w => VA_yes ha w)
  have HW := Lib.hid (fun w => VA_yes hb w)
  clear ha hb h1 h2
  obtain ⟨hok, hlen, hcnt⟩ := hfine
  generalize refAll f c g d = L at *
  have HCN : Hid (cntL L m = 1) := hcnt
  have HOK := Lib.hid hok
  clear hok hcnt
  have HB := Lib.hid (show Below w.heap.size w ((w.alloc (.cells #[.int .i64 f, .int .i64 c] 43)).alloc (.cells #[.int .i64 g, .int .i64 d] 43)) from (((Below.refl _ _).alloc (by simp <;> omega) _).alloc (by simp <;> omega) _))
  have B_a : Box2 ((w.alloc (.cells #[.int .i64 f, .int .i64 c] 43)).alloc (.cells #[.int .i64 g, .int .i64 d] 43)) (w.heap.size) f c := by have h := (Box2.alloc (Box2.new w f c) (.cells #[.int .i64 g, .int .i64 d] 43)); simpa using h
  replace B_a := Lib.hid B_a
  have B_b : Box2 ((w.alloc (.cells #[.int .i64 f, .int .i64 c] 43)).alloc (.cells #[.int .i64 g, .int .i64 d] 43)) (w.heap.size + 1) g d := by have h := (Box2.new (w.alloc (.cells #[.int .i64 f, .int .i64 c] 43)) g d); simpa using h
  replace B_b := Lib.hid B_b
  go_enter Try.func12, Try.ntmps12
  go_wp2_with fail
  generalize (w.alloc (.cells #[.int .i64 f, .int .i64 c] 43)).alloc (.cells #[.int .i64 g, .int .i64 d] 43) = W0 at *
  refine (HA.out _).mono ?_
  rintro e w1 ⟨rfl, bb⟩
  replace bb := nextw (w0 := W0) (by exact ⟨rfl, rfl, rfl, Nat.le_refl _, fun _ _ => rfl⟩) bb
  replace B_a := Lib.hid (Box2.below B_a.out bb B_a.out.lt)
  replace B_b := Lib.hid (Box2.below B_b.out bb B_b.out.lt)
  replace HB := Lib.hid (nextw HB.out bb)
  clear bb
  have c0a := B_a.out.c0
  have c1a := B_a.out.c1
  have c0b := B_b.out.c0
  have c1b := B_b.out.c1
  go_wp2_with fail
  refine (HM.out _).mono ?_
  clear c0a c1a c0b c1b
  rintro e w2 ⟨v, rfl, hv, bb⟩
  replace bb := nextw (w0 := w1) (by exact ⟨rfl, rfl, rfl, Nat.le_refl _, fun _ _ => rfl⟩) bb
  replace B_a := Lib.hid (Box2.below B_a.out bb B_a.out.lt)
  replace B_b := Lib.hid (Box2.below B_b.out bb B_b.out.lt)
  replace HB := Lib.hid (nextw HB.out bb)
  clear bb
  have VL := Lib.hid hv
  clear hv HA HM
  obtain ⟨A, cap, rfl, hh⟩ := id VL.out
  obtain ⟨n, hn⟩ : ∃ n, L.length = n := ⟨_, rfl⟩
  have HN := Lib.hid hn
  rw [hn] at hlen ⊢
  clear hn hh
  have HZ : Hid (cntL (L.take 0) m = 0) := rfl
  go_wp2_with fail
  go_loopw [8, 9] (fun q i wr => ∃ k : Nat, k ≤ n ∧ i = .int .i64 k ∧ q = .int .i64 (cntL (L.take k) m : Nat) ∧ cntL (L.take k) m ≤ k ∧ Hid (AR wr (.slice A L.length cap) L) ∧ Hid (Box2 wr (w.heap.size) f c) ∧ Hid (Box2 wr (w.heap.size + 1) g d) ∧ Hid (Below w.heap.size w wr)) (fun _ i _ => n - (intOf i).toNat)
  case atStart => exact ⟨0, by omega, rfl, by rw [HZ.out]; rfl, by rw [HZ.out]; omega, VL, B_a, B_b, HB⟩
  case round =>
    clear VL B_a B_b HB HZ
    obtain ⟨k, hk, rfl, rfl, hqk, VL, B_a, B_b, HB⟩ := hrel
    by_cases hlt : k < n
    · have hkL : k < L.length := by rw [HN.out]; exact hlt
      obtain ⟨A2, cap2, he, hh⟩ := VL.out
      obtain ⟨gg, hA, -, hcc⟩ := hh (by intro e; rw [e] at hkL; simp at hkL)
      simp only [Value.slice.injEq] at he
      obtain ⟨rfl, -, rfl⟩ := he
      subst hA
      obtain ⟨e1, e2⟩ := hcc k hkL
      have HT := Lib.hid (cntL_take m hkL)
      have hok := allOk_getD HOK.out hkL
      generalize (L.getD k (0, 0)).1 = x at *
      generalize (L.getD k (0, 0)).2 = y at *
      generalize cntL (L.take k) m = q at *
      clear hh hcc hkL
      rcases hx : hasB x y m with _ | _ <;> rw [hx] at HT
      all_goals
        have HX := Lib.hid (fun w => Has_at (h := m) hok hx w)
        clear hok hx
        go_wp2_with fail
        refine (HX.out _).mono ?_
        rintro e w9 ⟨rfl, bb⟩
        replace bb := nextw (w0 := wr) (by exact ⟨rfl, rfl, rfl, Nat.le_refl _, fun _ _ => rfl⟩) bb
        have VL2 := Lib.hid (AR.below VL.out bb)
        have A2 := Lib.hid (Box2.below B_a.out bb B_a.out.lt)
        have B2 := Lib.hid (Box2.below B_b.out bb B_b.out.lt)
        have HB2 := Lib.hid (nextw HB.out bb)
        clear bb e1 e2 HX
        go_wp2
        go_roundw
        case rel => exact ⟨k + 1, by omega, by go_num, by rw [HT.out]; first | go_num | rfl, by rw [HT.out]; simp; omega, VL2, A2, B2, HB2⟩
        case measure => simp only [intOf]; omega
    · obtain rfl : k = n := by omega
      have HE : Hid (cntL (L.take k) m = 1) := by unfold Hid; rw [← HN.out, List.take_length]; exact HCN.out
      rw [HE.out]
      have VN : Hid (AR wr (.slice A k cap) L) := by have h := VL.out; rw [HN.out] at h; exact h
      clear VL hlt hqk HE
      have c0a := B_a.out.c0
      have c1a := B_a.out.c1
      have c0b := B_b.out.c0
      have c1b := B_b.out.c1
      go_wp2_with fail
      refine (HH.out _).mono ?_
      clear c0a c1a c0b c1b
      rintro e w3 ⟨rfl, bb⟩
      replace bb := nextw (w0 := wr) (by exact ⟨rfl, rfl, rfl, Nat.le_refl _, fun _ _ => rfl⟩) bb
      replace B_a := Lib.hid (Box2.below B_a.out bb B_a.out.lt)
      replace B_b := Lib.hid (Box2.below B_b.out bb B_b.out.lt)
      replace VN := Lib.hid (AR.below VN.out bb)
      replace HB := Lib.hid (nextw HB.out bb)
      clear bb
      have c0a := B_a.out.c0
      have c1a := B_a.out.c1
      have c0b := B_b.out.c0
      have c1b := B_b.out.c1
      go_wp2_with fail
      refine (HH2.out _).mono ?_
      clear c0a c1a c0b c1b
      rintro e w4 ⟨rfl, bb⟩
      replace bb := nextw (w0 := w3) (by exact ⟨rfl, rfl, rfl, Nat.le_refl _, fun _ _ => rfl⟩) bb
      replace B_a := Lib.hid (Box2.below B_a.out bb B_a.out.lt)
      replace B_b := Lib.hid (Box2.below B_b.out bb B_b.out.lt)
      replace VN := Lib.hid (AR.below VN.out bb)
      replace HB := Lib.hid (nextw HB.out bb)
      clear bb
      have c0a := B_a.out.c0
      have c1a := B_a.out.c1
      have c0b := B_b.out.c0
      have c1b := B_b.out.c1
      go_wp2_with fail
      refine (HV.out _).mono ?_
      clear c0a c1a c0b c1b
      rintro e w5 ⟨rfl, bb⟩
      replace bb := nextw (w0 := w4) (by exact ⟨rfl, rfl, rfl, Nat.le_refl _, fun _ _ => rfl⟩) bb
      replace B_a := Lib.hid (Box2.below B_a.out bb B_a.out.lt)
      replace B_b := Lib.hid (Box2.below B_b.out bb B_b.out.lt)
      replace VN := Lib.hid (AR.below VN.out bb)
      replace HB := Lib.hid (nextw HB.out bb)
      clear bb
      have c0a := B_a.out.c0
      have c1a := B_a.out.c1
      have c0b := B_b.out.c0
      have c1b := B_b.out.c1
      go_wp2_with fail
      refine (HW.out _).mono ?_
      clear c0a c1a c0b c1b
      rintro e w6 ⟨rfl, bb⟩
      replace bb := nextw (w0 := w5) (by exact ⟨rfl, rfl, rfl, Nat.le_refl _, fun _ _ => rfl⟩) bb
      replace B_a := Lib.hid (Box2.below B_a.out bb B_a.out.lt)
      replace B_b := Lib.hid (Box2.below B_b.out bb B_b.out.lt)
      replace VN := Lib.hid (AR.below VN.out bb)
      replace HB := Lib.hid (nextw HB.out bb)
      clear bb
      have c0a := B_a.out.c0
      have c1a := B_a.out.c1
      have c0b := B_b.out.c0
      have c1b := B_b.out.c1
      go_wp2_with fail
      refine (HR.out _).mono ?_
      clear c0a c1a c0b c1b
      rintro e w7 ⟨v2, rfl, hv2, bb⟩
      replace bb := nextw (w0 := w6) (by exact ⟨rfl, rfl, rfl, Nat.le_refl _, fun _ _ => rfl⟩) bb
      replace B_a := Lib.hid (Box2.below B_a.out bb B_a.out.lt)
      replace B_b := Lib.hid (Box2.below B_b.out bb B_b.out.lt)
      replace VN := Lib.hid (AR.below VN.out bb)
      replace HB := Lib.hid (nextw HB.out bb)
      clear bb
      have V2 := Lib.hid hv2
      clear hv2
      go_wp2_with fail
      refine (Arcs_same (AR.below VN.out (by exact ⟨rfl, rfl, rfl, Nat.le_refl _, fun _ _ => rfl⟩)) (AR.below V2.out (by exact ⟨rfl, rfl, rfl, Nat.le_refl _, fun _ _ => rfl⟩)) (by rw [HN.out]; omega)).mono ?_
      rintro e w8 ⟨rfl, bb⟩
      replace bb := nextw (w0 := w7) (by exact ⟨rfl, rfl, rfl, Nat.le_refl _, fun _ _ => rfl⟩) bb
      replace B_a := Lib.hid (Box2.below B_a.out bb B_a.out.lt)
      replace B_b := Lib.hid (Box2.below B_b.out bb B_b.out.lt)
      replace VN := Lib.hid (AR.below VN.out bb)
      replace HB := Lib.hid (nextw HB.out bb)
      clear bb
      go_wp2
      go_ret
      exact ⟨rfl, nextw HB.out (by exact ⟨rfl, rfl, rfl, Nat.le_refl _, fun _ _ => rfl⟩)⟩

set_option maxRecDepth 100000 in
set_option maxHeartbeats 8000000 in
theorem Mts_Ctf (f c g d m : Int) (m0 : 0 ≤ m) (m1 : m ≤ 255) (ha : OkA f c) (hb : OkA g d) (h1 : hasB f c m = true) (h2 : hasB g d m = false) (w : World) :
    Calls Try.prog 12 #[av f c, av g d, .int .u8 m] w fun e w' => e = .returned (.bool true) ∧ Below w.heap.size w w' := by
  have HA := Lib.hid (fun w => awake_any w)
  have HM := Lib.hid (fun w => Meet_ok f c g d ha hb w)
  have HR := Lib.hid (fun w => RMeet_ok f c g d ha hb w)
  have hfine := all_fine ha hb m
  have hbb : bothB f c g d m = false := by unfold bothB; rw [h1, h2]; rfl
  rw [hbb] at hfine
  clear hbb
  have HH := Lib.hid (fun w => Has_at (h := m) ha h1 w)
  have HH2 := Lib.hid (fun w => Has_at (h := m) hb h2 w)
  have HV := Lib.hid (fun w => VA_yes ha w)
  have HW := Lib.hid (fun w => VA_yes hb w)
  clear ha hb h1 h2
  obtain ⟨hok, hlen, hcnt⟩ := hfine
  generalize refAll f c g d = L at *
  have HCN : Hid (cntL L m = 0) := by unfold Hid; rw [hcnt]; rfl
  have HOK := Lib.hid hok
  clear hok hcnt
  have HB := Lib.hid (show Below w.heap.size w ((w.alloc (.cells #[.int .i64 f, .int .i64 c] 43)).alloc (.cells #[.int .i64 g, .int .i64 d] 43)) from (((Below.refl _ _).alloc (by simp <;> omega) _).alloc (by simp <;> omega) _))
  have B_a : Box2 ((w.alloc (.cells #[.int .i64 f, .int .i64 c] 43)).alloc (.cells #[.int .i64 g, .int .i64 d] 43)) (w.heap.size) f c := by have h := (Box2.alloc (Box2.new w f c) (.cells #[.int .i64 g, .int .i64 d] 43)); simpa using h
  replace B_a := Lib.hid B_a
  have B_b : Box2 ((w.alloc (.cells #[.int .i64 f, .int .i64 c] 43)).alloc (.cells #[.int .i64 g, .int .i64 d] 43)) (w.heap.size + 1) g d := by have h := (Box2.new (w.alloc (.cells #[.int .i64 f, .int .i64 c] 43)) g d); simpa using h
  replace B_b := Lib.hid B_b
  go_enter Try.func12, Try.ntmps12
  go_wp2_with fail
  generalize (w.alloc (.cells #[.int .i64 f, .int .i64 c] 43)).alloc (.cells #[.int .i64 g, .int .i64 d] 43) = W0 at *
  refine (HA.out _).mono ?_
  rintro e w1 ⟨rfl, bb⟩
  replace bb := nextw (w0 := W0) (by exact ⟨rfl, rfl, rfl, Nat.le_refl _, fun _ _ => rfl⟩) bb
  replace B_a := Lib.hid (Box2.below B_a.out bb B_a.out.lt)
  replace B_b := Lib.hid (Box2.below B_b.out bb B_b.out.lt)
  replace HB := Lib.hid (nextw HB.out bb)
  clear bb
  have c0a := B_a.out.c0
  have c1a := B_a.out.c1
  have c0b := B_b.out.c0
  have c1b := B_b.out.c1
  go_wp2_with fail
  refine (HM.out _).mono ?_
  clear c0a c1a c0b c1b
  rintro e w2 ⟨v, rfl, hv, bb⟩
  replace bb := nextw (w0 := w1) (by exact ⟨rfl, rfl, rfl, Nat.le_refl _, fun _ _ => rfl⟩) bb
  replace B_a := Lib.hid (Box2.below B_a.out bb B_a.out.lt)
  replace B_b := Lib.hid (Box2.below B_b.out bb B_b.out.lt)
  replace HB := Lib.hid (nextw HB.out bb)
  clear bb
  have VL := Lib.hid hv
  clear hv HA HM
  obtain ⟨A, cap, rfl, hh⟩ := id VL.out
  obtain ⟨n, hn⟩ : ∃ n, L.length = n := ⟨_, rfl⟩
  have HN := Lib.hid hn
  rw [hn] at hlen ⊢
  clear hn hh
  have HZ : Hid (cntL (L.take 0) m = 0) := rfl
  go_wp2_with fail
  go_loopw [8, 9] (fun q i wr => ∃ k : Nat, k ≤ n ∧ i = .int .i64 k ∧ q = .int .i64 (cntL (L.take k) m : Nat) ∧ cntL (L.take k) m ≤ k ∧ Hid (AR wr (.slice A L.length cap) L) ∧ Hid (Box2 wr (w.heap.size) f c) ∧ Hid (Box2 wr (w.heap.size + 1) g d) ∧ Hid (Below w.heap.size w wr)) (fun _ i _ => n - (intOf i).toNat)
  case atStart => exact ⟨0, by omega, rfl, by rw [HZ.out]; rfl, by rw [HZ.out]; omega, VL, B_a, B_b, HB⟩
  case round =>
    clear VL B_a B_b HB HZ
    obtain ⟨k, hk, rfl, rfl, hqk, VL, B_a, B_b, HB⟩ := hrel
    by_cases hlt : k < n
    · have hkL : k < L.length := by rw [HN.out]; exact hlt
      obtain ⟨A2, cap2, he, hh⟩ := VL.out
      obtain ⟨gg, hA, -, hcc⟩ := hh (by intro e; rw [e] at hkL; simp at hkL)
      simp only [Value.slice.injEq] at he
      obtain ⟨rfl, -, rfl⟩ := he
      subst hA
      obtain ⟨e1, e2⟩ := hcc k hkL
      have HT := Lib.hid (cntL_take m hkL)
      have hok := allOk_getD HOK.out hkL
      generalize (L.getD k (0, 0)).1 = x at *
      generalize (L.getD k (0, 0)).2 = y at *
      generalize cntL (L.take k) m = q at *
      clear hh hcc hkL
      rcases hx : hasB x y m with _ | _ <;> rw [hx] at HT
      all_goals
        have HX := Lib.hid (fun w => Has_at (h := m) hok hx w)
        clear hok hx
        go_wp2_with fail
        refine (HX.out _).mono ?_
        rintro e w9 ⟨rfl, bb⟩
        replace bb := nextw (w0 := wr) (by exact ⟨rfl, rfl, rfl, Nat.le_refl _, fun _ _ => rfl⟩) bb
        have VL2 := Lib.hid (AR.below VL.out bb)
        have A2 := Lib.hid (Box2.below B_a.out bb B_a.out.lt)
        have B2 := Lib.hid (Box2.below B_b.out bb B_b.out.lt)
        have HB2 := Lib.hid (nextw HB.out bb)
        clear bb e1 e2 HX
        go_wp2
        go_roundw
        case rel => exact ⟨k + 1, by omega, by go_num, by rw [HT.out]; first | go_num | rfl, by rw [HT.out]; simp; omega, VL2, A2, B2, HB2⟩
        case measure => simp only [intOf]; omega
    · obtain rfl : k = n := by omega
      have HE : Hid (cntL (L.take k) m = 0) := by unfold Hid; rw [← HN.out, List.take_length]; exact HCN.out
      rw [HE.out]
      have VN : Hid (AR wr (.slice A k cap) L) := by have h := VL.out; rw [HN.out] at h; exact h
      clear VL hlt hqk HE
      have c0a := B_a.out.c0
      have c1a := B_a.out.c1
      have c0b := B_b.out.c0
      have c1b := B_b.out.c1
      go_wp2_with fail
      refine (HH.out _).mono ?_
      clear c0a c1a c0b c1b
      rintro e w3 ⟨rfl, bb⟩
      replace bb := nextw (w0 := wr) (by exact ⟨rfl, rfl, rfl, Nat.le_refl _, fun _ _ => rfl⟩) bb
      replace B_a := Lib.hid (Box2.below B_a.out bb B_a.out.lt)
      replace B_b := Lib.hid (Box2.below B_b.out bb B_b.out.lt)
      replace VN := Lib.hid (AR.below VN.out bb)
      replace HB := Lib.hid (nextw HB.out bb)
      clear bb
      have c0a := B_a.out.c0
      have c1a := B_a.out.c1
      have c0b := B_b.out.c0
      have c1b := B_b.out.c1
      go_wp2_with fail
      refine (HH2.out _).mono ?_
      clear c0a c1a c0b c1b
      rintro e w4 ⟨rfl, bb⟩
      replace bb := nextw (w0 := w3) (by exact ⟨rfl, rfl, rfl, Nat.le_refl _, fun _ _ => rfl⟩) bb
      replace B_a := Lib.hid (Box2.below B_a.out bb B_a.out.lt)
      replace B_b := Lib.hid (Box2.below B_b.out bb B_b.out.lt)
      replace VN := Lib.hid (AR.below VN.out bb)
      replace HB := Lib.hid (nextw HB.out bb)
      clear bb
      have c0a := B_a.out.c0
      have c1a := B_a.out.c1
      have c0b := B_b.out.c0
      have c1b := B_b.out.c1
      go_wp2_with fail
      refine (HV.out _).mono ?_
      clear c0a c1a c0b c1b
      rintro e w5 ⟨rfl, bb⟩
      replace bb := nextw (w0 := w4) (by exact ⟨rfl, rfl, rfl, Nat.le_refl _, fun _ _ => rfl⟩) bb
      replace B_a := Lib.hid (Box2.below B_a.out bb B_a.out.lt)
      replace B_b := Lib.hid (Box2.below B_b.out bb B_b.out.lt)
      replace VN := Lib.hid (AR.below VN.out bb)
      replace HB := Lib.hid (nextw HB.out bb)
      clear bb
      have c0a := B_a.out.c0
      have c1a := B_a.out.c1
      have c0b := B_b.out.c0
      have c1b := B_b.out.c1
      go_wp2_with fail
      refine (HW.out _).mono ?_
      clear c0a c1a c0b c1b
      rintro e w6 ⟨rfl, bb⟩
      replace bb := nextw (w0 := w5) (by exact ⟨rfl, rfl, rfl, Nat.le_refl _, fun _ _ => rfl⟩) bb
      replace B_a := Lib.hid (Box2.below B_a.out bb B_a.out.lt)
      replace B_b := Lib.hid (Box2.below B_b.out bb B_b.out.lt)
      replace VN := Lib.hid (AR.below VN.out bb)
      replace HB := Lib.hid (nextw HB.out bb)
      clear bb
      have c0a := B_a.out.c0
      have c1a := B_a.out.c1
      have c0b := B_b.out.c0
      have c1b := B_b.out.c1
      go_wp2_with fail
      refine (HR.out _).mono ?_
      clear c0a c1a c0b c1b
      rintro e w7 ⟨v2, rfl, hv2, bb⟩
      replace bb := nextw (w0 := w6) (by exact ⟨rfl, rfl, rfl, Nat.le_refl _, fun _ _ => rfl⟩) bb
      replace B_a := Lib.hid (Box2.below B_a.out bb B_a.out.lt)
      replace B_b := Lib.hid (Box2.below B_b.out bb B_b.out.lt)
      replace VN := Lib.hid (AR.below VN.out bb)
      replace HB := Lib.hid (nextw HB.out bb)
      clear bb
      have V2 := Lib.hid hv2
      clear hv2
      go_wp2_with fail
      refine (Arcs_same (AR.below VN.out (by exact ⟨rfl, rfl, rfl, Nat.le_refl _, fun _ _ => rfl⟩)) (AR.below V2.out (by exact ⟨rfl, rfl, rfl, Nat.le_refl _, fun _ _ => rfl⟩)) (by rw [HN.out]; omega)).mono ?_
      rintro e w8 ⟨rfl, bb⟩
      replace bb := nextw (w0 := w7) (by exact ⟨rfl, rfl, rfl, Nat.le_refl _, fun _ _ => rfl⟩) bb
      replace B_a := Lib.hid (Box2.below B_a.out bb B_a.out.lt)
      replace B_b := Lib.hid (Box2.below B_b.out bb B_b.out.lt)
      replace VN := Lib.hid (AR.below VN.out bb)
      replace HB := Lib.hid (nextw HB.out bb)
      clear bb
      go_wp2
      go_ret
      exact ⟨rfl, nextw HB.out (by exact ⟨rfl, rfl, rfl, Nat.le_refl _, fun _ _ => rfl⟩)⟩

set_option maxRecDepth 100000 in
set_option maxHeartbeats 8000000 in
theorem Mts_Cft (f c g d m : Int) (m0 : 0 ≤ m) (m1 : m ≤ 255) (ha : OkA f c) (hb : OkA g d) (h1 : hasB f c m = false) (h2 : hasB g d m = true) (w : World) :
    Calls Try.prog 12 #[av f c, av g d, .int .u8 m] w fun e w' => e = .returned (.bool true) ∧ Below w.heap.size w w' := by
  have HA := Lib.hid (fun w => awake_any w)
  have HM := Lib.hid (fun w => Meet_ok f c g d ha hb w)
  have HR := Lib.hid (fun w => RMeet_ok f c g d ha hb w)
  have hfine := all_fine ha hb m
  have hbb : bothB f c g d m = false := by unfold bothB; rw [h1, h2]; rfl
  rw [hbb] at hfine
  clear hbb
  have HH := Lib.hid (fun w => Has_at (h := m) ha h1 w)
  have HH2 := Lib.hid (fun w => Has_at (h := m) hb h2 w)
  have HV := Lib.hid (fun w => VA_yes ha w)
  have HW := Lib.hid (fun w => VA_yes hb w)
  clear ha hb h1 h2
  obtain ⟨hok, hlen, hcnt⟩ := hfine
  generalize refAll f c g d = L at *
  have HCN : Hid (cntL L m = 0) := by unfold Hid; rw [hcnt]; rfl
  have HOK := Lib.hid hok
  clear hok hcnt
  have HB := Lib.hid (show Below w.heap.size w ((w.alloc (.cells #[.int .i64 f, .int .i64 c] 43)).alloc (.cells #[.int .i64 g, .int .i64 d] 43)) from (((Below.refl _ _).alloc (by simp <;> omega) _).alloc (by simp <;> omega) _))
  have B_a : Box2 ((w.alloc (.cells #[.int .i64 f, .int .i64 c] 43)).alloc (.cells #[.int .i64 g, .int .i64 d] 43)) (w.heap.size) f c := by have h := (Box2.alloc (Box2.new w f c) (.cells #[.int .i64 g, .int .i64 d] 43)); simpa using h
  replace B_a := Lib.hid B_a
  have B_b : Box2 ((w.alloc (.cells #[.int .i64 f, .int .i64 c] 43)).alloc (.cells #[.int .i64 g, .int .i64 d] 43)) (w.heap.size + 1) g d := by have h := (Box2.new (w.alloc (.cells #[.int .i64 f, .int .i64 c] 43)) g d); simpa using h
  replace B_b := Lib.hid B_b
  go_enter Try.func12, Try.ntmps12
  go_wp2_with fail
  generalize (w.alloc (.cells #[.int .i64 f, .int .i64 c] 43)).alloc (.cells #[.int .i64 g, .int .i64 d] 43) = W0 at *
  refine (HA.out _).mono ?_
  rintro e w1 ⟨rfl, bb⟩
  replace bb := nextw (w0 := W0) (by exact ⟨rfl, rfl, rfl, Nat.le_refl _, fun _ _ => rfl⟩) bb
  replace B_a := Lib.hid (Box2.below B_a.out bb B_a.out.lt)
  replace B_b := Lib.hid (Box2.below B_b.out bb B_b.out.lt)
  replace HB := Lib.hid (nextw HB.out bb)
  clear bb
  have c0a := B_a.out.c0
  have c1a := B_a.out.c1
  have c0b := B_b.out.c0
  have c1b := B_b.out.c1
  go_wp2_with fail
  refine (HM.out _).mono ?_
  clear c0a c1a c0b c1b
  rintro e w2 ⟨v, rfl, hv, bb⟩
  replace bb := nextw (w0 := w1) (by exact ⟨rfl, rfl, rfl, Nat.le_refl _, fun _ _ => rfl⟩) bb
  replace B_a := Lib.hid (Box2.below B_a.out bb B_a.out.lt)
  replace B_b := Lib.hid (Box2.below B_b.out bb B_b.out.lt)
  replace HB := Lib.hid (nextw HB.out bb)
  clear bb
  have VL := Lib.hid hv
  clear hv HA HM
  obtain ⟨A, cap, rfl, hh⟩ := id VL.out
  obtain ⟨n, hn⟩ : ∃ n, L.length = n := ⟨_, rfl⟩
  have HN := Lib.hid hn
  rw [hn] at hlen ⊢
  clear hn hh
  have HZ : Hid (cntL (L.take 0) m = 0) := rfl
  go_wp2_with fail
  go_loopw [8, 9] (fun q i wr => ∃ k : Nat, k ≤ n ∧ i = .int .i64 k ∧ q = .int .i64 (cntL (L.take k) m : Nat) ∧ cntL (L.take k) m ≤ k ∧ Hid (AR wr (.slice A L.length cap) L) ∧ Hid (Box2 wr (w.heap.size) f c) ∧ Hid (Box2 wr (w.heap.size + 1) g d) ∧ Hid (Below w.heap.size w wr)) (fun _ i _ => n - (intOf i).toNat)
  case atStart => exact ⟨0, by omega, rfl, by rw [HZ.out]; rfl, by rw [HZ.out]; omega, VL, B_a, B_b, HB⟩
  case round =>
    clear VL B_a B_b HB HZ
    obtain ⟨k, hk, rfl, rfl, hqk, VL, B_a, B_b, HB⟩ := hrel
    by_cases hlt : k < n
    · have hkL : k < L.length := by rw [HN.out]; exact hlt
      obtain ⟨A2, cap2, he, hh⟩ := VL.out
      obtain ⟨gg, hA, -, hcc⟩ := hh (by intro e; rw [e] at hkL; simp at hkL)
      simp only [Value.slice.injEq] at he
      obtain ⟨rfl, -, rfl⟩ := he
      subst hA
      obtain ⟨e1, e2⟩ := hcc k hkL
      have HT := Lib.hid (cntL_take m hkL)
      have hok := allOk_getD HOK.out hkL
      generalize (L.getD k (0, 0)).1 = x at *
      generalize (L.getD k (0, 0)).2 = y at *
      generalize cntL (L.take k) m = q at *
      clear hh hcc hkL
      rcases hx : hasB x y m with _ | _ <;> rw [hx] at HT
      all_goals
        have HX := Lib.hid (fun w => Has_at (h := m) hok hx w)
        clear hok hx
        go_wp2_with fail
        refine (HX.out _).mono ?_
        rintro e w9 ⟨rfl, bb⟩
        replace bb := nextw (w0 := wr) (by exact ⟨rfl, rfl, rfl, Nat.le_refl _, fun _ _ => rfl⟩) bb
        have VL2 := Lib.hid (AR.below VL.out bb)
        have A2 := Lib.hid (Box2.below B_a.out bb B_a.out.lt)
        have B2 := Lib.hid (Box2.below B_b.out bb B_b.out.lt)
        have HB2 := Lib.hid (nextw HB.out bb)
        clear bb e1 e2 HX
        go_wp2
        go_roundw
        case rel => exact ⟨k + 1, by omega, by go_num, by rw [HT.out]; first | go_num | rfl, by rw [HT.out]; simp; omega, VL2, A2, B2, HB2⟩
        case measure => simp only [intOf]; omega
    · obtain rfl : k = n := by omega
      have HE : Hid (cntL (L.take k) m = 0) := by unfold Hid; rw [← HN.out, List.take_length]; exact HCN.out
      rw [HE.out]
      have VN : Hid (AR wr (.slice A k cap) L) := by have h := VL.out; rw [HN.out] at h; exact h
      clear VL hlt hqk HE
      have c0a := B_a.out.c0
      have c1a := B_a.out.c1
      have c0b := B_b.out.c0
      have c1b := B_b.out.c1
      go_wp2_with fail
      refine (HH.out _).mono ?_
      clear c0a c1a c0b c1b
      rintro e w3 ⟨rfl, bb⟩
      replace bb := nextw (w0 := wr) (by exact ⟨rfl, rfl, rfl, Nat.le_refl _, fun _ _ => rfl⟩) bb
      replace B_a := Lib.hid (Box2.below B_a.out bb B_a.out.lt)
      replace B_b := Lib.hid (Box2.below B_b.out bb B_b.out.lt)
      replace VN := Lib.hid (AR.below VN.out bb)
      replace HB := Lib.hid (nextw HB.out bb)
      clear bb
      have c0a := B_a.out.c0
      have c1a := B_a.out.c1
      have c0b := B_b.out.c0
      have c1b := B_b.out.c1
      go_wp2_with fail
      refine (HV.out _).mono ?_
      clear c0a c1a c0b c1b
      rintro e w4 ⟨rfl, bb⟩
      replace bb := nextw (w0 := w3) (by exact ⟨rfl, rfl, rfl, Nat.le_refl _, fun _ _ => rfl⟩) bb
      replace B_a := Lib.hid (Box2.below B_a.out bb B_a.out.lt)
      replace B_b := Lib.hid (Box2.below B_b.out bb B_b.out.lt)
      replace VN := Lib.hid (AR.below VN.out bb)
      replace HB := Lib.hid (nextw HB.out bb)
      clear bb
      have c0a := B_a.out.c0
      have c1a := B_a.out.c1
      have c0b := B_b.out.c0
      have c1b := B_b.out.c1
      go_wp2_with fail
      refine (HW.out _).mono ?_
      clear c0a c1a c0b c1b
      rintro e w5 ⟨rfl, bb⟩
      replace bb := nextw (w0 := w4) (by exact ⟨rfl, rfl, rfl, Nat.le_refl _, fun _ _ => rfl⟩) bb
      replace B_a := Lib.hid (Box2.below B_a.out bb B_a.out.lt)
      replace B_b := Lib.hid (Box2.below B_b.out bb B_b.out.lt)
      replace VN := Lib.hid (AR.below VN.out bb)
      replace HB := Lib.hid (nextw HB.out bb)
      clear bb
      have c0a := B_a.out.c0
      have c1a := B_a.out.c1
      have c0b := B_b.out.c0
      have c1b := B_b.out.c1
      go_wp2_with fail
      refine (HR.out _).mono ?_
      clear c0a c1a c0b c1b
      rintro e w6 ⟨v2, rfl, hv2, bb⟩
      replace bb := nextw (w0 := w5) (by exact ⟨rfl, rfl, rfl, Nat.le_refl _, fun _ _ => rfl⟩) bb
      replace B_a := Lib.hid (Box2.below B_a.out bb B_a.out.lt)
      replace B_b := Lib.hid (Box2.below B_b.out bb B_b.out.lt)
      replace VN := Lib.hid (AR.below VN.out bb)
      replace HB := Lib.hid (nextw HB.out bb)
      clear bb
      have V2 := Lib.hid hv2
      clear hv2
      go_wp2_with fail
      refine (Arcs_same (AR.below VN.out (by exact ⟨rfl, rfl, rfl, Nat.le_refl _, fun _ _ => rfl⟩)) (AR.below V2.out (by exact ⟨rfl, rfl, rfl, Nat.le_refl _, fun _ _ => rfl⟩)) (by rw [HN.out]; omega)).mono ?_
      rintro e w7 ⟨rfl, bb⟩
      replace bb := nextw (w0 := w6) (by exact ⟨rfl, rfl, rfl, Nat.le_refl _, fun _ _ => rfl⟩) bb
      replace B_a := Lib.hid (Box2.below B_a.out bb B_a.out.lt)
      replace B_b := Lib.hid (Box2.below B_b.out bb B_b.out.lt)
      replace VN := Lib.hid (AR.below VN.out bb)
      replace HB := Lib.hid (nextw HB.out bb)
      clear bb
      go_wp2
      go_ret
      exact ⟨rfl, nextw HB.out (by exact ⟨rfl, rfl, rfl, Nat.le_refl _, fun _ _ => rfl⟩)⟩

set_option maxRecDepth 100000 in
set_option maxHeartbeats 8000000 in
theorem Mts_Cff (f c g d m : Int) (m0 : 0 ≤ m) (m1 : m ≤ 255) (ha : OkA f c) (hb : OkA g d) (h1 : hasB f c m = false) (h2 : hasB g d m = false) (w : World) :
    Calls Try.prog 12 #[av f c, av g d, .int .u8 m] w fun e w' => e = .returned (.bool true) ∧ Below w.heap.size w w' := by
  have HA := Lib.hid (fun w => awake_any w)
  have HM := Lib.hid (fun w => Meet_ok f c g d ha hb w)
  have HR := Lib.hid (fun w => RMeet_ok f c g d ha hb w)
  have hfine := all_fine ha hb m
  have hbb : bothB f c g d m = false := by unfold bothB; rw [h1, h2]; rfl
  rw [hbb] at hfine
  clear hbb
  have HH := Lib.hid (fun w => Has_at (h := m) ha h1 w)
  have HH2 := Lib.hid (fun w => Has_at (h := m) hb h2 w)
  have HV := Lib.hid (fun w => VA_yes ha w)
  have HW := Lib.hid (fun w => VA_yes hb w)
  clear ha hb h1 h2
  obtain ⟨hok, hlen, hcnt⟩ := hfine
  generalize refAll f c g d = L at *
  have HCN : Hid (cntL L m = 0) := by unfold Hid; rw [hcnt]; rfl
  have HOK := Lib.hid hok
  clear hok hcnt
  have HB := Lib.hid (show Below w.heap.size w ((w.alloc (.cells #[.int .i64 f, .int .i64 c] 43)).alloc (.cells #[.int .i64 g, .int .i64 d] 43)) from (((Below.refl _ _).alloc (by simp <;> omega) _).alloc (by simp <;> omega) _))
  have B_a : Box2 ((w.alloc (.cells #[.int .i64 f, .int .i64 c] 43)).alloc (.cells #[.int .i64 g, .int .i64 d] 43)) (w.heap.size) f c := by have h := (Box2.alloc (Box2.new w f c) (.cells #[.int .i64 g, .int .i64 d] 43)); simpa using h
  replace B_a := Lib.hid B_a
  have B_b : Box2 ((w.alloc (.cells #[.int .i64 f, .int .i64 c] 43)).alloc (.cells #[.int .i64 g, .int .i64 d] 43)) (w.heap.size + 1) g d := by have h := (Box2.new (w.alloc (.cells #[.int .i64 f, .int .i64 c] 43)) g d); simpa using h
  replace B_b := Lib.hid B_b
  go_enter Try.func12, Try.ntmps12
  go_wp2_with fail
  generalize (w.alloc (.cells #[.int .i64 f, .int .i64 c] 43)).alloc (.cells #[.int .i64 g, .int .i64 d] 43) = W0 at *
  refine (HA.out _).mono ?_
  rintro e w1 ⟨rfl, bb⟩
  replace bb := nextw (w0 := W0) (by exact ⟨rfl, rfl, rfl, Nat.le_refl _, fun _ _ => rfl⟩) bb
  replace B_a := Lib.hid (Box2.below B_a.out bb B_a.out.lt)
  replace B_b := Lib.hid (Box2.below B_b.out bb B_b.out.lt)
  replace HB := Lib.hid (nextw HB.out bb)
  clear bb
  have c0a := B_a.out.c0
  have c1a := B_a.out.c1
  have c0b := B_b.out.c0
  have c1b := B_b.out.c1
  go_wp2_with fail
  refine (HM.out _).mono ?_
  clear c0a c1a c0b c1b
  rintro e w2 ⟨v, rfl, hv, bb⟩
  replace bb := nextw (w0 := w1) (by exact ⟨rfl, rfl, rfl, Nat.le_refl _, fun _ _ => rfl⟩) bb
  replace B_a := Lib.hid (Box2.below B_a.out bb B_a.out.lt)
  replace B_b := Lib.hid (Box2.below B_b.out bb B_b.out.lt)
  replace HB := Lib.hid (nextw HB.out bb)
  clear bb
  have VL := Lib.hid hv
  clear hv HA HM
  obtain ⟨A, cap, rfl, hh⟩ := id VL.out
  obtain ⟨n, hn⟩ : ∃ n, L.length = n := ⟨_, rfl⟩
  have HN := Lib.hid hn
  rw [hn] at hlen ⊢
  clear hn hh
  have HZ : Hid (cntL (L.take 0) m = 0) := rfl
  go_wp2_with fail
  go_loopw [8, 9] (fun q i wr => ∃ k : Nat, k ≤ n ∧ i = .int .i64 k ∧ q = .int .i64 (cntL (L.take k) m : Nat) ∧ cntL (L.take k) m ≤ k ∧ Hid (AR wr (.slice A L.length cap) L) ∧ Hid (Box2 wr (w.heap.size) f c) ∧ Hid (Box2 wr (w.heap.size + 1) g d) ∧ Hid (Below w.heap.size w wr)) (fun _ i _ => n - (intOf i).toNat)
  case atStart => exact ⟨0, by omega, rfl, by rw [HZ.out]; rfl, by rw [HZ.out]; omega, VL, B_a, B_b, HB⟩
  case round =>
    clear VL B_a B_b HB HZ
    obtain ⟨k, hk, rfl, rfl, hqk, VL, B_a, B_b, HB⟩ := hrel
    by_cases hlt : k < n
    · have hkL : k < L.length := by rw [HN.out]; exact hlt
      obtain ⟨A2, cap2, he, hh⟩ := VL.out
      obtain ⟨gg, hA, -, hcc⟩ := hh (by intro e; rw [e] at hkL; simp at hkL)
      simp only [Value.slice.injEq] at he
      obtain ⟨rfl, -, rfl⟩ := he
      subst hA
      obtain ⟨e1, e2⟩ := hcc k hkL
      have HT := Lib.hid (cntL_take m hkL)
      have hok := allOk_getD HOK.out hkL
      generalize (L.getD k (0, 0)).1 = x at *
      generalize (L.getD k (0, 0)).2 = y at *
      generalize cntL (L.take k) m = q at *
      clear hh hcc hkL
      rcases hx : hasB x y m with _ | _ <;> rw [hx] at HT
      all_goals
        have HX := Lib.hid (fun w => Has_at (h := m) hok hx w)
        clear hok hx
        go_wp2_with fail
        refine (HX.out _).mono ?_
        rintro e w9 ⟨rfl, bb⟩
        replace bb := nextw (w0 := wr) (by exact ⟨rfl, rfl, rfl, Nat.le_refl _, fun _ _ => rfl⟩) bb
        have VL2 := Lib.hid (AR.below VL.out bb)
        have A2 := Lib.hid (Box2.below B_a.out bb B_a.out.lt)
        have B2 := Lib.hid (Box2.below B_b.out bb B_b.out.lt)
        have HB2 := Lib.hid (nextw HB.out bb)
        clear bb e1 e2 HX
        go_wp2
        go_roundw
        case rel => exact ⟨k + 1, by omega, by go_num, by rw [HT.out]; first | go_num | rfl, by rw [HT.out]; simp; omega, VL2, A2, B2, HB2⟩
        case measure => simp only [intOf]; omega
    · obtain rfl : k = n := by omega
      have HE : Hid (cntL (L.take k) m = 0) := by unfold Hid; rw [← HN.out, List.take_length]; exact HCN.out
      rw [HE.out]
      have VN : Hid (AR wr (.slice A k cap) L) := by have h := VL.out; rw [HN.out] at h; exact h
      clear VL hlt hqk HE
      have c0a := B_a.out.c0
      have c1a := B_a.out.c1
      have c0b := B_b.out.c0
      have c1b := B_b.out.c1
      go_wp2_with fail
      refine (HH.out _).mono ?_
      clear c0a c1a c0b c1b
      rintro e w3 ⟨rfl, bb⟩
      replace bb := nextw (w0 := wr) (by exact ⟨rfl, rfl, rfl, Nat.le_refl _, fun _ _ => rfl⟩) bb
      replace B_a := Lib.hid (Box2.below B_a.out bb B_a.out.lt)
      replace B_b := Lib.hid (Box2.below B_b.out bb B_b.out.lt)
      replace VN := Lib.hid (AR.below VN.out bb)
      replace HB := Lib.hid (nextw HB.out bb)
      clear bb
      have c0a := B_a.out.c0
      have c1a := B_a.out.c1
      have c0b := B_b.out.c0
      have c1b := B_b.out.c1
      go_wp2_with fail
      refine (HV.out _).mono ?_
      clear c0a c1a c0b c1b
      rintro e w4 ⟨rfl, bb⟩
      replace bb := nextw (w0 := w3) (by exact ⟨rfl, rfl, rfl, Nat.le_refl _, fun _ _ => rfl⟩) bb
      replace B_a := Lib.hid (Box2.below B_a.out bb B_a.out.lt)
      replace B_b := Lib.hid (Box2.below B_b.out bb B_b.out.lt)
      replace VN := Lib.hid (AR.below VN.out bb)
      replace HB := Lib.hid (nextw HB.out bb)
      clear bb
      have c0a := B_a.out.c0
      have c1a := B_a.out.c1
      have c0b := B_b.out.c0
      have c1b := B_b.out.c1
      go_wp2_with fail
      refine (HW.out _).mono ?_
      clear c0a c1a c0b c1b
      rintro e w5 ⟨rfl, bb⟩
      replace bb := nextw (w0 := w4) (by exact ⟨rfl, rfl, rfl, Nat.le_refl _, fun _ _ => rfl⟩) bb
      replace B_a := Lib.hid (Box2.below B_a.out bb B_a.out.lt)
      replace B_b := Lib.hid (Box2.below B_b.out bb B_b.out.lt)
      replace VN := Lib.hid (AR.below VN.out bb)
      replace HB := Lib.hid (nextw HB.out bb)
      clear bb
      have c0a := B_a.out.c0
      have c1a := B_a.out.c1
      have c0b := B_b.out.c0
      have c1b := B_b.out.c1
      go_wp2_with fail
      refine (HR.out _).mono ?_
      clear c0a c1a c0b c1b
      rintro e w6 ⟨v2, rfl, hv2, bb⟩
      replace bb := nextw (w0 := w5) (by exact ⟨rfl, rfl, rfl, Nat.le_refl _, fun _ _ => rfl⟩) bb
      replace B_a := Lib.hid (Box2.below B_a.out bb B_a.out.lt)
      replace B_b := Lib.hid (Box2.below B_b.out bb B_b.out.lt)
      replace VN := Lib.hid (AR.below VN.out bb)
      replace HB := Lib.hid (nextw HB.out bb)
      clear bb
      have V2 := Lib.hid hv2
      clear hv2
      go_wp2_with fail
      refine (Arcs_same (AR.below VN.out (by exact ⟨rfl, rfl, rfl, Nat.le_refl _, fun _ _ => rfl⟩)) (AR.below V2.out (by exact ⟨rfl, rfl, rfl, Nat.le_refl _, fun _ _ => rfl⟩)) (by rw [HN.out]; omega)).mono ?_
      rintro e w7 ⟨rfl, bb⟩
      replace bb := nextw (w0 := w6) (by exact ⟨rfl, rfl, rfl, Nat.le_refl _, fun _ _ => rfl⟩) bb
      replace B_a := Lib.hid (Box2.below B_a.out bb B_a.out.lt)
      replace B_b := Lib.hid (Box2.below B_b.out bb B_b.out.lt)
      replace VN := Lib.hid (AR.below VN.out bb)
      replace HB := Lib.hid (nextw HB.out bb)
      clear bb
      go_wp2
      go_ret
      exact ⟨rfl, nextw HB.out (by exact ⟨rfl, rfl, rfl, Nat.le_refl _, fun _ _ => rfl⟩)⟩

theorem Meets_any (f c g d m : Int) (m0 : 0 ≤ m) (m1 : m ≤ 255) (w : World) :
    Calls Try.prog 12 #[av f c, av g d, .int .u8 m] w fun e w' => e = .returned (.bool true) ∧ Below w.heap.size w w' := by
  by_cases ha : OkA f c
  · rcases h1 : hasB f c m with _ | _
    · by_cases hb : OkA g d
      · rcases h2 : hasB g d m with _ | _
        · exact Mts_Cff f c g d m m0 m1 ha hb h1 h2 w
        · exact Mts_Cft f c g d m m0 m1 ha hb h1 h2 w
      · exact Mts_Bf f c g d m m0 m1 ha hb h1 w
    · by_cases hb : OkA g d
      · rcases h2 : hasB g d m with _ | _
        · exact Mts_Ctf f c g d m m0 m1 ha hb h1 h2 w
        · exact Mts_Ctt f c g d m m0 m1 ha hb h1 h2 w
      · exact Mts_Bt f c g d m m0 m1 ha hb h1 w
  · exact Mts_A f c g d m m0 m1 ha w
end Go.Proofs.Ytincejndchdcdaa
