/- The law HeadingMoves. -/
import Derived.Test.YtincejndchdcdaaHAwake
import Derived.Test.YtincejndchdcdaaHRMove
import Derived.Test.YtincejndchdcdaaHNear
namespace Go.Proofs.Ytincejndchdcdaa
open Go Go.RowKit Hd

theorem Shift_any (f c n : Int) (hv : OkA f c) (w : World) :
    Calls Try.prog 37 #[av f c, .int .i64 n] w fun e w' => e = .returned (.tuple #[av (shF f c n) c, .int .i64 0]) ∧ Below w.heap.size w w' := by
  unfold shF
  by_cases hc : c = 256
  · obtain rfl := hv.full hc
    subst hc
    rw [if_pos rfl]; exact Shift_full n w
  · rw [if_neg hc]; exact Shift_part f c n hv hc w
theorem Grow_any (f c n : Int) (hv : OkA f c) (h0 : 0 ≤ n) (h1 : n ≤ 256) (w : World) :
    Calls Try.prog 38 #[av f c, .int .i64 n] w fun e w' => e = .returned (.tuple #[av (grF f c n) (grC c n), .int .i64 0]) ∧ Below w.heap.size w w' := by
  unfold grF grC
  by_cases hc : 256 ≤ c + 2 * n
  · rw [if_pos hc, if_pos hc]; exact Grow_full f c n hv h0 h1 hc w
  · rw [if_neg hc, if_neg hc]; exact Grow_part f c n hv h0 h1 (by omega) w
theorem Grow_out (f c n : Int) (hv : OkA f c) (h : n < 0 ∨ 256 < n) (w : World) :
    Calls Try.prog 38 #[av f c, .int .i64 n] w fun e w' => e = .returned (.tuple #[av 0 0, .int .i64 2]) ∧ Below w.heap.size w w' := by
  by_cases hn : n < 0
  · exact Grow_neg f c n hv hn w
  · exact Grow_big f c n hv (by omega) (by omega) w

theorem RShift_any (f c n : Int) (hv : OkA f c) (w : World) :
    Calls Try.prog 39 #[av f c, .int .i64 n] w fun e w' => e = .returned (.tuple #[av (shF f c n) c, .int .i64 0]) ∧ Below w.heap.size w w' := by
  unfold shF
  by_cases hc : c = 256
  · obtain rfl := hv.full hc
    subst hc
    rw [if_pos rfl]; exact RShift_full 0 256 n hv (by decide) w
  · rw [if_neg hc]; exact RShift_part f c n hv (by have := hv.c1; omega) w
theorem RGrow_any (f c n : Int) (hv : OkA f c) (h0 : 0 ≤ n) (h1 : n ≤ 256) (w : World) :
    Calls Try.prog 40 #[av f c, .int .i64 n] w fun e w' => e = .returned (.tuple #[av (grF f c n) (grC c n), .int .i64 0]) ∧ Below w.heap.size w w' := by
  unfold grF grC
  by_cases hc : 256 ≤ c + 2 * n
  · rw [if_pos hc, if_pos hc]; exact RGrow_full f c n hv h0 h1 hc w
  · rw [if_neg hc, if_neg hc]; exact RGrow_part f c n hv h0 h1 (by omega) w
theorem RGrow_out (f c n : Int) (hv : OkA f c) (h : n < 0 ∨ 256 < n) (w : World) :
    Calls Try.prog 40 #[av f c, .int .i64 n] w fun e w' => e = .returned (.tuple #[av 0 0, .int .i64 2]) ∧ Below w.heap.size w w' := by
  by_cases hn : n < 0
  · exact RGrow_neg f c n hv hn w
  · exact RGrow_big f c n hv (by omega) (by omega) w

set_option maxRecDepth 100000 in
set_option maxHeartbeats 8000000 in
theorem Moves_A (f c n m : Int) (hv : ¬ OkA f c) (m0 : 0 ≤ m) (m1 : m ≤ 255) (w : World) :
    Calls Try.prog 10 #[av f c, .int .i64 n, .int .u8 m] w fun e w' => e = .returned (.bool true) ∧ Below w.heap.size w w' := by
  have HA := Lib.hid (fun w => awake_any w)
  have HS := Lib.hid (fun w => Shift_bad f c n hv w)
  have HT := Lib.hid (fun w => RShift_bad f c n hv w)
  have HG := Lib.hid (fun w => Grow_bad f c n hv w)
  have HU := Lib.hid (fun w => RGrow_bad f c n hv w)
  clear hv
  have HB := Lib.hid (show Below w.heap.size w (w.alloc (.cells #[.int .i64 f, .int .i64 c] 43)) from ((Below.refl _ _).alloc (by simp <;> omega) _))
  have B_a : Box2 (w.alloc (.cells #[.int .i64 f, .int .i64 c] 43)) (w.heap.size) f c := by have h := (Box2.new w f c); simpa using h
  replace B_a := Lib.hid B_a
  go_enter Try.func10, Try.ntmps10
  go_wp2_with fail
  generalize w.alloc (.cells #[.int .i64 f, .int .i64 c] 43) = W0 at *
  refine (HA.out _).mono ?_
  rintro e w1 ⟨rfl, bb⟩
  replace bb := nextw (w0 := W0) (by exact ⟨rfl, rfl, rfl, Nat.le_refl _, fun _ _ => rfl⟩) bb
  replace B_a := Lib.hid (Box2.below B_a.out bb B_a.out.lt)
  replace HB := Lib.hid (nextw HB.out bb)
  clear bb
  have c0a := B_a.out.c0
  have c1a := B_a.out.c1
  go_wp2_with fail
  refine (HS.out _).mono ?_
  clear c0a c1a
  rintro e w2 ⟨rfl, bb⟩
  replace bb := nextw (w0 := w1) (by exact ⟨rfl, rfl, rfl, Nat.le_refl _, fun _ _ => rfl⟩) bb
  replace B_a := Lib.hid (Box2.below B_a.out bb B_a.out.lt)
  replace HB := Lib.hid (nextw HB.out bb)
  clear bb
  have lt_sa := B_a.out.lt
  have B_s := Lib.hid (Box2.new w2 0 0)
  replace B_a := Lib.hid (Box2.alloc B_a.out (.cells #[.int .i64 0, .int .i64 0] 43))
  replace HB := Lib.hid (nextw HB.out ((Below.refl w2.heap.size w2).alloc (Nat.le_refl _) (.cells #[.int .i64 0, .int .i64 0] 43)))
  go_upto_region 4 with (fail)
  generalize w2.alloc (.cells #[.int .i64 0, .int .i64 0] 43) = WS at *
  have c0a := B_a.out.c0
  have c1a := B_a.out.c1
  go_wp2_with fail
  refine (HG.out _).mono ?_
  clear c0a c1a
  rintro e w3 ⟨rfl, bb⟩
  replace bb := nextw (w0 := WS) (by exact ⟨rfl, rfl, rfl, Nat.le_refl _, fun _ _ => rfl⟩) bb
  replace B_a := Lib.hid (Box2.below B_a.out bb B_a.out.lt)
  replace B_s := Lib.hid (Box2.below B_s.out bb B_s.out.lt)
  replace HB := Lib.hid (nextw HB.out bb)
  clear bb
  have lt_ga := B_a.out.lt
  have lt_gs := B_s.out.lt
  have B_g := Lib.hid (Box2.new w3 0 0)
  replace B_a := Lib.hid (Box2.alloc B_a.out (.cells #[.int .i64 0, .int .i64 0] 43))
  replace B_s := Lib.hid (Box2.alloc B_s.out (.cells #[.int .i64 0, .int .i64 0] 43))
  replace HB := Lib.hid (nextw HB.out ((Below.refl w3.heap.size w3).alloc (Nat.le_refl _) (.cells #[.int .i64 0, .int .i64 0] 43)))
  go_upto_region 5 with (fail)
  generalize w3.alloc (.cells #[.int .i64 0, .int .i64 0] 43) = WG at *
  have c0a := B_a.out.c0
  have c1a := B_a.out.c1
  go_wp2_with fail
  refine (HT.out _).mono ?_
  clear c0a c1a
  rintro e w4 ⟨rfl, bb⟩
  replace bb := nextw (w0 := WG) (by exact ⟨rfl, rfl, rfl, Nat.le_refl _, fun _ _ => rfl⟩) bb
  replace B_a := Lib.hid (Box2.below B_a.out bb B_a.out.lt)
  replace B_s := Lib.hid (Box2.below B_s.out bb B_s.out.lt)
  replace B_g := Lib.hid (Box2.below B_g.out bb B_g.out.lt)
  replace HB := Lib.hid (nextw HB.out bb)
  clear bb
  have lt_ta := B_a.out.lt
  have lt_ts := B_s.out.lt
  have lt_tg := B_g.out.lt
  have B_t := Lib.hid (Box2.new w4 0 0)
  replace B_a := Lib.hid (Box2.alloc B_a.out (.cells #[.int .i64 0, .int .i64 0] 43))
  replace B_s := Lib.hid (Box2.alloc B_s.out (.cells #[.int .i64 0, .int .i64 0] 43))
  replace B_g := Lib.hid (Box2.alloc B_g.out (.cells #[.int .i64 0, .int .i64 0] 43))
  replace HB := Lib.hid (nextw HB.out ((Below.refl w4.heap.size w4).alloc (Nat.le_refl _) (.cells #[.int .i64 0, .int .i64 0] 43)))
  go_upto_region 6 with (fail)
  generalize w4.alloc (.cells #[.int .i64 0, .int .i64 0] 43) = WT at *
  have c0a := B_a.out.c0
  have c1a := B_a.out.c1
  go_wp2_with fail
  refine (HU.out _).mono ?_
  clear c0a c1a
  rintro e w5 ⟨rfl, bb⟩
  replace bb := nextw (w0 := WT) (by exact ⟨rfl, rfl, rfl, Nat.le_refl _, fun _ _ => rfl⟩) bb
  replace B_a := Lib.hid (Box2.below B_a.out bb B_a.out.lt)
  replace B_s := Lib.hid (Box2.below B_s.out bb B_s.out.lt)
  replace B_g := Lib.hid (Box2.below B_g.out bb B_g.out.lt)
  replace B_t := Lib.hid (Box2.below B_t.out bb B_t.out.lt)
  replace HB := Lib.hid (nextw HB.out bb)
  clear bb
  have lt_ua := B_a.out.lt
  have lt_us := B_s.out.lt
  have lt_ug := B_g.out.lt
  have lt_ut := B_t.out.lt
  have B_u := Lib.hid (Box2.new w5 0 0)
  replace B_a := Lib.hid (Box2.alloc B_a.out (.cells #[.int .i64 0, .int .i64 0] 43))
  replace B_s := Lib.hid (Box2.alloc B_s.out (.cells #[.int .i64 0, .int .i64 0] 43))
  replace B_g := Lib.hid (Box2.alloc B_g.out (.cells #[.int .i64 0, .int .i64 0] 43))
  replace B_t := Lib.hid (Box2.alloc B_t.out (.cells #[.int .i64 0, .int .i64 0] 43))
  replace HB := Lib.hid (nextw HB.out ((Below.refl w5.heap.size w5).alloc (Nat.le_refl _) (.cells #[.int .i64 0, .int .i64 0] 43)))
  go_upto_region 7 with (fail)
  generalize w5.alloc (.cells #[.int .i64 0, .int .i64 0] 43) = WU at *
  clear HA HS HG HT HU
  have c0s := B_s.out.c0
  have c1s := B_s.out.c1
  have c0g := B_g.out.c0
  have c1g := B_g.out.c1
  have c0t := B_t.out.c0
  have c1t := B_t.out.c1
  have c0u := B_u.out.c0
  have c1u := B_u.out.c1
  go_upto_region 10 with (fail)
  clear c0s c1s c0g c1g c0t c1t c0u c1u
  clear B_t B_u
  go_quiet (fail)
  go_wp2_with fail
  refine wp_loop_rounds 1 ?_
  rw [rounds_succ]
  go_wp2
  go_ret
  exact ⟨rfl, nextw HB.out (by exact ⟨rfl, rfl, rfl, Nat.le_refl _, fun _ _ => rfl⟩)⟩

set_option maxRecDepth 100000 in
set_option maxHeartbeats 8000000 in
theorem Moves_B (f c n m : Int) (hv : OkA f c) (hn : n < 0 ∨ 256 < n) (m0 : 0 ≤ m) (m1 : m ≤ 255) (w : World) :
    Calls Try.prog 10 #[av f c, .int .i64 n, .int .u8 m] w fun e w' => e = .returned (.bool true) ∧ Below w.heap.size w w' := by
  have HA := Lib.hid (fun w => awake_any w)
  obtain ⟨s, hs⟩ : ∃ s, shF f c n = s := ⟨_, rfl⟩
  have hso := shF_ok (n := n) hv
  have hsh := has_shift (n := n) (m := m) hv
  rw [hs] at hso hsh
  have HS := Lib.hid (fun w => hs ▸ Shift_any f c n hv w)
  have HT := Lib.hid (fun w => hs ▸ RShift_any f c n hv w)
  have HH1 := Lib.hid (fun w => Has_at (h := m) hso hsh w)
  have HH2 := Lib.hid (fun w => Has_at (h := m - n.tmod 256) hv rfl w)
  have tb := Int.tmod_eq_emod (a := n) (b := 256)
  have t0 : -256 ≤ n.tmod 256 := by split at tb <;> omega
  have t1 : n.tmod 256 ≤ 256 := by split at tb <;> omega
  have e1 : IntKind.i64.wrap (m - n.tmod 256) = m - n.tmod 256 := by rw [IntKind.wrap_i64]; omega
  generalize hasB f c (m - n.tmod 256) = b at *
  clear hs hso hsh tb t0 t1
  have HG := Lib.hid (fun w => Grow_out f c n hv hn w)
  have HU := Lib.hid (fun w => RGrow_out f c n hv hn w)
  clear hv hn
  have HB := Lib.hid (show Below w.heap.size w (w.alloc (.cells #[.int .i64 f, .int .i64 c] 43)) from ((Below.refl _ _).alloc (by simp <;> omega) _))
  have B_a : Box2 (w.alloc (.cells #[.int .i64 f, .int .i64 c] 43)) (w.heap.size) f c := by have h := (Box2.new w f c); simpa using h
  replace B_a := Lib.hid B_a
  go_enter Try.func10, Try.ntmps10
  go_wp2_with fail
  generalize w.alloc (.cells #[.int .i64 f, .int .i64 c] 43) = W0 at *
  refine (HA.out _).mono ?_
  rintro e w1 ⟨rfl, bb⟩
  replace bb := nextw (w0 := W0) (by exact ⟨rfl, rfl, rfl, Nat.le_refl _, fun _ _ => rfl⟩) bb
  replace B_a := Lib.hid (Box2.below B_a.out bb B_a.out.lt)
  replace HB := Lib.hid (nextw HB.out bb)
  clear bb
  have c0a := B_a.out.c0
  have c1a := B_a.out.c1
  go_wp2_with fail
  refine (HS.out _).mono ?_
  clear c0a c1a
  rintro e w2 ⟨rfl, bb⟩
  replace bb := nextw (w0 := w1) (by exact ⟨rfl, rfl, rfl, Nat.le_refl _, fun _ _ => rfl⟩) bb
  replace B_a := Lib.hid (Box2.below B_a.out bb B_a.out.lt)
  replace HB := Lib.hid (nextw HB.out bb)
  clear bb
  have lt_sa := B_a.out.lt
  have B_s := Lib.hid (Box2.new w2 s c)
  replace B_a := Lib.hid (Box2.alloc B_a.out (.cells #[.int .i64 s, .int .i64 c] 43))
  replace HB := Lib.hid (nextw HB.out ((Below.refl w2.heap.size w2).alloc (Nat.le_refl _) (.cells #[.int .i64 s, .int .i64 c] 43)))
  go_upto_region 4 with (fail)
  generalize w2.alloc (.cells #[.int .i64 s, .int .i64 c] 43) = WS at *
  have c0a := B_a.out.c0
  have c1a := B_a.out.c1
  go_wp2_with fail
  refine (HG.out _).mono ?_
  clear c0a c1a
  rintro e w3 ⟨rfl, bb⟩
  replace bb := nextw (w0 := WS) (by exact ⟨rfl, rfl, rfl, Nat.le_refl _, fun _ _ => rfl⟩) bb
  replace B_a := Lib.hid (Box2.below B_a.out bb B_a.out.lt)
  replace B_s := Lib.hid (Box2.below B_s.out bb B_s.out.lt)
  replace HB := Lib.hid (nextw HB.out bb)
  clear bb
  have lt_ga := B_a.out.lt
  have lt_gs := B_s.out.lt
  have B_g := Lib.hid (Box2.new w3 0 0)
  replace B_a := Lib.hid (Box2.alloc B_a.out (.cells #[.int .i64 0, .int .i64 0] 43))
  replace B_s := Lib.hid (Box2.alloc B_s.out (.cells #[.int .i64 0, .int .i64 0] 43))
  replace HB := Lib.hid (nextw HB.out ((Below.refl w3.heap.size w3).alloc (Nat.le_refl _) (.cells #[.int .i64 0, .int .i64 0] 43)))
  go_upto_region 5 with (fail)
  generalize w3.alloc (.cells #[.int .i64 0, .int .i64 0] 43) = WG at *
  have c0a := B_a.out.c0
  have c1a := B_a.out.c1
  go_wp2_with fail
  refine (HT.out _).mono ?_
  clear c0a c1a
  rintro e w4 ⟨rfl, bb⟩
  replace bb := nextw (w0 := WG) (by exact ⟨rfl, rfl, rfl, Nat.le_refl _, fun _ _ => rfl⟩) bb
  replace B_a := Lib.hid (Box2.below B_a.out bb B_a.out.lt)
  replace B_s := Lib.hid (Box2.below B_s.out bb B_s.out.lt)
  replace B_g := Lib.hid (Box2.below B_g.out bb B_g.out.lt)
  replace HB := Lib.hid (nextw HB.out bb)
  clear bb
  have lt_ta := B_a.out.lt
  have lt_ts := B_s.out.lt
  have lt_tg := B_g.out.lt
  have B_t := Lib.hid (Box2.new w4 s c)
  replace B_a := Lib.hid (Box2.alloc B_a.out (.cells #[.int .i64 s, .int .i64 c] 43))
  replace B_s := Lib.hid (Box2.alloc B_s.out (.cells #[.int .i64 s, .int .i64 c] 43))
  replace B_g := Lib.hid (Box2.alloc B_g.out (.cells #[.int .i64 s, .int .i64 c] 43))
  replace HB := Lib.hid (nextw HB.out ((Below.refl w4.heap.size w4).alloc (Nat.le_refl _) (.cells #[.int .i64 s, .int .i64 c] 43)))
  go_upto_region 6 with (fail)
  generalize w4.alloc (.cells #[.int .i64 s, .int .i64 c] 43) = WT at *
  have c0a := B_a.out.c0
  have c1a := B_a.out.c1
  go_wp2_with fail
  refine (HU.out _).mono ?_
  clear c0a c1a
  rintro e w5 ⟨rfl, bb⟩
  replace bb := nextw (w0 := WT) (by exact ⟨rfl, rfl, rfl, Nat.le_refl _, fun _ _ => rfl⟩) bb
  replace B_a := Lib.hid (Box2.below B_a.out bb B_a.out.lt)
  replace B_s := Lib.hid (Box2.below B_s.out bb B_s.out.lt)
  replace B_g := Lib.hid (Box2.below B_g.out bb B_g.out.lt)
  replace B_t := Lib.hid (Box2.below B_t.out bb B_t.out.lt)
  replace HB := Lib.hid (nextw HB.out bb)
  clear bb
  have lt_ua := B_a.out.lt
  have lt_us := B_s.out.lt
  have lt_ug := B_g.out.lt
  have lt_ut := B_t.out.lt
  have B_u := Lib.hid (Box2.new w5 0 0)
  replace B_a := Lib.hid (Box2.alloc B_a.out (.cells #[.int .i64 0, .int .i64 0] 43))
  replace B_s := Lib.hid (Box2.alloc B_s.out (.cells #[.int .i64 0, .int .i64 0] 43))
  replace B_g := Lib.hid (Box2.alloc B_g.out (.cells #[.int .i64 0, .int .i64 0] 43))
  replace B_t := Lib.hid (Box2.alloc B_t.out (.cells #[.int .i64 0, .int .i64 0] 43))
  replace HB := Lib.hid (nextw HB.out ((Below.refl w5.heap.size w5).alloc (Nat.le_refl _) (.cells #[.int .i64 0, .int .i64 0] 43)))
  go_upto_region 7 with (fail)
  generalize w5.alloc (.cells #[.int .i64 0, .int .i64 0] 43) = WU at *
  clear HA HS HG HT HU
  have c0s := B_s.out.c0
  have c1s := B_s.out.c1
  have c0g := B_g.out.c0
  have c1g := B_g.out.c1
  have c0t := B_t.out.c0
  have c1t := B_t.out.c1
  have c0u := B_u.out.c0
  have c1u := B_u.out.c1
  go_upto_region 10 with (fail)
  clear c0s c1s c0g c1g c0t c1t c0u c1u
  clear B_t B_u
  have e2 : IntKind.i64.wrap m = m := by rw [IntKind.wrap_i64]; omega
  go_wp2_with fail
  have c0s := B_s.out.c0
  have c1s := B_s.out.c1
  have c0a := B_a.out.c0
  have c1a := B_a.out.c1
  have tk1x0 : True := trivial
  go_region_held3 (fun w' => w'.cell? ⟨w2.heap.size, 0, none⟩ = some (.int .i64 s) ∧ w'.cell? ⟨w2.heap.size, 1, none⟩ = some (.int .i64 c) ∧ w'.cell? ⟨w.heap.size, 0, none⟩ = some (.int .i64 f) ∧ w'.cell? ⟨w.heap.size, 1, none⟩ = some (.int .i64 c)) (((try dsimp only); (repeat' apply And.intro) <;> (first | (with_reducible assumption) | ((repeat (first | (with_reducible refine Eq.trans (cell_drew1 _ _) ?_) | (with_reducible refine Eq.trans (World.cell?_alloc_lt _ _ _ (by first | (dsimp only; omega) | (simp only [World.size_alloc, World.size_setCell]; omega))) ?_))); with_reducible assumption) | assumption | go_keep)))
    (first
      | (clear tk1x0; go_at_call 32; refine (HH1.out _).mono ?_; rintro e w6 ⟨rfl, bb⟩; replace bb := nextw (w0 := WU) (by exact ⟨rfl, rfl, rfl, Nat.le_refl _, fun _ _ => rfl⟩) bb; replace B_a := Lib.hid (Box2.below B_a.out bb B_a.out.lt); replace B_s := Lib.hid (Box2.below B_s.out bb B_s.out.lt); replace B_g := Lib.hid (Box2.below B_g.out bb B_g.out.lt); replace HB := Lib.hid (nextw HB.out bb); clear bb c0s c1s c0a c1a; have c0s := B_s.out.c0; have c1s := B_s.out.c1; have c0a := B_a.out.c0; have c1a := B_a.out.c1; have tk1x1 : True := trivial)
      | (clear tk1x1; go_at_call 32; refine (HH2.out _).mono ?_; rintro e w7 ⟨rfl, bb⟩; replace bb := nextw (w0 := w6) (by exact ⟨rfl, rfl, rfl, Nat.le_refl _, fun _ _ => rfl⟩) bb; replace B_a := Lib.hid (Box2.below B_a.out bb B_a.out.lt); replace B_s := Lib.hid (Box2.below B_s.out bb B_s.out.lt); replace B_g := Lib.hid (Box2.below B_g.out bb B_g.out.lt); replace HB := Lib.hid (nextw HB.out bb); clear bb c0s c1s c0a c1a; have c0s := B_s.out.c0; have c1s := B_s.out.c1; have c0a := B_a.out.c0; have c1a := B_a.out.c1; have tk1x2 : True := trivial))
  clear c0s c1s c0a c1a
  clear HH1 HH2 e1 e2 B_s
  go_wp2_with fail
  refine wp_loop_rounds 1 ?_
  rw [rounds_succ]
  go_wp2
  go_ret
  exact ⟨rfl, nextw HB.out (by exact ⟨rfl, rfl, rfl, Nat.le_refl _, fun _ _ => rfl⟩)⟩

set_option maxRecDepth 100000 in
set_option maxHeartbeats 8000000 in
theorem Moves_C (f c n m : Int) (hv : OkA f c) (h0 : 0 ≤ n) (h1 : n ≤ 256) (m0 : 0 ≤ m) (m1 : m ≤ 255) (w : World) :
    Calls Try.prog 10 #[av f c, .int .i64 n, .int .u8 m] w fun e w' => e = .returned (.bool true) ∧ Below w.heap.size w w' := by
  have HA := Lib.hid (fun w => awake_any w)
  obtain ⟨s, hs⟩ : ∃ s, shF f c n = s := ⟨_, rfl⟩
  have hso := shF_ok (n := n) hv
  have hsh := has_shift (n := n) (m := m) hv
  rw [hs] at hso hsh
  have HS := Lib.hid (fun w => hs ▸ Shift_any f c n hv w)
  have HT := Lib.hid (fun w => hs ▸ RShift_any f c n hv w)
  have HH1 := Lib.hid (fun w => Has_at (h := m) hso hsh w)
  have HH2 := Lib.hid (fun w => Has_at (h := m - n.tmod 256) hv rfl w)
  have tb := Int.tmod_eq_emod (a := n) (b := 256)
  have t0 : -256 ≤ n.tmod 256 := by split at tb <;> omega
  have t1 : n.tmod 256 ≤ 256 := by split at tb <;> omega
  have e1 : IntKind.i64.wrap (m - n.tmod 256) = m - n.tmod 256 := by rw [IntKind.wrap_i64]; omega
  generalize hasB f c (m - n.tmod 256) = b at *
  clear hs hso hsh tb t0 t1
  have hgo := grow_ok hv h0
  have hgh := has_grow (m := m) hv h0
  have hG := Grow_any f c n hv h0 h1
  have hU := RGrow_any f c n hv h0 h1
  generalize grF f c n = p at *
  generalize grC c n = q at *
  have HG := Lib.hid hG
  have HU := Lib.hid hU
  have HHg := Lib.hid (fun w => Has_at (h := m) hgo hgh.symm w)
  have HHn := Lib.hid (fun d w => Has_at (h := m + d) hv rfl w)
  clear hgo hgh hG hU hv
  have HB := Lib.hid (show Below w.heap.size w (w.alloc (.cells #[.int .i64 f, .int .i64 c] 43)) from ((Below.refl _ _).alloc (by simp <;> omega) _))
  have B_a : Box2 (w.alloc (.cells #[.int .i64 f, .int .i64 c] 43)) (w.heap.size) f c := by have h := (Box2.new w f c); simpa using h
  replace B_a := Lib.hid B_a
  go_enter Try.func10, Try.ntmps10
  go_wp2_with fail
  generalize w.alloc (.cells #[.int .i64 f, .int .i64 c] 43) = W0 at *
  refine (HA.out _).mono ?_
  rintro e w1 ⟨rfl, bb⟩
  replace bb := nextw (w0 := W0) (by exact ⟨rfl, rfl, rfl, Nat.le_refl _, fun _ _ => rfl⟩) bb
  replace B_a := Lib.hid (Box2.below B_a.out bb B_a.out.lt)
  replace HB := Lib.hid (nextw HB.out bb)
  clear bb
  have c0a := B_a.out.c0
  have c1a := B_a.out.c1
  go_wp2_with fail
  refine (HS.out _).mono ?_
  clear c0a c1a
  rintro e w2 ⟨rfl, bb⟩
  replace bb := nextw (w0 := w1) (by exact ⟨rfl, rfl, rfl, Nat.le_refl _, fun _ _ => rfl⟩) bb
  replace B_a := Lib.hid (Box2.below B_a.out bb B_a.out.lt)
  replace HB := Lib.hid (nextw HB.out bb)
  clear bb
  have lt_sa := B_a.out.lt
  have B_s := Lib.hid (Box2.new w2 s c)
  replace B_a := Lib.hid (Box2.alloc B_a.out (.cells #[.int .i64 s, .int .i64 c] 43))
  replace HB := Lib.hid (nextw HB.out ((Below.refl w2.heap.size w2).alloc (Nat.le_refl _) (.cells #[.int .i64 s, .int .i64 c] 43)))
  go_upto_region 4 with (fail)
  generalize w2.alloc (.cells #[.int .i64 s, .int .i64 c] 43) = WS at *
  have c0a := B_a.out.c0
  have c1a := B_a.out.c1
  go_wp2_with fail
  refine (HG.out _).mono ?_
  clear c0a c1a
  rintro e w3 ⟨rfl, bb⟩
  replace bb := nextw (w0 := WS) (by exact ⟨rfl, rfl, rfl, Nat.le_refl _, fun _ _ => rfl⟩) bb
  replace B_a := Lib.hid (Box2.below B_a.out bb B_a.out.lt)
  replace B_s := Lib.hid (Box2.below B_s.out bb B_s.out.lt)
  replace HB := Lib.hid (nextw HB.out bb)
  clear bb
  have lt_ga := B_a.out.lt
  have lt_gs := B_s.out.lt
  have B_g := Lib.hid (Box2.new w3 p q)
  replace B_a := Lib.hid (Box2.alloc B_a.out (.cells #[.int .i64 p, .int .i64 q] 43))
  replace B_s := Lib.hid (Box2.alloc B_s.out (.cells #[.int .i64 p, .int .i64 q] 43))
  replace HB := Lib.hid (nextw HB.out ((Below.refl w3.heap.size w3).alloc (Nat.le_refl _) (.cells #[.int .i64 p, .int .i64 q] 43)))
  go_upto_region 5 with (fail)
  generalize w3.alloc (.cells #[.int .i64 p, .int .i64 q] 43) = WG at *
  have c0a := B_a.out.c0
  have c1a := B_a.out.c1
  go_wp2_with fail
  refine (HT.out _).mono ?_
  clear c0a c1a
  rintro e w4 ⟨rfl, bb⟩
  replace bb := nextw (w0 := WG) (by exact ⟨rfl, rfl, rfl, Nat.le_refl _, fun _ _ => rfl⟩) bb
  replace B_a := Lib.hid (Box2.below B_a.out bb B_a.out.lt)
  replace B_s := Lib.hid (Box2.below B_s.out bb B_s.out.lt)
  replace B_g := Lib.hid (Box2.below B_g.out bb B_g.out.lt)
  replace HB := Lib.hid (nextw HB.out bb)
  clear bb
  have lt_ta := B_a.out.lt
  have lt_ts := B_s.out.lt
  have lt_tg := B_g.out.lt
  have B_t := Lib.hid (Box2.new w4 s c)
  replace B_a := Lib.hid (Box2.alloc B_a.out (.cells #[.int .i64 s, .int .i64 c] 43))
  replace B_s := Lib.hid (Box2.alloc B_s.out (.cells #[.int .i64 s, .int .i64 c] 43))
  replace B_g := Lib.hid (Box2.alloc B_g.out (.cells #[.int .i64 s, .int .i64 c] 43))
  replace HB := Lib.hid (nextw HB.out ((Below.refl w4.heap.size w4).alloc (Nat.le_refl _) (.cells #[.int .i64 s, .int .i64 c] 43)))
  go_upto_region 6 with (fail)
  generalize w4.alloc (.cells #[.int .i64 s, .int .i64 c] 43) = WT at *
  have c0a := B_a.out.c0
  have c1a := B_a.out.c1
  go_wp2_with fail
  refine (HU.out _).mono ?_
  clear c0a c1a
  rintro e w5 ⟨rfl, bb⟩
  replace bb := nextw (w0 := WT) (by exact ⟨rfl, rfl, rfl, Nat.le_refl _, fun _ _ => rfl⟩) bb
  replace B_a := Lib.hid (Box2.below B_a.out bb B_a.out.lt)
  replace B_s := Lib.hid (Box2.below B_s.out bb B_s.out.lt)
  replace B_g := Lib.hid (Box2.below B_g.out bb B_g.out.lt)
  replace B_t := Lib.hid (Box2.below B_t.out bb B_t.out.lt)
  replace HB := Lib.hid (nextw HB.out bb)
  clear bb
  have lt_ua := B_a.out.lt
  have lt_us := B_s.out.lt
  have lt_ug := B_g.out.lt
  have lt_ut := B_t.out.lt
  have B_u := Lib.hid (Box2.new w5 p q)
  replace B_a := Lib.hid (Box2.alloc B_a.out (.cells #[.int .i64 p, .int .i64 q] 43))
  replace B_s := Lib.hid (Box2.alloc B_s.out (.cells #[.int .i64 p, .int .i64 q] 43))
  replace B_g := Lib.hid (Box2.alloc B_g.out (.cells #[.int .i64 p, .int .i64 q] 43))
  replace B_t := Lib.hid (Box2.alloc B_t.out (.cells #[.int .i64 p, .int .i64 q] 43))
  replace HB := Lib.hid (nextw HB.out ((Below.refl w5.heap.size w5).alloc (Nat.le_refl _) (.cells #[.int .i64 p, .int .i64 q] 43)))
  go_upto_region 7 with (fail)
  generalize w5.alloc (.cells #[.int .i64 p, .int .i64 q] 43) = WU at *
  clear HA HS HG HT HU
  have c0s := B_s.out.c0
  have c1s := B_s.out.c1
  have c0g := B_g.out.c0
  have c1g := B_g.out.c1
  have c0t := B_t.out.c0
  have c1t := B_t.out.c1
  have c0u := B_u.out.c0
  have c1u := B_u.out.c1
  go_upto_region 10 with (fail)
  clear c0s c1s c0g c1g c0t c1t c0u c1u
  clear B_t B_u
  have e2 : IntKind.i64.wrap m = m := by rw [IntKind.wrap_i64]; omega
  go_wp2_with fail
  have c0s := B_s.out.c0
  have c1s := B_s.out.c1
  have c0a := B_a.out.c0
  have c1a := B_a.out.c1
  have tk1x0 : True := trivial
  go_region_held3 (fun w' => w'.cell? ⟨w2.heap.size, 0, none⟩ = some (.int .i64 s) ∧ w'.cell? ⟨w2.heap.size, 1, none⟩ = some (.int .i64 c) ∧ w'.cell? ⟨w.heap.size, 0, none⟩ = some (.int .i64 f) ∧ w'.cell? ⟨w.heap.size, 1, none⟩ = some (.int .i64 c)) (((try dsimp only); (repeat' apply And.intro) <;> (first | (with_reducible assumption) | ((repeat (first | (with_reducible refine Eq.trans (cell_drew1 _ _) ?_) | (with_reducible refine Eq.trans (World.cell?_alloc_lt _ _ _ (by first | (dsimp only; omega) | (simp only [World.size_alloc, World.size_setCell]; omega))) ?_))); with_reducible assumption) | assumption | go_keep)))
    (first
      | (clear tk1x0; go_at_call 32; refine (HH1.out _).mono ?_; rintro e w6 ⟨rfl, bb⟩; replace bb := nextw (w0 := WU) (by exact ⟨rfl, rfl, rfl, Nat.le_refl _, fun _ _ => rfl⟩) bb; replace B_a := Lib.hid (Box2.below B_a.out bb B_a.out.lt); replace B_s := Lib.hid (Box2.below B_s.out bb B_s.out.lt); replace B_g := Lib.hid (Box2.below B_g.out bb B_g.out.lt); replace HB := Lib.hid (nextw HB.out bb); clear bb c0s c1s c0a c1a; have c0s := B_s.out.c0; have c1s := B_s.out.c1; have c0a := B_a.out.c0; have c1a := B_a.out.c1; have tk1x1 : True := trivial)
      | (clear tk1x1; go_at_call 32; refine (HH2.out _).mono ?_; rintro e w7 ⟨rfl, bb⟩; replace bb := nextw (w0 := w6) (by exact ⟨rfl, rfl, rfl, Nat.le_refl _, fun _ _ => rfl⟩) bb; replace B_a := Lib.hid (Box2.below B_a.out bb B_a.out.lt); replace B_s := Lib.hid (Box2.below B_s.out bb B_s.out.lt); replace B_g := Lib.hid (Box2.below B_g.out bb B_g.out.lt); replace HB := Lib.hid (nextw HB.out bb); clear bb c0s c1s c0a c1a; have c0s := B_s.out.c0; have c1s := B_s.out.c1; have c0a := B_a.out.c0; have c1a := B_a.out.c1; have tk1x2 : True := trivial))
  clear c0s c1s c0a c1a
  clear HH1 HH2 e1 e2 B_s
  have ER : Hid ((2 * n + 1).toNat = 2 * n + 1) := by unfold Hid; omega
  have ga0 := B_a.out.lt
  have gg0 := B_g.out.lt
  have HZ : Hid (nearB f c m n 0 = false) := near_zero _ _ _ _
  clear ga0 gg0
  go_wp2_with fail
  go_loopw [16, 17] (fun nr dd wr => ∃ (j : Nat) (d : Int), Hid (d = (j : Int) - n) ∧ -n ≤ d ∧ d ≤ n + 1 ∧ dd = .int .i64 d ∧ nr = .bool (nearB f c m n j) ∧ Hid (Box2 wr (w.heap.size) f c) ∧ Hid (Box2 wr (w3.heap.size) p q) ∧ Hid (Below w.heap.size w wr)) (fun _ dd _ => (n + 1 - intOf dd).toNat)
  case atStart => exact ⟨0, -n, by unfold Hid; omega, by omega, by omega, rfl, by rw [HZ.out], B_a, B_g, HB⟩
  case round =>
    clear B_a B_g HB HZ
    obtain ⟨j, d, hd, d0, d1, rfl, rfl, ba, bg, HB⟩ := hrel
    have HN := Lib.hid (near_succ f c m n j)
    have HHd := Lib.hid (HHn.out d)
    have HN2 : Hid (nearB f c m n (j + 1) = (nearB f c m n j || hasB f c (m + d))) := by unfold Hid; rw [HN.out, hd.out]
    clear HN
    by_cases hlt : d ≤ n
    · obtain ⟨t, ht⟩ : ∃ t, nearB f c m n j = t := ⟨_, rfl⟩
      rw [ht] at HN2 ⊢
      have hd2 : Hid (d + 1 = ((j + 1 : Nat) : Int) - n) := by unfold Hid; rw [hd.out]; omega
      have c0a := ba.out.c0
      have c1a := ba.out.c1
      clear ht
      rcases t with _ | _
      · go_wp2_with fail
        refine (HHd.out _).mono ?_
        rintro e w9 ⟨rfl, bb⟩
        replace bb := nextw (w0 := wr) (by exact ⟨rfl, rfl, rfl, Nat.le_refl _, fun _ _ => rfl⟩) bb
        have ba2 := Lib.hid (Box2.below ba.out bb ba.out.lt)
        have bg2 := Lib.hid (Box2.below bg.out bb bg.out.lt)
        have HB2 := Lib.hid (nextw HB.out bb)
        clear bb c0a c1a
        go_wp2
        go_roundw
        case rel => exact ⟨j + 1, d + 1, hd2, by omega, by omega, rfl, by rw [HN2.out]; rfl, ba2, bg2, HB2⟩
        case measure => simp only [intOf]; omega
      · go_wp2
        go_roundw
        case rel => exact ⟨j + 1, d + 1, hd2, by omega, by omega, rfl, by rw [HN2.out]; rfl, ba, bg, HB⟩
        case measure => simp only [intOf]; omega
    · have hj : j = (2 * n + 1).toNat := by have := hd.out; omega
      rw [hj]
      generalize nearB f c m n (2 * n + 1).toNat = t at *
      have c0g := bg.out.c0
      have c1g := bg.out.c1
      clear hj HN2 HHd
      go_wp2_with fail
      refine (HHg.out _).mono ?_
      rintro e w9 ⟨rfl, bb⟩
      replace bb := nextw (w0 := wr) (by exact ⟨rfl, rfl, rfl, Nat.le_refl _, fun _ _ => rfl⟩) bb
      have HB2 := Lib.hid (nextw HB.out bb)
      clear bb c0g c1g
      go_wp2
      go_ret
      exact ⟨rfl, nextw HB2.out (by exact ⟨rfl, rfl, rfl, Nat.le_refl _, fun _ _ => rfl⟩)⟩

theorem Moves_any (f c n m : Int) (m0 : 0 ≤ m) (m1 : m ≤ 255) (w : World) :
    Calls Try.prog 10 #[av f c, .int .i64 n, .int .u8 m] w fun e w' => e = .returned (.bool true) ∧ Below w.heap.size w w' := by
  by_cases hv : OkA f c
  · by_cases h : 0 ≤ n ∧ n ≤ 256
    · exact Moves_C f c n m hv h.1 h.2 m0 m1 w
    · exact Moves_B f c n m hv (by omega) m0 m1 w
  · exact Moves_A f c n m hv m0 m1 w
end Go.Proofs.Ytincejndchdcdaa
