/- The reference's corners, near, Touch. -/
import Derived.Test.YtaflgmiagjldhaaS19
import Derived.Test.YtaflgmiagjldhaaS20
set_option linter.unusedVariables false
set_option linter.unusedSimpArgs false
namespace Go.Proofs.Ytaflgmiagjldhaa
open Go Go.RowKit Hd

instance (a b c d e f k : Int) : Decidable (Near a b c d e f k) := decidable_of_iff ((-3000 ≤ e - a ∧ e - a ≤ 3000) ∧ (-3000 ≤ f - b ∧ f - b ≤ 3000) ∧ ((c - a) * (e - a) + (d - b) * (f - b) ≤ 0 → (e - a) * (e - a) + (f - b) * (f - b) ≤ k * k) ∧
    (0 < (c - a) * (e - a) + (d - b) * (f - b) → (c - a) * (c - a) + (d - b) * (d - b) ≤ (c - a) * (e - a) + (d - b) * (f - b) → (e - c) * (e - c) + (f - d) * (f - d) ≤ k * k) ∧
    (0 < (c - a) * (e - a) + (d - b) * (f - b) → (c - a) * (e - a) + (d - b) * (f - b) < (c - a) * (c - a) + (d - b) * (d - b) → pr a b c d e f * pr a b c d e f ≤ k * k * ((c - a) * (c - a) + (d - b) * (d - b))))
  ⟨fun h => ⟨h.1, h.2.1, h.2.2.1, h.2.2.2.1, h.2.2.2.2⟩, fun h => ⟨h.z1, h.z2, h.n1, h.n2, h.n3⟩⟩

set_option maxRecDepth 100000 in
set_option maxHeartbeats 1000000 in
theorem RCorners_any (x0 y0 x1 y1 : Int) (w : World) :
    Calls Try.prog 49 #[.agg #[.int .i64 x0, .int .i64 y0, .int .i64 x1, .int .i64 y1]] w fun e w' => ∃ A : Nat, e = .returned (.slice (some ⟨A, 0, none⟩) 4 4) ∧ w.heap.size ≤ A ∧ Hid (Bx w' (A) 23 #[.int .i64 x0, .int .i64 y0, .int .i64 x1, .int .i64 y0, .int .i64 x1, .int .i64 y1, .int .i64 x0, .int .i64 y1]) ∧ Below w.heap.size w w' := by
  obtain ⟨HB, B_r⟩ := box1 w 29 #[.int .i64 x0, .int .i64 y0, .int .i64 x1, .int .i64 y1]
  go_enter Try.func49, Try.ntmps49
  go_upto_region 1 with (fail)
  generalize w.alloc (.cells #[.int .i64 x0, .int .i64 y0, .int .i64 x1, .int .i64 y1] 29) = W0 at *
  obtain ⟨c0r, c1r, c2r, c3r⟩ := cells4 B_r
  go_wp2
  go_ret
  obtain ⟨b1, b2⟩ := box1 W0 23 #[.int .i64 x0, .int .i64 y0, .int .i64 x1, .int .i64 y0, .int .i64 x1, .int .i64 y1, .int .i64 x0, .int .i64 y1]
  have hs := HB.out.size
  exact ⟨W0.heap.size, rfl, by omega, mv b2 sm, nextw (nextw HB.out b1.out) sm⟩

theorem near_any (u v a b c d k : Int) (hp : OkP a b) (hq : OkP c d) (hc : OkP u v) (kw : Hd.Way a b c d k) (w : World) : Calls Try.prog 50 #[.agg #[.int .i64 u, .int .i64 v], .agg #[.int .i64 a, .int .i64 b], .agg #[.int .i64 c, .int .i64 d], .int .i64 k] w fun e w' => e = .returned (.bool (decide (Near a b c d u v k))) ∧ Below w.heap.size w w' := by
  by_cases h1 : (-3000 ≤ u - a ∧ u - a ≤ 3000)
  · by_cases h2 : (-3000 ≤ v - b ∧ v - b ≤ 3000)
    · by_cases g1 : 0 < (c - a) * (u - a) + (d - b) * (v - b)
      · by_cases g2 : (c - a) * (u - a) + (d - b) * (v - b) < (c - a) * (c - a) + (d - b) * (d - b)
        · have := near_s u v a b c d k hp hq hc kw h1 h2 g1 g2 w
          rwa [show decide (pr a b c d u v * pr a b c d u v ≤ k * k * ((c - a) * (c - a) + (d - b) * (d - b))) = decide (Near a b c d u v k) from decide_eq_decide.2 ⟨fun h => ⟨h1, h2, fun g => by omega, fun _ g => by omega, fun _ _ => h⟩, fun h => h.n3 g1 g2⟩] at this
        · have := near_l u v a b c d k hp hq hc kw h1 h2 g1 (by omega) w
          rwa [show decide ((u - c) * (u - c) + (v - d) * (v - d) ≤ k * k) = decide (Near a b c d u v k) from decide_eq_decide.2 ⟨fun h => ⟨h1, h2, fun g => by omega, fun _ _ => h, fun _ g => by omega⟩, fun h => h.n2 g1 (by omega)⟩] at this
      · have := near_d u v a b c d k hp hq hc kw h1 h2 (by omega) w
        rwa [show decide ((u - a) * (u - a) + (v - b) * (v - b) ≤ k * k) = decide (Near a b c d u v k) from decide_eq_decide.2 ⟨fun h => ⟨h1, h2, fun _ => h, fun g => by omega, fun g => by omega⟩, fun h => h.n1 (by omega)⟩] at this
    · rw [decide_eq_false (fun h => h2 h.z2)]; exact near_z2 u v a b c d k hp hq hc kw h1 h2 w
  · rw [decide_eq_false (fun h => h1 h.z1)]; exact near_z1 u v a b c d k hp hq hc kw h1 w

set_option maxRecDepth 100000 in
set_option maxHeartbeats 2000000 in
theorem RTouch_0 (a b c d x0 y0 x1 y1 k : Int) (hp : ¬ OkP a b) (w : World) :
    Calls Try.prog 26 #[.agg #[.int .i64 a, .int .i64 b], .agg #[.int .i64 c, .int .i64 d], .agg #[.int .i64 x0, .int .i64 y0, .int .i64 x1, .int .i64 y1], .int .i64 k] w fun e w' => e = .returned (.bool false) ∧ Below w.heap.size w w' := by
  have H0 := Lib.hid (fun w => RPoint_f hp w)
  clear hp
  obtain ⟨HB, B_p, B_q, B_r⟩ := box3 w 23 #[.int .i64 a, .int .i64 b] 23 #[.int .i64 c, .int .i64 d] 29 #[.int .i64 x0, .int .i64 y0, .int .i64 x1, .int .i64 y1]
  go_enter Try.func26, Try.ntmps26
  go_wp2_with fail
  generalize ((w.alloc (.cells #[.int .i64 a, .int .i64 b] 23)).alloc (.cells #[.int .i64 c, .int .i64 d] 23)).alloc (.cells #[.int .i64 x0, .int .i64 y0, .int .i64 x1, .int .i64 y1] 29) = W0 at *
  obtain ⟨c0p, c1p⟩ := cells2 B_p
  refine (H0.out _).mono ?_
  clear c0p c1p
  rintro e w1 ⟨rfl, bb⟩
  replace bb := nextw (w0 := W0) (by exact sm) bb
  replace B_p := mv B_p bb
  replace B_q := mv B_q bb
  replace B_r := mv B_r bb
  replace HB := nx HB bb
  clear bb
  go_wp2
  go_ret
  exact ⟨rfl, nextw HB.out (by exact sm)⟩

set_option maxRecDepth 100000 in
set_option maxHeartbeats 2000000 in
theorem RTouch_1 (a b c d x0 y0 x1 y1 k : Int) (hp : OkP a b) (hq : ¬ OkP c d) (w : World) :
    Calls Try.prog 26 #[.agg #[.int .i64 a, .int .i64 b], .agg #[.int .i64 c, .int .i64 d], .agg #[.int .i64 x0, .int .i64 y0, .int .i64 x1, .int .i64 y1], .int .i64 k] w fun e w' => e = .returned (.bool false) ∧ Below w.heap.size w w' := by
  have H0 := Lib.hid (fun w => RPoint_t hp w)
  have H1 := Lib.hid (fun w => RPoint_f hq w)
  clear hp hq
  obtain ⟨HB, B_p, B_q, B_r⟩ := box3 w 23 #[.int .i64 a, .int .i64 b] 23 #[.int .i64 c, .int .i64 d] 29 #[.int .i64 x0, .int .i64 y0, .int .i64 x1, .int .i64 y1]
  go_enter Try.func26, Try.ntmps26
  go_wp2_with fail
  generalize ((w.alloc (.cells #[.int .i64 a, .int .i64 b] 23)).alloc (.cells #[.int .i64 c, .int .i64 d] 23)).alloc (.cells #[.int .i64 x0, .int .i64 y0, .int .i64 x1, .int .i64 y1] 29) = W0 at *
  obtain ⟨c0p, c1p⟩ := cells2 B_p
  refine (H0.out _).mono ?_
  clear c0p c1p
  rintro e w1 ⟨rfl, bb⟩
  replace bb := nextw (w0 := W0) (by exact sm) bb
  replace B_p := mv B_p bb
  replace B_q := mv B_q bb
  replace B_r := mv B_r bb
  replace HB := nx HB bb
  clear bb
  obtain ⟨c0q, c1q⟩ := cells2 B_q
  go_wp2_with fail
  refine (H1.out _).mono ?_
  clear c0q c1q
  rintro e w2 ⟨rfl, bb⟩
  replace bb := nextw (w0 := w1) (by exact sm) bb
  replace B_p := mv B_p bb
  replace B_q := mv B_q bb
  replace B_r := mv B_r bb
  replace HB := nx HB bb
  clear bb
  go_wp2
  go_ret
  exact ⟨rfl, nextw HB.out (by exact sm)⟩

set_option maxRecDepth 100000 in
set_option maxHeartbeats 2000000 in
theorem RTouch_2 (a b c d x0 y0 x1 y1 k : Int) (hp : OkP a b) (hq : OkP c d) (hr : ¬ OkR x0 y0 x1 y1) (w : World) :
    Calls Try.prog 26 #[.agg #[.int .i64 a, .int .i64 b], .agg #[.int .i64 c, .int .i64 d], .agg #[.int .i64 x0, .int .i64 y0, .int .i64 x1, .int .i64 y1], .int .i64 k] w fun e w' => e = .returned (.bool false) ∧ Below w.heap.size w w' := by
  have H0 := Lib.hid (fun w => RPoint_t hp w)
  have H1 := Lib.hid (fun w => RPoint_t hq w)
  have H2 := Lib.hid (fun w => RRect_f hr w)
  clear hp hq hr
  obtain ⟨HB, B_p, B_q, B_r⟩ := box3 w 23 #[.int .i64 a, .int .i64 b] 23 #[.int .i64 c, .int .i64 d] 29 #[.int .i64 x0, .int .i64 y0, .int .i64 x1, .int .i64 y1]
  go_enter Try.func26, Try.ntmps26
  go_wp2_with fail
  generalize ((w.alloc (.cells #[.int .i64 a, .int .i64 b] 23)).alloc (.cells #[.int .i64 c, .int .i64 d] 23)).alloc (.cells #[.int .i64 x0, .int .i64 y0, .int .i64 x1, .int .i64 y1] 29) = W0 at *
  obtain ⟨c0p, c1p⟩ := cells2 B_p
  refine (H0.out _).mono ?_
  clear c0p c1p
  rintro e w1 ⟨rfl, bb⟩
  replace bb := nextw (w0 := W0) (by exact sm) bb
  replace B_p := mv B_p bb
  replace B_q := mv B_q bb
  replace B_r := mv B_r bb
  replace HB := nx HB bb
  clear bb
  obtain ⟨c0q, c1q⟩ := cells2 B_q
  go_wp2_with fail
  refine (H1.out _).mono ?_
  clear c0q c1q
  rintro e w2 ⟨rfl, bb⟩
  replace bb := nextw (w0 := w1) (by exact sm) bb
  replace B_p := mv B_p bb
  replace B_q := mv B_q bb
  replace B_r := mv B_r bb
  replace HB := nx HB bb
  clear bb
  obtain ⟨c0r, c1r, c2r, c3r⟩ := cells4 B_r
  go_wp2_with fail
  refine (H2.out _).mono ?_
  clear c0r c1r c2r c3r
  rintro e w3 ⟨rfl, bb⟩
  replace bb := nextw (w0 := w2) (by exact sm) bb
  replace B_p := mv B_p bb
  replace B_q := mv B_q bb
  replace B_r := mv B_r bb
  replace HB := nx HB bb
  clear bb
  go_wp2
  go_ret
  exact ⟨rfl, nextw HB.out (by exact sm)⟩

set_option maxRecDepth 100000 in
set_option maxHeartbeats 2000000 in
theorem RTouch_3 (a b c d x0 y0 x1 y1 k : Int) (hp : OkP a b) (hq : OkP c d) (hr : OkR x0 y0 x1 y1) (k0 : k < 0) (w : World) :
    Calls Try.prog 26 #[.agg #[.int .i64 a, .int .i64 b], .agg #[.int .i64 c, .int .i64 d], .agg #[.int .i64 x0, .int .i64 y0, .int .i64 x1, .int .i64 y1], .int .i64 k] w fun e w' => e = .returned (.bool false) ∧ Below w.heap.size w w' := by
  have H0 := Lib.hid (fun w => RPoint_t hp w)
  have H1 := Lib.hid (fun w => RPoint_t hq w)
  have H2 := Lib.hid (fun w => RRect_t hr w)
  clear hp hq hr
  obtain ⟨HB, B_p, B_q, B_r⟩ := box3 w 23 #[.int .i64 a, .int .i64 b] 23 #[.int .i64 c, .int .i64 d] 29 #[.int .i64 x0, .int .i64 y0, .int .i64 x1, .int .i64 y1]
  go_enter Try.func26, Try.ntmps26
  go_wp2_with fail
  generalize ((w.alloc (.cells #[.int .i64 a, .int .i64 b] 23)).alloc (.cells #[.int .i64 c, .int .i64 d] 23)).alloc (.cells #[.int .i64 x0, .int .i64 y0, .int .i64 x1, .int .i64 y1] 29) = W0 at *
  obtain ⟨c0p, c1p⟩ := cells2 B_p
  refine (H0.out _).mono ?_
  clear c0p c1p
  rintro e w1 ⟨rfl, bb⟩
  replace bb := nextw (w0 := W0) (by exact sm) bb
  replace B_p := mv B_p bb
  replace B_q := mv B_q bb
  replace B_r := mv B_r bb
  replace HB := nx HB bb
  clear bb
  obtain ⟨c0q, c1q⟩ := cells2 B_q
  go_wp2_with fail
  refine (H1.out _).mono ?_
  clear c0q c1q
  rintro e w2 ⟨rfl, bb⟩
  replace bb := nextw (w0 := w1) (by exact sm) bb
  replace B_p := mv B_p bb
  replace B_q := mv B_q bb
  replace B_r := mv B_r bb
  replace HB := nx HB bb
  clear bb
  obtain ⟨c0r, c1r, c2r, c3r⟩ := cells4 B_r
  go_wp2_with fail
  refine (H2.out _).mono ?_
  clear c0r c1r c2r c3r
  rintro e w3 ⟨rfl, bb⟩
  replace bb := nextw (w0 := w2) (by exact sm) bb
  replace B_p := mv B_p bb
  replace B_q := mv B_q bb
  replace B_r := mv B_r bb
  replace HB := nx HB bb
  clear bb
  go_wp2
  go_ret
  exact ⟨rfl, nextw HB.out (by exact sm)⟩

set_option maxRecDepth 100000 in
set_option maxHeartbeats 2000000 in
theorem RTouch_4 (a b c d x0 y0 x1 y1 k : Int) (hp : OkP a b) (hq : OkP c d) (hr : OkR x0 y0 x1 y1) (k0 : 0 ≤ k) (k1 : 1024 < k) (w : World) :
    Calls Try.prog 26 #[.agg #[.int .i64 a, .int .i64 b], .agg #[.int .i64 c, .int .i64 d], .agg #[.int .i64 x0, .int .i64 y0, .int .i64 x1, .int .i64 y1], .int .i64 k] w fun e w' => e = .returned (.bool false) ∧ Below w.heap.size w w' := by
  have H0 := Lib.hid (fun w => RPoint_t hp w)
  have H1 := Lib.hid (fun w => RPoint_t hq w)
  have H2 := Lib.hid (fun w => RRect_t hr w)
  clear hp hq hr
  obtain ⟨HB, B_p, B_q, B_r⟩ := box3 w 23 #[.int .i64 a, .int .i64 b] 23 #[.int .i64 c, .int .i64 d] 29 #[.int .i64 x0, .int .i64 y0, .int .i64 x1, .int .i64 y1]
  go_enter Try.func26, Try.ntmps26
  go_wp2_with fail
  generalize ((w.alloc (.cells #[.int .i64 a, .int .i64 b] 23)).alloc (.cells #[.int .i64 c, .int .i64 d] 23)).alloc (.cells #[.int .i64 x0, .int .i64 y0, .int .i64 x1, .int .i64 y1] 29) = W0 at *
  obtain ⟨c0p, c1p⟩ := cells2 B_p
  refine (H0.out _).mono ?_
  clear c0p c1p
  rintro e w1 ⟨rfl, bb⟩
  replace bb := nextw (w0 := W0) (by exact sm) bb
  replace B_p := mv B_p bb
  replace B_q := mv B_q bb
  replace B_r := mv B_r bb
  replace HB := nx HB bb
  clear bb
  obtain ⟨c0q, c1q⟩ := cells2 B_q
  go_wp2_with fail
  refine (H1.out _).mono ?_
  clear c0q c1q
  rintro e w2 ⟨rfl, bb⟩
  replace bb := nextw (w0 := w1) (by exact sm) bb
  replace B_p := mv B_p bb
  replace B_q := mv B_q bb
  replace B_r := mv B_r bb
  replace HB := nx HB bb
  clear bb
  obtain ⟨c0r, c1r, c2r, c3r⟩ := cells4 B_r
  go_wp2_with fail
  refine (H2.out _).mono ?_
  clear c0r c1r c2r c3r
  rintro e w3 ⟨rfl, bb⟩
  replace bb := nextw (w0 := w2) (by exact sm) bb
  replace B_p := mv B_p bb
  replace B_q := mv B_q bb
  replace B_r := mv B_r bb
  replace HB := nx HB bb
  clear bb
  go_wp2
  go_ret
  exact ⟨rfl, nextw HB.out (by exact sm)⟩

set_option maxRecDepth 100000 in
set_option maxHeartbeats 2000000 in
theorem RTouch_5 (a b c d x0 y0 x1 y1 k : Int) (hp : OkP a b) (hq : OkP c d) (hr : OkR x0 y0 x1 y1) (k0 : 0 ≤ k) (k1 : k ≤ 1024) (hx : ¬ (-1024 ≤ a - c ∧ a - c ≤ 1024)) (w : World) :
    Calls Try.prog 26 #[.agg #[.int .i64 a, .int .i64 b], .agg #[.int .i64 c, .int .i64 d], .agg #[.int .i64 x0, .int .i64 y0, .int .i64 x1, .int .i64 y1], .int .i64 k] w fun e w' => e = .returned (.bool false) ∧ Below w.heap.size w w' := by
  have H0 := Lib.hid (fun w => RPoint_t hp w)
  have H1 := Lib.hid (fun w => RPoint_t hq w)
  have H2 := Lib.hid (fun w => RRect_t hr w)
  have H5 := Lib.hid (fun w => Size_f (n := a - c) (m := 1024) (by decide) (by decide) hx w)
  obtain ⟨p1, p2, p3, p4⟩ := hp
  obtain ⟨q1, q2, q3, q4⟩ := hq
  clear hr hx
  obtain ⟨HB, B_p, B_q, B_r⟩ := box3 w 23 #[.int .i64 a, .int .i64 b] 23 #[.int .i64 c, .int .i64 d] 29 #[.int .i64 x0, .int .i64 y0, .int .i64 x1, .int .i64 y1]
  go_enter Try.func26, Try.ntmps26
  go_wp2_with fail
  generalize ((w.alloc (.cells #[.int .i64 a, .int .i64 b] 23)).alloc (.cells #[.int .i64 c, .int .i64 d] 23)).alloc (.cells #[.int .i64 x0, .int .i64 y0, .int .i64 x1, .int .i64 y1] 29) = W0 at *
  obtain ⟨c0p, c1p⟩ := cells2 B_p
  refine (H0.out _).mono ?_
  clear c0p c1p
  rintro e w1 ⟨rfl, bb⟩
  replace bb := nextw (w0 := W0) (by exact sm) bb
  replace B_p := mv B_p bb
  replace B_q := mv B_q bb
  replace B_r := mv B_r bb
  replace HB := nx HB bb
  clear bb
  obtain ⟨c0q, c1q⟩ := cells2 B_q
  go_wp2_with fail
  refine (H1.out _).mono ?_
  clear c0q c1q
  rintro e w2 ⟨rfl, bb⟩
  replace bb := nextw (w0 := w1) (by exact sm) bb
  replace B_p := mv B_p bb
  replace B_q := mv B_q bb
  replace B_r := mv B_r bb
  replace HB := nx HB bb
  clear bb
  obtain ⟨c0r, c1r, c2r, c3r⟩ := cells4 B_r
  go_wp2_with fail
  refine (H2.out _).mono ?_
  clear c0r c1r c2r c3r
  rintro e w3 ⟨rfl, bb⟩
  replace bb := nextw (w0 := w2) (by exact sm) bb
  replace B_p := mv B_p bb
  replace B_q := mv B_q bb
  replace B_r := mv B_r bb
  replace HB := nx HB bb
  clear bb
  obtain ⟨c0p, c1p⟩ := cells2 B_p
  obtain ⟨c0q, c1q⟩ := cells2 B_q
  go_wp2_with fail
  refine (H5.out _).mono ?_
  rintro e w4 ⟨rfl, rfl⟩
  clear c0p c1p c0q c1q
  go_wp2
  go_ret
  exact ⟨rfl, nextw HB.out (by exact sm)⟩

set_option maxRecDepth 100000 in
set_option maxHeartbeats 2000000 in
theorem RTouch_6 (a b c d x0 y0 x1 y1 k : Int) (hp : OkP a b) (hq : OkP c d) (hr : OkR x0 y0 x1 y1) (k0 : 0 ≤ k) (k1 : k ≤ 1024) (hx : (-1024 ≤ a - c ∧ a - c ≤ 1024)) (hy : ¬ (-1024 ≤ b - d ∧ b - d ≤ 1024)) (w : World) :
    Calls Try.prog 26 #[.agg #[.int .i64 a, .int .i64 b], .agg #[.int .i64 c, .int .i64 d], .agg #[.int .i64 x0, .int .i64 y0, .int .i64 x1, .int .i64 y1], .int .i64 k] w fun e w' => e = .returned (.bool false) ∧ Below w.heap.size w w' := by
  have H0 := Lib.hid (fun w => RPoint_t hp w)
  have H1 := Lib.hid (fun w => RPoint_t hq w)
  have H2 := Lib.hid (fun w => RRect_t hr w)
  have H5 := Lib.hid (fun w => Size_t (n := a - c) (m := 1024) (by decide) (by decide) hx w)
  have H6 := Lib.hid (fun w => Size_f (n := b - d) (m := 1024) (by decide) (by decide) hy w)
  obtain ⟨p1, p2, p3, p4⟩ := hp
  obtain ⟨q1, q2, q3, q4⟩ := hq
  clear hr hx hy
  obtain ⟨HB, B_p, B_q, B_r⟩ := box3 w 23 #[.int .i64 a, .int .i64 b] 23 #[.int .i64 c, .int .i64 d] 29 #[.int .i64 x0, .int .i64 y0, .int .i64 x1, .int .i64 y1]
  go_enter Try.func26, Try.ntmps26
  go_wp2_with fail
  generalize ((w.alloc (.cells #[.int .i64 a, .int .i64 b] 23)).alloc (.cells #[.int .i64 c, .int .i64 d] 23)).alloc (.cells #[.int .i64 x0, .int .i64 y0, .int .i64 x1, .int .i64 y1] 29) = W0 at *
  obtain ⟨c0p, c1p⟩ := cells2 B_p
  refine (H0.out _).mono ?_
  clear c0p c1p
  rintro e w1 ⟨rfl, bb⟩
  replace bb := nextw (w0 := W0) (by exact sm) bb
  replace B_p := mv B_p bb
  replace B_q := mv B_q bb
  replace B_r := mv B_r bb
  replace HB := nx HB bb
  clear bb
  obtain ⟨c0q, c1q⟩ := cells2 B_q
  go_wp2_with fail
  refine (H1.out _).mono ?_
  clear c0q c1q
  rintro e w2 ⟨rfl, bb⟩
  replace bb := nextw (w0 := w1) (by exact sm) bb
  replace B_p := mv B_p bb
  replace B_q := mv B_q bb
  replace B_r := mv B_r bb
  replace HB := nx HB bb
  clear bb
  obtain ⟨c0r, c1r, c2r, c3r⟩ := cells4 B_r
  go_wp2_with fail
  refine (H2.out _).mono ?_
  clear c0r c1r c2r c3r
  rintro e w3 ⟨rfl, bb⟩
  replace bb := nextw (w0 := w2) (by exact sm) bb
  replace B_p := mv B_p bb
  replace B_q := mv B_q bb
  replace B_r := mv B_r bb
  replace HB := nx HB bb
  clear bb
  obtain ⟨c0p, c1p⟩ := cells2 B_p
  obtain ⟨c0q, c1q⟩ := cells2 B_q
  go_wp2_with fail
  refine (H5.out _).mono ?_
  rintro e w4 ⟨rfl, rfl⟩
  clear c0p c1p c0q c1q
  obtain ⟨c0p, c1p⟩ := cells2 B_p
  obtain ⟨c0q, c1q⟩ := cells2 B_q
  go_wp2_with fail
  refine (H6.out _).mono ?_
  rintro e w5 ⟨rfl, rfl⟩
  clear c0p c1p c0q c1q
  go_wp2
  go_ret
  exact ⟨rfl, nextw HB.out (by exact sm)⟩

set_option maxRecDepth 100000 in
set_option maxHeartbeats 16000000 in
theorem RTouch_in (a b c d x0 y0 x1 y1 k : Int) (hp : OkP a b) (hq : OkP c d) (hr : OkR x0 y0 x1 y1) (k0 : 0 ≤ k) (k1 : k ≤ 1024) (hx : (-1024 ≤ a - c ∧ a - c ≤ 1024)) (hy : (-1024 ≤ b - d ∧ b - d ≤ 1024)) (h0 : InR a b x0 y0 x1 y1) (w : World) :
    Calls Try.prog 26 #[.agg #[.int .i64 a, .int .i64 b], .agg #[.int .i64 c, .int .i64 d], .agg #[.int .i64 x0, .int .i64 y0, .int .i64 x1, .int .i64 y1], .int .i64 k] w fun e w' => e = .returned (.bool true) ∧ Below w.heap.size w w' := by
  have HI := Lib.hid (fun w => in_any a b x0 y0 x1 y1 w)
  rw [decide_eq_true h0] at HI
  have kw : Hd.Way a b c d k := ⟨by omega, by omega, by omega, by omega, k0, k1⟩
  have kk := kw.sq
  clear kw h0
  have H0 := Lib.hid (fun w => RPoint_t hp w)
  have H1 := Lib.hid (fun w => RPoint_t hq w)
  have H2 := Lib.hid (fun w => RRect_t hr w)
  have H5 := Lib.hid (fun w => Size_t (n := a - c) (m := 1024) (by decide) (by decide) hx w)
  have H6 := Lib.hid (fun w => Size_t (n := b - d) (m := 1024) (by decide) (by decide) hy w)
  obtain ⟨p1, p2, p3, p4⟩ := hp
  obtain ⟨q1, q2, q3, q4⟩ := hq
  clear hr hx hy
  have ekk : IntKind.i64.wrap (k * k) = k * k := by rw [IntKind.wrap_i64]; omega
  replace ekk := Lib.hid ekk
  obtain ⟨HB, B_p, B_q, B_r⟩ := box3 w 23 #[.int .i64 a, .int .i64 b] 23 #[.int .i64 c, .int .i64 d] 29 #[.int .i64 x0, .int .i64 y0, .int .i64 x1, .int .i64 y1]
  go_enter Try.func26, Try.ntmps26
  go_wp2_with fail
  generalize ((w.alloc (.cells #[.int .i64 a, .int .i64 b] 23)).alloc (.cells #[.int .i64 c, .int .i64 d] 23)).alloc (.cells #[.int .i64 x0, .int .i64 y0, .int .i64 x1, .int .i64 y1] 29) = W0 at *
  obtain ⟨c0p, c1p⟩ := cells2 B_p
  refine (H0.out _).mono ?_
  clear c0p c1p
  rintro e w1 ⟨rfl, bb⟩
  replace bb := nextw (w0 := W0) (by exact sm) bb
  replace B_p := mv B_p bb
  replace B_q := mv B_q bb
  replace B_r := mv B_r bb
  replace HB := nx HB bb
  clear bb
  obtain ⟨c0q, c1q⟩ := cells2 B_q
  go_wp2_with fail
  refine (H1.out _).mono ?_
  clear c0q c1q
  rintro e w2 ⟨rfl, bb⟩
  replace bb := nextw (w0 := w1) (by exact sm) bb
  replace B_p := mv B_p bb
  replace B_q := mv B_q bb
  replace B_r := mv B_r bb
  replace HB := nx HB bb
  clear bb
  obtain ⟨c0r, c1r, c2r, c3r⟩ := cells4 B_r
  go_wp2_with fail
  refine (H2.out _).mono ?_
  clear c0r c1r c2r c3r
  rintro e w3 ⟨rfl, bb⟩
  replace bb := nextw (w0 := w2) (by exact sm) bb
  replace B_p := mv B_p bb
  replace B_q := mv B_q bb
  replace B_r := mv B_r bb
  replace HB := nx HB bb
  clear bb
  obtain ⟨c0p, c1p⟩ := cells2 B_p
  obtain ⟨c0q, c1q⟩ := cells2 B_q
  go_wp2_with fail
  refine (H5.out _).mono ?_
  rintro e w4 ⟨rfl, rfl⟩
  clear c0p c1p c0q c1q
  obtain ⟨c0p, c1p⟩ := cells2 B_p
  obtain ⟨c0q, c1q⟩ := cells2 B_q
  go_wp2_with fail
  refine (H6.out _).mono ?_
  rintro e w5 ⟨rfl, rfl⟩
  clear c0p c1p c0q c1q
  go_upto_region 3 with (fail)
  clear H0 H1 H2 H5 H6
  have ekk' := ekk.out
  obtain ⟨c0p, c1p⟩ := cells2 B_p
  obtain ⟨c0r, c1r, c2r, c3r⟩ := cells4 B_r
  go_wp2_with fail
  refine (HI.out _).mono ?_
  clear c0p c1p c0r c1r c2r c3r
  rintro e w6 ⟨rfl, bb⟩
  replace bb := nextw (w0 := w3) (by exact sm) bb
  replace B_p := mv B_p bb
  replace B_q := mv B_q bb
  replace B_r := mv B_r bb
  replace HB := nx HB bb
  clear bb
  clear HI
  go_wp2
  go_ret
  exact ⟨rfl, nextw HB.out (by exact sm)⟩

set_option maxRecDepth 100000 in
set_option maxHeartbeats 16000000 in
theorem RTouch_gp (a b c d x0 y0 x1 y1 k : Int) (hp : OkP a b) (hq : OkP c d) (hr : OkR x0 y0 x1 y1) (k0 : 0 ≤ k) (k1 : k ≤ 1024) (hx : (-1024 ≤ a - c ∧ a - c ≤ 1024)) (hy : (-1024 ≤ b - d ∧ b - d ≤ 1024)) (h0 : ¬ InR a b x0 y0 x1 y1) (h1 : gapM a b x0 y0 x1 y1 ≤ k * k) (w : World) :
    Calls Try.prog 26 #[.agg #[.int .i64 a, .int .i64 b], .agg #[.int .i64 c, .int .i64 d], .agg #[.int .i64 x0, .int .i64 y0, .int .i64 x1, .int .i64 y1], .int .i64 k] w fun e w' => e = .returned (.bool true) ∧ Below w.heap.size w w' := by
  have HI := Lib.hid (fun w => in_any a b x0 y0 x1 y1 w)
  rw [decide_eq_false h0] at HI
  have kw : Hd.Way a b c d k := ⟨by omega, by omega, by omega, by omega, k0, k1⟩
  have kk := kw.sq
  have HG := Lib.hid (fun w => RGap_ok a b x0 y0 x1 y1 hp hr w)
  clear kw h0
  generalize gapM a b x0 y0 x1 y1 = gp at *
  have H0 := Lib.hid (fun w => RPoint_t hp w)
  have H1 := Lib.hid (fun w => RPoint_t hq w)
  have H2 := Lib.hid (fun w => RRect_t hr w)
  have H5 := Lib.hid (fun w => Size_t (n := a - c) (m := 1024) (by decide) (by decide) hx w)
  have H6 := Lib.hid (fun w => Size_t (n := b - d) (m := 1024) (by decide) (by decide) hy w)
  obtain ⟨p1, p2, p3, p4⟩ := hp
  obtain ⟨q1, q2, q3, q4⟩ := hq
  clear hr hx hy
  have ekk : IntKind.i64.wrap (k * k) = k * k := by rw [IntKind.wrap_i64]; omega
  replace ekk := Lib.hid ekk
  obtain ⟨HB, B_p, B_q, B_r⟩ := box3 w 23 #[.int .i64 a, .int .i64 b] 23 #[.int .i64 c, .int .i64 d] 29 #[.int .i64 x0, .int .i64 y0, .int .i64 x1, .int .i64 y1]
  go_enter Try.func26, Try.ntmps26
  go_wp2_with fail
  generalize ((w.alloc (.cells #[.int .i64 a, .int .i64 b] 23)).alloc (.cells #[.int .i64 c, .int .i64 d] 23)).alloc (.cells #[.int .i64 x0, .int .i64 y0, .int .i64 x1, .int .i64 y1] 29) = W0 at *
  obtain ⟨c0p, c1p⟩ := cells2 B_p
  refine (H0.out _).mono ?_
  clear c0p c1p
  rintro e w1 ⟨rfl, bb⟩
  replace bb := nextw (w0 := W0) (by exact sm) bb
  replace B_p := mv B_p bb
  replace B_q := mv B_q bb
  replace B_r := mv B_r bb
  replace HB := nx HB bb
  clear bb
  obtain ⟨c0q, c1q⟩ := cells2 B_q
  go_wp2_with fail
  refine (H1.out _).mono ?_
  clear c0q c1q
  rintro e w2 ⟨rfl, bb⟩
  replace bb := nextw (w0 := w1) (by exact sm) bb
  replace B_p := mv B_p bb
  replace B_q := mv B_q bb
  replace B_r := mv B_r bb
  replace HB := nx HB bb
  clear bb
  obtain ⟨c0r, c1r, c2r, c3r⟩ := cells4 B_r
  go_wp2_with fail
  refine (H2.out _).mono ?_
  clear c0r c1r c2r c3r
  rintro e w3 ⟨rfl, bb⟩
  replace bb := nextw (w0 := w2) (by exact sm) bb
  replace B_p := mv B_p bb
  replace B_q := mv B_q bb
  replace B_r := mv B_r bb
  replace HB := nx HB bb
  clear bb
  obtain ⟨c0p, c1p⟩ := cells2 B_p
  obtain ⟨c0q, c1q⟩ := cells2 B_q
  go_wp2_with fail
  refine (H5.out _).mono ?_
  rintro e w4 ⟨rfl, rfl⟩
  clear c0p c1p c0q c1q
  obtain ⟨c0p, c1p⟩ := cells2 B_p
  obtain ⟨c0q, c1q⟩ := cells2 B_q
  go_wp2_with fail
  refine (H6.out _).mono ?_
  rintro e w5 ⟨rfl, rfl⟩
  clear c0p c1p c0q c1q
  go_upto_region 3 with (fail)
  clear H0 H1 H2 H5 H6
  have ekk' := ekk.out
  obtain ⟨c0p, c1p⟩ := cells2 B_p
  obtain ⟨c0r, c1r, c2r, c3r⟩ := cells4 B_r
  go_wp2_with fail
  refine (HI.out _).mono ?_
  clear c0p c1p c0r c1r c2r c3r
  rintro e w6 ⟨rfl, bb⟩
  replace bb := nextw (w0 := w3) (by exact sm) bb
  replace B_p := mv B_p bb
  replace B_q := mv B_q bb
  replace B_r := mv B_r bb
  replace HB := nx HB bb
  clear bb
  clear HI
  obtain ⟨c0p, c1p⟩ := cells2 B_p
  obtain ⟨c0r, c1r, c2r, c3r⟩ := cells4 B_r
  go_wp2_with fail
  refine (HG.out _).mono ?_
  clear c0p c1p c0r c1r c2r c3r
  rintro e w7 ⟨rfl, bb⟩
  replace bb := nextw (w0 := w6) (by exact sm) bb
  replace B_p := mv B_p bb
  replace B_q := mv B_q bb
  replace B_r := mv B_r bb
  replace HB := nx HB bb
  clear bb
  clear HG
  go_wp2
  go_ret
  exact ⟨rfl, nextw HB.out (by exact sm)⟩

set_option maxRecDepth 100000 in
set_option maxHeartbeats 16000000 in
theorem RTouch_gq (a b c d x0 y0 x1 y1 k : Int) (hp : OkP a b) (hq : OkP c d) (hr : OkR x0 y0 x1 y1) (k0 : 0 ≤ k) (k1 : k ≤ 1024) (hx : (-1024 ≤ a - c ∧ a - c ≤ 1024)) (hy : (-1024 ≤ b - d ∧ b - d ≤ 1024)) (h0 : ¬ InR a b x0 y0 x1 y1) (h1 : k * k < gapM a b x0 y0 x1 y1) (h2 : gapM c d x0 y0 x1 y1 ≤ k * k) (w : World) :
    Calls Try.prog 26 #[.agg #[.int .i64 a, .int .i64 b], .agg #[.int .i64 c, .int .i64 d], .agg #[.int .i64 x0, .int .i64 y0, .int .i64 x1, .int .i64 y1], .int .i64 k] w fun e w' => e = .returned (.bool true) ∧ Below w.heap.size w w' := by
  have HI := Lib.hid (fun w => in_any a b x0 y0 x1 y1 w)
  rw [decide_eq_false h0] at HI
  have kw : Hd.Way a b c d k := ⟨by omega, by omega, by omega, by omega, k0, k1⟩
  have kk := kw.sq
  have HG := Lib.hid (fun w => RGap_ok a b x0 y0 x1 y1 hp hr w)
  have HQ := Lib.hid (fun w => RGap_ok c d x0 y0 x1 y1 hq hr w)
  clear kw h0
  generalize gapM a b x0 y0 x1 y1 = gp at *
  generalize gapM c d x0 y0 x1 y1 = gq at *
  have H0 := Lib.hid (fun w => RPoint_t hp w)
  have H1 := Lib.hid (fun w => RPoint_t hq w)
  have H2 := Lib.hid (fun w => RRect_t hr w)
  have H5 := Lib.hid (fun w => Size_t (n := a - c) (m := 1024) (by decide) (by decide) hx w)
  have H6 := Lib.hid (fun w => Size_t (n := b - d) (m := 1024) (by decide) (by decide) hy w)
  obtain ⟨p1, p2, p3, p4⟩ := hp
  obtain ⟨q1, q2, q3, q4⟩ := hq
  clear hr hx hy
  have ekk : IntKind.i64.wrap (k * k) = k * k := by rw [IntKind.wrap_i64]; omega
  replace ekk := Lib.hid ekk
  obtain ⟨HB, B_p, B_q, B_r⟩ := box3 w 23 #[.int .i64 a, .int .i64 b] 23 #[.int .i64 c, .int .i64 d] 29 #[.int .i64 x0, .int .i64 y0, .int .i64 x1, .int .i64 y1]
  go_enter Try.func26, Try.ntmps26
  go_wp2_with fail
  generalize ((w.alloc (.cells #[.int .i64 a, .int .i64 b] 23)).alloc (.cells #[.int .i64 c, .int .i64 d] 23)).alloc (.cells #[.int .i64 x0, .int .i64 y0, .int .i64 x1, .int .i64 y1] 29) = W0 at *
  obtain ⟨c0p, c1p⟩ := cells2 B_p
  refine (H0.out _).mono ?_
  clear c0p c1p
  rintro e w1 ⟨rfl, bb⟩
  replace bb := nextw (w0 := W0) (by exact sm) bb
  replace B_p := mv B_p bb
  replace B_q := mv B_q bb
  replace B_r := mv B_r bb
  replace HB := nx HB bb
  clear bb
  obtain ⟨c0q, c1q⟩ := cells2 B_q
  go_wp2_with fail
  refine (H1.out _).mono ?_
  clear c0q c1q
  rintro e w2 ⟨rfl, bb⟩
  replace bb := nextw (w0 := w1) (by exact sm) bb
  replace B_p := mv B_p bb
  replace B_q := mv B_q bb
  replace B_r := mv B_r bb
  replace HB := nx HB bb
  clear bb
  obtain ⟨c0r, c1r, c2r, c3r⟩ := cells4 B_r
  go_wp2_with fail
  refine (H2.out _).mono ?_
  clear c0r c1r c2r c3r
  rintro e w3 ⟨rfl, bb⟩
  replace bb := nextw (w0 := w2) (by exact sm) bb
  replace B_p := mv B_p bb
  replace B_q := mv B_q bb
  replace B_r := mv B_r bb
  replace HB := nx HB bb
  clear bb
  obtain ⟨c0p, c1p⟩ := cells2 B_p
  obtain ⟨c0q, c1q⟩ := cells2 B_q
  go_wp2_with fail
  refine (H5.out _).mono ?_
  rintro e w4 ⟨rfl, rfl⟩
  clear c0p c1p c0q c1q
  obtain ⟨c0p, c1p⟩ := cells2 B_p
  obtain ⟨c0q, c1q⟩ := cells2 B_q
  go_wp2_with fail
  refine (H6.out _).mono ?_
  rintro e w5 ⟨rfl, rfl⟩
  clear c0p c1p c0q c1q
  go_upto_region 3 with (fail)
  clear H0 H1 H2 H5 H6
  have ekk' := ekk.out
  obtain ⟨c0p, c1p⟩ := cells2 B_p
  obtain ⟨c0r, c1r, c2r, c3r⟩ := cells4 B_r
  go_wp2_with fail
  refine (HI.out _).mono ?_
  clear c0p c1p c0r c1r c2r c3r
  rintro e w6 ⟨rfl, bb⟩
  replace bb := nextw (w0 := w3) (by exact sm) bb
  replace B_p := mv B_p bb
  replace B_q := mv B_q bb
  replace B_r := mv B_r bb
  replace HB := nx HB bb
  clear bb
  clear HI
  obtain ⟨c0p, c1p⟩ := cells2 B_p
  obtain ⟨c0r, c1r, c2r, c3r⟩ := cells4 B_r
  go_wp2_with fail
  refine (HG.out _).mono ?_
  clear c0p c1p c0r c1r c2r c3r
  rintro e w7 ⟨rfl, bb⟩
  replace bb := nextw (w0 := w6) (by exact sm) bb
  replace B_p := mv B_p bb
  replace B_q := mv B_q bb
  replace B_r := mv B_r bb
  replace HB := nx HB bb
  clear bb
  clear HG
  obtain ⟨c0q, c1q⟩ := cells2 B_q
  obtain ⟨c0r, c1r, c2r, c3r⟩ := cells4 B_r
  go_wp2_with fail
  refine (HQ.out _).mono ?_
  clear c0q c1q c0r c1r c2r c3r
  rintro e w8 ⟨rfl, bb⟩
  replace bb := nextw (w0 := w7) (by exact sm) bb
  replace B_p := mv B_p bb
  replace B_q := mv B_q bb
  replace B_r := mv B_r bb
  replace HB := nx HB bb
  clear bb
  clear HQ
  go_wp2
  go_ret
  exact ⟨rfl, nextw HB.out (by exact sm)⟩

set_option maxRecDepth 100000 in
set_option maxHeartbeats 16000000 in
theorem RTouch_l (a b c d x0 y0 x1 y1 k : Int) (hp : OkP a b) (hq : OkP c d) (hr : OkR x0 y0 x1 y1) (k0 : 0 ≤ k) (k1 : k ≤ 1024) (hx : (-1024 ≤ a - c ∧ a - c ≤ 1024)) (hy : (-1024 ≤ b - d ∧ b - d ≤ 1024)) (h0 : ¬ InR a b x0 y0 x1 y1) (h1 : k * k < gapM a b x0 y0 x1 y1) (h2 : k * k < gapM c d x0 y0 x1 y1) (w : World) :
    Calls Try.prog 26 #[.agg #[.int .i64 a, .int .i64 b], .agg #[.int .i64 c, .int .i64 d], .agg #[.int .i64 x0, .int .i64 y0, .int .i64 x1, .int .i64 y1], .int .i64 k] w fun e w' => e = .returned (.bool ((decide (Ok4 a b c d x0 y0 x1 y0 ∧ Cr a b c d x0 y0 x1 y0)) || (decide (Near a b c d x0 y0 k)) || (decide (Ok4 a b c d x1 y0 x1 y1 ∧ Cr a b c d x1 y0 x1 y1)) || (decide (Near a b c d x1 y0 k)) || (decide (Ok4 a b c d x1 y1 x0 y1 ∧ Cr a b c d x1 y1 x0 y1)) || (decide (Near a b c d x1 y1 k)) || (decide (Ok4 a b c d x0 y1 x0 y0 ∧ Cr a b c d x0 y1 x0 y0)) || (decide (Near a b c d x0 y1 k)))) ∧ Below w.heap.size w w' := by
  have HI := Lib.hid (fun w => in_any a b x0 y0 x1 y1 w)
  rw [decide_eq_false h0] at HI
  have kw : Hd.Way a b c d k := ⟨by omega, by omega, by omega, by omega, k0, k1⟩
  have kk := kw.sq
  have HG := Lib.hid (fun w => RGap_ok a b x0 y0 x1 y1 hp hr w)
  have HQ := Lib.hid (fun w => RGap_ok c d x0 y0 x1 y1 hq hr w)
  have HC := Lib.hid (fun w => RCorners_any x0 y0 x1 y1 w)
  have c00 : OkP x0 y0 := ⟨hr.a1, hr.a2, hr.b1, hr.b2⟩
  have c11 : OkP x1 y1 := ⟨hr.c1, hr.c2, hr.d1, hr.d2⟩
  have c01 : OkP x0 y1 := ⟨hr.a1, hr.a2, hr.d1, hr.d2⟩
  have c10 : OkP x1 y0 := ⟨hr.c1, hr.c2, hr.b1, hr.b2⟩
  have E0 := Lib.hid (fun w => RCross_any a b c d x0 y0 x1 y0 w)
  have F0 := Lib.hid (fun w => near_any x0 y0 a b c d k hp hq c00 kw w)
  have E1 := Lib.hid (fun w => RCross_any a b c d x1 y0 x1 y1 w)
  have F1 := Lib.hid (fun w => near_any x1 y0 a b c d k hp hq c10 kw w)
  have E2 := Lib.hid (fun w => RCross_any a b c d x1 y1 x0 y1 w)
  have F2 := Lib.hid (fun w => near_any x1 y1 a b c d k hp hq c11 kw w)
  have E3 := Lib.hid (fun w => RCross_any a b c d x0 y1 x0 y0 w)
  have F3 := Lib.hid (fun w => near_any x0 y1 a b c d k hp hq c01 kw w)
  generalize decide (Ok4 a b c d x0 y0 x1 y0 ∧ Cr a b c d x0 y0 x1 y0) = s0 at *
  generalize decide (Near a b c d x0 y0 k) = t0 at *
  generalize decide (Ok4 a b c d x1 y0 x1 y1 ∧ Cr a b c d x1 y0 x1 y1) = s1 at *
  generalize decide (Near a b c d x1 y0 k) = t1 at *
  generalize decide (Ok4 a b c d x1 y1 x0 y1 ∧ Cr a b c d x1 y1 x0 y1) = s2 at *
  generalize decide (Near a b c d x1 y1 k) = t2 at *
  generalize decide (Ok4 a b c d x0 y1 x0 y0 ∧ Cr a b c d x0 y1 x0 y0) = s3 at *
  generalize decide (Near a b c d x0 y1 k) = t3 at *
  clear c00 c11 c01 c10
  clear kw h0
  generalize gapM a b x0 y0 x1 y1 = gp at *
  generalize gapM c d x0 y0 x1 y1 = gq at *
  have H0 := Lib.hid (fun w => RPoint_t hp w)
  have H1 := Lib.hid (fun w => RPoint_t hq w)
  have H2 := Lib.hid (fun w => RRect_t hr w)
  have H5 := Lib.hid (fun w => Size_t (n := a - c) (m := 1024) (by decide) (by decide) hx w)
  have H6 := Lib.hid (fun w => Size_t (n := b - d) (m := 1024) (by decide) (by decide) hy w)
  obtain ⟨p1, p2, p3, p4⟩ := hp
  obtain ⟨q1, q2, q3, q4⟩ := hq
  clear hr hx hy
  have ekk : IntKind.i64.wrap (k * k) = k * k := by rw [IntKind.wrap_i64]; omega
  replace ekk := Lib.hid ekk
  obtain ⟨HB, B_p, B_q, B_r⟩ := box3 w 23 #[.int .i64 a, .int .i64 b] 23 #[.int .i64 c, .int .i64 d] 29 #[.int .i64 x0, .int .i64 y0, .int .i64 x1, .int .i64 y1]
  go_enter Try.func26, Try.ntmps26
  go_wp2_with fail
  generalize ((w.alloc (.cells #[.int .i64 a, .int .i64 b] 23)).alloc (.cells #[.int .i64 c, .int .i64 d] 23)).alloc (.cells #[.int .i64 x0, .int .i64 y0, .int .i64 x1, .int .i64 y1] 29) = W0 at *
  obtain ⟨c0p, c1p⟩ := cells2 B_p
  refine (H0.out _).mono ?_
  clear c0p c1p
  rintro e w1 ⟨rfl, bb⟩
  replace bb := nextw (w0 := W0) (by exact sm) bb
  replace B_p := mv B_p bb
  replace B_q := mv B_q bb
  replace B_r := mv B_r bb
  replace HB := nx HB bb
  clear bb
  obtain ⟨c0q, c1q⟩ := cells2 B_q
  go_wp2_with fail
  refine (H1.out _).mono ?_
  clear c0q c1q
  rintro e w2 ⟨rfl, bb⟩
  replace bb := nextw (w0 := w1) (by exact sm) bb
  replace B_p := mv B_p bb
  replace B_q := mv B_q bb
  replace B_r := mv B_r bb
  replace HB := nx HB bb
  clear bb
  obtain ⟨c0r, c1r, c2r, c3r⟩ := cells4 B_r
  go_wp2_with fail
  refine (H2.out _).mono ?_
  clear c0r c1r c2r c3r
  rintro e w3 ⟨rfl, bb⟩
  replace bb := nextw (w0 := w2) (by exact sm) bb
  replace B_p := mv B_p bb
  replace B_q := mv B_q bb
  replace B_r := mv B_r bb
  replace HB := nx HB bb
  clear bb
  obtain ⟨c0p, c1p⟩ := cells2 B_p
  obtain ⟨c0q, c1q⟩ := cells2 B_q
  go_wp2_with fail
  refine (H5.out _).mono ?_
  rintro e w4 ⟨rfl, rfl⟩
  clear c0p c1p c0q c1q
  obtain ⟨c0p, c1p⟩ := cells2 B_p
  obtain ⟨c0q, c1q⟩ := cells2 B_q
  go_wp2_with fail
  refine (H6.out _).mono ?_
  rintro e w5 ⟨rfl, rfl⟩
  clear c0p c1p c0q c1q
  go_upto_region 3 with (fail)
  clear H0 H1 H2 H5 H6
  have ekk' := ekk.out
  obtain ⟨c0p, c1p⟩ := cells2 B_p
  obtain ⟨c0r, c1r, c2r, c3r⟩ := cells4 B_r
  go_wp2_with fail
  refine (HI.out _).mono ?_
  clear c0p c1p c0r c1r c2r c3r
  rintro e w6 ⟨rfl, bb⟩
  replace bb := nextw (w0 := w3) (by exact sm) bb
  replace B_p := mv B_p bb
  replace B_q := mv B_q bb
  replace B_r := mv B_r bb
  replace HB := nx HB bb
  clear bb
  clear HI
  obtain ⟨c0p, c1p⟩ := cells2 B_p
  obtain ⟨c0r, c1r, c2r, c3r⟩ := cells4 B_r
  go_wp2_with fail
  refine (HG.out _).mono ?_
  clear c0p c1p c0r c1r c2r c3r
  rintro e w7 ⟨rfl, bb⟩
  replace bb := nextw (w0 := w6) (by exact sm) bb
  replace B_p := mv B_p bb
  replace B_q := mv B_q bb
  replace B_r := mv B_r bb
  replace HB := nx HB bb
  clear bb
  clear HG
  obtain ⟨c0q, c1q⟩ := cells2 B_q
  obtain ⟨c0r, c1r, c2r, c3r⟩ := cells4 B_r
  go_wp2_with fail
  refine (HQ.out _).mono ?_
  clear c0q c1q c0r c1r c2r c3r
  rintro e w8 ⟨rfl, bb⟩
  replace bb := nextw (w0 := w7) (by exact sm) bb
  replace B_p := mv B_p bb
  replace B_q := mv B_q bb
  replace B_r := mv B_r bb
  replace HB := nx HB bb
  clear bb
  clear HQ
  go_upto_region 5 with (fail)
  clear ekk ekk' kk h1 h2
  obtain ⟨c0r, c1r, c2r, c3r⟩ := cells4 B_r
  go_wp2_with fail
  refine (HC.out _).mono ?_
  clear c0r c1r c2r c3r
  rintro e w9 ⟨A, rfl, leA, B_co, bb⟩
  replace bb := nextw (w0 := w8) (by exact sm) bb
  replace B_p := mv B_p bb
  replace B_q := mv B_q bb
  replace B_r := mv B_r bb
  replace HB := nx HB bb
  clear bb
  clear HC
  clear B_r
  go_upto_region 6 with (fail)
  go_wp2_with fail
  go_loopw [10] (fun i wr => ∃ kk : Nat, kk ≤ 4 ∧ i = .int .i64 kk ∧ Hid (Bx wr (w.heap.size) 23 #[.int .i64 a, .int .i64 b]) ∧ Hid (Bx wr (w.heap.size + 1) 23 #[.int .i64 c, .int .i64 d]) ∧ Hid (Bx wr (A) 23 #[.int .i64 x0, .int .i64 y0, .int .i64 x1, .int .i64 y0, .int .i64 x1, .int .i64 y1, .int .i64 x0, .int .i64 y1]) ∧ Hid (Below w.heap.size w wr) ∧ Hid (1 ≤ kk → s0 = false ∧ t0 = false) ∧ Hid (2 ≤ kk → s1 = false ∧ t1 = false) ∧ Hid (3 ≤ kk → s2 = false ∧ t2 = false) ∧ Hid (4 ≤ kk → s3 = false ∧ t3 = false)) (fun i _ => (4 - intOf i).toNat)
  case atStart => exact ⟨0, by omega, rfl, B_p, B_q, B_co, HB, Lib.hid (fun h => absurd h (by omega)), Lib.hid (fun h => absurd h (by omega)), Lib.hid (fun h => absurd h (by omega)), Lib.hid (fun h => absurd h (by omega))⟩
  case round =>
    clear B_p B_q B_co HB
    obtain ⟨kk, hkk, rfl, B_p, B_q, B_co, HB, P0, P1, P2, P3⟩ := hrel
    rename World => wr
    rcases (show kk = 0 ∨ kk = 1 ∨ kk = 2 ∨ kk = 3 ∨ kk = 4 by omega) with rfl | rfl | rfl | rfl | rfl
    · skip
      clear P0 P1 P2 P3
      clear E1 F1 E2 F2 E3 F3
      have er : (IntKind.i64.wrap 1).tmod 4 = 1 := by decide
      rcases s0 with _ | _
      rotate_left
      · skip
        go_wp2_with fail
        obtain ⟨c0p, c1p⟩ := cells2 B_p
        obtain ⟨c0q, c1q⟩ := cells2 B_q
        obtain ⟨c0co, c1co, c2co, c3co, -, -, -, -⟩ := cells8 B_co
        refine wp_region_held_drew (S := fun w' => w'.cell? ⟨w.heap.size, 0, none⟩ = some (.int .i64 a) ∧ w'.cell? ⟨w.heap.size, 1, none⟩ = some (.int .i64 b) ∧ w'.cell? ⟨w.heap.size + 1, 0, none⟩ = some (.int .i64 c) ∧ w'.cell? ⟨w.heap.size + 1, 1, none⟩ = some (.int .i64 d) ∧ w'.cell? ⟨A, 0, none⟩ = some (.int .i64 x0) ∧ w'.cell? ⟨A, 1, none⟩ = some (.int .i64 y0) ∧ w'.cell? ⟨A, 2, none⟩ = some (.int .i64 x1) ∧ w'.cell? ⟨A, 3, none⟩ = some (.int .i64 y0)) (by kernel_rfl) ?_ (fun hH1x0 => ?_)
        · ((try dsimp only); (repeat' apply And.intro) <;> (first | (with_reducible assumption) | ((repeat (first | (with_reducible refine Eq.trans (cell_drew1 _ _) ?_) | (with_reducible refine Eq.trans (cell_far (by omega) _ _ _) ?_) | (with_reducible refine Eq.trans (World.cell?_alloc_lt _ _ _ (by first | (dsimp only; omega) | (simp only [World.size_alloc, World.size_setCell]; omega))) ?_))); with_reducible assumption) | assumption | go_keep))
        refine wpAnyH_take (i := 0) (v := ?hv1x0) rfl (by kernel_rfl) (by kernel_rfl) (by kernel_rfl) (fun _ _ _ h => h) (Or.inl ⟨by kernel_rfl, ?hy1x0⟩) (by assumption) ?hr1x0
        case hy1x0 => (intro w hSw; (try dsimp only at hSw); go_simp <;> with_reducible rfl)
        simp only [Act.put, List.setIfInBounds_toArray, List.set_cons_zero, List.set_cons_succ, List.getElem_toArray, List.getElem_cons_zero, List.getElem_cons_succ]
        refine wpAnyH_take (i := 1) (v := ?hv1x1) rfl (by kernel_rfl) (by kernel_rfl) (by kernel_rfl) (fun _ _ _ h => h) (Or.inl ⟨by kernel_rfl, ?hy1x1⟩) (by assumption) ?hr1x1
        case hy1x1 => (intro w hSw; (try dsimp only at hSw); go_simp <;> with_reducible rfl)
        simp only [Act.put, List.setIfInBounds_toArray, List.set_cons_zero, List.set_cons_succ, List.getElem_toArray, List.getElem_cons_zero, List.getElem_cons_succ]
        refine wpAnyH_take (i := 2) (v := ?hv1x2) rfl (by kernel_rfl) (by kernel_rfl) (by kernel_rfl) (fun _ _ _ h => h) (Or.inl ⟨by kernel_rfl, ?hy1x2⟩) (by assumption) ?hr1x2
        case hy1x2 => (intro w hSw; (try dsimp only at hSw); go_simp <;> with_reducible rfl)
        simp only [Act.put, List.setIfInBounds_toArray, List.set_cons_zero, List.set_cons_succ, List.getElem_toArray, List.getElem_cons_zero, List.getElem_cons_succ]
        refine wpAnyH_take (i := 3) (v := ?hv1x3) rfl (by kernel_rfl) (by kernel_rfl) (by kernel_rfl) (fun _ _ _ h => h) (Or.inl ⟨by kernel_rfl, ?hy1x3⟩) (by assumption) ?hr1x3
        case hy1x3 => (intro w hSw; (try dsimp only at hSw); go_simp <;> with_reducible rfl)
        simp only [Act.put, List.setIfInBounds_toArray, List.set_cons_zero, List.set_cons_succ, List.getElem_toArray, List.getElem_cons_zero, List.getElem_cons_succ]
        refine wpAnyH_take (i := 4) (v := ?hv1x4) rfl (by kernel_rfl) (by kernel_rfl) (by kernel_rfl) (fun _ _ _ h => h) (Or.inl ⟨by kernel_rfl, ?hy1x4⟩) (by assumption) ?hr1x4
        case hy1x4 => (intro w hSw; (try dsimp only at hSw); go_simp <;> with_reducible rfl)
        simp only [Act.put, List.setIfInBounds_toArray, List.set_cons_zero, List.set_cons_succ, List.getElem_toArray, List.getElem_cons_zero, List.getElem_cons_succ]
        refine wpAnyH_take (i := 5) (v := ?hv1x5) rfl (by kernel_rfl) (by kernel_rfl) (by kernel_rfl) (fun _ _ _ h => h) (Or.inl ⟨by kernel_rfl, ?hy1x5⟩) (by assumption) ?hr1x5
        case hy1x5 => (intro w hSw; (try dsimp only at hSw); go_simp <;> with_reducible rfl)
        simp only [Act.put, List.setIfInBounds_toArray, List.set_cons_zero, List.set_cons_succ, List.getElem_toArray, List.getElem_cons_zero, List.getElem_cons_succ]
        refine wpAnyH_take (i := 6) (v := ?hv1x6) rfl (by kernel_rfl) (by kernel_rfl) (by kernel_rfl) (fun _ _ _ h => h) (Or.inl ⟨by kernel_rfl, ?hy1x6⟩) (by assumption) ?hr1x6
        case hy1x6 => (intro w hSw; (try dsimp only at hSw); go_simp <;> with_reducible rfl)
        simp only [Act.put, List.setIfInBounds_toArray, List.set_cons_zero, List.set_cons_succ, List.getElem_toArray, List.getElem_cons_zero, List.getElem_cons_succ]
        refine wpAnyH_take (i := 7) (v := ?hv1x7) rfl (by kernel_rfl) (by kernel_rfl) (by kernel_rfl) (fun _ _ _ h => h) (Or.inl ⟨by kernel_rfl, ?hy1x7⟩) (by assumption) ?hr1x7
        case hy1x7 => (intro w hSw; (try dsimp only at hSw); go_simp <;> with_reducible rfl)
        simp only [Act.put, List.setIfInBounds_toArray, List.set_cons_zero, List.set_cons_succ, List.getElem_toArray, List.getElem_cons_zero, List.getElem_cons_succ]
        refine wpAnyH_take (i := 8) (v := ?hv1x8) rfl (by kernel_rfl) (by kernel_rfl) (by kernel_rfl) (fun _ _ _ h => h) (Or.inl ⟨by kernel_rfl, ?hy1x8⟩) (by assumption) ?hr1x8
        case hy1x8 => (intro w hSw; (try dsimp only at hSw); go_simp <;> with_reducible rfl)
        simp only [Act.put, List.setIfInBounds_toArray, List.set_cons_zero, List.set_cons_succ, List.getElem_toArray, List.getElem_cons_zero, List.getElem_cons_succ]
        refine wpAnyH_take (i := 9) (v := ?hv1x9) rfl (by kernel_rfl) (by kernel_rfl) (by kernel_rfl) (fun _ _ _ h => h) (Or.inl ⟨by kernel_rfl, ?hy1x9⟩) (by assumption) ?hr1x9
        case hy1x9 => (intro w hSw; (try dsimp only at hSw); go_simp <;> with_reducible rfl)
        simp only [Act.put, List.setIfInBounds_toArray, List.set_cons_zero, List.set_cons_succ, List.getElem_toArray, List.getElem_cons_zero, List.getElem_cons_succ]
        refine wpAnyH_take (i := 10) (v := ?hv1x10) rfl (by kernel_rfl) (by kernel_rfl) (by kernel_rfl) (fun _ _ _ h => h) (Or.inl ⟨by kernel_rfl, ?hy1x10⟩) (by assumption) ?hr1x10
        case hy1x10 => (intro w hSw; (try dsimp only at hSw); go_simp <;> with_reducible rfl)
        simp only [Act.put, List.setIfInBounds_toArray, List.set_cons_zero, List.set_cons_succ, List.getElem_toArray, List.getElem_cons_zero, List.getElem_cons_succ]
        refine wpAnyH_take (i := 11) (v := ?hv1x11) rfl (by kernel_rfl) (by kernel_rfl) (by kernel_rfl) (fun _ _ _ h => h) (Or.inl ⟨by kernel_rfl, ?hy1x11⟩) (by assumption) ?hr1x11
        case hy1x11 => (intro w hSw; (try dsimp only at hSw); go_simp <;> with_reducible rfl)
        simp only [Act.put, List.setIfInBounds_toArray, List.set_cons_zero, List.set_cons_succ, List.getElem_toArray, List.getElem_cons_zero, List.getElem_cons_succ]
        refine wpAnyH_ready (rs := [12]) (by kernel_rfl) (by simp) ?_
        refine AllReadyH.cons rfl (fun K hK => ?_) AllReadyH.nil
        go_simp
        go_at_call 27
        refine (E0.out _).mono ?_
        rintro e w10 ⟨rfl, bb⟩
        replace bb := nextw (w0 := wr) (by exact sm) bb
        replace B_p := mv B_p bb
        replace B_q := mv B_q bb
        replace B_co := mv B_co bb
        replace HB := nx HB bb
        clear bb c0p c1p c0q c1q c0co c1co c2co c3co
        have c0p : w10.cell? ⟨w.heap.size, 0, none⟩ = some (.int .i64 a) := B_p.out.cell 0 rfl
        have c1p : w10.cell? ⟨w.heap.size, 1, none⟩ = some (.int .i64 b) := B_p.out.cell 1 rfl
        have c0q : w10.cell? ⟨w.heap.size + 1, 0, none⟩ = some (.int .i64 c) := B_q.out.cell 0 rfl
        have c1q : w10.cell? ⟨w.heap.size + 1, 1, none⟩ = some (.int .i64 d) := B_q.out.cell 1 rfl
        have c0co : w10.cell? ⟨A, 0, none⟩ = some (.int .i64 x0) := B_co.out.cell 0 rfl
        have c1co : w10.cell? ⟨A, 1, none⟩ = some (.int .i64 y0) := B_co.out.cell 1 rfl
        have c2co : w10.cell? ⟨A, 2, none⟩ = some (.int .i64 x1) := B_co.out.cell 2 rfl
        have c3co : w10.cell? ⟨A, 3, none⟩ = some (.int .i64 y0) := B_co.out.cell 3 rfl
        go_wp2_with fail
        refine hK.out _ _ ?_ (fun hH1x1 => ?_)
        · ((try dsimp only); (repeat' apply And.intro) <;> (first | (with_reducible assumption) | ((repeat (first | (with_reducible refine Eq.trans (cell_drew1 _ _) ?_) | (with_reducible refine Eq.trans (cell_far (by omega) _ _ _) ?_) | (with_reducible refine Eq.trans (World.cell?_alloc_lt _ _ _ (by first | (dsimp only; omega) | (simp only [World.size_alloc, World.size_setCell]; omega))) ?_))); with_reducible assumption) | assumption | go_keep))
        clear hK K hH1x0
        try simp only [Act.put, List.setIfInBounds_toArray, List.set_cons_zero, List.set_cons_succ, List.getElem_toArray, List.getElem_cons_zero, List.getElem_cons_succ]
        refine wpAnyH_take (i := 13) (v := ?hv1x13) rfl (by kernel_rfl) (by kernel_rfl) (by kernel_rfl) (fun _ _ _ h => h) (Or.inl ⟨by kernel_rfl, ?hy1x13⟩) (by assumption) ?hr1x13
        case hy1x13 => (intro w hSw; (try dsimp only at hSw); go_simp <;> with_reducible rfl)
        simp only [Act.put, List.setIfInBounds_toArray, List.set_cons_zero, List.set_cons_succ, List.getElem_toArray, List.getElem_cons_zero, List.getElem_cons_succ]
        refine wpAnyH_take (i := 14) (v := undef) rfl (by kernel_rfl) (by kernel_rfl) (by kernel_rfl) (fun _ _ _ h => h) (Or.inr ⟨by kernel_rfl, rfl⟩) (by assumption) ?_
        simp only [Act.put, List.setIfInBounds_toArray, List.set_cons_zero, List.set_cons_succ, List.getElem_toArray, List.getElem_cons_zero, List.getElem_cons_succ]
        refine wpAnyH_take (i := 15) (v := undef) rfl (by kernel_rfl) (by kernel_rfl) (by kernel_rfl) (fun _ _ _ h => h) (Or.inr ⟨by kernel_rfl, rfl⟩) (by assumption) ?_
        simp only [Act.put, List.setIfInBounds_toArray, List.set_cons_zero, List.set_cons_succ, List.getElem_toArray, List.getElem_cons_zero, List.getElem_cons_succ]
        refine wpAnyH_take (i := 16) (v := undef) rfl (by kernel_rfl) (by kernel_rfl) (by kernel_rfl) (fun _ _ _ h => h) (Or.inr ⟨by kernel_rfl, rfl⟩) (by assumption) ?_
        simp only [Act.put, List.setIfInBounds_toArray, List.set_cons_zero, List.set_cons_succ, List.getElem_toArray, List.getElem_cons_zero, List.getElem_cons_succ]
        refine wpAnyH_take (i := 17) (v := undef) rfl (by kernel_rfl) (by kernel_rfl) (by kernel_rfl) (fun _ _ _ h => h) (Or.inr ⟨by kernel_rfl, rfl⟩) (by assumption) ?_
        simp only [Act.put, List.setIfInBounds_toArray, List.set_cons_zero, List.set_cons_succ, List.getElem_toArray, List.getElem_cons_zero, List.getElem_cons_succ]
        refine wpAnyH_take (i := 18) (v := undef) rfl (by kernel_rfl) (by kernel_rfl) (by kernel_rfl) (fun _ _ _ h => h) (Or.inr ⟨by kernel_rfl, rfl⟩) (by assumption) ?_
        simp only [Act.put, List.setIfInBounds_toArray, List.set_cons_zero, List.set_cons_succ, List.getElem_toArray, List.getElem_cons_zero, List.getElem_cons_succ]
        refine wpAnyH_take (i := 19) (v := undef) rfl (by kernel_rfl) (by kernel_rfl) (by kernel_rfl) (fun _ _ _ h => h) (Or.inr ⟨by kernel_rfl, rfl⟩) (by assumption) ?_
        simp only [Act.put, List.setIfInBounds_toArray, List.set_cons_zero, List.set_cons_succ, List.getElem_toArray, List.getElem_cons_zero, List.getElem_cons_succ]
        refine wpAnyH_take (i := 20) (v := undef) rfl (by kernel_rfl) (by kernel_rfl) (by kernel_rfl) (fun _ _ _ h => h) (Or.inr ⟨by kernel_rfl, rfl⟩) (by assumption) ?_
        simp only [Act.put, List.setIfInBounds_toArray, List.set_cons_zero, List.set_cons_succ, List.getElem_toArray, List.getElem_cons_zero, List.getElem_cons_succ]
        refine wpAnyH_take (i := 21) (v := undef) rfl (by kernel_rfl) (by kernel_rfl) (by kernel_rfl) (fun _ _ _ h => h) (Or.inr ⟨by kernel_rfl, rfl⟩) (by assumption) ?_
        simp only [Act.put, List.setIfInBounds_toArray, List.set_cons_zero, List.set_cons_succ, List.getElem_toArray, List.getElem_cons_zero, List.getElem_cons_succ]
        refine wpAnyH_take (i := 22) (v := ?hv1x22) rfl (by kernel_rfl) (by kernel_rfl) (by kernel_rfl) (fun _ _ _ h => h) (Or.inl ⟨by kernel_rfl, ?hy1x22⟩) (by assumption) ?hr1x22
        case hy1x22 => (intro w hSw; (try dsimp only at hSw); go_simp <;> with_reducible rfl)
        simp only [Act.put, List.setIfInBounds_toArray, List.set_cons_zero, List.set_cons_succ, List.getElem_toArray, List.getElem_cons_zero, List.getElem_cons_succ]
        refine wpAnyH_done (by kernel_rfl) ?_ _
        clear hH1x1
        clear c0p c1p c0q c1q c0co c1co c2co c3co
        clear er
        go_wp2
        go_ret
        exact ⟨by simp, nextw HB.out (by exact sm)⟩
      rcases t0 with _ | _
      rotate_left
      · skip
        go_wp2_with fail
        obtain ⟨c0p, c1p⟩ := cells2 B_p
        obtain ⟨c0q, c1q⟩ := cells2 B_q
        obtain ⟨c0co, c1co, c2co, c3co, -, -, -, -⟩ := cells8 B_co
        have tk1x0 : True := trivial
        go_region_held3 (fun w' => w'.cell? ⟨w.heap.size, 0, none⟩ = some (.int .i64 a) ∧ w'.cell? ⟨w.heap.size, 1, none⟩ = some (.int .i64 b) ∧ w'.cell? ⟨w.heap.size + 1, 0, none⟩ = some (.int .i64 c) ∧ w'.cell? ⟨w.heap.size + 1, 1, none⟩ = some (.int .i64 d) ∧ w'.cell? ⟨A, 0, none⟩ = some (.int .i64 x0) ∧ w'.cell? ⟨A, 1, none⟩ = some (.int .i64 y0) ∧ w'.cell? ⟨A, 2, none⟩ = some (.int .i64 x1) ∧ w'.cell? ⟨A, 3, none⟩ = some (.int .i64 y0)) (((try dsimp only); (repeat' apply And.intro) <;> (first | (with_reducible assumption) | ((repeat (first | (with_reducible refine Eq.trans (cell_drew1 _ _) ?_) | (with_reducible refine Eq.trans (cell_far (by omega) _ _ _) ?_) | (with_reducible refine Eq.trans (World.cell?_alloc_lt _ _ _ (by first | (dsimp only; omega) | (simp only [World.size_alloc, World.size_setCell]; omega))) ?_))); with_reducible assumption) | assumption | go_keep)))
    (first
      | (clear tk1x0; go_at_call 27; refine (E0.out _).mono ?_; rintro e w11 ⟨rfl, bb⟩; replace bb := nextw (w0 := wr) (by exact sm) bb; replace B_p := mv B_p bb; replace B_q := mv B_q bb; replace B_co := mv B_co bb; replace HB := nx HB bb; clear bb c0p c1p c0q c1q c0co c1co c2co c3co; have c0p : w11.cell? ⟨w.heap.size, 0, none⟩ = some (.int .i64 a) := B_p.out.cell 0 rfl; have c1p : w11.cell? ⟨w.heap.size, 1, none⟩ = some (.int .i64 b) := B_p.out.cell 1 rfl; have c0q : w11.cell? ⟨w.heap.size + 1, 0, none⟩ = some (.int .i64 c) := B_q.out.cell 0 rfl; have c1q : w11.cell? ⟨w.heap.size + 1, 1, none⟩ = some (.int .i64 d) := B_q.out.cell 1 rfl; have c0co : w11.cell? ⟨A, 0, none⟩ = some (.int .i64 x0) := B_co.out.cell 0 rfl; have c1co : w11.cell? ⟨A, 1, none⟩ = some (.int .i64 y0) := B_co.out.cell 1 rfl; have c2co : w11.cell? ⟨A, 2, none⟩ = some (.int .i64 x1) := B_co.out.cell 2 rfl; have c3co : w11.cell? ⟨A, 3, none⟩ = some (.int .i64 y0) := B_co.out.cell 3 rfl; have tk1x1 : True := trivial)
      | (clear tk1x1; go_at_call 50; refine (F0.out _).mono ?_; rintro e w12 ⟨rfl, bb⟩; replace bb := nextw (w0 := w11) (by exact sm) bb; replace B_p := mv B_p bb; replace B_q := mv B_q bb; replace B_co := mv B_co bb; replace HB := nx HB bb; clear bb c0p c1p c0q c1q c0co c1co c2co c3co; have c0p : w12.cell? ⟨w.heap.size, 0, none⟩ = some (.int .i64 a) := B_p.out.cell 0 rfl; have c1p : w12.cell? ⟨w.heap.size, 1, none⟩ = some (.int .i64 b) := B_p.out.cell 1 rfl; have c0q : w12.cell? ⟨w.heap.size + 1, 0, none⟩ = some (.int .i64 c) := B_q.out.cell 0 rfl; have c1q : w12.cell? ⟨w.heap.size + 1, 1, none⟩ = some (.int .i64 d) := B_q.out.cell 1 rfl; have c0co : w12.cell? ⟨A, 0, none⟩ = some (.int .i64 x0) := B_co.out.cell 0 rfl; have c1co : w12.cell? ⟨A, 1, none⟩ = some (.int .i64 y0) := B_co.out.cell 1 rfl; have c2co : w12.cell? ⟨A, 2, none⟩ = some (.int .i64 x1) := B_co.out.cell 2 rfl; have c3co : w12.cell? ⟨A, 3, none⟩ = some (.int .i64 y0) := B_co.out.cell 3 rfl; have tk1x2 : True := trivial))
        clear c0p c1p c0q c1q c0co c1co c2co c3co
        clear er
        go_wp2
        go_ret
        exact ⟨by simp, nextw HB.out (by exact sm)⟩
      · skip
        go_wp2_with fail
        obtain ⟨c0p, c1p⟩ := cells2 B_p
        obtain ⟨c0q, c1q⟩ := cells2 B_q
        obtain ⟨c0co, c1co, c2co, c3co, -, -, -, -⟩ := cells8 B_co
        have tk2x0 : True := trivial
        go_region_held3 (fun w' => w'.cell? ⟨w.heap.size, 0, none⟩ = some (.int .i64 a) ∧ w'.cell? ⟨w.heap.size, 1, none⟩ = some (.int .i64 b) ∧ w'.cell? ⟨w.heap.size + 1, 0, none⟩ = some (.int .i64 c) ∧ w'.cell? ⟨w.heap.size + 1, 1, none⟩ = some (.int .i64 d) ∧ w'.cell? ⟨A, 0, none⟩ = some (.int .i64 x0) ∧ w'.cell? ⟨A, 1, none⟩ = some (.int .i64 y0) ∧ w'.cell? ⟨A, 2, none⟩ = some (.int .i64 x1) ∧ w'.cell? ⟨A, 3, none⟩ = some (.int .i64 y0)) (((try dsimp only); (repeat' apply And.intro) <;> (first | (with_reducible assumption) | ((repeat (first | (with_reducible refine Eq.trans (cell_drew1 _ _) ?_) | (with_reducible refine Eq.trans (cell_far (by omega) _ _ _) ?_) | (with_reducible refine Eq.trans (World.cell?_alloc_lt _ _ _ (by first | (dsimp only; omega) | (simp only [World.size_alloc, World.size_setCell]; omega))) ?_))); with_reducible assumption) | assumption | go_keep)))
    (first
      | (clear tk2x0; go_at_call 27; refine (E0.out _).mono ?_; rintro e w13 ⟨rfl, bb⟩; replace bb := nextw (w0 := wr) (by exact sm) bb; replace B_p := mv B_p bb; replace B_q := mv B_q bb; replace B_co := mv B_co bb; replace HB := nx HB bb; clear bb c0p c1p c0q c1q c0co c1co c2co c3co; have c0p : w13.cell? ⟨w.heap.size, 0, none⟩ = some (.int .i64 a) := B_p.out.cell 0 rfl; have c1p : w13.cell? ⟨w.heap.size, 1, none⟩ = some (.int .i64 b) := B_p.out.cell 1 rfl; have c0q : w13.cell? ⟨w.heap.size + 1, 0, none⟩ = some (.int .i64 c) := B_q.out.cell 0 rfl; have c1q : w13.cell? ⟨w.heap.size + 1, 1, none⟩ = some (.int .i64 d) := B_q.out.cell 1 rfl; have c0co : w13.cell? ⟨A, 0, none⟩ = some (.int .i64 x0) := B_co.out.cell 0 rfl; have c1co : w13.cell? ⟨A, 1, none⟩ = some (.int .i64 y0) := B_co.out.cell 1 rfl; have c2co : w13.cell? ⟨A, 2, none⟩ = some (.int .i64 x1) := B_co.out.cell 2 rfl; have c3co : w13.cell? ⟨A, 3, none⟩ = some (.int .i64 y0) := B_co.out.cell 3 rfl; have tk2x1 : True := trivial)
      | (clear tk2x1; go_at_call 50; refine (F0.out _).mono ?_; rintro e w14 ⟨rfl, bb⟩; replace bb := nextw (w0 := w13) (by exact sm) bb; replace B_p := mv B_p bb; replace B_q := mv B_q bb; replace B_co := mv B_co bb; replace HB := nx HB bb; clear bb c0p c1p c0q c1q c0co c1co c2co c3co; have c0p : w14.cell? ⟨w.heap.size, 0, none⟩ = some (.int .i64 a) := B_p.out.cell 0 rfl; have c1p : w14.cell? ⟨w.heap.size, 1, none⟩ = some (.int .i64 b) := B_p.out.cell 1 rfl; have c0q : w14.cell? ⟨w.heap.size + 1, 0, none⟩ = some (.int .i64 c) := B_q.out.cell 0 rfl; have c1q : w14.cell? ⟨w.heap.size + 1, 1, none⟩ = some (.int .i64 d) := B_q.out.cell 1 rfl; have c0co : w14.cell? ⟨A, 0, none⟩ = some (.int .i64 x0) := B_co.out.cell 0 rfl; have c1co : w14.cell? ⟨A, 1, none⟩ = some (.int .i64 y0) := B_co.out.cell 1 rfl; have c2co : w14.cell? ⟨A, 2, none⟩ = some (.int .i64 x1) := B_co.out.cell 2 rfl; have c3co : w14.cell? ⟨A, 3, none⟩ = some (.int .i64 y0) := B_co.out.cell 3 rfl; have tk2x2 : True := trivial))
        clear c0p c1p c0q c1q c0co c1co c2co c3co
        clear er
        go_wp2
        go_roundw
        case rel => exact ⟨1, by omega, by go_num, mv B_p sm, mv B_q sm, mv B_co sm, nx HB sm, Lib.hid (fun _ => by simp), Lib.hid (fun h => absurd h (by omega)), Lib.hid (fun h => absurd h (by omega)), Lib.hid (fun h => absurd h (by omega))⟩
        case measure => simp only [intOf]; omega
    · skip
      obtain ⟨rfl, rfl⟩ := P0.out (by omega)
      clear P0 P1 P2 P3
      clear E0 F0 E2 F2 E3 F3
      have er : (IntKind.i64.wrap 2).tmod 4 = 2 := by decide
      rcases s1 with _ | _
      rotate_left
      · skip
        go_wp2_with fail
        obtain ⟨c0p, c1p⟩ := cells2 B_p
        obtain ⟨c0q, c1q⟩ := cells2 B_q
        obtain ⟨-, -, c2co, c3co, c4co, c5co, -, -⟩ := cells8 B_co
        refine wp_region_held_drew (S := fun w' => w'.cell? ⟨w.heap.size, 0, none⟩ = some (.int .i64 a) ∧ w'.cell? ⟨w.heap.size, 1, none⟩ = some (.int .i64 b) ∧ w'.cell? ⟨w.heap.size + 1, 0, none⟩ = some (.int .i64 c) ∧ w'.cell? ⟨w.heap.size + 1, 1, none⟩ = some (.int .i64 d) ∧ w'.cell? ⟨A, 2, none⟩ = some (.int .i64 x1) ∧ w'.cell? ⟨A, 3, none⟩ = some (.int .i64 y0) ∧ w'.cell? ⟨A, 4, none⟩ = some (.int .i64 x1) ∧ w'.cell? ⟨A, 5, none⟩ = some (.int .i64 y1)) (by kernel_rfl) ?_ (fun hH2x0 => ?_)
        · ((try dsimp only); (repeat' apply And.intro) <;> (first | (with_reducible assumption) | ((repeat (first | (with_reducible refine Eq.trans (cell_drew1 _ _) ?_) | (with_reducible refine Eq.trans (cell_far (by omega) _ _ _) ?_) | (with_reducible refine Eq.trans (World.cell?_alloc_lt _ _ _ (by first | (dsimp only; omega) | (simp only [World.size_alloc, World.size_setCell]; omega))) ?_))); with_reducible assumption) | assumption | go_keep))
        refine wpAnyH_take (i := 0) (v := ?hv2x0) rfl (by kernel_rfl) (by kernel_rfl) (by kernel_rfl) (fun _ _ _ h => h) (Or.inl ⟨by kernel_rfl, ?hy2x0⟩) (by assumption) ?hr2x0
        case hy2x0 => (intro w hSw; (try dsimp only at hSw); go_simp <;> with_reducible rfl)
        simp only [Act.put, List.setIfInBounds_toArray, List.set_cons_zero, List.set_cons_succ, List.getElem_toArray, List.getElem_cons_zero, List.getElem_cons_succ]
        refine wpAnyH_take (i := 1) (v := ?hv2x1) rfl (by kernel_rfl) (by kernel_rfl) (by kernel_rfl) (fun _ _ _ h => h) (Or.inl ⟨by kernel_rfl, ?hy2x1⟩) (by assumption) ?hr2x1
        case hy2x1 => (intro w hSw; (try dsimp only at hSw); go_simp <;> with_reducible rfl)
        simp only [Act.put, List.setIfInBounds_toArray, List.set_cons_zero, List.set_cons_succ, List.getElem_toArray, List.getElem_cons_zero, List.getElem_cons_succ]
        refine wpAnyH_take (i := 2) (v := ?hv2x2) rfl (by kernel_rfl) (by kernel_rfl) (by kernel_rfl) (fun _ _ _ h => h) (Or.inl ⟨by kernel_rfl, ?hy2x2⟩) (by assumption) ?hr2x2
        case hy2x2 => (intro w hSw; (try dsimp only at hSw); go_simp <;> with_reducible rfl)
        simp only [Act.put, List.setIfInBounds_toArray, List.set_cons_zero, List.set_cons_succ, List.getElem_toArray, List.getElem_cons_zero, List.getElem_cons_succ]
        refine wpAnyH_take (i := 3) (v := ?hv2x3) rfl (by kernel_rfl) (by kernel_rfl) (by kernel_rfl) (fun _ _ _ h => h) (Or.inl ⟨by kernel_rfl, ?hy2x3⟩) (by assumption) ?hr2x3
        case hy2x3 => (intro w hSw; (try dsimp only at hSw); go_simp <;> with_reducible rfl)
        simp only [Act.put, List.setIfInBounds_toArray, List.set_cons_zero, List.set_cons_succ, List.getElem_toArray, List.getElem_cons_zero, List.getElem_cons_succ]
        refine wpAnyH_take (i := 4) (v := ?hv2x4) rfl (by kernel_rfl) (by kernel_rfl) (by kernel_rfl) (fun _ _ _ h => h) (Or.inl ⟨by kernel_rfl, ?hy2x4⟩) (by assumption) ?hr2x4
        case hy2x4 => (intro w hSw; (try dsimp only at hSw); go_simp <;> with_reducible rfl)
        simp only [Act.put, List.setIfInBounds_toArray, List.set_cons_zero, List.set_cons_succ, List.getElem_toArray, List.getElem_cons_zero, List.getElem_cons_succ]
        refine wpAnyH_take (i := 5) (v := ?hv2x5) rfl (by kernel_rfl) (by kernel_rfl) (by kernel_rfl) (fun _ _ _ h => h) (Or.inl ⟨by kernel_rfl, ?hy2x5⟩) (by assumption) ?hr2x5
        case hy2x5 => (intro w hSw; (try dsimp only at hSw); go_simp <;> with_reducible rfl)
        simp only [Act.put, List.setIfInBounds_toArray, List.set_cons_zero, List.set_cons_succ, List.getElem_toArray, List.getElem_cons_zero, List.getElem_cons_succ]
        refine wpAnyH_take (i := 6) (v := ?hv2x6) rfl (by kernel_rfl) (by kernel_rfl) (by kernel_rfl) (fun _ _ _ h => h) (Or.inl ⟨by kernel_rfl, ?hy2x6⟩) (by assumption) ?hr2x6
        case hy2x6 => (intro w hSw; (try dsimp only at hSw); go_simp <;> with_reducible rfl)
        simp only [Act.put, List.setIfInBounds_toArray, List.set_cons_zero, List.set_cons_succ, List.getElem_toArray, List.getElem_cons_zero, List.getElem_cons_succ]
        refine wpAnyH_take (i := 7) (v := ?hv2x7) rfl (by kernel_rfl) (by kernel_rfl) (by kernel_rfl) (fun _ _ _ h => h) (Or.inl ⟨by kernel_rfl, ?hy2x7⟩) (by assumption) ?hr2x7
        case hy2x7 => (intro w hSw; (try dsimp only at hSw); go_simp <;> with_reducible rfl)
        simp only [Act.put, List.setIfInBounds_toArray, List.set_cons_zero, List.set_cons_succ, List.getElem_toArray, List.getElem_cons_zero, List.getElem_cons_succ]
        refine wpAnyH_take (i := 8) (v := ?hv2x8) rfl (by kernel_rfl) (by kernel_rfl) (by kernel_rfl) (fun _ _ _ h => h) (Or.inl ⟨by kernel_rfl, ?hy2x8⟩) (by assumption) ?hr2x8
        case hy2x8 => (intro w hSw; (try dsimp only at hSw); go_simp <;> with_reducible rfl)
        simp only [Act.put, List.setIfInBounds_toArray, List.set_cons_zero, List.set_cons_succ, List.getElem_toArray, List.getElem_cons_zero, List.getElem_cons_succ]
        refine wpAnyH_take (i := 9) (v := ?hv2x9) rfl (by kernel_rfl) (by kernel_rfl) (by kernel_rfl) (fun _ _ _ h => h) (Or.inl ⟨by kernel_rfl, ?hy2x9⟩) (by assumption) ?hr2x9
        case hy2x9 => (intro w hSw; (try dsimp only at hSw); go_simp <;> with_reducible rfl)
        simp only [Act.put, List.setIfInBounds_toArray, List.set_cons_zero, List.set_cons_succ, List.getElem_toArray, List.getElem_cons_zero, List.getElem_cons_succ]
        refine wpAnyH_take (i := 10) (v := ?hv2x10) rfl (by kernel_rfl) (by kernel_rfl) (by kernel_rfl) (fun _ _ _ h => h) (Or.inl ⟨by kernel_rfl, ?hy2x10⟩) (by assumption) ?hr2x10
        case hy2x10 => (intro w hSw; (try dsimp only at hSw); go_simp <;> with_reducible rfl)
        simp only [Act.put, List.setIfInBounds_toArray, List.set_cons_zero, List.set_cons_succ, List.getElem_toArray, List.getElem_cons_zero, List.getElem_cons_succ]
        refine wpAnyH_take (i := 11) (v := ?hv2x11) rfl (by kernel_rfl) (by kernel_rfl) (by kernel_rfl) (fun _ _ _ h => h) (Or.inl ⟨by kernel_rfl, ?hy2x11⟩) (by assumption) ?hr2x11
        case hy2x11 => (intro w hSw; (try dsimp only at hSw); go_simp <;> with_reducible rfl)
        simp only [Act.put, List.setIfInBounds_toArray, List.set_cons_zero, List.set_cons_succ, List.getElem_toArray, List.getElem_cons_zero, List.getElem_cons_succ]
        refine wpAnyH_ready (rs := [12]) (by kernel_rfl) (by simp) ?_
        refine AllReadyH.cons rfl (fun K hK => ?_) AllReadyH.nil
        go_simp
        go_at_call 27
        refine (E1.out _).mono ?_
        rintro e w15 ⟨rfl, bb⟩
        replace bb := nextw (w0 := wr) (by exact sm) bb
        replace B_p := mv B_p bb
        replace B_q := mv B_q bb
        replace B_co := mv B_co bb
        replace HB := nx HB bb
        clear bb c0p c1p c0q c1q c2co c3co c4co c5co
        have c0p : w15.cell? ⟨w.heap.size, 0, none⟩ = some (.int .i64 a) := B_p.out.cell 0 rfl
        have c1p : w15.cell? ⟨w.heap.size, 1, none⟩ = some (.int .i64 b) := B_p.out.cell 1 rfl
        have c0q : w15.cell? ⟨w.heap.size + 1, 0, none⟩ = some (.int .i64 c) := B_q.out.cell 0 rfl
        have c1q : w15.cell? ⟨w.heap.size + 1, 1, none⟩ = some (.int .i64 d) := B_q.out.cell 1 rfl
        have c2co : w15.cell? ⟨A, 2, none⟩ = some (.int .i64 x1) := B_co.out.cell 2 rfl
        have c3co : w15.cell? ⟨A, 3, none⟩ = some (.int .i64 y0) := B_co.out.cell 3 rfl
        have c4co : w15.cell? ⟨A, 4, none⟩ = some (.int .i64 x1) := B_co.out.cell 4 rfl
        have c5co : w15.cell? ⟨A, 5, none⟩ = some (.int .i64 y1) := B_co.out.cell 5 rfl
        go_wp2_with fail
        refine hK.out _ _ ?_ (fun hH2x1 => ?_)
        · ((try dsimp only); (repeat' apply And.intro) <;> (first | (with_reducible assumption) | ((repeat (first | (with_reducible refine Eq.trans (cell_drew1 _ _) ?_) | (with_reducible refine Eq.trans (cell_far (by omega) _ _ _) ?_) | (with_reducible refine Eq.trans (World.cell?_alloc_lt _ _ _ (by first | (dsimp only; omega) | (simp only [World.size_alloc, World.size_setCell]; omega))) ?_))); with_reducible assumption) | assumption | go_keep))
        clear hK K hH2x0
        try simp only [Act.put, List.setIfInBounds_toArray, List.set_cons_zero, List.set_cons_succ, List.getElem_toArray, List.getElem_cons_zero, List.getElem_cons_succ]
        refine wpAnyH_take (i := 13) (v := ?hv2x13) rfl (by kernel_rfl) (by kernel_rfl) (by kernel_rfl) (fun _ _ _ h => h) (Or.inl ⟨by kernel_rfl, ?hy2x13⟩) (by assumption) ?hr2x13
        case hy2x13 => (intro w hSw; (try dsimp only at hSw); go_simp <;> with_reducible rfl)
        simp only [Act.put, List.setIfInBounds_toArray, List.set_cons_zero, List.set_cons_succ, List.getElem_toArray, List.getElem_cons_zero, List.getElem_cons_succ]
        refine wpAnyH_take (i := 14) (v := undef) rfl (by kernel_rfl) (by kernel_rfl) (by kernel_rfl) (fun _ _ _ h => h) (Or.inr ⟨by kernel_rfl, rfl⟩) (by assumption) ?_
        simp only [Act.put, List.setIfInBounds_toArray, List.set_cons_zero, List.set_cons_succ, List.getElem_toArray, List.getElem_cons_zero, List.getElem_cons_succ]
        refine wpAnyH_take (i := 15) (v := undef) rfl (by kernel_rfl) (by kernel_rfl) (by kernel_rfl) (fun _ _ _ h => h) (Or.inr ⟨by kernel_rfl, rfl⟩) (by assumption) ?_
        simp only [Act.put, List.setIfInBounds_toArray, List.set_cons_zero, List.set_cons_succ, List.getElem_toArray, List.getElem_cons_zero, List.getElem_cons_succ]
        refine wpAnyH_take (i := 16) (v := undef) rfl (by kernel_rfl) (by kernel_rfl) (by kernel_rfl) (fun _ _ _ h => h) (Or.inr ⟨by kernel_rfl, rfl⟩) (by assumption) ?_
        simp only [Act.put, List.setIfInBounds_toArray, List.set_cons_zero, List.set_cons_succ, List.getElem_toArray, List.getElem_cons_zero, List.getElem_cons_succ]
        refine wpAnyH_take (i := 17) (v := undef) rfl (by kernel_rfl) (by kernel_rfl) (by kernel_rfl) (fun _ _ _ h => h) (Or.inr ⟨by kernel_rfl, rfl⟩) (by assumption) ?_
        simp only [Act.put, List.setIfInBounds_toArray, List.set_cons_zero, List.set_cons_succ, List.getElem_toArray, List.getElem_cons_zero, List.getElem_cons_succ]
        refine wpAnyH_take (i := 18) (v := undef) rfl (by kernel_rfl) (by kernel_rfl) (by kernel_rfl) (fun _ _ _ h => h) (Or.inr ⟨by kernel_rfl, rfl⟩) (by assumption) ?_
        simp only [Act.put, List.setIfInBounds_toArray, List.set_cons_zero, List.set_cons_succ, List.getElem_toArray, List.getElem_cons_zero, List.getElem_cons_succ]
        refine wpAnyH_take (i := 19) (v := undef) rfl (by kernel_rfl) (by kernel_rfl) (by kernel_rfl) (fun _ _ _ h => h) (Or.inr ⟨by kernel_rfl, rfl⟩) (by assumption) ?_
        simp only [Act.put, List.setIfInBounds_toArray, List.set_cons_zero, List.set_cons_succ, List.getElem_toArray, List.getElem_cons_zero, List.getElem_cons_succ]
        refine wpAnyH_take (i := 20) (v := undef) rfl (by kernel_rfl) (by kernel_rfl) (by kernel_rfl) (fun _ _ _ h => h) (Or.inr ⟨by kernel_rfl, rfl⟩) (by assumption) ?_
        simp only [Act.put, List.setIfInBounds_toArray, List.set_cons_zero, List.set_cons_succ, List.getElem_toArray, List.getElem_cons_zero, List.getElem_cons_succ]
        refine wpAnyH_take (i := 21) (v := undef) rfl (by kernel_rfl) (by kernel_rfl) (by kernel_rfl) (fun _ _ _ h => h) (Or.inr ⟨by kernel_rfl, rfl⟩) (by assumption) ?_
        simp only [Act.put, List.setIfInBounds_toArray, List.set_cons_zero, List.set_cons_succ, List.getElem_toArray, List.getElem_cons_zero, List.getElem_cons_succ]
        refine wpAnyH_take (i := 22) (v := ?hv2x22) rfl (by kernel_rfl) (by kernel_rfl) (by kernel_rfl) (fun _ _ _ h => h) (Or.inl ⟨by kernel_rfl, ?hy2x22⟩) (by assumption) ?hr2x22
        case hy2x22 => (intro w hSw; (try dsimp only at hSw); go_simp <;> with_reducible rfl)
        simp only [Act.put, List.setIfInBounds_toArray, List.set_cons_zero, List.set_cons_succ, List.getElem_toArray, List.getElem_cons_zero, List.getElem_cons_succ]
        refine wpAnyH_done (by kernel_rfl) ?_ _
        clear hH2x1
        clear c0p c1p c0q c1q c2co c3co c4co c5co
        clear er
        go_wp2
        go_ret
        exact ⟨by simp, nextw HB.out (by exact sm)⟩
      rcases t1 with _ | _
      rotate_left
      · skip
        go_wp2_with fail
        obtain ⟨c0p, c1p⟩ := cells2 B_p
        obtain ⟨c0q, c1q⟩ := cells2 B_q
        obtain ⟨-, -, c2co, c3co, c4co, c5co, -, -⟩ := cells8 B_co
        have tk3x0 : True := trivial
        go_region_held3 (fun w' => w'.cell? ⟨w.heap.size, 0, none⟩ = some (.int .i64 a) ∧ w'.cell? ⟨w.heap.size, 1, none⟩ = some (.int .i64 b) ∧ w'.cell? ⟨w.heap.size + 1, 0, none⟩ = some (.int .i64 c) ∧ w'.cell? ⟨w.heap.size + 1, 1, none⟩ = some (.int .i64 d) ∧ w'.cell? ⟨A, 2, none⟩ = some (.int .i64 x1) ∧ w'.cell? ⟨A, 3, none⟩ = some (.int .i64 y0) ∧ w'.cell? ⟨A, 4, none⟩ = some (.int .i64 x1) ∧ w'.cell? ⟨A, 5, none⟩ = some (.int .i64 y1)) (((try dsimp only); (repeat' apply And.intro) <;> (first | (with_reducible assumption) | ((repeat (first | (with_reducible refine Eq.trans (cell_drew1 _ _) ?_) | (with_reducible refine Eq.trans (cell_far (by omega) _ _ _) ?_) | (with_reducible refine Eq.trans (World.cell?_alloc_lt _ _ _ (by first | (dsimp only; omega) | (simp only [World.size_alloc, World.size_setCell]; omega))) ?_))); with_reducible assumption) | assumption | go_keep)))
    (first
      | (clear tk3x0; go_at_call 27; refine (E1.out _).mono ?_; rintro e w16 ⟨rfl, bb⟩; replace bb := nextw (w0 := wr) (by exact sm) bb; replace B_p := mv B_p bb; replace B_q := mv B_q bb; replace B_co := mv B_co bb; replace HB := nx HB bb; clear bb c0p c1p c0q c1q c2co c3co c4co c5co; have c0p : w16.cell? ⟨w.heap.size, 0, none⟩ = some (.int .i64 a) := B_p.out.cell 0 rfl; have c1p : w16.cell? ⟨w.heap.size, 1, none⟩ = some (.int .i64 b) := B_p.out.cell 1 rfl; have c0q : w16.cell? ⟨w.heap.size + 1, 0, none⟩ = some (.int .i64 c) := B_q.out.cell 0 rfl; have c1q : w16.cell? ⟨w.heap.size + 1, 1, none⟩ = some (.int .i64 d) := B_q.out.cell 1 rfl; have c2co : w16.cell? ⟨A, 2, none⟩ = some (.int .i64 x1) := B_co.out.cell 2 rfl; have c3co : w16.cell? ⟨A, 3, none⟩ = some (.int .i64 y0) := B_co.out.cell 3 rfl; have c4co : w16.cell? ⟨A, 4, none⟩ = some (.int .i64 x1) := B_co.out.cell 4 rfl; have c5co : w16.cell? ⟨A, 5, none⟩ = some (.int .i64 y1) := B_co.out.cell 5 rfl; have tk3x1 : True := trivial)
      | (clear tk3x1; go_at_call 50; refine (F1.out _).mono ?_; rintro e w17 ⟨rfl, bb⟩; replace bb := nextw (w0 := w16) (by exact sm) bb; replace B_p := mv B_p bb; replace B_q := mv B_q bb; replace B_co := mv B_co bb; replace HB := nx HB bb; clear bb c0p c1p c0q c1q c2co c3co c4co c5co; have c0p : w17.cell? ⟨w.heap.size, 0, none⟩ = some (.int .i64 a) := B_p.out.cell 0 rfl; have c1p : w17.cell? ⟨w.heap.size, 1, none⟩ = some (.int .i64 b) := B_p.out.cell 1 rfl; have c0q : w17.cell? ⟨w.heap.size + 1, 0, none⟩ = some (.int .i64 c) := B_q.out.cell 0 rfl; have c1q : w17.cell? ⟨w.heap.size + 1, 1, none⟩ = some (.int .i64 d) := B_q.out.cell 1 rfl; have c2co : w17.cell? ⟨A, 2, none⟩ = some (.int .i64 x1) := B_co.out.cell 2 rfl; have c3co : w17.cell? ⟨A, 3, none⟩ = some (.int .i64 y0) := B_co.out.cell 3 rfl; have c4co : w17.cell? ⟨A, 4, none⟩ = some (.int .i64 x1) := B_co.out.cell 4 rfl; have c5co : w17.cell? ⟨A, 5, none⟩ = some (.int .i64 y1) := B_co.out.cell 5 rfl; have tk3x2 : True := trivial))
        clear c0p c1p c0q c1q c2co c3co c4co c5co
        clear er
        go_wp2
        go_ret
        exact ⟨by simp, nextw HB.out (by exact sm)⟩
      · skip
        go_wp2_with fail
        obtain ⟨c0p, c1p⟩ := cells2 B_p
        obtain ⟨c0q, c1q⟩ := cells2 B_q
        obtain ⟨-, -, c2co, c3co, c4co, c5co, -, -⟩ := cells8 B_co
        have tk4x0 : True := trivial
        go_region_held3 (fun w' => w'.cell? ⟨w.heap.size, 0, none⟩ = some (.int .i64 a) ∧ w'.cell? ⟨w.heap.size, 1, none⟩ = some (.int .i64 b) ∧ w'.cell? ⟨w.heap.size + 1, 0, none⟩ = some (.int .i64 c) ∧ w'.cell? ⟨w.heap.size + 1, 1, none⟩ = some (.int .i64 d) ∧ w'.cell? ⟨A, 2, none⟩ = some (.int .i64 x1) ∧ w'.cell? ⟨A, 3, none⟩ = some (.int .i64 y0) ∧ w'.cell? ⟨A, 4, none⟩ = some (.int .i64 x1) ∧ w'.cell? ⟨A, 5, none⟩ = some (.int .i64 y1)) (((try dsimp only); (repeat' apply And.intro) <;> (first | (with_reducible assumption) | ((repeat (first | (with_reducible refine Eq.trans (cell_drew1 _ _) ?_) | (with_reducible refine Eq.trans (cell_far (by omega) _ _ _) ?_) | (with_reducible refine Eq.trans (World.cell?_alloc_lt _ _ _ (by first | (dsimp only; omega) | (simp only [World.size_alloc, World.size_setCell]; omega))) ?_))); with_reducible assumption) | assumption | go_keep)))
    (first
      | (clear tk4x0; go_at_call 27; refine (E1.out _).mono ?_; rintro e w18 ⟨rfl, bb⟩; replace bb := nextw (w0 := wr) (by exact sm) bb; replace B_p := mv B_p bb; replace B_q := mv B_q bb; replace B_co := mv B_co bb; replace HB := nx HB bb; clear bb c0p c1p c0q c1q c2co c3co c4co c5co; have c0p : w18.cell? ⟨w.heap.size, 0, none⟩ = some (.int .i64 a) := B_p.out.cell 0 rfl; have c1p : w18.cell? ⟨w.heap.size, 1, none⟩ = some (.int .i64 b) := B_p.out.cell 1 rfl; have c0q : w18.cell? ⟨w.heap.size + 1, 0, none⟩ = some (.int .i64 c) := B_q.out.cell 0 rfl; have c1q : w18.cell? ⟨w.heap.size + 1, 1, none⟩ = some (.int .i64 d) := B_q.out.cell 1 rfl; have c2co : w18.cell? ⟨A, 2, none⟩ = some (.int .i64 x1) := B_co.out.cell 2 rfl; have c3co : w18.cell? ⟨A, 3, none⟩ = some (.int .i64 y0) := B_co.out.cell 3 rfl; have c4co : w18.cell? ⟨A, 4, none⟩ = some (.int .i64 x1) := B_co.out.cell 4 rfl; have c5co : w18.cell? ⟨A, 5, none⟩ = some (.int .i64 y1) := B_co.out.cell 5 rfl; have tk4x1 : True := trivial)
      | (clear tk4x1; go_at_call 50; refine (F1.out _).mono ?_; rintro e w19 ⟨rfl, bb⟩; replace bb := nextw (w0 := w18) (by exact sm) bb; replace B_p := mv B_p bb; replace B_q := mv B_q bb; replace B_co := mv B_co bb; replace HB := nx HB bb; clear bb c0p c1p c0q c1q c2co c3co c4co c5co; have c0p : w19.cell? ⟨w.heap.size, 0, none⟩ = some (.int .i64 a) := B_p.out.cell 0 rfl; have c1p : w19.cell? ⟨w.heap.size, 1, none⟩ = some (.int .i64 b) := B_p.out.cell 1 rfl; have c0q : w19.cell? ⟨w.heap.size + 1, 0, none⟩ = some (.int .i64 c) := B_q.out.cell 0 rfl; have c1q : w19.cell? ⟨w.heap.size + 1, 1, none⟩ = some (.int .i64 d) := B_q.out.cell 1 rfl; have c2co : w19.cell? ⟨A, 2, none⟩ = some (.int .i64 x1) := B_co.out.cell 2 rfl; have c3co : w19.cell? ⟨A, 3, none⟩ = some (.int .i64 y0) := B_co.out.cell 3 rfl; have c4co : w19.cell? ⟨A, 4, none⟩ = some (.int .i64 x1) := B_co.out.cell 4 rfl; have c5co : w19.cell? ⟨A, 5, none⟩ = some (.int .i64 y1) := B_co.out.cell 5 rfl; have tk4x2 : True := trivial))
        clear c0p c1p c0q c1q c2co c3co c4co c5co
        clear er
        go_wp2
        go_roundw
        case rel => exact ⟨2, by omega, by go_num, mv B_p sm, mv B_q sm, mv B_co sm, nx HB sm, Lib.hid (fun _ => by simp), Lib.hid (fun _ => by simp), Lib.hid (fun h => absurd h (by omega)), Lib.hid (fun h => absurd h (by omega))⟩
        case measure => simp only [intOf]; omega
    · skip
      obtain ⟨rfl, rfl⟩ := P0.out (by omega)
      obtain ⟨rfl, rfl⟩ := P1.out (by omega)
      clear P0 P1 P2 P3
      clear E0 F0 E1 F1 E3 F3
      have er : (IntKind.i64.wrap 3).tmod 4 = 3 := by decide
      rcases s2 with _ | _
      rotate_left
      · skip
        go_wp2_with fail
        obtain ⟨c0p, c1p⟩ := cells2 B_p
        obtain ⟨c0q, c1q⟩ := cells2 B_q
        obtain ⟨-, -, -, -, c4co, c5co, c6co, c7co⟩ := cells8 B_co
        refine wp_region_held_drew (S := fun w' => w'.cell? ⟨w.heap.size, 0, none⟩ = some (.int .i64 a) ∧ w'.cell? ⟨w.heap.size, 1, none⟩ = some (.int .i64 b) ∧ w'.cell? ⟨w.heap.size + 1, 0, none⟩ = some (.int .i64 c) ∧ w'.cell? ⟨w.heap.size + 1, 1, none⟩ = some (.int .i64 d) ∧ w'.cell? ⟨A, 4, none⟩ = some (.int .i64 x1) ∧ w'.cell? ⟨A, 5, none⟩ = some (.int .i64 y1) ∧ w'.cell? ⟨A, 6, none⟩ = some (.int .i64 x0) ∧ w'.cell? ⟨A, 7, none⟩ = some (.int .i64 y1)) (by kernel_rfl) ?_ (fun hH3x0 => ?_)
        · ((try dsimp only); (repeat' apply And.intro) <;> (first | (with_reducible assumption) | ((repeat (first | (with_reducible refine Eq.trans (cell_drew1 _ _) ?_) | (with_reducible refine Eq.trans (cell_far (by omega) _ _ _) ?_) | (with_reducible refine Eq.trans (World.cell?_alloc_lt _ _ _ (by first | (dsimp only; omega) | (simp only [World.size_alloc, World.size_setCell]; omega))) ?_))); with_reducible assumption) | assumption | go_keep))
        refine wpAnyH_take (i := 0) (v := ?hv3x0) rfl (by kernel_rfl) (by kernel_rfl) (by kernel_rfl) (fun _ _ _ h => h) (Or.inl ⟨by kernel_rfl, ?hy3x0⟩) (by assumption) ?hr3x0
        case hy3x0 => (intro w hSw; (try dsimp only at hSw); go_simp <;> with_reducible rfl)
        simp only [Act.put, List.setIfInBounds_toArray, List.set_cons_zero, List.set_cons_succ, List.getElem_toArray, List.getElem_cons_zero, List.getElem_cons_succ]
        refine wpAnyH_take (i := 1) (v := ?hv3x1) rfl (by kernel_rfl) (by kernel_rfl) (by kernel_rfl) (fun _ _ _ h => h) (Or.inl ⟨by kernel_rfl, ?hy3x1⟩) (by assumption) ?hr3x1
        case hy3x1 => (intro w hSw; (try dsimp only at hSw); go_simp <;> with_reducible rfl)
        simp only [Act.put, List.setIfInBounds_toArray, List.set_cons_zero, List.set_cons_succ, List.getElem_toArray, List.getElem_cons_zero, List.getElem_cons_succ]
        refine wpAnyH_take (i := 2) (v := ?hv3x2) rfl (by kernel_rfl) (by kernel_rfl) (by kernel_rfl) (fun _ _ _ h => h) (Or.inl ⟨by kernel_rfl, ?hy3x2⟩) (by assumption) ?hr3x2
        case hy3x2 => (intro w hSw; (try dsimp only at hSw); go_simp <;> with_reducible rfl)
        simp only [Act.put, List.setIfInBounds_toArray, List.set_cons_zero, List.set_cons_succ, List.getElem_toArray, List.getElem_cons_zero, List.getElem_cons_succ]
        refine wpAnyH_take (i := 3) (v := ?hv3x3) rfl (by kernel_rfl) (by kernel_rfl) (by kernel_rfl) (fun _ _ _ h => h) (Or.inl ⟨by kernel_rfl, ?hy3x3⟩) (by assumption) ?hr3x3
        case hy3x3 => (intro w hSw; (try dsimp only at hSw); go_simp <;> with_reducible rfl)
        simp only [Act.put, List.setIfInBounds_toArray, List.set_cons_zero, List.set_cons_succ, List.getElem_toArray, List.getElem_cons_zero, List.getElem_cons_succ]
        refine wpAnyH_take (i := 4) (v := ?hv3x4) rfl (by kernel_rfl) (by kernel_rfl) (by kernel_rfl) (fun _ _ _ h => h) (Or.inl ⟨by kernel_rfl, ?hy3x4⟩) (by assumption) ?hr3x4
        case hy3x4 => (intro w hSw; (try dsimp only at hSw); go_simp <;> with_reducible rfl)
        simp only [Act.put, List.setIfInBounds_toArray, List.set_cons_zero, List.set_cons_succ, List.getElem_toArray, List.getElem_cons_zero, List.getElem_cons_succ]
        refine wpAnyH_take (i := 5) (v := ?hv3x5) rfl (by kernel_rfl) (by kernel_rfl) (by kernel_rfl) (fun _ _ _ h => h) (Or.inl ⟨by kernel_rfl, ?hy3x5⟩) (by assumption) ?hr3x5
        case hy3x5 => (intro w hSw; (try dsimp only at hSw); go_simp <;> with_reducible rfl)
        simp only [Act.put, List.setIfInBounds_toArray, List.set_cons_zero, List.set_cons_succ, List.getElem_toArray, List.getElem_cons_zero, List.getElem_cons_succ]
        refine wpAnyH_take (i := 6) (v := ?hv3x6) rfl (by kernel_rfl) (by kernel_rfl) (by kernel_rfl) (fun _ _ _ h => h) (Or.inl ⟨by kernel_rfl, ?hy3x6⟩) (by assumption) ?hr3x6
        case hy3x6 => (intro w hSw; (try dsimp only at hSw); go_simp <;> with_reducible rfl)
        simp only [Act.put, List.setIfInBounds_toArray, List.set_cons_zero, List.set_cons_succ, List.getElem_toArray, List.getElem_cons_zero, List.getElem_cons_succ]
        refine wpAnyH_take (i := 7) (v := ?hv3x7) rfl (by kernel_rfl) (by kernel_rfl) (by kernel_rfl) (fun _ _ _ h => h) (Or.inl ⟨by kernel_rfl, ?hy3x7⟩) (by assumption) ?hr3x7
        case hy3x7 => (intro w hSw; (try dsimp only at hSw); go_simp <;> with_reducible rfl)
        simp only [Act.put, List.setIfInBounds_toArray, List.set_cons_zero, List.set_cons_succ, List.getElem_toArray, List.getElem_cons_zero, List.getElem_cons_succ]
        refine wpAnyH_take (i := 8) (v := ?hv3x8) rfl (by kernel_rfl) (by kernel_rfl) (by kernel_rfl) (fun _ _ _ h => h) (Or.inl ⟨by kernel_rfl, ?hy3x8⟩) (by assumption) ?hr3x8
        case hy3x8 => (intro w hSw; (try dsimp only at hSw); go_simp <;> with_reducible rfl)
        simp only [Act.put, List.setIfInBounds_toArray, List.set_cons_zero, List.set_cons_succ, List.getElem_toArray, List.getElem_cons_zero, List.getElem_cons_succ]
        refine wpAnyH_take (i := 9) (v := ?hv3x9) rfl (by kernel_rfl) (by kernel_rfl) (by kernel_rfl) (fun _ _ _ h => h) (Or.inl ⟨by kernel_rfl, ?hy3x9⟩) (by assumption) ?hr3x9
        case hy3x9 => (intro w hSw; (try dsimp only at hSw); go_simp <;> with_reducible rfl)
        simp only [Act.put, List.setIfInBounds_toArray, List.set_cons_zero, List.set_cons_succ, List.getElem_toArray, List.getElem_cons_zero, List.getElem_cons_succ]
        refine wpAnyH_take (i := 10) (v := ?hv3x10) rfl (by kernel_rfl) (by kernel_rfl) (by kernel_rfl) (fun _ _ _ h => h) (Or.inl ⟨by kernel_rfl, ?hy3x10⟩) (by assumption) ?hr3x10
        case hy3x10 => (intro w hSw; (try dsimp only at hSw); go_simp <;> with_reducible rfl)
        simp only [Act.put, List.setIfInBounds_toArray, List.set_cons_zero, List.set_cons_succ, List.getElem_toArray, List.getElem_cons_zero, List.getElem_cons_succ]
        refine wpAnyH_take (i := 11) (v := ?hv3x11) rfl (by kernel_rfl) (by kernel_rfl) (by kernel_rfl) (fun _ _ _ h => h) (Or.inl ⟨by kernel_rfl, ?hy3x11⟩) (by assumption) ?hr3x11
        case hy3x11 => (intro w hSw; (try dsimp only at hSw); go_simp <;> with_reducible rfl)
        simp only [Act.put, List.setIfInBounds_toArray, List.set_cons_zero, List.set_cons_succ, List.getElem_toArray, List.getElem_cons_zero, List.getElem_cons_succ]
        refine wpAnyH_ready (rs := [12]) (by kernel_rfl) (by simp) ?_
        refine AllReadyH.cons rfl (fun K hK => ?_) AllReadyH.nil
        go_simp
        go_at_call 27
        refine (E2.out _).mono ?_
        rintro e w20 ⟨rfl, bb⟩
        replace bb := nextw (w0 := wr) (by exact sm) bb
        replace B_p := mv B_p bb
        replace B_q := mv B_q bb
        replace B_co := mv B_co bb
        replace HB := nx HB bb
        clear bb c0p c1p c0q c1q c4co c5co c6co c7co
        have c0p : w20.cell? ⟨w.heap.size, 0, none⟩ = some (.int .i64 a) := B_p.out.cell 0 rfl
        have c1p : w20.cell? ⟨w.heap.size, 1, none⟩ = some (.int .i64 b) := B_p.out.cell 1 rfl
        have c0q : w20.cell? ⟨w.heap.size + 1, 0, none⟩ = some (.int .i64 c) := B_q.out.cell 0 rfl
        have c1q : w20.cell? ⟨w.heap.size + 1, 1, none⟩ = some (.int .i64 d) := B_q.out.cell 1 rfl
        have c4co : w20.cell? ⟨A, 4, none⟩ = some (.int .i64 x1) := B_co.out.cell 4 rfl
        have c5co : w20.cell? ⟨A, 5, none⟩ = some (.int .i64 y1) := B_co.out.cell 5 rfl
        have c6co : w20.cell? ⟨A, 6, none⟩ = some (.int .i64 x0) := B_co.out.cell 6 rfl
        have c7co : w20.cell? ⟨A, 7, none⟩ = some (.int .i64 y1) := B_co.out.cell 7 rfl
        go_wp2_with fail
        refine hK.out _ _ ?_ (fun hH3x1 => ?_)
        · ((try dsimp only); (repeat' apply And.intro) <;> (first | (with_reducible assumption) | ((repeat (first | (with_reducible refine Eq.trans (cell_drew1 _ _) ?_) | (with_reducible refine Eq.trans (cell_far (by omega) _ _ _) ?_) | (with_reducible refine Eq.trans (World.cell?_alloc_lt _ _ _ (by first | (dsimp only; omega) | (simp only [World.size_alloc, World.size_setCell]; omega))) ?_))); with_reducible assumption) | assumption | go_keep))
        clear hK K hH3x0
        try simp only [Act.put, List.setIfInBounds_toArray, List.set_cons_zero, List.set_cons_succ, List.getElem_toArray, List.getElem_cons_zero, List.getElem_cons_succ]
        refine wpAnyH_take (i := 13) (v := ?hv3x13) rfl (by kernel_rfl) (by kernel_rfl) (by kernel_rfl) (fun _ _ _ h => h) (Or.inl ⟨by kernel_rfl, ?hy3x13⟩) (by assumption) ?hr3x13
        case hy3x13 => (intro w hSw; (try dsimp only at hSw); go_simp <;> with_reducible rfl)
        simp only [Act.put, List.setIfInBounds_toArray, List.set_cons_zero, List.set_cons_succ, List.getElem_toArray, List.getElem_cons_zero, List.getElem_cons_succ]
        refine wpAnyH_take (i := 14) (v := undef) rfl (by kernel_rfl) (by kernel_rfl) (by kernel_rfl) (fun _ _ _ h => h) (Or.inr ⟨by kernel_rfl, rfl⟩) (by assumption) ?_
        simp only [Act.put, List.setIfInBounds_toArray, List.set_cons_zero, List.set_cons_succ, List.getElem_toArray, List.getElem_cons_zero, List.getElem_cons_succ]
        refine wpAnyH_take (i := 15) (v := undef) rfl (by kernel_rfl) (by kernel_rfl) (by kernel_rfl) (fun _ _ _ h => h) (Or.inr ⟨by kernel_rfl, rfl⟩) (by assumption) ?_
        simp only [Act.put, List.setIfInBounds_toArray, List.set_cons_zero, List.set_cons_succ, List.getElem_toArray, List.getElem_cons_zero, List.getElem_cons_succ]
        refine wpAnyH_take (i := 16) (v := undef) rfl (by kernel_rfl) (by kernel_rfl) (by kernel_rfl) (fun _ _ _ h => h) (Or.inr ⟨by kernel_rfl, rfl⟩) (by assumption) ?_
        simp only [Act.put, List.setIfInBounds_toArray, List.set_cons_zero, List.set_cons_succ, List.getElem_toArray, List.getElem_cons_zero, List.getElem_cons_succ]
        refine wpAnyH_take (i := 17) (v := undef) rfl (by kernel_rfl) (by kernel_rfl) (by kernel_rfl) (fun _ _ _ h => h) (Or.inr ⟨by kernel_rfl, rfl⟩) (by assumption) ?_
        simp only [Act.put, List.setIfInBounds_toArray, List.set_cons_zero, List.set_cons_succ, List.getElem_toArray, List.getElem_cons_zero, List.getElem_cons_succ]
        refine wpAnyH_take (i := 18) (v := undef) rfl (by kernel_rfl) (by kernel_rfl) (by kernel_rfl) (fun _ _ _ h => h) (Or.inr ⟨by kernel_rfl, rfl⟩) (by assumption) ?_
        simp only [Act.put, List.setIfInBounds_toArray, List.set_cons_zero, List.set_cons_succ, List.getElem_toArray, List.getElem_cons_zero, List.getElem_cons_succ]
        refine wpAnyH_take (i := 19) (v := undef) rfl (by kernel_rfl) (by kernel_rfl) (by kernel_rfl) (fun _ _ _ h => h) (Or.inr ⟨by kernel_rfl, rfl⟩) (by assumption) ?_
        simp only [Act.put, List.setIfInBounds_toArray, List.set_cons_zero, List.set_cons_succ, List.getElem_toArray, List.getElem_cons_zero, List.getElem_cons_succ]
        refine wpAnyH_take (i := 20) (v := undef) rfl (by kernel_rfl) (by kernel_rfl) (by kernel_rfl) (fun _ _ _ h => h) (Or.inr ⟨by kernel_rfl, rfl⟩) (by assumption) ?_
        simp only [Act.put, List.setIfInBounds_toArray, List.set_cons_zero, List.set_cons_succ, List.getElem_toArray, List.getElem_cons_zero, List.getElem_cons_succ]
        refine wpAnyH_take (i := 21) (v := undef) rfl (by kernel_rfl) (by kernel_rfl) (by kernel_rfl) (fun _ _ _ h => h) (Or.inr ⟨by kernel_rfl, rfl⟩) (by assumption) ?_
        simp only [Act.put, List.setIfInBounds_toArray, List.set_cons_zero, List.set_cons_succ, List.getElem_toArray, List.getElem_cons_zero, List.getElem_cons_succ]
        refine wpAnyH_take (i := 22) (v := ?hv3x22) rfl (by kernel_rfl) (by kernel_rfl) (by kernel_rfl) (fun _ _ _ h => h) (Or.inl ⟨by kernel_rfl, ?hy3x22⟩) (by assumption) ?hr3x22
        case hy3x22 => (intro w hSw; (try dsimp only at hSw); go_simp <;> with_reducible rfl)
        simp only [Act.put, List.setIfInBounds_toArray, List.set_cons_zero, List.set_cons_succ, List.getElem_toArray, List.getElem_cons_zero, List.getElem_cons_succ]
        refine wpAnyH_done (by kernel_rfl) ?_ _
        clear hH3x1
        clear c0p c1p c0q c1q c4co c5co c6co c7co
        clear er
        go_wp2
        go_ret
        exact ⟨by simp, nextw HB.out (by exact sm)⟩
      rcases t2 with _ | _
      rotate_left
      · skip
        go_wp2_with fail
        obtain ⟨c0p, c1p⟩ := cells2 B_p
        obtain ⟨c0q, c1q⟩ := cells2 B_q
        obtain ⟨-, -, -, -, c4co, c5co, c6co, c7co⟩ := cells8 B_co
        have tk5x0 : True := trivial
        go_region_held3 (fun w' => w'.cell? ⟨w.heap.size, 0, none⟩ = some (.int .i64 a) ∧ w'.cell? ⟨w.heap.size, 1, none⟩ = some (.int .i64 b) ∧ w'.cell? ⟨w.heap.size + 1, 0, none⟩ = some (.int .i64 c) ∧ w'.cell? ⟨w.heap.size + 1, 1, none⟩ = some (.int .i64 d) ∧ w'.cell? ⟨A, 4, none⟩ = some (.int .i64 x1) ∧ w'.cell? ⟨A, 5, none⟩ = some (.int .i64 y1) ∧ w'.cell? ⟨A, 6, none⟩ = some (.int .i64 x0) ∧ w'.cell? ⟨A, 7, none⟩ = some (.int .i64 y1)) (((try dsimp only); (repeat' apply And.intro) <;> (first | (with_reducible assumption) | ((repeat (first | (with_reducible refine Eq.trans (cell_drew1 _ _) ?_) | (with_reducible refine Eq.trans (cell_far (by omega) _ _ _) ?_) | (with_reducible refine Eq.trans (World.cell?_alloc_lt _ _ _ (by first | (dsimp only; omega) | (simp only [World.size_alloc, World.size_setCell]; omega))) ?_))); with_reducible assumption) | assumption | go_keep)))
    (first
      | (clear tk5x0; go_at_call 27; refine (E2.out _).mono ?_; rintro e w21 ⟨rfl, bb⟩; replace bb := nextw (w0 := wr) (by exact sm) bb; replace B_p := mv B_p bb; replace B_q := mv B_q bb; replace B_co := mv B_co bb; replace HB := nx HB bb; clear bb c0p c1p c0q c1q c4co c5co c6co c7co; have c0p : w21.cell? ⟨w.heap.size, 0, none⟩ = some (.int .i64 a) := B_p.out.cell 0 rfl; have c1p : w21.cell? ⟨w.heap.size, 1, none⟩ = some (.int .i64 b) := B_p.out.cell 1 rfl; have c0q : w21.cell? ⟨w.heap.size + 1, 0, none⟩ = some (.int .i64 c) := B_q.out.cell 0 rfl; have c1q : w21.cell? ⟨w.heap.size + 1, 1, none⟩ = some (.int .i64 d) := B_q.out.cell 1 rfl; have c4co : w21.cell? ⟨A, 4, none⟩ = some (.int .i64 x1) := B_co.out.cell 4 rfl; have c5co : w21.cell? ⟨A, 5, none⟩ = some (.int .i64 y1) := B_co.out.cell 5 rfl; have c6co : w21.cell? ⟨A, 6, none⟩ = some (.int .i64 x0) := B_co.out.cell 6 rfl; have c7co : w21.cell? ⟨A, 7, none⟩ = some (.int .i64 y1) := B_co.out.cell 7 rfl; have tk5x1 : True := trivial)
      | (clear tk5x1; go_at_call 50; refine (F2.out _).mono ?_; rintro e w22 ⟨rfl, bb⟩; replace bb := nextw (w0 := w21) (by exact sm) bb; replace B_p := mv B_p bb; replace B_q := mv B_q bb; replace B_co := mv B_co bb; replace HB := nx HB bb; clear bb c0p c1p c0q c1q c4co c5co c6co c7co; have c0p : w22.cell? ⟨w.heap.size, 0, none⟩ = some (.int .i64 a) := B_p.out.cell 0 rfl; have c1p : w22.cell? ⟨w.heap.size, 1, none⟩ = some (.int .i64 b) := B_p.out.cell 1 rfl; have c0q : w22.cell? ⟨w.heap.size + 1, 0, none⟩ = some (.int .i64 c) := B_q.out.cell 0 rfl; have c1q : w22.cell? ⟨w.heap.size + 1, 1, none⟩ = some (.int .i64 d) := B_q.out.cell 1 rfl; have c4co : w22.cell? ⟨A, 4, none⟩ = some (.int .i64 x1) := B_co.out.cell 4 rfl; have c5co : w22.cell? ⟨A, 5, none⟩ = some (.int .i64 y1) := B_co.out.cell 5 rfl; have c6co : w22.cell? ⟨A, 6, none⟩ = some (.int .i64 x0) := B_co.out.cell 6 rfl; have c7co : w22.cell? ⟨A, 7, none⟩ = some (.int .i64 y1) := B_co.out.cell 7 rfl; have tk5x2 : True := trivial))
        clear c0p c1p c0q c1q c4co c5co c6co c7co
        clear er
        go_wp2
        go_ret
        exact ⟨by simp, nextw HB.out (by exact sm)⟩
      · skip
        go_wp2_with fail
        obtain ⟨c0p, c1p⟩ := cells2 B_p
        obtain ⟨c0q, c1q⟩ := cells2 B_q
        obtain ⟨-, -, -, -, c4co, c5co, c6co, c7co⟩ := cells8 B_co
        have tk6x0 : True := trivial
        go_region_held3 (fun w' => w'.cell? ⟨w.heap.size, 0, none⟩ = some (.int .i64 a) ∧ w'.cell? ⟨w.heap.size, 1, none⟩ = some (.int .i64 b) ∧ w'.cell? ⟨w.heap.size + 1, 0, none⟩ = some (.int .i64 c) ∧ w'.cell? ⟨w.heap.size + 1, 1, none⟩ = some (.int .i64 d) ∧ w'.cell? ⟨A, 4, none⟩ = some (.int .i64 x1) ∧ w'.cell? ⟨A, 5, none⟩ = some (.int .i64 y1) ∧ w'.cell? ⟨A, 6, none⟩ = some (.int .i64 x0) ∧ w'.cell? ⟨A, 7, none⟩ = some (.int .i64 y1)) (((try dsimp only); (repeat' apply And.intro) <;> (first | (with_reducible assumption) | ((repeat (first | (with_reducible refine Eq.trans (cell_drew1 _ _) ?_) | (with_reducible refine Eq.trans (cell_far (by omega) _ _ _) ?_) | (with_reducible refine Eq.trans (World.cell?_alloc_lt _ _ _ (by first | (dsimp only; omega) | (simp only [World.size_alloc, World.size_setCell]; omega))) ?_))); with_reducible assumption) | assumption | go_keep)))
    (first
      | (clear tk6x0; go_at_call 27; refine (E2.out _).mono ?_; rintro e w23 ⟨rfl, bb⟩; replace bb := nextw (w0 := wr) (by exact sm) bb; replace B_p := mv B_p bb; replace B_q := mv B_q bb; replace B_co := mv B_co bb; replace HB := nx HB bb; clear bb c0p c1p c0q c1q c4co c5co c6co c7co; have c0p : w23.cell? ⟨w.heap.size, 0, none⟩ = some (.int .i64 a) := B_p.out.cell 0 rfl; have c1p : w23.cell? ⟨w.heap.size, 1, none⟩ = some (.int .i64 b) := B_p.out.cell 1 rfl; have c0q : w23.cell? ⟨w.heap.size + 1, 0, none⟩ = some (.int .i64 c) := B_q.out.cell 0 rfl; have c1q : w23.cell? ⟨w.heap.size + 1, 1, none⟩ = some (.int .i64 d) := B_q.out.cell 1 rfl; have c4co : w23.cell? ⟨A, 4, none⟩ = some (.int .i64 x1) := B_co.out.cell 4 rfl; have c5co : w23.cell? ⟨A, 5, none⟩ = some (.int .i64 y1) := B_co.out.cell 5 rfl; have c6co : w23.cell? ⟨A, 6, none⟩ = some (.int .i64 x0) := B_co.out.cell 6 rfl; have c7co : w23.cell? ⟨A, 7, none⟩ = some (.int .i64 y1) := B_co.out.cell 7 rfl; have tk6x1 : True := trivial)
      | (clear tk6x1; go_at_call 50; refine (F2.out _).mono ?_; rintro e w24 ⟨rfl, bb⟩; replace bb := nextw (w0 := w23) (by exact sm) bb; replace B_p := mv B_p bb; replace B_q := mv B_q bb; replace B_co := mv B_co bb; replace HB := nx HB bb; clear bb c0p c1p c0q c1q c4co c5co c6co c7co; have c0p : w24.cell? ⟨w.heap.size, 0, none⟩ = some (.int .i64 a) := B_p.out.cell 0 rfl; have c1p : w24.cell? ⟨w.heap.size, 1, none⟩ = some (.int .i64 b) := B_p.out.cell 1 rfl; have c0q : w24.cell? ⟨w.heap.size + 1, 0, none⟩ = some (.int .i64 c) := B_q.out.cell 0 rfl; have c1q : w24.cell? ⟨w.heap.size + 1, 1, none⟩ = some (.int .i64 d) := B_q.out.cell 1 rfl; have c4co : w24.cell? ⟨A, 4, none⟩ = some (.int .i64 x1) := B_co.out.cell 4 rfl; have c5co : w24.cell? ⟨A, 5, none⟩ = some (.int .i64 y1) := B_co.out.cell 5 rfl; have c6co : w24.cell? ⟨A, 6, none⟩ = some (.int .i64 x0) := B_co.out.cell 6 rfl; have c7co : w24.cell? ⟨A, 7, none⟩ = some (.int .i64 y1) := B_co.out.cell 7 rfl; have tk6x2 : True := trivial))
        clear c0p c1p c0q c1q c4co c5co c6co c7co
        clear er
        go_wp2
        go_roundw
        case rel => exact ⟨3, by omega, by go_num, mv B_p sm, mv B_q sm, mv B_co sm, nx HB sm, Lib.hid (fun _ => by simp), Lib.hid (fun _ => by simp), Lib.hid (fun _ => by simp), Lib.hid (fun h => absurd h (by omega))⟩
        case measure => simp only [intOf]; omega
    · skip
      obtain ⟨rfl, rfl⟩ := P0.out (by omega)
      obtain ⟨rfl, rfl⟩ := P1.out (by omega)
      obtain ⟨rfl, rfl⟩ := P2.out (by omega)
      clear P0 P1 P2 P3
      clear E0 F0 E1 F1 E2 F2
      have er : (IntKind.i64.wrap 4).tmod 4 = 0 := by decide
      rcases s3 with _ | _
      rotate_left
      · skip
        go_wp2_with fail
        obtain ⟨c0p, c1p⟩ := cells2 B_p
        obtain ⟨c0q, c1q⟩ := cells2 B_q
        obtain ⟨c0co, c1co, -, -, -, -, c6co, c7co⟩ := cells8 B_co
        refine wp_region_held_drew (S := fun w' => w'.cell? ⟨w.heap.size, 0, none⟩ = some (.int .i64 a) ∧ w'.cell? ⟨w.heap.size, 1, none⟩ = some (.int .i64 b) ∧ w'.cell? ⟨w.heap.size + 1, 0, none⟩ = some (.int .i64 c) ∧ w'.cell? ⟨w.heap.size + 1, 1, none⟩ = some (.int .i64 d) ∧ w'.cell? ⟨A, 0, none⟩ = some (.int .i64 x0) ∧ w'.cell? ⟨A, 1, none⟩ = some (.int .i64 y0) ∧ w'.cell? ⟨A, 6, none⟩ = some (.int .i64 x0) ∧ w'.cell? ⟨A, 7, none⟩ = some (.int .i64 y1)) (by kernel_rfl) ?_ (fun hH4x0 => ?_)
        · ((try dsimp only); (repeat' apply And.intro) <;> (first | (with_reducible assumption) | ((repeat (first | (with_reducible refine Eq.trans (cell_drew1 _ _) ?_) | (with_reducible refine Eq.trans (cell_far (by omega) _ _ _) ?_) | (with_reducible refine Eq.trans (World.cell?_alloc_lt _ _ _ (by first | (dsimp only; omega) | (simp only [World.size_alloc, World.size_setCell]; omega))) ?_))); with_reducible assumption) | assumption | go_keep))
        refine wpAnyH_take (i := 0) (v := ?hv4x0) rfl (by kernel_rfl) (by kernel_rfl) (by kernel_rfl) (fun _ _ _ h => h) (Or.inl ⟨by kernel_rfl, ?hy4x0⟩) (by assumption) ?hr4x0
        case hy4x0 => (intro w hSw; (try dsimp only at hSw); go_simp <;> with_reducible rfl)
        simp only [Act.put, List.setIfInBounds_toArray, List.set_cons_zero, List.set_cons_succ, List.getElem_toArray, List.getElem_cons_zero, List.getElem_cons_succ]
        refine wpAnyH_take (i := 1) (v := ?hv4x1) rfl (by kernel_rfl) (by kernel_rfl) (by kernel_rfl) (fun _ _ _ h => h) (Or.inl ⟨by kernel_rfl, ?hy4x1⟩) (by assumption) ?hr4x1
        case hy4x1 => (intro w hSw; (try dsimp only at hSw); go_simp <;> with_reducible rfl)
        simp only [Act.put, List.setIfInBounds_toArray, List.set_cons_zero, List.set_cons_succ, List.getElem_toArray, List.getElem_cons_zero, List.getElem_cons_succ]
        refine wpAnyH_take (i := 2) (v := ?hv4x2) rfl (by kernel_rfl) (by kernel_rfl) (by kernel_rfl) (fun _ _ _ h => h) (Or.inl ⟨by kernel_rfl, ?hy4x2⟩) (by assumption) ?hr4x2
        case hy4x2 => (intro w hSw; (try dsimp only at hSw); go_simp <;> with_reducible rfl)
        simp only [Act.put, List.setIfInBounds_toArray, List.set_cons_zero, List.set_cons_succ, List.getElem_toArray, List.getElem_cons_zero, List.getElem_cons_succ]
        refine wpAnyH_take (i := 3) (v := ?hv4x3) rfl (by kernel_rfl) (by kernel_rfl) (by kernel_rfl) (fun _ _ _ h => h) (Or.inl ⟨by kernel_rfl, ?hy4x3⟩) (by assumption) ?hr4x3
        case hy4x3 => (intro w hSw; (try dsimp only at hSw); go_simp <;> with_reducible rfl)
        simp only [Act.put, List.setIfInBounds_toArray, List.set_cons_zero, List.set_cons_succ, List.getElem_toArray, List.getElem_cons_zero, List.getElem_cons_succ]
        refine wpAnyH_take (i := 4) (v := ?hv4x4) rfl (by kernel_rfl) (by kernel_rfl) (by kernel_rfl) (fun _ _ _ h => h) (Or.inl ⟨by kernel_rfl, ?hy4x4⟩) (by assumption) ?hr4x4
        case hy4x4 => (intro w hSw; (try dsimp only at hSw); go_simp <;> with_reducible rfl)
        simp only [Act.put, List.setIfInBounds_toArray, List.set_cons_zero, List.set_cons_succ, List.getElem_toArray, List.getElem_cons_zero, List.getElem_cons_succ]
        refine wpAnyH_take (i := 5) (v := ?hv4x5) rfl (by kernel_rfl) (by kernel_rfl) (by kernel_rfl) (fun _ _ _ h => h) (Or.inl ⟨by kernel_rfl, ?hy4x5⟩) (by assumption) ?hr4x5
        case hy4x5 => (intro w hSw; (try dsimp only at hSw); go_simp <;> with_reducible rfl)
        simp only [Act.put, List.setIfInBounds_toArray, List.set_cons_zero, List.set_cons_succ, List.getElem_toArray, List.getElem_cons_zero, List.getElem_cons_succ]
        refine wpAnyH_take (i := 6) (v := ?hv4x6) rfl (by kernel_rfl) (by kernel_rfl) (by kernel_rfl) (fun _ _ _ h => h) (Or.inl ⟨by kernel_rfl, ?hy4x6⟩) (by assumption) ?hr4x6
        case hy4x6 => (intro w hSw; (try dsimp only at hSw); go_simp <;> with_reducible rfl)
        simp only [Act.put, List.setIfInBounds_toArray, List.set_cons_zero, List.set_cons_succ, List.getElem_toArray, List.getElem_cons_zero, List.getElem_cons_succ]
        refine wpAnyH_take (i := 7) (v := ?hv4x7) rfl (by kernel_rfl) (by kernel_rfl) (by kernel_rfl) (fun _ _ _ h => h) (Or.inl ⟨by kernel_rfl, ?hy4x7⟩) (by assumption) ?hr4x7
        case hy4x7 => (intro w hSw; (try dsimp only at hSw); go_simp <;> with_reducible rfl)
        simp only [Act.put, List.setIfInBounds_toArray, List.set_cons_zero, List.set_cons_succ, List.getElem_toArray, List.getElem_cons_zero, List.getElem_cons_succ]
        refine wpAnyH_take (i := 8) (v := ?hv4x8) rfl (by kernel_rfl) (by kernel_rfl) (by kernel_rfl) (fun _ _ _ h => h) (Or.inl ⟨by kernel_rfl, ?hy4x8⟩) (by assumption) ?hr4x8
        case hy4x8 => (intro w hSw; (try dsimp only at hSw); go_simp <;> with_reducible rfl)
        simp only [Act.put, List.setIfInBounds_toArray, List.set_cons_zero, List.set_cons_succ, List.getElem_toArray, List.getElem_cons_zero, List.getElem_cons_succ]
        refine wpAnyH_take (i := 9) (v := ?hv4x9) rfl (by kernel_rfl) (by kernel_rfl) (by kernel_rfl) (fun _ _ _ h => h) (Or.inl ⟨by kernel_rfl, ?hy4x9⟩) (by assumption) ?hr4x9
        case hy4x9 => (intro w hSw; (try dsimp only at hSw); go_simp <;> with_reducible rfl)
        simp only [Act.put, List.setIfInBounds_toArray, List.set_cons_zero, List.set_cons_succ, List.getElem_toArray, List.getElem_cons_zero, List.getElem_cons_succ]
        refine wpAnyH_take (i := 10) (v := ?hv4x10) rfl (by kernel_rfl) (by kernel_rfl) (by kernel_rfl) (fun _ _ _ h => h) (Or.inl ⟨by kernel_rfl, ?hy4x10⟩) (by assumption) ?hr4x10
        case hy4x10 => (intro w hSw; (try dsimp only at hSw); go_simp <;> with_reducible rfl)
        simp only [Act.put, List.setIfInBounds_toArray, List.set_cons_zero, List.set_cons_succ, List.getElem_toArray, List.getElem_cons_zero, List.getElem_cons_succ]
        refine wpAnyH_take (i := 11) (v := ?hv4x11) rfl (by kernel_rfl) (by kernel_rfl) (by kernel_rfl) (fun _ _ _ h => h) (Or.inl ⟨by kernel_rfl, ?hy4x11⟩) (by assumption) ?hr4x11
        case hy4x11 => (intro w hSw; (try dsimp only at hSw); go_simp <;> with_reducible rfl)
        simp only [Act.put, List.setIfInBounds_toArray, List.set_cons_zero, List.set_cons_succ, List.getElem_toArray, List.getElem_cons_zero, List.getElem_cons_succ]
        refine wpAnyH_ready (rs := [12]) (by kernel_rfl) (by simp) ?_
        refine AllReadyH.cons rfl (fun K hK => ?_) AllReadyH.nil
        go_simp
        go_at_call 27
        refine (E3.out _).mono ?_
        rintro e w25 ⟨rfl, bb⟩
        replace bb := nextw (w0 := wr) (by exact sm) bb
        replace B_p := mv B_p bb
        replace B_q := mv B_q bb
        replace B_co := mv B_co bb
        replace HB := nx HB bb
        clear bb c0p c1p c0q c1q c0co c1co c6co c7co
        have c0p : w25.cell? ⟨w.heap.size, 0, none⟩ = some (.int .i64 a) := B_p.out.cell 0 rfl
        have c1p : w25.cell? ⟨w.heap.size, 1, none⟩ = some (.int .i64 b) := B_p.out.cell 1 rfl
        have c0q : w25.cell? ⟨w.heap.size + 1, 0, none⟩ = some (.int .i64 c) := B_q.out.cell 0 rfl
        have c1q : w25.cell? ⟨w.heap.size + 1, 1, none⟩ = some (.int .i64 d) := B_q.out.cell 1 rfl
        have c0co : w25.cell? ⟨A, 0, none⟩ = some (.int .i64 x0) := B_co.out.cell 0 rfl
        have c1co : w25.cell? ⟨A, 1, none⟩ = some (.int .i64 y0) := B_co.out.cell 1 rfl
        have c6co : w25.cell? ⟨A, 6, none⟩ = some (.int .i64 x0) := B_co.out.cell 6 rfl
        have c7co : w25.cell? ⟨A, 7, none⟩ = some (.int .i64 y1) := B_co.out.cell 7 rfl
        go_wp2_with fail
        refine hK.out _ _ ?_ (fun hH4x1 => ?_)
        · ((try dsimp only); (repeat' apply And.intro) <;> (first | (with_reducible assumption) | ((repeat (first | (with_reducible refine Eq.trans (cell_drew1 _ _) ?_) | (with_reducible refine Eq.trans (cell_far (by omega) _ _ _) ?_) | (with_reducible refine Eq.trans (World.cell?_alloc_lt _ _ _ (by first | (dsimp only; omega) | (simp only [World.size_alloc, World.size_setCell]; omega))) ?_))); with_reducible assumption) | assumption | go_keep))
        clear hK K hH4x0
        try simp only [Act.put, List.setIfInBounds_toArray, List.set_cons_zero, List.set_cons_succ, List.getElem_toArray, List.getElem_cons_zero, List.getElem_cons_succ]
        refine wpAnyH_take (i := 13) (v := ?hv4x13) rfl (by kernel_rfl) (by kernel_rfl) (by kernel_rfl) (fun _ _ _ h => h) (Or.inl ⟨by kernel_rfl, ?hy4x13⟩) (by assumption) ?hr4x13
        case hy4x13 => (intro w hSw; (try dsimp only at hSw); go_simp <;> with_reducible rfl)
        simp only [Act.put, List.setIfInBounds_toArray, List.set_cons_zero, List.set_cons_succ, List.getElem_toArray, List.getElem_cons_zero, List.getElem_cons_succ]
        refine wpAnyH_take (i := 14) (v := undef) rfl (by kernel_rfl) (by kernel_rfl) (by kernel_rfl) (fun _ _ _ h => h) (Or.inr ⟨by kernel_rfl, rfl⟩) (by assumption) ?_
        simp only [Act.put, List.setIfInBounds_toArray, List.set_cons_zero, List.set_cons_succ, List.getElem_toArray, List.getElem_cons_zero, List.getElem_cons_succ]
        refine wpAnyH_take (i := 15) (v := undef) rfl (by kernel_rfl) (by kernel_rfl) (by kernel_rfl) (fun _ _ _ h => h) (Or.inr ⟨by kernel_rfl, rfl⟩) (by assumption) ?_
        simp only [Act.put, List.setIfInBounds_toArray, List.set_cons_zero, List.set_cons_succ, List.getElem_toArray, List.getElem_cons_zero, List.getElem_cons_succ]
        refine wpAnyH_take (i := 16) (v := undef) rfl (by kernel_rfl) (by kernel_rfl) (by kernel_rfl) (fun _ _ _ h => h) (Or.inr ⟨by kernel_rfl, rfl⟩) (by assumption) ?_
        simp only [Act.put, List.setIfInBounds_toArray, List.set_cons_zero, List.set_cons_succ, List.getElem_toArray, List.getElem_cons_zero, List.getElem_cons_succ]
        refine wpAnyH_take (i := 17) (v := undef) rfl (by kernel_rfl) (by kernel_rfl) (by kernel_rfl) (fun _ _ _ h => h) (Or.inr ⟨by kernel_rfl, rfl⟩) (by assumption) ?_
        simp only [Act.put, List.setIfInBounds_toArray, List.set_cons_zero, List.set_cons_succ, List.getElem_toArray, List.getElem_cons_zero, List.getElem_cons_succ]
        refine wpAnyH_take (i := 18) (v := undef) rfl (by kernel_rfl) (by kernel_rfl) (by kernel_rfl) (fun _ _ _ h => h) (Or.inr ⟨by kernel_rfl, rfl⟩) (by assumption) ?_
        simp only [Act.put, List.setIfInBounds_toArray, List.set_cons_zero, List.set_cons_succ, List.getElem_toArray, List.getElem_cons_zero, List.getElem_cons_succ]
        refine wpAnyH_take (i := 19) (v := undef) rfl (by kernel_rfl) (by kernel_rfl) (by kernel_rfl) (fun _ _ _ h => h) (Or.inr ⟨by kernel_rfl, rfl⟩) (by assumption) ?_
        simp only [Act.put, List.setIfInBounds_toArray, List.set_cons_zero, List.set_cons_succ, List.getElem_toArray, List.getElem_cons_zero, List.getElem_cons_succ]
        refine wpAnyH_take (i := 20) (v := undef) rfl (by kernel_rfl) (by kernel_rfl) (by kernel_rfl) (fun _ _ _ h => h) (Or.inr ⟨by kernel_rfl, rfl⟩) (by assumption) ?_
        simp only [Act.put, List.setIfInBounds_toArray, List.set_cons_zero, List.set_cons_succ, List.getElem_toArray, List.getElem_cons_zero, List.getElem_cons_succ]
        refine wpAnyH_take (i := 21) (v := undef) rfl (by kernel_rfl) (by kernel_rfl) (by kernel_rfl) (fun _ _ _ h => h) (Or.inr ⟨by kernel_rfl, rfl⟩) (by assumption) ?_
        simp only [Act.put, List.setIfInBounds_toArray, List.set_cons_zero, List.set_cons_succ, List.getElem_toArray, List.getElem_cons_zero, List.getElem_cons_succ]
        refine wpAnyH_take (i := 22) (v := ?hv4x22) rfl (by kernel_rfl) (by kernel_rfl) (by kernel_rfl) (fun _ _ _ h => h) (Or.inl ⟨by kernel_rfl, ?hy4x22⟩) (by assumption) ?hr4x22
        case hy4x22 => (intro w hSw; (try dsimp only at hSw); go_simp <;> with_reducible rfl)
        simp only [Act.put, List.setIfInBounds_toArray, List.set_cons_zero, List.set_cons_succ, List.getElem_toArray, List.getElem_cons_zero, List.getElem_cons_succ]
        refine wpAnyH_done (by kernel_rfl) ?_ _
        clear hH4x1
        clear c0p c1p c0q c1q c0co c1co c6co c7co
        clear er
        go_wp2
        go_ret
        exact ⟨by simp, nextw HB.out (by exact sm)⟩
      rcases t3 with _ | _
      rotate_left
      · skip
        go_wp2_with fail
        obtain ⟨c0p, c1p⟩ := cells2 B_p
        obtain ⟨c0q, c1q⟩ := cells2 B_q
        obtain ⟨c0co, c1co, -, -, -, -, c6co, c7co⟩ := cells8 B_co
        have tk7x0 : True := trivial
        go_region_held3 (fun w' => w'.cell? ⟨w.heap.size, 0, none⟩ = some (.int .i64 a) ∧ w'.cell? ⟨w.heap.size, 1, none⟩ = some (.int .i64 b) ∧ w'.cell? ⟨w.heap.size + 1, 0, none⟩ = some (.int .i64 c) ∧ w'.cell? ⟨w.heap.size + 1, 1, none⟩ = some (.int .i64 d) ∧ w'.cell? ⟨A, 0, none⟩ = some (.int .i64 x0) ∧ w'.cell? ⟨A, 1, none⟩ = some (.int .i64 y0) ∧ w'.cell? ⟨A, 6, none⟩ = some (.int .i64 x0) ∧ w'.cell? ⟨A, 7, none⟩ = some (.int .i64 y1)) (((try dsimp only); (repeat' apply And.intro) <;> (first | (with_reducible assumption) | ((repeat (first | (with_reducible refine Eq.trans (cell_drew1 _ _) ?_) | (with_reducible refine Eq.trans (cell_far (by omega) _ _ _) ?_) | (with_reducible refine Eq.trans (World.cell?_alloc_lt _ _ _ (by first | (dsimp only; omega) | (simp only [World.size_alloc, World.size_setCell]; omega))) ?_))); with_reducible assumption) | assumption | go_keep)))
    (first
      | (clear tk7x0; go_at_call 27; refine (E3.out _).mono ?_; rintro e w26 ⟨rfl, bb⟩; replace bb := nextw (w0 := wr) (by exact sm) bb; replace B_p := mv B_p bb; replace B_q := mv B_q bb; replace B_co := mv B_co bb; replace HB := nx HB bb; clear bb c0p c1p c0q c1q c0co c1co c6co c7co; have c0p : w26.cell? ⟨w.heap.size, 0, none⟩ = some (.int .i64 a) := B_p.out.cell 0 rfl; have c1p : w26.cell? ⟨w.heap.size, 1, none⟩ = some (.int .i64 b) := B_p.out.cell 1 rfl; have c0q : w26.cell? ⟨w.heap.size + 1, 0, none⟩ = some (.int .i64 c) := B_q.out.cell 0 rfl; have c1q : w26.cell? ⟨w.heap.size + 1, 1, none⟩ = some (.int .i64 d) := B_q.out.cell 1 rfl; have c0co : w26.cell? ⟨A, 0, none⟩ = some (.int .i64 x0) := B_co.out.cell 0 rfl; have c1co : w26.cell? ⟨A, 1, none⟩ = some (.int .i64 y0) := B_co.out.cell 1 rfl; have c6co : w26.cell? ⟨A, 6, none⟩ = some (.int .i64 x0) := B_co.out.cell 6 rfl; have c7co : w26.cell? ⟨A, 7, none⟩ = some (.int .i64 y1) := B_co.out.cell 7 rfl; have tk7x1 : True := trivial)
      | (clear tk7x1; go_at_call 50; refine (F3.out _).mono ?_; rintro e w27 ⟨rfl, bb⟩; replace bb := nextw (w0 := w26) (by exact sm) bb; replace B_p := mv B_p bb; replace B_q := mv B_q bb; replace B_co := mv B_co bb; replace HB := nx HB bb; clear bb c0p c1p c0q c1q c0co c1co c6co c7co; have c0p : w27.cell? ⟨w.heap.size, 0, none⟩ = some (.int .i64 a) := B_p.out.cell 0 rfl; have c1p : w27.cell? ⟨w.heap.size, 1, none⟩ = some (.int .i64 b) := B_p.out.cell 1 rfl; have c0q : w27.cell? ⟨w.heap.size + 1, 0, none⟩ = some (.int .i64 c) := B_q.out.cell 0 rfl; have c1q : w27.cell? ⟨w.heap.size + 1, 1, none⟩ = some (.int .i64 d) := B_q.out.cell 1 rfl; have c0co : w27.cell? ⟨A, 0, none⟩ = some (.int .i64 x0) := B_co.out.cell 0 rfl; have c1co : w27.cell? ⟨A, 1, none⟩ = some (.int .i64 y0) := B_co.out.cell 1 rfl; have c6co : w27.cell? ⟨A, 6, none⟩ = some (.int .i64 x0) := B_co.out.cell 6 rfl; have c7co : w27.cell? ⟨A, 7, none⟩ = some (.int .i64 y1) := B_co.out.cell 7 rfl; have tk7x2 : True := trivial))
        clear c0p c1p c0q c1q c0co c1co c6co c7co
        clear er
        go_wp2
        go_ret
        exact ⟨by simp, nextw HB.out (by exact sm)⟩
      · skip
        go_wp2_with fail
        obtain ⟨c0p, c1p⟩ := cells2 B_p
        obtain ⟨c0q, c1q⟩ := cells2 B_q
        obtain ⟨c0co, c1co, -, -, -, -, c6co, c7co⟩ := cells8 B_co
        have tk8x0 : True := trivial
        go_region_held3 (fun w' => w'.cell? ⟨w.heap.size, 0, none⟩ = some (.int .i64 a) ∧ w'.cell? ⟨w.heap.size, 1, none⟩ = some (.int .i64 b) ∧ w'.cell? ⟨w.heap.size + 1, 0, none⟩ = some (.int .i64 c) ∧ w'.cell? ⟨w.heap.size + 1, 1, none⟩ = some (.int .i64 d) ∧ w'.cell? ⟨A, 0, none⟩ = some (.int .i64 x0) ∧ w'.cell? ⟨A, 1, none⟩ = some (.int .i64 y0) ∧ w'.cell? ⟨A, 6, none⟩ = some (.int .i64 x0) ∧ w'.cell? ⟨A, 7, none⟩ = some (.int .i64 y1)) (((try dsimp only); (repeat' apply And.intro) <;> (first | (with_reducible assumption) | ((repeat (first | (with_reducible refine Eq.trans (cell_drew1 _ _) ?_) | (with_reducible refine Eq.trans (cell_far (by omega) _ _ _) ?_) | (with_reducible refine Eq.trans (World.cell?_alloc_lt _ _ _ (by first | (dsimp only; omega) | (simp only [World.size_alloc, World.size_setCell]; omega))) ?_))); with_reducible assumption) | assumption | go_keep)))
    (first
      | (clear tk8x0; go_at_call 27; refine (E3.out _).mono ?_; rintro e w28 ⟨rfl, bb⟩; replace bb := nextw (w0 := wr) (by exact sm) bb; replace B_p := mv B_p bb; replace B_q := mv B_q bb; replace B_co := mv B_co bb; replace HB := nx HB bb; clear bb c0p c1p c0q c1q c0co c1co c6co c7co; have c0p : w28.cell? ⟨w.heap.size, 0, none⟩ = some (.int .i64 a) := B_p.out.cell 0 rfl; have c1p : w28.cell? ⟨w.heap.size, 1, none⟩ = some (.int .i64 b) := B_p.out.cell 1 rfl; have c0q : w28.cell? ⟨w.heap.size + 1, 0, none⟩ = some (.int .i64 c) := B_q.out.cell 0 rfl; have c1q : w28.cell? ⟨w.heap.size + 1, 1, none⟩ = some (.int .i64 d) := B_q.out.cell 1 rfl; have c0co : w28.cell? ⟨A, 0, none⟩ = some (.int .i64 x0) := B_co.out.cell 0 rfl; have c1co : w28.cell? ⟨A, 1, none⟩ = some (.int .i64 y0) := B_co.out.cell 1 rfl; have c6co : w28.cell? ⟨A, 6, none⟩ = some (.int .i64 x0) := B_co.out.cell 6 rfl; have c7co : w28.cell? ⟨A, 7, none⟩ = some (.int .i64 y1) := B_co.out.cell 7 rfl; have tk8x1 : True := trivial)
      | (clear tk8x1; go_at_call 50; refine (F3.out _).mono ?_; rintro e w29 ⟨rfl, bb⟩; replace bb := nextw (w0 := w28) (by exact sm) bb; replace B_p := mv B_p bb; replace B_q := mv B_q bb; replace B_co := mv B_co bb; replace HB := nx HB bb; clear bb c0p c1p c0q c1q c0co c1co c6co c7co; have c0p : w29.cell? ⟨w.heap.size, 0, none⟩ = some (.int .i64 a) := B_p.out.cell 0 rfl; have c1p : w29.cell? ⟨w.heap.size, 1, none⟩ = some (.int .i64 b) := B_p.out.cell 1 rfl; have c0q : w29.cell? ⟨w.heap.size + 1, 0, none⟩ = some (.int .i64 c) := B_q.out.cell 0 rfl; have c1q : w29.cell? ⟨w.heap.size + 1, 1, none⟩ = some (.int .i64 d) := B_q.out.cell 1 rfl; have c0co : w29.cell? ⟨A, 0, none⟩ = some (.int .i64 x0) := B_co.out.cell 0 rfl; have c1co : w29.cell? ⟨A, 1, none⟩ = some (.int .i64 y0) := B_co.out.cell 1 rfl; have c6co : w29.cell? ⟨A, 6, none⟩ = some (.int .i64 x0) := B_co.out.cell 6 rfl; have c7co : w29.cell? ⟨A, 7, none⟩ = some (.int .i64 y1) := B_co.out.cell 7 rfl; have tk8x2 : True := trivial))
        clear c0p c1p c0q c1q c0co c1co c6co c7co
        clear er
        go_wp2
        go_roundw
        case rel => exact ⟨4, by omega, by go_num, mv B_p sm, mv B_q sm, mv B_co sm, nx HB sm, Lib.hid (fun _ => by simp), Lib.hid (fun _ => by simp), Lib.hid (fun _ => by simp), Lib.hid (fun _ => by simp)⟩
        case measure => simp only [intOf]; omega
    · skip
      obtain ⟨rfl, rfl⟩ := P0.out (by omega)
      obtain ⟨rfl, rfl⟩ := P1.out (by omega)
      obtain ⟨rfl, rfl⟩ := P2.out (by omega)
      obtain ⟨rfl, rfl⟩ := P3.out (by omega)
      go_wp2
      go_ret
      exact ⟨rfl, nextw HB.out (by exact sm)⟩
end Go.Proofs.Ytaflgmiagjldhaa
