/- The reference's in, near. -/
import Derived.Test.YtaflgmiagjldhaaS14
set_option linter.unusedVariables false
set_option linter.unusedSimpArgs false
namespace Go.Proofs.Ytaflgmiagjldhaa
open Go Go.RowKit Hd

set_option maxRecDepth 100000 in
set_option maxHeartbeats 1000000 in
theorem in_0 (a b x0 y0 x1 y1 : Int)  (g0 : a < x0) (w : World) :
    Calls Try.prog 48 #[.agg #[.int .i64 a, .int .i64 b], .agg #[.int .i64 x0, .int .i64 y0, .int .i64 x1, .int .i64 y1]] w fun e w' => e = .returned (.bool false) ∧ Below w.heap.size w w' := by
  obtain ⟨HB, B_p, B_r⟩ := box2 w 23 #[.int .i64 a, .int .i64 b] 29 #[.int .i64 x0, .int .i64 y0, .int .i64 x1, .int .i64 y1]
  go_enter Try.func48, Try.ntmps48
  go_wp2_with fail
  generalize (w.alloc (.cells #[.int .i64 a, .int .i64 b] 23)).alloc (.cells #[.int .i64 x0, .int .i64 y0, .int .i64 x1, .int .i64 y1] 29) = W0 at *
  obtain ⟨c0p, c1p⟩ := cells2 B_p
  obtain ⟨c0r, c1r, c2r, c3r⟩ := cells4 B_r
  go_wp2
  go_ret
  exact ⟨(by first | rfl | exact rbt (by omega) | exact rbf (by omega)), nextw HB.out (by exact sm)⟩

set_option maxRecDepth 100000 in
set_option maxHeartbeats 1000000 in
theorem in_1 (a b x0 y0 x1 y1 : Int) (g0 : x0 ≤ a) (g1 : x1 < a) (w : World) :
    Calls Try.prog 48 #[.agg #[.int .i64 a, .int .i64 b], .agg #[.int .i64 x0, .int .i64 y0, .int .i64 x1, .int .i64 y1]] w fun e w' => e = .returned (.bool false) ∧ Below w.heap.size w w' := by
  obtain ⟨HB, B_p, B_r⟩ := box2 w 23 #[.int .i64 a, .int .i64 b] 29 #[.int .i64 x0, .int .i64 y0, .int .i64 x1, .int .i64 y1]
  go_enter Try.func48, Try.ntmps48
  go_wp2_with fail
  generalize (w.alloc (.cells #[.int .i64 a, .int .i64 b] 23)).alloc (.cells #[.int .i64 x0, .int .i64 y0, .int .i64 x1, .int .i64 y1] 29) = W0 at *
  obtain ⟨c0p, c1p⟩ := cells2 B_p
  obtain ⟨c0r, c1r, c2r, c3r⟩ := cells4 B_r
  go_wp2
  go_ret
  exact ⟨(by first | rfl | exact rbt (by omega) | exact rbf (by omega)), nextw HB.out (by exact sm)⟩

set_option maxRecDepth 100000 in
set_option maxHeartbeats 1000000 in
theorem in_2 (a b x0 y0 x1 y1 : Int) (g0 : x0 ≤ a) (g1 : a ≤ x1) (g2 : b < y0) (w : World) :
    Calls Try.prog 48 #[.agg #[.int .i64 a, .int .i64 b], .agg #[.int .i64 x0, .int .i64 y0, .int .i64 x1, .int .i64 y1]] w fun e w' => e = .returned (.bool false) ∧ Below w.heap.size w w' := by
  obtain ⟨HB, B_p, B_r⟩ := box2 w 23 #[.int .i64 a, .int .i64 b] 29 #[.int .i64 x0, .int .i64 y0, .int .i64 x1, .int .i64 y1]
  go_enter Try.func48, Try.ntmps48
  go_wp2_with fail
  generalize (w.alloc (.cells #[.int .i64 a, .int .i64 b] 23)).alloc (.cells #[.int .i64 x0, .int .i64 y0, .int .i64 x1, .int .i64 y1] 29) = W0 at *
  obtain ⟨c0p, c1p⟩ := cells2 B_p
  obtain ⟨c0r, c1r, c2r, c3r⟩ := cells4 B_r
  go_wp2
  go_ret
  exact ⟨(by first | rfl | exact rbt (by omega) | exact rbf (by omega)), nextw HB.out (by exact sm)⟩

set_option maxRecDepth 100000 in
set_option maxHeartbeats 1000000 in
theorem in_3 (a b x0 y0 x1 y1 : Int) (g0 : x0 ≤ a) (g1 : a ≤ x1) (g2 : y0 ≤ b) (g3 : y1 < b) (w : World) :
    Calls Try.prog 48 #[.agg #[.int .i64 a, .int .i64 b], .agg #[.int .i64 x0, .int .i64 y0, .int .i64 x1, .int .i64 y1]] w fun e w' => e = .returned (.bool false) ∧ Below w.heap.size w w' := by
  obtain ⟨HB, B_p, B_r⟩ := box2 w 23 #[.int .i64 a, .int .i64 b] 29 #[.int .i64 x0, .int .i64 y0, .int .i64 x1, .int .i64 y1]
  go_enter Try.func48, Try.ntmps48
  go_wp2_with fail
  generalize (w.alloc (.cells #[.int .i64 a, .int .i64 b] 23)).alloc (.cells #[.int .i64 x0, .int .i64 y0, .int .i64 x1, .int .i64 y1] 29) = W0 at *
  obtain ⟨c0p, c1p⟩ := cells2 B_p
  obtain ⟨c0r, c1r, c2r, c3r⟩ := cells4 B_r
  go_wp2
  go_ret
  exact ⟨(by first | rfl | exact rbt (by omega) | exact rbf (by omega)), nextw HB.out (by exact sm)⟩

set_option maxRecDepth 100000 in
set_option maxHeartbeats 1000000 in
theorem in_ok (a b x0 y0 x1 y1 : Int) (g0 : x0 ≤ a) (g1 : a ≤ x1) (g2 : y0 ≤ b) (g3 : b ≤ y1) (w : World) :
    Calls Try.prog 48 #[.agg #[.int .i64 a, .int .i64 b], .agg #[.int .i64 x0, .int .i64 y0, .int .i64 x1, .int .i64 y1]] w fun e w' => e = .returned (.bool true) ∧ Below w.heap.size w w' := by
  obtain ⟨HB, B_p, B_r⟩ := box2 w 23 #[.int .i64 a, .int .i64 b] 29 #[.int .i64 x0, .int .i64 y0, .int .i64 x1, .int .i64 y1]
  go_enter Try.func48, Try.ntmps48
  go_wp2_with fail
  generalize (w.alloc (.cells #[.int .i64 a, .int .i64 b] 23)).alloc (.cells #[.int .i64 x0, .int .i64 y0, .int .i64 x1, .int .i64 y1] 29) = W0 at *
  obtain ⟨c0p, c1p⟩ := cells2 B_p
  obtain ⟨c0r, c1r, c2r, c3r⟩ := cells4 B_r
  go_wp2
  go_ret
  exact ⟨(by first | rfl | exact rbt (by omega) | exact rbf (by omega)), nextw HB.out (by exact sm)⟩

theorem in_any (a b x0 y0 x1 y1 : Int) (w : World) : Calls Try.prog 48 #[.agg #[.int .i64 a, .int .i64 b], .agg #[.int .i64 x0, .int .i64 y0, .int .i64 x1, .int .i64 y1]] w fun e w' => e = .returned (.bool (decide (InR a b x0 y0 x1 y1))) ∧ Below w.heap.size w w' := by
  by_cases g0 : x0 ≤ a
  · by_cases g1 : a ≤ x1
    · by_cases g2 : y0 ≤ b
      · by_cases g3 : b ≤ y1
        · rw [decide_eq_true ⟨g0, g1, g2, g3⟩]; exact in_ok a b x0 y0 x1 y1 g0 g1 g2 g3 w
        · rw [decide_eq_false (fun h => g3 h.b2)]; exact in_3 a b x0 y0 x1 y1 g0 g1 g2 (by omega) w
      · rw [decide_eq_false (fun h => g2 h.b1)]; exact in_2 a b x0 y0 x1 y1 g0 g1 (by omega) w
    · rw [decide_eq_false (fun h => g1 h.a2)]; exact in_1 a b x0 y0 x1 y1 g0 (by omega) w
  · rw [decide_eq_false (fun h => g0 h.a1)]; exact in_0 a b x0 y0 x1 y1 (by omega) w

set_option maxRecDepth 100000 in
set_option maxHeartbeats 4000000 in
theorem near_z1 (u v a b c d k : Int) (hp : OkP a b) (hq : OkP c d) (hc : OkP u v) (kw : Hd.Way a b c d k) (h1 : ¬ (-3000 ≤ u - a ∧ u - a ≤ 3000)) (w : World) :
    Calls Try.prog 50 #[.agg #[.int .i64 u, .int .i64 v], .agg #[.int .i64 a, .int .i64 b], .agg #[.int .i64 c, .int .i64 d], .int .i64 k] w fun e w' => e = .returned (.bool false) ∧ Below w.heap.size w w' := by
  have S0 := Lib.hid (fun w => Size_f (n := u - a) (m := 3000) (by decide) (by decide) h1 w)
  have kk := kw.sq
  obtain ⟨w1, w2, w3, w4, k0, k1⟩ := kw
  obtain ⟨p1, p2, p3, p4⟩ := hp
  obtain ⟨q1, q2, q3, q4⟩ := hq
  obtain ⟨c1, c2, c3, c4⟩ := hc
  obtain ⟨HB, B_c, B_p, B_q⟩ := box3 w 23 #[.int .i64 u, .int .i64 v] 23 #[.int .i64 a, .int .i64 b] 23 #[.int .i64 c, .int .i64 d]
  go_enter Try.func50, Try.ntmps50
  go_wp2_with fail
  generalize ((w.alloc (.cells #[.int .i64 u, .int .i64 v] 23)).alloc (.cells #[.int .i64 a, .int .i64 b] 23)).alloc (.cells #[.int .i64 c, .int .i64 d] 23) = W0 at *
  go_upto_region 1 with (fail)
  obtain ⟨c0c, c1c⟩ := cells2 B_c
  obtain ⟨c0p, c1p⟩ := cells2 B_p
  obtain ⟨c0q, c1q⟩ := cells2 B_q
  go_quiet (fail)
  clear c0c c1c c0p c1p c0q c1q
  have bb : Below W0.heap.size W0 (W0.drewN nq) := bel_drewN (Below.refl _ _) _
  generalize W0.drewN nq = w1q at *
  replace B_c := mv B_c bb
  replace B_p := mv B_p bb
  replace B_q := mv B_q bb
  replace HB := nx HB bb
  clear bb
  go_upto_region 2 with (fail)
  obtain ⟨c0c, c1c⟩ := cells2 B_c
  obtain ⟨c0p, c1p⟩ := cells2 B_p
  obtain ⟨c0q, c1q⟩ := cells2 B_q
  go_quiet (fail)
  clear c0c c1c c0p c1p c0q c1q
  have bb : Below w1q.heap.size w1q (w1q.drewN nq) := bel_drewN (Below.refl _ _) _
  generalize w1q.drewN nq = w2q at *
  replace B_c := mv B_c bb
  replace B_p := mv B_p bb
  replace B_q := mv B_q bb
  replace HB := nx HB bb
  clear bb
  go_wp2_with fail
  refine (S0.out _).mono ?_
  rintro e w3 ⟨rfl, rfl⟩
  obtain ⟨c0c, c1c⟩ := cells2 B_c
  obtain ⟨c0p, c1p⟩ := cells2 B_p
  obtain ⟨c0q, c1q⟩ := cells2 B_q
  go_wp2
  go_ret
  exact ⟨(by first | rfl | exact rbt (by omega) | exact rbf (by omega)), nextw HB.out (by exact sm)⟩

set_option maxRecDepth 100000 in
set_option maxHeartbeats 4000000 in
theorem near_z2 (u v a b c d k : Int) (hp : OkP a b) (hq : OkP c d) (hc : OkP u v) (kw : Hd.Way a b c d k) (h1 : (-3000 ≤ u - a ∧ u - a ≤ 3000)) (h2 : ¬ (-3000 ≤ v - b ∧ v - b ≤ 3000)) (w : World) :
    Calls Try.prog 50 #[.agg #[.int .i64 u, .int .i64 v], .agg #[.int .i64 a, .int .i64 b], .agg #[.int .i64 c, .int .i64 d], .int .i64 k] w fun e w' => e = .returned (.bool false) ∧ Below w.heap.size w w' := by
  have S0 := Lib.hid (fun w => Size_t (n := u - a) (m := 3000) (by decide) (by decide) h1 w)
  have S1 := Lib.hid (fun w => Size_f (n := v - b) (m := 3000) (by decide) (by decide) h2 w)
  have kk := kw.sq
  obtain ⟨w1, w2, w3, w4, k0, k1⟩ := kw
  obtain ⟨p1, p2, p3, p4⟩ := hp
  obtain ⟨q1, q2, q3, q4⟩ := hq
  obtain ⟨c1, c2, c3, c4⟩ := hc
  obtain ⟨HB, B_c, B_p, B_q⟩ := box3 w 23 #[.int .i64 u, .int .i64 v] 23 #[.int .i64 a, .int .i64 b] 23 #[.int .i64 c, .int .i64 d]
  go_enter Try.func50, Try.ntmps50
  go_wp2_with fail
  generalize ((w.alloc (.cells #[.int .i64 u, .int .i64 v] 23)).alloc (.cells #[.int .i64 a, .int .i64 b] 23)).alloc (.cells #[.int .i64 c, .int .i64 d] 23) = W0 at *
  go_upto_region 1 with (fail)
  obtain ⟨c0c, c1c⟩ := cells2 B_c
  obtain ⟨c0p, c1p⟩ := cells2 B_p
  obtain ⟨c0q, c1q⟩ := cells2 B_q
  go_quiet (fail)
  clear c0c c1c c0p c1p c0q c1q
  have bb : Below W0.heap.size W0 (W0.drewN nq) := bel_drewN (Below.refl _ _) _
  generalize W0.drewN nq = w1q at *
  replace B_c := mv B_c bb
  replace B_p := mv B_p bb
  replace B_q := mv B_q bb
  replace HB := nx HB bb
  clear bb
  go_upto_region 2 with (fail)
  obtain ⟨c0c, c1c⟩ := cells2 B_c
  obtain ⟨c0p, c1p⟩ := cells2 B_p
  obtain ⟨c0q, c1q⟩ := cells2 B_q
  go_quiet (fail)
  clear c0c c1c c0p c1p c0q c1q
  have bb : Below w1q.heap.size w1q (w1q.drewN nq) := bel_drewN (Below.refl _ _) _
  generalize w1q.drewN nq = w2q at *
  replace B_c := mv B_c bb
  replace B_p := mv B_p bb
  replace B_q := mv B_q bb
  replace HB := nx HB bb
  clear bb
  go_wp2_with fail
  refine (S0.out _).mono ?_
  rintro e w3 ⟨rfl, rfl⟩
  go_wp2_with fail
  refine (S1.out _).mono ?_
  rintro e w4 ⟨rfl, rfl⟩
  obtain ⟨c0c, c1c⟩ := cells2 B_c
  obtain ⟨c0p, c1p⟩ := cells2 B_p
  obtain ⟨c0q, c1q⟩ := cells2 B_q
  go_wp2
  go_ret
  exact ⟨(by first | rfl | exact rbt (by omega) | exact rbf (by omega)), nextw HB.out (by exact sm)⟩

set_option maxRecDepth 100000 in
set_option maxHeartbeats 4000000 in
theorem near_d (u v a b c d k : Int) (hp : OkP a b) (hq : OkP c d) (hc : OkP u v) (kw : Hd.Way a b c d k) (h1 : (-3000 ≤ u - a ∧ u - a ≤ 3000)) (h2 : (-3000 ≤ v - b ∧ v - b ≤ 3000)) (g1 : (c - a) * (u - a) + (d - b) * (v - b) ≤ 0) (w : World) :
    Calls Try.prog 50 #[.agg #[.int .i64 u, .int .i64 v], .agg #[.int .i64 a, .int .i64 b], .agg #[.int .i64 c, .int .i64 d], .int .i64 k] w fun e w' => e = .returned (.bool (decide ((u - a) * (u - a) + (v - b) * (v - b) ≤ k * k))) ∧ Below w.heap.size w w' := by
  have S0 := Lib.hid (fun w => Size_t (n := u - a) (m := 3000) (by decide) (by decide) h1 w)
  have S1 := Lib.hid (fun w => Size_t (n := v - b) (m := 3000) (by decide) (by decide) h2 w)
  have kk := kw.sq
  obtain ⟨w1, w2, w3, w4, k0, k1⟩ := kw
  obtain ⟨p1, p2, p3, p4⟩ := hp
  obtain ⟨q1, q2, q3, q4⟩ := hq
  obtain ⟨c1, c2, c3, c4⟩ := hc
  have m0 := mul_le (a := c - a) (b := u - a) (A := 4096) (B := 4096) (by omega) (by omega) (by omega) (by omega)
  have m1 := mul_le (a := d - b) (b := v - b) (A := 4096) (B := 4096) (by omega) (by omega) (by omega) (by omega)
  have m2 := mul_le (a := c - a) (b := c - a) (A := 4096) (B := 4096) (by omega) (by omega) (by omega) (by omega)
  have m3 := mul_le (a := d - b) (b := d - b) (A := 4096) (B := 4096) (by omega) (by omega) (by omega) (by omega)
  have m4 := mul_le (a := c - a) (b := v - b) (A := 4096) (B := 4096) (by omega) (by omega) (by omega) (by omega)
  have m5 := mul_le (a := d - b) (b := u - a) (A := 4096) (B := 4096) (by omega) (by omega) (by omega) (by omega)
  have m6 := mul_le (a := u - a) (b := u - a) (A := 4096) (B := 4096) (by omega) (by omega) (by omega) (by omega)
  have m7 := mul_le (a := v - b) (b := v - b) (A := 4096) (B := 4096) (by omega) (by omega) (by omega) (by omega)
  have m8 := mul_le (a := u - c) (b := u - c) (A := 4096) (B := 4096) (by omega) (by omega) (by omega) (by omega)
  have m9 := mul_le (a := v - d) (b := v - d) (A := 4096) (B := 4096) (by omega) (by omega) (by omega) (by omega)
  have ekk : IntKind.i64.wrap (k * k) = k * k := by rw [IntKind.wrap_i64]; omega
  obtain ⟨HB, B_c, B_p, B_q⟩ := box3 w 23 #[.int .i64 u, .int .i64 v] 23 #[.int .i64 a, .int .i64 b] 23 #[.int .i64 c, .int .i64 d]
  go_enter Try.func50, Try.ntmps50
  go_wp2_with fail
  generalize ((w.alloc (.cells #[.int .i64 u, .int .i64 v] 23)).alloc (.cells #[.int .i64 a, .int .i64 b] 23)).alloc (.cells #[.int .i64 c, .int .i64 d] 23) = W0 at *
  go_upto_region 1 with (fail)
  obtain ⟨c0c, c1c⟩ := cells2 B_c
  obtain ⟨c0p, c1p⟩ := cells2 B_p
  obtain ⟨c0q, c1q⟩ := cells2 B_q
  go_quiet (fail)
  clear c0c c1c c0p c1p c0q c1q
  have bb : Below W0.heap.size W0 (W0.drewN nq) := bel_drewN (Below.refl _ _) _
  generalize W0.drewN nq = w1q at *
  replace B_c := mv B_c bb
  replace B_p := mv B_p bb
  replace B_q := mv B_q bb
  replace HB := nx HB bb
  clear bb
  go_upto_region 2 with (fail)
  obtain ⟨c0c, c1c⟩ := cells2 B_c
  obtain ⟨c0p, c1p⟩ := cells2 B_p
  obtain ⟨c0q, c1q⟩ := cells2 B_q
  go_quiet (fail)
  clear c0c c1c c0p c1p c0q c1q
  have bb : Below w1q.heap.size w1q (w1q.drewN nq) := bel_drewN (Below.refl _ _) _
  generalize w1q.drewN nq = w2q at *
  replace B_c := mv B_c bb
  replace B_p := mv B_p bb
  replace B_q := mv B_q bb
  replace HB := nx HB bb
  clear bb
  go_wp2_with fail
  refine (S0.out _).mono ?_
  rintro e w3 ⟨rfl, rfl⟩
  go_wp2_with fail
  refine (S1.out _).mono ?_
  rintro e w4 ⟨rfl, rfl⟩
  obtain ⟨c0c, c1c⟩ := cells2 B_c
  obtain ⟨c0p, c1p⟩ := cells2 B_p
  obtain ⟨c0q, c1q⟩ := cells2 B_q
  go_wp2
  go_ret
  exact ⟨(by first | rfl | exact rbt (by omega) | exact rbf (by omega)), nextw HB.out (by exact sm)⟩

set_option maxRecDepth 100000 in
set_option maxHeartbeats 4000000 in
theorem near_l (u v a b c d k : Int) (hp : OkP a b) (hq : OkP c d) (hc : OkP u v) (kw : Hd.Way a b c d k) (h1 : (-3000 ≤ u - a ∧ u - a ≤ 3000)) (h2 : (-3000 ≤ v - b ∧ v - b ≤ 3000)) (g1 : 0 < (c - a) * (u - a) + (d - b) * (v - b)) (g2 : (c - a) * (c - a) + (d - b) * (d - b) ≤ (c - a) * (u - a) + (d - b) * (v - b)) (w : World) :
    Calls Try.prog 50 #[.agg #[.int .i64 u, .int .i64 v], .agg #[.int .i64 a, .int .i64 b], .agg #[.int .i64 c, .int .i64 d], .int .i64 k] w fun e w' => e = .returned (.bool (decide ((u - c) * (u - c) + (v - d) * (v - d) ≤ k * k))) ∧ Below w.heap.size w w' := by
  have S0 := Lib.hid (fun w => Size_t (n := u - a) (m := 3000) (by decide) (by decide) h1 w)
  have S1 := Lib.hid (fun w => Size_t (n := v - b) (m := 3000) (by decide) (by decide) h2 w)
  have kk := kw.sq
  obtain ⟨w1, w2, w3, w4, k0, k1⟩ := kw
  obtain ⟨p1, p2, p3, p4⟩ := hp
  obtain ⟨q1, q2, q3, q4⟩ := hq
  obtain ⟨c1, c2, c3, c4⟩ := hc
  have m0 := mul_le (a := c - a) (b := u - a) (A := 4096) (B := 4096) (by omega) (by omega) (by omega) (by omega)
  have m1 := mul_le (a := d - b) (b := v - b) (A := 4096) (B := 4096) (by omega) (by omega) (by omega) (by omega)
  have m2 := mul_le (a := c - a) (b := c - a) (A := 4096) (B := 4096) (by omega) (by omega) (by omega) (by omega)
  have m3 := mul_le (a := d - b) (b := d - b) (A := 4096) (B := 4096) (by omega) (by omega) (by omega) (by omega)
  have m4 := mul_le (a := c - a) (b := v - b) (A := 4096) (B := 4096) (by omega) (by omega) (by omega) (by omega)
  have m5 := mul_le (a := d - b) (b := u - a) (A := 4096) (B := 4096) (by omega) (by omega) (by omega) (by omega)
  have m6 := mul_le (a := u - a) (b := u - a) (A := 4096) (B := 4096) (by omega) (by omega) (by omega) (by omega)
  have m7 := mul_le (a := v - b) (b := v - b) (A := 4096) (B := 4096) (by omega) (by omega) (by omega) (by omega)
  have m8 := mul_le (a := u - c) (b := u - c) (A := 4096) (B := 4096) (by omega) (by omega) (by omega) (by omega)
  have m9 := mul_le (a := v - d) (b := v - d) (A := 4096) (B := 4096) (by omega) (by omega) (by omega) (by omega)
  have ekk : IntKind.i64.wrap (k * k) = k * k := by rw [IntKind.wrap_i64]; omega
  obtain ⟨HB, B_c, B_p, B_q⟩ := box3 w 23 #[.int .i64 u, .int .i64 v] 23 #[.int .i64 a, .int .i64 b] 23 #[.int .i64 c, .int .i64 d]
  go_enter Try.func50, Try.ntmps50
  go_wp2_with fail
  generalize ((w.alloc (.cells #[.int .i64 u, .int .i64 v] 23)).alloc (.cells #[.int .i64 a, .int .i64 b] 23)).alloc (.cells #[.int .i64 c, .int .i64 d] 23) = W0 at *
  go_upto_region 1 with (fail)
  obtain ⟨c0c, c1c⟩ := cells2 B_c
  obtain ⟨c0p, c1p⟩ := cells2 B_p
  obtain ⟨c0q, c1q⟩ := cells2 B_q
  go_quiet (fail)
  clear c0c c1c c0p c1p c0q c1q
  have bb : Below W0.heap.size W0 (W0.drewN nq) := bel_drewN (Below.refl _ _) _
  generalize W0.drewN nq = w1q at *
  replace B_c := mv B_c bb
  replace B_p := mv B_p bb
  replace B_q := mv B_q bb
  replace HB := nx HB bb
  clear bb
  go_upto_region 2 with (fail)
  obtain ⟨c0c, c1c⟩ := cells2 B_c
  obtain ⟨c0p, c1p⟩ := cells2 B_p
  obtain ⟨c0q, c1q⟩ := cells2 B_q
  go_quiet (fail)
  clear c0c c1c c0p c1p c0q c1q
  have bb : Below w1q.heap.size w1q (w1q.drewN nq) := bel_drewN (Below.refl _ _) _
  generalize w1q.drewN nq = w2q at *
  replace B_c := mv B_c bb
  replace B_p := mv B_p bb
  replace B_q := mv B_q bb
  replace HB := nx HB bb
  clear bb
  go_wp2_with fail
  refine (S0.out _).mono ?_
  rintro e w3 ⟨rfl, rfl⟩
  go_wp2_with fail
  refine (S1.out _).mono ?_
  rintro e w4 ⟨rfl, rfl⟩
  obtain ⟨c0c, c1c⟩ := cells2 B_c
  obtain ⟨c0p, c1p⟩ := cells2 B_p
  obtain ⟨c0q, c1q⟩ := cells2 B_q
  go_wp2
  go_ret
  exact ⟨(by first | rfl | exact rbt (by omega) | exact rbf (by omega)), nextw HB.out (by exact sm)⟩

set_option maxRecDepth 100000 in
set_option maxHeartbeats 4000000 in
theorem near_s (u v a b c d k : Int) (hp : OkP a b) (hq : OkP c d) (hc : OkP u v) (kw : Hd.Way a b c d k) (h1 : (-3000 ≤ u - a ∧ u - a ≤ 3000)) (h2 : (-3000 ≤ v - b ∧ v - b ≤ 3000)) (g1 : 0 < (c - a) * (u - a) + (d - b) * (v - b)) (g2 : (c - a) * (u - a) + (d - b) * (v - b) < (c - a) * (c - a) + (d - b) * (d - b)) (w : World) :
    Calls Try.prog 50 #[.agg #[.int .i64 u, .int .i64 v], .agg #[.int .i64 a, .int .i64 b], .agg #[.int .i64 c, .int .i64 d], .int .i64 k] w fun e w' => e = .returned (.bool (decide (pr a b c d u v * pr a b c d u v ≤ k * k * ((c - a) * (c - a) + (d - b) * (d - b))))) ∧ Below w.heap.size w w' := by
  have S0 := Lib.hid (fun w => Size_t (n := u - a) (m := 3000) (by decide) (by decide) h1 w)
  have S1 := Lib.hid (fun w => Size_t (n := v - b) (m := 3000) (by decide) (by decide) h2 w)
  have kk := kw.sq
  obtain ⟨w1, w2, w3, w4, k0, k1⟩ := kw
  obtain ⟨p1, p2, p3, p4⟩ := hp
  obtain ⟨q1, q2, q3, q4⟩ := hq
  obtain ⟨c1, c2, c3, c4⟩ := hc
  have m0 := mul_le (a := c - a) (b := u - a) (A := 4096) (B := 4096) (by omega) (by omega) (by omega) (by omega)
  have m1 := mul_le (a := d - b) (b := v - b) (A := 4096) (B := 4096) (by omega) (by omega) (by omega) (by omega)
  have m2 := mul_le (a := c - a) (b := c - a) (A := 4096) (B := 4096) (by omega) (by omega) (by omega) (by omega)
  have m3 := mul_le (a := d - b) (b := d - b) (A := 4096) (B := 4096) (by omega) (by omega) (by omega) (by omega)
  have m4 := mul_le (a := c - a) (b := v - b) (A := 4096) (B := 4096) (by omega) (by omega) (by omega) (by omega)
  have m5 := mul_le (a := d - b) (b := u - a) (A := 4096) (B := 4096) (by omega) (by omega) (by omega) (by omega)
  have m6 := mul_le (a := u - a) (b := u - a) (A := 4096) (B := 4096) (by omega) (by omega) (by omega) (by omega)
  have m7 := mul_le (a := v - b) (b := v - b) (A := 4096) (B := 4096) (by omega) (by omega) (by omega) (by omega)
  have m8 := mul_le (a := u - c) (b := u - c) (A := 4096) (B := 4096) (by omega) (by omega) (by omega) (by omega)
  have m9 := mul_le (a := v - d) (b := v - d) (A := 4096) (B := 4096) (by omega) (by omega) (by omega) (by omega)
  have ekk : IntKind.i64.wrap (k * k) = k * k := by rw [IntKind.wrap_i64]; omega
  have E : pr a b c d u v = (c - a) * (v - b) - (d - b) * (u - a) := rfl
  have n8 : -33554432 ≤ pr a b c d u v ∧ pr a b c d u v ≤ 33554432 := by rw [E]; omega
  generalize pr a b c d u v = side at *
  have m10 := mul_le (a := side) (b := side) (A := 33554432) (B := 33554432) n8.1 n8.2 n8.1 n8.2
  have m11 := mul_le (a := k * k) (b := (c - a) * (c - a) + (d - b) * (d - b)) (A := 1048576) (B := 33554432) (by omega) (by omega) (by omega) (by omega)
  replace E := Lib.hid E
  obtain ⟨HB, B_c, B_p, B_q⟩ := box3 w 23 #[.int .i64 u, .int .i64 v] 23 #[.int .i64 a, .int .i64 b] 23 #[.int .i64 c, .int .i64 d]
  go_enter Try.func50, Try.ntmps50
  go_wp2_with fail
  generalize ((w.alloc (.cells #[.int .i64 u, .int .i64 v] 23)).alloc (.cells #[.int .i64 a, .int .i64 b] 23)).alloc (.cells #[.int .i64 c, .int .i64 d] 23) = W0 at *
  go_upto_region 1 with (fail)
  obtain ⟨c0c, c1c⟩ := cells2 B_c
  obtain ⟨c0p, c1p⟩ := cells2 B_p
  obtain ⟨c0q, c1q⟩ := cells2 B_q
  go_quiet (fail)
  clear c0c c1c c0p c1p c0q c1q
  have bb : Below W0.heap.size W0 (W0.drewN nq) := bel_drewN (Below.refl _ _) _
  generalize W0.drewN nq = w1q at *
  replace B_c := mv B_c bb
  replace B_p := mv B_p bb
  replace B_q := mv B_q bb
  replace HB := nx HB bb
  clear bb
  go_upto_region 2 with (fail)
  obtain ⟨c0c, c1c⟩ := cells2 B_c
  obtain ⟨c0p, c1p⟩ := cells2 B_p
  obtain ⟨c0q, c1q⟩ := cells2 B_q
  go_quiet (fail)
  clear c0c c1c c0p c1p c0q c1q
  have bb : Below w1q.heap.size w1q (w1q.drewN nq) := bel_drewN (Below.refl _ _) _
  generalize w1q.drewN nq = w2q at *
  replace B_c := mv B_c bb
  replace B_p := mv B_p bb
  replace B_q := mv B_q bb
  replace HB := nx HB bb
  clear bb
  go_wp2_with fail
  refine (S0.out _).mono ?_
  rintro e w3 ⟨rfl, rfl⟩
  go_wp2_with fail
  refine (S1.out _).mono ?_
  rintro e w4 ⟨rfl, rfl⟩
  obtain ⟨c0c, c1c⟩ := cells2 B_c
  obtain ⟨c0p, c1p⟩ := cells2 B_p
  obtain ⟨c0q, c1q⟩ := cells2 B_q
  go_upto_region 12 with (fail)
  rw [← E.out]
  go_wp2
  go_ret
  exact ⟨(by first | rfl | exact rbt (by omega) | exact rbf (by omega)), nextw HB.out (by exact sm)⟩
end Go.Proofs.Ytaflgmiagjldhaa
