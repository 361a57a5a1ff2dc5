/- The reference's Meets, Before; awake. -/
import Derived.Test.YtkhcogfajihecaaS9
set_option linter.unusedVariables false
set_option linter.unusedSimpArgs false
namespace Go.Proofs.Ytkhcogfajihecaa
open Go Go.RowKit Hd

theorem en_bd {a b x y d x0 y0 x1 y1 : Int} (h : visB a b x y d x0 y0 x1 y1 = true) : (0 ≤ (enN a b x y d x0 y0 x1 y1) ∧ (enN a b x y d x0 y0 x1 y1) ≤ 281474976710656 ∧ 1 ≤ (enD a b x y d x0 y0 x1 y1) ∧ (enD a b x y d x0 y0 x1 y1) ≤ 67108864) ∧ (0 ≤ (leN a b x y d x0 y0 x1 y1) ∧ (leN a b x y d x0 y0 x1 y1) ≤ 281474976710656 ∧ 1 ≤ (leD a b x y d x0 y0 x1 y1) ∧ (leD a b x y d x0 y0 x1 y1) ≤ 67108864) := by
  obtain ⟨hk, hw, hu, -⟩ := visB_wf h
  have bt := visS_bd a b x y d x0 y0 x1 y1
  have o0 := wf_o hw hu
  have e1 := hk.2.1.lo
  have e2 := hk.2.1.hi
  unfold enN enD leN leD
  rw [if_pos h, if_pos h, if_pos h, if_pos h]
  obtain ⟨b1, b2, b3, b4, b5, b6, b7, b8⟩ := bt
  have j1 := hw.j1
  have i0 := hw.i0
  generalize visS a b x y d x0 y0 x1 y1 = S1 at *
  have p1 := dist_bd (i := S1.i) (d := d) i0 b2 e1 e2
  have p2 := dist_bd (i := S1.o) (d := d) o0 b6 e1 e2
  have q1 := lw_pos p1.1 j1
  have q2 := lw_pos p2.1 hu
  exact ⟨⟨q1.1, by omega, q1.2.2.1, by omega⟩, ⟨q2.1, by omega, q2.2.2.1, by omega⟩⟩
theorem en_ends {a b x y d x0 y0 x1 y1 : Int} (h : visB a b x y d x0 y0 x1 y1 = true) (k : Int) : ((enN a b x y d x0 y0 x1 y1) ≤ k * (enD a b x y d x0 y0 x1 y1) ↔ (visS a b x y d x0 y0 x1 y1).i * d ≤ k * (visS a b x y d x0 y0 x1 y1).j) ∧ (k * (enD a b x y d x0 y0 x1 y1) ≤ (enN a b x y d x0 y0 x1 y1) ↔ k * (visS a b x y d x0 y0 x1 y1).j ≤ (visS a b x y d x0 y0 x1 y1).i * d) ∧ (k * (leD a b x y d x0 y0 x1 y1) ≤ (leN a b x y d x0 y0 x1 y1) ↔ k * (visS a b x y d x0 y0 x1 y1).u ≤ (visS a b x y d x0 y0 x1 y1).o * d) := by
  obtain ⟨hk, hw, hu, -⟩ := visB_wf h
  unfold enN enD leN leD
  rw [if_pos h, if_pos h, if_pos h, if_pos h]
  exact ⟨lw_le hw.j1, lw_ge hw.j1, lw_ge hu⟩
theorem meB_alt (a b x y d lo hi x0 y0 x1 y1 : Int) : meB a b x y d lo hi x0 y0 x1 y1 = (decide (0 ≤ lo ∧ lo ≤ hi ∧ hi ≤ 65536) && (visB a b x y d x0 y0 x1 y1 && (decide ((enN a b x y d x0 y0 x1 y1) ≤ hi * (enD a b x y d x0 y0 x1 y1)) && decide (lo * (leD a b x y d x0 y0 x1 y1) ≤ (leN a b x y d x0 y0 x1 y1))))) := by
  unfold meB
  rcases h : visB a b x y d x0 y0 x1 y1 with _ | _
  · rfl
  · have e1 : (!decide (hi * (visS a b x y d x0 y0 x1 y1).j < (visS a b x y d x0 y0 x1 y1).i * d)) = decide ((enN a b x y d x0 y0 x1 y1) ≤ hi * (enD a b x y d x0 y0 x1 y1)) := by
      rw [← decide_not, decide_eq_decide, (en_ends h hi).1]; omega
    have e2 : (!decide ((visS a b x y d x0 y0 x1 y1).o * d < lo * (visS a b x y d x0 y0 x1 y1).u)) = decide (lo * (leD a b x y d x0 y0 x1 y1) ≤ (leN a b x y d x0 y0 x1 y1)) := by
      rw [← decide_not, decide_eq_decide, (en_ends h lo).2.2]; omega
    rw [e1, e2]
theorem beB_alt (a b x y d hi x0 y0 x1 y1 : Int) : beB a b x y d hi x0 y0 x1 y1 = (decide (0 ≤ hi ∧ hi ≤ 65536) && (visB a b x y d x0 y0 x1 y1 && decide ((enN a b x y d x0 y0 x1 y1) < hi * (enD a b x y d x0 y0 x1 y1)))) := by
  unfold beB
  rcases h : visB a b x y d x0 y0 x1 y1 with _ | _
  · rfl
  · have e1 : decide ((visS a b x y d x0 y0 x1 y1).i * d < hi * (visS a b x y d x0 y0 x1 y1).j) = decide ((enN a b x y d x0 y0 x1 y1) < hi * (enD a b x y d x0 y0 x1 y1)) := by
      rw [decide_eq_decide]; have := (en_ends h hi).2.1; omega
    rw [e1]

set_option maxRecDepth 100000 in
set_option maxHeartbeats 1000000 in
theorem RMeets_r1 (a b x y d lo hi x0 y0 x1 y1 : Int) (l0 : lo < 0) (w : World) :
    Calls Try.prog 82 #[.agg #[.int .i64 a, .int .i64 b], .agg #[.int .i64 x, .int .i64 y, .int .i64 d], .int .i64 lo, .int .i64 hi, .agg #[.int .i64 x0, .int .i64 y0, .int .i64 x1, .int .i64 y1]] w fun e w' => e = .returned (.bool false) ∧ Below w.heap.size w w' := by
  obtain ⟨HB, B_p, B_v, B_r⟩ := box3 w 43 #[.int .i64 a, .int .i64 b] 59 #[.int .i64 x, .int .i64 y, .int .i64 d] 45 #[.int .i64 x0, .int .i64 y0, .int .i64 x1, .int .i64 y1]
  go_enter Try.func82, Try.ntmps82
  go_wp2_with fail
  generalize ((w.alloc (.cells #[.int .i64 a, .int .i64 b] 43)).alloc (.cells #[.int .i64 x, .int .i64 y, .int .i64 d] 59)).alloc (.cells #[.int .i64 x0, .int .i64 y0, .int .i64 x1, .int .i64 y1] 45) = W0 at *
  go_wp2
  go_ret
  exact ⟨rfl, nextw HB.out (by exact sm)⟩

set_option maxRecDepth 100000 in
set_option maxHeartbeats 1000000 in
theorem RMeets_r2 (a b x y d lo hi x0 y0 x1 y1 : Int) (l0 : 0 ≤ lo) (l1 : hi < lo) (w : World) :
    Calls Try.prog 82 #[.agg #[.int .i64 a, .int .i64 b], .agg #[.int .i64 x, .int .i64 y, .int .i64 d], .int .i64 lo, .int .i64 hi, .agg #[.int .i64 x0, .int .i64 y0, .int .i64 x1, .int .i64 y1]] w fun e w' => e = .returned (.bool false) ∧ Below w.heap.size w w' := by
  obtain ⟨HB, B_p, B_v, B_r⟩ := box3 w 43 #[.int .i64 a, .int .i64 b] 59 #[.int .i64 x, .int .i64 y, .int .i64 d] 45 #[.int .i64 x0, .int .i64 y0, .int .i64 x1, .int .i64 y1]
  go_enter Try.func82, Try.ntmps82
  go_wp2_with fail
  generalize ((w.alloc (.cells #[.int .i64 a, .int .i64 b] 43)).alloc (.cells #[.int .i64 x, .int .i64 y, .int .i64 d] 59)).alloc (.cells #[.int .i64 x0, .int .i64 y0, .int .i64 x1, .int .i64 y1] 45) = W0 at *
  go_wp2
  go_ret
  exact ⟨rfl, nextw HB.out (by exact sm)⟩

set_option maxRecDepth 100000 in
set_option maxHeartbeats 1000000 in
theorem RMeets_r3 (a b x y d lo hi x0 y0 x1 y1 : Int) (l0 : 0 ≤ lo) (l1 : lo ≤ hi) (l2 : 65536 < hi) (w : World) :
    Calls Try.prog 82 #[.agg #[.int .i64 a, .int .i64 b], .agg #[.int .i64 x, .int .i64 y, .int .i64 d], .int .i64 lo, .int .i64 hi, .agg #[.int .i64 x0, .int .i64 y0, .int .i64 x1, .int .i64 y1]] w fun e w' => e = .returned (.bool false) ∧ Below w.heap.size w w' := by
  obtain ⟨HB, B_p, B_v, B_r⟩ := box3 w 43 #[.int .i64 a, .int .i64 b] 59 #[.int .i64 x, .int .i64 y, .int .i64 d] 45 #[.int .i64 x0, .int .i64 y0, .int .i64 x1, .int .i64 y1]
  go_enter Try.func82, Try.ntmps82
  go_wp2_with fail
  generalize ((w.alloc (.cells #[.int .i64 a, .int .i64 b] 43)).alloc (.cells #[.int .i64 x, .int .i64 y, .int .i64 d] 59)).alloc (.cells #[.int .i64 x0, .int .i64 y0, .int .i64 x1, .int .i64 y1] 45) = W0 at *
  go_wp2
  go_ret
  exact ⟨rfl, nextw HB.out (by exact sm)⟩

set_option maxRecDepth 100000 in
set_option maxHeartbeats 4000000 in
theorem RMeets_n (a b x y d lo hi x0 y0 x1 y1 : Int) (l0 : 0 ≤ lo) (l1 : lo ≤ hi) (l2 : hi ≤ 65536) (h : visB a b x y d x0 y0 x1 y1 = false) (w : World) :
    Calls Try.prog 82 #[.agg #[.int .i64 a, .int .i64 b], .agg #[.int .i64 x, .int .i64 y, .int .i64 d], .int .i64 lo, .int .i64 hi, .agg #[.int .i64 x0, .int .i64 y0, .int .i64 x1, .int .i64 y1]] w fun e w' => e = .returned (.bool false) ∧ Below w.heap.size w w' := by
  have HE := Lib.hid (fun w => REnter_any a b x y d x0 y0 x1 y1 w)
  have HL := Lib.hid (fun w => RLeave_any a b x y d x0 y0 x1 y1 w)
  rw [h] at HE HL
  generalize enN a b x y d x0 y0 x1 y1 = N1 at *
  generalize enD a b x y d x0 y0 x1 y1 = D1 at *
  generalize leN a b x y d x0 y0 x1 y1 = N2 at *
  generalize leD a b x y d x0 y0 x1 y1 = D2 at *
  clear h
  obtain ⟨HB, B_p, B_v, B_r⟩ := box3 w 43 #[.int .i64 a, .int .i64 b] 59 #[.int .i64 x, .int .i64 y, .int .i64 d] 45 #[.int .i64 x0, .int .i64 y0, .int .i64 x1, .int .i64 y1]
  go_enter Try.func82, Try.ntmps82
  go_wp2_with fail
  generalize ((w.alloc (.cells #[.int .i64 a, .int .i64 b] 43)).alloc (.cells #[.int .i64 x, .int .i64 y, .int .i64 d] 59)).alloc (.cells #[.int .i64 x0, .int .i64 y0, .int .i64 x1, .int .i64 y1] 45) = W0 at *
  obtain ⟨c0p, c1p⟩ := cells2 B_p
  obtain ⟨c0v, c1v, c2v⟩ := cells3 B_v
  obtain ⟨c0r, c1r, c2r, c3r⟩ := cells4 B_r
  refine (HE.out _).mono ?_
  clear c0p c1p c0v c1v c2v c0r c1r c2r c3r
  rintro e w1 ⟨rfl, bb⟩
  replace bb := nextw (w0 := W0) (by exact sm) bb
  replace B_p := mv B_p bb
  replace B_v := mv B_v bb
  replace B_r := mv B_r bb
  replace HB := nx HB bb
  clear bb
  have lt_ep := B_p.out.lt
  have lt_ev := B_v.out.lt
  have lt_er := B_r.out.lt
  obtain ⟨bb, B_e⟩ := box1 w1 99 #[.int .i64 N1, .int .i64 D1]
  replace bb := bb.out
  replace B_p := mv B_p bb
  replace B_v := mv B_v bb
  replace B_r := mv B_r bb
  replace HB := nx HB bb
  clear bb
  go_upto_region 4 with (fail)
  generalize w1.alloc (.cells #[.int .i64 N1, .int .i64 D1] 99) = WE at *
  obtain ⟨c0p, c1p⟩ := cells2 B_p
  obtain ⟨c0v, c1v, c2v⟩ := cells3 B_v
  obtain ⟨c0r, c1r, c2r, c3r⟩ := cells4 B_r
  go_wp2_with fail
  refine (HL.out _).mono ?_
  clear c0p c1p c0v c1v c2v c0r c1r c2r c3r
  rintro e w2 ⟨rfl, bb⟩
  replace bb := nextw (w0 := WE) (by exact sm) bb
  replace B_p := mv B_p bb
  replace B_v := mv B_v bb
  replace B_r := mv B_r bb
  replace B_e := mv B_e bb
  replace HB := nx HB bb
  clear bb
  clear B_p
  clear B_v
  clear B_r
  have lt_le := B_e.out.lt
  obtain ⟨bb, B_l⟩ := box1 w2 99 #[.int .i64 N2, .int .i64 D2]
  replace bb := bb.out
  replace B_e := mv B_e bb
  replace HB := nx HB bb
  clear bb
  go_upto_region 5 with (fail)
  generalize w2.alloc (.cells #[.int .i64 N2, .int .i64 D2] 99) = WL at *
  obtain ⟨c0e, c1e⟩ := cells2 B_e
  obtain ⟨c0l, c1l⟩ := cells2 B_l
  go_wp2
  go_ret
  exact ⟨rfl, nextw HB.out (by exact sm)⟩

set_option maxRecDepth 100000 in
set_option maxHeartbeats 4000000 in
theorem RMeets_t (a b x y d lo hi x0 y0 x1 y1 : Int) (l0 : 0 ≤ lo) (l1 : lo ≤ hi) (l2 : hi ≤ 65536) (h : visB a b x y d x0 y0 x1 y1 = true) (g : hi * (enD a b x y d x0 y0 x1 y1) < (enN a b x y d x0 y0 x1 y1)) (w : World) :
    Calls Try.prog 82 #[.agg #[.int .i64 a, .int .i64 b], .agg #[.int .i64 x, .int .i64 y, .int .i64 d], .int .i64 lo, .int .i64 hi, .agg #[.int .i64 x0, .int .i64 y0, .int .i64 x1, .int .i64 y1]] w fun e w' => e = .returned (.bool false) ∧ Below w.heap.size w w' := by
  have HE := Lib.hid (fun w => REnter_any a b x y d x0 y0 x1 y1 w)
  have HL := Lib.hid (fun w => RLeave_any a b x y d x0 y0 x1 y1 w)
  rw [h] at HE HL
  obtain ⟨⟨n1, n2, d1, d2⟩, ⟨n3, n4, d3, d4⟩⟩ := en_bd h
  generalize enN a b x y d x0 y0 x1 y1 = N1 at *
  generalize enD a b x y d x0 y0 x1 y1 = D1 at *
  generalize leN a b x y d x0 y0 x1 y1 = N2 at *
  generalize leD a b x y d x0 y0 x1 y1 = D2 at *
  clear h
  have m0 := bnd (a := hi) (b := D1) (by omega) (by omega) (by omega) (by omega)
  have m1 := bnd (a := lo) (b := D2) (by omega) (by omega) (by omega) (by omega)
  obtain ⟨HB, B_p, B_v, B_r⟩ := box3 w 43 #[.int .i64 a, .int .i64 b] 59 #[.int .i64 x, .int .i64 y, .int .i64 d] 45 #[.int .i64 x0, .int .i64 y0, .int .i64 x1, .int .i64 y1]
  go_enter Try.func82, Try.ntmps82
  go_wp2_with fail
  generalize ((w.alloc (.cells #[.int .i64 a, .int .i64 b] 43)).alloc (.cells #[.int .i64 x, .int .i64 y, .int .i64 d] 59)).alloc (.cells #[.int .i64 x0, .int .i64 y0, .int .i64 x1, .int .i64 y1] 45) = W0 at *
  obtain ⟨c0p, c1p⟩ := cells2 B_p
  obtain ⟨c0v, c1v, c2v⟩ := cells3 B_v
  obtain ⟨c0r, c1r, c2r, c3r⟩ := cells4 B_r
  refine (HE.out _).mono ?_
  clear c0p c1p c0v c1v c2v c0r c1r c2r c3r
  rintro e w1 ⟨rfl, bb⟩
  replace bb := nextw (w0 := W0) (by exact sm) bb
  replace B_p := mv B_p bb
  replace B_v := mv B_v bb
  replace B_r := mv B_r bb
  replace HB := nx HB bb
  clear bb
  have lt_ep := B_p.out.lt
  have lt_ev := B_v.out.lt
  have lt_er := B_r.out.lt
  obtain ⟨bb, B_e⟩ := box1 w1 99 #[.int .i64 N1, .int .i64 D1]
  replace bb := bb.out
  replace B_p := mv B_p bb
  replace B_v := mv B_v bb
  replace B_r := mv B_r bb
  replace HB := nx HB bb
  clear bb
  go_upto_region 4 with (fail)
  generalize w1.alloc (.cells #[.int .i64 N1, .int .i64 D1] 99) = WE at *
  obtain ⟨c0p, c1p⟩ := cells2 B_p
  obtain ⟨c0v, c1v, c2v⟩ := cells3 B_v
  obtain ⟨c0r, c1r, c2r, c3r⟩ := cells4 B_r
  go_wp2_with fail
  refine (HL.out _).mono ?_
  clear c0p c1p c0v c1v c2v c0r c1r c2r c3r
  rintro e w2 ⟨rfl, bb⟩
  replace bb := nextw (w0 := WE) (by exact sm) bb
  replace B_p := mv B_p bb
  replace B_v := mv B_v bb
  replace B_r := mv B_r bb
  replace B_e := mv B_e bb
  replace HB := nx HB bb
  clear bb
  clear B_p
  clear B_v
  clear B_r
  have lt_le := B_e.out.lt
  obtain ⟨bb, B_l⟩ := box1 w2 99 #[.int .i64 N2, .int .i64 D2]
  replace bb := bb.out
  replace B_e := mv B_e bb
  replace HB := nx HB bb
  clear bb
  go_upto_region 5 with (fail)
  generalize w2.alloc (.cells #[.int .i64 N2, .int .i64 D2] 99) = WL at *
  obtain ⟨c0e, c1e⟩ := cells2 B_e
  obtain ⟨c0l, c1l⟩ := cells2 B_l
  go_wp2
  go_ret
  exact ⟨rfl, nextw HB.out (by exact sm)⟩

set_option maxRecDepth 100000 in
set_option maxHeartbeats 4000000 in
theorem RMeets_f (a b x y d lo hi x0 y0 x1 y1 : Int) (l0 : 0 ≤ lo) (l1 : lo ≤ hi) (l2 : hi ≤ 65536) (h : visB a b x y d x0 y0 x1 y1 = true) (g : (enN a b x y d x0 y0 x1 y1) ≤ hi * (enD a b x y d x0 y0 x1 y1)) (w : World) :
    Calls Try.prog 82 #[.agg #[.int .i64 a, .int .i64 b], .agg #[.int .i64 x, .int .i64 y, .int .i64 d], .int .i64 lo, .int .i64 hi, .agg #[.int .i64 x0, .int .i64 y0, .int .i64 x1, .int .i64 y1]] w fun e w' => e = .returned (.bool (decide (lo * (leD a b x y d x0 y0 x1 y1) ≤ (leN a b x y d x0 y0 x1 y1)))) ∧ Below w.heap.size w w' := by
  have HE := Lib.hid (fun w => REnter_any a b x y d x0 y0 x1 y1 w)
  have HL := Lib.hid (fun w => RLeave_any a b x y d x0 y0 x1 y1 w)
  rw [h] at HE HL
  obtain ⟨⟨n1, n2, d1, d2⟩, ⟨n3, n4, d3, d4⟩⟩ := en_bd h
  generalize enN a b x y d x0 y0 x1 y1 = N1 at *
  generalize enD a b x y d x0 y0 x1 y1 = D1 at *
  generalize leN a b x y d x0 y0 x1 y1 = N2 at *
  generalize leD a b x y d x0 y0 x1 y1 = D2 at *
  clear h
  have m0 := bnd (a := hi) (b := D1) (by omega) (by omega) (by omega) (by omega)
  have m1 := bnd (a := lo) (b := D2) (by omega) (by omega) (by omega) (by omega)
  obtain ⟨HB, B_p, B_v, B_r⟩ := box3 w 43 #[.int .i64 a, .int .i64 b] 59 #[.int .i64 x, .int .i64 y, .int .i64 d] 45 #[.int .i64 x0, .int .i64 y0, .int .i64 x1, .int .i64 y1]
  go_enter Try.func82, Try.ntmps82
  go_wp2_with fail
  generalize ((w.alloc (.cells #[.int .i64 a, .int .i64 b] 43)).alloc (.cells #[.int .i64 x, .int .i64 y, .int .i64 d] 59)).alloc (.cells #[.int .i64 x0, .int .i64 y0, .int .i64 x1, .int .i64 y1] 45) = W0 at *
  obtain ⟨c0p, c1p⟩ := cells2 B_p
  obtain ⟨c0v, c1v, c2v⟩ := cells3 B_v
  obtain ⟨c0r, c1r, c2r, c3r⟩ := cells4 B_r
  refine (HE.out _).mono ?_
  clear c0p c1p c0v c1v c2v c0r c1r c2r c3r
  rintro e w1 ⟨rfl, bb⟩
  replace bb := nextw (w0 := W0) (by exact sm) bb
  replace B_p := mv B_p bb
  replace B_v := mv B_v bb
  replace B_r := mv B_r bb
  replace HB := nx HB bb
  clear bb
  have lt_ep := B_p.out.lt
  have lt_ev := B_v.out.lt
  have lt_er := B_r.out.lt
  obtain ⟨bb, B_e⟩ := box1 w1 99 #[.int .i64 N1, .int .i64 D1]
  replace bb := bb.out
  replace B_p := mv B_p bb
  replace B_v := mv B_v bb
  replace B_r := mv B_r bb
  replace HB := nx HB bb
  clear bb
  go_upto_region 4 with (fail)
  generalize w1.alloc (.cells #[.int .i64 N1, .int .i64 D1] 99) = WE at *
  obtain ⟨c0p, c1p⟩ := cells2 B_p
  obtain ⟨c0v, c1v, c2v⟩ := cells3 B_v
  obtain ⟨c0r, c1r, c2r, c3r⟩ := cells4 B_r
  go_wp2_with fail
  refine (HL.out _).mono ?_
  clear c0p c1p c0v c1v c2v c0r c1r c2r c3r
  rintro e w2 ⟨rfl, bb⟩
  replace bb := nextw (w0 := WE) (by exact sm) bb
  replace B_p := mv B_p bb
  replace B_v := mv B_v bb
  replace B_r := mv B_r bb
  replace B_e := mv B_e bb
  replace HB := nx HB bb
  clear bb
  clear B_p
  clear B_v
  clear B_r
  have lt_le := B_e.out.lt
  obtain ⟨bb, B_l⟩ := box1 w2 99 #[.int .i64 N2, .int .i64 D2]
  replace bb := bb.out
  replace B_e := mv B_e bb
  replace HB := nx HB bb
  clear bb
  go_upto_region 5 with (fail)
  generalize w2.alloc (.cells #[.int .i64 N2, .int .i64 D2] 99) = WL at *
  obtain ⟨c0e, c1e⟩ := cells2 B_e
  obtain ⟨c0l, c1l⟩ := cells2 B_l
  go_wp2
  go_ret
  exact ⟨rfl, nextw HB.out (by exact sm)⟩

theorem RMeets_any (a b x y d lo hi x0 y0 x1 y1 : Int) (w : World) : Calls Try.prog 82 #[.agg #[.int .i64 a, .int .i64 b], .agg #[.int .i64 x, .int .i64 y, .int .i64 d], .int .i64 lo, .int .i64 hi, .agg #[.int .i64 x0, .int .i64 y0, .int .i64 x1, .int .i64 y1]] w fun e w' => e = .returned (.bool (meB a b x y d lo hi x0 y0 x1 y1)) ∧ Below w.heap.size w w' := by
  rw [meB_alt]
  by_cases l0 : 0 ≤ lo
  · by_cases l1 : lo ≤ hi
    · by_cases l2 : hi ≤ 65536
      · rw [decide_eq_true (show 0 ≤ lo ∧ lo ≤ hi ∧ hi ≤ 65536 from ⟨l0, l1, l2⟩), Bool.true_and]
        rcases h : visB a b x y d x0 y0 x1 y1 with _ | _
        · exact RMeets_n a b x y d lo hi x0 y0 x1 y1 l0 l1 l2 h w
        · rw [Bool.true_and]
          by_cases g : (enN a b x y d x0 y0 x1 y1) ≤ hi * (enD a b x y d x0 y0 x1 y1)
          · rw [decide_eq_true g, Bool.true_and]; exact RMeets_f a b x y d lo hi x0 y0 x1 y1 l0 l1 l2 h g w
          · rw [decide_eq_false g]; exact RMeets_t a b x y d lo hi x0 y0 x1 y1 l0 l1 l2 h (by omega) w
      · rw [decide_eq_false (fun h => l2 h.2.2)]; exact RMeets_r3 a b x y d lo hi x0 y0 x1 y1 l0 l1 (by omega) w
    · rw [decide_eq_false (fun h => l1 h.2.1)]; exact RMeets_r2 a b x y d lo hi x0 y0 x1 y1 l0 (by omega) w
  · rw [decide_eq_false (fun h => l0 h.1)]; exact RMeets_r1 a b x y d lo hi x0 y0 x1 y1 (by omega) w

end Go.Proofs.Ytkhcogfajihecaa
