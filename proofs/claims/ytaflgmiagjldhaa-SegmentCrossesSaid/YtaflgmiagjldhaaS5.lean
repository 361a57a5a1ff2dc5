/- segment: cut, passage, visit. -/
import Derived.Test.YtaflgmiagjldhaaS4
import Derived.Test.YtaflgmiagjldhaaSRayM
set_option linter.unusedVariables false
set_option linter.unusedSimpArgs false
namespace Go.Proofs.Ytaflgmiagjldhaa
open Go Go.RowKit Hd

theorem cut_any (i j o u x lo hi : Int) (b : Bd i j o u) (e : Be x lo hi) (w : World) :
    Calls Try.prog 64 #[.agg #[.int .i64 i, .int .i64 j, .int .i64 o, .int .i64 u], .int .i64 x, .int .i64 lo, .int .i64 hi] w fun e w' => e = .returned (.tuple #[.agg #[.int .i64 (cutS ⟨i, j, o, u⟩ x lo hi).i, .int .i64 (cutS ⟨i, j, o, u⟩ x lo hi).j, .int .i64 (cutS ⟨i, j, o, u⟩ x lo hi).o, .int .i64 (cutS ⟨i, j, o, u⟩ x lo hi).u], .bool (cutB ⟨i, j, o, u⟩ x lo hi)]) ∧ Below w.heap.size w w' := by
  by_cases hx : x = 0
  · subst hx
    rw [show cutS ⟨i, j, o, u⟩ 0 lo hi = ⟨i, j, o, u⟩ from if_pos rfl, show cutB ⟨i, j, o, u⟩ 0 lo hi = decide (lo ≤ 0 ∧ 0 ≤ hi) from if_pos rfl]
    by_cases h1 : lo ≤ 0
    · by_cases h2 : 0 ≤ hi
      · rw [decide_eq_true ⟨h1, h2⟩]; exact cut_z3 i j o u lo hi h1 h2 w
      · rw [decide_eq_false (fun h => h2 h.2)]; exact cut_z2 i j o u lo hi h1 (by omega) w
    · rw [decide_eq_false (fun h => h1 h.1)]; exact cut_z1 i j o u lo hi (by omega) w
  · by_cases hn : x < 0
    · by_cases g1 : i * (-x) < (-hi) * j
      · by_cases g2 : (-lo) * u < o * (-x)
        · have eS : cutS ⟨i, j, o, u⟩ x lo hi = ⟨-hi, -x, -lo, -x⟩ := by simp only [cutS, cutP, cutO, cutI, if_neg hx, if_pos hn, if_pos g1, if_pos g2]
          rw [eS, show cutB ⟨i, j, o, u⟩ x lo hi = !decide ((-lo) * (-x) < (-hi) * (-x)) from by unfold cutB; rw [if_neg hx, eS]; rfl]
          exact cut_ntt i j o u x lo hi b e (by omega) g1 g2 w
        · have eS : cutS ⟨i, j, o, u⟩ x lo hi = ⟨-hi, -x, o, u⟩ := by simp only [cutS, cutP, cutO, cutI, if_neg hx, if_pos hn, if_pos g1, if_neg g2]
          rw [eS, show cutB ⟨i, j, o, u⟩ x lo hi = !decide ((o) * (-x) < (-hi) * (u)) from by unfold cutB; rw [if_neg hx, eS]; rfl]
          exact cut_ntf i j o u x lo hi b e (by omega) g1 g2 w
      · by_cases g2 : (-lo) * u < o * (-x)
        · have eS : cutS ⟨i, j, o, u⟩ x lo hi = ⟨i, j, -lo, -x⟩ := by simp only [cutS, cutP, cutO, cutI, if_neg hx, if_pos hn, if_neg g1, if_pos g2]
          rw [eS, show cutB ⟨i, j, o, u⟩ x lo hi = !decide ((-lo) * (j) < (i) * (-x)) from by unfold cutB; rw [if_neg hx, eS]; rfl]
          exact cut_nft i j o u x lo hi b e (by omega) g1 g2 w
        · have eS : cutS ⟨i, j, o, u⟩ x lo hi = ⟨i, j, o, u⟩ := by simp only [cutS, cutP, cutO, cutI, if_neg hx, if_pos hn, if_neg g1, if_neg g2]
          rw [eS, show cutB ⟨i, j, o, u⟩ x lo hi = !decide ((o) * (j) < (i) * (u)) from by unfold cutB; rw [if_neg hx, eS]; rfl]
          exact cut_nff i j o u x lo hi b e (by omega) g1 g2 w
    · by_cases g1 : i * (x) < (lo) * j
      · by_cases g2 : (hi) * u < o * (x)
        · have eS : cutS ⟨i, j, o, u⟩ x lo hi = ⟨lo, x, hi, x⟩ := by simp only [cutS, cutP, cutO, cutI, if_neg hx, if_neg hn, if_pos g1, if_pos g2]
          rw [eS, show cutB ⟨i, j, o, u⟩ x lo hi = !decide ((hi) * (x) < (lo) * (x)) from by unfold cutB; rw [if_neg hx, eS]; rfl]
          exact cut_ptt i j o u x lo hi b e (by omega) g1 g2 w
        · have eS : cutS ⟨i, j, o, u⟩ x lo hi = ⟨lo, x, o, u⟩ := by simp only [cutS, cutP, cutO, cutI, if_neg hx, if_neg hn, if_pos g1, if_neg g2]
          rw [eS, show cutB ⟨i, j, o, u⟩ x lo hi = !decide ((o) * (x) < (lo) * (u)) from by unfold cutB; rw [if_neg hx, eS]; rfl]
          exact cut_ptf i j o u x lo hi b e (by omega) g1 g2 w
      · by_cases g2 : (hi) * u < o * (x)
        · have eS : cutS ⟨i, j, o, u⟩ x lo hi = ⟨i, j, hi, x⟩ := by simp only [cutS, cutP, cutO, cutI, if_neg hx, if_neg hn, if_neg g1, if_pos g2]
          rw [eS, show cutB ⟨i, j, o, u⟩ x lo hi = !decide ((hi) * (j) < (i) * (x)) from by unfold cutB; rw [if_neg hx, eS]; rfl]
          exact cut_pft i j o u x lo hi b e (by omega) g1 g2 w
        · have eS : cutS ⟨i, j, o, u⟩ x lo hi = ⟨i, j, o, u⟩ := by simp only [cutS, cutP, cutO, cutI, if_neg hx, if_neg hn, if_neg g1, if_neg g2]
          rw [eS, show cutB ⟨i, j, o, u⟩ x lo hi = !decide ((o) * (j) < (i) * (u)) from by unfold cutB; rw [if_neg hx, eS]; rfl]
          exact cut_pff i j o u x lo hi b e (by omega) g1 g2 w

set_option maxRecDepth 100000 in
set_option maxHeartbeats 4000000 in
theorem passage_f (a b x y x0 y0 x1 y1 : Int) (hp : OkP a b) (hr : OkR x0 y0 x1 y1) (xa : -67108864 ≤ x) (xb : x ≤ 67108864) (ya : -67108864 ≤ y) (yb : y ≤ 67108864) (h : cutB s0 x (x0 - a) (x1 - a) = false) (w : World) :
    Calls Try.prog 58 #[.agg #[.int .i64 a, .int .i64 b], .int .i64 x, .int .i64 y, .agg #[.int .i64 x0, .int .i64 y0, .int .i64 x1, .int .i64 y1]] w fun e w' => e = .returned (.tuple #[.agg #[.int .i64 (((pasS a b x y x0 y0 x1 y1)).i), .int .i64 (((pasS a b x y x0 y0 x1 y1)).j), .int .i64 (((pasS a b x y x0 y0 x1 y1)).o), .int .i64 (((pasS a b x y x0 y0 x1 y1)).u)], .bool (pasB a b x y x0 y0 x1 y1)]) ∧ Below w.heap.size w w' := by
  obtain ⟨p1, p2, p3, p4⟩ := hp
  obtain ⟨r1, r2, r3, r4, r5, r6, r7, r8, r9, r10⟩ := hr
  have b1 : Be x (x0 - a) (x1 - a) := ⟨by omega, by omega, by omega, by omega, by omega, by omega⟩
  have H1 := Lib.hid (fun w => cut_any 0 1 1 0 x (x0 - a) (x1 - a) s0_bd b1 w)
  have d1 : BdS (cutS s0 x (x0 - a) (x1 - a)) := cutS_bd s0_bd b1
  change Hid (∀ w, Calls Try.prog 64 _ w fun e w' => e = .returned (.tuple #[.agg #[.int .i64 (cutS s0 x (x0 - a) (x1 - a)).i, .int .i64 (cutS s0 x (x0 - a) (x1 - a)).j, .int .i64 (cutS s0 x (x0 - a) (x1 - a)).o, .int .i64 (cutS s0 x (x0 - a) (x1 - a)).u], .bool (cutB s0 x (x0 - a) (x1 - a))]) ∧ Below w.heap.size w w') at H1
  have eS : pasS a b x y x0 y0 x1 y1 = sz := if_neg (by rw [h]; decide)
  have eB : pasB a b x y x0 y0 x1 y1 = false := by unfold pasB; rw [h]; rfl
  rw [eS, eB]
  clear eS eB
  rw [h] at H1
  generalize cutS s0 x (x0 - a) (x1 - a) = S1 at *
  obtain ⟨i1, j1, o1, u1⟩ := S1
  dsimp only at H1
  dsimp only [sz]
  clear d1 b1 h
  obtain ⟨HB, B_p, B_r, B_z⟩ := box3 w 23 #[.int .i64 a, .int .i64 b] 29 #[.int .i64 x0, .int .i64 y0, .int .i64 x1, .int .i64 y1] 61 #[.int .i64 0, .int .i64 0, .int .i64 0, .int .i64 0]
  go_enter Try.func58, Try.ntmps58
  go_upto_region 1 with (fail)
  generalize ((w.alloc (.cells #[.int .i64 a, .int .i64 b] 23)).alloc (.cells #[.int .i64 x0, .int .i64 y0, .int .i64 x1, .int .i64 y1] 29)).alloc (.cells #[.int .i64 0, .int .i64 0, .int .i64 0, .int .i64 0] 61) = W0 at *
  have lt_sp := B_p.out.lt
  have lt_sr := B_r.out.lt
  have lt_sz := B_z.out.lt
  obtain ⟨bb, B_s⟩ := box1 W0 61 #[.int .i64 0, .int .i64 1, .int .i64 1, .int .i64 0]
  replace bb := bb.out
  replace B_p := mv B_p bb
  replace B_r := mv B_r bb
  replace B_z := mv B_z bb
  replace HB := nx HB bb
  clear bb
  go_upto_region 2 with (fail)
  generalize W0.alloc (.cells #[.int .i64 0, .int .i64 1, .int .i64 1, .int .i64 0] 61) = WN at *
  obtain ⟨c0p, c1p⟩ := cells2 B_p
  obtain ⟨c0r, c1r, c2r, c3r⟩ := cells4 B_r
  obtain ⟨c0s, c1s, c2s, c3s⟩ := cells4 B_s
  go_wp2_with fail
  refine (H1.out _).mono ?_
  clear c0p c1p c0r c1r c2r c3r c0s c1s c2s c3s
  rintro e w1 ⟨rfl, bb⟩
  replace bb := nextw (w0 := WN) (by exact sm) bb
  replace B_p := mv B_p bb
  replace B_r := mv B_r bb
  replace B_z := mv B_z bb
  replace B_s := mv B_s bb
  replace HB := nx HB bb
  clear bb
  obtain ⟨c0s, c1s, c2s, c3s⟩ := cells4 B_s
  obtain ⟨f0s, f1s, f2s, f3s⟩ := froz4 B_s
  have ne_p : Hid ((w.heap.size) ≠ (W0.heap.size)) := by unfold Hid; omega
  have ne_r : Hid ((w.heap.size + 1) ≠ (W0.heap.size)) := by unfold Hid; omega
  have ne_z : Hid ((w.heap.size + 1 + 1) ≠ (W0.heap.size)) := by unfold Hid; omega
  have n_s : Hid (Bx ((((w1.setCell ⟨W0.heap.size, 0, none⟩ (.int .i64 i1)).setCell ⟨W0.heap.size, 1, none⟩ (.int .i64 j1)).setCell ⟨W0.heap.size, 2, none⟩ (.int .i64 o1)).setCell ⟨W0.heap.size, 3, none⟩ (.int .i64 u1)) (W0.heap.size) 61 #[.int .i64 i1, .int .i64 j1, .int .i64 o1, .int .i64 u1]) := ((((B_s.out.set 0 (.int .i64 i1)).set 1 (.int .i64 j1)).set 2 (.int .i64 o1)).set 3 (.int .i64 u1))
  have n_p := far4 B_p ne_p.out 0 (.int .i64 i1) 1 (.int .i64 j1) 2 (.int .i64 o1) 3 (.int .i64 u1)
  have n_r := far4 B_r ne_r.out 0 (.int .i64 i1) 1 (.int .i64 j1) 2 (.int .i64 o1) 3 (.int .i64 u1)
  have n_z := far4 B_z ne_z.out 0 (.int .i64 i1) 1 (.int .i64 j1) 2 (.int .i64 o1) 3 (.int .i64 u1)
  have nHB := stb4 HB (y := W0.heap.size) (by omega) 0 (.int .i64 i1) 1 (.int .i64 j1) 2 (.int .i64 o1) 3 (.int .i64 u1)
  go_upto_region 3 with (fail)
  clear c0s c1s c2s c3s f0s f1s f2s f3s
  clear ne_p ne_r ne_z
  generalize (((w1.setCell ⟨W0.heap.size, 0, none⟩ (.int .i64 i1)).setCell ⟨W0.heap.size, 1, none⟩ (.int .i64 j1)).setCell ⟨W0.heap.size, 2, none⟩ (.int .i64 o1)).setCell ⟨W0.heap.size, 3, none⟩ (.int .i64 u1) = WS at *
  clear B_p
  have B_p := n_p
  clear n_p
  clear B_r
  have B_r := n_r
  clear n_r
  clear B_z
  have B_z := n_z
  clear n_z
  clear B_s
  have B_s := n_s
  clear n_s
  clear HB
  have HB := nHB
  clear nHB
  obtain ⟨s0, s1, s2, s3⟩ := cells4 (stor4 B_z (.int .i64 0) (.int .i64 0) (.int .i64 0) (.int .i64 0))
  have HF := stb4 HB (y := w.heap.size + 1 + 1) (by omega) 0 (.int .i64 0) 1 (.int .i64 0) 2 (.int .i64 0) 3 (.int .i64 0)
  obtain ⟨c0z, c1z, c2z, c3z⟩ := cells4 B_z
  obtain ⟨f0z, f1z, f2z, f3z⟩ := froz4 B_z
  go_wp2_with fail
  exact bodyPost_ret (v := .tuple #[.agg #[.int .i64 0, .int .i64 0, .int .i64 0, .int .i64 0], .bool false]) (by simp [results, Try.results58, go_sem, s0, s1, s2, s3]) rfl ⟨rfl, nextw HF.out (by exact sm)⟩

set_option maxRecDepth 100000 in
set_option maxHeartbeats 4000000 in
theorem passage_t (a b x y x0 y0 x1 y1 : Int) (hp : OkP a b) (hr : OkR x0 y0 x1 y1) (xa : -67108864 ≤ x) (xb : x ≤ 67108864) (ya : -67108864 ≤ y) (yb : y ≤ 67108864) (h : cutB s0 x (x0 - a) (x1 - a) = true) (w : World) :
    Calls Try.prog 58 #[.agg #[.int .i64 a, .int .i64 b], .int .i64 x, .int .i64 y, .agg #[.int .i64 x0, .int .i64 y0, .int .i64 x1, .int .i64 y1]] w fun e w' => e = .returned (.tuple #[.agg #[.int .i64 (((pasS a b x y x0 y0 x1 y1)).i), .int .i64 (((pasS a b x y x0 y0 x1 y1)).j), .int .i64 (((pasS a b x y x0 y0 x1 y1)).o), .int .i64 (((pasS a b x y x0 y0 x1 y1)).u)], .bool (pasB a b x y x0 y0 x1 y1)]) ∧ Below w.heap.size w w' := by
  obtain ⟨p1, p2, p3, p4⟩ := hp
  obtain ⟨r1, r2, r3, r4, r5, r6, r7, r8, r9, r10⟩ := hr
  have b1 : Be x (x0 - a) (x1 - a) := ⟨by omega, by omega, by omega, by omega, by omega, by omega⟩
  have H1 := Lib.hid (fun w => cut_any 0 1 1 0 x (x0 - a) (x1 - a) s0_bd b1 w)
  have d1 : BdS (cutS s0 x (x0 - a) (x1 - a)) := cutS_bd s0_bd b1
  change Hid (∀ w, Calls Try.prog 64 _ w fun e w' => e = .returned (.tuple #[.agg #[.int .i64 (cutS s0 x (x0 - a) (x1 - a)).i, .int .i64 (cutS s0 x (x0 - a) (x1 - a)).j, .int .i64 (cutS s0 x (x0 - a) (x1 - a)).o, .int .i64 (cutS s0 x (x0 - a) (x1 - a)).u], .bool (cutB s0 x (x0 - a) (x1 - a))]) ∧ Below w.heap.size w w') at H1
  have eS : pasS a b x y x0 y0 x1 y1 = cutS (cutS s0 x (x0 - a) (x1 - a)) y (y0 - b) (y1 - b) := if_pos h
  have eB : pasB a b x y x0 y0 x1 y1 = cutB (cutS s0 x (x0 - a) (x1 - a)) y (y0 - b) (y1 - b) := by unfold pasB; rw [h]; rfl
  rw [eS, eB]
  clear eS eB
  rw [h] at H1
  generalize cutS s0 x (x0 - a) (x1 - a) = S1 at *
  obtain ⟨i1, j1, o1, u1⟩ := S1
  dsimp only at H1
  have H2 := Lib.hid (fun w => cut_any i1 j1 o1 u1 y (y0 - b) (y1 - b) d1 ⟨by omega, by omega, by omega, by omega, by omega, by omega⟩ w)
  generalize cutB ⟨i1, j1, o1, u1⟩ y (y0 - b) (y1 - b) = B2 at *
  generalize cutS ⟨i1, j1, o1, u1⟩ y (y0 - b) (y1 - b) = S2 at *
  obtain ⟨i2, j2, o2, u2⟩ := S2
  dsimp only at H2 ⊢
  clear d1 b1 h
  obtain ⟨HB, B_p, B_r, B_z⟩ := box3 w 23 #[.int .i64 a, .int .i64 b] 29 #[.int .i64 x0, .int .i64 y0, .int .i64 x1, .int .i64 y1] 61 #[.int .i64 0, .int .i64 0, .int .i64 0, .int .i64 0]
  go_enter Try.func58, Try.ntmps58
  go_upto_region 1 with (fail)
  generalize ((w.alloc (.cells #[.int .i64 a, .int .i64 b] 23)).alloc (.cells #[.int .i64 x0, .int .i64 y0, .int .i64 x1, .int .i64 y1] 29)).alloc (.cells #[.int .i64 0, .int .i64 0, .int .i64 0, .int .i64 0] 61) = W0 at *
  have lt_sp := B_p.out.lt
  have lt_sr := B_r.out.lt
  have lt_sz := B_z.out.lt
  obtain ⟨bb, B_s⟩ := box1 W0 61 #[.int .i64 0, .int .i64 1, .int .i64 1, .int .i64 0]
  replace bb := bb.out
  replace B_p := mv B_p bb
  replace B_r := mv B_r bb
  replace B_z := mv B_z bb
  replace HB := nx HB bb
  clear bb
  go_upto_region 2 with (fail)
  generalize W0.alloc (.cells #[.int .i64 0, .int .i64 1, .int .i64 1, .int .i64 0] 61) = WN at *
  obtain ⟨c0p, c1p⟩ := cells2 B_p
  obtain ⟨c0r, c1r, c2r, c3r⟩ := cells4 B_r
  obtain ⟨c0s, c1s, c2s, c3s⟩ := cells4 B_s
  go_wp2_with fail
  refine (H1.out _).mono ?_
  clear c0p c1p c0r c1r c2r c3r c0s c1s c2s c3s
  rintro e w1 ⟨rfl, bb⟩
  replace bb := nextw (w0 := WN) (by exact sm) bb
  replace B_p := mv B_p bb
  replace B_r := mv B_r bb
  replace B_z := mv B_z bb
  replace B_s := mv B_s bb
  replace HB := nx HB bb
  clear bb
  obtain ⟨c0s, c1s, c2s, c3s⟩ := cells4 B_s
  obtain ⟨f0s, f1s, f2s, f3s⟩ := froz4 B_s
  have ne_p : Hid ((w.heap.size) ≠ (W0.heap.size)) := by unfold Hid; omega
  have ne_r : Hid ((w.heap.size + 1) ≠ (W0.heap.size)) := by unfold Hid; omega
  have ne_z : Hid ((w.heap.size + 1 + 1) ≠ (W0.heap.size)) := by unfold Hid; omega
  have n_s : Hid (Bx ((((w1.setCell ⟨W0.heap.size, 0, none⟩ (.int .i64 i1)).setCell ⟨W0.heap.size, 1, none⟩ (.int .i64 j1)).setCell ⟨W0.heap.size, 2, none⟩ (.int .i64 o1)).setCell ⟨W0.heap.size, 3, none⟩ (.int .i64 u1)) (W0.heap.size) 61 #[.int .i64 i1, .int .i64 j1, .int .i64 o1, .int .i64 u1]) := ((((B_s.out.set 0 (.int .i64 i1)).set 1 (.int .i64 j1)).set 2 (.int .i64 o1)).set 3 (.int .i64 u1))
  have n_p := far4 B_p ne_p.out 0 (.int .i64 i1) 1 (.int .i64 j1) 2 (.int .i64 o1) 3 (.int .i64 u1)
  have n_r := far4 B_r ne_r.out 0 (.int .i64 i1) 1 (.int .i64 j1) 2 (.int .i64 o1) 3 (.int .i64 u1)
  have n_z := far4 B_z ne_z.out 0 (.int .i64 i1) 1 (.int .i64 j1) 2 (.int .i64 o1) 3 (.int .i64 u1)
  have nHB := stb4 HB (y := W0.heap.size) (by omega) 0 (.int .i64 i1) 1 (.int .i64 j1) 2 (.int .i64 o1) 3 (.int .i64 u1)
  go_upto_region 3 with (fail)
  clear c0s c1s c2s c3s f0s f1s f2s f3s
  clear ne_p ne_r ne_z
  generalize (((w1.setCell ⟨W0.heap.size, 0, none⟩ (.int .i64 i1)).setCell ⟨W0.heap.size, 1, none⟩ (.int .i64 j1)).setCell ⟨W0.heap.size, 2, none⟩ (.int .i64 o1)).setCell ⟨W0.heap.size, 3, none⟩ (.int .i64 u1) = WS at *
  clear B_p
  have B_p := n_p
  clear n_p
  clear B_r
  have B_r := n_r
  clear n_r
  clear B_z
  have B_z := n_z
  clear n_z
  clear B_s
  have B_s := n_s
  clear n_s
  clear HB
  have HB := nHB
  clear nHB
  obtain ⟨c0p, c1p⟩ := cells2 B_p
  obtain ⟨c0r, c1r, c2r, c3r⟩ := cells4 B_r
  obtain ⟨c0s, c1s, c2s, c3s⟩ := cells4 B_s
  go_wp2_with fail
  refine (H2.out _).mono ?_
  clear c0p c1p c0r c1r c2r c3r c0s c1s c2s c3s
  rintro e w2 ⟨rfl, bb⟩
  replace bb := nextw (w0 := WS) (by exact sm) bb
  replace B_p := mv B_p bb
  replace B_r := mv B_r bb
  replace B_z := mv B_z bb
  replace B_s := mv B_s bb
  replace HB := nx HB bb
  clear bb
  obtain ⟨s0, s1, s2, s3⟩ := cells4 (stor4 B_z (.int .i64 i2) (.int .i64 j2) (.int .i64 o2) (.int .i64 u2))
  have HF := stb4 HB (y := w.heap.size + 1 + 1) (by omega) 0 (.int .i64 i2) 1 (.int .i64 j2) 2 (.int .i64 o2) 3 (.int .i64 u2)
  obtain ⟨c0z, c1z, c2z, c3z⟩ := cells4 B_z
  obtain ⟨f0z, f1z, f2z, f3z⟩ := froz4 B_z
  go_wp2_with fail
  exact bodyPost_ret (v := .tuple #[.agg #[.int .i64 i2, .int .i64 j2, .int .i64 o2, .int .i64 u2], .bool B2]) (by simp [results, Try.results58, go_sem, s0, s1, s2, s3]) rfl ⟨rfl, nextw HF.out (by exact sm)⟩

theorem passage_any (a b x y x0 y0 x1 y1 : Int) (hp : OkP a b) (hr : OkR x0 y0 x1 y1) (xa : -67108864 ≤ x) (xb : x ≤ 67108864) (ya : -67108864 ≤ y) (yb : y ≤ 67108864) (w : World) :
    Calls Try.prog 58 #[.agg #[.int .i64 a, .int .i64 b], .int .i64 x, .int .i64 y, .agg #[.int .i64 x0, .int .i64 y0, .int .i64 x1, .int .i64 y1]] w fun e w' => e = .returned (.tuple #[.agg #[.int .i64 (((pasS a b x y x0 y0 x1 y1)).i), .int .i64 (((pasS a b x y x0 y0 x1 y1)).j), .int .i64 (((pasS a b x y x0 y0 x1 y1)).o), .int .i64 (((pasS a b x y x0 y0 x1 y1)).u)], .bool (pasB a b x y x0 y0 x1 y1)]) ∧ Below w.heap.size w w' := by
  rcases h : cutB s0 x (x0 - a) (x1 - a) with _ | _
  · exact passage_f a b x y x0 y0 x1 y1 hp hr xa xb ya yb h w
  · exact passage_t a b x y x0 y0 x1 y1 hp hr xa xb ya yb h w

set_option maxRecDepth 100000 in
set_option maxHeartbeats 4000000 in
theorem visit_0 (a b x y d x0 y0 x1 y1 : Int) (hp : ¬ OkP a b) (w : World) :
    Calls Try.prog 34 #[.agg #[.int .i64 a, .int .i64 b], .agg #[.int .i64 x, .int .i64 y, .int .i64 d], .agg #[.int .i64 x0, .int .i64 y0, .int .i64 x1, .int .i64 y1]] w fun e w' => e = .returned (.tuple #[.agg #[.int .i64 (((visS a b x y d x0 y0 x1 y1)).i), .int .i64 (((visS a b x y d x0 y0 x1 y1)).j), .int .i64 (((visS a b x y d x0 y0 x1 y1)).o), .int .i64 (((visS a b x y d x0 y0 x1 y1)).u)], .bool (visB a b x y d x0 y0 x1 y1)]) ∧ Below w.heap.size w w' := by
  have H0 := Lib.hid (fun w => validPoint_f hp w)
  have hn : ¬ Ok3 a b x y d x0 y0 x1 y1 := fun h => hp h.1
  rw [show visS a b x y d x0 y0 x1 y1 = sz from if_neg hn, show visB a b x y d x0 y0 x1 y1 = false from by unfold visB; rw [decide_eq_false hn]; rfl]
  dsimp only [sz]
  clear hn hp
  obtain ⟨HB, B_p, B_v, B_r, B_z⟩ := box4 w 23 #[.int .i64 a, .int .i64 b] 25 #[.int .i64 x, .int .i64 y, .int .i64 d] 29 #[.int .i64 x0, .int .i64 y0, .int .i64 x1, .int .i64 y1] 61 #[.int .i64 0, .int .i64 0, .int .i64 0, .int .i64 0]
  go_enter Try.func34, Try.ntmps34
  go_wp2_with fail
  generalize (((w.alloc (.cells #[.int .i64 a, .int .i64 b] 23)).alloc (.cells #[.int .i64 x, .int .i64 y, .int .i64 d] 25)).alloc (.cells #[.int .i64 x0, .int .i64 y0, .int .i64 x1, .int .i64 y1] 29)).alloc (.cells #[.int .i64 0, .int .i64 0, .int .i64 0, .int .i64 0] 61) = W0 at *
  obtain ⟨c0p, c1p⟩ := cells2 B_p
  refine (H0.out _).mono ?_
  clear c0p c1p
  rintro e w1 ⟨rfl, bb⟩
  replace bb := nextw (w0 := W0) (by exact sm) bb
  replace B_p := mv B_p bb
  replace B_v := mv B_v bb
  replace B_r := mv B_r bb
  replace B_z := mv B_z bb
  replace HB := nx HB bb
  clear bb
  obtain ⟨s0, s1, s2, s3⟩ := cells4 (stor4 B_z (.int .i64 0) (.int .i64 0) (.int .i64 0) (.int .i64 0))
  have HF := stb4 HB (y := w.heap.size + 1 + 1 + 1) (by omega) 0 (.int .i64 0) 1 (.int .i64 0) 2 (.int .i64 0) 3 (.int .i64 0)
  obtain ⟨c0z, c1z, c2z, c3z⟩ := cells4 B_z
  obtain ⟨f0z, f1z, f2z, f3z⟩ := froz4 B_z
  go_wp2_with fail
  exact bodyPost_ret (v := .tuple #[.agg #[.int .i64 0, .int .i64 0, .int .i64 0, .int .i64 0], .bool false]) (by simp [results, Try.results34, go_sem, s0, s1, s2, s3]) rfl ⟨rfl, nextw HF.out (by exact sm)⟩

set_option maxRecDepth 100000 in
set_option maxHeartbeats 4000000 in
theorem visit_1 (a b x y d x0 y0 x1 y1 : Int) (hp : OkP a b) (hv : ¬ OkV x y d) (w : World) :
    Calls Try.prog 34 #[.agg #[.int .i64 a, .int .i64 b], .agg #[.int .i64 x, .int .i64 y, .int .i64 d], .agg #[.int .i64 x0, .int .i64 y0, .int .i64 x1, .int .i64 y1]] w fun e w' => e = .returned (.tuple #[.agg #[.int .i64 (((visS a b x y d x0 y0 x1 y1)).i), .int .i64 (((visS a b x y d x0 y0 x1 y1)).j), .int .i64 (((visS a b x y d x0 y0 x1 y1)).o), .int .i64 (((visS a b x y d x0 y0 x1 y1)).u)], .bool (visB a b x y d x0 y0 x1 y1)]) ∧ Below w.heap.size w w' := by
  have H0 := Lib.hid (fun w => validPoint_t hp w)
  have H1 := Lib.hid (fun w => HV_f hv w)
  have hn : ¬ Ok3 a b x y d x0 y0 x1 y1 := fun h => hv h.2.1
  rw [show visS a b x y d x0 y0 x1 y1 = sz from if_neg hn, show visB a b x y d x0 y0 x1 y1 = false from by unfold visB; rw [decide_eq_false hn]; rfl]
  dsimp only [sz]
  clear hn hp hv
  obtain ⟨HB, B_p, B_v, B_r, B_z⟩ := box4 w 23 #[.int .i64 a, .int .i64 b] 25 #[.int .i64 x, .int .i64 y, .int .i64 d] 29 #[.int .i64 x0, .int .i64 y0, .int .i64 x1, .int .i64 y1] 61 #[.int .i64 0, .int .i64 0, .int .i64 0, .int .i64 0]
  go_enter Try.func34, Try.ntmps34
  go_wp2_with fail
  generalize (((w.alloc (.cells #[.int .i64 a, .int .i64 b] 23)).alloc (.cells #[.int .i64 x, .int .i64 y, .int .i64 d] 25)).alloc (.cells #[.int .i64 x0, .int .i64 y0, .int .i64 x1, .int .i64 y1] 29)).alloc (.cells #[.int .i64 0, .int .i64 0, .int .i64 0, .int .i64 0] 61) = W0 at *
  obtain ⟨c0p, c1p⟩ := cells2 B_p
  refine (H0.out _).mono ?_
  clear c0p c1p
  rintro e w1 ⟨rfl, bb⟩
  replace bb := nextw (w0 := W0) (by exact sm) bb
  replace B_p := mv B_p bb
  replace B_v := mv B_v bb
  replace B_r := mv B_r bb
  replace B_z := mv B_z bb
  replace HB := nx HB bb
  clear bb
  obtain ⟨c0v, c1v, c2v⟩ := cells3 B_v
  go_wp2_with fail
  refine (H1.out _).mono ?_
  clear c0v c1v c2v
  rintro e w2 ⟨rfl, bb⟩
  replace bb := nextw (w0 := w1) (by exact sm) bb
  replace B_p := mv B_p bb
  replace B_v := mv B_v bb
  replace B_r := mv B_r bb
  replace B_z := mv B_z bb
  replace HB := nx HB bb
  clear bb
  obtain ⟨s0, s1, s2, s3⟩ := cells4 (stor4 B_z (.int .i64 0) (.int .i64 0) (.int .i64 0) (.int .i64 0))
  have HF := stb4 HB (y := w.heap.size + 1 + 1 + 1) (by omega) 0 (.int .i64 0) 1 (.int .i64 0) 2 (.int .i64 0) 3 (.int .i64 0)
  obtain ⟨c0z, c1z, c2z, c3z⟩ := cells4 B_z
  obtain ⟨f0z, f1z, f2z, f3z⟩ := froz4 B_z
  go_wp2_with fail
  exact bodyPost_ret (v := .tuple #[.agg #[.int .i64 0, .int .i64 0, .int .i64 0, .int .i64 0], .bool false]) (by simp [results, Try.results34, go_sem, s0, s1, s2, s3]) rfl ⟨rfl, nextw HF.out (by exact sm)⟩

set_option maxRecDepth 100000 in
set_option maxHeartbeats 4000000 in
theorem visit_2 (a b x y d x0 y0 x1 y1 : Int) (hp : OkP a b) (hv : OkV x y d) (hr : ¬ OkR x0 y0 x1 y1) (w : World) :
    Calls Try.prog 34 #[.agg #[.int .i64 a, .int .i64 b], .agg #[.int .i64 x, .int .i64 y, .int .i64 d], .agg #[.int .i64 x0, .int .i64 y0, .int .i64 x1, .int .i64 y1]] w fun e w' => e = .returned (.tuple #[.agg #[.int .i64 (((visS a b x y d x0 y0 x1 y1)).i), .int .i64 (((visS a b x y d x0 y0 x1 y1)).j), .int .i64 (((visS a b x y d x0 y0 x1 y1)).o), .int .i64 (((visS a b x y d x0 y0 x1 y1)).u)], .bool (visB a b x y d x0 y0 x1 y1)]) ∧ Below w.heap.size w w' := by
  have H0 := Lib.hid (fun w => validPoint_t hp w)
  have H1 := Lib.hid (fun w => HV_t hv w)
  have H2 := Lib.hid (fun w => ValidRect_f hr w)
  have hn : ¬ Ok3 a b x y d x0 y0 x1 y1 := fun h => hr h.2.2
  rw [show visS a b x y d x0 y0 x1 y1 = sz from if_neg hn, show visB a b x y d x0 y0 x1 y1 = false from by unfold visB; rw [decide_eq_false hn]; rfl]
  dsimp only [sz]
  clear hn hp hv hr
  obtain ⟨HB, B_p, B_v, B_r, B_z⟩ := box4 w 23 #[.int .i64 a, .int .i64 b] 25 #[.int .i64 x, .int .i64 y, .int .i64 d] 29 #[.int .i64 x0, .int .i64 y0, .int .i64 x1, .int .i64 y1] 61 #[.int .i64 0, .int .i64 0, .int .i64 0, .int .i64 0]
  go_enter Try.func34, Try.ntmps34
  go_wp2_with fail
  generalize (((w.alloc (.cells #[.int .i64 a, .int .i64 b] 23)).alloc (.cells #[.int .i64 x, .int .i64 y, .int .i64 d] 25)).alloc (.cells #[.int .i64 x0, .int .i64 y0, .int .i64 x1, .int .i64 y1] 29)).alloc (.cells #[.int .i64 0, .int .i64 0, .int .i64 0, .int .i64 0] 61) = W0 at *
  obtain ⟨c0p, c1p⟩ := cells2 B_p
  refine (H0.out _).mono ?_
  clear c0p c1p
  rintro e w1 ⟨rfl, bb⟩
  replace bb := nextw (w0 := W0) (by exact sm) bb
  replace B_p := mv B_p bb
  replace B_v := mv B_v bb
  replace B_r := mv B_r bb
  replace B_z := mv B_z bb
  replace HB := nx HB bb
  clear bb
  obtain ⟨c0v, c1v, c2v⟩ := cells3 B_v
  go_wp2_with fail
  refine (H1.out _).mono ?_
  clear c0v c1v c2v
  rintro e w2 ⟨rfl, bb⟩
  replace bb := nextw (w0 := w1) (by exact sm) bb
  replace B_p := mv B_p bb
  replace B_v := mv B_v bb
  replace B_r := mv B_r bb
  replace B_z := mv B_z bb
  replace HB := nx HB bb
  clear bb
  obtain ⟨c0r, c1r, c2r, c3r⟩ := cells4 B_r
  go_wp2_with fail
  refine (H2.out _).mono ?_
  clear c0r c1r c2r c3r
  rintro e w3 ⟨rfl, bb⟩
  replace bb := nextw (w0 := w2) (by exact sm) bb
  replace B_p := mv B_p bb
  replace B_v := mv B_v bb
  replace B_r := mv B_r bb
  replace B_z := mv B_z bb
  replace HB := nx HB bb
  clear bb
  obtain ⟨s0, s1, s2, s3⟩ := cells4 (stor4 B_z (.int .i64 0) (.int .i64 0) (.int .i64 0) (.int .i64 0))
  have HF := stb4 HB (y := w.heap.size + 1 + 1 + 1) (by omega) 0 (.int .i64 0) 1 (.int .i64 0) 2 (.int .i64 0) 3 (.int .i64 0)
  obtain ⟨c0z, c1z, c2z, c3z⟩ := cells4 B_z
  obtain ⟨f0z, f1z, f2z, f3z⟩ := froz4 B_z
  go_wp2_with fail
  exact bodyPost_ret (v := .tuple #[.agg #[.int .i64 0, .int .i64 0, .int .i64 0, .int .i64 0], .bool false]) (by simp [results, Try.results34, go_sem, s0, s1, s2, s3]) rfl ⟨rfl, nextw HF.out (by exact sm)⟩

set_option maxRecDepth 100000 in
set_option maxHeartbeats 4000000 in
theorem visit_ok (a b x y d x0 y0 x1 y1 : Int) (hp : OkP a b) (hv : OkV x y d) (hr : OkR x0 y0 x1 y1) (w : World) :
    Calls Try.prog 34 #[.agg #[.int .i64 a, .int .i64 b], .agg #[.int .i64 x, .int .i64 y, .int .i64 d], .agg #[.int .i64 x0, .int .i64 y0, .int .i64 x1, .int .i64 y1]] w fun e w' => e = .returned (.tuple #[.agg #[.int .i64 (((visS a b x y d x0 y0 x1 y1)).i), .int .i64 (((visS a b x y d x0 y0 x1 y1)).j), .int .i64 (((visS a b x y d x0 y0 x1 y1)).o), .int .i64 (((visS a b x y d x0 y0 x1 y1)).u)], .bool (visB a b x y d x0 y0 x1 y1)]) ∧ Below w.heap.size w w' := by
  have H0 := Lib.hid (fun w => validPoint_t hp w)
  have H1 := Lib.hid (fun w => HV_t hv w)
  have H2 := Lib.hid (fun w => ValidRect_t hr w)
  have hk : Ok3 a b x y d x0 y0 x1 y1 := ⟨hp, hv, hr⟩
  rw [show visS a b x y d x0 y0 x1 y1 = pasS a b x y x0 y0 x1 y1 from if_pos hk, show visB a b x y d x0 y0 x1 y1 = pasB a b x y x0 y0 x1 y1 from by unfold visB; rw [decide_eq_true hk]; rfl]
  have ex := hv.bx
  have ey := hv.by_
  have ed := hv.hi
  have HP := Lib.hid (fun w => passage_any a b x y x0 y0 x1 y1 hp hr (by omega) (by omega) (by omega) (by omega) w)
  generalize pasB a b x y x0 y0 x1 y1 = B1 at *
  generalize pasS a b x y x0 y0 x1 y1 = S1 at *
  obtain ⟨i1, j1, o1, u1⟩ := S1
  dsimp only at HP ⊢
  clear ex ey ed hk hp hv hr
  obtain ⟨HB, B_p, B_v, B_r, B_z⟩ := box4 w 23 #[.int .i64 a, .int .i64 b] 25 #[.int .i64 x, .int .i64 y, .int .i64 d] 29 #[.int .i64 x0, .int .i64 y0, .int .i64 x1, .int .i64 y1] 61 #[.int .i64 0, .int .i64 0, .int .i64 0, .int .i64 0]
  go_enter Try.func34, Try.ntmps34
  go_wp2_with fail
  generalize (((w.alloc (.cells #[.int .i64 a, .int .i64 b] 23)).alloc (.cells #[.int .i64 x, .int .i64 y, .int .i64 d] 25)).alloc (.cells #[.int .i64 x0, .int .i64 y0, .int .i64 x1, .int .i64 y1] 29)).alloc (.cells #[.int .i64 0, .int .i64 0, .int .i64 0, .int .i64 0] 61) = W0 at *
  obtain ⟨c0p, c1p⟩ := cells2 B_p
  refine (H0.out _).mono ?_
  clear c0p c1p
  rintro e w1 ⟨rfl, bb⟩
  replace bb := nextw (w0 := W0) (by exact sm) bb
  replace B_p := mv B_p bb
  replace B_v := mv B_v bb
  replace B_r := mv B_r bb
  replace B_z := mv B_z bb
  replace HB := nx HB bb
  clear bb
  obtain ⟨c0v, c1v, c2v⟩ := cells3 B_v
  go_wp2_with fail
  refine (H1.out _).mono ?_
  clear c0v c1v c2v
  rintro e w2 ⟨rfl, bb⟩
  replace bb := nextw (w0 := w1) (by exact sm) bb
  replace B_p := mv B_p bb
  replace B_v := mv B_v bb
  replace B_r := mv B_r bb
  replace B_z := mv B_z bb
  replace HB := nx HB bb
  clear bb
  obtain ⟨c0r, c1r, c2r, c3r⟩ := cells4 B_r
  go_wp2_with fail
  refine (H2.out _).mono ?_
  clear c0r c1r c2r c3r
  rintro e w3 ⟨rfl, bb⟩
  replace bb := nextw (w0 := w2) (by exact sm) bb
  replace B_p := mv B_p bb
  replace B_v := mv B_v bb
  replace B_r := mv B_r bb
  replace B_z := mv B_z bb
  replace HB := nx HB bb
  clear bb
  obtain ⟨c0p, c1p⟩ := cells2 B_p
  obtain ⟨c0v, c1v, c2v⟩ := cells3 B_v
  obtain ⟨c0r, c1r, c2r, c3r⟩ := cells4 B_r
  go_wp2_with fail
  refine (HP.out _).mono ?_
  clear c0p c1p c0v c1v c2v c0r c1r c2r c3r
  rintro e w4 ⟨rfl, bb⟩
  replace bb := nextw (w0 := w3) (by exact sm) bb
  replace B_p := mv B_p bb
  replace B_v := mv B_v bb
  replace B_r := mv B_r bb
  replace B_z := mv B_z bb
  replace HB := nx HB bb
  clear bb
  obtain ⟨s0, s1, s2, s3⟩ := cells4 (stor4 B_z (.int .i64 i1) (.int .i64 j1) (.int .i64 o1) (.int .i64 u1))
  have HF := stb4 HB (y := w.heap.size + 1 + 1 + 1) (by omega) 0 (.int .i64 i1) 1 (.int .i64 j1) 2 (.int .i64 o1) 3 (.int .i64 u1)
  obtain ⟨c0z, c1z, c2z, c3z⟩ := cells4 B_z
  obtain ⟨f0z, f1z, f2z, f3z⟩ := froz4 B_z
  go_wp2_with fail
  exact bodyPost_ret (v := .tuple #[.agg #[.int .i64 i1, .int .i64 j1, .int .i64 o1, .int .i64 u1], .bool B1]) (by simp [results, Try.results34, go_sem, s0, s1, s2, s3]) rfl ⟨rfl, nextw HF.out (by exact sm)⟩

theorem visit_any (a b x y d x0 y0 x1 y1 : Int) (w : World) :
    Calls Try.prog 34 #[.agg #[.int .i64 a, .int .i64 b], .agg #[.int .i64 x, .int .i64 y, .int .i64 d], .agg #[.int .i64 x0, .int .i64 y0, .int .i64 x1, .int .i64 y1]] w fun e w' => e = .returned (.tuple #[.agg #[.int .i64 (((visS a b x y d x0 y0 x1 y1)).i), .int .i64 (((visS a b x y d x0 y0 x1 y1)).j), .int .i64 (((visS a b x y d x0 y0 x1 y1)).o), .int .i64 (((visS a b x y d x0 y0 x1 y1)).u)], .bool (visB a b x y d x0 y0 x1 y1)]) ∧ Below w.heap.size w w' := by
  by_cases hp : OkP a b
  · by_cases hv : OkV x y d
    · by_cases hr : OkR x0 y0 x1 y1
      · exact visit_ok a b x y d x0 y0 x1 y1 hp hv hr w
      · exact visit_2 a b x y d x0 y0 x1 y1 hp hv hr w
    · exact visit_1 a b x y d x0 y0 x1 y1 hp hv w
  · exact visit_0 a b x y d x0 y0 x1 y1 hp w
end Go.Proofs.Ytaflgmiagjldhaa
