/- segment: validWay, runsInto, passesBy. -/
import Derived.Test.YtaflgmiagjldhaaS5
import Derived.Test.YtaflgmiagjldhaaSNear
set_option linter.unusedVariables false
set_option linter.unusedSimpArgs false
namespace Go.Proofs.Ytaflgmiagjldhaa
open Go Go.RowKit Hd

theorem hull_ok {a b c d : Int} (hp : OkP a b) (hq : OkP c d) : OkR (min a c) (min b d) (max a c) (max b d) := by
  obtain ⟨p1, p2, p3, p4⟩ := hp
  obtain ⟨q1, q2, q3, q4⟩ := hq
  exact ⟨by omega, by omega, by omega, by omega, by omega, by omega, by omega, by omega, by omega, by omega⟩

theorem run_max4 {P : Program} (w : World) (ts : Array TypeId) (t : TypeId) (x y z u : Int) : (Builtin.max_ ts t #[.int .i64 x, .int .i64 y, .int .i64 z, .int .i64 u]).run P w = .ok (.int .i64 (max (max (max x y) z) u)) w := by
  have e : ∀ a b : Int, (if b > a then b else a) = max a b := fun a b => by split <;> omega
  simp [Builtin.max_, Builtin.max2]
  repeat' split
  all_goals omega
theorem wayR {p q : Prop} [Decidable p] [Decidable q] (h : p ↔ q) : Ending.returned (.bool (decide p)) = .returned (.bool (decide q)) := by rw [decide_eq_decide.2 h]

set_option maxRecDepth 100000 in
set_option maxHeartbeats 1000000 in
theorem validWay_0 (a b c d : Int) (hp : ¬ OkP a b) (w : World) :
    Calls Try.prog 45 #[.agg #[.int .i64 a, .int .i64 b], .agg #[.int .i64 c, .int .i64 d]] w fun e w' => e = .returned (.bool false) ∧ Below w.heap.size w w' := by
  have H0 := Lib.hid (fun w => validPoint_f hp w)
  clear hp
  obtain ⟨HB, B_p, B_q⟩ := box2 w 23 #[.int .i64 a, .int .i64 b] 23 #[.int .i64 c, .int .i64 d]
  go_enter Try.func45, Try.ntmps45
  go_wp2_with fail
  generalize (w.alloc (.cells #[.int .i64 a, .int .i64 b] 23)).alloc (.cells #[.int .i64 c, .int .i64 d] 23) = W0 at *
  obtain ⟨c0p, c1p⟩ := cells2 B_p
  refine (H0.out _).mono ?_
  clear c0p c1p
  rintro e w1 ⟨rfl, bb⟩
  replace bb := nextw (w0 := W0) (by exact sm) bb
  replace B_p := mv B_p bb
  replace B_q := mv B_q bb
  replace HB := nx HB bb
  clear bb
  go_wp2
  go_ret
  exact ⟨rfl, nextw HB.out (by exact sm)⟩

set_option maxRecDepth 100000 in
set_option maxHeartbeats 1000000 in
theorem validWay_1 (a b c d : Int) (hp : OkP a b) (hq : ¬ OkP c d) (w : World) :
    Calls Try.prog 45 #[.agg #[.int .i64 a, .int .i64 b], .agg #[.int .i64 c, .int .i64 d]] w fun e w' => e = .returned (.bool false) ∧ Below w.heap.size w w' := by
  have H0 := Lib.hid (fun w => validPoint_t hp w)
  have H1 := Lib.hid (fun w => validPoint_f hq w)
  clear hp hq
  obtain ⟨HB, B_p, B_q⟩ := box2 w 23 #[.int .i64 a, .int .i64 b] 23 #[.int .i64 c, .int .i64 d]
  go_enter Try.func45, Try.ntmps45
  go_wp2_with fail
  generalize (w.alloc (.cells #[.int .i64 a, .int .i64 b] 23)).alloc (.cells #[.int .i64 c, .int .i64 d] 23) = W0 at *
  obtain ⟨c0p, c1p⟩ := cells2 B_p
  refine (H0.out _).mono ?_
  clear c0p c1p
  rintro e w1 ⟨rfl, bb⟩
  replace bb := nextw (w0 := W0) (by exact sm) bb
  replace B_p := mv B_p bb
  replace B_q := mv B_q bb
  replace HB := nx HB bb
  clear bb
  obtain ⟨c0q, c1q⟩ := cells2 B_q
  go_wp2_with fail
  refine (H1.out _).mono ?_
  clear c0q c1q
  rintro e w2 ⟨rfl, bb⟩
  replace bb := nextw (w0 := w1) (by exact sm) bb
  replace B_p := mv B_p bb
  replace B_q := mv B_q bb
  replace HB := nx HB bb
  clear bb
  go_wp2
  go_ret
  exact ⟨rfl, nextw HB.out (by exact sm)⟩

set_option maxRecDepth 100000 in
set_option maxHeartbeats 1000000 in
theorem validWay_ok (a b c d : Int) (hp : OkP a b) (hq : OkP c d) (w : World) :
    Calls Try.prog 45 #[.agg #[.int .i64 a, .int .i64 b], .agg #[.int .i64 c, .int .i64 d]] w fun e w' => e = .returned (.bool (decide ((-1024 ≤ c - a ∧ c - a ≤ 1024) ∧ -1024 ≤ d - b ∧ d - b ≤ 1024))) ∧ Below w.heap.size w w' := by
  have H0 := Lib.hid (fun w => validPoint_t hp w)
  have H1 := Lib.hid (fun w => validPoint_t hq w)
  obtain ⟨p1, p2, p3, p4⟩ := hp
  obtain ⟨q1, q2, q3, q4⟩ := hq
  obtain ⟨HB, B_p, B_q⟩ := box2 w 23 #[.int .i64 a, .int .i64 b] 23 #[.int .i64 c, .int .i64 d]
  go_enter Try.func45, Try.ntmps45
  go_wp2_with fail
  generalize (w.alloc (.cells #[.int .i64 a, .int .i64 b] 23)).alloc (.cells #[.int .i64 c, .int .i64 d] 23) = W0 at *
  obtain ⟨c0p, c1p⟩ := cells2 B_p
  refine (H0.out _).mono ?_
  clear c0p c1p
  rintro e w1 ⟨rfl, bb⟩
  replace bb := nextw (w0 := W0) (by exact sm) bb
  replace B_p := mv B_p bb
  replace B_q := mv B_q bb
  replace HB := nx HB bb
  clear bb
  obtain ⟨c0q, c1q⟩ := cells2 B_q
  go_wp2_with fail
  refine (H1.out _).mono ?_
  clear c0q c1q
  rintro e w2 ⟨rfl, bb⟩
  replace bb := nextw (w0 := w1) (by exact sm) bb
  replace B_p := mv B_p bb
  replace B_q := mv B_q bb
  replace HB := nx HB bb
  clear bb
  go_upto_region 3 with (fail)
  obtain ⟨c0p, c1p⟩ := cells2 B_p
  obtain ⟨c0q, c1q⟩ := cells2 B_q
  go_quiet (fail)
  clear c0p c1p c0q c1q
  have bb : Below w2.heap.size w2 (w2.drewN nq) := bel_drewN (Below.refl _ _) _
  generalize w2.drewN nq = w3q at *
  replace B_p := mv B_p bb
  replace B_q := mv B_q bb
  replace HB := nx HB bb
  clear bb
  have hmx := fun (w : World) (ts : Array TypeId) (t : TypeId) (x y z u : Int) => run_max4 (P := Try.prog) w ts t x y z u
  go_wp2
  go_ret
  exact ⟨wayR (by omega), nextw HB.out (by exact sm)⟩

set_option maxRecDepth 100000 in
set_option maxHeartbeats 4000000 in
theorem runsInto_any (a b c d x0 y0 x1 y1 : Int) (hp : OkP a b) (hq : OkP c d) (hr : OkR x0 y0 x1 y1) (w1 : -1024 ≤ c - a) (w2 : c - a ≤ 1024) (w3 : -1024 ≤ d - b) (w4 : d - b ≤ 1024) (w : World) :
    Calls Try.prog 46 #[.agg #[.int .i64 a, .int .i64 b], .agg #[.int .i64 c, .int .i64 d], .agg #[.int .i64 x0, .int .i64 y0, .int .i64 x1, .int .i64 y1]] w fun e w' => e = .returned (.bool (runB a b c d x0 y0 x1 y1)) ∧ Below w.heap.size w w' := by
  have bd := pasS_bd (x := c - a) (y := d - b) hp hr (by omega) (by omega) (by omega) (by omega)
  have HP := Lib.hid (fun w => passage_any a b (c - a) (d - b) x0 y0 x1 y1 hp hr (by omega) (by omega) (by omega) (by omega) w)
  rw [show runB a b c d x0 y0 x1 y1 = (pasB a b (c - a) (d - b) x0 y0 x1 y1 && decide ((pasS a b (c - a) (d - b) x0 y0 x1 y1).i ≤ (pasS a b (c - a) (d - b) x0 y0 x1 y1).j)) from rfl]
  generalize pasB a b (c - a) (d - b) x0 y0 x1 y1 = B1 at *
  generalize pasS a b (c - a) (d - b) x0 y0 x1 y1 = S1 at *
  obtain ⟨i1, j1, o1, u1⟩ := S1
  dsimp only at *
  obtain ⟨p1, p2, p3, p4⟩ := hp
  obtain ⟨q1, q2, q3, q4⟩ := hq
  clear bd hr
  obtain ⟨HB, B_p, B_q, B_r⟩ := box3 w 23 #[.int .i64 a, .int .i64 b] 23 #[.int .i64 c, .int .i64 d] 29 #[.int .i64 x0, .int .i64 y0, .int .i64 x1, .int .i64 y1]
  go_enter Try.func46, Try.ntmps46
  go_wp2_with fail
  generalize ((w.alloc (.cells #[.int .i64 a, .int .i64 b] 23)).alloc (.cells #[.int .i64 c, .int .i64 d] 23)).alloc (.cells #[.int .i64 x0, .int .i64 y0, .int .i64 x1, .int .i64 y1] 29) = W0 at *
  obtain ⟨c0p, c1p⟩ := cells2 B_p
  obtain ⟨c0q, c1q⟩ := cells2 B_q
  obtain ⟨c0r, c1r, c2r, c3r⟩ := cells4 B_r
  refine (HP.out _).mono ?_
  clear c0p c1p c0q c1q c0r c1r c2r c3r
  rintro e w1 ⟨rfl, bb⟩
  replace bb := nextw (w0 := W0) (by exact sm) bb
  replace B_p := mv B_p bb
  replace B_q := mv B_q bb
  replace B_r := mv B_r bb
  replace HB := nx HB bb
  clear bb
  have lt_sp := B_p.out.lt
  have lt_sq := B_q.out.lt
  have lt_sr := B_r.out.lt
  obtain ⟨bb, B_s⟩ := box1 w1 61 #[.int .i64 i1, .int .i64 j1, .int .i64 o1, .int .i64 u1]
  replace bb := bb.out
  replace B_p := mv B_p bb
  replace B_q := mv B_q bb
  replace B_r := mv B_r bb
  replace HB := nx HB bb
  clear bb
  go_upto_region 2 with (fail)
  generalize w1.alloc (.cells #[.int .i64 i1, .int .i64 j1, .int .i64 o1, .int .i64 u1] 61) = WS at *
  obtain ⟨c0s, c1s, c2s, c3s⟩ := cells4 B_s
  rcases B1 with _ | _
  · go_wp2
    go_ret
    exact ⟨rfl, nextw HB.out (by exact sm)⟩
  · go_wp2
    go_ret
    exact ⟨rfl, nextw HB.out (by exact sm)⟩

set_option maxRecDepth 100000 in
set_option maxHeartbeats 8000000 in
theorem passesBy_g (a b c d u v most : Int) (hp : OkP a b) (hq : OkP c d) (hc : OkP u v) (w1 : -1024 ≤ c - a) (w2 : c - a ≤ 1024) (w3 : -1024 ≤ d - b) (w4 : d - b ≤ 1024) (m0 : 0 ≤ most) (m1 : most ≤ 1048576) (g : most < gapM u v (min a c) (min b d) (max a c) (max b d)) (w : World) :
    Calls Try.prog 47 #[.agg #[.int .i64 a, .int .i64 b], .agg #[.int .i64 c, .int .i64 d], .agg #[.int .i64 u, .int .i64 v], .int .i64 most] w fun e w' => e = .returned (.bool false) ∧ Below w.heap.size w w' := by
  have HH := Lib.hid (fun w => hull_any a b c d w)
  have HG := Lib.hid (fun w => Gap_ok u v (min a c) (min b d) (max a c) (max b d) hc (hull_ok hp hq) w)
  obtain ⟨p1, p2, p3, p4⟩ := hp
  obtain ⟨q1, q2, q3, q4⟩ := hq
  obtain ⟨c1, c2, c3, c4⟩ := hc
  generalize gapM u v (min a c) (min b d) (max a c) (max b d) = gp at *
  generalize min a c = e0 at *
  generalize min b d = e1 at *
  generalize max a c = e2 at *
  generalize max b d = e3 at *
  obtain ⟨HB, B_p, B_q, B_c⟩ := box3 w 23 #[.int .i64 a, .int .i64 b] 23 #[.int .i64 c, .int .i64 d] 23 #[.int .i64 u, .int .i64 v]
  go_enter Try.func47, Try.ntmps47
  go_wp2_with fail
  generalize ((w.alloc (.cells #[.int .i64 a, .int .i64 b] 23)).alloc (.cells #[.int .i64 c, .int .i64 d] 23)).alloc (.cells #[.int .i64 u, .int .i64 v] 23) = W0 at *
  obtain ⟨c0p, c1p⟩ := cells2 B_p
  obtain ⟨c0q, c1q⟩ := cells2 B_q
  obtain ⟨c0c, c1c⟩ := cells2 B_c
  have tk1x0 : True := trivial
  go_region_held3 (fun w' => w'.cell? ⟨w.heap.size, 0, none⟩ = some (.int .i64 a) ∧ w'.cell? ⟨w.heap.size, 1, none⟩ = some (.int .i64 b) ∧ w'.cell? ⟨w.heap.size + 1, 0, none⟩ = some (.int .i64 c) ∧ w'.cell? ⟨w.heap.size + 1, 1, none⟩ = some (.int .i64 d) ∧ w'.cell? ⟨w.heap.size + 1 + 1, 0, none⟩ = some (.int .i64 u) ∧ w'.cell? ⟨w.heap.size + 1 + 1, 1, none⟩ = some (.int .i64 v)) (((try dsimp only); (repeat' apply And.intro) <;> (first | (with_reducible assumption) | ((repeat (first | (with_reducible refine Eq.trans (cell_drew1 _ _) ?_) | (with_reducible refine Eq.trans (cell_far (by omega) _ _ _) ?_) | (with_reducible refine Eq.trans (World.cell?_alloc_lt _ _ _ (by first | (dsimp only; omega) | (simp only [World.size_alloc, World.size_setCell]; omega))) ?_))); with_reducible assumption) | assumption | go_keep)))
    (first
      | (clear tk1x0; go_at_call 55; refine (HH.out _).mono ?_; rintro e w1 ⟨rfl, bb⟩; replace bb := nextw (w0 := W0) (by exact sm) bb; replace B_p := mv B_p bb; replace B_q := mv B_q bb; replace B_c := mv B_c bb; replace HB := nx HB bb; clear bb c0p c1p c0q c1q c0c c1c; have c0p : w1.cell? ⟨w.heap.size, 0, none⟩ = some (.int .i64 a) := B_p.out.cell 0 rfl; have c1p : w1.cell? ⟨w.heap.size, 1, none⟩ = some (.int .i64 b) := B_p.out.cell 1 rfl; have c0q : w1.cell? ⟨w.heap.size + 1, 0, none⟩ = some (.int .i64 c) := B_q.out.cell 0 rfl; have c1q : w1.cell? ⟨w.heap.size + 1, 1, none⟩ = some (.int .i64 d) := B_q.out.cell 1 rfl; have c0c : w1.cell? ⟨w.heap.size + 1 + 1, 0, none⟩ = some (.int .i64 u) := B_c.out.cell 0 rfl; have c1c : w1.cell? ⟨w.heap.size + 1 + 1, 1, none⟩ = some (.int .i64 v) := B_c.out.cell 1 rfl; have tk1x1 : True := trivial)
      | (clear tk1x1; go_at_call 23; refine (HG.out _).mono ?_; rintro e w2 ⟨rfl, bb⟩; replace bb := nextw (w0 := w1) (by exact sm) bb; replace B_p := mv B_p bb; replace B_q := mv B_q bb; replace B_c := mv B_c bb; replace HB := nx HB bb; clear bb c0p c1p c0q c1q c0c c1c; have c0p : w2.cell? ⟨w.heap.size, 0, none⟩ = some (.int .i64 a) := B_p.out.cell 0 rfl; have c1p : w2.cell? ⟨w.heap.size, 1, none⟩ = some (.int .i64 b) := B_p.out.cell 1 rfl; have c0q : w2.cell? ⟨w.heap.size + 1, 0, none⟩ = some (.int .i64 c) := B_q.out.cell 0 rfl; have c1q : w2.cell? ⟨w.heap.size + 1, 1, none⟩ = some (.int .i64 d) := B_q.out.cell 1 rfl; have c0c : w2.cell? ⟨w.heap.size + 1 + 1, 0, none⟩ = some (.int .i64 u) := B_c.out.cell 0 rfl; have c1c : w2.cell? ⟨w.heap.size + 1 + 1, 1, none⟩ = some (.int .i64 v) := B_c.out.cell 1 rfl; have tk1x2 : True := trivial))
  clear c0p c1p c0q c1q c0c c1c
  clear HH HG
  go_wp2
  go_ret
  exact ⟨rfl, nextw HB.out (by exact sm)⟩

set_option maxRecDepth 100000 in
set_option maxHeartbeats 8000000 in
theorem passesBy_a (a b c d u v most : Int) (hp : OkP a b) (hq : OkP c d) (hc : OkP u v) (w1 : -1024 ≤ c - a) (w2 : c - a ≤ 1024) (w3 : -1024 ≤ d - b) (w4 : d - b ≤ 1024) (m0 : 0 ≤ most) (m1 : most ≤ 1048576) (g : gapM u v (min a c) (min b d) (max a c) (max b d) ≤ most) (g1 : (c - a) * (u - a) + (d - b) * (v - b) ≤ 0) (w : World) :
    Calls Try.prog 47 #[.agg #[.int .i64 a, .int .i64 b], .agg #[.int .i64 c, .int .i64 d], .agg #[.int .i64 u, .int .i64 v], .int .i64 most] w fun e w' => e = .returned (.bool false) ∧ Below w.heap.size w w' := by
  have HH := Lib.hid (fun w => hull_any a b c d w)
  have HG := Lib.hid (fun w => Gap_ok u v (min a c) (min b d) (max a c) (max b d) hc (hull_ok hp hq) w)
  have sm1 := gap_small (K := 0) (by omega) (by omega) (show gapM u v (min a c) (min b d) (max a c) (max b d) ≤ 1048576 by omega)
  obtain ⟨⟨z1, z2⟩, z3, z4⟩ := sm1
  have m2 := mul_le (a := c - a) (b := u - a) (A := 2048) (B := 2048) (by omega) (by omega) (by omega) (by omega)
  have m3 := mul_le (a := d - b) (b := v - b) (A := 2048) (B := 2048) (by omega) (by omega) (by omega) (by omega)
  have m4 := mul_le (a := c - a) (b := c - a) (A := 2048) (B := 2048) (by omega) (by omega) (by omega) (by omega)
  have m5 := mul_le (a := d - b) (b := d - b) (A := 2048) (B := 2048) (by omega) (by omega) (by omega) (by omega)
  have m6 := mul_le (a := c - a) (b := v - b) (A := 2048) (B := 2048) (by omega) (by omega) (by omega) (by omega)
  have m7 := mul_le (a := d - b) (b := u - a) (A := 2048) (B := 2048) (by omega) (by omega) (by omega) (by omega)
  obtain ⟨p1, p2, p3, p4⟩ := hp
  obtain ⟨q1, q2, q3, q4⟩ := hq
  obtain ⟨c1, c2, c3, c4⟩ := hc
  generalize gapM u v (min a c) (min b d) (max a c) (max b d) = gp at *
  generalize min a c = e0 at *
  generalize min b d = e1 at *
  generalize max a c = e2 at *
  generalize max b d = e3 at *
  obtain ⟨HB, B_p, B_q, B_c⟩ := box3 w 23 #[.int .i64 a, .int .i64 b] 23 #[.int .i64 c, .int .i64 d] 23 #[.int .i64 u, .int .i64 v]
  go_enter Try.func47, Try.ntmps47
  go_wp2_with fail
  generalize ((w.alloc (.cells #[.int .i64 a, .int .i64 b] 23)).alloc (.cells #[.int .i64 c, .int .i64 d] 23)).alloc (.cells #[.int .i64 u, .int .i64 v] 23) = W0 at *
  obtain ⟨c0p, c1p⟩ := cells2 B_p
  obtain ⟨c0q, c1q⟩ := cells2 B_q
  obtain ⟨c0c, c1c⟩ := cells2 B_c
  have tk1x0 : True := trivial
  go_region_held3 (fun w' => w'.cell? ⟨w.heap.size, 0, none⟩ = some (.int .i64 a) ∧ w'.cell? ⟨w.heap.size, 1, none⟩ = some (.int .i64 b) ∧ w'.cell? ⟨w.heap.size + 1, 0, none⟩ = some (.int .i64 c) ∧ w'.cell? ⟨w.heap.size + 1, 1, none⟩ = some (.int .i64 d) ∧ w'.cell? ⟨w.heap.size + 1 + 1, 0, none⟩ = some (.int .i64 u) ∧ w'.cell? ⟨w.heap.size + 1 + 1, 1, none⟩ = some (.int .i64 v)) (((try dsimp only); (repeat' apply And.intro) <;> (first | (with_reducible assumption) | ((repeat (first | (with_reducible refine Eq.trans (cell_drew1 _ _) ?_) | (with_reducible refine Eq.trans (cell_far (by omega) _ _ _) ?_) | (with_reducible refine Eq.trans (World.cell?_alloc_lt _ _ _ (by first | (dsimp only; omega) | (simp only [World.size_alloc, World.size_setCell]; omega))) ?_))); with_reducible assumption) | assumption | go_keep)))
    (first
      | (clear tk1x0; go_at_call 55; refine (HH.out _).mono ?_; rintro e w1 ⟨rfl, bb⟩; replace bb := nextw (w0 := W0) (by exact sm) bb; replace B_p := mv B_p bb; replace B_q := mv B_q bb; replace B_c := mv B_c bb; replace HB := nx HB bb; clear bb c0p c1p c0q c1q c0c c1c; have c0p : w1.cell? ⟨w.heap.size, 0, none⟩ = some (.int .i64 a) := B_p.out.cell 0 rfl; have c1p : w1.cell? ⟨w.heap.size, 1, none⟩ = some (.int .i64 b) := B_p.out.cell 1 rfl; have c0q : w1.cell? ⟨w.heap.size + 1, 0, none⟩ = some (.int .i64 c) := B_q.out.cell 0 rfl; have c1q : w1.cell? ⟨w.heap.size + 1, 1, none⟩ = some (.int .i64 d) := B_q.out.cell 1 rfl; have c0c : w1.cell? ⟨w.heap.size + 1 + 1, 0, none⟩ = some (.int .i64 u) := B_c.out.cell 0 rfl; have c1c : w1.cell? ⟨w.heap.size + 1 + 1, 1, none⟩ = some (.int .i64 v) := B_c.out.cell 1 rfl; have tk1x1 : True := trivial)
      | (clear tk1x1; go_at_call 23; refine (HG.out _).mono ?_; rintro e w2 ⟨rfl, bb⟩; replace bb := nextw (w0 := w1) (by exact sm) bb; replace B_p := mv B_p bb; replace B_q := mv B_q bb; replace B_c := mv B_c bb; replace HB := nx HB bb; clear bb c0p c1p c0q c1q c0c c1c; have c0p : w2.cell? ⟨w.heap.size, 0, none⟩ = some (.int .i64 a) := B_p.out.cell 0 rfl; have c1p : w2.cell? ⟨w.heap.size, 1, none⟩ = some (.int .i64 b) := B_p.out.cell 1 rfl; have c0q : w2.cell? ⟨w.heap.size + 1, 0, none⟩ = some (.int .i64 c) := B_q.out.cell 0 rfl; have c1q : w2.cell? ⟨w.heap.size + 1, 1, none⟩ = some (.int .i64 d) := B_q.out.cell 1 rfl; have c0c : w2.cell? ⟨w.heap.size + 1 + 1, 0, none⟩ = some (.int .i64 u) := B_c.out.cell 0 rfl; have c1c : w2.cell? ⟨w.heap.size + 1 + 1, 1, none⟩ = some (.int .i64 v) := B_c.out.cell 1 rfl; have tk1x2 : True := trivial))
  clear c0p c1p c0q c1q c0c c1c
  clear HH HG
  go_upto_region 3 with (fail)
  obtain ⟨c0p, c1p⟩ := cells2 B_p
  obtain ⟨c0q, c1q⟩ := cells2 B_q
  go_quiet (fail)
  clear c0p c1p c0q c1q
  have bb : Below w2.heap.size w2 (w2.drewN nq) := bel_drewN (Below.refl _ _) _
  generalize w2.drewN nq = w3q at *
  replace B_p := mv B_p bb
  replace B_q := mv B_q bb
  replace B_c := mv B_c bb
  replace HB := nx HB bb
  clear bb
  obtain ⟨c0p, c1p⟩ := cells2 B_p
  obtain ⟨c0q, c1q⟩ := cells2 B_q
  obtain ⟨c0c, c1c⟩ := cells2 B_c
  go_wp2
  go_ret
  exact ⟨rfl, nextw HB.out (by exact sm)⟩

set_option maxRecDepth 100000 in
set_option maxHeartbeats 8000000 in
theorem passesBy_l (a b c d u v most : Int) (hp : OkP a b) (hq : OkP c d) (hc : OkP u v) (w1 : -1024 ≤ c - a) (w2 : c - a ≤ 1024) (w3 : -1024 ≤ d - b) (w4 : d - b ≤ 1024) (m0 : 0 ≤ most) (m1 : most ≤ 1048576) (g : gapM u v (min a c) (min b d) (max a c) (max b d) ≤ most) (g1 : 0 < (c - a) * (u - a) + (d - b) * (v - b)) (g2 : (c - a) * (c - a) + (d - b) * (d - b) ≤ (c - a) * (u - a) + (d - b) * (v - b)) (w : World) :
    Calls Try.prog 47 #[.agg #[.int .i64 a, .int .i64 b], .agg #[.int .i64 c, .int .i64 d], .agg #[.int .i64 u, .int .i64 v], .int .i64 most] w fun e w' => e = .returned (.bool false) ∧ Below w.heap.size w w' := by
  have HH := Lib.hid (fun w => hull_any a b c d w)
  have HG := Lib.hid (fun w => Gap_ok u v (min a c) (min b d) (max a c) (max b d) hc (hull_ok hp hq) w)
  have sm1 := gap_small (K := 0) (by omega) (by omega) (show gapM u v (min a c) (min b d) (max a c) (max b d) ≤ 1048576 by omega)
  obtain ⟨⟨z1, z2⟩, z3, z4⟩ := sm1
  have m2 := mul_le (a := c - a) (b := u - a) (A := 2048) (B := 2048) (by omega) (by omega) (by omega) (by omega)
  have m3 := mul_le (a := d - b) (b := v - b) (A := 2048) (B := 2048) (by omega) (by omega) (by omega) (by omega)
  have m4 := mul_le (a := c - a) (b := c - a) (A := 2048) (B := 2048) (by omega) (by omega) (by omega) (by omega)
  have m5 := mul_le (a := d - b) (b := d - b) (A := 2048) (B := 2048) (by omega) (by omega) (by omega) (by omega)
  have m6 := mul_le (a := c - a) (b := v - b) (A := 2048) (B := 2048) (by omega) (by omega) (by omega) (by omega)
  have m7 := mul_le (a := d - b) (b := u - a) (A := 2048) (B := 2048) (by omega) (by omega) (by omega) (by omega)
  obtain ⟨p1, p2, p3, p4⟩ := hp
  obtain ⟨q1, q2, q3, q4⟩ := hq
  obtain ⟨c1, c2, c3, c4⟩ := hc
  generalize gapM u v (min a c) (min b d) (max a c) (max b d) = gp at *
  generalize min a c = e0 at *
  generalize min b d = e1 at *
  generalize max a c = e2 at *
  generalize max b d = e3 at *
  obtain ⟨HB, B_p, B_q, B_c⟩ := box3 w 23 #[.int .i64 a, .int .i64 b] 23 #[.int .i64 c, .int .i64 d] 23 #[.int .i64 u, .int .i64 v]
  go_enter Try.func47, Try.ntmps47
  go_wp2_with fail
  generalize ((w.alloc (.cells #[.int .i64 a, .int .i64 b] 23)).alloc (.cells #[.int .i64 c, .int .i64 d] 23)).alloc (.cells #[.int .i64 u, .int .i64 v] 23) = W0 at *
  obtain ⟨c0p, c1p⟩ := cells2 B_p
  obtain ⟨c0q, c1q⟩ := cells2 B_q
  obtain ⟨c0c, c1c⟩ := cells2 B_c
  have tk1x0 : True := trivial
  go_region_held3 (fun w' => w'.cell? ⟨w.heap.size, 0, none⟩ = some (.int .i64 a) ∧ w'.cell? ⟨w.heap.size, 1, none⟩ = some (.int .i64 b) ∧ w'.cell? ⟨w.heap.size + 1, 0, none⟩ = some (.int .i64 c) ∧ w'.cell? ⟨w.heap.size + 1, 1, none⟩ = some (.int .i64 d) ∧ w'.cell? ⟨w.heap.size + 1 + 1, 0, none⟩ = some (.int .i64 u) ∧ w'.cell? ⟨w.heap.size + 1 + 1, 1, none⟩ = some (.int .i64 v)) (((try dsimp only); (repeat' apply And.intro) <;> (first | (with_reducible assumption) | ((repeat (first | (with_reducible refine Eq.trans (cell_drew1 _ _) ?_) | (with_reducible refine Eq.trans (cell_far (by omega) _ _ _) ?_) | (with_reducible refine Eq.trans (World.cell?_alloc_lt _ _ _ (by first | (dsimp only; omega) | (simp only [World.size_alloc, World.size_setCell]; omega))) ?_))); with_reducible assumption) | assumption | go_keep)))
    (first
      | (clear tk1x0; go_at_call 55; refine (HH.out _).mono ?_; rintro e w1 ⟨rfl, bb⟩; replace bb := nextw (w0 := W0) (by exact sm) bb; replace B_p := mv B_p bb; replace B_q := mv B_q bb; replace B_c := mv B_c bb; replace HB := nx HB bb; clear bb c0p c1p c0q c1q c0c c1c; have c0p : w1.cell? ⟨w.heap.size, 0, none⟩ = some (.int .i64 a) := B_p.out.cell 0 rfl; have c1p : w1.cell? ⟨w.heap.size, 1, none⟩ = some (.int .i64 b) := B_p.out.cell 1 rfl; have c0q : w1.cell? ⟨w.heap.size + 1, 0, none⟩ = some (.int .i64 c) := B_q.out.cell 0 rfl; have c1q : w1.cell? ⟨w.heap.size + 1, 1, none⟩ = some (.int .i64 d) := B_q.out.cell 1 rfl; have c0c : w1.cell? ⟨w.heap.size + 1 + 1, 0, none⟩ = some (.int .i64 u) := B_c.out.cell 0 rfl; have c1c : w1.cell? ⟨w.heap.size + 1 + 1, 1, none⟩ = some (.int .i64 v) := B_c.out.cell 1 rfl; have tk1x1 : True := trivial)
      | (clear tk1x1; go_at_call 23; refine (HG.out _).mono ?_; rintro e w2 ⟨rfl, bb⟩; replace bb := nextw (w0 := w1) (by exact sm) bb; replace B_p := mv B_p bb; replace B_q := mv B_q bb; replace B_c := mv B_c bb; replace HB := nx HB bb; clear bb c0p c1p c0q c1q c0c c1c; have c0p : w2.cell? ⟨w.heap.size, 0, none⟩ = some (.int .i64 a) := B_p.out.cell 0 rfl; have c1p : w2.cell? ⟨w.heap.size, 1, none⟩ = some (.int .i64 b) := B_p.out.cell 1 rfl; have c0q : w2.cell? ⟨w.heap.size + 1, 0, none⟩ = some (.int .i64 c) := B_q.out.cell 0 rfl; have c1q : w2.cell? ⟨w.heap.size + 1, 1, none⟩ = some (.int .i64 d) := B_q.out.cell 1 rfl; have c0c : w2.cell? ⟨w.heap.size + 1 + 1, 0, none⟩ = some (.int .i64 u) := B_c.out.cell 0 rfl; have c1c : w2.cell? ⟨w.heap.size + 1 + 1, 1, none⟩ = some (.int .i64 v) := B_c.out.cell 1 rfl; have tk1x2 : True := trivial))
  clear c0p c1p c0q c1q c0c c1c
  clear HH HG
  go_upto_region 3 with (fail)
  obtain ⟨c0p, c1p⟩ := cells2 B_p
  obtain ⟨c0q, c1q⟩ := cells2 B_q
  go_quiet (fail)
  clear c0p c1p c0q c1q
  have bb : Below w2.heap.size w2 (w2.drewN nq) := bel_drewN (Below.refl _ _) _
  generalize w2.drewN nq = w3q at *
  replace B_p := mv B_p bb
  replace B_q := mv B_q bb
  replace B_c := mv B_c bb
  replace HB := nx HB bb
  clear bb
  obtain ⟨c0p, c1p⟩ := cells2 B_p
  obtain ⟨c0q, c1q⟩ := cells2 B_q
  obtain ⟨c0c, c1c⟩ := cells2 B_c
  go_wp2
  go_ret
  exact ⟨rfl, nextw HB.out (by exact sm)⟩

set_option maxRecDepth 100000 in
set_option maxHeartbeats 8000000 in
theorem passesBy_s (a b c d u v most : Int) (hp : OkP a b) (hq : OkP c d) (hc : OkP u v) (w1 : -1024 ≤ c - a) (w2 : c - a ≤ 1024) (w3 : -1024 ≤ d - b) (w4 : d - b ≤ 1024) (m0 : 0 ≤ most) (m1 : most ≤ 1048576) (g : gapM u v (min a c) (min b d) (max a c) (max b d) ≤ most) (g1 : 0 < (c - a) * (u - a) + (d - b) * (v - b)) (g2 : (c - a) * (u - a) + (d - b) * (v - b) < (c - a) * (c - a) + (d - b) * (d - b)) (w : World) :
    Calls Try.prog 47 #[.agg #[.int .i64 a, .int .i64 b], .agg #[.int .i64 c, .int .i64 d], .agg #[.int .i64 u, .int .i64 v], .int .i64 most] w fun e w' => e = .returned (.bool (decide (pr a b c d u v * pr a b c d u v ≤ most * ((c - a) * (c - a) + (d - b) * (d - b))))) ∧ Below w.heap.size w w' := by
  have HH := Lib.hid (fun w => hull_any a b c d w)
  have HG := Lib.hid (fun w => Gap_ok u v (min a c) (min b d) (max a c) (max b d) hc (hull_ok hp hq) w)
  have sm1 := gap_small (K := 0) (by omega) (by omega) (show gapM u v (min a c) (min b d) (max a c) (max b d) ≤ 1048576 by omega)
  obtain ⟨⟨z1, z2⟩, z3, z4⟩ := sm1
  have m2 := mul_le (a := c - a) (b := u - a) (A := 2048) (B := 2048) (by omega) (by omega) (by omega) (by omega)
  have m3 := mul_le (a := d - b) (b := v - b) (A := 2048) (B := 2048) (by omega) (by omega) (by omega) (by omega)
  have m4 := mul_le (a := c - a) (b := c - a) (A := 2048) (B := 2048) (by omega) (by omega) (by omega) (by omega)
  have m5 := mul_le (a := d - b) (b := d - b) (A := 2048) (B := 2048) (by omega) (by omega) (by omega) (by omega)
  have m6 := mul_le (a := c - a) (b := v - b) (A := 2048) (B := 2048) (by omega) (by omega) (by omega) (by omega)
  have m7 := mul_le (a := d - b) (b := u - a) (A := 2048) (B := 2048) (by omega) (by omega) (by omega) (by omega)
  have HX := Lib.hid (fun w => product_any a b c d u v hp hq hc w)
  have m8 : -8388608 ≤ pr a b c d u v ∧ pr a b c d u v ≤ 8388608 := by unfold pr; omega
  generalize pr a b c d u v = side at *
  have m9 := mul_le (a := side) (b := side) (A := 8388608) (B := 8388608) m8.1 m8.2 m8.1 m8.2
  have m10 := mul_le (a := most) (b := (c - a) * (c - a) + (d - b) * (d - b)) (A := 1048576) (B := 8388608) (by omega) (by omega) (by omega) (by omega)
  obtain ⟨p1, p2, p3, p4⟩ := hp
  obtain ⟨q1, q2, q3, q4⟩ := hq
  obtain ⟨c1, c2, c3, c4⟩ := hc
  generalize gapM u v (min a c) (min b d) (max a c) (max b d) = gp at *
  generalize min a c = e0 at *
  generalize min b d = e1 at *
  generalize max a c = e2 at *
  generalize max b d = e3 at *
  obtain ⟨HB, B_p, B_q, B_c⟩ := box3 w 23 #[.int .i64 a, .int .i64 b] 23 #[.int .i64 c, .int .i64 d] 23 #[.int .i64 u, .int .i64 v]
  go_enter Try.func47, Try.ntmps47
  go_wp2_with fail
  generalize ((w.alloc (.cells #[.int .i64 a, .int .i64 b] 23)).alloc (.cells #[.int .i64 c, .int .i64 d] 23)).alloc (.cells #[.int .i64 u, .int .i64 v] 23) = W0 at *
  obtain ⟨c0p, c1p⟩ := cells2 B_p
  obtain ⟨c0q, c1q⟩ := cells2 B_q
  obtain ⟨c0c, c1c⟩ := cells2 B_c
  have tk1x0 : True := trivial
  go_region_held3 (fun w' => w'.cell? ⟨w.heap.size, 0, none⟩ = some (.int .i64 a) ∧ w'.cell? ⟨w.heap.size, 1, none⟩ = some (.int .i64 b) ∧ w'.cell? ⟨w.heap.size + 1, 0, none⟩ = some (.int .i64 c) ∧ w'.cell? ⟨w.heap.size + 1, 1, none⟩ = some (.int .i64 d) ∧ w'.cell? ⟨w.heap.size + 1 + 1, 0, none⟩ = some (.int .i64 u) ∧ w'.cell? ⟨w.heap.size + 1 + 1, 1, none⟩ = some (.int .i64 v)) (((try dsimp only); (repeat' apply And.intro) <;> (first | (with_reducible assumption) | ((repeat (first | (with_reducible refine Eq.trans (cell_drew1 _ _) ?_) | (with_reducible refine Eq.trans (cell_far (by omega) _ _ _) ?_) | (with_reducible refine Eq.trans (World.cell?_alloc_lt _ _ _ (by first | (dsimp only; omega) | (simp only [World.size_alloc, World.size_setCell]; omega))) ?_))); with_reducible assumption) | assumption | go_keep)))
    (first
      | (clear tk1x0; go_at_call 55; refine (HH.out _).mono ?_; rintro e w1 ⟨rfl, bb⟩; replace bb := nextw (w0 := W0) (by exact sm) bb; replace B_p := mv B_p bb; replace B_q := mv B_q bb; replace B_c := mv B_c bb; replace HB := nx HB bb; clear bb c0p c1p c0q c1q c0c c1c; have c0p : w1.cell? ⟨w.heap.size, 0, none⟩ = some (.int .i64 a) := B_p.out.cell 0 rfl; have c1p : w1.cell? ⟨w.heap.size, 1, none⟩ = some (.int .i64 b) := B_p.out.cell 1 rfl; have c0q : w1.cell? ⟨w.heap.size + 1, 0, none⟩ = some (.int .i64 c) := B_q.out.cell 0 rfl; have c1q : w1.cell? ⟨w.heap.size + 1, 1, none⟩ = some (.int .i64 d) := B_q.out.cell 1 rfl; have c0c : w1.cell? ⟨w.heap.size + 1 + 1, 0, none⟩ = some (.int .i64 u) := B_c.out.cell 0 rfl; have c1c : w1.cell? ⟨w.heap.size + 1 + 1, 1, none⟩ = some (.int .i64 v) := B_c.out.cell 1 rfl; have tk1x1 : True := trivial)
      | (clear tk1x1; go_at_call 23; refine (HG.out _).mono ?_; rintro e w2 ⟨rfl, bb⟩; replace bb := nextw (w0 := w1) (by exact sm) bb; replace B_p := mv B_p bb; replace B_q := mv B_q bb; replace B_c := mv B_c bb; replace HB := nx HB bb; clear bb c0p c1p c0q c1q c0c c1c; have c0p : w2.cell? ⟨w.heap.size, 0, none⟩ = some (.int .i64 a) := B_p.out.cell 0 rfl; have c1p : w2.cell? ⟨w.heap.size, 1, none⟩ = some (.int .i64 b) := B_p.out.cell 1 rfl; have c0q : w2.cell? ⟨w.heap.size + 1, 0, none⟩ = some (.int .i64 c) := B_q.out.cell 0 rfl; have c1q : w2.cell? ⟨w.heap.size + 1, 1, none⟩ = some (.int .i64 d) := B_q.out.cell 1 rfl; have c0c : w2.cell? ⟨w.heap.size + 1 + 1, 0, none⟩ = some (.int .i64 u) := B_c.out.cell 0 rfl; have c1c : w2.cell? ⟨w.heap.size + 1 + 1, 1, none⟩ = some (.int .i64 v) := B_c.out.cell 1 rfl; have tk1x2 : True := trivial))
  clear c0p c1p c0q c1q c0c c1c
  clear HH HG
  go_upto_region 3 with (fail)
  obtain ⟨c0p, c1p⟩ := cells2 B_p
  obtain ⟨c0q, c1q⟩ := cells2 B_q
  go_quiet (fail)
  clear c0p c1p c0q c1q
  have bb : Below w2.heap.size w2 (w2.drewN nq) := bel_drewN (Below.refl _ _) _
  generalize w2.drewN nq = w3q at *
  replace B_p := mv B_p bb
  replace B_q := mv B_q bb
  replace B_c := mv B_c bb
  replace HB := nx HB bb
  clear bb
  obtain ⟨c0p, c1p⟩ := cells2 B_p
  obtain ⟨c0q, c1q⟩ := cells2 B_q
  obtain ⟨c0c, c1c⟩ := cells2 B_c
  go_wp2_with fail
  refine (HX.out _).mono ?_
  clear c0p c1p c0q c1q c0c c1c
  rintro e w4 ⟨rfl, bb⟩
  replace bb := nextw (w0 := w3q) (by exact sm) bb
  replace B_p := mv B_p bb
  replace B_q := mv B_q bb
  replace B_c := mv B_c bb
  replace HB := nx HB bb
  clear bb
  clear HX
  go_wp2
  go_ret
  exact ⟨(by first | rfl | exact rbt (by omega) | exact rbf (by omega)), nextw HB.out (by exact sm)⟩

theorem passesBy_any (a b c d u v most : Int) (hp : OkP a b) (hq : OkP c d) (hc : OkP u v) (w1 : -1024 ≤ c - a) (w2 : c - a ≤ 1024) (w3 : -1024 ≤ d - b) (w4 : d - b ≤ 1024) (m0 : 0 ≤ most) (m1 : most ≤ 1048576) (w : World) : Calls Try.prog 47 #[.agg #[.int .i64 a, .int .i64 b], .agg #[.int .i64 c, .int .i64 d], .agg #[.int .i64 u, .int .i64 v], .int .i64 most] w fun e w' => e = .returned (.bool (decide (By a b c d u v most))) ∧ Below w.heap.size w w' := by
  by_cases g : gapM u v (min a c) (min b d) (max a c) (max b d) ≤ most
  · by_cases g1 : 0 < (c - a) * (u - a) + (d - b) * (v - b)
    · by_cases g2 : (c - a) * (u - a) + (d - b) * (v - b) < (c - a) * (c - a) + (d - b) * (d - b)
      · have := passesBy_s a b c d u v most hp hq hc w1 w2 w3 w4 m0 m1 g g1 g2 w
        rwa [show decide (pr a b c d u v * pr a b c d u v ≤ most * ((c - a) * (c - a) + (d - b) * (d - b))) = decide (By a b c d u v most) from decide_eq_decide.2 ⟨fun h => ⟨g, g1, g2, h⟩, fun h => h.s⟩] at this
      · rw [decide_eq_false (fun h => g2 h.p2)]; exact passesBy_l a b c d u v most hp hq hc w1 w2 w3 w4 m0 m1 g g1 (by omega) w
    · rw [decide_eq_false (fun h => g1 h.p1)]; exact passesBy_a a b c d u v most hp hq hc w1 w2 w3 w4 m0 m1 g (by omega) w
  · rw [decide_eq_false (fun h => g h.g)]; exact passesBy_g a b c d u v most hp hq hc w1 w2 w3 w4 m0 m1 (by omega) w
end Go.Proofs.Ytaflgmiagjldhaa
