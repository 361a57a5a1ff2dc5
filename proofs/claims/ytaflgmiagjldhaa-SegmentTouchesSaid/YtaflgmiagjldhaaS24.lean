/- The reference's Touch at any arguments; the law SegmentTouches. -/
import Derived.Test.YtaflgmiagjldhaaS16
import Derived.Test.YtaflgmiagjldhaaS23
import Derived.Test.YtaflgmiagjldhaaS10
set_option linter.unusedVariables false
set_option linter.unusedSimpArgs false
namespace Go.Proofs.Ytaflgmiagjldhaa
open Go Go.RowKit Hd

theorem or8 (s0 t0 s1 t1 s2 t2 s3 t3 : Bool) : (((((((s0 || t0) || s1) || t1) || s2) || t2) || s3) || t3) = true ↔ (s0 = true ∨ t0 = true) ∨ (s1 = true ∨ t1 = true) ∨ (s2 = true ∨ t2 = true) ∨ (s3 = true ∨ t3 = true) := by
  cases s0 <;> cases t0 <;> cases s1 <;> cases t1 <;> cases s2 <;> cases t2 <;> cases s3 <;> cases t3 <;> decide
theorem RTouch_any (a b c d x0 y0 x1 y1 k : Int) (w : World) : Calls Try.prog 26 #[.agg #[.int .i64 a, .int .i64 b], .agg #[.int .i64 c, .int .i64 d], .agg #[.int .i64 x0, .int .i64 y0, .int .i64 x1, .int .i64 y1], .int .i64 k] w fun e w' => e = .returned (.bool (decide (TK a b c d x0 y0 x1 y1 k ∧ To a b c d x0 y0 x1 y1 k))) ∧ Below w.heap.size w w' := by
  by_cases hp : OkP a b
  · by_cases hq : OkP c d
    · by_cases hr : OkR x0 y0 x1 y1
      · by_cases k0 : 0 ≤ k
        · by_cases k1 : k ≤ 1024
          · by_cases hx : (-1024 ≤ a - c ∧ a - c ≤ 1024)
            · by_cases hy : (-1024 ≤ b - d ∧ b - d ≤ 1024)
              · have ht : TK a b c d x0 y0 x1 y1 k := ⟨hp, hq, ⟨⟨by omega, by omega⟩, by omega, by omega⟩, hr, k0, k1⟩
                have hw := to_ref (a := a) (b := b) (c := c) (d := d) (k := k) hr.hx hr.hy ⟨by omega, by omega, by omega, by omega, k0, k1⟩
                by_cases h0 : InR a b x0 y0 x1 y1
                · rw [decide_eq_true ⟨ht, hw.2 (.inl (.inl h0))⟩]; exact RTouch_in a b c d x0 y0 x1 y1 k hp hq hr k0 k1 hx hy h0 w
                by_cases h1 : gapM a b x0 y0 x1 y1 ≤ k * k
                · rw [decide_eq_true ⟨ht, hw.2 (.inl (.inr (.inl h1)))⟩]; exact RTouch_gp a b c d x0 y0 x1 y1 k hp hq hr k0 k1 hx hy h0 h1 w
                by_cases h2 : gapM c d x0 y0 x1 y1 ≤ k * k
                · rw [decide_eq_true ⟨ht, hw.2 (.inl (.inr (.inr h2)))⟩]; exact RTouch_gq a b c d x0 y0 x1 y1 k hp hq hr k0 k1 hx hy h0 (by omega) h2 w
                have := RTouch_l a b c d x0 y0 x1 y1 k hp hq hr k0 k1 hx hy h0 (by omega) (by omega) w
                have c00 : OkP x0 y0 := ⟨hr.a1, hr.a2, hr.b1, hr.b2⟩
                have c11 : OkP x1 y1 := ⟨hr.c1, hr.c2, hr.d1, hr.d2⟩
                have c01 : OkP x0 y1 := ⟨hr.a1, hr.a2, hr.d1, hr.d2⟩
                have c10 : OkP x1 y0 := ⟨hr.c1, hr.c2, hr.b1, hr.b2⟩
                rwa [show ((decide (Ok4 a b c d x0 y0 x1 y0 ∧ Cr a b c d x0 y0 x1 y0)) || (decide (Near a b c d x0 y0 k)) || (decide (Ok4 a b c d x1 y0 x1 y1 ∧ Cr a b c d x1 y0 x1 y1)) || (decide (Near a b c d x1 y0 k)) || (decide (Ok4 a b c d x1 y1 x0 y1 ∧ Cr a b c d x1 y1 x0 y1)) || (decide (Near a b c d x1 y1 k)) || (decide (Ok4 a b c d x0 y1 x0 y0 ∧ Cr a b c d x0 y1 x0 y0)) || (decide (Near a b c d x0 y1 k))) = decide (TK a b c d x0 y0 x1 y1 k ∧ To a b c d x0 y0 x1 y1 k) from by
                  rw [Bool.eq_iff_iff, or8]
                  simp only [decide_eq_true_eq]
                  rw [hw]
                  constructor
                  · rintro ((h | h) | (h | h) | (h | h) | (h | h))
                    · exact ⟨ht, .inr (.inl (.inl h.2))⟩
                    · exact ⟨ht, .inr (.inl (.inr h))⟩
                    · exact ⟨ht, .inr (.inr (.inl (.inl h.2)))⟩
                    · exact ⟨ht, .inr (.inr (.inl (.inr h)))⟩
                    · exact ⟨ht, .inr (.inr (.inr (.inl (.inl h.2))))⟩
                    · exact ⟨ht, .inr (.inr (.inr (.inl (.inr h))))⟩
                    · exact ⟨ht, .inr (.inr (.inr (.inr (.inl h.2))))⟩
                    · exact ⟨ht, .inr (.inr (.inr (.inr (.inr h))))⟩
                  · rintro ⟨-, (h | h | h) | (h | h) | (h | h) | (h | h) | (h | h)⟩
                    · exact absurd h h0
                    · exact absurd h h1
                    · exact absurd h h2
                    · exact .inl (.inl ⟨⟨hp, hq, c00, c10⟩, h⟩)
                    · exact .inl (.inr h)
                    · exact .inr (.inl (.inl ⟨⟨hp, hq, c10, c11⟩, h⟩))
                    · exact .inr (.inl (.inr h))
                    · exact .inr (.inr (.inl (.inl ⟨⟨hp, hq, c11, c01⟩, h⟩)))
                    · exact .inr (.inr (.inl (.inr h)))
                    · exact .inr (.inr (.inr (.inl ⟨⟨hp, hq, c01, c00⟩, h⟩)))
                    · exact .inr (.inr (.inr (.inr h)))] at this
              · rw [decide_eq_false (fun h => hy (by have := h.1.w; omega))]; exact RTouch_6 a b c d x0 y0 x1 y1 k hp hq hr k0 k1 hx hy w
            · rw [decide_eq_false (fun h => hx (by have := h.1.w; omega))]; exact RTouch_5 a b c d x0 y0 x1 y1 k hp hq hr k0 k1 hx w
          · rw [decide_eq_false (fun h => k1 h.1.k1)]; exact RTouch_4 a b c d x0 y0 x1 y1 k hp hq hr k0 (by omega) w
        · rw [decide_eq_false (fun h => k0 h.1.k0)]; exact RTouch_3 a b c d x0 y0 x1 y1 k hp hq hr (by omega) w
      · rw [decide_eq_false (fun h => hr h.1.r)]; exact RTouch_2 a b c d x0 y0 x1 y1 k hp hq hr w
    · rw [decide_eq_false (fun h => hq h.1.q)]; exact RTouch_1 a b c d x0 y0 x1 y1 k hp hq w
  · rw [decide_eq_false (fun h => hp h.1.p)]; exact RTouch_0 a b c d x0 y0 x1 y1 k hp w
/-- The gap, or 0 where an argument is not valid. -/
def gv (a b x0 y0 x1 y1 : Int) : Int := if OkP a b ∧ OkR x0 y0 x1 y1 then gapM a b x0 y0 x1 y1 else 0
theorem Gap_any (a b x0 y0 x1 y1 : Int) (w : World) : Calls Try.prog 23 #[.agg #[.int .i64 a, .int .i64 b], .agg #[.int .i64 x0, .int .i64 y0, .int .i64 x1, .int .i64 y1]] w fun e w' => e = .returned (.int .i64 (gv a b x0 y0 x1 y1)) ∧ Below w.heap.size w w' := by
  by_cases hp : OkP a b
  · by_cases hr : OkR x0 y0 x1 y1
    · rw [show gv a b x0 y0 x1 y1 = gapM a b x0 y0 x1 y1 from if_pos ⟨hp, hr⟩]; exact Gap_ok a b x0 y0 x1 y1 hp hr w
    · rw [show gv a b x0 y0 x1 y1 = 0 from if_neg (fun h => hr h.2)]; exact Gap_1 a b x0 y0 x1 y1 hp hr w
  · rw [show gv a b x0 y0 x1 y1 = 0 from if_neg (fun h => hp h.1)]; exact Gap_0 a b x0 y0 x1 y1 hp w
theorem RGap_any (a b x0 y0 x1 y1 : Int) (w : World) : Calls Try.prog 24 #[.agg #[.int .i64 a, .int .i64 b], .agg #[.int .i64 x0, .int .i64 y0, .int .i64 x1, .int .i64 y1]] w fun e w' => e = .returned (.int .i64 (gv a b x0 y0 x1 y1)) ∧ Below w.heap.size w w' := by
  by_cases hp : OkP a b
  · by_cases hr : OkR x0 y0 x1 y1
    · rw [show gv a b x0 y0 x1 y1 = gapM a b x0 y0 x1 y1 from if_pos ⟨hp, hr⟩]; exact RGap_ok a b x0 y0 x1 y1 hp hr w
    · rw [show gv a b x0 y0 x1 y1 = 0 from if_neg (fun h => hr h.2)]; exact RGap_1 a b x0 y0 x1 y1 hp hr w
  · rw [show gv a b x0 y0 x1 y1 = 0 from if_neg (fun h => hp h.1)]; exact RGap_0 a b x0 y0 x1 y1 hp w

set_option maxRecDepth 100000 in
set_option maxHeartbeats 8000000 in
theorem Touches_any (a b c d x0 y0 x1 y1 k : Int) (w : World) :
    Calls Try.prog 5 #[.agg #[.int .i64 a, .int .i64 b, .int .i64 c, .int .i64 d], .agg #[.int .i64 x0, .int .i64 y0, .int .i64 x1, .int .i64 y1], .int .i64 k] w fun e w' => e = .returned (.bool true) ∧ Below w.heap.size w w' := by
  have HA := Lib.hid (fun w => awake_any w)
  have G1 := Lib.hid (fun w => Gap_any a b x0 y0 x1 y1 w)
  have G2 := Lib.hid (fun w => RGap_any a b x0 y0 x1 y1 w)
  have T1 := Lib.hid (fun w => Touch_any a b c d x0 y0 x1 y1 k w)
  have T2 := Lib.hid (fun w => RTouch_any a b c d x0 y0 x1 y1 k w)
  generalize gv a b x0 y0 x1 y1 = g at *
  generalize decide (TK a b c d x0 y0 x1 y1 k ∧ To a b c d x0 y0 x1 y1 k) = t at *
  obtain ⟨HB, B_l, B_r⟩ := box2 w 41 #[.int .i64 a, .int .i64 b, .int .i64 c, .int .i64 d] 29 #[.int .i64 x0, .int .i64 y0, .int .i64 x1, .int .i64 y1]
  go_enter Try.func5, Try.ntmps5
  go_wp2_with fail
  generalize (w.alloc (.cells #[.int .i64 a, .int .i64 b, .int .i64 c, .int .i64 d] 41)).alloc (.cells #[.int .i64 x0, .int .i64 y0, .int .i64 x1, .int .i64 y1] 29) = W0 at *
  refine (HA.out _).mono ?_
  rintro e w1 ⟨rfl, bb⟩
  replace bb := nextw (w0 := W0) (by exact sm) bb
  replace B_l := mv B_l bb
  replace B_r := mv B_r bb
  replace HB := nx HB bb
  clear bb
  clear HA
  go_upto_region 3 with (fail)
  obtain ⟨c0l, c1l, c2l, c3l⟩ := cells4 B_l
  obtain ⟨c0r, c1r, c2r, c3r⟩ := cells4 B_r
  have tk1x0 : True := trivial
  go_region_held3 (fun w' => w'.cell? ⟨w.heap.size, 0, none⟩ = some (.int .i64 a) ∧ w'.cell? ⟨w.heap.size, 1, none⟩ = some (.int .i64 b) ∧ w'.cell? ⟨w.heap.size, 2, none⟩ = some (.int .i64 c) ∧ w'.cell? ⟨w.heap.size, 3, none⟩ = some (.int .i64 d) ∧ w'.cell? ⟨w.heap.size + 1, 0, none⟩ = some (.int .i64 x0) ∧ w'.cell? ⟨w.heap.size + 1, 1, none⟩ = some (.int .i64 y0) ∧ w'.cell? ⟨w.heap.size + 1, 2, none⟩ = some (.int .i64 x1) ∧ w'.cell? ⟨w.heap.size + 1, 3, none⟩ = some (.int .i64 y1)) (((try dsimp only); (repeat' apply And.intro) <;> (first | (with_reducible assumption) | ((repeat (first | (with_reducible refine Eq.trans (cell_drew1 _ _) ?_) | (with_reducible refine Eq.trans (cell_far (by omega) _ _ _) ?_) | (with_reducible refine Eq.trans (World.cell?_alloc_lt _ _ _ (by first | (dsimp only; omega) | (simp only [World.size_alloc, World.size_setCell]; omega))) ?_))); with_reducible assumption) | assumption | go_keep)))
    (first
      | (clear tk1x0; go_at_call 23; refine (G1.out _).mono ?_; rintro e w2 ⟨rfl, bb⟩; replace bb := nextw (w0 := w1) (by exact sm) bb; replace B_l := mv B_l bb; replace B_r := mv B_r bb; replace HB := nx HB bb; clear bb c0l c1l c2l c3l c0r c1r c2r c3r; have c0l : w2.cell? ⟨w.heap.size, 0, none⟩ = some (.int .i64 a) := B_l.out.cell 0 rfl; have c1l : w2.cell? ⟨w.heap.size, 1, none⟩ = some (.int .i64 b) := B_l.out.cell 1 rfl; have c2l : w2.cell? ⟨w.heap.size, 2, none⟩ = some (.int .i64 c) := B_l.out.cell 2 rfl; have c3l : w2.cell? ⟨w.heap.size, 3, none⟩ = some (.int .i64 d) := B_l.out.cell 3 rfl; have c0r : w2.cell? ⟨w.heap.size + 1, 0, none⟩ = some (.int .i64 x0) := B_r.out.cell 0 rfl; have c1r : w2.cell? ⟨w.heap.size + 1, 1, none⟩ = some (.int .i64 y0) := B_r.out.cell 1 rfl; have c2r : w2.cell? ⟨w.heap.size + 1, 2, none⟩ = some (.int .i64 x1) := B_r.out.cell 2 rfl; have c3r : w2.cell? ⟨w.heap.size + 1, 3, none⟩ = some (.int .i64 y1) := B_r.out.cell 3 rfl; have tk1x1 : True := trivial)
      | (clear tk1x1; go_at_call 24; refine (G2.out _).mono ?_; rintro e w3 ⟨rfl, bb⟩; replace bb := nextw (w0 := w2) (by exact sm) bb; replace B_l := mv B_l bb; replace B_r := mv B_r bb; replace HB := nx HB bb; clear bb c0l c1l c2l c3l c0r c1r c2r c3r; have c0l : w3.cell? ⟨w.heap.size, 0, none⟩ = some (.int .i64 a) := B_l.out.cell 0 rfl; have c1l : w3.cell? ⟨w.heap.size, 1, none⟩ = some (.int .i64 b) := B_l.out.cell 1 rfl; have c2l : w3.cell? ⟨w.heap.size, 2, none⟩ = some (.int .i64 c) := B_l.out.cell 2 rfl; have c3l : w3.cell? ⟨w.heap.size, 3, none⟩ = some (.int .i64 d) := B_l.out.cell 3 rfl; have c0r : w3.cell? ⟨w.heap.size + 1, 0, none⟩ = some (.int .i64 x0) := B_r.out.cell 0 rfl; have c1r : w3.cell? ⟨w.heap.size + 1, 1, none⟩ = some (.int .i64 y0) := B_r.out.cell 1 rfl; have c2r : w3.cell? ⟨w.heap.size + 1, 2, none⟩ = some (.int .i64 x1) := B_r.out.cell 2 rfl; have c3r : w3.cell? ⟨w.heap.size + 1, 3, none⟩ = some (.int .i64 y1) := B_r.out.cell 3 rfl; have tk1x2 : True := trivial)
      | (clear tk1x2; go_at_call 25; refine (T1.out _).mono ?_; rintro e w4 ⟨rfl, bb⟩; replace bb := nextw (w0 := w3) (by exact sm) bb; replace B_l := mv B_l bb; replace B_r := mv B_r bb; replace HB := nx HB bb; clear bb c0l c1l c2l c3l c0r c1r c2r c3r; have c0l : w4.cell? ⟨w.heap.size, 0, none⟩ = some (.int .i64 a) := B_l.out.cell 0 rfl; have c1l : w4.cell? ⟨w.heap.size, 1, none⟩ = some (.int .i64 b) := B_l.out.cell 1 rfl; have c2l : w4.cell? ⟨w.heap.size, 2, none⟩ = some (.int .i64 c) := B_l.out.cell 2 rfl; have c3l : w4.cell? ⟨w.heap.size, 3, none⟩ = some (.int .i64 d) := B_l.out.cell 3 rfl; have c0r : w4.cell? ⟨w.heap.size + 1, 0, none⟩ = some (.int .i64 x0) := B_r.out.cell 0 rfl; have c1r : w4.cell? ⟨w.heap.size + 1, 1, none⟩ = some (.int .i64 y0) := B_r.out.cell 1 rfl; have c2r : w4.cell? ⟨w.heap.size + 1, 2, none⟩ = some (.int .i64 x1) := B_r.out.cell 2 rfl; have c3r : w4.cell? ⟨w.heap.size + 1, 3, none⟩ = some (.int .i64 y1) := B_r.out.cell 3 rfl; have tk1x3 : True := trivial)
      | (clear tk1x3; go_at_call 26; refine (T2.out _).mono ?_; rintro e w5 ⟨rfl, bb⟩; replace bb := nextw (w0 := w4) (by exact sm) bb; replace B_l := mv B_l bb; replace B_r := mv B_r bb; replace HB := nx HB bb; clear bb c0l c1l c2l c3l c0r c1r c2r c3r; have c0l : w5.cell? ⟨w.heap.size, 0, none⟩ = some (.int .i64 a) := B_l.out.cell 0 rfl; have c1l : w5.cell? ⟨w.heap.size, 1, none⟩ = some (.int .i64 b) := B_l.out.cell 1 rfl; have c2l : w5.cell? ⟨w.heap.size, 2, none⟩ = some (.int .i64 c) := B_l.out.cell 2 rfl; have c3l : w5.cell? ⟨w.heap.size, 3, none⟩ = some (.int .i64 d) := B_l.out.cell 3 rfl; have c0r : w5.cell? ⟨w.heap.size + 1, 0, none⟩ = some (.int .i64 x0) := B_r.out.cell 0 rfl; have c1r : w5.cell? ⟨w.heap.size + 1, 1, none⟩ = some (.int .i64 y0) := B_r.out.cell 1 rfl; have c2r : w5.cell? ⟨w.heap.size + 1, 2, none⟩ = some (.int .i64 x1) := B_r.out.cell 2 rfl; have c3r : w5.cell? ⟨w.heap.size + 1, 3, none⟩ = some (.int .i64 y1) := B_r.out.cell 3 rfl; have tk1x4 : True := trivial))
  clear c0l c1l c2l c3l c0r c1r c2r c3r
  clear G1 G2 T1 T2
  go_wp2
  go_ret
  exact ⟨rfl, nextw HB.out (by exact sm)⟩
end Go.Proofs.Ytaflgmiagjldhaa
