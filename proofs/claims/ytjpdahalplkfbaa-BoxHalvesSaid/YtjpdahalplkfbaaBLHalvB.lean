/- The law BoxHalves: ways. -/
import Derived.Test.YtjpdahalplkfbaaBAwake
import Derived.Test.YtjpdahalplkfbaaBHalf
set_option linter.unusedVariables false
set_option linter.unusedSimpArgs false
namespace Go.Proofs.Ytjpdahalplkfbaa
open Go Go.RowKit Hd

set_option maxRecDepth 100000 in
set_option maxHeartbeats 4000000 in
theorem Halves0_w4 (x0 y0 x1 y1 f c x y h : Int) (MX0 MX1 MX2 : Int) (mx0 : (volI x0 y0 x1 y1 f c) = MX0) (mx1 : (volI x0 y0 x1 y1 f (c / 2)) = MX1) (mx2 : (volI x0 y0 x1 y1 ((f + c / 2) % 256) (c - c / 2)) = MX2)  (dd0 : OkB x0 y0 x1 y1 f c) (dd1 : ¬ (oneP x0 y0 x1 y1 c)) (dd2 : ¬ (spX x0 y0 x1 y1 c)) (dd3 : ¬ (spY y0 y1 c)) (dd4 : HasP x0 y0 x1 y1 f c x y h) (dd5 : HasP x0 y0 x1 y1 f (c / 2) x y h) (dd6 : ¬ (HasP x0 y0 x1 y1 ((f + c / 2) % 256) (c - c / 2) x y h)) (w : World) :
    Calls Try.prog 7 #[.agg #[.int .i64 x0, .int .i64 y0, .int .i64 x1, .int .i64 y1, .int .i64 f, .int .i64 c], .agg #[.int .i64 x, .int .i64 y, .int .i64 h]] w fun e w' => e = .returned (.bool true) ∧ Below w.heap.size w w' := by
  have H0 := Lib.hid (fun w => awake_true w)
  have H1 := Lib.hid (fun w => Split_h dd0 dd1 dd2 dd3 w)
  have H2 := Lib.hid (fun w => Vol_at mx0 w)
  have H3 := Lib.hid (fun w => Valid_yes (halv_h dd0 dd1 dd2 dd3).oc w)
  have H4 := Lib.hid (fun w => Valid_yes (halv_h dd0 dd1 dd2 dd3).od w)
  have H5 := Lib.hid (fun w => Vol_at mx1 w)
  have H6 := Lib.hid (fun w => Vol_at mx2 w)
  have H7 := Lib.hid (fun w => Vol_at mx0 w)
  have H8 := Lib.hid (fun w => Inside_yes (halv_h dd0 dd1 dd2 dd3).ic w)
  have H9 := Lib.hid (fun w => Inside_yes (halv_h dd0 dd1 dd2 dd3).id w)
  have H10 := Lib.hid (fun w => BMeet_none (halv_h dd0 dd1 dd2 dd3).no w)
  have H11 := Lib.hid (fun w => BoxHas_yes dd4 w)
  have H12 := Lib.hid (fun w => BoxHas_yes dd5 w)
  have H13 := Lib.hid (fun w => BoxHas_no dd6 w)
  have H14 := Lib.hid (fun w => BoxHas_yes dd5 w)
  have H15 := Lib.hid (fun w => BoxHas_no dd6 w)
  replace mx0 := Lib.hid mx0
  replace mx1 := Lib.hid mx1
  replace mx2 := Lib.hid mx2
  have hv := (halv_h dd0 dd1 dd2 dd3)
  have vb0 := hv.vb
  have vs0 := hv.vol
  have w0 := volI_bd x0 y0 x1 y1 f c
  rw [mx0.out] at vb0
  rw [mx0.out, mx1.out, mx2.out] at vs0
  rw [mx0.out] at w0
  clear hv
  have vb1 : decide (1 < MX0) = true := decide_eq_true vb0
  have vs1 : decide (MX1 + MX2 = MX0) = true := decide_eq_true vs0
  have vs2 : (MX1 + MX2 == MX0) = true := decide_eq_true vs0
  have w1 : MX1 + MX2 ≤ 1125900980584704 := by omega
  have w2 : 0 ≤ MX1 + MX2 := by omega
  clear vs0
  obtain ⟨HB, B_z0, B_z1⟩ := box2 w 23 #[.int .i64 x0, .int .i64 y0, .int .i64 x1, .int .i64 y1, .int .i64 f, .int .i64 c] 25 #[.int .i64 x, .int .i64 y, .int .i64 h]
  go_enter Try.func7, Try.ntmps7
  go_upto_region 1 with (fail)
  generalize (w.alloc (.cells #[.int .i64 x0, .int .i64 y0, .int .i64 x1, .int .i64 y1, .int .i64 f, .int .i64 c] 23)).alloc (.cells #[.int .i64 x, .int .i64 y, .int .i64 h] 25) = W0 at *
  go_wp2_with fail
  refine (H0.out _).mono ?_
  rintro e w1 ⟨rfl, bb⟩
  replace bb := nextw (w0 := W0) (by exact sm) bb
  replace B_z0 := mv B_z0 bb
  replace B_z1 := mv B_z1 bb
  replace HB := nx HB bb
  clear bb
  obtain ⟨c0z0, c1z0, c2z0, c3z0, c4z0, c5z0⟩ := cells6 B_z0
  go_wp2_with fail
  refine (H1.out _).mono ?_
  clear c0z0 c1z0 c2z0 c3z0 c4z0 c5z0
  rintro e w2 ⟨rfl, bb⟩
  replace bb := nextw (w0 := w1) (by exact sm) bb
  replace B_z0 := mv B_z0 bb
  replace B_z1 := mv B_z1 bb
  replace HB := nx HB bb
  clear bb
  have lt_z2z0 := B_z0.out.lt
  have lt_z2z1 := B_z1.out.lt
  obtain ⟨bb, B_z2, B_z3⟩ := box2 w2 23 #[.int .i64 x0, .int .i64 y0, .int .i64 x1, .int .i64 y1, .int .i64 f, .int .i64 (c / 2)] 23 #[.int .i64 x0, .int .i64 y0, .int .i64 x1, .int .i64 y1, .int .i64 ((f + c / 2) % 256), .int .i64 (c - c / 2)]
  replace bb := bb.out
  replace B_z0 := mv B_z0 bb
  replace B_z1 := mv B_z1 bb
  replace HB := nx HB bb
  clear bb
  go_upto_region 4 with (fail)
  generalize (w2.alloc (.cells #[.int .i64 x0, .int .i64 y0, .int .i64 x1, .int .i64 y1, .int .i64 f, .int .i64 (c / 2)] 23)).alloc (.cells #[.int .i64 x0, .int .i64 y0, .int .i64 x1, .int .i64 y1, .int .i64 ((f + c / 2) % 256), .int .i64 (c - c / 2)] 23) = WN2 at *
  go_upto_region 6 with (fail)
  have wq6x0 : IntKind.i64.wrap (MX1 + MX2) = MX1 + MX2 := by rw [IntKind.wrap_i64]; omega
  obtain ⟨c0z0, c1z0, c2z0, c3z0, c4z0, c5z0⟩ := cells6 B_z0
  obtain ⟨c0z2, c1z2, c2z2, c3z2, c4z2, c5z2⟩ := cells6 B_z2
  obtain ⟨c0z3, c1z3, c2z3, c3z3, c4z3, c5z3⟩ := cells6 B_z3
  obtain ⟨c0z1, c1z1, c2z1⟩ := cells3 B_z1
  have tk1x0 : True := trivial
  go_region_held3 (fun w' => w'.cell? ⟨w.heap.size, 0, none⟩ = some (.int .i64 x0) ∧ w'.cell? ⟨w.heap.size, 1, none⟩ = some (.int .i64 y0) ∧ w'.cell? ⟨w.heap.size, 2, none⟩ = some (.int .i64 x1) ∧ w'.cell? ⟨w.heap.size, 3, none⟩ = some (.int .i64 y1) ∧ w'.cell? ⟨w.heap.size, 4, none⟩ = some (.int .i64 f) ∧ w'.cell? ⟨w.heap.size, 5, none⟩ = some (.int .i64 c) ∧ w'.cell? ⟨w2.heap.size, 0, none⟩ = some (.int .i64 x0) ∧ w'.cell? ⟨w2.heap.size, 1, none⟩ = some (.int .i64 y0) ∧ w'.cell? ⟨w2.heap.size, 2, none⟩ = some (.int .i64 x1) ∧ w'.cell? ⟨w2.heap.size, 3, none⟩ = some (.int .i64 y1) ∧ w'.cell? ⟨w2.heap.size, 4, none⟩ = some (.int .i64 f) ∧ w'.cell? ⟨w2.heap.size, 5, none⟩ = some (.int .i64 (c / 2)) ∧ w'.cell? ⟨w2.heap.size + 1, 0, none⟩ = some (.int .i64 x0) ∧ w'.cell? ⟨w2.heap.size + 1, 1, none⟩ = some (.int .i64 y0) ∧ w'.cell? ⟨w2.heap.size + 1, 2, none⟩ = some (.int .i64 x1) ∧ w'.cell? ⟨w2.heap.size + 1, 3, none⟩ = some (.int .i64 y1) ∧ w'.cell? ⟨w2.heap.size + 1, 4, none⟩ = some (.int .i64 ((f + c / 2) % 256)) ∧ w'.cell? ⟨w2.heap.size + 1, 5, none⟩ = some (.int .i64 (c - c / 2)) ∧ w'.cell? ⟨w.heap.size + 1, 0, none⟩ = some (.int .i64 x) ∧ w'.cell? ⟨w.heap.size + 1, 1, none⟩ = some (.int .i64 y) ∧ w'.cell? ⟨w.heap.size + 1, 2, none⟩ = some (.int .i64 h)) (((try dsimp only); (repeat' apply And.intro) <;> (first | (with_reducible assumption) | ((repeat (first | (with_reducible refine Eq.trans (cell_drew1 _ _) ?_) | (with_reducible refine Eq.trans (cell_far (by omega) _ _ _) ?_) | (with_reducible refine Eq.trans (World.cell?_alloc_lt _ _ _ (by first | (dsimp only; omega) | (simp only [World.size_alloc, World.size_setCell]; omega))) ?_))); with_reducible assumption) | assumption | go_keep)))
    (first
      | (clear tk1x0; go_at_call 19; refine (H2.out _).mono ?_; rintro e w3 ⟨rfl, bb⟩; replace bb := nextw (w0 := WN2) (by exact sm) bb; replace B_z0 := mv B_z0 bb; replace B_z1 := mv B_z1 bb; replace B_z2 := mv B_z2 bb; replace B_z3 := mv B_z3 bb; replace HB := nx HB bb; clear bb c0z0 c1z0 c2z0 c3z0 c4z0 c5z0 c0z2 c1z2 c2z2 c3z2 c4z2 c5z2 c0z3 c1z3 c2z3 c3z3 c4z3 c5z3 c0z1 c1z1 c2z1; have c0z0 : w3.cell? ⟨w.heap.size, 0, none⟩ = some (.int .i64 x0) := B_z0.out.cell 0 rfl; have c1z0 : w3.cell? ⟨w.heap.size, 1, none⟩ = some (.int .i64 y0) := B_z0.out.cell 1 rfl; have c2z0 : w3.cell? ⟨w.heap.size, 2, none⟩ = some (.int .i64 x1) := B_z0.out.cell 2 rfl; have c3z0 : w3.cell? ⟨w.heap.size, 3, none⟩ = some (.int .i64 y1) := B_z0.out.cell 3 rfl; have c4z0 : w3.cell? ⟨w.heap.size, 4, none⟩ = some (.int .i64 f) := B_z0.out.cell 4 rfl; have c5z0 : w3.cell? ⟨w.heap.size, 5, none⟩ = some (.int .i64 c) := B_z0.out.cell 5 rfl; have c0z2 : w3.cell? ⟨w2.heap.size, 0, none⟩ = some (.int .i64 x0) := B_z2.out.cell 0 rfl; have c1z2 : w3.cell? ⟨w2.heap.size, 1, none⟩ = some (.int .i64 y0) := B_z2.out.cell 1 rfl; have c2z2 : w3.cell? ⟨w2.heap.size, 2, none⟩ = some (.int .i64 x1) := B_z2.out.cell 2 rfl; have c3z2 : w3.cell? ⟨w2.heap.size, 3, none⟩ = some (.int .i64 y1) := B_z2.out.cell 3 rfl; have c4z2 : w3.cell? ⟨w2.heap.size, 4, none⟩ = some (.int .i64 f) := B_z2.out.cell 4 rfl; have c5z2 : w3.cell? ⟨w2.heap.size, 5, none⟩ = some (.int .i64 (c / 2)) := B_z2.out.cell 5 rfl; have c0z3 : w3.cell? ⟨w2.heap.size + 1, 0, none⟩ = some (.int .i64 x0) := B_z3.out.cell 0 rfl; have c1z3 : w3.cell? ⟨w2.heap.size + 1, 1, none⟩ = some (.int .i64 y0) := B_z3.out.cell 1 rfl; have c2z3 : w3.cell? ⟨w2.heap.size + 1, 2, none⟩ = some (.int .i64 x1) := B_z3.out.cell 2 rfl; have c3z3 : w3.cell? ⟨w2.heap.size + 1, 3, none⟩ = some (.int .i64 y1) := B_z3.out.cell 3 rfl; have c4z3 : w3.cell? ⟨w2.heap.size + 1, 4, none⟩ = some (.int .i64 ((f + c / 2) % 256)) := B_z3.out.cell 4 rfl; have c5z3 : w3.cell? ⟨w2.heap.size + 1, 5, none⟩ = some (.int .i64 (c - c / 2)) := B_z3.out.cell 5 rfl; have c0z1 : w3.cell? ⟨w.heap.size + 1, 0, none⟩ = some (.int .i64 x) := B_z1.out.cell 0 rfl; have c1z1 : w3.cell? ⟨w.heap.size + 1, 1, none⟩ = some (.int .i64 y) := B_z1.out.cell 1 rfl; have c2z1 : w3.cell? ⟨w.heap.size + 1, 2, none⟩ = some (.int .i64 h) := B_z1.out.cell 2 rfl; have tk1x1 : True := trivial)
      | (clear tk1x1; go_at_call 15; refine (H3.out _).mono ?_; rintro e w4 ⟨rfl, bb⟩; replace bb := nextw (w0 := w3) (by exact sm) bb; replace B_z0 := mv B_z0 bb; replace B_z1 := mv B_z1 bb; replace B_z2 := mv B_z2 bb; replace B_z3 := mv B_z3 bb; replace HB := nx HB bb; clear bb c0z0 c1z0 c2z0 c3z0 c4z0 c5z0 c0z2 c1z2 c2z2 c3z2 c4z2 c5z2 c0z3 c1z3 c2z3 c3z3 c4z3 c5z3 c0z1 c1z1 c2z1; have c0z0 : w4.cell? ⟨w.heap.size, 0, none⟩ = some (.int .i64 x0) := B_z0.out.cell 0 rfl; have c1z0 : w4.cell? ⟨w.heap.size, 1, none⟩ = some (.int .i64 y0) := B_z0.out.cell 1 rfl; have c2z0 : w4.cell? ⟨w.heap.size, 2, none⟩ = some (.int .i64 x1) := B_z0.out.cell 2 rfl; have c3z0 : w4.cell? ⟨w.heap.size, 3, none⟩ = some (.int .i64 y1) := B_z0.out.cell 3 rfl; have c4z0 : w4.cell? ⟨w.heap.size, 4, none⟩ = some (.int .i64 f) := B_z0.out.cell 4 rfl; have c5z0 : w4.cell? ⟨w.heap.size, 5, none⟩ = some (.int .i64 c) := B_z0.out.cell 5 rfl; have c0z2 : w4.cell? ⟨w2.heap.size, 0, none⟩ = some (.int .i64 x0) := B_z2.out.cell 0 rfl; have c1z2 : w4.cell? ⟨w2.heap.size, 1, none⟩ = some (.int .i64 y0) := B_z2.out.cell 1 rfl; have c2z2 : w4.cell? ⟨w2.heap.size, 2, none⟩ = some (.int .i64 x1) := B_z2.out.cell 2 rfl; have c3z2 : w4.cell? ⟨w2.heap.size, 3, none⟩ = some (.int .i64 y1) := B_z2.out.cell 3 rfl; have c4z2 : w4.cell? ⟨w2.heap.size, 4, none⟩ = some (.int .i64 f) := B_z2.out.cell 4 rfl; have c5z2 : w4.cell? ⟨w2.heap.size, 5, none⟩ = some (.int .i64 (c / 2)) := B_z2.out.cell 5 rfl; have c0z3 : w4.cell? ⟨w2.heap.size + 1, 0, none⟩ = some (.int .i64 x0) := B_z3.out.cell 0 rfl; have c1z3 : w4.cell? ⟨w2.heap.size + 1, 1, none⟩ = some (.int .i64 y0) := B_z3.out.cell 1 rfl; have c2z3 : w4.cell? ⟨w2.heap.size + 1, 2, none⟩ = some (.int .i64 x1) := B_z3.out.cell 2 rfl; have c3z3 : w4.cell? ⟨w2.heap.size + 1, 3, none⟩ = some (.int .i64 y1) := B_z3.out.cell 3 rfl; have c4z3 : w4.cell? ⟨w2.heap.size + 1, 4, none⟩ = some (.int .i64 ((f + c / 2) % 256)) := B_z3.out.cell 4 rfl; have c5z3 : w4.cell? ⟨w2.heap.size + 1, 5, none⟩ = some (.int .i64 (c - c / 2)) := B_z3.out.cell 5 rfl; have c0z1 : w4.cell? ⟨w.heap.size + 1, 0, none⟩ = some (.int .i64 x) := B_z1.out.cell 0 rfl; have c1z1 : w4.cell? ⟨w.heap.size + 1, 1, none⟩ = some (.int .i64 y) := B_z1.out.cell 1 rfl; have c2z1 : w4.cell? ⟨w.heap.size + 1, 2, none⟩ = some (.int .i64 h) := B_z1.out.cell 2 rfl; have tk1x2 : True := trivial)
      | (clear tk1x2; go_at_call 15; refine (H4.out _).mono ?_; rintro e w5 ⟨rfl, bb⟩; replace bb := nextw (w0 := w4) (by exact sm) bb; replace B_z0 := mv B_z0 bb; replace B_z1 := mv B_z1 bb; replace B_z2 := mv B_z2 bb; replace B_z3 := mv B_z3 bb; replace HB := nx HB bb; clear bb c0z0 c1z0 c2z0 c3z0 c4z0 c5z0 c0z2 c1z2 c2z2 c3z2 c4z2 c5z2 c0z3 c1z3 c2z3 c3z3 c4z3 c5z3 c0z1 c1z1 c2z1; have c0z0 : w5.cell? ⟨w.heap.size, 0, none⟩ = some (.int .i64 x0) := B_z0.out.cell 0 rfl; have c1z0 : w5.cell? ⟨w.heap.size, 1, none⟩ = some (.int .i64 y0) := B_z0.out.cell 1 rfl; have c2z0 : w5.cell? ⟨w.heap.size, 2, none⟩ = some (.int .i64 x1) := B_z0.out.cell 2 rfl; have c3z0 : w5.cell? ⟨w.heap.size, 3, none⟩ = some (.int .i64 y1) := B_z0.out.cell 3 rfl; have c4z0 : w5.cell? ⟨w.heap.size, 4, none⟩ = some (.int .i64 f) := B_z0.out.cell 4 rfl; have c5z0 : w5.cell? ⟨w.heap.size, 5, none⟩ = some (.int .i64 c) := B_z0.out.cell 5 rfl; have c0z2 : w5.cell? ⟨w2.heap.size, 0, none⟩ = some (.int .i64 x0) := B_z2.out.cell 0 rfl; have c1z2 : w5.cell? ⟨w2.heap.size, 1, none⟩ = some (.int .i64 y0) := B_z2.out.cell 1 rfl; have c2z2 : w5.cell? ⟨w2.heap.size, 2, none⟩ = some (.int .i64 x1) := B_z2.out.cell 2 rfl; have c3z2 : w5.cell? ⟨w2.heap.size, 3, none⟩ = some (.int .i64 y1) := B_z2.out.cell 3 rfl; have c4z2 : w5.cell? ⟨w2.heap.size, 4, none⟩ = some (.int .i64 f) := B_z2.out.cell 4 rfl; have c5z2 : w5.cell? ⟨w2.heap.size, 5, none⟩ = some (.int .i64 (c / 2)) := B_z2.out.cell 5 rfl; have c0z3 : w5.cell? ⟨w2.heap.size + 1, 0, none⟩ = some (.int .i64 x0) := B_z3.out.cell 0 rfl; have c1z3 : w5.cell? ⟨w2.heap.size + 1, 1, none⟩ = some (.int .i64 y0) := B_z3.out.cell 1 rfl; have c2z3 : w5.cell? ⟨w2.heap.size + 1, 2, none⟩ = some (.int .i64 x1) := B_z3.out.cell 2 rfl; have c3z3 : w5.cell? ⟨w2.heap.size + 1, 3, none⟩ = some (.int .i64 y1) := B_z3.out.cell 3 rfl; have c4z3 : w5.cell? ⟨w2.heap.size + 1, 4, none⟩ = some (.int .i64 ((f + c / 2) % 256)) := B_z3.out.cell 4 rfl; have c5z3 : w5.cell? ⟨w2.heap.size + 1, 5, none⟩ = some (.int .i64 (c - c / 2)) := B_z3.out.cell 5 rfl; have c0z1 : w5.cell? ⟨w.heap.size + 1, 0, none⟩ = some (.int .i64 x) := B_z1.out.cell 0 rfl; have c1z1 : w5.cell? ⟨w.heap.size + 1, 1, none⟩ = some (.int .i64 y) := B_z1.out.cell 1 rfl; have c2z1 : w5.cell? ⟨w.heap.size + 1, 2, none⟩ = some (.int .i64 h) := B_z1.out.cell 2 rfl; have tk1x3 : True := trivial)
      | (clear tk1x3; go_at_call 19; refine (H5.out _).mono ?_; rintro e w6 ⟨rfl, bb⟩; replace bb := nextw (w0 := w5) (by exact sm) bb; replace B_z0 := mv B_z0 bb; replace B_z1 := mv B_z1 bb; replace B_z2 := mv B_z2 bb; replace B_z3 := mv B_z3 bb; replace HB := nx HB bb; clear bb c0z0 c1z0 c2z0 c3z0 c4z0 c5z0 c0z2 c1z2 c2z2 c3z2 c4z2 c5z2 c0z3 c1z3 c2z3 c3z3 c4z3 c5z3 c0z1 c1z1 c2z1; have c0z0 : w6.cell? ⟨w.heap.size, 0, none⟩ = some (.int .i64 x0) := B_z0.out.cell 0 rfl; have c1z0 : w6.cell? ⟨w.heap.size, 1, none⟩ = some (.int .i64 y0) := B_z0.out.cell 1 rfl; have c2z0 : w6.cell? ⟨w.heap.size, 2, none⟩ = some (.int .i64 x1) := B_z0.out.cell 2 rfl; have c3z0 : w6.cell? ⟨w.heap.size, 3, none⟩ = some (.int .i64 y1) := B_z0.out.cell 3 rfl; have c4z0 : w6.cell? ⟨w.heap.size, 4, none⟩ = some (.int .i64 f) := B_z0.out.cell 4 rfl; have c5z0 : w6.cell? ⟨w.heap.size, 5, none⟩ = some (.int .i64 c) := B_z0.out.cell 5 rfl; have c0z2 : w6.cell? ⟨w2.heap.size, 0, none⟩ = some (.int .i64 x0) := B_z2.out.cell 0 rfl; have c1z2 : w6.cell? ⟨w2.heap.size, 1, none⟩ = some (.int .i64 y0) := B_z2.out.cell 1 rfl; have c2z2 : w6.cell? ⟨w2.heap.size, 2, none⟩ = some (.int .i64 x1) := B_z2.out.cell 2 rfl; have c3z2 : w6.cell? ⟨w2.heap.size, 3, none⟩ = some (.int .i64 y1) := B_z2.out.cell 3 rfl; have c4z2 : w6.cell? ⟨w2.heap.size, 4, none⟩ = some (.int .i64 f) := B_z2.out.cell 4 rfl; have c5z2 : w6.cell? ⟨w2.heap.size, 5, none⟩ = some (.int .i64 (c / 2)) := B_z2.out.cell 5 rfl; have c0z3 : w6.cell? ⟨w2.heap.size + 1, 0, none⟩ = some (.int .i64 x0) := B_z3.out.cell 0 rfl; have c1z3 : w6.cell? ⟨w2.heap.size + 1, 1, none⟩ = some (.int .i64 y0) := B_z3.out.cell 1 rfl; have c2z3 : w6.cell? ⟨w2.heap.size + 1, 2, none⟩ = some (.int .i64 x1) := B_z3.out.cell 2 rfl; have c3z3 : w6.cell? ⟨w2.heap.size + 1, 3, none⟩ = some (.int .i64 y1) := B_z3.out.cell 3 rfl; have c4z3 : w6.cell? ⟨w2.heap.size + 1, 4, none⟩ = some (.int .i64 ((f + c / 2) % 256)) := B_z3.out.cell 4 rfl; have c5z3 : w6.cell? ⟨w2.heap.size + 1, 5, none⟩ = some (.int .i64 (c - c / 2)) := B_z3.out.cell 5 rfl; have c0z1 : w6.cell? ⟨w.heap.size + 1, 0, none⟩ = some (.int .i64 x) := B_z1.out.cell 0 rfl; have c1z1 : w6.cell? ⟨w.heap.size + 1, 1, none⟩ = some (.int .i64 y) := B_z1.out.cell 1 rfl; have c2z1 : w6.cell? ⟨w.heap.size + 1, 2, none⟩ = some (.int .i64 h) := B_z1.out.cell 2 rfl; have tk1x4 : True := trivial)
      | (clear tk1x4; go_at_call 19; refine (H6.out _).mono ?_; rintro e w7 ⟨rfl, bb⟩; replace bb := nextw (w0 := w6) (by exact sm) bb; replace B_z0 := mv B_z0 bb; replace B_z1 := mv B_z1 bb; replace B_z2 := mv B_z2 bb; replace B_z3 := mv B_z3 bb; replace HB := nx HB bb; clear bb c0z0 c1z0 c2z0 c3z0 c4z0 c5z0 c0z2 c1z2 c2z2 c3z2 c4z2 c5z2 c0z3 c1z3 c2z3 c3z3 c4z3 c5z3 c0z1 c1z1 c2z1; have c0z0 : w7.cell? ⟨w.heap.size, 0, none⟩ = some (.int .i64 x0) := B_z0.out.cell 0 rfl; have c1z0 : w7.cell? ⟨w.heap.size, 1, none⟩ = some (.int .i64 y0) := B_z0.out.cell 1 rfl; have c2z0 : w7.cell? ⟨w.heap.size, 2, none⟩ = some (.int .i64 x1) := B_z0.out.cell 2 rfl; have c3z0 : w7.cell? ⟨w.heap.size, 3, none⟩ = some (.int .i64 y1) := B_z0.out.cell 3 rfl; have c4z0 : w7.cell? ⟨w.heap.size, 4, none⟩ = some (.int .i64 f) := B_z0.out.cell 4 rfl; have c5z0 : w7.cell? ⟨w.heap.size, 5, none⟩ = some (.int .i64 c) := B_z0.out.cell 5 rfl; have c0z2 : w7.cell? ⟨w2.heap.size, 0, none⟩ = some (.int .i64 x0) := B_z2.out.cell 0 rfl; have c1z2 : w7.cell? ⟨w2.heap.size, 1, none⟩ = some (.int .i64 y0) := B_z2.out.cell 1 rfl; have c2z2 : w7.cell? ⟨w2.heap.size, 2, none⟩ = some (.int .i64 x1) := B_z2.out.cell 2 rfl; have c3z2 : w7.cell? ⟨w2.heap.size, 3, none⟩ = some (.int .i64 y1) := B_z2.out.cell 3 rfl; have c4z2 : w7.cell? ⟨w2.heap.size, 4, none⟩ = some (.int .i64 f) := B_z2.out.cell 4 rfl; have c5z2 : w7.cell? ⟨w2.heap.size, 5, none⟩ = some (.int .i64 (c / 2)) := B_z2.out.cell 5 rfl; have c0z3 : w7.cell? ⟨w2.heap.size + 1, 0, none⟩ = some (.int .i64 x0) := B_z3.out.cell 0 rfl; have c1z3 : w7.cell? ⟨w2.heap.size + 1, 1, none⟩ = some (.int .i64 y0) := B_z3.out.cell 1 rfl; have c2z3 : w7.cell? ⟨w2.heap.size + 1, 2, none⟩ = some (.int .i64 x1) := B_z3.out.cell 2 rfl; have c3z3 : w7.cell? ⟨w2.heap.size + 1, 3, none⟩ = some (.int .i64 y1) := B_z3.out.cell 3 rfl; have c4z3 : w7.cell? ⟨w2.heap.size + 1, 4, none⟩ = some (.int .i64 ((f + c / 2) % 256)) := B_z3.out.cell 4 rfl; have c5z3 : w7.cell? ⟨w2.heap.size + 1, 5, none⟩ = some (.int .i64 (c - c / 2)) := B_z3.out.cell 5 rfl; have c0z1 : w7.cell? ⟨w.heap.size + 1, 0, none⟩ = some (.int .i64 x) := B_z1.out.cell 0 rfl; have c1z1 : w7.cell? ⟨w.heap.size + 1, 1, none⟩ = some (.int .i64 y) := B_z1.out.cell 1 rfl; have c2z1 : w7.cell? ⟨w.heap.size + 1, 2, none⟩ = some (.int .i64 h) := B_z1.out.cell 2 rfl; have tk1x5 : True := trivial)
      | (clear tk1x5; go_at_call 19; refine (H7.out _).mono ?_; rintro e w8 ⟨rfl, bb⟩; replace bb := nextw (w0 := w7) (by exact sm) bb; replace B_z0 := mv B_z0 bb; replace B_z1 := mv B_z1 bb; replace B_z2 := mv B_z2 bb; replace B_z3 := mv B_z3 bb; replace HB := nx HB bb; clear bb c0z0 c1z0 c2z0 c3z0 c4z0 c5z0 c0z2 c1z2 c2z2 c3z2 c4z2 c5z2 c0z3 c1z3 c2z3 c3z3 c4z3 c5z3 c0z1 c1z1 c2z1; have c0z0 : w8.cell? ⟨w.heap.size, 0, none⟩ = some (.int .i64 x0) := B_z0.out.cell 0 rfl; have c1z0 : w8.cell? ⟨w.heap.size, 1, none⟩ = some (.int .i64 y0) := B_z0.out.cell 1 rfl; have c2z0 : w8.cell? ⟨w.heap.size, 2, none⟩ = some (.int .i64 x1) := B_z0.out.cell 2 rfl; have c3z0 : w8.cell? ⟨w.heap.size, 3, none⟩ = some (.int .i64 y1) := B_z0.out.cell 3 rfl; have c4z0 : w8.cell? ⟨w.heap.size, 4, none⟩ = some (.int .i64 f) := B_z0.out.cell 4 rfl; have c5z0 : w8.cell? ⟨w.heap.size, 5, none⟩ = some (.int .i64 c) := B_z0.out.cell 5 rfl; have c0z2 : w8.cell? ⟨w2.heap.size, 0, none⟩ = some (.int .i64 x0) := B_z2.out.cell 0 rfl; have c1z2 : w8.cell? ⟨w2.heap.size, 1, none⟩ = some (.int .i64 y0) := B_z2.out.cell 1 rfl; have c2z2 : w8.cell? ⟨w2.heap.size, 2, none⟩ = some (.int .i64 x1) := B_z2.out.cell 2 rfl; have c3z2 : w8.cell? ⟨w2.heap.size, 3, none⟩ = some (.int .i64 y1) := B_z2.out.cell 3 rfl; have c4z2 : w8.cell? ⟨w2.heap.size, 4, none⟩ = some (.int .i64 f) := B_z2.out.cell 4 rfl; have c5z2 : w8.cell? ⟨w2.heap.size, 5, none⟩ = some (.int .i64 (c / 2)) := B_z2.out.cell 5 rfl; have c0z3 : w8.cell? ⟨w2.heap.size + 1, 0, none⟩ = some (.int .i64 x0) := B_z3.out.cell 0 rfl; have c1z3 : w8.cell? ⟨w2.heap.size + 1, 1, none⟩ = some (.int .i64 y0) := B_z3.out.cell 1 rfl; have c2z3 : w8.cell? ⟨w2.heap.size + 1, 2, none⟩ = some (.int .i64 x1) := B_z3.out.cell 2 rfl; have c3z3 : w8.cell? ⟨w2.heap.size + 1, 3, none⟩ = some (.int .i64 y1) := B_z3.out.cell 3 rfl; have c4z3 : w8.cell? ⟨w2.heap.size + 1, 4, none⟩ = some (.int .i64 ((f + c / 2) % 256)) := B_z3.out.cell 4 rfl; have c5z3 : w8.cell? ⟨w2.heap.size + 1, 5, none⟩ = some (.int .i64 (c - c / 2)) := B_z3.out.cell 5 rfl; have c0z1 : w8.cell? ⟨w.heap.size + 1, 0, none⟩ = some (.int .i64 x) := B_z1.out.cell 0 rfl; have c1z1 : w8.cell? ⟨w.heap.size + 1, 1, none⟩ = some (.int .i64 y) := B_z1.out.cell 1 rfl; have c2z1 : w8.cell? ⟨w.heap.size + 1, 2, none⟩ = some (.int .i64 h) := B_z1.out.cell 2 rfl; have tk1x6 : True := trivial)
      | (clear tk1x6; go_at_call 24; refine (H8.out _).mono ?_; rintro e w9 ⟨rfl, bb⟩; replace bb := nextw (w0 := w8) (by exact sm) bb; replace B_z0 := mv B_z0 bb; replace B_z1 := mv B_z1 bb; replace B_z2 := mv B_z2 bb; replace B_z3 := mv B_z3 bb; replace HB := nx HB bb; clear bb c0z0 c1z0 c2z0 c3z0 c4z0 c5z0 c0z2 c1z2 c2z2 c3z2 c4z2 c5z2 c0z3 c1z3 c2z3 c3z3 c4z3 c5z3 c0z1 c1z1 c2z1; have c0z0 : w9.cell? ⟨w.heap.size, 0, none⟩ = some (.int .i64 x0) := B_z0.out.cell 0 rfl; have c1z0 : w9.cell? ⟨w.heap.size, 1, none⟩ = some (.int .i64 y0) := B_z0.out.cell 1 rfl; have c2z0 : w9.cell? ⟨w.heap.size, 2, none⟩ = some (.int .i64 x1) := B_z0.out.cell 2 rfl; have c3z0 : w9.cell? ⟨w.heap.size, 3, none⟩ = some (.int .i64 y1) := B_z0.out.cell 3 rfl; have c4z0 : w9.cell? ⟨w.heap.size, 4, none⟩ = some (.int .i64 f) := B_z0.out.cell 4 rfl; have c5z0 : w9.cell? ⟨w.heap.size, 5, none⟩ = some (.int .i64 c) := B_z0.out.cell 5 rfl; have c0z2 : w9.cell? ⟨w2.heap.size, 0, none⟩ = some (.int .i64 x0) := B_z2.out.cell 0 rfl; have c1z2 : w9.cell? ⟨w2.heap.size, 1, none⟩ = some (.int .i64 y0) := B_z2.out.cell 1 rfl; have c2z2 : w9.cell? ⟨w2.heap.size, 2, none⟩ = some (.int .i64 x1) := B_z2.out.cell 2 rfl; have c3z2 : w9.cell? ⟨w2.heap.size, 3, none⟩ = some (.int .i64 y1) := B_z2.out.cell 3 rfl; have c4z2 : w9.cell? ⟨w2.heap.size, 4, none⟩ = some (.int .i64 f) := B_z2.out.cell 4 rfl; have c5z2 : w9.cell? ⟨w2.heap.size, 5, none⟩ = some (.int .i64 (c / 2)) := B_z2.out.cell 5 rfl; have c0z3 : w9.cell? ⟨w2.heap.size + 1, 0, none⟩ = some (.int .i64 x0) := B_z3.out.cell 0 rfl; have c1z3 : w9.cell? ⟨w2.heap.size + 1, 1, none⟩ = some (.int .i64 y0) := B_z3.out.cell 1 rfl; have c2z3 : w9.cell? ⟨w2.heap.size + 1, 2, none⟩ = some (.int .i64 x1) := B_z3.out.cell 2 rfl; have c3z3 : w9.cell? ⟨w2.heap.size + 1, 3, none⟩ = some (.int .i64 y1) := B_z3.out.cell 3 rfl; have c4z3 : w9.cell? ⟨w2.heap.size + 1, 4, none⟩ = some (.int .i64 ((f + c / 2) % 256)) := B_z3.out.cell 4 rfl; have c5z3 : w9.cell? ⟨w2.heap.size + 1, 5, none⟩ = some (.int .i64 (c - c / 2)) := B_z3.out.cell 5 rfl; have c0z1 : w9.cell? ⟨w.heap.size + 1, 0, none⟩ = some (.int .i64 x) := B_z1.out.cell 0 rfl; have c1z1 : w9.cell? ⟨w.heap.size + 1, 1, none⟩ = some (.int .i64 y) := B_z1.out.cell 1 rfl; have c2z1 : w9.cell? ⟨w.heap.size + 1, 2, none⟩ = some (.int .i64 h) := B_z1.out.cell 2 rfl; have tk1x7 : True := trivial)
      | (clear tk1x7; go_at_call 24; refine (H9.out _).mono ?_; rintro e w10 ⟨rfl, bb⟩; replace bb := nextw (w0 := w9) (by exact sm) bb; replace B_z0 := mv B_z0 bb; replace B_z1 := mv B_z1 bb; replace B_z2 := mv B_z2 bb; replace B_z3 := mv B_z3 bb; replace HB := nx HB bb; clear bb c0z0 c1z0 c2z0 c3z0 c4z0 c5z0 c0z2 c1z2 c2z2 c3z2 c4z2 c5z2 c0z3 c1z3 c2z3 c3z3 c4z3 c5z3 c0z1 c1z1 c2z1; have c0z0 : w10.cell? ⟨w.heap.size, 0, none⟩ = some (.int .i64 x0) := B_z0.out.cell 0 rfl; have c1z0 : w10.cell? ⟨w.heap.size, 1, none⟩ = some (.int .i64 y0) := B_z0.out.cell 1 rfl; have c2z0 : w10.cell? ⟨w.heap.size, 2, none⟩ = some (.int .i64 x1) := B_z0.out.cell 2 rfl; have c3z0 : w10.cell? ⟨w.heap.size, 3, none⟩ = some (.int .i64 y1) := B_z0.out.cell 3 rfl; have c4z0 : w10.cell? ⟨w.heap.size, 4, none⟩ = some (.int .i64 f) := B_z0.out.cell 4 rfl; have c5z0 : w10.cell? ⟨w.heap.size, 5, none⟩ = some (.int .i64 c) := B_z0.out.cell 5 rfl; have c0z2 : w10.cell? ⟨w2.heap.size, 0, none⟩ = some (.int .i64 x0) := B_z2.out.cell 0 rfl; have c1z2 : w10.cell? ⟨w2.heap.size, 1, none⟩ = some (.int .i64 y0) := B_z2.out.cell 1 rfl; have c2z2 : w10.cell? ⟨w2.heap.size, 2, none⟩ = some (.int .i64 x1) := B_z2.out.cell 2 rfl; have c3z2 : w10.cell? ⟨w2.heap.size, 3, none⟩ = some (.int .i64 y1) := B_z2.out.cell 3 rfl; have c4z2 : w10.cell? ⟨w2.heap.size, 4, none⟩ = some (.int .i64 f) := B_z2.out.cell 4 rfl; have c5z2 : w10.cell? ⟨w2.heap.size, 5, none⟩ = some (.int .i64 (c / 2)) := B_z2.out.cell 5 rfl; have c0z3 : w10.cell? ⟨w2.heap.size + 1, 0, none⟩ = some (.int .i64 x0) := B_z3.out.cell 0 rfl; have c1z3 : w10.cell? ⟨w2.heap.size + 1, 1, none⟩ = some (.int .i64 y0) := B_z3.out.cell 1 rfl; have c2z3 : w10.cell? ⟨w2.heap.size + 1, 2, none⟩ = some (.int .i64 x1) := B_z3.out.cell 2 rfl; have c3z3 : w10.cell? ⟨w2.heap.size + 1, 3, none⟩ = some (.int .i64 y1) := B_z3.out.cell 3 rfl; have c4z3 : w10.cell? ⟨w2.heap.size + 1, 4, none⟩ = some (.int .i64 ((f + c / 2) % 256)) := B_z3.out.cell 4 rfl; have c5z3 : w10.cell? ⟨w2.heap.size + 1, 5, none⟩ = some (.int .i64 (c - c / 2)) := B_z3.out.cell 5 rfl; have c0z1 : w10.cell? ⟨w.heap.size + 1, 0, none⟩ = some (.int .i64 x) := B_z1.out.cell 0 rfl; have c1z1 : w10.cell? ⟨w.heap.size + 1, 1, none⟩ = some (.int .i64 y) := B_z1.out.cell 1 rfl; have c2z1 : w10.cell? ⟨w.heap.size + 1, 2, none⟩ = some (.int .i64 h) := B_z1.out.cell 2 rfl; have tk1x8 : True := trivial)
      | (clear tk1x8; go_at_call 22; refine (H10.out _).mono ?_; rintro e w11 ⟨A, cap, rfl, bb⟩; replace bb := nextw (w0 := w10) (by exact sm) bb; replace B_z0 := mv B_z0 bb; replace B_z1 := mv B_z1 bb; replace B_z2 := mv B_z2 bb; replace B_z3 := mv B_z3 bb; replace HB := nx HB bb; clear bb c0z0 c1z0 c2z0 c3z0 c4z0 c5z0 c0z2 c1z2 c2z2 c3z2 c4z2 c5z2 c0z3 c1z3 c2z3 c3z3 c4z3 c5z3 c0z1 c1z1 c2z1; have c0z0 : w11.cell? ⟨w.heap.size, 0, none⟩ = some (.int .i64 x0) := B_z0.out.cell 0 rfl; have c1z0 : w11.cell? ⟨w.heap.size, 1, none⟩ = some (.int .i64 y0) := B_z0.out.cell 1 rfl; have c2z0 : w11.cell? ⟨w.heap.size, 2, none⟩ = some (.int .i64 x1) := B_z0.out.cell 2 rfl; have c3z0 : w11.cell? ⟨w.heap.size, 3, none⟩ = some (.int .i64 y1) := B_z0.out.cell 3 rfl; have c4z0 : w11.cell? ⟨w.heap.size, 4, none⟩ = some (.int .i64 f) := B_z0.out.cell 4 rfl; have c5z0 : w11.cell? ⟨w.heap.size, 5, none⟩ = some (.int .i64 c) := B_z0.out.cell 5 rfl; have c0z2 : w11.cell? ⟨w2.heap.size, 0, none⟩ = some (.int .i64 x0) := B_z2.out.cell 0 rfl; have c1z2 : w11.cell? ⟨w2.heap.size, 1, none⟩ = some (.int .i64 y0) := B_z2.out.cell 1 rfl; have c2z2 : w11.cell? ⟨w2.heap.size, 2, none⟩ = some (.int .i64 x1) := B_z2.out.cell 2 rfl; have c3z2 : w11.cell? ⟨w2.heap.size, 3, none⟩ = some (.int .i64 y1) := B_z2.out.cell 3 rfl; have c4z2 : w11.cell? ⟨w2.heap.size, 4, none⟩ = some (.int .i64 f) := B_z2.out.cell 4 rfl; have c5z2 : w11.cell? ⟨w2.heap.size, 5, none⟩ = some (.int .i64 (c / 2)) := B_z2.out.cell 5 rfl; have c0z3 : w11.cell? ⟨w2.heap.size + 1, 0, none⟩ = some (.int .i64 x0) := B_z3.out.cell 0 rfl; have c1z3 : w11.cell? ⟨w2.heap.size + 1, 1, none⟩ = some (.int .i64 y0) := B_z3.out.cell 1 rfl; have c2z3 : w11.cell? ⟨w2.heap.size + 1, 2, none⟩ = some (.int .i64 x1) := B_z3.out.cell 2 rfl; have c3z3 : w11.cell? ⟨w2.heap.size + 1, 3, none⟩ = some (.int .i64 y1) := B_z3.out.cell 3 rfl; have c4z3 : w11.cell? ⟨w2.heap.size + 1, 4, none⟩ = some (.int .i64 ((f + c / 2) % 256)) := B_z3.out.cell 4 rfl; have c5z3 : w11.cell? ⟨w2.heap.size + 1, 5, none⟩ = some (.int .i64 (c - c / 2)) := B_z3.out.cell 5 rfl; have c0z1 : w11.cell? ⟨w.heap.size + 1, 0, none⟩ = some (.int .i64 x) := B_z1.out.cell 0 rfl; have c1z1 : w11.cell? ⟨w.heap.size + 1, 1, none⟩ = some (.int .i64 y) := B_z1.out.cell 1 rfl; have c2z1 : w11.cell? ⟨w.heap.size + 1, 2, none⟩ = some (.int .i64 h) := B_z1.out.cell 2 rfl; have tk1x9 : True := trivial)
      | (clear tk1x9; go_at_call 17; refine (H11.out _).mono ?_; rintro e w12 ⟨rfl, bb⟩; replace bb := nextw (w0 := w11) (by exact sm) bb; replace B_z0 := mv B_z0 bb; replace B_z1 := mv B_z1 bb; replace B_z2 := mv B_z2 bb; replace B_z3 := mv B_z3 bb; replace HB := nx HB bb; clear bb c0z0 c1z0 c2z0 c3z0 c4z0 c5z0 c0z2 c1z2 c2z2 c3z2 c4z2 c5z2 c0z3 c1z3 c2z3 c3z3 c4z3 c5z3 c0z1 c1z1 c2z1; have c0z0 : w12.cell? ⟨w.heap.size, 0, none⟩ = some (.int .i64 x0) := B_z0.out.cell 0 rfl; have c1z0 : w12.cell? ⟨w.heap.size, 1, none⟩ = some (.int .i64 y0) := B_z0.out.cell 1 rfl; have c2z0 : w12.cell? ⟨w.heap.size, 2, none⟩ = some (.int .i64 x1) := B_z0.out.cell 2 rfl; have c3z0 : w12.cell? ⟨w.heap.size, 3, none⟩ = some (.int .i64 y1) := B_z0.out.cell 3 rfl; have c4z0 : w12.cell? ⟨w.heap.size, 4, none⟩ = some (.int .i64 f) := B_z0.out.cell 4 rfl; have c5z0 : w12.cell? ⟨w.heap.size, 5, none⟩ = some (.int .i64 c) := B_z0.out.cell 5 rfl; have c0z2 : w12.cell? ⟨w2.heap.size, 0, none⟩ = some (.int .i64 x0) := B_z2.out.cell 0 rfl; have c1z2 : w12.cell? ⟨w2.heap.size, 1, none⟩ = some (.int .i64 y0) := B_z2.out.cell 1 rfl; have c2z2 : w12.cell? ⟨w2.heap.size, 2, none⟩ = some (.int .i64 x1) := B_z2.out.cell 2 rfl; have c3z2 : w12.cell? ⟨w2.heap.size, 3, none⟩ = some (.int .i64 y1) := B_z2.out.cell 3 rfl; have c4z2 : w12.cell? ⟨w2.heap.size, 4, none⟩ = some (.int .i64 f) := B_z2.out.cell 4 rfl; have c5z2 : w12.cell? ⟨w2.heap.size, 5, none⟩ = some (.int .i64 (c / 2)) := B_z2.out.cell 5 rfl; have c0z3 : w12.cell? ⟨w2.heap.size + 1, 0, none⟩ = some (.int .i64 x0) := B_z3.out.cell 0 rfl; have c1z3 : w12.cell? ⟨w2.heap.size + 1, 1, none⟩ = some (.int .i64 y0) := B_z3.out.cell 1 rfl; have c2z3 : w12.cell? ⟨w2.heap.size + 1, 2, none⟩ = some (.int .i64 x1) := B_z3.out.cell 2 rfl; have c3z3 : w12.cell? ⟨w2.heap.size + 1, 3, none⟩ = some (.int .i64 y1) := B_z3.out.cell 3 rfl; have c4z3 : w12.cell? ⟨w2.heap.size + 1, 4, none⟩ = some (.int .i64 ((f + c / 2) % 256)) := B_z3.out.cell 4 rfl; have c5z3 : w12.cell? ⟨w2.heap.size + 1, 5, none⟩ = some (.int .i64 (c - c / 2)) := B_z3.out.cell 5 rfl; have c0z1 : w12.cell? ⟨w.heap.size + 1, 0, none⟩ = some (.int .i64 x) := B_z1.out.cell 0 rfl; have c1z1 : w12.cell? ⟨w.heap.size + 1, 1, none⟩ = some (.int .i64 y) := B_z1.out.cell 1 rfl; have c2z1 : w12.cell? ⟨w.heap.size + 1, 2, none⟩ = some (.int .i64 h) := B_z1.out.cell 2 rfl; have tk1x10 : True := trivial)
      | (clear tk1x10; go_at_call 17; refine (H12.out _).mono ?_; rintro e w13 ⟨rfl, bb⟩; replace bb := nextw (w0 := w12) (by exact sm) bb; replace B_z0 := mv B_z0 bb; replace B_z1 := mv B_z1 bb; replace B_z2 := mv B_z2 bb; replace B_z3 := mv B_z3 bb; replace HB := nx HB bb; clear bb c0z0 c1z0 c2z0 c3z0 c4z0 c5z0 c0z2 c1z2 c2z2 c3z2 c4z2 c5z2 c0z3 c1z3 c2z3 c3z3 c4z3 c5z3 c0z1 c1z1 c2z1; have c0z0 : w13.cell? ⟨w.heap.size, 0, none⟩ = some (.int .i64 x0) := B_z0.out.cell 0 rfl; have c1z0 : w13.cell? ⟨w.heap.size, 1, none⟩ = some (.int .i64 y0) := B_z0.out.cell 1 rfl; have c2z0 : w13.cell? ⟨w.heap.size, 2, none⟩ = some (.int .i64 x1) := B_z0.out.cell 2 rfl; have c3z0 : w13.cell? ⟨w.heap.size, 3, none⟩ = some (.int .i64 y1) := B_z0.out.cell 3 rfl; have c4z0 : w13.cell? ⟨w.heap.size, 4, none⟩ = some (.int .i64 f) := B_z0.out.cell 4 rfl; have c5z0 : w13.cell? ⟨w.heap.size, 5, none⟩ = some (.int .i64 c) := B_z0.out.cell 5 rfl; have c0z2 : w13.cell? ⟨w2.heap.size, 0, none⟩ = some (.int .i64 x0) := B_z2.out.cell 0 rfl; have c1z2 : w13.cell? ⟨w2.heap.size, 1, none⟩ = some (.int .i64 y0) := B_z2.out.cell 1 rfl; have c2z2 : w13.cell? ⟨w2.heap.size, 2, none⟩ = some (.int .i64 x1) := B_z2.out.cell 2 rfl; have c3z2 : w13.cell? ⟨w2.heap.size, 3, none⟩ = some (.int .i64 y1) := B_z2.out.cell 3 rfl; have c4z2 : w13.cell? ⟨w2.heap.size, 4, none⟩ = some (.int .i64 f) := B_z2.out.cell 4 rfl; have c5z2 : w13.cell? ⟨w2.heap.size, 5, none⟩ = some (.int .i64 (c / 2)) := B_z2.out.cell 5 rfl; have c0z3 : w13.cell? ⟨w2.heap.size + 1, 0, none⟩ = some (.int .i64 x0) := B_z3.out.cell 0 rfl; have c1z3 : w13.cell? ⟨w2.heap.size + 1, 1, none⟩ = some (.int .i64 y0) := B_z3.out.cell 1 rfl; have c2z3 : w13.cell? ⟨w2.heap.size + 1, 2, none⟩ = some (.int .i64 x1) := B_z3.out.cell 2 rfl; have c3z3 : w13.cell? ⟨w2.heap.size + 1, 3, none⟩ = some (.int .i64 y1) := B_z3.out.cell 3 rfl; have c4z3 : w13.cell? ⟨w2.heap.size + 1, 4, none⟩ = some (.int .i64 ((f + c / 2) % 256)) := B_z3.out.cell 4 rfl; have c5z3 : w13.cell? ⟨w2.heap.size + 1, 5, none⟩ = some (.int .i64 (c - c / 2)) := B_z3.out.cell 5 rfl; have c0z1 : w13.cell? ⟨w.heap.size + 1, 0, none⟩ = some (.int .i64 x) := B_z1.out.cell 0 rfl; have c1z1 : w13.cell? ⟨w.heap.size + 1, 1, none⟩ = some (.int .i64 y) := B_z1.out.cell 1 rfl; have c2z1 : w13.cell? ⟨w.heap.size + 1, 2, none⟩ = some (.int .i64 h) := B_z1.out.cell 2 rfl; have tk1x11 : True := trivial)
      | (clear tk1x11; go_at_call 17; refine (H13.out _).mono ?_; rintro e w14 ⟨rfl, bb⟩; replace bb := nextw (w0 := w13) (by exact sm) bb; replace B_z0 := mv B_z0 bb; replace B_z1 := mv B_z1 bb; replace B_z2 := mv B_z2 bb; replace B_z3 := mv B_z3 bb; replace HB := nx HB bb; clear bb c0z0 c1z0 c2z0 c3z0 c4z0 c5z0 c0z2 c1z2 c2z2 c3z2 c4z2 c5z2 c0z3 c1z3 c2z3 c3z3 c4z3 c5z3 c0z1 c1z1 c2z1; have c0z0 : w14.cell? ⟨w.heap.size, 0, none⟩ = some (.int .i64 x0) := B_z0.out.cell 0 rfl; have c1z0 : w14.cell? ⟨w.heap.size, 1, none⟩ = some (.int .i64 y0) := B_z0.out.cell 1 rfl; have c2z0 : w14.cell? ⟨w.heap.size, 2, none⟩ = some (.int .i64 x1) := B_z0.out.cell 2 rfl; have c3z0 : w14.cell? ⟨w.heap.size, 3, none⟩ = some (.int .i64 y1) := B_z0.out.cell 3 rfl; have c4z0 : w14.cell? ⟨w.heap.size, 4, none⟩ = some (.int .i64 f) := B_z0.out.cell 4 rfl; have c5z0 : w14.cell? ⟨w.heap.size, 5, none⟩ = some (.int .i64 c) := B_z0.out.cell 5 rfl; have c0z2 : w14.cell? ⟨w2.heap.size, 0, none⟩ = some (.int .i64 x0) := B_z2.out.cell 0 rfl; have c1z2 : w14.cell? ⟨w2.heap.size, 1, none⟩ = some (.int .i64 y0) := B_z2.out.cell 1 rfl; have c2z2 : w14.cell? ⟨w2.heap.size, 2, none⟩ = some (.int .i64 x1) := B_z2.out.cell 2 rfl; have c3z2 : w14.cell? ⟨w2.heap.size, 3, none⟩ = some (.int .i64 y1) := B_z2.out.cell 3 rfl; have c4z2 : w14.cell? ⟨w2.heap.size, 4, none⟩ = some (.int .i64 f) := B_z2.out.cell 4 rfl; have c5z2 : w14.cell? ⟨w2.heap.size, 5, none⟩ = some (.int .i64 (c / 2)) := B_z2.out.cell 5 rfl; have c0z3 : w14.cell? ⟨w2.heap.size + 1, 0, none⟩ = some (.int .i64 x0) := B_z3.out.cell 0 rfl; have c1z3 : w14.cell? ⟨w2.heap.size + 1, 1, none⟩ = some (.int .i64 y0) := B_z3.out.cell 1 rfl; have c2z3 : w14.cell? ⟨w2.heap.size + 1, 2, none⟩ = some (.int .i64 x1) := B_z3.out.cell 2 rfl; have c3z3 : w14.cell? ⟨w2.heap.size + 1, 3, none⟩ = some (.int .i64 y1) := B_z3.out.cell 3 rfl; have c4z3 : w14.cell? ⟨w2.heap.size + 1, 4, none⟩ = some (.int .i64 ((f + c / 2) % 256)) := B_z3.out.cell 4 rfl; have c5z3 : w14.cell? ⟨w2.heap.size + 1, 5, none⟩ = some (.int .i64 (c - c / 2)) := B_z3.out.cell 5 rfl; have c0z1 : w14.cell? ⟨w.heap.size + 1, 0, none⟩ = some (.int .i64 x) := B_z1.out.cell 0 rfl; have c1z1 : w14.cell? ⟨w.heap.size + 1, 1, none⟩ = some (.int .i64 y) := B_z1.out.cell 1 rfl; have c2z1 : w14.cell? ⟨w.heap.size + 1, 2, none⟩ = some (.int .i64 h) := B_z1.out.cell 2 rfl; have tk1x12 : True := trivial)
      | (clear tk1x12; go_at_call 17; refine (H14.out _).mono ?_; rintro e w15 ⟨rfl, bb⟩; replace bb := nextw (w0 := w14) (by exact sm) bb; replace B_z0 := mv B_z0 bb; replace B_z1 := mv B_z1 bb; replace B_z2 := mv B_z2 bb; replace B_z3 := mv B_z3 bb; replace HB := nx HB bb; clear bb c0z0 c1z0 c2z0 c3z0 c4z0 c5z0 c0z2 c1z2 c2z2 c3z2 c4z2 c5z2 c0z3 c1z3 c2z3 c3z3 c4z3 c5z3 c0z1 c1z1 c2z1; have c0z0 : w15.cell? ⟨w.heap.size, 0, none⟩ = some (.int .i64 x0) := B_z0.out.cell 0 rfl; have c1z0 : w15.cell? ⟨w.heap.size, 1, none⟩ = some (.int .i64 y0) := B_z0.out.cell 1 rfl; have c2z0 : w15.cell? ⟨w.heap.size, 2, none⟩ = some (.int .i64 x1) := B_z0.out.cell 2 rfl; have c3z0 : w15.cell? ⟨w.heap.size, 3, none⟩ = some (.int .i64 y1) := B_z0.out.cell 3 rfl; have c4z0 : w15.cell? ⟨w.heap.size, 4, none⟩ = some (.int .i64 f) := B_z0.out.cell 4 rfl; have c5z0 : w15.cell? ⟨w.heap.size, 5, none⟩ = some (.int .i64 c) := B_z0.out.cell 5 rfl; have c0z2 : w15.cell? ⟨w2.heap.size, 0, none⟩ = some (.int .i64 x0) := B_z2.out.cell 0 rfl; have c1z2 : w15.cell? ⟨w2.heap.size, 1, none⟩ = some (.int .i64 y0) := B_z2.out.cell 1 rfl; have c2z2 : w15.cell? ⟨w2.heap.size, 2, none⟩ = some (.int .i64 x1) := B_z2.out.cell 2 rfl; have c3z2 : w15.cell? ⟨w2.heap.size, 3, none⟩ = some (.int .i64 y1) := B_z2.out.cell 3 rfl; have c4z2 : w15.cell? ⟨w2.heap.size, 4, none⟩ = some (.int .i64 f) := B_z2.out.cell 4 rfl; have c5z2 : w15.cell? ⟨w2.heap.size, 5, none⟩ = some (.int .i64 (c / 2)) := B_z2.out.cell 5 rfl; have c0z3 : w15.cell? ⟨w2.heap.size + 1, 0, none⟩ = some (.int .i64 x0) := B_z3.out.cell 0 rfl; have c1z3 : w15.cell? ⟨w2.heap.size + 1, 1, none⟩ = some (.int .i64 y0) := B_z3.out.cell 1 rfl; have c2z3 : w15.cell? ⟨w2.heap.size + 1, 2, none⟩ = some (.int .i64 x1) := B_z3.out.cell 2 rfl; have c3z3 : w15.cell? ⟨w2.heap.size + 1, 3, none⟩ = some (.int .i64 y1) := B_z3.out.cell 3 rfl; have c4z3 : w15.cell? ⟨w2.heap.size + 1, 4, none⟩ = some (.int .i64 ((f + c / 2) % 256)) := B_z3.out.cell 4 rfl; have c5z3 : w15.cell? ⟨w2.heap.size + 1, 5, none⟩ = some (.int .i64 (c - c / 2)) := B_z3.out.cell 5 rfl; have c0z1 : w15.cell? ⟨w.heap.size + 1, 0, none⟩ = some (.int .i64 x) := B_z1.out.cell 0 rfl; have c1z1 : w15.cell? ⟨w.heap.size + 1, 1, none⟩ = some (.int .i64 y) := B_z1.out.cell 1 rfl; have c2z1 : w15.cell? ⟨w.heap.size + 1, 2, none⟩ = some (.int .i64 h) := B_z1.out.cell 2 rfl; have tk1x13 : True := trivial)
      | (clear tk1x13; go_at_call 17; refine (H15.out _).mono ?_; rintro e w16 ⟨rfl, bb⟩; replace bb := nextw (w0 := w15) (by exact sm) bb; replace B_z0 := mv B_z0 bb; replace B_z1 := mv B_z1 bb; replace B_z2 := mv B_z2 bb; replace B_z3 := mv B_z3 bb; replace HB := nx HB bb; clear bb c0z0 c1z0 c2z0 c3z0 c4z0 c5z0 c0z2 c1z2 c2z2 c3z2 c4z2 c5z2 c0z3 c1z3 c2z3 c3z3 c4z3 c5z3 c0z1 c1z1 c2z1; have c0z0 : w16.cell? ⟨w.heap.size, 0, none⟩ = some (.int .i64 x0) := B_z0.out.cell 0 rfl; have c1z0 : w16.cell? ⟨w.heap.size, 1, none⟩ = some (.int .i64 y0) := B_z0.out.cell 1 rfl; have c2z0 : w16.cell? ⟨w.heap.size, 2, none⟩ = some (.int .i64 x1) := B_z0.out.cell 2 rfl; have c3z0 : w16.cell? ⟨w.heap.size, 3, none⟩ = some (.int .i64 y1) := B_z0.out.cell 3 rfl; have c4z0 : w16.cell? ⟨w.heap.size, 4, none⟩ = some (.int .i64 f) := B_z0.out.cell 4 rfl; have c5z0 : w16.cell? ⟨w.heap.size, 5, none⟩ = some (.int .i64 c) := B_z0.out.cell 5 rfl; have c0z2 : w16.cell? ⟨w2.heap.size, 0, none⟩ = some (.int .i64 x0) := B_z2.out.cell 0 rfl; have c1z2 : w16.cell? ⟨w2.heap.size, 1, none⟩ = some (.int .i64 y0) := B_z2.out.cell 1 rfl; have c2z2 : w16.cell? ⟨w2.heap.size, 2, none⟩ = some (.int .i64 x1) := B_z2.out.cell 2 rfl; have c3z2 : w16.cell? ⟨w2.heap.size, 3, none⟩ = some (.int .i64 y1) := B_z2.out.cell 3 rfl; have c4z2 : w16.cell? ⟨w2.heap.size, 4, none⟩ = some (.int .i64 f) := B_z2.out.cell 4 rfl; have c5z2 : w16.cell? ⟨w2.heap.size, 5, none⟩ = some (.int .i64 (c / 2)) := B_z2.out.cell 5 rfl; have c0z3 : w16.cell? ⟨w2.heap.size + 1, 0, none⟩ = some (.int .i64 x0) := B_z3.out.cell 0 rfl; have c1z3 : w16.cell? ⟨w2.heap.size + 1, 1, none⟩ = some (.int .i64 y0) := B_z3.out.cell 1 rfl; have c2z3 : w16.cell? ⟨w2.heap.size + 1, 2, none⟩ = some (.int .i64 x1) := B_z3.out.cell 2 rfl; have c3z3 : w16.cell? ⟨w2.heap.size + 1, 3, none⟩ = some (.int .i64 y1) := B_z3.out.cell 3 rfl; have c4z3 : w16.cell? ⟨w2.heap.size + 1, 4, none⟩ = some (.int .i64 ((f + c / 2) % 256)) := B_z3.out.cell 4 rfl; have c5z3 : w16.cell? ⟨w2.heap.size + 1, 5, none⟩ = some (.int .i64 (c - c / 2)) := B_z3.out.cell 5 rfl; have c0z1 : w16.cell? ⟨w.heap.size + 1, 0, none⟩ = some (.int .i64 x) := B_z1.out.cell 0 rfl; have c1z1 : w16.cell? ⟨w.heap.size + 1, 1, none⟩ = some (.int .i64 y) := B_z1.out.cell 1 rfl; have c2z1 : w16.cell? ⟨w.heap.size + 1, 2, none⟩ = some (.int .i64 h) := B_z1.out.cell 2 rfl; have tk1x14 : True := trivial))
  clear c0z0 c1z0 c2z0 c3z0 c4z0 c5z0 c0z2 c1z2 c2z2 c3z2 c4z2 c5z2 c0z3 c1z3 c2z3 c3z3 c4z3 c5z3 c0z1 c1z1 c2z1
  go_wp2
  go_ret
  exact ⟨(by first | rfl | exact rbt (by omega) | exact rbf (by omega)), nextw HB.out (by exact sm)⟩

set_option maxRecDepth 100000 in
set_option maxHeartbeats 4000000 in
theorem Halves0_w5 (x0 y0 x1 y1 f c x y h : Int) (MX0 MX1 MX2 : Int) (mx0 : (volI x0 y0 x1 y1 f c) = MX0) (mx1 : (volI x0 y0 x1 y1 f (c / 2)) = MX1) (mx2 : (volI x0 y0 x1 y1 ((f + c / 2) % 256) (c - c / 2)) = MX2)  (dd0 : OkB x0 y0 x1 y1 f c) (dd1 : ¬ (oneP x0 y0 x1 y1 c)) (dd2 : ¬ (spX x0 y0 x1 y1 c)) (dd3 : ¬ (spY y0 y1 c)) (dd4 : ¬ (HasP x0 y0 x1 y1 f c x y h)) (dd5 : ¬ (HasP x0 y0 x1 y1 f (c / 2) x y h)) (dd6 : ¬ (HasP x0 y0 x1 y1 ((f + c / 2) % 256) (c - c / 2) x y h)) (w : World) :
    Calls Try.prog 7 #[.agg #[.int .i64 x0, .int .i64 y0, .int .i64 x1, .int .i64 y1, .int .i64 f, .int .i64 c], .agg #[.int .i64 x, .int .i64 y, .int .i64 h]] w fun e w' => e = .returned (.bool true) ∧ Below w.heap.size w w' := by
  have H0 := Lib.hid (fun w => awake_true w)
  have H1 := Lib.hid (fun w => Split_h dd0 dd1 dd2 dd3 w)
  have H2 := Lib.hid (fun w => Vol_at mx0 w)
  have H3 := Lib.hid (fun w => Valid_yes (halv_h dd0 dd1 dd2 dd3).oc w)
  have H4 := Lib.hid (fun w => Valid_yes (halv_h dd0 dd1 dd2 dd3).od w)
  have H5 := Lib.hid (fun w => Vol_at mx1 w)
  have H6 := Lib.hid (fun w => Vol_at mx2 w)
  have H7 := Lib.hid (fun w => Vol_at mx0 w)
  have H8 := Lib.hid (fun w => Inside_yes (halv_h dd0 dd1 dd2 dd3).ic w)
  have H9 := Lib.hid (fun w => Inside_yes (halv_h dd0 dd1 dd2 dd3).id w)
  have H10 := Lib.hid (fun w => BMeet_none (halv_h dd0 dd1 dd2 dd3).no w)
  have H11 := Lib.hid (fun w => BoxHas_no dd4 w)
  have H12 := Lib.hid (fun w => BoxHas_no dd5 w)
  have H13 := Lib.hid (fun w => BoxHas_no dd6 w)
  have H14 := Lib.hid (fun w => BoxHas_no dd5 w)
  replace mx0 := Lib.hid mx0
  replace mx1 := Lib.hid mx1
  replace mx2 := Lib.hid mx2
  have hv := (halv_h dd0 dd1 dd2 dd3)
  have vb0 := hv.vb
  have vs0 := hv.vol
  have w0 := volI_bd x0 y0 x1 y1 f c
  rw [mx0.out] at vb0
  rw [mx0.out, mx1.out, mx2.out] at vs0
  rw [mx0.out] at w0
  clear hv
  have vb1 : decide (1 < MX0) = true := decide_eq_true vb0
  have vs1 : decide (MX1 + MX2 = MX0) = true := decide_eq_true vs0
  have vs2 : (MX1 + MX2 == MX0) = true := decide_eq_true vs0
  have w1 : MX1 + MX2 ≤ 1125900980584704 := by omega
  have w2 : 0 ≤ MX1 + MX2 := by omega
  clear vs0
  obtain ⟨HB, B_z0, B_z1⟩ := box2 w 23 #[.int .i64 x0, .int .i64 y0, .int .i64 x1, .int .i64 y1, .int .i64 f, .int .i64 c] 25 #[.int .i64 x, .int .i64 y, .int .i64 h]
  go_enter Try.func7, Try.ntmps7
  go_upto_region 1 with (fail)
  generalize (w.alloc (.cells #[.int .i64 x0, .int .i64 y0, .int .i64 x1, .int .i64 y1, .int .i64 f, .int .i64 c] 23)).alloc (.cells #[.int .i64 x, .int .i64 y, .int .i64 h] 25) = W0 at *
  go_wp2_with fail
  refine (H0.out _).mono ?_
  rintro e w1 ⟨rfl, bb⟩
  replace bb := nextw (w0 := W0) (by exact sm) bb
  replace B_z0 := mv B_z0 bb
  replace B_z1 := mv B_z1 bb
  replace HB := nx HB bb
  clear bb
  obtain ⟨c0z0, c1z0, c2z0, c3z0, c4z0, c5z0⟩ := cells6 B_z0
  go_wp2_with fail
  refine (H1.out _).mono ?_
  clear c0z0 c1z0 c2z0 c3z0 c4z0 c5z0
  rintro e w2 ⟨rfl, bb⟩
  replace bb := nextw (w0 := w1) (by exact sm) bb
  replace B_z0 := mv B_z0 bb
  replace B_z1 := mv B_z1 bb
  replace HB := nx HB bb
  clear bb
  have lt_z2z0 := B_z0.out.lt
  have lt_z2z1 := B_z1.out.lt
  obtain ⟨bb, B_z2, B_z3⟩ := box2 w2 23 #[.int .i64 x0, .int .i64 y0, .int .i64 x1, .int .i64 y1, .int .i64 f, .int .i64 (c / 2)] 23 #[.int .i64 x0, .int .i64 y0, .int .i64 x1, .int .i64 y1, .int .i64 ((f + c / 2) % 256), .int .i64 (c - c / 2)]
  replace bb := bb.out
  replace B_z0 := mv B_z0 bb
  replace B_z1 := mv B_z1 bb
  replace HB := nx HB bb
  clear bb
  go_upto_region 4 with (fail)
  generalize (w2.alloc (.cells #[.int .i64 x0, .int .i64 y0, .int .i64 x1, .int .i64 y1, .int .i64 f, .int .i64 (c / 2)] 23)).alloc (.cells #[.int .i64 x0, .int .i64 y0, .int .i64 x1, .int .i64 y1, .int .i64 ((f + c / 2) % 256), .int .i64 (c - c / 2)] 23) = WN2 at *
  go_upto_region 6 with (fail)
  have wq6x0 : IntKind.i64.wrap (MX1 + MX2) = MX1 + MX2 := by rw [IntKind.wrap_i64]; omega
  obtain ⟨c0z0, c1z0, c2z0, c3z0, c4z0, c5z0⟩ := cells6 B_z0
  obtain ⟨c0z2, c1z2, c2z2, c3z2, c4z2, c5z2⟩ := cells6 B_z2
  obtain ⟨c0z3, c1z3, c2z3, c3z3, c4z3, c5z3⟩ := cells6 B_z3
  obtain ⟨c0z1, c1z1, c2z1⟩ := cells3 B_z1
  refine wp_region_held_drew (S := fun w' => w'.cell? ⟨w.heap.size, 0, none⟩ = some (.int .i64 x0) ∧ w'.cell? ⟨w.heap.size, 1, none⟩ = some (.int .i64 y0) ∧ w'.cell? ⟨w.heap.size, 2, none⟩ = some (.int .i64 x1) ∧ w'.cell? ⟨w.heap.size, 3, none⟩ = some (.int .i64 y1) ∧ w'.cell? ⟨w.heap.size, 4, none⟩ = some (.int .i64 f) ∧ w'.cell? ⟨w.heap.size, 5, none⟩ = some (.int .i64 c) ∧ w'.cell? ⟨w2.heap.size, 0, none⟩ = some (.int .i64 x0) ∧ w'.cell? ⟨w2.heap.size, 1, none⟩ = some (.int .i64 y0) ∧ w'.cell? ⟨w2.heap.size, 2, none⟩ = some (.int .i64 x1) ∧ w'.cell? ⟨w2.heap.size, 3, none⟩ = some (.int .i64 y1) ∧ w'.cell? ⟨w2.heap.size, 4, none⟩ = some (.int .i64 f) ∧ w'.cell? ⟨w2.heap.size, 5, none⟩ = some (.int .i64 (c / 2)) ∧ w'.cell? ⟨w2.heap.size + 1, 0, none⟩ = some (.int .i64 x0) ∧ w'.cell? ⟨w2.heap.size + 1, 1, none⟩ = some (.int .i64 y0) ∧ w'.cell? ⟨w2.heap.size + 1, 2, none⟩ = some (.int .i64 x1) ∧ w'.cell? ⟨w2.heap.size + 1, 3, none⟩ = some (.int .i64 y1) ∧ w'.cell? ⟨w2.heap.size + 1, 4, none⟩ = some (.int .i64 ((f + c / 2) % 256)) ∧ w'.cell? ⟨w2.heap.size + 1, 5, none⟩ = some (.int .i64 (c - c / 2)) ∧ w'.cell? ⟨w.heap.size + 1, 0, none⟩ = some (.int .i64 x) ∧ w'.cell? ⟨w.heap.size + 1, 1, none⟩ = some (.int .i64 y) ∧ w'.cell? ⟨w.heap.size + 1, 2, none⟩ = some (.int .i64 h)) (by kernel_rfl) ?_ (fun hH1x0 => ?_)
  · ((try dsimp only); (repeat' apply And.intro) <;> (first | (with_reducible assumption) | ((repeat (first | (with_reducible refine Eq.trans (cell_drew1 _ _) ?_) | (with_reducible refine Eq.trans (cell_far (by omega) _ _ _) ?_) | (with_reducible refine Eq.trans (World.cell?_alloc_lt _ _ _ (by first | (dsimp only; omega) | (simp only [World.size_alloc, World.size_setCell]; omega))) ?_))); with_reducible assumption) | assumption | go_keep))
  refine wpAnyH_take (i := 0) (v := ?hv1x0) rfl (by kernel_rfl) (by kernel_rfl) (by kernel_rfl) (fun _ _ _ h => h) (Or.inl ⟨by kernel_rfl, ?hy1x0⟩) (by assumption) ?hr1x0
  case hy1x0 => (intro w hSw; (try dsimp only at hSw); go_simp <;> with_reducible rfl)
  simp only [Act.put, List.setIfInBounds_toArray, List.set_cons_zero, List.set_cons_succ, List.getElem_toArray, List.getElem_cons_zero, List.getElem_cons_succ]
  refine wpAnyH_ready (rs := [1]) (by kernel_rfl) (by simp) ?_
  refine AllReadyH.cons rfl (fun K hK => ?_) AllReadyH.nil
  go_simp
  go_at_call 19
  refine (H2.out _).mono ?_
  rintro e w3 ⟨rfl, bb⟩
  replace bb := nextw (w0 := WN2) (by exact sm) bb
  replace B_z0 := mv B_z0 bb
  replace B_z1 := mv B_z1 bb
  replace B_z2 := mv B_z2 bb
  replace B_z3 := mv B_z3 bb
  replace HB := nx HB bb
  clear bb c0z0 c1z0 c2z0 c3z0 c4z0 c5z0 c0z2 c1z2 c2z2 c3z2 c4z2 c5z2 c0z3 c1z3 c2z3 c3z3 c4z3 c5z3 c0z1 c1z1 c2z1
  have c0z0 : w3.cell? ⟨w.heap.size, 0, none⟩ = some (.int .i64 x0) := B_z0.out.cell 0 rfl
  have c1z0 : w3.cell? ⟨w.heap.size, 1, none⟩ = some (.int .i64 y0) := B_z0.out.cell 1 rfl
  have c2z0 : w3.cell? ⟨w.heap.size, 2, none⟩ = some (.int .i64 x1) := B_z0.out.cell 2 rfl
  have c3z0 : w3.cell? ⟨w.heap.size, 3, none⟩ = some (.int .i64 y1) := B_z0.out.cell 3 rfl
  have c4z0 : w3.cell? ⟨w.heap.size, 4, none⟩ = some (.int .i64 f) := B_z0.out.cell 4 rfl
  have c5z0 : w3.cell? ⟨w.heap.size, 5, none⟩ = some (.int .i64 c) := B_z0.out.cell 5 rfl
  have c0z2 : w3.cell? ⟨w2.heap.size, 0, none⟩ = some (.int .i64 x0) := B_z2.out.cell 0 rfl
  have c1z2 : w3.cell? ⟨w2.heap.size, 1, none⟩ = some (.int .i64 y0) := B_z2.out.cell 1 rfl
  have c2z2 : w3.cell? ⟨w2.heap.size, 2, none⟩ = some (.int .i64 x1) := B_z2.out.cell 2 rfl
  have c3z2 : w3.cell? ⟨w2.heap.size, 3, none⟩ = some (.int .i64 y1) := B_z2.out.cell 3 rfl
  have c4z2 : w3.cell? ⟨w2.heap.size, 4, none⟩ = some (.int .i64 f) := B_z2.out.cell 4 rfl
  have c5z2 : w3.cell? ⟨w2.heap.size, 5, none⟩ = some (.int .i64 (c / 2)) := B_z2.out.cell 5 rfl
  have c0z3 : w3.cell? ⟨w2.heap.size + 1, 0, none⟩ = some (.int .i64 x0) := B_z3.out.cell 0 rfl
  have c1z3 : w3.cell? ⟨w2.heap.size + 1, 1, none⟩ = some (.int .i64 y0) := B_z3.out.cell 1 rfl
  have c2z3 : w3.cell? ⟨w2.heap.size + 1, 2, none⟩ = some (.int .i64 x1) := B_z3.out.cell 2 rfl
  have c3z3 : w3.cell? ⟨w2.heap.size + 1, 3, none⟩ = some (.int .i64 y1) := B_z3.out.cell 3 rfl
  have c4z3 : w3.cell? ⟨w2.heap.size + 1, 4, none⟩ = some (.int .i64 ((f + c / 2) % 256)) := B_z3.out.cell 4 rfl
  have c5z3 : w3.cell? ⟨w2.heap.size + 1, 5, none⟩ = some (.int .i64 (c - c / 2)) := B_z3.out.cell 5 rfl
  have c0z1 : w3.cell? ⟨w.heap.size + 1, 0, none⟩ = some (.int .i64 x) := B_z1.out.cell 0 rfl
  have c1z1 : w3.cell? ⟨w.heap.size + 1, 1, none⟩ = some (.int .i64 y) := B_z1.out.cell 1 rfl
  have c2z1 : w3.cell? ⟨w.heap.size + 1, 2, none⟩ = some (.int .i64 h) := B_z1.out.cell 2 rfl
  go_wp2_with fail
  refine hK.out _ _ ?_ (fun hH1x1 => ?_)
  · ((try dsimp only); (repeat' apply And.intro) <;> (first | (with_reducible assumption) | ((repeat (first | (with_reducible refine Eq.trans (cell_drew1 _ _) ?_) | (with_reducible refine Eq.trans (cell_far (by omega) _ _ _) ?_) | (with_reducible refine Eq.trans (World.cell?_alloc_lt _ _ _ (by first | (dsimp only; omega) | (simp only [World.size_alloc, World.size_setCell]; omega))) ?_))); with_reducible assumption) | assumption | go_keep))
  clear hK K hH1x0
  try simp only [Act.put, List.setIfInBounds_toArray, List.set_cons_zero, List.set_cons_succ, List.getElem_toArray, List.getElem_cons_zero, List.getElem_cons_succ]
  refine wpAnyH_take (i := 2) (v := ?hv1x2) rfl (by kernel_rfl) (by kernel_rfl) (by kernel_rfl) (fun _ _ _ h => h) (Or.inl ⟨by kernel_rfl, ?hy1x2⟩) (by assumption) ?hr1x2
  case hy1x2 => (intro w hSw; (try dsimp only at hSw); go_simp <;> with_reducible rfl)
  simp only [Act.put, List.setIfInBounds_toArray, List.set_cons_zero, List.set_cons_succ, List.getElem_toArray, List.getElem_cons_zero, List.getElem_cons_succ]
  refine wpAnyH_take (i := 3) (v := ?hv1x3) rfl (by kernel_rfl) (by kernel_rfl) (by kernel_rfl) (fun _ _ _ h => h) (Or.inl ⟨by kernel_rfl, ?hy1x3⟩) (by assumption) ?hr1x3
  case hy1x3 => (intro w hSw; (try dsimp only at hSw); go_simp <;> with_reducible rfl)
  simp only [Act.put, List.setIfInBounds_toArray, List.set_cons_zero, List.set_cons_succ, List.getElem_toArray, List.getElem_cons_zero, List.getElem_cons_succ]
  refine wpAnyH_take (i := 4) (v := ?hv1x4) rfl (by kernel_rfl) (by kernel_rfl) (by kernel_rfl) (fun _ _ _ h => h) (Or.inl ⟨by kernel_rfl, ?hy1x4⟩) (by assumption) ?hr1x4
  case hy1x4 => (intro w hSw; (try dsimp only at hSw); go_simp <;> with_reducible rfl)
  simp only [Act.put, List.setIfInBounds_toArray, List.set_cons_zero, List.set_cons_succ, List.getElem_toArray, List.getElem_cons_zero, List.getElem_cons_succ]
  refine wpAnyH_ready (rs := [5]) (by kernel_rfl) (by simp) ?_
  refine AllReadyH.cons rfl (fun K hK => ?_) AllReadyH.nil
  go_simp
  go_at_call 15
  refine (H3.out _).mono ?_
  rintro e w4 ⟨rfl, bb⟩
  replace bb := nextw (w0 := w3) (by exact sm) bb
  replace B_z0 := mv B_z0 bb
  replace B_z1 := mv B_z1 bb
  replace B_z2 := mv B_z2 bb
  replace B_z3 := mv B_z3 bb
  replace HB := nx HB bb
  clear bb c0z0 c1z0 c2z0 c3z0 c4z0 c5z0 c0z2 c1z2 c2z2 c3z2 c4z2 c5z2 c0z3 c1z3 c2z3 c3z3 c4z3 c5z3 c0z1 c1z1 c2z1
  have c0z0 : w4.cell? ⟨w.heap.size, 0, none⟩ = some (.int .i64 x0) := B_z0.out.cell 0 rfl
  have c1z0 : w4.cell? ⟨w.heap.size, 1, none⟩ = some (.int .i64 y0) := B_z0.out.cell 1 rfl
  have c2z0 : w4.cell? ⟨w.heap.size, 2, none⟩ = some (.int .i64 x1) := B_z0.out.cell 2 rfl
  have c3z0 : w4.cell? ⟨w.heap.size, 3, none⟩ = some (.int .i64 y1) := B_z0.out.cell 3 rfl
  have c4z0 : w4.cell? ⟨w.heap.size, 4, none⟩ = some (.int .i64 f) := B_z0.out.cell 4 rfl
  have c5z0 : w4.cell? ⟨w.heap.size, 5, none⟩ = some (.int .i64 c) := B_z0.out.cell 5 rfl
  have c0z2 : w4.cell? ⟨w2.heap.size, 0, none⟩ = some (.int .i64 x0) := B_z2.out.cell 0 rfl
  have c1z2 : w4.cell? ⟨w2.heap.size, 1, none⟩ = some (.int .i64 y0) := B_z2.out.cell 1 rfl
  have c2z2 : w4.cell? ⟨w2.heap.size, 2, none⟩ = some (.int .i64 x1) := B_z2.out.cell 2 rfl
  have c3z2 : w4.cell? ⟨w2.heap.size, 3, none⟩ = some (.int .i64 y1) := B_z2.out.cell 3 rfl
  have c4z2 : w4.cell? ⟨w2.heap.size, 4, none⟩ = some (.int .i64 f) := B_z2.out.cell 4 rfl
  have c5z2 : w4.cell? ⟨w2.heap.size, 5, none⟩ = some (.int .i64 (c / 2)) := B_z2.out.cell 5 rfl
  have c0z3 : w4.cell? ⟨w2.heap.size + 1, 0, none⟩ = some (.int .i64 x0) := B_z3.out.cell 0 rfl
  have c1z3 : w4.cell? ⟨w2.heap.size + 1, 1, none⟩ = some (.int .i64 y0) := B_z3.out.cell 1 rfl
  have c2z3 : w4.cell? ⟨w2.heap.size + 1, 2, none⟩ = some (.int .i64 x1) := B_z3.out.cell 2 rfl
  have c3z3 : w4.cell? ⟨w2.heap.size + 1, 3, none⟩ = some (.int .i64 y1) := B_z3.out.cell 3 rfl
  have c4z3 : w4.cell? ⟨w2.heap.size + 1, 4, none⟩ = some (.int .i64 ((f + c / 2) % 256)) := B_z3.out.cell 4 rfl
  have c5z3 : w4.cell? ⟨w2.heap.size + 1, 5, none⟩ = some (.int .i64 (c - c / 2)) := B_z3.out.cell 5 rfl
  have c0z1 : w4.cell? ⟨w.heap.size + 1, 0, none⟩ = some (.int .i64 x) := B_z1.out.cell 0 rfl
  have c1z1 : w4.cell? ⟨w.heap.size + 1, 1, none⟩ = some (.int .i64 y) := B_z1.out.cell 1 rfl
  have c2z1 : w4.cell? ⟨w.heap.size + 1, 2, none⟩ = some (.int .i64 h) := B_z1.out.cell 2 rfl
  go_wp2_with fail
  refine hK.out _ _ ?_ (fun hH1x2 => ?_)
  · ((try dsimp only); (repeat' apply And.intro) <;> (first | (with_reducible assumption) | ((repeat (first | (with_reducible refine Eq.trans (cell_drew1 _ _) ?_) | (with_reducible refine Eq.trans (cell_far (by omega) _ _ _) ?_) | (with_reducible refine Eq.trans (World.cell?_alloc_lt _ _ _ (by first | (dsimp only; omega) | (simp only [World.size_alloc, World.size_setCell]; omega))) ?_))); with_reducible assumption) | assumption | go_keep))
  clear hK K hH1x1
  try simp only [Act.put, List.setIfInBounds_toArray, List.set_cons_zero, List.set_cons_succ, List.getElem_toArray, List.getElem_cons_zero, List.getElem_cons_succ]
  refine wpAnyH_take (i := 6) (v := ?hv1x6) rfl (by kernel_rfl) (by kernel_rfl) (by kernel_rfl) (fun _ _ _ h => h) (Or.inl ⟨by kernel_rfl, ?hy1x6⟩) (by assumption) ?hr1x6
  case hy1x6 => (intro w hSw; (try dsimp only at hSw); go_simp <;> with_reducible rfl)
  simp only [Act.put, List.setIfInBounds_toArray, List.set_cons_zero, List.set_cons_succ, List.getElem_toArray, List.getElem_cons_zero, List.getElem_cons_succ]
  refine wpAnyH_take (i := 7) (v := ?hv1x7) rfl (by kernel_rfl) (by kernel_rfl) (by kernel_rfl) (fun _ _ _ h => h) (Or.inl ⟨by kernel_rfl, ?hy1x7⟩) (by assumption) ?hr1x7
  case hy1x7 => (intro w hSw; (try dsimp only at hSw); go_simp <;> with_reducible rfl)
  simp only [Act.put, List.setIfInBounds_toArray, List.set_cons_zero, List.set_cons_succ, List.getElem_toArray, List.getElem_cons_zero, List.getElem_cons_succ]
  refine wpAnyH_take (i := 8) (v := ?hv1x8) rfl (by kernel_rfl) (by kernel_rfl) (by kernel_rfl) (fun _ _ _ h => h) (Or.inl ⟨by kernel_rfl, ?hy1x8⟩) (by assumption) ?hr1x8
  case hy1x8 => (intro w hSw; (try dsimp only at hSw); go_simp <;> with_reducible rfl)
  simp only [Act.put, List.setIfInBounds_toArray, List.set_cons_zero, List.set_cons_succ, List.getElem_toArray, List.getElem_cons_zero, List.getElem_cons_succ]
  refine wpAnyH_ready (rs := [9]) (by kernel_rfl) (by simp) ?_
  refine AllReadyH.cons rfl (fun K hK => ?_) AllReadyH.nil
  go_simp
  go_at_call 15
  refine (H4.out _).mono ?_
  rintro e w5 ⟨rfl, bb⟩
  replace bb := nextw (w0 := w4) (by exact sm) bb
  replace B_z0 := mv B_z0 bb
  replace B_z1 := mv B_z1 bb
  replace B_z2 := mv B_z2 bb
  replace B_z3 := mv B_z3 bb
  replace HB := nx HB bb
  clear bb c0z0 c1z0 c2z0 c3z0 c4z0 c5z0 c0z2 c1z2 c2z2 c3z2 c4z2 c5z2 c0z3 c1z3 c2z3 c3z3 c4z3 c5z3 c0z1 c1z1 c2z1
  have c0z0 : w5.cell? ⟨w.heap.size, 0, none⟩ = some (.int .i64 x0) := B_z0.out.cell 0 rfl
  have c1z0 : w5.cell? ⟨w.heap.size, 1, none⟩ = some (.int .i64 y0) := B_z0.out.cell 1 rfl
  have c2z0 : w5.cell? ⟨w.heap.size, 2, none⟩ = some (.int .i64 x1) := B_z0.out.cell 2 rfl
  have c3z0 : w5.cell? ⟨w.heap.size, 3, none⟩ = some (.int .i64 y1) := B_z0.out.cell 3 rfl
  have c4z0 : w5.cell? ⟨w.heap.size, 4, none⟩ = some (.int .i64 f) := B_z0.out.cell 4 rfl
  have c5z0 : w5.cell? ⟨w.heap.size, 5, none⟩ = some (.int .i64 c) := B_z0.out.cell 5 rfl
  have c0z2 : w5.cell? ⟨w2.heap.size, 0, none⟩ = some (.int .i64 x0) := B_z2.out.cell 0 rfl
  have c1z2 : w5.cell? ⟨w2.heap.size, 1, none⟩ = some (.int .i64 y0) := B_z2.out.cell 1 rfl
  have c2z2 : w5.cell? ⟨w2.heap.size, 2, none⟩ = some (.int .i64 x1) := B_z2.out.cell 2 rfl
  have c3z2 : w5.cell? ⟨w2.heap.size, 3, none⟩ = some (.int .i64 y1) := B_z2.out.cell 3 rfl
  have c4z2 : w5.cell? ⟨w2.heap.size, 4, none⟩ = some (.int .i64 f) := B_z2.out.cell 4 rfl
  have c5z2 : w5.cell? ⟨w2.heap.size, 5, none⟩ = some (.int .i64 (c / 2)) := B_z2.out.cell 5 rfl
  have c0z3 : w5.cell? ⟨w2.heap.size + 1, 0, none⟩ = some (.int .i64 x0) := B_z3.out.cell 0 rfl
  have c1z3 : w5.cell? ⟨w2.heap.size + 1, 1, none⟩ = some (.int .i64 y0) := B_z3.out.cell 1 rfl
  have c2z3 : w5.cell? ⟨w2.heap.size + 1, 2, none⟩ = some (.int .i64 x1) := B_z3.out.cell 2 rfl
  have c3z3 : w5.cell? ⟨w2.heap.size + 1, 3, none⟩ = some (.int .i64 y1) := B_z3.out.cell 3 rfl
  have c4z3 : w5.cell? ⟨w2.heap.size + 1, 4, none⟩ = some (.int .i64 ((f + c / 2) % 256)) := B_z3.out.cell 4 rfl
  have c5z3 : w5.cell? ⟨w2.heap.size + 1, 5, none⟩ = some (.int .i64 (c - c / 2)) := B_z3.out.cell 5 rfl
  have c0z1 : w5.cell? ⟨w.heap.size + 1, 0, none⟩ = some (.int .i64 x) := B_z1.out.cell 0 rfl
  have c1z1 : w5.cell? ⟨w.heap.size + 1, 1, none⟩ = some (.int .i64 y) := B_z1.out.cell 1 rfl
  have c2z1 : w5.cell? ⟨w.heap.size + 1, 2, none⟩ = some (.int .i64 h) := B_z1.out.cell 2 rfl
  go_wp2_with fail
  refine hK.out _ _ ?_ (fun hH1x3 => ?_)
  · ((try dsimp only); (repeat' apply And.intro) <;> (first | (with_reducible assumption) | ((repeat (first | (with_reducible refine Eq.trans (cell_drew1 _ _) ?_) | (with_reducible refine Eq.trans (cell_far (by omega) _ _ _) ?_) | (with_reducible refine Eq.trans (World.cell?_alloc_lt _ _ _ (by first | (dsimp only; omega) | (simp only [World.size_alloc, World.size_setCell]; omega))) ?_))); with_reducible assumption) | assumption | go_keep))
  clear hK K hH1x2
  try simp only [Act.put, List.setIfInBounds_toArray, List.set_cons_zero, List.set_cons_succ, List.getElem_toArray, List.getElem_cons_zero, List.getElem_cons_succ]
  refine wpAnyH_take (i := 10) (v := ?hv1x10) rfl (by kernel_rfl) (by kernel_rfl) (by kernel_rfl) (fun _ _ _ h => h) (Or.inl ⟨by kernel_rfl, ?hy1x10⟩) (by assumption) ?hr1x10
  case hy1x10 => (intro w hSw; (try dsimp only at hSw); go_simp <;> with_reducible rfl)
  simp only [Act.put, List.setIfInBounds_toArray, List.set_cons_zero, List.set_cons_succ, List.getElem_toArray, List.getElem_cons_zero, List.getElem_cons_succ]
  refine wpAnyH_take (i := 11) (v := ?hv1x11) rfl (by kernel_rfl) (by kernel_rfl) (by kernel_rfl) (fun _ _ _ h => h) (Or.inl ⟨by kernel_rfl, ?hy1x11⟩) (by assumption) ?hr1x11
  case hy1x11 => (intro w hSw; (try dsimp only at hSw); go_simp <;> with_reducible rfl)
  simp only [Act.put, List.setIfInBounds_toArray, List.set_cons_zero, List.set_cons_succ, List.getElem_toArray, List.getElem_cons_zero, List.getElem_cons_succ]
  refine wpAnyH_take (i := 12) (v := ?hv1x12) rfl (by kernel_rfl) (by kernel_rfl) (by kernel_rfl) (fun _ _ _ h => h) (Or.inl ⟨by kernel_rfl, ?hy1x12⟩) (by assumption) ?hr1x12
  case hy1x12 => (intro w hSw; (try dsimp only at hSw); go_simp <;> with_reducible rfl)
  simp only [Act.put, List.setIfInBounds_toArray, List.set_cons_zero, List.set_cons_succ, List.getElem_toArray, List.getElem_cons_zero, List.getElem_cons_succ]
  refine wpAnyH_take (i := 14) (v := ?hv1x14) rfl (by kernel_rfl) (by kernel_rfl) (by kernel_rfl) (fun _ _ _ h => h) (Or.inl ⟨by kernel_rfl, ?hy1x14⟩) (by assumption) ?hr1x14
  case hy1x14 => (intro w hSw; (try dsimp only at hSw); go_simp <;> with_reducible rfl)
  simp only [Act.put, List.setIfInBounds_toArray, List.set_cons_zero, List.set_cons_succ, List.getElem_toArray, List.getElem_cons_zero, List.getElem_cons_succ]
  refine wpAnyH_take (i := 17) (v := ?hv1x17) rfl (by kernel_rfl) (by kernel_rfl) (by kernel_rfl) (fun _ _ _ h => h) (Or.inl ⟨by kernel_rfl, ?hy1x17⟩) (by assumption) ?hr1x17
  case hy1x17 => (intro w hSw; (try dsimp only at hSw); go_simp <;> with_reducible rfl)
  simp only [Act.put, List.setIfInBounds_toArray, List.set_cons_zero, List.set_cons_succ, List.getElem_toArray, List.getElem_cons_zero, List.getElem_cons_succ]
  refine wpAnyH_ready (rs := [13]) (by kernel_rfl) (by simp) ?_
  refine AllReadyH.cons rfl (fun K hK => ?_) AllReadyH.nil
  go_simp
  go_at_call 19
  refine (H5.out _).mono ?_
  rintro e w6 ⟨rfl, bb⟩
  replace bb := nextw (w0 := w5) (by exact sm) bb
  replace B_z0 := mv B_z0 bb
  replace B_z1 := mv B_z1 bb
  replace B_z2 := mv B_z2 bb
  replace B_z3 := mv B_z3 bb
  replace HB := nx HB bb
  clear bb c0z0 c1z0 c2z0 c3z0 c4z0 c5z0 c0z2 c1z2 c2z2 c3z2 c4z2 c5z2 c0z3 c1z3 c2z3 c3z3 c4z3 c5z3 c0z1 c1z1 c2z1
  have c0z0 : w6.cell? ⟨w.heap.size, 0, none⟩ = some (.int .i64 x0) := B_z0.out.cell 0 rfl
  have c1z0 : w6.cell? ⟨w.heap.size, 1, none⟩ = some (.int .i64 y0) := B_z0.out.cell 1 rfl
  have c2z0 : w6.cell? ⟨w.heap.size, 2, none⟩ = some (.int .i64 x1) := B_z0.out.cell 2 rfl
  have c3z0 : w6.cell? ⟨w.heap.size, 3, none⟩ = some (.int .i64 y1) := B_z0.out.cell 3 rfl
  have c4z0 : w6.cell? ⟨w.heap.size, 4, none⟩ = some (.int .i64 f) := B_z0.out.cell 4 rfl
  have c5z0 : w6.cell? ⟨w.heap.size, 5, none⟩ = some (.int .i64 c) := B_z0.out.cell 5 rfl
  have c0z2 : w6.cell? ⟨w2.heap.size, 0, none⟩ = some (.int .i64 x0) := B_z2.out.cell 0 rfl
  have c1z2 : w6.cell? ⟨w2.heap.size, 1, none⟩ = some (.int .i64 y0) := B_z2.out.cell 1 rfl
  have c2z2 : w6.cell? ⟨w2.heap.size, 2, none⟩ = some (.int .i64 x1) := B_z2.out.cell 2 rfl
  have c3z2 : w6.cell? ⟨w2.heap.size, 3, none⟩ = some (.int .i64 y1) := B_z2.out.cell 3 rfl
  have c4z2 : w6.cell? ⟨w2.heap.size, 4, none⟩ = some (.int .i64 f) := B_z2.out.cell 4 rfl
  have c5z2 : w6.cell? ⟨w2.heap.size, 5, none⟩ = some (.int .i64 (c / 2)) := B_z2.out.cell 5 rfl
  have c0z3 : w6.cell? ⟨w2.heap.size + 1, 0, none⟩ = some (.int .i64 x0) := B_z3.out.cell 0 rfl
  have c1z3 : w6.cell? ⟨w2.heap.size + 1, 1, none⟩ = some (.int .i64 y0) := B_z3.out.cell 1 rfl
  have c2z3 : w6.cell? ⟨w2.heap.size + 1, 2, none⟩ = some (.int .i64 x1) := B_z3.out.cell 2 rfl
  have c3z3 : w6.cell? ⟨w2.heap.size + 1, 3, none⟩ = some (.int .i64 y1) := B_z3.out.cell 3 rfl
  have c4z3 : w6.cell? ⟨w2.heap.size + 1, 4, none⟩ = some (.int .i64 ((f + c / 2) % 256)) := B_z3.out.cell 4 rfl
  have c5z3 : w6.cell? ⟨w2.heap.size + 1, 5, none⟩ = some (.int .i64 (c - c / 2)) := B_z3.out.cell 5 rfl
  have c0z1 : w6.cell? ⟨w.heap.size + 1, 0, none⟩ = some (.int .i64 x) := B_z1.out.cell 0 rfl
  have c1z1 : w6.cell? ⟨w.heap.size + 1, 1, none⟩ = some (.int .i64 y) := B_z1.out.cell 1 rfl
  have c2z1 : w6.cell? ⟨w.heap.size + 1, 2, none⟩ = some (.int .i64 h) := B_z1.out.cell 2 rfl
  go_wp2_with fail
  refine hK.out _ _ ?_ (fun hH1x4 => ?_)
  · ((try dsimp only); (repeat' apply And.intro) <;> (first | (with_reducible assumption) | ((repeat (first | (with_reducible refine Eq.trans (cell_drew1 _ _) ?_) | (with_reducible refine Eq.trans (cell_far (by omega) _ _ _) ?_) | (with_reducible refine Eq.trans (World.cell?_alloc_lt _ _ _ (by first | (dsimp only; omega) | (simp only [World.size_alloc, World.size_setCell]; omega))) ?_))); with_reducible assumption) | assumption | go_keep))
  clear hK K hH1x3
  try simp only [Act.put, List.setIfInBounds_toArray, List.set_cons_zero, List.set_cons_succ, List.getElem_toArray, List.getElem_cons_zero, List.getElem_cons_succ]
  refine wpAnyH_ready (rs := [15]) (by kernel_rfl) (by simp) ?_
  refine AllReadyH.cons rfl (fun K hK => ?_) AllReadyH.nil
  go_simp
  go_at_call 19
  refine (H6.out _).mono ?_
  rintro e w7 ⟨rfl, bb⟩
  replace bb := nextw (w0 := w6) (by exact sm) bb
  replace B_z0 := mv B_z0 bb
  replace B_z1 := mv B_z1 bb
  replace B_z2 := mv B_z2 bb
  replace B_z3 := mv B_z3 bb
  replace HB := nx HB bb
  clear bb c0z0 c1z0 c2z0 c3z0 c4z0 c5z0 c0z2 c1z2 c2z2 c3z2 c4z2 c5z2 c0z3 c1z3 c2z3 c3z3 c4z3 c5z3 c0z1 c1z1 c2z1
  have c0z0 : w7.cell? ⟨w.heap.size, 0, none⟩ = some (.int .i64 x0) := B_z0.out.cell 0 rfl
  have c1z0 : w7.cell? ⟨w.heap.size, 1, none⟩ = some (.int .i64 y0) := B_z0.out.cell 1 rfl
  have c2z0 : w7.cell? ⟨w.heap.size, 2, none⟩ = some (.int .i64 x1) := B_z0.out.cell 2 rfl
  have c3z0 : w7.cell? ⟨w.heap.size, 3, none⟩ = some (.int .i64 y1) := B_z0.out.cell 3 rfl
  have c4z0 : w7.cell? ⟨w.heap.size, 4, none⟩ = some (.int .i64 f) := B_z0.out.cell 4 rfl
  have c5z0 : w7.cell? ⟨w.heap.size, 5, none⟩ = some (.int .i64 c) := B_z0.out.cell 5 rfl
  have c0z2 : w7.cell? ⟨w2.heap.size, 0, none⟩ = some (.int .i64 x0) := B_z2.out.cell 0 rfl
  have c1z2 : w7.cell? ⟨w2.heap.size, 1, none⟩ = some (.int .i64 y0) := B_z2.out.cell 1 rfl
  have c2z2 : w7.cell? ⟨w2.heap.size, 2, none⟩ = some (.int .i64 x1) := B_z2.out.cell 2 rfl
  have c3z2 : w7.cell? ⟨w2.heap.size, 3, none⟩ = some (.int .i64 y1) := B_z2.out.cell 3 rfl
  have c4z2 : w7.cell? ⟨w2.heap.size, 4, none⟩ = some (.int .i64 f) := B_z2.out.cell 4 rfl
  have c5z2 : w7.cell? ⟨w2.heap.size, 5, none⟩ = some (.int .i64 (c / 2)) := B_z2.out.cell 5 rfl
  have c0z3 : w7.cell? ⟨w2.heap.size + 1, 0, none⟩ = some (.int .i64 x0) := B_z3.out.cell 0 rfl
  have c1z3 : w7.cell? ⟨w2.heap.size + 1, 1, none⟩ = some (.int .i64 y0) := B_z3.out.cell 1 rfl
  have c2z3 : w7.cell? ⟨w2.heap.size + 1, 2, none⟩ = some (.int .i64 x1) := B_z3.out.cell 2 rfl
  have c3z3 : w7.cell? ⟨w2.heap.size + 1, 3, none⟩ = some (.int .i64 y1) := B_z3.out.cell 3 rfl
  have c4z3 : w7.cell? ⟨w2.heap.size + 1, 4, none⟩ = some (.int .i64 ((f + c / 2) % 256)) := B_z3.out.cell 4 rfl
  have c5z3 : w7.cell? ⟨w2.heap.size + 1, 5, none⟩ = some (.int .i64 (c - c / 2)) := B_z3.out.cell 5 rfl
  have c0z1 : w7.cell? ⟨w.heap.size + 1, 0, none⟩ = some (.int .i64 x) := B_z1.out.cell 0 rfl
  have c1z1 : w7.cell? ⟨w.heap.size + 1, 1, none⟩ = some (.int .i64 y) := B_z1.out.cell 1 rfl
  have c2z1 : w7.cell? ⟨w.heap.size + 1, 2, none⟩ = some (.int .i64 h) := B_z1.out.cell 2 rfl
  go_wp2_with fail
  refine hK.out _ _ ?_ (fun hH1x5 => ?_)
  · ((try dsimp only); (repeat' apply And.intro) <;> (first | (with_reducible assumption) | ((repeat (first | (with_reducible refine Eq.trans (cell_drew1 _ _) ?_) | (with_reducible refine Eq.trans (cell_far (by omega) _ _ _) ?_) | (with_reducible refine Eq.trans (World.cell?_alloc_lt _ _ _ (by first | (dsimp only; omega) | (simp only [World.size_alloc, World.size_setCell]; omega))) ?_))); with_reducible assumption) | assumption | go_keep))
  clear hK K hH1x4
  try simp only [Act.put, List.setIfInBounds_toArray, List.set_cons_zero, List.set_cons_succ, List.getElem_toArray, List.getElem_cons_zero, List.getElem_cons_succ]
  refine wpAnyH_take (i := 16) (v := ?hv1x16) rfl (by kernel_rfl) (by kernel_rfl) (by kernel_rfl) (fun _ _ _ h => h) (Or.inl ⟨by kernel_rfl, ?hy1x16⟩) (by assumption) ?hr1x16
  case hy1x16 => (intro w hSw; (try dsimp only at hSw); go_simp <;> with_reducible rfl)
  simp only [Act.put, List.setIfInBounds_toArray, List.set_cons_zero, List.set_cons_succ, List.getElem_toArray, List.getElem_cons_zero, List.getElem_cons_succ]
  refine wpAnyH_ready (rs := [18]) (by kernel_rfl) (by simp) ?_
  refine AllReadyH.cons rfl (fun K hK => ?_) AllReadyH.nil
  go_simp
  go_at_call 19
  refine (H7.out _).mono ?_
  rintro e w8 ⟨rfl, bb⟩
  replace bb := nextw (w0 := w7) (by exact sm) bb
  replace B_z0 := mv B_z0 bb
  replace B_z1 := mv B_z1 bb
  replace B_z2 := mv B_z2 bb
  replace B_z3 := mv B_z3 bb
  replace HB := nx HB bb
  clear bb c0z0 c1z0 c2z0 c3z0 c4z0 c5z0 c0z2 c1z2 c2z2 c3z2 c4z2 c5z2 c0z3 c1z3 c2z3 c3z3 c4z3 c5z3 c0z1 c1z1 c2z1
  have c0z0 : w8.cell? ⟨w.heap.size, 0, none⟩ = some (.int .i64 x0) := B_z0.out.cell 0 rfl
  have c1z0 : w8.cell? ⟨w.heap.size, 1, none⟩ = some (.int .i64 y0) := B_z0.out.cell 1 rfl
  have c2z0 : w8.cell? ⟨w.heap.size, 2, none⟩ = some (.int .i64 x1) := B_z0.out.cell 2 rfl
  have c3z0 : w8.cell? ⟨w.heap.size, 3, none⟩ = some (.int .i64 y1) := B_z0.out.cell 3 rfl
  have c4z0 : w8.cell? ⟨w.heap.size, 4, none⟩ = some (.int .i64 f) := B_z0.out.cell 4 rfl
  have c5z0 : w8.cell? ⟨w.heap.size, 5, none⟩ = some (.int .i64 c) := B_z0.out.cell 5 rfl
  have c0z2 : w8.cell? ⟨w2.heap.size, 0, none⟩ = some (.int .i64 x0) := B_z2.out.cell 0 rfl
  have c1z2 : w8.cell? ⟨w2.heap.size, 1, none⟩ = some (.int .i64 y0) := B_z2.out.cell 1 rfl
  have c2z2 : w8.cell? ⟨w2.heap.size, 2, none⟩ = some (.int .i64 x1) := B_z2.out.cell 2 rfl
  have c3z2 : w8.cell? ⟨w2.heap.size, 3, none⟩ = some (.int .i64 y1) := B_z2.out.cell 3 rfl
  have c4z2 : w8.cell? ⟨w2.heap.size, 4, none⟩ = some (.int .i64 f) := B_z2.out.cell 4 rfl
  have c5z2 : w8.cell? ⟨w2.heap.size, 5, none⟩ = some (.int .i64 (c / 2)) := B_z2.out.cell 5 rfl
  have c0z3 : w8.cell? ⟨w2.heap.size + 1, 0, none⟩ = some (.int .i64 x0) := B_z3.out.cell 0 rfl
  have c1z3 : w8.cell? ⟨w2.heap.size + 1, 1, none⟩ = some (.int .i64 y0) := B_z3.out.cell 1 rfl
  have c2z3 : w8.cell? ⟨w2.heap.size + 1, 2, none⟩ = some (.int .i64 x1) := B_z3.out.cell 2 rfl
  have c3z3 : w8.cell? ⟨w2.heap.size + 1, 3, none⟩ = some (.int .i64 y1) := B_z3.out.cell 3 rfl
  have c4z3 : w8.cell? ⟨w2.heap.size + 1, 4, none⟩ = some (.int .i64 ((f + c / 2) % 256)) := B_z3.out.cell 4 rfl
  have c5z3 : w8.cell? ⟨w2.heap.size + 1, 5, none⟩ = some (.int .i64 (c - c / 2)) := B_z3.out.cell 5 rfl
  have c0z1 : w8.cell? ⟨w.heap.size + 1, 0, none⟩ = some (.int .i64 x) := B_z1.out.cell 0 rfl
  have c1z1 : w8.cell? ⟨w.heap.size + 1, 1, none⟩ = some (.int .i64 y) := B_z1.out.cell 1 rfl
  have c2z1 : w8.cell? ⟨w.heap.size + 1, 2, none⟩ = some (.int .i64 h) := B_z1.out.cell 2 rfl
  go_wp2_with fail
  refine hK.out _ _ ?_ (fun hH1x6 => ?_)
  · ((try dsimp only); (repeat' apply And.intro) <;> (first | (with_reducible assumption) | ((repeat (first | (with_reducible refine Eq.trans (cell_drew1 _ _) ?_) | (with_reducible refine Eq.trans (cell_far (by omega) _ _ _) ?_) | (with_reducible refine Eq.trans (World.cell?_alloc_lt _ _ _ (by first | (dsimp only; omega) | (simp only [World.size_alloc, World.size_setCell]; omega))) ?_))); with_reducible assumption) | assumption | go_keep))
  clear hK K hH1x5
  try simp only [Act.put, List.setIfInBounds_toArray, List.set_cons_zero, List.set_cons_succ, List.getElem_toArray, List.getElem_cons_zero, List.getElem_cons_succ]
  refine wpAnyH_take (i := 19) (v := ?hv1x19) rfl (by kernel_rfl) (by kernel_rfl) (by kernel_rfl) (fun _ _ _ h => h) (Or.inl ⟨by kernel_rfl, ?hy1x19⟩) (by assumption) ?hr1x19
  case hy1x19 => (intro w hSw; (try dsimp only at hSw); go_simp <;> with_reducible rfl)
  simp only [Act.put, List.setIfInBounds_toArray, List.set_cons_zero, List.set_cons_succ, List.getElem_toArray, List.getElem_cons_zero, List.getElem_cons_succ]
  refine wpAnyH_take (i := 20) (v := ?hv1x20) rfl (by kernel_rfl) (by kernel_rfl) (by kernel_rfl) (fun _ _ _ h => h) (Or.inl ⟨by kernel_rfl, ?hy1x20⟩) (by assumption) ?hr1x20
  case hy1x20 => (intro w hSw; (try dsimp only at hSw); go_simp <;> with_reducible rfl)
  simp only [Act.put, List.setIfInBounds_toArray, List.set_cons_zero, List.set_cons_succ, List.getElem_toArray, List.getElem_cons_zero, List.getElem_cons_succ]
  refine wpAnyH_take (i := 21) (v := ?hv1x21) rfl (by kernel_rfl) (by kernel_rfl) (by kernel_rfl) (fun _ _ _ h => h) (Or.inl ⟨by kernel_rfl, ?hy1x21⟩) (by assumption) ?hr1x21
  case hy1x21 => (intro w hSw; (try dsimp only at hSw); go_simp <;> with_reducible rfl)
  simp only [Act.put, List.setIfInBounds_toArray, List.set_cons_zero, List.set_cons_succ, List.getElem_toArray, List.getElem_cons_zero, List.getElem_cons_succ]
  refine wpAnyH_take (i := 22) (v := ?hv1x22) rfl (by kernel_rfl) (by kernel_rfl) (by kernel_rfl) (fun _ _ _ h => h) (Or.inl ⟨by kernel_rfl, ?hy1x22⟩) (by assumption) ?hr1x22
  case hy1x22 => (intro w hSw; (try dsimp only at hSw); go_simp <;> with_reducible rfl)
  simp only [Act.put, List.setIfInBounds_toArray, List.set_cons_zero, List.set_cons_succ, List.getElem_toArray, List.getElem_cons_zero, List.getElem_cons_succ]
  refine wpAnyH_take (i := 23) (v := ?hv1x23) rfl (by kernel_rfl) (by kernel_rfl) (by kernel_rfl) (fun _ _ _ h => h) (Or.inl ⟨by kernel_rfl, ?hy1x23⟩) (by assumption) ?hr1x23
  case hy1x23 => (intro w hSw; (try dsimp only at hSw); go_simp <;> with_reducible rfl)
  simp only [Act.put, List.setIfInBounds_toArray, List.set_cons_zero, List.set_cons_succ, List.getElem_toArray, List.getElem_cons_zero, List.getElem_cons_succ]
  refine wpAnyH_ready (rs := [24]) (by kernel_rfl) (by simp) ?_
  refine AllReadyH.cons rfl (fun K hK => ?_) AllReadyH.nil
  go_simp
  go_at_call 24
  refine (H8.out _).mono ?_
  rintro e w9 ⟨rfl, bb⟩
  replace bb := nextw (w0 := w8) (by exact sm) bb
  replace B_z0 := mv B_z0 bb
  replace B_z1 := mv B_z1 bb
  replace B_z2 := mv B_z2 bb
  replace B_z3 := mv B_z3 bb
  replace HB := nx HB bb
  clear bb c0z0 c1z0 c2z0 c3z0 c4z0 c5z0 c0z2 c1z2 c2z2 c3z2 c4z2 c5z2 c0z3 c1z3 c2z3 c3z3 c4z3 c5z3 c0z1 c1z1 c2z1
  have c0z0 : w9.cell? ⟨w.heap.size, 0, none⟩ = some (.int .i64 x0) := B_z0.out.cell 0 rfl
  have c1z0 : w9.cell? ⟨w.heap.size, 1, none⟩ = some (.int .i64 y0) := B_z0.out.cell 1 rfl
  have c2z0 : w9.cell? ⟨w.heap.size, 2, none⟩ = some (.int .i64 x1) := B_z0.out.cell 2 rfl
  have c3z0 : w9.cell? ⟨w.heap.size, 3, none⟩ = some (.int .i64 y1) := B_z0.out.cell 3 rfl
  have c4z0 : w9.cell? ⟨w.heap.size, 4, none⟩ = some (.int .i64 f) := B_z0.out.cell 4 rfl
  have c5z0 : w9.cell? ⟨w.heap.size, 5, none⟩ = some (.int .i64 c) := B_z0.out.cell 5 rfl
  have c0z2 : w9.cell? ⟨w2.heap.size, 0, none⟩ = some (.int .i64 x0) := B_z2.out.cell 0 rfl
  have c1z2 : w9.cell? ⟨w2.heap.size, 1, none⟩ = some (.int .i64 y0) := B_z2.out.cell 1 rfl
  have c2z2 : w9.cell? ⟨w2.heap.size, 2, none⟩ = some (.int .i64 x1) := B_z2.out.cell 2 rfl
  have c3z2 : w9.cell? ⟨w2.heap.size, 3, none⟩ = some (.int .i64 y1) := B_z2.out.cell 3 rfl
  have c4z2 : w9.cell? ⟨w2.heap.size, 4, none⟩ = some (.int .i64 f) := B_z2.out.cell 4 rfl
  have c5z2 : w9.cell? ⟨w2.heap.size, 5, none⟩ = some (.int .i64 (c / 2)) := B_z2.out.cell 5 rfl
  have c0z3 : w9.cell? ⟨w2.heap.size + 1, 0, none⟩ = some (.int .i64 x0) := B_z3.out.cell 0 rfl
  have c1z3 : w9.cell? ⟨w2.heap.size + 1, 1, none⟩ = some (.int .i64 y0) := B_z3.out.cell 1 rfl
  have c2z3 : w9.cell? ⟨w2.heap.size + 1, 2, none⟩ = some (.int .i64 x1) := B_z3.out.cell 2 rfl
  have c3z3 : w9.cell? ⟨w2.heap.size + 1, 3, none⟩ = some (.int .i64 y1) := B_z3.out.cell 3 rfl
  have c4z3 : w9.cell? ⟨w2.heap.size + 1, 4, none⟩ = some (.int .i64 ((f + c / 2) % 256)) := B_z3.out.cell 4 rfl
  have c5z3 : w9.cell? ⟨w2.heap.size + 1, 5, none⟩ = some (.int .i64 (c - c / 2)) := B_z3.out.cell 5 rfl
  have c0z1 : w9.cell? ⟨w.heap.size + 1, 0, none⟩ = some (.int .i64 x) := B_z1.out.cell 0 rfl
  have c1z1 : w9.cell? ⟨w.heap.size + 1, 1, none⟩ = some (.int .i64 y) := B_z1.out.cell 1 rfl
  have c2z1 : w9.cell? ⟨w.heap.size + 1, 2, none⟩ = some (.int .i64 h) := B_z1.out.cell 2 rfl
  go_wp2_with fail
  refine hK.out _ _ ?_ (fun hH1x7 => ?_)
  · ((try dsimp only); (repeat' apply And.intro) <;> (first | (with_reducible assumption) | ((repeat (first | (with_reducible refine Eq.trans (cell_drew1 _ _) ?_) | (with_reducible refine Eq.trans (cell_far (by omega) _ _ _) ?_) | (with_reducible refine Eq.trans (World.cell?_alloc_lt _ _ _ (by first | (dsimp only; omega) | (simp only [World.size_alloc, World.size_setCell]; omega))) ?_))); with_reducible assumption) | assumption | go_keep))
  clear hK K hH1x6
  try simp only [Act.put, List.setIfInBounds_toArray, List.set_cons_zero, List.set_cons_succ, List.getElem_toArray, List.getElem_cons_zero, List.getElem_cons_succ]
  refine wpAnyH_take (i := 25) (v := ?hv1x25) rfl (by kernel_rfl) (by kernel_rfl) (by kernel_rfl) (fun _ _ _ h => h) (Or.inl ⟨by kernel_rfl, ?hy1x25⟩) (by assumption) ?hr1x25
  case hy1x25 => (intro w hSw; (try dsimp only at hSw); go_simp <;> with_reducible rfl)
  simp only [Act.put, List.setIfInBounds_toArray, List.set_cons_zero, List.set_cons_succ, List.getElem_toArray, List.getElem_cons_zero, List.getElem_cons_succ]
  refine wpAnyH_take (i := 26) (v := ?hv1x26) rfl (by kernel_rfl) (by kernel_rfl) (by kernel_rfl) (fun _ _ _ h => h) (Or.inl ⟨by kernel_rfl, ?hy1x26⟩) (by assumption) ?hr1x26
  case hy1x26 => (intro w hSw; (try dsimp only at hSw); go_simp <;> with_reducible rfl)
  simp only [Act.put, List.setIfInBounds_toArray, List.set_cons_zero, List.set_cons_succ, List.getElem_toArray, List.getElem_cons_zero, List.getElem_cons_succ]
  refine wpAnyH_take (i := 27) (v := ?hv1x27) rfl (by kernel_rfl) (by kernel_rfl) (by kernel_rfl) (fun _ _ _ h => h) (Or.inl ⟨by kernel_rfl, ?hy1x27⟩) (by assumption) ?hr1x27
  case hy1x27 => (intro w hSw; (try dsimp only at hSw); go_simp <;> with_reducible rfl)
  simp only [Act.put, List.setIfInBounds_toArray, List.set_cons_zero, List.set_cons_succ, List.getElem_toArray, List.getElem_cons_zero, List.getElem_cons_succ]
  refine wpAnyH_take (i := 28) (v := ?hv1x28) rfl (by kernel_rfl) (by kernel_rfl) (by kernel_rfl) (fun _ _ _ h => h) (Or.inl ⟨by kernel_rfl, ?hy1x28⟩) (by assumption) ?hr1x28
  case hy1x28 => (intro w hSw; (try dsimp only at hSw); go_simp <;> with_reducible rfl)
  simp only [Act.put, List.setIfInBounds_toArray, List.set_cons_zero, List.set_cons_succ, List.getElem_toArray, List.getElem_cons_zero, List.getElem_cons_succ]
  refine wpAnyH_ready (rs := [29]) (by kernel_rfl) (by simp) ?_
  refine AllReadyH.cons rfl (fun K hK => ?_) AllReadyH.nil
  go_simp
  go_at_call 24
  refine (H9.out _).mono ?_
  rintro e w10 ⟨rfl, bb⟩
  replace bb := nextw (w0 := w9) (by exact sm) bb
  replace B_z0 := mv B_z0 bb
  replace B_z1 := mv B_z1 bb
  replace B_z2 := mv B_z2 bb
  replace B_z3 := mv B_z3 bb
  replace HB := nx HB bb
  clear bb c0z0 c1z0 c2z0 c3z0 c4z0 c5z0 c0z2 c1z2 c2z2 c3z2 c4z2 c5z2 c0z3 c1z3 c2z3 c3z3 c4z3 c5z3 c0z1 c1z1 c2z1
  have c0z0 : w10.cell? ⟨w.heap.size, 0, none⟩ = some (.int .i64 x0) := B_z0.out.cell 0 rfl
  have c1z0 : w10.cell? ⟨w.heap.size, 1, none⟩ = some (.int .i64 y0) := B_z0.out.cell 1 rfl
  have c2z0 : w10.cell? ⟨w.heap.size, 2, none⟩ = some (.int .i64 x1) := B_z0.out.cell 2 rfl
  have c3z0 : w10.cell? ⟨w.heap.size, 3, none⟩ = some (.int .i64 y1) := B_z0.out.cell 3 rfl
  have c4z0 : w10.cell? ⟨w.heap.size, 4, none⟩ = some (.int .i64 f) := B_z0.out.cell 4 rfl
  have c5z0 : w10.cell? ⟨w.heap.size, 5, none⟩ = some (.int .i64 c) := B_z0.out.cell 5 rfl
  have c0z2 : w10.cell? ⟨w2.heap.size, 0, none⟩ = some (.int .i64 x0) := B_z2.out.cell 0 rfl
  have c1z2 : w10.cell? ⟨w2.heap.size, 1, none⟩ = some (.int .i64 y0) := B_z2.out.cell 1 rfl
  have c2z2 : w10.cell? ⟨w2.heap.size, 2, none⟩ = some (.int .i64 x1) := B_z2.out.cell 2 rfl
  have c3z2 : w10.cell? ⟨w2.heap.size, 3, none⟩ = some (.int .i64 y1) := B_z2.out.cell 3 rfl
  have c4z2 : w10.cell? ⟨w2.heap.size, 4, none⟩ = some (.int .i64 f) := B_z2.out.cell 4 rfl
  have c5z2 : w10.cell? ⟨w2.heap.size, 5, none⟩ = some (.int .i64 (c / 2)) := B_z2.out.cell 5 rfl
  have c0z3 : w10.cell? ⟨w2.heap.size + 1, 0, none⟩ = some (.int .i64 x0) := B_z3.out.cell 0 rfl
  have c1z3 : w10.cell? ⟨w2.heap.size + 1, 1, none⟩ = some (.int .i64 y0) := B_z3.out.cell 1 rfl
  have c2z3 : w10.cell? ⟨w2.heap.size + 1, 2, none⟩ = some (.int .i64 x1) := B_z3.out.cell 2 rfl
  have c3z3 : w10.cell? ⟨w2.heap.size + 1, 3, none⟩ = some (.int .i64 y1) := B_z3.out.cell 3 rfl
  have c4z3 : w10.cell? ⟨w2.heap.size + 1, 4, none⟩ = some (.int .i64 ((f + c / 2) % 256)) := B_z3.out.cell 4 rfl
  have c5z3 : w10.cell? ⟨w2.heap.size + 1, 5, none⟩ = some (.int .i64 (c - c / 2)) := B_z3.out.cell 5 rfl
  have c0z1 : w10.cell? ⟨w.heap.size + 1, 0, none⟩ = some (.int .i64 x) := B_z1.out.cell 0 rfl
  have c1z1 : w10.cell? ⟨w.heap.size + 1, 1, none⟩ = some (.int .i64 y) := B_z1.out.cell 1 rfl
  have c2z1 : w10.cell? ⟨w.heap.size + 1, 2, none⟩ = some (.int .i64 h) := B_z1.out.cell 2 rfl
  go_wp2_with fail
  refine hK.out _ _ ?_ (fun hH1x8 => ?_)
  · ((try dsimp only); (repeat' apply And.intro) <;> (first | (with_reducible assumption) | ((repeat (first | (with_reducible refine Eq.trans (cell_drew1 _ _) ?_) | (with_reducible refine Eq.trans (cell_far (by omega) _ _ _) ?_) | (with_reducible refine Eq.trans (World.cell?_alloc_lt _ _ _ (by first | (dsimp only; omega) | (simp only [World.size_alloc, World.size_setCell]; omega))) ?_))); with_reducible assumption) | assumption | go_keep))
  clear hK K hH1x7
  try simp only [Act.put, List.setIfInBounds_toArray, List.set_cons_zero, List.set_cons_succ, List.getElem_toArray, List.getElem_cons_zero, List.getElem_cons_succ]
  refine wpAnyH_take (i := 30) (v := ?hv1x30) rfl (by kernel_rfl) (by kernel_rfl) (by kernel_rfl) (fun _ _ _ h => h) (Or.inl ⟨by kernel_rfl, ?hy1x30⟩) (by assumption) ?hr1x30
  case hy1x30 => (intro w hSw; (try dsimp only at hSw); go_simp <;> with_reducible rfl)
  simp only [Act.put, List.setIfInBounds_toArray, List.set_cons_zero, List.set_cons_succ, List.getElem_toArray, List.getElem_cons_zero, List.getElem_cons_succ]
  refine wpAnyH_take (i := 31) (v := ?hv1x31) rfl (by kernel_rfl) (by kernel_rfl) (by kernel_rfl) (fun _ _ _ h => h) (Or.inl ⟨by kernel_rfl, ?hy1x31⟩) (by assumption) ?hr1x31
  case hy1x31 => (intro w hSw; (try dsimp only at hSw); go_simp <;> with_reducible rfl)
  simp only [Act.put, List.setIfInBounds_toArray, List.set_cons_zero, List.set_cons_succ, List.getElem_toArray, List.getElem_cons_zero, List.getElem_cons_succ]
  refine wpAnyH_take (i := 32) (v := ?hv1x32) rfl (by kernel_rfl) (by kernel_rfl) (by kernel_rfl) (fun _ _ _ h => h) (Or.inl ⟨by kernel_rfl, ?hy1x32⟩) (by assumption) ?hr1x32
  case hy1x32 => (intro w hSw; (try dsimp only at hSw); go_simp <;> with_reducible rfl)
  simp only [Act.put, List.setIfInBounds_toArray, List.set_cons_zero, List.set_cons_succ, List.getElem_toArray, List.getElem_cons_zero, List.getElem_cons_succ]
  refine wpAnyH_take (i := 33) (v := ?hv1x33) rfl (by kernel_rfl) (by kernel_rfl) (by kernel_rfl) (fun _ _ _ h => h) (Or.inl ⟨by kernel_rfl, ?hy1x33⟩) (by assumption) ?hr1x33
  case hy1x33 => (intro w hSw; (try dsimp only at hSw); go_simp <;> with_reducible rfl)
  simp only [Act.put, List.setIfInBounds_toArray, List.set_cons_zero, List.set_cons_succ, List.getElem_toArray, List.getElem_cons_zero, List.getElem_cons_succ]
  refine wpAnyH_ready (rs := [34]) (by kernel_rfl) (by simp) ?_
  refine AllReadyH.cons rfl (fun K hK => ?_) AllReadyH.nil
  go_simp
  go_at_call 22
  refine (H10.out _).mono ?_
  rintro e w11 ⟨A, cap, rfl, bb⟩
  replace bb := nextw (w0 := w10) (by exact sm) bb
  replace B_z0 := mv B_z0 bb
  replace B_z1 := mv B_z1 bb
  replace B_z2 := mv B_z2 bb
  replace B_z3 := mv B_z3 bb
  replace HB := nx HB bb
  clear bb c0z0 c1z0 c2z0 c3z0 c4z0 c5z0 c0z2 c1z2 c2z2 c3z2 c4z2 c5z2 c0z3 c1z3 c2z3 c3z3 c4z3 c5z3 c0z1 c1z1 c2z1
  have c0z0 : w11.cell? ⟨w.heap.size, 0, none⟩ = some (.int .i64 x0) := B_z0.out.cell 0 rfl
  have c1z0 : w11.cell? ⟨w.heap.size, 1, none⟩ = some (.int .i64 y0) := B_z0.out.cell 1 rfl
  have c2z0 : w11.cell? ⟨w.heap.size, 2, none⟩ = some (.int .i64 x1) := B_z0.out.cell 2 rfl
  have c3z0 : w11.cell? ⟨w.heap.size, 3, none⟩ = some (.int .i64 y1) := B_z0.out.cell 3 rfl
  have c4z0 : w11.cell? ⟨w.heap.size, 4, none⟩ = some (.int .i64 f) := B_z0.out.cell 4 rfl
  have c5z0 : w11.cell? ⟨w.heap.size, 5, none⟩ = some (.int .i64 c) := B_z0.out.cell 5 rfl
  have c0z2 : w11.cell? ⟨w2.heap.size, 0, none⟩ = some (.int .i64 x0) := B_z2.out.cell 0 rfl
  have c1z2 : w11.cell? ⟨w2.heap.size, 1, none⟩ = some (.int .i64 y0) := B_z2.out.cell 1 rfl
  have c2z2 : w11.cell? ⟨w2.heap.size, 2, none⟩ = some (.int .i64 x1) := B_z2.out.cell 2 rfl
  have c3z2 : w11.cell? ⟨w2.heap.size, 3, none⟩ = some (.int .i64 y1) := B_z2.out.cell 3 rfl
  have c4z2 : w11.cell? ⟨w2.heap.size, 4, none⟩ = some (.int .i64 f) := B_z2.out.cell 4 rfl
  have c5z2 : w11.cell? ⟨w2.heap.size, 5, none⟩ = some (.int .i64 (c / 2)) := B_z2.out.cell 5 rfl
  have c0z3 : w11.cell? ⟨w2.heap.size + 1, 0, none⟩ = some (.int .i64 x0) := B_z3.out.cell 0 rfl
  have c1z3 : w11.cell? ⟨w2.heap.size + 1, 1, none⟩ = some (.int .i64 y0) := B_z3.out.cell 1 rfl
  have c2z3 : w11.cell? ⟨w2.heap.size + 1, 2, none⟩ = some (.int .i64 x1) := B_z3.out.cell 2 rfl
  have c3z3 : w11.cell? ⟨w2.heap.size + 1, 3, none⟩ = some (.int .i64 y1) := B_z3.out.cell 3 rfl
  have c4z3 : w11.cell? ⟨w2.heap.size + 1, 4, none⟩ = some (.int .i64 ((f + c / 2) % 256)) := B_z3.out.cell 4 rfl
  have c5z3 : w11.cell? ⟨w2.heap.size + 1, 5, none⟩ = some (.int .i64 (c - c / 2)) := B_z3.out.cell 5 rfl
  have c0z1 : w11.cell? ⟨w.heap.size + 1, 0, none⟩ = some (.int .i64 x) := B_z1.out.cell 0 rfl
  have c1z1 : w11.cell? ⟨w.heap.size + 1, 1, none⟩ = some (.int .i64 y) := B_z1.out.cell 1 rfl
  have c2z1 : w11.cell? ⟨w.heap.size + 1, 2, none⟩ = some (.int .i64 h) := B_z1.out.cell 2 rfl
  go_wp2_with fail
  refine hK.out _ _ ?_ (fun hH1x9 => ?_)
  · ((try dsimp only); (repeat' apply And.intro) <;> (first | (with_reducible assumption) | ((repeat (first | (with_reducible refine Eq.trans (cell_drew1 _ _) ?_) | (with_reducible refine Eq.trans (cell_far (by omega) _ _ _) ?_) | (with_reducible refine Eq.trans (World.cell?_alloc_lt _ _ _ (by first | (dsimp only; omega) | (simp only [World.size_alloc, World.size_setCell]; omega))) ?_))); with_reducible assumption) | assumption | go_keep))
  clear hK K hH1x8
  try simp only [Act.put, List.setIfInBounds_toArray, List.set_cons_zero, List.set_cons_succ, List.getElem_toArray, List.getElem_cons_zero, List.getElem_cons_succ]
  refine wpAnyH_take (i := 35) (v := ?hv1x35) rfl (by kernel_rfl) (by kernel_rfl) (by kernel_rfl) (fun _ _ _ h => h) (Or.inl ⟨by kernel_rfl, ?hy1x35⟩) (by assumption) ?hr1x35
  case hy1x35 => (intro w hSw; (try dsimp only at hSw); go_simp <;> with_reducible rfl)
  simp only [Act.put, List.setIfInBounds_toArray, List.set_cons_zero, List.set_cons_succ, List.getElem_toArray, List.getElem_cons_zero, List.getElem_cons_succ]
  refine wpAnyH_take (i := 36) (v := ?hv1x36) rfl (by kernel_rfl) (by kernel_rfl) (by kernel_rfl) (fun _ _ _ h => h) (Or.inl ⟨by kernel_rfl, ?hy1x36⟩) (by assumption) ?hr1x36
  case hy1x36 => (intro w hSw; (try dsimp only at hSw); go_simp <;> with_reducible rfl)
  simp only [Act.put, List.setIfInBounds_toArray, List.set_cons_zero, List.set_cons_succ, List.getElem_toArray, List.getElem_cons_zero, List.getElem_cons_succ]
  refine wpAnyH_take (i := 37) (v := ?hv1x37) rfl (by kernel_rfl) (by kernel_rfl) (by kernel_rfl) (fun _ _ _ h => h) (Or.inl ⟨by kernel_rfl, ?hy1x37⟩) (by assumption) ?hr1x37
  case hy1x37 => (intro w hSw; (try dsimp only at hSw); go_simp <;> with_reducible rfl)
  simp only [Act.put, List.setIfInBounds_toArray, List.set_cons_zero, List.set_cons_succ, List.getElem_toArray, List.getElem_cons_zero, List.getElem_cons_succ]
  refine wpAnyH_take (i := 38) (v := ?hv1x38) rfl (by kernel_rfl) (by kernel_rfl) (by kernel_rfl) (fun _ _ _ h => h) (Or.inl ⟨by kernel_rfl, ?hy1x38⟩) (by assumption) ?hr1x38
  case hy1x38 => (intro w hSw; (try dsimp only at hSw); go_simp <;> with_reducible rfl)
  simp only [Act.put, List.setIfInBounds_toArray, List.set_cons_zero, List.set_cons_succ, List.getElem_toArray, List.getElem_cons_zero, List.getElem_cons_succ]
  refine wpAnyH_take (i := 39) (v := ?hv1x39) rfl (by kernel_rfl) (by kernel_rfl) (by kernel_rfl) (fun _ _ _ h => h) (Or.inl ⟨by kernel_rfl, ?hy1x39⟩) (by assumption) ?hr1x39
  case hy1x39 => (intro w hSw; (try dsimp only at hSw); go_simp <;> with_reducible rfl)
  simp only [Act.put, List.setIfInBounds_toArray, List.set_cons_zero, List.set_cons_succ, List.getElem_toArray, List.getElem_cons_zero, List.getElem_cons_succ]
  refine wpAnyH_take (i := 40) (v := ?hv1x40) rfl (by kernel_rfl) (by kernel_rfl) (by kernel_rfl) (fun _ _ _ h => h) (Or.inl ⟨by kernel_rfl, ?hy1x40⟩) (by assumption) ?hr1x40
  case hy1x40 => (intro w hSw; (try dsimp only at hSw); go_simp <;> with_reducible rfl)
  simp only [Act.put, List.setIfInBounds_toArray, List.set_cons_zero, List.set_cons_succ, List.getElem_toArray, List.getElem_cons_zero, List.getElem_cons_succ]
  refine wpAnyH_take (i := 42) (v := ?hv1x42) rfl (by kernel_rfl) (by kernel_rfl) (by kernel_rfl) (fun _ _ _ h => h) (Or.inl ⟨by kernel_rfl, ?hy1x42⟩) (by assumption) ?hr1x42
  case hy1x42 => (intro w hSw; (try dsimp only at hSw); go_simp <;> with_reducible rfl)
  simp only [Act.put, List.setIfInBounds_toArray, List.set_cons_zero, List.set_cons_succ, List.getElem_toArray, List.getElem_cons_zero, List.getElem_cons_succ]
  refine wpAnyH_take (i := 43) (v := ?hv1x43) rfl (by kernel_rfl) (by kernel_rfl) (by kernel_rfl) (fun _ _ _ h => h) (Or.inl ⟨by kernel_rfl, ?hy1x43⟩) (by assumption) ?hr1x43
  case hy1x43 => (intro w hSw; (try dsimp only at hSw); go_simp <;> with_reducible rfl)
  simp only [Act.put, List.setIfInBounds_toArray, List.set_cons_zero, List.set_cons_succ, List.getElem_toArray, List.getElem_cons_zero, List.getElem_cons_succ]
  refine wpAnyH_take (i := 45) (v := ?hv1x45) rfl (by kernel_rfl) (by kernel_rfl) (by kernel_rfl) (fun _ _ _ h => h) (Or.inl ⟨by kernel_rfl, ?hy1x45⟩) (by assumption) ?hr1x45
  case hy1x45 => (intro w hSw; (try dsimp only at hSw); go_simp <;> with_reducible rfl)
  simp only [Act.put, List.setIfInBounds_toArray, List.set_cons_zero, List.set_cons_succ, List.getElem_toArray, List.getElem_cons_zero, List.getElem_cons_succ]
  refine wpAnyH_take (i := 46) (v := ?hv1x46) rfl (by kernel_rfl) (by kernel_rfl) (by kernel_rfl) (fun _ _ _ h => h) (Or.inl ⟨by kernel_rfl, ?hy1x46⟩) (by assumption) ?hr1x46
  case hy1x46 => (intro w hSw; (try dsimp only at hSw); go_simp <;> with_reducible rfl)
  simp only [Act.put, List.setIfInBounds_toArray, List.set_cons_zero, List.set_cons_succ, List.getElem_toArray, List.getElem_cons_zero, List.getElem_cons_succ]
  refine wpAnyH_ready (rs := [41]) (by kernel_rfl) (by simp) ?_
  refine AllReadyH.cons rfl (fun K hK => ?_) AllReadyH.nil
  go_simp
  go_at_call 17
  refine (H11.out _).mono ?_
  rintro e w12 ⟨rfl, bb⟩
  replace bb := nextw (w0 := w11) (by exact sm) bb
  replace B_z0 := mv B_z0 bb
  replace B_z1 := mv B_z1 bb
  replace B_z2 := mv B_z2 bb
  replace B_z3 := mv B_z3 bb
  replace HB := nx HB bb
  clear bb c0z0 c1z0 c2z0 c3z0 c4z0 c5z0 c0z2 c1z2 c2z2 c3z2 c4z2 c5z2 c0z3 c1z3 c2z3 c3z3 c4z3 c5z3 c0z1 c1z1 c2z1
  have c0z0 : w12.cell? ⟨w.heap.size, 0, none⟩ = some (.int .i64 x0) := B_z0.out.cell 0 rfl
  have c1z0 : w12.cell? ⟨w.heap.size, 1, none⟩ = some (.int .i64 y0) := B_z0.out.cell 1 rfl
  have c2z0 : w12.cell? ⟨w.heap.size, 2, none⟩ = some (.int .i64 x1) := B_z0.out.cell 2 rfl
  have c3z0 : w12.cell? ⟨w.heap.size, 3, none⟩ = some (.int .i64 y1) := B_z0.out.cell 3 rfl
  have c4z0 : w12.cell? ⟨w.heap.size, 4, none⟩ = some (.int .i64 f) := B_z0.out.cell 4 rfl
  have c5z0 : w12.cell? ⟨w.heap.size, 5, none⟩ = some (.int .i64 c) := B_z0.out.cell 5 rfl
  have c0z2 : w12.cell? ⟨w2.heap.size, 0, none⟩ = some (.int .i64 x0) := B_z2.out.cell 0 rfl
  have c1z2 : w12.cell? ⟨w2.heap.size, 1, none⟩ = some (.int .i64 y0) := B_z2.out.cell 1 rfl
  have c2z2 : w12.cell? ⟨w2.heap.size, 2, none⟩ = some (.int .i64 x1) := B_z2.out.cell 2 rfl
  have c3z2 : w12.cell? ⟨w2.heap.size, 3, none⟩ = some (.int .i64 y1) := B_z2.out.cell 3 rfl
  have c4z2 : w12.cell? ⟨w2.heap.size, 4, none⟩ = some (.int .i64 f) := B_z2.out.cell 4 rfl
  have c5z2 : w12.cell? ⟨w2.heap.size, 5, none⟩ = some (.int .i64 (c / 2)) := B_z2.out.cell 5 rfl
  have c0z3 : w12.cell? ⟨w2.heap.size + 1, 0, none⟩ = some (.int .i64 x0) := B_z3.out.cell 0 rfl
  have c1z3 : w12.cell? ⟨w2.heap.size + 1, 1, none⟩ = some (.int .i64 y0) := B_z3.out.cell 1 rfl
  have c2z3 : w12.cell? ⟨w2.heap.size + 1, 2, none⟩ = some (.int .i64 x1) := B_z3.out.cell 2 rfl
  have c3z3 : w12.cell? ⟨w2.heap.size + 1, 3, none⟩ = some (.int .i64 y1) := B_z3.out.cell 3 rfl
  have c4z3 : w12.cell? ⟨w2.heap.size + 1, 4, none⟩ = some (.int .i64 ((f + c / 2) % 256)) := B_z3.out.cell 4 rfl
  have c5z3 : w12.cell? ⟨w2.heap.size + 1, 5, none⟩ = some (.int .i64 (c - c / 2)) := B_z3.out.cell 5 rfl
  have c0z1 : w12.cell? ⟨w.heap.size + 1, 0, none⟩ = some (.int .i64 x) := B_z1.out.cell 0 rfl
  have c1z1 : w12.cell? ⟨w.heap.size + 1, 1, none⟩ = some (.int .i64 y) := B_z1.out.cell 1 rfl
  have c2z1 : w12.cell? ⟨w.heap.size + 1, 2, none⟩ = some (.int .i64 h) := B_z1.out.cell 2 rfl
  go_wp2_with fail
  refine hK.out _ _ ?_ (fun hH1x10 => ?_)
  · ((try dsimp only); (repeat' apply And.intro) <;> (first | (with_reducible assumption) | ((repeat (first | (with_reducible refine Eq.trans (cell_drew1 _ _) ?_) | (with_reducible refine Eq.trans (cell_far (by omega) _ _ _) ?_) | (with_reducible refine Eq.trans (World.cell?_alloc_lt _ _ _ (by first | (dsimp only; omega) | (simp only [World.size_alloc, World.size_setCell]; omega))) ?_))); with_reducible assumption) | assumption | go_keep))
  clear hK K hH1x9
  try simp only [Act.put, List.setIfInBounds_toArray, List.set_cons_zero, List.set_cons_succ, List.getElem_toArray, List.getElem_cons_zero, List.getElem_cons_succ]
  refine wpAnyH_ready (rs := [44]) (by kernel_rfl) (by simp) ?_
  refine AllReadyH.cons rfl (fun K hK => ?_) AllReadyH.nil
  go_simp
  go_at_call 17
  refine (H12.out _).mono ?_
  rintro e w13 ⟨rfl, bb⟩
  replace bb := nextw (w0 := w12) (by exact sm) bb
  replace B_z0 := mv B_z0 bb
  replace B_z1 := mv B_z1 bb
  replace B_z2 := mv B_z2 bb
  replace B_z3 := mv B_z3 bb
  replace HB := nx HB bb
  clear bb c0z0 c1z0 c2z0 c3z0 c4z0 c5z0 c0z2 c1z2 c2z2 c3z2 c4z2 c5z2 c0z3 c1z3 c2z3 c3z3 c4z3 c5z3 c0z1 c1z1 c2z1
  have c0z0 : w13.cell? ⟨w.heap.size, 0, none⟩ = some (.int .i64 x0) := B_z0.out.cell 0 rfl
  have c1z0 : w13.cell? ⟨w.heap.size, 1, none⟩ = some (.int .i64 y0) := B_z0.out.cell 1 rfl
  have c2z0 : w13.cell? ⟨w.heap.size, 2, none⟩ = some (.int .i64 x1) := B_z0.out.cell 2 rfl
  have c3z0 : w13.cell? ⟨w.heap.size, 3, none⟩ = some (.int .i64 y1) := B_z0.out.cell 3 rfl
  have c4z0 : w13.cell? ⟨w.heap.size, 4, none⟩ = some (.int .i64 f) := B_z0.out.cell 4 rfl
  have c5z0 : w13.cell? ⟨w.heap.size, 5, none⟩ = some (.int .i64 c) := B_z0.out.cell 5 rfl
  have c0z2 : w13.cell? ⟨w2.heap.size, 0, none⟩ = some (.int .i64 x0) := B_z2.out.cell 0 rfl
  have c1z2 : w13.cell? ⟨w2.heap.size, 1, none⟩ = some (.int .i64 y0) := B_z2.out.cell 1 rfl
  have c2z2 : w13.cell? ⟨w2.heap.size, 2, none⟩ = some (.int .i64 x1) := B_z2.out.cell 2 rfl
  have c3z2 : w13.cell? ⟨w2.heap.size, 3, none⟩ = some (.int .i64 y1) := B_z2.out.cell 3 rfl
  have c4z2 : w13.cell? ⟨w2.heap.size, 4, none⟩ = some (.int .i64 f) := B_z2.out.cell 4 rfl
  have c5z2 : w13.cell? ⟨w2.heap.size, 5, none⟩ = some (.int .i64 (c / 2)) := B_z2.out.cell 5 rfl
  have c0z3 : w13.cell? ⟨w2.heap.size + 1, 0, none⟩ = some (.int .i64 x0) := B_z3.out.cell 0 rfl
  have c1z3 : w13.cell? ⟨w2.heap.size + 1, 1, none⟩ = some (.int .i64 y0) := B_z3.out.cell 1 rfl
  have c2z3 : w13.cell? ⟨w2.heap.size + 1, 2, none⟩ = some (.int .i64 x1) := B_z3.out.cell 2 rfl
  have c3z3 : w13.cell? ⟨w2.heap.size + 1, 3, none⟩ = some (.int .i64 y1) := B_z3.out.cell 3 rfl
  have c4z3 : w13.cell? ⟨w2.heap.size + 1, 4, none⟩ = some (.int .i64 ((f + c / 2) % 256)) := B_z3.out.cell 4 rfl
  have c5z3 : w13.cell? ⟨w2.heap.size + 1, 5, none⟩ = some (.int .i64 (c - c / 2)) := B_z3.out.cell 5 rfl
  have c0z1 : w13.cell? ⟨w.heap.size + 1, 0, none⟩ = some (.int .i64 x) := B_z1.out.cell 0 rfl
  have c1z1 : w13.cell? ⟨w.heap.size + 1, 1, none⟩ = some (.int .i64 y) := B_z1.out.cell 1 rfl
  have c2z1 : w13.cell? ⟨w.heap.size + 1, 2, none⟩ = some (.int .i64 h) := B_z1.out.cell 2 rfl
  go_wp2_with fail
  refine hK.out _ _ ?_ (fun hH1x11 => ?_)
  · ((try dsimp only); (repeat' apply And.intro) <;> (first | (with_reducible assumption) | ((repeat (first | (with_reducible refine Eq.trans (cell_drew1 _ _) ?_) | (with_reducible refine Eq.trans (cell_far (by omega) _ _ _) ?_) | (with_reducible refine Eq.trans (World.cell?_alloc_lt _ _ _ (by first | (dsimp only; omega) | (simp only [World.size_alloc, World.size_setCell]; omega))) ?_))); with_reducible assumption) | assumption | go_keep))
  clear hK K hH1x10
  try simp only [Act.put, List.setIfInBounds_toArray, List.set_cons_zero, List.set_cons_succ, List.getElem_toArray, List.getElem_cons_zero, List.getElem_cons_succ]
  refine wpAnyH_ready (rs := [47]) (by kernel_rfl) (by simp) ?_
  refine AllReadyH.cons rfl (fun K hK => ?_) AllReadyH.nil
  go_simp
  go_at_call 17
  refine (H13.out _).mono ?_
  rintro e w14 ⟨rfl, bb⟩
  replace bb := nextw (w0 := w13) (by exact sm) bb
  replace B_z0 := mv B_z0 bb
  replace B_z1 := mv B_z1 bb
  replace B_z2 := mv B_z2 bb
  replace B_z3 := mv B_z3 bb
  replace HB := nx HB bb
  clear bb c0z0 c1z0 c2z0 c3z0 c4z0 c5z0 c0z2 c1z2 c2z2 c3z2 c4z2 c5z2 c0z3 c1z3 c2z3 c3z3 c4z3 c5z3 c0z1 c1z1 c2z1
  have c0z0 : w14.cell? ⟨w.heap.size, 0, none⟩ = some (.int .i64 x0) := B_z0.out.cell 0 rfl
  have c1z0 : w14.cell? ⟨w.heap.size, 1, none⟩ = some (.int .i64 y0) := B_z0.out.cell 1 rfl
  have c2z0 : w14.cell? ⟨w.heap.size, 2, none⟩ = some (.int .i64 x1) := B_z0.out.cell 2 rfl
  have c3z0 : w14.cell? ⟨w.heap.size, 3, none⟩ = some (.int .i64 y1) := B_z0.out.cell 3 rfl
  have c4z0 : w14.cell? ⟨w.heap.size, 4, none⟩ = some (.int .i64 f) := B_z0.out.cell 4 rfl
  have c5z0 : w14.cell? ⟨w.heap.size, 5, none⟩ = some (.int .i64 c) := B_z0.out.cell 5 rfl
  have c0z2 : w14.cell? ⟨w2.heap.size, 0, none⟩ = some (.int .i64 x0) := B_z2.out.cell 0 rfl
  have c1z2 : w14.cell? ⟨w2.heap.size, 1, none⟩ = some (.int .i64 y0) := B_z2.out.cell 1 rfl
  have c2z2 : w14.cell? ⟨w2.heap.size, 2, none⟩ = some (.int .i64 x1) := B_z2.out.cell 2 rfl
  have c3z2 : w14.cell? ⟨w2.heap.size, 3, none⟩ = some (.int .i64 y1) := B_z2.out.cell 3 rfl
  have c4z2 : w14.cell? ⟨w2.heap.size, 4, none⟩ = some (.int .i64 f) := B_z2.out.cell 4 rfl
  have c5z2 : w14.cell? ⟨w2.heap.size, 5, none⟩ = some (.int .i64 (c / 2)) := B_z2.out.cell 5 rfl
  have c0z3 : w14.cell? ⟨w2.heap.size + 1, 0, none⟩ = some (.int .i64 x0) := B_z3.out.cell 0 rfl
  have c1z3 : w14.cell? ⟨w2.heap.size + 1, 1, none⟩ = some (.int .i64 y0) := B_z3.out.cell 1 rfl
  have c2z3 : w14.cell? ⟨w2.heap.size + 1, 2, none⟩ = some (.int .i64 x1) := B_z3.out.cell 2 rfl
  have c3z3 : w14.cell? ⟨w2.heap.size + 1, 3, none⟩ = some (.int .i64 y1) := B_z3.out.cell 3 rfl
  have c4z3 : w14.cell? ⟨w2.heap.size + 1, 4, none⟩ = some (.int .i64 ((f + c / 2) % 256)) := B_z3.out.cell 4 rfl
  have c5z3 : w14.cell? ⟨w2.heap.size + 1, 5, none⟩ = some (.int .i64 (c - c / 2)) := B_z3.out.cell 5 rfl
  have c0z1 : w14.cell? ⟨w.heap.size + 1, 0, none⟩ = some (.int .i64 x) := B_z1.out.cell 0 rfl
  have c1z1 : w14.cell? ⟨w.heap.size + 1, 1, none⟩ = some (.int .i64 y) := B_z1.out.cell 1 rfl
  have c2z1 : w14.cell? ⟨w.heap.size + 1, 2, none⟩ = some (.int .i64 h) := B_z1.out.cell 2 rfl
  go_wp2_with fail
  refine hK.out _ _ ?_ (fun hH1x12 => ?_)
  · ((try dsimp only); (repeat' apply And.intro) <;> (first | (with_reducible assumption) | ((repeat (first | (with_reducible refine Eq.trans (cell_drew1 _ _) ?_) | (with_reducible refine Eq.trans (cell_far (by omega) _ _ _) ?_) | (with_reducible refine Eq.trans (World.cell?_alloc_lt _ _ _ (by first | (dsimp only; omega) | (simp only [World.size_alloc, World.size_setCell]; omega))) ?_))); with_reducible assumption) | assumption | go_keep))
  clear hK K hH1x11
  try simp only [Act.put, List.setIfInBounds_toArray, List.set_cons_zero, List.set_cons_succ, List.getElem_toArray, List.getElem_cons_zero, List.getElem_cons_succ]
  refine wpAnyH_take (i := 48) (v := ?hv1x48) rfl (by kernel_rfl) (by kernel_rfl) (by kernel_rfl) (fun _ _ _ h => h) (Or.inl ⟨by kernel_rfl, ?hy1x48⟩) (by assumption) ?hr1x48
  case hy1x48 => (intro w hSw; (try dsimp only at hSw); go_simp <;> with_reducible rfl)
  simp only [Act.put, List.setIfInBounds_toArray, List.set_cons_zero, List.set_cons_succ, List.getElem_toArray, List.getElem_cons_zero, List.getElem_cons_succ]
  refine wpAnyH_take (i := 49) (v := ?hv1x49) rfl (by kernel_rfl) (by kernel_rfl) (by kernel_rfl) (fun _ _ _ h => h) (Or.inl ⟨by kernel_rfl, ?hy1x49⟩) (by assumption) ?hr1x49
  case hy1x49 => (intro w hSw; (try dsimp only at hSw); go_simp <;> with_reducible rfl)
  simp only [Act.put, List.setIfInBounds_toArray, List.set_cons_zero, List.set_cons_succ, List.getElem_toArray, List.getElem_cons_zero, List.getElem_cons_succ]
  refine wpAnyH_take (i := 50) (v := ?hv1x50) rfl (by kernel_rfl) (by kernel_rfl) (by kernel_rfl) (fun _ _ _ h => h) (Or.inl ⟨by kernel_rfl, ?hy1x50⟩) (by assumption) ?hr1x50
  case hy1x50 => (intro w hSw; (try dsimp only at hSw); go_simp <;> with_reducible rfl)
  simp only [Act.put, List.setIfInBounds_toArray, List.set_cons_zero, List.set_cons_succ, List.getElem_toArray, List.getElem_cons_zero, List.getElem_cons_succ]
  refine wpAnyH_take (i := 51) (v := ?hv1x51) rfl (by kernel_rfl) (by kernel_rfl) (by kernel_rfl) (fun _ _ _ h => h) (Or.inl ⟨by kernel_rfl, ?hy1x51⟩) (by assumption) ?hr1x51
  case hy1x51 => (intro w hSw; (try dsimp only at hSw); go_simp <;> with_reducible rfl)
  simp only [Act.put, List.setIfInBounds_toArray, List.set_cons_zero, List.set_cons_succ, List.getElem_toArray, List.getElem_cons_zero, List.getElem_cons_succ]
  refine wpAnyH_take (i := 52) (v := ?hv1x52) rfl (by kernel_rfl) (by kernel_rfl) (by kernel_rfl) (fun _ _ _ h => h) (Or.inl ⟨by kernel_rfl, ?hy1x52⟩) (by assumption) ?hr1x52
  case hy1x52 => (intro w hSw; (try dsimp only at hSw); go_simp <;> with_reducible rfl)
  simp only [Act.put, List.setIfInBounds_toArray, List.set_cons_zero, List.set_cons_succ, List.getElem_toArray, List.getElem_cons_zero, List.getElem_cons_succ]
  refine wpAnyH_take (i := 53) (v := ?hv1x53) rfl (by kernel_rfl) (by kernel_rfl) (by kernel_rfl) (fun _ _ _ h => h) (Or.inl ⟨by kernel_rfl, ?hy1x53⟩) (by assumption) ?hr1x53
  case hy1x53 => (intro w hSw; (try dsimp only at hSw); go_simp <;> with_reducible rfl)
  simp only [Act.put, List.setIfInBounds_toArray, List.set_cons_zero, List.set_cons_succ, List.getElem_toArray, List.getElem_cons_zero, List.getElem_cons_succ]
  refine wpAnyH_ready (rs := [54]) (by kernel_rfl) (by simp) ?_
  refine AllReadyH.cons rfl (fun K hK => ?_) AllReadyH.nil
  go_simp
  go_at_call 17
  refine (H14.out _).mono ?_
  rintro e w15 ⟨rfl, bb⟩
  replace bb := nextw (w0 := w14) (by exact sm) bb
  replace B_z0 := mv B_z0 bb
  replace B_z1 := mv B_z1 bb
  replace B_z2 := mv B_z2 bb
  replace B_z3 := mv B_z3 bb
  replace HB := nx HB bb
  clear bb c0z0 c1z0 c2z0 c3z0 c4z0 c5z0 c0z2 c1z2 c2z2 c3z2 c4z2 c5z2 c0z3 c1z3 c2z3 c3z3 c4z3 c5z3 c0z1 c1z1 c2z1
  have c0z0 : w15.cell? ⟨w.heap.size, 0, none⟩ = some (.int .i64 x0) := B_z0.out.cell 0 rfl
  have c1z0 : w15.cell? ⟨w.heap.size, 1, none⟩ = some (.int .i64 y0) := B_z0.out.cell 1 rfl
  have c2z0 : w15.cell? ⟨w.heap.size, 2, none⟩ = some (.int .i64 x1) := B_z0.out.cell 2 rfl
  have c3z0 : w15.cell? ⟨w.heap.size, 3, none⟩ = some (.int .i64 y1) := B_z0.out.cell 3 rfl
  have c4z0 : w15.cell? ⟨w.heap.size, 4, none⟩ = some (.int .i64 f) := B_z0.out.cell 4 rfl
  have c5z0 : w15.cell? ⟨w.heap.size, 5, none⟩ = some (.int .i64 c) := B_z0.out.cell 5 rfl
  have c0z2 : w15.cell? ⟨w2.heap.size, 0, none⟩ = some (.int .i64 x0) := B_z2.out.cell 0 rfl
  have c1z2 : w15.cell? ⟨w2.heap.size, 1, none⟩ = some (.int .i64 y0) := B_z2.out.cell 1 rfl
  have c2z2 : w15.cell? ⟨w2.heap.size, 2, none⟩ = some (.int .i64 x1) := B_z2.out.cell 2 rfl
  have c3z2 : w15.cell? ⟨w2.heap.size, 3, none⟩ = some (.int .i64 y1) := B_z2.out.cell 3 rfl
  have c4z2 : w15.cell? ⟨w2.heap.size, 4, none⟩ = some (.int .i64 f) := B_z2.out.cell 4 rfl
  have c5z2 : w15.cell? ⟨w2.heap.size, 5, none⟩ = some (.int .i64 (c / 2)) := B_z2.out.cell 5 rfl
  have c0z3 : w15.cell? ⟨w2.heap.size + 1, 0, none⟩ = some (.int .i64 x0) := B_z3.out.cell 0 rfl
  have c1z3 : w15.cell? ⟨w2.heap.size + 1, 1, none⟩ = some (.int .i64 y0) := B_z3.out.cell 1 rfl
  have c2z3 : w15.cell? ⟨w2.heap.size + 1, 2, none⟩ = some (.int .i64 x1) := B_z3.out.cell 2 rfl
  have c3z3 : w15.cell? ⟨w2.heap.size + 1, 3, none⟩ = some (.int .i64 y1) := B_z3.out.cell 3 rfl
  have c4z3 : w15.cell? ⟨w2.heap.size + 1, 4, none⟩ = some (.int .i64 ((f + c / 2) % 256)) := B_z3.out.cell 4 rfl
  have c5z3 : w15.cell? ⟨w2.heap.size + 1, 5, none⟩ = some (.int .i64 (c - c / 2)) := B_z3.out.cell 5 rfl
  have c0z1 : w15.cell? ⟨w.heap.size + 1, 0, none⟩ = some (.int .i64 x) := B_z1.out.cell 0 rfl
  have c1z1 : w15.cell? ⟨w.heap.size + 1, 1, none⟩ = some (.int .i64 y) := B_z1.out.cell 1 rfl
  have c2z1 : w15.cell? ⟨w.heap.size + 1, 2, none⟩ = some (.int .i64 h) := B_z1.out.cell 2 rfl
  go_wp2_with fail
  refine hK.out _ _ ?_ (fun hH1x13 => ?_)
  · ((try dsimp only); (repeat' apply And.intro) <;> (first | (with_reducible assumption) | ((repeat (first | (with_reducible refine Eq.trans (cell_drew1 _ _) ?_) | (with_reducible refine Eq.trans (cell_far (by omega) _ _ _) ?_) | (with_reducible refine Eq.trans (World.cell?_alloc_lt _ _ _ (by first | (dsimp only; omega) | (simp only [World.size_alloc, World.size_setCell]; omega))) ?_))); with_reducible assumption) | assumption | go_keep))
  clear hK K hH1x12
  try simp only [Act.put, List.setIfInBounds_toArray, List.set_cons_zero, List.set_cons_succ, List.getElem_toArray, List.getElem_cons_zero, List.getElem_cons_succ]
  refine wpAnyH_take (i := 55) (v := ?hv1x55) rfl (by kernel_rfl) (by kernel_rfl) (by kernel_rfl) (fun _ _ _ h => h) (Or.inl ⟨by kernel_rfl, ?hy1x55⟩) (by assumption) ?hr1x55
  case hy1x55 => (intro w hSw; (try dsimp only at hSw); go_simp <;> with_reducible rfl)
  simp only [Act.put, List.setIfInBounds_toArray, List.set_cons_zero, List.set_cons_succ, List.getElem_toArray, List.getElem_cons_zero, List.getElem_cons_succ]
  refine wpAnyH_take (i := 56) (v := undef) rfl (by kernel_rfl) (by kernel_rfl) (by kernel_rfl) (fun _ _ _ h => h) (Or.inr ⟨by kernel_rfl, rfl⟩) (by assumption) ?_
  simp only [Act.put, List.setIfInBounds_toArray, List.set_cons_zero, List.set_cons_succ, List.getElem_toArray, List.getElem_cons_zero, List.getElem_cons_succ]
  refine wpAnyH_take (i := 57) (v := undef) rfl (by kernel_rfl) (by kernel_rfl) (by kernel_rfl) (fun _ _ _ h => h) (Or.inr ⟨by kernel_rfl, rfl⟩) (by assumption) ?_
  simp only [Act.put, List.setIfInBounds_toArray, List.set_cons_zero, List.set_cons_succ, List.getElem_toArray, List.getElem_cons_zero, List.getElem_cons_succ]
  refine wpAnyH_take (i := 58) (v := undef) rfl (by kernel_rfl) (by kernel_rfl) (by kernel_rfl) (fun _ _ _ h => h) (Or.inr ⟨by kernel_rfl, rfl⟩) (by assumption) ?_
  simp only [Act.put, List.setIfInBounds_toArray, List.set_cons_zero, List.set_cons_succ, List.getElem_toArray, List.getElem_cons_zero, List.getElem_cons_succ]
  refine wpAnyH_take (i := 59) (v := ?hv1x59) rfl (by kernel_rfl) (by kernel_rfl) (by kernel_rfl) (fun _ _ _ h => h) (Or.inl ⟨by kernel_rfl, ?hy1x59⟩) (by assumption) ?hr1x59
  case hy1x59 => (intro w hSw; (try dsimp only at hSw); go_simp <;> with_reducible rfl)
  simp only [Act.put, List.setIfInBounds_toArray, List.set_cons_zero, List.set_cons_succ, List.getElem_toArray, List.getElem_cons_zero, List.getElem_cons_succ]
  refine wpAnyH_take (i := 60) (v := ?hv1x60) rfl (by kernel_rfl) (by kernel_rfl) (by kernel_rfl) (fun _ _ _ h => h) (Or.inl ⟨by kernel_rfl, ?hy1x60⟩) (by assumption) ?hr1x60
  case hy1x60 => (intro w hSw; (try dsimp only at hSw); go_simp <;> with_reducible rfl)
  simp only [Act.put, List.setIfInBounds_toArray, List.set_cons_zero, List.set_cons_succ, List.getElem_toArray, List.getElem_cons_zero, List.getElem_cons_succ]
  refine wpAnyH_take (i := 61) (v := ?hv1x61) rfl (by kernel_rfl) (by kernel_rfl) (by kernel_rfl) (fun _ _ _ h => h) (Or.inl ⟨by kernel_rfl, ?hy1x61⟩) (by assumption) ?hr1x61
  case hy1x61 => (intro w hSw; (try dsimp only at hSw); go_simp <;> with_reducible rfl)
  simp only [Act.put, List.setIfInBounds_toArray, List.set_cons_zero, List.set_cons_succ, List.getElem_toArray, List.getElem_cons_zero, List.getElem_cons_succ]
  refine wpAnyH_take (i := 62) (v := ?hv1x62) rfl (by kernel_rfl) (by kernel_rfl) (by kernel_rfl) (fun _ _ _ h => h) (Or.inl ⟨by kernel_rfl, ?hy1x62⟩) (by assumption) ?hr1x62
  case hy1x62 => (intro w hSw; (try dsimp only at hSw); go_simp <;> with_reducible rfl)
  simp only [Act.put, List.setIfInBounds_toArray, List.set_cons_zero, List.set_cons_succ, List.getElem_toArray, List.getElem_cons_zero, List.getElem_cons_succ]
  refine wpAnyH_done (by kernel_rfl) ?_ _
  clear hH1x13
  clear c0z0 c1z0 c2z0 c3z0 c4z0 c5z0 c0z2 c1z2 c2z2 c3z2 c4z2 c5z2 c0z3 c1z3 c2z3 c3z3 c4z3 c5z3 c0z1 c1z1 c2z1
  go_wp2
  go_ret
  exact ⟨(by first | rfl | exact rbt (by omega) | exact rbf (by omega)), nextw HB.out (by exact sm)⟩
end Go.Proofs.Ytjpdahalplkfbaa
