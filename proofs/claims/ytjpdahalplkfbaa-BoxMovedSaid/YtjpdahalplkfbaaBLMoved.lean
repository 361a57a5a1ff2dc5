/- The law BoxMoved. -/
import Derived.Test.YtjpdahalplkfbaaBAwake
import Derived.Test.YtjpdahalplkfbaaBClip
set_option linter.unusedVariables false
set_option linter.unusedSimpArgs false
namespace Go.Proofs.Ytjpdahalplkfbaa
open Go Go.RowKit Hd

set_option maxRecDepth 100000 in
set_option maxHeartbeats 4000000 in
theorem Moved0_w0 (x0 y0 x1 y1 f c x y h a b k l : Int) (MX0 MX1 MX2 MX3 MX4 MX5 : Int) (mx0 : (if b < a then b else a) = MX0) (mx1 : (if a < b then b else a) = MX1) (mx2 : (if l < k then l else k) = MX2) (mx3 : (if k < l then l else k) = MX3) (mx4 : (clipM (x - MX0) x0 x1) = MX4) (mx5 : (clipM (y - MX2) y0 y1) = MX5) (ha : -128 ≤ a ∧ a ≤ 127) (hb : -128 ≤ b ∧ b ≤ 127) (hk : -128 ≤ k ∧ k ≤ 127) (hl : -128 ≤ l ∧ l ≤ 127) (dd0 : mvArg x0 y0 x1 y1 f c MX0 MX1 MX2 MX3) (dd1 : mvRng x0 y0 x1 y1 MX0 MX1 MX2 MX3) (dd2 : HasP x0 y0 x1 y1 f c x y h) (dd3 : HasP (x0 + MX0) (y0 + MX2) (x1 + MX1) (y1 + MX3) f c x y h) (w : World) :
    Calls Try.prog 11 #[.agg #[.int .i64 x0, .int .i64 y0, .int .i64 x1, .int .i64 y1, .int .i64 f, .int .i64 c], .agg #[.int .i64 x, .int .i64 y, .int .i64 h], .agg #[.int .i8 a, .int .i8 b, .int .i8 k, .int .i8 l]] w fun e w' => e = .returned (.bool true) ∧ Below w.heap.size w w' := by
  have H0 := Lib.hid (fun w => awake_true w)
  have H1 := Lib.hid (fun w => @Move_ok x0 y0 x1 y1 f c MX0 MX1 MX2 MX3 dd0 dd1 w)
  have H2 := Lib.hid (fun w => BoxHas_yes dd2 w)
  have H3 := Lib.hid (fun w => BoxHas_yes (mv_has dd0 dd1 dd2 ⟨Int.le_refl _, dd0.2.1⟩ ⟨dd0.2.2, Int.le_refl _⟩) w)
  have H4 := Lib.hid (fun w => BoxHas_yes (mv_has dd0 dd1 dd2 ⟨dd0.2.1, Int.le_refl _⟩ ⟨Int.le_refl _, dd0.2.2⟩) w)
  have H5 := Lib.hid (fun w => BoxHas_yes dd3 w)
  have H6 := Lib.hid (fun w => Clip_at mx4 w)
  have H7 := Lib.hid (fun w => Clip_at mx5 w)
  have H8 := Lib.hid (fun w => BoxHas_yes (mv_near dd0 dd3 mx4 mx5) w)
  replace mx0 := Lib.hid mx0
  replace mx1 := Lib.hid mx1
  replace mx2 := Lib.hid mx2
  replace mx3 := Lib.hid mx3
  replace mx4 := Lib.hid mx4
  replace mx5 := Lib.hid mx5
  have dd2b := dd2.bd
  have dd3b := dd3.bd
  have e0 : -128 ≤ MX0 ∧ MX0 ≤ 127 := by have := mx0.out; split at this <;> omega
  have e1 : -128 ≤ MX1 ∧ MX1 ≤ 127 := by have := mx1.out; split at this <;> omega
  have e2 : -128 ≤ MX2 ∧ MX2 ≤ 127 := by have := mx2.out; split at this <;> omega
  have e3 : -128 ≤ MX3 ∧ MX3 ≤ 127 := by have := mx3.out; split at this <;> omega
  have ob := dd0.1.b
  have jb := dd0.2
  have c4 := clip_bd mx4.out (by omega)
  have c5 := clip_bd mx5.out (by omega)
  have k0 : MX0 ≤ x - MX4 := by omega
  have k1 : x - MX4 ≤ MX1 := by omega
  have k2 : MX2 ≤ y - MX5 := by omega
  have k3 : y - MX5 ≤ MX3 := by omega
  clear c4 c5 ob jb
  obtain ⟨HB, B_z0, B_z1, B_z2⟩ := box3 w 23 #[.int .i64 x0, .int .i64 y0, .int .i64 x1, .int .i64 y1, .int .i64 f, .int .i64 c] 25 #[.int .i64 x, .int .i64 y, .int .i64 h] 55 #[.int .i8 a, .int .i8 b, .int .i8 k, .int .i8 l]
  go_enter Try.func11, Try.ntmps11
  go_upto_region 1 with (fail)
  generalize ((w.alloc (.cells #[.int .i64 x0, .int .i64 y0, .int .i64 x1, .int .i64 y1, .int .i64 f, .int .i64 c] 23)).alloc (.cells #[.int .i64 x, .int .i64 y, .int .i64 h] 25)).alloc (.cells #[.int .i8 a, .int .i8 b, .int .i8 k, .int .i8 l] 55) = W0 at *
  go_wp2_with fail
  refine (H0.out _).mono ?_
  rintro e w1 ⟨rfl, bb⟩
  replace bb := nextw (w0 := W0) (by exact sm) bb
  replace B_z0 := mv B_z0 bb
  replace B_z1 := mv B_z1 bb
  replace B_z2 := mv B_z2 bb
  replace HB := nx HB bb
  clear bb
  have mxo0 := mx0.out
  have mxo1 := mx1.out
  go_upto_region 3 with (fail)
  obtain ⟨c0z2, c1z2, c2z2, c3z2⟩ := cells4 B_z2
  go_quiet (fail)
  clear c0z2 c1z2 c2z2 c3z2
  have bb : Below w1.heap.size w1 (w1.drewN nq) := bel_drewN (Below.refl _ _) _
  generalize w1.drewN nq = w2q at *
  replace B_z0 := mv B_z0 bb
  replace B_z1 := mv B_z1 bb
  replace B_z2 := mv B_z2 bb
  replace HB := nx HB bb
  clear bb
  clear mxo0 mxo1
  have mxo2 := mx2.out
  have mxo3 := mx3.out
  go_upto_region 4 with (fail)
  obtain ⟨c0z2, c1z2, c2z2, c3z2⟩ := cells4 B_z2
  go_quiet (fail)
  clear c0z2 c1z2 c2z2 c3z2
  have bb : Below w2q.heap.size w2q (w2q.drewN nq) := bel_drewN (Below.refl _ _) _
  generalize w2q.drewN nq = w3q at *
  replace B_z0 := mv B_z0 bb
  replace B_z1 := mv B_z1 bb
  replace B_z2 := mv B_z2 bb
  replace HB := nx HB bb
  clear bb
  clear mxo2 mxo3
  obtain ⟨c0z0, c1z0, c2z0, c3z0, c4z0, c5z0⟩ := cells6 B_z0
  go_wp2_with fail
  refine (H1.out _).mono ?_
  clear c0z0 c1z0 c2z0 c3z0 c4z0 c5z0
  rintro e w4 ⟨rfl, bb⟩
  replace bb := nextw (w0 := w3q) (by exact sm) bb
  replace B_z0 := mv B_z0 bb
  replace B_z1 := mv B_z1 bb
  replace B_z2 := mv B_z2 bb
  replace HB := nx HB bb
  clear bb
  have lt_z3z0 := B_z0.out.lt
  have lt_z3z1 := B_z1.out.lt
  have lt_z3z2 := B_z2.out.lt
  obtain ⟨bb, B_z3⟩ := box1 w4 23 #[.int .i64 (x0 + MX0), .int .i64 (y0 + MX2), .int .i64 (x1 + MX1), .int .i64 (y1 + MX3), .int .i64 f, .int .i64 c]
  replace bb := bb.out
  replace B_z0 := mv B_z0 bb
  replace B_z1 := mv B_z1 bb
  replace B_z2 := mv B_z2 bb
  replace HB := nx HB bb
  clear bb
  go_upto_region 6 with (fail)
  generalize w4.alloc (.cells #[.int .i64 (x0 + MX0), .int .i64 (y0 + MX2), .int .i64 (x1 + MX1), .int .i64 (y1 + MX3), .int .i64 f, .int .i64 c] 23) = WN4 at *
  obtain ⟨c0z0, c1z0, c2z0, c3z0, c4z0, c5z0⟩ := cells6 B_z0
  obtain ⟨c0z1, c1z1, c2z1⟩ := cells3 B_z1
  go_wp2_with fail
  refine (H2.out _).mono ?_
  clear c0z0 c1z0 c2z0 c3z0 c4z0 c5z0 c0z1 c1z1 c2z1
  rintro e w5 ⟨rfl, bb⟩
  replace bb := nextw (w0 := WN4) (by exact sm) bb
  replace B_z0 := mv B_z0 bb
  replace B_z1 := mv B_z1 bb
  replace B_z2 := mv B_z2 bb
  replace B_z3 := mv B_z3 bb
  replace HB := nx HB bb
  clear bb
  obtain ⟨c0z3, c1z3, c2z3, c3z3, c4z3, c5z3⟩ := cells6 B_z3
  obtain ⟨c0z1, c1z1, c2z1⟩ := cells3 B_z1
  go_wp2_with fail
  refine (H3.out _).mono ?_
  clear c0z3 c1z3 c2z3 c3z3 c4z3 c5z3 c0z1 c1z1 c2z1
  rintro e w6 ⟨rfl, bb⟩
  replace bb := nextw (w0 := w5) (by exact sm) bb
  replace B_z0 := mv B_z0 bb
  replace B_z1 := mv B_z1 bb
  replace B_z2 := mv B_z2 bb
  replace B_z3 := mv B_z3 bb
  replace HB := nx HB bb
  clear bb
  obtain ⟨c0z3, c1z3, c2z3, c3z3, c4z3, c5z3⟩ := cells6 B_z3
  obtain ⟨c0z1, c1z1, c2z1⟩ := cells3 B_z1
  go_wp2_with fail
  refine (H4.out _).mono ?_
  clear c0z3 c1z3 c2z3 c3z3 c4z3 c5z3 c0z1 c1z1 c2z1
  rintro e w7 ⟨rfl, bb⟩
  replace bb := nextw (w0 := w6) (by exact sm) bb
  replace B_z0 := mv B_z0 bb
  replace B_z1 := mv B_z1 bb
  replace B_z2 := mv B_z2 bb
  replace B_z3 := mv B_z3 bb
  replace HB := nx HB bb
  clear bb
  obtain ⟨c0z3, c1z3, c2z3, c3z3, c4z3, c5z3⟩ := cells6 B_z3
  obtain ⟨c0z1, c1z1, c2z1⟩ := cells3 B_z1
  go_wp2_with fail
  refine (H5.out _).mono ?_
  clear c0z3 c1z3 c2z3 c3z3 c4z3 c5z3 c0z1 c1z1 c2z1
  rintro e w8 ⟨rfl, bb⟩
  replace bb := nextw (w0 := w7) (by exact sm) bb
  replace B_z0 := mv B_z0 bb
  replace B_z1 := mv B_z1 bb
  replace B_z2 := mv B_z2 bb
  replace B_z3 := mv B_z3 bb
  replace HB := nx HB bb
  clear bb
  go_upto_region 12 with (fail)
  go_cut [13] (fun sv0  wx => ∃ Pz4 : Nat, sv0 = (.pointer (some ⟨Pz4, 0, none⟩)) ∧ Hid (w.heap.size ≠ Pz4) ∧ Hid (w.heap.size + 1 ≠ Pz4) ∧ Hid (w.heap.size + 1 + 1 ≠ Pz4) ∧ Hid (w4.heap.size ≠ Pz4) ∧ Hid (w.heap.size ≤ Pz4) ∧ Hid (Bx wx (Pz4) 25 #[.int .i64 MX4, .int .i64 MX5, .int .i64 h]) ∧ Hid (Bx wx (w.heap.size) 23 #[.int .i64 x0, .int .i64 y0, .int .i64 x1, .int .i64 y1, .int .i64 f, .int .i64 c]) ∧ Hid (Bx wx (w.heap.size + 1) 25 #[.int .i64 x, .int .i64 y, .int .i64 h]) ∧ Hid (Bx wx (w.heap.size + 1 + 1) 55 #[.int .i8 a, .int .i8 b, .int .i8 k, .int .i8 l]) ∧ Hid (Bx wx (w4.heap.size) 23 #[.int .i64 (x0 + MX0), .int .i64 (y0 + MX2), .int .i64 (x1 + MX1), .int .i64 (y1 + MX3), .int .i64 f, .int .i64 c]) ∧ Hid (Below w.heap.size w wx))
  case first =>
    have wq12x0 : IntKind.i64.wrap (x - MX0) = x - MX0 := by rw [IntKind.wrap_i64]; omega
    have wq12x1 : IntKind.i64.wrap (y - MX2) = y - MX2 := by rw [IntKind.wrap_i64]; omega
    obtain ⟨c0z1, c1z1, c2z1⟩ := cells3 B_z1
    obtain ⟨c0z0, c1z0, c2z0, c3z0, c4z0, c5z0⟩ := cells6 B_z0
    have tk1x0 : True := trivial
    go_region_held3 (fun w' => w'.cell? ⟨w.heap.size + 1, 0, none⟩ = some (.int .i64 x) ∧ w'.cell? ⟨w.heap.size + 1, 1, none⟩ = some (.int .i64 y) ∧ w'.cell? ⟨w.heap.size + 1, 2, none⟩ = some (.int .i64 h) ∧ w'.cell? ⟨w.heap.size, 0, none⟩ = some (.int .i64 x0) ∧ w'.cell? ⟨w.heap.size, 1, none⟩ = some (.int .i64 y0) ∧ w'.cell? ⟨w.heap.size, 2, none⟩ = some (.int .i64 x1) ∧ w'.cell? ⟨w.heap.size, 3, none⟩ = some (.int .i64 y1) ∧ w'.cell? ⟨w.heap.size, 4, none⟩ = some (.int .i64 f) ∧ w'.cell? ⟨w.heap.size, 5, none⟩ = some (.int .i64 c)) (((try dsimp only); (repeat' apply And.intro) <;> (first | (with_reducible assumption) | ((repeat (first | (with_reducible refine Eq.trans (cell_drew1 _ _) ?_) | (with_reducible refine Eq.trans (cell_far (by omega) _ _ _) ?_) | (with_reducible refine Eq.trans (World.cell?_alloc_lt _ _ _ (by first | (dsimp only; omega) | (simp only [World.size_alloc, World.size_setCell]; omega))) ?_))); with_reducible assumption) | assumption | go_keep)))
    (first
      | (clear tk1x0; go_at_call 40; refine (H6.out _).mono ?_; rintro e w9 ⟨rfl, bb⟩; replace bb := nextr (w0 := w8) bb (sm rfl rfl rfl (Nat.le_refl _) (fun _ _ => rfl)); replace B_z0 := mv B_z0 bb; replace B_z1 := mv B_z1 bb; replace B_z2 := mv B_z2 bb; replace B_z3 := mv B_z3 bb; replace HB := nx HB bb; clear bb c0z1 c1z1 c2z1 c0z0 c1z0 c2z0 c3z0 c4z0 c5z0; have c0z1 : w9.cell? ⟨w.heap.size + 1, 0, none⟩ = some (.int .i64 x) := B_z1.out.cell 0 rfl; have c1z1 : w9.cell? ⟨w.heap.size + 1, 1, none⟩ = some (.int .i64 y) := B_z1.out.cell 1 rfl; have c2z1 : w9.cell? ⟨w.heap.size + 1, 2, none⟩ = some (.int .i64 h) := B_z1.out.cell 2 rfl; have c0z0 : w9.cell? ⟨w.heap.size, 0, none⟩ = some (.int .i64 x0) := B_z0.out.cell 0 rfl; have c1z0 : w9.cell? ⟨w.heap.size, 1, none⟩ = some (.int .i64 y0) := B_z0.out.cell 1 rfl; have c2z0 : w9.cell? ⟨w.heap.size, 2, none⟩ = some (.int .i64 x1) := B_z0.out.cell 2 rfl; have c3z0 : w9.cell? ⟨w.heap.size, 3, none⟩ = some (.int .i64 y1) := B_z0.out.cell 3 rfl; have c4z0 : w9.cell? ⟨w.heap.size, 4, none⟩ = some (.int .i64 f) := B_z0.out.cell 4 rfl; have c5z0 : w9.cell? ⟨w.heap.size, 5, none⟩ = some (.int .i64 c) := B_z0.out.cell 5 rfl; have tk1x1 : True := trivial)
      | (clear tk1x0; go_at_call 40; refine (H6.out _).mono ?_; rintro e w9 ⟨rfl, bb⟩; replace bb := nextr (w0 := w8.alloc (.cells #[.int .i64 0, .int .i64 0, .int .i64 0] 25)) bb (sm rfl rfl rfl (Nat.le_refl _) (fun _ _ => rfl)); have NN : Hid (w.heap.size ≤ w8.heap.size ∧ w.heap.size ≠ w8.heap.size ∧ w.heap.size + 1 ≠ w8.heap.size ∧ w.heap.size + 1 + 1 ≠ w8.heap.size ∧ w4.heap.size ≠ w8.heap.size) := (by have lx_z0 := B_z0.out.lt; have lx_z1 := B_z1.out.lt; have lx_z2 := B_z2.out.lt; have lx_z3 := B_z3.out.lt; have hs := HB.out.size; unfold Hid; omega); have nnO := NN.out; have N := newB bb; replace bb := nextw (alB w8 (.cells #[.int .i64 0, .int .i64 0, .int .i64 0] 25)) bb; replace B_z0 := mv B_z0 bb; replace B_z1 := mv B_z1 bb; replace B_z2 := mv B_z2 bb; replace B_z3 := mv B_z3 bb; replace HB := nx HB bb; clear bb c0z1 c1z1 c2z1 c0z0 c1z0 c2z0 c3z0 c4z0 c5z0; have c0z1 : w9.cell? ⟨w.heap.size + 1, 0, none⟩ = some (.int .i64 x) := B_z1.out.cell 0 rfl; have c1z1 : w9.cell? ⟨w.heap.size + 1, 1, none⟩ = some (.int .i64 y) := B_z1.out.cell 1 rfl; have c2z1 : w9.cell? ⟨w.heap.size + 1, 2, none⟩ = some (.int .i64 h) := B_z1.out.cell 2 rfl; have c0z0 : w9.cell? ⟨w.heap.size, 0, none⟩ = some (.int .i64 x0) := B_z0.out.cell 0 rfl; have c1z0 : w9.cell? ⟨w.heap.size, 1, none⟩ = some (.int .i64 y0) := B_z0.out.cell 1 rfl; have c2z0 : w9.cell? ⟨w.heap.size, 2, none⟩ = some (.int .i64 x1) := B_z0.out.cell 2 rfl; have c3z0 : w9.cell? ⟨w.heap.size, 3, none⟩ = some (.int .i64 y1) := B_z0.out.cell 3 rfl; have c4z0 : w9.cell? ⟨w.heap.size, 4, none⟩ = some (.int .i64 f) := B_z0.out.cell 4 rfl; have c5z0 : w9.cell? ⟨w.heap.size, 5, none⟩ = some (.int .i64 c) := B_z0.out.cell 5 rfl; obtain ⟨cn0, cn1, cn2⟩ := cells3 N; obtain ⟨fn0, fn1, fn2⟩ := froz3 N; have tc1x1 : True := trivial)
      | (clear tk1x1; go_at_call 40; refine (H7.out _).mono ?_; rintro e w10 ⟨rfl, bb⟩; replace bb := nextr (w0 := w9) bb (sm rfl rfl rfl (Nat.le_refl _) (fun _ _ => rfl)); replace B_z0 := mv B_z0 bb; replace B_z1 := mv B_z1 bb; replace B_z2 := mv B_z2 bb; replace B_z3 := mv B_z3 bb; replace HB := nx HB bb; clear bb c0z1 c1z1 c2z1 c0z0 c1z0 c2z0 c3z0 c4z0 c5z0; have c0z1 : w10.cell? ⟨w.heap.size + 1, 0, none⟩ = some (.int .i64 x) := B_z1.out.cell 0 rfl; have c1z1 : w10.cell? ⟨w.heap.size + 1, 1, none⟩ = some (.int .i64 y) := B_z1.out.cell 1 rfl; have c2z1 : w10.cell? ⟨w.heap.size + 1, 2, none⟩ = some (.int .i64 h) := B_z1.out.cell 2 rfl; have c0z0 : w10.cell? ⟨w.heap.size, 0, none⟩ = some (.int .i64 x0) := B_z0.out.cell 0 rfl; have c1z0 : w10.cell? ⟨w.heap.size, 1, none⟩ = some (.int .i64 y0) := B_z0.out.cell 1 rfl; have c2z0 : w10.cell? ⟨w.heap.size, 2, none⟩ = some (.int .i64 x1) := B_z0.out.cell 2 rfl; have c3z0 : w10.cell? ⟨w.heap.size, 3, none⟩ = some (.int .i64 y1) := B_z0.out.cell 3 rfl; have c4z0 : w10.cell? ⟨w.heap.size, 4, none⟩ = some (.int .i64 f) := B_z0.out.cell 4 rfl; have c5z0 : w10.cell? ⟨w.heap.size, 5, none⟩ = some (.int .i64 c) := B_z0.out.cell 5 rfl; have tk1x2 : True := trivial)
      | (clear tk1x1; go_at_call 40; refine (H7.out _).mono ?_; rintro e w10 ⟨rfl, bb⟩; replace bb := nextr (w0 := w9.alloc (.cells #[.int .i64 0, .int .i64 0, .int .i64 0] 25)) bb (sm rfl rfl rfl (Nat.le_refl _) (fun _ _ => rfl)); have NN : Hid (w.heap.size ≤ w9.heap.size ∧ w.heap.size ≠ w9.heap.size ∧ w.heap.size + 1 ≠ w9.heap.size ∧ w.heap.size + 1 + 1 ≠ w9.heap.size ∧ w4.heap.size ≠ w9.heap.size) := (by have lx_z0 := B_z0.out.lt; have lx_z1 := B_z1.out.lt; have lx_z2 := B_z2.out.lt; have lx_z3 := B_z3.out.lt; have hs := HB.out.size; unfold Hid; omega); have nnO := NN.out; have N := newB bb; replace bb := nextw (alB w9 (.cells #[.int .i64 0, .int .i64 0, .int .i64 0] 25)) bb; replace B_z0 := mv B_z0 bb; replace B_z1 := mv B_z1 bb; replace B_z2 := mv B_z2 bb; replace B_z3 := mv B_z3 bb; replace HB := nx HB bb; clear bb c0z1 c1z1 c2z1 c0z0 c1z0 c2z0 c3z0 c4z0 c5z0; have c0z1 : w10.cell? ⟨w.heap.size + 1, 0, none⟩ = some (.int .i64 x) := B_z1.out.cell 0 rfl; have c1z1 : w10.cell? ⟨w.heap.size + 1, 1, none⟩ = some (.int .i64 y) := B_z1.out.cell 1 rfl; have c2z1 : w10.cell? ⟨w.heap.size + 1, 2, none⟩ = some (.int .i64 h) := B_z1.out.cell 2 rfl; have c0z0 : w10.cell? ⟨w.heap.size, 0, none⟩ = some (.int .i64 x0) := B_z0.out.cell 0 rfl; have c1z0 : w10.cell? ⟨w.heap.size, 1, none⟩ = some (.int .i64 y0) := B_z0.out.cell 1 rfl; have c2z0 : w10.cell? ⟨w.heap.size, 2, none⟩ = some (.int .i64 x1) := B_z0.out.cell 2 rfl; have c3z0 : w10.cell? ⟨w.heap.size, 3, none⟩ = some (.int .i64 y1) := B_z0.out.cell 3 rfl; have c4z0 : w10.cell? ⟨w.heap.size, 4, none⟩ = some (.int .i64 f) := B_z0.out.cell 4 rfl; have c5z0 : w10.cell? ⟨w.heap.size, 5, none⟩ = some (.int .i64 c) := B_z0.out.cell 5 rfl; obtain ⟨cn0, cn1, cn2⟩ := cells3 N; obtain ⟨fn0, fn1, fn2⟩ := froz3 N; have tc1x2 : True := trivial)
      | (clear tc1x1; clear cn0 cn1 cn2 fn0 fn1 fn2; go_at_call 40; refine (H7.out _).mono ?_; rintro e w10 ⟨rfl, bb⟩; replace bb := nextr (w0 := w9) bb (sm rfl rfl rfl (Nat.le_refl _) (fun _ _ => rfl)); replace N := mv N bb; replace B_z0 := mv B_z0 bb; replace B_z1 := mv B_z1 bb; replace B_z2 := mv B_z2 bb; replace B_z3 := mv B_z3 bb; replace HB := nx HB bb; clear bb c0z1 c1z1 c2z1 c0z0 c1z0 c2z0 c3z0 c4z0 c5z0; have c0z1 : w10.cell? ⟨w.heap.size + 1, 0, none⟩ = some (.int .i64 x) := B_z1.out.cell 0 rfl; have c1z1 : w10.cell? ⟨w.heap.size + 1, 1, none⟩ = some (.int .i64 y) := B_z1.out.cell 1 rfl; have c2z1 : w10.cell? ⟨w.heap.size + 1, 2, none⟩ = some (.int .i64 h) := B_z1.out.cell 2 rfl; have c0z0 : w10.cell? ⟨w.heap.size, 0, none⟩ = some (.int .i64 x0) := B_z0.out.cell 0 rfl; have c1z0 : w10.cell? ⟨w.heap.size, 1, none⟩ = some (.int .i64 y0) := B_z0.out.cell 1 rfl; have c2z0 : w10.cell? ⟨w.heap.size, 2, none⟩ = some (.int .i64 x1) := B_z0.out.cell 2 rfl; have c3z0 : w10.cell? ⟨w.heap.size, 3, none⟩ = some (.int .i64 y1) := B_z0.out.cell 3 rfl; have c4z0 : w10.cell? ⟨w.heap.size, 4, none⟩ = some (.int .i64 f) := B_z0.out.cell 4 rfl; have c5z0 : w10.cell? ⟨w.heap.size, 5, none⟩ = some (.int .i64 c) := B_z0.out.cell 5 rfl; obtain ⟨cn0, cn1, cn2⟩ := cells3 N; obtain ⟨fn0, fn1, fn2⟩ := froz3 N; have tc1x2 : True := trivial))
    all_goals go_wp2_with fail
    all_goals go_meet
    all_goals first
        | (refine ⟨w10.heap.size, rfl, ?_⟩; have lx_z0 := B_z0.out.lt; have lx_z1 := B_z1.out.lt; have lx_z2 := B_z2.out.lt; have lx_z3 := B_z3.out.lt; obtain ⟨bb, b0⟩ := box1 w10 25 #[.int .i64 MX4, .int .i64 MX5, .int .i64 h]; replace bb := bb.out; have hs := HB.out.size; exact ⟨(by unfold Hid; omega), (by unfold Hid; omega), (by unfold Hid; omega), (by unfold Hid; omega), (by unfold Hid; omega), mv b0 sm, mv (mv B_z0 bb) sm, mv (mv B_z1 bb) sm, mv (mv B_z2 bb) sm, mv (mv B_z3 bb) sm, nx (nx HB bb) sm⟩)
        | (refine ⟨w8.heap.size, rfl, ?_⟩; obtain ⟨hl, h0, h1, h2, h3⟩ := NN.out; exact ⟨Lib.hid h0, Lib.hid h1, Lib.hid h2, Lib.hid h3, Lib.hid hl, mv (stor3 N (.int .i64 MX4) (.int .i64 MX5) (.int .i64 h)) sm, mv (far3 B_z0 h0 0 (.int .i64 MX4) 1 (.int .i64 MX5) 2 (.int .i64 h)) sm, mv (far3 B_z1 h1 0 (.int .i64 MX4) 1 (.int .i64 MX5) 2 (.int .i64 h)) sm, mv (far3 B_z2 h2 0 (.int .i64 MX4) 1 (.int .i64 MX5) 2 (.int .i64 h)) sm, mv (far3 B_z3 h3 0 (.int .i64 MX4) 1 (.int .i64 MX5) 2 (.int .i64 h)) sm, nx (stb3 HB hl 0 (.int .i64 MX4) 1 (.int .i64 MX5) 2 (.int .i64 h)) sm⟩)
        | (refine ⟨w9.heap.size, rfl, ?_⟩; obtain ⟨hl, h0, h1, h2, h3⟩ := NN.out; exact ⟨Lib.hid h0, Lib.hid h1, Lib.hid h2, Lib.hid h3, Lib.hid hl, mv (stor3 N (.int .i64 MX4) (.int .i64 MX5) (.int .i64 h)) sm, mv (far3 B_z0 h0 0 (.int .i64 MX4) 1 (.int .i64 MX5) 2 (.int .i64 h)) sm, mv (far3 B_z1 h1 0 (.int .i64 MX4) 1 (.int .i64 MX5) 2 (.int .i64 h)) sm, mv (far3 B_z2 h2 0 (.int .i64 MX4) 1 (.int .i64 MX5) 2 (.int .i64 h)) sm, mv (far3 B_z3 h3 0 (.int .i64 MX4) 1 (.int .i64 MX5) 2 (.int .i64 h)) sm, nx (stb3 HB hl 0 (.int .i64 MX4) 1 (.int .i64 MX5) 2 (.int .i64 h)) sm⟩)
  case rest =>
    clear B_z0
    clear B_z1
    clear B_z2
    clear B_z3
    clear HB
    rename World => wc11
    obtain ⟨Pz4, rfl, noz0Pz4, noz1Pz4, noz2Pz4, noz3Pz4, lePz4, B_z4, B_z0, B_z1, B_z2, B_z3, HB⟩ := hcut
    have lePz4' := lePz4.out
    go_upto_region 13 with (fail)
    have wq13x0 : IntKind.i64.wrap (x - MX4) = x - MX4 := by rw [IntKind.wrap_i64]; omega
    have wq13x1 : IntKind.i64.wrap (y - MX5) = y - MX5 := by rw [IntKind.wrap_i64]; omega
    obtain ⟨c0z1, c1z1, c2z1⟩ := cells3 B_z1
    obtain ⟨c0z4, c1z4, c2z4⟩ := cells3 B_z4
    go_quiet (fail)
    clear c0z1 c1z1 c2z1 c0z4 c1z4 c2z4
    have bb : Below wc11.heap.size wc11 (wc11.drewN nq) := bel_drewN (Below.refl _ _) _
    generalize wc11.drewN nq = w12q at *
    replace B_z0 := mv B_z0 bb
    replace B_z1 := mv B_z1 bb
    replace B_z2 := mv B_z2 bb
    replace B_z3 := mv B_z3 bb
    replace B_z4 := mv B_z4 bb
    replace HB := nx HB bb
    clear bb
    obtain ⟨c0z0, c1z0, c2z0, c3z0, c4z0, c5z0⟩ := cells6 B_z0
    obtain ⟨c0z4, c1z4, c2z4⟩ := cells3 B_z4
    go_wp2_with fail
    refine (H8.out _).mono ?_
    clear c0z0 c1z0 c2z0 c3z0 c4z0 c5z0 c0z4 c1z4 c2z4
    rintro e w13 ⟨rfl, bb⟩
    replace bb := nextw (w0 := w12q) (by exact sm) bb
    replace B_z0 := mv B_z0 bb
    replace B_z1 := mv B_z1 bb
    replace B_z2 := mv B_z2 bb
    replace B_z3 := mv B_z3 bb
    replace B_z4 := mv B_z4 bb
    replace HB := nx HB bb
    clear bb
    go_wp2
    go_ret
    exact ⟨(by first | rfl | exact rbt (by omega) | exact rbf (by omega)), nextw HB.out (by exact sm)⟩

set_option maxRecDepth 100000 in
set_option maxHeartbeats 4000000 in
theorem Moved0_w1 (x0 y0 x1 y1 f c x y h a b k l : Int) (MX0 MX1 MX2 MX3 : Int) (mx0 : (if b < a then b else a) = MX0) (mx1 : (if a < b then b else a) = MX1) (mx2 : (if l < k then l else k) = MX2) (mx3 : (if k < l then l else k) = MX3) (ha : -128 ≤ a ∧ a ≤ 127) (hb : -128 ≤ b ∧ b ≤ 127) (hk : -128 ≤ k ∧ k ≤ 127) (hl : -128 ≤ l ∧ l ≤ 127) (dd0 : ¬ (mvArg x0 y0 x1 y1 f c MX0 MX1 MX2 MX3)) (w : World) :
    Calls Try.prog 11 #[.agg #[.int .i64 x0, .int .i64 y0, .int .i64 x1, .int .i64 y1, .int .i64 f, .int .i64 c], .agg #[.int .i64 x, .int .i64 y, .int .i64 h], .agg #[.int .i8 a, .int .i8 b, .int .i8 k, .int .i8 l]] w fun e w' => e = .returned (.bool true) ∧ Below w.heap.size w w' := by
  have H0 := Lib.hid (fun w => awake_true w)
  have H1 := Lib.hid (fun w => @Move_bad x0 y0 x1 y1 f c MX0 MX1 MX2 MX3 dd0 w)
  replace mx0 := Lib.hid mx0
  replace mx1 := Lib.hid mx1
  replace mx2 := Lib.hid mx2
  replace mx3 := Lib.hid mx3
  have e0 : -128 ≤ MX0 ∧ MX0 ≤ 127 := by have := mx0.out; split at this <;> omega
  have e1 : -128 ≤ MX1 ∧ MX1 ≤ 127 := by have := mx1.out; split at this <;> omega
  have e2 : -128 ≤ MX2 ∧ MX2 ≤ 127 := by have := mx2.out; split at this <;> omega
  have e3 : -128 ≤ MX3 ∧ MX3 ≤ 127 := by have := mx3.out; split at this <;> omega
  obtain ⟨HB, B_z0, B_z1, B_z2⟩ := box3 w 23 #[.int .i64 x0, .int .i64 y0, .int .i64 x1, .int .i64 y1, .int .i64 f, .int .i64 c] 25 #[.int .i64 x, .int .i64 y, .int .i64 h] 55 #[.int .i8 a, .int .i8 b, .int .i8 k, .int .i8 l]
  go_enter Try.func11, Try.ntmps11
  go_upto_region 1 with (fail)
  generalize ((w.alloc (.cells #[.int .i64 x0, .int .i64 y0, .int .i64 x1, .int .i64 y1, .int .i64 f, .int .i64 c] 23)).alloc (.cells #[.int .i64 x, .int .i64 y, .int .i64 h] 25)).alloc (.cells #[.int .i8 a, .int .i8 b, .int .i8 k, .int .i8 l] 55) = W0 at *
  go_wp2_with fail
  refine (H0.out _).mono ?_
  rintro e w1 ⟨rfl, bb⟩
  replace bb := nextw (w0 := W0) (by exact sm) bb
  replace B_z0 := mv B_z0 bb
  replace B_z1 := mv B_z1 bb
  replace B_z2 := mv B_z2 bb
  replace HB := nx HB bb
  clear bb
  have mxo0 := mx0.out
  have mxo1 := mx1.out
  go_upto_region 3 with (fail)
  obtain ⟨c0z2, c1z2, c2z2, c3z2⟩ := cells4 B_z2
  go_quiet (fail)
  clear c0z2 c1z2 c2z2 c3z2
  have bb : Below w1.heap.size w1 (w1.drewN nq) := bel_drewN (Below.refl _ _) _
  generalize w1.drewN nq = w2q at *
  replace B_z0 := mv B_z0 bb
  replace B_z1 := mv B_z1 bb
  replace B_z2 := mv B_z2 bb
  replace HB := nx HB bb
  clear bb
  clear mxo0 mxo1
  have mxo2 := mx2.out
  have mxo3 := mx3.out
  go_upto_region 4 with (fail)
  obtain ⟨c0z2, c1z2, c2z2, c3z2⟩ := cells4 B_z2
  go_quiet (fail)
  clear c0z2 c1z2 c2z2 c3z2
  have bb : Below w2q.heap.size w2q (w2q.drewN nq) := bel_drewN (Below.refl _ _) _
  generalize w2q.drewN nq = w3q at *
  replace B_z0 := mv B_z0 bb
  replace B_z1 := mv B_z1 bb
  replace B_z2 := mv B_z2 bb
  replace HB := nx HB bb
  clear bb
  clear mxo2 mxo3
  obtain ⟨c0z0, c1z0, c2z0, c3z0, c4z0, c5z0⟩ := cells6 B_z0
  go_wp2_with fail
  refine (H1.out _).mono ?_
  clear c0z0 c1z0 c2z0 c3z0 c4z0 c5z0
  rintro e w4 ⟨rfl, bb⟩
  replace bb := nextw (w0 := w3q) (by exact sm) bb
  replace B_z0 := mv B_z0 bb
  replace B_z1 := mv B_z1 bb
  replace B_z2 := mv B_z2 bb
  replace HB := nx HB bb
  clear bb
  have lt_z3z0 := B_z0.out.lt
  have lt_z3z1 := B_z1.out.lt
  have lt_z3z2 := B_z2.out.lt
  obtain ⟨bb, B_z3⟩ := box1 w4 23 #[.int .i64 0, .int .i64 0, .int .i64 0, .int .i64 0, .int .i64 0, .int .i64 0]
  replace bb := bb.out
  replace B_z0 := mv B_z0 bb
  replace B_z1 := mv B_z1 bb
  replace B_z2 := mv B_z2 bb
  replace HB := nx HB bb
  clear bb
  go_upto_region 6 with (fail)
  generalize w4.alloc (.cells #[.int .i64 0, .int .i64 0, .int .i64 0, .int .i64 0, .int .i64 0, .int .i64 0] 23) = WN4 at *
  obtain ⟨c0z3, c1z3, c2z3, c3z3, c4z3, c5z3⟩ := cells6 B_z3
  go_wp2
  go_ret
  exact ⟨(by first | rfl | exact rbt (by omega) | exact rbf (by omega)), nextw HB.out (by exact sm)⟩

set_option maxRecDepth 100000 in
set_option maxHeartbeats 4000000 in
theorem Moved0_w2 (x0 y0 x1 y1 f c x y h a b k l : Int) (MX0 MX1 MX2 MX3 : Int) (mx0 : (if b < a then b else a) = MX0) (mx1 : (if a < b then b else a) = MX1) (mx2 : (if l < k then l else k) = MX2) (mx3 : (if k < l then l else k) = MX3) (ha : -128 ≤ a ∧ a ≤ 127) (hb : -128 ≤ b ∧ b ≤ 127) (hk : -128 ≤ k ∧ k ≤ 127) (hl : -128 ≤ l ∧ l ≤ 127) (dd0 : mvArg x0 y0 x1 y1 f c MX0 MX1 MX2 MX3) (dd1 : ¬ (mvRng x0 y0 x1 y1 MX0 MX1 MX2 MX3)) (w : World) :
    Calls Try.prog 11 #[.agg #[.int .i64 x0, .int .i64 y0, .int .i64 x1, .int .i64 y1, .int .i64 f, .int .i64 c], .agg #[.int .i64 x, .int .i64 y, .int .i64 h], .agg #[.int .i8 a, .int .i8 b, .int .i8 k, .int .i8 l]] w fun e w' => e = .returned (.bool true) ∧ Below w.heap.size w w' := by
  have H0 := Lib.hid (fun w => awake_true w)
  have H1 := Lib.hid (fun w => @Move_far x0 y0 x1 y1 f c MX0 MX1 MX2 MX3 dd0 dd1 w)
  replace mx0 := Lib.hid mx0
  replace mx1 := Lib.hid mx1
  replace mx2 := Lib.hid mx2
  replace mx3 := Lib.hid mx3
  have e0 : -128 ≤ MX0 ∧ MX0 ≤ 127 := by have := mx0.out; split at this <;> omega
  have e1 : -128 ≤ MX1 ∧ MX1 ≤ 127 := by have := mx1.out; split at this <;> omega
  have e2 : -128 ≤ MX2 ∧ MX2 ≤ 127 := by have := mx2.out; split at this <;> omega
  have e3 : -128 ≤ MX3 ∧ MX3 ≤ 127 := by have := mx3.out; split at this <;> omega
  obtain ⟨HB, B_z0, B_z1, B_z2⟩ := box3 w 23 #[.int .i64 x0, .int .i64 y0, .int .i64 x1, .int .i64 y1, .int .i64 f, .int .i64 c] 25 #[.int .i64 x, .int .i64 y, .int .i64 h] 55 #[.int .i8 a, .int .i8 b, .int .i8 k, .int .i8 l]
  go_enter Try.func11, Try.ntmps11
  go_upto_region 1 with (fail)
  generalize ((w.alloc (.cells #[.int .i64 x0, .int .i64 y0, .int .i64 x1, .int .i64 y1, .int .i64 f, .int .i64 c] 23)).alloc (.cells #[.int .i64 x, .int .i64 y, .int .i64 h] 25)).alloc (.cells #[.int .i8 a, .int .i8 b, .int .i8 k, .int .i8 l] 55) = W0 at *
  go_wp2_with fail
  refine (H0.out _).mono ?_
  rintro e w1 ⟨rfl, bb⟩
  replace bb := nextw (w0 := W0) (by exact sm) bb
  replace B_z0 := mv B_z0 bb
  replace B_z1 := mv B_z1 bb
  replace B_z2 := mv B_z2 bb
  replace HB := nx HB bb
  clear bb
  have mxo0 := mx0.out
  have mxo1 := mx1.out
  go_upto_region 3 with (fail)
  obtain ⟨c0z2, c1z2, c2z2, c3z2⟩ := cells4 B_z2
  go_quiet (fail)
  clear c0z2 c1z2 c2z2 c3z2
  have bb : Below w1.heap.size w1 (w1.drewN nq) := bel_drewN (Below.refl _ _) _
  generalize w1.drewN nq = w2q at *
  replace B_z0 := mv B_z0 bb
  replace B_z1 := mv B_z1 bb
  replace B_z2 := mv B_z2 bb
  replace HB := nx HB bb
  clear bb
  clear mxo0 mxo1
  have mxo2 := mx2.out
  have mxo3 := mx3.out
  go_upto_region 4 with (fail)
  obtain ⟨c0z2, c1z2, c2z2, c3z2⟩ := cells4 B_z2
  go_quiet (fail)
  clear c0z2 c1z2 c2z2 c3z2
  have bb : Below w2q.heap.size w2q (w2q.drewN nq) := bel_drewN (Below.refl _ _) _
  generalize w2q.drewN nq = w3q at *
  replace B_z0 := mv B_z0 bb
  replace B_z1 := mv B_z1 bb
  replace B_z2 := mv B_z2 bb
  replace HB := nx HB bb
  clear bb
  clear mxo2 mxo3
  obtain ⟨c0z0, c1z0, c2z0, c3z0, c4z0, c5z0⟩ := cells6 B_z0
  go_wp2_with fail
  refine (H1.out _).mono ?_
  clear c0z0 c1z0 c2z0 c3z0 c4z0 c5z0
  rintro e w4 ⟨rfl, bb⟩
  replace bb := nextw (w0 := w3q) (by exact sm) bb
  replace B_z0 := mv B_z0 bb
  replace B_z1 := mv B_z1 bb
  replace B_z2 := mv B_z2 bb
  replace HB := nx HB bb
  clear bb
  have lt_z3z0 := B_z0.out.lt
  have lt_z3z1 := B_z1.out.lt
  have lt_z3z2 := B_z2.out.lt
  obtain ⟨bb, B_z3⟩ := box1 w4 23 #[.int .i64 0, .int .i64 0, .int .i64 0, .int .i64 0, .int .i64 0, .int .i64 0]
  replace bb := bb.out
  replace B_z0 := mv B_z0 bb
  replace B_z1 := mv B_z1 bb
  replace B_z2 := mv B_z2 bb
  replace HB := nx HB bb
  clear bb
  go_upto_region 6 with (fail)
  generalize w4.alloc (.cells #[.int .i64 0, .int .i64 0, .int .i64 0, .int .i64 0, .int .i64 0, .int .i64 0] 23) = WN4 at *
  obtain ⟨c0z3, c1z3, c2z3, c3z3, c4z3, c5z3⟩ := cells6 B_z3
  go_wp2
  go_ret
  exact ⟨(by first | rfl | exact rbt (by omega) | exact rbf (by omega)), nextw HB.out (by exact sm)⟩

set_option maxRecDepth 100000 in
set_option maxHeartbeats 4000000 in
theorem Moved0_w3 (x0 y0 x1 y1 f c x y h a b k l : Int) (MX0 MX1 MX2 MX3 MX4 MX5 : Int) (mx0 : (if b < a then b else a) = MX0) (mx1 : (if a < b then b else a) = MX1) (mx2 : (if l < k then l else k) = MX2) (mx3 : (if k < l then l else k) = MX3) (mx4 : (clipM (x - MX0) x0 x1) = MX4) (mx5 : (clipM (y - MX2) y0 y1) = MX5) (ha : -128 ≤ a ∧ a ≤ 127) (hb : -128 ≤ b ∧ b ≤ 127) (hk : -128 ≤ k ∧ k ≤ 127) (hl : -128 ≤ l ∧ l ≤ 127) (dd0 : mvArg x0 y0 x1 y1 f c MX0 MX1 MX2 MX3) (dd1 : mvRng x0 y0 x1 y1 MX0 MX1 MX2 MX3) (dd2 : ¬ (HasP x0 y0 x1 y1 f c x y h)) (dd3 : HasP (x0 + MX0) (y0 + MX2) (x1 + MX1) (y1 + MX3) f c x y h) (w : World) :
    Calls Try.prog 11 #[.agg #[.int .i64 x0, .int .i64 y0, .int .i64 x1, .int .i64 y1, .int .i64 f, .int .i64 c], .agg #[.int .i64 x, .int .i64 y, .int .i64 h], .agg #[.int .i8 a, .int .i8 b, .int .i8 k, .int .i8 l]] w fun e w' => e = .returned (.bool true) ∧ Below w.heap.size w w' := by
  have H0 := Lib.hid (fun w => awake_true w)
  have H1 := Lib.hid (fun w => @Move_ok x0 y0 x1 y1 f c MX0 MX1 MX2 MX3 dd0 dd1 w)
  have H2 := Lib.hid (fun w => BoxHas_no dd2 w)
  have H3 := Lib.hid (fun w => BoxHas_yes dd3 w)
  have H4 := Lib.hid (fun w => Clip_at mx4 w)
  have H5 := Lib.hid (fun w => Clip_at mx5 w)
  have H6 := Lib.hid (fun w => BoxHas_yes (mv_near dd0 dd3 mx4 mx5) w)
  replace mx0 := Lib.hid mx0
  replace mx1 := Lib.hid mx1
  replace mx2 := Lib.hid mx2
  replace mx3 := Lib.hid mx3
  replace mx4 := Lib.hid mx4
  replace mx5 := Lib.hid mx5
  have dd3b := dd3.bd
  have e0 : -128 ≤ MX0 ∧ MX0 ≤ 127 := by have := mx0.out; split at this <;> omega
  have e1 : -128 ≤ MX1 ∧ MX1 ≤ 127 := by have := mx1.out; split at this <;> omega
  have e2 : -128 ≤ MX2 ∧ MX2 ≤ 127 := by have := mx2.out; split at this <;> omega
  have e3 : -128 ≤ MX3 ∧ MX3 ≤ 127 := by have := mx3.out; split at this <;> omega
  have ob := dd0.1.b
  have jb := dd0.2
  have c4 := clip_bd mx4.out (by omega)
  have c5 := clip_bd mx5.out (by omega)
  have k0 : MX0 ≤ x - MX4 := by omega
  have k1 : x - MX4 ≤ MX1 := by omega
  have k2 : MX2 ≤ y - MX5 := by omega
  have k3 : y - MX5 ≤ MX3 := by omega
  clear c4 c5 ob jb
  obtain ⟨HB, B_z0, B_z1, B_z2⟩ := box3 w 23 #[.int .i64 x0, .int .i64 y0, .int .i64 x1, .int .i64 y1, .int .i64 f, .int .i64 c] 25 #[.int .i64 x, .int .i64 y, .int .i64 h] 55 #[.int .i8 a, .int .i8 b, .int .i8 k, .int .i8 l]
  go_enter Try.func11, Try.ntmps11
  go_upto_region 1 with (fail)
  generalize ((w.alloc (.cells #[.int .i64 x0, .int .i64 y0, .int .i64 x1, .int .i64 y1, .int .i64 f, .int .i64 c] 23)).alloc (.cells #[.int .i64 x, .int .i64 y, .int .i64 h] 25)).alloc (.cells #[.int .i8 a, .int .i8 b, .int .i8 k, .int .i8 l] 55) = W0 at *
  go_wp2_with fail
  refine (H0.out _).mono ?_
  rintro e w1 ⟨rfl, bb⟩
  replace bb := nextw (w0 := W0) (by exact sm) bb
  replace B_z0 := mv B_z0 bb
  replace B_z1 := mv B_z1 bb
  replace B_z2 := mv B_z2 bb
  replace HB := nx HB bb
  clear bb
  have mxo0 := mx0.out
  have mxo1 := mx1.out
  go_upto_region 3 with (fail)
  obtain ⟨c0z2, c1z2, c2z2, c3z2⟩ := cells4 B_z2
  go_quiet (fail)
  clear c0z2 c1z2 c2z2 c3z2
  have bb : Below w1.heap.size w1 (w1.drewN nq) := bel_drewN (Below.refl _ _) _
  generalize w1.drewN nq = w2q at *
  replace B_z0 := mv B_z0 bb
  replace B_z1 := mv B_z1 bb
  replace B_z2 := mv B_z2 bb
  replace HB := nx HB bb
  clear bb
  clear mxo0 mxo1
  have mxo2 := mx2.out
  have mxo3 := mx3.out
  go_upto_region 4 with (fail)
  obtain ⟨c0z2, c1z2, c2z2, c3z2⟩ := cells4 B_z2
  go_quiet (fail)
  clear c0z2 c1z2 c2z2 c3z2
  have bb : Below w2q.heap.size w2q (w2q.drewN nq) := bel_drewN (Below.refl _ _) _
  generalize w2q.drewN nq = w3q at *
  replace B_z0 := mv B_z0 bb
  replace B_z1 := mv B_z1 bb
  replace B_z2 := mv B_z2 bb
  replace HB := nx HB bb
  clear bb
  clear mxo2 mxo3
  obtain ⟨c0z0, c1z0, c2z0, c3z0, c4z0, c5z0⟩ := cells6 B_z0
  go_wp2_with fail
  refine (H1.out _).mono ?_
  clear c0z0 c1z0 c2z0 c3z0 c4z0 c5z0
  rintro e w4 ⟨rfl, bb⟩
  replace bb := nextw (w0 := w3q) (by exact sm) bb
  replace B_z0 := mv B_z0 bb
  replace B_z1 := mv B_z1 bb
  replace B_z2 := mv B_z2 bb
  replace HB := nx HB bb
  clear bb
  have lt_z3z0 := B_z0.out.lt
  have lt_z3z1 := B_z1.out.lt
  have lt_z3z2 := B_z2.out.lt
  obtain ⟨bb, B_z3⟩ := box1 w4 23 #[.int .i64 (x0 + MX0), .int .i64 (y0 + MX2), .int .i64 (x1 + MX1), .int .i64 (y1 + MX3), .int .i64 f, .int .i64 c]
  replace bb := bb.out
  replace B_z0 := mv B_z0 bb
  replace B_z1 := mv B_z1 bb
  replace B_z2 := mv B_z2 bb
  replace HB := nx HB bb
  clear bb
  go_upto_region 6 with (fail)
  generalize w4.alloc (.cells #[.int .i64 (x0 + MX0), .int .i64 (y0 + MX2), .int .i64 (x1 + MX1), .int .i64 (y1 + MX3), .int .i64 f, .int .i64 c] 23) = WN4 at *
  obtain ⟨c0z0, c1z0, c2z0, c3z0, c4z0, c5z0⟩ := cells6 B_z0
  obtain ⟨c0z1, c1z1, c2z1⟩ := cells3 B_z1
  go_wp2_with fail
  refine (H2.out _).mono ?_
  clear c0z0 c1z0 c2z0 c3z0 c4z0 c5z0 c0z1 c1z1 c2z1
  rintro e w5 ⟨rfl, bb⟩
  replace bb := nextw (w0 := WN4) (by exact sm) bb
  replace B_z0 := mv B_z0 bb
  replace B_z1 := mv B_z1 bb
  replace B_z2 := mv B_z2 bb
  replace B_z3 := mv B_z3 bb
  replace HB := nx HB bb
  clear bb
  obtain ⟨c0z3, c1z3, c2z3, c3z3, c4z3, c5z3⟩ := cells6 B_z3
  obtain ⟨c0z1, c1z1, c2z1⟩ := cells3 B_z1
  go_wp2_with fail
  refine (H3.out _).mono ?_
  clear c0z3 c1z3 c2z3 c3z3 c4z3 c5z3 c0z1 c1z1 c2z1
  rintro e w6 ⟨rfl, bb⟩
  replace bb := nextw (w0 := w5) (by exact sm) bb
  replace B_z0 := mv B_z0 bb
  replace B_z1 := mv B_z1 bb
  replace B_z2 := mv B_z2 bb
  replace B_z3 := mv B_z3 bb
  replace HB := nx HB bb
  clear bb
  go_upto_region 12 with (fail)
  go_cut [13] (fun sv0  wx => ∃ Pz4 : Nat, sv0 = (.pointer (some ⟨Pz4, 0, none⟩)) ∧ Hid (w.heap.size ≠ Pz4) ∧ Hid (w.heap.size + 1 ≠ Pz4) ∧ Hid (w.heap.size + 1 + 1 ≠ Pz4) ∧ Hid (w4.heap.size ≠ Pz4) ∧ Hid (w.heap.size ≤ Pz4) ∧ Hid (Bx wx (Pz4) 25 #[.int .i64 MX4, .int .i64 MX5, .int .i64 h]) ∧ Hid (Bx wx (w.heap.size) 23 #[.int .i64 x0, .int .i64 y0, .int .i64 x1, .int .i64 y1, .int .i64 f, .int .i64 c]) ∧ Hid (Bx wx (w.heap.size + 1) 25 #[.int .i64 x, .int .i64 y, .int .i64 h]) ∧ Hid (Bx wx (w.heap.size + 1 + 1) 55 #[.int .i8 a, .int .i8 b, .int .i8 k, .int .i8 l]) ∧ Hid (Bx wx (w4.heap.size) 23 #[.int .i64 (x0 + MX0), .int .i64 (y0 + MX2), .int .i64 (x1 + MX1), .int .i64 (y1 + MX3), .int .i64 f, .int .i64 c]) ∧ Hid (Below w.heap.size w wx))
  case first =>
    have wq12x0 : IntKind.i64.wrap (x - MX0) = x - MX0 := by rw [IntKind.wrap_i64]; omega
    have wq12x1 : IntKind.i64.wrap (y - MX2) = y - MX2 := by rw [IntKind.wrap_i64]; omega
    obtain ⟨c0z1, c1z1, c2z1⟩ := cells3 B_z1
    obtain ⟨c0z0, c1z0, c2z0, c3z0, c4z0, c5z0⟩ := cells6 B_z0
    have tk1x0 : True := trivial
    go_region_held3 (fun w' => w'.cell? ⟨w.heap.size + 1, 0, none⟩ = some (.int .i64 x) ∧ w'.cell? ⟨w.heap.size + 1, 1, none⟩ = some (.int .i64 y) ∧ w'.cell? ⟨w.heap.size + 1, 2, none⟩ = some (.int .i64 h) ∧ w'.cell? ⟨w.heap.size, 0, none⟩ = some (.int .i64 x0) ∧ w'.cell? ⟨w.heap.size, 1, none⟩ = some (.int .i64 y0) ∧ w'.cell? ⟨w.heap.size, 2, none⟩ = some (.int .i64 x1) ∧ w'.cell? ⟨w.heap.size, 3, none⟩ = some (.int .i64 y1) ∧ w'.cell? ⟨w.heap.size, 4, none⟩ = some (.int .i64 f) ∧ w'.cell? ⟨w.heap.size, 5, none⟩ = some (.int .i64 c)) (((try dsimp only); (repeat' apply And.intro) <;> (first | (with_reducible assumption) | ((repeat (first | (with_reducible refine Eq.trans (cell_drew1 _ _) ?_) | (with_reducible refine Eq.trans (cell_far (by omega) _ _ _) ?_) | (with_reducible refine Eq.trans (World.cell?_alloc_lt _ _ _ (by first | (dsimp only; omega) | (simp only [World.size_alloc, World.size_setCell]; omega))) ?_))); with_reducible assumption) | assumption | go_keep)))
    (first
      | (clear tk1x0; go_at_call 40; refine (H4.out _).mono ?_; rintro e w7 ⟨rfl, bb⟩; replace bb := nextr (w0 := w6) bb (sm rfl rfl rfl (Nat.le_refl _) (fun _ _ => rfl)); replace B_z0 := mv B_z0 bb; replace B_z1 := mv B_z1 bb; replace B_z2 := mv B_z2 bb; replace B_z3 := mv B_z3 bb; replace HB := nx HB bb; clear bb c0z1 c1z1 c2z1 c0z0 c1z0 c2z0 c3z0 c4z0 c5z0; have c0z1 : w7.cell? ⟨w.heap.size + 1, 0, none⟩ = some (.int .i64 x) := B_z1.out.cell 0 rfl; have c1z1 : w7.cell? ⟨w.heap.size + 1, 1, none⟩ = some (.int .i64 y) := B_z1.out.cell 1 rfl; have c2z1 : w7.cell? ⟨w.heap.size + 1, 2, none⟩ = some (.int .i64 h) := B_z1.out.cell 2 rfl; have c0z0 : w7.cell? ⟨w.heap.size, 0, none⟩ = some (.int .i64 x0) := B_z0.out.cell 0 rfl; have c1z0 : w7.cell? ⟨w.heap.size, 1, none⟩ = some (.int .i64 y0) := B_z0.out.cell 1 rfl; have c2z0 : w7.cell? ⟨w.heap.size, 2, none⟩ = some (.int .i64 x1) := B_z0.out.cell 2 rfl; have c3z0 : w7.cell? ⟨w.heap.size, 3, none⟩ = some (.int .i64 y1) := B_z0.out.cell 3 rfl; have c4z0 : w7.cell? ⟨w.heap.size, 4, none⟩ = some (.int .i64 f) := B_z0.out.cell 4 rfl; have c5z0 : w7.cell? ⟨w.heap.size, 5, none⟩ = some (.int .i64 c) := B_z0.out.cell 5 rfl; have tk1x1 : True := trivial)
      | (clear tk1x0; go_at_call 40; refine (H4.out _).mono ?_; rintro e w7 ⟨rfl, bb⟩; replace bb := nextr (w0 := w6.alloc (.cells #[.int .i64 0, .int .i64 0, .int .i64 0] 25)) bb (sm rfl rfl rfl (Nat.le_refl _) (fun _ _ => rfl)); have NN : Hid (w.heap.size ≤ w6.heap.size ∧ w.heap.size ≠ w6.heap.size ∧ w.heap.size + 1 ≠ w6.heap.size ∧ w.heap.size + 1 + 1 ≠ w6.heap.size ∧ w4.heap.size ≠ w6.heap.size) := (by have lx_z0 := B_z0.out.lt; have lx_z1 := B_z1.out.lt; have lx_z2 := B_z2.out.lt; have lx_z3 := B_z3.out.lt; have hs := HB.out.size; unfold Hid; omega); have nnO := NN.out; have N := newB bb; replace bb := nextw (alB w6 (.cells #[.int .i64 0, .int .i64 0, .int .i64 0] 25)) bb; replace B_z0 := mv B_z0 bb; replace B_z1 := mv B_z1 bb; replace B_z2 := mv B_z2 bb; replace B_z3 := mv B_z3 bb; replace HB := nx HB bb; clear bb c0z1 c1z1 c2z1 c0z0 c1z0 c2z0 c3z0 c4z0 c5z0; have c0z1 : w7.cell? ⟨w.heap.size + 1, 0, none⟩ = some (.int .i64 x) := B_z1.out.cell 0 rfl; have c1z1 : w7.cell? ⟨w.heap.size + 1, 1, none⟩ = some (.int .i64 y) := B_z1.out.cell 1 rfl; have c2z1 : w7.cell? ⟨w.heap.size + 1, 2, none⟩ = some (.int .i64 h) := B_z1.out.cell 2 rfl; have c0z0 : w7.cell? ⟨w.heap.size, 0, none⟩ = some (.int .i64 x0) := B_z0.out.cell 0 rfl; have c1z0 : w7.cell? ⟨w.heap.size, 1, none⟩ = some (.int .i64 y0) := B_z0.out.cell 1 rfl; have c2z0 : w7.cell? ⟨w.heap.size, 2, none⟩ = some (.int .i64 x1) := B_z0.out.cell 2 rfl; have c3z0 : w7.cell? ⟨w.heap.size, 3, none⟩ = some (.int .i64 y1) := B_z0.out.cell 3 rfl; have c4z0 : w7.cell? ⟨w.heap.size, 4, none⟩ = some (.int .i64 f) := B_z0.out.cell 4 rfl; have c5z0 : w7.cell? ⟨w.heap.size, 5, none⟩ = some (.int .i64 c) := B_z0.out.cell 5 rfl; obtain ⟨cn0, cn1, cn2⟩ := cells3 N; obtain ⟨fn0, fn1, fn2⟩ := froz3 N; have tc1x1 : True := trivial)
      | (clear tk1x1; go_at_call 40; refine (H5.out _).mono ?_; rintro e w8 ⟨rfl, bb⟩; replace bb := nextr (w0 := w7) bb (sm rfl rfl rfl (Nat.le_refl _) (fun _ _ => rfl)); replace B_z0 := mv B_z0 bb; replace B_z1 := mv B_z1 bb; replace B_z2 := mv B_z2 bb; replace B_z3 := mv B_z3 bb; replace HB := nx HB bb; clear bb c0z1 c1z1 c2z1 c0z0 c1z0 c2z0 c3z0 c4z0 c5z0; have c0z1 : w8.cell? ⟨w.heap.size + 1, 0, none⟩ = some (.int .i64 x) := B_z1.out.cell 0 rfl; have c1z1 : w8.cell? ⟨w.heap.size + 1, 1, none⟩ = some (.int .i64 y) := B_z1.out.cell 1 rfl; have c2z1 : w8.cell? ⟨w.heap.size + 1, 2, none⟩ = some (.int .i64 h) := B_z1.out.cell 2 rfl; have c0z0 : w8.cell? ⟨w.heap.size, 0, none⟩ = some (.int .i64 x0) := B_z0.out.cell 0 rfl; have c1z0 : w8.cell? ⟨w.heap.size, 1, none⟩ = some (.int .i64 y0) := B_z0.out.cell 1 rfl; have c2z0 : w8.cell? ⟨w.heap.size, 2, none⟩ = some (.int .i64 x1) := B_z0.out.cell 2 rfl; have c3z0 : w8.cell? ⟨w.heap.size, 3, none⟩ = some (.int .i64 y1) := B_z0.out.cell 3 rfl; have c4z0 : w8.cell? ⟨w.heap.size, 4, none⟩ = some (.int .i64 f) := B_z0.out.cell 4 rfl; have c5z0 : w8.cell? ⟨w.heap.size, 5, none⟩ = some (.int .i64 c) := B_z0.out.cell 5 rfl; have tk1x2 : True := trivial)
      | (clear tk1x1; go_at_call 40; refine (H5.out _).mono ?_; rintro e w8 ⟨rfl, bb⟩; replace bb := nextr (w0 := w7.alloc (.cells #[.int .i64 0, .int .i64 0, .int .i64 0] 25)) bb (sm rfl rfl rfl (Nat.le_refl _) (fun _ _ => rfl)); have NN : Hid (w.heap.size ≤ w7.heap.size ∧ w.heap.size ≠ w7.heap.size ∧ w.heap.size + 1 ≠ w7.heap.size ∧ w.heap.size + 1 + 1 ≠ w7.heap.size ∧ w4.heap.size ≠ w7.heap.size) := (by have lx_z0 := B_z0.out.lt; have lx_z1 := B_z1.out.lt; have lx_z2 := B_z2.out.lt; have lx_z3 := B_z3.out.lt; have hs := HB.out.size; unfold Hid; omega); have nnO := NN.out; have N := newB bb; replace bb := nextw (alB w7 (.cells #[.int .i64 0, .int .i64 0, .int .i64 0] 25)) bb; replace B_z0 := mv B_z0 bb; replace B_z1 := mv B_z1 bb; replace B_z2 := mv B_z2 bb; replace B_z3 := mv B_z3 bb; replace HB := nx HB bb; clear bb c0z1 c1z1 c2z1 c0z0 c1z0 c2z0 c3z0 c4z0 c5z0; have c0z1 : w8.cell? ⟨w.heap.size + 1, 0, none⟩ = some (.int .i64 x) := B_z1.out.cell 0 rfl; have c1z1 : w8.cell? ⟨w.heap.size + 1, 1, none⟩ = some (.int .i64 y) := B_z1.out.cell 1 rfl; have c2z1 : w8.cell? ⟨w.heap.size + 1, 2, none⟩ = some (.int .i64 h) := B_z1.out.cell 2 rfl; have c0z0 : w8.cell? ⟨w.heap.size, 0, none⟩ = some (.int .i64 x0) := B_z0.out.cell 0 rfl; have c1z0 : w8.cell? ⟨w.heap.size, 1, none⟩ = some (.int .i64 y0) := B_z0.out.cell 1 rfl; have c2z0 : w8.cell? ⟨w.heap.size, 2, none⟩ = some (.int .i64 x1) := B_z0.out.cell 2 rfl; have c3z0 : w8.cell? ⟨w.heap.size, 3, none⟩ = some (.int .i64 y1) := B_z0.out.cell 3 rfl; have c4z0 : w8.cell? ⟨w.heap.size, 4, none⟩ = some (.int .i64 f) := B_z0.out.cell 4 rfl; have c5z0 : w8.cell? ⟨w.heap.size, 5, none⟩ = some (.int .i64 c) := B_z0.out.cell 5 rfl; obtain ⟨cn0, cn1, cn2⟩ := cells3 N; obtain ⟨fn0, fn1, fn2⟩ := froz3 N; have tc1x2 : True := trivial)
      | (clear tc1x1; clear cn0 cn1 cn2 fn0 fn1 fn2; go_at_call 40; refine (H5.out _).mono ?_; rintro e w8 ⟨rfl, bb⟩; replace bb := nextr (w0 := w7) bb (sm rfl rfl rfl (Nat.le_refl _) (fun _ _ => rfl)); replace N := mv N bb; replace B_z0 := mv B_z0 bb; replace B_z1 := mv B_z1 bb; replace B_z2 := mv B_z2 bb; replace B_z3 := mv B_z3 bb; replace HB := nx HB bb; clear bb c0z1 c1z1 c2z1 c0z0 c1z0 c2z0 c3z0 c4z0 c5z0; have c0z1 : w8.cell? ⟨w.heap.size + 1, 0, none⟩ = some (.int .i64 x) := B_z1.out.cell 0 rfl; have c1z1 : w8.cell? ⟨w.heap.size + 1, 1, none⟩ = some (.int .i64 y) := B_z1.out.cell 1 rfl; have c2z1 : w8.cell? ⟨w.heap.size + 1, 2, none⟩ = some (.int .i64 h) := B_z1.out.cell 2 rfl; have c0z0 : w8.cell? ⟨w.heap.size, 0, none⟩ = some (.int .i64 x0) := B_z0.out.cell 0 rfl; have c1z0 : w8.cell? ⟨w.heap.size, 1, none⟩ = some (.int .i64 y0) := B_z0.out.cell 1 rfl; have c2z0 : w8.cell? ⟨w.heap.size, 2, none⟩ = some (.int .i64 x1) := B_z0.out.cell 2 rfl; have c3z0 : w8.cell? ⟨w.heap.size, 3, none⟩ = some (.int .i64 y1) := B_z0.out.cell 3 rfl; have c4z0 : w8.cell? ⟨w.heap.size, 4, none⟩ = some (.int .i64 f) := B_z0.out.cell 4 rfl; have c5z0 : w8.cell? ⟨w.heap.size, 5, none⟩ = some (.int .i64 c) := B_z0.out.cell 5 rfl; obtain ⟨cn0, cn1, cn2⟩ := cells3 N; obtain ⟨fn0, fn1, fn2⟩ := froz3 N; have tc1x2 : True := trivial))
    all_goals go_wp2_with fail
    all_goals go_meet
    all_goals first
        | (refine ⟨w8.heap.size, rfl, ?_⟩; have lx_z0 := B_z0.out.lt; have lx_z1 := B_z1.out.lt; have lx_z2 := B_z2.out.lt; have lx_z3 := B_z3.out.lt; obtain ⟨bb, b0⟩ := box1 w8 25 #[.int .i64 MX4, .int .i64 MX5, .int .i64 h]; replace bb := bb.out; have hs := HB.out.size; exact ⟨(by unfold Hid; omega), (by unfold Hid; omega), (by unfold Hid; omega), (by unfold Hid; omega), (by unfold Hid; omega), mv b0 sm, mv (mv B_z0 bb) sm, mv (mv B_z1 bb) sm, mv (mv B_z2 bb) sm, mv (mv B_z3 bb) sm, nx (nx HB bb) sm⟩)
        | (refine ⟨w6.heap.size, rfl, ?_⟩; obtain ⟨hl, h0, h1, h2, h3⟩ := NN.out; exact ⟨Lib.hid h0, Lib.hid h1, Lib.hid h2, Lib.hid h3, Lib.hid hl, mv (stor3 N (.int .i64 MX4) (.int .i64 MX5) (.int .i64 h)) sm, mv (far3 B_z0 h0 0 (.int .i64 MX4) 1 (.int .i64 MX5) 2 (.int .i64 h)) sm, mv (far3 B_z1 h1 0 (.int .i64 MX4) 1 (.int .i64 MX5) 2 (.int .i64 h)) sm, mv (far3 B_z2 h2 0 (.int .i64 MX4) 1 (.int .i64 MX5) 2 (.int .i64 h)) sm, mv (far3 B_z3 h3 0 (.int .i64 MX4) 1 (.int .i64 MX5) 2 (.int .i64 h)) sm, nx (stb3 HB hl 0 (.int .i64 MX4) 1 (.int .i64 MX5) 2 (.int .i64 h)) sm⟩)
        | (refine ⟨w7.heap.size, rfl, ?_⟩; obtain ⟨hl, h0, h1, h2, h3⟩ := NN.out; exact ⟨Lib.hid h0, Lib.hid h1, Lib.hid h2, Lib.hid h3, Lib.hid hl, mv (stor3 N (.int .i64 MX4) (.int .i64 MX5) (.int .i64 h)) sm, mv (far3 B_z0 h0 0 (.int .i64 MX4) 1 (.int .i64 MX5) 2 (.int .i64 h)) sm, mv (far3 B_z1 h1 0 (.int .i64 MX4) 1 (.int .i64 MX5) 2 (.int .i64 h)) sm, mv (far3 B_z2 h2 0 (.int .i64 MX4) 1 (.int .i64 MX5) 2 (.int .i64 h)) sm, mv (far3 B_z3 h3 0 (.int .i64 MX4) 1 (.int .i64 MX5) 2 (.int .i64 h)) sm, nx (stb3 HB hl 0 (.int .i64 MX4) 1 (.int .i64 MX5) 2 (.int .i64 h)) sm⟩)
  case rest =>
    clear B_z0
    clear B_z1
    clear B_z2
    clear B_z3
    clear HB
    rename World => wc9
    obtain ⟨Pz4, rfl, noz0Pz4, noz1Pz4, noz2Pz4, noz3Pz4, lePz4, B_z4, B_z0, B_z1, B_z2, B_z3, HB⟩ := hcut
    have lePz4' := lePz4.out
    go_upto_region 13 with (fail)
    have wq13x0 : IntKind.i64.wrap (x - MX4) = x - MX4 := by rw [IntKind.wrap_i64]; omega
    have wq13x1 : IntKind.i64.wrap (y - MX5) = y - MX5 := by rw [IntKind.wrap_i64]; omega
    obtain ⟨c0z1, c1z1, c2z1⟩ := cells3 B_z1
    obtain ⟨c0z4, c1z4, c2z4⟩ := cells3 B_z4
    go_quiet (fail)
    clear c0z1 c1z1 c2z1 c0z4 c1z4 c2z4
    have bb : Below wc9.heap.size wc9 (wc9.drewN nq) := bel_drewN (Below.refl _ _) _
    generalize wc9.drewN nq = w10q at *
    replace B_z0 := mv B_z0 bb
    replace B_z1 := mv B_z1 bb
    replace B_z2 := mv B_z2 bb
    replace B_z3 := mv B_z3 bb
    replace B_z4 := mv B_z4 bb
    replace HB := nx HB bb
    clear bb
    obtain ⟨c0z0, c1z0, c2z0, c3z0, c4z0, c5z0⟩ := cells6 B_z0
    obtain ⟨c0z4, c1z4, c2z4⟩ := cells3 B_z4
    go_wp2_with fail
    refine (H6.out _).mono ?_
    clear c0z0 c1z0 c2z0 c3z0 c4z0 c5z0 c0z4 c1z4 c2z4
    rintro e w11 ⟨rfl, bb⟩
    replace bb := nextw (w0 := w10q) (by exact sm) bb
    replace B_z0 := mv B_z0 bb
    replace B_z1 := mv B_z1 bb
    replace B_z2 := mv B_z2 bb
    replace B_z3 := mv B_z3 bb
    replace B_z4 := mv B_z4 bb
    replace HB := nx HB bb
    clear bb
    go_wp2
    go_ret
    exact ⟨(by first | rfl | exact rbt (by omega) | exact rbf (by omega)), nextw HB.out (by exact sm)⟩

set_option maxRecDepth 100000 in
set_option maxHeartbeats 4000000 in
theorem Moved0_w4 (x0 y0 x1 y1 f c x y h a b k l : Int) (MX0 MX1 MX2 MX3 : Int) (mx0 : (if b < a then b else a) = MX0) (mx1 : (if a < b then b else a) = MX1) (mx2 : (if l < k then l else k) = MX2) (mx3 : (if k < l then l else k) = MX3) (ha : -128 ≤ a ∧ a ≤ 127) (hb : -128 ≤ b ∧ b ≤ 127) (hk : -128 ≤ k ∧ k ≤ 127) (hl : -128 ≤ l ∧ l ≤ 127) (dd0 : mvArg x0 y0 x1 y1 f c MX0 MX1 MX2 MX3) (dd1 : mvRng x0 y0 x1 y1 MX0 MX1 MX2 MX3) (dd2 : ¬ (HasP x0 y0 x1 y1 f c x y h)) (dd3 : ¬ (HasP (x0 + MX0) (y0 + MX2) (x1 + MX1) (y1 + MX3) f c x y h)) (w : World) :
    Calls Try.prog 11 #[.agg #[.int .i64 x0, .int .i64 y0, .int .i64 x1, .int .i64 y1, .int .i64 f, .int .i64 c], .agg #[.int .i64 x, .int .i64 y, .int .i64 h], .agg #[.int .i8 a, .int .i8 b, .int .i8 k, .int .i8 l]] w fun e w' => e = .returned (.bool true) ∧ Below w.heap.size w w' := by
  have H0 := Lib.hid (fun w => awake_true w)
  have H1 := Lib.hid (fun w => @Move_ok x0 y0 x1 y1 f c MX0 MX1 MX2 MX3 dd0 dd1 w)
  have H2 := Lib.hid (fun w => BoxHas_no dd2 w)
  have H3 := Lib.hid (fun w => BoxHas_no dd3 w)
  replace mx0 := Lib.hid mx0
  replace mx1 := Lib.hid mx1
  replace mx2 := Lib.hid mx2
  replace mx3 := Lib.hid mx3
  have e0 : -128 ≤ MX0 ∧ MX0 ≤ 127 := by have := mx0.out; split at this <;> omega
  have e1 : -128 ≤ MX1 ∧ MX1 ≤ 127 := by have := mx1.out; split at this <;> omega
  have e2 : -128 ≤ MX2 ∧ MX2 ≤ 127 := by have := mx2.out; split at this <;> omega
  have e3 : -128 ≤ MX3 ∧ MX3 ≤ 127 := by have := mx3.out; split at this <;> omega
  obtain ⟨HB, B_z0, B_z1, B_z2⟩ := box3 w 23 #[.int .i64 x0, .int .i64 y0, .int .i64 x1, .int .i64 y1, .int .i64 f, .int .i64 c] 25 #[.int .i64 x, .int .i64 y, .int .i64 h] 55 #[.int .i8 a, .int .i8 b, .int .i8 k, .int .i8 l]
  go_enter Try.func11, Try.ntmps11
  go_upto_region 1 with (fail)
  generalize ((w.alloc (.cells #[.int .i64 x0, .int .i64 y0, .int .i64 x1, .int .i64 y1, .int .i64 f, .int .i64 c] 23)).alloc (.cells #[.int .i64 x, .int .i64 y, .int .i64 h] 25)).alloc (.cells #[.int .i8 a, .int .i8 b, .int .i8 k, .int .i8 l] 55) = W0 at *
  go_wp2_with fail
  refine (H0.out _).mono ?_
  rintro e w1 ⟨rfl, bb⟩
  replace bb := nextw (w0 := W0) (by exact sm) bb
  replace B_z0 := mv B_z0 bb
  replace B_z1 := mv B_z1 bb
  replace B_z2 := mv B_z2 bb
  replace HB := nx HB bb
  clear bb
  have mxo0 := mx0.out
  have mxo1 := mx1.out
  go_upto_region 3 with (fail)
  obtain ⟨c0z2, c1z2, c2z2, c3z2⟩ := cells4 B_z2
  go_quiet (fail)
  clear c0z2 c1z2 c2z2 c3z2
  have bb : Below w1.heap.size w1 (w1.drewN nq) := bel_drewN (Below.refl _ _) _
  generalize w1.drewN nq = w2q at *
  replace B_z0 := mv B_z0 bb
  replace B_z1 := mv B_z1 bb
  replace B_z2 := mv B_z2 bb
  replace HB := nx HB bb
  clear bb
  clear mxo0 mxo1
  have mxo2 := mx2.out
  have mxo3 := mx3.out
  go_upto_region 4 with (fail)
  obtain ⟨c0z2, c1z2, c2z2, c3z2⟩ := cells4 B_z2
  go_quiet (fail)
  clear c0z2 c1z2 c2z2 c3z2
  have bb : Below w2q.heap.size w2q (w2q.drewN nq) := bel_drewN (Below.refl _ _) _
  generalize w2q.drewN nq = w3q at *
  replace B_z0 := mv B_z0 bb
  replace B_z1 := mv B_z1 bb
  replace B_z2 := mv B_z2 bb
  replace HB := nx HB bb
  clear bb
  clear mxo2 mxo3
  obtain ⟨c0z0, c1z0, c2z0, c3z0, c4z0, c5z0⟩ := cells6 B_z0
  go_wp2_with fail
  refine (H1.out _).mono ?_
  clear c0z0 c1z0 c2z0 c3z0 c4z0 c5z0
  rintro e w4 ⟨rfl, bb⟩
  replace bb := nextw (w0 := w3q) (by exact sm) bb
  replace B_z0 := mv B_z0 bb
  replace B_z1 := mv B_z1 bb
  replace B_z2 := mv B_z2 bb
  replace HB := nx HB bb
  clear bb
  have lt_z3z0 := B_z0.out.lt
  have lt_z3z1 := B_z1.out.lt
  have lt_z3z2 := B_z2.out.lt
  obtain ⟨bb, B_z3⟩ := box1 w4 23 #[.int .i64 (x0 + MX0), .int .i64 (y0 + MX2), .int .i64 (x1 + MX1), .int .i64 (y1 + MX3), .int .i64 f, .int .i64 c]
  replace bb := bb.out
  replace B_z0 := mv B_z0 bb
  replace B_z1 := mv B_z1 bb
  replace B_z2 := mv B_z2 bb
  replace HB := nx HB bb
  clear bb
  go_upto_region 6 with (fail)
  generalize w4.alloc (.cells #[.int .i64 (x0 + MX0), .int .i64 (y0 + MX2), .int .i64 (x1 + MX1), .int .i64 (y1 + MX3), .int .i64 f, .int .i64 c] 23) = WN4 at *
  obtain ⟨c0z0, c1z0, c2z0, c3z0, c4z0, c5z0⟩ := cells6 B_z0
  obtain ⟨c0z1, c1z1, c2z1⟩ := cells3 B_z1
  go_wp2_with fail
  refine (H2.out _).mono ?_
  clear c0z0 c1z0 c2z0 c3z0 c4z0 c5z0 c0z1 c1z1 c2z1
  rintro e w5 ⟨rfl, bb⟩
  replace bb := nextw (w0 := WN4) (by exact sm) bb
  replace B_z0 := mv B_z0 bb
  replace B_z1 := mv B_z1 bb
  replace B_z2 := mv B_z2 bb
  replace B_z3 := mv B_z3 bb
  replace HB := nx HB bb
  clear bb
  obtain ⟨c0z3, c1z3, c2z3, c3z3, c4z3, c5z3⟩ := cells6 B_z3
  obtain ⟨c0z1, c1z1, c2z1⟩ := cells3 B_z1
  go_wp2_with fail
  refine (H3.out _).mono ?_
  clear c0z3 c1z3 c2z3 c3z3 c4z3 c5z3 c0z1 c1z1 c2z1
  rintro e w6 ⟨rfl, bb⟩
  replace bb := nextw (w0 := w5) (by exact sm) bb
  replace B_z0 := mv B_z0 bb
  replace B_z1 := mv B_z1 bb
  replace B_z2 := mv B_z2 bb
  replace B_z3 := mv B_z3 bb
  replace HB := nx HB bb
  clear bb
  go_wp2
  go_ret
  exact ⟨(by first | rfl | exact rbt (by omega) | exact rbf (by omega)), nextw HB.out (by exact sm)⟩

set_option maxRecDepth 100000 in
set_option maxHeartbeats 4000000 in
theorem Moved0_w5 (x0 y0 x1 y1 f c x y h a b k l : Int) (MX0 MX1 MX2 MX3 : Int) (mx0 : (if b < a then b else a) = MX0) (mx1 : (if a < b then b else a) = MX1) (mx2 : (if l < k then l else k) = MX2) (mx3 : (if k < l then l else k) = MX3) (ha : -128 ≤ a ∧ a ≤ 127) (hb : -128 ≤ b ∧ b ≤ 127) (hk : -128 ≤ k ∧ k ≤ 127) (hl : -128 ≤ l ∧ l ≤ 127) (dd0 : mvArg x0 y0 x1 y1 f c MX0 MX1 MX2 MX3) (dd1 : mvRng x0 y0 x1 y1 MX0 MX1 MX2 MX3) (dd2 : HasP x0 y0 x1 y1 f c x y h) (dd3 : ¬ (HasP (x0 + MX0) (y0 + MX2) (x1 + MX1) (y1 + MX3) f c x y h)) (w : World) :
    Calls Try.prog 11 #[.agg #[.int .i64 x0, .int .i64 y0, .int .i64 x1, .int .i64 y1, .int .i64 f, .int .i64 c], .agg #[.int .i64 x, .int .i64 y, .int .i64 h], .agg #[.int .i8 a, .int .i8 b, .int .i8 k, .int .i8 l]] w fun e w' => e = .returned (.bool true) ∧ Below w.heap.size w w' := by
  have H0 := Lib.hid (fun w => awake_true w)
  have H1 := Lib.hid (fun w => @Move_ok x0 y0 x1 y1 f c MX0 MX1 MX2 MX3 dd0 dd1 w)
  have H2 := Lib.hid (fun w => BoxHas_yes dd2 w)
  have H3 := Lib.hid (fun w => BoxHas_yes (mv_has dd0 dd1 dd2 ⟨Int.le_refl _, dd0.2.1⟩ ⟨dd0.2.2, Int.le_refl _⟩) w)
  have H4 := Lib.hid (fun w => BoxHas_yes (mv_has dd0 dd1 dd2 ⟨dd0.2.1, Int.le_refl _⟩ ⟨Int.le_refl _, dd0.2.2⟩) w)
  have H5 := Lib.hid (fun w => BoxHas_no dd3 w)
  replace mx0 := Lib.hid mx0
  replace mx1 := Lib.hid mx1
  replace mx2 := Lib.hid mx2
  replace mx3 := Lib.hid mx3
  have dd2b := dd2.bd
  have e0 : -128 ≤ MX0 ∧ MX0 ≤ 127 := by have := mx0.out; split at this <;> omega
  have e1 : -128 ≤ MX1 ∧ MX1 ≤ 127 := by have := mx1.out; split at this <;> omega
  have e2 : -128 ≤ MX2 ∧ MX2 ≤ 127 := by have := mx2.out; split at this <;> omega
  have e3 : -128 ≤ MX3 ∧ MX3 ≤ 127 := by have := mx3.out; split at this <;> omega
  obtain ⟨HB, B_z0, B_z1, B_z2⟩ := box3 w 23 #[.int .i64 x0, .int .i64 y0, .int .i64 x1, .int .i64 y1, .int .i64 f, .int .i64 c] 25 #[.int .i64 x, .int .i64 y, .int .i64 h] 55 #[.int .i8 a, .int .i8 b, .int .i8 k, .int .i8 l]
  go_enter Try.func11, Try.ntmps11
  go_upto_region 1 with (fail)
  generalize ((w.alloc (.cells #[.int .i64 x0, .int .i64 y0, .int .i64 x1, .int .i64 y1, .int .i64 f, .int .i64 c] 23)).alloc (.cells #[.int .i64 x, .int .i64 y, .int .i64 h] 25)).alloc (.cells #[.int .i8 a, .int .i8 b, .int .i8 k, .int .i8 l] 55) = W0 at *
  go_wp2_with fail
  refine (H0.out _).mono ?_
  rintro e w1 ⟨rfl, bb⟩
  replace bb := nextw (w0 := W0) (by exact sm) bb
  replace B_z0 := mv B_z0 bb
  replace B_z1 := mv B_z1 bb
  replace B_z2 := mv B_z2 bb
  replace HB := nx HB bb
  clear bb
  have mxo0 := mx0.out
  have mxo1 := mx1.out
  go_upto_region 3 with (fail)
  obtain ⟨c0z2, c1z2, c2z2, c3z2⟩ := cells4 B_z2
  go_quiet (fail)
  clear c0z2 c1z2 c2z2 c3z2
  have bb : Below w1.heap.size w1 (w1.drewN nq) := bel_drewN (Below.refl _ _) _
  generalize w1.drewN nq = w2q at *
  replace B_z0 := mv B_z0 bb
  replace B_z1 := mv B_z1 bb
  replace B_z2 := mv B_z2 bb
  replace HB := nx HB bb
  clear bb
  clear mxo0 mxo1
  have mxo2 := mx2.out
  have mxo3 := mx3.out
  go_upto_region 4 with (fail)
  obtain ⟨c0z2, c1z2, c2z2, c3z2⟩ := cells4 B_z2
  go_quiet (fail)
  clear c0z2 c1z2 c2z2 c3z2
  have bb : Below w2q.heap.size w2q (w2q.drewN nq) := bel_drewN (Below.refl _ _) _
  generalize w2q.drewN nq = w3q at *
  replace B_z0 := mv B_z0 bb
  replace B_z1 := mv B_z1 bb
  replace B_z2 := mv B_z2 bb
  replace HB := nx HB bb
  clear bb
  clear mxo2 mxo3
  obtain ⟨c0z0, c1z0, c2z0, c3z0, c4z0, c5z0⟩ := cells6 B_z0
  go_wp2_with fail
  refine (H1.out _).mono ?_
  clear c0z0 c1z0 c2z0 c3z0 c4z0 c5z0
  rintro e w4 ⟨rfl, bb⟩
  replace bb := nextw (w0 := w3q) (by exact sm) bb
  replace B_z0 := mv B_z0 bb
  replace B_z1 := mv B_z1 bb
  replace B_z2 := mv B_z2 bb
  replace HB := nx HB bb
  clear bb
  have lt_z3z0 := B_z0.out.lt
  have lt_z3z1 := B_z1.out.lt
  have lt_z3z2 := B_z2.out.lt
  obtain ⟨bb, B_z3⟩ := box1 w4 23 #[.int .i64 (x0 + MX0), .int .i64 (y0 + MX2), .int .i64 (x1 + MX1), .int .i64 (y1 + MX3), .int .i64 f, .int .i64 c]
  replace bb := bb.out
  replace B_z0 := mv B_z0 bb
  replace B_z1 := mv B_z1 bb
  replace B_z2 := mv B_z2 bb
  replace HB := nx HB bb
  clear bb
  go_upto_region 6 with (fail)
  generalize w4.alloc (.cells #[.int .i64 (x0 + MX0), .int .i64 (y0 + MX2), .int .i64 (x1 + MX1), .int .i64 (y1 + MX3), .int .i64 f, .int .i64 c] 23) = WN4 at *
  obtain ⟨c0z0, c1z0, c2z0, c3z0, c4z0, c5z0⟩ := cells6 B_z0
  obtain ⟨c0z1, c1z1, c2z1⟩ := cells3 B_z1
  go_wp2_with fail
  refine (H2.out _).mono ?_
  clear c0z0 c1z0 c2z0 c3z0 c4z0 c5z0 c0z1 c1z1 c2z1
  rintro e w5 ⟨rfl, bb⟩
  replace bb := nextw (w0 := WN4) (by exact sm) bb
  replace B_z0 := mv B_z0 bb
  replace B_z1 := mv B_z1 bb
  replace B_z2 := mv B_z2 bb
  replace B_z3 := mv B_z3 bb
  replace HB := nx HB bb
  clear bb
  obtain ⟨c0z3, c1z3, c2z3, c3z3, c4z3, c5z3⟩ := cells6 B_z3
  obtain ⟨c0z1, c1z1, c2z1⟩ := cells3 B_z1
  go_wp2_with fail
  refine (H3.out _).mono ?_
  clear c0z3 c1z3 c2z3 c3z3 c4z3 c5z3 c0z1 c1z1 c2z1
  rintro e w6 ⟨rfl, bb⟩
  replace bb := nextw (w0 := w5) (by exact sm) bb
  replace B_z0 := mv B_z0 bb
  replace B_z1 := mv B_z1 bb
  replace B_z2 := mv B_z2 bb
  replace B_z3 := mv B_z3 bb
  replace HB := nx HB bb
  clear bb
  obtain ⟨c0z3, c1z3, c2z3, c3z3, c4z3, c5z3⟩ := cells6 B_z3
  obtain ⟨c0z1, c1z1, c2z1⟩ := cells3 B_z1
  go_wp2_with fail
  refine (H4.out _).mono ?_
  clear c0z3 c1z3 c2z3 c3z3 c4z3 c5z3 c0z1 c1z1 c2z1
  rintro e w7 ⟨rfl, bb⟩
  replace bb := nextw (w0 := w6) (by exact sm) bb
  replace B_z0 := mv B_z0 bb
  replace B_z1 := mv B_z1 bb
  replace B_z2 := mv B_z2 bb
  replace B_z3 := mv B_z3 bb
  replace HB := nx HB bb
  clear bb
  obtain ⟨c0z3, c1z3, c2z3, c3z3, c4z3, c5z3⟩ := cells6 B_z3
  obtain ⟨c0z1, c1z1, c2z1⟩ := cells3 B_z1
  go_wp2_with fail
  refine (H5.out _).mono ?_
  clear c0z3 c1z3 c2z3 c3z3 c4z3 c5z3 c0z1 c1z1 c2z1
  rintro e w8 ⟨rfl, bb⟩
  replace bb := nextw (w0 := w7) (by exact sm) bb
  replace B_z0 := mv B_z0 bb
  replace B_z1 := mv B_z1 bb
  replace B_z2 := mv B_z2 bb
  replace B_z3 := mv B_z3 bb
  replace HB := nx HB bb
  clear bb
  go_wp2
  go_ret
  exact ⟨(by first | rfl | exact rbt (by omega) | exact rbf (by omega)), nextw HB.out (by exact sm)⟩

def Moved0V (x0 y0 x1 y1 f c x y h a b k l : Int) : Value := if mvArg x0 y0 x1 y1 f c (if b < a then b else a) (if a < b then b else a) (if l < k then l else k) (if k < l then l else k) then if mvRng x0 y0 x1 y1 (if b < a then b else a) (if a < b then b else a) (if l < k then l else k) (if k < l then l else k) then if HasP x0 y0 x1 y1 f c x y h then if HasP (x0 + (if b < a then b else a)) (y0 + (if l < k then l else k)) (x1 + (if a < b then b else a)) (y1 + (if k < l then l else k)) f c x y h then .bool true else .bool true else if HasP (x0 + (if b < a then b else a)) (y0 + (if l < k then l else k)) (x1 + (if a < b then b else a)) (y1 + (if k < l then l else k)) f c x y h then .bool true else .bool true else .bool true else .bool true
theorem Moved0_any (x0 y0 x1 y1 f c x y h a b k l : Int) (ha : -128 ≤ a ∧ a ≤ 127) (hb : -128 ≤ b ∧ b ≤ 127) (hk : -128 ≤ k ∧ k ≤ 127) (hl : -128 ≤ l ∧ l ≤ 127) (w : World) :
    Calls Try.prog 11 #[.agg #[.int .i64 x0, .int .i64 y0, .int .i64 x1, .int .i64 y1, .int .i64 f, .int .i64 c], .agg #[.int .i64 x, .int .i64 y, .int .i64 h], .agg #[.int .i8 a, .int .i8 b, .int .i8 k, .int .i8 l]] w fun e w' => e = .returned (Moved0V x0 y0 x1 y1 f c x y h a b k l) ∧ Below w.heap.size w w' := by
  unfold Moved0V
  by_cases dd0 : mvArg x0 y0 x1 y1 f c (if b < a then b else a) (if a < b then b else a) (if l < k then l else k) (if k < l then l else k)
  · rw [if_pos dd0]
    by_cases dd1 : mvRng x0 y0 x1 y1 (if b < a then b else a) (if a < b then b else a) (if l < k then l else k) (if k < l then l else k)
    · rw [if_pos dd1]
      by_cases dd2 : HasP x0 y0 x1 y1 f c x y h
      · rw [if_pos dd2]
        by_cases dd3 : HasP (x0 + (if b < a then b else a)) (y0 + (if l < k then l else k)) (x1 + (if a < b then b else a)) (y1 + (if k < l then l else k)) f c x y h
        · rw [if_pos dd3]
          exact Moved0_w0 x0 y0 x1 y1 f c x y h a b k l _ _ _ _ _ _ rfl rfl rfl rfl rfl rfl ha hb hk hl dd0 dd1 dd2 dd3 w
        · rw [if_neg dd3]
          exact Moved0_w5 x0 y0 x1 y1 f c x y h a b k l _ _ _ _ rfl rfl rfl rfl ha hb hk hl dd0 dd1 dd2 dd3 w
      · rw [if_neg dd2]
        by_cases dd3 : HasP (x0 + (if b < a then b else a)) (y0 + (if l < k then l else k)) (x1 + (if a < b then b else a)) (y1 + (if k < l then l else k)) f c x y h
        · rw [if_pos dd3]
          exact Moved0_w3 x0 y0 x1 y1 f c x y h a b k l _ _ _ _ _ _ rfl rfl rfl rfl rfl rfl ha hb hk hl dd0 dd1 dd2 dd3 w
        · rw [if_neg dd3]
          exact Moved0_w4 x0 y0 x1 y1 f c x y h a b k l _ _ _ _ rfl rfl rfl rfl ha hb hk hl dd0 dd1 dd2 dd3 w
    · rw [if_neg dd1]
      exact Moved0_w2 x0 y0 x1 y1 f c x y h a b k l _ _ _ _ rfl rfl rfl rfl ha hb hk hl dd0 dd1 w
  · rw [if_neg dd0]
    exact Moved0_w1 x0 y0 x1 y1 f c x y h a b k l _ _ _ _ rfl rfl rfl rfl ha hb hk hl dd0 w

theorem Moved_any (x0 y0 x1 y1 f c x y h a b k l : Int) (ha : -128 ≤ a ∧ a ≤ 127) (hb : -128 ≤ b ∧ b ≤ 127) (hk : -128 ≤ k ∧ k ≤ 127) (hl : -128 ≤ l ∧ l ≤ 127) (w : World) : Calls Try.prog 11 #[.agg #[.int .i64 x0, .int .i64 y0, .int .i64 x1, .int .i64 y1, .int .i64 f, .int .i64 c], .agg #[.int .i64 x, .int .i64 y, .int .i64 h], .agg #[.int .i8 a, .int .i8 b, .int .i8 k, .int .i8 l]] w fun e w' => e = .returned (.bool true) ∧ Below w.heap.size w w' := by
  have e := Moved0_any x0 y0 x1 y1 f c x y h a b k l ha hb hk hl w
  rwa [show Moved0V x0 y0 x1 y1 f c x y h a b k l = .bool true from (by unfold Moved0V; (repeat' split); all_goals rfl)] at e
end Go.Proofs.Ytjpdahalplkfbaa
