/- The law RotationCircle: the walk. -/
import Derived.Test.YtccndofafljaaaaGreatDoorRAwake

set_option linter.unusedVariables false
set_option linter.unusedSimpArgs false

namespace Go.Proofs.YtccndofafljaaaaGreatDoor
open Go Go.RowKit Num

theorem Cmp_zero {v1 v2 : Value} {r1 r2 : Rat} {k1 k2 : Nat} {w : World} (h1 : Qd w v1 r1 k1) (h2 : Qd w v2 r2 k2) (f1 : k1 ≤ 4000) (f2 : k2 ≤ 4000) (e : r1 = r2) :
    Calls Tryz.prog 23 #[v1, v2] w fun e w' => e = .returned (.int .i64 0) ∧ Below w.heap.size w w' := by
  have h := Cmp_q h1 h2 f1 f2
  rwa [cmpQ_eq.2 e] at h

set_option maxRecDepth 100000 in
set_option maxHeartbeats 16000000 in
theorem Circle_long0 {sx : Bool} {Ax : Option Addr} {kx cx : Nat} {tx : Bool} {Cx : Option Addr} {lx dx : Nat} {px qx : Int} {jx : Nat} {w : World} (hx : Fd w (.agg #[.bool sx, .slice Ax kx cx, .bool tx, .slice Cx lx dx]) px qx jx) (htab : Tab10 w) (mx : kx ≤ 9223372036854775807 ∧ lx ≤ 9223372036854775807) (gx : ¬ (kx ≤ 12 ∧ lx ≤ 12)) :
    Calls Tryz.prog 4 #[.agg #[.bool sx, .slice Ax kx cx, .bool tx, .slice Cx lx dx]] w fun e w' => e = .returned (.bool true) ∧ Below w.heap.size w w' := by
  have Mx := Lib.hid mx
  have Gx := Lib.hid gx
  clear mx gx
  have V_xn := Lib.hid hx.num
  have V_xd := Lib.hid hx.den
  have V_tab := Lib.hid htab
  clear hx htab
  have hb0 : Below w.heap.size w (w.alloc (.cells #[.bool sx, (.slice Ax kx cx), .bool tx, (.slice Cx lx dx)] 26)) := (Below.alloc (Below.refl w.heap.size w) (by simp <;> omega) _)
  have B_x : BoxR (w.alloc (.cells #[.bool sx, (.slice Ax kx cx), .bool tx, (.slice Cx lx dx)] 26)) (w.heap.size) sx (.slice Ax kx cx) tx (.slice Cx lx dx) := by have h := BoxR.new w sx (.slice Ax kx cx) tx (.slice Cx lx dx); simpa using h
  replace B_x := Lib.hid B_x
  replace V_xn := Lib.hid (Rd.below V_xn.out hb0)
  replace V_xd := Lib.hid (Rd.below V_xd.out hb0)
  replace V_tab := Lib.hid (tab_below V_tab.out hb0)
  have HB := Lib.hid hb0
  clear hb0
  have c0x := B_x.out.c0
  have c1x := B_x.out.c1
  have c2x := B_x.out.c2
  have c3x := B_x.out.c3
  go_enter Tryz.func4, Tryz.ntmps4
  go_wp2_with fail
  clear c0x c1x c2x c3x
  generalize w.alloc (.cells #[.bool sx, (.slice Ax kx cx), .bool tx, (.slice Cx lx dx)] 26) = W0 at *
  refine (awakeR _ (tab_below V_tab.out (by exact ⟨rfl, rfl, rfl, Nat.le_refl _, fun _ _ => rfl⟩))).mono ?_
  rintro e w1 ⟨rfl, bb⟩
  replace bb := nextw (w0 := W0) (by exact ⟨rfl, rfl, rfl, Nat.le_refl _, fun _ _ => rfl⟩) bb
  replace B_x := Lib.hid (BoxR.below B_x.out bb B_x.out.lt)
  replace V_xn := Lib.hid (Rd.below V_xn.out bb)
  replace V_xd := Lib.hid (Rd.below V_xd.out bb)
  replace V_tab := Lib.hid (tab_below V_tab.out bb)
  replace HB := Lib.hid (nextw HB.out bb)
  clear bb
  have c0x := B_x.out.c0
  have c1x := B_x.out.c1
  have c2x := B_x.out.c2
  have c3x := B_x.out.c3
  go_wp2_with fail
  refine (small_no Mx.out.1 Mx.out.2 Gx.out).mono ?_
  rintro e w2 ⟨rfl, bb⟩
  replace bb := nextw (w0 := w1) (by exact ⟨rfl, rfl, rfl, Nat.le_refl _, fun _ _ => rfl⟩) bb
  clear c0x c1x c2x c3x
  replace B_x := Lib.hid (BoxR.below B_x.out bb B_x.out.lt)
  replace V_xn := Lib.hid (Rd.below V_xn.out bb)
  replace V_xd := Lib.hid (Rd.below V_xd.out bb)
  replace V_tab := Lib.hid (tab_below V_tab.out bb)
  replace HB := Lib.hid (nextw HB.out bb)
  clear bb
  go_wp2_with fail
  refine (awakeR _ (tab_below V_tab.out (by exact ⟨rfl, rfl, rfl, Nat.le_refl _, fun _ _ => rfl⟩))).mono ?_
  rintro e w3 ⟨rfl, bb⟩
  replace bb := nextw (w0 := w2) (by exact ⟨rfl, rfl, rfl, Nat.le_refl _, fun _ _ => rfl⟩) bb
  replace B_x := Lib.hid (BoxR.below B_x.out bb B_x.out.lt)
  replace V_xn := Lib.hid (Rd.below V_xn.out bb)
  replace V_xd := Lib.hid (Rd.below V_xd.out bb)
  replace V_tab := Lib.hid (tab_below V_tab.out bb)
  replace HB := Lib.hid (nextw HB.out bb)
  clear bb
  have HBo := HB.out
  go_wp2
  go_ret
  exact ⟨rfl, nextw HBo (by exact ⟨rfl, rfl, rfl, Nat.le_refl _, fun _ _ => rfl⟩)⟩

set_option maxRecDepth 100000 in
set_option maxHeartbeats 16000000 in
theorem Circle_main {sx : Bool} {Ax : Option Addr} {kx cx : Nat} {tx : Bool} {Cx : Option Addr} {lx dx : Nat} {px qx : Int} {jx : Nat} {w : World} (hx : Fd w (.agg #[.bool sx, .slice Ax kx cx, .bool tx, .slice Cx lx dx]) px qx jx) (htab : Tab10 w) (kx1 : kx ≤ 12) (lx1 : lx ≤ 12) (gx1 : jx ≤ 12) :
    Calls Tryz.prog 4 #[.agg #[.bool sx, .slice Ax kx cx, .bool tx, .slice Cx lx dx]] w fun e w' => e = .returned (.bool true) ∧ Below w.heap.size w w' := by
  have Kx := Lib.hid kx1
  have Lx := Lib.hid lx1
  clear kx1 lx1
  have V_xn := Lib.hid hx.num
  have V_xd := Lib.hid hx.den
  have V_tab := Lib.hid htab
  clear hx htab
  have hb0 : Below w.heap.size w (w.alloc (.cells #[.bool sx, (.slice Ax kx cx), .bool tx, (.slice Cx lx dx)] 26)) := (Below.alloc (Below.refl w.heap.size w) (by simp <;> omega) _)
  have B_x : BoxR (w.alloc (.cells #[.bool sx, (.slice Ax kx cx), .bool tx, (.slice Cx lx dx)] 26)) (w.heap.size) sx (.slice Ax kx cx) tx (.slice Cx lx dx) := by have h := BoxR.new w sx (.slice Ax kx cx) tx (.slice Cx lx dx); simpa using h
  replace B_x := Lib.hid B_x
  replace V_xn := Lib.hid (Rd.below V_xn.out hb0)
  replace V_xd := Lib.hid (Rd.below V_xd.out hb0)
  replace V_tab := Lib.hid (tab_below V_tab.out hb0)
  have HB := Lib.hid hb0
  clear hb0
  have c0x := B_x.out.c0
  have c1x := B_x.out.c1
  have c2x := B_x.out.c2
  have c3x := B_x.out.c3
  go_enter Tryz.func4, Tryz.ntmps4
  go_wp2_with fail
  clear c0x c1x c2x c3x
  generalize w.alloc (.cells #[.bool sx, (.slice Ax kx cx), .bool tx, (.slice Cx lx dx)] 26) = W0 at *
  refine (awakeR _ (tab_below V_tab.out (by exact ⟨rfl, rfl, rfl, Nat.le_refl _, fun _ _ => rfl⟩))).mono ?_
  rintro e w1 ⟨rfl, bb⟩
  replace bb := nextw (w0 := W0) (by exact ⟨rfl, rfl, rfl, Nat.le_refl _, fun _ _ => rfl⟩) bb
  replace B_x := Lib.hid (BoxR.below B_x.out bb B_x.out.lt)
  replace V_xn := Lib.hid (Rd.below V_xn.out bb)
  replace V_xd := Lib.hid (Rd.below V_xd.out bb)
  replace V_tab := Lib.hid (tab_below V_tab.out bb)
  replace HB := Lib.hid (nextw HB.out bb)
  clear bb
  have c0x := B_x.out.c0
  have c1x := B_x.out.c1
  have c2x := B_x.out.c2
  have c3x := B_x.out.c3
  go_wp2_with fail
  refine (small_yes Kx.out Lx.out).mono ?_
  rintro e w2 ⟨rfl, bb⟩
  replace bb := nextw (w0 := w1) (by exact ⟨rfl, rfl, rfl, Nat.le_refl _, fun _ _ => rfl⟩) bb
  clear c0x c1x c2x c3x
  replace B_x := Lib.hid (BoxR.below B_x.out bb B_x.out.lt)
  replace V_xn := Lib.hid (Rd.below V_xn.out bb)
  replace V_xd := Lib.hid (Rd.below V_xd.out bb)
  replace V_tab := Lib.hid (tab_below V_tab.out bb)
  replace HB := Lib.hid (nextw HB.out bb)
  clear bb
  have c0x := B_x.out.c0
  have c1x := B_x.out.c1
  have c2x := B_x.out.c2
  have c3x := B_x.out.c3
  go_upto_region 3 with fail
  go_cut [3, 4] (fun a b wx => TwoQ w2 (fun w v => Qc w v (cosQ px qx) (4 * jx + 11)) (fun w v => Qc w v (sinQ px qx) (4 * jx + 11)) a b wx)
  clear c0x c1x c2x c3x
  case first =>
    clear V_tab
    have HC := Lib.hid (Below.refl w2.heap.size w2)
    have zx0 := B_x.out.lt
    have c0x := B_x.out.c0
    have c1x := B_x.out.c1
    have c2x := B_x.out.c2
    have c3x := B_x.out.c3
    have tk1x0 : True := trivial
    first | (go_region_held3 (fun w' => w'.cell? ⟨w.heap.size, 0, none⟩ = some (.bool sx) ∧ w'.cell? ⟨w.heap.size, 1, none⟩ = some (.slice Ax kx cx) ∧ w'.cell? ⟨w.heap.size, 2, none⟩ = some (.bool tx) ∧ w'.cell? ⟨w.heap.size, 3, none⟩ = some (.slice Cx lx dx)) (((try dsimp only); (repeat' apply And.intro) <;> (first | (with_reducible assumption) | ((repeat (first | (with_reducible refine Eq.trans (cell_drew1 _ _) ?_) | (with_reducible refine Eq.trans (World.cell?_alloc_lt _ _ _ (by first | (dsimp only; omega) | (simp only [World.size_alloc, World.size_setCell]; omega))) ?_) | (with_reducible refine Eq.trans (cell_set4 (by omega) _ _ _ _) ?_))); with_reducible assumption) | assumption | go_keep)))
    (first
      | (clear tk1x0; go_at_call 17; refine (Cosine_r (Fd.mk (Rd.below V_xn.out (by first | exact ⟨rfl, rfl, rfl, Nat.le_refl _, fun _ _ => rfl⟩ | exact below_push1 rfl rfl rfl rfl | exact below_push2 rfl rfl rfl rfl)) (Rd.below V_xd.out (by first | exact ⟨rfl, rfl, rfl, Nat.le_refl _, fun _ _ => rfl⟩ | exact below_push1 rfl rfl rfl rfl | exact below_push2 rfl rfl rfl rfl))) (by omega)).mono ?_; rintro e w3 ⟨vc, rfl, rc, bb⟩; have bb0 := bb; (first | (have h2 := box_new2Q (w := w2) bb0 rfl; have N_a := Lib.hid h2.1; have N_b := Lib.hid h2.2; clear h2) | (have h2 := box_new1Q (w := w2) bb0 rfl; have N_a := Lib.hid h2; clear h2) | skip); clear bb0; replace bb := nextw (w0 := w2) (by first | exact ⟨rfl, rfl, rfl, Nat.le_refl _, fun _ _ => rfl⟩ | exact below_push1 rfl rfl rfl rfl | exact below_push2 rfl rfl rfl rfl) bb; replace B_x := Lib.hid (BoxR.below B_x.out bb B_x.out.lt); replace V_xn := Lib.hid (Rd.below V_xn.out bb); replace V_xd := Lib.hid (Rd.below V_xd.out bb); replace HB := Lib.hid (nextw HB.out bb); replace HC := Lib.hid (nextw HC.out bb); clear bb; replace rc := Lib.hid rc; have V_c := rc; clear rc; obtain ⟨sc, Ac, kc, cc, tc, Cc, lc, dc, rfl⟩ := V_c.out.shape; clear c0x c1x c2x c3x; have c0x := B_x.out.c0; have c1x := B_x.out.c1; have c2x := B_x.out.c2; have c3x := B_x.out.c3; have zx1 := B_x.out.lt; have hle1 := HC.out.size; (try (have LWa0 := Lib.hid N_a.out.lt)); (try (have LWb0 := Lib.hid N_b.out.lt)); have tk1x1 : True := trivial)
      | (clear tk1x1; go_at_call 18; refine (Sine_r (Fd.mk (Rd.below V_xn.out (by first | exact ⟨rfl, rfl, rfl, Nat.le_refl _, fun _ _ => rfl⟩ | exact below_push1 rfl rfl rfl rfl | exact below_push2 rfl rfl rfl rfl)) (Rd.below V_xd.out (by first | exact ⟨rfl, rfl, rfl, Nat.le_refl _, fun _ _ => rfl⟩ | exact below_push1 rfl rfl rfl rfl | exact below_push2 rfl rfl rfl rfl))) (by omega)).mono ?_; rintro e w4 ⟨vs, rfl, rs, bb⟩; have bb0 := bb; (try (replace N_a := Lib.hid (Box4.below N_a.out (nextw (by first | exact ⟨rfl, rfl, rfl, Nat.le_refl _, fun _ _ => rfl⟩ | exact below_push1 rfl rfl rfl rfl | exact below_push2 rfl rfl rfl rfl) bb) N_a.out.lt))); (try (replace N_b := Lib.hid (Box4.below N_b.out (nextw (by first | exact ⟨rfl, rfl, rfl, Nat.le_refl _, fun _ _ => rfl⟩ | exact below_push1 rfl rfl rfl rfl | exact below_push2 rfl rfl rfl rfl) bb) N_b.out.lt))); (first | (have h2 := box_new2Q (w := w3) bb0 rfl; have N_c := Lib.hid h2.1; have N_d := Lib.hid h2.2; clear h2) | (have h2 := box_new1Q (w := w3) bb0 rfl; have N_c := Lib.hid h2; clear h2) | skip); clear bb0; replace bb := nextw (w0 := w3) (by first | exact ⟨rfl, rfl, rfl, Nat.le_refl _, fun _ _ => rfl⟩ | exact below_push1 rfl rfl rfl rfl | exact below_push2 rfl rfl rfl rfl) bb; clear V_xn V_xd; replace B_x := Lib.hid (BoxR.below B_x.out bb B_x.out.lt); replace V_c := Lib.hid (Qc.below V_c.out bb); replace HB := Lib.hid (nextw HB.out bb); replace HC := Lib.hid (nextw HC.out bb); clear bb; replace rs := Lib.hid rs; have V_s := rs; clear rs; obtain ⟨ss, As, ks, cs, ts, Cs, ls, ds, rfl⟩ := V_s.out.shape; clear c0x c1x c2x c3x; have c0x := B_x.out.c0; have c1x := B_x.out.c1; have c2x := B_x.out.c2; have c3x := B_x.out.c3; have zx2 := B_x.out.lt; have hle2 := HC.out.size; (try (have c0a := N_a.out.c0; have c1a := N_a.out.c1; have c2a := N_a.out.c2; have c3a := N_a.out.c3; have f0a := N_a.out.f0; have f1a := N_a.out.f1; have f2a := N_a.out.f2; have f3a := N_a.out.f3)); (try (have c0b := N_b.out.c0; have c1b := N_b.out.c1; have c2b := N_b.out.c2; have c3b := N_b.out.c3; have f0b := N_b.out.f0; have f1b := N_b.out.f1; have f2b := N_b.out.f2; have f3b := N_b.out.f3)); (try (have c0c := N_c.out.c0; have c1c := N_c.out.c1; have c2c := N_c.out.c2; have c3c := N_c.out.c3; have f0c := N_c.out.f0; have f1c := N_c.out.f1; have f2c := N_c.out.f2; have f3c := N_c.out.f3)); (try (have c0d := N_d.out.c0; have c1d := N_d.out.c1; have c2d := N_d.out.c2; have c3d := N_d.out.c3; have f0d := N_d.out.f0; have f1d := N_d.out.f1; have f2d := N_d.out.f2; have f3d := N_d.out.f3)); (try (have la := N_a.out.lt; have lna := Nat.ne_of_lt la; have lma := Nat.ne_of_gt la)); (try (have lb := N_b.out.lt; have lnb := Nat.ne_of_lt lb; have lmb := Nat.ne_of_gt lb)); (try (have lc := N_c.out.lt; have lnc := Nat.ne_of_lt lc; have lmc := Nat.ne_of_gt lc)); (try (have ld := N_d.out.lt; have lnd := Nat.ne_of_lt ld; have lmd := Nat.ne_of_gt ld)); (try (have lba0 := Nat.ne_of_lt LWa0.out; have lca0 := Nat.ne_of_gt LWa0.out)); (try (have lbb0 := Nat.ne_of_lt LWb0.out; have lcb0 := Nat.ne_of_gt LWb0.out)); have tk1x2 : True := trivial))) | fail
    all_goals go_wp2_with fail
    all_goals go_meet
    all_goals (first | (with_reducible exact fin1Q V_c.out V_s.out HC.out (keptQ_Qc _ _) (keptQ_Qc _ _)) | (with_reducible exact fin1bQ V_c.out V_s.out HC.out (keptQ_Qc _ _) (keptQ_Qc _ _)) | (with_reducible exact fin2xQ V_c.out V_s.out HC.out (keptQ_Qc _ _) (keptQ_Qc _ _) N_a.out (by omega)) | (with_reducible exact fin2bxQ V_c.out V_s.out HC.out (keptQ_Qc _ _) (keptQ_Qc _ _) N_a.out (by omega)) | (with_reducible exact fin2xQ V_c.out V_s.out HC.out (keptQ_Qc _ _) (keptQ_Qc _ _) N_c.out (by omega)) | (with_reducible exact fin2bxQ V_c.out V_s.out HC.out (keptQ_Qc _ _) (keptQ_Qc _ _) N_c.out (by omega)) | (with_reducible exact fin3xQ V_c.out V_s.out HC.out (keptQ_Qc _ _) (keptQ_Qc _ _) N_a.out N_b.out (by omega) (by omega) (by omega)) | (with_reducible exact fin3xQ V_c.out V_s.out HC.out (keptQ_Qc _ _) (keptQ_Qc _ _) N_a.out N_c.out (by omega) (by omega) (by omega)) | (with_reducible exact fin3xQ V_c.out V_s.out HC.out (keptQ_Qc _ _) (keptQ_Qc _ _) N_b.out N_c.out (by omega) (by omega) (by omega)) | (with_reducible exact fin3xQ V_c.out V_s.out HC.out (keptQ_Qc _ _) (keptQ_Qc _ _) N_c.out N_d.out (by omega) (by omega) (by omega)) | (with_reducible exact fin3xQ V_c.out V_s.out HC.out (keptQ_Qc _ _) (keptQ_Qc _ _) N_b.out N_a.out (by omega) (by omega) (by omega)) | (with_reducible exact fin3xQ V_c.out V_s.out HC.out (keptQ_Qc _ _) (keptQ_Qc _ _) N_c.out N_a.out (by omega) (by omega) (by omega)) | (with_reducible exact fin3xQ V_c.out V_s.out HC.out (keptQ_Qc _ _) (keptQ_Qc _ _) N_c.out N_b.out (by omega) (by omega) (by omega)) | (with_reducible exact fin3xQ V_c.out V_s.out HC.out (keptQ_Qc _ _) (keptQ_Qc _ _) N_d.out N_c.out (by omega) (by omega) (by omega)))
  case rest =>
    rename World => wcc
    obtain ⟨pc, ps, sc, Ac, kc, cc, tc, Cc, lc, dc, ss, As, ks, cs, ts, Cs, ls, ds, rfl, rfl, hnec, hgec, hges, bqc, bqs, vqc, vqs, bb⟩ := hcut
    replace B_x := Lib.hid (BoxR.below B_x.out bb B_x.out.lt)
    replace V_xn := Lib.hid (Rd.below V_xn.out bb)
    replace V_xd := Lib.hid (Rd.below V_xd.out bb)
    replace V_tab := Lib.hid (tab_below V_tab.out bb)
    replace HB := Lib.hid (nextw HB.out bb)
    clear bb hnec hgec hges
    have B_c := Lib.hid bqc
    have B_s := Lib.hid bqs
    have V_c := Lib.hid vqc
    have V_s := Lib.hid vqs
    clear bqc bqs vqc vqs
    have c0x := B_x.out.c0
    have c1x := B_x.out.c1
    have c2x := B_x.out.c2
    have c3x := B_x.out.c3
    have c0c := B_c.out.c0
    have c1c := B_c.out.c1
    have c2c := B_c.out.c2
    have c3c := B_c.out.c3
    have c0s := B_s.out.c0
    have c1s := B_s.out.c1
    have c2s := B_s.out.c2
    have c3s := B_s.out.c3
    go_upto_region 4 with fail
    go_cut [5, 6] (fun a b wx => TwoQ wcc (fun w v => Qc w v (cosQ px qx * Rat.divInt 1 1 - sinQ px qx * Rat.divInt 0 1) (8 * jx + 2 * 4 + 27)) (fun w v => Qc w v (sinQ px qx * Rat.divInt 1 1 + cosQ px qx * Rat.divInt 0 1) (8 * jx + 2 * 4 + 27)) a b wx)
    clear c0x c1x c2x c3x c0c c1c c2c c3c c0s c1s c2s c3s
    case first =>
      clear V_tab V_c V_s B_c B_s
      have HC := Lib.hid (Below.refl wcc.heap.size wcc)
      have zx0 := B_x.out.lt
      have c0x := B_x.out.c0
      have c1x := B_x.out.c1
      have c2x := B_x.out.c2
      have c3x := B_x.out.c3
      have tk2x0 : True := trivial
      first | (go_region_held3 (fun w' => w'.cell? ⟨w.heap.size, 0, none⟩ = some (.bool sx) ∧ w'.cell? ⟨w.heap.size, 1, none⟩ = some (.slice Ax kx cx) ∧ w'.cell? ⟨w.heap.size, 2, none⟩ = some (.bool tx) ∧ w'.cell? ⟨w.heap.size, 3, none⟩ = some (.slice Cx lx dx)) (((try dsimp only); (repeat' apply And.intro) <;> (first | (with_reducible assumption) | ((repeat (first | (with_reducible refine Eq.trans (cell_drew1 _ _) ?_) | (with_reducible refine Eq.trans (World.cell?_alloc_lt _ _ _ (by first | (dsimp only; omega) | (simp only [World.size_alloc, World.size_setCell]; omega))) ?_) | (with_reducible refine Eq.trans (cell_set4 (by omega) _ _ _ _) ?_))); with_reducible assumption) | assumption | go_keep)))
    (first
      | (clear tk2x0; go_at_call 20; refine (Of_q (1) (1) (by omega) (by omega) (by omega) (by omega)).mono ?_; rintro e w5 ⟨vo1, rfl, ro1, bb⟩; have bb0 := bb; (first | (have h2 := box_new2Q (w := wcc) bb0 rfl; have N_a := Lib.hid h2.1; have N_b := Lib.hid h2.2; clear h2) | (have h2 := box_new1Q (w := wcc) bb0 rfl; have N_a := Lib.hid h2; clear h2) | skip); clear bb0; replace bb := nextw (w0 := wcc) (by first | exact ⟨rfl, rfl, rfl, Nat.le_refl _, fun _ _ => rfl⟩ | exact below_push1 rfl rfl rfl rfl | exact below_push2 rfl rfl rfl rfl) bb; replace B_x := Lib.hid (BoxR.below B_x.out bb B_x.out.lt); replace V_xn := Lib.hid (Rd.below V_xn.out bb); replace V_xd := Lib.hid (Rd.below V_xd.out bb); replace HB := Lib.hid (nextw HB.out bb); replace HC := Lib.hid (nextw HC.out bb); clear bb; replace ro1 := Lib.hid ro1; have V_o1 := ro1; clear ro1; clear c0x c1x c2x c3x; have c0x := B_x.out.c0; have c1x := B_x.out.c1; have c2x := B_x.out.c2; have c3x := B_x.out.c3; have zx1 := B_x.out.lt; have hle1 := HC.out.size; (try (have LWa0 := Lib.hid N_a.out.lt)); (try (have LWb0 := Lib.hid N_b.out.lt)); have tk2x1 : True := trivial)
      | (clear tk2x1; go_at_call 20; refine (Of_q (0) (1) (by omega) (by omega) (by omega) (by omega)).mono ?_; rintro e w6 ⟨vo2, rfl, ro2, bb⟩; have bb0 := bb; (try (replace N_a := Lib.hid (Box4.below N_a.out (nextw (by first | exact ⟨rfl, rfl, rfl, Nat.le_refl _, fun _ _ => rfl⟩ | exact below_push1 rfl rfl rfl rfl | exact below_push2 rfl rfl rfl rfl) bb) N_a.out.lt))); (try (replace N_b := Lib.hid (Box4.below N_b.out (nextw (by first | exact ⟨rfl, rfl, rfl, Nat.le_refl _, fun _ _ => rfl⟩ | exact below_push1 rfl rfl rfl rfl | exact below_push2 rfl rfl rfl rfl) bb) N_b.out.lt))); (first | (have h2 := box_new2Q (w := w5) bb0 rfl; have N_c := Lib.hid h2.1; have N_d := Lib.hid h2.2; clear h2) | (have h2 := box_new1Q (w := w5) bb0 rfl; have N_c := Lib.hid h2; clear h2) | skip); clear bb0; replace bb := nextw (w0 := w5) (by first | exact ⟨rfl, rfl, rfl, Nat.le_refl _, fun _ _ => rfl⟩ | exact below_push1 rfl rfl rfl rfl | exact below_push2 rfl rfl rfl rfl) bb; replace B_x := Lib.hid (BoxR.below B_x.out bb B_x.out.lt); replace V_xn := Lib.hid (Rd.below V_xn.out bb); replace V_xd := Lib.hid (Rd.below V_xd.out bb); replace V_o1 := Lib.hid (Qc.below V_o1.out bb); replace HB := Lib.hid (nextw HB.out bb); replace HC := Lib.hid (nextw HC.out bb); clear bb; replace ro2 := Lib.hid ro2; have V_o2 := ro2; clear ro2; clear c0x c1x c2x c3x; have c0x := B_x.out.c0; have c1x := B_x.out.c1; have c2x := B_x.out.c2; have c3x := B_x.out.c3; have zx2 := B_x.out.lt; have hle2 := HC.out.size; (try (have LWa1 := Lib.hid N_a.out.lt)); (try (have LWb1 := Lib.hid N_b.out.lt)); (try (have LWc1 := Lib.hid N_c.out.lt)); (try (have LWd1 := Lib.hid N_d.out.lt)); have tk2x2 : True := trivial)
      | (clear tk2x2; go_at_call 19; refine (Turn_r (j := 4) (Fd.mk (Rd.below V_xn.out (by first | exact ⟨rfl, rfl, rfl, Nat.le_refl _, fun _ _ => rfl⟩ | exact below_push1 rfl rfl rfl rfl | exact below_push2 rfl rfl rfl rfl)) (Rd.below V_xd.out (by first | exact ⟨rfl, rfl, rfl, Nat.le_refl _, fun _ _ => rfl⟩ | exact below_push1 rfl rfl rfl rfl | exact below_push2 rfl rfl rfl rfl))) (Qc.qd (Qc.below V_o1.out (by first | exact ⟨rfl, rfl, rfl, Nat.le_refl _, fun _ _ => rfl⟩ | exact below_push1 rfl rfl rfl rfl | exact below_push2 rfl rfl rfl rfl))) (Qc.qd (Qc.below V_o2.out (by first | exact ⟨rfl, rfl, rfl, Nat.le_refl _, fun _ _ => rfl⟩ | exact below_push1 rfl rfl rfl rfl | exact below_push2 rfl rfl rfl rfl))) (by omega) (by omega)).mono ?_; rintro e w7 ⟨vX, vY, rfl, rX, rY, bb⟩; have bb0 := bb; (try (replace N_a := Lib.hid (Box4.below N_a.out (nextw (by first | exact ⟨rfl, rfl, rfl, Nat.le_refl _, fun _ _ => rfl⟩ | exact below_push1 rfl rfl rfl rfl | exact below_push2 rfl rfl rfl rfl) bb) N_a.out.lt))); (try (replace N_b := Lib.hid (Box4.below N_b.out (nextw (by first | exact ⟨rfl, rfl, rfl, Nat.le_refl _, fun _ _ => rfl⟩ | exact below_push1 rfl rfl rfl rfl | exact below_push2 rfl rfl rfl rfl) bb) N_b.out.lt))); (try (replace N_c := Lib.hid (Box4.below N_c.out (nextw (by first | exact ⟨rfl, rfl, rfl, Nat.le_refl _, fun _ _ => rfl⟩ | exact below_push1 rfl rfl rfl rfl | exact below_push2 rfl rfl rfl rfl) bb) N_c.out.lt))); (try (replace N_d := Lib.hid (Box4.below N_d.out (nextw (by first | exact ⟨rfl, rfl, rfl, Nat.le_refl _, fun _ _ => rfl⟩ | exact below_push1 rfl rfl rfl rfl | exact below_push2 rfl rfl rfl rfl) bb) N_d.out.lt))); (first | (have h2 := box_new2Q (w := w6) bb0 rfl; have N_e := Lib.hid h2.1; have N_f := Lib.hid h2.2; clear h2) | (have h2 := box_new1Q (w := w6) bb0 rfl; have N_e := Lib.hid h2; clear h2) | skip); clear bb0; replace bb := nextw (w0 := w6) (by first | exact ⟨rfl, rfl, rfl, Nat.le_refl _, fun _ _ => rfl⟩ | exact below_push1 rfl rfl rfl rfl | exact below_push2 rfl rfl rfl rfl) bb; clear V_xn V_xd V_o1 V_o2; replace B_x := Lib.hid (BoxR.below B_x.out bb B_x.out.lt); replace HB := Lib.hid (nextw HB.out bb); replace HC := Lib.hid (nextw HC.out bb); clear bb; replace rX := Lib.hid rX; have V_X := rX; clear rX; replace rY := Lib.hid rY; have V_Y := rY; clear rY; obtain ⟨sX, AX, kX, cX, tX, CX, lX, dX, rfl⟩ := V_X.out.shape; obtain ⟨sY, AY, kY, cY, tY, CY, lY, dY, rfl⟩ := V_Y.out.shape; clear c0x c1x c2x c3x; have c0x := B_x.out.c0; have c1x := B_x.out.c1; have c2x := B_x.out.c2; have c3x := B_x.out.c3; have zx3 := B_x.out.lt; have hle3 := HC.out.size; (try (have c0a := N_a.out.c0; have c1a := N_a.out.c1; have c2a := N_a.out.c2; have c3a := N_a.out.c3; have f0a := N_a.out.f0; have f1a := N_a.out.f1; have f2a := N_a.out.f2; have f3a := N_a.out.f3)); (try (have c0b := N_b.out.c0; have c1b := N_b.out.c1; have c2b := N_b.out.c2; have c3b := N_b.out.c3; have f0b := N_b.out.f0; have f1b := N_b.out.f1; have f2b := N_b.out.f2; have f3b := N_b.out.f3)); (try (have c0c := N_c.out.c0; have c1c := N_c.out.c1; have c2c := N_c.out.c2; have c3c := N_c.out.c3; have f0c := N_c.out.f0; have f1c := N_c.out.f1; have f2c := N_c.out.f2; have f3c := N_c.out.f3)); (try (have c0d := N_d.out.c0; have c1d := N_d.out.c1; have c2d := N_d.out.c2; have c3d := N_d.out.c3; have f0d := N_d.out.f0; have f1d := N_d.out.f1; have f2d := N_d.out.f2; have f3d := N_d.out.f3)); (try (have c0e := N_e.out.c0; have c1e := N_e.out.c1; have c2e := N_e.out.c2; have c3e := N_e.out.c3; have f0e := N_e.out.f0; have f1e := N_e.out.f1; have f2e := N_e.out.f2; have f3e := N_e.out.f3)); (try (have c0f := N_f.out.c0; have c1f := N_f.out.c1; have c2f := N_f.out.c2; have c3f := N_f.out.c3; have f0f := N_f.out.f0; have f1f := N_f.out.f1; have f2f := N_f.out.f2; have f3f := N_f.out.f3)); (try (have la := N_a.out.lt; have lna := Nat.ne_of_lt la; have lma := Nat.ne_of_gt la)); (try (have lb := N_b.out.lt; have lnb := Nat.ne_of_lt lb; have lmb := Nat.ne_of_gt lb)); (try (have lc := N_c.out.lt; have lnc := Nat.ne_of_lt lc; have lmc := Nat.ne_of_gt lc)); (try (have ld := N_d.out.lt; have lnd := Nat.ne_of_lt ld; have lmd := Nat.ne_of_gt ld)); (try (have le := N_e.out.lt; have lne := Nat.ne_of_lt le; have lme := Nat.ne_of_gt le)); (try (have lf := N_f.out.lt; have lnf := Nat.ne_of_lt lf; have lmf := Nat.ne_of_gt lf)); (try (have lba0 := Nat.ne_of_lt LWa0.out; have lca0 := Nat.ne_of_gt LWa0.out)); (try (have lbb0 := Nat.ne_of_lt LWb0.out; have lcb0 := Nat.ne_of_gt LWb0.out)); (try (have lba1 := Nat.ne_of_lt LWa1.out; have lca1 := Nat.ne_of_gt LWa1.out)); (try (have lbb1 := Nat.ne_of_lt LWb1.out; have lcb1 := Nat.ne_of_gt LWb1.out)); (try (have lbc1 := Nat.ne_of_lt LWc1.out; have lcc1 := Nat.ne_of_gt LWc1.out)); (try (have lbd1 := Nat.ne_of_lt LWd1.out; have lcd1 := Nat.ne_of_gt LWd1.out)); have tk2x3 : True := trivial))) | fail
      all_goals go_wp2_with fail
      all_goals go_meet
      all_goals (first | (with_reducible exact fin1Q V_X.out V_Y.out HC.out (keptQ_Qc _ _) (keptQ_Qc _ _)) | (with_reducible exact fin1bQ V_X.out V_Y.out HC.out (keptQ_Qc _ _) (keptQ_Qc _ _)) | (with_reducible exact fin2xQ V_X.out V_Y.out HC.out (keptQ_Qc _ _) (keptQ_Qc _ _) N_a.out (by omega)) | (with_reducible exact fin2bxQ V_X.out V_Y.out HC.out (keptQ_Qc _ _) (keptQ_Qc _ _) N_a.out (by omega)) | (with_reducible exact fin2xQ V_X.out V_Y.out HC.out (keptQ_Qc _ _) (keptQ_Qc _ _) N_c.out (by omega)) | (with_reducible exact fin2bxQ V_X.out V_Y.out HC.out (keptQ_Qc _ _) (keptQ_Qc _ _) N_c.out (by omega)) | (with_reducible exact fin2xQ V_X.out V_Y.out HC.out (keptQ_Qc _ _) (keptQ_Qc _ _) N_e.out (by omega)) | (with_reducible exact fin2bxQ V_X.out V_Y.out HC.out (keptQ_Qc _ _) (keptQ_Qc _ _) N_e.out (by omega)) | (with_reducible exact fin3xQ V_X.out V_Y.out HC.out (keptQ_Qc _ _) (keptQ_Qc _ _) N_a.out N_b.out (by omega) (by omega) (by omega)) | (with_reducible exact fin3xQ V_X.out V_Y.out HC.out (keptQ_Qc _ _) (keptQ_Qc _ _) N_a.out N_c.out (by omega) (by omega) (by omega)) | (with_reducible exact fin3xQ V_X.out V_Y.out HC.out (keptQ_Qc _ _) (keptQ_Qc _ _) N_a.out N_e.out (by omega) (by omega) (by omega)) | (with_reducible exact fin3xQ V_X.out V_Y.out HC.out (keptQ_Qc _ _) (keptQ_Qc _ _) N_b.out N_c.out (by omega) (by omega) (by omega)) | (with_reducible exact fin3xQ V_X.out V_Y.out HC.out (keptQ_Qc _ _) (keptQ_Qc _ _) N_b.out N_e.out (by omega) (by omega) (by omega)) | (with_reducible exact fin3xQ V_X.out V_Y.out HC.out (keptQ_Qc _ _) (keptQ_Qc _ _) N_c.out N_d.out (by omega) (by omega) (by omega)) | (with_reducible exact fin3xQ V_X.out V_Y.out HC.out (keptQ_Qc _ _) (keptQ_Qc _ _) N_c.out N_e.out (by omega) (by omega) (by omega)) | (with_reducible exact fin3xQ V_X.out V_Y.out HC.out (keptQ_Qc _ _) (keptQ_Qc _ _) N_d.out N_e.out (by omega) (by omega) (by omega)) | (with_reducible exact fin3xQ V_X.out V_Y.out HC.out (keptQ_Qc _ _) (keptQ_Qc _ _) N_e.out N_f.out (by omega) (by omega) (by omega)) | (with_reducible exact fin3xQ V_X.out V_Y.out HC.out (keptQ_Qc _ _) (keptQ_Qc _ _) N_b.out N_a.out (by omega) (by omega) (by omega)) | (with_reducible exact fin3xQ V_X.out V_Y.out HC.out (keptQ_Qc _ _) (keptQ_Qc _ _) N_c.out N_a.out (by omega) (by omega) (by omega)) | (with_reducible exact fin3xQ V_X.out V_Y.out HC.out (keptQ_Qc _ _) (keptQ_Qc _ _) N_e.out N_a.out (by omega) (by omega) (by omega)) | (with_reducible exact fin3xQ V_X.out V_Y.out HC.out (keptQ_Qc _ _) (keptQ_Qc _ _) N_c.out N_b.out (by omega) (by omega) (by omega)) | (with_reducible exact fin3xQ V_X.out V_Y.out HC.out (keptQ_Qc _ _) (keptQ_Qc _ _) N_e.out N_b.out (by omega) (by omega) (by omega)) | (with_reducible exact fin3xQ V_X.out V_Y.out HC.out (keptQ_Qc _ _) (keptQ_Qc _ _) N_d.out N_c.out (by omega) (by omega) (by omega)) | (with_reducible exact fin3xQ V_X.out V_Y.out HC.out (keptQ_Qc _ _) (keptQ_Qc _ _) N_e.out N_c.out (by omega) (by omega) (by omega)) | (with_reducible exact fin3xQ V_X.out V_Y.out HC.out (keptQ_Qc _ _) (keptQ_Qc _ _) N_e.out N_d.out (by omega) (by omega) (by omega)) | (with_reducible exact fin3xQ V_X.out V_Y.out HC.out (keptQ_Qc _ _) (keptQ_Qc _ _) N_f.out N_e.out (by omega) (by omega) (by omega)))
    case rest =>
      rename World => wcX
      obtain ⟨pX, pY, sX, AX, kX, cX, tX, CX, lX, dX, sY, AY, kY, cY, tY, CY, lY, dY, rfl, rfl, hneX, hgeX, hgeY, bqX, bqY, vqX, vqY, bb⟩ := hcut
      replace B_x := Lib.hid (BoxR.below B_x.out bb B_x.out.lt)
      replace B_c := Lib.hid (Box4.below B_c.out bb B_c.out.lt)
      replace B_s := Lib.hid (Box4.below B_s.out bb B_s.out.lt)
      replace V_xn := Lib.hid (Rd.below V_xn.out bb)
      replace V_xd := Lib.hid (Rd.below V_xd.out bb)
      replace V_tab := Lib.hid (tab_below V_tab.out bb)
      replace V_c := Lib.hid (Qc.below V_c.out bb)
      replace V_s := Lib.hid (Qc.below V_s.out bb)
      replace HB := Lib.hid (nextw HB.out bb)
      clear bb hneX hgeX hgeY
      have B_X := Lib.hid bqX
      have B_Y := Lib.hid bqY
      have V_X := Lib.hid vqX
      have V_Y := Lib.hid vqY
      clear bqX bqY vqX vqY
      clear V_xn V_xd V_tab B_x
      have c0c := B_c.out.c0
      have c1c := B_c.out.c1
      have c2c := B_c.out.c2
      have c3c := B_c.out.c3
      have c0s := B_s.out.c0
      have c1s := B_s.out.c1
      have c2s := B_s.out.c2
      have c3s := B_s.out.c3
      go_upto_region 5 with fail
      go_cut [7] (fun a wx => OneQ wcX (fun w v => Qc w v (cosQ px qx * cosQ px qx + sinQ px qx * sinQ px qx) (4 * jx + 11 + (4 * jx + 11) + 2 + (4 * jx + 11 + (4 * jx + 11) + 2) + 1)) a wx)
      clear c0c c1c c2c c3c c0s c1s c2s c3s
      case first =>
        clear V_X V_Y B_X B_Y
        have HC := Lib.hid (Below.refl wcX.heap.size wcX)
        have zc0 := B_c.out.lt
        have zs0 := B_s.out.lt
        have c0c := B_c.out.c0
        have c1c := B_c.out.c1
        have c2c := B_c.out.c2
        have c3c := B_c.out.c3
        have c0s := B_s.out.c0
        have c1s := B_s.out.c1
        have c2s := B_s.out.c2
        have c3s := B_s.out.c3
        have tk3x0 : True := trivial
        first | (go_region_held3 (fun w' => w'.cell? ⟨pc, 0, none⟩ = some (.bool sc) ∧ w'.cell? ⟨pc, 1, none⟩ = some (.slice Ac kc cc) ∧ w'.cell? ⟨pc, 2, none⟩ = some (.bool tc) ∧ w'.cell? ⟨pc, 3, none⟩ = some (.slice Cc lc dc) ∧ w'.cell? ⟨ps, 0, none⟩ = some (.bool ss) ∧ w'.cell? ⟨ps, 1, none⟩ = some (.slice As ks cs) ∧ w'.cell? ⟨ps, 2, none⟩ = some (.bool ts) ∧ w'.cell? ⟨ps, 3, none⟩ = some (.slice Cs ls ds)) (((try dsimp only); (repeat' apply And.intro) <;> (first | (with_reducible assumption) | ((repeat (first | (with_reducible refine Eq.trans (cell_drew1 _ _) ?_) | (with_reducible refine Eq.trans (World.cell?_alloc_lt _ _ _ (by first | (dsimp only; omega) | (simp only [World.size_alloc, World.size_setCell]; omega))) ?_) | (with_reducible refine Eq.trans (cell_set4 (by omega) _ _ _ _) ?_))); with_reducible assumption) | assumption | go_keep)))
    (first
      | (clear tk3x0; go_at_call 22; refine (Mul_q (Qc.qd (Qc.below V_c.out (by first | exact ⟨rfl, rfl, rfl, Nat.le_refl _, fun _ _ => rfl⟩ | exact below_push1 rfl rfl rfl rfl | exact below_push2 rfl rfl rfl rfl))) (Qc.qd (Qc.below V_c.out (by first | exact ⟨rfl, rfl, rfl, Nat.le_refl _, fun _ _ => rfl⟩ | exact below_push1 rfl rfl rfl rfl | exact below_push2 rfl rfl rfl rfl))) (by omega) (by omega)).mono ?_; rintro e w8 ⟨vm1, rfl, rm1, bb⟩; have bb0 := bb; (first | (have h2 := box_new2Q (w := wcX) bb0 rfl; have N_a := Lib.hid h2.1; have N_b := Lib.hid h2.2; clear h2) | (have h2 := box_new1Q (w := wcX) bb0 rfl; have N_a := Lib.hid h2; clear h2) | skip); clear bb0; replace bb := nextw (w0 := wcX) (by first | exact ⟨rfl, rfl, rfl, Nat.le_refl _, fun _ _ => rfl⟩ | exact below_push1 rfl rfl rfl rfl | exact below_push2 rfl rfl rfl rfl) bb; clear V_c; replace B_c := Lib.hid (Box4.below B_c.out bb B_c.out.lt); replace B_s := Lib.hid (Box4.below B_s.out bb B_s.out.lt); replace V_s := Lib.hid (Qc.below V_s.out bb); replace HB := Lib.hid (nextw HB.out bb); replace HC := Lib.hid (nextw HC.out bb); clear bb; replace rm1 := Lib.hid rm1; have V_m1 := rm1; clear rm1; clear c0c c1c c2c c3c c0s c1s c2s c3s; have c0c := B_c.out.c0; have c1c := B_c.out.c1; have c2c := B_c.out.c2; have c3c := B_c.out.c3; have c0s := B_s.out.c0; have c1s := B_s.out.c1; have c2s := B_s.out.c2; have c3s := B_s.out.c3; have zc1 := B_c.out.lt; have zs1 := B_s.out.lt; have hle1 := HC.out.size; (try (have LWa0 := Lib.hid N_a.out.lt)); (try (have LWb0 := Lib.hid N_b.out.lt)); have tk3x1 : True := trivial)
      | (clear tk3x1; go_at_call 22; refine (Mul_q (Qc.qd (Qc.below V_s.out (by first | exact ⟨rfl, rfl, rfl, Nat.le_refl _, fun _ _ => rfl⟩ | exact below_push1 rfl rfl rfl rfl | exact below_push2 rfl rfl rfl rfl))) (Qc.qd (Qc.below V_s.out (by first | exact ⟨rfl, rfl, rfl, Nat.le_refl _, fun _ _ => rfl⟩ | exact below_push1 rfl rfl rfl rfl | exact below_push2 rfl rfl rfl rfl))) (by omega) (by omega)).mono ?_; rintro e w9 ⟨vm2, rfl, rm2, bb⟩; have bb0 := bb; (try (replace N_a := Lib.hid (Box4.below N_a.out (nextw (by first | exact ⟨rfl, rfl, rfl, Nat.le_refl _, fun _ _ => rfl⟩ | exact below_push1 rfl rfl rfl rfl | exact below_push2 rfl rfl rfl rfl) bb) N_a.out.lt))); (try (replace N_b := Lib.hid (Box4.below N_b.out (nextw (by first | exact ⟨rfl, rfl, rfl, Nat.le_refl _, fun _ _ => rfl⟩ | exact below_push1 rfl rfl rfl rfl | exact below_push2 rfl rfl rfl rfl) bb) N_b.out.lt))); (first | (have h2 := box_new2Q (w := w8) bb0 rfl; have N_c := Lib.hid h2.1; have N_d := Lib.hid h2.2; clear h2) | (have h2 := box_new1Q (w := w8) bb0 rfl; have N_c := Lib.hid h2; clear h2) | skip); clear bb0; replace bb := nextw (w0 := w8) (by first | exact ⟨rfl, rfl, rfl, Nat.le_refl _, fun _ _ => rfl⟩ | exact below_push1 rfl rfl rfl rfl | exact below_push2 rfl rfl rfl rfl) bb; clear V_s; replace B_c := Lib.hid (Box4.below B_c.out bb B_c.out.lt); replace B_s := Lib.hid (Box4.below B_s.out bb B_s.out.lt); replace V_m1 := Lib.hid (Qc.below V_m1.out bb); replace HB := Lib.hid (nextw HB.out bb); replace HC := Lib.hid (nextw HC.out bb); clear bb; replace rm2 := Lib.hid rm2; have V_m2 := rm2; clear rm2; clear c0c c1c c2c c3c c0s c1s c2s c3s; have c0c := B_c.out.c0; have c1c := B_c.out.c1; have c2c := B_c.out.c2; have c3c := B_c.out.c3; have c0s := B_s.out.c0; have c1s := B_s.out.c1; have c2s := B_s.out.c2; have c3s := B_s.out.c3; have zc2 := B_c.out.lt; have zs2 := B_s.out.lt; have hle2 := HC.out.size; (try (have LWa1 := Lib.hid N_a.out.lt)); (try (have LWb1 := Lib.hid N_b.out.lt)); (try (have LWc1 := Lib.hid N_c.out.lt)); (try (have LWd1 := Lib.hid N_d.out.lt)); have tk3x2 : True := trivial)
      | (clear tk3x2; go_at_call 21; refine (Add_qt (Qc.qd (Qc.below V_m1.out (by first | exact ⟨rfl, rfl, rfl, Nat.le_refl _, fun _ _ => rfl⟩ | exact below_push1 rfl rfl rfl rfl | exact below_push2 rfl rfl rfl rfl))) (Qc.qd (Qc.below V_m2.out (by first | exact ⟨rfl, rfl, rfl, Nat.le_refl _, fun _ _ => rfl⟩ | exact below_push1 rfl rfl rfl rfl | exact below_push2 rfl rfl rfl rfl))) (by omega) (by omega) (by omega) (by omega)).mono ?_; rintro e w10 ⟨vS, rfl, rS, bb⟩; have bb0 := bb; (try (replace N_a := Lib.hid (Box4.below N_a.out (nextw (by first | exact ⟨rfl, rfl, rfl, Nat.le_refl _, fun _ _ => rfl⟩ | exact below_push1 rfl rfl rfl rfl | exact below_push2 rfl rfl rfl rfl) bb) N_a.out.lt))); (try (replace N_b := Lib.hid (Box4.below N_b.out (nextw (by first | exact ⟨rfl, rfl, rfl, Nat.le_refl _, fun _ _ => rfl⟩ | exact below_push1 rfl rfl rfl rfl | exact below_push2 rfl rfl rfl rfl) bb) N_b.out.lt))); (try (replace N_c := Lib.hid (Box4.below N_c.out (nextw (by first | exact ⟨rfl, rfl, rfl, Nat.le_refl _, fun _ _ => rfl⟩ | exact below_push1 rfl rfl rfl rfl | exact below_push2 rfl rfl rfl rfl) bb) N_c.out.lt))); (try (replace N_d := Lib.hid (Box4.below N_d.out (nextw (by first | exact ⟨rfl, rfl, rfl, Nat.le_refl _, fun _ _ => rfl⟩ | exact below_push1 rfl rfl rfl rfl | exact below_push2 rfl rfl rfl rfl) bb) N_d.out.lt))); (first | (have h2 := box_new2Q (w := w9) bb0 rfl; have N_e := Lib.hid h2.1; have N_f := Lib.hid h2.2; clear h2) | (have h2 := box_new1Q (w := w9) bb0 rfl; have N_e := Lib.hid h2; clear h2) | skip); clear bb0; replace bb := nextw (w0 := w9) (by first | exact ⟨rfl, rfl, rfl, Nat.le_refl _, fun _ _ => rfl⟩ | exact below_push1 rfl rfl rfl rfl | exact below_push2 rfl rfl rfl rfl) bb; clear V_m1 V_m2; replace B_c := Lib.hid (Box4.below B_c.out bb B_c.out.lt); replace B_s := Lib.hid (Box4.below B_s.out bb B_s.out.lt); replace HB := Lib.hid (nextw HB.out bb); replace HC := Lib.hid (nextw HC.out bb); clear bb; replace rS := Lib.hid rS; have V_S := rS; clear rS; obtain ⟨sS, AS, kS, cS, tS, CS, lS, dS, rfl⟩ := V_S.out.shape; clear c0c c1c c2c c3c c0s c1s c2s c3s; have c0c := B_c.out.c0; have c1c := B_c.out.c1; have c2c := B_c.out.c2; have c3c := B_c.out.c3; have c0s := B_s.out.c0; have c1s := B_s.out.c1; have c2s := B_s.out.c2; have c3s := B_s.out.c3; have zc3 := B_c.out.lt; have zs3 := B_s.out.lt; have hle3 := HC.out.size; (try (have c0a := N_a.out.c0; have c1a := N_a.out.c1; have c2a := N_a.out.c2; have c3a := N_a.out.c3; have f0a := N_a.out.f0; have f1a := N_a.out.f1; have f2a := N_a.out.f2; have f3a := N_a.out.f3)); (try (have c0b := N_b.out.c0; have c1b := N_b.out.c1; have c2b := N_b.out.c2; have c3b := N_b.out.c3; have f0b := N_b.out.f0; have f1b := N_b.out.f1; have f2b := N_b.out.f2; have f3b := N_b.out.f3)); (try (have c0c := N_c.out.c0; have c1c := N_c.out.c1; have c2c := N_c.out.c2; have c3c := N_c.out.c3; have f0c := N_c.out.f0; have f1c := N_c.out.f1; have f2c := N_c.out.f2; have f3c := N_c.out.f3)); (try (have c0d := N_d.out.c0; have c1d := N_d.out.c1; have c2d := N_d.out.c2; have c3d := N_d.out.c3; have f0d := N_d.out.f0; have f1d := N_d.out.f1; have f2d := N_d.out.f2; have f3d := N_d.out.f3)); (try (have c0e := N_e.out.c0; have c1e := N_e.out.c1; have c2e := N_e.out.c2; have c3e := N_e.out.c3; have f0e := N_e.out.f0; have f1e := N_e.out.f1; have f2e := N_e.out.f2; have f3e := N_e.out.f3)); (try (have c0f := N_f.out.c0; have c1f := N_f.out.c1; have c2f := N_f.out.c2; have c3f := N_f.out.c3; have f0f := N_f.out.f0; have f1f := N_f.out.f1; have f2f := N_f.out.f2; have f3f := N_f.out.f3)); (try (have la := N_a.out.lt; have lna := Nat.ne_of_lt la; have lma := Nat.ne_of_gt la)); (try (have lb := N_b.out.lt; have lnb := Nat.ne_of_lt lb; have lmb := Nat.ne_of_gt lb)); (try (have lc := N_c.out.lt; have lnc := Nat.ne_of_lt lc; have lmc := Nat.ne_of_gt lc)); (try (have ld := N_d.out.lt; have lnd := Nat.ne_of_lt ld; have lmd := Nat.ne_of_gt ld)); (try (have le := N_e.out.lt; have lne := Nat.ne_of_lt le; have lme := Nat.ne_of_gt le)); (try (have lf := N_f.out.lt; have lnf := Nat.ne_of_lt lf; have lmf := Nat.ne_of_gt lf)); (try (have lba0 := Nat.ne_of_lt LWa0.out; have lca0 := Nat.ne_of_gt LWa0.out)); (try (have lbb0 := Nat.ne_of_lt LWb0.out; have lcb0 := Nat.ne_of_gt LWb0.out)); (try (have lba1 := Nat.ne_of_lt LWa1.out; have lca1 := Nat.ne_of_gt LWa1.out)); (try (have lbb1 := Nat.ne_of_lt LWb1.out; have lcb1 := Nat.ne_of_gt LWb1.out)); (try (have lbc1 := Nat.ne_of_lt LWc1.out; have lcc1 := Nat.ne_of_gt LWc1.out)); (try (have lbd1 := Nat.ne_of_lt LWd1.out; have lcd1 := Nat.ne_of_gt LWd1.out)); have tk3x3 : True := trivial))) | fail
        all_goals go_wp2_with fail
        all_goals go_meet
        all_goals (first | (with_reducible exact one1Q V_S.out HC.out (keptQ_Qc _ _)) | (with_reducible exact one2xQ V_S.out HC.out (keptQ_Qc _ _) N_a.out (by omega)) | (with_reducible exact one2xQ V_S.out HC.out (keptQ_Qc _ _) N_c.out (by omega)) | (with_reducible exact one2xQ V_S.out HC.out (keptQ_Qc _ _) N_e.out (by omega)))
      case rest =>
        rename World => wcS
        obtain ⟨pS, sS, AS, kS, cS, tS, CS, lS, dS, rfl, hgeS, bqS, vqS, bb⟩ := hcut
        replace B_c := Lib.hid (Box4.below B_c.out bb B_c.out.lt)
        replace B_s := Lib.hid (Box4.below B_s.out bb B_s.out.lt)
        replace B_X := Lib.hid (Box4.below B_X.out bb B_X.out.lt)
        replace B_Y := Lib.hid (Box4.below B_Y.out bb B_Y.out.lt)
        replace V_c := Lib.hid (Qc.below V_c.out bb)
        replace V_s := Lib.hid (Qc.below V_s.out bb)
        replace V_X := Lib.hid (Qc.below V_X.out bb)
        replace V_Y := Lib.hid (Qc.below V_Y.out bb)
        replace HB := Lib.hid (nextw HB.out bb)
        clear bb hgeS
        have B_S := Lib.hid bqS
        have V_S := Lib.hid vqS
        clear bqS vqS
        have c0S := B_S.out.c0
        have c1S := B_S.out.c1
        have c2S := B_S.out.c2
        have c3S := B_S.out.c3
        have c0X := B_X.out.c0
        have c1X := B_X.out.c1
        have c2X := B_X.out.c2
        have c3X := B_X.out.c3
        have c0c := B_c.out.c0
        have c1c := B_c.out.c1
        have c2c := B_c.out.c2
        have c3c := B_c.out.c3
        have c0Y := B_Y.out.c0
        have c1Y := B_Y.out.c1
        have c2Y := B_Y.out.c2
        have c3Y := B_Y.out.c3
        have c0s := B_s.out.c0
        have c1s := B_s.out.c1
        have c2s := B_s.out.c2
        have c3s := B_s.out.c3
        go_wp2
        clear c0S c1S c2S c3S c0X c1X c2X c3X c0c c1c c2c c3c c0Y c1Y c2Y c3Y c0s c1s c2s c3s
        have c0S := B_S.out.c0
        have c1S := B_S.out.c1
        have c2S := B_S.out.c2
        have c3S := B_S.out.c3
        have c0X := B_X.out.c0
        have c1X := B_X.out.c1
        have c2X := B_X.out.c2
        have c3X := B_X.out.c3
        have c0c := B_c.out.c0
        have c1c := B_c.out.c1
        have c2c := B_c.out.c2
        have c3c := B_c.out.c3
        have c0Y := B_Y.out.c0
        have c1Y := B_Y.out.c1
        have c2Y := B_Y.out.c2
        have c3Y := B_Y.out.c3
        have c0s := B_s.out.c0
        have c1s := B_s.out.c1
        have c2s := B_s.out.c2
        have c3s := B_s.out.c3
        have tk4x0 : True := trivial
        first | (go_region_held3 (fun w' => w'.cell? ⟨pS, 0, none⟩ = some (.bool sS) ∧ w'.cell? ⟨pS, 1, none⟩ = some (.slice AS kS cS) ∧ w'.cell? ⟨pS, 2, none⟩ = some (.bool tS) ∧ w'.cell? ⟨pS, 3, none⟩ = some (.slice CS lS dS) ∧ w'.cell? ⟨pX, 0, none⟩ = some (.bool sX) ∧ w'.cell? ⟨pX, 1, none⟩ = some (.slice AX kX cX) ∧ w'.cell? ⟨pX, 2, none⟩ = some (.bool tX) ∧ w'.cell? ⟨pX, 3, none⟩ = some (.slice CX lX dX) ∧ w'.cell? ⟨pc, 0, none⟩ = some (.bool sc) ∧ w'.cell? ⟨pc, 1, none⟩ = some (.slice Ac kc cc) ∧ w'.cell? ⟨pc, 2, none⟩ = some (.bool tc) ∧ w'.cell? ⟨pc, 3, none⟩ = some (.slice Cc lc dc) ∧ w'.cell? ⟨pY, 0, none⟩ = some (.bool sY) ∧ w'.cell? ⟨pY, 1, none⟩ = some (.slice AY kY cY) ∧ w'.cell? ⟨pY, 2, none⟩ = some (.bool tY) ∧ w'.cell? ⟨pY, 3, none⟩ = some (.slice CY lY dY) ∧ w'.cell? ⟨ps, 0, none⟩ = some (.bool ss) ∧ w'.cell? ⟨ps, 1, none⟩ = some (.slice As ks cs) ∧ w'.cell? ⟨ps, 2, none⟩ = some (.bool ts) ∧ w'.cell? ⟨ps, 3, none⟩ = some (.slice Cs ls ds)) (((try dsimp only); (repeat' apply And.intro) <;> (first | (with_reducible assumption) | ((repeat (first | (with_reducible refine Eq.trans (cell_drew1 _ _) ?_) | (with_reducible refine Eq.trans (cell_set4 (by omega) _ _ _ _) ?_))); with_reducible assumption) | assumption | go_keep)))
    (first
      | (clear tk4x0; go_at_call 20; refine (Of_q 1 1 (by omega) (by omega) (by omega) (by omega)).mono ?_; rintro e w11 ⟨vo1, rfl, ro1, bb⟩; replace bb := nextw (w0 := wcS) (by exact ⟨rfl, rfl, rfl, Nat.le_refl _, fun _ _ => rfl⟩) bb; replace B_c := Lib.hid (Box4.below B_c.out bb B_c.out.lt); replace B_s := Lib.hid (Box4.below B_s.out bb B_s.out.lt); replace B_X := Lib.hid (Box4.below B_X.out bb B_X.out.lt); replace B_Y := Lib.hid (Box4.below B_Y.out bb B_Y.out.lt); replace B_S := Lib.hid (Box4.below B_S.out bb B_S.out.lt); replace V_c := Lib.hid (Qc.below V_c.out bb); replace V_s := Lib.hid (Qc.below V_s.out bb); replace V_X := Lib.hid (Qc.below V_X.out bb); replace V_Y := Lib.hid (Qc.below V_Y.out bb); replace V_S := Lib.hid (Qc.below V_S.out bb); replace HB := Lib.hid (nextw HB.out bb); clear bb; replace ro1 := Lib.hid ro1; have V_o1 := ro1; clear ro1; clear c0S c1S c2S c3S c0X c1X c2X c3X c0c c1c c2c c3c c0Y c1Y c2Y c3Y c0s c1s c2s c3s; have c0S := B_S.out.c0; have c1S := B_S.out.c1; have c2S := B_S.out.c2; have c3S := B_S.out.c3; have c0X := B_X.out.c0; have c1X := B_X.out.c1; have c2X := B_X.out.c2; have c3X := B_X.out.c3; have c0c := B_c.out.c0; have c1c := B_c.out.c1; have c2c := B_c.out.c2; have c3c := B_c.out.c3; have c0Y := B_Y.out.c0; have c1Y := B_Y.out.c1; have c2Y := B_Y.out.c2; have c3Y := B_Y.out.c3; have c0s := B_s.out.c0; have c1s := B_s.out.c1; have c2s := B_s.out.c2; have c3s := B_s.out.c3; have tk4x1 : True := trivial)
      | (clear tk4x1; go_at_call 23; refine (Cmp_zero (Qc.qd (Qc.below V_S.out (by exact ⟨rfl, rfl, rfl, Nat.le_refl _, fun _ _ => rfl⟩))) (Qc.qd (Qc.below V_o1.out (by exact ⟨rfl, rfl, rfl, Nat.le_refl _, fun _ _ => rfl⟩))) (by omega) (by omega) (by rw [cs_one]; decide +kernel)).mono ?_; rintro e w12 ⟨rfl, bb⟩; replace bb := nextw (w0 := w11) (by exact ⟨rfl, rfl, rfl, Nat.le_refl _, fun _ _ => rfl⟩) bb; clear V_S V_o1; replace B_c := Lib.hid (Box4.below B_c.out bb B_c.out.lt); replace B_s := Lib.hid (Box4.below B_s.out bb B_s.out.lt); replace B_X := Lib.hid (Box4.below B_X.out bb B_X.out.lt); replace B_Y := Lib.hid (Box4.below B_Y.out bb B_Y.out.lt); replace B_S := Lib.hid (Box4.below B_S.out bb B_S.out.lt); replace V_c := Lib.hid (Qc.below V_c.out bb); replace V_s := Lib.hid (Qc.below V_s.out bb); replace V_X := Lib.hid (Qc.below V_X.out bb); replace V_Y := Lib.hid (Qc.below V_Y.out bb); replace HB := Lib.hid (nextw HB.out bb); clear bb; clear c0S c1S c2S c3S c0X c1X c2X c3X c0c c1c c2c c3c c0Y c1Y c2Y c3Y c0s c1s c2s c3s; have c0S := B_S.out.c0; have c1S := B_S.out.c1; have c2S := B_S.out.c2; have c3S := B_S.out.c3; have c0X := B_X.out.c0; have c1X := B_X.out.c1; have c2X := B_X.out.c2; have c3X := B_X.out.c3; have c0c := B_c.out.c0; have c1c := B_c.out.c1; have c2c := B_c.out.c2; have c3c := B_c.out.c3; have c0Y := B_Y.out.c0; have c1Y := B_Y.out.c1; have c2Y := B_Y.out.c2; have c3Y := B_Y.out.c3; have c0s := B_s.out.c0; have c1s := B_s.out.c1; have c2s := B_s.out.c2; have c3s := B_s.out.c3; have tk4x2 : True := trivial)
      | (clear tk4x2; go_at_call 24; refine (BRat_q (Qc.below V_X.out (by exact ⟨rfl, rfl, rfl, Nat.le_refl _, fun _ _ => rfl⟩)) (Qc.below V_c.out (by exact ⟨rfl, rfl, rfl, Nat.le_refl _, fun _ _ => rfl⟩)) (by omega) (by omega) (by rw [show Rat.divInt 1 1 = 1 by decide +kernel, show Rat.divInt 0 1 = 0 by decide +kernel, Rat.mul_one, Rat.mul_zero, Rat.sub_eq_add_neg, Rat.neg_zero, Rat.add_zero])).mono ?_; rintro e w13 ⟨rfl, bb⟩; replace bb := nextw (w0 := w12) (by exact ⟨rfl, rfl, rfl, Nat.le_refl _, fun _ _ => rfl⟩) bb; clear V_c V_X; replace B_c := Lib.hid (Box4.below B_c.out bb B_c.out.lt); replace B_s := Lib.hid (Box4.below B_s.out bb B_s.out.lt); replace B_X := Lib.hid (Box4.below B_X.out bb B_X.out.lt); replace B_Y := Lib.hid (Box4.below B_Y.out bb B_Y.out.lt); replace B_S := Lib.hid (Box4.below B_S.out bb B_S.out.lt); replace V_s := Lib.hid (Qc.below V_s.out bb); replace V_Y := Lib.hid (Qc.below V_Y.out bb); replace HB := Lib.hid (nextw HB.out bb); clear bb; clear c0S c1S c2S c3S c0X c1X c2X c3X c0c c1c c2c c3c c0Y c1Y c2Y c3Y c0s c1s c2s c3s; have c0S := B_S.out.c0; have c1S := B_S.out.c1; have c2S := B_S.out.c2; have c3S := B_S.out.c3; have c0X := B_X.out.c0; have c1X := B_X.out.c1; have c2X := B_X.out.c2; have c3X := B_X.out.c3; have c0c := B_c.out.c0; have c1c := B_c.out.c1; have c2c := B_c.out.c2; have c3c := B_c.out.c3; have c0Y := B_Y.out.c0; have c1Y := B_Y.out.c1; have c2Y := B_Y.out.c2; have c3Y := B_Y.out.c3; have c0s := B_s.out.c0; have c1s := B_s.out.c1; have c2s := B_s.out.c2; have c3s := B_s.out.c3; have tk4x3 : True := trivial)
      | (clear tk4x3; go_at_call 24; refine (BRat_q (Qc.below V_Y.out (by exact ⟨rfl, rfl, rfl, Nat.le_refl _, fun _ _ => rfl⟩)) (Qc.below V_s.out (by exact ⟨rfl, rfl, rfl, Nat.le_refl _, fun _ _ => rfl⟩)) (by omega) (by omega) (by rw [show Rat.divInt 1 1 = 1 by decide +kernel, show Rat.divInt 0 1 = 0 by decide +kernel, Rat.mul_one, Rat.mul_zero, Rat.add_zero])).mono ?_; rintro e w14 ⟨rfl, bb⟩; replace bb := nextw (w0 := w13) (by exact ⟨rfl, rfl, rfl, Nat.le_refl _, fun _ _ => rfl⟩) bb; clear V_s V_Y; replace B_c := Lib.hid (Box4.below B_c.out bb B_c.out.lt); replace B_s := Lib.hid (Box4.below B_s.out bb B_s.out.lt); replace B_X := Lib.hid (Box4.below B_X.out bb B_X.out.lt); replace B_Y := Lib.hid (Box4.below B_Y.out bb B_Y.out.lt); replace B_S := Lib.hid (Box4.below B_S.out bb B_S.out.lt); replace HB := Lib.hid (nextw HB.out bb); clear bb; clear c0S c1S c2S c3S c0X c1X c2X c3X c0c c1c c2c c3c c0Y c1Y c2Y c3Y c0s c1s c2s c3s; have c0S := B_S.out.c0; have c1S := B_S.out.c1; have c2S := B_S.out.c2; have c3S := B_S.out.c3; have c0X := B_X.out.c0; have c1X := B_X.out.c1; have c2X := B_X.out.c2; have c3X := B_X.out.c3; have c0c := B_c.out.c0; have c1c := B_c.out.c1; have c2c := B_c.out.c2; have c3c := B_c.out.c3; have c0Y := B_Y.out.c0; have c1Y := B_Y.out.c1; have c2Y := B_Y.out.c2; have c3Y := B_Y.out.c3; have c0s := B_s.out.c0; have c1s := B_s.out.c1; have c2s := B_s.out.c2; have c3s := B_s.out.c3; have tk4x4 : True := trivial))) | fail
        have HBo := HB.out
        go_wp2
        go_ret
        exact ⟨rfl, nextw HBo (by exact ⟨rfl, rfl, rfl, Nat.le_refl _, fun _ _ => rfl⟩)⟩

theorem Circle_any {sx : Bool} {Ax : Option Addr} {kx cx : Nat} {tx : Bool} {Cx : Option Addr} {lx dx : Nat} {px qx : Int} {jx : Nat} {w : World} (hx : Fd w (.agg #[.bool sx, .slice Ax kx cx, .bool tx, .slice Cx lx dx]) px qx jx) (htab : Tab10 w) (hjx : jx = max kx lx) (mx : kx ≤ 9223372036854775807 ∧ lx ≤ 9223372036854775807) :
    Calls Tryz.prog 4 #[.agg #[.bool sx, .slice Ax kx cx, .bool tx, .slice Cx lx dx]] w fun e w' => e = .returned (.bool true) ∧ Below w.heap.size w w' := by
  by_cases ex : kx ≤ 12 ∧ lx ≤ 12
  case neg => exact Circle_long0 hx htab  mx ex
  exact Circle_main hx htab ex.1 ex.2 (by omega)
end Go.Proofs.YtccndofafljaaaaGreatDoor
