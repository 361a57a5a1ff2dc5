/- Package rotation: Turn. -/
import Derived.Test.YtccndofafljaaaaGreatDoorRot4

set_option linter.unusedVariables false
set_option linter.unusedSimpArgs false

namespace Go.Proofs.YtccndofafljaaaaGreatDoor
open Go Go.RowKit Num

set_option maxRecDepth 100000 in
set_option maxHeartbeats 16000000 in
theorem Turn_r {v va vb : Value} {p q : Int} {ra rb : Rat} {k j : Nat} {w : World} (h : Fd w v p q k) (ha : Qd w va ra j) (hb : Qd w vb rb j) (f : k ≤ 200) (g : j ≤ 2000) :
    Calls Tryz.prog 19 #[v, va, vb] w fun e w' => ∃ x y, e = .returned (.tuple #[x, y]) ∧ Qc w' x (cosQ p q * ra - sinQ p q * rb) (8 * k + 2 * j + 27) ∧ Qc w' y (sinQ p q * ra + cosQ p q * rb) (8 * k + 2 * j + 27) ∧ Below w.heap.size w w' := by
  obtain ⟨sx, Ax, kx, cx, tx, Cx, lx, dx, rfl, hnx, hdx⟩ := h.shape
  have V_xn := Lib.hid hnx
  have V_xd := Lib.hid hdx
  clear h hnx hdx
  obtain ⟨sa, Aa, ka, ca, ta, Ca, la, da, rfl⟩ := ha.shape
  obtain ⟨sb, Ab, kb, cb, tb, Cb, lb, db, rfl⟩ := hb.shape
  have V_a := Lib.hid ha
  have V_b := Lib.hid hb
  clear ha hb
  have hb0 : Below w.heap.size w (((((w.alloc (.cells #[.bool sx, (.slice Ax kx cx), .bool tx, (.slice Cx lx dx)] 26)).alloc (.cells #[.bool sa, (.slice Aa ka ca), .bool ta, (.slice Ca la da)] 35)).alloc (.cells #[.bool sb, (.slice Ab kb cb), .bool tb, (.slice Cb lb db)] 35)).alloc (.cells #[.bool false, (.slice none 0 0), .bool false, (.slice none 0 0)] 35)).alloc (.cells #[.bool false, (.slice none 0 0), .bool false, (.slice none 0 0)] 35)) := (Below.alloc (Below.alloc (Below.alloc (Below.alloc (Below.alloc (Below.refl w.heap.size w) (by simp <;> omega) _) (by simp <;> omega) _) (by simp <;> omega) _) (by simp <;> omega) _) (by simp <;> omega) _)
  have B_x : BoxR (((((w.alloc (.cells #[.bool sx, (.slice Ax kx cx), .bool tx, (.slice Cx lx dx)] 26)).alloc (.cells #[.bool sa, (.slice Aa ka ca), .bool ta, (.slice Ca la da)] 35)).alloc (.cells #[.bool sb, (.slice Ab kb cb), .bool tb, (.slice Cb lb db)] 35)).alloc (.cells #[.bool false, (.slice none 0 0), .bool false, (.slice none 0 0)] 35)).alloc (.cells #[.bool false, (.slice none 0 0), .bool false, (.slice none 0 0)] 35)) (w.heap.size) sx (.slice Ax kx cx) tx (.slice Cx lx dx) := by have h := BoxR.alloc (BoxR.alloc (BoxR.alloc (BoxR.alloc (BoxR.new w sx (.slice Ax kx cx) tx (.slice Cx lx dx)) (.cells #[.bool sa, (.slice Aa ka ca), .bool ta, (.slice Ca la da)] 35)) (.cells #[.bool sb, (.slice Ab kb cb), .bool tb, (.slice Cb lb db)] 35)) (.cells #[.bool false, (.slice none 0 0), .bool false, (.slice none 0 0)] 35)) (.cells #[.bool false, (.slice none 0 0), .bool false, (.slice none 0 0)] 35); simpa using h
  replace B_x := Lib.hid B_x
  have B_a : Box4 (((((w.alloc (.cells #[.bool sx, (.slice Ax kx cx), .bool tx, (.slice Cx lx dx)] 26)).alloc (.cells #[.bool sa, (.slice Aa ka ca), .bool ta, (.slice Ca la da)] 35)).alloc (.cells #[.bool sb, (.slice Ab kb cb), .bool tb, (.slice Cb lb db)] 35)).alloc (.cells #[.bool false, (.slice none 0 0), .bool false, (.slice none 0 0)] 35)).alloc (.cells #[.bool false, (.slice none 0 0), .bool false, (.slice none 0 0)] 35)) (w.heap.size + 1) sa (.slice Aa ka ca) ta (.slice Ca la da) := by have h := Box4.alloc (Box4.alloc (Box4.alloc (Box4.new (w.alloc (.cells #[.bool sx, (.slice Ax kx cx), .bool tx, (.slice Cx lx dx)] 26)) sa (.slice Aa ka ca) ta (.slice Ca la da)) (.cells #[.bool sb, (.slice Ab kb cb), .bool tb, (.slice Cb lb db)] 35)) (.cells #[.bool false, (.slice none 0 0), .bool false, (.slice none 0 0)] 35)) (.cells #[.bool false, (.slice none 0 0), .bool false, (.slice none 0 0)] 35); simpa using h
  replace B_a := Lib.hid B_a
  have B_b : Box4 (((((w.alloc (.cells #[.bool sx, (.slice Ax kx cx), .bool tx, (.slice Cx lx dx)] 26)).alloc (.cells #[.bool sa, (.slice Aa ka ca), .bool ta, (.slice Ca la da)] 35)).alloc (.cells #[.bool sb, (.slice Ab kb cb), .bool tb, (.slice Cb lb db)] 35)).alloc (.cells #[.bool false, (.slice none 0 0), .bool false, (.slice none 0 0)] 35)).alloc (.cells #[.bool false, (.slice none 0 0), .bool false, (.slice none 0 0)] 35)) (w.heap.size + 1 + 1) sb (.slice Ab kb cb) tb (.slice Cb lb db) := by have h := Box4.alloc (Box4.alloc (Box4.new ((w.alloc (.cells #[.bool sx, (.slice Ax kx cx), .bool tx, (.slice Cx lx dx)] 26)).alloc (.cells #[.bool sa, (.slice Aa ka ca), .bool ta, (.slice Ca la da)] 35)) sb (.slice Ab kb cb) tb (.slice Cb lb db)) (.cells #[.bool false, (.slice none 0 0), .bool false, (.slice none 0 0)] 35)) (.cells #[.bool false, (.slice none 0 0), .bool false, (.slice none 0 0)] 35); simpa using h
  replace B_b := Lib.hid B_b
  have B_u : Box4 (((((w.alloc (.cells #[.bool sx, (.slice Ax kx cx), .bool tx, (.slice Cx lx dx)] 26)).alloc (.cells #[.bool sa, (.slice Aa ka ca), .bool ta, (.slice Ca la da)] 35)).alloc (.cells #[.bool sb, (.slice Ab kb cb), .bool tb, (.slice Cb lb db)] 35)).alloc (.cells #[.bool false, (.slice none 0 0), .bool false, (.slice none 0 0)] 35)).alloc (.cells #[.bool false, (.slice none 0 0), .bool false, (.slice none 0 0)] 35)) (w.heap.size + 1 + 1 + 1) false (.slice none 0 0) false (.slice none 0 0) := by have h := Box4.alloc (Box4.new (((w.alloc (.cells #[.bool sx, (.slice Ax kx cx), .bool tx, (.slice Cx lx dx)] 26)).alloc (.cells #[.bool sa, (.slice Aa ka ca), .bool ta, (.slice Ca la da)] 35)).alloc (.cells #[.bool sb, (.slice Ab kb cb), .bool tb, (.slice Cb lb db)] 35)) false (.slice none 0 0) false (.slice none 0 0)) (.cells #[.bool false, (.slice none 0 0), .bool false, (.slice none 0 0)] 35); simpa using h
  replace B_u := Lib.hid B_u
  have B_v : Box4 (((((w.alloc (.cells #[.bool sx, (.slice Ax kx cx), .bool tx, (.slice Cx lx dx)] 26)).alloc (.cells #[.bool sa, (.slice Aa ka ca), .bool ta, (.slice Ca la da)] 35)).alloc (.cells #[.bool sb, (.slice Ab kb cb), .bool tb, (.slice Cb lb db)] 35)).alloc (.cells #[.bool false, (.slice none 0 0), .bool false, (.slice none 0 0)] 35)).alloc (.cells #[.bool false, (.slice none 0 0), .bool false, (.slice none 0 0)] 35)) (w.heap.size + 1 + 1 + 1 + 1) false (.slice none 0 0) false (.slice none 0 0) := by have h := Box4.new ((((w.alloc (.cells #[.bool sx, (.slice Ax kx cx), .bool tx, (.slice Cx lx dx)] 26)).alloc (.cells #[.bool sa, (.slice Aa ka ca), .bool ta, (.slice Ca la da)] 35)).alloc (.cells #[.bool sb, (.slice Ab kb cb), .bool tb, (.slice Cb lb db)] 35)).alloc (.cells #[.bool false, (.slice none 0 0), .bool false, (.slice none 0 0)] 35)) false (.slice none 0 0) false (.slice none 0 0); simpa using h
  replace B_v := Lib.hid B_v
  replace V_xn := Lib.hid (Rd.below V_xn.out hb0)
  replace V_xd := Lib.hid (Rd.below V_xd.out hb0)
  replace V_a := Lib.hid (Qd.below V_a.out hb0)
  replace V_b := Lib.hid (Qd.below V_b.out hb0)
  have HB := Lib.hid hb0
  clear hb0
  have c0x := B_x.out.c0
  have c1x := B_x.out.c1
  have c2x := B_x.out.c2
  have c3x := B_x.out.c3
  have c0a := B_a.out.c0
  have c1a := B_a.out.c1
  have c2a := B_a.out.c2
  have c3a := B_a.out.c3
  have c0b := B_b.out.c0
  have c1b := B_b.out.c1
  have c2b := B_b.out.c2
  have c3b := B_b.out.c3
  have c0u := B_u.out.c0
  have c1u := B_u.out.c1
  have c2u := B_u.out.c2
  have c3u := B_u.out.c3
  have c0v := B_v.out.c0
  have c1v := B_v.out.c1
  have c2v := B_v.out.c2
  have c3v := B_v.out.c3
  go_enter Tryz.func19, Tryz.ntmps19
  go_wp2_with fail
  clear c0x c1x c2x c3x c0a c1a c2a c3a c0b c1b c2b c3b c0u c1u c2u c3u c0v c1v c2v c3v
  generalize ((((w.alloc (.cells #[.bool sx, (.slice Ax kx cx), .bool tx, (.slice Cx lx dx)] 26)).alloc (.cells #[.bool sa, (.slice Aa ka ca), .bool ta, (.slice Ca la da)] 35)).alloc (.cells #[.bool sb, (.slice Ab kb cb), .bool tb, (.slice Cb lb db)] 35)).alloc (.cells #[.bool false, (.slice none 0 0), .bool false, (.slice none 0 0)] 35)).alloc (.cells #[.bool false, (.slice none 0 0), .bool false, (.slice none 0 0)] 35) = W0 at *
  have c0x := B_x.out.c0
  have c1x := B_x.out.c1
  have c2x := B_x.out.c2
  have c3x := B_x.out.c3
  have Z1x := Lib.hid B_x.out.lt
  have Z2a := Lib.hid B_a.out.lt
  have Z3b := Lib.hid B_b.out.lt
  have Z4u := Lib.hid B_u.out.lt
  have Z5v := Lib.hid B_v.out.lt
  go_upto_region 1 with fail
  go_cut [8, 9] (fun a b wx => TwoQ W0 (fun w v => Qc w v (cosQ p q) (4 * k + 11)) (fun w v => Qc w v (sinQ p q) (4 * k + 11)) a b wx)
  clear c0x c1x c2x c3x
  case first =>
    clear V_a V_b B_a B_b B_u B_v
    have HC := Lib.hid (Below.refl W0.heap.size W0)
    have zx0 := B_x.out.lt
    have c0x := B_x.out.c0
    have c1x := B_x.out.c1
    have c2x := B_x.out.c2
    have c3x := B_x.out.c3
    have tk1x0 : True := trivial
    first | (go_region_held3 (fun w' => w'.cell? ⟨w.heap.size, 0, none⟩ = some (.bool sx) ∧ w'.cell? ⟨w.heap.size, 1, none⟩ = some (.slice Ax kx cx) ∧ w'.cell? ⟨w.heap.size, 2, none⟩ = some (.bool tx) ∧ w'.cell? ⟨w.heap.size, 3, none⟩ = some (.slice Cx lx dx)) (((try dsimp only); (repeat' apply And.intro) <;> (first | (with_reducible assumption) | ((repeat (first | (with_reducible refine Eq.trans (cell_drew1 _ _) ?_) | (with_reducible refine Eq.trans (World.cell?_alloc_lt _ _ _ (by first | (dsimp only; omega) | (simp only [World.size_alloc, World.size_setCell]; omega))) ?_) | (with_reducible refine Eq.trans (cell_set4 (by omega) _ _ _ _) ?_))); with_reducible assumption) | assumption | go_keep)))
    (first
      | (clear tk1x0; go_at_call 17; refine (Cosine_r (Fd.mk (Rd.below V_xn.out (by first | exact ⟨rfl, rfl, rfl, Nat.le_refl _, fun _ _ => rfl⟩ | exact below_push1 rfl rfl rfl rfl | exact below_push2 rfl rfl rfl rfl)) (Rd.below V_xd.out (by first | exact ⟨rfl, rfl, rfl, Nat.le_refl _, fun _ _ => rfl⟩ | exact below_push1 rfl rfl rfl rfl | exact below_push2 rfl rfl rfl rfl))) (by omega)).mono ?_; rintro e w1 ⟨vc, rfl, rc, bb⟩; have bb0 := bb; (first | (have h2 := box_new2Q (w := W0) bb0 rfl; have N_a := Lib.hid h2.1; have N_b := Lib.hid h2.2; clear h2) | (have h2 := box_new1Q (w := W0) bb0 rfl; have N_a := Lib.hid h2; clear h2) | skip); clear bb0; replace bb := nextw (w0 := W0) (by first | exact ⟨rfl, rfl, rfl, Nat.le_refl _, fun _ _ => rfl⟩ | exact below_push1 rfl rfl rfl rfl | exact below_push2 rfl rfl rfl rfl) bb; replace B_x := Lib.hid (BoxR.below B_x.out bb B_x.out.lt); replace V_xn := Lib.hid (Rd.below V_xn.out bb); replace V_xd := Lib.hid (Rd.below V_xd.out bb); replace HB := Lib.hid (nextw HB.out bb); replace HC := Lib.hid (nextw HC.out bb); clear bb; replace rc := Lib.hid rc; have V_c := rc; clear rc; obtain ⟨sc, Ac, kc, cc, tc, Cc, lc, dc, rfl⟩ := V_c.out.shape; clear c0x c1x c2x c3x; have c0x := B_x.out.c0; have c1x := B_x.out.c1; have c2x := B_x.out.c2; have c3x := B_x.out.c3; have zx1 := B_x.out.lt; have hle1 := HC.out.size; (try (have LWa := Lib.hid N_a.out.lt)); have tk1x1 : True := trivial)
      | (clear tk1x1; go_at_call 18; refine (Sine_r (Fd.mk (Rd.below V_xn.out (by first | exact ⟨rfl, rfl, rfl, Nat.le_refl _, fun _ _ => rfl⟩ | exact below_push1 rfl rfl rfl rfl | exact below_push2 rfl rfl rfl rfl)) (Rd.below V_xd.out (by first | exact ⟨rfl, rfl, rfl, Nat.le_refl _, fun _ _ => rfl⟩ | exact below_push1 rfl rfl rfl rfl | exact below_push2 rfl rfl rfl rfl))) (by omega)).mono ?_; rintro e w2 ⟨vs, rfl, rs, bb⟩; have bb0 := bb; (try (replace N_a := Lib.hid (Box4.below N_a.out (nextw (by first | exact ⟨rfl, rfl, rfl, Nat.le_refl _, fun _ _ => rfl⟩ | exact below_push1 rfl rfl rfl rfl | exact below_push2 rfl rfl rfl rfl) bb) N_a.out.lt))); (try (replace N_b := Lib.hid (Box4.below N_b.out (nextw (by first | exact ⟨rfl, rfl, rfl, Nat.le_refl _, fun _ _ => rfl⟩ | exact below_push1 rfl rfl rfl rfl | exact below_push2 rfl rfl rfl rfl) bb) N_b.out.lt))); (first | (have h2 := box_new2Q (w := w1) bb0 rfl; have N_c := Lib.hid h2.1; have N_d := Lib.hid h2.2; clear h2) | (have h2 := box_new1Q (w := w1) bb0 rfl; have N_c := Lib.hid h2; clear h2) | skip); clear bb0; replace bb := nextw (w0 := w1) (by first | exact ⟨rfl, rfl, rfl, Nat.le_refl _, fun _ _ => rfl⟩ | exact below_push1 rfl rfl rfl rfl | exact below_push2 rfl rfl rfl rfl) bb; clear V_xn V_xd; replace B_x := Lib.hid (BoxR.below B_x.out bb B_x.out.lt); replace V_c := Lib.hid (Qc.below V_c.out bb); replace HB := Lib.hid (nextw HB.out bb); replace HC := Lib.hid (nextw HC.out bb); clear bb; replace rs := Lib.hid rs; have V_s := rs; clear rs; obtain ⟨ss, As, ks, cs, ts, Cs, ls, ds, rfl⟩ := V_s.out.shape; clear c0x c1x c2x c3x; have c0x := B_x.out.c0; have c1x := B_x.out.c1; have c2x := B_x.out.c2; have c3x := B_x.out.c3; have zx2 := B_x.out.lt; have hle2 := HC.out.size; (try (have LWc := Lib.hid N_c.out.lt)); (try (have c0a := N_a.out.c0; have c1a := N_a.out.c1; have c2a := N_a.out.c2; have c3a := N_a.out.c3; have f0a := N_a.out.f0; have f1a := N_a.out.f1; have f2a := N_a.out.f2; have f3a := N_a.out.f3)); (try (have c0b := N_b.out.c0; have c1b := N_b.out.c1; have c2b := N_b.out.c2; have c3b := N_b.out.c3; have f0b := N_b.out.f0; have f1b := N_b.out.f1; have f2b := N_b.out.f2; have f3b := N_b.out.f3)); (try (have c0c := N_c.out.c0; have c1c := N_c.out.c1; have c2c := N_c.out.c2; have c3c := N_c.out.c3; have f0c := N_c.out.f0; have f1c := N_c.out.f1; have f2c := N_c.out.f2; have f3c := N_c.out.f3)); (try (have c0d := N_d.out.c0; have c1d := N_d.out.c1; have c2d := N_d.out.c2; have c3d := N_d.out.c3; have f0d := N_d.out.f0; have f1d := N_d.out.f1; have f2d := N_d.out.f2; have f3d := N_d.out.f3)); (try (have la := N_a.out.lt; have lna := Nat.ne_of_lt la; have lma := Nat.ne_of_gt la)); (try (have lb := N_b.out.lt; have lnb := Nat.ne_of_lt lb; have lmb := Nat.ne_of_gt lb)); (try (have lc := N_c.out.lt; have lnc := Nat.ne_of_lt lc; have lmc := Nat.ne_of_gt lc)); (try (have ld := N_d.out.lt; have lnd := Nat.ne_of_lt ld; have lmd := Nat.ne_of_gt ld)); (try (have lba := Nat.ne_of_lt LWa.out; have lca := Nat.ne_of_gt LWa.out)); (try (have lbc := Nat.ne_of_lt LWc.out; have lcc := Nat.ne_of_gt LWc.out)); have tk1x2 : True := trivial))) | fail
    all_goals go_wp2_with fail
    all_goals go_meet
    all_goals (first | (with_reducible exact fin1Q V_c.out V_s.out HC.out (keptQ_Qc _ _) (keptQ_Qc _ _)) | (with_reducible exact fin1bQ V_c.out V_s.out HC.out (keptQ_Qc _ _) (keptQ_Qc _ _)) | (with_reducible exact fin2xQ V_c.out V_s.out HC.out (keptQ_Qc _ _) (keptQ_Qc _ _) N_a.out (by omega)) | (with_reducible exact fin2bxQ V_c.out V_s.out HC.out (keptQ_Qc _ _) (keptQ_Qc _ _) N_a.out (by omega)) | (with_reducible exact fin2xQ V_c.out V_s.out HC.out (keptQ_Qc _ _) (keptQ_Qc _ _) N_c.out (by omega)) | (with_reducible exact fin2bxQ V_c.out V_s.out HC.out (keptQ_Qc _ _) (keptQ_Qc _ _) N_c.out (by omega)) | (with_reducible exact fin3xQ V_c.out V_s.out HC.out (keptQ_Qc _ _) (keptQ_Qc _ _) N_a.out N_b.out (by omega) (by omega) (by omega)) | (with_reducible exact fin3xQ V_c.out V_s.out HC.out (keptQ_Qc _ _) (keptQ_Qc _ _) N_a.out N_c.out (by omega) (by omega) (by omega)) | (with_reducible exact fin3xQ V_c.out V_s.out HC.out (keptQ_Qc _ _) (keptQ_Qc _ _) N_b.out N_c.out (by omega) (by omega) (by omega)) | (with_reducible exact fin3xQ V_c.out V_s.out HC.out (keptQ_Qc _ _) (keptQ_Qc _ _) N_c.out N_d.out (by omega) (by omega) (by omega)) | (with_reducible exact fin3xQ V_c.out V_s.out HC.out (keptQ_Qc _ _) (keptQ_Qc _ _) N_b.out N_a.out (by omega) (by omega) (by omega)) | (with_reducible exact fin3xQ V_c.out V_s.out HC.out (keptQ_Qc _ _) (keptQ_Qc _ _) N_c.out N_a.out (by omega) (by omega) (by omega)) | (with_reducible exact fin3xQ V_c.out V_s.out HC.out (keptQ_Qc _ _) (keptQ_Qc _ _) N_c.out N_b.out (by omega) (by omega) (by omega)) | (with_reducible exact fin3xQ V_c.out V_s.out HC.out (keptQ_Qc _ _) (keptQ_Qc _ _) N_d.out N_c.out (by omega) (by omega) (by omega)))
  case rest =>
    rename World => wcc
    obtain ⟨pc, ps, sc, Ac, kc, cc, tc, Cc, lc, dc, ss, As, ks, cs, ts, Cs, ls, ds, rfl, rfl, hnec, hgec, hges, bc, bs, vc, vs, bb⟩ := hcut
    replace B_x := Lib.hid (BoxR.below B_x.out bb B_x.out.lt)
    replace B_a := Lib.hid (Box4.below B_a.out bb B_a.out.lt)
    replace B_b := Lib.hid (Box4.below B_b.out bb B_b.out.lt)
    replace B_u := Lib.hid (Box4.below B_u.out bb B_u.out.lt)
    replace B_v := Lib.hid (Box4.below B_v.out bb B_v.out.lt)
    replace V_xn := Lib.hid (Rd.below V_xn.out bb)
    replace V_xd := Lib.hid (Rd.below V_xd.out bb)
    replace V_a := Lib.hid (Qd.below V_a.out bb)
    replace V_b := Lib.hid (Qd.below V_b.out bb)
    replace HB := Lib.hid (nextw HB.out bb)
    have Z6c := Lib.hid hgec
    have Z7s := Lib.hid hges
    clear bb hnec hgec hges
    have B_c := Lib.hid bc
    have B_s := Lib.hid bs
    have V_c := Lib.hid vc
    have V_s := Lib.hid vs
    clear bc bs vc vs
    clear V_xn V_xd B_x
    have c0c := B_c.out.c0
    have c1c := B_c.out.c1
    have c2c := B_c.out.c2
    have c3c := B_c.out.c3
    have f0c := B_c.out.f0
    have f1c := B_c.out.f1
    have f2c := B_c.out.f2
    have f3c := B_c.out.f3
    have c0s := B_s.out.c0
    have c1s := B_s.out.c1
    have c2s := B_s.out.c2
    have c3s := B_s.out.c3
    have f0s := B_s.out.f0
    have f1s := B_s.out.f1
    have f2s := B_s.out.f2
    have f3s := B_s.out.f3
    have c0a := B_a.out.c0
    have c1a := B_a.out.c1
    have c2a := B_a.out.c2
    have c3a := B_a.out.c3
    have f0a := B_a.out.f0
    have f1a := B_a.out.f1
    have f2a := B_a.out.f2
    have f3a := B_a.out.f3
    have c0b := B_b.out.c0
    have c1b := B_b.out.c1
    have c2b := B_b.out.c2
    have c3b := B_b.out.c3
    have f0b := B_b.out.f0
    have f1b := B_b.out.f1
    have f2b := B_b.out.f2
    have f3b := B_b.out.f3
    have c0u := B_u.out.c0
    have c1u := B_u.out.c1
    have c2u := B_u.out.c2
    have c3u := B_u.out.c3
    have f0u := B_u.out.f0
    have f1u := B_u.out.f1
    have f2u := B_u.out.f2
    have f3u := B_u.out.f3
    have c0v := B_v.out.c0
    have c1v := B_v.out.c1
    have c2v := B_v.out.c2
    have c3v := B_v.out.c3
    have f0v := B_v.out.f0
    have f1v := B_v.out.f1
    have f2v := B_v.out.f2
    have f3v := B_v.out.f3
    go_wp2
    have c0c := B_c.out.c0
    have c1c := B_c.out.c1
    have c2c := B_c.out.c2
    have c3c := B_c.out.c3
    have c0s := B_s.out.c0
    have c1s := B_s.out.c1
    have c2s := B_s.out.c2
    have c3s := B_s.out.c3
    have c0a := B_a.out.c0
    have c1a := B_a.out.c1
    have c2a := B_a.out.c2
    have c3a := B_a.out.c3
    have c0b := B_b.out.c0
    have c1b := B_b.out.c1
    have c2b := B_b.out.c2
    have c3b := B_b.out.c3
    have z1x := Z1x.out
    have z2a := Z2a.out
    have z3b := Z3b.out
    have z4u := Z4u.out
    have z5v := Z5v.out
    have z6c := Z6c.out
    have z7s := Z7s.out
    have tk2x0 : True := trivial
    first | (go_region_held3 (fun w' => w'.cell? ⟨pc, 0, none⟩ = some (.bool sc) ∧ w'.cell? ⟨pc, 1, none⟩ = some (.slice Ac kc cc) ∧ w'.cell? ⟨pc, 2, none⟩ = some (.bool tc) ∧ w'.cell? ⟨pc, 3, none⟩ = some (.slice Cc lc dc) ∧ w'.cell? ⟨ps, 0, none⟩ = some (.bool ss) ∧ w'.cell? ⟨ps, 1, none⟩ = some (.slice As ks cs) ∧ w'.cell? ⟨ps, 2, none⟩ = some (.bool ts) ∧ w'.cell? ⟨ps, 3, none⟩ = some (.slice Cs ls ds) ∧ w'.cell? ⟨w.heap.size + 1, 0, none⟩ = some (.bool sa) ∧ w'.cell? ⟨w.heap.size + 1, 1, none⟩ = some (.slice Aa ka ca) ∧ w'.cell? ⟨w.heap.size + 1, 2, none⟩ = some (.bool ta) ∧ w'.cell? ⟨w.heap.size + 1, 3, none⟩ = some (.slice Ca la da) ∧ w'.cell? ⟨w.heap.size + 1 + 1, 0, none⟩ = some (.bool sb) ∧ w'.cell? ⟨w.heap.size + 1 + 1, 1, none⟩ = some (.slice Ab kb cb) ∧ w'.cell? ⟨w.heap.size + 1 + 1, 2, none⟩ = some (.bool tb) ∧ w'.cell? ⟨w.heap.size + 1 + 1, 3, none⟩ = some (.slice Cb lb db)) (((try dsimp only); (repeat' apply And.intro) <;> (first | (with_reducible assumption) | ((repeat (first | (with_reducible refine Eq.trans (cell_drew1 _ _) ?_) | (with_reducible refine Eq.trans (cell_set4 (by omega) _ _ _ _) ?_))); with_reducible assumption) | assumption | go_keep)))
    (first
      | (clear tk2x0; go_at_call 22; refine (Mul_q (Qc.qd (Qc.below V_c.out (by exact ⟨rfl, rfl, rfl, Nat.le_refl _, fun _ _ => rfl⟩))) (Qd.below V_a.out (by exact ⟨rfl, rfl, rfl, Nat.le_refl _, fun _ _ => rfl⟩)) (by omega) (by omega)).mono ?_; rintro e w3 ⟨vm1, rfl, rm1, bb⟩; replace bb := nextw (w0 := wcc) (by exact ⟨rfl, rfl, rfl, Nat.le_refl _, fun _ _ => rfl⟩) bb; replace B_a := Lib.hid (Box4.below B_a.out bb B_a.out.lt); replace B_b := Lib.hid (Box4.below B_b.out bb B_b.out.lt); replace B_u := Lib.hid (Box4.below B_u.out bb B_u.out.lt); replace B_v := Lib.hid (Box4.below B_v.out bb B_v.out.lt); replace B_c := Lib.hid (Box4.below B_c.out bb B_c.out.lt); replace B_s := Lib.hid (Box4.below B_s.out bb B_s.out.lt); replace V_a := Lib.hid (Qd.below V_a.out bb); replace V_b := Lib.hid (Qd.below V_b.out bb); replace V_c := Lib.hid (Qc.below V_c.out bb); replace V_s := Lib.hid (Qc.below V_s.out bb); replace HB := Lib.hid (nextw HB.out bb); clear bb; replace rm1 := Lib.hid rm1; have V_m1 := rm1; clear rm1; clear c0c c1c c2c c3c c0s c1s c2s c3s c0a c1a c2a c3a c0b c1b c2b c3b; have c0c := B_c.out.c0; have c1c := B_c.out.c1; have c2c := B_c.out.c2; have c3c := B_c.out.c3; have c0s := B_s.out.c0; have c1s := B_s.out.c1; have c2s := B_s.out.c2; have c3s := B_s.out.c3; have c0a := B_a.out.c0; have c1a := B_a.out.c1; have c2a := B_a.out.c2; have c3a := B_a.out.c3; have c0b := B_b.out.c0; have c1b := B_b.out.c1; have c2b := B_b.out.c2; have c3b := B_b.out.c3; have tk2x1 : True := trivial)
      | (clear tk2x1; go_at_call 22; refine (Mul_q (Qc.qd (Qc.below V_s.out (by exact ⟨rfl, rfl, rfl, Nat.le_refl _, fun _ _ => rfl⟩))) (Qd.below V_b.out (by exact ⟨rfl, rfl, rfl, Nat.le_refl _, fun _ _ => rfl⟩)) (by omega) (by omega)).mono ?_; rintro e w4 ⟨vm2, rfl, rm2, bb⟩; replace bb := nextw (w0 := w3) (by exact ⟨rfl, rfl, rfl, Nat.le_refl _, fun _ _ => rfl⟩) bb; replace B_a := Lib.hid (Box4.below B_a.out bb B_a.out.lt); replace B_b := Lib.hid (Box4.below B_b.out bb B_b.out.lt); replace B_u := Lib.hid (Box4.below B_u.out bb B_u.out.lt); replace B_v := Lib.hid (Box4.below B_v.out bb B_v.out.lt); replace B_c := Lib.hid (Box4.below B_c.out bb B_c.out.lt); replace B_s := Lib.hid (Box4.below B_s.out bb B_s.out.lt); replace V_a := Lib.hid (Qd.below V_a.out bb); replace V_b := Lib.hid (Qd.below V_b.out bb); replace V_c := Lib.hid (Qc.below V_c.out bb); replace V_s := Lib.hid (Qc.below V_s.out bb); replace V_m1 := Lib.hid (Qc.below V_m1.out bb); replace HB := Lib.hid (nextw HB.out bb); clear bb; replace rm2 := Lib.hid rm2; have V_m2 := rm2; clear rm2; clear c0c c1c c2c c3c c0s c1s c2s c3s c0a c1a c2a c3a c0b c1b c2b c3b; have c0c := B_c.out.c0; have c1c := B_c.out.c1; have c2c := B_c.out.c2; have c3c := B_c.out.c3; have c0s := B_s.out.c0; have c1s := B_s.out.c1; have c2s := B_s.out.c2; have c3s := B_s.out.c3; have c0a := B_a.out.c0; have c1a := B_a.out.c1; have c2a := B_a.out.c2; have c3a := B_a.out.c3; have c0b := B_b.out.c0; have c1b := B_b.out.c1; have c2b := B_b.out.c2; have c3b := B_b.out.c3; have tk2x2 : True := trivial)
      | (clear tk2x2; go_at_call 50; refine (Sub_qt (Qc.qd (Qc.below V_m1.out (by exact ⟨rfl, rfl, rfl, Nat.le_refl _, fun _ _ => rfl⟩))) (Qc.qd (Qc.below V_m2.out (by exact ⟨rfl, rfl, rfl, Nat.le_refl _, fun _ _ => rfl⟩))) (by omega) (by omega) (by omega) (by omega)).mono ?_; rintro e w5 ⟨ve1, rfl, re1, bb⟩; replace bb := nextw (w0 := w4) (by exact ⟨rfl, rfl, rfl, Nat.le_refl _, fun _ _ => rfl⟩) bb; clear V_m1 V_m2; replace B_a := Lib.hid (Box4.below B_a.out bb B_a.out.lt); replace B_b := Lib.hid (Box4.below B_b.out bb B_b.out.lt); replace B_u := Lib.hid (Box4.below B_u.out bb B_u.out.lt); replace B_v := Lib.hid (Box4.below B_v.out bb B_v.out.lt); replace B_c := Lib.hid (Box4.below B_c.out bb B_c.out.lt); replace B_s := Lib.hid (Box4.below B_s.out bb B_s.out.lt); replace V_a := Lib.hid (Qd.below V_a.out bb); replace V_b := Lib.hid (Qd.below V_b.out bb); replace V_c := Lib.hid (Qc.below V_c.out bb); replace V_s := Lib.hid (Qc.below V_s.out bb); replace HB := Lib.hid (nextw HB.out bb); clear bb; replace re1 := Lib.hid re1; have V_e1 := re1; clear re1; obtain ⟨se1, Ae1, ke1, ce1, te1, Ce1, le1, de1, rfl⟩ := V_e1.out.shape; clear c0c c1c c2c c3c c0s c1s c2s c3s c0a c1a c2a c3a c0b c1b c2b c3b; have c0c := B_c.out.c0; have c1c := B_c.out.c1; have c2c := B_c.out.c2; have c3c := B_c.out.c3; have c0s := B_s.out.c0; have c1s := B_s.out.c1; have c2s := B_s.out.c2; have c3s := B_s.out.c3; have c0a := B_a.out.c0; have c1a := B_a.out.c1; have c2a := B_a.out.c2; have c3a := B_a.out.c3; have c0b := B_b.out.c0; have c1b := B_b.out.c1; have c2b := B_b.out.c2; have c3b := B_b.out.c3; have tk2x3 : True := trivial)
      | (clear tk2x3; go_at_call 22; refine (Mul_q (Qc.qd (Qc.below V_s.out (by exact ⟨rfl, rfl, rfl, Nat.le_refl _, fun _ _ => rfl⟩))) (Qd.below V_a.out (by exact ⟨rfl, rfl, rfl, Nat.le_refl _, fun _ _ => rfl⟩)) (by omega) (by omega)).mono ?_; rintro e w6 ⟨vm3, rfl, rm3, bb⟩; replace bb := nextw (w0 := w5) (by exact ⟨rfl, rfl, rfl, Nat.le_refl _, fun _ _ => rfl⟩) bb; clear V_a V_s; replace B_a := Lib.hid (Box4.below B_a.out bb B_a.out.lt); replace B_b := Lib.hid (Box4.below B_b.out bb B_b.out.lt); replace B_u := Lib.hid (Box4.below B_u.out bb B_u.out.lt); replace B_v := Lib.hid (Box4.below B_v.out bb B_v.out.lt); replace B_c := Lib.hid (Box4.below B_c.out bb B_c.out.lt); replace B_s := Lib.hid (Box4.below B_s.out bb B_s.out.lt); replace V_b := Lib.hid (Qd.below V_b.out bb); replace V_c := Lib.hid (Qc.below V_c.out bb); replace V_e1 := Lib.hid (Qc.below V_e1.out bb); replace HB := Lib.hid (nextw HB.out bb); clear bb; replace rm3 := Lib.hid rm3; have V_m3 := rm3; clear rm3; clear c0c c1c c2c c3c c0s c1s c2s c3s c0a c1a c2a c3a c0b c1b c2b c3b; have c0c := B_c.out.c0; have c1c := B_c.out.c1; have c2c := B_c.out.c2; have c3c := B_c.out.c3; have c0s := B_s.out.c0; have c1s := B_s.out.c1; have c2s := B_s.out.c2; have c3s := B_s.out.c3; have c0a := B_a.out.c0; have c1a := B_a.out.c1; have c2a := B_a.out.c2; have c3a := B_a.out.c3; have c0b := B_b.out.c0; have c1b := B_b.out.c1; have c2b := B_b.out.c2; have c3b := B_b.out.c3; have tk2x4 : True := trivial)
      | (clear tk2x4; go_at_call 22; refine (Mul_q (Qc.qd (Qc.below V_c.out (by exact ⟨rfl, rfl, rfl, Nat.le_refl _, fun _ _ => rfl⟩))) (Qd.below V_b.out (by exact ⟨rfl, rfl, rfl, Nat.le_refl _, fun _ _ => rfl⟩)) (by omega) (by omega)).mono ?_; rintro e w7 ⟨vm4, rfl, rm4, bb⟩; replace bb := nextw (w0 := w6) (by exact ⟨rfl, rfl, rfl, Nat.le_refl _, fun _ _ => rfl⟩) bb; clear V_b V_c; replace B_a := Lib.hid (Box4.below B_a.out bb B_a.out.lt); replace B_b := Lib.hid (Box4.below B_b.out bb B_b.out.lt); replace B_u := Lib.hid (Box4.below B_u.out bb B_u.out.lt); replace B_v := Lib.hid (Box4.below B_v.out bb B_v.out.lt); replace B_c := Lib.hid (Box4.below B_c.out bb B_c.out.lt); replace B_s := Lib.hid (Box4.below B_s.out bb B_s.out.lt); replace V_e1 := Lib.hid (Qc.below V_e1.out bb); replace V_m3 := Lib.hid (Qc.below V_m3.out bb); replace HB := Lib.hid (nextw HB.out bb); clear bb; replace rm4 := Lib.hid rm4; have V_m4 := rm4; clear rm4; clear c0c c1c c2c c3c c0s c1s c2s c3s c0a c1a c2a c3a c0b c1b c2b c3b; have c0c := B_c.out.c0; have c1c := B_c.out.c1; have c2c := B_c.out.c2; have c3c := B_c.out.c3; have c0s := B_s.out.c0; have c1s := B_s.out.c1; have c2s := B_s.out.c2; have c3s := B_s.out.c3; have c0a := B_a.out.c0; have c1a := B_a.out.c1; have c2a := B_a.out.c2; have c3a := B_a.out.c3; have c0b := B_b.out.c0; have c1b := B_b.out.c1; have c2b := B_b.out.c2; have c3b := B_b.out.c3; have tk2x5 : True := trivial)
      | (clear tk2x5; go_at_call 21; refine (Add_qt (Qc.qd (Qc.below V_m3.out (by exact ⟨rfl, rfl, rfl, Nat.le_refl _, fun _ _ => rfl⟩))) (Qc.qd (Qc.below V_m4.out (by exact ⟨rfl, rfl, rfl, Nat.le_refl _, fun _ _ => rfl⟩))) (by omega) (by omega) (by omega) (by omega)).mono ?_; rintro e w8 ⟨ve2, rfl, re2, bb⟩; replace bb := nextw (w0 := w7) (by exact ⟨rfl, rfl, rfl, Nat.le_refl _, fun _ _ => rfl⟩) bb; clear V_m3 V_m4; replace B_a := Lib.hid (Box4.below B_a.out bb B_a.out.lt); replace B_b := Lib.hid (Box4.below B_b.out bb B_b.out.lt); replace B_u := Lib.hid (Box4.below B_u.out bb B_u.out.lt); replace B_v := Lib.hid (Box4.below B_v.out bb B_v.out.lt); replace B_c := Lib.hid (Box4.below B_c.out bb B_c.out.lt); replace B_s := Lib.hid (Box4.below B_s.out bb B_s.out.lt); replace V_e1 := Lib.hid (Qc.below V_e1.out bb); replace HB := Lib.hid (nextw HB.out bb); clear bb; replace re2 := Lib.hid re2; have V_e2 := re2; clear re2; obtain ⟨se2, Ae2, ke2, ce2, te2, Ce2, le2, de2, rfl⟩ := V_e2.out.shape; have c0u := B_u.out.c0; have c1u := B_u.out.c1; have c2u := B_u.out.c2; have c3u := B_u.out.c3; have c0v := B_v.out.c0; have c1v := B_v.out.c1; have c2v := B_v.out.c2; have c3v := B_v.out.c3; have f0u := B_u.out.f0; have f1u := B_u.out.f1; have f2u := B_u.out.f2; have f3u := B_u.out.f3; have f0v := B_v.out.f0; have f1v := B_v.out.f1; have f2v := B_v.out.f2; have f3v := B_v.out.f3; clear c0c c1c c2c c3c c0s c1s c2s c3s c0a c1a c2a c3a c0b c1b c2b c3b; have c0c := B_c.out.c0; have c1c := B_c.out.c1; have c2c := B_c.out.c2; have c3c := B_c.out.c3; have c0s := B_s.out.c0; have c1s := B_s.out.c1; have c2s := B_s.out.c2; have c3s := B_s.out.c3; have c0a := B_a.out.c0; have c1a := B_a.out.c1; have c2a := B_a.out.c2; have c3a := B_a.out.c3; have c0b := B_b.out.c0; have c1b := B_b.out.c1; have c2b := B_b.out.c2; have c3b := B_b.out.c3; have tk2x6 : True := trivial))) | fail
    all_goals (clear z1x z2a z3b z4u z5v z6c z7s)
    all_goals
      skip
      have K_e1 := V_e1
      have K_e2 := V_e2
      replace K_e1 := Lib.hid (Box4.keepsQc B_u.out K_e1.out (.bool se1) (.slice Ae1 ke1 ce1) (.bool te1) (.slice Ce1 le1 de1))
      replace K_e2 := Lib.hid (Box4.keepsQc B_u.out K_e2.out (.bool se1) (.slice Ae1 ke1 ce1) (.bool te1) (.slice Ce1 le1 de1))
      have HB1 := Lib.hid (Below.store4 HB.out (y := w.heap.size + 1 + 1 + 1) (by omega) (.bool se1) (.slice Ae1 ke1 ce1) (.bool te1) (.slice Ce1 le1 de1))
      have N0v := Lib.hid (Box4.far4 (y := w.heap.size + 1 + 1 + 1) B_v.out (by omega) (.bool se1) (.slice Ae1 ke1 ce1) (.bool te1) (.slice Ce1 le1 de1))
      have N0u := Lib.hid (Box4.store B_u.out se1 (.slice Ae1 ke1 ce1) te1 (.slice Ce1 le1 de1))
      replace K_e1 := Lib.hid (Box4.keepsQc N0v.out K_e1.out (.bool se2) (.slice Ae2 ke2 ce2) (.bool te2) (.slice Ce2 le2 de2))
      replace K_e2 := Lib.hid (Box4.keepsQc N0v.out K_e2.out (.bool se2) (.slice Ae2 ke2 ce2) (.bool te2) (.slice Ce2 le2 de2))
      have HB2 := Lib.hid (Below.store4 HB1.out (y := w.heap.size + 1 + 1 + 1 + 1) (by omega) (.bool se2) (.slice Ae2 ke2 ce2) (.bool te2) (.slice Ce2 le2 de2))
      have N1u := Lib.hid (Box4.far4 (y := w.heap.size + 1 + 1 + 1 + 1) N0u.out (by omega) (.bool se2) (.slice Ae2 ke2 ce2) (.bool te2) (.slice Ce2 le2 de2))
      have N1v := Lib.hid (Box4.store N0v.out se2 (.slice Ae2 ke2 ce2) te2 (.slice Ce2 le2 de2))
      have s0u := N1u.out.c0
      have s1u := N1u.out.c1
      have s2u := N1u.out.c2
      have s3u := N1u.out.c3
      have s0v := N1v.out.c0
      have s1v := N1v.out.c1
      have s2v := N1v.out.c2
      have s3v := N1v.out.c3
      simp only [st4] at s0u s1u s2u s3u s0v s1v s2v s3v
      have HBF := HB2
      have c0u := B_u.out.c0
      have c1u := B_u.out.c1
      have c2u := B_u.out.c2
      have c3u := B_u.out.c3
      have f0u := B_u.out.f0
      have f1u := B_u.out.f1
      have f2u := B_u.out.f2
      have f3u := B_u.out.f3
      have c0v := B_v.out.c0
      have c1v := B_v.out.c1
      have c2v := B_v.out.c2
      have c3v := B_v.out.c3
      have f0v := B_v.out.f0
      have f1v := B_v.out.f1
      have f2v := B_v.out.f2
      have f3v := B_v.out.f3
      have p00v := N0v.out.c0
      have r00v := N0v.out.f0
      simp only [st4] at p00v r00v
      have p01v := N0v.out.c1
      have r01v := N0v.out.f1
      simp only [st4] at p01v r01v
      have p02v := N0v.out.c2
      have r02v := N0v.out.f2
      simp only [st4] at p02v r02v
      have p03v := N0v.out.c3
      have r03v := N0v.out.f3
      simp only [st4] at p03v r03v
      go_wp2_with fail
      exact bodyPost_ret (v := .tuple #[.agg #[.bool se1, (.slice Ae1 ke1 ce1), .bool te1, (.slice Ce1 le1 de1)], .agg #[.bool se2, (.slice Ae2 ke2 ce2), .bool te2, (.slice Ce2 le2 de2)]]) (by simp [results, Tryz.results19, go_sem, s0u, s1u, s2u, s3u, s0v, s1v, s2v, s3v]) rfl ⟨_, _, rfl, (Qc.below K_e1.out (by exact ⟨rfl, rfl, rfl, Nat.le_refl _, fun _ _ => rfl⟩)).more (by omega), (Qc.below K_e2.out (by exact ⟨rfl, rfl, rfl, Nat.le_refl _, fun _ _ => rfl⟩)).more (by omega), (nextw HBF.out (by exact ⟨rfl, rfl, rfl, Nat.le_refl _, fun _ _ => rfl⟩))⟩
end Go.Proofs.YtccndofafljaaaaGreatDoor
