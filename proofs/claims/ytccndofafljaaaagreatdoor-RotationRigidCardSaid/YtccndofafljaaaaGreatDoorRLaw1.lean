/- Layer 3's laws: square, light. -/
import Derived.Test.YtccndofafljaaaaGreatDoorRot5
import Derived.Test.YtccndofafljaaaaGreatDoorRLaw0
import Derived.Test.YtccndofafljaaaaGreatDoorRotF

set_option linter.unusedVariables false
set_option linter.unusedSimpArgs false

namespace Go.Proofs.YtccndofafljaaaaGreatDoor
open Go Go.RowKit Num

set_option maxRecDepth 100000 in
set_option maxHeartbeats 16000000 in
theorem square_r {va vb vc vd : Value} {ra rb rc rd : Rat} {i j : Nat} {w : World} (ha : Qd w va ra i) (hb : Qd w vb rb i) (hc : Qd w vc rc j) (hd : Qd w vd rd j) (f : i ≤ 450) (g : j ≤ 450) (f1 : 1 ≤ i) (g1 : 1 ≤ j) :
    Calls Tryz.prog 32 #[va, vb, vc, vd] w fun e w' => ∃ v', e = .returned v' ∧ Qc w' v' ((rc - ra) * (rc - ra) + (rd - rb) * (rd - rb)) (4 * i + 4 * j + 9) ∧ Below w.heap.size w w' := by
  obtain ⟨sa, Aa, ka, ca, ta, Ca, la, da, rfl⟩ := ha.shape
  obtain ⟨sb, Ab, kb, cb, tb, Cb, lb, db, rfl⟩ := hb.shape
  obtain ⟨sg, Ag, kg, cg, tg, Cg, lg, dg, rfl⟩ := hc.shape
  obtain ⟨sh, Ah, kh, ch, th, Ch, lh, dh, rfl⟩ := hd.shape
  have V_a := Lib.hid ha
  have V_b := Lib.hid hb
  have V_g := Lib.hid hc
  have V_h := Lib.hid hd
  clear ha hb hc hd
  have hb0 : Below w.heap.size w (((((w.alloc (.cells #[.bool sa, (.slice Aa ka ca), .bool ta, (.slice Ca la da)] 35)).alloc (.cells #[.bool sb, (.slice Ab kb cb), .bool tb, (.slice Cb lb db)] 35)).alloc (.cells #[.bool sg, (.slice Ag kg cg), .bool tg, (.slice Cg lg dg)] 35)).alloc (.cells #[.bool sh, (.slice Ah kh ch), .bool th, (.slice Ch lh dh)] 35)).alloc (.cells #[.bool false, (.slice none 0 0), .bool false, (.slice none 0 0)] 35)) := (Below.alloc (Below.alloc (Below.alloc (Below.alloc (Below.alloc (Below.refl w.heap.size w) (by simp <;> omega) _) (by simp <;> omega) _) (by simp <;> omega) _) (by simp <;> omega) _) (by simp <;> omega) _)
  have B_a : Box4 (((((w.alloc (.cells #[.bool sa, (.slice Aa ka ca), .bool ta, (.slice Ca la da)] 35)).alloc (.cells #[.bool sb, (.slice Ab kb cb), .bool tb, (.slice Cb lb db)] 35)).alloc (.cells #[.bool sg, (.slice Ag kg cg), .bool tg, (.slice Cg lg dg)] 35)).alloc (.cells #[.bool sh, (.slice Ah kh ch), .bool th, (.slice Ch lh dh)] 35)).alloc (.cells #[.bool false, (.slice none 0 0), .bool false, (.slice none 0 0)] 35)) (w.heap.size) sa (.slice Aa ka ca) ta (.slice Ca la da) := by have h := Box4.alloc (Box4.alloc (Box4.alloc (Box4.alloc (Box4.new w sa (.slice Aa ka ca) ta (.slice Ca la da)) (.cells #[.bool sb, (.slice Ab kb cb), .bool tb, (.slice Cb lb db)] 35)) (.cells #[.bool sg, (.slice Ag kg cg), .bool tg, (.slice Cg lg dg)] 35)) (.cells #[.bool sh, (.slice Ah kh ch), .bool th, (.slice Ch lh dh)] 35)) (.cells #[.bool false, (.slice none 0 0), .bool false, (.slice none 0 0)] 35); simpa using h
  replace B_a := Lib.hid B_a
  have B_b : Box4 (((((w.alloc (.cells #[.bool sa, (.slice Aa ka ca), .bool ta, (.slice Ca la da)] 35)).alloc (.cells #[.bool sb, (.slice Ab kb cb), .bool tb, (.slice Cb lb db)] 35)).alloc (.cells #[.bool sg, (.slice Ag kg cg), .bool tg, (.slice Cg lg dg)] 35)).alloc (.cells #[.bool sh, (.slice Ah kh ch), .bool th, (.slice Ch lh dh)] 35)).alloc (.cells #[.bool false, (.slice none 0 0), .bool false, (.slice none 0 0)] 35)) (w.heap.size + 1) sb (.slice Ab kb cb) tb (.slice Cb lb db) := by have h := Box4.alloc (Box4.alloc (Box4.alloc (Box4.new (w.alloc (.cells #[.bool sa, (.slice Aa ka ca), .bool ta, (.slice Ca la da)] 35)) sb (.slice Ab kb cb) tb (.slice Cb lb db)) (.cells #[.bool sg, (.slice Ag kg cg), .bool tg, (.slice Cg lg dg)] 35)) (.cells #[.bool sh, (.slice Ah kh ch), .bool th, (.slice Ch lh dh)] 35)) (.cells #[.bool false, (.slice none 0 0), .bool false, (.slice none 0 0)] 35); simpa using h
  replace B_b := Lib.hid B_b
  have B_g : Box4 (((((w.alloc (.cells #[.bool sa, (.slice Aa ka ca), .bool ta, (.slice Ca la da)] 35)).alloc (.cells #[.bool sb, (.slice Ab kb cb), .bool tb, (.slice Cb lb db)] 35)).alloc (.cells #[.bool sg, (.slice Ag kg cg), .bool tg, (.slice Cg lg dg)] 35)).alloc (.cells #[.bool sh, (.slice Ah kh ch), .bool th, (.slice Ch lh dh)] 35)).alloc (.cells #[.bool false, (.slice none 0 0), .bool false, (.slice none 0 0)] 35)) (w.heap.size + 1 + 1) sg (.slice Ag kg cg) tg (.slice Cg lg dg) := by have h := Box4.alloc (Box4.alloc (Box4.new ((w.alloc (.cells #[.bool sa, (.slice Aa ka ca), .bool ta, (.slice Ca la da)] 35)).alloc (.cells #[.bool sb, (.slice Ab kb cb), .bool tb, (.slice Cb lb db)] 35)) sg (.slice Ag kg cg) tg (.slice Cg lg dg)) (.cells #[.bool sh, (.slice Ah kh ch), .bool th, (.slice Ch lh dh)] 35)) (.cells #[.bool false, (.slice none 0 0), .bool false, (.slice none 0 0)] 35); simpa using h
  replace B_g := Lib.hid B_g
  have B_h : Box4 (((((w.alloc (.cells #[.bool sa, (.slice Aa ka ca), .bool ta, (.slice Ca la da)] 35)).alloc (.cells #[.bool sb, (.slice Ab kb cb), .bool tb, (.slice Cb lb db)] 35)).alloc (.cells #[.bool sg, (.slice Ag kg cg), .bool tg, (.slice Cg lg dg)] 35)).alloc (.cells #[.bool sh, (.slice Ah kh ch), .bool th, (.slice Ch lh dh)] 35)).alloc (.cells #[.bool false, (.slice none 0 0), .bool false, (.slice none 0 0)] 35)) (w.heap.size + 1 + 1 + 1) sh (.slice Ah kh ch) th (.slice Ch lh dh) := by have h := Box4.alloc (Box4.new (((w.alloc (.cells #[.bool sa, (.slice Aa ka ca), .bool ta, (.slice Ca la da)] 35)).alloc (.cells #[.bool sb, (.slice Ab kb cb), .bool tb, (.slice Cb lb db)] 35)).alloc (.cells #[.bool sg, (.slice Ag kg cg), .bool tg, (.slice Cg lg dg)] 35)) sh (.slice Ah kh ch) th (.slice Ch lh dh)) (.cells #[.bool false, (.slice none 0 0), .bool false, (.slice none 0 0)] 35); simpa using h
  replace B_h := Lib.hid B_h
  have B_r : Box4 (((((w.alloc (.cells #[.bool sa, (.slice Aa ka ca), .bool ta, (.slice Ca la da)] 35)).alloc (.cells #[.bool sb, (.slice Ab kb cb), .bool tb, (.slice Cb lb db)] 35)).alloc (.cells #[.bool sg, (.slice Ag kg cg), .bool tg, (.slice Cg lg dg)] 35)).alloc (.cells #[.bool sh, (.slice Ah kh ch), .bool th, (.slice Ch lh dh)] 35)).alloc (.cells #[.bool false, (.slice none 0 0), .bool false, (.slice none 0 0)] 35)) (w.heap.size + 1 + 1 + 1 + 1) false (.slice none 0 0) false (.slice none 0 0) := by have h := Box4.new ((((w.alloc (.cells #[.bool sa, (.slice Aa ka ca), .bool ta, (.slice Ca la da)] 35)).alloc (.cells #[.bool sb, (.slice Ab kb cb), .bool tb, (.slice Cb lb db)] 35)).alloc (.cells #[.bool sg, (.slice Ag kg cg), .bool tg, (.slice Cg lg dg)] 35)).alloc (.cells #[.bool sh, (.slice Ah kh ch), .bool th, (.slice Ch lh dh)] 35)) false (.slice none 0 0) false (.slice none 0 0); simpa using h
  replace B_r := Lib.hid B_r
  replace V_a := Lib.hid (Qd.below V_a.out hb0)
  replace V_b := Lib.hid (Qd.below V_b.out hb0)
  replace V_g := Lib.hid (Qd.below V_g.out hb0)
  replace V_h := Lib.hid (Qd.below V_h.out hb0)
  have HB := Lib.hid hb0
  clear hb0
  have c0a := B_a.out.c0
  have c1a := B_a.out.c1
  have c2a := B_a.out.c2
  have c3a := B_a.out.c3
  have c0b := B_b.out.c0
  have c1b := B_b.out.c1
  have c2b := B_b.out.c2
  have c3b := B_b.out.c3
  have c0g := B_g.out.c0
  have c1g := B_g.out.c1
  have c2g := B_g.out.c2
  have c3g := B_g.out.c3
  have c0h := B_h.out.c0
  have c1h := B_h.out.c1
  have c2h := B_h.out.c2
  have c3h := B_h.out.c3
  have c0r := B_r.out.c0
  have c1r := B_r.out.c1
  have c2r := B_r.out.c2
  have c3r := B_r.out.c3
  go_enter Tryz.func32, Tryz.ntmps32
  go_wp2_with fail
  clear c0a c1a c2a c3a c0b c1b c2b c3b c0g c1g c2g c3g c0h c1h c2h c3h c0r c1r c2r c3r
  generalize ((((w.alloc (.cells #[.bool sa, (.slice Aa ka ca), .bool ta, (.slice Ca la da)] 35)).alloc (.cells #[.bool sb, (.slice Ab kb cb), .bool tb, (.slice Cb lb db)] 35)).alloc (.cells #[.bool sg, (.slice Ag kg cg), .bool tg, (.slice Cg lg dg)] 35)).alloc (.cells #[.bool sh, (.slice Ah kh ch), .bool th, (.slice Ch lh dh)] 35)).alloc (.cells #[.bool false, (.slice none 0 0), .bool false, (.slice none 0 0)] 35) = W0 at *
  have c0a := B_a.out.c0
  have c1a := B_a.out.c1
  have c2a := B_a.out.c2
  have c3a := B_a.out.c3
  have c0b := B_b.out.c0
  have c1b := B_b.out.c1
  have c2b := B_b.out.c2
  have c3b := B_b.out.c3
  have c0g := B_g.out.c0
  have c1g := B_g.out.c1
  have c2g := B_g.out.c2
  have c3g := B_g.out.c3
  have c0h := B_h.out.c0
  have c1h := B_h.out.c1
  have c2h := B_h.out.c2
  have c3h := B_h.out.c3
  have Z1a := Lib.hid B_a.out.lt
  have Z2b := Lib.hid B_b.out.lt
  have Z3g := Lib.hid B_g.out.lt
  have Z4h := Lib.hid B_h.out.lt
  have Z5r := Lib.hid B_r.out.lt
  go_upto_region 1 with fail
  go_cut [9, 10] (fun a b wx => TwoQ W0 (fun w v => Qc w v (rc - ra) (j + i + 1)) (fun w v => Qc w v (rd - rb) (j + i + 1)) a b wx)
  clear c0a c1a c2a c3a c0b c1b c2b c3b c0g c1g c2g c3g c0h c1h c2h c3h
  case first =>
    clear B_r
    have HC := Lib.hid (Below.refl W0.heap.size W0)
    have za0 := B_a.out.lt
    have zb0 := B_b.out.lt
    have zg0 := B_g.out.lt
    have zh0 := B_h.out.lt
    have c0a := B_a.out.c0
    have c1a := B_a.out.c1
    have c2a := B_a.out.c2
    have c3a := B_a.out.c3
    have c0b := B_b.out.c0
    have c1b := B_b.out.c1
    have c2b := B_b.out.c2
    have c3b := B_b.out.c3
    have c0g := B_g.out.c0
    have c1g := B_g.out.c1
    have c2g := B_g.out.c2
    have c3g := B_g.out.c3
    have c0h := B_h.out.c0
    have c1h := B_h.out.c1
    have c2h := B_h.out.c2
    have c3h := B_h.out.c3
    have tk1x0 : True := trivial
    first | (go_region_held3 (fun w' => w'.cell? ⟨w.heap.size, 0, none⟩ = some (.bool sa) ∧ w'.cell? ⟨w.heap.size, 1, none⟩ = some (.slice Aa ka ca) ∧ w'.cell? ⟨w.heap.size, 2, none⟩ = some (.bool ta) ∧ w'.cell? ⟨w.heap.size, 3, none⟩ = some (.slice Ca la da) ∧ w'.cell? ⟨w.heap.size + 1, 0, none⟩ = some (.bool sb) ∧ w'.cell? ⟨w.heap.size + 1, 1, none⟩ = some (.slice Ab kb cb) ∧ w'.cell? ⟨w.heap.size + 1, 2, none⟩ = some (.bool tb) ∧ w'.cell? ⟨w.heap.size + 1, 3, none⟩ = some (.slice Cb lb db) ∧ w'.cell? ⟨w.heap.size + 1 + 1, 0, none⟩ = some (.bool sg) ∧ w'.cell? ⟨w.heap.size + 1 + 1, 1, none⟩ = some (.slice Ag kg cg) ∧ w'.cell? ⟨w.heap.size + 1 + 1, 2, none⟩ = some (.bool tg) ∧ w'.cell? ⟨w.heap.size + 1 + 1, 3, none⟩ = some (.slice Cg lg dg) ∧ w'.cell? ⟨w.heap.size + 1 + 1 + 1, 0, none⟩ = some (.bool sh) ∧ w'.cell? ⟨w.heap.size + 1 + 1 + 1, 1, none⟩ = some (.slice Ah kh ch) ∧ w'.cell? ⟨w.heap.size + 1 + 1 + 1, 2, none⟩ = some (.bool th) ∧ w'.cell? ⟨w.heap.size + 1 + 1 + 1, 3, none⟩ = some (.slice Ch lh dh)) (((try dsimp only); (repeat' apply And.intro) <;> (first | (with_reducible assumption) | ((repeat (first | (with_reducible refine Eq.trans (cell_drew1 _ _) ?_) | (with_reducible refine Eq.trans (World.cell?_alloc_lt _ _ _ (by first | (dsimp only; omega) | (simp only [World.size_alloc, World.size_setCell]; omega))) ?_) | (with_reducible refine Eq.trans (cell_set4 (by omega) _ _ _ _) ?_))); with_reducible assumption) | assumption | go_keep)))
    (first
      | (clear tk1x0; go_at_call 50; refine (Sub_qt (Qd.below V_g.out (by first | exact ⟨rfl, rfl, rfl, Nat.le_refl _, fun _ _ => rfl⟩ | exact below_push1 rfl rfl rfl rfl | exact below_push2 rfl rfl rfl rfl)) (Qd.below V_a.out (by first | exact ⟨rfl, rfl, rfl, Nat.le_refl _, fun _ _ => rfl⟩ | exact below_push1 rfl rfl rfl rfl | exact below_push2 rfl rfl rfl rfl)) (by omega) (by omega) (by omega) (by omega)).mono ?_; rintro e w1 ⟨vx, rfl, rx, bb⟩; have bb0 := bb; (first | (have h2 := box_new2Q (w := W0) bb0 rfl; have N_a := Lib.hid h2.1; have N_b := Lib.hid h2.2; clear h2) | (have h2 := box_new1Q (w := W0) bb0 rfl; have N_a := Lib.hid h2; clear h2) | skip); clear bb0; replace bb := nextw (w0 := W0) (by first | exact ⟨rfl, rfl, rfl, Nat.le_refl _, fun _ _ => rfl⟩ | exact below_push1 rfl rfl rfl rfl | exact below_push2 rfl rfl rfl rfl) bb; clear V_a V_g; replace B_a := Lib.hid (Box4.below B_a.out bb B_a.out.lt); replace B_b := Lib.hid (Box4.below B_b.out bb B_b.out.lt); replace B_g := Lib.hid (Box4.below B_g.out bb B_g.out.lt); replace B_h := Lib.hid (Box4.below B_h.out bb B_h.out.lt); replace V_b := Lib.hid (Qd.below V_b.out bb); replace V_h := Lib.hid (Qd.below V_h.out bb); replace HB := Lib.hid (nextw HB.out bb); replace HC := Lib.hid (nextw HC.out bb); clear bb; replace rx := Lib.hid rx; have V_x := rx; clear rx; obtain ⟨sx, Ax, kx, cx, tx, Cx, lx, dx, rfl⟩ := V_x.out.shape; clear c0a c1a c2a c3a c0b c1b c2b c3b c0g c1g c2g c3g c0h c1h c2h c3h; have c0a := B_a.out.c0; have c1a := B_a.out.c1; have c2a := B_a.out.c2; have c3a := B_a.out.c3; have c0b := B_b.out.c0; have c1b := B_b.out.c1; have c2b := B_b.out.c2; have c3b := B_b.out.c3; have c0g := B_g.out.c0; have c1g := B_g.out.c1; have c2g := B_g.out.c2; have c3g := B_g.out.c3; have c0h := B_h.out.c0; have c1h := B_h.out.c1; have c2h := B_h.out.c2; have c3h := B_h.out.c3; have za1 := B_a.out.lt; have zb1 := B_b.out.lt; have zg1 := B_g.out.lt; have zh1 := B_h.out.lt; have hle1 := HC.out.size; (try (have LWa := Lib.hid N_a.out.lt)); have tk1x1 : True := trivial)
      | (clear tk1x1; go_at_call 50; refine (Sub_qt (Qd.below V_h.out (by first | exact ⟨rfl, rfl, rfl, Nat.le_refl _, fun _ _ => rfl⟩ | exact below_push1 rfl rfl rfl rfl | exact below_push2 rfl rfl rfl rfl)) (Qd.below V_b.out (by first | exact ⟨rfl, rfl, rfl, Nat.le_refl _, fun _ _ => rfl⟩ | exact below_push1 rfl rfl rfl rfl | exact below_push2 rfl rfl rfl rfl)) (by omega) (by omega) (by omega) (by omega)).mono ?_; rintro e w2 ⟨vy, rfl, ry, bb⟩; have bb0 := bb; (try (replace N_a := Lib.hid (Box4.below N_a.out (nextw (by first | exact ⟨rfl, rfl, rfl, Nat.le_refl _, fun _ _ => rfl⟩ | exact below_push1 rfl rfl rfl rfl | exact below_push2 rfl rfl rfl rfl) bb) N_a.out.lt))); (try (replace N_b := Lib.hid (Box4.below N_b.out (nextw (by first | exact ⟨rfl, rfl, rfl, Nat.le_refl _, fun _ _ => rfl⟩ | exact below_push1 rfl rfl rfl rfl | exact below_push2 rfl rfl rfl rfl) bb) N_b.out.lt))); (first | (have h2 := box_new2Q (w := w1) bb0 rfl; have N_c := Lib.hid h2.1; have N_d := Lib.hid h2.2; clear h2) | (have h2 := box_new1Q (w := w1) bb0 rfl; have N_c := Lib.hid h2; clear h2) | skip); clear bb0; replace bb := nextw (w0 := w1) (by first | exact ⟨rfl, rfl, rfl, Nat.le_refl _, fun _ _ => rfl⟩ | exact below_push1 rfl rfl rfl rfl | exact below_push2 rfl rfl rfl rfl) bb; clear V_b V_h; replace B_a := Lib.hid (Box4.below B_a.out bb B_a.out.lt); replace B_b := Lib.hid (Box4.below B_b.out bb B_b.out.lt); replace B_g := Lib.hid (Box4.below B_g.out bb B_g.out.lt); replace B_h := Lib.hid (Box4.below B_h.out bb B_h.out.lt); replace V_x := Lib.hid (Qc.below V_x.out bb); replace HB := Lib.hid (nextw HB.out bb); replace HC := Lib.hid (nextw HC.out bb); clear bb; replace ry := Lib.hid ry; have V_y := ry; clear ry; obtain ⟨sy, Ay, ky, cy, ty, Cy, ly, dy, rfl⟩ := V_y.out.shape; clear c0a c1a c2a c3a c0b c1b c2b c3b c0g c1g c2g c3g c0h c1h c2h c3h; have c0a := B_a.out.c0; have c1a := B_a.out.c1; have c2a := B_a.out.c2; have c3a := B_a.out.c3; have c0b := B_b.out.c0; have c1b := B_b.out.c1; have c2b := B_b.out.c2; have c3b := B_b.out.c3; have c0g := B_g.out.c0; have c1g := B_g.out.c1; have c2g := B_g.out.c2; have c3g := B_g.out.c3; have c0h := B_h.out.c0; have c1h := B_h.out.c1; have c2h := B_h.out.c2; have c3h := B_h.out.c3; have za2 := B_a.out.lt; have zb2 := B_b.out.lt; have zg2 := B_g.out.lt; have zh2 := B_h.out.lt; have hle2 := HC.out.size; (try (have LWc := Lib.hid N_c.out.lt)); (try (have c0a := N_a.out.c0; have c1a := N_a.out.c1; have c2a := N_a.out.c2; have c3a := N_a.out.c3; have f0a := N_a.out.f0; have f1a := N_a.out.f1; have f2a := N_a.out.f2; have f3a := N_a.out.f3)); (try (have c0b := N_b.out.c0; have c1b := N_b.out.c1; have c2b := N_b.out.c2; have c3b := N_b.out.c3; have f0b := N_b.out.f0; have f1b := N_b.out.f1; have f2b := N_b.out.f2; have f3b := N_b.out.f3)); (try (have c0c := N_c.out.c0; have c1c := N_c.out.c1; have c2c := N_c.out.c2; have c3c := N_c.out.c3; have f0c := N_c.out.f0; have f1c := N_c.out.f1; have f2c := N_c.out.f2; have f3c := N_c.out.f3)); (try (have c0d := N_d.out.c0; have c1d := N_d.out.c1; have c2d := N_d.out.c2; have c3d := N_d.out.c3; have f0d := N_d.out.f0; have f1d := N_d.out.f1; have f2d := N_d.out.f2; have f3d := N_d.out.f3)); (try (have la := N_a.out.lt; have lna := Nat.ne_of_lt la; have lma := Nat.ne_of_gt la)); (try (have lb := N_b.out.lt; have lnb := Nat.ne_of_lt lb; have lmb := Nat.ne_of_gt lb)); (try (have lc := N_c.out.lt; have lnc := Nat.ne_of_lt lc; have lmc := Nat.ne_of_gt lc)); (try (have ld := N_d.out.lt; have lnd := Nat.ne_of_lt ld; have lmd := Nat.ne_of_gt ld)); (try (have lba := Nat.ne_of_lt LWa.out; have lca := Nat.ne_of_gt LWa.out)); (try (have lbc := Nat.ne_of_lt LWc.out; have lcc := Nat.ne_of_gt LWc.out)); have tk1x2 : True := trivial))) | fail
    all_goals go_wp2_with fail
    all_goals go_meet
    all_goals (first | (with_reducible exact fin1Q V_x.out V_y.out HC.out (keptQ_Qc _ _) (keptQ_Qc _ _)) | (with_reducible exact fin1bQ V_x.out V_y.out HC.out (keptQ_Qc _ _) (keptQ_Qc _ _)) | (with_reducible exact fin2xQ V_x.out V_y.out HC.out (keptQ_Qc _ _) (keptQ_Qc _ _) N_a.out (by omega)) | (with_reducible exact fin2bxQ V_x.out V_y.out HC.out (keptQ_Qc _ _) (keptQ_Qc _ _) N_a.out (by omega)) | (with_reducible exact fin2xQ V_x.out V_y.out HC.out (keptQ_Qc _ _) (keptQ_Qc _ _) N_c.out (by omega)) | (with_reducible exact fin2bxQ V_x.out V_y.out HC.out (keptQ_Qc _ _) (keptQ_Qc _ _) N_c.out (by omega)) | (with_reducible exact fin3xQ V_x.out V_y.out HC.out (keptQ_Qc _ _) (keptQ_Qc _ _) N_a.out N_b.out (by omega) (by omega) (by omega)) | (with_reducible exact fin3xQ V_x.out V_y.out HC.out (keptQ_Qc _ _) (keptQ_Qc _ _) N_a.out N_c.out (by omega) (by omega) (by omega)) | (with_reducible exact fin3xQ V_x.out V_y.out HC.out (keptQ_Qc _ _) (keptQ_Qc _ _) N_b.out N_c.out (by omega) (by omega) (by omega)) | (with_reducible exact fin3xQ V_x.out V_y.out HC.out (keptQ_Qc _ _) (keptQ_Qc _ _) N_c.out N_d.out (by omega) (by omega) (by omega)) | (with_reducible exact fin3xQ V_x.out V_y.out HC.out (keptQ_Qc _ _) (keptQ_Qc _ _) N_b.out N_a.out (by omega) (by omega) (by omega)) | (with_reducible exact fin3xQ V_x.out V_y.out HC.out (keptQ_Qc _ _) (keptQ_Qc _ _) N_c.out N_a.out (by omega) (by omega) (by omega)) | (with_reducible exact fin3xQ V_x.out V_y.out HC.out (keptQ_Qc _ _) (keptQ_Qc _ _) N_c.out N_b.out (by omega) (by omega) (by omega)) | (with_reducible exact fin3xQ V_x.out V_y.out HC.out (keptQ_Qc _ _) (keptQ_Qc _ _) N_d.out N_c.out (by omega) (by omega) (by omega)))
  case rest =>
    rename World => wcx
    obtain ⟨px, py, sx, Ax, kx, cx, tx, Cx, lx, dx, sy, Ay, ky, cy, ty, Cy, ly, dy, rfl, rfl, hnex, hgex, hgey, bqx, bqy, vqx, vqy, bb⟩ := hcut
    replace B_a := Lib.hid (Box4.below B_a.out bb B_a.out.lt)
    replace B_b := Lib.hid (Box4.below B_b.out bb B_b.out.lt)
    replace B_g := Lib.hid (Box4.below B_g.out bb B_g.out.lt)
    replace B_h := Lib.hid (Box4.below B_h.out bb B_h.out.lt)
    replace B_r := Lib.hid (Box4.below B_r.out bb B_r.out.lt)
    replace V_a := Lib.hid (Qd.below V_a.out bb)
    replace V_b := Lib.hid (Qd.below V_b.out bb)
    replace V_g := Lib.hid (Qd.below V_g.out bb)
    replace V_h := Lib.hid (Qd.below V_h.out bb)
    replace HB := Lib.hid (nextw HB.out bb)
    have Z6x := Lib.hid hgex
    have Z7y := Lib.hid hgey
    clear bb hnex hgex hgey
    have B_x := Lib.hid bqx
    have B_y := Lib.hid bqy
    have V_x := Lib.hid vqx
    have V_y := Lib.hid vqy
    clear bqx bqy vqx vqy
    clear V_a V_b V_g V_h B_a B_b B_g B_h
    have c0x := B_x.out.c0
    have c1x := B_x.out.c1
    have c2x := B_x.out.c2
    have c3x := B_x.out.c3
    have f0x := B_x.out.f0
    have f1x := B_x.out.f1
    have f2x := B_x.out.f2
    have f3x := B_x.out.f3
    have c0y := B_y.out.c0
    have c1y := B_y.out.c1
    have c2y := B_y.out.c2
    have c3y := B_y.out.c3
    have f0y := B_y.out.f0
    have f1y := B_y.out.f1
    have f2y := B_y.out.f2
    have f3y := B_y.out.f3
    have c0r := B_r.out.c0
    have c1r := B_r.out.c1
    have c2r := B_r.out.c2
    have c3r := B_r.out.c3
    have f0r := B_r.out.f0
    have f1r := B_r.out.f1
    have f2r := B_r.out.f2
    have f3r := B_r.out.f3
    go_wp2
    have c0x := B_x.out.c0
    have c1x := B_x.out.c1
    have c2x := B_x.out.c2
    have c3x := B_x.out.c3
    have c0y := B_y.out.c0
    have c1y := B_y.out.c1
    have c2y := B_y.out.c2
    have c3y := B_y.out.c3
    have z1a := Z1a.out
    have z2b := Z2b.out
    have z3g := Z3g.out
    have z4h := Z4h.out
    have z5r := Z5r.out
    have z6x := Z6x.out
    have z7y := Z7y.out
    have tk2x0 : True := trivial
    first | (go_region_held3 (fun w' => w'.cell? ⟨px, 0, none⟩ = some (.bool sx) ∧ w'.cell? ⟨px, 1, none⟩ = some (.slice Ax kx cx) ∧ w'.cell? ⟨px, 2, none⟩ = some (.bool tx) ∧ w'.cell? ⟨px, 3, none⟩ = some (.slice Cx lx dx) ∧ w'.cell? ⟨py, 0, none⟩ = some (.bool sy) ∧ w'.cell? ⟨py, 1, none⟩ = some (.slice Ay ky cy) ∧ w'.cell? ⟨py, 2, none⟩ = some (.bool ty) ∧ w'.cell? ⟨py, 3, none⟩ = some (.slice Cy ly dy)) (((try dsimp only); (repeat' apply And.intro) <;> (first | (with_reducible assumption) | ((repeat (first | (with_reducible refine Eq.trans (cell_drew1 _ _) ?_) | (with_reducible refine Eq.trans (cell_set4 (by omega) _ _ _ _) ?_))); with_reducible assumption) | assumption | go_keep)))
    (first
      | (clear tk2x0; go_at_call 22; refine (Mul_q (Qc.qd (Qc.below V_x.out (by exact ⟨rfl, rfl, rfl, Nat.le_refl _, fun _ _ => rfl⟩))) (Qc.qd (Qc.below V_x.out (by exact ⟨rfl, rfl, rfl, Nat.le_refl _, fun _ _ => rfl⟩))) (by omega) (by omega)).mono ?_; rintro e w3 ⟨vm1, rfl, rm1, bb⟩; replace bb := nextw (w0 := wcx) (by exact ⟨rfl, rfl, rfl, Nat.le_refl _, fun _ _ => rfl⟩) bb; clear V_x; replace B_r := Lib.hid (Box4.below B_r.out bb B_r.out.lt); replace B_x := Lib.hid (Box4.below B_x.out bb B_x.out.lt); replace B_y := Lib.hid (Box4.below B_y.out bb B_y.out.lt); replace V_y := Lib.hid (Qc.below V_y.out bb); replace HB := Lib.hid (nextw HB.out bb); clear bb; replace rm1 := Lib.hid rm1; have V_m1 := rm1; clear rm1; clear c0x c1x c2x c3x c0y c1y c2y c3y; have c0x := B_x.out.c0; have c1x := B_x.out.c1; have c2x := B_x.out.c2; have c3x := B_x.out.c3; have c0y := B_y.out.c0; have c1y := B_y.out.c1; have c2y := B_y.out.c2; have c3y := B_y.out.c3; have tk2x1 : True := trivial)
      | (clear tk2x1; go_at_call 22; refine (Mul_q (Qc.qd (Qc.below V_y.out (by exact ⟨rfl, rfl, rfl, Nat.le_refl _, fun _ _ => rfl⟩))) (Qc.qd (Qc.below V_y.out (by exact ⟨rfl, rfl, rfl, Nat.le_refl _, fun _ _ => rfl⟩))) (by omega) (by omega)).mono ?_; rintro e w4 ⟨vm2, rfl, rm2, bb⟩; replace bb := nextw (w0 := w3) (by exact ⟨rfl, rfl, rfl, Nat.le_refl _, fun _ _ => rfl⟩) bb; clear V_y; replace B_r := Lib.hid (Box4.below B_r.out bb B_r.out.lt); replace B_x := Lib.hid (Box4.below B_x.out bb B_x.out.lt); replace B_y := Lib.hid (Box4.below B_y.out bb B_y.out.lt); replace V_m1 := Lib.hid (Qc.below V_m1.out bb); replace HB := Lib.hid (nextw HB.out bb); clear bb; replace rm2 := Lib.hid rm2; have V_m2 := rm2; clear rm2; clear c0x c1x c2x c3x c0y c1y c2y c3y; have c0x := B_x.out.c0; have c1x := B_x.out.c1; have c2x := B_x.out.c2; have c3x := B_x.out.c3; have c0y := B_y.out.c0; have c1y := B_y.out.c1; have c2y := B_y.out.c2; have c3y := B_y.out.c3; have tk2x2 : True := trivial)
      | (clear tk2x2; go_at_call 21; refine (Add_qt (Qc.qd (Qc.below V_m1.out (by exact ⟨rfl, rfl, rfl, Nat.le_refl _, fun _ _ => rfl⟩))) (Qc.qd (Qc.below V_m2.out (by exact ⟨rfl, rfl, rfl, Nat.le_refl _, fun _ _ => rfl⟩))) (by omega) (by omega) (by omega) (by omega)).mono ?_; rintro e w5 ⟨ve1, rfl, re1, bb⟩; replace bb := nextw (w0 := w4) (by exact ⟨rfl, rfl, rfl, Nat.le_refl _, fun _ _ => rfl⟩) bb; clear V_m1 V_m2; replace B_r := Lib.hid (Box4.below B_r.out bb B_r.out.lt); replace B_x := Lib.hid (Box4.below B_x.out bb B_x.out.lt); replace B_y := Lib.hid (Box4.below B_y.out bb B_y.out.lt); replace HB := Lib.hid (nextw HB.out bb); clear bb; replace re1 := Lib.hid re1; have V_e1 := re1; clear re1; obtain ⟨se1, Ae1, ke1, ce1, te1, Ce1, le1, de1, rfl⟩ := V_e1.out.shape; have c0r := B_r.out.c0; have c1r := B_r.out.c1; have c2r := B_r.out.c2; have c3r := B_r.out.c3; have f0r := B_r.out.f0; have f1r := B_r.out.f1; have f2r := B_r.out.f2; have f3r := B_r.out.f3; clear c0x c1x c2x c3x c0y c1y c2y c3y; have c0x := B_x.out.c0; have c1x := B_x.out.c1; have c2x := B_x.out.c2; have c3x := B_x.out.c3; have c0y := B_y.out.c0; have c1y := B_y.out.c1; have c2y := B_y.out.c2; have c3y := B_y.out.c3; have tk2x3 : True := trivial))) | fail
    all_goals (clear z1a z2b z3g z4h z5r z6x z7y)
    all_goals
      skip
      have K_e1 := V_e1
      replace K_e1 := Lib.hid (Box4.keepsQc B_r.out K_e1.out (.bool se1) (.slice Ae1 ke1 ce1) (.bool te1) (.slice Ce1 le1 de1))
      have HB1 := Lib.hid (Below.store4 HB.out (y := w.heap.size + 1 + 1 + 1 + 1) (by omega) (.bool se1) (.slice Ae1 ke1 ce1) (.bool te1) (.slice Ce1 le1 de1))
      have N0r := Lib.hid (Box4.store B_r.out se1 (.slice Ae1 ke1 ce1) te1 (.slice Ce1 le1 de1))
      have s0r := N0r.out.c0
      have s1r := N0r.out.c1
      have s2r := N0r.out.c2
      have s3r := N0r.out.c3
      simp only [st4] at s0r s1r s2r s3r
      have HBF := HB1
      have c0r := B_r.out.c0
      have c1r := B_r.out.c1
      have c2r := B_r.out.c2
      have c3r := B_r.out.c3
      have f0r := B_r.out.f0
      have f1r := B_r.out.f1
      have f2r := B_r.out.f2
      have f3r := B_r.out.f3
      go_wp2_with fail
      exact bodyPost_ret (v := .agg #[.bool se1, (.slice Ae1 ke1 ce1), .bool te1, (.slice Ce1 le1 de1)]) (by simp [results, Tryz.results32, go_sem, s0r, s1r, s2r, s3r]) rfl ⟨_, rfl, (Qc.below K_e1.out (by exact ⟨rfl, rfl, rfl, Nat.le_refl _, fun _ _ => rfl⟩)).more (by omega), (nextw HBF.out (by exact ⟨rfl, rfl, rfl, Nat.le_refl _, fun _ _ => rfl⟩))⟩

set_option maxRecDepth 100000 in
set_option maxHeartbeats 4000000 in
theorem light_yes {str : Bool} {Atr : Option Addr} {ktr ctr : Nat} {ttr : Bool} {Ctr : Option Addr} {ltr dtr : Nat} {stx : Bool} {Atx : Option Addr} {ktx ctx : Nat} {ttx : Bool} {Ctx : Option Addr} {ltx dtx : Nat} {sty : Bool} {Aty : Option Addr} {kty cty : Nat} {tty : Bool} {Cty : Option Addr} {lty dty : Nat} {w : World} (gr : ktr ≤ 12 ∧ ltr ≤ 12) (gx : ktx ≤ 12 ∧ ltx ≤ 12) (gy : kty ≤ 12 ∧ lty ≤ 12) :
    Calls Tryz.prog 25 #[.agg #[.bool str, .slice Atr ktr ctr, .bool ttr, .slice Ctr ltr dtr, .bool stx, .slice Atx ktx ctx, .bool ttx, .slice Ctx ltx dtx, .bool sty, .slice Aty kty cty, .bool tty, .slice Cty lty dty]] w fun e w' => e = .returned (.bool true) ∧ Below w.heap.size w w' := by
  have Hgr := Lib.hid gr
  clear gr
  have Hgx := Lib.hid gx
  clear gx
  have Hgy := Lib.hid gy
  clear gy
  have hb0 : Below w.heap.size w (w.alloc (.cells #[.bool str, (.slice Atr ktr ctr), .bool ttr, (.slice Ctr ltr dtr), .bool stx, (.slice Atx ktx ctx), .bool ttx, (.slice Ctx ltx dtx), .bool sty, (.slice Aty kty cty), .bool tty, (.slice Cty lty dty)] 44)) := (Below.alloc (Below.refl w.heap.size w) (by simp <;> omega) _)
  have B_t : Box12 (w.alloc (.cells #[.bool str, (.slice Atr ktr ctr), .bool ttr, (.slice Ctr ltr dtr), .bool stx, (.slice Atx ktx ctx), .bool ttx, (.slice Ctx ltx dtx), .bool sty, (.slice Aty kty cty), .bool tty, (.slice Cty lty dty)] 44)) (w.heap.size) str (.slice Atr ktr ctr) ttr (.slice Ctr ltr dtr) stx (.slice Atx ktx ctx) ttx (.slice Ctx ltx dtx) sty (.slice Aty kty cty) tty (.slice Cty lty dty) := by have h := Box12.new w str (.slice Atr ktr ctr) ttr (.slice Ctr ltr dtr) stx (.slice Atx ktx ctx) ttx (.slice Ctx ltx dtx) sty (.slice Aty kty cty) tty (.slice Cty lty dty); simpa using h
  replace B_t := Lib.hid B_t
  have HB := Lib.hid hb0
  clear hb0
  have c0t := B_t.out.c0
  have c1t := B_t.out.c1
  have c2t := B_t.out.c2
  have c3t := B_t.out.c3
  have c4t := B_t.out.c4
  have c5t := B_t.out.c5
  have c6t := B_t.out.c6
  have c7t := B_t.out.c7
  have c8t := B_t.out.c8
  have c9t := B_t.out.c9
  have c10t := B_t.out.c10
  have c11t := B_t.out.c11
  go_enter Tryz.func25, Tryz.ntmps25
  go_wp2_with fail
  clear c0t c1t c2t c3t c4t c5t c6t c7t c8t c9t c10t c11t
  generalize w.alloc (.cells #[.bool str, (.slice Atr ktr ctr), .bool ttr, (.slice Ctr ltr dtr), .bool stx, (.slice Atx ktx ctx), .bool ttx, (.slice Ctx ltx dtx), .bool sty, (.slice Aty kty cty), .bool tty, (.slice Cty lty dty)] 44) = W0 at *
  refine (small_yes Hgr.out.1 Hgr.out.2).mono ?_
  rintro e w1 ⟨rfl, bb⟩
  replace bb := nextw (w0 := W0) (by exact ⟨rfl, rfl, rfl, Nat.le_refl _, fun _ _ => rfl⟩) bb
  replace B_t := Lib.hid (Box12.below B_t.out bb B_t.out.lt)
  replace HB := Lib.hid (nextw HB.out bb)
  clear bb
  have c0t := B_t.out.c0
  have c1t := B_t.out.c1
  have c2t := B_t.out.c2
  have c3t := B_t.out.c3
  have c4t := B_t.out.c4
  have c5t := B_t.out.c5
  have c6t := B_t.out.c6
  have c7t := B_t.out.c7
  have c8t := B_t.out.c8
  have c9t := B_t.out.c9
  have c10t := B_t.out.c10
  have c11t := B_t.out.c11
  go_wp2_with fail
  refine (short_yes Hgx.out.1 Hgx.out.2).mono ?_
  rintro e w2 ⟨rfl, bb⟩
  replace bb := nextw (w0 := w1) (by exact ⟨rfl, rfl, rfl, Nat.le_refl _, fun _ _ => rfl⟩) bb
  clear c0t c1t c2t c3t c4t c5t c6t c7t c8t c9t c10t c11t
  replace B_t := Lib.hid (Box12.below B_t.out bb B_t.out.lt)
  replace HB := Lib.hid (nextw HB.out bb)
  clear bb
  have c0t := B_t.out.c0
  have c1t := B_t.out.c1
  have c2t := B_t.out.c2
  have c3t := B_t.out.c3
  have c4t := B_t.out.c4
  have c5t := B_t.out.c5
  have c6t := B_t.out.c6
  have c7t := B_t.out.c7
  have c8t := B_t.out.c8
  have c9t := B_t.out.c9
  have c10t := B_t.out.c10
  have c11t := B_t.out.c11
  go_wp2_with fail
  refine (short_yes Hgy.out.1 Hgy.out.2).mono ?_
  rintro e w3 ⟨rfl, bb⟩
  replace bb := nextw (w0 := w2) (by exact ⟨rfl, rfl, rfl, Nat.le_refl _, fun _ _ => rfl⟩) bb
  clear c0t c1t c2t c3t c4t c5t c6t c7t c8t c9t c10t c11t
  replace B_t := Lib.hid (Box12.below B_t.out bb B_t.out.lt)
  replace HB := Lib.hid (nextw HB.out bb)
  clear bb
  have c0t := B_t.out.c0
  have c1t := B_t.out.c1
  have c2t := B_t.out.c2
  have c3t := B_t.out.c3
  have c4t := B_t.out.c4
  have c5t := B_t.out.c5
  have c6t := B_t.out.c6
  have c7t := B_t.out.c7
  have c8t := B_t.out.c8
  have c9t := B_t.out.c9
  have c10t := B_t.out.c10
  have c11t := B_t.out.c11
  have HBo := HB.out
  go_wp2
  go_ret
  exact ⟨rfl, nextw HBo (by exact ⟨rfl, rfl, rfl, Nat.le_refl _, fun _ _ => rfl⟩)⟩

set_option maxRecDepth 100000 in
set_option maxHeartbeats 4000000 in
theorem light_no0 {str : Bool} {Atr : Option Addr} {ktr ctr : Nat} {ttr : Bool} {Ctr : Option Addr} {ltr dtr : Nat} {stx : Bool} {Atx : Option Addr} {ktx ctx : Nat} {ttx : Bool} {Ctx : Option Addr} {ltx dtx : Nat} {sty : Bool} {Aty : Option Addr} {kty cty : Nat} {tty : Bool} {Cty : Option Addr} {lty dty : Nat} {w : World} (mr : ktr ≤ 9223372036854775807 ∧ ltr ≤ 9223372036854775807) (gr : ¬ (ktr ≤ 12 ∧ ltr ≤ 12)) :
    Calls Tryz.prog 25 #[.agg #[.bool str, .slice Atr ktr ctr, .bool ttr, .slice Ctr ltr dtr, .bool stx, .slice Atx ktx ctx, .bool ttx, .slice Ctx ltx dtx, .bool sty, .slice Aty kty cty, .bool tty, .slice Cty lty dty]] w fun e w' => e = .returned (.bool false) ∧ Below w.heap.size w w' := by
  have Hmr := Lib.hid mr
  clear mr
  have Hgr := Lib.hid gr
  clear gr
  have hb0 : Below w.heap.size w (w.alloc (.cells #[.bool str, (.slice Atr ktr ctr), .bool ttr, (.slice Ctr ltr dtr), .bool stx, (.slice Atx ktx ctx), .bool ttx, (.slice Ctx ltx dtx), .bool sty, (.slice Aty kty cty), .bool tty, (.slice Cty lty dty)] 44)) := (Below.alloc (Below.refl w.heap.size w) (by simp <;> omega) _)
  have B_t : Box12 (w.alloc (.cells #[.bool str, (.slice Atr ktr ctr), .bool ttr, (.slice Ctr ltr dtr), .bool stx, (.slice Atx ktx ctx), .bool ttx, (.slice Ctx ltx dtx), .bool sty, (.slice Aty kty cty), .bool tty, (.slice Cty lty dty)] 44)) (w.heap.size) str (.slice Atr ktr ctr) ttr (.slice Ctr ltr dtr) stx (.slice Atx ktx ctx) ttx (.slice Ctx ltx dtx) sty (.slice Aty kty cty) tty (.slice Cty lty dty) := by have h := Box12.new w str (.slice Atr ktr ctr) ttr (.slice Ctr ltr dtr) stx (.slice Atx ktx ctx) ttx (.slice Ctx ltx dtx) sty (.slice Aty kty cty) tty (.slice Cty lty dty); simpa using h
  replace B_t := Lib.hid B_t
  have HB := Lib.hid hb0
  clear hb0
  have c0t := B_t.out.c0
  have c1t := B_t.out.c1
  have c2t := B_t.out.c2
  have c3t := B_t.out.c3
  have c4t := B_t.out.c4
  have c5t := B_t.out.c5
  have c6t := B_t.out.c6
  have c7t := B_t.out.c7
  have c8t := B_t.out.c8
  have c9t := B_t.out.c9
  have c10t := B_t.out.c10
  have c11t := B_t.out.c11
  go_enter Tryz.func25, Tryz.ntmps25
  go_wp2_with fail
  clear c0t c1t c2t c3t c4t c5t c6t c7t c8t c9t c10t c11t
  generalize w.alloc (.cells #[.bool str, (.slice Atr ktr ctr), .bool ttr, (.slice Ctr ltr dtr), .bool stx, (.slice Atx ktx ctx), .bool ttx, (.slice Ctx ltx dtx), .bool sty, (.slice Aty kty cty), .bool tty, (.slice Cty lty dty)] 44) = W0 at *
  refine (small_no Hmr.out.1 Hmr.out.2 Hgr.out).mono ?_
  rintro e w1 ⟨rfl, bb⟩
  replace bb := nextw (w0 := W0) (by exact ⟨rfl, rfl, rfl, Nat.le_refl _, fun _ _ => rfl⟩) bb
  replace B_t := Lib.hid (Box12.below B_t.out bb B_t.out.lt)
  replace HB := Lib.hid (nextw HB.out bb)
  clear bb
  have c0t := B_t.out.c0
  have c1t := B_t.out.c1
  have c2t := B_t.out.c2
  have c3t := B_t.out.c3
  have c4t := B_t.out.c4
  have c5t := B_t.out.c5
  have c6t := B_t.out.c6
  have c7t := B_t.out.c7
  have c8t := B_t.out.c8
  have c9t := B_t.out.c9
  have c10t := B_t.out.c10
  have c11t := B_t.out.c11
  have HBo := HB.out
  go_wp2
  go_ret
  exact ⟨rfl, nextw HBo (by exact ⟨rfl, rfl, rfl, Nat.le_refl _, fun _ _ => rfl⟩)⟩

set_option maxRecDepth 100000 in
set_option maxHeartbeats 4000000 in
theorem light_no1 {str : Bool} {Atr : Option Addr} {ktr ctr : Nat} {ttr : Bool} {Ctr : Option Addr} {ltr dtr : Nat} {stx : Bool} {Atx : Option Addr} {ktx ctx : Nat} {ttx : Bool} {Ctx : Option Addr} {ltx dtx : Nat} {sty : Bool} {Aty : Option Addr} {kty cty : Nat} {tty : Bool} {Cty : Option Addr} {lty dty : Nat} {w : World} (gr : ktr ≤ 12 ∧ ltr ≤ 12) (mx : ktx ≤ 9223372036854775807 ∧ ltx ≤ 9223372036854775807) (gx : ¬ (ktx ≤ 12 ∧ ltx ≤ 12)) :
    Calls Tryz.prog 25 #[.agg #[.bool str, .slice Atr ktr ctr, .bool ttr, .slice Ctr ltr dtr, .bool stx, .slice Atx ktx ctx, .bool ttx, .slice Ctx ltx dtx, .bool sty, .slice Aty kty cty, .bool tty, .slice Cty lty dty]] w fun e w' => e = .returned (.bool false) ∧ Below w.heap.size w w' := by
  have Hgr := Lib.hid gr
  clear gr
  have Hmx := Lib.hid mx
  clear mx
  have Hgx := Lib.hid gx
  clear gx
  have hb0 : Below w.heap.size w (w.alloc (.cells #[.bool str, (.slice Atr ktr ctr), .bool ttr, (.slice Ctr ltr dtr), .bool stx, (.slice Atx ktx ctx), .bool ttx, (.slice Ctx ltx dtx), .bool sty, (.slice Aty kty cty), .bool tty, (.slice Cty lty dty)] 44)) := (Below.alloc (Below.refl w.heap.size w) (by simp <;> omega) _)
  have B_t : Box12 (w.alloc (.cells #[.bool str, (.slice Atr ktr ctr), .bool ttr, (.slice Ctr ltr dtr), .bool stx, (.slice Atx ktx ctx), .bool ttx, (.slice Ctx ltx dtx), .bool sty, (.slice Aty kty cty), .bool tty, (.slice Cty lty dty)] 44)) (w.heap.size) str (.slice Atr ktr ctr) ttr (.slice Ctr ltr dtr) stx (.slice Atx ktx ctx) ttx (.slice Ctx ltx dtx) sty (.slice Aty kty cty) tty (.slice Cty lty dty) := by have h := Box12.new w str (.slice Atr ktr ctr) ttr (.slice Ctr ltr dtr) stx (.slice Atx ktx ctx) ttx (.slice Ctx ltx dtx) sty (.slice Aty kty cty) tty (.slice Cty lty dty); simpa using h
  replace B_t := Lib.hid B_t
  have HB := Lib.hid hb0
  clear hb0
  have c0t := B_t.out.c0
  have c1t := B_t.out.c1
  have c2t := B_t.out.c2
  have c3t := B_t.out.c3
  have c4t := B_t.out.c4
  have c5t := B_t.out.c5
  have c6t := B_t.out.c6
  have c7t := B_t.out.c7
  have c8t := B_t.out.c8
  have c9t := B_t.out.c9
  have c10t := B_t.out.c10
  have c11t := B_t.out.c11
  go_enter Tryz.func25, Tryz.ntmps25
  go_wp2_with fail
  clear c0t c1t c2t c3t c4t c5t c6t c7t c8t c9t c10t c11t
  generalize w.alloc (.cells #[.bool str, (.slice Atr ktr ctr), .bool ttr, (.slice Ctr ltr dtr), .bool stx, (.slice Atx ktx ctx), .bool ttx, (.slice Ctx ltx dtx), .bool sty, (.slice Aty kty cty), .bool tty, (.slice Cty lty dty)] 44) = W0 at *
  refine (small_yes Hgr.out.1 Hgr.out.2).mono ?_
  rintro e w1 ⟨rfl, bb⟩
  replace bb := nextw (w0 := W0) (by exact ⟨rfl, rfl, rfl, Nat.le_refl _, fun _ _ => rfl⟩) bb
  replace B_t := Lib.hid (Box12.below B_t.out bb B_t.out.lt)
  replace HB := Lib.hid (nextw HB.out bb)
  clear bb
  have c0t := B_t.out.c0
  have c1t := B_t.out.c1
  have c2t := B_t.out.c2
  have c3t := B_t.out.c3
  have c4t := B_t.out.c4
  have c5t := B_t.out.c5
  have c6t := B_t.out.c6
  have c7t := B_t.out.c7
  have c8t := B_t.out.c8
  have c9t := B_t.out.c9
  have c10t := B_t.out.c10
  have c11t := B_t.out.c11
  go_wp2_with fail
  refine (short_no Hmx.out.1 Hmx.out.2 Hgx.out).mono ?_
  rintro e w2 ⟨rfl, bb⟩
  replace bb := nextw (w0 := w1) (by exact ⟨rfl, rfl, rfl, Nat.le_refl _, fun _ _ => rfl⟩) bb
  clear c0t c1t c2t c3t c4t c5t c6t c7t c8t c9t c10t c11t
  replace B_t := Lib.hid (Box12.below B_t.out bb B_t.out.lt)
  replace HB := Lib.hid (nextw HB.out bb)
  clear bb
  have c0t := B_t.out.c0
  have c1t := B_t.out.c1
  have c2t := B_t.out.c2
  have c3t := B_t.out.c3
  have c4t := B_t.out.c4
  have c5t := B_t.out.c5
  have c6t := B_t.out.c6
  have c7t := B_t.out.c7
  have c8t := B_t.out.c8
  have c9t := B_t.out.c9
  have c10t := B_t.out.c10
  have c11t := B_t.out.c11
  have HBo := HB.out
  go_wp2
  go_ret
  exact ⟨rfl, nextw HBo (by exact ⟨rfl, rfl, rfl, Nat.le_refl _, fun _ _ => rfl⟩)⟩

set_option maxRecDepth 100000 in
set_option maxHeartbeats 4000000 in
theorem light_no2 {str : Bool} {Atr : Option Addr} {ktr ctr : Nat} {ttr : Bool} {Ctr : Option Addr} {ltr dtr : Nat} {stx : Bool} {Atx : Option Addr} {ktx ctx : Nat} {ttx : Bool} {Ctx : Option Addr} {ltx dtx : Nat} {sty : Bool} {Aty : Option Addr} {kty cty : Nat} {tty : Bool} {Cty : Option Addr} {lty dty : Nat} {w : World} (gr : ktr ≤ 12 ∧ ltr ≤ 12) (gx : ktx ≤ 12 ∧ ltx ≤ 12) (my : kty ≤ 9223372036854775807 ∧ lty ≤ 9223372036854775807) (gy : ¬ (kty ≤ 12 ∧ lty ≤ 12)) :
    Calls Tryz.prog 25 #[.agg #[.bool str, .slice Atr ktr ctr, .bool ttr, .slice Ctr ltr dtr, .bool stx, .slice Atx ktx ctx, .bool ttx, .slice Ctx ltx dtx, .bool sty, .slice Aty kty cty, .bool tty, .slice Cty lty dty]] w fun e w' => e = .returned (.bool false) ∧ Below w.heap.size w w' := by
  have Hgr := Lib.hid gr
  clear gr
  have Hgx := Lib.hid gx
  clear gx
  have Hmy := Lib.hid my
  clear my
  have Hgy := Lib.hid gy
  clear gy
  have hb0 : Below w.heap.size w (w.alloc (.cells #[.bool str, (.slice Atr ktr ctr), .bool ttr, (.slice Ctr ltr dtr), .bool stx, (.slice Atx ktx ctx), .bool ttx, (.slice Ctx ltx dtx), .bool sty, (.slice Aty kty cty), .bool tty, (.slice Cty lty dty)] 44)) := (Below.alloc (Below.refl w.heap.size w) (by simp <;> omega) _)
  have B_t : Box12 (w.alloc (.cells #[.bool str, (.slice Atr ktr ctr), .bool ttr, (.slice Ctr ltr dtr), .bool stx, (.slice Atx ktx ctx), .bool ttx, (.slice Ctx ltx dtx), .bool sty, (.slice Aty kty cty), .bool tty, (.slice Cty lty dty)] 44)) (w.heap.size) str (.slice Atr ktr ctr) ttr (.slice Ctr ltr dtr) stx (.slice Atx ktx ctx) ttx (.slice Ctx ltx dtx) sty (.slice Aty kty cty) tty (.slice Cty lty dty) := by have h := Box12.new w str (.slice Atr ktr ctr) ttr (.slice Ctr ltr dtr) stx (.slice Atx ktx ctx) ttx (.slice Ctx ltx dtx) sty (.slice Aty kty cty) tty (.slice Cty lty dty); simpa using h
  replace B_t := Lib.hid B_t
  have HB := Lib.hid hb0
  clear hb0
  have c0t := B_t.out.c0
  have c1t := B_t.out.c1
  have c2t := B_t.out.c2
  have c3t := B_t.out.c3
  have c4t := B_t.out.c4
  have c5t := B_t.out.c5
  have c6t := B_t.out.c6
  have c7t := B_t.out.c7
  have c8t := B_t.out.c8
  have c9t := B_t.out.c9
  have c10t := B_t.out.c10
  have c11t := B_t.out.c11
  go_enter Tryz.func25, Tryz.ntmps25
  go_wp2_with fail
  clear c0t c1t c2t c3t c4t c5t c6t c7t c8t c9t c10t c11t
  generalize w.alloc (.cells #[.bool str, (.slice Atr ktr ctr), .bool ttr, (.slice Ctr ltr dtr), .bool stx, (.slice Atx ktx ctx), .bool ttx, (.slice Ctx ltx dtx), .bool sty, (.slice Aty kty cty), .bool tty, (.slice Cty lty dty)] 44) = W0 at *
  refine (small_yes Hgr.out.1 Hgr.out.2).mono ?_
  rintro e w1 ⟨rfl, bb⟩
  replace bb := nextw (w0 := W0) (by exact ⟨rfl, rfl, rfl, Nat.le_refl _, fun _ _ => rfl⟩) bb
  replace B_t := Lib.hid (Box12.below B_t.out bb B_t.out.lt)
  replace HB := Lib.hid (nextw HB.out bb)
  clear bb
  have c0t := B_t.out.c0
  have c1t := B_t.out.c1
  have c2t := B_t.out.c2
  have c3t := B_t.out.c3
  have c4t := B_t.out.c4
  have c5t := B_t.out.c5
  have c6t := B_t.out.c6
  have c7t := B_t.out.c7
  have c8t := B_t.out.c8
  have c9t := B_t.out.c9
  have c10t := B_t.out.c10
  have c11t := B_t.out.c11
  go_wp2_with fail
  refine (short_yes Hgx.out.1 Hgx.out.2).mono ?_
  rintro e w2 ⟨rfl, bb⟩
  replace bb := nextw (w0 := w1) (by exact ⟨rfl, rfl, rfl, Nat.le_refl _, fun _ _ => rfl⟩) bb
  clear c0t c1t c2t c3t c4t c5t c6t c7t c8t c9t c10t c11t
  replace B_t := Lib.hid (Box12.below B_t.out bb B_t.out.lt)
  replace HB := Lib.hid (nextw HB.out bb)
  clear bb
  have c0t := B_t.out.c0
  have c1t := B_t.out.c1
  have c2t := B_t.out.c2
  have c3t := B_t.out.c3
  have c4t := B_t.out.c4
  have c5t := B_t.out.c5
  have c6t := B_t.out.c6
  have c7t := B_t.out.c7
  have c8t := B_t.out.c8
  have c9t := B_t.out.c9
  have c10t := B_t.out.c10
  have c11t := B_t.out.c11
  go_wp2_with fail
  refine (short_no Hmy.out.1 Hmy.out.2 Hgy.out).mono ?_
  rintro e w3 ⟨rfl, bb⟩
  replace bb := nextw (w0 := w2) (by exact ⟨rfl, rfl, rfl, Nat.le_refl _, fun _ _ => rfl⟩) bb
  clear c0t c1t c2t c3t c4t c5t c6t c7t c8t c9t c10t c11t
  replace B_t := Lib.hid (Box12.below B_t.out bb B_t.out.lt)
  replace HB := Lib.hid (nextw HB.out bb)
  clear bb
  have c0t := B_t.out.c0
  have c1t := B_t.out.c1
  have c2t := B_t.out.c2
  have c3t := B_t.out.c3
  have c4t := B_t.out.c4
  have c5t := B_t.out.c5
  have c6t := B_t.out.c6
  have c7t := B_t.out.c7
  have c8t := B_t.out.c8
  have c9t := B_t.out.c9
  have c10t := B_t.out.c10
  have c11t := B_t.out.c11
  have HBo := HB.out
  go_wp2
  go_ret
  exact ⟨rfl, nextw HBo (by exact ⟨rfl, rfl, rfl, Nat.le_refl _, fun _ _ => rfl⟩)⟩

theorem light_no {str : Bool} {Atr : Option Addr} {ktr ctr : Nat} {ttr : Bool} {Ctr : Option Addr} {ltr dtr : Nat} {stx : Bool} {Atx : Option Addr} {ktx ctx : Nat} {ttx : Bool} {Ctx : Option Addr} {ltx dtx : Nat} {sty : Bool} {Aty : Option Addr} {kty cty : Nat} {tty : Bool} {Cty : Option Addr} {lty dty : Nat} {w : World} (mr : ktr ≤ 9223372036854775807 ∧ ltr ≤ 9223372036854775807) (mx : ktx ≤ 9223372036854775807 ∧ ltx ≤ 9223372036854775807) (my : kty ≤ 9223372036854775807 ∧ lty ≤ 9223372036854775807) (g : ¬ ((ktr ≤ 12 ∧ ltr ≤ 12) ∧ (ktx ≤ 12 ∧ ltx ≤ 12) ∧ (kty ≤ 12 ∧ lty ≤ 12))) :
    Calls Tryz.prog 25 #[.agg #[.bool str, .slice Atr ktr ctr, .bool ttr, .slice Ctr ltr dtr, .bool stx, .slice Atx ktx ctx, .bool ttx, .slice Ctx ltx dtx, .bool sty, .slice Aty kty cty, .bool tty, .slice Cty lty dty]] w fun e w' => e = .returned (.bool false) ∧ Below w.heap.size w w' := by
  by_cases g0 : ktr ≤ 12 ∧ ltr ≤ 12
  · by_cases g1 : ktx ≤ 12 ∧ ltx ≤ 12
    · exact light_no2 g0 g1 my (fun h => g ⟨g0, g1, h⟩)
    · exact light_no1 g0 mx g1
  · exact light_no0 mr g0
end Go.Proofs.YtccndofafljaaaaGreatDoor
