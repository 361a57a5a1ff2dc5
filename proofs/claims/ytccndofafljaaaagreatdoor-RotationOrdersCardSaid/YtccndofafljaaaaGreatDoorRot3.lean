/- Package rotation: product, Same, Then. -/
import Derived.Test.YtccndofafljaaaaGreatDoorRot2
import Derived.Test.YtccndofafljaaaaGreatDoorTwoNew

set_option linter.unusedVariables false
set_option linter.unusedSimpArgs false

namespace Go.Proofs.YtccndofafljaaaaGreatDoor
open Go Go.RowKit Num

theorem nz_words {p q : Int} {k : Nat} (hq : q.natAbs < 4294967296 ^ k) : (nzQ p q).natAbs < 4294967296 ^ (k + 1) := by
  have h1 := Nat.lt_of_lt_of_le hq (pow_mono (Nat.le_succ k))
  have h2 : 1 < 4294967296 ^ (k + 1) := Nat.one_lt_pow (by omega) (by omega)
  unfold nzQ; split
  · exact h2
  · exact h1
theorem pr_words {p q p' q' : Int} {k k' : Nat} (h1 : p.natAbs < 4294967296 ^ k) (h2 : q.natAbs < 4294967296 ^ k) (h3 : p'.natAbs < 4294967296 ^ k') (h4 : q'.natAbs < 4294967296 ^ k') :
    (prP p q p' q').natAbs < 4294967296 ^ (k + k' + 3) ∧ (prQ p q p' q').natAbs < 4294967296 ^ (k + k' + 3) := by
  have g2 := nz_words (p := p) h2
  have g4 := nz_words (p := p') h4
  have g1 := Nat.lt_of_lt_of_le h1 (pow_mono (Nat.le_succ k))
  have g3 := Nat.lt_of_lt_of_le h3 (pow_mono (Nat.le_succ k'))
  have e : k + k' + 3 = k + 1 + (k' + 1) + 1 := by omega
  rw [e]
  exact ⟨(add_same (mul_words g1 g4) (mul_words g2 g3)).1, (add_same (mul_words g2 g4) (mul_words g1 g3)).2⟩
theorem Cmp_rd_ne' {v1 v2 : Value} {z1 z2 : Int} {n1 n2 : Nat} {w : World} (h1 : Rd w v1 z1 n1) (h2 : Rd w v2 z2 n2) (f1 : n1 ≤ 50000) (f2 : n2 ≤ 50000) (h : z1 ≠ z2) :
    Calls Tryz.prog 45 #[v1, v2] w fun e w' => ∃ c : Int, (c == 0) = false ∧ e = .returned (.int .i64 c) ∧ Below w.heap.size w w' :=
  (Cmp_rd h1 h2 f1 f2).mono fun e w' ⟨he, hb⟩ => ⟨_, by rw [beq_eq_false_iff_ne]; unfold cmpI; repeat' split <;> omega, he, hb⟩

set_option maxRecDepth 100000 in
set_option maxHeartbeats 16000000 in
theorem product_r {v1 v2 : Value} {p1 q1 p2 q2 : Int} {k1 k2 : Nat} {w : World} (h1 : Fd w v1 p1 q1 k1) (h2 : Fd w v2 p2 q2 k2) (f1 : k1 ≤ 8000) (f2 : k2 ≤ 8000) :
    Calls Tryz.prog 42 #[v1, v2] w fun e w' => ∃ v', e = .returned v' ∧ Gc w' v' (prP p1 q1 p2 q2) (prQ p1 q1 p2 q2) (k1 + k2 + 3) ∧ Below w.heap.size w w' := by
  have WD1 := Lib.hid h1.words
  have WD2 := Lib.hid h2.words
  obtain ⟨sx, Ax, kx, cx, tx, Cx, lx, dx, rfl, hnx, hdx⟩ := h1.shape
  obtain ⟨sy, Ay, ky, cy, ty, Cy, ly, dy, rfl, hny, hdy⟩ := h2.shape
  have V_xn := Lib.hid hnx
  have V_xd := Lib.hid hdx
  have V_yn := Lib.hid hny
  have V_yd := Lib.hid hdy
  clear h1 hnx hdx h2 hny hdy
  have hb0 : Below w.heap.size w (((w.alloc (.cells #[.bool sx, (.slice Ax kx cx), .bool tx, (.slice Cx lx dx)] 26)).alloc (.cells #[.bool sy, (.slice Ay ky cy), .bool ty, (.slice Cy ly dy)] 26)).alloc (.cells #[.bool false, (.slice none 0 0), .bool false, (.slice none 0 0)] 26)) := (Below.alloc (Below.alloc (Below.alloc (Below.refl w.heap.size w) (by simp <;> omega) _) (by simp <;> omega) _) (by simp <;> omega) _)
  have B_x : BoxR (((w.alloc (.cells #[.bool sx, (.slice Ax kx cx), .bool tx, (.slice Cx lx dx)] 26)).alloc (.cells #[.bool sy, (.slice Ay ky cy), .bool ty, (.slice Cy ly dy)] 26)).alloc (.cells #[.bool false, (.slice none 0 0), .bool false, (.slice none 0 0)] 26)) (w.heap.size) sx (.slice Ax kx cx) tx (.slice Cx lx dx) := by have h := BoxR.alloc (BoxR.alloc (BoxR.new w sx (.slice Ax kx cx) tx (.slice Cx lx dx)) (.cells #[.bool sy, (.slice Ay ky cy), .bool ty, (.slice Cy ly dy)] 26)) (.cells #[.bool false, (.slice none 0 0), .bool false, (.slice none 0 0)] 26); simpa using h
  replace B_x := Lib.hid B_x
  have B_y : BoxR (((w.alloc (.cells #[.bool sx, (.slice Ax kx cx), .bool tx, (.slice Cx lx dx)] 26)).alloc (.cells #[.bool sy, (.slice Ay ky cy), .bool ty, (.slice Cy ly dy)] 26)).alloc (.cells #[.bool false, (.slice none 0 0), .bool false, (.slice none 0 0)] 26)) (w.heap.size + 1) sy (.slice Ay ky cy) ty (.slice Cy ly dy) := by have h := BoxR.alloc (BoxR.new (w.alloc (.cells #[.bool sx, (.slice Ax kx cx), .bool tx, (.slice Cx lx dx)] 26)) sy (.slice Ay ky cy) ty (.slice Cy ly dy)) (.cells #[.bool false, (.slice none 0 0), .bool false, (.slice none 0 0)] 26); simpa using h
  replace B_y := Lib.hid B_y
  have B_r : BoxR (((w.alloc (.cells #[.bool sx, (.slice Ax kx cx), .bool tx, (.slice Cx lx dx)] 26)).alloc (.cells #[.bool sy, (.slice Ay ky cy), .bool ty, (.slice Cy ly dy)] 26)).alloc (.cells #[.bool false, (.slice none 0 0), .bool false, (.slice none 0 0)] 26)) (w.heap.size + 1 + 1) false (.slice none 0 0) false (.slice none 0 0) := by have h := BoxR.new ((w.alloc (.cells #[.bool sx, (.slice Ax kx cx), .bool tx, (.slice Cx lx dx)] 26)).alloc (.cells #[.bool sy, (.slice Ay ky cy), .bool ty, (.slice Cy ly dy)] 26)) false (.slice none 0 0) false (.slice none 0 0); simpa using h
  replace B_r := Lib.hid B_r
  replace V_xn := Lib.hid (Rd.below V_xn.out hb0)
  replace V_xd := Lib.hid (Rd.below V_xd.out hb0)
  replace V_yn := Lib.hid (Rd.below V_yn.out hb0)
  replace V_yd := Lib.hid (Rd.below V_yd.out hb0)
  have HB := Lib.hid hb0
  clear hb0
  have c0x := B_x.out.c0
  have c1x := B_x.out.c1
  have c2x := B_x.out.c2
  have c3x := B_x.out.c3
  have c0y := B_y.out.c0
  have c1y := B_y.out.c1
  have c2y := B_y.out.c2
  have c3y := B_y.out.c3
  have c0r := B_r.out.c0
  have c1r := B_r.out.c1
  have c2r := B_r.out.c2
  have c3r := B_r.out.c3
  go_enter Tryz.func42, Tryz.ntmps42
  go_wp2_with fail
  clear c0x c1x c2x c3x c0y c1y c2y c3y c0r c1r c2r c3r
  generalize ((w.alloc (.cells #[.bool sx, (.slice Ax kx cx), .bool tx, (.slice Cx lx dx)] 26)).alloc (.cells #[.bool sy, (.slice Ay ky cy), .bool ty, (.slice Cy ly dy)] 26)).alloc (.cells #[.bool false, (.slice none 0 0), .bool false, (.slice none 0 0)] 26) = W0 at *
  have c0x := B_x.out.c0
  have c1x := B_x.out.c1
  have c2x := B_x.out.c2
  have c3x := B_x.out.c3
  have c0y := B_y.out.c0
  have c1y := B_y.out.c1
  have c2y := B_y.out.c2
  have c3y := B_y.out.c3
  have Z1x := Lib.hid B_x.out.lt
  have Z2y := Lib.hid B_y.out.lt
  have Z3r := Lib.hid B_r.out.lt
  go_upto_region 1 with fail
  go_cut [5, 6] (fun a b wx => TwoR W0 (fun w v => Fd w v p1 (nzQ p1 q1) (k1 + 2)) (fun w v => Fd w v p2 (nzQ p2 q2) (k2 + 2)) a b wx)
  clear c0x c1x c2x c3x c0y c1y c2y c3y
  case first =>
    clear B_r
    have HC := Lib.hid (Below.refl W0.heap.size W0)
    have zx0 := B_x.out.lt
    have zy0 := B_y.out.lt
    have c0x := B_x.out.c0
    have c1x := B_x.out.c1
    have c2x := B_x.out.c2
    have c3x := B_x.out.c3
    have c0y := B_y.out.c0
    have c1y := B_y.out.c1
    have c2y := B_y.out.c2
    have c3y := B_y.out.c3
    have tk1x0 : True := trivial
    first | (go_region_held3 (fun w' => w'.cell? ⟨w.heap.size, 0, none⟩ = some (.bool sx) ∧ w'.cell? ⟨w.heap.size, 1, none⟩ = some (.slice Ax kx cx) ∧ w'.cell? ⟨w.heap.size, 2, none⟩ = some (.bool tx) ∧ w'.cell? ⟨w.heap.size, 3, none⟩ = some (.slice Cx lx dx) ∧ w'.cell? ⟨w.heap.size + 1, 0, none⟩ = some (.bool sy) ∧ w'.cell? ⟨w.heap.size + 1, 1, none⟩ = some (.slice Ay ky cy) ∧ w'.cell? ⟨w.heap.size + 1, 2, none⟩ = some (.bool ty) ∧ w'.cell? ⟨w.heap.size + 1, 3, none⟩ = some (.slice Cy ly dy)) (((try dsimp only); (repeat' apply And.intro) <;> (first | (with_reducible assumption) | ((repeat (first | (with_reducible refine Eq.trans (cell_drew1 _ _) ?_) | (with_reducible refine Eq.trans (World.cell?_alloc_lt _ _ _ (by first | (dsimp only; omega) | (simp only [World.size_alloc, World.size_setCell]; omega))) ?_) | (with_reducible refine Eq.trans (cell_set4 (by omega) _ _ _ _) ?_))); with_reducible assumption) | assumption | go_keep)))
    (first
      | (clear tk1x0; go_at_call 44; refine (nonzero_f (Fd.mk (Rd.below V_xn.out (by first | exact ⟨rfl, rfl, rfl, Nat.le_refl _, fun _ _ => rfl⟩ | exact below_push1 rfl rfl rfl rfl | exact below_push2 rfl rfl rfl rfl)) (Rd.below V_xd.out (by first | exact ⟨rfl, rfl, rfl, Nat.le_refl _, fun _ _ => rfl⟩ | exact below_push1 rfl rfl rfl rfl | exact below_push2 rfl rfl rfl rfl))) (by omega)).mono ?_; rintro e w1 ⟨vu, rfl, ru, bb⟩; have bb0 := bb; (first | (have h2 := box_new2R (w := W0) bb0 rfl; have N_a := Lib.hid h2.1; have N_b := Lib.hid h2.2; clear h2) | (have h2 := box_new1R (w := W0) bb0 rfl; have N_a := Lib.hid h2; clear h2) | skip); clear bb0; replace bb := nextw (w0 := W0) (by first | exact ⟨rfl, rfl, rfl, Nat.le_refl _, fun _ _ => rfl⟩ | exact below_push1 rfl rfl rfl rfl | exact below_push2 rfl rfl rfl rfl) bb; clear V_xn V_xd; replace B_x := Lib.hid (BoxR.below B_x.out bb B_x.out.lt); replace B_y := Lib.hid (BoxR.below B_y.out bb B_y.out.lt); replace V_yn := Lib.hid (Rd.below V_yn.out bb); replace V_yd := Lib.hid (Rd.below V_yd.out bb); replace HB := Lib.hid (nextw HB.out bb); replace HC := Lib.hid (nextw HC.out bb); clear bb; replace ru := Lib.hid ru; have V_u := ru; clear ru; obtain ⟨su, Au, ku, cu, tu, Cu, lu, du, rfl, -, -⟩ := V_u.out.shape; clear c0x c1x c2x c3x c0y c1y c2y c3y; have c0x := B_x.out.c0; have c1x := B_x.out.c1; have c2x := B_x.out.c2; have c3x := B_x.out.c3; have c0y := B_y.out.c0; have c1y := B_y.out.c1; have c2y := B_y.out.c2; have c3y := B_y.out.c3; have zx1 := B_x.out.lt; have zy1 := B_y.out.lt; have hle1 := HC.out.size; (try (have LWa := Lib.hid N_a.out.lt)); have tk1x1 : True := trivial)
      | (clear tk1x1; go_at_call 44; refine (nonzero_f (Fd.mk (Rd.below V_yn.out (by first | exact ⟨rfl, rfl, rfl, Nat.le_refl _, fun _ _ => rfl⟩ | exact below_push1 rfl rfl rfl rfl | exact below_push2 rfl rfl rfl rfl)) (Rd.below V_yd.out (by first | exact ⟨rfl, rfl, rfl, Nat.le_refl _, fun _ _ => rfl⟩ | exact below_push1 rfl rfl rfl rfl | exact below_push2 rfl rfl rfl rfl))) (by omega)).mono ?_; rintro e w2 ⟨vz, rfl, rz, bb⟩; have bb0 := bb; (try (replace N_a := Lib.hid (BoxR.below N_a.out (nextw (by first | exact ⟨rfl, rfl, rfl, Nat.le_refl _, fun _ _ => rfl⟩ | exact below_push1 rfl rfl rfl rfl | exact below_push2 rfl rfl rfl rfl) bb) N_a.out.lt))); (try (replace N_b := Lib.hid (BoxR.below N_b.out (nextw (by first | exact ⟨rfl, rfl, rfl, Nat.le_refl _, fun _ _ => rfl⟩ | exact below_push1 rfl rfl rfl rfl | exact below_push2 rfl rfl rfl rfl) bb) N_b.out.lt))); (first | (have h2 := box_new2R (w := w1) bb0 rfl; have N_c := Lib.hid h2.1; have N_d := Lib.hid h2.2; clear h2) | (have h2 := box_new1R (w := w1) bb0 rfl; have N_c := Lib.hid h2; clear h2) | skip); clear bb0; replace bb := nextw (w0 := w1) (by first | exact ⟨rfl, rfl, rfl, Nat.le_refl _, fun _ _ => rfl⟩ | exact below_push1 rfl rfl rfl rfl | exact below_push2 rfl rfl rfl rfl) bb; clear V_yn V_yd; replace B_x := Lib.hid (BoxR.below B_x.out bb B_x.out.lt); replace B_y := Lib.hid (BoxR.below B_y.out bb B_y.out.lt); replace V_u := Lib.hid (Fd.below V_u.out bb); replace HB := Lib.hid (nextw HB.out bb); replace HC := Lib.hid (nextw HC.out bb); clear bb; replace rz := Lib.hid rz; have V_z := rz; clear rz; obtain ⟨sz, Az, kz, cz, tz, Cz, lz, dz, rfl, -, -⟩ := V_z.out.shape; clear c0x c1x c2x c3x c0y c1y c2y c3y; have c0x := B_x.out.c0; have c1x := B_x.out.c1; have c2x := B_x.out.c2; have c3x := B_x.out.c3; have c0y := B_y.out.c0; have c1y := B_y.out.c1; have c2y := B_y.out.c2; have c3y := B_y.out.c3; have zx2 := B_x.out.lt; have zy2 := B_y.out.lt; have hle2 := HC.out.size; (try (have LWc := Lib.hid N_c.out.lt)); (try (have c0a := N_a.out.c0; have c1a := N_a.out.c1; have c2a := N_a.out.c2; have c3a := N_a.out.c3; have f0a := N_a.out.f0; have f1a := N_a.out.f1; have f2a := N_a.out.f2; have f3a := N_a.out.f3)); (try (have c0b := N_b.out.c0; have c1b := N_b.out.c1; have c2b := N_b.out.c2; have c3b := N_b.out.c3; have f0b := N_b.out.f0; have f1b := N_b.out.f1; have f2b := N_b.out.f2; have f3b := N_b.out.f3)); (try (have c0c := N_c.out.c0; have c1c := N_c.out.c1; have c2c := N_c.out.c2; have c3c := N_c.out.c3; have f0c := N_c.out.f0; have f1c := N_c.out.f1; have f2c := N_c.out.f2; have f3c := N_c.out.f3)); (try (have c0d := N_d.out.c0; have c1d := N_d.out.c1; have c2d := N_d.out.c2; have c3d := N_d.out.c3; have f0d := N_d.out.f0; have f1d := N_d.out.f1; have f2d := N_d.out.f2; have f3d := N_d.out.f3)); (try (have la := N_a.out.lt; have lna := Nat.ne_of_lt la; have lma := Nat.ne_of_gt la)); (try (have lb := N_b.out.lt; have lnb := Nat.ne_of_lt lb; have lmb := Nat.ne_of_gt lb)); (try (have lc := N_c.out.lt; have lnc := Nat.ne_of_lt lc; have lmc := Nat.ne_of_gt lc)); (try (have ld := N_d.out.lt; have lnd := Nat.ne_of_lt ld; have lmd := Nat.ne_of_gt ld)); (try (have lba := Nat.ne_of_lt LWa.out; have lca := Nat.ne_of_gt LWa.out)); (try (have lbc := Nat.ne_of_lt LWc.out; have lcc := Nat.ne_of_gt LWc.out)); have tk1x2 : True := trivial))) | fail
    all_goals go_wp2_with fail
    all_goals go_meet
    all_goals (first | (with_reducible exact fin1R V_u.out V_z.out HC.out (keptR_Fd _ _ _) (keptR_Fd _ _ _)) | (with_reducible exact fin1bR V_u.out V_z.out HC.out (keptR_Fd _ _ _) (keptR_Fd _ _ _)) | (with_reducible exact fin2xR V_u.out V_z.out HC.out (keptR_Fd _ _ _) (keptR_Fd _ _ _) N_a.out (by omega)) | (with_reducible exact fin2bxR V_u.out V_z.out HC.out (keptR_Fd _ _ _) (keptR_Fd _ _ _) N_a.out (by omega)) | (with_reducible exact fin2xR V_u.out V_z.out HC.out (keptR_Fd _ _ _) (keptR_Fd _ _ _) N_c.out (by omega)) | (with_reducible exact fin2bxR V_u.out V_z.out HC.out (keptR_Fd _ _ _) (keptR_Fd _ _ _) N_c.out (by omega)) | (with_reducible exact fin3xR V_u.out V_z.out HC.out (keptR_Fd _ _ _) (keptR_Fd _ _ _) N_a.out N_b.out (by omega) (by omega) (by omega)) | (with_reducible exact fin3xR V_u.out V_z.out HC.out (keptR_Fd _ _ _) (keptR_Fd _ _ _) N_a.out N_c.out (by omega) (by omega) (by omega)) | (with_reducible exact fin3xR V_u.out V_z.out HC.out (keptR_Fd _ _ _) (keptR_Fd _ _ _) N_b.out N_c.out (by omega) (by omega) (by omega)) | (with_reducible exact fin3xR V_u.out V_z.out HC.out (keptR_Fd _ _ _) (keptR_Fd _ _ _) N_c.out N_d.out (by omega) (by omega) (by omega)) | (with_reducible exact fin3xR V_u.out V_z.out HC.out (keptR_Fd _ _ _) (keptR_Fd _ _ _) N_b.out N_a.out (by omega) (by omega) (by omega)) | (with_reducible exact fin3xR V_u.out V_z.out HC.out (keptR_Fd _ _ _) (keptR_Fd _ _ _) N_c.out N_a.out (by omega) (by omega) (by omega)) | (with_reducible exact fin3xR V_u.out V_z.out HC.out (keptR_Fd _ _ _) (keptR_Fd _ _ _) N_c.out N_b.out (by omega) (by omega) (by omega)) | (with_reducible exact fin3xR V_u.out V_z.out HC.out (keptR_Fd _ _ _) (keptR_Fd _ _ _) N_d.out N_c.out (by omega) (by omega) (by omega)))
  case rest =>
    rename World => wcu
    obtain ⟨pu, pz, su, Au, ku, cu, tu, Cu, lu, du, sz, Az, kz, cz, tz, Cz, lz, dz, rfl, rfl, hneu, hgeu, hgez, bu, bz, vu, vz, bb⟩ := hcut
    replace B_x := Lib.hid (BoxR.below B_x.out bb B_x.out.lt)
    replace B_y := Lib.hid (BoxR.below B_y.out bb B_y.out.lt)
    replace B_r := Lib.hid (BoxR.below B_r.out bb B_r.out.lt)
    replace V_xn := Lib.hid (Rd.below V_xn.out bb)
    replace V_xd := Lib.hid (Rd.below V_xd.out bb)
    replace V_yn := Lib.hid (Rd.below V_yn.out bb)
    replace V_yd := Lib.hid (Rd.below V_yd.out bb)
    replace HB := Lib.hid (nextw HB.out bb)
    have Z4u := Lib.hid hgeu
    have Z5z := Lib.hid hgez
    clear bb hneu hgeu hgez
    have B_u := Lib.hid bu
    have B_z := Lib.hid bz
    have V_u := Lib.hid vu
    have V_z := Lib.hid vz
    clear bu bz vu vz
    clear V_xn V_xd V_yn V_yd B_x B_y
    have V_un := Lib.hid V_u.out.num
    have V_ud := Lib.hid V_u.out.den
    clear V_u
    have V_zn := Lib.hid V_z.out.num
    have V_zd := Lib.hid V_z.out.den
    clear V_z
    have c0u := B_u.out.c0
    have c1u := B_u.out.c1
    have c2u := B_u.out.c2
    have c3u := B_u.out.c3
    have f0u := B_u.out.f0
    have f1u := B_u.out.f1
    have f2u := B_u.out.f2
    have f3u := B_u.out.f3
    have c0z := B_z.out.c0
    have c1z := B_z.out.c1
    have c2z := B_z.out.c2
    have c3z := B_z.out.c3
    have f0z := B_z.out.f0
    have f1z := B_z.out.f1
    have f2z := B_z.out.f2
    have f3z := B_z.out.f3
    have c0r := B_r.out.c0
    have c1r := B_r.out.c1
    have c2r := B_r.out.c2
    have c3r := B_r.out.c3
    have f0r := B_r.out.f0
    have f1r := B_r.out.f1
    have f2r := B_r.out.f2
    have f3r := B_r.out.f3
    go_wp2
    have c0u := B_u.out.c0
    have c1u := B_u.out.c1
    have c2u := B_u.out.c2
    have c3u := B_u.out.c3
    have c0z := B_z.out.c0
    have c1z := B_z.out.c1
    have c2z := B_z.out.c2
    have c3z := B_z.out.c3
    have z1x := Z1x.out
    have z2y := Z2y.out
    have z3r := Z3r.out
    have z4u := Z4u.out
    have z5z := Z5z.out
    have tk2x0 : True := trivial
    first | (go_region_held3 (fun w' => w'.cell? ⟨pu, 0, none⟩ = some (.bool su) ∧ w'.cell? ⟨pu, 1, none⟩ = some (.slice Au ku cu) ∧ w'.cell? ⟨pu, 2, none⟩ = some (.bool tu) ∧ w'.cell? ⟨pu, 3, none⟩ = some (.slice Cu lu du) ∧ w'.cell? ⟨pz, 0, none⟩ = some (.bool sz) ∧ w'.cell? ⟨pz, 1, none⟩ = some (.slice Az kz cz) ∧ w'.cell? ⟨pz, 2, none⟩ = some (.bool tz) ∧ w'.cell? ⟨pz, 3, none⟩ = some (.slice Cz lz dz)) (((try dsimp only); (repeat' apply And.intro) <;> (first | (with_reducible assumption) | ((repeat (first | (with_reducible refine Eq.trans (cell_drew1 _ _) ?_) | (with_reducible refine Eq.trans (cell_set4 (by omega) _ _ _ _) ?_))); with_reducible assumption) | assumption | go_keep)))
    (first
      | (clear tk2x0; go_at_call 46; refine (Mul_rd (Rd.below V_un.out (by exact ⟨rfl, rfl, rfl, Nat.le_refl _, fun _ _ => rfl⟩)) (Rd.below V_zd.out (by exact ⟨rfl, rfl, rfl, Nat.le_refl _, fun _ _ => rfl⟩)) (by omega) (by omega)).mono ?_; rintro e w3 ⟨va1, rfl, ra1, bb⟩; replace bb := nextw (w0 := wcu) (by exact ⟨rfl, rfl, rfl, Nat.le_refl _, fun _ _ => rfl⟩) bb; replace B_r := Lib.hid (BoxR.below B_r.out bb B_r.out.lt); replace B_u := Lib.hid (BoxR.below B_u.out bb B_u.out.lt); replace B_z := Lib.hid (BoxR.below B_z.out bb B_z.out.lt); replace V_un := Lib.hid (Rd.below V_un.out bb); replace V_ud := Lib.hid (Rd.below V_ud.out bb); replace V_zn := Lib.hid (Rd.below V_zn.out bb); replace V_zd := Lib.hid (Rd.below V_zd.out bb); replace HB := Lib.hid (nextw HB.out bb); clear bb; replace ra1 := Lib.hid ra1; have V_a1 := ra1; clear ra1; obtain ⟨sa1, Aa1, ka1, ca1, rfl⟩ := V_a1.out.shape; clear c0u c1u c2u c3u c0z c1z c2z c3z; have c0u := B_u.out.c0; have c1u := B_u.out.c1; have c2u := B_u.out.c2; have c3u := B_u.out.c3; have c0z := B_z.out.c0; have c1z := B_z.out.c1; have c2z := B_z.out.c2; have c3z := B_z.out.c3; have tk2x1 : True := trivial)
      | (clear tk2x1; go_at_call 46; refine (Mul_rd (Rd.below V_ud.out (by exact ⟨rfl, rfl, rfl, Nat.le_refl _, fun _ _ => rfl⟩)) (Rd.below V_zn.out (by exact ⟨rfl, rfl, rfl, Nat.le_refl _, fun _ _ => rfl⟩)) (by omega) (by omega)).mono ?_; rintro e w4 ⟨va2, rfl, ra2, bb⟩; replace bb := nextw (w0 := w3) (by exact ⟨rfl, rfl, rfl, Nat.le_refl _, fun _ _ => rfl⟩) bb; replace B_r := Lib.hid (BoxR.below B_r.out bb B_r.out.lt); replace B_u := Lib.hid (BoxR.below B_u.out bb B_u.out.lt); replace B_z := Lib.hid (BoxR.below B_z.out bb B_z.out.lt); replace V_un := Lib.hid (Rd.below V_un.out bb); replace V_ud := Lib.hid (Rd.below V_ud.out bb); replace V_zn := Lib.hid (Rd.below V_zn.out bb); replace V_zd := Lib.hid (Rd.below V_zd.out bb); replace V_a1 := Lib.hid (Rc.below V_a1.out bb); replace HB := Lib.hid (nextw HB.out bb); clear bb; replace ra2 := Lib.hid ra2; have V_a2 := ra2; clear ra2; obtain ⟨sa2, Aa2, ka2, ca2, rfl⟩ := V_a2.out.shape; clear c0u c1u c2u c3u c0z c1z c2z c3z; have c0u := B_u.out.c0; have c1u := B_u.out.c1; have c2u := B_u.out.c2; have c3u := B_u.out.c3; have c0z := B_z.out.c0; have c1z := B_z.out.c1; have c2z := B_z.out.c2; have c3z := B_z.out.c3; have tk2x2 : True := trivial)
      | (clear tk2x2; go_at_call 52; refine (Add_rd (Rc.rd (Rc.below V_a1.out (by exact ⟨rfl, rfl, rfl, Nat.le_refl _, fun _ _ => rfl⟩))) (Rc.rd (Rc.below V_a2.out (by exact ⟨rfl, rfl, rfl, Nat.le_refl _, fun _ _ => rfl⟩))) (by omega) (by omega)).mono ?_; rintro e w5 ⟨va3, rfl, ra3, bb⟩; replace bb := nextw (w0 := w4) (by exact ⟨rfl, rfl, rfl, Nat.le_refl _, fun _ _ => rfl⟩) bb; clear V_a1 V_a2; replace B_r := Lib.hid (BoxR.below B_r.out bb B_r.out.lt); replace B_u := Lib.hid (BoxR.below B_u.out bb B_u.out.lt); replace B_z := Lib.hid (BoxR.below B_z.out bb B_z.out.lt); replace V_un := Lib.hid (Rd.below V_un.out bb); replace V_ud := Lib.hid (Rd.below V_ud.out bb); replace V_zn := Lib.hid (Rd.below V_zn.out bb); replace V_zd := Lib.hid (Rd.below V_zd.out bb); replace HB := Lib.hid (nextw HB.out bb); clear bb; replace ra3 := Lib.hid ra3; have V_a3 := ra3; clear ra3; obtain ⟨sa3, Aa3, ka3, ca3, rfl⟩ := V_a3.out.shape; clear c0u c1u c2u c3u c0z c1z c2z c3z; have c0u := B_u.out.c0; have c1u := B_u.out.c1; have c2u := B_u.out.c2; have c3u := B_u.out.c3; have c0z := B_z.out.c0; have c1z := B_z.out.c1; have c2z := B_z.out.c2; have c3z := B_z.out.c3; have tk2x3 : True := trivial)
      | (clear tk2x3; go_at_call 46; refine (Mul_rd (Rd.below V_ud.out (by exact ⟨rfl, rfl, rfl, Nat.le_refl _, fun _ _ => rfl⟩)) (Rd.below V_zd.out (by exact ⟨rfl, rfl, rfl, Nat.le_refl _, fun _ _ => rfl⟩)) (by omega) (by omega)).mono ?_; rintro e w6 ⟨vb1, rfl, rb1, bb⟩; replace bb := nextw (w0 := w5) (by exact ⟨rfl, rfl, rfl, Nat.le_refl _, fun _ _ => rfl⟩) bb; clear V_ud V_zd; replace B_r := Lib.hid (BoxR.below B_r.out bb B_r.out.lt); replace B_u := Lib.hid (BoxR.below B_u.out bb B_u.out.lt); replace B_z := Lib.hid (BoxR.below B_z.out bb B_z.out.lt); replace V_un := Lib.hid (Rd.below V_un.out bb); replace V_zn := Lib.hid (Rd.below V_zn.out bb); replace V_a3 := Lib.hid (Rc.below V_a3.out bb); replace HB := Lib.hid (nextw HB.out bb); clear bb; replace rb1 := Lib.hid rb1; have V_b1 := rb1; clear rb1; obtain ⟨sb1, Ab1, kb1, cb1, rfl⟩ := V_b1.out.shape; clear c0u c1u c2u c3u c0z c1z c2z c3z; have c0u := B_u.out.c0; have c1u := B_u.out.c1; have c2u := B_u.out.c2; have c3u := B_u.out.c3; have c0z := B_z.out.c0; have c1z := B_z.out.c1; have c2z := B_z.out.c2; have c3z := B_z.out.c3; have tk2x4 : True := trivial)
      | (clear tk2x4; go_at_call 46; refine (Mul_rd (Rd.below V_un.out (by exact ⟨rfl, rfl, rfl, Nat.le_refl _, fun _ _ => rfl⟩)) (Rd.below V_zn.out (by exact ⟨rfl, rfl, rfl, Nat.le_refl _, fun _ _ => rfl⟩)) (by omega) (by omega)).mono ?_; rintro e w7 ⟨vb2, rfl, rb2, bb⟩; replace bb := nextw (w0 := w6) (by exact ⟨rfl, rfl, rfl, Nat.le_refl _, fun _ _ => rfl⟩) bb; clear V_un V_zn; replace B_r := Lib.hid (BoxR.below B_r.out bb B_r.out.lt); replace B_u := Lib.hid (BoxR.below B_u.out bb B_u.out.lt); replace B_z := Lib.hid (BoxR.below B_z.out bb B_z.out.lt); replace V_a3 := Lib.hid (Rc.below V_a3.out bb); replace V_b1 := Lib.hid (Rc.below V_b1.out bb); replace HB := Lib.hid (nextw HB.out bb); clear bb; replace rb2 := Lib.hid rb2; have V_b2 := rb2; clear rb2; obtain ⟨sb2, Ab2, kb2, cb2, rfl⟩ := V_b2.out.shape; clear c0u c1u c2u c3u c0z c1z c2z c3z; have c0u := B_u.out.c0; have c1u := B_u.out.c1; have c2u := B_u.out.c2; have c3u := B_u.out.c3; have c0z := B_z.out.c0; have c1z := B_z.out.c1; have c2z := B_z.out.c2; have c3z := B_z.out.c3; have tk2x5 : True := trivial)
      | (clear tk2x5; go_at_call 65; refine (Sub_rd (Rc.rd (Rc.below V_b1.out (by exact ⟨rfl, rfl, rfl, Nat.le_refl _, fun _ _ => rfl⟩))) (Rc.rd (Rc.below V_b2.out (by exact ⟨rfl, rfl, rfl, Nat.le_refl _, fun _ _ => rfl⟩))) (by omega) (by omega)).mono ?_; rintro e w8 ⟨vb3, rfl, rb3, bb⟩; replace bb := nextw (w0 := w7) (by exact ⟨rfl, rfl, rfl, Nat.le_refl _, fun _ _ => rfl⟩) bb; clear V_b1 V_b2; replace B_r := Lib.hid (BoxR.below B_r.out bb B_r.out.lt); replace B_u := Lib.hid (BoxR.below B_u.out bb B_u.out.lt); replace B_z := Lib.hid (BoxR.below B_z.out bb B_z.out.lt); replace V_a3 := Lib.hid (Rc.below V_a3.out bb); replace HB := Lib.hid (nextw HB.out bb); clear bb; replace rb3 := Lib.hid rb3; have V_b3 := rb3; clear rb3; obtain ⟨sb3, Ab3, kb3, cb3, rfl⟩ := V_b3.out.shape; have c0r := B_r.out.c0; have c1r := B_r.out.c1; have c2r := B_r.out.c2; have c3r := B_r.out.c3; have f0r := B_r.out.f0; have f1r := B_r.out.f1; have f2r := B_r.out.f2; have f3r := B_r.out.f3; clear c0u c1u c2u c3u c0z c1z c2z c3z; have c0u := B_u.out.c0; have c1u := B_u.out.c1; have c2u := B_u.out.c2; have c3u := B_u.out.c3; have c0z := B_z.out.c0; have c1z := B_z.out.c1; have c2z := B_z.out.c2; have c3z := B_z.out.c3; have tk2x6 : True := trivial))) | fail
    all_goals (clear z1x z2y z3r z4u z5z)
    all_goals
      skip
      have K_a3 := V_a3
      have K_b3 := V_b3
      replace K_a3 := Lib.hid (BoxR.keepsRc B_r.out K_a3.out (.bool sa3) (.slice Aa3 ka3 ca3) (.bool sb3) (.slice Ab3 kb3 cb3))
      replace K_b3 := Lib.hid (BoxR.keepsRc B_r.out K_b3.out (.bool sa3) (.slice Aa3 ka3 ca3) (.bool sb3) (.slice Ab3 kb3 cb3))
      have HB1 := Lib.hid (Below.store4 HB.out (y := w.heap.size + 1 + 1) (by omega) (.bool sa3) (.slice Aa3 ka3 ca3) (.bool sb3) (.slice Ab3 kb3 cb3))
      have N0r := Lib.hid (BoxR.store B_r.out sa3 (.slice Aa3 ka3 ca3) sb3 (.slice Ab3 kb3 cb3))
      have s0r := N0r.out.c0
      have s1r := N0r.out.c1
      have s2r := N0r.out.c2
      have s3r := N0r.out.c3
      simp only [st4] at s0r s1r s2r s3r
      have HBF := HB1
      have c0r := B_r.out.c0
      have c1r := B_r.out.c1
      have c2r := B_r.out.c2
      have c3r := B_r.out.c3
      have f0r := B_r.out.f0
      have f1r := B_r.out.f1
      have f2r := B_r.out.f2
      have f3r := B_r.out.f3
      go_wp2_with fail
      exact bodyPost_ret (v := .agg #[.bool sa3, (.slice Aa3 ka3 ca3), .bool sb3, (.slice Ab3 kb3 cb3)]) (by simp [results, Tryz.results42, go_sem, s0r, s1r, s2r, s3r]) rfl ⟨_, rfl, Gc.mk ((Rc.below K_a3.out (by exact ⟨rfl, rfl, rfl, Nat.le_refl _, fun _ _ => rfl⟩)).tight (pr_words WD1.out.1 WD1.out.2 WD2.out.1 WD2.out.2).1) ((Rc.below K_b3.out (by exact ⟨rfl, rfl, rfl, Nat.le_refl _, fun _ _ => rfl⟩)).tight (pr_words WD1.out.1 WD1.out.2 WD2.out.1 WD2.out.2).2), (nextw HBF.out (by exact ⟨rfl, rfl, rfl, Nat.le_refl _, fun _ _ => rfl⟩))⟩

set_option maxRecDepth 100000 in
set_option maxHeartbeats 16000000 in
theorem Same_yes_r {v1 v2 : Value} {p1 q1 p2 q2 : Int} {k1 k2 : Nat} {w : World} (h1 : Fd w v1 p1 q1 k1) (h2 : Fd w v2 p2 q2 k2) (f1 : k1 ≤ 8000) (f2 : k2 ≤ 8000) (h0 : p1 * nzQ p2 q2 = p2 * nzQ p1 q1) :
    Calls Tryz.prog 15 #[v1, v2] w fun e w' => e = .returned (.bool true) ∧ Below w.heap.size w w' := by
  have H0 := Lib.hid h0
  clear h0
  have WD1 := Lib.hid h1.words
  have WD2 := Lib.hid h2.words
  obtain ⟨sx, Ax, kx, cx, tx, Cx, lx, dx, rfl, hnx, hdx⟩ := h1.shape
  obtain ⟨sy, Ay, ky, cy, ty, Cy, ly, dy, rfl, hny, hdy⟩ := h2.shape
  have V_xn := Lib.hid hnx
  have V_xd := Lib.hid hdx
  have V_yn := Lib.hid hny
  have V_yd := Lib.hid hdy
  clear h1 hnx hdx h2 hny hdy
  have hb0 : Below w.heap.size w ((w.alloc (.cells #[.bool sx, (.slice Ax kx cx), .bool tx, (.slice Cx lx dx)] 26)).alloc (.cells #[.bool sy, (.slice Ay ky cy), .bool ty, (.slice Cy ly dy)] 26)) := (Below.alloc (Below.alloc (Below.refl w.heap.size w) (by simp <;> omega) _) (by simp <;> omega) _)
  have B_x : BoxR ((w.alloc (.cells #[.bool sx, (.slice Ax kx cx), .bool tx, (.slice Cx lx dx)] 26)).alloc (.cells #[.bool sy, (.slice Ay ky cy), .bool ty, (.slice Cy ly dy)] 26)) (w.heap.size) sx (.slice Ax kx cx) tx (.slice Cx lx dx) := by have h := BoxR.alloc (BoxR.new w sx (.slice Ax kx cx) tx (.slice Cx lx dx)) (.cells #[.bool sy, (.slice Ay ky cy), .bool ty, (.slice Cy ly dy)] 26); simpa using h
  replace B_x := Lib.hid B_x
  have B_y : BoxR ((w.alloc (.cells #[.bool sx, (.slice Ax kx cx), .bool tx, (.slice Cx lx dx)] 26)).alloc (.cells #[.bool sy, (.slice Ay ky cy), .bool ty, (.slice Cy ly dy)] 26)) (w.heap.size + 1) sy (.slice Ay ky cy) ty (.slice Cy ly dy) := by have h := BoxR.new (w.alloc (.cells #[.bool sx, (.slice Ax kx cx), .bool tx, (.slice Cx lx dx)] 26)) sy (.slice Ay ky cy) ty (.slice Cy ly dy); simpa using h
  replace B_y := Lib.hid B_y
  replace V_xn := Lib.hid (Rd.below V_xn.out hb0)
  replace V_xd := Lib.hid (Rd.below V_xd.out hb0)
  replace V_yn := Lib.hid (Rd.below V_yn.out hb0)
  replace V_yd := Lib.hid (Rd.below V_yd.out hb0)
  have HB := Lib.hid hb0
  clear hb0
  have c0x := B_x.out.c0
  have c1x := B_x.out.c1
  have c2x := B_x.out.c2
  have c3x := B_x.out.c3
  have c0y := B_y.out.c0
  have c1y := B_y.out.c1
  have c2y := B_y.out.c2
  have c3y := B_y.out.c3
  go_enter Tryz.func15, Tryz.ntmps15
  go_wp2_with fail
  clear c0x c1x c2x c3x c0y c1y c2y c3y
  generalize (w.alloc (.cells #[.bool sx, (.slice Ax kx cx), .bool tx, (.slice Cx lx dx)] 26)).alloc (.cells #[.bool sy, (.slice Ay ky cy), .bool ty, (.slice Cy ly dy)] 26) = W0 at *
  have c0x := B_x.out.c0
  have c1x := B_x.out.c1
  have c2x := B_x.out.c2
  have c3x := B_x.out.c3
  have c0y := B_y.out.c0
  have c1y := B_y.out.c1
  have c2y := B_y.out.c2
  have c3y := B_y.out.c3
  have Z1x := Lib.hid B_x.out.lt
  have Z2y := Lib.hid B_y.out.lt
  go_upto_region 1 with fail
  go_cut [5, 6] (fun a b wx => TwoR W0 (fun w v => Fd w v p1 (nzQ p1 q1) (k1 + 2)) (fun w v => Fd w v p2 (nzQ p2 q2) (k2 + 2)) a b wx)
  clear c0x c1x c2x c3x c0y c1y c2y c3y
  case first =>
    have HC := Lib.hid (Below.refl W0.heap.size W0)
    have zx0 := B_x.out.lt
    have zy0 := B_y.out.lt
    have c0x := B_x.out.c0
    have c1x := B_x.out.c1
    have c2x := B_x.out.c2
    have c3x := B_x.out.c3
    have c0y := B_y.out.c0
    have c1y := B_y.out.c1
    have c2y := B_y.out.c2
    have c3y := B_y.out.c3
    have tk1x0 : True := trivial
    first | (go_region_held3 (fun w' => w'.cell? ⟨w.heap.size, 0, none⟩ = some (.bool sx) ∧ w'.cell? ⟨w.heap.size, 1, none⟩ = some (.slice Ax kx cx) ∧ w'.cell? ⟨w.heap.size, 2, none⟩ = some (.bool tx) ∧ w'.cell? ⟨w.heap.size, 3, none⟩ = some (.slice Cx lx dx) ∧ w'.cell? ⟨w.heap.size + 1, 0, none⟩ = some (.bool sy) ∧ w'.cell? ⟨w.heap.size + 1, 1, none⟩ = some (.slice Ay ky cy) ∧ w'.cell? ⟨w.heap.size + 1, 2, none⟩ = some (.bool ty) ∧ w'.cell? ⟨w.heap.size + 1, 3, none⟩ = some (.slice Cy ly dy)) (((try dsimp only); (repeat' apply And.intro) <;> (first | (with_reducible assumption) | ((repeat (first | (with_reducible refine Eq.trans (cell_drew1 _ _) ?_) | (with_reducible refine Eq.trans (World.cell?_alloc_lt _ _ _ (by first | (dsimp only; omega) | (simp only [World.size_alloc, World.size_setCell]; omega))) ?_) | (with_reducible refine Eq.trans (cell_set4 (by omega) _ _ _ _) ?_))); with_reducible assumption) | assumption | go_keep)))
    (first
      | (clear tk1x0; go_at_call 44; refine (nonzero_f (Fd.mk (Rd.below V_xn.out (by first | exact ⟨rfl, rfl, rfl, Nat.le_refl _, fun _ _ => rfl⟩ | exact below_push1 rfl rfl rfl rfl | exact below_push2 rfl rfl rfl rfl)) (Rd.below V_xd.out (by first | exact ⟨rfl, rfl, rfl, Nat.le_refl _, fun _ _ => rfl⟩ | exact below_push1 rfl rfl rfl rfl | exact below_push2 rfl rfl rfl rfl))) (by omega)).mono ?_; rintro e w1 ⟨vu, rfl, ru, bb⟩; have bb0 := bb; (first | (have h2 := box_new2R (w := W0) bb0 rfl; have N_a := Lib.hid h2.1; have N_b := Lib.hid h2.2; clear h2) | (have h2 := box_new1R (w := W0) bb0 rfl; have N_a := Lib.hid h2; clear h2) | skip); clear bb0; replace bb := nextw (w0 := W0) (by first | exact ⟨rfl, rfl, rfl, Nat.le_refl _, fun _ _ => rfl⟩ | exact below_push1 rfl rfl rfl rfl | exact below_push2 rfl rfl rfl rfl) bb; clear V_xn V_xd; replace B_x := Lib.hid (BoxR.below B_x.out bb B_x.out.lt); replace B_y := Lib.hid (BoxR.below B_y.out bb B_y.out.lt); replace V_yn := Lib.hid (Rd.below V_yn.out bb); replace V_yd := Lib.hid (Rd.below V_yd.out bb); replace HB := Lib.hid (nextw HB.out bb); replace HC := Lib.hid (nextw HC.out bb); clear bb; replace ru := Lib.hid ru; have V_u := ru; clear ru; obtain ⟨su, Au, ku, cu, tu, Cu, lu, du, rfl, -, -⟩ := V_u.out.shape; clear c0x c1x c2x c3x c0y c1y c2y c3y; have c0x := B_x.out.c0; have c1x := B_x.out.c1; have c2x := B_x.out.c2; have c3x := B_x.out.c3; have c0y := B_y.out.c0; have c1y := B_y.out.c1; have c2y := B_y.out.c2; have c3y := B_y.out.c3; have zx1 := B_x.out.lt; have zy1 := B_y.out.lt; have hle1 := HC.out.size; (try (have LWa := Lib.hid N_a.out.lt)); have tk1x1 : True := trivial)
      | (clear tk1x1; go_at_call 44; refine (nonzero_f (Fd.mk (Rd.below V_yn.out (by first | exact ⟨rfl, rfl, rfl, Nat.le_refl _, fun _ _ => rfl⟩ | exact below_push1 rfl rfl rfl rfl | exact below_push2 rfl rfl rfl rfl)) (Rd.below V_yd.out (by first | exact ⟨rfl, rfl, rfl, Nat.le_refl _, fun _ _ => rfl⟩ | exact below_push1 rfl rfl rfl rfl | exact below_push2 rfl rfl rfl rfl))) (by omega)).mono ?_; rintro e w2 ⟨vz, rfl, rz, bb⟩; have bb0 := bb; (try (replace N_a := Lib.hid (BoxR.below N_a.out (nextw (by first | exact ⟨rfl, rfl, rfl, Nat.le_refl _, fun _ _ => rfl⟩ | exact below_push1 rfl rfl rfl rfl | exact below_push2 rfl rfl rfl rfl) bb) N_a.out.lt))); (try (replace N_b := Lib.hid (BoxR.below N_b.out (nextw (by first | exact ⟨rfl, rfl, rfl, Nat.le_refl _, fun _ _ => rfl⟩ | exact below_push1 rfl rfl rfl rfl | exact below_push2 rfl rfl rfl rfl) bb) N_b.out.lt))); (first | (have h2 := box_new2R (w := w1) bb0 rfl; have N_c := Lib.hid h2.1; have N_d := Lib.hid h2.2; clear h2) | (have h2 := box_new1R (w := w1) bb0 rfl; have N_c := Lib.hid h2; clear h2) | skip); clear bb0; replace bb := nextw (w0 := w1) (by first | exact ⟨rfl, rfl, rfl, Nat.le_refl _, fun _ _ => rfl⟩ | exact below_push1 rfl rfl rfl rfl | exact below_push2 rfl rfl rfl rfl) bb; clear V_yn V_yd; replace B_x := Lib.hid (BoxR.below B_x.out bb B_x.out.lt); replace B_y := Lib.hid (BoxR.below B_y.out bb B_y.out.lt); replace V_u := Lib.hid (Fd.below V_u.out bb); replace HB := Lib.hid (nextw HB.out bb); replace HC := Lib.hid (nextw HC.out bb); clear bb; replace rz := Lib.hid rz; have V_z := rz; clear rz; obtain ⟨sz, Az, kz, cz, tz, Cz, lz, dz, rfl, -, -⟩ := V_z.out.shape; clear c0x c1x c2x c3x c0y c1y c2y c3y; have c0x := B_x.out.c0; have c1x := B_x.out.c1; have c2x := B_x.out.c2; have c3x := B_x.out.c3; have c0y := B_y.out.c0; have c1y := B_y.out.c1; have c2y := B_y.out.c2; have c3y := B_y.out.c3; have zx2 := B_x.out.lt; have zy2 := B_y.out.lt; have hle2 := HC.out.size; (try (have LWc := Lib.hid N_c.out.lt)); (try (have c0a := N_a.out.c0; have c1a := N_a.out.c1; have c2a := N_a.out.c2; have c3a := N_a.out.c3; have f0a := N_a.out.f0; have f1a := N_a.out.f1; have f2a := N_a.out.f2; have f3a := N_a.out.f3)); (try (have c0b := N_b.out.c0; have c1b := N_b.out.c1; have c2b := N_b.out.c2; have c3b := N_b.out.c3; have f0b := N_b.out.f0; have f1b := N_b.out.f1; have f2b := N_b.out.f2; have f3b := N_b.out.f3)); (try (have c0c := N_c.out.c0; have c1c := N_c.out.c1; have c2c := N_c.out.c2; have c3c := N_c.out.c3; have f0c := N_c.out.f0; have f1c := N_c.out.f1; have f2c := N_c.out.f2; have f3c := N_c.out.f3)); (try (have c0d := N_d.out.c0; have c1d := N_d.out.c1; have c2d := N_d.out.c2; have c3d := N_d.out.c3; have f0d := N_d.out.f0; have f1d := N_d.out.f1; have f2d := N_d.out.f2; have f3d := N_d.out.f3)); (try (have la := N_a.out.lt; have lna := Nat.ne_of_lt la; have lma := Nat.ne_of_gt la)); (try (have lb := N_b.out.lt; have lnb := Nat.ne_of_lt lb; have lmb := Nat.ne_of_gt lb)); (try (have lc := N_c.out.lt; have lnc := Nat.ne_of_lt lc; have lmc := Nat.ne_of_gt lc)); (try (have ld := N_d.out.lt; have lnd := Nat.ne_of_lt ld; have lmd := Nat.ne_of_gt ld)); (try (have lba := Nat.ne_of_lt LWa.out; have lca := Nat.ne_of_gt LWa.out)); (try (have lbc := Nat.ne_of_lt LWc.out; have lcc := Nat.ne_of_gt LWc.out)); have tk1x2 : True := trivial))) | fail
    all_goals go_wp2_with fail
    all_goals go_meet
    all_goals (first | (with_reducible exact fin1R V_u.out V_z.out HC.out (keptR_Fd _ _ _) (keptR_Fd _ _ _)) | (with_reducible exact fin1bR V_u.out V_z.out HC.out (keptR_Fd _ _ _) (keptR_Fd _ _ _)) | (with_reducible exact fin2xR V_u.out V_z.out HC.out (keptR_Fd _ _ _) (keptR_Fd _ _ _) N_a.out (by omega)) | (with_reducible exact fin2bxR V_u.out V_z.out HC.out (keptR_Fd _ _ _) (keptR_Fd _ _ _) N_a.out (by omega)) | (with_reducible exact fin2xR V_u.out V_z.out HC.out (keptR_Fd _ _ _) (keptR_Fd _ _ _) N_c.out (by omega)) | (with_reducible exact fin2bxR V_u.out V_z.out HC.out (keptR_Fd _ _ _) (keptR_Fd _ _ _) N_c.out (by omega)) | (with_reducible exact fin3xR V_u.out V_z.out HC.out (keptR_Fd _ _ _) (keptR_Fd _ _ _) N_a.out N_b.out (by omega) (by omega) (by omega)) | (with_reducible exact fin3xR V_u.out V_z.out HC.out (keptR_Fd _ _ _) (keptR_Fd _ _ _) N_a.out N_c.out (by omega) (by omega) (by omega)) | (with_reducible exact fin3xR V_u.out V_z.out HC.out (keptR_Fd _ _ _) (keptR_Fd _ _ _) N_b.out N_c.out (by omega) (by omega) (by omega)) | (with_reducible exact fin3xR V_u.out V_z.out HC.out (keptR_Fd _ _ _) (keptR_Fd _ _ _) N_c.out N_d.out (by omega) (by omega) (by omega)) | (with_reducible exact fin3xR V_u.out V_z.out HC.out (keptR_Fd _ _ _) (keptR_Fd _ _ _) N_b.out N_a.out (by omega) (by omega) (by omega)) | (with_reducible exact fin3xR V_u.out V_z.out HC.out (keptR_Fd _ _ _) (keptR_Fd _ _ _) N_c.out N_a.out (by omega) (by omega) (by omega)) | (with_reducible exact fin3xR V_u.out V_z.out HC.out (keptR_Fd _ _ _) (keptR_Fd _ _ _) N_c.out N_b.out (by omega) (by omega) (by omega)) | (with_reducible exact fin3xR V_u.out V_z.out HC.out (keptR_Fd _ _ _) (keptR_Fd _ _ _) N_d.out N_c.out (by omega) (by omega) (by omega)))
  case rest =>
    rename World => wcu
    obtain ⟨pu, pz, su, Au, ku, cu, tu, Cu, lu, du, sz, Az, kz, cz, tz, Cz, lz, dz, rfl, rfl, hneu, hgeu, hgez, bu, bz, vu, vz, bb⟩ := hcut
    replace B_x := Lib.hid (BoxR.below B_x.out bb B_x.out.lt)
    replace B_y := Lib.hid (BoxR.below B_y.out bb B_y.out.lt)
    replace V_xn := Lib.hid (Rd.below V_xn.out bb)
    replace V_xd := Lib.hid (Rd.below V_xd.out bb)
    replace V_yn := Lib.hid (Rd.below V_yn.out bb)
    replace V_yd := Lib.hid (Rd.below V_yd.out bb)
    replace HB := Lib.hid (nextw HB.out bb)
    have Z3u := Lib.hid hgeu
    have Z4z := Lib.hid hgez
    clear bb hneu hgeu hgez
    have B_u := Lib.hid bu
    have B_z := Lib.hid bz
    have V_u := Lib.hid vu
    have V_z := Lib.hid vz
    clear bu bz vu vz
    clear V_xn V_xd V_yn V_yd B_x B_y
    have V_un := Lib.hid V_u.out.num
    have V_ud := Lib.hid V_u.out.den
    clear V_u
    have V_zn := Lib.hid V_z.out.num
    have V_zd := Lib.hid V_z.out.den
    clear V_z
    have c0u := B_u.out.c0
    have c1u := B_u.out.c1
    have c2u := B_u.out.c2
    have c3u := B_u.out.c3
    have c0z := B_z.out.c0
    have c1z := B_z.out.c1
    have c2z := B_z.out.c2
    have c3z := B_z.out.c3
    go_wp2
    have c0u := B_u.out.c0
    have c1u := B_u.out.c1
    have c2u := B_u.out.c2
    have c3u := B_u.out.c3
    have c0z := B_z.out.c0
    have c1z := B_z.out.c1
    have c2z := B_z.out.c2
    have c3z := B_z.out.c3
    have z1x := Z1x.out
    have z2y := Z2y.out
    have z3u := Z3u.out
    have z4z := Z4z.out
    have tk2x0 : True := trivial
    first | (go_region_held3 (fun w' => w'.cell? ⟨pu, 0, none⟩ = some (.bool su) ∧ w'.cell? ⟨pu, 1, none⟩ = some (.slice Au ku cu) ∧ w'.cell? ⟨pu, 2, none⟩ = some (.bool tu) ∧ w'.cell? ⟨pu, 3, none⟩ = some (.slice Cu lu du) ∧ w'.cell? ⟨pz, 0, none⟩ = some (.bool sz) ∧ w'.cell? ⟨pz, 1, none⟩ = some (.slice Az kz cz) ∧ w'.cell? ⟨pz, 2, none⟩ = some (.bool tz) ∧ w'.cell? ⟨pz, 3, none⟩ = some (.slice Cz lz dz)) (((try dsimp only); (repeat' apply And.intro) <;> (first | (with_reducible assumption) | ((repeat (first | (with_reducible refine Eq.trans (cell_drew1 _ _) ?_) | (with_reducible refine Eq.trans (cell_set4 (by omega) _ _ _ _) ?_))); with_reducible assumption) | assumption | go_keep)))
    (first
      | (clear tk2x0; go_at_call 46; refine (Mul_rd (Rd.below V_un.out (by exact ⟨rfl, rfl, rfl, Nat.le_refl _, fun _ _ => rfl⟩)) (Rd.below V_zd.out (by exact ⟨rfl, rfl, rfl, Nat.le_refl _, fun _ _ => rfl⟩)) (by omega) (by omega)).mono ?_; rintro e w3 ⟨va1, rfl, ra1, bb⟩; replace bb := nextw (w0 := wcu) (by exact ⟨rfl, rfl, rfl, Nat.le_refl _, fun _ _ => rfl⟩) bb; clear V_un V_zd; replace B_u := Lib.hid (BoxR.below B_u.out bb B_u.out.lt); replace B_z := Lib.hid (BoxR.below B_z.out bb B_z.out.lt); replace V_ud := Lib.hid (Rd.below V_ud.out bb); replace V_zn := Lib.hid (Rd.below V_zn.out bb); replace HB := Lib.hid (nextw HB.out bb); clear bb; replace ra1 := Lib.hid ra1; have V_a1 := ra1; clear ra1; obtain ⟨sa1, Aa1, ka1, ca1, rfl⟩ := V_a1.out.shape; clear c0u c1u c2u c3u c0z c1z c2z c3z; have c0u := B_u.out.c0; have c1u := B_u.out.c1; have c2u := B_u.out.c2; have c3u := B_u.out.c3; have c0z := B_z.out.c0; have c1z := B_z.out.c1; have c2z := B_z.out.c2; have c3z := B_z.out.c3; have tk2x1 : True := trivial)
      | (clear tk2x1; go_at_call 46; refine (Mul_rd (Rd.below V_zn.out (by exact ⟨rfl, rfl, rfl, Nat.le_refl _, fun _ _ => rfl⟩)) (Rd.below V_ud.out (by exact ⟨rfl, rfl, rfl, Nat.le_refl _, fun _ _ => rfl⟩)) (by omega) (by omega)).mono ?_; rintro e w4 ⟨va2, rfl, ra2, bb⟩; replace bb := nextw (w0 := w3) (by exact ⟨rfl, rfl, rfl, Nat.le_refl _, fun _ _ => rfl⟩) bb; clear V_ud V_zn; replace B_u := Lib.hid (BoxR.below B_u.out bb B_u.out.lt); replace B_z := Lib.hid (BoxR.below B_z.out bb B_z.out.lt); replace V_a1 := Lib.hid (Rc.below V_a1.out bb); replace HB := Lib.hid (nextw HB.out bb); clear bb; replace ra2 := Lib.hid ra2; have V_a2 := ra2; clear ra2; obtain ⟨sa2, Aa2, ka2, ca2, rfl⟩ := V_a2.out.shape; clear c0u c1u c2u c3u c0z c1z c2z c3z; have c0u := B_u.out.c0; have c1u := B_u.out.c1; have c2u := B_u.out.c2; have c3u := B_u.out.c3; have c0z := B_z.out.c0; have c1z := B_z.out.c1; have c2z := B_z.out.c2; have c3z := B_z.out.c3; have tk2x2 : True := trivial)
      | (clear tk2x2; go_at_call 45; refine (Cmp_rd_eq (Rc.rd (Rc.below V_a1.out (by exact ⟨rfl, rfl, rfl, Nat.le_refl _, fun _ _ => rfl⟩))) (Rc.rd (Rc.below V_a2.out (by exact ⟨rfl, rfl, rfl, Nat.le_refl _, fun _ _ => rfl⟩))) (by omega) (by omega) H0.out).mono ?_; rintro e w5 ⟨rfl, bb⟩; replace bb := nextw (w0 := w4) (by exact ⟨rfl, rfl, rfl, Nat.le_refl _, fun _ _ => rfl⟩) bb; clear V_a1 V_a2; replace B_u := Lib.hid (BoxR.below B_u.out bb B_u.out.lt); replace B_z := Lib.hid (BoxR.below B_z.out bb B_z.out.lt); replace HB := Lib.hid (nextw HB.out bb); clear bb; clear c0u c1u c2u c3u c0z c1z c2z c3z; have c0u := B_u.out.c0; have c1u := B_u.out.c1; have c2u := B_u.out.c2; have c3u := B_u.out.c3; have c0z := B_z.out.c0; have c1z := B_z.out.c1; have c2z := B_z.out.c2; have c3z := B_z.out.c3; have tk2x3 : True := trivial))) | fail
    all_goals (clear z1x z2y z3u z4z)
    have HBo := HB.out
    go_wp2
    go_ret
    exact ⟨rfl, nextw HBo (by exact ⟨rfl, rfl, rfl, Nat.le_refl _, fun _ _ => rfl⟩)⟩

set_option maxRecDepth 100000 in
set_option maxHeartbeats 16000000 in
theorem Same_no_r {v1 v2 : Value} {p1 q1 p2 q2 : Int} {k1 k2 : Nat} {w : World} (h1 : Fd w v1 p1 q1 k1) (h2 : Fd w v2 p2 q2 k2) (f1 : k1 ≤ 8000) (f2 : k2 ≤ 8000) (h0 : p1 * nzQ p2 q2 ≠ p2 * nzQ p1 q1) :
    Calls Tryz.prog 15 #[v1, v2] w fun e w' => e = .returned (.bool false) ∧ Below w.heap.size w w' := by
  have H0 := Lib.hid h0
  clear h0
  have WD1 := Lib.hid h1.words
  have WD2 := Lib.hid h2.words
  obtain ⟨sx, Ax, kx, cx, tx, Cx, lx, dx, rfl, hnx, hdx⟩ := h1.shape
  obtain ⟨sy, Ay, ky, cy, ty, Cy, ly, dy, rfl, hny, hdy⟩ := h2.shape
  have V_xn := Lib.hid hnx
  have V_xd := Lib.hid hdx
  have V_yn := Lib.hid hny
  have V_yd := Lib.hid hdy
  clear h1 hnx hdx h2 hny hdy
  have hb0 : Below w.heap.size w ((w.alloc (.cells #[.bool sx, (.slice Ax kx cx), .bool tx, (.slice Cx lx dx)] 26)).alloc (.cells #[.bool sy, (.slice Ay ky cy), .bool ty, (.slice Cy ly dy)] 26)) := (Below.alloc (Below.alloc (Below.refl w.heap.size w) (by simp <;> omega) _) (by simp <;> omega) _)
  have B_x : BoxR ((w.alloc (.cells #[.bool sx, (.slice Ax kx cx), .bool tx, (.slice Cx lx dx)] 26)).alloc (.cells #[.bool sy, (.slice Ay ky cy), .bool ty, (.slice Cy ly dy)] 26)) (w.heap.size) sx (.slice Ax kx cx) tx (.slice Cx lx dx) := by have h := BoxR.alloc (BoxR.new w sx (.slice Ax kx cx) tx (.slice Cx lx dx)) (.cells #[.bool sy, (.slice Ay ky cy), .bool ty, (.slice Cy ly dy)] 26); simpa using h
  replace B_x := Lib.hid B_x
  have B_y : BoxR ((w.alloc (.cells #[.bool sx, (.slice Ax kx cx), .bool tx, (.slice Cx lx dx)] 26)).alloc (.cells #[.bool sy, (.slice Ay ky cy), .bool ty, (.slice Cy ly dy)] 26)) (w.heap.size + 1) sy (.slice Ay ky cy) ty (.slice Cy ly dy) := by have h := BoxR.new (w.alloc (.cells #[.bool sx, (.slice Ax kx cx), .bool tx, (.slice Cx lx dx)] 26)) sy (.slice Ay ky cy) ty (.slice Cy ly dy); simpa using h
  replace B_y := Lib.hid B_y
  replace V_xn := Lib.hid (Rd.below V_xn.out hb0)
  replace V_xd := Lib.hid (Rd.below V_xd.out hb0)
  replace V_yn := Lib.hid (Rd.below V_yn.out hb0)
  replace V_yd := Lib.hid (Rd.below V_yd.out hb0)
  have HB := Lib.hid hb0
  clear hb0
  have c0x := B_x.out.c0
  have c1x := B_x.out.c1
  have c2x := B_x.out.c2
  have c3x := B_x.out.c3
  have c0y := B_y.out.c0
  have c1y := B_y.out.c1
  have c2y := B_y.out.c2
  have c3y := B_y.out.c3
  go_enter Tryz.func15, Tryz.ntmps15
  go_wp2_with fail
  clear c0x c1x c2x c3x c0y c1y c2y c3y
  generalize (w.alloc (.cells #[.bool sx, (.slice Ax kx cx), .bool tx, (.slice Cx lx dx)] 26)).alloc (.cells #[.bool sy, (.slice Ay ky cy), .bool ty, (.slice Cy ly dy)] 26) = W0 at *
  have c0x := B_x.out.c0
  have c1x := B_x.out.c1
  have c2x := B_x.out.c2
  have c3x := B_x.out.c3
  have c0y := B_y.out.c0
  have c1y := B_y.out.c1
  have c2y := B_y.out.c2
  have c3y := B_y.out.c3
  have Z1x := Lib.hid B_x.out.lt
  have Z2y := Lib.hid B_y.out.lt
  go_upto_region 1 with fail
  go_cut [5, 6] (fun a b wx => TwoR W0 (fun w v => Fd w v p1 (nzQ p1 q1) (k1 + 2)) (fun w v => Fd w v p2 (nzQ p2 q2) (k2 + 2)) a b wx)
  clear c0x c1x c2x c3x c0y c1y c2y c3y
  case first =>
    have HC := Lib.hid (Below.refl W0.heap.size W0)
    have zx0 := B_x.out.lt
    have zy0 := B_y.out.lt
    have c0x := B_x.out.c0
    have c1x := B_x.out.c1
    have c2x := B_x.out.c2
    have c3x := B_x.out.c3
    have c0y := B_y.out.c0
    have c1y := B_y.out.c1
    have c2y := B_y.out.c2
    have c3y := B_y.out.c3
    have tk1x0 : True := trivial
    first | (go_region_held3 (fun w' => w'.cell? ⟨w.heap.size, 0, none⟩ = some (.bool sx) ∧ w'.cell? ⟨w.heap.size, 1, none⟩ = some (.slice Ax kx cx) ∧ w'.cell? ⟨w.heap.size, 2, none⟩ = some (.bool tx) ∧ w'.cell? ⟨w.heap.size, 3, none⟩ = some (.slice Cx lx dx) ∧ w'.cell? ⟨w.heap.size + 1, 0, none⟩ = some (.bool sy) ∧ w'.cell? ⟨w.heap.size + 1, 1, none⟩ = some (.slice Ay ky cy) ∧ w'.cell? ⟨w.heap.size + 1, 2, none⟩ = some (.bool ty) ∧ w'.cell? ⟨w.heap.size + 1, 3, none⟩ = some (.slice Cy ly dy)) (((try dsimp only); (repeat' apply And.intro) <;> (first | (with_reducible assumption) | ((repeat (first | (with_reducible refine Eq.trans (cell_drew1 _ _) ?_) | (with_reducible refine Eq.trans (World.cell?_alloc_lt _ _ _ (by first | (dsimp only; omega) | (simp only [World.size_alloc, World.size_setCell]; omega))) ?_) | (with_reducible refine Eq.trans (cell_set4 (by omega) _ _ _ _) ?_))); with_reducible assumption) | assumption | go_keep)))
    (first
      | (clear tk1x0; go_at_call 44; refine (nonzero_f (Fd.mk (Rd.below V_xn.out (by first | exact ⟨rfl, rfl, rfl, Nat.le_refl _, fun _ _ => rfl⟩ | exact below_push1 rfl rfl rfl rfl | exact below_push2 rfl rfl rfl rfl)) (Rd.below V_xd.out (by first | exact ⟨rfl, rfl, rfl, Nat.le_refl _, fun _ _ => rfl⟩ | exact below_push1 rfl rfl rfl rfl | exact below_push2 rfl rfl rfl rfl))) (by omega)).mono ?_; rintro e w1 ⟨vu, rfl, ru, bb⟩; have bb0 := bb; (first | (have h2 := box_new2R (w := W0) bb0 rfl; have N_a := Lib.hid h2.1; have N_b := Lib.hid h2.2; clear h2) | (have h2 := box_new1R (w := W0) bb0 rfl; have N_a := Lib.hid h2; clear h2) | skip); clear bb0; replace bb := nextw (w0 := W0) (by first | exact ⟨rfl, rfl, rfl, Nat.le_refl _, fun _ _ => rfl⟩ | exact below_push1 rfl rfl rfl rfl | exact below_push2 rfl rfl rfl rfl) bb; clear V_xn V_xd; replace B_x := Lib.hid (BoxR.below B_x.out bb B_x.out.lt); replace B_y := Lib.hid (BoxR.below B_y.out bb B_y.out.lt); replace V_yn := Lib.hid (Rd.below V_yn.out bb); replace V_yd := Lib.hid (Rd.below V_yd.out bb); replace HB := Lib.hid (nextw HB.out bb); replace HC := Lib.hid (nextw HC.out bb); clear bb; replace ru := Lib.hid ru; have V_u := ru; clear ru; obtain ⟨su, Au, ku, cu, tu, Cu, lu, du, rfl, -, -⟩ := V_u.out.shape; clear c0x c1x c2x c3x c0y c1y c2y c3y; have c0x := B_x.out.c0; have c1x := B_x.out.c1; have c2x := B_x.out.c2; have c3x := B_x.out.c3; have c0y := B_y.out.c0; have c1y := B_y.out.c1; have c2y := B_y.out.c2; have c3y := B_y.out.c3; have zx1 := B_x.out.lt; have zy1 := B_y.out.lt; have hle1 := HC.out.size; (try (have LWa := Lib.hid N_a.out.lt)); have tk1x1 : True := trivial)
      | (clear tk1x1; go_at_call 44; refine (nonzero_f (Fd.mk (Rd.below V_yn.out (by first | exact ⟨rfl, rfl, rfl, Nat.le_refl _, fun _ _ => rfl⟩ | exact below_push1 rfl rfl rfl rfl | exact below_push2 rfl rfl rfl rfl)) (Rd.below V_yd.out (by first | exact ⟨rfl, rfl, rfl, Nat.le_refl _, fun _ _ => rfl⟩ | exact below_push1 rfl rfl rfl rfl | exact below_push2 rfl rfl rfl rfl))) (by omega)).mono ?_; rintro e w2 ⟨vz, rfl, rz, bb⟩; have bb0 := bb; (try (replace N_a := Lib.hid (BoxR.below N_a.out (nextw (by first | exact ⟨rfl, rfl, rfl, Nat.le_refl _, fun _ _ => rfl⟩ | exact below_push1 rfl rfl rfl rfl | exact below_push2 rfl rfl rfl rfl) bb) N_a.out.lt))); (try (replace N_b := Lib.hid (BoxR.below N_b.out (nextw (by first | exact ⟨rfl, rfl, rfl, Nat.le_refl _, fun _ _ => rfl⟩ | exact below_push1 rfl rfl rfl rfl | exact below_push2 rfl rfl rfl rfl) bb) N_b.out.lt))); (first | (have h2 := box_new2R (w := w1) bb0 rfl; have N_c := Lib.hid h2.1; have N_d := Lib.hid h2.2; clear h2) | (have h2 := box_new1R (w := w1) bb0 rfl; have N_c := Lib.hid h2; clear h2) | skip); clear bb0; replace bb := nextw (w0 := w1) (by first | exact ⟨rfl, rfl, rfl, Nat.le_refl _, fun _ _ => rfl⟩ | exact below_push1 rfl rfl rfl rfl | exact below_push2 rfl rfl rfl rfl) bb; clear V_yn V_yd; replace B_x := Lib.hid (BoxR.below B_x.out bb B_x.out.lt); replace B_y := Lib.hid (BoxR.below B_y.out bb B_y.out.lt); replace V_u := Lib.hid (Fd.below V_u.out bb); replace HB := Lib.hid (nextw HB.out bb); replace HC := Lib.hid (nextw HC.out bb); clear bb; replace rz := Lib.hid rz; have V_z := rz; clear rz; obtain ⟨sz, Az, kz, cz, tz, Cz, lz, dz, rfl, -, -⟩ := V_z.out.shape; clear c0x c1x c2x c3x c0y c1y c2y c3y; have c0x := B_x.out.c0; have c1x := B_x.out.c1; have c2x := B_x.out.c2; have c3x := B_x.out.c3; have c0y := B_y.out.c0; have c1y := B_y.out.c1; have c2y := B_y.out.c2; have c3y := B_y.out.c3; have zx2 := B_x.out.lt; have zy2 := B_y.out.lt; have hle2 := HC.out.size; (try (have LWc := Lib.hid N_c.out.lt)); (try (have c0a := N_a.out.c0; have c1a := N_a.out.c1; have c2a := N_a.out.c2; have c3a := N_a.out.c3; have f0a := N_a.out.f0; have f1a := N_a.out.f1; have f2a := N_a.out.f2; have f3a := N_a.out.f3)); (try (have c0b := N_b.out.c0; have c1b := N_b.out.c1; have c2b := N_b.out.c2; have c3b := N_b.out.c3; have f0b := N_b.out.f0; have f1b := N_b.out.f1; have f2b := N_b.out.f2; have f3b := N_b.out.f3)); (try (have c0c := N_c.out.c0; have c1c := N_c.out.c1; have c2c := N_c.out.c2; have c3c := N_c.out.c3; have f0c := N_c.out.f0; have f1c := N_c.out.f1; have f2c := N_c.out.f2; have f3c := N_c.out.f3)); (try (have c0d := N_d.out.c0; have c1d := N_d.out.c1; have c2d := N_d.out.c2; have c3d := N_d.out.c3; have f0d := N_d.out.f0; have f1d := N_d.out.f1; have f2d := N_d.out.f2; have f3d := N_d.out.f3)); (try (have la := N_a.out.lt; have lna := Nat.ne_of_lt la; have lma := Nat.ne_of_gt la)); (try (have lb := N_b.out.lt; have lnb := Nat.ne_of_lt lb; have lmb := Nat.ne_of_gt lb)); (try (have lc := N_c.out.lt; have lnc := Nat.ne_of_lt lc; have lmc := Nat.ne_of_gt lc)); (try (have ld := N_d.out.lt; have lnd := Nat.ne_of_lt ld; have lmd := Nat.ne_of_gt ld)); (try (have lba := Nat.ne_of_lt LWa.out; have lca := Nat.ne_of_gt LWa.out)); (try (have lbc := Nat.ne_of_lt LWc.out; have lcc := Nat.ne_of_gt LWc.out)); have tk1x2 : True := trivial))) | fail
    all_goals go_wp2_with fail
    all_goals go_meet
    all_goals (first | (with_reducible exact fin1R V_u.out V_z.out HC.out (keptR_Fd _ _ _) (keptR_Fd _ _ _)) | (with_reducible exact fin1bR V_u.out V_z.out HC.out (keptR_Fd _ _ _) (keptR_Fd _ _ _)) | (with_reducible exact fin2xR V_u.out V_z.out HC.out (keptR_Fd _ _ _) (keptR_Fd _ _ _) N_a.out (by omega)) | (with_reducible exact fin2bxR V_u.out V_z.out HC.out (keptR_Fd _ _ _) (keptR_Fd _ _ _) N_a.out (by omega)) | (with_reducible exact fin2xR V_u.out V_z.out HC.out (keptR_Fd _ _ _) (keptR_Fd _ _ _) N_c.out (by omega)) | (with_reducible exact fin2bxR V_u.out V_z.out HC.out (keptR_Fd _ _ _) (keptR_Fd _ _ _) N_c.out (by omega)) | (with_reducible exact fin3xR V_u.out V_z.out HC.out (keptR_Fd _ _ _) (keptR_Fd _ _ _) N_a.out N_b.out (by omega) (by omega) (by omega)) | (with_reducible exact fin3xR V_u.out V_z.out HC.out (keptR_Fd _ _ _) (keptR_Fd _ _ _) N_a.out N_c.out (by omega) (by omega) (by omega)) | (with_reducible exact fin3xR V_u.out V_z.out HC.out (keptR_Fd _ _ _) (keptR_Fd _ _ _) N_b.out N_c.out (by omega) (by omega) (by omega)) | (with_reducible exact fin3xR V_u.out V_z.out HC.out (keptR_Fd _ _ _) (keptR_Fd _ _ _) N_c.out N_d.out (by omega) (by omega) (by omega)) | (with_reducible exact fin3xR V_u.out V_z.out HC.out (keptR_Fd _ _ _) (keptR_Fd _ _ _) N_b.out N_a.out (by omega) (by omega) (by omega)) | (with_reducible exact fin3xR V_u.out V_z.out HC.out (keptR_Fd _ _ _) (keptR_Fd _ _ _) N_c.out N_a.out (by omega) (by omega) (by omega)) | (with_reducible exact fin3xR V_u.out V_z.out HC.out (keptR_Fd _ _ _) (keptR_Fd _ _ _) N_c.out N_b.out (by omega) (by omega) (by omega)) | (with_reducible exact fin3xR V_u.out V_z.out HC.out (keptR_Fd _ _ _) (keptR_Fd _ _ _) N_d.out N_c.out (by omega) (by omega) (by omega)))
  case rest =>
    rename World => wcu
    obtain ⟨pu, pz, su, Au, ku, cu, tu, Cu, lu, du, sz, Az, kz, cz, tz, Cz, lz, dz, rfl, rfl, hneu, hgeu, hgez, bu, bz, vu, vz, bb⟩ := hcut
    replace B_x := Lib.hid (BoxR.below B_x.out bb B_x.out.lt)
    replace B_y := Lib.hid (BoxR.below B_y.out bb B_y.out.lt)
    replace V_xn := Lib.hid (Rd.below V_xn.out bb)
    replace V_xd := Lib.hid (Rd.below V_xd.out bb)
    replace V_yn := Lib.hid (Rd.below V_yn.out bb)
    replace V_yd := Lib.hid (Rd.below V_yd.out bb)
    replace HB := Lib.hid (nextw HB.out bb)
    have Z3u := Lib.hid hgeu
    have Z4z := Lib.hid hgez
    clear bb hneu hgeu hgez
    have B_u := Lib.hid bu
    have B_z := Lib.hid bz
    have V_u := Lib.hid vu
    have V_z := Lib.hid vz
    clear bu bz vu vz
    clear V_xn V_xd V_yn V_yd B_x B_y
    have V_un := Lib.hid V_u.out.num
    have V_ud := Lib.hid V_u.out.den
    clear V_u
    have V_zn := Lib.hid V_z.out.num
    have V_zd := Lib.hid V_z.out.den
    clear V_z
    have c0u := B_u.out.c0
    have c1u := B_u.out.c1
    have c2u := B_u.out.c2
    have c3u := B_u.out.c3
    have c0z := B_z.out.c0
    have c1z := B_z.out.c1
    have c2z := B_z.out.c2
    have c3z := B_z.out.c3
    go_wp2
    have c0u := B_u.out.c0
    have c1u := B_u.out.c1
    have c2u := B_u.out.c2
    have c3u := B_u.out.c3
    have c0z := B_z.out.c0
    have c1z := B_z.out.c1
    have c2z := B_z.out.c2
    have c3z := B_z.out.c3
    have z1x := Z1x.out
    have z2y := Z2y.out
    have z3u := Z3u.out
    have z4z := Z4z.out
    have tk2x0 : True := trivial
    first | (go_region_held3 (fun w' => w'.cell? ⟨pu, 0, none⟩ = some (.bool su) ∧ w'.cell? ⟨pu, 1, none⟩ = some (.slice Au ku cu) ∧ w'.cell? ⟨pu, 2, none⟩ = some (.bool tu) ∧ w'.cell? ⟨pu, 3, none⟩ = some (.slice Cu lu du) ∧ w'.cell? ⟨pz, 0, none⟩ = some (.bool sz) ∧ w'.cell? ⟨pz, 1, none⟩ = some (.slice Az kz cz) ∧ w'.cell? ⟨pz, 2, none⟩ = some (.bool tz) ∧ w'.cell? ⟨pz, 3, none⟩ = some (.slice Cz lz dz)) (((try dsimp only); (repeat' apply And.intro) <;> (first | (with_reducible assumption) | ((repeat (first | (with_reducible refine Eq.trans (cell_drew1 _ _) ?_) | (with_reducible refine Eq.trans (cell_set4 (by omega) _ _ _ _) ?_))); with_reducible assumption) | assumption | go_keep)))
    (first
      | (clear tk2x0; go_at_call 46; refine (Mul_rd (Rd.below V_un.out (by exact ⟨rfl, rfl, rfl, Nat.le_refl _, fun _ _ => rfl⟩)) (Rd.below V_zd.out (by exact ⟨rfl, rfl, rfl, Nat.le_refl _, fun _ _ => rfl⟩)) (by omega) (by omega)).mono ?_; rintro e w3 ⟨va1, rfl, ra1, bb⟩; replace bb := nextw (w0 := wcu) (by exact ⟨rfl, rfl, rfl, Nat.le_refl _, fun _ _ => rfl⟩) bb; clear V_un V_zd; replace B_u := Lib.hid (BoxR.below B_u.out bb B_u.out.lt); replace B_z := Lib.hid (BoxR.below B_z.out bb B_z.out.lt); replace V_ud := Lib.hid (Rd.below V_ud.out bb); replace V_zn := Lib.hid (Rd.below V_zn.out bb); replace HB := Lib.hid (nextw HB.out bb); clear bb; replace ra1 := Lib.hid ra1; have V_a1 := ra1; clear ra1; obtain ⟨sa1, Aa1, ka1, ca1, rfl⟩ := V_a1.out.shape; clear c0u c1u c2u c3u c0z c1z c2z c3z; have c0u := B_u.out.c0; have c1u := B_u.out.c1; have c2u := B_u.out.c2; have c3u := B_u.out.c3; have c0z := B_z.out.c0; have c1z := B_z.out.c1; have c2z := B_z.out.c2; have c3z := B_z.out.c3; have tk2x1 : True := trivial)
      | (clear tk2x1; go_at_call 46; refine (Mul_rd (Rd.below V_zn.out (by exact ⟨rfl, rfl, rfl, Nat.le_refl _, fun _ _ => rfl⟩)) (Rd.below V_ud.out (by exact ⟨rfl, rfl, rfl, Nat.le_refl _, fun _ _ => rfl⟩)) (by omega) (by omega)).mono ?_; rintro e w4 ⟨va2, rfl, ra2, bb⟩; replace bb := nextw (w0 := w3) (by exact ⟨rfl, rfl, rfl, Nat.le_refl _, fun _ _ => rfl⟩) bb; clear V_ud V_zn; replace B_u := Lib.hid (BoxR.below B_u.out bb B_u.out.lt); replace B_z := Lib.hid (BoxR.below B_z.out bb B_z.out.lt); replace V_a1 := Lib.hid (Rc.below V_a1.out bb); replace HB := Lib.hid (nextw HB.out bb); clear bb; replace ra2 := Lib.hid ra2; have V_a2 := ra2; clear ra2; obtain ⟨sa2, Aa2, ka2, ca2, rfl⟩ := V_a2.out.shape; clear c0u c1u c2u c3u c0z c1z c2z c3z; have c0u := B_u.out.c0; have c1u := B_u.out.c1; have c2u := B_u.out.c2; have c3u := B_u.out.c3; have c0z := B_z.out.c0; have c1z := B_z.out.c1; have c2z := B_z.out.c2; have c3z := B_z.out.c3; have tk2x2 : True := trivial)
      | (clear tk2x2; go_at_call 45; refine (Cmp_rd_ne' (Rc.rd (Rc.below V_a1.out (by exact ⟨rfl, rfl, rfl, Nat.le_refl _, fun _ _ => rfl⟩))) (Rc.rd (Rc.below V_a2.out (by exact ⟨rfl, rfl, rfl, Nat.le_refl _, fun _ _ => rfl⟩))) (by omega) (by omega) H0.out).mono ?_; rintro e w5 ⟨cc, hcc, rfl, bb⟩; replace bb := nextw (w0 := w4) (by exact ⟨rfl, rfl, rfl, Nat.le_refl _, fun _ _ => rfl⟩) bb; clear V_a1 V_a2; replace B_u := Lib.hid (BoxR.below B_u.out bb B_u.out.lt); replace B_z := Lib.hid (BoxR.below B_z.out bb B_z.out.lt); replace HB := Lib.hid (nextw HB.out bb); clear bb; clear c0u c1u c2u c3u c0z c1z c2z c3z; have c0u := B_u.out.c0; have c1u := B_u.out.c1; have c2u := B_u.out.c2; have c3u := B_u.out.c3; have c0z := B_z.out.c0; have c1z := B_z.out.c1; have c2z := B_z.out.c2; have c3z := B_z.out.c3; have tk2x3 : True := trivial))) | fail
    all_goals (clear z1x z2y z3u z4z)
    have HBo := HB.out
    go_wp2
    go_ret
    exact ⟨rfl, nextw HBo (by exact ⟨rfl, rfl, rfl, Nat.le_refl _, fun _ _ => rfl⟩)⟩

set_option maxRecDepth 100000 in
set_option maxHeartbeats 8000000 in
theorem Then_r {v1 v2 : Value} {p1 q1 p2 q2 : Int} {k1 k2 : Nat} {w : World} (h1 : Fd w v1 p1 q1 k1) (h2 : Fd w v2 p2 q2 k2) (f1 : k1 ≤ 8000) (f2 : k2 ≤ 8000) :
    Calls Tryz.prog 13 #[v1, v2] w fun e w' => ∃ v', e = .returned v' ∧ Gc w' v' (thP p1 q1 p2 q2) (thQ p1 q1 p2 q2) (k1 + k2 + 5) ∧ Below w.heap.size w w' := by
  obtain ⟨sx, Ax, kx, cx, tx, Cx, lx, dx, rfl, hnx, hdx⟩ := h1.shape
  obtain ⟨sy, Ay, ky, cy, ty, Cy, ly, dy, rfl, hny, hdy⟩ := h2.shape
  have V_xn := Lib.hid hnx
  have V_xd := Lib.hid hdx
  have V_yn := Lib.hid hny
  have V_yd := Lib.hid hdy
  clear h1 hnx hdx h2 hny hdy
  have hb0 : Below w.heap.size w (((w.alloc (.cells #[.bool sx, (.slice Ax kx cx), .bool tx, (.slice Cx lx dx)] 26)).alloc (.cells #[.bool sy, (.slice Ay ky cy), .bool ty, (.slice Cy ly dy)] 26)).alloc (.cells #[.bool false, (.slice none 0 0), .bool false, (.slice none 0 0)] 26)) := (Below.alloc (Below.alloc (Below.alloc (Below.refl w.heap.size w) (by simp <;> omega) _) (by simp <;> omega) _) (by simp <;> omega) _)
  have B_x : BoxR (((w.alloc (.cells #[.bool sx, (.slice Ax kx cx), .bool tx, (.slice Cx lx dx)] 26)).alloc (.cells #[.bool sy, (.slice Ay ky cy), .bool ty, (.slice Cy ly dy)] 26)).alloc (.cells #[.bool false, (.slice none 0 0), .bool false, (.slice none 0 0)] 26)) (w.heap.size) sx (.slice Ax kx cx) tx (.slice Cx lx dx) := by have h := BoxR.alloc (BoxR.alloc (BoxR.new w sx (.slice Ax kx cx) tx (.slice Cx lx dx)) (.cells #[.bool sy, (.slice Ay ky cy), .bool ty, (.slice Cy ly dy)] 26)) (.cells #[.bool false, (.slice none 0 0), .bool false, (.slice none 0 0)] 26); simpa using h
  replace B_x := Lib.hid B_x
  have B_y : BoxR (((w.alloc (.cells #[.bool sx, (.slice Ax kx cx), .bool tx, (.slice Cx lx dx)] 26)).alloc (.cells #[.bool sy, (.slice Ay ky cy), .bool ty, (.slice Cy ly dy)] 26)).alloc (.cells #[.bool false, (.slice none 0 0), .bool false, (.slice none 0 0)] 26)) (w.heap.size + 1) sy (.slice Ay ky cy) ty (.slice Cy ly dy) := by have h := BoxR.alloc (BoxR.new (w.alloc (.cells #[.bool sx, (.slice Ax kx cx), .bool tx, (.slice Cx lx dx)] 26)) sy (.slice Ay ky cy) ty (.slice Cy ly dy)) (.cells #[.bool false, (.slice none 0 0), .bool false, (.slice none 0 0)] 26); simpa using h
  replace B_y := Lib.hid B_y
  have B_r : BoxR (((w.alloc (.cells #[.bool sx, (.slice Ax kx cx), .bool tx, (.slice Cx lx dx)] 26)).alloc (.cells #[.bool sy, (.slice Ay ky cy), .bool ty, (.slice Cy ly dy)] 26)).alloc (.cells #[.bool false, (.slice none 0 0), .bool false, (.slice none 0 0)] 26)) (w.heap.size + 1 + 1) false (.slice none 0 0) false (.slice none 0 0) := by have h := BoxR.new ((w.alloc (.cells #[.bool sx, (.slice Ax kx cx), .bool tx, (.slice Cx lx dx)] 26)).alloc (.cells #[.bool sy, (.slice Ay ky cy), .bool ty, (.slice Cy ly dy)] 26)) false (.slice none 0 0) false (.slice none 0 0); simpa using h
  replace B_r := Lib.hid B_r
  replace V_xn := Lib.hid (Rd.below V_xn.out hb0)
  replace V_xd := Lib.hid (Rd.below V_xd.out hb0)
  replace V_yn := Lib.hid (Rd.below V_yn.out hb0)
  replace V_yd := Lib.hid (Rd.below V_yd.out hb0)
  have HB := Lib.hid hb0
  clear hb0
  have c0x := B_x.out.c0
  have c1x := B_x.out.c1
  have c2x := B_x.out.c2
  have c3x := B_x.out.c3
  have c0y := B_y.out.c0
  have c1y := B_y.out.c1
  have c2y := B_y.out.c2
  have c3y := B_y.out.c3
  have c0r := B_r.out.c0
  have c1r := B_r.out.c1
  have c2r := B_r.out.c2
  have c3r := B_r.out.c3
  go_enter Tryz.func13, Tryz.ntmps13
  go_wp2_with fail
  clear c0x c1x c2x c3x c0y c1y c2y c3y c0r c1r c2r c3r
  generalize ((w.alloc (.cells #[.bool sx, (.slice Ax kx cx), .bool tx, (.slice Cx lx dx)] 26)).alloc (.cells #[.bool sy, (.slice Ay ky cy), .bool ty, (.slice Cy ly dy)] 26)).alloc (.cells #[.bool false, (.slice none 0 0), .bool false, (.slice none 0 0)] 26) = W0 at *
  refine (product_r (Fd.mk (Rd.below V_xn.out (by exact ⟨rfl, rfl, rfl, Nat.le_refl _, fun _ _ => rfl⟩)) (Rd.below V_xd.out (by exact ⟨rfl, rfl, rfl, Nat.le_refl _, fun _ _ => rfl⟩))) (Fd.mk (Rd.below V_yn.out (by exact ⟨rfl, rfl, rfl, Nat.le_refl _, fun _ _ => rfl⟩)) (Rd.below V_yd.out (by exact ⟨rfl, rfl, rfl, Nat.le_refl _, fun _ _ => rfl⟩))) f1 f2).mono ?_
  rintro e w1 ⟨vp, rfl, rp, bb⟩
  replace bb := nextw (w0 := W0) (by exact ⟨rfl, rfl, rfl, Nat.le_refl _, fun _ _ => rfl⟩) bb
  replace B_x := Lib.hid (BoxR.below B_x.out bb B_x.out.lt)
  replace B_y := Lib.hid (BoxR.below B_y.out bb B_y.out.lt)
  replace B_r := Lib.hid (BoxR.below B_r.out bb B_r.out.lt)
  replace V_xn := Lib.hid (Rd.below V_xn.out bb)
  replace V_xd := Lib.hid (Rd.below V_xd.out bb)
  replace V_yn := Lib.hid (Rd.below V_yn.out bb)
  replace V_yd := Lib.hid (Rd.below V_yd.out bb)
  replace HB := Lib.hid (nextw HB.out bb)
  clear bb
  have V_p := Lib.hid rp
  clear rp
  go_wp2_with fail
  refine (Norm_r (Gc.fd (Gc.below V_p.out (by exact ⟨rfl, rfl, rfl, Nat.le_refl _, fun _ _ => rfl⟩))) (by omega)).mono ?_
  rintro e w2 ⟨vq, rfl, rq, bb⟩
  replace bb := nextw (w0 := w1) (by exact ⟨rfl, rfl, rfl, Nat.le_refl _, fun _ _ => rfl⟩) bb
  replace B_x := Lib.hid (BoxR.below B_x.out bb B_x.out.lt)
  replace B_y := Lib.hid (BoxR.below B_y.out bb B_y.out.lt)
  replace B_r := Lib.hid (BoxR.below B_r.out bb B_r.out.lt)
  replace V_xn := Lib.hid (Rd.below V_xn.out bb)
  replace V_xd := Lib.hid (Rd.below V_xd.out bb)
  replace V_yn := Lib.hid (Rd.below V_yn.out bb)
  replace V_yd := Lib.hid (Rd.below V_yd.out bb)
  replace V_p := Lib.hid (Gc.below V_p.out bb)
  replace HB := Lib.hid (nextw HB.out bb)
  clear bb
  obtain ⟨sq, Aq, kq, cq, tq, Cq, lq, dq, rfl⟩ := rq.shape
  have V_q := Lib.hid rq
  clear rq
  skip
  have K_q := V_q
  replace K_q := Lib.hid (BoxR.keepsGc B_r.out K_q.out (.bool sq) (.slice Aq kq cq) (.bool tq) (.slice Cq lq dq))
  have HB1 := Lib.hid (Below.store4 HB.out (y := w.heap.size + 1 + 1) (by omega) (.bool sq) (.slice Aq kq cq) (.bool tq) (.slice Cq lq dq))
  have N0r := Lib.hid (BoxR.store B_r.out sq (.slice Aq kq cq) tq (.slice Cq lq dq))
  have s0r := N0r.out.c0
  have s1r := N0r.out.c1
  have s2r := N0r.out.c2
  have s3r := N0r.out.c3
  simp only [st4] at s0r s1r s2r s3r
  have HBF := HB1
  have c0r := B_r.out.c0
  have c1r := B_r.out.c1
  have c2r := B_r.out.c2
  have c3r := B_r.out.c3
  have f0r := B_r.out.f0
  have f1r := B_r.out.f1
  have f2r := B_r.out.f2
  have f3r := B_r.out.f3
  go_wp2_with fail
  exact bodyPost_ret (v := .agg #[.bool sq, (.slice Aq kq cq), .bool tq, (.slice Cq lq dq)]) (by simp [results, Tryz.results13, go_sem, s0r, s1r, s2r, s3r]) rfl ⟨_, rfl, (Gc.below K_q.out (by exact ⟨rfl, rfl, rfl, Nat.le_refl _, fun _ _ => rfl⟩)), (nextw HBF.out (by exact ⟨rfl, rfl, rfl, Nat.le_refl _, fun _ _ => rfl⟩))⟩
end Go.Proofs.YtccndofafljaaaaGreatDoor
