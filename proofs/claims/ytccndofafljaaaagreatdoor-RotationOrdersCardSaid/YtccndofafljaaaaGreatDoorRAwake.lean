/- Layer 3's laws: awake. -/
import Derived.Test.YtccndofafljaaaaGreatDoorRot5
import Derived.Test.YtccndofafljaaaaGreatDoorRLaw0
import Derived.Test.YtccndofafljaaaaGreatDoorQ4

set_option linter.unusedVariables false
set_option linter.unusedSimpArgs false

namespace Go.Proofs.YtccndofafljaaaaGreatDoor
open Go Go.RowKit Num

/-- A word in memory. -/
def Wd (w : World) (b o n : Nat) : Prop := b < w.heap.size ∧ w.cell? ⟨b, o, none⟩ = some (.int .u32 (n : Int))
theorem Wd.below {w w' : World} {b o n : Nat} (h : Wd w b o n) (hb : Below w.heap.size w w') : Wd w' b o n := ⟨Nat.lt_of_lt_of_le h.1 hb.size, (hb.cell (p := ⟨b, o, none⟩) h.1).trans h.2⟩
theorem Rc_one {w : World} {s : Bool} {A : Option Addr} {n c k : Nat} (h : Rc w (.agg #[.bool s, .slice A n c]) 1 k) : n = 1 ∧ ∃ b o, A = some ⟨b, o, none⟩ ∧ Wd w b o 1 := by
  have hu : U32 w (.slice A n c) (digs 1) := h.u32
  have e : digs 1 = [1] := by rw [digs_pos (by omega)]; simp [digs_zero]
  rw [e] at hu
  obtain ⟨A', cap, hv, -, -, h3⟩ := hu.form
  obtain ⟨b, off, rfl, hlt, hc⟩ := h3 (by simp)
  simp only [Value.slice.injEq] at hv
  obtain ⟨rfl, rfl, -⟩ := hv
  exact ⟨rfl, b, off, rfl, hlt, by have := hc 0 (by simp); simpa using this⟩
theorem zText_m7 : zText (-7) = [45, 55] := by
  unfold zText
  rw [show (-7 : Int).natAbs = 7 from rfl, Lib.decDigits]; rfl
theorem zText_25 : zText ((25 : Nat) : Int) = [50, 53] := by
  unfold zText
  rw [Int.natAbs_natCast, Lib.decDigits, dif_neg (by omega), Lib.decDigits, dif_pos (by omega)]; rfl
theorem text_c725 : (⟨#[45, 55, 47, 50, 53]⟩ : ByteArray) = ⟨(qText (cosQ 4 3)).toArray⟩ := by
  have h1 : (cosQ 4 3).num = -7 := by decide +kernel
  have h2 : (cosQ 4 3).den = 25 := by decide +kernel
  unfold qText
  rw [h1, h2, if_neg (by decide), zText_m7, zText_25]; rfl
theorem text_c3 : (⟨#[51]⟩ : ByteArray) = ⟨(qText 3).toArray⟩ := by
  have h1 : (3 : Rat).num = ((3 : Nat) : Int) := by decide +kernel
  have h2 : (3 : Rat).den = 1 := by decide +kernel
  unfold qText
  rw [h1, h2, if_pos (by decide), zText_dig 3 (by omega)]; rfl
theorem text_c4 : (⟨#[52]⟩ : ByteArray) = ⟨(qText 4).toArray⟩ := by
  have h1 : (4 : Rat).num = ((4 : Nat) : Int) := by decide +kernel
  have h2 : (4 : Rat).den = 1 := by decide +kernel
  unfold qText
  rw [h1, h2, if_pos (by decide), zText_dig 4 (by omega)]; rfl

set_option maxRecDepth 100000 in
set_option maxHeartbeats 16000000 in
theorem awakeR (w : World) (htab : Tab10 w) :
    Calls Tryz.prog 10 #[] w fun e w' => e = .returned (.bool true) ∧ Below w.heap.size w w' := by
  have V_tab := Lib.hid htab
  clear htab
  have HB := Lib.hid (Below.refl w.heap.size w)
  have HTA := Lib.hid text_c725
  have HTB := Lib.hid text_c3
  have HTC := Lib.hid text_c4
  go_enter Tryz.func10, Tryz.ntmps10
  go_wp2_with fail
  refine (Of_r (-2) (-4) (by omega) (by omega) (by omega) (by omega)).mono ?_
  rintro e w1 ⟨va, rfl, ra, bb⟩
  replace bb := nextw (w0 := w) (by exact ⟨rfl, rfl, rfl, Nat.le_refl _, fun _ _ => rfl⟩) bb
  replace V_tab := Lib.hid (tab_below V_tab.out bb)
  replace HB := Lib.hid (nextw HB.out bb)
  clear bb
  replace ra := ra.of_eq (show cnP (-2) (-4) = 1 by decide +kernel) (show cnQ (-2) (-4) = 2 by decide +kernel)
  obtain ⟨sa, Aa, ka, ca, ta, Ca, la, da, rfl, hna, hda⟩ := ra.parts
  obtain ⟨rfl, ba, oa, rfl, hwa⟩ := Rc_one hna
  clear hna hda
  have V_a := Lib.hid ra
  have V_wd := Lib.hid hwa
  clear ra hwa
  have hb0 : Below w1.heap.size w1 (w1.alloc (.cells #[.bool sa, (.slice (some ⟨ba, oa, none⟩) 1 ca), .bool ta, (.slice Ca la da)] 26)) := (Below.alloc (Below.refl w1.heap.size w1) (by simp <;> omega) _)
  have B_a : BoxR (w1.alloc (.cells #[.bool sa, (.slice (some ⟨ba, oa, none⟩) 1 ca), .bool ta, (.slice Ca la da)] 26)) (w1.heap.size) sa (.slice (some ⟨ba, oa, none⟩) 1 ca) ta (.slice Ca la da) := by have h := BoxR.new w1 sa (.slice (some ⟨ba, oa, none⟩) 1 ca) ta (.slice Ca la da); simpa using h
  replace B_a := Lib.hid B_a
  replace V_tab := Lib.hid (tab_below V_tab.out hb0)
  replace V_a := Lib.hid (Gc.below V_a.out hb0)
  replace V_wd := Lib.hid (Wd.below V_wd.out hb0)
  replace HB := Lib.hid (nextw HB.out hb0)
  clear hb0
  have c0a := B_a.out.c0
  have c1a := B_a.out.c1
  have c2a := B_a.out.c2
  have c3a := B_a.out.c3
  go_wp2_with fail
  clear c0a c1a c2a c3a
  generalize w1.alloc (.cells #[.bool sa, (.slice (some ⟨ba, oa, none⟩) 1 ca), .bool ta, (.slice Ca la da)] 26) = W1 at *
  refine (Then_r (Gc.fd (Gc.below V_a.out (by exact ⟨rfl, rfl, rfl, Nat.le_refl _, fun _ _ => rfl⟩))) (Gc.fd (Gc.below V_a.out (by exact ⟨rfl, rfl, rfl, Nat.le_refl _, fun _ _ => rfl⟩))) (by omega) (by omega)).mono ?_
  rintro e w2 ⟨vb, rfl, rb, bb⟩
  replace bb := nextw (w0 := W1) (by exact ⟨rfl, rfl, rfl, Nat.le_refl _, fun _ _ => rfl⟩) bb
  replace B_a := Lib.hid (BoxR.below B_a.out bb B_a.out.lt)
  replace V_tab := Lib.hid (tab_below V_tab.out bb)
  replace V_a := Lib.hid (Gc.below V_a.out bb)
  replace V_wd := Lib.hid (Wd.below V_wd.out bb)
  replace HB := Lib.hid (nextw HB.out bb)
  clear bb
  replace rb := rb.of_eq (show thP 1 2 1 2 = 4 by decide +kernel) (show thQ 1 2 1 2 = 3 by decide +kernel)
  obtain ⟨sb, Ab, kb, cb, tb, Cb, lb, db, rfl⟩ := rb.shape
  have V_b := Lib.hid rb
  clear rb
  have Z1a := Lib.hid B_a.out.lt
  have hb0 : Below w2.heap.size w2 (w2.alloc (.cells #[.bool sb, (.slice Ab kb cb), .bool tb, (.slice Cb lb db)] 26)) := (Below.alloc (Below.refl w2.heap.size w2) (by simp <;> omega) _)
  have B_b : BoxR (w2.alloc (.cells #[.bool sb, (.slice Ab kb cb), .bool tb, (.slice Cb lb db)] 26)) (w2.heap.size) sb (.slice Ab kb cb) tb (.slice Cb lb db) := by have h := BoxR.new w2 sb (.slice Ab kb cb) tb (.slice Cb lb db); simpa using h
  replace B_b := Lib.hid B_b
  replace B_a := Lib.hid (BoxR.below B_a.out hb0 B_a.out.lt)
  replace V_tab := Lib.hid (tab_below V_tab.out hb0)
  replace V_a := Lib.hid (Gc.below V_a.out hb0)
  replace V_wd := Lib.hid (Wd.below V_wd.out hb0)
  replace V_b := Lib.hid (Gc.below V_b.out hb0)
  replace HB := Lib.hid (nextw HB.out hb0)
  clear hb0
  have c0a := B_a.out.c0
  have c1a := B_a.out.c1
  have c2a := B_a.out.c2
  have c3a := B_a.out.c3
  skip
  clear c0a c1a c2a c3a
  have c0a := B_a.out.c0
  have c1a := B_a.out.c1
  have c2a := B_a.out.c2
  have c3a := B_a.out.c3
  go_wp2_with fail
  clear c0a c1a c2a c3a
  generalize w2.alloc (.cells #[.bool sb, (.slice Ab kb cb), .bool tb, (.slice Cb lb db)] 26) = W2 at *
  have c0a := B_a.out.c0
  have c1a := B_a.out.c1
  have c2a := B_a.out.c2
  have c3a := B_a.out.c3
  have Z2a := Lib.hid B_a.out.lt
  have Z3b := Lib.hid B_b.out.lt
  go_upto_region 3 with fail
  go_cut [3, 4] (fun a b wx => TwoQ W2 (fun w v => Qc w v (cosQ 1 2 * Rat.divInt 5 1 - sinQ 1 2 * Rat.divInt 0 1) (8 * 4 + 2 * 4 + 27)) (fun w v => Qc w v (sinQ 1 2 * Rat.divInt 5 1 + cosQ 1 2 * Rat.divInt 0 1) (8 * 4 + 2 * 4 + 27)) a b wx)
  clear c0a c1a c2a c3a
  case first =>
    clear V_tab V_wd V_b B_b
    have HC := Lib.hid (Below.refl W2.heap.size W2)
    have za0 := B_a.out.lt
    have c0a := B_a.out.c0
    have c1a := B_a.out.c1
    have c2a := B_a.out.c2
    have c3a := B_a.out.c3
    have tk1x0 : True := trivial
    first | (go_region_held3 (fun w' => w'.cell? ⟨w1.heap.size, 0, none⟩ = some (.bool sa) ∧ w'.cell? ⟨w1.heap.size, 1, none⟩ = some (.slice (some ⟨ba, oa, none⟩) 1 ca) ∧ w'.cell? ⟨w1.heap.size, 2, none⟩ = some (.bool ta) ∧ w'.cell? ⟨w1.heap.size, 3, none⟩ = some (.slice Ca la da)) (((try dsimp only); (repeat' apply And.intro) <;> (first | (with_reducible assumption) | ((repeat (first | (with_reducible refine Eq.trans (cell_drew1 _ _) ?_) | (with_reducible refine Eq.trans (World.cell?_alloc_lt _ _ _ (by first | (dsimp only; omega) | (simp only [World.size_alloc, World.size_setCell]; omega))) ?_) | (with_reducible refine Eq.trans (cell_set4 (by omega) _ _ _ _) ?_))); with_reducible assumption) | assumption | go_keep)))
    (first
      | (clear tk1x0; go_at_call 20; refine (Of_q (5) (1) (by omega) (by omega) (by omega) (by omega)).mono ?_; rintro e w3 ⟨vo1, rfl, ro1, bb⟩; have bb0 := bb; (first | (have h2 := box_new2Q (w := W2) bb0 rfl; have N_a := Lib.hid h2.1; have N_b := Lib.hid h2.2; clear h2) | (have h2 := box_new1Q (w := W2) bb0 rfl; have N_a := Lib.hid h2; clear h2) | skip); clear bb0; replace bb := nextw (w0 := W2) (by first | exact ⟨rfl, rfl, rfl, Nat.le_refl _, fun _ _ => rfl⟩ | exact below_push1 rfl rfl rfl rfl | exact below_push2 rfl rfl rfl rfl) bb; replace B_a := Lib.hid (BoxR.below B_a.out bb B_a.out.lt); replace V_a := Lib.hid (Gc.below V_a.out bb); replace HB := Lib.hid (nextw HB.out bb); replace HC := Lib.hid (nextw HC.out bb); clear bb; replace ro1 := Lib.hid ro1; have V_o1 := ro1; clear ro1; clear c0a c1a c2a c3a; have c0a := B_a.out.c0; have c1a := B_a.out.c1; have c2a := B_a.out.c2; have c3a := B_a.out.c3; have za1 := B_a.out.lt; have hle1 := HC.out.size; (try (have LWa0 := Lib.hid N_a.out.lt)); (try (have LWb0 := Lib.hid N_b.out.lt)); have tk1x1 : True := trivial)
      | (clear tk1x1; go_at_call 20; refine (Of_q (0) (1) (by omega) (by omega) (by omega) (by omega)).mono ?_; rintro e w4 ⟨vo2, rfl, ro2, bb⟩; have bb0 := bb; (try (replace N_a := Lib.hid (Box4.below N_a.out (nextw (by first | exact ⟨rfl, rfl, rfl, Nat.le_refl _, fun _ _ => rfl⟩ | exact below_push1 rfl rfl rfl rfl | exact below_push2 rfl rfl rfl rfl) bb) N_a.out.lt))); (try (replace N_b := Lib.hid (Box4.below N_b.out (nextw (by first | exact ⟨rfl, rfl, rfl, Nat.le_refl _, fun _ _ => rfl⟩ | exact below_push1 rfl rfl rfl rfl | exact below_push2 rfl rfl rfl rfl) bb) N_b.out.lt))); (first | (have h2 := box_new2Q (w := w3) bb0 rfl; have N_c := Lib.hid h2.1; have N_d := Lib.hid h2.2; clear h2) | (have h2 := box_new1Q (w := w3) bb0 rfl; have N_c := Lib.hid h2; clear h2) | skip); clear bb0; replace bb := nextw (w0 := w3) (by first | exact ⟨rfl, rfl, rfl, Nat.le_refl _, fun _ _ => rfl⟩ | exact below_push1 rfl rfl rfl rfl | exact below_push2 rfl rfl rfl rfl) bb; replace B_a := Lib.hid (BoxR.below B_a.out bb B_a.out.lt); replace V_a := Lib.hid (Gc.below V_a.out bb); replace V_o1 := Lib.hid (Qc.below V_o1.out bb); replace HB := Lib.hid (nextw HB.out bb); replace HC := Lib.hid (nextw HC.out bb); clear bb; replace ro2 := Lib.hid ro2; have V_o2 := ro2; clear ro2; clear c0a c1a c2a c3a; have c0a := B_a.out.c0; have c1a := B_a.out.c1; have c2a := B_a.out.c2; have c3a := B_a.out.c3; have za2 := B_a.out.lt; have hle2 := HC.out.size; (try (have LWa1 := Lib.hid N_a.out.lt)); (try (have LWb1 := Lib.hid N_b.out.lt)); (try (have LWc1 := Lib.hid N_c.out.lt)); (try (have LWd1 := Lib.hid N_d.out.lt)); have tk1x2 : True := trivial)
      | (clear tk1x2; go_at_call 19; refine (Turn_r (j := 4) (Gc.fd (Gc.below V_a.out (by first | exact ⟨rfl, rfl, rfl, Nat.le_refl _, fun _ _ => rfl⟩ | exact below_push1 rfl rfl rfl rfl | exact below_push2 rfl rfl rfl rfl))) (Qc.qd (Qc.below V_o1.out (by first | exact ⟨rfl, rfl, rfl, Nat.le_refl _, fun _ _ => rfl⟩ | exact below_push1 rfl rfl rfl rfl | exact below_push2 rfl rfl rfl rfl))) (Qc.qd (Qc.below V_o2.out (by first | exact ⟨rfl, rfl, rfl, Nat.le_refl _, fun _ _ => rfl⟩ | exact below_push1 rfl rfl rfl rfl | exact below_push2 rfl rfl rfl rfl))) (by omega) (by omega)).mono ?_; rintro e w5 ⟨vX, vY, rfl, rX, rY, bb⟩; have bb0 := bb; (try (replace N_a := Lib.hid (Box4.below N_a.out (nextw (by first | exact ⟨rfl, rfl, rfl, Nat.le_refl _, fun _ _ => rfl⟩ | exact below_push1 rfl rfl rfl rfl | exact below_push2 rfl rfl rfl rfl) bb) N_a.out.lt))); (try (replace N_b := Lib.hid (Box4.below N_b.out (nextw (by first | exact ⟨rfl, rfl, rfl, Nat.le_refl _, fun _ _ => rfl⟩ | exact below_push1 rfl rfl rfl rfl | exact below_push2 rfl rfl rfl rfl) bb) N_b.out.lt))); (try (replace N_c := Lib.hid (Box4.below N_c.out (nextw (by first | exact ⟨rfl, rfl, rfl, Nat.le_refl _, fun _ _ => rfl⟩ | exact below_push1 rfl rfl rfl rfl | exact below_push2 rfl rfl rfl rfl) bb) N_c.out.lt))); (try (replace N_d := Lib.hid (Box4.below N_d.out (nextw (by first | exact ⟨rfl, rfl, rfl, Nat.le_refl _, fun _ _ => rfl⟩ | exact below_push1 rfl rfl rfl rfl | exact below_push2 rfl rfl rfl rfl) bb) N_d.out.lt))); (first | (have h2 := box_new2Q (w := w4) bb0 rfl; have N_e := Lib.hid h2.1; have N_f := Lib.hid h2.2; clear h2) | (have h2 := box_new1Q (w := w4) bb0 rfl; have N_e := Lib.hid h2; clear h2) | skip); clear bb0; replace bb := nextw (w0 := w4) (by first | exact ⟨rfl, rfl, rfl, Nat.le_refl _, fun _ _ => rfl⟩ | exact below_push1 rfl rfl rfl rfl | exact below_push2 rfl rfl rfl rfl) bb; clear V_a V_o1 V_o2; replace B_a := Lib.hid (BoxR.below B_a.out bb B_a.out.lt); replace HB := Lib.hid (nextw HB.out bb); replace HC := Lib.hid (nextw HC.out bb); clear bb; replace rX := Lib.hid rX; have V_X := rX; clear rX; replace rY := Lib.hid rY; have V_Y := rY; clear rY; obtain ⟨sX, AX, kX, cX, tX, CX, lX, dX, rfl⟩ := V_X.out.shape; obtain ⟨sY, AY, kY, cY, tY, CY, lY, dY, rfl⟩ := V_Y.out.shape; clear c0a c1a c2a c3a; have c0a := B_a.out.c0; have c1a := B_a.out.c1; have c2a := B_a.out.c2; have c3a := B_a.out.c3; have za3 := B_a.out.lt; have hle3 := HC.out.size; (try (have c0a := N_a.out.c0; have c1a := N_a.out.c1; have c2a := N_a.out.c2; have c3a := N_a.out.c3; have f0a := N_a.out.f0; have f1a := N_a.out.f1; have f2a := N_a.out.f2; have f3a := N_a.out.f3)); (try (have c0b := N_b.out.c0; have c1b := N_b.out.c1; have c2b := N_b.out.c2; have c3b := N_b.out.c3; have f0b := N_b.out.f0; have f1b := N_b.out.f1; have f2b := N_b.out.f2; have f3b := N_b.out.f3)); (try (have c0c := N_c.out.c0; have c1c := N_c.out.c1; have c2c := N_c.out.c2; have c3c := N_c.out.c3; have f0c := N_c.out.f0; have f1c := N_c.out.f1; have f2c := N_c.out.f2; have f3c := N_c.out.f3)); (try (have c0d := N_d.out.c0; have c1d := N_d.out.c1; have c2d := N_d.out.c2; have c3d := N_d.out.c3; have f0d := N_d.out.f0; have f1d := N_d.out.f1; have f2d := N_d.out.f2; have f3d := N_d.out.f3)); (try (have c0e := N_e.out.c0; have c1e := N_e.out.c1; have c2e := N_e.out.c2; have c3e := N_e.out.c3; have f0e := N_e.out.f0; have f1e := N_e.out.f1; have f2e := N_e.out.f2; have f3e := N_e.out.f3)); (try (have c0f := N_f.out.c0; have c1f := N_f.out.c1; have c2f := N_f.out.c2; have c3f := N_f.out.c3; have f0f := N_f.out.f0; have f1f := N_f.out.f1; have f2f := N_f.out.f2; have f3f := N_f.out.f3)); (try (have la := N_a.out.lt; have lna := Nat.ne_of_lt la; have lma := Nat.ne_of_gt la)); (try (have lb := N_b.out.lt; have lnb := Nat.ne_of_lt lb; have lmb := Nat.ne_of_gt lb)); (try (have lc := N_c.out.lt; have lnc := Nat.ne_of_lt lc; have lmc := Nat.ne_of_gt lc)); (try (have ld := N_d.out.lt; have lnd := Nat.ne_of_lt ld; have lmd := Nat.ne_of_gt ld)); (try (have le := N_e.out.lt; have lne := Nat.ne_of_lt le; have lme := Nat.ne_of_gt le)); (try (have lf := N_f.out.lt; have lnf := Nat.ne_of_lt lf; have lmf := Nat.ne_of_gt lf)); (try (have lba0 := Nat.ne_of_lt LWa0.out; have lca0 := Nat.ne_of_gt LWa0.out)); (try (have lbb0 := Nat.ne_of_lt LWb0.out; have lcb0 := Nat.ne_of_gt LWb0.out)); (try (have lba1 := Nat.ne_of_lt LWa1.out; have lca1 := Nat.ne_of_gt LWa1.out)); (try (have lbb1 := Nat.ne_of_lt LWb1.out; have lcb1 := Nat.ne_of_gt LWb1.out)); (try (have lbc1 := Nat.ne_of_lt LWc1.out; have lcc1 := Nat.ne_of_gt LWc1.out)); (try (have lbd1 := Nat.ne_of_lt LWd1.out; have lcd1 := Nat.ne_of_gt LWd1.out)); have tk1x3 : True := trivial))) | fail
    all_goals go_wp2_with fail
    all_goals go_meet
    all_goals (first | (with_reducible exact fin1Q V_X.out V_Y.out HC.out (keptQ_Qc _ _) (keptQ_Qc _ _)) | (with_reducible exact fin1bQ V_X.out V_Y.out HC.out (keptQ_Qc _ _) (keptQ_Qc _ _)) | (with_reducible exact fin2xQ V_X.out V_Y.out HC.out (keptQ_Qc _ _) (keptQ_Qc _ _) N_a.out (by omega)) | (with_reducible exact fin2bxQ V_X.out V_Y.out HC.out (keptQ_Qc _ _) (keptQ_Qc _ _) N_a.out (by omega)) | (with_reducible exact fin2xQ V_X.out V_Y.out HC.out (keptQ_Qc _ _) (keptQ_Qc _ _) N_c.out (by omega)) | (with_reducible exact fin2bxQ V_X.out V_Y.out HC.out (keptQ_Qc _ _) (keptQ_Qc _ _) N_c.out (by omega)) | (with_reducible exact fin2xQ V_X.out V_Y.out HC.out (keptQ_Qc _ _) (keptQ_Qc _ _) N_e.out (by omega)) | (with_reducible exact fin2bxQ V_X.out V_Y.out HC.out (keptQ_Qc _ _) (keptQ_Qc _ _) N_e.out (by omega)) | (with_reducible exact fin3xQ V_X.out V_Y.out HC.out (keptQ_Qc _ _) (keptQ_Qc _ _) N_a.out N_b.out (by omega) (by omega) (by omega)) | (with_reducible exact fin3xQ V_X.out V_Y.out HC.out (keptQ_Qc _ _) (keptQ_Qc _ _) N_a.out N_c.out (by omega) (by omega) (by omega)) | (with_reducible exact fin3xQ V_X.out V_Y.out HC.out (keptQ_Qc _ _) (keptQ_Qc _ _) N_a.out N_e.out (by omega) (by omega) (by omega)) | (with_reducible exact fin3xQ V_X.out V_Y.out HC.out (keptQ_Qc _ _) (keptQ_Qc _ _) N_b.out N_c.out (by omega) (by omega) (by omega)) | (with_reducible exact fin3xQ V_X.out V_Y.out HC.out (keptQ_Qc _ _) (keptQ_Qc _ _) N_b.out N_e.out (by omega) (by omega) (by omega)) | (with_reducible exact fin3xQ V_X.out V_Y.out HC.out (keptQ_Qc _ _) (keptQ_Qc _ _) N_c.out N_d.out (by omega) (by omega) (by omega)) | (with_reducible exact fin3xQ V_X.out V_Y.out HC.out (keptQ_Qc _ _) (keptQ_Qc _ _) N_c.out N_e.out (by omega) (by omega) (by omega)) | (with_reducible exact fin3xQ V_X.out V_Y.out HC.out (keptQ_Qc _ _) (keptQ_Qc _ _) N_d.out N_e.out (by omega) (by omega) (by omega)) | (with_reducible exact fin3xQ V_X.out V_Y.out HC.out (keptQ_Qc _ _) (keptQ_Qc _ _) N_e.out N_f.out (by omega) (by omega) (by omega)) | (with_reducible exact fin3xQ V_X.out V_Y.out HC.out (keptQ_Qc _ _) (keptQ_Qc _ _) N_b.out N_a.out (by omega) (by omega) (by omega)) | (with_reducible exact fin3xQ V_X.out V_Y.out HC.out (keptQ_Qc _ _) (keptQ_Qc _ _) N_c.out N_a.out (by omega) (by omega) (by omega)) | (with_reducible exact fin3xQ V_X.out V_Y.out HC.out (keptQ_Qc _ _) (keptQ_Qc _ _) N_e.out N_a.out (by omega) (by omega) (by omega)) | (with_reducible exact fin3xQ V_X.out V_Y.out HC.out (keptQ_Qc _ _) (keptQ_Qc _ _) N_c.out N_b.out (by omega) (by omega) (by omega)) | (with_reducible exact fin3xQ V_X.out V_Y.out HC.out (keptQ_Qc _ _) (keptQ_Qc _ _) N_e.out N_b.out (by omega) (by omega) (by omega)) | (with_reducible exact fin3xQ V_X.out V_Y.out HC.out (keptQ_Qc _ _) (keptQ_Qc _ _) N_d.out N_c.out (by omega) (by omega) (by omega)) | (with_reducible exact fin3xQ V_X.out V_Y.out HC.out (keptQ_Qc _ _) (keptQ_Qc _ _) N_e.out N_c.out (by omega) (by omega) (by omega)) | (with_reducible exact fin3xQ V_X.out V_Y.out HC.out (keptQ_Qc _ _) (keptQ_Qc _ _) N_e.out N_d.out (by omega) (by omega) (by omega)) | (with_reducible exact fin3xQ V_X.out V_Y.out HC.out (keptQ_Qc _ _) (keptQ_Qc _ _) N_f.out N_e.out (by omega) (by omega) (by omega)))
  case rest =>
    rename World => wcX
    obtain ⟨pX, pY, sX, AX, kX, cX, tX, CX, lX, dX, sY, AY, kY, cY, tY, CY, lY, dY, rfl, rfl, hneX, hgeX, hgeY, bqX, bqY, vqX, vqY, bb⟩ := hcut
    replace B_a := Lib.hid (BoxR.below B_a.out bb B_a.out.lt)
    replace B_b := Lib.hid (BoxR.below B_b.out bb B_b.out.lt)
    replace V_tab := Lib.hid (tab_below V_tab.out bb)
    replace V_a := Lib.hid (Gc.below V_a.out bb)
    replace V_wd := Lib.hid (Wd.below V_wd.out bb)
    replace V_b := Lib.hid (Gc.below V_b.out bb)
    replace HB := Lib.hid (nextw HB.out bb)
    have Z4X := Lib.hid hgeX
    have Z5Y := Lib.hid hgeY
    clear bb hneX hgeX hgeY
    have B_X := Lib.hid bqX
    have B_Y := Lib.hid bqY
    have V_X := Lib.hid vqX
    have V_Y := Lib.hid vqY
    clear bqX bqY vqX vqY
    replace V_X := Lib.hid (V_X.out.of_eq (show cosQ 1 2 * Rat.divInt 5 1 - sinQ 1 2 * Rat.divInt 0 1 = 3 by decide +kernel))
    replace V_Y := Lib.hid (V_Y.out.of_eq (show sinQ 1 2 * Rat.divInt 5 1 + cosQ 1 2 * Rat.divInt 0 1 = 4 by decide +kernel))
    have c0a := B_a.out.c0
    have c1a := B_a.out.c1
    have c2a := B_a.out.c2
    have c3a := B_a.out.c3
    have c0b := B_b.out.c0
    have c1b := B_b.out.c1
    have c2b := B_b.out.c2
    have c3b := B_b.out.c3
    have c0X := B_X.out.c0
    have c1X := B_X.out.c1
    have c2X := B_X.out.c2
    have c3X := B_X.out.c3
    have c0Y := B_Y.out.c0
    have c1Y := B_Y.out.c1
    have c2Y := B_Y.out.c2
    have c3Y := B_Y.out.c3
    have cw := V_wd.out.2
    go_wp2
    clear c0a c1a c2a c3a c0b c1b c2b c3b c0X c1X c2X c3X c0Y c1Y c2Y c3Y
    clear cw
    have c0a := B_a.out.c0
    have c1a := B_a.out.c1
    have c2a := B_a.out.c2
    have c3a := B_a.out.c3
    have c0b := B_b.out.c0
    have c1b := B_b.out.c1
    have c2b := B_b.out.c2
    have c3b := B_b.out.c3
    have c0X := B_X.out.c0
    have c1X := B_X.out.c1
    have c2X := B_X.out.c2
    have c3X := B_X.out.c3
    have c0Y := B_Y.out.c0
    have c1Y := B_Y.out.c1
    have c2Y := B_Y.out.c2
    have c3Y := B_Y.out.c3
    have cw := V_wd.out.2
    have z1a := Z1a.out
    have z2a := Z2a.out
    have z3b := Z3b.out
    have z4X := Z4X.out
    have z5Y := Z5Y.out
    have tk2x0 : True := trivial
    first | (go_region_held3 (fun w' => w'.cell? ⟨w1.heap.size, 0, none⟩ = some (.bool sa) ∧ w'.cell? ⟨w1.heap.size, 1, none⟩ = some (.slice (some ⟨ba, oa, none⟩) 1 ca) ∧ w'.cell? ⟨w1.heap.size, 2, none⟩ = some (.bool ta) ∧ w'.cell? ⟨w1.heap.size, 3, none⟩ = some (.slice Ca la da) ∧ w'.cell? ⟨w2.heap.size, 0, none⟩ = some (.bool sb) ∧ w'.cell? ⟨w2.heap.size, 1, none⟩ = some (.slice Ab kb cb) ∧ w'.cell? ⟨w2.heap.size, 2, none⟩ = some (.bool tb) ∧ w'.cell? ⟨w2.heap.size, 3, none⟩ = some (.slice Cb lb db) ∧ w'.cell? ⟨pX, 0, none⟩ = some (.bool sX) ∧ w'.cell? ⟨pX, 1, none⟩ = some (.slice AX kX cX) ∧ w'.cell? ⟨pX, 2, none⟩ = some (.bool tX) ∧ w'.cell? ⟨pX, 3, none⟩ = some (.slice CX lX dX) ∧ w'.cell? ⟨pY, 0, none⟩ = some (.bool sY) ∧ w'.cell? ⟨pY, 1, none⟩ = some (.slice AY kY cY) ∧ w'.cell? ⟨pY, 2, none⟩ = some (.bool tY) ∧ w'.cell? ⟨pY, 3, none⟩ = some (.slice CY lY dY) ∧ w'.cell? ⟨ba, oa, none⟩ = some (.int .u32 ((1 : Nat) : Int))) (((try dsimp only); (repeat' apply And.intro) <;> (first | (with_reducible assumption) | ((repeat (first | (with_reducible refine Eq.trans (cell_drew1 _ _) ?_) | (with_reducible refine Eq.trans (cell_set4 (by omega) _ _ _ _) ?_))); with_reducible assumption) | assumption | go_keep)))
    (first
      | (clear tk2x0; go_at_call 12; refine (Of_r 4 3 (by omega) (by omega) (by omega) (by omega)).mono ?_; rintro e w6 ⟨vo, rfl, ro, bb⟩; replace bb := nextw (w0 := wcX) (by exact ⟨rfl, rfl, rfl, Nat.le_refl _, fun _ _ => rfl⟩) bb; replace B_a := Lib.hid (BoxR.below B_a.out bb B_a.out.lt); replace B_b := Lib.hid (BoxR.below B_b.out bb B_b.out.lt); replace B_X := Lib.hid (Box4.below B_X.out bb B_X.out.lt); replace B_Y := Lib.hid (Box4.below B_Y.out bb B_Y.out.lt); replace V_tab := Lib.hid (tab_below V_tab.out bb); replace V_a := Lib.hid (Gc.below V_a.out bb); replace V_wd := Lib.hid (Wd.below V_wd.out bb); replace V_b := Lib.hid (Gc.below V_b.out bb); replace V_X := Lib.hid (Qc.below V_X.out bb); replace V_Y := Lib.hid (Qc.below V_Y.out bb); replace HB := Lib.hid (nextw HB.out bb); clear bb; replace ro := Lib.hid ro; have V_o := ro; clear ro; clear c0a c1a c2a c3a c0b c1b c2b c3b c0X c1X c2X c3X c0Y c1Y c2Y c3Y; have c0a := B_a.out.c0; have c1a := B_a.out.c1; have c2a := B_a.out.c2; have c3a := B_a.out.c3; have c0b := B_b.out.c0; have c1b := B_b.out.c1; have c2b := B_b.out.c2; have c3b := B_b.out.c3; have c0X := B_X.out.c0; have c1X := B_X.out.c1; have c2X := B_X.out.c2; have c3X := B_X.out.c3; have c0Y := B_Y.out.c0; have c1Y := B_Y.out.c1; have c2Y := B_Y.out.c2; have c3Y := B_Y.out.c3; clear cw; have cw := V_wd.out.2; have tk2x1 : True := trivial)
      | (clear tk2x1; go_at_call 15; refine (Same_yes_r (Gc.fd (Gc.below V_b.out (by exact ⟨rfl, rfl, rfl, Nat.le_refl _, fun _ _ => rfl⟩))) (Gc.fd (Gc.below V_o.out (by exact ⟨rfl, rfl, rfl, Nat.le_refl _, fun _ _ => rfl⟩))) (by omega) (by omega) (by decide +kernel)).mono ?_; rintro e w7 ⟨rfl, bb⟩; replace bb := nextw (w0 := w6) (by exact ⟨rfl, rfl, rfl, Nat.le_refl _, fun _ _ => rfl⟩) bb; clear V_o; replace B_a := Lib.hid (BoxR.below B_a.out bb B_a.out.lt); replace B_b := Lib.hid (BoxR.below B_b.out bb B_b.out.lt); replace B_X := Lib.hid (Box4.below B_X.out bb B_X.out.lt); replace B_Y := Lib.hid (Box4.below B_Y.out bb B_Y.out.lt); replace V_tab := Lib.hid (tab_below V_tab.out bb); replace V_a := Lib.hid (Gc.below V_a.out bb); replace V_wd := Lib.hid (Wd.below V_wd.out bb); replace V_b := Lib.hid (Gc.below V_b.out bb); replace V_X := Lib.hid (Qc.below V_X.out bb); replace V_Y := Lib.hid (Qc.below V_Y.out bb); replace HB := Lib.hid (nextw HB.out bb); clear bb; clear c0a c1a c2a c3a c0b c1b c2b c3b c0X c1X c2X c3X c0Y c1Y c2Y c3Y; have c0a := B_a.out.c0; have c1a := B_a.out.c1; have c2a := B_a.out.c2; have c3a := B_a.out.c3; have c0b := B_b.out.c0; have c1b := B_b.out.c1; have c2b := B_b.out.c2; have c3b := B_b.out.c3; have c0X := B_X.out.c0; have c1X := B_X.out.c1; have c2X := B_X.out.c2; have c3X := B_X.out.c3; have c0Y := B_Y.out.c0; have c1Y := B_Y.out.c1; have c2Y := B_Y.out.c2; have c3Y := B_Y.out.c3; clear cw; have cw := V_wd.out.2; have tk2x2 : True := trivial)
      | (clear tk2x2; go_at_call 15; refine (Same_no_r (Gc.fd (Gc.below V_a.out (by exact ⟨rfl, rfl, rfl, Nat.le_refl _, fun _ _ => rfl⟩))) (Gc.fd (Gc.below V_b.out (by exact ⟨rfl, rfl, rfl, Nat.le_refl _, fun _ _ => rfl⟩))) (by omega) (by omega) (by decide +kernel)).mono ?_; rintro e w8 ⟨rfl, bb⟩; replace bb := nextw (w0 := w7) (by exact ⟨rfl, rfl, rfl, Nat.le_refl _, fun _ _ => rfl⟩) bb; replace B_a := Lib.hid (BoxR.below B_a.out bb B_a.out.lt); replace B_b := Lib.hid (BoxR.below B_b.out bb B_b.out.lt); replace B_X := Lib.hid (Box4.below B_X.out bb B_X.out.lt); replace B_Y := Lib.hid (Box4.below B_Y.out bb B_Y.out.lt); replace V_tab := Lib.hid (tab_below V_tab.out bb); replace V_a := Lib.hid (Gc.below V_a.out bb); replace V_wd := Lib.hid (Wd.below V_wd.out bb); replace V_b := Lib.hid (Gc.below V_b.out bb); replace V_X := Lib.hid (Qc.below V_X.out bb); replace V_Y := Lib.hid (Qc.below V_Y.out bb); replace HB := Lib.hid (nextw HB.out bb); clear bb; clear c0a c1a c2a c3a c0b c1b c2b c3b c0X c1X c2X c3X c0Y c1Y c2Y c3Y; have c0a := B_a.out.c0; have c1a := B_a.out.c1; have c2a := B_a.out.c2; have c3a := B_a.out.c3; have c0b := B_b.out.c0; have c1b := B_b.out.c1; have c2b := B_b.out.c2; have c3b := B_b.out.c3; have c0X := B_X.out.c0; have c1X := B_X.out.c1; have c2X := B_X.out.c2; have c3X := B_X.out.c3; have c0Y := B_Y.out.c0; have c1Y := B_Y.out.c1; have c2Y := B_Y.out.c2; have c3Y := B_Y.out.c3; clear cw; have cw := V_wd.out.2; have tk2x3 : True := trivial)
      | (clear tk2x3; go_at_call 17; refine (Cosine_r (Gc.fd (Gc.below V_b.out (by exact ⟨rfl, rfl, rfl, Nat.le_refl _, fun _ _ => rfl⟩))) (by omega)).mono ?_; rintro e w9 ⟨vc, rfl, rc, bb⟩; replace bb := nextw (w0 := w8) (by exact ⟨rfl, rfl, rfl, Nat.le_refl _, fun _ _ => rfl⟩) bb; replace B_a := Lib.hid (BoxR.below B_a.out bb B_a.out.lt); replace B_b := Lib.hid (BoxR.below B_b.out bb B_b.out.lt); replace B_X := Lib.hid (Box4.below B_X.out bb B_X.out.lt); replace B_Y := Lib.hid (Box4.below B_Y.out bb B_Y.out.lt); replace V_tab := Lib.hid (tab_below V_tab.out bb); replace V_a := Lib.hid (Gc.below V_a.out bb); replace V_wd := Lib.hid (Wd.below V_wd.out bb); replace V_b := Lib.hid (Gc.below V_b.out bb); replace V_X := Lib.hid (Qc.below V_X.out bb); replace V_Y := Lib.hid (Qc.below V_Y.out bb); replace HB := Lib.hid (nextw HB.out bb); clear bb; replace rc := Lib.hid rc; have V_c := rc; clear rc; clear c0a c1a c2a c3a c0b c1b c2b c3b c0X c1X c2X c3X c0Y c1Y c2Y c3Y; have c0a := B_a.out.c0; have c1a := B_a.out.c1; have c2a := B_a.out.c2; have c3a := B_a.out.c3; have c0b := B_b.out.c0; have c1b := B_b.out.c1; have c2b := B_b.out.c2; have c3b := B_b.out.c3; have c0X := B_X.out.c0; have c1X := B_X.out.c1; have c2X := B_X.out.c2; have c3X := B_X.out.c3; have c0Y := B_Y.out.c0; have c1Y := B_Y.out.c1; have c2Y := B_Y.out.c2; have c3Y := B_Y.out.c3; clear cw; have cw := V_wd.out.2; have tk2x4 : True := trivial)
      | (clear tk2x4; go_at_call 38; refine (Text_q (Qc.qd (Qc.below V_c.out (by exact ⟨rfl, rfl, rfl, Nat.le_refl _, fun _ _ => rfl⟩))) (by omega) (tab_below V_tab.out (by exact ⟨rfl, rfl, rfl, Nat.le_refl _, fun _ _ => rfl⟩)) HTA.out).mono ?_; rintro e w10 ⟨rfl, bb⟩; replace bb := nextw (w0 := w9) (by exact ⟨rfl, rfl, rfl, Nat.le_refl _, fun _ _ => rfl⟩) bb; clear V_c; replace B_a := Lib.hid (BoxR.below B_a.out bb B_a.out.lt); replace B_b := Lib.hid (BoxR.below B_b.out bb B_b.out.lt); replace B_X := Lib.hid (Box4.below B_X.out bb B_X.out.lt); replace B_Y := Lib.hid (Box4.below B_Y.out bb B_Y.out.lt); replace V_tab := Lib.hid (tab_below V_tab.out bb); replace V_a := Lib.hid (Gc.below V_a.out bb); replace V_wd := Lib.hid (Wd.below V_wd.out bb); replace V_b := Lib.hid (Gc.below V_b.out bb); replace V_X := Lib.hid (Qc.below V_X.out bb); replace V_Y := Lib.hid (Qc.below V_Y.out bb); replace HB := Lib.hid (nextw HB.out bb); clear bb; clear c0a c1a c2a c3a c0b c1b c2b c3b c0X c1X c2X c3X c0Y c1Y c2Y c3Y; have c0a := B_a.out.c0; have c1a := B_a.out.c1; have c2a := B_a.out.c2; have c3a := B_a.out.c3; have c0b := B_b.out.c0; have c1b := B_b.out.c1; have c2b := B_b.out.c2; have c3b := B_b.out.c3; have c0X := B_X.out.c0; have c1X := B_X.out.c1; have c2X := B_X.out.c2; have c3X := B_X.out.c3; have c0Y := B_Y.out.c0; have c1Y := B_Y.out.c1; have c2Y := B_Y.out.c2; have c3Y := B_Y.out.c3; clear cw; have cw := V_wd.out.2; have tk2x5 : True := trivial)
      | (clear tk2x5; go_at_call 38; refine (Text_q (Qc.qd (Qc.below V_X.out (by exact ⟨rfl, rfl, rfl, Nat.le_refl _, fun _ _ => rfl⟩))) (by omega) (tab_below V_tab.out (by exact ⟨rfl, rfl, rfl, Nat.le_refl _, fun _ _ => rfl⟩)) HTB.out).mono ?_; rintro e w11 ⟨rfl, bb⟩; replace bb := nextw (w0 := w10) (by exact ⟨rfl, rfl, rfl, Nat.le_refl _, fun _ _ => rfl⟩) bb; replace B_a := Lib.hid (BoxR.below B_a.out bb B_a.out.lt); replace B_b := Lib.hid (BoxR.below B_b.out bb B_b.out.lt); replace B_X := Lib.hid (Box4.below B_X.out bb B_X.out.lt); replace B_Y := Lib.hid (Box4.below B_Y.out bb B_Y.out.lt); replace V_tab := Lib.hid (tab_below V_tab.out bb); replace V_a := Lib.hid (Gc.below V_a.out bb); replace V_wd := Lib.hid (Wd.below V_wd.out bb); replace V_b := Lib.hid (Gc.below V_b.out bb); replace V_X := Lib.hid (Qc.below V_X.out bb); replace V_Y := Lib.hid (Qc.below V_Y.out bb); replace HB := Lib.hid (nextw HB.out bb); clear bb; clear c0a c1a c2a c3a c0b c1b c2b c3b c0X c1X c2X c3X c0Y c1Y c2Y c3Y; have c0a := B_a.out.c0; have c1a := B_a.out.c1; have c2a := B_a.out.c2; have c3a := B_a.out.c3; have c0b := B_b.out.c0; have c1b := B_b.out.c1; have c2b := B_b.out.c2; have c3b := B_b.out.c3; have c0X := B_X.out.c0; have c1X := B_X.out.c1; have c2X := B_X.out.c2; have c3X := B_X.out.c3; have c0Y := B_Y.out.c0; have c1Y := B_Y.out.c1; have c2Y := B_Y.out.c2; have c3Y := B_Y.out.c3; clear cw; have cw := V_wd.out.2; have tk2x6 : True := trivial)
      | (clear tk2x6; go_at_call 38; refine (Text_q (Qc.qd (Qc.below V_Y.out (by exact ⟨rfl, rfl, rfl, Nat.le_refl _, fun _ _ => rfl⟩))) (by omega) (tab_below V_tab.out (by exact ⟨rfl, rfl, rfl, Nat.le_refl _, fun _ _ => rfl⟩)) HTC.out).mono ?_; rintro e w12 ⟨rfl, bb⟩; replace bb := nextw (w0 := w11) (by exact ⟨rfl, rfl, rfl, Nat.le_refl _, fun _ _ => rfl⟩) bb; replace B_a := Lib.hid (BoxR.below B_a.out bb B_a.out.lt); replace B_b := Lib.hid (BoxR.below B_b.out bb B_b.out.lt); replace B_X := Lib.hid (Box4.below B_X.out bb B_X.out.lt); replace B_Y := Lib.hid (Box4.below B_Y.out bb B_Y.out.lt); replace V_tab := Lib.hid (tab_below V_tab.out bb); replace V_a := Lib.hid (Gc.below V_a.out bb); replace V_wd := Lib.hid (Wd.below V_wd.out bb); replace V_b := Lib.hid (Gc.below V_b.out bb); replace V_X := Lib.hid (Qc.below V_X.out bb); replace V_Y := Lib.hid (Qc.below V_Y.out bb); replace HB := Lib.hid (nextw HB.out bb); clear bb; clear c0a c1a c2a c3a c0b c1b c2b c3b c0X c1X c2X c3X c0Y c1Y c2Y c3Y; have c0a := B_a.out.c0; have c1a := B_a.out.c1; have c2a := B_a.out.c2; have c3a := B_a.out.c3; have c0b := B_b.out.c0; have c1b := B_b.out.c1; have c2b := B_b.out.c2; have c3b := B_b.out.c3; have c0X := B_X.out.c0; have c1X := B_X.out.c1; have c2X := B_X.out.c2; have c3X := B_X.out.c3; have c0Y := B_Y.out.c0; have c1Y := B_Y.out.c1; have c2Y := B_Y.out.c2; have c3Y := B_Y.out.c3; clear cw; have cw := V_wd.out.2; have tk2x7 : True := trivial))) | fail
    all_goals (clear z1a z2a z3b z4X z5Y)
    have HBo := HB.out
    go_wp2
    go_ret
    exact ⟨rfl, nextw HBo (by exact ⟨rfl, rfl, rfl, Nat.le_refl _, fun _ _ => rfl⟩)⟩
end Go.Proofs.YtccndofafljaaaaGreatDoor
