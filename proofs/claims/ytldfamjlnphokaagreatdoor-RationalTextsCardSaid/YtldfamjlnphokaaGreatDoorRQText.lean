/- The reference of layer 2: Text. -/
import Derived.Test.YtldfamjlnphokaaGreatDoorRQ3
import Derived.Test.YtldfamjlnphokaaGreatDoorQ4

set_option linter.unusedVariables false
set_option linter.unusedSimpArgs false

namespace Go.Proofs.YtldfamjlnphokaaGreatDoor
open Go Go.RowKit Num

set_option maxRecDepth 100000 in
set_option maxHeartbeats 8000000 in
theorem RTextQ_whole {v : Value} {r : Rat} {k : Nat} {w : World} (h : Qd w v r k) (f : k ≤ 2000) (h0 : (r.den : Int) = 1) :
    Calls Tryz.prog 40 #[v] w fun e w' => e = .returned (.string ⟨(qText r).toArray⟩) ∧ Below w.heap.size w w' := by
  obtain ⟨sx, Ax, kx, cx, tx, Cx, lx, dx, rfl⟩ := h.form4
  have V_x := Lib.hid h
  clear h
  have H0 := Lib.hid h0
  clear h0
  have hb0 : Below w.heap.size w (w.alloc (.cells #[.bool sx, (.slice Ax kx cx), .bool tx, (.slice Cx lx dx)] 26)) := (Below.alloc (Below.refl w.heap.size w) (by simp <;> omega) _)
  have B_x : Box4 (w.alloc (.cells #[.bool sx, (.slice Ax kx cx), .bool tx, (.slice Cx lx dx)] 26)) (w.heap.size) sx (.slice Ax kx cx) tx (.slice Cx lx dx) := by have h := Box4.new w sx (.slice Ax kx cx) tx (.slice Cx lx dx); simpa using h
  replace B_x := Lib.hid B_x
  replace V_x := Lib.hid (Qd.below V_x.out hb0)
  have HB := Lib.hid hb0
  clear hb0
  have c0x := B_x.out.c0
  have c1x := B_x.out.c1
  have c2x := B_x.out.c2
  have c3x := B_x.out.c3
  go_enter Tryz.func40, Tryz.ntmps40
  go_wp2_with fail
  clear c0x c1x c2x c3x
  generalize w.alloc (.cells #[.bool sx, (.slice Ax kx cx), .bool tx, (.slice Cx lx dx)] 26) = W0 at *
  refine (RNormQ_q (Qd.below V_x.out (by exact ⟨rfl, rfl, rfl, Nat.le_refl _, fun _ _ => rfl⟩)) (by omega)).mono ?_
  rintro e w1 ⟨vy, rfl, ry, bb⟩
  replace bb := nextw (w0 := W0) (by exact ⟨rfl, rfl, rfl, Nat.le_refl _, fun _ _ => rfl⟩) bb
  replace B_x := Lib.hid (Box4.below B_x.out bb B_x.out.lt)
  replace V_x := Lib.hid (Qd.below V_x.out bb)
  replace HB := Lib.hid (nextw HB.out bb)
  clear bb
  clear V_x
  obtain ⟨sy, Ay, ky, cy, ty, Cy, ly, dy, rfl, hny, hdy⟩ := ry.parts
  have V_yn := Lib.hid hny
  have V_yd := Lib.hid hdy
  clear ry hny hdy
  have Z1x := Lib.hid B_x.out.lt
  have hb0 : Below w1.heap.size w1 (w1.alloc (.cells #[.bool sy, (.slice Ay ky cy), .bool ty, (.slice Cy ly dy)] 26)) := (Below.alloc (Below.refl w1.heap.size w1) (by simp <;> omega) _)
  have B_y : Box4 (w1.alloc (.cells #[.bool sy, (.slice Ay ky cy), .bool ty, (.slice Cy ly dy)] 26)) (w1.heap.size) sy (.slice Ay ky cy) ty (.slice Cy ly dy) := by have h := Box4.new w1 sy (.slice Ay ky cy) ty (.slice Cy ly dy); simpa using h
  replace B_y := Lib.hid B_y
  replace B_x := Lib.hid (Box4.below B_x.out hb0 B_x.out.lt)
  replace V_yn := Lib.hid (Rc.below V_yn.out hb0)
  replace V_yd := Lib.hid (Rc.below V_yd.out hb0)
  replace HB := Lib.hid (nextw HB.out hb0)
  clear hb0
  have c0y := B_y.out.c0
  have c1y := B_y.out.c1
  have c2y := B_y.out.c2
  have c3y := B_y.out.c3
  go_wp2
  clear c0y c1y c2y c3y
  generalize w1.alloc (.cells #[.bool sy, (.slice Ay ky cy), .bool ty, (.slice Cy ly dy)] 26) = W1 at *
  have c0y := B_y.out.c0
  have c1y := B_y.out.c1
  have c2y := B_y.out.c2
  have c3y := B_y.out.c3
  have z1x := Z1x.out
  have tk0 : True := trivial
  first | (go_region_held3 (fun w' => w'.cell? ⟨w1.heap.size, 0, none⟩ = some (.bool sy) ∧ w'.cell? ⟨w1.heap.size, 1, none⟩ = some (.slice Ay ky cy) ∧ w'.cell? ⟨w1.heap.size, 2, none⟩ = some (.bool ty) ∧ w'.cell? ⟨w1.heap.size, 3, none⟩ = some (.slice Cy ly dy)) (((try dsimp only); (repeat' apply And.intro) <;> (first | (with_reducible assumption) | ((repeat (first | (with_reducible refine Eq.trans (cell_drew1 _ _) ?_) | (with_reducible refine Eq.trans (cell_set4 (by omega) _ _ _ _) ?_))); with_reducible assumption) | assumption | go_keep)))
    (first
      | (have _t := tk0; clear _t tk0; go_at_call 67; refine (ROne_rc).mono ?_; rintro e w2 ⟨vi, rfl, ri, bb⟩; replace bb := nextw (w0 := W1) (by exact ⟨rfl, rfl, rfl, Nat.le_refl _, fun _ _ => rfl⟩) bb; replace B_x := Lib.hid (Box4.below B_x.out bb B_x.out.lt); replace B_y := Lib.hid (Box4.below B_y.out bb B_y.out.lt); replace V_yn := Lib.hid (Rc.below V_yn.out bb); replace V_yd := Lib.hid (Rc.below V_yd.out bb); replace HB := Lib.hid (nextw HB.out bb); clear bb; replace ri := Lib.hid ri; have V_i := ri; clear ri; have c0y := B_y.out.c0; have c1y := B_y.out.c1; have c2y := B_y.out.c2; have c3y := B_y.out.c3; have tk1 : True := trivial)
      | (have _t := tk1; clear _t tk1; go_at_call 66; refine (RCmp_one (Rc.rd (Rc.below V_yd.out (by exact ⟨rfl, rfl, rfl, Nat.le_refl _, fun _ _ => rfl⟩))) (Rc.rd (Rc.below V_i.out (by exact ⟨rfl, rfl, rfl, Nat.le_refl _, fun _ _ => rfl⟩))) (by omega) (by omega) H0.out).mono ?_; rintro e w3 ⟨rfl, bb⟩; replace bb := nextw (w0 := w2) (by exact ⟨rfl, rfl, rfl, Nat.le_refl _, fun _ _ => rfl⟩) bb; clear V_i; replace B_x := Lib.hid (Box4.below B_x.out bb B_x.out.lt); replace B_y := Lib.hid (Box4.below B_y.out bb B_y.out.lt); replace V_yn := Lib.hid (Rc.below V_yn.out bb); replace V_yd := Lib.hid (Rc.below V_yd.out bb); replace HB := Lib.hid (nextw HB.out bb); clear bb; have c0y := B_y.out.c0; have c1y := B_y.out.c1; have c2y := B_y.out.c2; have c3y := B_y.out.c3; have tk2 : True := trivial))) | fail
  all_goals (clear z1x)
  have c0y := B_y.out.c0
  have c1y := B_y.out.c1
  have c2y := B_y.out.c2
  have c3y := B_y.out.c3
  go_wp2_with fail
  obtain ⟨ts, hs⟩ : ∃ ts : ByteArray, ts = ⟨(zText r.num).toArray⟩ := ⟨_, rfl⟩
  refine (RText_text (Rc.rd (Rc.below V_yn.out (by exact ⟨rfl, rfl, rfl, Nat.le_refl _, fun _ _ => rfl⟩))) (by omega) hs).mono ?_
  rintro e w4 ⟨rfl, bb⟩
  replace bb := nextw (w0 := w3) (by exact ⟨rfl, rfl, rfl, Nat.le_refl _, fun _ _ => rfl⟩) bb
  clear c0y c1y c2y c3y
  replace B_x := Lib.hid (Box4.below B_x.out bb B_x.out.lt)
  replace B_y := Lib.hid (Box4.below B_y.out bb B_y.out.lt)
  replace V_yn := Lib.hid (Rc.below V_yn.out bb)
  replace V_yd := Lib.hid (Rc.below V_yd.out bb)
  replace HB := Lib.hid (nextw HB.out bb)
  clear bb
  have HS := Lib.hid hs
  clear hs
  have HBo := HB.out
  go_wp2
  go_ret
  exact ⟨ret_str (by rw [HS.out]; unfold qText; rw [if_pos H0.out]), nextw HBo (by exact ⟨rfl, rfl, rfl, Nat.le_refl _, fun _ _ => rfl⟩)⟩

set_option maxRecDepth 100000 in
set_option maxHeartbeats 8000000 in
theorem RTextQ_fr {v : Value} {r : Rat} {k : Nat} {w : World} (h : Qd w v r k) (f : k ≤ 2000) (h0 : (r.den : Int) ≠ 1) :
    Calls Tryz.prog 40 #[v] w fun e w' => e = .returned (.string ⟨(qText r).toArray⟩) ∧ Below w.heap.size w w' := by
  obtain ⟨sx, Ax, kx, cx, tx, Cx, lx, dx, rfl⟩ := h.form4
  have V_x := Lib.hid h
  clear h
  have H0 := Lib.hid h0
  clear h0
  have hb0 : Below w.heap.size w (w.alloc (.cells #[.bool sx, (.slice Ax kx cx), .bool tx, (.slice Cx lx dx)] 26)) := (Below.alloc (Below.refl w.heap.size w) (by simp <;> omega) _)
  have B_x : Box4 (w.alloc (.cells #[.bool sx, (.slice Ax kx cx), .bool tx, (.slice Cx lx dx)] 26)) (w.heap.size) sx (.slice Ax kx cx) tx (.slice Cx lx dx) := by have h := Box4.new w sx (.slice Ax kx cx) tx (.slice Cx lx dx); simpa using h
  replace B_x := Lib.hid B_x
  replace V_x := Lib.hid (Qd.below V_x.out hb0)
  have HB := Lib.hid hb0
  clear hb0
  have c0x := B_x.out.c0
  have c1x := B_x.out.c1
  have c2x := B_x.out.c2
  have c3x := B_x.out.c3
  go_enter Tryz.func40, Tryz.ntmps40
  go_wp2_with fail
  clear c0x c1x c2x c3x
  generalize w.alloc (.cells #[.bool sx, (.slice Ax kx cx), .bool tx, (.slice Cx lx dx)] 26) = W0 at *
  refine (RNormQ_q (Qd.below V_x.out (by exact ⟨rfl, rfl, rfl, Nat.le_refl _, fun _ _ => rfl⟩)) (by omega)).mono ?_
  rintro e w1 ⟨vy, rfl, ry, bb⟩
  replace bb := nextw (w0 := W0) (by exact ⟨rfl, rfl, rfl, Nat.le_refl _, fun _ _ => rfl⟩) bb
  replace B_x := Lib.hid (Box4.below B_x.out bb B_x.out.lt)
  replace V_x := Lib.hid (Qd.below V_x.out bb)
  replace HB := Lib.hid (nextw HB.out bb)
  clear bb
  clear V_x
  obtain ⟨sy, Ay, ky, cy, ty, Cy, ly, dy, rfl, hny, hdy⟩ := ry.parts
  have V_yn := Lib.hid hny
  have V_yd := Lib.hid hdy
  clear ry hny hdy
  have Z1x := Lib.hid B_x.out.lt
  have hb0 : Below w1.heap.size w1 (w1.alloc (.cells #[.bool sy, (.slice Ay ky cy), .bool ty, (.slice Cy ly dy)] 26)) := (Below.alloc (Below.refl w1.heap.size w1) (by simp <;> omega) _)
  have B_y : Box4 (w1.alloc (.cells #[.bool sy, (.slice Ay ky cy), .bool ty, (.slice Cy ly dy)] 26)) (w1.heap.size) sy (.slice Ay ky cy) ty (.slice Cy ly dy) := by have h := Box4.new w1 sy (.slice Ay ky cy) ty (.slice Cy ly dy); simpa using h
  replace B_y := Lib.hid B_y
  replace B_x := Lib.hid (Box4.below B_x.out hb0 B_x.out.lt)
  replace V_yn := Lib.hid (Rc.below V_yn.out hb0)
  replace V_yd := Lib.hid (Rc.below V_yd.out hb0)
  replace HB := Lib.hid (nextw HB.out hb0)
  clear hb0
  have c0y := B_y.out.c0
  have c1y := B_y.out.c1
  have c2y := B_y.out.c2
  have c3y := B_y.out.c3
  go_wp2
  clear c0y c1y c2y c3y
  generalize w1.alloc (.cells #[.bool sy, (.slice Ay ky cy), .bool ty, (.slice Cy ly dy)] 26) = W1 at *
  have c0y := B_y.out.c0
  have c1y := B_y.out.c1
  have c2y := B_y.out.c2
  have c3y := B_y.out.c3
  have z1x := Z1x.out
  have tk0 : True := trivial
  first | (go_region_held3 (fun w' => w'.cell? ⟨w1.heap.size, 0, none⟩ = some (.bool sy) ∧ w'.cell? ⟨w1.heap.size, 1, none⟩ = some (.slice Ay ky cy) ∧ w'.cell? ⟨w1.heap.size, 2, none⟩ = some (.bool ty) ∧ w'.cell? ⟨w1.heap.size, 3, none⟩ = some (.slice Cy ly dy)) (((try dsimp only); (repeat' apply And.intro) <;> (first | (with_reducible assumption) | ((repeat (first | (with_reducible refine Eq.trans (cell_drew1 _ _) ?_) | (with_reducible refine Eq.trans (cell_set4 (by omega) _ _ _ _) ?_))); with_reducible assumption) | assumption | go_keep)))
    (first
      | (have _t := tk0; clear _t tk0; go_at_call 67; refine (ROne_rc).mono ?_; rintro e w2 ⟨vi, rfl, ri, bb⟩; replace bb := nextw (w0 := W1) (by exact ⟨rfl, rfl, rfl, Nat.le_refl _, fun _ _ => rfl⟩) bb; replace B_x := Lib.hid (Box4.below B_x.out bb B_x.out.lt); replace B_y := Lib.hid (Box4.below B_y.out bb B_y.out.lt); replace V_yn := Lib.hid (Rc.below V_yn.out bb); replace V_yd := Lib.hid (Rc.below V_yd.out bb); replace HB := Lib.hid (nextw HB.out bb); clear bb; replace ri := Lib.hid ri; have V_i := ri; clear ri; have c0y := B_y.out.c0; have c1y := B_y.out.c1; have c2y := B_y.out.c2; have c3y := B_y.out.c3; have tk1 : True := trivial)
      | (have _t := tk1; clear _t tk1; go_at_call 66; refine (RCmp_nz (Rc.rd (Rc.below V_yd.out (by exact ⟨rfl, rfl, rfl, Nat.le_refl _, fun _ _ => rfl⟩))) (Rc.rd (Rc.below V_i.out (by exact ⟨rfl, rfl, rfl, Nat.le_refl _, fun _ _ => rfl⟩))) (by omega) (by omega) H0.out).mono ?_; rintro e w3 ⟨cs, hcs, rfl, bb⟩; replace bb := nextw (w0 := w2) (by exact ⟨rfl, rfl, rfl, Nat.le_refl _, fun _ _ => rfl⟩) bb; clear V_i; replace B_x := Lib.hid (Box4.below B_x.out bb B_x.out.lt); replace B_y := Lib.hid (Box4.below B_y.out bb B_y.out.lt); replace V_yn := Lib.hid (Rc.below V_yn.out bb); replace V_yd := Lib.hid (Rc.below V_yd.out bb); replace HB := Lib.hid (nextw HB.out bb); clear bb; have c0y := B_y.out.c0; have c1y := B_y.out.c1; have c2y := B_y.out.c2; have c3y := B_y.out.c3; have tk2 : True := trivial))) | fail
  all_goals (clear z1x)
  have hl1 := text_room V_yn.out.2 (by omega)
  have hl2 := text_room V_yd.out.2 (by omega)
  obtain ⟨L1, hs1⟩ : ∃ L : List UInt8, zText r.num = L := ⟨_, rfl⟩
  obtain ⟨L2, hs2⟩ : ∃ L : List UInt8, zText (r.den : Int) = L := ⟨_, rfl⟩
  rw [hs1] at hl1
  rw [hs2] at hl2
  have HT1 : Hid ((⟨L1.toArray⟩ : ByteArray) = ⟨(zText r.num).toArray⟩) := by unfold Hid; rw [hs1]
  have HT2 : Hid ((⟨L2.toArray⟩ : ByteArray) = ⟨(zText (r.den : Int)).toArray⟩) := by unfold Hid; rw [hs2]
  have HQ : Hid (qText r = L1 ++ (47 :: L2)) := by unfold Hid qText; rw [if_neg H0.out, hs1, hs2]
  clear hs1 hs2
  have c0y := B_y.out.c0
  have c1y := B_y.out.c1
  have c2y := B_y.out.c2
  have c3y := B_y.out.c3
  go_wp2
  have c0y := B_y.out.c0
  have c1y := B_y.out.c1
  have c2y := B_y.out.c2
  have c3y := B_y.out.c3
  have z1x := Z1x.out
  have tk0 : True := trivial
  first | (go_region_with (first
      | (have _t := tk0; clear _t tk0; go_at_call 75; refine (RText_text (Rc.rd (Rc.below V_yn.out (by exact ⟨rfl, rfl, rfl, Nat.le_refl _, fun _ _ => rfl⟩))) (by omega) HT1.out).mono ?_; rintro e w4 ⟨rfl, bb⟩; replace bb := nextw (w0 := w3) (by exact ⟨rfl, rfl, rfl, Nat.le_refl _, fun _ _ => rfl⟩) bb; replace B_x := Lib.hid (Box4.below B_x.out bb B_x.out.lt); replace B_y := Lib.hid (Box4.below B_y.out bb B_y.out.lt); replace V_yn := Lib.hid (Rc.below V_yn.out bb); replace V_yd := Lib.hid (Rc.below V_yd.out bb); replace HB := Lib.hid (nextw HB.out bb); clear bb; have c0y := B_y.out.c0; have c1y := B_y.out.c1; have c2y := B_y.out.c2; have c3y := B_y.out.c3; have tk1 : True := trivial)
      | (have _t := tk1; clear _t tk1; go_at_call 75; refine (RText_text (Rc.rd (Rc.below V_yd.out (by exact ⟨rfl, rfl, rfl, Nat.le_refl _, fun _ _ => rfl⟩))) (by omega) HT2.out).mono ?_; rintro e w5 ⟨rfl, bb⟩; replace bb := nextw (w0 := w4) (by exact ⟨rfl, rfl, rfl, Nat.le_refl _, fun _ _ => rfl⟩) bb; replace B_x := Lib.hid (Box4.below B_x.out bb B_x.out.lt); replace B_y := Lib.hid (Box4.below B_y.out bb B_y.out.lt); replace V_yn := Lib.hid (Rc.below V_yn.out bb); replace V_yd := Lib.hid (Rc.below V_yd.out bb); replace HB := Lib.hid (nextw HB.out bb); clear bb; have c0y := B_y.out.c0; have c1y := B_y.out.c1; have c2y := B_y.out.c2; have c3y := B_y.out.c3; have tk2 : True := trivial))) | fail
  all_goals (clear z1x)
  all_goals
    have HBo := HB.out
    go_wp2
    go_ret
    exact ⟨ret_str (by rw [HQ.out]; exact join3 L1 L2), nextw HBo (by exact ⟨rfl, rfl, rfl, Nat.le_refl _, fun _ _ => rfl⟩)⟩

theorem RTextQ_q {v : Value} {r : Rat} {k : Nat} {w : World} (h : Qd w v r k) (f : k ≤ 2000) {s : ByteArray} (hs : s = ⟨(qText r).toArray⟩) :
    Calls Tryz.prog 40 #[v] w fun e w' => e = .returned (.string s) ∧ Below w.heap.size w w' := by
  subst hs
  by_cases h0 : (r.den : Int) = 1
  · exact RTextQ_whole h f h0
  · exact RTextQ_fr h f h0
end Go.Proofs.YtldfamjlnphokaaGreatDoor
