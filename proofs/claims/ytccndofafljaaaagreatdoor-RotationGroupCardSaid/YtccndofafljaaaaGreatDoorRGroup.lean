/- The law RotationGroup: the walk. -/
import Derived.Test.YtccndofafljaaaaGreatDoorRAwake

set_option linter.unusedVariables false
set_option linter.unusedSimpArgs false

namespace Go.Proofs.YtccndofafljaaaaGreatDoor
open Go Go.RowKit Num

theorem same_cn (p q : Int) : cnP p q * nzQ p q = p * nzQ (cnP p q) (cnQ p q) := by rw [nz_id (cn_ne p q)]; exact cn_par p q
theorem same_one (p q : Int) : thP p q 0 1 * nzQ p q = p * nzQ (thP p q 0 1) (thQ p q 0 1) := by rw [(th_one p q).1, (th_one p q).2]; exact same_cn p q
theorem same_back (p q a b : Int) : thP (thP p q a b) (thQ p q a b) (inP a b) (inQ a b) * nzQ p q = p * nzQ (thP (thP p q a b) (thQ p q a b) (inP a b) (inQ a b)) (thQ (thP p q a b) (thQ p q a b) (inP a b) (inQ a b)) := by
  rw [(th_assoc p q a b (inP a b) (inQ a b)).1, (th_assoc p q a b (inP a b) (inQ a b)).2, (th_in a b).1, (th_in a b).2]; exact same_one p q

set_option maxRecDepth 100000 in
set_option maxHeartbeats 16000000 in
theorem Group_long0 {sx : Bool} {Ax : Option Addr} {kx cx : Nat} {tx : Bool} {Cx : Option Addr} {lx dx : Nat} {px qx : Int} {jx : Nat} {sy : Bool} {Ay : Option Addr} {ky cy : Nat} {ty : Bool} {Cy : Option Addr} {ly dy : Nat} {py qy : Int} {jy : Nat} {sz : Bool} {Az : Option Addr} {kz cz : Nat} {tz : Bool} {Cz : Option Addr} {lz dz : Nat} {pz qz : Int} {jz : Nat} {w : World} (hx : Fd w (.agg #[.bool sx, .slice Ax kx cx, .bool tx, .slice Cx lx dx]) px qx jx) (hy : Fd w (.agg #[.bool sy, .slice Ay ky cy, .bool ty, .slice Cy ly dy]) py qy jy) (hz : Fd w (.agg #[.bool sz, .slice Az kz cz, .bool tz, .slice Cz lz dz]) pz qz jz) (htab : Tab10 w) (mx : kx ≤ 9223372036854775807 ∧ lx ≤ 9223372036854775807) (gx : ¬ (kx ≤ 12 ∧ lx ≤ 12)) :
    Calls Tryz.prog 3 #[.agg #[.bool sx, .slice Ax kx cx, .bool tx, .slice Cx lx dx], .agg #[.bool sy, .slice Ay ky cy, .bool ty, .slice Cy ly dy], .agg #[.bool sz, .slice Az kz cz, .bool tz, .slice Cz lz dz]] w fun e w' => e = .returned (.bool true) ∧ Below w.heap.size w w' := by
  have Mx := Lib.hid mx
  have Gx := Lib.hid gx
  clear mx gx
  have V_xn := Lib.hid hx.num
  have V_xd := Lib.hid hx.den
  have V_yn := Lib.hid hy.num
  have V_yd := Lib.hid hy.den
  have V_zn := Lib.hid hz.num
  have V_zd := Lib.hid hz.den
  have V_tab := Lib.hid htab
  clear hx hy hz htab
  have hb0 : Below w.heap.size w (((w.alloc (.cells #[.bool sx, (.slice Ax kx cx), .bool tx, (.slice Cx lx dx)] 26)).alloc (.cells #[.bool sy, (.slice Ay ky cy), .bool ty, (.slice Cy ly dy)] 26)).alloc (.cells #[.bool sz, (.slice Az kz cz), .bool tz, (.slice Cz lz dz)] 26)) := (Below.alloc (Below.alloc (Below.alloc (Below.refl w.heap.size w) (by simp <;> omega) _) (by simp <;> omega) _) (by simp <;> omega) _)
  have B_x : BoxR (((w.alloc (.cells #[.bool sx, (.slice Ax kx cx), .bool tx, (.slice Cx lx dx)] 26)).alloc (.cells #[.bool sy, (.slice Ay ky cy), .bool ty, (.slice Cy ly dy)] 26)).alloc (.cells #[.bool sz, (.slice Az kz cz), .bool tz, (.slice Cz lz dz)] 26)) (w.heap.size) sx (.slice Ax kx cx) tx (.slice Cx lx dx) := by have h := BoxR.alloc (BoxR.alloc (BoxR.new w sx (.slice Ax kx cx) tx (.slice Cx lx dx)) (.cells #[.bool sy, (.slice Ay ky cy), .bool ty, (.slice Cy ly dy)] 26)) (.cells #[.bool sz, (.slice Az kz cz), .bool tz, (.slice Cz lz dz)] 26); simpa using h
  replace B_x := Lib.hid B_x
  have B_y : BoxR (((w.alloc (.cells #[.bool sx, (.slice Ax kx cx), .bool tx, (.slice Cx lx dx)] 26)).alloc (.cells #[.bool sy, (.slice Ay ky cy), .bool ty, (.slice Cy ly dy)] 26)).alloc (.cells #[.bool sz, (.slice Az kz cz), .bool tz, (.slice Cz lz dz)] 26)) (w.heap.size + 1) sy (.slice Ay ky cy) ty (.slice Cy ly dy) := by have h := BoxR.alloc (BoxR.new (w.alloc (.cells #[.bool sx, (.slice Ax kx cx), .bool tx, (.slice Cx lx dx)] 26)) sy (.slice Ay ky cy) ty (.slice Cy ly dy)) (.cells #[.bool sz, (.slice Az kz cz), .bool tz, (.slice Cz lz dz)] 26); simpa using h
  replace B_y := Lib.hid B_y
  have B_z : BoxR (((w.alloc (.cells #[.bool sx, (.slice Ax kx cx), .bool tx, (.slice Cx lx dx)] 26)).alloc (.cells #[.bool sy, (.slice Ay ky cy), .bool ty, (.slice Cy ly dy)] 26)).alloc (.cells #[.bool sz, (.slice Az kz cz), .bool tz, (.slice Cz lz dz)] 26)) (w.heap.size + 1 + 1) sz (.slice Az kz cz) tz (.slice Cz lz dz) := by have h := BoxR.new ((w.alloc (.cells #[.bool sx, (.slice Ax kx cx), .bool tx, (.slice Cx lx dx)] 26)).alloc (.cells #[.bool sy, (.slice Ay ky cy), .bool ty, (.slice Cy ly dy)] 26)) sz (.slice Az kz cz) tz (.slice Cz lz dz); simpa using h
  replace B_z := Lib.hid B_z
  replace V_xn := Lib.hid (Rd.below V_xn.out hb0)
  replace V_xd := Lib.hid (Rd.below V_xd.out hb0)
  replace V_yn := Lib.hid (Rd.below V_yn.out hb0)
  replace V_yd := Lib.hid (Rd.below V_yd.out hb0)
  replace V_zn := Lib.hid (Rd.below V_zn.out hb0)
  replace V_zd := Lib.hid (Rd.below V_zd.out hb0)
  replace V_tab := Lib.hid (tab_below V_tab.out hb0)
  have HB := Lib.hid hb0
  clear hb0
  have c0x := B_x.out.c0
  have c1x := B_x.out.c1
  have c2x := B_x.out.c2
  have c3x := B_x.out.c3
  have c0y := B_y.out.c0
  have c1y := B_y.out.c1
  have c2y := B_y.out.c2
  have c3y := B_y.out.c3
  have c0z := B_z.out.c0
  have c1z := B_z.out.c1
  have c2z := B_z.out.c2
  have c3z := B_z.out.c3
  go_enter Tryz.func3, Tryz.ntmps3
  go_wp2_with fail
  clear c0x c1x c2x c3x c0y c1y c2y c3y c0z c1z c2z c3z
  generalize ((w.alloc (.cells #[.bool sx, (.slice Ax kx cx), .bool tx, (.slice Cx lx dx)] 26)).alloc (.cells #[.bool sy, (.slice Ay ky cy), .bool ty, (.slice Cy ly dy)] 26)).alloc (.cells #[.bool sz, (.slice Az kz cz), .bool tz, (.slice Cz lz dz)] 26) = W0 at *
  refine (awakeR _ (tab_below V_tab.out (by exact ⟨rfl, rfl, rfl, Nat.le_refl _, fun _ _ => rfl⟩))).mono ?_
  rintro e w1 ⟨rfl, bb⟩
  replace bb := nextw (w0 := W0) (by exact ⟨rfl, rfl, rfl, Nat.le_refl _, fun _ _ => rfl⟩) bb
  replace B_x := Lib.hid (BoxR.below B_x.out bb B_x.out.lt)
  replace B_y := Lib.hid (BoxR.below B_y.out bb B_y.out.lt)
  replace B_z := Lib.hid (BoxR.below B_z.out bb B_z.out.lt)
  replace V_xn := Lib.hid (Rd.below V_xn.out bb)
  replace V_xd := Lib.hid (Rd.below V_xd.out bb)
  replace V_yn := Lib.hid (Rd.below V_yn.out bb)
  replace V_yd := Lib.hid (Rd.below V_yd.out bb)
  replace V_zn := Lib.hid (Rd.below V_zn.out bb)
  replace V_zd := Lib.hid (Rd.below V_zd.out bb)
  replace V_tab := Lib.hid (tab_below V_tab.out bb)
  replace HB := Lib.hid (nextw HB.out bb)
  clear bb
  have c0x := B_x.out.c0
  have c1x := B_x.out.c1
  have c2x := B_x.out.c2
  have c3x := B_x.out.c3
  have c0y := B_y.out.c0
  have c1y := B_y.out.c1
  have c2y := B_y.out.c2
  have c3y := B_y.out.c3
  have c0z := B_z.out.c0
  have c1z := B_z.out.c1
  have c2z := B_z.out.c2
  have c3z := B_z.out.c3
  go_wp2_with fail
  refine (small_no Mx.out.1 Mx.out.2 Gx.out).mono ?_
  rintro e w2 ⟨rfl, bb⟩
  replace bb := nextw (w0 := w1) (by exact ⟨rfl, rfl, rfl, Nat.le_refl _, fun _ _ => rfl⟩) bb
  clear c0x c1x c2x c3x c0y c1y c2y c3y c0z c1z c2z c3z
  replace B_x := Lib.hid (BoxR.below B_x.out bb B_x.out.lt)
  replace B_y := Lib.hid (BoxR.below B_y.out bb B_y.out.lt)
  replace B_z := Lib.hid (BoxR.below B_z.out bb B_z.out.lt)
  replace V_xn := Lib.hid (Rd.below V_xn.out bb)
  replace V_xd := Lib.hid (Rd.below V_xd.out bb)
  replace V_yn := Lib.hid (Rd.below V_yn.out bb)
  replace V_yd := Lib.hid (Rd.below V_yd.out bb)
  replace V_zn := Lib.hid (Rd.below V_zn.out bb)
  replace V_zd := Lib.hid (Rd.below V_zd.out bb)
  replace V_tab := Lib.hid (tab_below V_tab.out bb)
  replace HB := Lib.hid (nextw HB.out bb)
  clear bb
  go_wp2_with fail
  refine (awakeR _ (tab_below V_tab.out (by exact ⟨rfl, rfl, rfl, Nat.le_refl _, fun _ _ => rfl⟩))).mono ?_
  rintro e w3 ⟨rfl, bb⟩
  replace bb := nextw (w0 := w2) (by exact ⟨rfl, rfl, rfl, Nat.le_refl _, fun _ _ => rfl⟩) bb
  replace B_x := Lib.hid (BoxR.below B_x.out bb B_x.out.lt)
  replace B_y := Lib.hid (BoxR.below B_y.out bb B_y.out.lt)
  replace B_z := Lib.hid (BoxR.below B_z.out bb B_z.out.lt)
  replace V_xn := Lib.hid (Rd.below V_xn.out bb)
  replace V_xd := Lib.hid (Rd.below V_xd.out bb)
  replace V_yn := Lib.hid (Rd.below V_yn.out bb)
  replace V_yd := Lib.hid (Rd.below V_yd.out bb)
  replace V_zn := Lib.hid (Rd.below V_zn.out bb)
  replace V_zd := Lib.hid (Rd.below V_zd.out bb)
  replace V_tab := Lib.hid (tab_below V_tab.out bb)
  replace HB := Lib.hid (nextw HB.out bb)
  clear bb
  have HBo := HB.out
  go_wp2
  go_ret
  exact ⟨rfl, nextw HBo (by exact ⟨rfl, rfl, rfl, Nat.le_refl _, fun _ _ => rfl⟩)⟩

set_option maxRecDepth 100000 in
set_option maxHeartbeats 16000000 in
theorem Group_long1 {sx : Bool} {Ax : Option Addr} {kx cx : Nat} {tx : Bool} {Cx : Option Addr} {lx dx : Nat} {px qx : Int} {jx : Nat} {sy : Bool} {Ay : Option Addr} {ky cy : Nat} {ty : Bool} {Cy : Option Addr} {ly dy : Nat} {py qy : Int} {jy : Nat} {sz : Bool} {Az : Option Addr} {kz cz : Nat} {tz : Bool} {Cz : Option Addr} {lz dz : Nat} {pz qz : Int} {jz : Nat} {w : World} (hx : Fd w (.agg #[.bool sx, .slice Ax kx cx, .bool tx, .slice Cx lx dx]) px qx jx) (hy : Fd w (.agg #[.bool sy, .slice Ay ky cy, .bool ty, .slice Cy ly dy]) py qy jy) (hz : Fd w (.agg #[.bool sz, .slice Az kz cz, .bool tz, .slice Cz lz dz]) pz qz jz) (htab : Tab10 w) (kx1 : kx ≤ 12) (lx1 : lx ≤ 12) (my : ky ≤ 9223372036854775807 ∧ ly ≤ 9223372036854775807) (gy : ¬ (ky ≤ 12 ∧ ly ≤ 12)) :
    Calls Tryz.prog 3 #[.agg #[.bool sx, .slice Ax kx cx, .bool tx, .slice Cx lx dx], .agg #[.bool sy, .slice Ay ky cy, .bool ty, .slice Cy ly dy], .agg #[.bool sz, .slice Az kz cz, .bool tz, .slice Cz lz dz]] w fun e w' => e = .returned (.bool true) ∧ Below w.heap.size w w' := by
  have Kx := Lib.hid kx1
  have Lx := Lib.hid lx1
  have My := Lib.hid my
  have Gy := Lib.hid gy
  clear kx1 lx1 my gy
  have V_xn := Lib.hid hx.num
  have V_xd := Lib.hid hx.den
  have V_yn := Lib.hid hy.num
  have V_yd := Lib.hid hy.den
  have V_zn := Lib.hid hz.num
  have V_zd := Lib.hid hz.den
  have V_tab := Lib.hid htab
  clear hx hy hz htab
  have hb0 : Below w.heap.size w (((w.alloc (.cells #[.bool sx, (.slice Ax kx cx), .bool tx, (.slice Cx lx dx)] 26)).alloc (.cells #[.bool sy, (.slice Ay ky cy), .bool ty, (.slice Cy ly dy)] 26)).alloc (.cells #[.bool sz, (.slice Az kz cz), .bool tz, (.slice Cz lz dz)] 26)) := (Below.alloc (Below.alloc (Below.alloc (Below.refl w.heap.size w) (by simp <;> omega) _) (by simp <;> omega) _) (by simp <;> omega) _)
  have B_x : BoxR (((w.alloc (.cells #[.bool sx, (.slice Ax kx cx), .bool tx, (.slice Cx lx dx)] 26)).alloc (.cells #[.bool sy, (.slice Ay ky cy), .bool ty, (.slice Cy ly dy)] 26)).alloc (.cells #[.bool sz, (.slice Az kz cz), .bool tz, (.slice Cz lz dz)] 26)) (w.heap.size) sx (.slice Ax kx cx) tx (.slice Cx lx dx) := by have h := BoxR.alloc (BoxR.alloc (BoxR.new w sx (.slice Ax kx cx) tx (.slice Cx lx dx)) (.cells #[.bool sy, (.slice Ay ky cy), .bool ty, (.slice Cy ly dy)] 26)) (.cells #[.bool sz, (.slice Az kz cz), .bool tz, (.slice Cz lz dz)] 26); simpa using h
  replace B_x := Lib.hid B_x
  have B_y : BoxR (((w.alloc (.cells #[.bool sx, (.slice Ax kx cx), .bool tx, (.slice Cx lx dx)] 26)).alloc (.cells #[.bool sy, (.slice Ay ky cy), .bool ty, (.slice Cy ly dy)] 26)).alloc (.cells #[.bool sz, (.slice Az kz cz), .bool tz, (.slice Cz lz dz)] 26)) (w.heap.size + 1) sy (.slice Ay ky cy) ty (.slice Cy ly dy) := by have h := BoxR.alloc (BoxR.new (w.alloc (.cells #[.bool sx, (.slice Ax kx cx), .bool tx, (.slice Cx lx dx)] 26)) sy (.slice Ay ky cy) ty (.slice Cy ly dy)) (.cells #[.bool sz, (.slice Az kz cz), .bool tz, (.slice Cz lz dz)] 26); simpa using h
  replace B_y := Lib.hid B_y
  have B_z : BoxR (((w.alloc (.cells #[.bool sx, (.slice Ax kx cx), .bool tx, (.slice Cx lx dx)] 26)).alloc (.cells #[.bool sy, (.slice Ay ky cy), .bool ty, (.slice Cy ly dy)] 26)).alloc (.cells #[.bool sz, (.slice Az kz cz), .bool tz, (.slice Cz lz dz)] 26)) (w.heap.size + 1 + 1) sz (.slice Az kz cz) tz (.slice Cz lz dz) := by have h := BoxR.new ((w.alloc (.cells #[.bool sx, (.slice Ax kx cx), .bool tx, (.slice Cx lx dx)] 26)).alloc (.cells #[.bool sy, (.slice Ay ky cy), .bool ty, (.slice Cy ly dy)] 26)) sz (.slice Az kz cz) tz (.slice Cz lz dz); simpa using h
  replace B_z := Lib.hid B_z
  replace V_xn := Lib.hid (Rd.below V_xn.out hb0)
  replace V_xd := Lib.hid (Rd.below V_xd.out hb0)
  replace V_yn := Lib.hid (Rd.below V_yn.out hb0)
  replace V_yd := Lib.hid (Rd.below V_yd.out hb0)
  replace V_zn := Lib.hid (Rd.below V_zn.out hb0)
  replace V_zd := Lib.hid (Rd.below V_zd.out hb0)
  replace V_tab := Lib.hid (tab_below V_tab.out hb0)
  have HB := Lib.hid hb0
  clear hb0
  have c0x := B_x.out.c0
  have c1x := B_x.out.c1
  have c2x := B_x.out.c2
  have c3x := B_x.out.c3
  have c0y := B_y.out.c0
  have c1y := B_y.out.c1
  have c2y := B_y.out.c2
  have c3y := B_y.out.c3
  have c0z := B_z.out.c0
  have c1z := B_z.out.c1
  have c2z := B_z.out.c2
  have c3z := B_z.out.c3
  go_enter Tryz.func3, Tryz.ntmps3
  go_wp2_with fail
  clear c0x c1x c2x c3x c0y c1y c2y c3y c0z c1z c2z c3z
  generalize ((w.alloc (.cells #[.bool sx, (.slice Ax kx cx), .bool tx, (.slice Cx lx dx)] 26)).alloc (.cells #[.bool sy, (.slice Ay ky cy), .bool ty, (.slice Cy ly dy)] 26)).alloc (.cells #[.bool sz, (.slice Az kz cz), .bool tz, (.slice Cz lz dz)] 26) = W0 at *
  refine (awakeR _ (tab_below V_tab.out (by exact ⟨rfl, rfl, rfl, Nat.le_refl _, fun _ _ => rfl⟩))).mono ?_
  rintro e w1 ⟨rfl, bb⟩
  replace bb := nextw (w0 := W0) (by exact ⟨rfl, rfl, rfl, Nat.le_refl _, fun _ _ => rfl⟩) bb
  replace B_x := Lib.hid (BoxR.below B_x.out bb B_x.out.lt)
  replace B_y := Lib.hid (BoxR.below B_y.out bb B_y.out.lt)
  replace B_z := Lib.hid (BoxR.below B_z.out bb B_z.out.lt)
  replace V_xn := Lib.hid (Rd.below V_xn.out bb)
  replace V_xd := Lib.hid (Rd.below V_xd.out bb)
  replace V_yn := Lib.hid (Rd.below V_yn.out bb)
  replace V_yd := Lib.hid (Rd.below V_yd.out bb)
  replace V_zn := Lib.hid (Rd.below V_zn.out bb)
  replace V_zd := Lib.hid (Rd.below V_zd.out bb)
  replace V_tab := Lib.hid (tab_below V_tab.out bb)
  replace HB := Lib.hid (nextw HB.out bb)
  clear bb
  have c0x := B_x.out.c0
  have c1x := B_x.out.c1
  have c2x := B_x.out.c2
  have c3x := B_x.out.c3
  have c0y := B_y.out.c0
  have c1y := B_y.out.c1
  have c2y := B_y.out.c2
  have c3y := B_y.out.c3
  have c0z := B_z.out.c0
  have c1z := B_z.out.c1
  have c2z := B_z.out.c2
  have c3z := B_z.out.c3
  go_wp2_with fail
  refine (small_yes Kx.out Lx.out).mono ?_
  rintro e w2 ⟨rfl, bb⟩
  replace bb := nextw (w0 := w1) (by exact ⟨rfl, rfl, rfl, Nat.le_refl _, fun _ _ => rfl⟩) bb
  clear c0x c1x c2x c3x c0y c1y c2y c3y c0z c1z c2z c3z
  replace B_x := Lib.hid (BoxR.below B_x.out bb B_x.out.lt)
  replace B_y := Lib.hid (BoxR.below B_y.out bb B_y.out.lt)
  replace B_z := Lib.hid (BoxR.below B_z.out bb B_z.out.lt)
  replace V_xn := Lib.hid (Rd.below V_xn.out bb)
  replace V_xd := Lib.hid (Rd.below V_xd.out bb)
  replace V_yn := Lib.hid (Rd.below V_yn.out bb)
  replace V_yd := Lib.hid (Rd.below V_yd.out bb)
  replace V_zn := Lib.hid (Rd.below V_zn.out bb)
  replace V_zd := Lib.hid (Rd.below V_zd.out bb)
  replace V_tab := Lib.hid (tab_below V_tab.out bb)
  replace HB := Lib.hid (nextw HB.out bb)
  clear bb
  have c0x := B_x.out.c0
  have c1x := B_x.out.c1
  have c2x := B_x.out.c2
  have c3x := B_x.out.c3
  have c0y := B_y.out.c0
  have c1y := B_y.out.c1
  have c2y := B_y.out.c2
  have c3y := B_y.out.c3
  have c0z := B_z.out.c0
  have c1z := B_z.out.c1
  have c2z := B_z.out.c2
  have c3z := B_z.out.c3
  go_wp2_with fail
  refine (small_no My.out.1 My.out.2 Gy.out).mono ?_
  rintro e w3 ⟨rfl, bb⟩
  replace bb := nextw (w0 := w2) (by exact ⟨rfl, rfl, rfl, Nat.le_refl _, fun _ _ => rfl⟩) bb
  clear c0x c1x c2x c3x c0y c1y c2y c3y c0z c1z c2z c3z
  replace B_x := Lib.hid (BoxR.below B_x.out bb B_x.out.lt)
  replace B_y := Lib.hid (BoxR.below B_y.out bb B_y.out.lt)
  replace B_z := Lib.hid (BoxR.below B_z.out bb B_z.out.lt)
  replace V_xn := Lib.hid (Rd.below V_xn.out bb)
  replace V_xd := Lib.hid (Rd.below V_xd.out bb)
  replace V_yn := Lib.hid (Rd.below V_yn.out bb)
  replace V_yd := Lib.hid (Rd.below V_yd.out bb)
  replace V_zn := Lib.hid (Rd.below V_zn.out bb)
  replace V_zd := Lib.hid (Rd.below V_zd.out bb)
  replace V_tab := Lib.hid (tab_below V_tab.out bb)
  replace HB := Lib.hid (nextw HB.out bb)
  clear bb
  go_wp2_with fail
  refine (awakeR _ (tab_below V_tab.out (by exact ⟨rfl, rfl, rfl, Nat.le_refl _, fun _ _ => rfl⟩))).mono ?_
  rintro e w4 ⟨rfl, bb⟩
  replace bb := nextw (w0 := w3) (by exact ⟨rfl, rfl, rfl, Nat.le_refl _, fun _ _ => rfl⟩) bb
  replace B_x := Lib.hid (BoxR.below B_x.out bb B_x.out.lt)
  replace B_y := Lib.hid (BoxR.below B_y.out bb B_y.out.lt)
  replace B_z := Lib.hid (BoxR.below B_z.out bb B_z.out.lt)
  replace V_xn := Lib.hid (Rd.below V_xn.out bb)
  replace V_xd := Lib.hid (Rd.below V_xd.out bb)
  replace V_yn := Lib.hid (Rd.below V_yn.out bb)
  replace V_yd := Lib.hid (Rd.below V_yd.out bb)
  replace V_zn := Lib.hid (Rd.below V_zn.out bb)
  replace V_zd := Lib.hid (Rd.below V_zd.out bb)
  replace V_tab := Lib.hid (tab_below V_tab.out bb)
  replace HB := Lib.hid (nextw HB.out bb)
  clear bb
  have HBo := HB.out
  go_wp2
  go_ret
  exact ⟨rfl, nextw HBo (by exact ⟨rfl, rfl, rfl, Nat.le_refl _, fun _ _ => rfl⟩)⟩

set_option maxRecDepth 100000 in
set_option maxHeartbeats 16000000 in
theorem Group_long2 {sx : Bool} {Ax : Option Addr} {kx cx : Nat} {tx : Bool} {Cx : Option Addr} {lx dx : Nat} {px qx : Int} {jx : Nat} {sy : Bool} {Ay : Option Addr} {ky cy : Nat} {ty : Bool} {Cy : Option Addr} {ly dy : Nat} {py qy : Int} {jy : Nat} {sz : Bool} {Az : Option Addr} {kz cz : Nat} {tz : Bool} {Cz : Option Addr} {lz dz : Nat} {pz qz : Int} {jz : Nat} {w : World} (hx : Fd w (.agg #[.bool sx, .slice Ax kx cx, .bool tx, .slice Cx lx dx]) px qx jx) (hy : Fd w (.agg #[.bool sy, .slice Ay ky cy, .bool ty, .slice Cy ly dy]) py qy jy) (hz : Fd w (.agg #[.bool sz, .slice Az kz cz, .bool tz, .slice Cz lz dz]) pz qz jz) (htab : Tab10 w) (kx1 : kx ≤ 12) (lx1 : lx ≤ 12) (ky1 : ky ≤ 12) (ly1 : ly ≤ 12) (mz : kz ≤ 9223372036854775807 ∧ lz ≤ 9223372036854775807) (gz : ¬ (kz ≤ 12 ∧ lz ≤ 12)) :
    Calls Tryz.prog 3 #[.agg #[.bool sx, .slice Ax kx cx, .bool tx, .slice Cx lx dx], .agg #[.bool sy, .slice Ay ky cy, .bool ty, .slice Cy ly dy], .agg #[.bool sz, .slice Az kz cz, .bool tz, .slice Cz lz dz]] w fun e w' => e = .returned (.bool true) ∧ Below w.heap.size w w' := by
  have Kx := Lib.hid kx1
  have Ky := Lib.hid ky1
  have Lx := Lib.hid lx1
  have Ly := Lib.hid ly1
  have Mz := Lib.hid mz
  have Gz := Lib.hid gz
  clear kx1 ky1 lx1 ly1 mz gz
  have V_xn := Lib.hid hx.num
  have V_xd := Lib.hid hx.den
  have V_yn := Lib.hid hy.num
  have V_yd := Lib.hid hy.den
  have V_zn := Lib.hid hz.num
  have V_zd := Lib.hid hz.den
  have V_tab := Lib.hid htab
  clear hx hy hz htab
  have hb0 : Below w.heap.size w (((w.alloc (.cells #[.bool sx, (.slice Ax kx cx), .bool tx, (.slice Cx lx dx)] 26)).alloc (.cells #[.bool sy, (.slice Ay ky cy), .bool ty, (.slice Cy ly dy)] 26)).alloc (.cells #[.bool sz, (.slice Az kz cz), .bool tz, (.slice Cz lz dz)] 26)) := (Below.alloc (Below.alloc (Below.alloc (Below.refl w.heap.size w) (by simp <;> omega) _) (by simp <;> omega) _) (by simp <;> omega) _)
  have B_x : BoxR (((w.alloc (.cells #[.bool sx, (.slice Ax kx cx), .bool tx, (.slice Cx lx dx)] 26)).alloc (.cells #[.bool sy, (.slice Ay ky cy), .bool ty, (.slice Cy ly dy)] 26)).alloc (.cells #[.bool sz, (.slice Az kz cz), .bool tz, (.slice Cz lz dz)] 26)) (w.heap.size) sx (.slice Ax kx cx) tx (.slice Cx lx dx) := by have h := BoxR.alloc (BoxR.alloc (BoxR.new w sx (.slice Ax kx cx) tx (.slice Cx lx dx)) (.cells #[.bool sy, (.slice Ay ky cy), .bool ty, (.slice Cy ly dy)] 26)) (.cells #[.bool sz, (.slice Az kz cz), .bool tz, (.slice Cz lz dz)] 26); simpa using h
  replace B_x := Lib.hid B_x
  have B_y : BoxR (((w.alloc (.cells #[.bool sx, (.slice Ax kx cx), .bool tx, (.slice Cx lx dx)] 26)).alloc (.cells #[.bool sy, (.slice Ay ky cy), .bool ty, (.slice Cy ly dy)] 26)).alloc (.cells #[.bool sz, (.slice Az kz cz), .bool tz, (.slice Cz lz dz)] 26)) (w.heap.size + 1) sy (.slice Ay ky cy) ty (.slice Cy ly dy) := by have h := BoxR.alloc (BoxR.new (w.alloc (.cells #[.bool sx, (.slice Ax kx cx), .bool tx, (.slice Cx lx dx)] 26)) sy (.slice Ay ky cy) ty (.slice Cy ly dy)) (.cells #[.bool sz, (.slice Az kz cz), .bool tz, (.slice Cz lz dz)] 26); simpa using h
  replace B_y := Lib.hid B_y
  have B_z : BoxR (((w.alloc (.cells #[.bool sx, (.slice Ax kx cx), .bool tx, (.slice Cx lx dx)] 26)).alloc (.cells #[.bool sy, (.slice Ay ky cy), .bool ty, (.slice Cy ly dy)] 26)).alloc (.cells #[.bool sz, (.slice Az kz cz), .bool tz, (.slice Cz lz dz)] 26)) (w.heap.size + 1 + 1) sz (.slice Az kz cz) tz (.slice Cz lz dz) := by have h := BoxR.new ((w.alloc (.cells #[.bool sx, (.slice Ax kx cx), .bool tx, (.slice Cx lx dx)] 26)).alloc (.cells #[.bool sy, (.slice Ay ky cy), .bool ty, (.slice Cy ly dy)] 26)) sz (.slice Az kz cz) tz (.slice Cz lz dz); simpa using h
  replace B_z := Lib.hid B_z
  replace V_xn := Lib.hid (Rd.below V_xn.out hb0)
  replace V_xd := Lib.hid (Rd.below V_xd.out hb0)
  replace V_yn := Lib.hid (Rd.below V_yn.out hb0)
  replace V_yd := Lib.hid (Rd.below V_yd.out hb0)
  replace V_zn := Lib.hid (Rd.below V_zn.out hb0)
  replace V_zd := Lib.hid (Rd.below V_zd.out hb0)
  replace V_tab := Lib.hid (tab_below V_tab.out hb0)
  have HB := Lib.hid hb0
  clear hb0
  have c0x := B_x.out.c0
  have c1x := B_x.out.c1
  have c2x := B_x.out.c2
  have c3x := B_x.out.c3
  have c0y := B_y.out.c0
  have c1y := B_y.out.c1
  have c2y := B_y.out.c2
  have c3y := B_y.out.c3
  have c0z := B_z.out.c0
  have c1z := B_z.out.c1
  have c2z := B_z.out.c2
  have c3z := B_z.out.c3
  go_enter Tryz.func3, Tryz.ntmps3
  go_wp2_with fail
  clear c0x c1x c2x c3x c0y c1y c2y c3y c0z c1z c2z c3z
  generalize ((w.alloc (.cells #[.bool sx, (.slice Ax kx cx), .bool tx, (.slice Cx lx dx)] 26)).alloc (.cells #[.bool sy, (.slice Ay ky cy), .bool ty, (.slice Cy ly dy)] 26)).alloc (.cells #[.bool sz, (.slice Az kz cz), .bool tz, (.slice Cz lz dz)] 26) = W0 at *
  refine (awakeR _ (tab_below V_tab.out (by exact ⟨rfl, rfl, rfl, Nat.le_refl _, fun _ _ => rfl⟩))).mono ?_
  rintro e w1 ⟨rfl, bb⟩
  replace bb := nextw (w0 := W0) (by exact ⟨rfl, rfl, rfl, Nat.le_refl _, fun _ _ => rfl⟩) bb
  replace B_x := Lib.hid (BoxR.below B_x.out bb B_x.out.lt)
  replace B_y := Lib.hid (BoxR.below B_y.out bb B_y.out.lt)
  replace B_z := Lib.hid (BoxR.below B_z.out bb B_z.out.lt)
  replace V_xn := Lib.hid (Rd.below V_xn.out bb)
  replace V_xd := Lib.hid (Rd.below V_xd.out bb)
  replace V_yn := Lib.hid (Rd.below V_yn.out bb)
  replace V_yd := Lib.hid (Rd.below V_yd.out bb)
  replace V_zn := Lib.hid (Rd.below V_zn.out bb)
  replace V_zd := Lib.hid (Rd.below V_zd.out bb)
  replace V_tab := Lib.hid (tab_below V_tab.out bb)
  replace HB := Lib.hid (nextw HB.out bb)
  clear bb
  have c0x := B_x.out.c0
  have c1x := B_x.out.c1
  have c2x := B_x.out.c2
  have c3x := B_x.out.c3
  have c0y := B_y.out.c0
  have c1y := B_y.out.c1
  have c2y := B_y.out.c2
  have c3y := B_y.out.c3
  have c0z := B_z.out.c0
  have c1z := B_z.out.c1
  have c2z := B_z.out.c2
  have c3z := B_z.out.c3
  go_wp2_with fail
  refine (small_yes Kx.out Lx.out).mono ?_
  rintro e w2 ⟨rfl, bb⟩
  replace bb := nextw (w0 := w1) (by exact ⟨rfl, rfl, rfl, Nat.le_refl _, fun _ _ => rfl⟩) bb
  clear c0x c1x c2x c3x c0y c1y c2y c3y c0z c1z c2z c3z
  replace B_x := Lib.hid (BoxR.below B_x.out bb B_x.out.lt)
  replace B_y := Lib.hid (BoxR.below B_y.out bb B_y.out.lt)
  replace B_z := Lib.hid (BoxR.below B_z.out bb B_z.out.lt)
  replace V_xn := Lib.hid (Rd.below V_xn.out bb)
  replace V_xd := Lib.hid (Rd.below V_xd.out bb)
  replace V_yn := Lib.hid (Rd.below V_yn.out bb)
  replace V_yd := Lib.hid (Rd.below V_yd.out bb)
  replace V_zn := Lib.hid (Rd.below V_zn.out bb)
  replace V_zd := Lib.hid (Rd.below V_zd.out bb)
  replace V_tab := Lib.hid (tab_below V_tab.out bb)
  replace HB := Lib.hid (nextw HB.out bb)
  clear bb
  have c0x := B_x.out.c0
  have c1x := B_x.out.c1
  have c2x := B_x.out.c2
  have c3x := B_x.out.c3
  have c0y := B_y.out.c0
  have c1y := B_y.out.c1
  have c2y := B_y.out.c2
  have c3y := B_y.out.c3
  have c0z := B_z.out.c0
  have c1z := B_z.out.c1
  have c2z := B_z.out.c2
  have c3z := B_z.out.c3
  go_wp2_with fail
  refine (small_yes Ky.out Ly.out).mono ?_
  rintro e w3 ⟨rfl, bb⟩
  replace bb := nextw (w0 := w2) (by exact ⟨rfl, rfl, rfl, Nat.le_refl _, fun _ _ => rfl⟩) bb
  clear c0x c1x c2x c3x c0y c1y c2y c3y c0z c1z c2z c3z
  replace B_x := Lib.hid (BoxR.below B_x.out bb B_x.out.lt)
  replace B_y := Lib.hid (BoxR.below B_y.out bb B_y.out.lt)
  replace B_z := Lib.hid (BoxR.below B_z.out bb B_z.out.lt)
  replace V_xn := Lib.hid (Rd.below V_xn.out bb)
  replace V_xd := Lib.hid (Rd.below V_xd.out bb)
  replace V_yn := Lib.hid (Rd.below V_yn.out bb)
  replace V_yd := Lib.hid (Rd.below V_yd.out bb)
  replace V_zn := Lib.hid (Rd.below V_zn.out bb)
  replace V_zd := Lib.hid (Rd.below V_zd.out bb)
  replace V_tab := Lib.hid (tab_below V_tab.out bb)
  replace HB := Lib.hid (nextw HB.out bb)
  clear bb
  have c0x := B_x.out.c0
  have c1x := B_x.out.c1
  have c2x := B_x.out.c2
  have c3x := B_x.out.c3
  have c0y := B_y.out.c0
  have c1y := B_y.out.c1
  have c2y := B_y.out.c2
  have c3y := B_y.out.c3
  have c0z := B_z.out.c0
  have c1z := B_z.out.c1
  have c2z := B_z.out.c2
  have c3z := B_z.out.c3
  go_wp2_with fail
  refine (small_no Mz.out.1 Mz.out.2 Gz.out).mono ?_
  rintro e w4 ⟨rfl, bb⟩
  replace bb := nextw (w0 := w3) (by exact ⟨rfl, rfl, rfl, Nat.le_refl _, fun _ _ => rfl⟩) bb
  clear c0x c1x c2x c3x c0y c1y c2y c3y c0z c1z c2z c3z
  replace B_x := Lib.hid (BoxR.below B_x.out bb B_x.out.lt)
  replace B_y := Lib.hid (BoxR.below B_y.out bb B_y.out.lt)
  replace B_z := Lib.hid (BoxR.below B_z.out bb B_z.out.lt)
  replace V_xn := Lib.hid (Rd.below V_xn.out bb)
  replace V_xd := Lib.hid (Rd.below V_xd.out bb)
  replace V_yn := Lib.hid (Rd.below V_yn.out bb)
  replace V_yd := Lib.hid (Rd.below V_yd.out bb)
  replace V_zn := Lib.hid (Rd.below V_zn.out bb)
  replace V_zd := Lib.hid (Rd.below V_zd.out bb)
  replace V_tab := Lib.hid (tab_below V_tab.out bb)
  replace HB := Lib.hid (nextw HB.out bb)
  clear bb
  go_wp2_with fail
  refine (awakeR _ (tab_below V_tab.out (by exact ⟨rfl, rfl, rfl, Nat.le_refl _, fun _ _ => rfl⟩))).mono ?_
  rintro e w5 ⟨rfl, bb⟩
  replace bb := nextw (w0 := w4) (by exact ⟨rfl, rfl, rfl, Nat.le_refl _, fun _ _ => rfl⟩) bb
  replace B_x := Lib.hid (BoxR.below B_x.out bb B_x.out.lt)
  replace B_y := Lib.hid (BoxR.below B_y.out bb B_y.out.lt)
  replace B_z := Lib.hid (BoxR.below B_z.out bb B_z.out.lt)
  replace V_xn := Lib.hid (Rd.below V_xn.out bb)
  replace V_xd := Lib.hid (Rd.below V_xd.out bb)
  replace V_yn := Lib.hid (Rd.below V_yn.out bb)
  replace V_yd := Lib.hid (Rd.below V_yd.out bb)
  replace V_zn := Lib.hid (Rd.below V_zn.out bb)
  replace V_zd := Lib.hid (Rd.below V_zd.out bb)
  replace V_tab := Lib.hid (tab_below V_tab.out bb)
  replace HB := Lib.hid (nextw HB.out bb)
  clear bb
  have HBo := HB.out
  go_wp2
  go_ret
  exact ⟨rfl, nextw HBo (by exact ⟨rfl, rfl, rfl, Nat.le_refl _, fun _ _ => rfl⟩)⟩

set_option maxRecDepth 100000 in
set_option maxHeartbeats 16000000 in
theorem Group_main {sx : Bool} {Ax : Option Addr} {kx cx : Nat} {tx : Bool} {Cx : Option Addr} {lx dx : Nat} {px qx : Int} {jx : Nat} {sy : Bool} {Ay : Option Addr} {ky cy : Nat} {ty : Bool} {Cy : Option Addr} {ly dy : Nat} {py qy : Int} {jy : Nat} {sz : Bool} {Az : Option Addr} {kz cz : Nat} {tz : Bool} {Cz : Option Addr} {lz dz : Nat} {pz qz : Int} {jz : Nat} {w : World} (hx : Fd w (.agg #[.bool sx, .slice Ax kx cx, .bool tx, .slice Cx lx dx]) px qx jx) (hy : Fd w (.agg #[.bool sy, .slice Ay ky cy, .bool ty, .slice Cy ly dy]) py qy jy) (hz : Fd w (.agg #[.bool sz, .slice Az kz cz, .bool tz, .slice Cz lz dz]) pz qz jz) (htab : Tab10 w) (kx1 : kx ≤ 12) (lx1 : lx ≤ 12) (gx1 : jx ≤ 12) (ky1 : ky ≤ 12) (ly1 : ly ≤ 12) (gy1 : jy ≤ 12) (kz1 : kz ≤ 12) (lz1 : lz ≤ 12) (gz1 : jz ≤ 12) :
    Calls Tryz.prog 3 #[.agg #[.bool sx, .slice Ax kx cx, .bool tx, .slice Cx lx dx], .agg #[.bool sy, .slice Ay ky cy, .bool ty, .slice Cy ly dy], .agg #[.bool sz, .slice Az kz cz, .bool tz, .slice Cz lz dz]] w fun e w' => e = .returned (.bool true) ∧ Below w.heap.size w w' := by
  have Kx := Lib.hid kx1
  have Ky := Lib.hid ky1
  have Kz := Lib.hid kz1
  have Lx := Lib.hid lx1
  have Ly := Lib.hid ly1
  have Lz := Lib.hid lz1
  clear kx1 ky1 kz1 lx1 ly1 lz1
  have V_xn := Lib.hid hx.num
  have V_xd := Lib.hid hx.den
  have V_yn := Lib.hid hy.num
  have V_yd := Lib.hid hy.den
  have V_zn := Lib.hid hz.num
  have V_zd := Lib.hid hz.den
  have V_tab := Lib.hid htab
  clear hx hy hz htab
  have hb0 : Below w.heap.size w (((w.alloc (.cells #[.bool sx, (.slice Ax kx cx), .bool tx, (.slice Cx lx dx)] 26)).alloc (.cells #[.bool sy, (.slice Ay ky cy), .bool ty, (.slice Cy ly dy)] 26)).alloc (.cells #[.bool sz, (.slice Az kz cz), .bool tz, (.slice Cz lz dz)] 26)) := (Below.alloc (Below.alloc (Below.alloc (Below.refl w.heap.size w) (by simp <;> omega) _) (by simp <;> omega) _) (by simp <;> omega) _)
  have B_x : BoxR (((w.alloc (.cells #[.bool sx, (.slice Ax kx cx), .bool tx, (.slice Cx lx dx)] 26)).alloc (.cells #[.bool sy, (.slice Ay ky cy), .bool ty, (.slice Cy ly dy)] 26)).alloc (.cells #[.bool sz, (.slice Az kz cz), .bool tz, (.slice Cz lz dz)] 26)) (w.heap.size) sx (.slice Ax kx cx) tx (.slice Cx lx dx) := by have h := BoxR.alloc (BoxR.alloc (BoxR.new w sx (.slice Ax kx cx) tx (.slice Cx lx dx)) (.cells #[.bool sy, (.slice Ay ky cy), .bool ty, (.slice Cy ly dy)] 26)) (.cells #[.bool sz, (.slice Az kz cz), .bool tz, (.slice Cz lz dz)] 26); simpa using h
  replace B_x := Lib.hid B_x
  have B_y : BoxR (((w.alloc (.cells #[.bool sx, (.slice Ax kx cx), .bool tx, (.slice Cx lx dx)] 26)).alloc (.cells #[.bool sy, (.slice Ay ky cy), .bool ty, (.slice Cy ly dy)] 26)).alloc (.cells #[.bool sz, (.slice Az kz cz), .bool tz, (.slice Cz lz dz)] 26)) (w.heap.size + 1) sy (.slice Ay ky cy) ty (.slice Cy ly dy) := by have h := BoxR.alloc (BoxR.new (w.alloc (.cells #[.bool sx, (.slice Ax kx cx), .bool tx, (.slice Cx lx dx)] 26)) sy (.slice Ay ky cy) ty (.slice Cy ly dy)) (.cells #[.bool sz, (.slice Az kz cz), .bool tz, (.slice Cz lz dz)] 26); simpa using h
  replace B_y := Lib.hid B_y
  have B_z : BoxR (((w.alloc (.cells #[.bool sx, (.slice Ax kx cx), .bool tx, (.slice Cx lx dx)] 26)).alloc (.cells #[.bool sy, (.slice Ay ky cy), .bool ty, (.slice Cy ly dy)] 26)).alloc (.cells #[.bool sz, (.slice Az kz cz), .bool tz, (.slice Cz lz dz)] 26)) (w.heap.size + 1 + 1) sz (.slice Az kz cz) tz (.slice Cz lz dz) := by have h := BoxR.new ((w.alloc (.cells #[.bool sx, (.slice Ax kx cx), .bool tx, (.slice Cx lx dx)] 26)).alloc (.cells #[.bool sy, (.slice Ay ky cy), .bool ty, (.slice Cy ly dy)] 26)) sz (.slice Az kz cz) tz (.slice Cz lz dz); simpa using h
  replace B_z := Lib.hid B_z
  replace V_xn := Lib.hid (Rd.below V_xn.out hb0)
  replace V_xd := Lib.hid (Rd.below V_xd.out hb0)
  replace V_yn := Lib.hid (Rd.below V_yn.out hb0)
  replace V_yd := Lib.hid (Rd.below V_yd.out hb0)
  replace V_zn := Lib.hid (Rd.below V_zn.out hb0)
  replace V_zd := Lib.hid (Rd.below V_zd.out hb0)
  replace V_tab := Lib.hid (tab_below V_tab.out hb0)
  have HB := Lib.hid hb0
  clear hb0
  have c0x := B_x.out.c0
  have c1x := B_x.out.c1
  have c2x := B_x.out.c2
  have c3x := B_x.out.c3
  have c0y := B_y.out.c0
  have c1y := B_y.out.c1
  have c2y := B_y.out.c2
  have c3y := B_y.out.c3
  have c0z := B_z.out.c0
  have c1z := B_z.out.c1
  have c2z := B_z.out.c2
  have c3z := B_z.out.c3
  go_enter Tryz.func3, Tryz.ntmps3
  go_wp2_with fail
  clear c0x c1x c2x c3x c0y c1y c2y c3y c0z c1z c2z c3z
  generalize ((w.alloc (.cells #[.bool sx, (.slice Ax kx cx), .bool tx, (.slice Cx lx dx)] 26)).alloc (.cells #[.bool sy, (.slice Ay ky cy), .bool ty, (.slice Cy ly dy)] 26)).alloc (.cells #[.bool sz, (.slice Az kz cz), .bool tz, (.slice Cz lz dz)] 26) = W0 at *
  refine (awakeR _ (tab_below V_tab.out (by exact ⟨rfl, rfl, rfl, Nat.le_refl _, fun _ _ => rfl⟩))).mono ?_
  rintro e w1 ⟨rfl, bb⟩
  replace bb := nextw (w0 := W0) (by exact ⟨rfl, rfl, rfl, Nat.le_refl _, fun _ _ => rfl⟩) bb
  replace B_x := Lib.hid (BoxR.below B_x.out bb B_x.out.lt)
  replace B_y := Lib.hid (BoxR.below B_y.out bb B_y.out.lt)
  replace B_z := Lib.hid (BoxR.below B_z.out bb B_z.out.lt)
  replace V_xn := Lib.hid (Rd.below V_xn.out bb)
  replace V_xd := Lib.hid (Rd.below V_xd.out bb)
  replace V_yn := Lib.hid (Rd.below V_yn.out bb)
  replace V_yd := Lib.hid (Rd.below V_yd.out bb)
  replace V_zn := Lib.hid (Rd.below V_zn.out bb)
  replace V_zd := Lib.hid (Rd.below V_zd.out bb)
  replace V_tab := Lib.hid (tab_below V_tab.out bb)
  replace HB := Lib.hid (nextw HB.out bb)
  clear bb
  have c0x := B_x.out.c0
  have c1x := B_x.out.c1
  have c2x := B_x.out.c2
  have c3x := B_x.out.c3
  have c0y := B_y.out.c0
  have c1y := B_y.out.c1
  have c2y := B_y.out.c2
  have c3y := B_y.out.c3
  have c0z := B_z.out.c0
  have c1z := B_z.out.c1
  have c2z := B_z.out.c2
  have c3z := B_z.out.c3
  go_wp2_with fail
  refine (small_yes Kx.out Lx.out).mono ?_
  rintro e w2 ⟨rfl, bb⟩
  replace bb := nextw (w0 := w1) (by exact ⟨rfl, rfl, rfl, Nat.le_refl _, fun _ _ => rfl⟩) bb
  clear c0x c1x c2x c3x c0y c1y c2y c3y c0z c1z c2z c3z
  replace B_x := Lib.hid (BoxR.below B_x.out bb B_x.out.lt)
  replace B_y := Lib.hid (BoxR.below B_y.out bb B_y.out.lt)
  replace B_z := Lib.hid (BoxR.below B_z.out bb B_z.out.lt)
  replace V_xn := Lib.hid (Rd.below V_xn.out bb)
  replace V_xd := Lib.hid (Rd.below V_xd.out bb)
  replace V_yn := Lib.hid (Rd.below V_yn.out bb)
  replace V_yd := Lib.hid (Rd.below V_yd.out bb)
  replace V_zn := Lib.hid (Rd.below V_zn.out bb)
  replace V_zd := Lib.hid (Rd.below V_zd.out bb)
  replace V_tab := Lib.hid (tab_below V_tab.out bb)
  replace HB := Lib.hid (nextw HB.out bb)
  clear bb
  have c0x := B_x.out.c0
  have c1x := B_x.out.c1
  have c2x := B_x.out.c2
  have c3x := B_x.out.c3
  have c0y := B_y.out.c0
  have c1y := B_y.out.c1
  have c2y := B_y.out.c2
  have c3y := B_y.out.c3
  have c0z := B_z.out.c0
  have c1z := B_z.out.c1
  have c2z := B_z.out.c2
  have c3z := B_z.out.c3
  go_wp2_with fail
  refine (small_yes Ky.out Ly.out).mono ?_
  rintro e w3 ⟨rfl, bb⟩
  replace bb := nextw (w0 := w2) (by exact ⟨rfl, rfl, rfl, Nat.le_refl _, fun _ _ => rfl⟩) bb
  clear c0x c1x c2x c3x c0y c1y c2y c3y c0z c1z c2z c3z
  replace B_x := Lib.hid (BoxR.below B_x.out bb B_x.out.lt)
  replace B_y := Lib.hid (BoxR.below B_y.out bb B_y.out.lt)
  replace B_z := Lib.hid (BoxR.below B_z.out bb B_z.out.lt)
  replace V_xn := Lib.hid (Rd.below V_xn.out bb)
  replace V_xd := Lib.hid (Rd.below V_xd.out bb)
  replace V_yn := Lib.hid (Rd.below V_yn.out bb)
  replace V_yd := Lib.hid (Rd.below V_yd.out bb)
  replace V_zn := Lib.hid (Rd.below V_zn.out bb)
  replace V_zd := Lib.hid (Rd.below V_zd.out bb)
  replace V_tab := Lib.hid (tab_below V_tab.out bb)
  replace HB := Lib.hid (nextw HB.out bb)
  clear bb
  have c0x := B_x.out.c0
  have c1x := B_x.out.c1
  have c2x := B_x.out.c2
  have c3x := B_x.out.c3
  have c0y := B_y.out.c0
  have c1y := B_y.out.c1
  have c2y := B_y.out.c2
  have c3y := B_y.out.c3
  have c0z := B_z.out.c0
  have c1z := B_z.out.c1
  have c2z := B_z.out.c2
  have c3z := B_z.out.c3
  go_wp2_with fail
  refine (small_yes Kz.out Lz.out).mono ?_
  rintro e w4 ⟨rfl, bb⟩
  replace bb := nextw (w0 := w3) (by exact ⟨rfl, rfl, rfl, Nat.le_refl _, fun _ _ => rfl⟩) bb
  clear c0x c1x c2x c3x c0y c1y c2y c3y c0z c1z c2z c3z
  replace B_x := Lib.hid (BoxR.below B_x.out bb B_x.out.lt)
  replace B_y := Lib.hid (BoxR.below B_y.out bb B_y.out.lt)
  replace B_z := Lib.hid (BoxR.below B_z.out bb B_z.out.lt)
  replace V_xn := Lib.hid (Rd.below V_xn.out bb)
  replace V_xd := Lib.hid (Rd.below V_xd.out bb)
  replace V_yn := Lib.hid (Rd.below V_yn.out bb)
  replace V_yd := Lib.hid (Rd.below V_yd.out bb)
  replace V_zn := Lib.hid (Rd.below V_zn.out bb)
  replace V_zd := Lib.hid (Rd.below V_zd.out bb)
  replace V_tab := Lib.hid (tab_below V_tab.out bb)
  replace HB := Lib.hid (nextw HB.out bb)
  clear bb
  clear V_tab
  go_wp2_with fail
  refine (Of_r 0 1 (by omega) (by omega) (by omega) (by omega)).mono ?_
  rintro e w5 ⟨vone, rfl, rone, bb⟩
  replace bb := nextw (w0 := w4) (by exact ⟨rfl, rfl, rfl, Nat.le_refl _, fun _ _ => rfl⟩) bb
  replace B_x := Lib.hid (BoxR.below B_x.out bb B_x.out.lt)
  replace B_y := Lib.hid (BoxR.below B_y.out bb B_y.out.lt)
  replace B_z := Lib.hid (BoxR.below B_z.out bb B_z.out.lt)
  replace V_xn := Lib.hid (Rd.below V_xn.out bb)
  replace V_xd := Lib.hid (Rd.below V_xd.out bb)
  replace V_yn := Lib.hid (Rd.below V_yn.out bb)
  replace V_yd := Lib.hid (Rd.below V_yd.out bb)
  replace V_zn := Lib.hid (Rd.below V_zn.out bb)
  replace V_zd := Lib.hid (Rd.below V_zd.out bb)
  replace HB := Lib.hid (nextw HB.out bb)
  clear bb
  replace rone := rone.of_eq (show cnP 0 1 = 0 by decide +kernel) (show cnQ 0 1 = 1 by decide +kernel)
  obtain ⟨su, Au, ku, cu, tu, Cu, lu, du, rfl⟩ := rone.shape
  have V_u := Lib.hid rone
  clear rone
  have hb0 : Below w5.heap.size w5 (w5.alloc (.cells #[.bool su, (.slice Au ku cu), .bool tu, (.slice Cu lu du)] 26)) := (Below.alloc (Below.refl w5.heap.size w5) (by simp <;> omega) _)
  have B_u : BoxR (w5.alloc (.cells #[.bool su, (.slice Au ku cu), .bool tu, (.slice Cu lu du)] 26)) (w5.heap.size) su (.slice Au ku cu) tu (.slice Cu lu du) := by have h := BoxR.new w5 su (.slice Au ku cu) tu (.slice Cu lu du); simpa using h
  replace B_u := Lib.hid B_u
  replace B_x := Lib.hid (BoxR.below B_x.out hb0 B_x.out.lt)
  replace B_y := Lib.hid (BoxR.below B_y.out hb0 B_y.out.lt)
  replace B_z := Lib.hid (BoxR.below B_z.out hb0 B_z.out.lt)
  replace V_xn := Lib.hid (Rd.below V_xn.out hb0)
  replace V_xd := Lib.hid (Rd.below V_xd.out hb0)
  replace V_yn := Lib.hid (Rd.below V_yn.out hb0)
  replace V_yd := Lib.hid (Rd.below V_yd.out hb0)
  replace V_zn := Lib.hid (Rd.below V_zn.out hb0)
  replace V_zd := Lib.hid (Rd.below V_zd.out hb0)
  replace V_u := Lib.hid (Gc.below V_u.out hb0)
  replace HB := Lib.hid (nextw HB.out hb0)
  clear hb0
  have c0x := B_x.out.c0
  have c1x := B_x.out.c1
  have c2x := B_x.out.c2
  have c3x := B_x.out.c3
  have c0y := B_y.out.c0
  have c1y := B_y.out.c1
  have c2y := B_y.out.c2
  have c3y := B_y.out.c3
  go_wp2_with fail
  clear c0x c1x c2x c3x c0y c1y c2y c3y
  generalize w5.alloc (.cells #[.bool su, (.slice Au ku cu), .bool tu, (.slice Cu lu du)] 26) = W1 at *
  refine (Then_r (Fd.mk (Rd.below V_xn.out (by exact ⟨rfl, rfl, rfl, Nat.le_refl _, fun _ _ => rfl⟩)) (Rd.below V_xd.out (by exact ⟨rfl, rfl, rfl, Nat.le_refl _, fun _ _ => rfl⟩))) (Fd.mk (Rd.below V_yn.out (by exact ⟨rfl, rfl, rfl, Nat.le_refl _, fun _ _ => rfl⟩)) (Rd.below V_yd.out (by exact ⟨rfl, rfl, rfl, Nat.le_refl _, fun _ _ => rfl⟩))) (by omega) (by omega)).mono ?_
  rintro e w6 ⟨vab, rfl, rab, bb⟩
  replace bb := nextw (w0 := W1) (by exact ⟨rfl, rfl, rfl, Nat.le_refl _, fun _ _ => rfl⟩) bb
  replace B_x := Lib.hid (BoxR.below B_x.out bb B_x.out.lt)
  replace B_y := Lib.hid (BoxR.below B_y.out bb B_y.out.lt)
  replace B_z := Lib.hid (BoxR.below B_z.out bb B_z.out.lt)
  replace B_u := Lib.hid (BoxR.below B_u.out bb B_u.out.lt)
  replace V_xn := Lib.hid (Rd.below V_xn.out bb)
  replace V_xd := Lib.hid (Rd.below V_xd.out bb)
  replace V_yn := Lib.hid (Rd.below V_yn.out bb)
  replace V_yd := Lib.hid (Rd.below V_yd.out bb)
  replace V_zn := Lib.hid (Rd.below V_zn.out bb)
  replace V_zd := Lib.hid (Rd.below V_zd.out bb)
  replace V_u := Lib.hid (Gc.below V_u.out bb)
  replace HB := Lib.hid (nextw HB.out bb)
  clear bb
  obtain ⟨sv, Av, kv, cv, tv, Cv, lv, dv, rfl⟩ := rab.shape
  have V_v := Lib.hid rab
  clear rab
  have hb0 : Below w6.heap.size w6 (w6.alloc (.cells #[.bool sv, (.slice Av kv cv), .bool tv, (.slice Cv lv dv)] 26)) := (Below.alloc (Below.refl w6.heap.size w6) (by simp <;> omega) _)
  have B_v : BoxR (w6.alloc (.cells #[.bool sv, (.slice Av kv cv), .bool tv, (.slice Cv lv dv)] 26)) (w6.heap.size) sv (.slice Av kv cv) tv (.slice Cv lv dv) := by have h := BoxR.new w6 sv (.slice Av kv cv) tv (.slice Cv lv dv); simpa using h
  replace B_v := Lib.hid B_v
  replace B_x := Lib.hid (BoxR.below B_x.out hb0 B_x.out.lt)
  replace B_y := Lib.hid (BoxR.below B_y.out hb0 B_y.out.lt)
  replace B_z := Lib.hid (BoxR.below B_z.out hb0 B_z.out.lt)
  replace B_u := Lib.hid (BoxR.below B_u.out hb0 B_u.out.lt)
  replace V_xn := Lib.hid (Rd.below V_xn.out hb0)
  replace V_xd := Lib.hid (Rd.below V_xd.out hb0)
  replace V_yn := Lib.hid (Rd.below V_yn.out hb0)
  replace V_yd := Lib.hid (Rd.below V_yd.out hb0)
  replace V_zn := Lib.hid (Rd.below V_zn.out hb0)
  replace V_zd := Lib.hid (Rd.below V_zd.out hb0)
  replace V_u := Lib.hid (Gc.below V_u.out hb0)
  replace V_v := Lib.hid (Gc.below V_v.out hb0)
  replace HB := Lib.hid (nextw HB.out hb0)
  clear hb0
  have c0x := B_x.out.c0
  have c1x := B_x.out.c1
  have c2x := B_x.out.c2
  have c3x := B_x.out.c3
  have c0y := B_y.out.c0
  have c1y := B_y.out.c1
  have c2y := B_y.out.c2
  have c3y := B_y.out.c3
  have c0z := B_z.out.c0
  have c1z := B_z.out.c1
  have c2z := B_z.out.c2
  have c3z := B_z.out.c3
  have c0u := B_u.out.c0
  have c1u := B_u.out.c1
  have c2u := B_u.out.c2
  have c3u := B_u.out.c3
  have c0v := B_v.out.c0
  have c1v := B_v.out.c1
  have c2v := B_v.out.c2
  have c3v := B_v.out.c3
  go_wp2
  clear c0x c1x c2x c3x c0y c1y c2y c3y c0z c1z c2z c3z c0u c1u c2u c3u c0v c1v c2v c3v
  generalize w6.alloc (.cells #[.bool sv, (.slice Av kv cv), .bool tv, (.slice Cv lv dv)] 26) = W2 at *
  have c0x := B_x.out.c0
  have c1x := B_x.out.c1
  have c2x := B_x.out.c2
  have c3x := B_x.out.c3
  have c0y := B_y.out.c0
  have c1y := B_y.out.c1
  have c2y := B_y.out.c2
  have c3y := B_y.out.c3
  have c0z := B_z.out.c0
  have c1z := B_z.out.c1
  have c2z := B_z.out.c2
  have c3z := B_z.out.c3
  have c0u := B_u.out.c0
  have c1u := B_u.out.c1
  have c2u := B_u.out.c2
  have c3u := B_u.out.c3
  have c0v := B_v.out.c0
  have c1v := B_v.out.c1
  have c2v := B_v.out.c2
  have c3v := B_v.out.c3
  have tk1x0 : True := trivial
  first | (go_region_held3 (fun w' => w'.cell? ⟨w.heap.size, 0, none⟩ = some (.bool sx) ∧ w'.cell? ⟨w.heap.size, 1, none⟩ = some (.slice Ax kx cx) ∧ w'.cell? ⟨w.heap.size, 2, none⟩ = some (.bool tx) ∧ w'.cell? ⟨w.heap.size, 3, none⟩ = some (.slice Cx lx dx) ∧ w'.cell? ⟨w.heap.size + 1, 0, none⟩ = some (.bool sy) ∧ w'.cell? ⟨w.heap.size + 1, 1, none⟩ = some (.slice Ay ky cy) ∧ w'.cell? ⟨w.heap.size + 1, 2, none⟩ = some (.bool ty) ∧ w'.cell? ⟨w.heap.size + 1, 3, none⟩ = some (.slice Cy ly dy) ∧ w'.cell? ⟨w.heap.size + 1 + 1, 0, none⟩ = some (.bool sz) ∧ w'.cell? ⟨w.heap.size + 1 + 1, 1, none⟩ = some (.slice Az kz cz) ∧ w'.cell? ⟨w.heap.size + 1 + 1, 2, none⟩ = some (.bool tz) ∧ w'.cell? ⟨w.heap.size + 1 + 1, 3, none⟩ = some (.slice Cz lz dz) ∧ w'.cell? ⟨w5.heap.size, 0, none⟩ = some (.bool su) ∧ w'.cell? ⟨w5.heap.size, 1, none⟩ = some (.slice Au ku cu) ∧ w'.cell? ⟨w5.heap.size, 2, none⟩ = some (.bool tu) ∧ w'.cell? ⟨w5.heap.size, 3, none⟩ = some (.slice Cu lu du) ∧ w'.cell? ⟨w6.heap.size, 0, none⟩ = some (.bool sv) ∧ w'.cell? ⟨w6.heap.size, 1, none⟩ = some (.slice Av kv cv) ∧ w'.cell? ⟨w6.heap.size, 2, none⟩ = some (.bool tv) ∧ w'.cell? ⟨w6.heap.size, 3, none⟩ = some (.slice Cv lv dv)) (((try dsimp only); (repeat' apply And.intro) <;> (first | (with_reducible assumption) | ((repeat (first | (with_reducible refine Eq.trans (cell_drew1 _ _) ?_) | (with_reducible refine Eq.trans (cell_set4 (by omega) _ _ _ _) ?_))); with_reducible assumption) | assumption | go_keep)))
    (first
      | (clear tk1x0; go_at_call 13; refine (Then_r (Fd.mk (Rd.below V_yn.out (by exact ⟨rfl, rfl, rfl, Nat.le_refl _, fun _ _ => rfl⟩)) (Rd.below V_yd.out (by exact ⟨rfl, rfl, rfl, Nat.le_refl _, fun _ _ => rfl⟩))) (Fd.mk (Rd.below V_xn.out (by exact ⟨rfl, rfl, rfl, Nat.le_refl _, fun _ _ => rfl⟩)) (Rd.below V_xd.out (by exact ⟨rfl, rfl, rfl, Nat.le_refl _, fun _ _ => rfl⟩))) (by omega) (by omega)).mono ?_; rintro e w7 ⟨va1, rfl, ra1, bb⟩; replace bb := nextw (w0 := W2) (by exact ⟨rfl, rfl, rfl, Nat.le_refl _, fun _ _ => rfl⟩) bb; replace B_x := Lib.hid (BoxR.below B_x.out bb B_x.out.lt); replace B_y := Lib.hid (BoxR.below B_y.out bb B_y.out.lt); replace B_z := Lib.hid (BoxR.below B_z.out bb B_z.out.lt); replace B_u := Lib.hid (BoxR.below B_u.out bb B_u.out.lt); replace B_v := Lib.hid (BoxR.below B_v.out bb B_v.out.lt); replace V_xn := Lib.hid (Rd.below V_xn.out bb); replace V_xd := Lib.hid (Rd.below V_xd.out bb); replace V_yn := Lib.hid (Rd.below V_yn.out bb); replace V_yd := Lib.hid (Rd.below V_yd.out bb); replace V_zn := Lib.hid (Rd.below V_zn.out bb); replace V_zd := Lib.hid (Rd.below V_zd.out bb); replace V_u := Lib.hid (Gc.below V_u.out bb); replace V_v := Lib.hid (Gc.below V_v.out bb); replace HB := Lib.hid (nextw HB.out bb); clear bb; replace ra1 := Lib.hid ra1; have V_a1 := ra1; clear ra1; clear c0x c1x c2x c3x c0y c1y c2y c3y c0z c1z c2z c3z c0u c1u c2u c3u c0v c1v c2v c3v; have c0x := B_x.out.c0; have c1x := B_x.out.c1; have c2x := B_x.out.c2; have c3x := B_x.out.c3; have c0y := B_y.out.c0; have c1y := B_y.out.c1; have c2y := B_y.out.c2; have c3y := B_y.out.c3; have c0z := B_z.out.c0; have c1z := B_z.out.c1; have c2z := B_z.out.c2; have c3z := B_z.out.c3; have c0u := B_u.out.c0; have c1u := B_u.out.c1; have c2u := B_u.out.c2; have c3u := B_u.out.c3; have c0v := B_v.out.c0; have c1v := B_v.out.c1; have c2v := B_v.out.c2; have c3v := B_v.out.c3; have tk1x1 : True := trivial)
      | (clear tk1x1; go_at_call 14; refine (BRot_g (Gc.below V_v.out (by exact ⟨rfl, rfl, rfl, Nat.le_refl _, fun _ _ => rfl⟩)) (Gc.below V_a1.out (by exact ⟨rfl, rfl, rfl, Nat.le_refl _, fun _ _ => rfl⟩)) (by omega) (by omega) ((th_comm _ _ _ _).1) ((th_comm _ _ _ _).2)).mono ?_; rintro e w8 ⟨rfl, bb⟩; replace bb := nextw (w0 := w7) (by exact ⟨rfl, rfl, rfl, Nat.le_refl _, fun _ _ => rfl⟩) bb; clear V_a1; replace B_x := Lib.hid (BoxR.below B_x.out bb B_x.out.lt); replace B_y := Lib.hid (BoxR.below B_y.out bb B_y.out.lt); replace B_z := Lib.hid (BoxR.below B_z.out bb B_z.out.lt); replace B_u := Lib.hid (BoxR.below B_u.out bb B_u.out.lt); replace B_v := Lib.hid (BoxR.below B_v.out bb B_v.out.lt); replace V_xn := Lib.hid (Rd.below V_xn.out bb); replace V_xd := Lib.hid (Rd.below V_xd.out bb); replace V_yn := Lib.hid (Rd.below V_yn.out bb); replace V_yd := Lib.hid (Rd.below V_yd.out bb); replace V_zn := Lib.hid (Rd.below V_zn.out bb); replace V_zd := Lib.hid (Rd.below V_zd.out bb); replace V_u := Lib.hid (Gc.below V_u.out bb); replace V_v := Lib.hid (Gc.below V_v.out bb); replace HB := Lib.hid (nextw HB.out bb); clear bb; clear c0x c1x c2x c3x c0y c1y c2y c3y c0z c1z c2z c3z c0u c1u c2u c3u c0v c1v c2v c3v; have c0x := B_x.out.c0; have c1x := B_x.out.c1; have c2x := B_x.out.c2; have c3x := B_x.out.c3; have c0y := B_y.out.c0; have c1y := B_y.out.c1; have c2y := B_y.out.c2; have c3y := B_y.out.c3; have c0z := B_z.out.c0; have c1z := B_z.out.c1; have c2z := B_z.out.c2; have c3z := B_z.out.c3; have c0u := B_u.out.c0; have c1u := B_u.out.c1; have c2u := B_u.out.c2; have c3u := B_u.out.c3; have c0v := B_v.out.c0; have c1v := B_v.out.c1; have c2v := B_v.out.c2; have c3v := B_v.out.c3; have tk1x2 : True := trivial)
      | (clear tk1x2; go_at_call 13; refine (Then_r (Gc.fd (Gc.below V_v.out (by exact ⟨rfl, rfl, rfl, Nat.le_refl _, fun _ _ => rfl⟩))) (Fd.mk (Rd.below V_zn.out (by exact ⟨rfl, rfl, rfl, Nat.le_refl _, fun _ _ => rfl⟩)) (Rd.below V_zd.out (by exact ⟨rfl, rfl, rfl, Nat.le_refl _, fun _ _ => rfl⟩))) (by omega) (by omega)).mono ?_; rintro e w9 ⟨vb1, rfl, rb1, bb⟩; replace bb := nextw (w0 := w8) (by exact ⟨rfl, rfl, rfl, Nat.le_refl _, fun _ _ => rfl⟩) bb; replace B_x := Lib.hid (BoxR.below B_x.out bb B_x.out.lt); replace B_y := Lib.hid (BoxR.below B_y.out bb B_y.out.lt); replace B_z := Lib.hid (BoxR.below B_z.out bb B_z.out.lt); replace B_u := Lib.hid (BoxR.below B_u.out bb B_u.out.lt); replace B_v := Lib.hid (BoxR.below B_v.out bb B_v.out.lt); replace V_xn := Lib.hid (Rd.below V_xn.out bb); replace V_xd := Lib.hid (Rd.below V_xd.out bb); replace V_yn := Lib.hid (Rd.below V_yn.out bb); replace V_yd := Lib.hid (Rd.below V_yd.out bb); replace V_zn := Lib.hid (Rd.below V_zn.out bb); replace V_zd := Lib.hid (Rd.below V_zd.out bb); replace V_u := Lib.hid (Gc.below V_u.out bb); replace V_v := Lib.hid (Gc.below V_v.out bb); replace HB := Lib.hid (nextw HB.out bb); clear bb; replace rb1 := Lib.hid rb1; have V_b1 := rb1; clear rb1; clear c0x c1x c2x c3x c0y c1y c2y c3y c0z c1z c2z c3z c0u c1u c2u c3u c0v c1v c2v c3v; have c0x := B_x.out.c0; have c1x := B_x.out.c1; have c2x := B_x.out.c2; have c3x := B_x.out.c3; have c0y := B_y.out.c0; have c1y := B_y.out.c1; have c2y := B_y.out.c2; have c3y := B_y.out.c3; have c0z := B_z.out.c0; have c1z := B_z.out.c1; have c2z := B_z.out.c2; have c3z := B_z.out.c3; have c0u := B_u.out.c0; have c1u := B_u.out.c1; have c2u := B_u.out.c2; have c3u := B_u.out.c3; have c0v := B_v.out.c0; have c1v := B_v.out.c1; have c2v := B_v.out.c2; have c3v := B_v.out.c3; have tk1x3 : True := trivial)
      | (clear tk1x3; go_at_call 13; refine (Then_r (Fd.mk (Rd.below V_yn.out (by exact ⟨rfl, rfl, rfl, Nat.le_refl _, fun _ _ => rfl⟩)) (Rd.below V_yd.out (by exact ⟨rfl, rfl, rfl, Nat.le_refl _, fun _ _ => rfl⟩))) (Fd.mk (Rd.below V_zn.out (by exact ⟨rfl, rfl, rfl, Nat.le_refl _, fun _ _ => rfl⟩)) (Rd.below V_zd.out (by exact ⟨rfl, rfl, rfl, Nat.le_refl _, fun _ _ => rfl⟩))) (by omega) (by omega)).mono ?_; rintro e w10 ⟨vb2, rfl, rb2, bb⟩; replace bb := nextw (w0 := w9) (by exact ⟨rfl, rfl, rfl, Nat.le_refl _, fun _ _ => rfl⟩) bb; replace B_x := Lib.hid (BoxR.below B_x.out bb B_x.out.lt); replace B_y := Lib.hid (BoxR.below B_y.out bb B_y.out.lt); replace B_z := Lib.hid (BoxR.below B_z.out bb B_z.out.lt); replace B_u := Lib.hid (BoxR.below B_u.out bb B_u.out.lt); replace B_v := Lib.hid (BoxR.below B_v.out bb B_v.out.lt); replace V_xn := Lib.hid (Rd.below V_xn.out bb); replace V_xd := Lib.hid (Rd.below V_xd.out bb); replace V_yn := Lib.hid (Rd.below V_yn.out bb); replace V_yd := Lib.hid (Rd.below V_yd.out bb); replace V_zn := Lib.hid (Rd.below V_zn.out bb); replace V_zd := Lib.hid (Rd.below V_zd.out bb); replace V_u := Lib.hid (Gc.below V_u.out bb); replace V_v := Lib.hid (Gc.below V_v.out bb); replace V_b1 := Lib.hid (Gc.below V_b1.out bb); replace HB := Lib.hid (nextw HB.out bb); clear bb; replace rb2 := Lib.hid rb2; have V_b2 := rb2; clear rb2; clear c0x c1x c2x c3x c0y c1y c2y c3y c0z c1z c2z c3z c0u c1u c2u c3u c0v c1v c2v c3v; have c0x := B_x.out.c0; have c1x := B_x.out.c1; have c2x := B_x.out.c2; have c3x := B_x.out.c3; have c0y := B_y.out.c0; have c1y := B_y.out.c1; have c2y := B_y.out.c2; have c3y := B_y.out.c3; have c0z := B_z.out.c0; have c1z := B_z.out.c1; have c2z := B_z.out.c2; have c3z := B_z.out.c3; have c0u := B_u.out.c0; have c1u := B_u.out.c1; have c2u := B_u.out.c2; have c3u := B_u.out.c3; have c0v := B_v.out.c0; have c1v := B_v.out.c1; have c2v := B_v.out.c2; have c3v := B_v.out.c3; have tk1x4 : True := trivial)
      | (clear tk1x4; go_at_call 13; refine (Then_r (Fd.mk (Rd.below V_xn.out (by exact ⟨rfl, rfl, rfl, Nat.le_refl _, fun _ _ => rfl⟩)) (Rd.below V_xd.out (by exact ⟨rfl, rfl, rfl, Nat.le_refl _, fun _ _ => rfl⟩))) (Gc.fd (Gc.below V_b2.out (by exact ⟨rfl, rfl, rfl, Nat.le_refl _, fun _ _ => rfl⟩))) (by omega) (by omega)).mono ?_; rintro e w11 ⟨vb3, rfl, rb3, bb⟩; replace bb := nextw (w0 := w10) (by exact ⟨rfl, rfl, rfl, Nat.le_refl _, fun _ _ => rfl⟩) bb; clear V_b2; replace B_x := Lib.hid (BoxR.below B_x.out bb B_x.out.lt); replace B_y := Lib.hid (BoxR.below B_y.out bb B_y.out.lt); replace B_z := Lib.hid (BoxR.below B_z.out bb B_z.out.lt); replace B_u := Lib.hid (BoxR.below B_u.out bb B_u.out.lt); replace B_v := Lib.hid (BoxR.below B_v.out bb B_v.out.lt); replace V_xn := Lib.hid (Rd.below V_xn.out bb); replace V_xd := Lib.hid (Rd.below V_xd.out bb); replace V_yn := Lib.hid (Rd.below V_yn.out bb); replace V_yd := Lib.hid (Rd.below V_yd.out bb); replace V_zn := Lib.hid (Rd.below V_zn.out bb); replace V_zd := Lib.hid (Rd.below V_zd.out bb); replace V_u := Lib.hid (Gc.below V_u.out bb); replace V_v := Lib.hid (Gc.below V_v.out bb); replace V_b1 := Lib.hid (Gc.below V_b1.out bb); replace HB := Lib.hid (nextw HB.out bb); clear bb; replace rb3 := Lib.hid rb3; have V_b3 := rb3; clear rb3; clear c0x c1x c2x c3x c0y c1y c2y c3y c0z c1z c2z c3z c0u c1u c2u c3u c0v c1v c2v c3v; have c0x := B_x.out.c0; have c1x := B_x.out.c1; have c2x := B_x.out.c2; have c3x := B_x.out.c3; have c0y := B_y.out.c0; have c1y := B_y.out.c1; have c2y := B_y.out.c2; have c3y := B_y.out.c3; have c0z := B_z.out.c0; have c1z := B_z.out.c1; have c2z := B_z.out.c2; have c3z := B_z.out.c3; have c0u := B_u.out.c0; have c1u := B_u.out.c1; have c2u := B_u.out.c2; have c3u := B_u.out.c3; have c0v := B_v.out.c0; have c1v := B_v.out.c1; have c2v := B_v.out.c2; have c3v := B_v.out.c3; have tk1x5 : True := trivial)
      | (clear tk1x5; go_at_call 14; refine (BRot_g (Gc.below V_b1.out (by exact ⟨rfl, rfl, rfl, Nat.le_refl _, fun _ _ => rfl⟩)) (Gc.below V_b3.out (by exact ⟨rfl, rfl, rfl, Nat.le_refl _, fun _ _ => rfl⟩)) (by omega) (by omega) ((th_assoc _ _ _ _ _ _).1) ((th_assoc _ _ _ _ _ _).2)).mono ?_; rintro e w12 ⟨rfl, bb⟩; replace bb := nextw (w0 := w11) (by exact ⟨rfl, rfl, rfl, Nat.le_refl _, fun _ _ => rfl⟩) bb; clear V_b1 V_b3; replace B_x := Lib.hid (BoxR.below B_x.out bb B_x.out.lt); replace B_y := Lib.hid (BoxR.below B_y.out bb B_y.out.lt); replace B_z := Lib.hid (BoxR.below B_z.out bb B_z.out.lt); replace B_u := Lib.hid (BoxR.below B_u.out bb B_u.out.lt); replace B_v := Lib.hid (BoxR.below B_v.out bb B_v.out.lt); replace V_xn := Lib.hid (Rd.below V_xn.out bb); replace V_xd := Lib.hid (Rd.below V_xd.out bb); replace V_yn := Lib.hid (Rd.below V_yn.out bb); replace V_yd := Lib.hid (Rd.below V_yd.out bb); replace V_zn := Lib.hid (Rd.below V_zn.out bb); replace V_zd := Lib.hid (Rd.below V_zd.out bb); replace V_u := Lib.hid (Gc.below V_u.out bb); replace V_v := Lib.hid (Gc.below V_v.out bb); replace HB := Lib.hid (nextw HB.out bb); clear bb; clear c0x c1x c2x c3x c0y c1y c2y c3y c0z c1z c2z c3z c0u c1u c2u c3u c0v c1v c2v c3v; have c0x := B_x.out.c0; have c1x := B_x.out.c1; have c2x := B_x.out.c2; have c3x := B_x.out.c3; have c0y := B_y.out.c0; have c1y := B_y.out.c1; have c2y := B_y.out.c2; have c3y := B_y.out.c3; have c0z := B_z.out.c0; have c1z := B_z.out.c1; have c2z := B_z.out.c2; have c3z := B_z.out.c3; have c0u := B_u.out.c0; have c1u := B_u.out.c1; have c2u := B_u.out.c2; have c3u := B_u.out.c3; have c0v := B_v.out.c0; have c1v := B_v.out.c1; have c2v := B_v.out.c2; have c3v := B_v.out.c3; have tk1x6 : True := trivial)
      | (clear tk1x6; go_at_call 13; refine (Then_r (Fd.mk (Rd.below V_xn.out (by exact ⟨rfl, rfl, rfl, Nat.le_refl _, fun _ _ => rfl⟩)) (Rd.below V_xd.out (by exact ⟨rfl, rfl, rfl, Nat.le_refl _, fun _ _ => rfl⟩))) (Gc.fd (Gc.below V_u.out (by exact ⟨rfl, rfl, rfl, Nat.le_refl _, fun _ _ => rfl⟩))) (by omega) (by omega)).mono ?_; rintro e w13 ⟨vc1, rfl, rc1, bb⟩; replace bb := nextw (w0 := w12) (by exact ⟨rfl, rfl, rfl, Nat.le_refl _, fun _ _ => rfl⟩) bb; replace B_x := Lib.hid (BoxR.below B_x.out bb B_x.out.lt); replace B_y := Lib.hid (BoxR.below B_y.out bb B_y.out.lt); replace B_z := Lib.hid (BoxR.below B_z.out bb B_z.out.lt); replace B_u := Lib.hid (BoxR.below B_u.out bb B_u.out.lt); replace B_v := Lib.hid (BoxR.below B_v.out bb B_v.out.lt); replace V_xn := Lib.hid (Rd.below V_xn.out bb); replace V_xd := Lib.hid (Rd.below V_xd.out bb); replace V_yn := Lib.hid (Rd.below V_yn.out bb); replace V_yd := Lib.hid (Rd.below V_yd.out bb); replace V_zn := Lib.hid (Rd.below V_zn.out bb); replace V_zd := Lib.hid (Rd.below V_zd.out bb); replace V_u := Lib.hid (Gc.below V_u.out bb); replace V_v := Lib.hid (Gc.below V_v.out bb); replace HB := Lib.hid (nextw HB.out bb); clear bb; replace rc1 := Lib.hid rc1; have V_c1 := rc1; clear rc1; clear c0x c1x c2x c3x c0y c1y c2y c3y c0z c1z c2z c3z c0u c1u c2u c3u c0v c1v c2v c3v; have c0x := B_x.out.c0; have c1x := B_x.out.c1; have c2x := B_x.out.c2; have c3x := B_x.out.c3; have c0y := B_y.out.c0; have c1y := B_y.out.c1; have c2y := B_y.out.c2; have c3y := B_y.out.c3; have c0z := B_z.out.c0; have c1z := B_z.out.c1; have c2z := B_z.out.c2; have c3z := B_z.out.c3; have c0u := B_u.out.c0; have c1u := B_u.out.c1; have c2u := B_u.out.c2; have c3u := B_u.out.c3; have c0v := B_v.out.c0; have c1v := B_v.out.c1; have c2v := B_v.out.c2; have c3v := B_v.out.c3; have tk1x7 : True := trivial)
      | (clear tk1x7; go_at_call 15; refine (Same_yes_r (Gc.fd (Gc.below V_c1.out (by exact ⟨rfl, rfl, rfl, Nat.le_refl _, fun _ _ => rfl⟩))) (Fd.mk (Rd.below V_xn.out (by exact ⟨rfl, rfl, rfl, Nat.le_refl _, fun _ _ => rfl⟩)) (Rd.below V_xd.out (by exact ⟨rfl, rfl, rfl, Nat.le_refl _, fun _ _ => rfl⟩))) (by omega) (by omega) (same_one _ _)).mono ?_; rintro e w14 ⟨rfl, bb⟩; replace bb := nextw (w0 := w13) (by exact ⟨rfl, rfl, rfl, Nat.le_refl _, fun _ _ => rfl⟩) bb; clear V_c1; replace B_x := Lib.hid (BoxR.below B_x.out bb B_x.out.lt); replace B_y := Lib.hid (BoxR.below B_y.out bb B_y.out.lt); replace B_z := Lib.hid (BoxR.below B_z.out bb B_z.out.lt); replace B_u := Lib.hid (BoxR.below B_u.out bb B_u.out.lt); replace B_v := Lib.hid (BoxR.below B_v.out bb B_v.out.lt); replace V_xn := Lib.hid (Rd.below V_xn.out bb); replace V_xd := Lib.hid (Rd.below V_xd.out bb); replace V_yn := Lib.hid (Rd.below V_yn.out bb); replace V_yd := Lib.hid (Rd.below V_yd.out bb); replace V_zn := Lib.hid (Rd.below V_zn.out bb); replace V_zd := Lib.hid (Rd.below V_zd.out bb); replace V_u := Lib.hid (Gc.below V_u.out bb); replace V_v := Lib.hid (Gc.below V_v.out bb); replace HB := Lib.hid (nextw HB.out bb); clear bb; clear c0x c1x c2x c3x c0y c1y c2y c3y c0z c1z c2z c3z c0u c1u c2u c3u c0v c1v c2v c3v; have c0x := B_x.out.c0; have c1x := B_x.out.c1; have c2x := B_x.out.c2; have c3x := B_x.out.c3; have c0y := B_y.out.c0; have c1y := B_y.out.c1; have c2y := B_y.out.c2; have c3y := B_y.out.c3; have c0z := B_z.out.c0; have c1z := B_z.out.c1; have c2z := B_z.out.c2; have c3z := B_z.out.c3; have c0u := B_u.out.c0; have c1u := B_u.out.c1; have c2u := B_u.out.c2; have c3u := B_u.out.c3; have c0v := B_v.out.c0; have c1v := B_v.out.c1; have c2v := B_v.out.c2; have c3v := B_v.out.c3; have tk1x8 : True := trivial)
      | (clear tk1x8; go_at_call 16; refine (Inverse_r (Fd.mk (Rd.below V_xn.out (by exact ⟨rfl, rfl, rfl, Nat.le_refl _, fun _ _ => rfl⟩)) (Rd.below V_xd.out (by exact ⟨rfl, rfl, rfl, Nat.le_refl _, fun _ _ => rfl⟩))) (by omega)).mono ?_; rintro e w15 ⟨vd1, rfl, rd1, bb⟩; replace bb := nextw (w0 := w14) (by exact ⟨rfl, rfl, rfl, Nat.le_refl _, fun _ _ => rfl⟩) bb; replace B_x := Lib.hid (BoxR.below B_x.out bb B_x.out.lt); replace B_y := Lib.hid (BoxR.below B_y.out bb B_y.out.lt); replace B_z := Lib.hid (BoxR.below B_z.out bb B_z.out.lt); replace B_u := Lib.hid (BoxR.below B_u.out bb B_u.out.lt); replace B_v := Lib.hid (BoxR.below B_v.out bb B_v.out.lt); replace V_xn := Lib.hid (Rd.below V_xn.out bb); replace V_xd := Lib.hid (Rd.below V_xd.out bb); replace V_yn := Lib.hid (Rd.below V_yn.out bb); replace V_yd := Lib.hid (Rd.below V_yd.out bb); replace V_zn := Lib.hid (Rd.below V_zn.out bb); replace V_zd := Lib.hid (Rd.below V_zd.out bb); replace V_u := Lib.hid (Gc.below V_u.out bb); replace V_v := Lib.hid (Gc.below V_v.out bb); replace HB := Lib.hid (nextw HB.out bb); clear bb; replace rd1 := Lib.hid rd1; have V_d1 := rd1; clear rd1; clear c0x c1x c2x c3x c0y c1y c2y c3y c0z c1z c2z c3z c0u c1u c2u c3u c0v c1v c2v c3v; have c0x := B_x.out.c0; have c1x := B_x.out.c1; have c2x := B_x.out.c2; have c3x := B_x.out.c3; have c0y := B_y.out.c0; have c1y := B_y.out.c1; have c2y := B_y.out.c2; have c3y := B_y.out.c3; have c0z := B_z.out.c0; have c1z := B_z.out.c1; have c2z := B_z.out.c2; have c3z := B_z.out.c3; have c0u := B_u.out.c0; have c1u := B_u.out.c1; have c2u := B_u.out.c2; have c3u := B_u.out.c3; have c0v := B_v.out.c0; have c1v := B_v.out.c1; have c2v := B_v.out.c2; have c3v := B_v.out.c3; have tk1x9 : True := trivial)
      | (clear tk1x9; go_at_call 13; refine (Then_r (Fd.mk (Rd.below V_xn.out (by exact ⟨rfl, rfl, rfl, Nat.le_refl _, fun _ _ => rfl⟩)) (Rd.below V_xd.out (by exact ⟨rfl, rfl, rfl, Nat.le_refl _, fun _ _ => rfl⟩))) (Gc.fd (Gc.below V_d1.out (by exact ⟨rfl, rfl, rfl, Nat.le_refl _, fun _ _ => rfl⟩))) (by omega) (by omega)).mono ?_; rintro e w16 ⟨vd2, rfl, rd2, bb⟩; replace bb := nextw (w0 := w15) (by exact ⟨rfl, rfl, rfl, Nat.le_refl _, fun _ _ => rfl⟩) bb; clear V_d1; replace B_x := Lib.hid (BoxR.below B_x.out bb B_x.out.lt); replace B_y := Lib.hid (BoxR.below B_y.out bb B_y.out.lt); replace B_z := Lib.hid (BoxR.below B_z.out bb B_z.out.lt); replace B_u := Lib.hid (BoxR.below B_u.out bb B_u.out.lt); replace B_v := Lib.hid (BoxR.below B_v.out bb B_v.out.lt); replace V_xn := Lib.hid (Rd.below V_xn.out bb); replace V_xd := Lib.hid (Rd.below V_xd.out bb); replace V_yn := Lib.hid (Rd.below V_yn.out bb); replace V_yd := Lib.hid (Rd.below V_yd.out bb); replace V_zn := Lib.hid (Rd.below V_zn.out bb); replace V_zd := Lib.hid (Rd.below V_zd.out bb); replace V_u := Lib.hid (Gc.below V_u.out bb); replace V_v := Lib.hid (Gc.below V_v.out bb); replace HB := Lib.hid (nextw HB.out bb); clear bb; replace rd2 := Lib.hid rd2; have V_d2 := rd2; clear rd2; clear c0x c1x c2x c3x c0y c1y c2y c3y c0z c1z c2z c3z c0u c1u c2u c3u c0v c1v c2v c3v; have c0x := B_x.out.c0; have c1x := B_x.out.c1; have c2x := B_x.out.c2; have c3x := B_x.out.c3; have c0y := B_y.out.c0; have c1y := B_y.out.c1; have c2y := B_y.out.c2; have c3y := B_y.out.c3; have c0z := B_z.out.c0; have c1z := B_z.out.c1; have c2z := B_z.out.c2; have c3z := B_z.out.c3; have c0u := B_u.out.c0; have c1u := B_u.out.c1; have c2u := B_u.out.c2; have c3u := B_u.out.c3; have c0v := B_v.out.c0; have c1v := B_v.out.c1; have c2v := B_v.out.c2; have c3v := B_v.out.c3; have tk1x10 : True := trivial)
      | (clear tk1x10; go_at_call 14; refine (BRot_g (Gc.below V_d2.out (by exact ⟨rfl, rfl, rfl, Nat.le_refl _, fun _ _ => rfl⟩)) (Gc.below V_u.out (by exact ⟨rfl, rfl, rfl, Nat.le_refl _, fun _ _ => rfl⟩)) (by omega) (by omega) ((th_in _ _).1) ((th_in _ _).2)).mono ?_; rintro e w17 ⟨rfl, bb⟩; replace bb := nextw (w0 := w16) (by exact ⟨rfl, rfl, rfl, Nat.le_refl _, fun _ _ => rfl⟩) bb; clear V_d2; replace B_x := Lib.hid (BoxR.below B_x.out bb B_x.out.lt); replace B_y := Lib.hid (BoxR.below B_y.out bb B_y.out.lt); replace B_z := Lib.hid (BoxR.below B_z.out bb B_z.out.lt); replace B_u := Lib.hid (BoxR.below B_u.out bb B_u.out.lt); replace B_v := Lib.hid (BoxR.below B_v.out bb B_v.out.lt); replace V_xn := Lib.hid (Rd.below V_xn.out bb); replace V_xd := Lib.hid (Rd.below V_xd.out bb); replace V_yn := Lib.hid (Rd.below V_yn.out bb); replace V_yd := Lib.hid (Rd.below V_yd.out bb); replace V_zn := Lib.hid (Rd.below V_zn.out bb); replace V_zd := Lib.hid (Rd.below V_zd.out bb); replace V_u := Lib.hid (Gc.below V_u.out bb); replace V_v := Lib.hid (Gc.below V_v.out bb); replace HB := Lib.hid (nextw HB.out bb); clear bb; clear c0x c1x c2x c3x c0y c1y c2y c3y c0z c1z c2z c3z c0u c1u c2u c3u c0v c1v c2v c3v; have c0x := B_x.out.c0; have c1x := B_x.out.c1; have c2x := B_x.out.c2; have c3x := B_x.out.c3; have c0y := B_y.out.c0; have c1y := B_y.out.c1; have c2y := B_y.out.c2; have c3y := B_y.out.c3; have c0z := B_z.out.c0; have c1z := B_z.out.c1; have c2z := B_z.out.c2; have c3z := B_z.out.c3; have c0u := B_u.out.c0; have c1u := B_u.out.c1; have c2u := B_u.out.c2; have c3u := B_u.out.c3; have c0v := B_v.out.c0; have c1v := B_v.out.c1; have c2v := B_v.out.c2; have c3v := B_v.out.c3; have tk1x11 : True := trivial)
      | (clear tk1x11; go_at_call 16; refine (Inverse_r (Fd.mk (Rd.below V_yn.out (by exact ⟨rfl, rfl, rfl, Nat.le_refl _, fun _ _ => rfl⟩)) (Rd.below V_yd.out (by exact ⟨rfl, rfl, rfl, Nat.le_refl _, fun _ _ => rfl⟩))) (by omega)).mono ?_; rintro e w18 ⟨ve1, rfl, re1, bb⟩; replace bb := nextw (w0 := w17) (by exact ⟨rfl, rfl, rfl, Nat.le_refl _, fun _ _ => rfl⟩) bb; replace B_x := Lib.hid (BoxR.below B_x.out bb B_x.out.lt); replace B_y := Lib.hid (BoxR.below B_y.out bb B_y.out.lt); replace B_z := Lib.hid (BoxR.below B_z.out bb B_z.out.lt); replace B_u := Lib.hid (BoxR.below B_u.out bb B_u.out.lt); replace B_v := Lib.hid (BoxR.below B_v.out bb B_v.out.lt); replace V_xn := Lib.hid (Rd.below V_xn.out bb); replace V_xd := Lib.hid (Rd.below V_xd.out bb); replace V_yn := Lib.hid (Rd.below V_yn.out bb); replace V_yd := Lib.hid (Rd.below V_yd.out bb); replace V_zn := Lib.hid (Rd.below V_zn.out bb); replace V_zd := Lib.hid (Rd.below V_zd.out bb); replace V_u := Lib.hid (Gc.below V_u.out bb); replace V_v := Lib.hid (Gc.below V_v.out bb); replace HB := Lib.hid (nextw HB.out bb); clear bb; replace re1 := Lib.hid re1; have V_e1 := re1; clear re1; clear c0x c1x c2x c3x c0y c1y c2y c3y c0z c1z c2z c3z c0u c1u c2u c3u c0v c1v c2v c3v; have c0x := B_x.out.c0; have c1x := B_x.out.c1; have c2x := B_x.out.c2; have c3x := B_x.out.c3; have c0y := B_y.out.c0; have c1y := B_y.out.c1; have c2y := B_y.out.c2; have c3y := B_y.out.c3; have c0z := B_z.out.c0; have c1z := B_z.out.c1; have c2z := B_z.out.c2; have c3z := B_z.out.c3; have c0u := B_u.out.c0; have c1u := B_u.out.c1; have c2u := B_u.out.c2; have c3u := B_u.out.c3; have c0v := B_v.out.c0; have c1v := B_v.out.c1; have c2v := B_v.out.c2; have c3v := B_v.out.c3; have tk1x12 : True := trivial)
      | (clear tk1x12; go_at_call 13; refine (Then_r (Gc.fd (Gc.below V_v.out (by exact ⟨rfl, rfl, rfl, Nat.le_refl _, fun _ _ => rfl⟩))) (Gc.fd (Gc.below V_e1.out (by exact ⟨rfl, rfl, rfl, Nat.le_refl _, fun _ _ => rfl⟩))) (by omega) (by omega)).mono ?_; rintro e w19 ⟨ve2, rfl, re2, bb⟩; replace bb := nextw (w0 := w18) (by exact ⟨rfl, rfl, rfl, Nat.le_refl _, fun _ _ => rfl⟩) bb; clear V_e1; replace B_x := Lib.hid (BoxR.below B_x.out bb B_x.out.lt); replace B_y := Lib.hid (BoxR.below B_y.out bb B_y.out.lt); replace B_z := Lib.hid (BoxR.below B_z.out bb B_z.out.lt); replace B_u := Lib.hid (BoxR.below B_u.out bb B_u.out.lt); replace B_v := Lib.hid (BoxR.below B_v.out bb B_v.out.lt); replace V_xn := Lib.hid (Rd.below V_xn.out bb); replace V_xd := Lib.hid (Rd.below V_xd.out bb); replace V_yn := Lib.hid (Rd.below V_yn.out bb); replace V_yd := Lib.hid (Rd.below V_yd.out bb); replace V_zn := Lib.hid (Rd.below V_zn.out bb); replace V_zd := Lib.hid (Rd.below V_zd.out bb); replace V_u := Lib.hid (Gc.below V_u.out bb); replace V_v := Lib.hid (Gc.below V_v.out bb); replace HB := Lib.hid (nextw HB.out bb); clear bb; replace re2 := Lib.hid re2; have V_e2 := re2; clear re2; clear c0x c1x c2x c3x c0y c1y c2y c3y c0z c1z c2z c3z c0u c1u c2u c3u c0v c1v c2v c3v; have c0x := B_x.out.c0; have c1x := B_x.out.c1; have c2x := B_x.out.c2; have c3x := B_x.out.c3; have c0y := B_y.out.c0; have c1y := B_y.out.c1; have c2y := B_y.out.c2; have c3y := B_y.out.c3; have c0z := B_z.out.c0; have c1z := B_z.out.c1; have c2z := B_z.out.c2; have c3z := B_z.out.c3; have c0u := B_u.out.c0; have c1u := B_u.out.c1; have c2u := B_u.out.c2; have c3u := B_u.out.c3; have c0v := B_v.out.c0; have c1v := B_v.out.c1; have c2v := B_v.out.c2; have c3v := B_v.out.c3; have tk1x13 : True := trivial)
      | (clear tk1x13; go_at_call 15; refine (Same_yes_r (Gc.fd (Gc.below V_e2.out (by exact ⟨rfl, rfl, rfl, Nat.le_refl _, fun _ _ => rfl⟩))) (Fd.mk (Rd.below V_xn.out (by exact ⟨rfl, rfl, rfl, Nat.le_refl _, fun _ _ => rfl⟩)) (Rd.below V_xd.out (by exact ⟨rfl, rfl, rfl, Nat.le_refl _, fun _ _ => rfl⟩))) (by omega) (by omega) (same_back _ _ _ _)).mono ?_; rintro e w20 ⟨rfl, bb⟩; replace bb := nextw (w0 := w19) (by exact ⟨rfl, rfl, rfl, Nat.le_refl _, fun _ _ => rfl⟩) bb; clear V_e2; replace B_x := Lib.hid (BoxR.below B_x.out bb B_x.out.lt); replace B_y := Lib.hid (BoxR.below B_y.out bb B_y.out.lt); replace B_z := Lib.hid (BoxR.below B_z.out bb B_z.out.lt); replace B_u := Lib.hid (BoxR.below B_u.out bb B_u.out.lt); replace B_v := Lib.hid (BoxR.below B_v.out bb B_v.out.lt); replace V_xn := Lib.hid (Rd.below V_xn.out bb); replace V_xd := Lib.hid (Rd.below V_xd.out bb); replace V_yn := Lib.hid (Rd.below V_yn.out bb); replace V_yd := Lib.hid (Rd.below V_yd.out bb); replace V_zn := Lib.hid (Rd.below V_zn.out bb); replace V_zd := Lib.hid (Rd.below V_zd.out bb); replace V_u := Lib.hid (Gc.below V_u.out bb); replace V_v := Lib.hid (Gc.below V_v.out bb); replace HB := Lib.hid (nextw HB.out bb); clear bb; clear c0x c1x c2x c3x c0y c1y c2y c3y c0z c1z c2z c3z c0u c1u c2u c3u c0v c1v c2v c3v; have c0x := B_x.out.c0; have c1x := B_x.out.c1; have c2x := B_x.out.c2; have c3x := B_x.out.c3; have c0y := B_y.out.c0; have c1y := B_y.out.c1; have c2y := B_y.out.c2; have c3y := B_y.out.c3; have c0z := B_z.out.c0; have c1z := B_z.out.c1; have c2z := B_z.out.c2; have c3z := B_z.out.c3; have c0u := B_u.out.c0; have c1u := B_u.out.c1; have c2u := B_u.out.c2; have c3u := B_u.out.c3; have c0v := B_v.out.c0; have c1v := B_v.out.c1; have c2v := B_v.out.c2; have c3v := B_v.out.c3; have tk1x14 : True := trivial))) | fail
  have HBo := HB.out
  go_wp2
  go_ret
  exact ⟨rfl, nextw HBo (by exact ⟨rfl, rfl, rfl, Nat.le_refl _, fun _ _ => rfl⟩)⟩

theorem Group_any {sx : Bool} {Ax : Option Addr} {kx cx : Nat} {tx : Bool} {Cx : Option Addr} {lx dx : Nat} {px qx : Int} {jx : Nat} {sy : Bool} {Ay : Option Addr} {ky cy : Nat} {ty : Bool} {Cy : Option Addr} {ly dy : Nat} {py qy : Int} {jy : Nat} {sz : Bool} {Az : Option Addr} {kz cz : Nat} {tz : Bool} {Cz : Option Addr} {lz dz : Nat} {pz qz : Int} {jz : Nat} {w : World} (hx : Fd w (.agg #[.bool sx, .slice Ax kx cx, .bool tx, .slice Cx lx dx]) px qx jx) (hy : Fd w (.agg #[.bool sy, .slice Ay ky cy, .bool ty, .slice Cy ly dy]) py qy jy) (hz : Fd w (.agg #[.bool sz, .slice Az kz cz, .bool tz, .slice Cz lz dz]) pz qz jz) (htab : Tab10 w) (hjx : jx = max kx lx) (hjy : jy = max ky ly) (hjz : jz = max kz lz) (mx : kx ≤ 9223372036854775807 ∧ lx ≤ 9223372036854775807) (my : ky ≤ 9223372036854775807 ∧ ly ≤ 9223372036854775807) (mz : kz ≤ 9223372036854775807 ∧ lz ≤ 9223372036854775807) :
    Calls Tryz.prog 3 #[.agg #[.bool sx, .slice Ax kx cx, .bool tx, .slice Cx lx dx], .agg #[.bool sy, .slice Ay ky cy, .bool ty, .slice Cy ly dy], .agg #[.bool sz, .slice Az kz cz, .bool tz, .slice Cz lz dz]] w fun e w' => e = .returned (.bool true) ∧ Below w.heap.size w w' := by
  by_cases ex : kx ≤ 12 ∧ lx ≤ 12
  case neg => exact Group_long0 hx hy hz htab  mx ex
  by_cases ey : ky ≤ 12 ∧ ly ≤ 12
  case neg => exact Group_long1 hx hy hz htab ex.1 ex.2 my ey
  by_cases ez : kz ≤ 12 ∧ lz ≤ 12
  case neg => exact Group_long2 hx hy hz htab ex.1 ex.2 ey.1 ey.2 mz ez
  exact Group_main hx hy hz htab ex.1 ex.2 (by omega) ey.1 ey.2 (by omega) ez.1 ez.2 (by omega)
end Go.Proofs.YtccndofafljaaaaGreatDoor
