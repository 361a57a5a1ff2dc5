/- The law RotationOrders: the walk. -/
import Derived.Test.YtccndofafljaaaaGreatDoorRAwake
import Derived.Test.YtccndofafljaaaaGreatDoorRPower
import Derived.Test.YtccndofafljaaaaGreatDoorRDir
import Derived.Test.YtccndofafljaaaaGreatDoorROrder

set_option linter.unusedVariables false
set_option linter.unusedSimpArgs false

namespace Go.Proofs.YtccndofafljaaaaGreatDoor
open Go Go.RowKit Num

theorem int_bounds'' {n : Int} (h : (Lit.int .i64 n).wf = true) : -9223372036854775808 ≤ n ∧ n ≤ 9223372036854775807 := by
  have h1 : IntKind.i64.min ≤ n ∧ n ≤ 9223372036854775807 := by simpa [Lit.wf] using h
  have h2 : IntKind.i64.min = -9223372036854775808 := by decide
  omega
theorem BInt_no {v1 v2 : Value} {z1 z2 : Int} {n1 n2 : Nat} {w : World} (h1 : Rc w v1 z1 n1) (h2 : Rc w v2 z2 n2) (f1 : n1 ≤ 50000) (f2 : n2 ≤ 50000) (h : z1 ≠ z2) :
    Calls Tryz.prog 43 #[v1, v2] w fun e w' => e = .returned (.bool false) ∧ Below w.heap.size w w' := by
  have c := BInt_can v1 v2 z1 z2 w h1.1 h2.1 (by have := digs_length_le h1.2; omega) (by have := digs_length_le h2.2; omega)
  rwa [decide_eq_false h] at c
theorem Order_as {v : Value} {p q m : Int} {k : Nat} {w : World} (e : ordR p q = m) (h : Fd w v p q k) (f : k ≤ 40000) : Calls Tryz.prog 36 #[v] w fun e w' => e = .returned (.int .i64 m) ∧ Below w.heap.size w w' := by subst e; exact Order_r h f
theorem pw_zero (p q : Int) : pwP p q 0 = 0 ∧ pwQ p q 0 = 1 := by
  unfold pwP pwQ
  rw [if_neg (by omega), if_neg (by omega)]
  exact ⟨by simp only [Int.toNat_zero, cpw]; decide +kernel, by simp only [Int.toNat_zero, cpw]; decide +kernel⟩
theorem pw_ord (p q : Int) : pwP p q (ordR p q) = 0 ∧ pwQ p q (ordR p q) = 1 := by
  by_cases h : ordR p q = 0
  · rw [h]; exact pw_zero p q
  · have h4 : 1 ≤ ordR p q ∧ ordR p q ≤ 32 := by
      unfold ordR at h ⊢
      repeat' split
      all_goals omega
    exact (ord_all p q (ordR p q) h4.1 h4.2).2 ⟨h, Int.emod_self⟩

set_option maxRecDepth 100000 in
set_option maxHeartbeats 4000000 in
theorem BRot_no1 {v1 v2 : Value} {p1 q1 p2 q2 : Int} {k1 k2 : Nat} {w : World} (h1 : Gc w v1 p1 q1 k1) (h2 : Gc w v2 p2 q2 k2) (f1 : k1 ≤ 50000) (f2 : k2 ≤ 50000) (hp : p1 ≠ p2) :
    Calls Tryz.prog 14 #[v1, v2] w fun e w' => e = .returned (.bool false) ∧ Below w.heap.size w w' := by
  have HP := Lib.hid hp
  clear hp
  obtain ⟨sx, Ax, kx, cx, tx, Cx, lx, dx, rfl, hnx, hdx⟩ := h1.parts
  obtain ⟨sy, Ay, ky, cy, ty, Cy, ly, dy, rfl, hny, hdy⟩ := h2.parts
  have V_xn := Lib.hid hnx
  have V_xd := Lib.hid hdx
  have V_yn := Lib.hid hny
  have V_yd := Lib.hid hdy
  clear h1 h2 hnx hdx hny hdy
  have hb0 : Below w.heap.size w ((w.alloc (.cells #[.bool sx, (.slice Ax kx cx), .bool tx, (.slice Cx lx dx)] 26)).alloc (.cells #[.bool sy, (.slice Ay ky cy), .bool ty, (.slice Cy ly dy)] 26)) := (Below.alloc (Below.alloc (Below.refl w.heap.size w) (by simp <;> omega) _) (by simp <;> omega) _)
  have B_x : BoxR ((w.alloc (.cells #[.bool sx, (.slice Ax kx cx), .bool tx, (.slice Cx lx dx)] 26)).alloc (.cells #[.bool sy, (.slice Ay ky cy), .bool ty, (.slice Cy ly dy)] 26)) (w.heap.size) sx (.slice Ax kx cx) tx (.slice Cx lx dx) := by have h := BoxR.alloc (BoxR.new w sx (.slice Ax kx cx) tx (.slice Cx lx dx)) (.cells #[.bool sy, (.slice Ay ky cy), .bool ty, (.slice Cy ly dy)] 26); simpa using h
  replace B_x := Lib.hid B_x
  have B_y : BoxR ((w.alloc (.cells #[.bool sx, (.slice Ax kx cx), .bool tx, (.slice Cx lx dx)] 26)).alloc (.cells #[.bool sy, (.slice Ay ky cy), .bool ty, (.slice Cy ly dy)] 26)) (w.heap.size + 1) sy (.slice Ay ky cy) ty (.slice Cy ly dy) := by have h := BoxR.new (w.alloc (.cells #[.bool sx, (.slice Ax kx cx), .bool tx, (.slice Cx lx dx)] 26)) sy (.slice Ay ky cy) ty (.slice Cy ly dy); simpa using h
  replace B_y := Lib.hid B_y
  replace V_xn := Lib.hid (Rc.below V_xn.out hb0)
  replace V_xd := Lib.hid (Rc.below V_xd.out hb0)
  replace V_yn := Lib.hid (Rc.below V_yn.out hb0)
  replace V_yd := Lib.hid (Rc.below V_yd.out hb0)
  have HB := Lib.hid hb0
  clear hb0
  have c0x := B_x.out.c0
  have c1x := B_x.out.c1
  have c2x := B_x.out.c2
  have c3x := B_x.out.c3
  have c0y := B_y.out.c0
  have c1y := B_y.out.c1
  have c2y := B_y.out.c2
  have c3y := B_y.out.c3
  go_enter Tryz.func14, Tryz.ntmps14
  go_wp2_with fail
  clear c0x c1x c2x c3x c0y c1y c2y c3y
  generalize (w.alloc (.cells #[.bool sx, (.slice Ax kx cx), .bool tx, (.slice Cx lx dx)] 26)).alloc (.cells #[.bool sy, (.slice Ay ky cy), .bool ty, (.slice Cy ly dy)] 26) = W0 at *
  refine (BInt_no (Rc.below V_xn.out (by exact ⟨rfl, rfl, rfl, Nat.le_refl _, fun _ _ => rfl⟩)) (Rc.below V_yn.out (by exact ⟨rfl, rfl, rfl, Nat.le_refl _, fun _ _ => rfl⟩)) (by omega) (by omega) HP.out).mono ?_
  rintro e w1 ⟨rfl, bb⟩
  replace bb := nextw (w0 := W0) (by exact ⟨rfl, rfl, rfl, Nat.le_refl _, fun _ _ => rfl⟩) bb
  replace B_x := Lib.hid (BoxR.below B_x.out bb B_x.out.lt)
  replace B_y := Lib.hid (BoxR.below B_y.out bb B_y.out.lt)
  replace V_xn := Lib.hid (Rc.below V_xn.out bb)
  replace V_xd := Lib.hid (Rc.below V_xd.out bb)
  replace V_yn := Lib.hid (Rc.below V_yn.out bb)
  replace V_yd := Lib.hid (Rc.below V_yd.out bb)
  replace HB := Lib.hid (nextw HB.out bb)
  clear bb
  have c0x := B_x.out.c0
  have c1x := B_x.out.c1
  have c2x := B_x.out.c2
  have c3x := B_x.out.c3
  have c0y := B_y.out.c0
  have c1y := B_y.out.c1
  have c2y := B_y.out.c2
  have c3y := B_y.out.c3
  have HBo := HB.out
  go_wp2
  go_ret
  exact ⟨rfl, nextw HBo (by exact ⟨rfl, rfl, rfl, Nat.le_refl _, fun _ _ => rfl⟩)⟩

set_option maxRecDepth 100000 in
set_option maxHeartbeats 4000000 in
theorem BRot_no2 {v1 v2 : Value} {p1 q1 p2 q2 : Int} {k1 k2 : Nat} {w : World} (h1 : Gc w v1 p1 q1 k1) (h2 : Gc w v2 p2 q2 k2) (f1 : k1 ≤ 50000) (f2 : k2 ≤ 50000) (hp : p1 = p2) (hq : q1 ≠ q2) :
    Calls Tryz.prog 14 #[v1, v2] w fun e w' => e = .returned (.bool false) ∧ Below w.heap.size w w' := by
  have HP := Lib.hid hp
  have HQ := Lib.hid hq
  clear hp hq
  obtain ⟨sx, Ax, kx, cx, tx, Cx, lx, dx, rfl, hnx, hdx⟩ := h1.parts
  obtain ⟨sy, Ay, ky, cy, ty, Cy, ly, dy, rfl, hny, hdy⟩ := h2.parts
  have V_xn := Lib.hid hnx
  have V_xd := Lib.hid hdx
  have V_yn := Lib.hid hny
  have V_yd := Lib.hid hdy
  clear h1 h2 hnx hdx hny hdy
  have hb0 : Below w.heap.size w ((w.alloc (.cells #[.bool sx, (.slice Ax kx cx), .bool tx, (.slice Cx lx dx)] 26)).alloc (.cells #[.bool sy, (.slice Ay ky cy), .bool ty, (.slice Cy ly dy)] 26)) := (Below.alloc (Below.alloc (Below.refl w.heap.size w) (by simp <;> omega) _) (by simp <;> omega) _)
  have B_x : BoxR ((w.alloc (.cells #[.bool sx, (.slice Ax kx cx), .bool tx, (.slice Cx lx dx)] 26)).alloc (.cells #[.bool sy, (.slice Ay ky cy), .bool ty, (.slice Cy ly dy)] 26)) (w.heap.size) sx (.slice Ax kx cx) tx (.slice Cx lx dx) := by have h := BoxR.alloc (BoxR.new w sx (.slice Ax kx cx) tx (.slice Cx lx dx)) (.cells #[.bool sy, (.slice Ay ky cy), .bool ty, (.slice Cy ly dy)] 26); simpa using h
  replace B_x := Lib.hid B_x
  have B_y : BoxR ((w.alloc (.cells #[.bool sx, (.slice Ax kx cx), .bool tx, (.slice Cx lx dx)] 26)).alloc (.cells #[.bool sy, (.slice Ay ky cy), .bool ty, (.slice Cy ly dy)] 26)) (w.heap.size + 1) sy (.slice Ay ky cy) ty (.slice Cy ly dy) := by have h := BoxR.new (w.alloc (.cells #[.bool sx, (.slice Ax kx cx), .bool tx, (.slice Cx lx dx)] 26)) sy (.slice Ay ky cy) ty (.slice Cy ly dy); simpa using h
  replace B_y := Lib.hid B_y
  replace V_xn := Lib.hid (Rc.below V_xn.out hb0)
  replace V_xd := Lib.hid (Rc.below V_xd.out hb0)
  replace V_yn := Lib.hid (Rc.below V_yn.out hb0)
  replace V_yd := Lib.hid (Rc.below V_yd.out hb0)
  have HB := Lib.hid hb0
  clear hb0
  have c0x := B_x.out.c0
  have c1x := B_x.out.c1
  have c2x := B_x.out.c2
  have c3x := B_x.out.c3
  have c0y := B_y.out.c0
  have c1y := B_y.out.c1
  have c2y := B_y.out.c2
  have c3y := B_y.out.c3
  go_enter Tryz.func14, Tryz.ntmps14
  go_wp2_with fail
  clear c0x c1x c2x c3x c0y c1y c2y c3y
  generalize (w.alloc (.cells #[.bool sx, (.slice Ax kx cx), .bool tx, (.slice Cx lx dx)] 26)).alloc (.cells #[.bool sy, (.slice Ay ky cy), .bool ty, (.slice Cy ly dy)] 26) = W0 at *
  refine (BInt_rc (Rc.below V_xn.out (by exact ⟨rfl, rfl, rfl, Nat.le_refl _, fun _ _ => rfl⟩)) (Rc.below V_yn.out (by exact ⟨rfl, rfl, rfl, Nat.le_refl _, fun _ _ => rfl⟩)) (by omega) (by omega) HP.out).mono ?_
  rintro e w1 ⟨rfl, bb⟩
  replace bb := nextw (w0 := W0) (by exact ⟨rfl, rfl, rfl, Nat.le_refl _, fun _ _ => rfl⟩) bb
  replace B_x := Lib.hid (BoxR.below B_x.out bb B_x.out.lt)
  replace B_y := Lib.hid (BoxR.below B_y.out bb B_y.out.lt)
  replace V_xn := Lib.hid (Rc.below V_xn.out bb)
  replace V_xd := Lib.hid (Rc.below V_xd.out bb)
  replace V_yn := Lib.hid (Rc.below V_yn.out bb)
  replace V_yd := Lib.hid (Rc.below V_yd.out bb)
  replace HB := Lib.hid (nextw HB.out bb)
  clear bb
  have c0x := B_x.out.c0
  have c1x := B_x.out.c1
  have c2x := B_x.out.c2
  have c3x := B_x.out.c3
  have c0y := B_y.out.c0
  have c1y := B_y.out.c1
  have c2y := B_y.out.c2
  have c3y := B_y.out.c3
  go_wp2_with fail
  refine (BInt_no (Rc.below V_xd.out (by exact ⟨rfl, rfl, rfl, Nat.le_refl _, fun _ _ => rfl⟩)) (Rc.below V_yd.out (by exact ⟨rfl, rfl, rfl, Nat.le_refl _, fun _ _ => rfl⟩)) (by omega) (by omega) HQ.out).mono ?_
  rintro e w2 ⟨rfl, bb⟩
  replace bb := nextw (w0 := w1) (by exact ⟨rfl, rfl, rfl, Nat.le_refl _, fun _ _ => rfl⟩) bb
  clear c0x c1x c2x c3x c0y c1y c2y c3y
  replace B_x := Lib.hid (BoxR.below B_x.out bb B_x.out.lt)
  replace B_y := Lib.hid (BoxR.below B_y.out bb B_y.out.lt)
  replace V_xn := Lib.hid (Rc.below V_xn.out bb)
  replace V_xd := Lib.hid (Rc.below V_xd.out bb)
  replace V_yn := Lib.hid (Rc.below V_yn.out bb)
  replace V_yd := Lib.hid (Rc.below V_yd.out bb)
  replace HB := Lib.hid (nextw HB.out bb)
  clear bb
  have c0x := B_x.out.c0
  have c1x := B_x.out.c1
  have c2x := B_x.out.c2
  have c3x := B_x.out.c3
  have c0y := B_y.out.c0
  have c1y := B_y.out.c1
  have c2y := B_y.out.c2
  have c3y := B_y.out.c3
  have HBo := HB.out
  go_wp2
  go_ret
  exact ⟨rfl, nextw HBo (by exact ⟨rfl, rfl, rfl, Nat.le_refl _, fun _ _ => rfl⟩)⟩

theorem BRot_no {v1 v2 : Value} {p1 q1 p2 q2 : Int} {k1 k2 : Nat} {w : World} (h1 : Gc w v1 p1 q1 k1) (h2 : Gc w v2 p2 q2 k2) (f1 : k1 ≤ 50000) (f2 : k2 ≤ 50000) (h : ¬ (p1 = p2 ∧ q1 = q2)) :
    Calls Tryz.prog 14 #[v1, v2] w fun e w' => e = .returned (.bool false) ∧ Below w.heap.size w w' := by
  by_cases hp : p1 = p2
  · exact BRot_no2 h1 h2 f1 f2 hp (fun hq => h ⟨hp, hq⟩)
  · exact BRot_no1 h1 h2 f1 f2 hp

set_option maxRecDepth 100000 in
set_option maxHeartbeats 8000000 in
theorem Orders_long0 {sx : Bool} {Ax : Option Addr} {kx cx : Nat} {tx : Bool} {Cx : Option Addr} {lx dx : Nat} {px qx : Int} {jx : Nat} (n : Int) {w : World} (hx : Fd w (.agg #[.bool sx, .slice Ax kx cx, .bool tx, .slice Cx lx dx]) px qx jx) (htab : Tab10 w) (g1 : kx ≤ 9223372036854775807) (g2 : 1 < kx) :
    Calls Tryz.prog 8 #[.agg #[.bool sx, .slice Ax kx cx, .bool tx, .slice Cx lx dx], .int .i64 n] w fun e w' => e = .returned (.bool true) ∧ Below w.heap.size w w' := by
  have V_xn := Lib.hid hx.num
  have V_xd := Lib.hid hx.den
  have V_tab := Lib.hid htab
  clear hx htab
  have hb0 : Below w.heap.size w (w.alloc (.cells #[.bool sx, (.slice Ax kx cx), .bool tx, (.slice Cx lx dx)] 26)) := (Below.alloc (Below.refl w.heap.size w) (by simp <;> omega) _)
  have B_x : BoxR (w.alloc (.cells #[.bool sx, (.slice Ax kx cx), .bool tx, (.slice Cx lx dx)] 26)) (w.heap.size) sx (.slice Ax kx cx) tx (.slice Cx lx dx) := by have h := BoxR.new w sx (.slice Ax kx cx) tx (.slice Cx lx dx); simpa using h
  replace B_x := Lib.hid B_x
  replace V_xn := Lib.hid (Rd.below V_xn.out hb0)
  replace V_xd := Lib.hid (Rd.below V_xd.out hb0)
  replace V_tab := Lib.hid (tab_below V_tab.out hb0)
  have HB := Lib.hid hb0
  clear hb0
  have c0x := B_x.out.c0
  have c1x := B_x.out.c1
  have c2x := B_x.out.c2
  have c3x := B_x.out.c3
  go_enter Tryz.func8, Tryz.ntmps8
  go_wp2_with fail
  clear c0x c1x c2x c3x
  generalize w.alloc (.cells #[.bool sx, (.slice Ax kx cx), .bool tx, (.slice Cx lx dx)] 26) = W0 at *
  refine (awakeR _ (tab_below V_tab.out (by exact ⟨rfl, rfl, rfl, Nat.le_refl _, fun _ _ => rfl⟩))).mono ?_
  rintro e w1 ⟨rfl, bb⟩
  replace bb := nextw (w0 := W0) (by exact ⟨rfl, rfl, rfl, Nat.le_refl _, fun _ _ => rfl⟩) bb
  replace B_x := Lib.hid (BoxR.below B_x.out bb B_x.out.lt)
  replace V_xn := Lib.hid (Rd.below V_xn.out bb)
  replace V_xd := Lib.hid (Rd.below V_xd.out bb)
  replace V_tab := Lib.hid (tab_below V_tab.out bb)
  replace HB := Lib.hid (nextw HB.out bb)
  clear bb
  have c0x := B_x.out.c0
  have c1x := B_x.out.c1
  have c2x := B_x.out.c2
  have c3x := B_x.out.c3
  go_wp2_with fail
  refine (awakeR _ (tab_below V_tab.out (by exact ⟨rfl, rfl, rfl, Nat.le_refl _, fun _ _ => rfl⟩))).mono ?_
  rintro e w2 ⟨rfl, bb⟩
  replace bb := nextw (w0 := w1) (by exact ⟨rfl, rfl, rfl, Nat.le_refl _, fun _ _ => rfl⟩) bb
  clear c0x c1x c2x c3x
  replace B_x := Lib.hid (BoxR.below B_x.out bb B_x.out.lt)
  replace V_xn := Lib.hid (Rd.below V_xn.out bb)
  replace V_xd := Lib.hid (Rd.below V_xd.out bb)
  replace V_tab := Lib.hid (tab_below V_tab.out bb)
  replace HB := Lib.hid (nextw HB.out bb)
  clear bb
  have HBo := HB.out
  go_wp2
  go_ret
  exact ⟨rfl, nextw HBo (by exact ⟨rfl, rfl, rfl, Nat.le_refl _, fun _ _ => rfl⟩)⟩

set_option maxRecDepth 100000 in
set_option maxHeartbeats 8000000 in
theorem Orders_long1 {sx : Bool} {Ax : Option Addr} {kx cx : Nat} {tx : Bool} {Cx : Option Addr} {lx dx : Nat} {px qx : Int} {jx : Nat} (n : Int) {w : World} (hx : Fd w (.agg #[.bool sx, .slice Ax kx cx, .bool tx, .slice Cx lx dx]) px qx jx) (htab : Tab10 w) (g0 : kx ≤ 1) (g1 : lx ≤ 9223372036854775807) (g2 : 1 < lx) :
    Calls Tryz.prog 8 #[.agg #[.bool sx, .slice Ax kx cx, .bool tx, .slice Cx lx dx], .int .i64 n] w fun e w' => e = .returned (.bool true) ∧ Below w.heap.size w w' := by
  have V_xn := Lib.hid hx.num
  have V_xd := Lib.hid hx.den
  have V_tab := Lib.hid htab
  clear hx htab
  have hb0 : Below w.heap.size w (w.alloc (.cells #[.bool sx, (.slice Ax kx cx), .bool tx, (.slice Cx lx dx)] 26)) := (Below.alloc (Below.refl w.heap.size w) (by simp <;> omega) _)
  have B_x : BoxR (w.alloc (.cells #[.bool sx, (.slice Ax kx cx), .bool tx, (.slice Cx lx dx)] 26)) (w.heap.size) sx (.slice Ax kx cx) tx (.slice Cx lx dx) := by have h := BoxR.new w sx (.slice Ax kx cx) tx (.slice Cx lx dx); simpa using h
  replace B_x := Lib.hid B_x
  replace V_xn := Lib.hid (Rd.below V_xn.out hb0)
  replace V_xd := Lib.hid (Rd.below V_xd.out hb0)
  replace V_tab := Lib.hid (tab_below V_tab.out hb0)
  have HB := Lib.hid hb0
  clear hb0
  have c0x := B_x.out.c0
  have c1x := B_x.out.c1
  have c2x := B_x.out.c2
  have c3x := B_x.out.c3
  go_enter Tryz.func8, Tryz.ntmps8
  go_wp2_with fail
  clear c0x c1x c2x c3x
  generalize w.alloc (.cells #[.bool sx, (.slice Ax kx cx), .bool tx, (.slice Cx lx dx)] 26) = W0 at *
  refine (awakeR _ (tab_below V_tab.out (by exact ⟨rfl, rfl, rfl, Nat.le_refl _, fun _ _ => rfl⟩))).mono ?_
  rintro e w1 ⟨rfl, bb⟩
  replace bb := nextw (w0 := W0) (by exact ⟨rfl, rfl, rfl, Nat.le_refl _, fun _ _ => rfl⟩) bb
  replace B_x := Lib.hid (BoxR.below B_x.out bb B_x.out.lt)
  replace V_xn := Lib.hid (Rd.below V_xn.out bb)
  replace V_xd := Lib.hid (Rd.below V_xd.out bb)
  replace V_tab := Lib.hid (tab_below V_tab.out bb)
  replace HB := Lib.hid (nextw HB.out bb)
  clear bb
  have c0x := B_x.out.c0
  have c1x := B_x.out.c1
  have c2x := B_x.out.c2
  have c3x := B_x.out.c3
  go_wp2_with fail
  refine (awakeR _ (tab_below V_tab.out (by exact ⟨rfl, rfl, rfl, Nat.le_refl _, fun _ _ => rfl⟩))).mono ?_
  rintro e w2 ⟨rfl, bb⟩
  replace bb := nextw (w0 := w1) (by exact ⟨rfl, rfl, rfl, Nat.le_refl _, fun _ _ => rfl⟩) bb
  clear c0x c1x c2x c3x
  replace B_x := Lib.hid (BoxR.below B_x.out bb B_x.out.lt)
  replace V_xn := Lib.hid (Rd.below V_xn.out bb)
  replace V_xd := Lib.hid (Rd.below V_xd.out bb)
  replace V_tab := Lib.hid (tab_below V_tab.out bb)
  replace HB := Lib.hid (nextw HB.out bb)
  clear bb
  have HBo := HB.out
  go_wp2
  go_ret
  exact ⟨rfl, nextw HBo (by exact ⟨rfl, rfl, rfl, Nat.le_refl _, fun _ _ => rfl⟩)⟩

set_option maxRecDepth 100000 in
set_option maxHeartbeats 16000000 in
theorem Orders_0n {sx : Bool} {Ax : Option Addr} {kx cx : Nat} {tx : Bool} {Cx : Option Addr} {lx dx : Nat} {px qx : Int} {jx : Nat} (n : Int) {w : World} (hx : Fd w (.agg #[.bool sx, .slice Ax kx cx, .bool tx, .slice Cx lx dx]) px qx jx) (htab : Tab10 w) (g0 : kx ≤ 1) (g1 : lx ≤ 1) (g2 : jx ≤ 1) (n1 : -9223372036854775808 ≤ n) (n2 : n ≤ 9223372036854775807) (ho : ordR px qx = 0) :
    Calls Tryz.prog 8 #[.agg #[.bool sx, .slice Ax kx cx, .bool tx, .slice Cx lx dx], .int .i64 n] w fun e w' => e = .returned (.bool true) ∧ Below w.heap.size w w' := by
  have V_xn := Lib.hid hx.num
  have V_xd := Lib.hid hx.den
  have V_tab := Lib.hid htab
  clear hx htab
  have hb0 : Below w.heap.size w (w.alloc (.cells #[.bool sx, (.slice Ax kx cx), .bool tx, (.slice Cx lx dx)] 26)) := (Below.alloc (Below.refl w.heap.size w) (by simp <;> omega) _)
  have B_x : BoxR (w.alloc (.cells #[.bool sx, (.slice Ax kx cx), .bool tx, (.slice Cx lx dx)] 26)) (w.heap.size) sx (.slice Ax kx cx) tx (.slice Cx lx dx) := by have h := BoxR.new w sx (.slice Ax kx cx) tx (.slice Cx lx dx); simpa using h
  replace B_x := Lib.hid B_x
  replace V_xn := Lib.hid (Rd.below V_xn.out hb0)
  replace V_xd := Lib.hid (Rd.below V_xd.out hb0)
  replace V_tab := Lib.hid (tab_below V_tab.out hb0)
  have HB := Lib.hid hb0
  clear hb0
  have c0x := B_x.out.c0
  have c1x := B_x.out.c1
  have c2x := B_x.out.c2
  have c3x := B_x.out.c3
  go_enter Tryz.func8, Tryz.ntmps8
  go_wp2_with fail
  clear c0x c1x c2x c3x
  generalize w.alloc (.cells #[.bool sx, (.slice Ax kx cx), .bool tx, (.slice Cx lx dx)] 26) = W0 at *
  refine (awakeR _ (tab_below V_tab.out (by exact ⟨rfl, rfl, rfl, Nat.le_refl _, fun _ _ => rfl⟩))).mono ?_
  rintro e w1 ⟨rfl, bb⟩
  replace bb := nextw (w0 := W0) (by exact ⟨rfl, rfl, rfl, Nat.le_refl _, fun _ _ => rfl⟩) bb
  replace B_x := Lib.hid (BoxR.below B_x.out bb B_x.out.lt)
  replace V_xn := Lib.hid (Rd.below V_xn.out bb)
  replace V_xd := Lib.hid (Rd.below V_xd.out bb)
  replace V_tab := Lib.hid (tab_below V_tab.out bb)
  replace HB := Lib.hid (nextw HB.out bb)
  clear bb
  have c0x := B_x.out.c0
  have c1x := B_x.out.c1
  have c2x := B_x.out.c2
  have c3x := B_x.out.c3
  clear V_tab
  have HS := Lib.hid (ho ▸ pw_ord px qx)
  have HO := Lib.hid ho
  obtain ⟨u, hu⟩ : ∃ u, n % 32 = u := ⟨_, rfl⟩
  have u1 : 0 ≤ u := by omega
  have u2 : u < 32 := by omega
  have HU := Lib.hid (fun w => Mod_as hu w n1 n2 (by omega) (by omega))
  have HE : Hid (¬ (pwP px qx (1 + u) = 0 ∧ pwQ px qx (1 + u) = 1)) := by unfold Hid; rw [ord_all px qx (1 + u) (by omega) (by omega), ho]; omega
  clear hu n1 n2 ho
  go_wp2_with fail
  refine (HU.out _).mono ?_
  rintro e w2 ⟨rfl, bb⟩
  replace bb := nextw (w0 := w1) (by exact ⟨rfl, rfl, rfl, Nat.le_refl _, fun _ _ => rfl⟩) bb
  clear c0x c1x c2x c3x
  replace B_x := Lib.hid (BoxR.below B_x.out bb B_x.out.lt)
  replace V_xn := Lib.hid (Rd.below V_xn.out bb)
  replace V_xd := Lib.hid (Rd.below V_xd.out bb)
  replace HB := Lib.hid (nextw HB.out bb)
  clear bb
  go_wp2_with fail
  refine (Of_r 0 1 (by omega) (by omega) (by omega) (by omega)).mono ?_
  rintro e w3 ⟨vi, rfl, ri, bb⟩
  replace bb := nextw (w0 := w2) (by exact ⟨rfl, rfl, rfl, Nat.le_refl _, fun _ _ => rfl⟩) bb
  replace B_x := Lib.hid (BoxR.below B_x.out bb B_x.out.lt)
  replace V_xn := Lib.hid (Rd.below V_xn.out bb)
  replace V_xd := Lib.hid (Rd.below V_xd.out bb)
  replace HB := Lib.hid (nextw HB.out bb)
  clear bb
  replace ri := ri.of_eq (show cnP 0 1 = 0 by decide +kernel) (show cnQ 0 1 = 1 by decide +kernel)
  obtain ⟨si, Ai, ki, ci, ti, Ci, li, di, rfl⟩ := ri.shape
  have V_i := Lib.hid ri
  clear ri
  have hb0 : Below w3.heap.size w3 (w3.alloc (.cells #[.bool si, (.slice Ai ki ci), .bool ti, (.slice Ci li di)] 26)) := (Below.alloc (Below.refl w3.heap.size w3) (by simp <;> omega) _)
  have B_i : BoxR (w3.alloc (.cells #[.bool si, (.slice Ai ki ci), .bool ti, (.slice Ci li di)] 26)) (w3.heap.size) si (.slice Ai ki ci) ti (.slice Ci li di) := by have h := BoxR.new w3 si (.slice Ai ki ci) ti (.slice Ci li di); simpa using h
  replace B_i := Lib.hid B_i
  replace B_x := Lib.hid (BoxR.below B_x.out hb0 B_x.out.lt)
  replace V_xn := Lib.hid (Rd.below V_xn.out hb0)
  replace V_xd := Lib.hid (Rd.below V_xd.out hb0)
  replace V_i := Lib.hid (Gc.below V_i.out hb0)
  replace HB := Lib.hid (nextw HB.out hb0)
  clear hb0
  have c0x := B_x.out.c0
  have c1x := B_x.out.c1
  have c2x := B_x.out.c2
  have c3x := B_x.out.c3
  go_wp2_with fail
  clear c0x c1x c2x c3x
  generalize w3.alloc (.cells #[.bool si, (.slice Ai ki ci), .bool ti, (.slice Ci li di)] 26) = W1 at *
  refine (Order_as HO.out (Fd.mk (Rd.below V_xn.out (by exact ⟨rfl, rfl, rfl, Nat.le_refl _, fun _ _ => rfl⟩)) (Rd.below V_xd.out (by exact ⟨rfl, rfl, rfl, Nat.le_refl _, fun _ _ => rfl⟩))) (by omega)).mono ?_
  rintro e w4 ⟨rfl, bb⟩
  replace bb := nextw (w0 := W1) (by exact ⟨rfl, rfl, rfl, Nat.le_refl _, fun _ _ => rfl⟩) bb
  replace B_x := Lib.hid (BoxR.below B_x.out bb B_x.out.lt)
  replace B_i := Lib.hid (BoxR.below B_i.out bb B_i.out.lt)
  replace V_xn := Lib.hid (Rd.below V_xn.out bb)
  replace V_xd := Lib.hid (Rd.below V_xd.out bb)
  replace V_i := Lib.hid (Gc.below V_i.out bb)
  replace HB := Lib.hid (nextw HB.out bb)
  clear bb
  have c0x := B_x.out.c0
  have c1x := B_x.out.c1
  have c2x := B_x.out.c2
  have c3x := B_x.out.c3
  go_wp2_with fail
  refine (Power_r (1 + u) (Fd.mk (Rd.below V_xn.out (by exact ⟨rfl, rfl, rfl, Nat.le_refl _, fun _ _ => rfl⟩)) (Rd.below V_xd.out (by exact ⟨rfl, rfl, rfl, Nat.le_refl _, fun _ _ => rfl⟩))) (by omega) (by omega) (by omega)).mono ?_
  rintro e w5 ⟨va, rfl, ra, bb⟩
  replace bb := nextw (w0 := w4) (by exact ⟨rfl, rfl, rfl, Nat.le_refl _, fun _ _ => rfl⟩) bb
  clear c0x c1x c2x c3x
  replace B_x := Lib.hid (BoxR.below B_x.out bb B_x.out.lt)
  replace B_i := Lib.hid (BoxR.below B_i.out bb B_i.out.lt)
  replace V_xn := Lib.hid (Rd.below V_xn.out bb)
  replace V_xd := Lib.hid (Rd.below V_xd.out bb)
  replace V_i := Lib.hid (Gc.below V_i.out bb)
  replace HB := Lib.hid (nextw HB.out bb)
  clear bb
  obtain ⟨sa, Aa, ka, ca, ta, Ca, la, da, rfl⟩ := ra.shape
  have V_a := Lib.hid ra
  clear ra
  have hb0 : Below w5.heap.size w5 (w5.alloc (.cells #[.bool sa, (.slice Aa ka ca), .bool ta, (.slice Ca la da)] 26)) := (Below.alloc (Below.refl w5.heap.size w5) (by simp <;> omega) _)
  have B_a : BoxR (w5.alloc (.cells #[.bool sa, (.slice Aa ka ca), .bool ta, (.slice Ca la da)] 26)) (w5.heap.size) sa (.slice Aa ka ca) ta (.slice Ca la da) := by have h := BoxR.new w5 sa (.slice Aa ka ca) ta (.slice Ca la da); simpa using h
  replace B_a := Lib.hid B_a
  replace B_x := Lib.hid (BoxR.below B_x.out hb0 B_x.out.lt)
  replace B_i := Lib.hid (BoxR.below B_i.out hb0 B_i.out.lt)
  replace V_xn := Lib.hid (Rd.below V_xn.out hb0)
  replace V_xd := Lib.hid (Rd.below V_xd.out hb0)
  replace V_i := Lib.hid (Gc.below V_i.out hb0)
  replace V_a := Lib.hid (Gc.below V_a.out hb0)
  replace HB := Lib.hid (nextw HB.out hb0)
  clear hb0
  have c0x := B_x.out.c0
  have c1x := B_x.out.c1
  have c2x := B_x.out.c2
  have c3x := B_x.out.c3
  go_wp2_with fail
  clear c0x c1x c2x c3x
  generalize w5.alloc (.cells #[.bool sa, (.slice Aa ka ca), .bool ta, (.slice Ca la da)] 26) = W2 at *
  refine (Power_r 0 (Fd.mk (Rd.below V_xn.out (by exact ⟨rfl, rfl, rfl, Nat.le_refl _, fun _ _ => rfl⟩)) (Rd.below V_xd.out (by exact ⟨rfl, rfl, rfl, Nat.le_refl _, fun _ _ => rfl⟩))) (by omega) (by omega) (by omega)).mono ?_
  rintro e w6 ⟨vb, rfl, rb, bb⟩
  replace bb := nextw (w0 := W2) (by exact ⟨rfl, rfl, rfl, Nat.le_refl _, fun _ _ => rfl⟩) bb
  replace B_x := Lib.hid (BoxR.below B_x.out bb B_x.out.lt)
  replace B_i := Lib.hid (BoxR.below B_i.out bb B_i.out.lt)
  replace B_a := Lib.hid (BoxR.below B_a.out bb B_a.out.lt)
  replace V_xn := Lib.hid (Rd.below V_xn.out bb)
  replace V_xd := Lib.hid (Rd.below V_xd.out bb)
  replace V_i := Lib.hid (Gc.below V_i.out bb)
  replace V_a := Lib.hid (Gc.below V_a.out bb)
  replace HB := Lib.hid (nextw HB.out bb)
  clear bb
  obtain ⟨sb, Ab, kb, cb, tb, Cb, lb, db, rfl⟩ := rb.shape
  have V_b := Lib.hid rb
  clear rb
  have hb0 : Below w6.heap.size w6 (w6.alloc (.cells #[.bool sb, (.slice Ab kb cb), .bool tb, (.slice Cb lb db)] 26)) := (Below.alloc (Below.refl w6.heap.size w6) (by simp <;> omega) _)
  have B_b : BoxR (w6.alloc (.cells #[.bool sb, (.slice Ab kb cb), .bool tb, (.slice Cb lb db)] 26)) (w6.heap.size) sb (.slice Ab kb cb) tb (.slice Cb lb db) := by have h := BoxR.new w6 sb (.slice Ab kb cb) tb (.slice Cb lb db); simpa using h
  replace B_b := Lib.hid B_b
  replace B_x := Lib.hid (BoxR.below B_x.out hb0 B_x.out.lt)
  replace B_i := Lib.hid (BoxR.below B_i.out hb0 B_i.out.lt)
  replace B_a := Lib.hid (BoxR.below B_a.out hb0 B_a.out.lt)
  replace V_xn := Lib.hid (Rd.below V_xn.out hb0)
  replace V_xd := Lib.hid (Rd.below V_xd.out hb0)
  replace V_i := Lib.hid (Gc.below V_i.out hb0)
  replace V_a := Lib.hid (Gc.below V_a.out hb0)
  replace V_b := Lib.hid (Gc.below V_b.out hb0)
  replace HB := Lib.hid (nextw HB.out hb0)
  clear hb0
  have c0b := B_b.out.c0
  have c1b := B_b.out.c1
  have c2b := B_b.out.c2
  have c3b := B_b.out.c3
  have c0i := B_i.out.c0
  have c1i := B_i.out.c1
  have c2i := B_i.out.c2
  have c3i := B_i.out.c3
  go_wp2_with fail
  clear c0b c1b c2b c3b c0i c1i c2i c3i
  generalize w6.alloc (.cells #[.bool sb, (.slice Ab kb cb), .bool tb, (.slice Cb lb db)] 26) = W3 at *
  refine (BRot_g (Gc.below V_b.out (by exact ⟨rfl, rfl, rfl, Nat.le_refl _, fun _ _ => rfl⟩)) (Gc.below V_i.out (by exact ⟨rfl, rfl, rfl, Nat.le_refl _, fun _ _ => rfl⟩)) (by omega) (by omega) HS.out.1 HS.out.2).mono ?_
  rintro e w7 ⟨rfl, bb⟩
  replace bb := nextw (w0 := W3) (by exact ⟨rfl, rfl, rfl, Nat.le_refl _, fun _ _ => rfl⟩) bb
  replace B_x := Lib.hid (BoxR.below B_x.out bb B_x.out.lt)
  replace B_i := Lib.hid (BoxR.below B_i.out bb B_i.out.lt)
  replace B_a := Lib.hid (BoxR.below B_a.out bb B_a.out.lt)
  replace B_b := Lib.hid (BoxR.below B_b.out bb B_b.out.lt)
  replace V_xn := Lib.hid (Rd.below V_xn.out bb)
  replace V_xd := Lib.hid (Rd.below V_xd.out bb)
  replace V_i := Lib.hid (Gc.below V_i.out bb)
  replace V_a := Lib.hid (Gc.below V_a.out bb)
  replace V_b := Lib.hid (Gc.below V_b.out bb)
  replace HB := Lib.hid (nextw HB.out bb)
  clear bb
  have c0a := B_a.out.c0
  have c1a := B_a.out.c1
  have c2a := B_a.out.c2
  have c3a := B_a.out.c3
  have c0i := B_i.out.c0
  have c1i := B_i.out.c1
  have c2i := B_i.out.c2
  have c3i := B_i.out.c3
  go_wp2_with fail
  refine (BRot_no (Gc.below V_a.out (by exact ⟨rfl, rfl, rfl, Nat.le_refl _, fun _ _ => rfl⟩)) (Gc.below V_i.out (by exact ⟨rfl, rfl, rfl, Nat.le_refl _, fun _ _ => rfl⟩)) (by omega) (by omega) HE.out).mono ?_
  rintro e w8 ⟨rfl, bb⟩
  replace bb := nextw (w0 := w7) (by exact ⟨rfl, rfl, rfl, Nat.le_refl _, fun _ _ => rfl⟩) bb
  clear c0a c1a c2a c3a c0i c1i c2i c3i
  replace B_x := Lib.hid (BoxR.below B_x.out bb B_x.out.lt)
  replace B_i := Lib.hid (BoxR.below B_i.out bb B_i.out.lt)
  replace B_a := Lib.hid (BoxR.below B_a.out bb B_a.out.lt)
  replace B_b := Lib.hid (BoxR.below B_b.out bb B_b.out.lt)
  replace V_xn := Lib.hid (Rd.below V_xn.out bb)
  replace V_xd := Lib.hid (Rd.below V_xd.out bb)
  replace V_i := Lib.hid (Gc.below V_i.out bb)
  replace V_a := Lib.hid (Gc.below V_a.out bb)
  replace V_b := Lib.hid (Gc.below V_b.out bb)
  replace HB := Lib.hid (nextw HB.out bb)
  clear bb
  have HBo := HB.out
  go_wp2
  go_ret
  exact ⟨rfl, nextw HBo (by exact ⟨rfl, rfl, rfl, Nat.le_refl _, fun _ _ => rfl⟩)⟩

set_option maxRecDepth 100000 in
set_option maxHeartbeats 16000000 in
theorem Orders_1y {sx : Bool} {Ax : Option Addr} {kx cx : Nat} {tx : Bool} {Cx : Option Addr} {lx dx : Nat} {px qx : Int} {jx : Nat} (n : Int) {w : World} (hx : Fd w (.agg #[.bool sx, .slice Ax kx cx, .bool tx, .slice Cx lx dx]) px qx jx) (htab : Tab10 w) (g0 : kx ≤ 1) (g1 : lx ≤ 1) (g2 : jx ≤ 1) (n1 : -9223372036854775808 ≤ n) (n2 : n ≤ 9223372036854775807) (ho : ordR px qx = 1) (hd : (1 + n % 32) % 1 = 0) :
    Calls Tryz.prog 8 #[.agg #[.bool sx, .slice Ax kx cx, .bool tx, .slice Cx lx dx], .int .i64 n] w fun e w' => e = .returned (.bool true) ∧ Below w.heap.size w w' := by
  have V_xn := Lib.hid hx.num
  have V_xd := Lib.hid hx.den
  have V_tab := Lib.hid htab
  clear hx htab
  have hb0 : Below w.heap.size w (w.alloc (.cells #[.bool sx, (.slice Ax kx cx), .bool tx, (.slice Cx lx dx)] 26)) := (Below.alloc (Below.refl w.heap.size w) (by simp <;> omega) _)
  have B_x : BoxR (w.alloc (.cells #[.bool sx, (.slice Ax kx cx), .bool tx, (.slice Cx lx dx)] 26)) (w.heap.size) sx (.slice Ax kx cx) tx (.slice Cx lx dx) := by have h := BoxR.new w sx (.slice Ax kx cx) tx (.slice Cx lx dx); simpa using h
  replace B_x := Lib.hid B_x
  replace V_xn := Lib.hid (Rd.below V_xn.out hb0)
  replace V_xd := Lib.hid (Rd.below V_xd.out hb0)
  replace V_tab := Lib.hid (tab_below V_tab.out hb0)
  have HB := Lib.hid hb0
  clear hb0
  have c0x := B_x.out.c0
  have c1x := B_x.out.c1
  have c2x := B_x.out.c2
  have c3x := B_x.out.c3
  go_enter Tryz.func8, Tryz.ntmps8
  go_wp2_with fail
  clear c0x c1x c2x c3x
  generalize w.alloc (.cells #[.bool sx, (.slice Ax kx cx), .bool tx, (.slice Cx lx dx)] 26) = W0 at *
  refine (awakeR _ (tab_below V_tab.out (by exact ⟨rfl, rfl, rfl, Nat.le_refl _, fun _ _ => rfl⟩))).mono ?_
  rintro e w1 ⟨rfl, bb⟩
  replace bb := nextw (w0 := W0) (by exact ⟨rfl, rfl, rfl, Nat.le_refl _, fun _ _ => rfl⟩) bb
  replace B_x := Lib.hid (BoxR.below B_x.out bb B_x.out.lt)
  replace V_xn := Lib.hid (Rd.below V_xn.out bb)
  replace V_xd := Lib.hid (Rd.below V_xd.out bb)
  replace V_tab := Lib.hid (tab_below V_tab.out bb)
  replace HB := Lib.hid (nextw HB.out bb)
  clear bb
  have c0x := B_x.out.c0
  have c1x := B_x.out.c1
  have c2x := B_x.out.c2
  have c3x := B_x.out.c3
  clear V_tab
  have HS := Lib.hid (ho ▸ pw_ord px qx)
  have HO := Lib.hid ho
  obtain ⟨u, hu⟩ : ∃ u, n % 32 = u := ⟨_, rfl⟩
  have u1 : 0 ≤ u := by omega
  have u2 : u < 32 := by omega
  have HU := Lib.hid (fun w => Mod_as hu w n1 n2 (by omega) (by omega))
  have hdd : (1 + u) % 1 = 0 := by rw [← hu]; exact hd
  have HE : Hid (pwP px qx (1 + u) = 0 ∧ pwQ px qx (1 + u) = 1) := by unfold Hid; rw [ord_all px qx (1 + u) (by omega) (by omega), ho]; omega
  clear hu n1 n2 ho hd
  go_wp2_with fail
  refine (HU.out _).mono ?_
  rintro e w2 ⟨rfl, bb⟩
  replace bb := nextw (w0 := w1) (by exact ⟨rfl, rfl, rfl, Nat.le_refl _, fun _ _ => rfl⟩) bb
  clear c0x c1x c2x c3x
  replace B_x := Lib.hid (BoxR.below B_x.out bb B_x.out.lt)
  replace V_xn := Lib.hid (Rd.below V_xn.out bb)
  replace V_xd := Lib.hid (Rd.below V_xd.out bb)
  replace HB := Lib.hid (nextw HB.out bb)
  clear bb
  go_wp2_with fail
  refine (Of_r 0 1 (by omega) (by omega) (by omega) (by omega)).mono ?_
  rintro e w3 ⟨vi, rfl, ri, bb⟩
  replace bb := nextw (w0 := w2) (by exact ⟨rfl, rfl, rfl, Nat.le_refl _, fun _ _ => rfl⟩) bb
  replace B_x := Lib.hid (BoxR.below B_x.out bb B_x.out.lt)
  replace V_xn := Lib.hid (Rd.below V_xn.out bb)
  replace V_xd := Lib.hid (Rd.below V_xd.out bb)
  replace HB := Lib.hid (nextw HB.out bb)
  clear bb
  replace ri := ri.of_eq (show cnP 0 1 = 0 by decide +kernel) (show cnQ 0 1 = 1 by decide +kernel)
  obtain ⟨si, Ai, ki, ci, ti, Ci, li, di, rfl⟩ := ri.shape
  have V_i := Lib.hid ri
  clear ri
  have hb0 : Below w3.heap.size w3 (w3.alloc (.cells #[.bool si, (.slice Ai ki ci), .bool ti, (.slice Ci li di)] 26)) := (Below.alloc (Below.refl w3.heap.size w3) (by simp <;> omega) _)
  have B_i : BoxR (w3.alloc (.cells #[.bool si, (.slice Ai ki ci), .bool ti, (.slice Ci li di)] 26)) (w3.heap.size) si (.slice Ai ki ci) ti (.slice Ci li di) := by have h := BoxR.new w3 si (.slice Ai ki ci) ti (.slice Ci li di); simpa using h
  replace B_i := Lib.hid B_i
  replace B_x := Lib.hid (BoxR.below B_x.out hb0 B_x.out.lt)
  replace V_xn := Lib.hid (Rd.below V_xn.out hb0)
  replace V_xd := Lib.hid (Rd.below V_xd.out hb0)
  replace V_i := Lib.hid (Gc.below V_i.out hb0)
  replace HB := Lib.hid (nextw HB.out hb0)
  clear hb0
  have c0x := B_x.out.c0
  have c1x := B_x.out.c1
  have c2x := B_x.out.c2
  have c3x := B_x.out.c3
  go_wp2_with fail
  clear c0x c1x c2x c3x
  generalize w3.alloc (.cells #[.bool si, (.slice Ai ki ci), .bool ti, (.slice Ci li di)] 26) = W1 at *
  refine (Order_as HO.out (Fd.mk (Rd.below V_xn.out (by exact ⟨rfl, rfl, rfl, Nat.le_refl _, fun _ _ => rfl⟩)) (Rd.below V_xd.out (by exact ⟨rfl, rfl, rfl, Nat.le_refl _, fun _ _ => rfl⟩))) (by omega)).mono ?_
  rintro e w4 ⟨rfl, bb⟩
  replace bb := nextw (w0 := W1) (by exact ⟨rfl, rfl, rfl, Nat.le_refl _, fun _ _ => rfl⟩) bb
  replace B_x := Lib.hid (BoxR.below B_x.out bb B_x.out.lt)
  replace B_i := Lib.hid (BoxR.below B_i.out bb B_i.out.lt)
  replace V_xn := Lib.hid (Rd.below V_xn.out bb)
  replace V_xd := Lib.hid (Rd.below V_xd.out bb)
  replace V_i := Lib.hid (Gc.below V_i.out bb)
  replace HB := Lib.hid (nextw HB.out bb)
  clear bb
  have c0x := B_x.out.c0
  have c1x := B_x.out.c1
  have c2x := B_x.out.c2
  have c3x := B_x.out.c3
  go_wp2_with fail
  refine (Power_r (1 + u) (Fd.mk (Rd.below V_xn.out (by exact ⟨rfl, rfl, rfl, Nat.le_refl _, fun _ _ => rfl⟩)) (Rd.below V_xd.out (by exact ⟨rfl, rfl, rfl, Nat.le_refl _, fun _ _ => rfl⟩))) (by omega) (by omega) (by omega)).mono ?_
  rintro e w5 ⟨va, rfl, ra, bb⟩
  replace bb := nextw (w0 := w4) (by exact ⟨rfl, rfl, rfl, Nat.le_refl _, fun _ _ => rfl⟩) bb
  clear c0x c1x c2x c3x
  replace B_x := Lib.hid (BoxR.below B_x.out bb B_x.out.lt)
  replace B_i := Lib.hid (BoxR.below B_i.out bb B_i.out.lt)
  replace V_xn := Lib.hid (Rd.below V_xn.out bb)
  replace V_xd := Lib.hid (Rd.below V_xd.out bb)
  replace V_i := Lib.hid (Gc.below V_i.out bb)
  replace HB := Lib.hid (nextw HB.out bb)
  clear bb
  obtain ⟨sa, Aa, ka, ca, ta, Ca, la, da, rfl⟩ := ra.shape
  have V_a := Lib.hid ra
  clear ra
  have hb0 : Below w5.heap.size w5 (w5.alloc (.cells #[.bool sa, (.slice Aa ka ca), .bool ta, (.slice Ca la da)] 26)) := (Below.alloc (Below.refl w5.heap.size w5) (by simp <;> omega) _)
  have B_a : BoxR (w5.alloc (.cells #[.bool sa, (.slice Aa ka ca), .bool ta, (.slice Ca la da)] 26)) (w5.heap.size) sa (.slice Aa ka ca) ta (.slice Ca la da) := by have h := BoxR.new w5 sa (.slice Aa ka ca) ta (.slice Ca la da); simpa using h
  replace B_a := Lib.hid B_a
  replace B_x := Lib.hid (BoxR.below B_x.out hb0 B_x.out.lt)
  replace B_i := Lib.hid (BoxR.below B_i.out hb0 B_i.out.lt)
  replace V_xn := Lib.hid (Rd.below V_xn.out hb0)
  replace V_xd := Lib.hid (Rd.below V_xd.out hb0)
  replace V_i := Lib.hid (Gc.below V_i.out hb0)
  replace V_a := Lib.hid (Gc.below V_a.out hb0)
  replace HB := Lib.hid (nextw HB.out hb0)
  clear hb0
  have c0x := B_x.out.c0
  have c1x := B_x.out.c1
  have c2x := B_x.out.c2
  have c3x := B_x.out.c3
  go_wp2_with fail
  clear c0x c1x c2x c3x
  generalize w5.alloc (.cells #[.bool sa, (.slice Aa ka ca), .bool ta, (.slice Ca la da)] 26) = W2 at *
  refine (Power_r 1 (Fd.mk (Rd.below V_xn.out (by exact ⟨rfl, rfl, rfl, Nat.le_refl _, fun _ _ => rfl⟩)) (Rd.below V_xd.out (by exact ⟨rfl, rfl, rfl, Nat.le_refl _, fun _ _ => rfl⟩))) (by omega) (by omega) (by omega)).mono ?_
  rintro e w6 ⟨vb, rfl, rb, bb⟩
  replace bb := nextw (w0 := W2) (by exact ⟨rfl, rfl, rfl, Nat.le_refl _, fun _ _ => rfl⟩) bb
  replace B_x := Lib.hid (BoxR.below B_x.out bb B_x.out.lt)
  replace B_i := Lib.hid (BoxR.below B_i.out bb B_i.out.lt)
  replace B_a := Lib.hid (BoxR.below B_a.out bb B_a.out.lt)
  replace V_xn := Lib.hid (Rd.below V_xn.out bb)
  replace V_xd := Lib.hid (Rd.below V_xd.out bb)
  replace V_i := Lib.hid (Gc.below V_i.out bb)
  replace V_a := Lib.hid (Gc.below V_a.out bb)
  replace HB := Lib.hid (nextw HB.out bb)
  clear bb
  obtain ⟨sb, Ab, kb, cb, tb, Cb, lb, db, rfl⟩ := rb.shape
  have V_b := Lib.hid rb
  clear rb
  have hb0 : Below w6.heap.size w6 (w6.alloc (.cells #[.bool sb, (.slice Ab kb cb), .bool tb, (.slice Cb lb db)] 26)) := (Below.alloc (Below.refl w6.heap.size w6) (by simp <;> omega) _)
  have B_b : BoxR (w6.alloc (.cells #[.bool sb, (.slice Ab kb cb), .bool tb, (.slice Cb lb db)] 26)) (w6.heap.size) sb (.slice Ab kb cb) tb (.slice Cb lb db) := by have h := BoxR.new w6 sb (.slice Ab kb cb) tb (.slice Cb lb db); simpa using h
  replace B_b := Lib.hid B_b
  replace B_x := Lib.hid (BoxR.below B_x.out hb0 B_x.out.lt)
  replace B_i := Lib.hid (BoxR.below B_i.out hb0 B_i.out.lt)
  replace B_a := Lib.hid (BoxR.below B_a.out hb0 B_a.out.lt)
  replace V_xn := Lib.hid (Rd.below V_xn.out hb0)
  replace V_xd := Lib.hid (Rd.below V_xd.out hb0)
  replace V_i := Lib.hid (Gc.below V_i.out hb0)
  replace V_a := Lib.hid (Gc.below V_a.out hb0)
  replace V_b := Lib.hid (Gc.below V_b.out hb0)
  replace HB := Lib.hid (nextw HB.out hb0)
  clear hb0
  have c0b := B_b.out.c0
  have c1b := B_b.out.c1
  have c2b := B_b.out.c2
  have c3b := B_b.out.c3
  have c0i := B_i.out.c0
  have c1i := B_i.out.c1
  have c2i := B_i.out.c2
  have c3i := B_i.out.c3
  go_wp2_with fail
  clear c0b c1b c2b c3b c0i c1i c2i c3i
  generalize w6.alloc (.cells #[.bool sb, (.slice Ab kb cb), .bool tb, (.slice Cb lb db)] 26) = W3 at *
  refine (BRot_g (Gc.below V_b.out (by exact ⟨rfl, rfl, rfl, Nat.le_refl _, fun _ _ => rfl⟩)) (Gc.below V_i.out (by exact ⟨rfl, rfl, rfl, Nat.le_refl _, fun _ _ => rfl⟩)) (by omega) (by omega) HS.out.1 HS.out.2).mono ?_
  rintro e w7 ⟨rfl, bb⟩
  replace bb := nextw (w0 := W3) (by exact ⟨rfl, rfl, rfl, Nat.le_refl _, fun _ _ => rfl⟩) bb
  replace B_x := Lib.hid (BoxR.below B_x.out bb B_x.out.lt)
  replace B_i := Lib.hid (BoxR.below B_i.out bb B_i.out.lt)
  replace B_a := Lib.hid (BoxR.below B_a.out bb B_a.out.lt)
  replace B_b := Lib.hid (BoxR.below B_b.out bb B_b.out.lt)
  replace V_xn := Lib.hid (Rd.below V_xn.out bb)
  replace V_xd := Lib.hid (Rd.below V_xd.out bb)
  replace V_i := Lib.hid (Gc.below V_i.out bb)
  replace V_a := Lib.hid (Gc.below V_a.out bb)
  replace V_b := Lib.hid (Gc.below V_b.out bb)
  replace HB := Lib.hid (nextw HB.out bb)
  clear bb
  have c0a := B_a.out.c0
  have c1a := B_a.out.c1
  have c2a := B_a.out.c2
  have c3a := B_a.out.c3
  have c0i := B_i.out.c0
  have c1i := B_i.out.c1
  have c2i := B_i.out.c2
  have c3i := B_i.out.c3
  go_wp2_with fail
  refine (BRot_g (Gc.below V_a.out (by exact ⟨rfl, rfl, rfl, Nat.le_refl _, fun _ _ => rfl⟩)) (Gc.below V_i.out (by exact ⟨rfl, rfl, rfl, Nat.le_refl _, fun _ _ => rfl⟩)) (by omega) (by omega) HE.out.1 HE.out.2).mono ?_
  rintro e w8 ⟨rfl, bb⟩
  replace bb := nextw (w0 := w7) (by exact ⟨rfl, rfl, rfl, Nat.le_refl _, fun _ _ => rfl⟩) bb
  clear c0a c1a c2a c3a c0i c1i c2i c3i
  replace B_x := Lib.hid (BoxR.below B_x.out bb B_x.out.lt)
  replace B_i := Lib.hid (BoxR.below B_i.out bb B_i.out.lt)
  replace B_a := Lib.hid (BoxR.below B_a.out bb B_a.out.lt)
  replace B_b := Lib.hid (BoxR.below B_b.out bb B_b.out.lt)
  replace V_xn := Lib.hid (Rd.below V_xn.out bb)
  replace V_xd := Lib.hid (Rd.below V_xd.out bb)
  replace V_i := Lib.hid (Gc.below V_i.out bb)
  replace V_a := Lib.hid (Gc.below V_a.out bb)
  replace V_b := Lib.hid (Gc.below V_b.out bb)
  replace HB := Lib.hid (nextw HB.out bb)
  clear bb
  have HBo := HB.out
  go_wp2
  go_ret
  exact ⟨rfl, nextw HBo (by exact ⟨rfl, rfl, rfl, Nat.le_refl _, fun _ _ => rfl⟩)⟩

set_option maxRecDepth 100000 in
set_option maxHeartbeats 16000000 in
theorem Orders_2y {sx : Bool} {Ax : Option Addr} {kx cx : Nat} {tx : Bool} {Cx : Option Addr} {lx dx : Nat} {px qx : Int} {jx : Nat} (n : Int) {w : World} (hx : Fd w (.agg #[.bool sx, .slice Ax kx cx, .bool tx, .slice Cx lx dx]) px qx jx) (htab : Tab10 w) (g0 : kx ≤ 1) (g1 : lx ≤ 1) (g2 : jx ≤ 1) (n1 : -9223372036854775808 ≤ n) (n2 : n ≤ 9223372036854775807) (ho : ordR px qx = 2) (hd : (1 + n % 32) % 2 = 0) :
    Calls Tryz.prog 8 #[.agg #[.bool sx, .slice Ax kx cx, .bool tx, .slice Cx lx dx], .int .i64 n] w fun e w' => e = .returned (.bool true) ∧ Below w.heap.size w w' := by
  have V_xn := Lib.hid hx.num
  have V_xd := Lib.hid hx.den
  have V_tab := Lib.hid htab
  clear hx htab
  have hb0 : Below w.heap.size w (w.alloc (.cells #[.bool sx, (.slice Ax kx cx), .bool tx, (.slice Cx lx dx)] 26)) := (Below.alloc (Below.refl w.heap.size w) (by simp <;> omega) _)
  have B_x : BoxR (w.alloc (.cells #[.bool sx, (.slice Ax kx cx), .bool tx, (.slice Cx lx dx)] 26)) (w.heap.size) sx (.slice Ax kx cx) tx (.slice Cx lx dx) := by have h := BoxR.new w sx (.slice Ax kx cx) tx (.slice Cx lx dx); simpa using h
  replace B_x := Lib.hid B_x
  replace V_xn := Lib.hid (Rd.below V_xn.out hb0)
  replace V_xd := Lib.hid (Rd.below V_xd.out hb0)
  replace V_tab := Lib.hid (tab_below V_tab.out hb0)
  have HB := Lib.hid hb0
  clear hb0
  have c0x := B_x.out.c0
  have c1x := B_x.out.c1
  have c2x := B_x.out.c2
  have c3x := B_x.out.c3
  go_enter Tryz.func8, Tryz.ntmps8
  go_wp2_with fail
  clear c0x c1x c2x c3x
  generalize w.alloc (.cells #[.bool sx, (.slice Ax kx cx), .bool tx, (.slice Cx lx dx)] 26) = W0 at *
  refine (awakeR _ (tab_below V_tab.out (by exact ⟨rfl, rfl, rfl, Nat.le_refl _, fun _ _ => rfl⟩))).mono ?_
  rintro e w1 ⟨rfl, bb⟩
  replace bb := nextw (w0 := W0) (by exact ⟨rfl, rfl, rfl, Nat.le_refl _, fun _ _ => rfl⟩) bb
  replace B_x := Lib.hid (BoxR.below B_x.out bb B_x.out.lt)
  replace V_xn := Lib.hid (Rd.below V_xn.out bb)
  replace V_xd := Lib.hid (Rd.below V_xd.out bb)
  replace V_tab := Lib.hid (tab_below V_tab.out bb)
  replace HB := Lib.hid (nextw HB.out bb)
  clear bb
  have c0x := B_x.out.c0
  have c1x := B_x.out.c1
  have c2x := B_x.out.c2
  have c3x := B_x.out.c3
  clear V_tab
  have HS := Lib.hid (ho ▸ pw_ord px qx)
  have HO := Lib.hid ho
  obtain ⟨u, hu⟩ : ∃ u, n % 32 = u := ⟨_, rfl⟩
  have u1 : 0 ≤ u := by omega
  have u2 : u < 32 := by omega
  have HU := Lib.hid (fun w => Mod_as hu w n1 n2 (by omega) (by omega))
  have hdd : (1 + u) % 2 = 0 := by rw [← hu]; exact hd
  have HE : Hid (pwP px qx (1 + u) = 0 ∧ pwQ px qx (1 + u) = 1) := by unfold Hid; rw [ord_all px qx (1 + u) (by omega) (by omega), ho]; omega
  clear hu n1 n2 ho hd
  go_wp2_with fail
  refine (HU.out _).mono ?_
  rintro e w2 ⟨rfl, bb⟩
  replace bb := nextw (w0 := w1) (by exact ⟨rfl, rfl, rfl, Nat.le_refl _, fun _ _ => rfl⟩) bb
  clear c0x c1x c2x c3x
  replace B_x := Lib.hid (BoxR.below B_x.out bb B_x.out.lt)
  replace V_xn := Lib.hid (Rd.below V_xn.out bb)
  replace V_xd := Lib.hid (Rd.below V_xd.out bb)
  replace HB := Lib.hid (nextw HB.out bb)
  clear bb
  go_wp2_with fail
  refine (Of_r 0 1 (by omega) (by omega) (by omega) (by omega)).mono ?_
  rintro e w3 ⟨vi, rfl, ri, bb⟩
  replace bb := nextw (w0 := w2) (by exact ⟨rfl, rfl, rfl, Nat.le_refl _, fun _ _ => rfl⟩) bb
  replace B_x := Lib.hid (BoxR.below B_x.out bb B_x.out.lt)
  replace V_xn := Lib.hid (Rd.below V_xn.out bb)
  replace V_xd := Lib.hid (Rd.below V_xd.out bb)
  replace HB := Lib.hid (nextw HB.out bb)
  clear bb
  replace ri := ri.of_eq (show cnP 0 1 = 0 by decide +kernel) (show cnQ 0 1 = 1 by decide +kernel)
  obtain ⟨si, Ai, ki, ci, ti, Ci, li, di, rfl⟩ := ri.shape
  have V_i := Lib.hid ri
  clear ri
  have hb0 : Below w3.heap.size w3 (w3.alloc (.cells #[.bool si, (.slice Ai ki ci), .bool ti, (.slice Ci li di)] 26)) := (Below.alloc (Below.refl w3.heap.size w3) (by simp <;> omega) _)
  have B_i : BoxR (w3.alloc (.cells #[.bool si, (.slice Ai ki ci), .bool ti, (.slice Ci li di)] 26)) (w3.heap.size) si (.slice Ai ki ci) ti (.slice Ci li di) := by have h := BoxR.new w3 si (.slice Ai ki ci) ti (.slice Ci li di); simpa using h
  replace B_i := Lib.hid B_i
  replace B_x := Lib.hid (BoxR.below B_x.out hb0 B_x.out.lt)
  replace V_xn := Lib.hid (Rd.below V_xn.out hb0)
  replace V_xd := Lib.hid (Rd.below V_xd.out hb0)
  replace V_i := Lib.hid (Gc.below V_i.out hb0)
  replace HB := Lib.hid (nextw HB.out hb0)
  clear hb0
  have c0x := B_x.out.c0
  have c1x := B_x.out.c1
  have c2x := B_x.out.c2
  have c3x := B_x.out.c3
  go_wp2_with fail
  clear c0x c1x c2x c3x
  generalize w3.alloc (.cells #[.bool si, (.slice Ai ki ci), .bool ti, (.slice Ci li di)] 26) = W1 at *
  refine (Order_as HO.out (Fd.mk (Rd.below V_xn.out (by exact ⟨rfl, rfl, rfl, Nat.le_refl _, fun _ _ => rfl⟩)) (Rd.below V_xd.out (by exact ⟨rfl, rfl, rfl, Nat.le_refl _, fun _ _ => rfl⟩))) (by omega)).mono ?_
  rintro e w4 ⟨rfl, bb⟩
  replace bb := nextw (w0 := W1) (by exact ⟨rfl, rfl, rfl, Nat.le_refl _, fun _ _ => rfl⟩) bb
  replace B_x := Lib.hid (BoxR.below B_x.out bb B_x.out.lt)
  replace B_i := Lib.hid (BoxR.below B_i.out bb B_i.out.lt)
  replace V_xn := Lib.hid (Rd.below V_xn.out bb)
  replace V_xd := Lib.hid (Rd.below V_xd.out bb)
  replace V_i := Lib.hid (Gc.below V_i.out bb)
  replace HB := Lib.hid (nextw HB.out bb)
  clear bb
  have c0x := B_x.out.c0
  have c1x := B_x.out.c1
  have c2x := B_x.out.c2
  have c3x := B_x.out.c3
  go_wp2_with fail
  refine (Power_r (1 + u) (Fd.mk (Rd.below V_xn.out (by exact ⟨rfl, rfl, rfl, Nat.le_refl _, fun _ _ => rfl⟩)) (Rd.below V_xd.out (by exact ⟨rfl, rfl, rfl, Nat.le_refl _, fun _ _ => rfl⟩))) (by omega) (by omega) (by omega)).mono ?_
  rintro e w5 ⟨va, rfl, ra, bb⟩
  replace bb := nextw (w0 := w4) (by exact ⟨rfl, rfl, rfl, Nat.le_refl _, fun _ _ => rfl⟩) bb
  clear c0x c1x c2x c3x
  replace B_x := Lib.hid (BoxR.below B_x.out bb B_x.out.lt)
  replace B_i := Lib.hid (BoxR.below B_i.out bb B_i.out.lt)
  replace V_xn := Lib.hid (Rd.below V_xn.out bb)
  replace V_xd := Lib.hid (Rd.below V_xd.out bb)
  replace V_i := Lib.hid (Gc.below V_i.out bb)
  replace HB := Lib.hid (nextw HB.out bb)
  clear bb
  obtain ⟨sa, Aa, ka, ca, ta, Ca, la, da, rfl⟩ := ra.shape
  have V_a := Lib.hid ra
  clear ra
  have hb0 : Below w5.heap.size w5 (w5.alloc (.cells #[.bool sa, (.slice Aa ka ca), .bool ta, (.slice Ca la da)] 26)) := (Below.alloc (Below.refl w5.heap.size w5) (by simp <;> omega) _)
  have B_a : BoxR (w5.alloc (.cells #[.bool sa, (.slice Aa ka ca), .bool ta, (.slice Ca la da)] 26)) (w5.heap.size) sa (.slice Aa ka ca) ta (.slice Ca la da) := by have h := BoxR.new w5 sa (.slice Aa ka ca) ta (.slice Ca la da); simpa using h
  replace B_a := Lib.hid B_a
  replace B_x := Lib.hid (BoxR.below B_x.out hb0 B_x.out.lt)
  replace B_i := Lib.hid (BoxR.below B_i.out hb0 B_i.out.lt)
  replace V_xn := Lib.hid (Rd.below V_xn.out hb0)
  replace V_xd := Lib.hid (Rd.below V_xd.out hb0)
  replace V_i := Lib.hid (Gc.below V_i.out hb0)
  replace V_a := Lib.hid (Gc.below V_a.out hb0)
  replace HB := Lib.hid (nextw HB.out hb0)
  clear hb0
  have c0x := B_x.out.c0
  have c1x := B_x.out.c1
  have c2x := B_x.out.c2
  have c3x := B_x.out.c3
  go_wp2_with fail
  clear c0x c1x c2x c3x
  generalize w5.alloc (.cells #[.bool sa, (.slice Aa ka ca), .bool ta, (.slice Ca la da)] 26) = W2 at *
  refine (Power_r 2 (Fd.mk (Rd.below V_xn.out (by exact ⟨rfl, rfl, rfl, Nat.le_refl _, fun _ _ => rfl⟩)) (Rd.below V_xd.out (by exact ⟨rfl, rfl, rfl, Nat.le_refl _, fun _ _ => rfl⟩))) (by omega) (by omega) (by omega)).mono ?_
  rintro e w6 ⟨vb, rfl, rb, bb⟩
  replace bb := nextw (w0 := W2) (by exact ⟨rfl, rfl, rfl, Nat.le_refl _, fun _ _ => rfl⟩) bb
  replace B_x := Lib.hid (BoxR.below B_x.out bb B_x.out.lt)
  replace B_i := Lib.hid (BoxR.below B_i.out bb B_i.out.lt)
  replace B_a := Lib.hid (BoxR.below B_a.out bb B_a.out.lt)
  replace V_xn := Lib.hid (Rd.below V_xn.out bb)
  replace V_xd := Lib.hid (Rd.below V_xd.out bb)
  replace V_i := Lib.hid (Gc.below V_i.out bb)
  replace V_a := Lib.hid (Gc.below V_a.out bb)
  replace HB := Lib.hid (nextw HB.out bb)
  clear bb
  obtain ⟨sb, Ab, kb, cb, tb, Cb, lb, db, rfl⟩ := rb.shape
  have V_b := Lib.hid rb
  clear rb
  have hb0 : Below w6.heap.size w6 (w6.alloc (.cells #[.bool sb, (.slice Ab kb cb), .bool tb, (.slice Cb lb db)] 26)) := (Below.alloc (Below.refl w6.heap.size w6) (by simp <;> omega) _)
  have B_b : BoxR (w6.alloc (.cells #[.bool sb, (.slice Ab kb cb), .bool tb, (.slice Cb lb db)] 26)) (w6.heap.size) sb (.slice Ab kb cb) tb (.slice Cb lb db) := by have h := BoxR.new w6 sb (.slice Ab kb cb) tb (.slice Cb lb db); simpa using h
  replace B_b := Lib.hid B_b
  replace B_x := Lib.hid (BoxR.below B_x.out hb0 B_x.out.lt)
  replace B_i := Lib.hid (BoxR.below B_i.out hb0 B_i.out.lt)
  replace B_a := Lib.hid (BoxR.below B_a.out hb0 B_a.out.lt)
  replace V_xn := Lib.hid (Rd.below V_xn.out hb0)
  replace V_xd := Lib.hid (Rd.below V_xd.out hb0)
  replace V_i := Lib.hid (Gc.below V_i.out hb0)
  replace V_a := Lib.hid (Gc.below V_a.out hb0)
  replace V_b := Lib.hid (Gc.below V_b.out hb0)
  replace HB := Lib.hid (nextw HB.out hb0)
  clear hb0
  have c0b := B_b.out.c0
  have c1b := B_b.out.c1
  have c2b := B_b.out.c2
  have c3b := B_b.out.c3
  have c0i := B_i.out.c0
  have c1i := B_i.out.c1
  have c2i := B_i.out.c2
  have c3i := B_i.out.c3
  go_wp2_with fail
  clear c0b c1b c2b c3b c0i c1i c2i c3i
  generalize w6.alloc (.cells #[.bool sb, (.slice Ab kb cb), .bool tb, (.slice Cb lb db)] 26) = W3 at *
  refine (BRot_g (Gc.below V_b.out (by exact ⟨rfl, rfl, rfl, Nat.le_refl _, fun _ _ => rfl⟩)) (Gc.below V_i.out (by exact ⟨rfl, rfl, rfl, Nat.le_refl _, fun _ _ => rfl⟩)) (by omega) (by omega) HS.out.1 HS.out.2).mono ?_
  rintro e w7 ⟨rfl, bb⟩
  replace bb := nextw (w0 := W3) (by exact ⟨rfl, rfl, rfl, Nat.le_refl _, fun _ _ => rfl⟩) bb
  replace B_x := Lib.hid (BoxR.below B_x.out bb B_x.out.lt)
  replace B_i := Lib.hid (BoxR.below B_i.out bb B_i.out.lt)
  replace B_a := Lib.hid (BoxR.below B_a.out bb B_a.out.lt)
  replace B_b := Lib.hid (BoxR.below B_b.out bb B_b.out.lt)
  replace V_xn := Lib.hid (Rd.below V_xn.out bb)
  replace V_xd := Lib.hid (Rd.below V_xd.out bb)
  replace V_i := Lib.hid (Gc.below V_i.out bb)
  replace V_a := Lib.hid (Gc.below V_a.out bb)
  replace V_b := Lib.hid (Gc.below V_b.out bb)
  replace HB := Lib.hid (nextw HB.out bb)
  clear bb
  have c0a := B_a.out.c0
  have c1a := B_a.out.c1
  have c2a := B_a.out.c2
  have c3a := B_a.out.c3
  have c0i := B_i.out.c0
  have c1i := B_i.out.c1
  have c2i := B_i.out.c2
  have c3i := B_i.out.c3
  go_wp2_with fail
  refine (BRot_g (Gc.below V_a.out (by exact ⟨rfl, rfl, rfl, Nat.le_refl _, fun _ _ => rfl⟩)) (Gc.below V_i.out (by exact ⟨rfl, rfl, rfl, Nat.le_refl _, fun _ _ => rfl⟩)) (by omega) (by omega) HE.out.1 HE.out.2).mono ?_
  rintro e w8 ⟨rfl, bb⟩
  replace bb := nextw (w0 := w7) (by exact ⟨rfl, rfl, rfl, Nat.le_refl _, fun _ _ => rfl⟩) bb
  clear c0a c1a c2a c3a c0i c1i c2i c3i
  replace B_x := Lib.hid (BoxR.below B_x.out bb B_x.out.lt)
  replace B_i := Lib.hid (BoxR.below B_i.out bb B_i.out.lt)
  replace B_a := Lib.hid (BoxR.below B_a.out bb B_a.out.lt)
  replace B_b := Lib.hid (BoxR.below B_b.out bb B_b.out.lt)
  replace V_xn := Lib.hid (Rd.below V_xn.out bb)
  replace V_xd := Lib.hid (Rd.below V_xd.out bb)
  replace V_i := Lib.hid (Gc.below V_i.out bb)
  replace V_a := Lib.hid (Gc.below V_a.out bb)
  replace V_b := Lib.hid (Gc.below V_b.out bb)
  replace HB := Lib.hid (nextw HB.out bb)
  clear bb
  have HBo := HB.out
  go_wp2
  go_ret
  exact ⟨rfl, nextw HBo (by exact ⟨rfl, rfl, rfl, Nat.le_refl _, fun _ _ => rfl⟩)⟩

set_option maxRecDepth 100000 in
set_option maxHeartbeats 16000000 in
theorem Orders_2n {sx : Bool} {Ax : Option Addr} {kx cx : Nat} {tx : Bool} {Cx : Option Addr} {lx dx : Nat} {px qx : Int} {jx : Nat} (n : Int) {w : World} (hx : Fd w (.agg #[.bool sx, .slice Ax kx cx, .bool tx, .slice Cx lx dx]) px qx jx) (htab : Tab10 w) (g0 : kx ≤ 1) (g1 : lx ≤ 1) (g2 : jx ≤ 1) (n1 : -9223372036854775808 ≤ n) (n2 : n ≤ 9223372036854775807) (ho : ordR px qx = 2) (hd : (1 + n % 32) % 2 ≠ 0) :
    Calls Tryz.prog 8 #[.agg #[.bool sx, .slice Ax kx cx, .bool tx, .slice Cx lx dx], .int .i64 n] w fun e w' => e = .returned (.bool true) ∧ Below w.heap.size w w' := by
  have V_xn := Lib.hid hx.num
  have V_xd := Lib.hid hx.den
  have V_tab := Lib.hid htab
  clear hx htab
  have hb0 : Below w.heap.size w (w.alloc (.cells #[.bool sx, (.slice Ax kx cx), .bool tx, (.slice Cx lx dx)] 26)) := (Below.alloc (Below.refl w.heap.size w) (by simp <;> omega) _)
  have B_x : BoxR (w.alloc (.cells #[.bool sx, (.slice Ax kx cx), .bool tx, (.slice Cx lx dx)] 26)) (w.heap.size) sx (.slice Ax kx cx) tx (.slice Cx lx dx) := by have h := BoxR.new w sx (.slice Ax kx cx) tx (.slice Cx lx dx); simpa using h
  replace B_x := Lib.hid B_x
  replace V_xn := Lib.hid (Rd.below V_xn.out hb0)
  replace V_xd := Lib.hid (Rd.below V_xd.out hb0)
  replace V_tab := Lib.hid (tab_below V_tab.out hb0)
  have HB := Lib.hid hb0
  clear hb0
  have c0x := B_x.out.c0
  have c1x := B_x.out.c1
  have c2x := B_x.out.c2
  have c3x := B_x.out.c3
  go_enter Tryz.func8, Tryz.ntmps8
  go_wp2_with fail
  clear c0x c1x c2x c3x
  generalize w.alloc (.cells #[.bool sx, (.slice Ax kx cx), .bool tx, (.slice Cx lx dx)] 26) = W0 at *
  refine (awakeR _ (tab_below V_tab.out (by exact ⟨rfl, rfl, rfl, Nat.le_refl _, fun _ _ => rfl⟩))).mono ?_
  rintro e w1 ⟨rfl, bb⟩
  replace bb := nextw (w0 := W0) (by exact ⟨rfl, rfl, rfl, Nat.le_refl _, fun _ _ => rfl⟩) bb
  replace B_x := Lib.hid (BoxR.below B_x.out bb B_x.out.lt)
  replace V_xn := Lib.hid (Rd.below V_xn.out bb)
  replace V_xd := Lib.hid (Rd.below V_xd.out bb)
  replace V_tab := Lib.hid (tab_below V_tab.out bb)
  replace HB := Lib.hid (nextw HB.out bb)
  clear bb
  have c0x := B_x.out.c0
  have c1x := B_x.out.c1
  have c2x := B_x.out.c2
  have c3x := B_x.out.c3
  clear V_tab
  have HS := Lib.hid (ho ▸ pw_ord px qx)
  have HO := Lib.hid ho
  obtain ⟨u, hu⟩ : ∃ u, n % 32 = u := ⟨_, rfl⟩
  have u1 : 0 ≤ u := by omega
  have u2 : u < 32 := by omega
  have HU := Lib.hid (fun w => Mod_as hu w n1 n2 (by omega) (by omega))
  have hdd : (1 + u) % 2 ≠ 0 := by rw [← hu]; exact hd
  have hbe : ((1 + u) % 2 == 0) = false := by rw [beq_eq_false_iff_ne]; exact hdd
  have HE : Hid (¬ (pwP px qx (1 + u) = 0 ∧ pwQ px qx (1 + u) = 1)) := by unfold Hid; rw [ord_all px qx (1 + u) (by omega) (by omega), ho]; omega
  clear hu n1 n2 ho hd
  go_wp2_with fail
  refine (HU.out _).mono ?_
  rintro e w2 ⟨rfl, bb⟩
  replace bb := nextw (w0 := w1) (by exact ⟨rfl, rfl, rfl, Nat.le_refl _, fun _ _ => rfl⟩) bb
  clear c0x c1x c2x c3x
  replace B_x := Lib.hid (BoxR.below B_x.out bb B_x.out.lt)
  replace V_xn := Lib.hid (Rd.below V_xn.out bb)
  replace V_xd := Lib.hid (Rd.below V_xd.out bb)
  replace HB := Lib.hid (nextw HB.out bb)
  clear bb
  go_wp2_with fail
  refine (Of_r 0 1 (by omega) (by omega) (by omega) (by omega)).mono ?_
  rintro e w3 ⟨vi, rfl, ri, bb⟩
  replace bb := nextw (w0 := w2) (by exact ⟨rfl, rfl, rfl, Nat.le_refl _, fun _ _ => rfl⟩) bb
  replace B_x := Lib.hid (BoxR.below B_x.out bb B_x.out.lt)
  replace V_xn := Lib.hid (Rd.below V_xn.out bb)
  replace V_xd := Lib.hid (Rd.below V_xd.out bb)
  replace HB := Lib.hid (nextw HB.out bb)
  clear bb
  replace ri := ri.of_eq (show cnP 0 1 = 0 by decide +kernel) (show cnQ 0 1 = 1 by decide +kernel)
  obtain ⟨si, Ai, ki, ci, ti, Ci, li, di, rfl⟩ := ri.shape
  have V_i := Lib.hid ri
  clear ri
  have hb0 : Below w3.heap.size w3 (w3.alloc (.cells #[.bool si, (.slice Ai ki ci), .bool ti, (.slice Ci li di)] 26)) := (Below.alloc (Below.refl w3.heap.size w3) (by simp <;> omega) _)
  have B_i : BoxR (w3.alloc (.cells #[.bool si, (.slice Ai ki ci), .bool ti, (.slice Ci li di)] 26)) (w3.heap.size) si (.slice Ai ki ci) ti (.slice Ci li di) := by have h := BoxR.new w3 si (.slice Ai ki ci) ti (.slice Ci li di); simpa using h
  replace B_i := Lib.hid B_i
  replace B_x := Lib.hid (BoxR.below B_x.out hb0 B_x.out.lt)
  replace V_xn := Lib.hid (Rd.below V_xn.out hb0)
  replace V_xd := Lib.hid (Rd.below V_xd.out hb0)
  replace V_i := Lib.hid (Gc.below V_i.out hb0)
  replace HB := Lib.hid (nextw HB.out hb0)
  clear hb0
  have c0x := B_x.out.c0
  have c1x := B_x.out.c1
  have c2x := B_x.out.c2
  have c3x := B_x.out.c3
  go_wp2_with fail
  clear c0x c1x c2x c3x
  generalize w3.alloc (.cells #[.bool si, (.slice Ai ki ci), .bool ti, (.slice Ci li di)] 26) = W1 at *
  refine (Order_as HO.out (Fd.mk (Rd.below V_xn.out (by exact ⟨rfl, rfl, rfl, Nat.le_refl _, fun _ _ => rfl⟩)) (Rd.below V_xd.out (by exact ⟨rfl, rfl, rfl, Nat.le_refl _, fun _ _ => rfl⟩))) (by omega)).mono ?_
  rintro e w4 ⟨rfl, bb⟩
  replace bb := nextw (w0 := W1) (by exact ⟨rfl, rfl, rfl, Nat.le_refl _, fun _ _ => rfl⟩) bb
  replace B_x := Lib.hid (BoxR.below B_x.out bb B_x.out.lt)
  replace B_i := Lib.hid (BoxR.below B_i.out bb B_i.out.lt)
  replace V_xn := Lib.hid (Rd.below V_xn.out bb)
  replace V_xd := Lib.hid (Rd.below V_xd.out bb)
  replace V_i := Lib.hid (Gc.below V_i.out bb)
  replace HB := Lib.hid (nextw HB.out bb)
  clear bb
  have c0x := B_x.out.c0
  have c1x := B_x.out.c1
  have c2x := B_x.out.c2
  have c3x := B_x.out.c3
  go_wp2_with fail
  refine (Power_r (1 + u) (Fd.mk (Rd.below V_xn.out (by exact ⟨rfl, rfl, rfl, Nat.le_refl _, fun _ _ => rfl⟩)) (Rd.below V_xd.out (by exact ⟨rfl, rfl, rfl, Nat.le_refl _, fun _ _ => rfl⟩))) (by omega) (by omega) (by omega)).mono ?_
  rintro e w5 ⟨va, rfl, ra, bb⟩
  replace bb := nextw (w0 := w4) (by exact ⟨rfl, rfl, rfl, Nat.le_refl _, fun _ _ => rfl⟩) bb
  clear c0x c1x c2x c3x
  replace B_x := Lib.hid (BoxR.below B_x.out bb B_x.out.lt)
  replace B_i := Lib.hid (BoxR.below B_i.out bb B_i.out.lt)
  replace V_xn := Lib.hid (Rd.below V_xn.out bb)
  replace V_xd := Lib.hid (Rd.below V_xd.out bb)
  replace V_i := Lib.hid (Gc.below V_i.out bb)
  replace HB := Lib.hid (nextw HB.out bb)
  clear bb
  obtain ⟨sa, Aa, ka, ca, ta, Ca, la, da, rfl⟩ := ra.shape
  have V_a := Lib.hid ra
  clear ra
  have hb0 : Below w5.heap.size w5 (w5.alloc (.cells #[.bool sa, (.slice Aa ka ca), .bool ta, (.slice Ca la da)] 26)) := (Below.alloc (Below.refl w5.heap.size w5) (by simp <;> omega) _)
  have B_a : BoxR (w5.alloc (.cells #[.bool sa, (.slice Aa ka ca), .bool ta, (.slice Ca la da)] 26)) (w5.heap.size) sa (.slice Aa ka ca) ta (.slice Ca la da) := by have h := BoxR.new w5 sa (.slice Aa ka ca) ta (.slice Ca la da); simpa using h
  replace B_a := Lib.hid B_a
  replace B_x := Lib.hid (BoxR.below B_x.out hb0 B_x.out.lt)
  replace B_i := Lib.hid (BoxR.below B_i.out hb0 B_i.out.lt)
  replace V_xn := Lib.hid (Rd.below V_xn.out hb0)
  replace V_xd := Lib.hid (Rd.below V_xd.out hb0)
  replace V_i := Lib.hid (Gc.below V_i.out hb0)
  replace V_a := Lib.hid (Gc.below V_a.out hb0)
  replace HB := Lib.hid (nextw HB.out hb0)
  clear hb0
  have c0x := B_x.out.c0
  have c1x := B_x.out.c1
  have c2x := B_x.out.c2
  have c3x := B_x.out.c3
  go_wp2_with fail
  clear c0x c1x c2x c3x
  generalize w5.alloc (.cells #[.bool sa, (.slice Aa ka ca), .bool ta, (.slice Ca la da)] 26) = W2 at *
  refine (Power_r 2 (Fd.mk (Rd.below V_xn.out (by exact ⟨rfl, rfl, rfl, Nat.le_refl _, fun _ _ => rfl⟩)) (Rd.below V_xd.out (by exact ⟨rfl, rfl, rfl, Nat.le_refl _, fun _ _ => rfl⟩))) (by omega) (by omega) (by omega)).mono ?_
  rintro e w6 ⟨vb, rfl, rb, bb⟩
  replace bb := nextw (w0 := W2) (by exact ⟨rfl, rfl, rfl, Nat.le_refl _, fun _ _ => rfl⟩) bb
  replace B_x := Lib.hid (BoxR.below B_x.out bb B_x.out.lt)
  replace B_i := Lib.hid (BoxR.below B_i.out bb B_i.out.lt)
  replace B_a := Lib.hid (BoxR.below B_a.out bb B_a.out.lt)
  replace V_xn := Lib.hid (Rd.below V_xn.out bb)
  replace V_xd := Lib.hid (Rd.below V_xd.out bb)
  replace V_i := Lib.hid (Gc.below V_i.out bb)
  replace V_a := Lib.hid (Gc.below V_a.out bb)
  replace HB := Lib.hid (nextw HB.out bb)
  clear bb
  obtain ⟨sb, Ab, kb, cb, tb, Cb, lb, db, rfl⟩ := rb.shape
  have V_b := Lib.hid rb
  clear rb
  have hb0 : Below w6.heap.size w6 (w6.alloc (.cells #[.bool sb, (.slice Ab kb cb), .bool tb, (.slice Cb lb db)] 26)) := (Below.alloc (Below.refl w6.heap.size w6) (by simp <;> omega) _)
  have B_b : BoxR (w6.alloc (.cells #[.bool sb, (.slice Ab kb cb), .bool tb, (.slice Cb lb db)] 26)) (w6.heap.size) sb (.slice Ab kb cb) tb (.slice Cb lb db) := by have h := BoxR.new w6 sb (.slice Ab kb cb) tb (.slice Cb lb db); simpa using h
  replace B_b := Lib.hid B_b
  replace B_x := Lib.hid (BoxR.below B_x.out hb0 B_x.out.lt)
  replace B_i := Lib.hid (BoxR.below B_i.out hb0 B_i.out.lt)
  replace B_a := Lib.hid (BoxR.below B_a.out hb0 B_a.out.lt)
  replace V_xn := Lib.hid (Rd.below V_xn.out hb0)
  replace V_xd := Lib.hid (Rd.below V_xd.out hb0)
  replace V_i := Lib.hid (Gc.below V_i.out hb0)
  replace V_a := Lib.hid (Gc.below V_a.out hb0)
  replace V_b := Lib.hid (Gc.below V_b.out hb0)
  replace HB := Lib.hid (nextw HB.out hb0)
  clear hb0
  have c0b := B_b.out.c0
  have c1b := B_b.out.c1
  have c2b := B_b.out.c2
  have c3b := B_b.out.c3
  have c0i := B_i.out.c0
  have c1i := B_i.out.c1
  have c2i := B_i.out.c2
  have c3i := B_i.out.c3
  go_wp2_with fail
  clear c0b c1b c2b c3b c0i c1i c2i c3i
  generalize w6.alloc (.cells #[.bool sb, (.slice Ab kb cb), .bool tb, (.slice Cb lb db)] 26) = W3 at *
  refine (BRot_g (Gc.below V_b.out (by exact ⟨rfl, rfl, rfl, Nat.le_refl _, fun _ _ => rfl⟩)) (Gc.below V_i.out (by exact ⟨rfl, rfl, rfl, Nat.le_refl _, fun _ _ => rfl⟩)) (by omega) (by omega) HS.out.1 HS.out.2).mono ?_
  rintro e w7 ⟨rfl, bb⟩
  replace bb := nextw (w0 := W3) (by exact ⟨rfl, rfl, rfl, Nat.le_refl _, fun _ _ => rfl⟩) bb
  replace B_x := Lib.hid (BoxR.below B_x.out bb B_x.out.lt)
  replace B_i := Lib.hid (BoxR.below B_i.out bb B_i.out.lt)
  replace B_a := Lib.hid (BoxR.below B_a.out bb B_a.out.lt)
  replace B_b := Lib.hid (BoxR.below B_b.out bb B_b.out.lt)
  replace V_xn := Lib.hid (Rd.below V_xn.out bb)
  replace V_xd := Lib.hid (Rd.below V_xd.out bb)
  replace V_i := Lib.hid (Gc.below V_i.out bb)
  replace V_a := Lib.hid (Gc.below V_a.out bb)
  replace V_b := Lib.hid (Gc.below V_b.out bb)
  replace HB := Lib.hid (nextw HB.out bb)
  clear bb
  have c0a := B_a.out.c0
  have c1a := B_a.out.c1
  have c2a := B_a.out.c2
  have c3a := B_a.out.c3
  have c0i := B_i.out.c0
  have c1i := B_i.out.c1
  have c2i := B_i.out.c2
  have c3i := B_i.out.c3
  go_wp2_with fail
  refine (BRot_no (Gc.below V_a.out (by exact ⟨rfl, rfl, rfl, Nat.le_refl _, fun _ _ => rfl⟩)) (Gc.below V_i.out (by exact ⟨rfl, rfl, rfl, Nat.le_refl _, fun _ _ => rfl⟩)) (by omega) (by omega) HE.out).mono ?_
  rintro e w8 ⟨rfl, bb⟩
  replace bb := nextw (w0 := w7) (by exact ⟨rfl, rfl, rfl, Nat.le_refl _, fun _ _ => rfl⟩) bb
  clear c0a c1a c2a c3a c0i c1i c2i c3i
  replace B_x := Lib.hid (BoxR.below B_x.out bb B_x.out.lt)
  replace B_i := Lib.hid (BoxR.below B_i.out bb B_i.out.lt)
  replace B_a := Lib.hid (BoxR.below B_a.out bb B_a.out.lt)
  replace B_b := Lib.hid (BoxR.below B_b.out bb B_b.out.lt)
  replace V_xn := Lib.hid (Rd.below V_xn.out bb)
  replace V_xd := Lib.hid (Rd.below V_xd.out bb)
  replace V_i := Lib.hid (Gc.below V_i.out bb)
  replace V_a := Lib.hid (Gc.below V_a.out bb)
  replace V_b := Lib.hid (Gc.below V_b.out bb)
  replace HB := Lib.hid (nextw HB.out bb)
  clear bb
  have HBo := HB.out
  go_wp2
  go_ret
  exact ⟨rfl, nextw HBo (by exact ⟨rfl, rfl, rfl, Nat.le_refl _, fun _ _ => rfl⟩)⟩

set_option maxRecDepth 100000 in
set_option maxHeartbeats 16000000 in
theorem Orders_4y {sx : Bool} {Ax : Option Addr} {kx cx : Nat} {tx : Bool} {Cx : Option Addr} {lx dx : Nat} {px qx : Int} {jx : Nat} (n : Int) {w : World} (hx : Fd w (.agg #[.bool sx, .slice Ax kx cx, .bool tx, .slice Cx lx dx]) px qx jx) (htab : Tab10 w) (g0 : kx ≤ 1) (g1 : lx ≤ 1) (g2 : jx ≤ 1) (n1 : -9223372036854775808 ≤ n) (n2 : n ≤ 9223372036854775807) (ho : ordR px qx = 4) (hd : (1 + n % 32) % 4 = 0) :
    Calls Tryz.prog 8 #[.agg #[.bool sx, .slice Ax kx cx, .bool tx, .slice Cx lx dx], .int .i64 n] w fun e w' => e = .returned (.bool true) ∧ Below w.heap.size w w' := by
  have V_xn := Lib.hid hx.num
  have V_xd := Lib.hid hx.den
  have V_tab := Lib.hid htab
  clear hx htab
  have hb0 : Below w.heap.size w (w.alloc (.cells #[.bool sx, (.slice Ax kx cx), .bool tx, (.slice Cx lx dx)] 26)) := (Below.alloc (Below.refl w.heap.size w) (by simp <;> omega) _)
  have B_x : BoxR (w.alloc (.cells #[.bool sx, (.slice Ax kx cx), .bool tx, (.slice Cx lx dx)] 26)) (w.heap.size) sx (.slice Ax kx cx) tx (.slice Cx lx dx) := by have h := BoxR.new w sx (.slice Ax kx cx) tx (.slice Cx lx dx); simpa using h
  replace B_x := Lib.hid B_x
  replace V_xn := Lib.hid (Rd.below V_xn.out hb0)
  replace V_xd := Lib.hid (Rd.below V_xd.out hb0)
  replace V_tab := Lib.hid (tab_below V_tab.out hb0)
  have HB := Lib.hid hb0
  clear hb0
  have c0x := B_x.out.c0
  have c1x := B_x.out.c1
  have c2x := B_x.out.c2
  have c3x := B_x.out.c3
  go_enter Tryz.func8, Tryz.ntmps8
  go_wp2_with fail
  clear c0x c1x c2x c3x
  generalize w.alloc (.cells #[.bool sx, (.slice Ax kx cx), .bool tx, (.slice Cx lx dx)] 26) = W0 at *
  refine (awakeR _ (tab_below V_tab.out (by exact ⟨rfl, rfl, rfl, Nat.le_refl _, fun _ _ => rfl⟩))).mono ?_
  rintro e w1 ⟨rfl, bb⟩
  replace bb := nextw (w0 := W0) (by exact ⟨rfl, rfl, rfl, Nat.le_refl _, fun _ _ => rfl⟩) bb
  replace B_x := Lib.hid (BoxR.below B_x.out bb B_x.out.lt)
  replace V_xn := Lib.hid (Rd.below V_xn.out bb)
  replace V_xd := Lib.hid (Rd.below V_xd.out bb)
  replace V_tab := Lib.hid (tab_below V_tab.out bb)
  replace HB := Lib.hid (nextw HB.out bb)
  clear bb
  have c0x := B_x.out.c0
  have c1x := B_x.out.c1
  have c2x := B_x.out.c2
  have c3x := B_x.out.c3
  clear V_tab
  have HS := Lib.hid (ho ▸ pw_ord px qx)
  have HO := Lib.hid ho
  obtain ⟨u, hu⟩ : ∃ u, n % 32 = u := ⟨_, rfl⟩
  have u1 : 0 ≤ u := by omega
  have u2 : u < 32 := by omega
  have HU := Lib.hid (fun w => Mod_as hu w n1 n2 (by omega) (by omega))
  have hdd : (1 + u) % 4 = 0 := by rw [← hu]; exact hd
  have HE : Hid (pwP px qx (1 + u) = 0 ∧ pwQ px qx (1 + u) = 1) := by unfold Hid; rw [ord_all px qx (1 + u) (by omega) (by omega), ho]; omega
  clear hu n1 n2 ho hd
  go_wp2_with fail
  refine (HU.out _).mono ?_
  rintro e w2 ⟨rfl, bb⟩
  replace bb := nextw (w0 := w1) (by exact ⟨rfl, rfl, rfl, Nat.le_refl _, fun _ _ => rfl⟩) bb
  clear c0x c1x c2x c3x
  replace B_x := Lib.hid (BoxR.below B_x.out bb B_x.out.lt)
  replace V_xn := Lib.hid (Rd.below V_xn.out bb)
  replace V_xd := Lib.hid (Rd.below V_xd.out bb)
  replace HB := Lib.hid (nextw HB.out bb)
  clear bb
  go_wp2_with fail
  refine (Of_r 0 1 (by omega) (by omega) (by omega) (by omega)).mono ?_
  rintro e w3 ⟨vi, rfl, ri, bb⟩
  replace bb := nextw (w0 := w2) (by exact ⟨rfl, rfl, rfl, Nat.le_refl _, fun _ _ => rfl⟩) bb
  replace B_x := Lib.hid (BoxR.below B_x.out bb B_x.out.lt)
  replace V_xn := Lib.hid (Rd.below V_xn.out bb)
  replace V_xd := Lib.hid (Rd.below V_xd.out bb)
  replace HB := Lib.hid (nextw HB.out bb)
  clear bb
  replace ri := ri.of_eq (show cnP 0 1 = 0 by decide +kernel) (show cnQ 0 1 = 1 by decide +kernel)
  obtain ⟨si, Ai, ki, ci, ti, Ci, li, di, rfl⟩ := ri.shape
  have V_i := Lib.hid ri
  clear ri
  have hb0 : Below w3.heap.size w3 (w3.alloc (.cells #[.bool si, (.slice Ai ki ci), .bool ti, (.slice Ci li di)] 26)) := (Below.alloc (Below.refl w3.heap.size w3) (by simp <;> omega) _)
  have B_i : BoxR (w3.alloc (.cells #[.bool si, (.slice Ai ki ci), .bool ti, (.slice Ci li di)] 26)) (w3.heap.size) si (.slice Ai ki ci) ti (.slice Ci li di) := by have h := BoxR.new w3 si (.slice Ai ki ci) ti (.slice Ci li di); simpa using h
  replace B_i := Lib.hid B_i
  replace B_x := Lib.hid (BoxR.below B_x.out hb0 B_x.out.lt)
  replace V_xn := Lib.hid (Rd.below V_xn.out hb0)
  replace V_xd := Lib.hid (Rd.below V_xd.out hb0)
  replace V_i := Lib.hid (Gc.below V_i.out hb0)
  replace HB := Lib.hid (nextw HB.out hb0)
  clear hb0
  have c0x := B_x.out.c0
  have c1x := B_x.out.c1
  have c2x := B_x.out.c2
  have c3x := B_x.out.c3
  go_wp2_with fail
  clear c0x c1x c2x c3x
  generalize w3.alloc (.cells #[.bool si, (.slice Ai ki ci), .bool ti, (.slice Ci li di)] 26) = W1 at *
  refine (Order_as HO.out (Fd.mk (Rd.below V_xn.out (by exact ⟨rfl, rfl, rfl, Nat.le_refl _, fun _ _ => rfl⟩)) (Rd.below V_xd.out (by exact ⟨rfl, rfl, rfl, Nat.le_refl _, fun _ _ => rfl⟩))) (by omega)).mono ?_
  rintro e w4 ⟨rfl, bb⟩
  replace bb := nextw (w0 := W1) (by exact ⟨rfl, rfl, rfl, Nat.le_refl _, fun _ _ => rfl⟩) bb
  replace B_x := Lib.hid (BoxR.below B_x.out bb B_x.out.lt)
  replace B_i := Lib.hid (BoxR.below B_i.out bb B_i.out.lt)
  replace V_xn := Lib.hid (Rd.below V_xn.out bb)
  replace V_xd := Lib.hid (Rd.below V_xd.out bb)
  replace V_i := Lib.hid (Gc.below V_i.out bb)
  replace HB := Lib.hid (nextw HB.out bb)
  clear bb
  have c0x := B_x.out.c0
  have c1x := B_x.out.c1
  have c2x := B_x.out.c2
  have c3x := B_x.out.c3
  go_wp2_with fail
  refine (Power_r (1 + u) (Fd.mk (Rd.below V_xn.out (by exact ⟨rfl, rfl, rfl, Nat.le_refl _, fun _ _ => rfl⟩)) (Rd.below V_xd.out (by exact ⟨rfl, rfl, rfl, Nat.le_refl _, fun _ _ => rfl⟩))) (by omega) (by omega) (by omega)).mono ?_
  rintro e w5 ⟨va, rfl, ra, bb⟩
  replace bb := nextw (w0 := w4) (by exact ⟨rfl, rfl, rfl, Nat.le_refl _, fun _ _ => rfl⟩) bb
  clear c0x c1x c2x c3x
  replace B_x := Lib.hid (BoxR.below B_x.out bb B_x.out.lt)
  replace B_i := Lib.hid (BoxR.below B_i.out bb B_i.out.lt)
  replace V_xn := Lib.hid (Rd.below V_xn.out bb)
  replace V_xd := Lib.hid (Rd.below V_xd.out bb)
  replace V_i := Lib.hid (Gc.below V_i.out bb)
  replace HB := Lib.hid (nextw HB.out bb)
  clear bb
  obtain ⟨sa, Aa, ka, ca, ta, Ca, la, da, rfl⟩ := ra.shape
  have V_a := Lib.hid ra
  clear ra
  have hb0 : Below w5.heap.size w5 (w5.alloc (.cells #[.bool sa, (.slice Aa ka ca), .bool ta, (.slice Ca la da)] 26)) := (Below.alloc (Below.refl w5.heap.size w5) (by simp <;> omega) _)
  have B_a : BoxR (w5.alloc (.cells #[.bool sa, (.slice Aa ka ca), .bool ta, (.slice Ca la da)] 26)) (w5.heap.size) sa (.slice Aa ka ca) ta (.slice Ca la da) := by have h := BoxR.new w5 sa (.slice Aa ka ca) ta (.slice Ca la da); simpa using h
  replace B_a := Lib.hid B_a
  replace B_x := Lib.hid (BoxR.below B_x.out hb0 B_x.out.lt)
  replace B_i := Lib.hid (BoxR.below B_i.out hb0 B_i.out.lt)
  replace V_xn := Lib.hid (Rd.below V_xn.out hb0)
  replace V_xd := Lib.hid (Rd.below V_xd.out hb0)
  replace V_i := Lib.hid (Gc.below V_i.out hb0)
  replace V_a := Lib.hid (Gc.below V_a.out hb0)
  replace HB := Lib.hid (nextw HB.out hb0)
  clear hb0
  have c0x := B_x.out.c0
  have c1x := B_x.out.c1
  have c2x := B_x.out.c2
  have c3x := B_x.out.c3
  go_wp2_with fail
  clear c0x c1x c2x c3x
  generalize w5.alloc (.cells #[.bool sa, (.slice Aa ka ca), .bool ta, (.slice Ca la da)] 26) = W2 at *
  refine (Power_r 4 (Fd.mk (Rd.below V_xn.out (by exact ⟨rfl, rfl, rfl, Nat.le_refl _, fun _ _ => rfl⟩)) (Rd.below V_xd.out (by exact ⟨rfl, rfl, rfl, Nat.le_refl _, fun _ _ => rfl⟩))) (by omega) (by omega) (by omega)).mono ?_
  rintro e w6 ⟨vb, rfl, rb, bb⟩
  replace bb := nextw (w0 := W2) (by exact ⟨rfl, rfl, rfl, Nat.le_refl _, fun _ _ => rfl⟩) bb
  replace B_x := Lib.hid (BoxR.below B_x.out bb B_x.out.lt)
  replace B_i := Lib.hid (BoxR.below B_i.out bb B_i.out.lt)
  replace B_a := Lib.hid (BoxR.below B_a.out bb B_a.out.lt)
  replace V_xn := Lib.hid (Rd.below V_xn.out bb)
  replace V_xd := Lib.hid (Rd.below V_xd.out bb)
  replace V_i := Lib.hid (Gc.below V_i.out bb)
  replace V_a := Lib.hid (Gc.below V_a.out bb)
  replace HB := Lib.hid (nextw HB.out bb)
  clear bb
  obtain ⟨sb, Ab, kb, cb, tb, Cb, lb, db, rfl⟩ := rb.shape
  have V_b := Lib.hid rb
  clear rb
  have hb0 : Below w6.heap.size w6 (w6.alloc (.cells #[.bool sb, (.slice Ab kb cb), .bool tb, (.slice Cb lb db)] 26)) := (Below.alloc (Below.refl w6.heap.size w6) (by simp <;> omega) _)
  have B_b : BoxR (w6.alloc (.cells #[.bool sb, (.slice Ab kb cb), .bool tb, (.slice Cb lb db)] 26)) (w6.heap.size) sb (.slice Ab kb cb) tb (.slice Cb lb db) := by have h := BoxR.new w6 sb (.slice Ab kb cb) tb (.slice Cb lb db); simpa using h
  replace B_b := Lib.hid B_b
  replace B_x := Lib.hid (BoxR.below B_x.out hb0 B_x.out.lt)
  replace B_i := Lib.hid (BoxR.below B_i.out hb0 B_i.out.lt)
  replace B_a := Lib.hid (BoxR.below B_a.out hb0 B_a.out.lt)
  replace V_xn := Lib.hid (Rd.below V_xn.out hb0)
  replace V_xd := Lib.hid (Rd.below V_xd.out hb0)
  replace V_i := Lib.hid (Gc.below V_i.out hb0)
  replace V_a := Lib.hid (Gc.below V_a.out hb0)
  replace V_b := Lib.hid (Gc.below V_b.out hb0)
  replace HB := Lib.hid (nextw HB.out hb0)
  clear hb0
  have c0b := B_b.out.c0
  have c1b := B_b.out.c1
  have c2b := B_b.out.c2
  have c3b := B_b.out.c3
  have c0i := B_i.out.c0
  have c1i := B_i.out.c1
  have c2i := B_i.out.c2
  have c3i := B_i.out.c3
  go_wp2_with fail
  clear c0b c1b c2b c3b c0i c1i c2i c3i
  generalize w6.alloc (.cells #[.bool sb, (.slice Ab kb cb), .bool tb, (.slice Cb lb db)] 26) = W3 at *
  refine (BRot_g (Gc.below V_b.out (by exact ⟨rfl, rfl, rfl, Nat.le_refl _, fun _ _ => rfl⟩)) (Gc.below V_i.out (by exact ⟨rfl, rfl, rfl, Nat.le_refl _, fun _ _ => rfl⟩)) (by omega) (by omega) HS.out.1 HS.out.2).mono ?_
  rintro e w7 ⟨rfl, bb⟩
  replace bb := nextw (w0 := W3) (by exact ⟨rfl, rfl, rfl, Nat.le_refl _, fun _ _ => rfl⟩) bb
  replace B_x := Lib.hid (BoxR.below B_x.out bb B_x.out.lt)
  replace B_i := Lib.hid (BoxR.below B_i.out bb B_i.out.lt)
  replace B_a := Lib.hid (BoxR.below B_a.out bb B_a.out.lt)
  replace B_b := Lib.hid (BoxR.below B_b.out bb B_b.out.lt)
  replace V_xn := Lib.hid (Rd.below V_xn.out bb)
  replace V_xd := Lib.hid (Rd.below V_xd.out bb)
  replace V_i := Lib.hid (Gc.below V_i.out bb)
  replace V_a := Lib.hid (Gc.below V_a.out bb)
  replace V_b := Lib.hid (Gc.below V_b.out bb)
  replace HB := Lib.hid (nextw HB.out bb)
  clear bb
  have c0a := B_a.out.c0
  have c1a := B_a.out.c1
  have c2a := B_a.out.c2
  have c3a := B_a.out.c3
  have c0i := B_i.out.c0
  have c1i := B_i.out.c1
  have c2i := B_i.out.c2
  have c3i := B_i.out.c3
  go_wp2_with fail
  refine (BRot_g (Gc.below V_a.out (by exact ⟨rfl, rfl, rfl, Nat.le_refl _, fun _ _ => rfl⟩)) (Gc.below V_i.out (by exact ⟨rfl, rfl, rfl, Nat.le_refl _, fun _ _ => rfl⟩)) (by omega) (by omega) HE.out.1 HE.out.2).mono ?_
  rintro e w8 ⟨rfl, bb⟩
  replace bb := nextw (w0 := w7) (by exact ⟨rfl, rfl, rfl, Nat.le_refl _, fun _ _ => rfl⟩) bb
  clear c0a c1a c2a c3a c0i c1i c2i c3i
  replace B_x := Lib.hid (BoxR.below B_x.out bb B_x.out.lt)
  replace B_i := Lib.hid (BoxR.below B_i.out bb B_i.out.lt)
  replace B_a := Lib.hid (BoxR.below B_a.out bb B_a.out.lt)
  replace B_b := Lib.hid (BoxR.below B_b.out bb B_b.out.lt)
  replace V_xn := Lib.hid (Rd.below V_xn.out bb)
  replace V_xd := Lib.hid (Rd.below V_xd.out bb)
  replace V_i := Lib.hid (Gc.below V_i.out bb)
  replace V_a := Lib.hid (Gc.below V_a.out bb)
  replace V_b := Lib.hid (Gc.below V_b.out bb)
  replace HB := Lib.hid (nextw HB.out bb)
  clear bb
  have HBo := HB.out
  go_wp2
  go_ret
  exact ⟨rfl, nextw HBo (by exact ⟨rfl, rfl, rfl, Nat.le_refl _, fun _ _ => rfl⟩)⟩

set_option maxRecDepth 100000 in
set_option maxHeartbeats 16000000 in
theorem Orders_4n {sx : Bool} {Ax : Option Addr} {kx cx : Nat} {tx : Bool} {Cx : Option Addr} {lx dx : Nat} {px qx : Int} {jx : Nat} (n : Int) {w : World} (hx : Fd w (.agg #[.bool sx, .slice Ax kx cx, .bool tx, .slice Cx lx dx]) px qx jx) (htab : Tab10 w) (g0 : kx ≤ 1) (g1 : lx ≤ 1) (g2 : jx ≤ 1) (n1 : -9223372036854775808 ≤ n) (n2 : n ≤ 9223372036854775807) (ho : ordR px qx = 4) (hd : (1 + n % 32) % 4 ≠ 0) :
    Calls Tryz.prog 8 #[.agg #[.bool sx, .slice Ax kx cx, .bool tx, .slice Cx lx dx], .int .i64 n] w fun e w' => e = .returned (.bool true) ∧ Below w.heap.size w w' := by
  have V_xn := Lib.hid hx.num
  have V_xd := Lib.hid hx.den
  have V_tab := Lib.hid htab
  clear hx htab
  have hb0 : Below w.heap.size w (w.alloc (.cells #[.bool sx, (.slice Ax kx cx), .bool tx, (.slice Cx lx dx)] 26)) := (Below.alloc (Below.refl w.heap.size w) (by simp <;> omega) _)
  have B_x : BoxR (w.alloc (.cells #[.bool sx, (.slice Ax kx cx), .bool tx, (.slice Cx lx dx)] 26)) (w.heap.size) sx (.slice Ax kx cx) tx (.slice Cx lx dx) := by have h := BoxR.new w sx (.slice Ax kx cx) tx (.slice Cx lx dx); simpa using h
  replace B_x := Lib.hid B_x
  replace V_xn := Lib.hid (Rd.below V_xn.out hb0)
  replace V_xd := Lib.hid (Rd.below V_xd.out hb0)
  replace V_tab := Lib.hid (tab_below V_tab.out hb0)
  have HB := Lib.hid hb0
  clear hb0
  have c0x := B_x.out.c0
  have c1x := B_x.out.c1
  have c2x := B_x.out.c2
  have c3x := B_x.out.c3
  go_enter Tryz.func8, Tryz.ntmps8
  go_wp2_with fail
  clear c0x c1x c2x c3x
  generalize w.alloc (.cells #[.bool sx, (.slice Ax kx cx), .bool tx, (.slice Cx lx dx)] 26) = W0 at *
  refine (awakeR _ (tab_below V_tab.out (by exact ⟨rfl, rfl, rfl, Nat.le_refl _, fun _ _ => rfl⟩))).mono ?_
  rintro e w1 ⟨rfl, bb⟩
  replace bb := nextw (w0 := W0) (by exact ⟨rfl, rfl, rfl, Nat.le_refl _, fun _ _ => rfl⟩) bb
  replace B_x := Lib.hid (BoxR.below B_x.out bb B_x.out.lt)
  replace V_xn := Lib.hid (Rd.below V_xn.out bb)
  replace V_xd := Lib.hid (Rd.below V_xd.out bb)
  replace V_tab := Lib.hid (tab_below V_tab.out bb)
  replace HB := Lib.hid (nextw HB.out bb)
  clear bb
  have c0x := B_x.out.c0
  have c1x := B_x.out.c1
  have c2x := B_x.out.c2
  have c3x := B_x.out.c3
  clear V_tab
  have HS := Lib.hid (ho ▸ pw_ord px qx)
  have HO := Lib.hid ho
  obtain ⟨u, hu⟩ : ∃ u, n % 32 = u := ⟨_, rfl⟩
  have u1 : 0 ≤ u := by omega
  have u2 : u < 32 := by omega
  have HU := Lib.hid (fun w => Mod_as hu w n1 n2 (by omega) (by omega))
  have hdd : (1 + u) % 4 ≠ 0 := by rw [← hu]; exact hd
  have hbe : ((1 + u) % 4 == 0) = false := by rw [beq_eq_false_iff_ne]; exact hdd
  have HE : Hid (¬ (pwP px qx (1 + u) = 0 ∧ pwQ px qx (1 + u) = 1)) := by unfold Hid; rw [ord_all px qx (1 + u) (by omega) (by omega), ho]; omega
  clear hu n1 n2 ho hd
  go_wp2_with fail
  refine (HU.out _).mono ?_
  rintro e w2 ⟨rfl, bb⟩
  replace bb := nextw (w0 := w1) (by exact ⟨rfl, rfl, rfl, Nat.le_refl _, fun _ _ => rfl⟩) bb
  clear c0x c1x c2x c3x
  replace B_x := Lib.hid (BoxR.below B_x.out bb B_x.out.lt)
  replace V_xn := Lib.hid (Rd.below V_xn.out bb)
  replace V_xd := Lib.hid (Rd.below V_xd.out bb)
  replace HB := Lib.hid (nextw HB.out bb)
  clear bb
  go_wp2_with fail
  refine (Of_r 0 1 (by omega) (by omega) (by omega) (by omega)).mono ?_
  rintro e w3 ⟨vi, rfl, ri, bb⟩
  replace bb := nextw (w0 := w2) (by exact ⟨rfl, rfl, rfl, Nat.le_refl _, fun _ _ => rfl⟩) bb
  replace B_x := Lib.hid (BoxR.below B_x.out bb B_x.out.lt)
  replace V_xn := Lib.hid (Rd.below V_xn.out bb)
  replace V_xd := Lib.hid (Rd.below V_xd.out bb)
  replace HB := Lib.hid (nextw HB.out bb)
  clear bb
  replace ri := ri.of_eq (show cnP 0 1 = 0 by decide +kernel) (show cnQ 0 1 = 1 by decide +kernel)
  obtain ⟨si, Ai, ki, ci, ti, Ci, li, di, rfl⟩ := ri.shape
  have V_i := Lib.hid ri
  clear ri
  have hb0 : Below w3.heap.size w3 (w3.alloc (.cells #[.bool si, (.slice Ai ki ci), .bool ti, (.slice Ci li di)] 26)) := (Below.alloc (Below.refl w3.heap.size w3) (by simp <;> omega) _)
  have B_i : BoxR (w3.alloc (.cells #[.bool si, (.slice Ai ki ci), .bool ti, (.slice Ci li di)] 26)) (w3.heap.size) si (.slice Ai ki ci) ti (.slice Ci li di) := by have h := BoxR.new w3 si (.slice Ai ki ci) ti (.slice Ci li di); simpa using h
  replace B_i := Lib.hid B_i
  replace B_x := Lib.hid (BoxR.below B_x.out hb0 B_x.out.lt)
  replace V_xn := Lib.hid (Rd.below V_xn.out hb0)
  replace V_xd := Lib.hid (Rd.below V_xd.out hb0)
  replace V_i := Lib.hid (Gc.below V_i.out hb0)
  replace HB := Lib.hid (nextw HB.out hb0)
  clear hb0
  have c0x := B_x.out.c0
  have c1x := B_x.out.c1
  have c2x := B_x.out.c2
  have c3x := B_x.out.c3
  go_wp2_with fail
  clear c0x c1x c2x c3x
  generalize w3.alloc (.cells #[.bool si, (.slice Ai ki ci), .bool ti, (.slice Ci li di)] 26) = W1 at *
  refine (Order_as HO.out (Fd.mk (Rd.below V_xn.out (by exact ⟨rfl, rfl, rfl, Nat.le_refl _, fun _ _ => rfl⟩)) (Rd.below V_xd.out (by exact ⟨rfl, rfl, rfl, Nat.le_refl _, fun _ _ => rfl⟩))) (by omega)).mono ?_
  rintro e w4 ⟨rfl, bb⟩
  replace bb := nextw (w0 := W1) (by exact ⟨rfl, rfl, rfl, Nat.le_refl _, fun _ _ => rfl⟩) bb
  replace B_x := Lib.hid (BoxR.below B_x.out bb B_x.out.lt)
  replace B_i := Lib.hid (BoxR.below B_i.out bb B_i.out.lt)
  replace V_xn := Lib.hid (Rd.below V_xn.out bb)
  replace V_xd := Lib.hid (Rd.below V_xd.out bb)
  replace V_i := Lib.hid (Gc.below V_i.out bb)
  replace HB := Lib.hid (nextw HB.out bb)
  clear bb
  have c0x := B_x.out.c0
  have c1x := B_x.out.c1
  have c2x := B_x.out.c2
  have c3x := B_x.out.c3
  go_wp2_with fail
  refine (Power_r (1 + u) (Fd.mk (Rd.below V_xn.out (by exact ⟨rfl, rfl, rfl, Nat.le_refl _, fun _ _ => rfl⟩)) (Rd.below V_xd.out (by exact ⟨rfl, rfl, rfl, Nat.le_refl _, fun _ _ => rfl⟩))) (by omega) (by omega) (by omega)).mono ?_
  rintro e w5 ⟨va, rfl, ra, bb⟩
  replace bb := nextw (w0 := w4) (by exact ⟨rfl, rfl, rfl, Nat.le_refl _, fun _ _ => rfl⟩) bb
  clear c0x c1x c2x c3x
  replace B_x := Lib.hid (BoxR.below B_x.out bb B_x.out.lt)
  replace B_i := Lib.hid (BoxR.below B_i.out bb B_i.out.lt)
  replace V_xn := Lib.hid (Rd.below V_xn.out bb)
  replace V_xd := Lib.hid (Rd.below V_xd.out bb)
  replace V_i := Lib.hid (Gc.below V_i.out bb)
  replace HB := Lib.hid (nextw HB.out bb)
  clear bb
  obtain ⟨sa, Aa, ka, ca, ta, Ca, la, da, rfl⟩ := ra.shape
  have V_a := Lib.hid ra
  clear ra
  have hb0 : Below w5.heap.size w5 (w5.alloc (.cells #[.bool sa, (.slice Aa ka ca), .bool ta, (.slice Ca la da)] 26)) := (Below.alloc (Below.refl w5.heap.size w5) (by simp <;> omega) _)
  have B_a : BoxR (w5.alloc (.cells #[.bool sa, (.slice Aa ka ca), .bool ta, (.slice Ca la da)] 26)) (w5.heap.size) sa (.slice Aa ka ca) ta (.slice Ca la da) := by have h := BoxR.new w5 sa (.slice Aa ka ca) ta (.slice Ca la da); simpa using h
  replace B_a := Lib.hid B_a
  replace B_x := Lib.hid (BoxR.below B_x.out hb0 B_x.out.lt)
  replace B_i := Lib.hid (BoxR.below B_i.out hb0 B_i.out.lt)
  replace V_xn := Lib.hid (Rd.below V_xn.out hb0)
  replace V_xd := Lib.hid (Rd.below V_xd.out hb0)
  replace V_i := Lib.hid (Gc.below V_i.out hb0)
  replace V_a := Lib.hid (Gc.below V_a.out hb0)
  replace HB := Lib.hid (nextw HB.out hb0)
  clear hb0
  have c0x := B_x.out.c0
  have c1x := B_x.out.c1
  have c2x := B_x.out.c2
  have c3x := B_x.out.c3
  go_wp2_with fail
  clear c0x c1x c2x c3x
  generalize w5.alloc (.cells #[.bool sa, (.slice Aa ka ca), .bool ta, (.slice Ca la da)] 26) = W2 at *
  refine (Power_r 4 (Fd.mk (Rd.below V_xn.out (by exact ⟨rfl, rfl, rfl, Nat.le_refl _, fun _ _ => rfl⟩)) (Rd.below V_xd.out (by exact ⟨rfl, rfl, rfl, Nat.le_refl _, fun _ _ => rfl⟩))) (by omega) (by omega) (by omega)).mono ?_
  rintro e w6 ⟨vb, rfl, rb, bb⟩
  replace bb := nextw (w0 := W2) (by exact ⟨rfl, rfl, rfl, Nat.le_refl _, fun _ _ => rfl⟩) bb
  replace B_x := Lib.hid (BoxR.below B_x.out bb B_x.out.lt)
  replace B_i := Lib.hid (BoxR.below B_i.out bb B_i.out.lt)
  replace B_a := Lib.hid (BoxR.below B_a.out bb B_a.out.lt)
  replace V_xn := Lib.hid (Rd.below V_xn.out bb)
  replace V_xd := Lib.hid (Rd.below V_xd.out bb)
  replace V_i := Lib.hid (Gc.below V_i.out bb)
  replace V_a := Lib.hid (Gc.below V_a.out bb)
  replace HB := Lib.hid (nextw HB.out bb)
  clear bb
  obtain ⟨sb, Ab, kb, cb, tb, Cb, lb, db, rfl⟩ := rb.shape
  have V_b := Lib.hid rb
  clear rb
  have hb0 : Below w6.heap.size w6 (w6.alloc (.cells #[.bool sb, (.slice Ab kb cb), .bool tb, (.slice Cb lb db)] 26)) := (Below.alloc (Below.refl w6.heap.size w6) (by simp <;> omega) _)
  have B_b : BoxR (w6.alloc (.cells #[.bool sb, (.slice Ab kb cb), .bool tb, (.slice Cb lb db)] 26)) (w6.heap.size) sb (.slice Ab kb cb) tb (.slice Cb lb db) := by have h := BoxR.new w6 sb (.slice Ab kb cb) tb (.slice Cb lb db); simpa using h
  replace B_b := Lib.hid B_b
  replace B_x := Lib.hid (BoxR.below B_x.out hb0 B_x.out.lt)
  replace B_i := Lib.hid (BoxR.below B_i.out hb0 B_i.out.lt)
  replace B_a := Lib.hid (BoxR.below B_a.out hb0 B_a.out.lt)
  replace V_xn := Lib.hid (Rd.below V_xn.out hb0)
  replace V_xd := Lib.hid (Rd.below V_xd.out hb0)
  replace V_i := Lib.hid (Gc.below V_i.out hb0)
  replace V_a := Lib.hid (Gc.below V_a.out hb0)
  replace V_b := Lib.hid (Gc.below V_b.out hb0)
  replace HB := Lib.hid (nextw HB.out hb0)
  clear hb0
  have c0b := B_b.out.c0
  have c1b := B_b.out.c1
  have c2b := B_b.out.c2
  have c3b := B_b.out.c3
  have c0i := B_i.out.c0
  have c1i := B_i.out.c1
  have c2i := B_i.out.c2
  have c3i := B_i.out.c3
  go_wp2_with fail
  clear c0b c1b c2b c3b c0i c1i c2i c3i
  generalize w6.alloc (.cells #[.bool sb, (.slice Ab kb cb), .bool tb, (.slice Cb lb db)] 26) = W3 at *
  refine (BRot_g (Gc.below V_b.out (by exact ⟨rfl, rfl, rfl, Nat.le_refl _, fun _ _ => rfl⟩)) (Gc.below V_i.out (by exact ⟨rfl, rfl, rfl, Nat.le_refl _, fun _ _ => rfl⟩)) (by omega) (by omega) HS.out.1 HS.out.2).mono ?_
  rintro e w7 ⟨rfl, bb⟩
  replace bb := nextw (w0 := W3) (by exact ⟨rfl, rfl, rfl, Nat.le_refl _, fun _ _ => rfl⟩) bb
  replace B_x := Lib.hid (BoxR.below B_x.out bb B_x.out.lt)
  replace B_i := Lib.hid (BoxR.below B_i.out bb B_i.out.lt)
  replace B_a := Lib.hid (BoxR.below B_a.out bb B_a.out.lt)
  replace B_b := Lib.hid (BoxR.below B_b.out bb B_b.out.lt)
  replace V_xn := Lib.hid (Rd.below V_xn.out bb)
  replace V_xd := Lib.hid (Rd.below V_xd.out bb)
  replace V_i := Lib.hid (Gc.below V_i.out bb)
  replace V_a := Lib.hid (Gc.below V_a.out bb)
  replace V_b := Lib.hid (Gc.below V_b.out bb)
  replace HB := Lib.hid (nextw HB.out bb)
  clear bb
  have c0a := B_a.out.c0
  have c1a := B_a.out.c1
  have c2a := B_a.out.c2
  have c3a := B_a.out.c3
  have c0i := B_i.out.c0
  have c1i := B_i.out.c1
  have c2i := B_i.out.c2
  have c3i := B_i.out.c3
  go_wp2_with fail
  refine (BRot_no (Gc.below V_a.out (by exact ⟨rfl, rfl, rfl, Nat.le_refl _, fun _ _ => rfl⟩)) (Gc.below V_i.out (by exact ⟨rfl, rfl, rfl, Nat.le_refl _, fun _ _ => rfl⟩)) (by omega) (by omega) HE.out).mono ?_
  rintro e w8 ⟨rfl, bb⟩
  replace bb := nextw (w0 := w7) (by exact ⟨rfl, rfl, rfl, Nat.le_refl _, fun _ _ => rfl⟩) bb
  clear c0a c1a c2a c3a c0i c1i c2i c3i
  replace B_x := Lib.hid (BoxR.below B_x.out bb B_x.out.lt)
  replace B_i := Lib.hid (BoxR.below B_i.out bb B_i.out.lt)
  replace B_a := Lib.hid (BoxR.below B_a.out bb B_a.out.lt)
  replace B_b := Lib.hid (BoxR.below B_b.out bb B_b.out.lt)
  replace V_xn := Lib.hid (Rd.below V_xn.out bb)
  replace V_xd := Lib.hid (Rd.below V_xd.out bb)
  replace V_i := Lib.hid (Gc.below V_i.out bb)
  replace V_a := Lib.hid (Gc.below V_a.out bb)
  replace V_b := Lib.hid (Gc.below V_b.out bb)
  replace HB := Lib.hid (nextw HB.out bb)
  clear bb
  have HBo := HB.out
  go_wp2
  go_ret
  exact ⟨rfl, nextw HBo (by exact ⟨rfl, rfl, rfl, Nat.le_refl _, fun _ _ => rfl⟩)⟩

theorem Orders_main {sx : Bool} {Ax : Option Addr} {kx cx : Nat} {tx : Bool} {Cx : Option Addr} {lx dx : Nat} {px qx : Int} {jx : Nat} (n : Int) {w : World} (hx : Fd w (.agg #[.bool sx, .slice Ax kx cx, .bool tx, .slice Cx lx dx]) px qx jx) (htab : Tab10 w) (g0 : kx ≤ 1) (g1 : lx ≤ 1) (g2 : jx ≤ 1) (n1 : -9223372036854775808 ≤ n) (n2 : n ≤ 9223372036854775807) : Calls Tryz.prog 8 #[.agg #[.bool sx, .slice Ax kx cx, .bool tx, .slice Cx lx dx], .int .i64 n] w fun e w' => e = .returned (.bool true) ∧ Below w.heap.size w w' := by
  have h4 : ordR px qx = 0 ∨ ordR px qx = 1 ∨ ordR px qx = 2 ∨ ordR px qx = 4 := by
    unfold ordR; repeat' split
    all_goals omega
  rcases h4 with ho | ho | ho | ho
  · exact Orders_0n n hx htab g0 g1 g2 n1 n2 ho
  · exact Orders_1y n hx htab g0 g1 g2 n1 n2 ho (by omega)
  · by_cases hd : (1 + n % 32) % 2 = 0
    · exact Orders_2y n hx htab g0 g1 g2 n1 n2 ho hd
    · exact Orders_2n n hx htab g0 g1 g2 n1 n2 ho hd
  · by_cases hd : (1 + n % 32) % 4 = 0
    · exact Orders_4y n hx htab g0 g1 g2 n1 n2 ho hd
    · exact Orders_4n n hx htab g0 g1 g2 n1 n2 ho hd
theorem Orders_any {sx : Bool} {Ax : Option Addr} {kx cx : Nat} {tx : Bool} {Cx : Option Addr} {lx dx : Nat} {px qx : Int} {jx : Nat} (n : Int) {w : World} (hx : Fd w (.agg #[.bool sx, .slice Ax kx cx, .bool tx, .slice Cx lx dx]) px qx jx) (htab : Tab10 w) (n1 : -9223372036854775808 ≤ n) (n2 : n ≤ 9223372036854775807) (hj : jx = max kx lx) (mx : kx ≤ 9223372036854775807 ∧ lx ≤ 9223372036854775807) : Calls Tryz.prog 8 #[.agg #[.bool sx, .slice Ax kx cx, .bool tx, .slice Cx lx dx], .int .i64 n] w fun e w' => e = .returned (.bool true) ∧ Below w.heap.size w w' := by
  by_cases g0 : kx ≤ 1
  · by_cases g1 : lx ≤ 1
    · exact Orders_main n hx htab g0 g1 (by omega) n1 n2
    · exact Orders_long1 n hx htab g0 mx.2 (by omega)
  · exact Orders_long0 n hx htab mx.1 (by omega)
end Go.Proofs.YtccndofafljaaaaGreatDoor
