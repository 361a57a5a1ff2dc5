/- The law IntegerDivides: the walk. -/
import Derived.Test.YthfkahccnpkgjaaDoorLarges

set_option linter.unusedVariables false
set_option linter.unusedSimpArgs false

namespace Go.Proofs.YthfkahccnpkgjaaDoor
open Go Go.RowKit Num

theorem Sign_rd_nn {v1 : Value} {z1 : Int} {n1 : Nat} {w : World} (h1 : Rd w v1 z1 n1) (h : 0 ≤ z1) :
    Calls Tryd.prog 15 #[v1] w fun e w' => ∃ c : Int, 0 ≤ c ∧ e = .returned (.int .i64 c) ∧ Below w.heap.size w w' :=
  (Sign_rd h1).mono fun e w' ⟨he, hb⟩ => ⟨_, by unfold sgn; repeat' split <;> omega, he, hb⟩

set_option maxRecDepth 100000 in
set_option maxHeartbeats 8000000 in
theorem Divides_long0 {sx : Bool} {Ax : Option Addr} {kx cx : Nat} {zx : Int} {sy : Bool} {Ay : Option Addr} {ky cy : Nat} {zy : Int} {w : World} (hx : Rd w (.agg #[.bool sx, .slice Ax kx cx]) zx kx) (hy : Rd w (.agg #[.bool sy, .slice Ay ky cy]) zy ky) (htab : Tab10 w) (mx : kx ≤ 9223372036854775807) (hkx : 12 < kx) :
    Calls Tryd.prog 3 #[.agg #[.bool sx, .slice Ax kx cx], .agg #[.bool sy, .slice Ay ky cy]] w fun e w' => e = .returned (.bool true) ∧ Below w.heap.size w w' := by
  have V_x := Lib.hid hx
  have V_y := Lib.hid hy
  have V_tab := Lib.hid htab
  clear hx hy htab
  have hb0 : Below w.heap.size w ((w.alloc (.cells #[.bool sx, (.slice Ax kx cx)] 24)).alloc (.cells #[.bool sy, (.slice Ay ky cy)] 24)) := (Below.alloc (Below.alloc (Below.refl w.heap.size w) (by simp <;> omega) _) (by simp <;> omega) _)
  have B_x : Box ((w.alloc (.cells #[.bool sx, (.slice Ax kx cx)] 24)).alloc (.cells #[.bool sy, (.slice Ay ky cy)] 24)) (w.heap.size) sx (.slice Ax kx cx) := by have h := Box.alloc (Box.new w sx (.slice Ax kx cx)) (.cells #[.bool sy, (.slice Ay ky cy)] 24); simpa using h
  replace B_x := Lib.hid B_x
  have B_y : Box ((w.alloc (.cells #[.bool sx, (.slice Ax kx cx)] 24)).alloc (.cells #[.bool sy, (.slice Ay ky cy)] 24)) (w.heap.size + 1) sy (.slice Ay ky cy) := by have h := Box.new (w.alloc (.cells #[.bool sx, (.slice Ax kx cx)] 24)) sy (.slice Ay ky cy); simpa using h
  replace B_y := Lib.hid B_y
  replace V_x := Lib.hid (Rd.below V_x.out hb0)
  replace V_y := Lib.hid (Rd.below V_y.out hb0)
  replace V_tab := Lib.hid (tab_below V_tab.out hb0)
  have HB := Lib.hid hb0
  clear hb0
  have c0x := B_x.out.c0
  have c1x := B_x.out.c1
  have c0y := B_y.out.c0
  have c1y := B_y.out.c1
  go_enter Tryd.func3, Tryd.ntmps3
  go_wp2_with fail
  clear c0x c1x c0y c1y
  generalize ((w.alloc (.cells #[.bool sx, (.slice Ax kx cx)] 24)).alloc (.cells #[.bool sy, (.slice Ay ky cy)] 24)) = W0 at *
  refine (awake_any _ (tab_below V_tab.out (by exact ⟨rfl, rfl, rfl, Nat.le_refl _, fun _ _ => rfl⟩))).mono ?_
  rintro e w1 ⟨rfl, bb⟩
  replace bb := nextw (w0 := W0) (by exact ⟨rfl, rfl, rfl, Nat.le_refl _, fun _ _ => rfl⟩) bb
  replace B_x := Lib.hid (Box.below B_x.out bb B_x.out.lt)
  replace B_y := Lib.hid (Box.below B_y.out bb B_y.out.lt)
  replace V_x := Lib.hid (Rd.below V_x.out bb)
  replace V_y := Lib.hid (Rd.below V_y.out bb)
  replace V_tab := Lib.hid (tab_below V_tab.out bb)
  replace HB := Lib.hid (nextw HB.out bb)
  clear bb
  have c0x := B_x.out.c0
  have c1x := B_x.out.c1
  go_wp2_with fail
  refine (few_no sx Ax kx cx mx hkx _).mono ?_
  rintro e w2 ⟨rfl, bb⟩
  replace bb := nextw (w0 := w1) (by exact ⟨rfl, rfl, rfl, Nat.le_refl _, fun _ _ => rfl⟩) bb
  clear c0x c1x
  replace B_x := Lib.hid (Box.below B_x.out bb B_x.out.lt)
  replace B_y := Lib.hid (Box.below B_y.out bb B_y.out.lt)
  replace V_x := Lib.hid (Rd.below V_x.out bb)
  replace V_y := Lib.hid (Rd.below V_y.out bb)
  replace V_tab := Lib.hid (tab_below V_tab.out bb)
  replace HB := Lib.hid (nextw HB.out bb)
  clear bb
  go_wp2_with fail
  refine (awake_any _ (tab_below V_tab.out (by exact ⟨rfl, rfl, rfl, Nat.le_refl _, fun _ _ => rfl⟩))).mono ?_
  rintro e w3 ⟨rfl, bb⟩
  replace bb := nextw (w0 := w2) (by exact ⟨rfl, rfl, rfl, Nat.le_refl _, fun _ _ => rfl⟩) bb
  replace B_x := Lib.hid (Box.below B_x.out bb B_x.out.lt)
  replace B_y := Lib.hid (Box.below B_y.out bb B_y.out.lt)
  replace V_x := Lib.hid (Rd.below V_x.out bb)
  replace V_y := Lib.hid (Rd.below V_y.out bb)
  replace V_tab := Lib.hid (tab_below V_tab.out bb)
  replace HB := Lib.hid (nextw HB.out bb)
  clear bb
  have HBo := HB.out
  go_wp2
  go_ret
  exact ⟨rfl, nextw HBo (by exact ⟨rfl, rfl, rfl, Nat.le_refl _, fun _ _ => rfl⟩)⟩

set_option maxRecDepth 100000 in
set_option maxHeartbeats 8000000 in
theorem Divides_long1 {sx : Bool} {Ax : Option Addr} {kx cx : Nat} {zx : Int} {sy : Bool} {Ay : Option Addr} {ky cy : Nat} {zy : Int} {w : World} (hx : Rd w (.agg #[.bool sx, .slice Ax kx cx]) zx kx) (hy : Rd w (.agg #[.bool sy, .slice Ay ky cy]) zy ky) (htab : Tab10 w) (hkx : kx ≤ 12) (my : ky ≤ 9223372036854775807) (hky : 12 < ky) :
    Calls Tryd.prog 3 #[.agg #[.bool sx, .slice Ax kx cx], .agg #[.bool sy, .slice Ay ky cy]] w fun e w' => e = .returned (.bool true) ∧ Below w.heap.size w w' := by
  have V_x := Lib.hid hx
  have V_y := Lib.hid hy
  have V_tab := Lib.hid htab
  clear hx hy htab
  have hb0 : Below w.heap.size w ((w.alloc (.cells #[.bool sx, (.slice Ax kx cx)] 24)).alloc (.cells #[.bool sy, (.slice Ay ky cy)] 24)) := (Below.alloc (Below.alloc (Below.refl w.heap.size w) (by simp <;> omega) _) (by simp <;> omega) _)
  have B_x : Box ((w.alloc (.cells #[.bool sx, (.slice Ax kx cx)] 24)).alloc (.cells #[.bool sy, (.slice Ay ky cy)] 24)) (w.heap.size) sx (.slice Ax kx cx) := by have h := Box.alloc (Box.new w sx (.slice Ax kx cx)) (.cells #[.bool sy, (.slice Ay ky cy)] 24); simpa using h
  replace B_x := Lib.hid B_x
  have B_y : Box ((w.alloc (.cells #[.bool sx, (.slice Ax kx cx)] 24)).alloc (.cells #[.bool sy, (.slice Ay ky cy)] 24)) (w.heap.size + 1) sy (.slice Ay ky cy) := by have h := Box.new (w.alloc (.cells #[.bool sx, (.slice Ax kx cx)] 24)) sy (.slice Ay ky cy); simpa using h
  replace B_y := Lib.hid B_y
  replace V_x := Lib.hid (Rd.below V_x.out hb0)
  replace V_y := Lib.hid (Rd.below V_y.out hb0)
  replace V_tab := Lib.hid (tab_below V_tab.out hb0)
  have HB := Lib.hid hb0
  clear hb0
  have c0x := B_x.out.c0
  have c1x := B_x.out.c1
  have c0y := B_y.out.c0
  have c1y := B_y.out.c1
  go_enter Tryd.func3, Tryd.ntmps3
  go_wp2_with fail
  clear c0x c1x c0y c1y
  generalize ((w.alloc (.cells #[.bool sx, (.slice Ax kx cx)] 24)).alloc (.cells #[.bool sy, (.slice Ay ky cy)] 24)) = W0 at *
  refine (awake_any _ (tab_below V_tab.out (by exact ⟨rfl, rfl, rfl, Nat.le_refl _, fun _ _ => rfl⟩))).mono ?_
  rintro e w1 ⟨rfl, bb⟩
  replace bb := nextw (w0 := W0) (by exact ⟨rfl, rfl, rfl, Nat.le_refl _, fun _ _ => rfl⟩) bb
  replace B_x := Lib.hid (Box.below B_x.out bb B_x.out.lt)
  replace B_y := Lib.hid (Box.below B_y.out bb B_y.out.lt)
  replace V_x := Lib.hid (Rd.below V_x.out bb)
  replace V_y := Lib.hid (Rd.below V_y.out bb)
  replace V_tab := Lib.hid (tab_below V_tab.out bb)
  replace HB := Lib.hid (nextw HB.out bb)
  clear bb
  have c0x := B_x.out.c0
  have c1x := B_x.out.c1
  go_wp2_with fail
  refine (few_yes sx Ax kx cx hkx _).mono ?_
  rintro e w2 ⟨rfl, bb⟩
  replace bb := nextw (w0 := w1) (by exact ⟨rfl, rfl, rfl, Nat.le_refl _, fun _ _ => rfl⟩) bb
  clear c0x c1x
  replace B_x := Lib.hid (Box.below B_x.out bb B_x.out.lt)
  replace B_y := Lib.hid (Box.below B_y.out bb B_y.out.lt)
  replace V_x := Lib.hid (Rd.below V_x.out bb)
  replace V_y := Lib.hid (Rd.below V_y.out bb)
  replace V_tab := Lib.hid (tab_below V_tab.out bb)
  replace HB := Lib.hid (nextw HB.out bb)
  clear bb
  have c0y := B_y.out.c0
  have c1y := B_y.out.c1
  go_wp2_with fail
  refine (few_no sy Ay ky cy my hky _).mono ?_
  rintro e w3 ⟨rfl, bb⟩
  replace bb := nextw (w0 := w2) (by exact ⟨rfl, rfl, rfl, Nat.le_refl _, fun _ _ => rfl⟩) bb
  clear c0y c1y
  replace B_x := Lib.hid (Box.below B_x.out bb B_x.out.lt)
  replace B_y := Lib.hid (Box.below B_y.out bb B_y.out.lt)
  replace V_x := Lib.hid (Rd.below V_x.out bb)
  replace V_y := Lib.hid (Rd.below V_y.out bb)
  replace V_tab := Lib.hid (tab_below V_tab.out bb)
  replace HB := Lib.hid (nextw HB.out bb)
  clear bb
  go_wp2_with fail
  refine (awake_any _ (tab_below V_tab.out (by exact ⟨rfl, rfl, rfl, Nat.le_refl _, fun _ _ => rfl⟩))).mono ?_
  rintro e w4 ⟨rfl, bb⟩
  replace bb := nextw (w0 := w3) (by exact ⟨rfl, rfl, rfl, Nat.le_refl _, fun _ _ => rfl⟩) bb
  replace B_x := Lib.hid (Box.below B_x.out bb B_x.out.lt)
  replace B_y := Lib.hid (Box.below B_y.out bb B_y.out.lt)
  replace V_x := Lib.hid (Rd.below V_x.out bb)
  replace V_y := Lib.hid (Rd.below V_y.out bb)
  replace V_tab := Lib.hid (tab_below V_tab.out bb)
  replace HB := Lib.hid (nextw HB.out bb)
  clear bb
  have HBo := HB.out
  go_wp2
  go_ret
  exact ⟨rfl, nextw HBo (by exact ⟨rfl, rfl, rfl, Nat.le_refl _, fun _ _ => rfl⟩)⟩

set_option maxRecDepth 100000 in
set_option maxHeartbeats 8000000 in
theorem Divides_zero {sx : Bool} {Ax : Option Addr} {kx cx : Nat} {zx : Int} {sy : Bool} {Ay : Option Addr} {ky cy : Nat} {w : World} (hx : Rd w (.agg #[.bool sx, .slice Ax kx cx]) zx kx) (hy : Rd w (.agg #[.bool sy, .slice Ay ky cy]) 0 ky) (htab : Tab10 w) (hkx : kx ≤ 12) (hky : ky ≤ 12) :
    Calls Tryd.prog 3 #[.agg #[.bool sx, .slice Ax kx cx], .agg #[.bool sy, .slice Ay ky cy]] w fun e w' => e = .returned (.bool true) ∧ Below w.heap.size w w' := by
  have V_x := Lib.hid hx
  have V_y := Lib.hid hy
  have V_tab := Lib.hid htab
  clear hx hy htab
  have hb0 : Below w.heap.size w ((w.alloc (.cells #[.bool sx, (.slice Ax kx cx)] 24)).alloc (.cells #[.bool sy, (.slice Ay ky cy)] 24)) := (Below.alloc (Below.alloc (Below.refl w.heap.size w) (by simp <;> omega) _) (by simp <;> omega) _)
  have B_x : Box ((w.alloc (.cells #[.bool sx, (.slice Ax kx cx)] 24)).alloc (.cells #[.bool sy, (.slice Ay ky cy)] 24)) (w.heap.size) sx (.slice Ax kx cx) := by have h := Box.alloc (Box.new w sx (.slice Ax kx cx)) (.cells #[.bool sy, (.slice Ay ky cy)] 24); simpa using h
  replace B_x := Lib.hid B_x
  have B_y : Box ((w.alloc (.cells #[.bool sx, (.slice Ax kx cx)] 24)).alloc (.cells #[.bool sy, (.slice Ay ky cy)] 24)) (w.heap.size + 1) sy (.slice Ay ky cy) := by have h := Box.new (w.alloc (.cells #[.bool sx, (.slice Ax kx cx)] 24)) sy (.slice Ay ky cy); simpa using h
  replace B_y := Lib.hid B_y
  replace V_x := Lib.hid (Rd.below V_x.out hb0)
  replace V_y := Lib.hid (Rd.below V_y.out hb0)
  replace V_tab := Lib.hid (tab_below V_tab.out hb0)
  have HB := Lib.hid hb0
  clear hb0
  have c0x := B_x.out.c0
  have c1x := B_x.out.c1
  have c0y := B_y.out.c0
  have c1y := B_y.out.c1
  go_enter Tryd.func3, Tryd.ntmps3
  go_wp2_with fail
  clear c0x c1x c0y c1y
  generalize ((w.alloc (.cells #[.bool sx, (.slice Ax kx cx)] 24)).alloc (.cells #[.bool sy, (.slice Ay ky cy)] 24)) = W0 at *
  refine (awake_any _ (tab_below V_tab.out (by exact ⟨rfl, rfl, rfl, Nat.le_refl _, fun _ _ => rfl⟩))).mono ?_
  rintro e w1 ⟨rfl, bb⟩
  replace bb := nextw (w0 := W0) (by exact ⟨rfl, rfl, rfl, Nat.le_refl _, fun _ _ => rfl⟩) bb
  replace B_x := Lib.hid (Box.below B_x.out bb B_x.out.lt)
  replace B_y := Lib.hid (Box.below B_y.out bb B_y.out.lt)
  replace V_x := Lib.hid (Rd.below V_x.out bb)
  replace V_y := Lib.hid (Rd.below V_y.out bb)
  replace V_tab := Lib.hid (tab_below V_tab.out bb)
  replace HB := Lib.hid (nextw HB.out bb)
  clear bb
  have c0x := B_x.out.c0
  have c1x := B_x.out.c1
  go_wp2_with fail
  refine (few_yes sx Ax kx cx hkx _).mono ?_
  rintro e w2 ⟨rfl, bb⟩
  replace bb := nextw (w0 := w1) (by exact ⟨rfl, rfl, rfl, Nat.le_refl _, fun _ _ => rfl⟩) bb
  clear c0x c1x
  replace B_x := Lib.hid (Box.below B_x.out bb B_x.out.lt)
  replace B_y := Lib.hid (Box.below B_y.out bb B_y.out.lt)
  replace V_x := Lib.hid (Rd.below V_x.out bb)
  replace V_y := Lib.hid (Rd.below V_y.out bb)
  replace V_tab := Lib.hid (tab_below V_tab.out bb)
  replace HB := Lib.hid (nextw HB.out bb)
  clear bb
  have c0y := B_y.out.c0
  have c1y := B_y.out.c1
  go_wp2_with fail
  refine (few_yes sy Ay ky cy hky _).mono ?_
  rintro e w3 ⟨rfl, bb⟩
  replace bb := nextw (w0 := w2) (by exact ⟨rfl, rfl, rfl, Nat.le_refl _, fun _ _ => rfl⟩) bb
  clear c0y c1y
  replace B_x := Lib.hid (Box.below B_x.out bb B_x.out.lt)
  replace B_y := Lib.hid (Box.below B_y.out bb B_y.out.lt)
  replace V_x := Lib.hid (Rd.below V_x.out bb)
  replace V_y := Lib.hid (Rd.below V_y.out bb)
  replace V_tab := Lib.hid (tab_below V_tab.out bb)
  replace HB := Lib.hid (nextw HB.out bb)
  clear bb
  clear V_tab
  have c0x := B_x.out.c0
  have c1x := B_x.out.c1
  have c0y := B_y.out.c0
  have c1y := B_y.out.c1
  go_wp2_with fail
  refine (DivMod_rd0 (Rd.below V_x.out (by exact ⟨rfl, rfl, rfl, Nat.le_refl _, fun _ _ => rfl⟩)) (Rd.below V_y.out (by exact ⟨rfl, rfl, rfl, Nat.le_refl _, fun _ _ => rfl⟩)) (by omega) (by omega)).mono ?_
  rintro e w4 ⟨rfl, bb⟩
  replace bb := nextw (w0 := w3) (by exact ⟨rfl, rfl, rfl, Nat.le_refl _, fun _ _ => rfl⟩) bb
  clear c0x c1x c0y c1y
  replace B_x := Lib.hid (Box.below B_x.out bb B_x.out.lt)
  replace B_y := Lib.hid (Box.below B_y.out bb B_y.out.lt)
  replace V_x := Lib.hid (Rd.below V_x.out bb)
  replace V_y := Lib.hid (Rd.below V_y.out bb)
  replace HB := Lib.hid (nextw HB.out bb)
  clear bb
  have hb0 : Below w4.heap.size w4 ((w4.alloc (.cells #[.bool false, (.slice none 0 0)] 24)).alloc (.cells #[.bool false, (.slice none 0 0)] 24)) := (Below.alloc (Below.alloc (Below.refl w4.heap.size w4) (by simp <;> omega) _) (by simp <;> omega) _)
  have B_q : Box ((w4.alloc (.cells #[.bool false, (.slice none 0 0)] 24)).alloc (.cells #[.bool false, (.slice none 0 0)] 24)) (w4.heap.size) false (.slice none 0 0) := by have h := Box.alloc (Box.new w4 false (.slice none 0 0)) (.cells #[.bool false, (.slice none 0 0)] 24); simpa using h
  replace B_q := Lib.hid B_q
  have B_r : Box ((w4.alloc (.cells #[.bool false, (.slice none 0 0)] 24)).alloc (.cells #[.bool false, (.slice none 0 0)] 24)) (w4.heap.size + 1) false (.slice none 0 0) := by have h := Box.new (w4.alloc (.cells #[.bool false, (.slice none 0 0)] 24)) false (.slice none 0 0); simpa using h
  replace B_r := Lib.hid B_r
  replace B_x := Lib.hid (Box.below B_x.out hb0 B_x.out.lt)
  replace B_y := Lib.hid (Box.below B_y.out hb0 B_y.out.lt)
  replace V_x := Lib.hid (Rd.below V_x.out hb0)
  replace V_y := Lib.hid (Rd.below V_y.out hb0)
  replace HB := Lib.hid (nextw HB.out hb0)
  clear hb0
  have c0x := B_x.out.c0
  have c1x := B_x.out.c1
  have c0y := B_y.out.c0
  have c1y := B_y.out.c1
  have c0q := B_q.out.c0
  have c1q := B_q.out.c1
  have c0r := B_r.out.c0
  have c1r := B_r.out.c1
  go_wp2_with fail
  clear c0x c1x c0y c1y c0q c1q c0r c1r
  generalize ((w4.alloc (.cells #[.bool false, (.slice none 0 0)] 24)).alloc (.cells #[.bool false, (.slice none 0 0)] 24)) = W1 at *
  refine (Sign_rd_eq (Rd.below V_y.out (by exact ⟨rfl, rfl, rfl, Nat.le_refl _, fun _ _ => rfl⟩)) rfl).mono ?_
  rintro e w5 ⟨rfl, bb⟩
  replace bb := nextw (w0 := W1) (by exact ⟨rfl, rfl, rfl, Nat.le_refl _, fun _ _ => rfl⟩) bb
  replace B_x := Lib.hid (Box.below B_x.out bb B_x.out.lt)
  replace B_y := Lib.hid (Box.below B_y.out bb B_y.out.lt)
  replace B_q := Lib.hid (Box.below B_q.out bb B_q.out.lt)
  replace B_r := Lib.hid (Box.below B_r.out bb B_r.out.lt)
  replace V_x := Lib.hid (Rd.below V_x.out bb)
  replace V_y := Lib.hid (Rd.below V_y.out bb)
  replace HB := Lib.hid (nextw HB.out bb)
  clear bb
  have c0q := B_q.out.c0
  have c1q := B_q.out.c1
  have c0r := B_r.out.c0
  have c1r := B_r.out.c1
  have HBo := HB.out
  go_wp2
  go_ret
  exact ⟨rfl, nextw HBo (by exact ⟨rfl, rfl, rfl, Nat.le_refl _, fun _ _ => rfl⟩)⟩

theorem Sign_rd_ne {v1 : Value} {z1 : Int} {n1 : Nat} {w : World} (h1 : Rd w v1 z1 n1) (h : z1 ≠ 0) :
    Calls Tryd.prog 15 #[v1] w fun e w' => ∃ c : Int, c ≠ 0 ∧ e = .returned (.int .i64 c) ∧ Below w.heap.size w w' :=
  (Sign_rd h1).mono fun e w' ⟨he, hb⟩ => ⟨_, by unfold sgn; repeat' split <;> omega, he, hb⟩

set_option maxRecDepth 100000 in
set_option maxHeartbeats 8000000 in
theorem Divides_div {sx : Bool} {Ax : Option Addr} {kx cx : Nat} {zx : Int} {sy : Bool} {Ay : Option Addr} {ky cy : Nat} {zy : Int} {w : World} (hx : Rd w (.agg #[.bool sx, .slice Ax kx cx]) zx kx) (hy : Rd w (.agg #[.bool sy, .slice Ay ky cy]) zy ky) (htab : Tab10 w) (hkx : kx ≤ 12) (hky : ky ≤ 12) (h0 : zy ≠ 0) :
    Calls Tryd.prog 3 #[.agg #[.bool sx, .slice Ax kx cx], .agg #[.bool sy, .slice Ay ky cy]] w fun e w' => e = .returned (.bool true) ∧ Below w.heap.size w w' := by
  have V_x := Lib.hid hx
  have V_y := Lib.hid hy
  have V_tab := Lib.hid htab
  clear hx hy htab
  have hb0 : Below w.heap.size w ((w.alloc (.cells #[.bool sx, (.slice Ax kx cx)] 24)).alloc (.cells #[.bool sy, (.slice Ay ky cy)] 24)) := (Below.alloc (Below.alloc (Below.refl w.heap.size w) (by simp <;> omega) _) (by simp <;> omega) _)
  have B_x : Box ((w.alloc (.cells #[.bool sx, (.slice Ax kx cx)] 24)).alloc (.cells #[.bool sy, (.slice Ay ky cy)] 24)) (w.heap.size) sx (.slice Ax kx cx) := by have h := Box.alloc (Box.new w sx (.slice Ax kx cx)) (.cells #[.bool sy, (.slice Ay ky cy)] 24); simpa using h
  replace B_x := Lib.hid B_x
  have B_y : Box ((w.alloc (.cells #[.bool sx, (.slice Ax kx cx)] 24)).alloc (.cells #[.bool sy, (.slice Ay ky cy)] 24)) (w.heap.size + 1) sy (.slice Ay ky cy) := by have h := Box.new (w.alloc (.cells #[.bool sx, (.slice Ax kx cx)] 24)) sy (.slice Ay ky cy); simpa using h
  replace B_y := Lib.hid B_y
  replace V_x := Lib.hid (Rd.below V_x.out hb0)
  replace V_y := Lib.hid (Rd.below V_y.out hb0)
  replace V_tab := Lib.hid (tab_below V_tab.out hb0)
  have HB := Lib.hid hb0
  clear hb0
  have c0x := B_x.out.c0
  have c1x := B_x.out.c1
  have c0y := B_y.out.c0
  have c1y := B_y.out.c1
  go_enter Tryd.func3, Tryd.ntmps3
  go_wp2_with fail
  clear c0x c1x c0y c1y
  generalize ((w.alloc (.cells #[.bool sx, (.slice Ax kx cx)] 24)).alloc (.cells #[.bool sy, (.slice Ay ky cy)] 24)) = W0 at *
  refine (awake_any _ (tab_below V_tab.out (by exact ⟨rfl, rfl, rfl, Nat.le_refl _, fun _ _ => rfl⟩))).mono ?_
  rintro e w1 ⟨rfl, bb⟩
  replace bb := nextw (w0 := W0) (by exact ⟨rfl, rfl, rfl, Nat.le_refl _, fun _ _ => rfl⟩) bb
  replace B_x := Lib.hid (Box.below B_x.out bb B_x.out.lt)
  replace B_y := Lib.hid (Box.below B_y.out bb B_y.out.lt)
  replace V_x := Lib.hid (Rd.below V_x.out bb)
  replace V_y := Lib.hid (Rd.below V_y.out bb)
  replace V_tab := Lib.hid (tab_below V_tab.out bb)
  replace HB := Lib.hid (nextw HB.out bb)
  clear bb
  have c0x := B_x.out.c0
  have c1x := B_x.out.c1
  go_wp2_with fail
  refine (few_yes sx Ax kx cx hkx _).mono ?_
  rintro e w2 ⟨rfl, bb⟩
  replace bb := nextw (w0 := w1) (by exact ⟨rfl, rfl, rfl, Nat.le_refl _, fun _ _ => rfl⟩) bb
  clear c0x c1x
  replace B_x := Lib.hid (Box.below B_x.out bb B_x.out.lt)
  replace B_y := Lib.hid (Box.below B_y.out bb B_y.out.lt)
  replace V_x := Lib.hid (Rd.below V_x.out bb)
  replace V_y := Lib.hid (Rd.below V_y.out bb)
  replace V_tab := Lib.hid (tab_below V_tab.out bb)
  replace HB := Lib.hid (nextw HB.out bb)
  clear bb
  have c0y := B_y.out.c0
  have c1y := B_y.out.c1
  go_wp2_with fail
  refine (few_yes sy Ay ky cy hky _).mono ?_
  rintro e w3 ⟨rfl, bb⟩
  replace bb := nextw (w0 := w2) (by exact ⟨rfl, rfl, rfl, Nat.le_refl _, fun _ _ => rfl⟩) bb
  clear c0y c1y
  replace B_x := Lib.hid (Box.below B_x.out bb B_x.out.lt)
  replace B_y := Lib.hid (Box.below B_y.out bb B_y.out.lt)
  replace V_x := Lib.hid (Rd.below V_x.out bb)
  replace V_y := Lib.hid (Rd.below V_y.out bb)
  replace V_tab := Lib.hid (tab_below V_tab.out bb)
  replace HB := Lib.hid (nextw HB.out bb)
  clear bb
  clear V_tab
  have c0x := B_x.out.c0
  have c1x := B_x.out.c1
  have c0y := B_y.out.c0
  have c1y := B_y.out.c1
  go_wp2_with fail
  refine (DivMod_rd (Rd.below V_x.out (by exact ⟨rfl, rfl, rfl, Nat.le_refl _, fun _ _ => rfl⟩)) (Rd.below V_y.out (by exact ⟨rfl, rfl, rfl, Nat.le_refl _, fun _ _ => rfl⟩)) (by omega) (by omega) h0).mono ?_
  rintro e w4 ⟨vq, vr, rfl, rq, rr, bb⟩
  replace bb := nextw (w0 := w3) (by exact ⟨rfl, rfl, rfl, Nat.le_refl _, fun _ _ => rfl⟩) bb
  clear c0x c1x c0y c1y
  replace B_x := Lib.hid (Box.below B_x.out bb B_x.out.lt)
  replace B_y := Lib.hid (Box.below B_y.out bb B_y.out.lt)
  replace V_x := Lib.hid (Rd.below V_x.out bb)
  replace V_y := Lib.hid (Rd.below V_y.out bb)
  replace HB := Lib.hid (nextw HB.out bb)
  clear bb
  obtain ⟨sq, Aq, kq, cq, rfl⟩ := rq.shape
  obtain ⟨sr, Ar, kr, cr, rfl⟩ := rr.shape
  have V_q := Lib.hid rq
  have V_r := Lib.hid rr
  clear rq rr
  have hb0 : Below w4.heap.size w4 ((w4.alloc (.cells #[.bool sq, (.slice Aq kq cq)] 24)).alloc (.cells #[.bool sr, (.slice Ar kr cr)] 24)) := (Below.alloc (Below.alloc (Below.refl w4.heap.size w4) (by simp <;> omega) _) (by simp <;> omega) _)
  have B_q : Box ((w4.alloc (.cells #[.bool sq, (.slice Aq kq cq)] 24)).alloc (.cells #[.bool sr, (.slice Ar kr cr)] 24)) (w4.heap.size) sq (.slice Aq kq cq) := by have h := Box.alloc (Box.new w4 sq (.slice Aq kq cq)) (.cells #[.bool sr, (.slice Ar kr cr)] 24); simpa using h
  replace B_q := Lib.hid B_q
  have B_r : Box ((w4.alloc (.cells #[.bool sq, (.slice Aq kq cq)] 24)).alloc (.cells #[.bool sr, (.slice Ar kr cr)] 24)) (w4.heap.size + 1) sr (.slice Ar kr cr) := by have h := Box.new (w4.alloc (.cells #[.bool sq, (.slice Aq kq cq)] 24)) sr (.slice Ar kr cr); simpa using h
  replace B_r := Lib.hid B_r
  replace B_x := Lib.hid (Box.below B_x.out hb0 B_x.out.lt)
  replace B_y := Lib.hid (Box.below B_y.out hb0 B_y.out.lt)
  replace V_x := Lib.hid (Rd.below V_x.out hb0)
  replace V_y := Lib.hid (Rd.below V_y.out hb0)
  replace V_q := Lib.hid (Rc.below V_q.out hb0)
  replace V_r := Lib.hid (Rc.below V_r.out hb0)
  replace HB := Lib.hid (nextw HB.out hb0)
  clear hb0
  have c0x := B_x.out.c0
  have c1x := B_x.out.c1
  have c0y := B_y.out.c0
  have c1y := B_y.out.c1
  have c0q := B_q.out.c0
  have c1q := B_q.out.c1
  have c0r := B_r.out.c0
  have c1r := B_r.out.c1
  go_wp2_with fail
  clear c0x c1x c0y c1y c0q c1q c0r c1r
  generalize ((w4.alloc (.cells #[.bool sq, (.slice Aq kq cq)] 24)).alloc (.cells #[.bool sr, (.slice Ar kr cr)] 24)) = W1 at *
  refine (Sign_rd_ne (Rd.below V_y.out (by exact ⟨rfl, rfl, rfl, Nat.le_refl _, fun _ _ => rfl⟩)) h0).mono ?_
  rintro e w5 ⟨cg, hcy, rfl, bb⟩
  replace bb := nextw (w0 := W1) (by exact ⟨rfl, rfl, rfl, Nat.le_refl _, fun _ _ => rfl⟩) bb
  replace B_x := Lib.hid (Box.below B_x.out bb B_x.out.lt)
  replace B_y := Lib.hid (Box.below B_y.out bb B_y.out.lt)
  replace B_q := Lib.hid (Box.below B_q.out bb B_q.out.lt)
  replace B_r := Lib.hid (Box.below B_r.out bb B_r.out.lt)
  replace V_x := Lib.hid (Rd.below V_x.out bb)
  replace V_y := Lib.hid (Rd.below V_y.out bb)
  replace V_q := Lib.hid (Rc.below V_q.out bb)
  replace V_r := Lib.hid (Rc.below V_r.out bb)
  replace HB := Lib.hid (nextw HB.out bb)
  clear bb
  have hd0 : (cg == 0) = false := beq_eq_false_iff_ne.2 hcy
  clear hcy
  have c0x := B_x.out.c0
  have c1x := B_x.out.c1
  have c0y := B_y.out.c0
  have c1y := B_y.out.c1
  have c0q := B_q.out.c0
  have c1q := B_q.out.c1
  have c0r := B_r.out.c0
  have c1r := B_r.out.c1
  go_wp2
  have c0x := B_x.out.c0
  have c1x := B_x.out.c1
  have c0y := B_y.out.c0
  have c1y := B_y.out.c1
  have c0q := B_q.out.c0
  have c1q := B_q.out.c1
  have c0r := B_r.out.c0
  have c1r := B_r.out.c1
  have tk0 : True := trivial
  first | (go_region_held3 (fun w' => w'.cell? ⟨w.heap.size, 0, none⟩ = some (.bool sx) ∧ w'.cell? ⟨w.heap.size, 1, none⟩ = some (.slice Ax kx cx) ∧ w'.cell? ⟨w.heap.size + 1, 0, none⟩ = some (.bool sy) ∧ w'.cell? ⟨w.heap.size + 1, 1, none⟩ = some (.slice Ay ky cy) ∧ w'.cell? ⟨w4.heap.size, 0, none⟩ = some (.bool sq) ∧ w'.cell? ⟨w4.heap.size, 1, none⟩ = some (.slice Aq kq cq) ∧ w'.cell? ⟨w4.heap.size + 1, 0, none⟩ = some (.bool sr) ∧ w'.cell? ⟨w4.heap.size + 1, 1, none⟩ = some (.slice Ar kr cr)) (((try dsimp only); (repeat' apply And.intro) <;> (first | assumption | go_keep)))
    (first
      | (have _t := tk0; clear _t tk0; go_at_call 18; refine (Mul_rd (Rc.rd (Rc.below V_q.out (by exact ⟨rfl, rfl, rfl, Nat.le_refl _, fun _ _ => rfl⟩))) (Rd.below V_y.out (by exact ⟨rfl, rfl, rfl, Nat.le_refl _, fun _ _ => rfl⟩)) (by omega) (by omega)).mono ?_; rintro e w6 ⟨va1, rfl, ra1, bb⟩; replace bb := nextw (w0 := w5) (by exact ⟨rfl, rfl, rfl, Nat.le_refl _, fun _ _ => rfl⟩) bb; replace B_x := Lib.hid (Box.below B_x.out bb B_x.out.lt); replace B_y := Lib.hid (Box.below B_y.out bb B_y.out.lt); replace B_q := Lib.hid (Box.below B_q.out bb B_q.out.lt); replace B_r := Lib.hid (Box.below B_r.out bb B_r.out.lt); replace V_x := Lib.hid (Rd.below V_x.out bb); replace V_y := Lib.hid (Rd.below V_y.out bb); replace V_q := Lib.hid (Rc.below V_q.out bb); replace V_r := Lib.hid (Rc.below V_r.out bb); replace HB := Lib.hid (nextw HB.out bb); clear bb; replace ra1 := Lib.hid ra1; have V_a1 := ra1; clear ra1; have c0x := B_x.out.c0; have c1x := B_x.out.c1; have c0y := B_y.out.c0; have c1y := B_y.out.c1; have c0q := B_q.out.c0; have c1q := B_q.out.c1; have c0r := B_r.out.c0; have c1r := B_r.out.c1; have tk1 : True := trivial)
      | (have _t := tk1; clear _t tk1; go_at_call 17; refine (Add_rd (Rc.rd (Rc.below V_a1.out (by exact ⟨rfl, rfl, rfl, Nat.le_refl _, fun _ _ => rfl⟩))) (Rc.rd (Rc.below V_r.out (by exact ⟨rfl, rfl, rfl, Nat.le_refl _, fun _ _ => rfl⟩))) (by omega) (by omega)).mono ?_; rintro e w7 ⟨va2, rfl, ra2, bb⟩; replace bb := nextw (w0 := w6) (by exact ⟨rfl, rfl, rfl, Nat.le_refl _, fun _ _ => rfl⟩) bb; clear V_a1; replace B_x := Lib.hid (Box.below B_x.out bb B_x.out.lt); replace B_y := Lib.hid (Box.below B_y.out bb B_y.out.lt); replace B_q := Lib.hid (Box.below B_q.out bb B_q.out.lt); replace B_r := Lib.hid (Box.below B_r.out bb B_r.out.lt); replace V_x := Lib.hid (Rd.below V_x.out bb); replace V_y := Lib.hid (Rd.below V_y.out bb); replace V_q := Lib.hid (Rc.below V_q.out bb); replace V_r := Lib.hid (Rc.below V_r.out bb); replace HB := Lib.hid (nextw HB.out bb); clear bb; replace ra2 := Lib.hid ra2; have V_a2 := ra2; clear ra2; have c0x := B_x.out.c0; have c1x := B_x.out.c1; have c0y := B_y.out.c0; have c1y := B_y.out.c1; have c0q := B_q.out.c0; have c1q := B_q.out.c1; have c0r := B_r.out.c0; have c1r := B_r.out.c1; have tk2 : True := trivial)
      | (have _t := tk2; clear _t tk2; go_at_call 16; refine (Cmp_rd_eq (Rc.rd (Rc.below V_a2.out (by exact ⟨rfl, rfl, rfl, Nat.le_refl _, fun _ _ => rfl⟩))) (Rd.below V_x.out (by exact ⟨rfl, rfl, rfl, Nat.le_refl _, fun _ _ => rfl⟩)) (by omega) (by omega) (by rw [Int.mul_comm]; exact Int.mul_ediv_add_emod _ _)).mono ?_; rintro e w8 ⟨rfl, bb⟩; replace bb := nextw (w0 := w7) (by exact ⟨rfl, rfl, rfl, Nat.le_refl _, fun _ _ => rfl⟩) bb; clear V_a2; replace B_x := Lib.hid (Box.below B_x.out bb B_x.out.lt); replace B_y := Lib.hid (Box.below B_y.out bb B_y.out.lt); replace B_q := Lib.hid (Box.below B_q.out bb B_q.out.lt); replace B_r := Lib.hid (Box.below B_r.out bb B_r.out.lt); replace V_x := Lib.hid (Rd.below V_x.out bb); replace V_y := Lib.hid (Rd.below V_y.out bb); replace V_q := Lib.hid (Rc.below V_q.out bb); replace V_r := Lib.hid (Rc.below V_r.out bb); replace HB := Lib.hid (nextw HB.out bb); clear bb; have c0x := B_x.out.c0; have c1x := B_x.out.c1; have c0y := B_y.out.c0; have c1y := B_y.out.c1; have c0q := B_q.out.c0; have c1q := B_q.out.c1; have c0r := B_r.out.c0; have c1r := B_r.out.c1; have tk3 : True := trivial)
      | (have _t := tk3; clear _t tk3; go_at_call 15; refine (Sign_rd_nn (Rc.rd (Rc.below V_r.out (by exact ⟨rfl, rfl, rfl, Nat.le_refl _, fun _ _ => rfl⟩))) (Int.emod_nonneg _ h0)).mono ?_; rintro e w9 ⟨cs, hcs, rfl, bb⟩; replace bb := nextw (w0 := w8) (by exact ⟨rfl, rfl, rfl, Nat.le_refl _, fun _ _ => rfl⟩) bb; replace B_x := Lib.hid (Box.below B_x.out bb B_x.out.lt); replace B_y := Lib.hid (Box.below B_y.out bb B_y.out.lt); replace B_q := Lib.hid (Box.below B_q.out bb B_q.out.lt); replace B_r := Lib.hid (Box.below B_r.out bb B_r.out.lt); replace V_x := Lib.hid (Rd.below V_x.out bb); replace V_y := Lib.hid (Rd.below V_y.out bb); replace V_q := Lib.hid (Rc.below V_q.out bb); replace V_r := Lib.hid (Rc.below V_r.out bb); replace HB := Lib.hid (nextw HB.out bb); clear bb; have hdc : decide (0 ≤ cs) = true := decide_eq_true hcs; have c0x := B_x.out.c0; have c1x := B_x.out.c1; have c0y := B_y.out.c0; have c1y := B_y.out.c1; have c0q := B_q.out.c0; have c1q := B_q.out.c1; have c0r := B_r.out.c0; have c1r := B_r.out.c1; have tk4 : True := trivial)
      | (have _t := tk4; clear _t tk4; go_at_call 19; refine (Abs_rd (Rd.below V_y.out (by exact ⟨rfl, rfl, rfl, Nat.le_refl _, fun _ _ => rfl⟩)) (by omega)).mono ?_; rintro e w10 ⟨vb1, rfl, rb1, bb⟩; replace bb := nextw (w0 := w9) (by exact ⟨rfl, rfl, rfl, Nat.le_refl _, fun _ _ => rfl⟩) bb; replace B_x := Lib.hid (Box.below B_x.out bb B_x.out.lt); replace B_y := Lib.hid (Box.below B_y.out bb B_y.out.lt); replace B_q := Lib.hid (Box.below B_q.out bb B_q.out.lt); replace B_r := Lib.hid (Box.below B_r.out bb B_r.out.lt); replace V_x := Lib.hid (Rd.below V_x.out bb); replace V_y := Lib.hid (Rd.below V_y.out bb); replace V_q := Lib.hid (Rc.below V_q.out bb); replace V_r := Lib.hid (Rc.below V_r.out bb); replace HB := Lib.hid (nextw HB.out bb); clear bb; replace rb1 := Lib.hid rb1; have V_b1 := rb1; clear rb1; have c0x := B_x.out.c0; have c1x := B_x.out.c1; have c0y := B_y.out.c0; have c1y := B_y.out.c1; have c0q := B_q.out.c0; have c1q := B_q.out.c1; have c0r := B_r.out.c0; have c1r := B_r.out.c1; have tk5 : True := trivial)
      | (have _t := tk5; clear _t tk5; go_at_call 16; refine (Cmp_rd_lt (Rc.rd (Rc.below V_r.out (by exact ⟨rfl, rfl, rfl, Nat.le_refl _, fun _ _ => rfl⟩))) (Rc.rd (Rc.below V_b1.out (by exact ⟨rfl, rfl, rfl, Nat.le_refl _, fun _ _ => rfl⟩))) (by omega) (by omega) (Int.emod_lt _ h0)).mono ?_; rintro e w11 ⟨rfl, bb⟩; replace bb := nextw (w0 := w10) (by exact ⟨rfl, rfl, rfl, Nat.le_refl _, fun _ _ => rfl⟩) bb; clear V_b1; replace B_x := Lib.hid (Box.below B_x.out bb B_x.out.lt); replace B_y := Lib.hid (Box.below B_y.out bb B_y.out.lt); replace B_q := Lib.hid (Box.below B_q.out bb B_q.out.lt); replace B_r := Lib.hid (Box.below B_r.out bb B_r.out.lt); replace V_x := Lib.hid (Rd.below V_x.out bb); replace V_y := Lib.hid (Rd.below V_y.out bb); replace V_q := Lib.hid (Rc.below V_q.out bb); replace V_r := Lib.hid (Rc.below V_r.out bb); replace HB := Lib.hid (nextw HB.out bb); clear bb; have c0x := B_x.out.c0; have c1x := B_x.out.c1; have c0y := B_y.out.c0; have c1y := B_y.out.c1; have c0q := B_q.out.c0; have c1q := B_q.out.c1; have c0r := B_r.out.c0; have c1r := B_r.out.c1; have tk6 : True := trivial)
      | (have _t := tk6; clear _t tk6; go_at_call 21; refine (RNorm_rd (Rc.rd (Rc.below V_q.out (by exact ⟨rfl, rfl, rfl, Nat.le_refl _, fun _ _ => rfl⟩))) (by omega)).mono ?_; rintro e w12 ⟨vc1, rfl, rc1, bb⟩; replace bb := nextw (w0 := w11) (by exact ⟨rfl, rfl, rfl, Nat.le_refl _, fun _ _ => rfl⟩) bb; replace B_x := Lib.hid (Box.below B_x.out bb B_x.out.lt); replace B_y := Lib.hid (Box.below B_y.out bb B_y.out.lt); replace B_q := Lib.hid (Box.below B_q.out bb B_q.out.lt); replace B_r := Lib.hid (Box.below B_r.out bb B_r.out.lt); replace V_x := Lib.hid (Rd.below V_x.out bb); replace V_y := Lib.hid (Rd.below V_y.out bb); replace V_q := Lib.hid (Rc.below V_q.out bb); replace V_r := Lib.hid (Rc.below V_r.out bb); replace HB := Lib.hid (nextw HB.out bb); clear bb; replace rc1 := Lib.hid rc1; have V_c1 := rc1; clear rc1; have c0x := B_x.out.c0; have c1x := B_x.out.c1; have c0y := B_y.out.c0; have c1y := B_y.out.c1; have c0q := B_q.out.c0; have c1q := B_q.out.c1; have c0r := B_r.out.c0; have c1r := B_r.out.c1; have tk7 : True := trivial)
      | (have _t := tk7; clear _t tk7; go_at_call 20; refine (Same_rc (Rc.below V_q.out (by exact ⟨rfl, rfl, rfl, Nat.le_refl _, fun _ _ => rfl⟩)) (Rc.below V_c1.out (by exact ⟨rfl, rfl, rfl, Nat.le_refl _, fun _ _ => rfl⟩)) (by omega) (by omega) (rfl)).mono ?_; rintro e w13 ⟨rfl, bb⟩; replace bb := nextw (w0 := w12) (by exact ⟨rfl, rfl, rfl, Nat.le_refl _, fun _ _ => rfl⟩) bb; clear V_c1; replace B_x := Lib.hid (Box.below B_x.out bb B_x.out.lt); replace B_y := Lib.hid (Box.below B_y.out bb B_y.out.lt); replace B_q := Lib.hid (Box.below B_q.out bb B_q.out.lt); replace B_r := Lib.hid (Box.below B_r.out bb B_r.out.lt); replace V_x := Lib.hid (Rd.below V_x.out bb); replace V_y := Lib.hid (Rd.below V_y.out bb); replace V_q := Lib.hid (Rc.below V_q.out bb); replace V_r := Lib.hid (Rc.below V_r.out bb); replace HB := Lib.hid (nextw HB.out bb); clear bb; have c0x := B_x.out.c0; have c1x := B_x.out.c1; have c0y := B_y.out.c0; have c1y := B_y.out.c1; have c0q := B_q.out.c0; have c1q := B_q.out.c1; have c0r := B_r.out.c0; have c1r := B_r.out.c1; have tk8 : True := trivial)
      | (have _t := tk8; clear _t tk8; go_at_call 21; refine (RNorm_rd (Rc.rd (Rc.below V_r.out (by exact ⟨rfl, rfl, rfl, Nat.le_refl _, fun _ _ => rfl⟩))) (by omega)).mono ?_; rintro e w14 ⟨vd1, rfl, rd1, bb⟩; replace bb := nextw (w0 := w13) (by exact ⟨rfl, rfl, rfl, Nat.le_refl _, fun _ _ => rfl⟩) bb; replace B_x := Lib.hid (Box.below B_x.out bb B_x.out.lt); replace B_y := Lib.hid (Box.below B_y.out bb B_y.out.lt); replace B_q := Lib.hid (Box.below B_q.out bb B_q.out.lt); replace B_r := Lib.hid (Box.below B_r.out bb B_r.out.lt); replace V_x := Lib.hid (Rd.below V_x.out bb); replace V_y := Lib.hid (Rd.below V_y.out bb); replace V_q := Lib.hid (Rc.below V_q.out bb); replace V_r := Lib.hid (Rc.below V_r.out bb); replace HB := Lib.hid (nextw HB.out bb); clear bb; replace rd1 := Lib.hid rd1; have V_d1 := rd1; clear rd1; have c0x := B_x.out.c0; have c1x := B_x.out.c1; have c0y := B_y.out.c0; have c1y := B_y.out.c1; have c0q := B_q.out.c0; have c1q := B_q.out.c1; have c0r := B_r.out.c0; have c1r := B_r.out.c1; have tk9 : True := trivial)
      | (have _t := tk9; clear _t tk9; go_at_call 20; refine (Same_rc (Rc.below V_r.out (by exact ⟨rfl, rfl, rfl, Nat.le_refl _, fun _ _ => rfl⟩)) (Rc.below V_d1.out (by exact ⟨rfl, rfl, rfl, Nat.le_refl _, fun _ _ => rfl⟩)) (by omega) (by omega) (rfl)).mono ?_; rintro e w15 ⟨rfl, bb⟩; replace bb := nextw (w0 := w14) (by exact ⟨rfl, rfl, rfl, Nat.le_refl _, fun _ _ => rfl⟩) bb; clear V_d1; replace B_x := Lib.hid (Box.below B_x.out bb B_x.out.lt); replace B_y := Lib.hid (Box.below B_y.out bb B_y.out.lt); replace B_q := Lib.hid (Box.below B_q.out bb B_q.out.lt); replace B_r := Lib.hid (Box.below B_r.out bb B_r.out.lt); replace V_x := Lib.hid (Rd.below V_x.out bb); replace V_y := Lib.hid (Rd.below V_y.out bb); replace V_q := Lib.hid (Rc.below V_q.out bb); replace V_r := Lib.hid (Rc.below V_r.out bb); replace HB := Lib.hid (nextw HB.out bb); clear bb; have c0x := B_x.out.c0; have c1x := B_x.out.c1; have c0y := B_y.out.c0; have c1y := B_y.out.c1; have c0q := B_q.out.c0; have c1q := B_q.out.c1; have c0r := B_r.out.c0; have c1r := B_r.out.c1; have tk10 : True := trivial))) | fail
  have HBo := HB.out
  go_wp2
  go_ret
  exact ⟨rfl, nextw HBo (by exact ⟨rfl, rfl, rfl, Nat.le_refl _, fun _ _ => rfl⟩)⟩

theorem Divides_any {sx : Bool} {Ax : Option Addr} {kx cx : Nat} {zx : Int} {sy : Bool} {Ay : Option Addr} {ky cy : Nat} {zy : Int} {w : World} (hx : Rd w (.agg #[.bool sx, .slice Ax kx cx]) zx kx) (hy : Rd w (.agg #[.bool sy, .slice Ay ky cy]) zy ky) (htab : Tab10 w) (mx : kx ≤ 9223372036854775807) (my : ky ≤ 9223372036854775807) :
    Calls Tryd.prog 3 #[.agg #[.bool sx, .slice Ax kx cx], .agg #[.bool sy, .slice Ay ky cy]] w fun e w' => e = .returned (.bool true) ∧ Below w.heap.size w w' := by
  rcases Nat.lt_or_ge 12 kx with gx | gx
  · exact Divides_long0 hx hy htab  mx gx
  rcases Nat.lt_or_ge 12 ky with gy | gy
  · exact Divides_long1 hx hy htab gx my gy
  by_cases h0 : zy = 0
  · subst h0
    exact Divides_zero hx hy htab gx gy
  · exact Divides_div hx hy htab gx gy h0
end Go.Proofs.YthfkahccnpkgjaaDoor
