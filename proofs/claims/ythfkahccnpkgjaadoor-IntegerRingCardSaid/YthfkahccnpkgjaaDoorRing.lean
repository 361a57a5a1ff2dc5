/- The law IntegerRing: the walk. -/
import Derived.Test.YthfkahccnpkgjaaDoorLarges

set_option linter.unusedVariables false
set_option linter.unusedSimpArgs false

namespace Go.Proofs.YthfkahccnpkgjaaDoor
open Go Go.RowKit Num

set_option maxRecDepth 100000 in
set_option maxHeartbeats 8000000 in
theorem Ring_long0 {sx : Bool} {Ax : Option Addr} {kx cx : Nat} {zx : Int} {sy : Bool} {Ay : Option Addr} {ky cy : Nat} {zy : Int} {sz : Bool} {Az : Option Addr} {kz cz : Nat} {zz : Int} {w : World} (hx : Rd w (.agg #[.bool sx, .slice Ax kx cx]) zx kx) (hy : Rd w (.agg #[.bool sy, .slice Ay ky cy]) zy ky) (hz : Rd w (.agg #[.bool sz, .slice Az kz cz]) zz kz) (htab : Tab10 w) (mx : kx ≤ 9223372036854775807) (hkx : 12 < kx) :
    Calls Tryd.prog 6 #[.agg #[.bool sx, .slice Ax kx cx], .agg #[.bool sy, .slice Ay ky cy], .agg #[.bool sz, .slice Az kz cz]] w fun e w' => e = .returned (.bool true) ∧ Below w.heap.size w w' := by
  have V_x := Lib.hid hx
  have V_y := Lib.hid hy
  have V_z := Lib.hid hz
  have V_tab := Lib.hid htab
  clear hx hy hz htab
  have hb0 : Below w.heap.size w (((w.alloc (.cells #[.bool sx, (.slice Ax kx cx)] 24)).alloc (.cells #[.bool sy, (.slice Ay ky cy)] 24)).alloc (.cells #[.bool sz, (.slice Az kz cz)] 24)) := (Below.alloc (Below.alloc (Below.alloc (Below.refl w.heap.size w) (by simp <;> omega) _) (by simp <;> omega) _) (by simp <;> omega) _)
  have B_x : Box (((w.alloc (.cells #[.bool sx, (.slice Ax kx cx)] 24)).alloc (.cells #[.bool sy, (.slice Ay ky cy)] 24)).alloc (.cells #[.bool sz, (.slice Az kz cz)] 24)) (w.heap.size) sx (.slice Ax kx cx) := by have h := Box.alloc (Box.alloc (Box.new w sx (.slice Ax kx cx)) (.cells #[.bool sy, (.slice Ay ky cy)] 24)) (.cells #[.bool sz, (.slice Az kz cz)] 24); simpa using h
  replace B_x := Lib.hid B_x
  have B_y : Box (((w.alloc (.cells #[.bool sx, (.slice Ax kx cx)] 24)).alloc (.cells #[.bool sy, (.slice Ay ky cy)] 24)).alloc (.cells #[.bool sz, (.slice Az kz cz)] 24)) (w.heap.size + 1) sy (.slice Ay ky cy) := by have h := Box.alloc (Box.new (w.alloc (.cells #[.bool sx, (.slice Ax kx cx)] 24)) sy (.slice Ay ky cy)) (.cells #[.bool sz, (.slice Az kz cz)] 24); simpa using h
  replace B_y := Lib.hid B_y
  have B_z : Box (((w.alloc (.cells #[.bool sx, (.slice Ax kx cx)] 24)).alloc (.cells #[.bool sy, (.slice Ay ky cy)] 24)).alloc (.cells #[.bool sz, (.slice Az kz cz)] 24)) (w.heap.size + 2) sz (.slice Az kz cz) := by have h := Box.new ((w.alloc (.cells #[.bool sx, (.slice Ax kx cx)] 24)).alloc (.cells #[.bool sy, (.slice Ay ky cy)] 24)) sz (.slice Az kz cz); simpa using h
  replace B_z := Lib.hid B_z
  replace V_x := Lib.hid (Rd.below V_x.out hb0)
  replace V_y := Lib.hid (Rd.below V_y.out hb0)
  replace V_z := Lib.hid (Rd.below V_z.out hb0)
  replace V_tab := Lib.hid (tab_below V_tab.out hb0)
  have HB := Lib.hid hb0
  clear hb0
  have c0x := B_x.out.c0
  have c1x := B_x.out.c1
  have c0y := B_y.out.c0
  have c1y := B_y.out.c1
  have c0z := B_z.out.c0
  have c1z := B_z.out.c1
  go_enter Tryd.func6, Tryd.ntmps6
  go_wp2_with fail
  clear c0x c1x c0y c1y c0z c1z
  generalize (((w.alloc (.cells #[.bool sx, (.slice Ax kx cx)] 24)).alloc (.cells #[.bool sy, (.slice Ay ky cy)] 24)).alloc (.cells #[.bool sz, (.slice Az kz cz)] 24)) = W0 at *
  refine (awake_any _ (tab_below V_tab.out (by exact ⟨rfl, rfl, rfl, Nat.le_refl _, fun _ _ => rfl⟩))).mono ?_
  rintro e w1 ⟨rfl, bb⟩
  replace bb := nextw (w0 := W0) (by exact ⟨rfl, rfl, rfl, Nat.le_refl _, fun _ _ => rfl⟩) bb
  replace B_x := Lib.hid (Box.below B_x.out bb B_x.out.lt)
  replace B_y := Lib.hid (Box.below B_y.out bb B_y.out.lt)
  replace B_z := Lib.hid (Box.below B_z.out bb B_z.out.lt)
  replace V_x := Lib.hid (Rd.below V_x.out bb)
  replace V_y := Lib.hid (Rd.below V_y.out bb)
  replace V_z := Lib.hid (Rd.below V_z.out bb)
  replace V_tab := Lib.hid (tab_below V_tab.out bb)
  replace HB := Lib.hid (nextw HB.out bb)
  clear bb
  have c0x := B_x.out.c0
  have c1x := B_x.out.c1
  go_wp2_with fail
  refine (few_no sx Ax kx cx mx hkx _).mono ?_
  rintro e w2 ⟨rfl, bb⟩
  replace bb := nextw (w0 := w1) (by exact ⟨rfl, rfl, rfl, Nat.le_refl _, fun _ _ => rfl⟩) bb
  clear c0x c1x
  replace B_x := Lib.hid (Box.below B_x.out bb B_x.out.lt)
  replace B_y := Lib.hid (Box.below B_y.out bb B_y.out.lt)
  replace B_z := Lib.hid (Box.below B_z.out bb B_z.out.lt)
  replace V_x := Lib.hid (Rd.below V_x.out bb)
  replace V_y := Lib.hid (Rd.below V_y.out bb)
  replace V_z := Lib.hid (Rd.below V_z.out bb)
  replace V_tab := Lib.hid (tab_below V_tab.out bb)
  replace HB := Lib.hid (nextw HB.out bb)
  clear bb
  go_wp2_with fail
  refine (awake_any _ (tab_below V_tab.out (by exact ⟨rfl, rfl, rfl, Nat.le_refl _, fun _ _ => rfl⟩))).mono ?_
  rintro e w3 ⟨rfl, bb⟩
  replace bb := nextw (w0 := w2) (by exact ⟨rfl, rfl, rfl, Nat.le_refl _, fun _ _ => rfl⟩) bb
  replace B_x := Lib.hid (Box.below B_x.out bb B_x.out.lt)
  replace B_y := Lib.hid (Box.below B_y.out bb B_y.out.lt)
  replace B_z := Lib.hid (Box.below B_z.out bb B_z.out.lt)
  replace V_x := Lib.hid (Rd.below V_x.out bb)
  replace V_y := Lib.hid (Rd.below V_y.out bb)
  replace V_z := Lib.hid (Rd.below V_z.out bb)
  replace V_tab := Lib.hid (tab_below V_tab.out bb)
  replace HB := Lib.hid (nextw HB.out bb)
  clear bb
  have HBo := HB.out
  go_wp2
  go_ret
  exact ⟨rfl, nextw HBo (by exact ⟨rfl, rfl, rfl, Nat.le_refl _, fun _ _ => rfl⟩)⟩

set_option maxRecDepth 100000 in
set_option maxHeartbeats 8000000 in
theorem Ring_long1 {sx : Bool} {Ax : Option Addr} {kx cx : Nat} {zx : Int} {sy : Bool} {Ay : Option Addr} {ky cy : Nat} {zy : Int} {sz : Bool} {Az : Option Addr} {kz cz : Nat} {zz : Int} {w : World} (hx : Rd w (.agg #[.bool sx, .slice Ax kx cx]) zx kx) (hy : Rd w (.agg #[.bool sy, .slice Ay ky cy]) zy ky) (hz : Rd w (.agg #[.bool sz, .slice Az kz cz]) zz kz) (htab : Tab10 w) (hkx : kx ≤ 12) (my : ky ≤ 9223372036854775807) (hky : 12 < ky) :
    Calls Tryd.prog 6 #[.agg #[.bool sx, .slice Ax kx cx], .agg #[.bool sy, .slice Ay ky cy], .agg #[.bool sz, .slice Az kz cz]] w fun e w' => e = .returned (.bool true) ∧ Below w.heap.size w w' := by
  have V_x := Lib.hid hx
  have V_y := Lib.hid hy
  have V_z := Lib.hid hz
  have V_tab := Lib.hid htab
  clear hx hy hz htab
  have hb0 : Below w.heap.size w (((w.alloc (.cells #[.bool sx, (.slice Ax kx cx)] 24)).alloc (.cells #[.bool sy, (.slice Ay ky cy)] 24)).alloc (.cells #[.bool sz, (.slice Az kz cz)] 24)) := (Below.alloc (Below.alloc (Below.alloc (Below.refl w.heap.size w) (by simp <;> omega) _) (by simp <;> omega) _) (by simp <;> omega) _)
  have B_x : Box (((w.alloc (.cells #[.bool sx, (.slice Ax kx cx)] 24)).alloc (.cells #[.bool sy, (.slice Ay ky cy)] 24)).alloc (.cells #[.bool sz, (.slice Az kz cz)] 24)) (w.heap.size) sx (.slice Ax kx cx) := by have h := Box.alloc (Box.alloc (Box.new w sx (.slice Ax kx cx)) (.cells #[.bool sy, (.slice Ay ky cy)] 24)) (.cells #[.bool sz, (.slice Az kz cz)] 24); simpa using h
  replace B_x := Lib.hid B_x
  have B_y : Box (((w.alloc (.cells #[.bool sx, (.slice Ax kx cx)] 24)).alloc (.cells #[.bool sy, (.slice Ay ky cy)] 24)).alloc (.cells #[.bool sz, (.slice Az kz cz)] 24)) (w.heap.size + 1) sy (.slice Ay ky cy) := by have h := Box.alloc (Box.new (w.alloc (.cells #[.bool sx, (.slice Ax kx cx)] 24)) sy (.slice Ay ky cy)) (.cells #[.bool sz, (.slice Az kz cz)] 24); simpa using h
  replace B_y := Lib.hid B_y
  have B_z : Box (((w.alloc (.cells #[.bool sx, (.slice Ax kx cx)] 24)).alloc (.cells #[.bool sy, (.slice Ay ky cy)] 24)).alloc (.cells #[.bool sz, (.slice Az kz cz)] 24)) (w.heap.size + 2) sz (.slice Az kz cz) := by have h := Box.new ((w.alloc (.cells #[.bool sx, (.slice Ax kx cx)] 24)).alloc (.cells #[.bool sy, (.slice Ay ky cy)] 24)) sz (.slice Az kz cz); simpa using h
  replace B_z := Lib.hid B_z
  replace V_x := Lib.hid (Rd.below V_x.out hb0)
  replace V_y := Lib.hid (Rd.below V_y.out hb0)
  replace V_z := Lib.hid (Rd.below V_z.out hb0)
  replace V_tab := Lib.hid (tab_below V_tab.out hb0)
  have HB := Lib.hid hb0
  clear hb0
  have c0x := B_x.out.c0
  have c1x := B_x.out.c1
  have c0y := B_y.out.c0
  have c1y := B_y.out.c1
  have c0z := B_z.out.c0
  have c1z := B_z.out.c1
  go_enter Tryd.func6, Tryd.ntmps6
  go_wp2_with fail
  clear c0x c1x c0y c1y c0z c1z
  generalize (((w.alloc (.cells #[.bool sx, (.slice Ax kx cx)] 24)).alloc (.cells #[.bool sy, (.slice Ay ky cy)] 24)).alloc (.cells #[.bool sz, (.slice Az kz cz)] 24)) = W0 at *
  refine (awake_any _ (tab_below V_tab.out (by exact ⟨rfl, rfl, rfl, Nat.le_refl _, fun _ _ => rfl⟩))).mono ?_
  rintro e w1 ⟨rfl, bb⟩
  replace bb := nextw (w0 := W0) (by exact ⟨rfl, rfl, rfl, Nat.le_refl _, fun _ _ => rfl⟩) bb
  replace B_x := Lib.hid (Box.below B_x.out bb B_x.out.lt)
  replace B_y := Lib.hid (Box.below B_y.out bb B_y.out.lt)
  replace B_z := Lib.hid (Box.below B_z.out bb B_z.out.lt)
  replace V_x := Lib.hid (Rd.below V_x.out bb)
  replace V_y := Lib.hid (Rd.below V_y.out bb)
  replace V_z := Lib.hid (Rd.below V_z.out bb)
  replace V_tab := Lib.hid (tab_below V_tab.out bb)
  replace HB := Lib.hid (nextw HB.out bb)
  clear bb
  have c0x := B_x.out.c0
  have c1x := B_x.out.c1
  go_wp2_with fail
  refine (few_yes sx Ax kx cx hkx _).mono ?_
  rintro e w2 ⟨rfl, bb⟩
  replace bb := nextw (w0 := w1) (by exact ⟨rfl, rfl, rfl, Nat.le_refl _, fun _ _ => rfl⟩) bb
  clear c0x c1x
  replace B_x := Lib.hid (Box.below B_x.out bb B_x.out.lt)
  replace B_y := Lib.hid (Box.below B_y.out bb B_y.out.lt)
  replace B_z := Lib.hid (Box.below B_z.out bb B_z.out.lt)
  replace V_x := Lib.hid (Rd.below V_x.out bb)
  replace V_y := Lib.hid (Rd.below V_y.out bb)
  replace V_z := Lib.hid (Rd.below V_z.out bb)
  replace V_tab := Lib.hid (tab_below V_tab.out bb)
  replace HB := Lib.hid (nextw HB.out bb)
  clear bb
  have c0y := B_y.out.c0
  have c1y := B_y.out.c1
  go_wp2_with fail
  refine (few_no sy Ay ky cy my hky _).mono ?_
  rintro e w3 ⟨rfl, bb⟩
  replace bb := nextw (w0 := w2) (by exact ⟨rfl, rfl, rfl, Nat.le_refl _, fun _ _ => rfl⟩) bb
  clear c0y c1y
  replace B_x := Lib.hid (Box.below B_x.out bb B_x.out.lt)
  replace B_y := Lib.hid (Box.below B_y.out bb B_y.out.lt)
  replace B_z := Lib.hid (Box.below B_z.out bb B_z.out.lt)
  replace V_x := Lib.hid (Rd.below V_x.out bb)
  replace V_y := Lib.hid (Rd.below V_y.out bb)
  replace V_z := Lib.hid (Rd.below V_z.out bb)
  replace V_tab := Lib.hid (tab_below V_tab.out bb)
  replace HB := Lib.hid (nextw HB.out bb)
  clear bb
  go_wp2_with fail
  refine (awake_any _ (tab_below V_tab.out (by exact ⟨rfl, rfl, rfl, Nat.le_refl _, fun _ _ => rfl⟩))).mono ?_
  rintro e w4 ⟨rfl, bb⟩
  replace bb := nextw (w0 := w3) (by exact ⟨rfl, rfl, rfl, Nat.le_refl _, fun _ _ => rfl⟩) bb
  replace B_x := Lib.hid (Box.below B_x.out bb B_x.out.lt)
  replace B_y := Lib.hid (Box.below B_y.out bb B_y.out.lt)
  replace B_z := Lib.hid (Box.below B_z.out bb B_z.out.lt)
  replace V_x := Lib.hid (Rd.below V_x.out bb)
  replace V_y := Lib.hid (Rd.below V_y.out bb)
  replace V_z := Lib.hid (Rd.below V_z.out bb)
  replace V_tab := Lib.hid (tab_below V_tab.out bb)
  replace HB := Lib.hid (nextw HB.out bb)
  clear bb
  have HBo := HB.out
  go_wp2
  go_ret
  exact ⟨rfl, nextw HBo (by exact ⟨rfl, rfl, rfl, Nat.le_refl _, fun _ _ => rfl⟩)⟩

set_option maxRecDepth 100000 in
set_option maxHeartbeats 8000000 in
theorem Ring_long2 {sx : Bool} {Ax : Option Addr} {kx cx : Nat} {zx : Int} {sy : Bool} {Ay : Option Addr} {ky cy : Nat} {zy : Int} {sz : Bool} {Az : Option Addr} {kz cz : Nat} {zz : Int} {w : World} (hx : Rd w (.agg #[.bool sx, .slice Ax kx cx]) zx kx) (hy : Rd w (.agg #[.bool sy, .slice Ay ky cy]) zy ky) (hz : Rd w (.agg #[.bool sz, .slice Az kz cz]) zz kz) (htab : Tab10 w) (hkx : kx ≤ 12) (hky : ky ≤ 12) (mz : kz ≤ 9223372036854775807) (hkz : 12 < kz) :
    Calls Tryd.prog 6 #[.agg #[.bool sx, .slice Ax kx cx], .agg #[.bool sy, .slice Ay ky cy], .agg #[.bool sz, .slice Az kz cz]] w fun e w' => e = .returned (.bool true) ∧ Below w.heap.size w w' := by
  have V_x := Lib.hid hx
  have V_y := Lib.hid hy
  have V_z := Lib.hid hz
  have V_tab := Lib.hid htab
  clear hx hy hz htab
  have hb0 : Below w.heap.size w (((w.alloc (.cells #[.bool sx, (.slice Ax kx cx)] 24)).alloc (.cells #[.bool sy, (.slice Ay ky cy)] 24)).alloc (.cells #[.bool sz, (.slice Az kz cz)] 24)) := (Below.alloc (Below.alloc (Below.alloc (Below.refl w.heap.size w) (by simp <;> omega) _) (by simp <;> omega) _) (by simp <;> omega) _)
  have B_x : Box (((w.alloc (.cells #[.bool sx, (.slice Ax kx cx)] 24)).alloc (.cells #[.bool sy, (.slice Ay ky cy)] 24)).alloc (.cells #[.bool sz, (.slice Az kz cz)] 24)) (w.heap.size) sx (.slice Ax kx cx) := by have h := Box.alloc (Box.alloc (Box.new w sx (.slice Ax kx cx)) (.cells #[.bool sy, (.slice Ay ky cy)] 24)) (.cells #[.bool sz, (.slice Az kz cz)] 24); simpa using h
  replace B_x := Lib.hid B_x
  have B_y : Box (((w.alloc (.cells #[.bool sx, (.slice Ax kx cx)] 24)).alloc (.cells #[.bool sy, (.slice Ay ky cy)] 24)).alloc (.cells #[.bool sz, (.slice Az kz cz)] 24)) (w.heap.size + 1) sy (.slice Ay ky cy) := by have h := Box.alloc (Box.new (w.alloc (.cells #[.bool sx, (.slice Ax kx cx)] 24)) sy (.slice Ay ky cy)) (.cells #[.bool sz, (.slice Az kz cz)] 24); simpa using h
  replace B_y := Lib.hid B_y
  have B_z : Box (((w.alloc (.cells #[.bool sx, (.slice Ax kx cx)] 24)).alloc (.cells #[.bool sy, (.slice Ay ky cy)] 24)).alloc (.cells #[.bool sz, (.slice Az kz cz)] 24)) (w.heap.size + 2) sz (.slice Az kz cz) := by have h := Box.new ((w.alloc (.cells #[.bool sx, (.slice Ax kx cx)] 24)).alloc (.cells #[.bool sy, (.slice Ay ky cy)] 24)) sz (.slice Az kz cz); simpa using h
  replace B_z := Lib.hid B_z
  replace V_x := Lib.hid (Rd.below V_x.out hb0)
  replace V_y := Lib.hid (Rd.below V_y.out hb0)
  replace V_z := Lib.hid (Rd.below V_z.out hb0)
  replace V_tab := Lib.hid (tab_below V_tab.out hb0)
  have HB := Lib.hid hb0
  clear hb0
  have c0x := B_x.out.c0
  have c1x := B_x.out.c1
  have c0y := B_y.out.c0
  have c1y := B_y.out.c1
  have c0z := B_z.out.c0
  have c1z := B_z.out.c1
  go_enter Tryd.func6, Tryd.ntmps6
  go_wp2_with fail
  clear c0x c1x c0y c1y c0z c1z
  generalize (((w.alloc (.cells #[.bool sx, (.slice Ax kx cx)] 24)).alloc (.cells #[.bool sy, (.slice Ay ky cy)] 24)).alloc (.cells #[.bool sz, (.slice Az kz cz)] 24)) = W0 at *
  refine (awake_any _ (tab_below V_tab.out (by exact ⟨rfl, rfl, rfl, Nat.le_refl _, fun _ _ => rfl⟩))).mono ?_
  rintro e w1 ⟨rfl, bb⟩
  replace bb := nextw (w0 := W0) (by exact ⟨rfl, rfl, rfl, Nat.le_refl _, fun _ _ => rfl⟩) bb
  replace B_x := Lib.hid (Box.below B_x.out bb B_x.out.lt)
  replace B_y := Lib.hid (Box.below B_y.out bb B_y.out.lt)
  replace B_z := Lib.hid (Box.below B_z.out bb B_z.out.lt)
  replace V_x := Lib.hid (Rd.below V_x.out bb)
  replace V_y := Lib.hid (Rd.below V_y.out bb)
  replace V_z := Lib.hid (Rd.below V_z.out bb)
  replace V_tab := Lib.hid (tab_below V_tab.out bb)
  replace HB := Lib.hid (nextw HB.out bb)
  clear bb
  have c0x := B_x.out.c0
  have c1x := B_x.out.c1
  go_wp2_with fail
  refine (few_yes sx Ax kx cx hkx _).mono ?_
  rintro e w2 ⟨rfl, bb⟩
  replace bb := nextw (w0 := w1) (by exact ⟨rfl, rfl, rfl, Nat.le_refl _, fun _ _ => rfl⟩) bb
  clear c0x c1x
  replace B_x := Lib.hid (Box.below B_x.out bb B_x.out.lt)
  replace B_y := Lib.hid (Box.below B_y.out bb B_y.out.lt)
  replace B_z := Lib.hid (Box.below B_z.out bb B_z.out.lt)
  replace V_x := Lib.hid (Rd.below V_x.out bb)
  replace V_y := Lib.hid (Rd.below V_y.out bb)
  replace V_z := Lib.hid (Rd.below V_z.out bb)
  replace V_tab := Lib.hid (tab_below V_tab.out bb)
  replace HB := Lib.hid (nextw HB.out bb)
  clear bb
  have c0y := B_y.out.c0
  have c1y := B_y.out.c1
  go_wp2_with fail
  refine (few_yes sy Ay ky cy hky _).mono ?_
  rintro e w3 ⟨rfl, bb⟩
  replace bb := nextw (w0 := w2) (by exact ⟨rfl, rfl, rfl, Nat.le_refl _, fun _ _ => rfl⟩) bb
  clear c0y c1y
  replace B_x := Lib.hid (Box.below B_x.out bb B_x.out.lt)
  replace B_y := Lib.hid (Box.below B_y.out bb B_y.out.lt)
  replace B_z := Lib.hid (Box.below B_z.out bb B_z.out.lt)
  replace V_x := Lib.hid (Rd.below V_x.out bb)
  replace V_y := Lib.hid (Rd.below V_y.out bb)
  replace V_z := Lib.hid (Rd.below V_z.out bb)
  replace V_tab := Lib.hid (tab_below V_tab.out bb)
  replace HB := Lib.hid (nextw HB.out bb)
  clear bb
  have c0z := B_z.out.c0
  have c1z := B_z.out.c1
  go_wp2_with fail
  refine (few_no sz Az kz cz mz hkz _).mono ?_
  rintro e w4 ⟨rfl, bb⟩
  replace bb := nextw (w0 := w3) (by exact ⟨rfl, rfl, rfl, Nat.le_refl _, fun _ _ => rfl⟩) bb
  clear c0z c1z
  replace B_x := Lib.hid (Box.below B_x.out bb B_x.out.lt)
  replace B_y := Lib.hid (Box.below B_y.out bb B_y.out.lt)
  replace B_z := Lib.hid (Box.below B_z.out bb B_z.out.lt)
  replace V_x := Lib.hid (Rd.below V_x.out bb)
  replace V_y := Lib.hid (Rd.below V_y.out bb)
  replace V_z := Lib.hid (Rd.below V_z.out bb)
  replace V_tab := Lib.hid (tab_below V_tab.out bb)
  replace HB := Lib.hid (nextw HB.out bb)
  clear bb
  go_wp2_with fail
  refine (awake_any _ (tab_below V_tab.out (by exact ⟨rfl, rfl, rfl, Nat.le_refl _, fun _ _ => rfl⟩))).mono ?_
  rintro e w5 ⟨rfl, bb⟩
  replace bb := nextw (w0 := w4) (by exact ⟨rfl, rfl, rfl, Nat.le_refl _, fun _ _ => rfl⟩) bb
  replace B_x := Lib.hid (Box.below B_x.out bb B_x.out.lt)
  replace B_y := Lib.hid (Box.below B_y.out bb B_y.out.lt)
  replace B_z := Lib.hid (Box.below B_z.out bb B_z.out.lt)
  replace V_x := Lib.hid (Rd.below V_x.out bb)
  replace V_y := Lib.hid (Rd.below V_y.out bb)
  replace V_z := Lib.hid (Rd.below V_z.out bb)
  replace V_tab := Lib.hid (tab_below V_tab.out bb)
  replace HB := Lib.hid (nextw HB.out bb)
  clear bb
  have HBo := HB.out
  go_wp2
  go_ret
  exact ⟨rfl, nextw HBo (by exact ⟨rfl, rfl, rfl, Nat.le_refl _, fun _ _ => rfl⟩)⟩

set_option maxRecDepth 100000 in
set_option maxHeartbeats 8000000 in
theorem Ring_few {sx : Bool} {Ax : Option Addr} {kx cx : Nat} {zx : Int} {sy : Bool} {Ay : Option Addr} {ky cy : Nat} {zy : Int} {sz : Bool} {Az : Option Addr} {kz cz : Nat} {zz : Int} {w : World} (hx : Rd w (.agg #[.bool sx, .slice Ax kx cx]) zx kx) (hy : Rd w (.agg #[.bool sy, .slice Ay ky cy]) zy ky) (hz : Rd w (.agg #[.bool sz, .slice Az kz cz]) zz kz) (htab : Tab10 w) (hkx : kx ≤ 12) (hky : ky ≤ 12) (hkz : kz ≤ 12) :
    Calls Tryd.prog 6 #[.agg #[.bool sx, .slice Ax kx cx], .agg #[.bool sy, .slice Ay ky cy], .agg #[.bool sz, .slice Az kz cz]] w fun e w' => e = .returned (.bool true) ∧ Below w.heap.size w w' := by
  have V_x := Lib.hid hx
  have V_y := Lib.hid hy
  have V_z := Lib.hid hz
  have V_tab := Lib.hid htab
  clear hx hy hz htab
  have hb0 : Below w.heap.size w (((w.alloc (.cells #[.bool sx, (.slice Ax kx cx)] 24)).alloc (.cells #[.bool sy, (.slice Ay ky cy)] 24)).alloc (.cells #[.bool sz, (.slice Az kz cz)] 24)) := (Below.alloc (Below.alloc (Below.alloc (Below.refl w.heap.size w) (by simp <;> omega) _) (by simp <;> omega) _) (by simp <;> omega) _)
  have B_x : Box (((w.alloc (.cells #[.bool sx, (.slice Ax kx cx)] 24)).alloc (.cells #[.bool sy, (.slice Ay ky cy)] 24)).alloc (.cells #[.bool sz, (.slice Az kz cz)] 24)) (w.heap.size) sx (.slice Ax kx cx) := by have h := Box.alloc (Box.alloc (Box.new w sx (.slice Ax kx cx)) (.cells #[.bool sy, (.slice Ay ky cy)] 24)) (.cells #[.bool sz, (.slice Az kz cz)] 24); simpa using h
  replace B_x := Lib.hid B_x
  have B_y : Box (((w.alloc (.cells #[.bool sx, (.slice Ax kx cx)] 24)).alloc (.cells #[.bool sy, (.slice Ay ky cy)] 24)).alloc (.cells #[.bool sz, (.slice Az kz cz)] 24)) (w.heap.size + 1) sy (.slice Ay ky cy) := by have h := Box.alloc (Box.new (w.alloc (.cells #[.bool sx, (.slice Ax kx cx)] 24)) sy (.slice Ay ky cy)) (.cells #[.bool sz, (.slice Az kz cz)] 24); simpa using h
  replace B_y := Lib.hid B_y
  have B_z : Box (((w.alloc (.cells #[.bool sx, (.slice Ax kx cx)] 24)).alloc (.cells #[.bool sy, (.slice Ay ky cy)] 24)).alloc (.cells #[.bool sz, (.slice Az kz cz)] 24)) (w.heap.size + 2) sz (.slice Az kz cz) := by have h := Box.new ((w.alloc (.cells #[.bool sx, (.slice Ax kx cx)] 24)).alloc (.cells #[.bool sy, (.slice Ay ky cy)] 24)) sz (.slice Az kz cz); simpa using h
  replace B_z := Lib.hid B_z
  replace V_x := Lib.hid (Rd.below V_x.out hb0)
  replace V_y := Lib.hid (Rd.below V_y.out hb0)
  replace V_z := Lib.hid (Rd.below V_z.out hb0)
  replace V_tab := Lib.hid (tab_below V_tab.out hb0)
  have HB := Lib.hid hb0
  clear hb0
  have c0x := B_x.out.c0
  have c1x := B_x.out.c1
  have c0y := B_y.out.c0
  have c1y := B_y.out.c1
  have c0z := B_z.out.c0
  have c1z := B_z.out.c1
  go_enter Tryd.func6, Tryd.ntmps6
  go_wp2_with fail
  clear c0x c1x c0y c1y c0z c1z
  generalize (((w.alloc (.cells #[.bool sx, (.slice Ax kx cx)] 24)).alloc (.cells #[.bool sy, (.slice Ay ky cy)] 24)).alloc (.cells #[.bool sz, (.slice Az kz cz)] 24)) = W0 at *
  refine (awake_any _ (tab_below V_tab.out (by exact ⟨rfl, rfl, rfl, Nat.le_refl _, fun _ _ => rfl⟩))).mono ?_
  rintro e w1 ⟨rfl, bb⟩
  replace bb := nextw (w0 := W0) (by exact ⟨rfl, rfl, rfl, Nat.le_refl _, fun _ _ => rfl⟩) bb
  replace B_x := Lib.hid (Box.below B_x.out bb B_x.out.lt)
  replace B_y := Lib.hid (Box.below B_y.out bb B_y.out.lt)
  replace B_z := Lib.hid (Box.below B_z.out bb B_z.out.lt)
  replace V_x := Lib.hid (Rd.below V_x.out bb)
  replace V_y := Lib.hid (Rd.below V_y.out bb)
  replace V_z := Lib.hid (Rd.below V_z.out bb)
  replace V_tab := Lib.hid (tab_below V_tab.out bb)
  replace HB := Lib.hid (nextw HB.out bb)
  clear bb
  have c0x := B_x.out.c0
  have c1x := B_x.out.c1
  go_wp2_with fail
  refine (few_yes sx Ax kx cx hkx _).mono ?_
  rintro e w2 ⟨rfl, bb⟩
  replace bb := nextw (w0 := w1) (by exact ⟨rfl, rfl, rfl, Nat.le_refl _, fun _ _ => rfl⟩) bb
  clear c0x c1x
  replace B_x := Lib.hid (Box.below B_x.out bb B_x.out.lt)
  replace B_y := Lib.hid (Box.below B_y.out bb B_y.out.lt)
  replace B_z := Lib.hid (Box.below B_z.out bb B_z.out.lt)
  replace V_x := Lib.hid (Rd.below V_x.out bb)
  replace V_y := Lib.hid (Rd.below V_y.out bb)
  replace V_z := Lib.hid (Rd.below V_z.out bb)
  replace V_tab := Lib.hid (tab_below V_tab.out bb)
  replace HB := Lib.hid (nextw HB.out bb)
  clear bb
  have c0y := B_y.out.c0
  have c1y := B_y.out.c1
  go_wp2_with fail
  refine (few_yes sy Ay ky cy hky _).mono ?_
  rintro e w3 ⟨rfl, bb⟩
  replace bb := nextw (w0 := w2) (by exact ⟨rfl, rfl, rfl, Nat.le_refl _, fun _ _ => rfl⟩) bb
  clear c0y c1y
  replace B_x := Lib.hid (Box.below B_x.out bb B_x.out.lt)
  replace B_y := Lib.hid (Box.below B_y.out bb B_y.out.lt)
  replace B_z := Lib.hid (Box.below B_z.out bb B_z.out.lt)
  replace V_x := Lib.hid (Rd.below V_x.out bb)
  replace V_y := Lib.hid (Rd.below V_y.out bb)
  replace V_z := Lib.hid (Rd.below V_z.out bb)
  replace V_tab := Lib.hid (tab_below V_tab.out bb)
  replace HB := Lib.hid (nextw HB.out bb)
  clear bb
  have c0z := B_z.out.c0
  have c1z := B_z.out.c1
  go_wp2_with fail
  refine (few_yes sz Az kz cz hkz _).mono ?_
  rintro e w4 ⟨rfl, bb⟩
  replace bb := nextw (w0 := w3) (by exact ⟨rfl, rfl, rfl, Nat.le_refl _, fun _ _ => rfl⟩) bb
  clear c0z c1z
  replace B_x := Lib.hid (Box.below B_x.out bb B_x.out.lt)
  replace B_y := Lib.hid (Box.below B_y.out bb B_y.out.lt)
  replace B_z := Lib.hid (Box.below B_z.out bb B_z.out.lt)
  replace V_x := Lib.hid (Rd.below V_x.out bb)
  replace V_y := Lib.hid (Rd.below V_y.out bb)
  replace V_z := Lib.hid (Rd.below V_z.out bb)
  replace V_tab := Lib.hid (tab_below V_tab.out bb)
  replace HB := Lib.hid (nextw HB.out bb)
  clear bb
  clear V_tab
  have c0x := B_x.out.c0
  have c1x := B_x.out.c1
  have c0y := B_y.out.c0
  have c1y := B_y.out.c1
  go_wp2_with fail
  refine (Mul_rd (Rd.below V_x.out (by exact ⟨rfl, rfl, rfl, Nat.le_refl _, fun _ _ => rfl⟩)) (Rd.below V_y.out (by exact ⟨rfl, rfl, rfl, Nat.le_refl _, fun _ _ => rfl⟩)) (by omega) (by omega)).mono ?_
  rintro e w5 ⟨vp, rfl, rp, bb⟩
  replace bb := nextw (w0 := w4) (by exact ⟨rfl, rfl, rfl, Nat.le_refl _, fun _ _ => rfl⟩) bb
  clear c0x c1x c0y c1y
  replace B_x := Lib.hid (Box.below B_x.out bb B_x.out.lt)
  replace B_y := Lib.hid (Box.below B_y.out bb B_y.out.lt)
  replace B_z := Lib.hid (Box.below B_z.out bb B_z.out.lt)
  replace V_x := Lib.hid (Rd.below V_x.out bb)
  replace V_y := Lib.hid (Rd.below V_y.out bb)
  replace V_z := Lib.hid (Rd.below V_z.out bb)
  replace HB := Lib.hid (nextw HB.out bb)
  clear bb
  obtain ⟨sp, Ap, kp, cp, rfl⟩ := rp.shape
  have V_p := Lib.hid rp
  clear rp
  have hb0 : Below w5.heap.size w5 (w5.alloc (.cells #[.bool sp, (.slice Ap kp cp)] 24)) := (Below.alloc (Below.refl w5.heap.size w5) (by simp <;> omega) _)
  have B_p : Box (w5.alloc (.cells #[.bool sp, (.slice Ap kp cp)] 24)) (w5.heap.size) sp (.slice Ap kp cp) := by have h := Box.new w5 sp (.slice Ap kp cp); simpa using h
  replace B_p := Lib.hid B_p
  replace B_x := Lib.hid (Box.below B_x.out hb0 B_x.out.lt)
  replace B_y := Lib.hid (Box.below B_y.out hb0 B_y.out.lt)
  replace B_z := Lib.hid (Box.below B_z.out hb0 B_z.out.lt)
  replace V_x := Lib.hid (Rd.below V_x.out hb0)
  replace V_y := Lib.hid (Rd.below V_y.out hb0)
  replace V_z := Lib.hid (Rd.below V_z.out hb0)
  replace V_p := Lib.hid (Rc.below V_p.out hb0)
  replace HB := Lib.hid (nextw HB.out hb0)
  clear hb0
  have c0x := B_x.out.c0
  have c1x := B_x.out.c1
  have c0y := B_y.out.c0
  have c1y := B_y.out.c1
  have c0z := B_z.out.c0
  have c1z := B_z.out.c1
  have c0p := B_p.out.c0
  have c1p := B_p.out.c1
  go_wp2
  clear c0x c1x c0y c1y c0z c1z c0p c1p
  generalize (w5.alloc (.cells #[.bool sp, (.slice Ap kp cp)] 24)) = W1 at *
  have c0x := B_x.out.c0
  have c1x := B_x.out.c1
  have c0y := B_y.out.c0
  have c1y := B_y.out.c1
  have c0z := B_z.out.c0
  have c1z := B_z.out.c1
  have c0p := B_p.out.c0
  have c1p := B_p.out.c1
  have tk0 : True := trivial
  first | (go_region_held3 (fun w' => w'.cell? ⟨w.heap.size, 0, none⟩ = some (.bool sx) ∧ w'.cell? ⟨w.heap.size, 1, none⟩ = some (.slice Ax kx cx) ∧ w'.cell? ⟨w.heap.size + 1, 0, none⟩ = some (.bool sy) ∧ w'.cell? ⟨w.heap.size + 1, 1, none⟩ = some (.slice Ay ky cy) ∧ w'.cell? ⟨w.heap.size + 2, 0, none⟩ = some (.bool sz) ∧ w'.cell? ⟨w.heap.size + 2, 1, none⟩ = some (.slice Az kz cz) ∧ w'.cell? ⟨w5.heap.size, 0, none⟩ = some (.bool sp) ∧ w'.cell? ⟨w5.heap.size, 1, none⟩ = some (.slice Ap kp cp)) (((try dsimp only); (repeat' apply And.intro) <;> (first | assumption | go_keep)))
    (first
      | (have _t := tk0; clear _t tk0; go_at_call 18; refine (Mul_rd (Rd.below V_y.out (by exact ⟨rfl, rfl, rfl, Nat.le_refl _, fun _ _ => rfl⟩)) (Rd.below V_x.out (by exact ⟨rfl, rfl, rfl, Nat.le_refl _, fun _ _ => rfl⟩)) (by omega) (by omega)).mono ?_; rintro e w6 ⟨va1, rfl, ra1, bb⟩; replace bb := nextw (w0 := W1) (by exact ⟨rfl, rfl, rfl, Nat.le_refl _, fun _ _ => rfl⟩) bb; replace B_x := Lib.hid (Box.below B_x.out bb B_x.out.lt); replace B_y := Lib.hid (Box.below B_y.out bb B_y.out.lt); replace B_z := Lib.hid (Box.below B_z.out bb B_z.out.lt); replace B_p := Lib.hid (Box.below B_p.out bb B_p.out.lt); replace V_x := Lib.hid (Rd.below V_x.out bb); replace V_y := Lib.hid (Rd.below V_y.out bb); replace V_z := Lib.hid (Rd.below V_z.out bb); replace V_p := Lib.hid (Rc.below V_p.out bb); replace HB := Lib.hid (nextw HB.out bb); clear bb; replace ra1 := Lib.hid ra1; have V_a1 := ra1; clear ra1; have c0x := B_x.out.c0; have c1x := B_x.out.c1; have c0y := B_y.out.c0; have c1y := B_y.out.c1; have c0z := B_z.out.c0; have c1z := B_z.out.c1; have c0p := B_p.out.c0; have c1p := B_p.out.c1; have tk1 : True := trivial)
      | (have _t := tk1; clear _t tk1; go_at_call 20; refine (Same_rc (Rc.below V_p.out (by exact ⟨rfl, rfl, rfl, Nat.le_refl _, fun _ _ => rfl⟩)) (Rc.below V_a1.out (by exact ⟨rfl, rfl, rfl, Nat.le_refl _, fun _ _ => rfl⟩)) (by omega) (by omega) (Int.mul_comm _ _)).mono ?_; rintro e w7 ⟨rfl, bb⟩; replace bb := nextw (w0 := w6) (by exact ⟨rfl, rfl, rfl, Nat.le_refl _, fun _ _ => rfl⟩) bb; clear V_a1; replace B_x := Lib.hid (Box.below B_x.out bb B_x.out.lt); replace B_y := Lib.hid (Box.below B_y.out bb B_y.out.lt); replace B_z := Lib.hid (Box.below B_z.out bb B_z.out.lt); replace B_p := Lib.hid (Box.below B_p.out bb B_p.out.lt); replace V_x := Lib.hid (Rd.below V_x.out bb); replace V_y := Lib.hid (Rd.below V_y.out bb); replace V_z := Lib.hid (Rd.below V_z.out bb); replace V_p := Lib.hid (Rc.below V_p.out bb); replace HB := Lib.hid (nextw HB.out bb); clear bb; have c0x := B_x.out.c0; have c1x := B_x.out.c1; have c0y := B_y.out.c0; have c1y := B_y.out.c1; have c0z := B_z.out.c0; have c1z := B_z.out.c1; have c0p := B_p.out.c0; have c1p := B_p.out.c1; have tk2 : True := trivial)
      | (have _t := tk2; clear _t tk2; go_at_call 18; refine (Mul_rd (Rc.rd (Rc.below V_p.out (by exact ⟨rfl, rfl, rfl, Nat.le_refl _, fun _ _ => rfl⟩))) (Rd.below V_z.out (by exact ⟨rfl, rfl, rfl, Nat.le_refl _, fun _ _ => rfl⟩)) (by omega) (by omega)).mono ?_; rintro e w8 ⟨vb1, rfl, rb1, bb⟩; replace bb := nextw (w0 := w7) (by exact ⟨rfl, rfl, rfl, Nat.le_refl _, fun _ _ => rfl⟩) bb; replace B_x := Lib.hid (Box.below B_x.out bb B_x.out.lt); replace B_y := Lib.hid (Box.below B_y.out bb B_y.out.lt); replace B_z := Lib.hid (Box.below B_z.out bb B_z.out.lt); replace B_p := Lib.hid (Box.below B_p.out bb B_p.out.lt); replace V_x := Lib.hid (Rd.below V_x.out bb); replace V_y := Lib.hid (Rd.below V_y.out bb); replace V_z := Lib.hid (Rd.below V_z.out bb); replace V_p := Lib.hid (Rc.below V_p.out bb); replace HB := Lib.hid (nextw HB.out bb); clear bb; replace rb1 := Lib.hid rb1; have V_b1 := rb1; clear rb1; have c0x := B_x.out.c0; have c1x := B_x.out.c1; have c0y := B_y.out.c0; have c1y := B_y.out.c1; have c0z := B_z.out.c0; have c1z := B_z.out.c1; have c0p := B_p.out.c0; have c1p := B_p.out.c1; have tk3 : True := trivial)
      | (have _t := tk3; clear _t tk3; go_at_call 18; refine (Mul_rd (Rd.below V_y.out (by exact ⟨rfl, rfl, rfl, Nat.le_refl _, fun _ _ => rfl⟩)) (Rd.below V_z.out (by exact ⟨rfl, rfl, rfl, Nat.le_refl _, fun _ _ => rfl⟩)) (by omega) (by omega)).mono ?_; rintro e w9 ⟨vb2, rfl, rb2, bb⟩; replace bb := nextw (w0 := w8) (by exact ⟨rfl, rfl, rfl, Nat.le_refl _, fun _ _ => rfl⟩) bb; replace B_x := Lib.hid (Box.below B_x.out bb B_x.out.lt); replace B_y := Lib.hid (Box.below B_y.out bb B_y.out.lt); replace B_z := Lib.hid (Box.below B_z.out bb B_z.out.lt); replace B_p := Lib.hid (Box.below B_p.out bb B_p.out.lt); replace V_x := Lib.hid (Rd.below V_x.out bb); replace V_y := Lib.hid (Rd.below V_y.out bb); replace V_z := Lib.hid (Rd.below V_z.out bb); replace V_p := Lib.hid (Rc.below V_p.out bb); replace V_b1 := Lib.hid (Rc.below V_b1.out bb); replace HB := Lib.hid (nextw HB.out bb); clear bb; replace rb2 := Lib.hid rb2; have V_b2 := rb2; clear rb2; have c0x := B_x.out.c0; have c1x := B_x.out.c1; have c0y := B_y.out.c0; have c1y := B_y.out.c1; have c0z := B_z.out.c0; have c1z := B_z.out.c1; have c0p := B_p.out.c0; have c1p := B_p.out.c1; have tk4 : True := trivial)
      | (have _t := tk4; clear _t tk4; go_at_call 18; refine (Mul_rd (Rd.below V_x.out (by exact ⟨rfl, rfl, rfl, Nat.le_refl _, fun _ _ => rfl⟩)) (Rc.rd (Rc.below V_b2.out (by exact ⟨rfl, rfl, rfl, Nat.le_refl _, fun _ _ => rfl⟩))) (by omega) (by omega)).mono ?_; rintro e w10 ⟨vb3, rfl, rb3, bb⟩; replace bb := nextw (w0 := w9) (by exact ⟨rfl, rfl, rfl, Nat.le_refl _, fun _ _ => rfl⟩) bb; clear V_b2; replace B_x := Lib.hid (Box.below B_x.out bb B_x.out.lt); replace B_y := Lib.hid (Box.below B_y.out bb B_y.out.lt); replace B_z := Lib.hid (Box.below B_z.out bb B_z.out.lt); replace B_p := Lib.hid (Box.below B_p.out bb B_p.out.lt); replace V_x := Lib.hid (Rd.below V_x.out bb); replace V_y := Lib.hid (Rd.below V_y.out bb); replace V_z := Lib.hid (Rd.below V_z.out bb); replace V_p := Lib.hid (Rc.below V_p.out bb); replace V_b1 := Lib.hid (Rc.below V_b1.out bb); replace HB := Lib.hid (nextw HB.out bb); clear bb; replace rb3 := Lib.hid rb3; have V_b3 := rb3; clear rb3; have c0x := B_x.out.c0; have c1x := B_x.out.c1; have c0y := B_y.out.c0; have c1y := B_y.out.c1; have c0z := B_z.out.c0; have c1z := B_z.out.c1; have c0p := B_p.out.c0; have c1p := B_p.out.c1; have tk5 : True := trivial)
      | (have _t := tk5; clear _t tk5; go_at_call 20; refine (Same_rc (Rc.below V_b1.out (by exact ⟨rfl, rfl, rfl, Nat.le_refl _, fun _ _ => rfl⟩)) (Rc.below V_b3.out (by exact ⟨rfl, rfl, rfl, Nat.le_refl _, fun _ _ => rfl⟩)) (by omega) (by omega) (Int.mul_assoc _ _ _)).mono ?_; rintro e w11 ⟨rfl, bb⟩; replace bb := nextw (w0 := w10) (by exact ⟨rfl, rfl, rfl, Nat.le_refl _, fun _ _ => rfl⟩) bb; clear V_b1 V_b3; replace B_x := Lib.hid (Box.below B_x.out bb B_x.out.lt); replace B_y := Lib.hid (Box.below B_y.out bb B_y.out.lt); replace B_z := Lib.hid (Box.below B_z.out bb B_z.out.lt); replace B_p := Lib.hid (Box.below B_p.out bb B_p.out.lt); replace V_x := Lib.hid (Rd.below V_x.out bb); replace V_y := Lib.hid (Rd.below V_y.out bb); replace V_z := Lib.hid (Rd.below V_z.out bb); replace V_p := Lib.hid (Rc.below V_p.out bb); replace HB := Lib.hid (nextw HB.out bb); clear bb; have c0x := B_x.out.c0; have c1x := B_x.out.c1; have c0y := B_y.out.c0; have c1y := B_y.out.c1; have c0z := B_z.out.c0; have c1z := B_z.out.c1; have c0p := B_p.out.c0; have c1p := B_p.out.c1; have tk6 : True := trivial)
      | (have _t := tk6; clear _t tk6; go_at_call 17; refine (Add_rd (Rd.below V_x.out (by exact ⟨rfl, rfl, rfl, Nat.le_refl _, fun _ _ => rfl⟩)) (Rd.below V_y.out (by exact ⟨rfl, rfl, rfl, Nat.le_refl _, fun _ _ => rfl⟩)) (by omega) (by omega)).mono ?_; rintro e w12 ⟨vc1, rfl, rc1, bb⟩; replace bb := nextw (w0 := w11) (by exact ⟨rfl, rfl, rfl, Nat.le_refl _, fun _ _ => rfl⟩) bb; replace B_x := Lib.hid (Box.below B_x.out bb B_x.out.lt); replace B_y := Lib.hid (Box.below B_y.out bb B_y.out.lt); replace B_z := Lib.hid (Box.below B_z.out bb B_z.out.lt); replace B_p := Lib.hid (Box.below B_p.out bb B_p.out.lt); replace V_x := Lib.hid (Rd.below V_x.out bb); replace V_y := Lib.hid (Rd.below V_y.out bb); replace V_z := Lib.hid (Rd.below V_z.out bb); replace V_p := Lib.hid (Rc.below V_p.out bb); replace HB := Lib.hid (nextw HB.out bb); clear bb; replace rc1 := Lib.hid rc1; have V_c1 := rc1; clear rc1; have c0x := B_x.out.c0; have c1x := B_x.out.c1; have c0y := B_y.out.c0; have c1y := B_y.out.c1; have c0z := B_z.out.c0; have c1z := B_z.out.c1; have c0p := B_p.out.c0; have c1p := B_p.out.c1; have tk7 : True := trivial)
      | (have _t := tk7; clear _t tk7; go_at_call 17; refine (Add_rd (Rc.rd (Rc.below V_c1.out (by exact ⟨rfl, rfl, rfl, Nat.le_refl _, fun _ _ => rfl⟩))) (Rd.below V_z.out (by exact ⟨rfl, rfl, rfl, Nat.le_refl _, fun _ _ => rfl⟩)) (by omega) (by omega)).mono ?_; rintro e w13 ⟨vc2, rfl, rc2, bb⟩; replace bb := nextw (w0 := w12) (by exact ⟨rfl, rfl, rfl, Nat.le_refl _, fun _ _ => rfl⟩) bb; clear V_c1; replace B_x := Lib.hid (Box.below B_x.out bb B_x.out.lt); replace B_y := Lib.hid (Box.below B_y.out bb B_y.out.lt); replace B_z := Lib.hid (Box.below B_z.out bb B_z.out.lt); replace B_p := Lib.hid (Box.below B_p.out bb B_p.out.lt); replace V_x := Lib.hid (Rd.below V_x.out bb); replace V_y := Lib.hid (Rd.below V_y.out bb); replace V_z := Lib.hid (Rd.below V_z.out bb); replace V_p := Lib.hid (Rc.below V_p.out bb); replace HB := Lib.hid (nextw HB.out bb); clear bb; replace rc2 := Lib.hid rc2; have V_c2 := rc2; clear rc2; have c0x := B_x.out.c0; have c1x := B_x.out.c1; have c0y := B_y.out.c0; have c1y := B_y.out.c1; have c0z := B_z.out.c0; have c1z := B_z.out.c1; have c0p := B_p.out.c0; have c1p := B_p.out.c1; have tk8 : True := trivial)
      | (have _t := tk8; clear _t tk8; go_at_call 17; refine (Add_rd (Rd.below V_y.out (by exact ⟨rfl, rfl, rfl, Nat.le_refl _, fun _ _ => rfl⟩)) (Rd.below V_z.out (by exact ⟨rfl, rfl, rfl, Nat.le_refl _, fun _ _ => rfl⟩)) (by omega) (by omega)).mono ?_; rintro e w14 ⟨vc3, rfl, rc3, bb⟩; replace bb := nextw (w0 := w13) (by exact ⟨rfl, rfl, rfl, Nat.le_refl _, fun _ _ => rfl⟩) bb; replace B_x := Lib.hid (Box.below B_x.out bb B_x.out.lt); replace B_y := Lib.hid (Box.below B_y.out bb B_y.out.lt); replace B_z := Lib.hid (Box.below B_z.out bb B_z.out.lt); replace B_p := Lib.hid (Box.below B_p.out bb B_p.out.lt); replace V_x := Lib.hid (Rd.below V_x.out bb); replace V_y := Lib.hid (Rd.below V_y.out bb); replace V_z := Lib.hid (Rd.below V_z.out bb); replace V_p := Lib.hid (Rc.below V_p.out bb); replace V_c2 := Lib.hid (Rc.below V_c2.out bb); replace HB := Lib.hid (nextw HB.out bb); clear bb; replace rc3 := Lib.hid rc3; have V_c3 := rc3; clear rc3; have c0x := B_x.out.c0; have c1x := B_x.out.c1; have c0y := B_y.out.c0; have c1y := B_y.out.c1; have c0z := B_z.out.c0; have c1z := B_z.out.c1; have c0p := B_p.out.c0; have c1p := B_p.out.c1; have tk9 : True := trivial)
      | (have _t := tk9; clear _t tk9; go_at_call 17; refine (Add_rd (Rd.below V_x.out (by exact ⟨rfl, rfl, rfl, Nat.le_refl _, fun _ _ => rfl⟩)) (Rc.rd (Rc.below V_c3.out (by exact ⟨rfl, rfl, rfl, Nat.le_refl _, fun _ _ => rfl⟩))) (by omega) (by omega)).mono ?_; rintro e w15 ⟨vc4, rfl, rc4, bb⟩; replace bb := nextw (w0 := w14) (by exact ⟨rfl, rfl, rfl, Nat.le_refl _, fun _ _ => rfl⟩) bb; clear V_c3; replace B_x := Lib.hid (Box.below B_x.out bb B_x.out.lt); replace B_y := Lib.hid (Box.below B_y.out bb B_y.out.lt); replace B_z := Lib.hid (Box.below B_z.out bb B_z.out.lt); replace B_p := Lib.hid (Box.below B_p.out bb B_p.out.lt); replace V_x := Lib.hid (Rd.below V_x.out bb); replace V_y := Lib.hid (Rd.below V_y.out bb); replace V_z := Lib.hid (Rd.below V_z.out bb); replace V_p := Lib.hid (Rc.below V_p.out bb); replace V_c2 := Lib.hid (Rc.below V_c2.out bb); replace HB := Lib.hid (nextw HB.out bb); clear bb; replace rc4 := Lib.hid rc4; have V_c4 := rc4; clear rc4; have c0x := B_x.out.c0; have c1x := B_x.out.c1; have c0y := B_y.out.c0; have c1y := B_y.out.c1; have c0z := B_z.out.c0; have c1z := B_z.out.c1; have c0p := B_p.out.c0; have c1p := B_p.out.c1; have tk10 : True := trivial)
      | (have _t := tk10; clear _t tk10; go_at_call 20; refine (Same_rc (Rc.below V_c2.out (by exact ⟨rfl, rfl, rfl, Nat.le_refl _, fun _ _ => rfl⟩)) (Rc.below V_c4.out (by exact ⟨rfl, rfl, rfl, Nat.le_refl _, fun _ _ => rfl⟩)) (by omega) (by omega) (Int.add_assoc _ _ _)).mono ?_; rintro e w16 ⟨rfl, bb⟩; replace bb := nextw (w0 := w15) (by exact ⟨rfl, rfl, rfl, Nat.le_refl _, fun _ _ => rfl⟩) bb; clear V_c2 V_c4; replace B_x := Lib.hid (Box.below B_x.out bb B_x.out.lt); replace B_y := Lib.hid (Box.below B_y.out bb B_y.out.lt); replace B_z := Lib.hid (Box.below B_z.out bb B_z.out.lt); replace B_p := Lib.hid (Box.below B_p.out bb B_p.out.lt); replace V_x := Lib.hid (Rd.below V_x.out bb); replace V_y := Lib.hid (Rd.below V_y.out bb); replace V_z := Lib.hid (Rd.below V_z.out bb); replace V_p := Lib.hid (Rc.below V_p.out bb); replace HB := Lib.hid (nextw HB.out bb); clear bb; have c0x := B_x.out.c0; have c1x := B_x.out.c1; have c0y := B_y.out.c0; have c1y := B_y.out.c1; have c0z := B_z.out.c0; have c1z := B_z.out.c1; have c0p := B_p.out.c0; have c1p := B_p.out.c1; have tk11 : True := trivial))) | fail
  have c0x := B_x.out.c0
  have c1x := B_x.out.c1
  have c0y := B_y.out.c0
  have c1y := B_y.out.c1
  have c0z := B_z.out.c0
  have c1z := B_z.out.c1
  have c0p := B_p.out.c0
  have c1p := B_p.out.c1
  go_wp2
  have c0x := B_x.out.c0
  have c1x := B_x.out.c1
  have c0y := B_y.out.c0
  have c1y := B_y.out.c1
  have c0z := B_z.out.c0
  have c1z := B_z.out.c1
  have c0p := B_p.out.c0
  have c1p := B_p.out.c1
  have tk0 : True := trivial
  first | (go_region_held3 (fun w' => w'.cell? ⟨w.heap.size, 0, none⟩ = some (.bool sx) ∧ w'.cell? ⟨w.heap.size, 1, none⟩ = some (.slice Ax kx cx) ∧ w'.cell? ⟨w.heap.size + 1, 0, none⟩ = some (.bool sy) ∧ w'.cell? ⟨w.heap.size + 1, 1, none⟩ = some (.slice Ay ky cy) ∧ w'.cell? ⟨w.heap.size + 2, 0, none⟩ = some (.bool sz) ∧ w'.cell? ⟨w.heap.size + 2, 1, none⟩ = some (.slice Az kz cz) ∧ w'.cell? ⟨w5.heap.size, 0, none⟩ = some (.bool sp) ∧ w'.cell? ⟨w5.heap.size, 1, none⟩ = some (.slice Ap kp cp)) (((try dsimp only); (repeat' apply And.intro) <;> (first | assumption | go_keep)))
    (first
      | (have _t := tk0; clear _t tk0; go_at_call 17; refine (Add_rd (Rd.below V_y.out (by exact ⟨rfl, rfl, rfl, Nat.le_refl _, fun _ _ => rfl⟩)) (Rd.below V_z.out (by exact ⟨rfl, rfl, rfl, Nat.le_refl _, fun _ _ => rfl⟩)) (by omega) (by omega)).mono ?_; rintro e w17 ⟨vd1, rfl, rd1, bb⟩; replace bb := nextw (w0 := w16) (by exact ⟨rfl, rfl, rfl, Nat.le_refl _, fun _ _ => rfl⟩) bb; replace B_x := Lib.hid (Box.below B_x.out bb B_x.out.lt); replace B_y := Lib.hid (Box.below B_y.out bb B_y.out.lt); replace B_z := Lib.hid (Box.below B_z.out bb B_z.out.lt); replace B_p := Lib.hid (Box.below B_p.out bb B_p.out.lt); replace V_x := Lib.hid (Rd.below V_x.out bb); replace V_y := Lib.hid (Rd.below V_y.out bb); replace V_z := Lib.hid (Rd.below V_z.out bb); replace V_p := Lib.hid (Rc.below V_p.out bb); replace HB := Lib.hid (nextw HB.out bb); clear bb; replace rd1 := Lib.hid rd1; have V_d1 := rd1; clear rd1; have c0x := B_x.out.c0; have c1x := B_x.out.c1; have c0y := B_y.out.c0; have c1y := B_y.out.c1; have c0z := B_z.out.c0; have c1z := B_z.out.c1; have c0p := B_p.out.c0; have c1p := B_p.out.c1; have tk1 : True := trivial)
      | (have _t := tk1; clear _t tk1; go_at_call 18; refine (Mul_rd (Rd.below V_x.out (by exact ⟨rfl, rfl, rfl, Nat.le_refl _, fun _ _ => rfl⟩)) (Rc.rd (Rc.below V_d1.out (by exact ⟨rfl, rfl, rfl, Nat.le_refl _, fun _ _ => rfl⟩))) (by omega) (by omega)).mono ?_; rintro e w18 ⟨vd2, rfl, rd2, bb⟩; replace bb := nextw (w0 := w17) (by exact ⟨rfl, rfl, rfl, Nat.le_refl _, fun _ _ => rfl⟩) bb; clear V_d1; replace B_x := Lib.hid (Box.below B_x.out bb B_x.out.lt); replace B_y := Lib.hid (Box.below B_y.out bb B_y.out.lt); replace B_z := Lib.hid (Box.below B_z.out bb B_z.out.lt); replace B_p := Lib.hid (Box.below B_p.out bb B_p.out.lt); replace V_x := Lib.hid (Rd.below V_x.out bb); replace V_y := Lib.hid (Rd.below V_y.out bb); replace V_z := Lib.hid (Rd.below V_z.out bb); replace V_p := Lib.hid (Rc.below V_p.out bb); replace HB := Lib.hid (nextw HB.out bb); clear bb; replace rd2 := Lib.hid rd2; have V_d2 := rd2; clear rd2; have c0x := B_x.out.c0; have c1x := B_x.out.c1; have c0y := B_y.out.c0; have c1y := B_y.out.c1; have c0z := B_z.out.c0; have c1z := B_z.out.c1; have c0p := B_p.out.c0; have c1p := B_p.out.c1; have tk2 : True := trivial)
      | (have _t := tk2; clear _t tk2; go_at_call 18; refine (Mul_rd (Rd.below V_x.out (by exact ⟨rfl, rfl, rfl, Nat.le_refl _, fun _ _ => rfl⟩)) (Rd.below V_z.out (by exact ⟨rfl, rfl, rfl, Nat.le_refl _, fun _ _ => rfl⟩)) (by omega) (by omega)).mono ?_; rintro e w19 ⟨vd3, rfl, rd3, bb⟩; replace bb := nextw (w0 := w18) (by exact ⟨rfl, rfl, rfl, Nat.le_refl _, fun _ _ => rfl⟩) bb; replace B_x := Lib.hid (Box.below B_x.out bb B_x.out.lt); replace B_y := Lib.hid (Box.below B_y.out bb B_y.out.lt); replace B_z := Lib.hid (Box.below B_z.out bb B_z.out.lt); replace B_p := Lib.hid (Box.below B_p.out bb B_p.out.lt); replace V_x := Lib.hid (Rd.below V_x.out bb); replace V_y := Lib.hid (Rd.below V_y.out bb); replace V_z := Lib.hid (Rd.below V_z.out bb); replace V_p := Lib.hid (Rc.below V_p.out bb); replace V_d2 := Lib.hid (Rc.below V_d2.out bb); replace HB := Lib.hid (nextw HB.out bb); clear bb; replace rd3 := Lib.hid rd3; have V_d3 := rd3; clear rd3; have c0x := B_x.out.c0; have c1x := B_x.out.c1; have c0y := B_y.out.c0; have c1y := B_y.out.c1; have c0z := B_z.out.c0; have c1z := B_z.out.c1; have c0p := B_p.out.c0; have c1p := B_p.out.c1; have tk3 : True := trivial)
      | (have _t := tk3; clear _t tk3; go_at_call 17; refine (Add_rd (Rc.rd (Rc.below V_p.out (by exact ⟨rfl, rfl, rfl, Nat.le_refl _, fun _ _ => rfl⟩))) (Rc.rd (Rc.below V_d3.out (by exact ⟨rfl, rfl, rfl, Nat.le_refl _, fun _ _ => rfl⟩))) (by omega) (by omega)).mono ?_; rintro e w20 ⟨vd4, rfl, rd4, bb⟩; replace bb := nextw (w0 := w19) (by exact ⟨rfl, rfl, rfl, Nat.le_refl _, fun _ _ => rfl⟩) bb; clear V_d3; replace B_x := Lib.hid (Box.below B_x.out bb B_x.out.lt); replace B_y := Lib.hid (Box.below B_y.out bb B_y.out.lt); replace B_z := Lib.hid (Box.below B_z.out bb B_z.out.lt); replace B_p := Lib.hid (Box.below B_p.out bb B_p.out.lt); replace V_x := Lib.hid (Rd.below V_x.out bb); replace V_y := Lib.hid (Rd.below V_y.out bb); replace V_z := Lib.hid (Rd.below V_z.out bb); replace V_p := Lib.hid (Rc.below V_p.out bb); replace V_d2 := Lib.hid (Rc.below V_d2.out bb); replace HB := Lib.hid (nextw HB.out bb); clear bb; replace rd4 := Lib.hid rd4; have V_d4 := rd4; clear rd4; have c0x := B_x.out.c0; have c1x := B_x.out.c1; have c0y := B_y.out.c0; have c1y := B_y.out.c1; have c0z := B_z.out.c0; have c1z := B_z.out.c1; have c0p := B_p.out.c0; have c1p := B_p.out.c1; have tk4 : True := trivial)
      | (have _t := tk4; clear _t tk4; go_at_call 20; refine (Same_rc (Rc.below V_d2.out (by exact ⟨rfl, rfl, rfl, Nat.le_refl _, fun _ _ => rfl⟩)) (Rc.below V_d4.out (by exact ⟨rfl, rfl, rfl, Nat.le_refl _, fun _ _ => rfl⟩)) (by omega) (by omega) (Int.mul_add _ _ _)).mono ?_; rintro e w21 ⟨rfl, bb⟩; replace bb := nextw (w0 := w20) (by exact ⟨rfl, rfl, rfl, Nat.le_refl _, fun _ _ => rfl⟩) bb; clear V_d2 V_d4; replace B_x := Lib.hid (Box.below B_x.out bb B_x.out.lt); replace B_y := Lib.hid (Box.below B_y.out bb B_y.out.lt); replace B_z := Lib.hid (Box.below B_z.out bb B_z.out.lt); replace B_p := Lib.hid (Box.below B_p.out bb B_p.out.lt); replace V_x := Lib.hid (Rd.below V_x.out bb); replace V_y := Lib.hid (Rd.below V_y.out bb); replace V_z := Lib.hid (Rd.below V_z.out bb); replace V_p := Lib.hid (Rc.below V_p.out bb); replace HB := Lib.hid (nextw HB.out bb); clear bb; have c0x := B_x.out.c0; have c1x := B_x.out.c1; have c0y := B_y.out.c0; have c1y := B_y.out.c1; have c0z := B_z.out.c0; have c1z := B_z.out.c1; have c0p := B_p.out.c0; have c1p := B_p.out.c1; have tk5 : True := trivial)
      | (have _t := tk5; clear _t tk5; go_at_call 24; refine (Sub_rd (Rd.below V_x.out (by exact ⟨rfl, rfl, rfl, Nat.le_refl _, fun _ _ => rfl⟩)) (Rd.below V_x.out (by exact ⟨rfl, rfl, rfl, Nat.le_refl _, fun _ _ => rfl⟩)) (by omega) (by omega)).mono ?_; rintro e w22 ⟨ve1, rfl, re1, bb⟩; replace bb := nextw (w0 := w21) (by exact ⟨rfl, rfl, rfl, Nat.le_refl _, fun _ _ => rfl⟩) bb; replace B_x := Lib.hid (Box.below B_x.out bb B_x.out.lt); replace B_y := Lib.hid (Box.below B_y.out bb B_y.out.lt); replace B_z := Lib.hid (Box.below B_z.out bb B_z.out.lt); replace B_p := Lib.hid (Box.below B_p.out bb B_p.out.lt); replace V_x := Lib.hid (Rd.below V_x.out bb); replace V_y := Lib.hid (Rd.below V_y.out bb); replace V_z := Lib.hid (Rd.below V_z.out bb); replace V_p := Lib.hid (Rc.below V_p.out bb); replace HB := Lib.hid (nextw HB.out bb); clear bb; replace re1 := Lib.hid re1; have V_e1 := re1; clear re1; have c0x := B_x.out.c0; have c1x := B_x.out.c1; have c0y := B_y.out.c0; have c1y := B_y.out.c1; have c0z := B_z.out.c0; have c1z := B_z.out.c1; have c0p := B_p.out.c0; have c1p := B_p.out.c1; have tk6 : True := trivial)
      | (have _t := tk6; clear _t tk6; go_at_call 15; refine (Sign_rd_eq (Rc.rd (Rc.below V_e1.out (by exact ⟨rfl, rfl, rfl, Nat.le_refl _, fun _ _ => rfl⟩))) (Int.sub_self _)).mono ?_; rintro e w23 ⟨rfl, bb⟩; replace bb := nextw (w0 := w22) (by exact ⟨rfl, rfl, rfl, Nat.le_refl _, fun _ _ => rfl⟩) bb; clear V_e1; replace B_x := Lib.hid (Box.below B_x.out bb B_x.out.lt); replace B_y := Lib.hid (Box.below B_y.out bb B_y.out.lt); replace B_z := Lib.hid (Box.below B_z.out bb B_z.out.lt); replace B_p := Lib.hid (Box.below B_p.out bb B_p.out.lt); replace V_x := Lib.hid (Rd.below V_x.out bb); replace V_y := Lib.hid (Rd.below V_y.out bb); replace V_z := Lib.hid (Rd.below V_z.out bb); replace V_p := Lib.hid (Rc.below V_p.out bb); replace HB := Lib.hid (nextw HB.out bb); clear bb; have c0x := B_x.out.c0; have c1x := B_x.out.c1; have c0y := B_y.out.c0; have c1y := B_y.out.c1; have c0z := B_z.out.c0; have c1z := B_z.out.c1; have c0p := B_p.out.c0; have c1p := B_p.out.c1; have tk7 : True := trivial)
      | (have _t := tk7; clear _t tk7; go_at_call 24; refine (Sub_rd (Rd.below V_x.out (by exact ⟨rfl, rfl, rfl, Nat.le_refl _, fun _ _ => rfl⟩)) (Rd.below V_y.out (by exact ⟨rfl, rfl, rfl, Nat.le_refl _, fun _ _ => rfl⟩)) (by omega) (by omega)).mono ?_; rintro e w24 ⟨vf1, rfl, rf1, bb⟩; replace bb := nextw (w0 := w23) (by exact ⟨rfl, rfl, rfl, Nat.le_refl _, fun _ _ => rfl⟩) bb; replace B_x := Lib.hid (Box.below B_x.out bb B_x.out.lt); replace B_y := Lib.hid (Box.below B_y.out bb B_y.out.lt); replace B_z := Lib.hid (Box.below B_z.out bb B_z.out.lt); replace B_p := Lib.hid (Box.below B_p.out bb B_p.out.lt); replace V_x := Lib.hid (Rd.below V_x.out bb); replace V_y := Lib.hid (Rd.below V_y.out bb); replace V_z := Lib.hid (Rd.below V_z.out bb); replace V_p := Lib.hid (Rc.below V_p.out bb); replace HB := Lib.hid (nextw HB.out bb); clear bb; replace rf1 := Lib.hid rf1; have V_f1 := rf1; clear rf1; have c0x := B_x.out.c0; have c1x := B_x.out.c1; have c0y := B_y.out.c0; have c1y := B_y.out.c1; have c0z := B_z.out.c0; have c1z := B_z.out.c1; have c0p := B_p.out.c0; have c1p := B_p.out.c1; have tk8 : True := trivial)
      | (have _t := tk8; clear _t tk8; go_at_call 17; refine (Add_rd (Rc.rd (Rc.below V_f1.out (by exact ⟨rfl, rfl, rfl, Nat.le_refl _, fun _ _ => rfl⟩))) (Rd.below V_y.out (by exact ⟨rfl, rfl, rfl, Nat.le_refl _, fun _ _ => rfl⟩)) (by omega) (by omega)).mono ?_; rintro e w25 ⟨vf2, rfl, rf2, bb⟩; replace bb := nextw (w0 := w24) (by exact ⟨rfl, rfl, rfl, Nat.le_refl _, fun _ _ => rfl⟩) bb; clear V_f1; replace B_x := Lib.hid (Box.below B_x.out bb B_x.out.lt); replace B_y := Lib.hid (Box.below B_y.out bb B_y.out.lt); replace B_z := Lib.hid (Box.below B_z.out bb B_z.out.lt); replace B_p := Lib.hid (Box.below B_p.out bb B_p.out.lt); replace V_x := Lib.hid (Rd.below V_x.out bb); replace V_y := Lib.hid (Rd.below V_y.out bb); replace V_z := Lib.hid (Rd.below V_z.out bb); replace V_p := Lib.hid (Rc.below V_p.out bb); replace HB := Lib.hid (nextw HB.out bb); clear bb; replace rf2 := Lib.hid rf2; have V_f2 := rf2; clear rf2; have c0x := B_x.out.c0; have c1x := B_x.out.c1; have c0y := B_y.out.c0; have c1y := B_y.out.c1; have c0z := B_z.out.c0; have c1z := B_z.out.c1; have c0p := B_p.out.c0; have c1p := B_p.out.c1; have tk9 : True := trivial)
      | (have _t := tk9; clear _t tk9; go_at_call 27; refine (Norm_rd (Rd.below V_x.out (by exact ⟨rfl, rfl, rfl, Nat.le_refl _, fun _ _ => rfl⟩)) (by omega)).mono ?_; rintro e w26 ⟨vf3, rfl, rf3, bb⟩; replace bb := nextw (w0 := w25) (by exact ⟨rfl, rfl, rfl, Nat.le_refl _, fun _ _ => rfl⟩) bb; replace B_x := Lib.hid (Box.below B_x.out bb B_x.out.lt); replace B_y := Lib.hid (Box.below B_y.out bb B_y.out.lt); replace B_z := Lib.hid (Box.below B_z.out bb B_z.out.lt); replace B_p := Lib.hid (Box.below B_p.out bb B_p.out.lt); replace V_x := Lib.hid (Rd.below V_x.out bb); replace V_y := Lib.hid (Rd.below V_y.out bb); replace V_z := Lib.hid (Rd.below V_z.out bb); replace V_p := Lib.hid (Rc.below V_p.out bb); replace V_f2 := Lib.hid (Rc.below V_f2.out bb); replace HB := Lib.hid (nextw HB.out bb); clear bb; replace rf3 := Lib.hid rf3; have V_f3 := rf3; clear rf3; have c0x := B_x.out.c0; have c1x := B_x.out.c1; have c0y := B_y.out.c0; have c1y := B_y.out.c1; have c0z := B_z.out.c0; have c1z := B_z.out.c1; have c0p := B_p.out.c0; have c1p := B_p.out.c1; have tk10 : True := trivial)
      | (have _t := tk10; clear _t tk10; go_at_call 20; refine (Same_rc (Rc.below V_f2.out (by exact ⟨rfl, rfl, rfl, Nat.le_refl _, fun _ _ => rfl⟩)) (Rc.below V_f3.out (by exact ⟨rfl, rfl, rfl, Nat.le_refl _, fun _ _ => rfl⟩)) (by omega) (by omega) (Int.sub_add_cancel _ _)).mono ?_; rintro e w27 ⟨rfl, bb⟩; replace bb := nextw (w0 := w26) (by exact ⟨rfl, rfl, rfl, Nat.le_refl _, fun _ _ => rfl⟩) bb; clear V_f2 V_f3; replace B_x := Lib.hid (Box.below B_x.out bb B_x.out.lt); replace B_y := Lib.hid (Box.below B_y.out bb B_y.out.lt); replace B_z := Lib.hid (Box.below B_z.out bb B_z.out.lt); replace B_p := Lib.hid (Box.below B_p.out bb B_p.out.lt); replace V_x := Lib.hid (Rd.below V_x.out bb); replace V_y := Lib.hid (Rd.below V_y.out bb); replace V_z := Lib.hid (Rd.below V_z.out bb); replace V_p := Lib.hid (Rc.below V_p.out bb); replace HB := Lib.hid (nextw HB.out bb); clear bb; have c0x := B_x.out.c0; have c1x := B_x.out.c1; have c0y := B_y.out.c0; have c1y := B_y.out.c1; have c0z := B_z.out.c0; have c1z := B_z.out.c1; have c0p := B_p.out.c0; have c1p := B_p.out.c1; have tk11 : True := trivial))) | fail
  have HBo := HB.out
  go_wp2
  go_ret
  exact ⟨rfl, nextw HBo (by exact ⟨rfl, rfl, rfl, Nat.le_refl _, fun _ _ => rfl⟩)⟩

theorem Ring_any {sx : Bool} {Ax : Option Addr} {kx cx : Nat} {zx : Int} {sy : Bool} {Ay : Option Addr} {ky cy : Nat} {zy : Int} {sz : Bool} {Az : Option Addr} {kz cz : Nat} {zz : Int} {w : World} (hx : Rd w (.agg #[.bool sx, .slice Ax kx cx]) zx kx) (hy : Rd w (.agg #[.bool sy, .slice Ay ky cy]) zy ky) (hz : Rd w (.agg #[.bool sz, .slice Az kz cz]) zz kz) (htab : Tab10 w) (mx : kx ≤ 9223372036854775807) (my : ky ≤ 9223372036854775807) (mz : kz ≤ 9223372036854775807) :
    Calls Tryd.prog 6 #[.agg #[.bool sx, .slice Ax kx cx], .agg #[.bool sy, .slice Ay ky cy], .agg #[.bool sz, .slice Az kz cz]] w fun e w' => e = .returned (.bool true) ∧ Below w.heap.size w w' := by
  rcases Nat.lt_or_ge 12 kx with h | h
  · exact Ring_long0 hx hy hz htab mx h
  rcases Nat.lt_or_ge 12 ky with h2 | h2
  · exact Ring_long1 hx hy hz htab h my h2
  rcases Nat.lt_or_ge 12 kz with h3 | h3
  · exact Ring_long2 hx hy hz htab h h2 mz h3
  exact Ring_few hx hy hz htab h h2 h3
end Go.Proofs.YthfkahccnpkgjaaDoor
