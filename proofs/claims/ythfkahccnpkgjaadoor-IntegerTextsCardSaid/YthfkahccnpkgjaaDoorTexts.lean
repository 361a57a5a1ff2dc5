/- The law IntegerTexts: the walk. -/
import Derived.Test.YthfkahccnpkgjaaDoorFew
import Derived.Test.YthfkahccnpkgjaaDoorTxt3

set_option linter.unusedVariables false
set_option linter.unusedSimpArgs false

namespace Go.Proofs.YthfkahccnpkgjaaDoor
open Go Go.RowKit Num

set_option maxRecDepth 100000 in
set_option maxHeartbeats 8000000 in
theorem Texts_long0 {sx : Bool} {Ax : Option Addr} {kx cx : Nat} {zx : Int} {w : World} (hx : Rd w (.agg #[.bool sx, .slice Ax kx cx]) zx kx) (htab : Tab10 w) (mx : kx ≤ 9223372036854775807) (hkx : 12 < kx) :
    Calls Tryd.prog 9 #[.agg #[.bool sx, .slice Ax kx cx]] w fun e w' => e = .returned (.bool true) ∧ Below w.heap.size w w' := by
  have V_x := Lib.hid hx
  have V_tab := Lib.hid htab
  clear hx htab
  have hb0 : Below w.heap.size w (w.alloc (.cells #[.bool sx, (.slice Ax kx cx)] 24)) := (Below.alloc (Below.refl w.heap.size w) (by simp <;> omega) _)
  have B_x : Box (w.alloc (.cells #[.bool sx, (.slice Ax kx cx)] 24)) (w.heap.size) sx (.slice Ax kx cx) := by have h := Box.new w sx (.slice Ax kx cx); simpa using h
  replace B_x := Lib.hid B_x
  replace V_x := Lib.hid (Rd.below V_x.out hb0)
  replace V_tab := Lib.hid (tab_below V_tab.out hb0)
  have HB := Lib.hid hb0
  clear hb0
  have c0x := B_x.out.c0
  have c1x := B_x.out.c1
  go_enter Tryd.func9, Tryd.ntmps9
  go_wp2_with fail
  clear c0x c1x
  generalize (w.alloc (.cells #[.bool sx, (.slice Ax kx cx)] 24)) = W0 at *
  refine (awake_any _ (tab_below V_tab.out (by exact ⟨rfl, rfl, rfl, Nat.le_refl _, fun _ _ => rfl⟩))).mono ?_
  rintro e w1 ⟨rfl, bb⟩
  replace bb := nextw (w0 := W0) (by exact ⟨rfl, rfl, rfl, Nat.le_refl _, fun _ _ => rfl⟩) bb
  replace B_x := Lib.hid (Box.below B_x.out bb B_x.out.lt)
  replace V_x := Lib.hid (Rd.below V_x.out bb)
  replace V_tab := Lib.hid (tab_below V_tab.out bb)
  replace HB := Lib.hid (nextw HB.out bb)
  clear bb
  have c0x := B_x.out.c0
  have c1x := B_x.out.c1
  go_wp2_with fail
  refine (few_no sx Ax kx cx mx hkx _).mono ?_
  rintro e w2 ⟨rfl, bb⟩
  replace bb := nextw (w0 := w1) (by exact ⟨rfl, rfl, rfl, Nat.le_refl _, fun _ _ => rfl⟩) bb
  clear c0x c1x
  replace B_x := Lib.hid (Box.below B_x.out bb B_x.out.lt)
  replace V_x := Lib.hid (Rd.below V_x.out bb)
  replace V_tab := Lib.hid (tab_below V_tab.out bb)
  replace HB := Lib.hid (nextw HB.out bb)
  clear bb
  go_wp2_with fail
  refine (awake_any _ (tab_below V_tab.out (by exact ⟨rfl, rfl, rfl, Nat.le_refl _, fun _ _ => rfl⟩))).mono ?_
  rintro e w3 ⟨rfl, bb⟩
  replace bb := nextw (w0 := w2) (by exact ⟨rfl, rfl, rfl, Nat.le_refl _, fun _ _ => rfl⟩) bb
  replace B_x := Lib.hid (Box.below B_x.out bb B_x.out.lt)
  replace V_x := Lib.hid (Rd.below V_x.out bb)
  replace V_tab := Lib.hid (tab_below V_tab.out bb)
  replace HB := Lib.hid (nextw HB.out bb)
  clear bb
  have HBo := HB.out
  go_wp2
  go_ret
  exact ⟨rfl, nextw HBo (by exact ⟨rfl, rfl, rfl, Nat.le_refl _, fun _ _ => rfl⟩)⟩

set_option maxRecDepth 100000 in
set_option maxHeartbeats 8000000 in
theorem Texts_main {sx : Bool} {Ax : Option Addr} {kx cx : Nat} {zx : Int} {w : World} (hx : Rd w (.agg #[.bool sx, .slice Ax kx cx]) zx kx) (htab : Tab10 w) (hkx : kx ≤ 12) :
    Calls Tryd.prog 9 #[.agg #[.bool sx, .slice Ax kx cx]] w fun e w' => e = .returned (.bool true) ∧ Below w.heap.size w w' := by
  have V_x := Lib.hid hx
  have V_tab := Lib.hid htab
  clear hx htab
  have hb0 : Below w.heap.size w (w.alloc (.cells #[.bool sx, (.slice Ax kx cx)] 24)) := (Below.alloc (Below.refl w.heap.size w) (by simp <;> omega) _)
  have B_x : Box (w.alloc (.cells #[.bool sx, (.slice Ax kx cx)] 24)) (w.heap.size) sx (.slice Ax kx cx) := by have h := Box.new w sx (.slice Ax kx cx); simpa using h
  replace B_x := Lib.hid B_x
  replace V_x := Lib.hid (Rd.below V_x.out hb0)
  replace V_tab := Lib.hid (tab_below V_tab.out hb0)
  have HB := Lib.hid hb0
  clear hb0
  have c0x := B_x.out.c0
  have c1x := B_x.out.c1
  go_enter Tryd.func9, Tryd.ntmps9
  go_wp2_with fail
  clear c0x c1x
  generalize (w.alloc (.cells #[.bool sx, (.slice Ax kx cx)] 24)) = W0 at *
  refine (awake_any _ (tab_below V_tab.out (by exact ⟨rfl, rfl, rfl, Nat.le_refl _, fun _ _ => rfl⟩))).mono ?_
  rintro e w1 ⟨rfl, bb⟩
  replace bb := nextw (w0 := W0) (by exact ⟨rfl, rfl, rfl, Nat.le_refl _, fun _ _ => rfl⟩) bb
  replace B_x := Lib.hid (Box.below B_x.out bb B_x.out.lt)
  replace V_x := Lib.hid (Rd.below V_x.out bb)
  replace V_tab := Lib.hid (tab_below V_tab.out bb)
  replace HB := Lib.hid (nextw HB.out bb)
  clear bb
  have c0x := B_x.out.c0
  have c1x := B_x.out.c1
  go_wp2_with fail
  refine (few_yes sx Ax kx cx hkx _).mono ?_
  rintro e w2 ⟨rfl, bb⟩
  replace bb := nextw (w0 := w1) (by exact ⟨rfl, rfl, rfl, Nat.le_refl _, fun _ _ => rfl⟩) bb
  clear c0x c1x
  replace B_x := Lib.hid (Box.below B_x.out bb B_x.out.lt)
  replace V_x := Lib.hid (Rd.below V_x.out bb)
  replace V_tab := Lib.hid (tab_below V_tab.out bb)
  replace HB := Lib.hid (nextw HB.out bb)
  clear bb
  obtain ⟨tx, htx⟩ : ∃ tx : ByteArray, tx = ⟨(zText zx).toArray⟩ := ⟨_, rfl⟩
  have HTX := Lib.hid htx
  clear htx
  have HLT := Lib.hid (Nat.lt_of_lt_of_le (Rd.abs V_x.out) (pow_mono hkx))
  have c0x := B_x.out.c0
  have c1x := B_x.out.c1
  go_wp2_with fail
  refine (Text_text (Rd.below V_x.out (by exact ⟨rfl, rfl, rfl, Nat.le_refl _, fun _ _ => rfl⟩)) (by omega) (tab_below V_tab.out (by exact ⟨rfl, rfl, rfl, Nat.le_refl _, fun _ _ => rfl⟩)) HTX.out).mono ?_
  rintro e w3 ⟨rfl, bb⟩
  replace bb := nextw (w0 := w2) (by exact ⟨rfl, rfl, rfl, Nat.le_refl _, fun _ _ => rfl⟩) bb
  clear c0x c1x
  replace B_x := Lib.hid (Box.below B_x.out bb B_x.out.lt)
  replace V_x := Lib.hid (Rd.below V_x.out bb)
  replace V_tab := Lib.hid (tab_below V_tab.out bb)
  replace HB := Lib.hid (nextw HB.out bb)
  clear bb
  clear V_tab
  have c0x := B_x.out.c0
  have c1x := B_x.out.c1
  have hpt := fun w => Parse_text HLT.out w
  rw [← HTX.out] at hpt
  have HPT := Lib.hid hpt
  clear hpt
  go_wp2_with fail
  refine (HPT.out _).mono ?_
  rintro e w4 ⟨vy, rfl, ry, bb⟩
  replace bb := nextw (w0 := w3) (by exact ⟨rfl, rfl, rfl, Nat.le_refl _, fun _ _ => rfl⟩) bb
  clear c0x c1x
  replace B_x := Lib.hid (Box.below B_x.out bb B_x.out.lt)
  replace V_x := Lib.hid (Rd.below V_x.out bb)
  replace HB := Lib.hid (nextw HB.out bb)
  clear bb
  obtain ⟨sy, Ay, ky, cy, rfl⟩ := ry.shape
  clear HPT HLT
  have V_y := Lib.hid ry
  clear ry
  have hb0 : Below w4.heap.size w4 (w4.alloc (.cells #[.bool sy, (.slice Ay ky cy)] 24)) := (Below.alloc (Below.refl w4.heap.size w4) (by simp <;> omega) _)
  have B_y : Box (w4.alloc (.cells #[.bool sy, (.slice Ay ky cy)] 24)) (w4.heap.size) sy (.slice Ay ky cy) := by have h := Box.new w4 sy (.slice Ay ky cy); simpa using h
  replace B_y := Lib.hid B_y
  replace B_x := Lib.hid (Box.below B_x.out hb0 B_x.out.lt)
  replace V_x := Lib.hid (Rd.below V_x.out hb0)
  replace V_y := Lib.hid (Rc.below V_y.out hb0)
  replace HB := Lib.hid (nextw HB.out hb0)
  clear hb0
  have c0x := B_x.out.c0
  have c1x := B_x.out.c1
  have c0y := B_y.out.c0
  have c1y := B_y.out.c1
  go_wp2_with fail
  clear c0x c1x c0y c1y
  generalize (w4.alloc (.cells #[.bool sy, (.slice Ay ky cy)] 24)) = W1 at *
  have c0x := B_x.out.c0
  have c1x := B_x.out.c1
  have c0y := B_y.out.c0
  have c1y := B_y.out.c1
  go_wp2
  have c0x := B_x.out.c0
  have c1x := B_x.out.c1
  have c0y := B_y.out.c0
  have c1y := B_y.out.c1
  have tk0 : True := trivial
  first | (go_region_held3 (fun w' => w'.cell? ⟨w.heap.size, 0, none⟩ = some (.bool sx) ∧ w'.cell? ⟨w.heap.size, 1, none⟩ = some (.slice Ax kx cx) ∧ w'.cell? ⟨w4.heap.size, 0, none⟩ = some (.bool sy) ∧ w'.cell? ⟨w4.heap.size, 1, none⟩ = some (.slice Ay ky cy)) (((try dsimp only); (repeat' apply And.intro) <;> (first | assumption | go_keep)))
    (first
      | (have _t := tk0; clear _t tk0; go_at_call 33; refine (RText_text (Rd.below V_x.out (by exact ⟨rfl, rfl, rfl, Nat.le_refl _, fun _ _ => rfl⟩)) (by omega) HTX.out).mono ?_; rintro e w5 ⟨rfl, bb⟩; replace bb := nextw (w0 := W1) (by exact ⟨rfl, rfl, rfl, Nat.le_refl _, fun _ _ => rfl⟩) bb; replace B_x := Lib.hid (Box.below B_x.out bb B_x.out.lt); replace B_y := Lib.hid (Box.below B_y.out bb B_y.out.lt); replace V_x := Lib.hid (Rd.below V_x.out bb); replace V_y := Lib.hid (Rc.below V_y.out bb); replace HB := Lib.hid (nextw HB.out bb); clear bb; have c0x := B_x.out.c0; have c1x := B_x.out.c1; have c0y := B_y.out.c0; have c1y := B_y.out.c1; have tk1 : True := trivial)
      | (have _t := tk1; clear _t tk1; go_at_call 21; refine (RNorm_rd (Rd.below V_x.out (by exact ⟨rfl, rfl, rfl, Nat.le_refl _, fun _ _ => rfl⟩)) (by omega)).mono ?_; rintro e w6 ⟨vn, rfl, rn, bb⟩; replace bb := nextw (w0 := w5) (by exact ⟨rfl, rfl, rfl, Nat.le_refl _, fun _ _ => rfl⟩) bb; replace B_x := Lib.hid (Box.below B_x.out bb B_x.out.lt); replace B_y := Lib.hid (Box.below B_y.out bb B_y.out.lt); replace V_x := Lib.hid (Rd.below V_x.out bb); replace V_y := Lib.hid (Rc.below V_y.out bb); replace HB := Lib.hid (nextw HB.out bb); clear bb; replace rn := Lib.hid rn; have V_n := rn; clear rn; have c0x := B_x.out.c0; have c1x := B_x.out.c1; have c0y := B_y.out.c0; have c1y := B_y.out.c1; have tk2 : True := trivial)
      | (have _t := tk2; clear _t tk2; go_at_call 20; refine (Same_rc (Rc.below V_y.out (by exact ⟨rfl, rfl, rfl, Nat.le_refl _, fun _ _ => rfl⟩)) (Rc.below V_n.out (by exact ⟨rfl, rfl, rfl, Nat.le_refl _, fun _ _ => rfl⟩)) (by omega) (by omega) (rfl)).mono ?_; rintro e w7 ⟨rfl, bb⟩; replace bb := nextw (w0 := w6) (by exact ⟨rfl, rfl, rfl, Nat.le_refl _, fun _ _ => rfl⟩) bb; clear V_n; replace B_x := Lib.hid (Box.below B_x.out bb B_x.out.lt); replace B_y := Lib.hid (Box.below B_y.out bb B_y.out.lt); replace V_x := Lib.hid (Rd.below V_x.out bb); replace V_y := Lib.hid (Rc.below V_y.out bb); replace HB := Lib.hid (nextw HB.out bb); clear bb; have c0x := B_x.out.c0; have c1x := B_x.out.c1; have c0y := B_y.out.c0; have c1y := B_y.out.c1; have tk3 : True := trivial))) | fail
  have HBo := HB.out
  go_wp2
  go_ret
  exact ⟨rfl, nextw HBo (by exact ⟨rfl, rfl, rfl, Nat.le_refl _, fun _ _ => rfl⟩)⟩

theorem Texts_any {sx : Bool} {Ax : Option Addr} {kx cx : Nat} {zx : Int} {w : World} (hx : Rd w (.agg #[.bool sx, .slice Ax kx cx]) zx kx) (htab : Tab10 w) (mx : kx ≤ 9223372036854775807) :
    Calls Tryd.prog 9 #[.agg #[.bool sx, .slice Ax kx cx]] w fun e w' => e = .returned (.bool true) ∧ Below w.heap.size w w' := by
  rcases Nat.lt_or_ge 12 kx with gx | gx
  · exact Texts_long0 hx htab  mx gx
  exact Texts_main hx htab gx
end Go.Proofs.YthfkahccnpkgjaaDoor
