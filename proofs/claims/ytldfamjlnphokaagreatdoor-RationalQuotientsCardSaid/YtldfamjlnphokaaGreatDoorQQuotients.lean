/- The law RationalQuotients: the walk. -/
import Derived.Test.YtldfamjlnphokaaGreatDoorQFewL
import Derived.Test.YtldfamjlnphokaaGreatDoorRQ3

set_option linter.unusedVariables false
set_option linter.unusedSimpArgs false

namespace Go.Proofs.YtldfamjlnphokaaGreatDoor
open Go Go.RowKit Num

theorem BInt_true {s : Bool} {m1 m2 : Value} {l : List Nat} {w : World} (h1 : U32 w m1 l) (h2 : U32 w m2 l) (f : l.length ≤ 50000) :
    Calls Tryz.prog 35 #[.agg #[.bool s, m1], .agg #[.bool s, m2]] w fun e w' => e = .returned (.bool true) ∧ Below w.heap.size w w' :=
  (BInt_any s s m1 m2 l l w h1 h2 (by omega) (by omega)).mono fun e w' ⟨he, hb⟩ => ⟨by rw [he]; simp, hb⟩
set_option maxRecDepth 100000 in
set_option maxHeartbeats 4000000 in
theorem BRat_u {s t : Bool} {A1 C1 A2 C2 : Option Addr} {n1 c1 j1 d1 n2 c2 j2 d2 : Nat} {l r : List Nat} {w : World} (h1 : U32 w (.slice A1 n1 c1) l) (h2 : U32 w (.slice C1 j1 d1) r) (g1 : U32 w (.slice A2 n2 c2) l) (g2 : U32 w (.slice C2 j2 d2) r) (f1 : l.length ≤ 50000) (f2 : r.length ≤ 50000) :
    Calls Tryz.prog 13 #[.agg #[.bool s, .slice A1 n1 c1, .bool t, .slice C1 j1 d1], .agg #[.bool s, .slice A2 n2 c2, .bool t, .slice C2 j2 d2]] w fun e w' => e = .returned (.bool true) ∧ Below w.heap.size w w' := by
  have V_a := Lib.hid h1
  have V_b := Lib.hid h2
  have V_c := Lib.hid g1
  have V_d := Lib.hid g2
  clear h1 h2 g1 g2
  have hb0 : Below w.heap.size w ((w.alloc (.cells #[.bool s, (.slice A1 n1 c1), .bool t, (.slice C1 j1 d1)] 26)).alloc (.cells #[.bool s, (.slice A2 n2 c2), .bool t, (.slice C2 j2 d2)] 26)) := (Below.alloc (Below.alloc (Below.refl w.heap.size w) (by simp <;> omega) _) (by simp <;> omega) _)
  have B_x : Box4 ((w.alloc (.cells #[.bool s, (.slice A1 n1 c1), .bool t, (.slice C1 j1 d1)] 26)).alloc (.cells #[.bool s, (.slice A2 n2 c2), .bool t, (.slice C2 j2 d2)] 26)) (w.heap.size) s (.slice A1 n1 c1) t (.slice C1 j1 d1) := by have h := Box4.alloc (Box4.new w s (.slice A1 n1 c1) t (.slice C1 j1 d1)) (.cells #[.bool s, (.slice A2 n2 c2), .bool t, (.slice C2 j2 d2)] 26); simpa using h
  replace B_x := Lib.hid B_x
  have B_y : Box4 ((w.alloc (.cells #[.bool s, (.slice A1 n1 c1), .bool t, (.slice C1 j1 d1)] 26)).alloc (.cells #[.bool s, (.slice A2 n2 c2), .bool t, (.slice C2 j2 d2)] 26)) (w.heap.size + 1) s (.slice A2 n2 c2) t (.slice C2 j2 d2) := by have h := Box4.new (w.alloc (.cells #[.bool s, (.slice A1 n1 c1), .bool t, (.slice C1 j1 d1)] 26)) s (.slice A2 n2 c2) t (.slice C2 j2 d2); simpa using h
  replace B_y := Lib.hid B_y
  replace V_a := Lib.hid (U32.below V_a.out hb0)
  replace V_b := Lib.hid (U32.below V_b.out hb0)
  replace V_c := Lib.hid (U32.below V_c.out hb0)
  replace V_d := Lib.hid (U32.below V_d.out hb0)
  have HB := Lib.hid hb0
  clear hb0
  have c0x := B_x.out.c0
  have c1x := B_x.out.c1
  have c2x := B_x.out.c2
  have c3x := B_x.out.c3
  have c0y := B_y.out.c0
  have c1y := B_y.out.c1
  have c2y := B_y.out.c2
  have c3y := B_y.out.c3
  go_enter Tryz.func13, Tryz.ntmps13
  go_wp2_with fail
  clear c0x c1x c2x c3x c0y c1y c2y c3y
  generalize (w.alloc (.cells #[.bool s, (.slice A1 n1 c1), .bool t, (.slice C1 j1 d1)] 26)).alloc (.cells #[.bool s, (.slice A2 n2 c2), .bool t, (.slice C2 j2 d2)] 26) = W0 at *
  refine (BInt_true (U32.below V_a.out (by exact ⟨rfl, rfl, rfl, Nat.le_refl _, fun _ _ => rfl⟩)) (U32.below V_c.out (by exact ⟨rfl, rfl, rfl, Nat.le_refl _, fun _ _ => rfl⟩)) (by omega)).mono ?_
  rintro e w1 ⟨rfl, bb⟩
  replace bb := nextw (w0 := W0) (by exact ⟨rfl, rfl, rfl, Nat.le_refl _, fun _ _ => rfl⟩) bb
  replace B_x := Lib.hid (Box4.below B_x.out bb B_x.out.lt)
  replace B_y := Lib.hid (Box4.below B_y.out bb B_y.out.lt)
  replace V_a := Lib.hid (U32.below V_a.out bb)
  replace V_b := Lib.hid (U32.below V_b.out bb)
  replace V_c := Lib.hid (U32.below V_c.out bb)
  replace V_d := Lib.hid (U32.below V_d.out bb)
  replace HB := Lib.hid (nextw HB.out bb)
  clear bb
  have c0x := B_x.out.c0
  have c1x := B_x.out.c1
  have c2x := B_x.out.c2
  have c3x := B_x.out.c3
  have c0y := B_y.out.c0
  have c1y := B_y.out.c1
  have c2y := B_y.out.c2
  have c3y := B_y.out.c3
  go_wp2_with fail
  refine (BInt_true (U32.below V_b.out (by exact ⟨rfl, rfl, rfl, Nat.le_refl _, fun _ _ => rfl⟩)) (U32.below V_d.out (by exact ⟨rfl, rfl, rfl, Nat.le_refl _, fun _ _ => rfl⟩)) (by omega)).mono ?_
  rintro e w2 ⟨rfl, bb⟩
  replace bb := nextw (w0 := w1) (by exact ⟨rfl, rfl, rfl, Nat.le_refl _, fun _ _ => rfl⟩) bb
  clear c0x c1x c2x c3x c0y c1y c2y c3y
  replace B_x := Lib.hid (Box4.below B_x.out bb B_x.out.lt)
  replace B_y := Lib.hid (Box4.below B_y.out bb B_y.out.lt)
  replace V_a := Lib.hid (U32.below V_a.out bb)
  replace V_b := Lib.hid (U32.below V_b.out bb)
  replace V_c := Lib.hid (U32.below V_c.out bb)
  replace V_d := Lib.hid (U32.below V_d.out bb)
  replace HB := Lib.hid (nextw HB.out bb)
  clear bb
  have HBo := HB.out
  go_wp2
  go_ret
  exact ⟨rfl, nextw HBo (by exact ⟨rfl, rfl, rfl, Nat.le_refl _, fun _ _ => rfl⟩)⟩

set_option maxRecDepth 100000 in
set_option maxHeartbeats 8000000 in
theorem Quotients_long {sx : Bool} {Ax : Option Addr} {kx cx : Nat} {tx : Bool} {Cx : Option Addr} {lx dx : Nat} {rx : Rat} {qx : Nat} {sy : Bool} {Ay : Option Addr} {ky cy : Nat} {ty : Bool} {Cy : Option Addr} {ly dy : Nat} {ry : Rat} {qy : Nat} {w : World} (hx : Qd w (.agg #[.bool sx, .slice Ax kx cx, .bool tx, .slice Cx lx dx]) rx qx) (hy : Qd w (.agg #[.bool sy, .slice Ay ky cy, .bool ty, .slice Cy ly dy]) ry qy) (htab : Tab10 w) (hm : ∀ p ∈ [(kx, lx), (ky, ly)], p.1 ≤ 9223372036854775807 ∧ p.2 ≤ 9223372036854775807) (hfew : ¬ fewSum [(kx, lx), (ky, ly)] ≤ 60) :
    Calls Tryz.prog 5 #[.agg #[.bool sx, .slice Ax kx cx, .bool tx, .slice Cx lx dx], .agg #[.bool sy, .slice Ay ky cy, .bool ty, .slice Cy ly dy]] w fun e w' => e = .returned (.bool true) ∧ Below w.heap.size w w' := by
  have V_x := Lib.hid hx
  have V_y := Lib.hid hy
  have V_tab := Lib.hid htab
  have HF := Lib.hid hfew
  have HM := Lib.hid hm
  clear hx hy htab hfew hm
  have hb0 : Below w.heap.size w ((w.alloc (.cells #[.bool sx, (.slice Ax kx cx), .bool tx, (.slice Cx lx dx)] 26)).alloc (.cells #[.bool sy, (.slice Ay ky cy), .bool ty, (.slice Cy ly dy)] 26)) := (Below.alloc (Below.alloc (Below.refl w.heap.size w) (by simp <;> omega) _) (by simp <;> omega) _)
  have B_x : Box4 ((w.alloc (.cells #[.bool sx, (.slice Ax kx cx), .bool tx, (.slice Cx lx dx)] 26)).alloc (.cells #[.bool sy, (.slice Ay ky cy), .bool ty, (.slice Cy ly dy)] 26)) (w.heap.size) sx (.slice Ax kx cx) tx (.slice Cx lx dx) := by have h := Box4.alloc (Box4.new w sx (.slice Ax kx cx) tx (.slice Cx lx dx)) (.cells #[.bool sy, (.slice Ay ky cy), .bool ty, (.slice Cy ly dy)] 26); simpa using h
  replace B_x := Lib.hid B_x
  have B_y : Box4 ((w.alloc (.cells #[.bool sx, (.slice Ax kx cx), .bool tx, (.slice Cx lx dx)] 26)).alloc (.cells #[.bool sy, (.slice Ay ky cy), .bool ty, (.slice Cy ly dy)] 26)) (w.heap.size + 1) sy (.slice Ay ky cy) ty (.slice Cy ly dy) := by have h := Box4.new (w.alloc (.cells #[.bool sx, (.slice Ax kx cx), .bool tx, (.slice Cx lx dx)] 26)) sy (.slice Ay ky cy) ty (.slice Cy ly dy); simpa using h
  replace B_y := Lib.hid B_y
  replace V_x := Lib.hid (Qd.below V_x.out hb0)
  replace V_y := Lib.hid (Qd.below V_y.out hb0)
  replace V_tab := Lib.hid (tab_below V_tab.out hb0)
  have HB := Lib.hid hb0
  clear hb0
  have c0x := B_x.out.c0
  have c1x := B_x.out.c1
  have c2x := B_x.out.c2
  have c3x := B_x.out.c3
  have c0y := B_y.out.c0
  have c1y := B_y.out.c1
  have c2y := B_y.out.c2
  have c3y := B_y.out.c3
  go_enter Tryz.func5, Tryz.ntmps5
  go_wp2_with fail
  clear c0x c1x c2x c3x c0y c1y c2y c3y
  generalize (w.alloc (.cells #[.bool sx, (.slice Ax kx cx), .bool tx, (.slice Cx lx dx)] 26)).alloc (.cells #[.bool sy, (.slice Ay ky cy), .bool ty, (.slice Cy ly dy)] 26) = W0 at *
  refine (awakeQ _ (tab_below V_tab.out (by exact ⟨rfl, rfl, rfl, Nat.le_refl _, fun _ _ => rfl⟩))).mono ?_
  rintro e w1 ⟨rfl, bb⟩
  replace bb := nextw (w0 := W0) (by exact ⟨rfl, rfl, rfl, Nat.le_refl _, fun _ _ => rfl⟩) bb
  replace B_x := Lib.hid (Box4.below B_x.out bb B_x.out.lt)
  replace B_y := Lib.hid (Box4.below B_y.out bb B_y.out.lt)
  replace V_x := Lib.hid (Qd.below V_x.out bb)
  replace V_y := Lib.hid (Qd.below V_y.out bb)
  replace V_tab := Lib.hid (tab_below V_tab.out bb)
  replace HB := Lib.hid (nextw HB.out bb)
  clear bb
  have c0x := B_x.out.c0
  have c1x := B_x.out.c1
  have c2x := B_x.out.c2
  have c3x := B_x.out.c3
  have c0y := B_y.out.c0
  have c1y := B_y.out.c1
  have c2y := B_y.out.c2
  have c3y := B_y.out.c3
  go_wp2_with fail
  refine (fewq_no (L := [(kx, lx), (ky, ly)]) (Rats.lit _ _ _ _ (by intro i hi; rcases i with _ | _ | i <;> first | exact ⟨⟨_, _, rfl⟩, ⟨_, _, rfl⟩⟩ | (simp only [List.length_cons, List.length_nil] at hi; omega))) (by simp) HM.out HF.out).mono ?_
  rintro e w2 ⟨rfl, bb⟩
  replace bb := nextw (w0 := w1) (by first | exact ⟨rfl, rfl, rfl, Nat.le_refl _, fun _ _ => rfl⟩ | exact nextw (by exact ⟨rfl, rfl, rfl, Nat.le_refl _, fun _ _ => rfl⟩) ((Below.refl _ _).alloc (Nat.le_refl _) _) | exact below_push rfl rfl rfl rfl) bb
  clear c0x c1x c2x c3x c0y c1y c2y c3y
  replace B_x := Lib.hid (Box4.below B_x.out bb B_x.out.lt)
  replace B_y := Lib.hid (Box4.below B_y.out bb B_y.out.lt)
  replace V_x := Lib.hid (Qd.below V_x.out bb)
  replace V_y := Lib.hid (Qd.below V_y.out bb)
  replace V_tab := Lib.hid (tab_below V_tab.out bb)
  replace HB := Lib.hid (nextw HB.out bb)
  clear bb
  go_wp2_with fail
  refine (awakeQ _ (tab_below V_tab.out (by exact ⟨rfl, rfl, rfl, Nat.le_refl _, fun _ _ => rfl⟩))).mono ?_
  rintro e w3 ⟨rfl, bb⟩
  replace bb := nextw (w0 := w2) (by exact ⟨rfl, rfl, rfl, Nat.le_refl _, fun _ _ => rfl⟩) bb
  replace B_x := Lib.hid (Box4.below B_x.out bb B_x.out.lt)
  replace B_y := Lib.hid (Box4.below B_y.out bb B_y.out.lt)
  replace V_x := Lib.hid (Qd.below V_x.out bb)
  replace V_y := Lib.hid (Qd.below V_y.out bb)
  replace V_tab := Lib.hid (tab_below V_tab.out bb)
  replace HB := Lib.hid (nextw HB.out bb)
  clear bb
  have HBo := HB.out
  go_wp2
  go_ret
  exact ⟨rfl, nextw HBo (by exact ⟨rfl, rfl, rfl, Nat.le_refl _, fun _ _ => rfl⟩)⟩

set_option maxRecDepth 100000 in
set_option maxHeartbeats 16000000 in
theorem Quotients_zw {sx : Bool} {Ax : Option Addr} {kx cx : Nat} {tx : Bool} {Cx : Option Addr} {lx dx : Nat} {rx : Rat} {qx : Nat} {sy : Bool} {Ay : Option Addr} {ky cy : Nat} {ty : Bool} {Cy : Option Addr} {ly dy : Nat} {ry : Rat} {qy : Nat} {w : World} (hx : Qd w (.agg #[.bool sx, .slice Ax kx cx, .bool tx, .slice Cx lx dx]) rx qx) (hy : Qd w (.agg #[.bool sy, .slice Ay ky cy, .bool ty, .slice Cy ly dy]) ry qy) (htab : Tab10 w) (hqx : qx ≤ 60) (hqy : qy ≤ 60) (hfew : fewSum [(kx, lx), (ky, ly)] ≤ 60) (hw : rx.den = 1) (hz : ry = 0) :
    Calls Tryz.prog 5 #[.agg #[.bool sx, .slice Ax kx cx, .bool tx, .slice Cx lx dx], .agg #[.bool sy, .slice Ay ky cy, .bool ty, .slice Cy ly dy]] w fun e w' => e = .returned (.bool true) ∧ Below w.heap.size w w' := by
  have V_x := Lib.hid hx
  have V_y := Lib.hid hy
  have V_tab := Lib.hid htab
  have HF := Lib.hid hfew
  have HW := Lib.hid hw
  have HZ := Lib.hid hz
  clear hx hy htab hfew hw hz
  have hb0 : Below w.heap.size w ((w.alloc (.cells #[.bool sx, (.slice Ax kx cx), .bool tx, (.slice Cx lx dx)] 26)).alloc (.cells #[.bool sy, (.slice Ay ky cy), .bool ty, (.slice Cy ly dy)] 26)) := (Below.alloc (Below.alloc (Below.refl w.heap.size w) (by simp <;> omega) _) (by simp <;> omega) _)
  have B_x : Box4 ((w.alloc (.cells #[.bool sx, (.slice Ax kx cx), .bool tx, (.slice Cx lx dx)] 26)).alloc (.cells #[.bool sy, (.slice Ay ky cy), .bool ty, (.slice Cy ly dy)] 26)) (w.heap.size) sx (.slice Ax kx cx) tx (.slice Cx lx dx) := by have h := Box4.alloc (Box4.new w sx (.slice Ax kx cx) tx (.slice Cx lx dx)) (.cells #[.bool sy, (.slice Ay ky cy), .bool ty, (.slice Cy ly dy)] 26); simpa using h
  replace B_x := Lib.hid B_x
  have B_y : Box4 ((w.alloc (.cells #[.bool sx, (.slice Ax kx cx), .bool tx, (.slice Cx lx dx)] 26)).alloc (.cells #[.bool sy, (.slice Ay ky cy), .bool ty, (.slice Cy ly dy)] 26)) (w.heap.size + 1) sy (.slice Ay ky cy) ty (.slice Cy ly dy) := by have h := Box4.new (w.alloc (.cells #[.bool sx, (.slice Ax kx cx), .bool tx, (.slice Cx lx dx)] 26)) sy (.slice Ay ky cy) ty (.slice Cy ly dy); simpa using h
  replace B_y := Lib.hid B_y
  replace V_x := Lib.hid (Qd.below V_x.out hb0)
  replace V_y := Lib.hid (Qd.below V_y.out hb0)
  replace V_tab := Lib.hid (tab_below V_tab.out hb0)
  have HB := Lib.hid hb0
  clear hb0
  have c0x := B_x.out.c0
  have c1x := B_x.out.c1
  have c2x := B_x.out.c2
  have c3x := B_x.out.c3
  have c0y := B_y.out.c0
  have c1y := B_y.out.c1
  have c2y := B_y.out.c2
  have c3y := B_y.out.c3
  go_enter Tryz.func5, Tryz.ntmps5
  go_wp2_with fail
  clear c0x c1x c2x c3x c0y c1y c2y c3y
  generalize (w.alloc (.cells #[.bool sx, (.slice Ax kx cx), .bool tx, (.slice Cx lx dx)] 26)).alloc (.cells #[.bool sy, (.slice Ay ky cy), .bool ty, (.slice Cy ly dy)] 26) = W0 at *
  refine (awakeQ _ (tab_below V_tab.out (by exact ⟨rfl, rfl, rfl, Nat.le_refl _, fun _ _ => rfl⟩))).mono ?_
  rintro e w1 ⟨rfl, bb⟩
  replace bb := nextw (w0 := W0) (by exact ⟨rfl, rfl, rfl, Nat.le_refl _, fun _ _ => rfl⟩) bb
  replace B_x := Lib.hid (Box4.below B_x.out bb B_x.out.lt)
  replace B_y := Lib.hid (Box4.below B_y.out bb B_y.out.lt)
  replace V_x := Lib.hid (Qd.below V_x.out bb)
  replace V_y := Lib.hid (Qd.below V_y.out bb)
  replace V_tab := Lib.hid (tab_below V_tab.out bb)
  replace HB := Lib.hid (nextw HB.out bb)
  clear bb
  have c0x := B_x.out.c0
  have c1x := B_x.out.c1
  have c2x := B_x.out.c2
  have c3x := B_x.out.c3
  have c0y := B_y.out.c0
  have c1y := B_y.out.c1
  have c2y := B_y.out.c2
  have c3y := B_y.out.c3
  go_wp2_with fail
  refine (fewq_yes (L := [(kx, lx), (ky, ly)]) (Rats.lit _ _ _ _ (by intro i hi; rcases i with _ | _ | i <;> first | exact ⟨⟨_, _, rfl⟩, ⟨_, _, rfl⟩⟩ | (simp only [List.length_cons, List.length_nil] at hi; omega))) (by simp) HF.out).mono ?_
  rintro e w2 ⟨rfl, bb⟩
  replace bb := nextw (w0 := w1) (by first | exact ⟨rfl, rfl, rfl, Nat.le_refl _, fun _ _ => rfl⟩ | exact nextw (by exact ⟨rfl, rfl, rfl, Nat.le_refl _, fun _ _ => rfl⟩) ((Below.refl _ _).alloc (Nat.le_refl _) _) | exact below_push rfl rfl rfl rfl) bb
  clear c0x c1x c2x c3x c0y c1y c2y c3y
  replace B_x := Lib.hid (Box4.below B_x.out bb B_x.out.lt)
  replace B_y := Lib.hid (Box4.below B_y.out bb B_y.out.lt)
  replace V_x := Lib.hid (Qd.below V_x.out bb)
  replace V_y := Lib.hid (Qd.below V_y.out bb)
  replace V_tab := Lib.hid (tab_below V_tab.out bb)
  replace HB := Lib.hid (nextw HB.out bb)
  clear bb
  clear V_tab
  have c0x := B_x.out.c0
  have c1x := B_x.out.c1
  have c2x := B_x.out.c2
  have c3x := B_x.out.c3
  have c0y := B_y.out.c0
  have c1y := B_y.out.c1
  have c2y := B_y.out.c2
  have c3y := B_y.out.c3
  go_wp2_with fail
  refine (Div_zero (Qd.below V_x.out (by exact ⟨rfl, rfl, rfl, Nat.le_refl _, fun _ _ => rfl⟩)) (Qd.below V_y.out (by exact ⟨rfl, rfl, rfl, Nat.le_refl _, fun _ _ => rfl⟩)) (by omega) (by omega) HZ.out).mono ?_
  rintro e w3 ⟨vq, rfl, rfl, bb⟩
  replace bb := nextw (w0 := w2) (by exact ⟨rfl, rfl, rfl, Nat.le_refl _, fun _ _ => rfl⟩) bb
  clear c0x c1x c2x c3x c0y c1y c2y c3y
  replace B_x := Lib.hid (Box4.below B_x.out bb B_x.out.lt)
  replace B_y := Lib.hid (Box4.below B_y.out bb B_y.out.lt)
  replace V_x := Lib.hid (Qd.below V_x.out bb)
  replace V_y := Lib.hid (Qd.below V_y.out bb)
  replace HB := Lib.hid (nextw HB.out bb)
  clear bb
  have hb0 : Below w3.heap.size w3 (w3.alloc (.cells #[.bool false, (.slice none 0 0), .bool false, (.slice none 0 0)] 26)) := (Below.alloc (Below.refl w3.heap.size w3) (by simp <;> omega) _)
  have B_q : Box4 (w3.alloc (.cells #[.bool false, (.slice none 0 0), .bool false, (.slice none 0 0)] 26)) (w3.heap.size) false (.slice none 0 0) false (.slice none 0 0) := by have h := Box4.new w3 false (.slice none 0 0) false (.slice none 0 0); simpa using h
  replace B_q := Lib.hid B_q
  replace B_x := Lib.hid (Box4.below B_x.out hb0 B_x.out.lt)
  replace B_y := Lib.hid (Box4.below B_y.out hb0 B_y.out.lt)
  replace V_x := Lib.hid (Qd.below V_x.out hb0)
  replace V_y := Lib.hid (Qd.below V_y.out hb0)
  replace HB := Lib.hid (nextw HB.out hb0)
  clear hb0
  have c0x := B_x.out.c0
  have c1x := B_x.out.c1
  have c2x := B_x.out.c2
  have c3x := B_x.out.c3
  have c0y := B_y.out.c0
  have c1y := B_y.out.c1
  have c2y := B_y.out.c2
  have c3y := B_y.out.c3
  have c0q := B_q.out.c0
  have c1q := B_q.out.c1
  have c2q := B_q.out.c2
  have c3q := B_q.out.c3
  go_wp2_with fail
  clear c0x c1x c2x c3x c0y c1y c2y c3y c0q c1q c2q c3q
  generalize w3.alloc (.cells #[.bool false, (.slice none 0 0), .bool false, (.slice none 0 0)] 26) = W1 at *
  refine (RDivQ_zero (Qd.below V_x.out (by exact ⟨rfl, rfl, rfl, Nat.le_refl _, fun _ _ => rfl⟩)) (Qd.below V_y.out (by exact ⟨rfl, rfl, rfl, Nat.le_refl _, fun _ _ => rfl⟩)) (by omega) (by omega) HZ.out).mono ?_
  rintro e w4 ⟨vp, rfl, rfl, bb⟩
  replace bb := nextw (w0 := W1) (by exact ⟨rfl, rfl, rfl, Nat.le_refl _, fun _ _ => rfl⟩) bb
  replace B_x := Lib.hid (Box4.below B_x.out bb B_x.out.lt)
  replace B_y := Lib.hid (Box4.below B_y.out bb B_y.out.lt)
  replace B_q := Lib.hid (Box4.below B_q.out bb B_q.out.lt)
  replace V_x := Lib.hid (Qd.below V_x.out bb)
  replace V_y := Lib.hid (Qd.below V_y.out bb)
  replace HB := Lib.hid (nextw HB.out bb)
  clear bb
  have hb0 : Below w4.heap.size w4 (w4.alloc (.cells #[.bool false, (.slice none 0 0), .bool false, (.slice none 0 0)] 26)) := (Below.alloc (Below.refl w4.heap.size w4) (by simp <;> omega) _)
  have B_p : Box4 (w4.alloc (.cells #[.bool false, (.slice none 0 0), .bool false, (.slice none 0 0)] 26)) (w4.heap.size) false (.slice none 0 0) false (.slice none 0 0) := by have h := Box4.new w4 false (.slice none 0 0) false (.slice none 0 0); simpa using h
  replace B_p := Lib.hid B_p
  replace B_x := Lib.hid (Box4.below B_x.out hb0 B_x.out.lt)
  replace B_y := Lib.hid (Box4.below B_y.out hb0 B_y.out.lt)
  replace B_q := Lib.hid (Box4.below B_q.out hb0 B_q.out.lt)
  replace V_x := Lib.hid (Qd.below V_x.out hb0)
  replace V_y := Lib.hid (Qd.below V_y.out hb0)
  replace HB := Lib.hid (nextw HB.out hb0)
  clear hb0
  have c0x := B_x.out.c0
  have c1x := B_x.out.c1
  have c2x := B_x.out.c2
  have c3x := B_x.out.c3
  have c0y := B_y.out.c0
  have c1y := B_y.out.c1
  have c2y := B_y.out.c2
  have c3y := B_y.out.c3
  have c0p := B_p.out.c0
  have c1p := B_p.out.c1
  have c2p := B_p.out.c2
  have c3p := B_p.out.c3
  go_wp2_with fail
  clear c0x c1x c2x c3x c0y c1y c2y c3y c0p c1p c2p c3p
  generalize w4.alloc (.cells #[.bool false, (.slice none 0 0), .bool false, (.slice none 0 0)] 26) = W2 at *
  refine (Whole_yes (Qd.below V_x.out (by exact ⟨rfl, rfl, rfl, Nat.le_refl _, fun _ _ => rfl⟩)) (by omega) HW.out).mono ?_
  rintro e w5 ⟨vh, rfl, rh, bb⟩
  replace bb := nextw (w0 := W2) (by exact ⟨rfl, rfl, rfl, Nat.le_refl _, fun _ _ => rfl⟩) bb
  replace B_x := Lib.hid (Box4.below B_x.out bb B_x.out.lt)
  replace B_y := Lib.hid (Box4.below B_y.out bb B_y.out.lt)
  replace B_q := Lib.hid (Box4.below B_q.out bb B_q.out.lt)
  replace B_p := Lib.hid (Box4.below B_p.out bb B_p.out.lt)
  replace V_x := Lib.hid (Qd.below V_x.out bb)
  replace V_y := Lib.hid (Qd.below V_y.out bb)
  replace HB := Lib.hid (nextw HB.out bb)
  clear bb
  obtain ⟨sh, Ah, kh, ch, rfl⟩ := rh.shape
  have V_h := Lib.hid rh
  clear rh
  have hb0 : Below w5.heap.size w5 (w5.alloc (.cells #[.bool sh, (.slice Ah kh ch)] 24)) := (Below.alloc (Below.refl w5.heap.size w5) (by simp <;> omega) _)
  have B_h : Box (w5.alloc (.cells #[.bool sh, (.slice Ah kh ch)] 24)) (w5.heap.size) sh (.slice Ah kh ch) := by have h := Box.new w5 sh (.slice Ah kh ch); simpa using h
  replace B_h := Lib.hid B_h
  replace B_x := Lib.hid (Box4.below B_x.out hb0 B_x.out.lt)
  replace B_y := Lib.hid (Box4.below B_y.out hb0 B_y.out.lt)
  replace B_q := Lib.hid (Box4.below B_q.out hb0 B_q.out.lt)
  replace B_p := Lib.hid (Box4.below B_p.out hb0 B_p.out.lt)
  replace V_x := Lib.hid (Qd.below V_x.out hb0)
  replace V_y := Lib.hid (Qd.below V_y.out hb0)
  replace V_h := Lib.hid (Rc.below V_h.out hb0)
  replace HB := Lib.hid (nextw HB.out hb0)
  clear hb0
  have c0x := B_x.out.c0
  have c1x := B_x.out.c1
  have c2x := B_x.out.c2
  have c3x := B_x.out.c3
  have c0y := B_y.out.c0
  have c1y := B_y.out.c1
  have c2y := B_y.out.c2
  have c3y := B_y.out.c3
  have c0q := B_q.out.c0
  have c1q := B_q.out.c1
  have c2q := B_q.out.c2
  have c3q := B_q.out.c3
  have c0p := B_p.out.c0
  have c1p := B_p.out.c1
  have c2p := B_p.out.c2
  have c3p := B_p.out.c3
  have c0h := B_h.out.c0
  have c1h := B_h.out.c1
  go_wp2_with fail
  clear c0x c1x c2x c3x c0y c1y c2y c3y c0q c1q c2q c3q c0p c1p c2p c3p c0h c1h
  generalize w5.alloc (.cells #[.bool sh, (.slice Ah kh ch)] 24) = W3 at *
  refine (RWhole_yes (Qd.below V_x.out (by exact ⟨rfl, rfl, rfl, Nat.le_refl _, fun _ _ => rfl⟩)) (by omega) HW.out).mono ?_
  rintro e w6 ⟨vg, rfl, rg, bb⟩
  replace bb := nextw (w0 := W3) (by exact ⟨rfl, rfl, rfl, Nat.le_refl _, fun _ _ => rfl⟩) bb
  replace B_x := Lib.hid (Box4.below B_x.out bb B_x.out.lt)
  replace B_y := Lib.hid (Box4.below B_y.out bb B_y.out.lt)
  replace B_q := Lib.hid (Box4.below B_q.out bb B_q.out.lt)
  replace B_p := Lib.hid (Box4.below B_p.out bb B_p.out.lt)
  replace B_h := Lib.hid (Box.below B_h.out bb B_h.out.lt)
  replace V_x := Lib.hid (Qd.below V_x.out bb)
  replace V_y := Lib.hid (Qd.below V_y.out bb)
  replace V_h := Lib.hid (Rc.below V_h.out bb)
  replace HB := Lib.hid (nextw HB.out bb)
  clear bb
  obtain ⟨sg, Ag, kg, cg, rfl⟩ := rg.shape
  have V_g := Lib.hid rg
  clear rg
  have hb0 : Below w6.heap.size w6 (w6.alloc (.cells #[.bool sg, (.slice Ag kg cg)] 24)) := (Below.alloc (Below.refl w6.heap.size w6) (by simp <;> omega) _)
  have B_g : Box (w6.alloc (.cells #[.bool sg, (.slice Ag kg cg)] 24)) (w6.heap.size) sg (.slice Ag kg cg) := by have h := Box.new w6 sg (.slice Ag kg cg); simpa using h
  replace B_g := Lib.hid B_g
  replace B_x := Lib.hid (Box4.below B_x.out hb0 B_x.out.lt)
  replace B_y := Lib.hid (Box4.below B_y.out hb0 B_y.out.lt)
  replace B_q := Lib.hid (Box4.below B_q.out hb0 B_q.out.lt)
  replace B_p := Lib.hid (Box4.below B_p.out hb0 B_p.out.lt)
  replace B_h := Lib.hid (Box.below B_h.out hb0 B_h.out.lt)
  replace V_x := Lib.hid (Qd.below V_x.out hb0)
  replace V_y := Lib.hid (Qd.below V_y.out hb0)
  replace V_h := Lib.hid (Rc.below V_h.out hb0)
  replace V_g := Lib.hid (Rc.below V_g.out hb0)
  replace HB := Lib.hid (nextw HB.out hb0)
  clear hb0
  have c0x := B_x.out.c0
  have c1x := B_x.out.c1
  have c2x := B_x.out.c2
  have c3x := B_x.out.c3
  have c0y := B_y.out.c0
  have c1y := B_y.out.c1
  have c2y := B_y.out.c2
  have c3y := B_y.out.c3
  have c0q := B_q.out.c0
  have c1q := B_q.out.c1
  have c2q := B_q.out.c2
  have c3q := B_q.out.c3
  have c0p := B_p.out.c0
  have c1p := B_p.out.c1
  have c2p := B_p.out.c2
  have c3p := B_p.out.c3
  have c0h := B_h.out.c0
  have c1h := B_h.out.c1
  have c0g := B_g.out.c0
  have c1g := B_g.out.c1
  go_wp2
  clear c0x c1x c2x c3x c0y c1y c2y c3y c0q c1q c2q c3q c0p c1p c2p c3p c0h c1h c0g c1g
  generalize w6.alloc (.cells #[.bool sg, (.slice Ag kg cg)] 24) = W4 at *
  have c0x := B_x.out.c0
  have c1x := B_x.out.c1
  have c2x := B_x.out.c2
  have c3x := B_x.out.c3
  have c0y := B_y.out.c0
  have c1y := B_y.out.c1
  have c2y := B_y.out.c2
  have c3y := B_y.out.c3
  have c0q := B_q.out.c0
  have c1q := B_q.out.c1
  have c2q := B_q.out.c2
  have c3q := B_q.out.c3
  have c0p := B_p.out.c0
  have c1p := B_p.out.c1
  have c2p := B_p.out.c2
  have c3p := B_p.out.c3
  have c0h := B_h.out.c0
  have c1h := B_h.out.c1
  have c0g := B_g.out.c0
  have c1g := B_g.out.c1
  have tk0 : True := trivial
  first | (go_region_held3 (fun w' => w'.cell? ⟨w.heap.size, 0, none⟩ = some (.bool sx) ∧ w'.cell? ⟨w.heap.size, 1, none⟩ = some (.slice Ax kx cx) ∧ w'.cell? ⟨w.heap.size, 2, none⟩ = some (.bool tx) ∧ w'.cell? ⟨w.heap.size, 3, none⟩ = some (.slice Cx lx dx) ∧ w'.cell? ⟨w.heap.size + 1, 0, none⟩ = some (.bool sy) ∧ w'.cell? ⟨w.heap.size + 1, 1, none⟩ = some (.slice Ay ky cy) ∧ w'.cell? ⟨w.heap.size + 1, 2, none⟩ = some (.bool ty) ∧ w'.cell? ⟨w.heap.size + 1, 3, none⟩ = some (.slice Cy ly dy) ∧ w'.cell? ⟨w3.heap.size, 0, none⟩ = some (.bool false) ∧ w'.cell? ⟨w3.heap.size, 1, none⟩ = some (.slice none 0 0) ∧ w'.cell? ⟨w3.heap.size, 2, none⟩ = some (.bool false) ∧ w'.cell? ⟨w3.heap.size, 3, none⟩ = some (.slice none 0 0) ∧ w'.cell? ⟨w4.heap.size, 0, none⟩ = some (.bool false) ∧ w'.cell? ⟨w4.heap.size, 1, none⟩ = some (.slice none 0 0) ∧ w'.cell? ⟨w4.heap.size, 2, none⟩ = some (.bool false) ∧ w'.cell? ⟨w4.heap.size, 3, none⟩ = some (.slice none 0 0) ∧ w'.cell? ⟨w5.heap.size, 0, none⟩ = some (.bool sh) ∧ w'.cell? ⟨w5.heap.size, 1, none⟩ = some (.slice Ah kh ch) ∧ w'.cell? ⟨w6.heap.size, 0, none⟩ = some (.bool sg) ∧ w'.cell? ⟨w6.heap.size, 1, none⟩ = some (.slice Ag kg cg)) (((try dsimp only); (repeat' apply And.intro) <;> (first | (with_reducible assumption) | ((repeat (first | (with_reducible refine Eq.trans (cell_drew1 _ _) ?_) | (with_reducible refine Eq.trans (cell_set4 (by omega) _ _ _ _) ?_))); with_reducible assumption) | assumption | go_keep)))
    (first
      | (have _t := tk0; clear _t tk0; go_at_call 13; refine (BRat_u (U32.nil none (Nat.zero_le _)) (U32.nil none (Nat.zero_le _)) (U32.nil none (Nat.zero_le _)) (U32.nil none (Nat.zero_le _)) (by simp) (by simp)).mono ?_; rintro e w7 ⟨rfl, bb⟩; replace bb := nextw (w0 := W4) (by exact ⟨rfl, rfl, rfl, Nat.le_refl _, fun _ _ => rfl⟩) bb; replace B_x := Lib.hid (Box4.below B_x.out bb B_x.out.lt); replace B_y := Lib.hid (Box4.below B_y.out bb B_y.out.lt); replace B_q := Lib.hid (Box4.below B_q.out bb B_q.out.lt); replace B_p := Lib.hid (Box4.below B_p.out bb B_p.out.lt); replace B_h := Lib.hid (Box.below B_h.out bb B_h.out.lt); replace B_g := Lib.hid (Box.below B_g.out bb B_g.out.lt); replace V_x := Lib.hid (Qd.below V_x.out bb); replace V_y := Lib.hid (Qd.below V_y.out bb); replace V_h := Lib.hid (Rc.below V_h.out bb); replace V_g := Lib.hid (Rc.below V_g.out bb); replace HB := Lib.hid (nextw HB.out bb); clear bb; have c0x := B_x.out.c0; have c1x := B_x.out.c1; have c2x := B_x.out.c2; have c3x := B_x.out.c3; have c0y := B_y.out.c0; have c1y := B_y.out.c1; have c2y := B_y.out.c2; have c3y := B_y.out.c3; have c0q := B_q.out.c0; have c1q := B_q.out.c1; have c2q := B_q.out.c2; have c3q := B_q.out.c3; have c0p := B_p.out.c0; have c1p := B_p.out.c1; have c2p := B_p.out.c2; have c3p := B_p.out.c3; have c0h := B_h.out.c0; have c1h := B_h.out.c1; have c0g := B_g.out.c0; have c1g := B_g.out.c1; have tk1 : True := trivial)
      | (have _t := tk1; clear _t tk1; go_at_call 33; refine (Cmp_q (Qd.below V_x.out (by exact ⟨rfl, rfl, rfl, Nat.le_refl _, fun _ _ => rfl⟩)) (Qd.below V_y.out (by exact ⟨rfl, rfl, rfl, Nat.le_refl _, fun _ _ => rfl⟩)) (by omega) (by omega)).mono ?_; rintro e w8 ⟨rfl, bb⟩; replace bb := nextw (w0 := w7) (by exact ⟨rfl, rfl, rfl, Nat.le_refl _, fun _ _ => rfl⟩) bb; replace B_x := Lib.hid (Box4.below B_x.out bb B_x.out.lt); replace B_y := Lib.hid (Box4.below B_y.out bb B_y.out.lt); replace B_q := Lib.hid (Box4.below B_q.out bb B_q.out.lt); replace B_p := Lib.hid (Box4.below B_p.out bb B_p.out.lt); replace B_h := Lib.hid (Box.below B_h.out bb B_h.out.lt); replace B_g := Lib.hid (Box.below B_g.out bb B_g.out.lt); replace V_x := Lib.hid (Qd.below V_x.out bb); replace V_y := Lib.hid (Qd.below V_y.out bb); replace V_h := Lib.hid (Rc.below V_h.out bb); replace V_g := Lib.hid (Rc.below V_g.out bb); replace HB := Lib.hid (nextw HB.out bb); clear bb; have c0x := B_x.out.c0; have c1x := B_x.out.c1; have c2x := B_x.out.c2; have c3x := B_x.out.c3; have c0y := B_y.out.c0; have c1y := B_y.out.c1; have c2y := B_y.out.c2; have c3y := B_y.out.c3; have c0q := B_q.out.c0; have c1q := B_q.out.c1; have c2q := B_q.out.c2; have c3q := B_q.out.c3; have c0p := B_p.out.c0; have c1p := B_p.out.c1; have c2p := B_p.out.c2; have c3p := B_p.out.c3; have c0h := B_h.out.c0; have c1h := B_h.out.c1; have c0g := B_g.out.c0; have c1g := B_g.out.c1; have tk2 : True := trivial)
      | (have _t := tk2; clear _t tk2; go_at_call 34; refine (RCmpQ_q (Qd.below V_x.out (by exact ⟨rfl, rfl, rfl, Nat.le_refl _, fun _ _ => rfl⟩)) (Qd.below V_y.out (by exact ⟨rfl, rfl, rfl, Nat.le_refl _, fun _ _ => rfl⟩)) (by omega) (by omega)).mono ?_; rintro e w9 ⟨rfl, bb⟩; replace bb := nextw (w0 := w8) (by exact ⟨rfl, rfl, rfl, Nat.le_refl _, fun _ _ => rfl⟩) bb; replace B_x := Lib.hid (Box4.below B_x.out bb B_x.out.lt); replace B_y := Lib.hid (Box4.below B_y.out bb B_y.out.lt); replace B_q := Lib.hid (Box4.below B_q.out bb B_q.out.lt); replace B_p := Lib.hid (Box4.below B_p.out bb B_p.out.lt); replace B_h := Lib.hid (Box.below B_h.out bb B_h.out.lt); replace B_g := Lib.hid (Box.below B_g.out bb B_g.out.lt); replace V_x := Lib.hid (Qd.below V_x.out bb); replace V_y := Lib.hid (Qd.below V_y.out bb); replace V_h := Lib.hid (Rc.below V_h.out bb); replace V_g := Lib.hid (Rc.below V_g.out bb); replace HB := Lib.hid (nextw HB.out bb); clear bb; have c0x := B_x.out.c0; have c1x := B_x.out.c1; have c2x := B_x.out.c2; have c3x := B_x.out.c3; have c0y := B_y.out.c0; have c1y := B_y.out.c1; have c2y := B_y.out.c2; have c3y := B_y.out.c3; have c0q := B_q.out.c0; have c1q := B_q.out.c1; have c2q := B_q.out.c2; have c3q := B_q.out.c3; have c0p := B_p.out.c0; have c1p := B_p.out.c1; have c2p := B_p.out.c2; have c3p := B_p.out.c3; have c0h := B_h.out.c0; have c1h := B_h.out.c1; have c0g := B_g.out.c0; have c1g := B_g.out.c1; have tk3 : True := trivial)
      | (have _t := tk3; clear _t tk3; go_at_call 36; refine (Floor_q (Qd.below V_x.out (by exact ⟨rfl, rfl, rfl, Nat.le_refl _, fun _ _ => rfl⟩)) (by omega)).mono ?_; rintro e w10 ⟨vi1, rfl, ri1, bb⟩; replace bb := nextw (w0 := w9) (by exact ⟨rfl, rfl, rfl, Nat.le_refl _, fun _ _ => rfl⟩) bb; replace B_x := Lib.hid (Box4.below B_x.out bb B_x.out.lt); replace B_y := Lib.hid (Box4.below B_y.out bb B_y.out.lt); replace B_q := Lib.hid (Box4.below B_q.out bb B_q.out.lt); replace B_p := Lib.hid (Box4.below B_p.out bb B_p.out.lt); replace B_h := Lib.hid (Box.below B_h.out bb B_h.out.lt); replace B_g := Lib.hid (Box.below B_g.out bb B_g.out.lt); replace V_x := Lib.hid (Qd.below V_x.out bb); replace V_y := Lib.hid (Qd.below V_y.out bb); replace V_h := Lib.hid (Rc.below V_h.out bb); replace V_g := Lib.hid (Rc.below V_g.out bb); replace HB := Lib.hid (nextw HB.out bb); clear bb; replace ri1 := Lib.hid ri1; have V_i1 := ri1; clear ri1; have c0x := B_x.out.c0; have c1x := B_x.out.c1; have c2x := B_x.out.c2; have c3x := B_x.out.c3; have c0y := B_y.out.c0; have c1y := B_y.out.c1; have c2y := B_y.out.c2; have c3y := B_y.out.c3; have c0q := B_q.out.c0; have c1q := B_q.out.c1; have c2q := B_q.out.c2; have c3q := B_q.out.c3; have c0p := B_p.out.c0; have c1p := B_p.out.c1; have c2p := B_p.out.c2; have c3p := B_p.out.c3; have c0h := B_h.out.c0; have c1h := B_h.out.c1; have c0g := B_g.out.c0; have c1g := B_g.out.c1; have tk4 : True := trivial)
      | (have _t := tk4; clear _t tk4; go_at_call 37; refine (RFloorQ_q (Qd.below V_x.out (by exact ⟨rfl, rfl, rfl, Nat.le_refl _, fun _ _ => rfl⟩)) (by omega)).mono ?_; rintro e w11 ⟨vi2, rfl, ri2, bb⟩; replace bb := nextw (w0 := w10) (by exact ⟨rfl, rfl, rfl, Nat.le_refl _, fun _ _ => rfl⟩) bb; replace B_x := Lib.hid (Box4.below B_x.out bb B_x.out.lt); replace B_y := Lib.hid (Box4.below B_y.out bb B_y.out.lt); replace B_q := Lib.hid (Box4.below B_q.out bb B_q.out.lt); replace B_p := Lib.hid (Box4.below B_p.out bb B_p.out.lt); replace B_h := Lib.hid (Box.below B_h.out bb B_h.out.lt); replace B_g := Lib.hid (Box.below B_g.out bb B_g.out.lt); replace V_x := Lib.hid (Qd.below V_x.out bb); replace V_y := Lib.hid (Qd.below V_y.out bb); replace V_h := Lib.hid (Rc.below V_h.out bb); replace V_g := Lib.hid (Rc.below V_g.out bb); replace V_i1 := Lib.hid (Rc.below V_i1.out bb); replace HB := Lib.hid (nextw HB.out bb); clear bb; replace ri2 := Lib.hid ri2; have V_i2 := ri2; clear ri2; have c0x := B_x.out.c0; have c1x := B_x.out.c1; have c2x := B_x.out.c2; have c3x := B_x.out.c3; have c0y := B_y.out.c0; have c1y := B_y.out.c1; have c2y := B_y.out.c2; have c3y := B_y.out.c3; have c0q := B_q.out.c0; have c1q := B_q.out.c1; have c2q := B_q.out.c2; have c3q := B_q.out.c3; have c0p := B_p.out.c0; have c1p := B_p.out.c1; have c2p := B_p.out.c2; have c3p := B_p.out.c3; have c0h := B_h.out.c0; have c1h := B_h.out.c1; have c0g := B_g.out.c0; have c1g := B_g.out.c1; have tk5 : True := trivial)
      | (have _t := tk5; clear _t tk5; go_at_call 35; refine (BInt_rc (Rc.below V_i1.out (by exact ⟨rfl, rfl, rfl, Nat.le_refl _, fun _ _ => rfl⟩)) (Rc.below V_i2.out (by exact ⟨rfl, rfl, rfl, Nat.le_refl _, fun _ _ => rfl⟩)) (by omega) (by omega) (rfl)).mono ?_; rintro e w12 ⟨rfl, bb⟩; replace bb := nextw (w0 := w11) (by exact ⟨rfl, rfl, rfl, Nat.le_refl _, fun _ _ => rfl⟩) bb; clear V_i1 V_i2; replace B_x := Lib.hid (Box4.below B_x.out bb B_x.out.lt); replace B_y := Lib.hid (Box4.below B_y.out bb B_y.out.lt); replace B_q := Lib.hid (Box4.below B_q.out bb B_q.out.lt); replace B_p := Lib.hid (Box4.below B_p.out bb B_p.out.lt); replace B_h := Lib.hid (Box.below B_h.out bb B_h.out.lt); replace B_g := Lib.hid (Box.below B_g.out bb B_g.out.lt); replace V_x := Lib.hid (Qd.below V_x.out bb); replace V_y := Lib.hid (Qd.below V_y.out bb); replace V_h := Lib.hid (Rc.below V_h.out bb); replace V_g := Lib.hid (Rc.below V_g.out bb); replace HB := Lib.hid (nextw HB.out bb); clear bb; have c0x := B_x.out.c0; have c1x := B_x.out.c1; have c2x := B_x.out.c2; have c3x := B_x.out.c3; have c0y := B_y.out.c0; have c1y := B_y.out.c1; have c2y := B_y.out.c2; have c3y := B_y.out.c3; have c0q := B_q.out.c0; have c1q := B_q.out.c1; have c2q := B_q.out.c2; have c3q := B_q.out.c3; have c0p := B_p.out.c0; have c1p := B_p.out.c1; have c2p := B_p.out.c2; have c3p := B_p.out.c3; have c0h := B_h.out.c0; have c1h := B_h.out.c1; have c0g := B_g.out.c0; have c1g := B_g.out.c1; have tk6 : True := trivial)
      | (have _t := tk6; clear _t tk6; go_at_call 35; refine (BInt_rc (Rc.below V_h.out (by exact ⟨rfl, rfl, rfl, Nat.le_refl _, fun _ _ => rfl⟩)) (Rc.below V_g.out (by exact ⟨rfl, rfl, rfl, Nat.le_refl _, fun _ _ => rfl⟩)) (by omega) (by omega) (rfl)).mono ?_; rintro e w13 ⟨rfl, bb⟩; replace bb := nextw (w0 := w12) (by exact ⟨rfl, rfl, rfl, Nat.le_refl _, fun _ _ => rfl⟩) bb; clear V_h V_g; replace B_x := Lib.hid (Box4.below B_x.out bb B_x.out.lt); replace B_y := Lib.hid (Box4.below B_y.out bb B_y.out.lt); replace B_q := Lib.hid (Box4.below B_q.out bb B_q.out.lt); replace B_p := Lib.hid (Box4.below B_p.out bb B_p.out.lt); replace B_h := Lib.hid (Box.below B_h.out bb B_h.out.lt); replace B_g := Lib.hid (Box.below B_g.out bb B_g.out.lt); replace V_x := Lib.hid (Qd.below V_x.out bb); replace V_y := Lib.hid (Qd.below V_y.out bb); replace HB := Lib.hid (nextw HB.out bb); clear bb; have c0x := B_x.out.c0; have c1x := B_x.out.c1; have c2x := B_x.out.c2; have c3x := B_x.out.c3; have c0y := B_y.out.c0; have c1y := B_y.out.c1; have c2y := B_y.out.c2; have c3y := B_y.out.c3; have c0q := B_q.out.c0; have c1q := B_q.out.c1; have c2q := B_q.out.c2; have c3q := B_q.out.c3; have c0p := B_p.out.c0; have c1p := B_p.out.c1; have c2p := B_p.out.c2; have c3p := B_p.out.c3; have c0h := B_h.out.c0; have c1h := B_h.out.c1; have c0g := B_g.out.c0; have c1g := B_g.out.c1; have tk7 : True := trivial))) | fail
  have HBo := HB.out
  go_wp2
  go_ret
  exact ⟨rfl, nextw HBo (by exact ⟨rfl, rfl, rfl, Nat.le_refl _, fun _ _ => rfl⟩)⟩

set_option maxRecDepth 100000 in
set_option maxHeartbeats 16000000 in
theorem Quotients_zf {sx : Bool} {Ax : Option Addr} {kx cx : Nat} {tx : Bool} {Cx : Option Addr} {lx dx : Nat} {rx : Rat} {qx : Nat} {sy : Bool} {Ay : Option Addr} {ky cy : Nat} {ty : Bool} {Cy : Option Addr} {ly dy : Nat} {ry : Rat} {qy : Nat} {w : World} (hx : Qd w (.agg #[.bool sx, .slice Ax kx cx, .bool tx, .slice Cx lx dx]) rx qx) (hy : Qd w (.agg #[.bool sy, .slice Ay ky cy, .bool ty, .slice Cy ly dy]) ry qy) (htab : Tab10 w) (hqx : qx ≤ 60) (hqy : qy ≤ 60) (hfew : fewSum [(kx, lx), (ky, ly)] ≤ 60) (hw : rx.den ≠ 1) (hz : ry = 0) :
    Calls Tryz.prog 5 #[.agg #[.bool sx, .slice Ax kx cx, .bool tx, .slice Cx lx dx], .agg #[.bool sy, .slice Ay ky cy, .bool ty, .slice Cy ly dy]] w fun e w' => e = .returned (.bool true) ∧ Below w.heap.size w w' := by
  have V_x := Lib.hid hx
  have V_y := Lib.hid hy
  have V_tab := Lib.hid htab
  have HF := Lib.hid hfew
  have HW := Lib.hid hw
  have HZ := Lib.hid hz
  clear hx hy htab hfew hw hz
  have hb0 : Below w.heap.size w ((w.alloc (.cells #[.bool sx, (.slice Ax kx cx), .bool tx, (.slice Cx lx dx)] 26)).alloc (.cells #[.bool sy, (.slice Ay ky cy), .bool ty, (.slice Cy ly dy)] 26)) := (Below.alloc (Below.alloc (Below.refl w.heap.size w) (by simp <;> omega) _) (by simp <;> omega) _)
  have B_x : Box4 ((w.alloc (.cells #[.bool sx, (.slice Ax kx cx), .bool tx, (.slice Cx lx dx)] 26)).alloc (.cells #[.bool sy, (.slice Ay ky cy), .bool ty, (.slice Cy ly dy)] 26)) (w.heap.size) sx (.slice Ax kx cx) tx (.slice Cx lx dx) := by have h := Box4.alloc (Box4.new w sx (.slice Ax kx cx) tx (.slice Cx lx dx)) (.cells #[.bool sy, (.slice Ay ky cy), .bool ty, (.slice Cy ly dy)] 26); simpa using h
  replace B_x := Lib.hid B_x
  have B_y : Box4 ((w.alloc (.cells #[.bool sx, (.slice Ax kx cx), .bool tx, (.slice Cx lx dx)] 26)).alloc (.cells #[.bool sy, (.slice Ay ky cy), .bool ty, (.slice Cy ly dy)] 26)) (w.heap.size + 1) sy (.slice Ay ky cy) ty (.slice Cy ly dy) := by have h := Box4.new (w.alloc (.cells #[.bool sx, (.slice Ax kx cx), .bool tx, (.slice Cx lx dx)] 26)) sy (.slice Ay ky cy) ty (.slice Cy ly dy); simpa using h
  replace B_y := Lib.hid B_y
  replace V_x := Lib.hid (Qd.below V_x.out hb0)
  replace V_y := Lib.hid (Qd.below V_y.out hb0)
  replace V_tab := Lib.hid (tab_below V_tab.out hb0)
  have HB := Lib.hid hb0
  clear hb0
  have c0x := B_x.out.c0
  have c1x := B_x.out.c1
  have c2x := B_x.out.c2
  have c3x := B_x.out.c3
  have c0y := B_y.out.c0
  have c1y := B_y.out.c1
  have c2y := B_y.out.c2
  have c3y := B_y.out.c3
  go_enter Tryz.func5, Tryz.ntmps5
  go_wp2_with fail
  clear c0x c1x c2x c3x c0y c1y c2y c3y
  generalize (w.alloc (.cells #[.bool sx, (.slice Ax kx cx), .bool tx, (.slice Cx lx dx)] 26)).alloc (.cells #[.bool sy, (.slice Ay ky cy), .bool ty, (.slice Cy ly dy)] 26) = W0 at *
  refine (awakeQ _ (tab_below V_tab.out (by exact ⟨rfl, rfl, rfl, Nat.le_refl _, fun _ _ => rfl⟩))).mono ?_
  rintro e w1 ⟨rfl, bb⟩
  replace bb := nextw (w0 := W0) (by exact ⟨rfl, rfl, rfl, Nat.le_refl _, fun _ _ => rfl⟩) bb
  replace B_x := Lib.hid (Box4.below B_x.out bb B_x.out.lt)
  replace B_y := Lib.hid (Box4.below B_y.out bb B_y.out.lt)
  replace V_x := Lib.hid (Qd.below V_x.out bb)
  replace V_y := Lib.hid (Qd.below V_y.out bb)
  replace V_tab := Lib.hid (tab_below V_tab.out bb)
  replace HB := Lib.hid (nextw HB.out bb)
  clear bb
  have c0x := B_x.out.c0
  have c1x := B_x.out.c1
  have c2x := B_x.out.c2
  have c3x := B_x.out.c3
  have c0y := B_y.out.c0
  have c1y := B_y.out.c1
  have c2y := B_y.out.c2
  have c3y := B_y.out.c3
  go_wp2_with fail
  refine (fewq_yes (L := [(kx, lx), (ky, ly)]) (Rats.lit _ _ _ _ (by intro i hi; rcases i with _ | _ | i <;> first | exact ⟨⟨_, _, rfl⟩, ⟨_, _, rfl⟩⟩ | (simp only [List.length_cons, List.length_nil] at hi; omega))) (by simp) HF.out).mono ?_
  rintro e w2 ⟨rfl, bb⟩
  replace bb := nextw (w0 := w1) (by first | exact ⟨rfl, rfl, rfl, Nat.le_refl _, fun _ _ => rfl⟩ | exact nextw (by exact ⟨rfl, rfl, rfl, Nat.le_refl _, fun _ _ => rfl⟩) ((Below.refl _ _).alloc (Nat.le_refl _) _) | exact below_push rfl rfl rfl rfl) bb
  clear c0x c1x c2x c3x c0y c1y c2y c3y
  replace B_x := Lib.hid (Box4.below B_x.out bb B_x.out.lt)
  replace B_y := Lib.hid (Box4.below B_y.out bb B_y.out.lt)
  replace V_x := Lib.hid (Qd.below V_x.out bb)
  replace V_y := Lib.hid (Qd.below V_y.out bb)
  replace V_tab := Lib.hid (tab_below V_tab.out bb)
  replace HB := Lib.hid (nextw HB.out bb)
  clear bb
  clear V_tab
  have c0x := B_x.out.c0
  have c1x := B_x.out.c1
  have c2x := B_x.out.c2
  have c3x := B_x.out.c3
  have c0y := B_y.out.c0
  have c1y := B_y.out.c1
  have c2y := B_y.out.c2
  have c3y := B_y.out.c3
  go_wp2_with fail
  refine (Div_zero (Qd.below V_x.out (by exact ⟨rfl, rfl, rfl, Nat.le_refl _, fun _ _ => rfl⟩)) (Qd.below V_y.out (by exact ⟨rfl, rfl, rfl, Nat.le_refl _, fun _ _ => rfl⟩)) (by omega) (by omega) HZ.out).mono ?_
  rintro e w3 ⟨vq, rfl, rfl, bb⟩
  replace bb := nextw (w0 := w2) (by exact ⟨rfl, rfl, rfl, Nat.le_refl _, fun _ _ => rfl⟩) bb
  clear c0x c1x c2x c3x c0y c1y c2y c3y
  replace B_x := Lib.hid (Box4.below B_x.out bb B_x.out.lt)
  replace B_y := Lib.hid (Box4.below B_y.out bb B_y.out.lt)
  replace V_x := Lib.hid (Qd.below V_x.out bb)
  replace V_y := Lib.hid (Qd.below V_y.out bb)
  replace HB := Lib.hid (nextw HB.out bb)
  clear bb
  have hb0 : Below w3.heap.size w3 (w3.alloc (.cells #[.bool false, (.slice none 0 0), .bool false, (.slice none 0 0)] 26)) := (Below.alloc (Below.refl w3.heap.size w3) (by simp <;> omega) _)
  have B_q : Box4 (w3.alloc (.cells #[.bool false, (.slice none 0 0), .bool false, (.slice none 0 0)] 26)) (w3.heap.size) false (.slice none 0 0) false (.slice none 0 0) := by have h := Box4.new w3 false (.slice none 0 0) false (.slice none 0 0); simpa using h
  replace B_q := Lib.hid B_q
  replace B_x := Lib.hid (Box4.below B_x.out hb0 B_x.out.lt)
  replace B_y := Lib.hid (Box4.below B_y.out hb0 B_y.out.lt)
  replace V_x := Lib.hid (Qd.below V_x.out hb0)
  replace V_y := Lib.hid (Qd.below V_y.out hb0)
  replace HB := Lib.hid (nextw HB.out hb0)
  clear hb0
  have c0x := B_x.out.c0
  have c1x := B_x.out.c1
  have c2x := B_x.out.c2
  have c3x := B_x.out.c3
  have c0y := B_y.out.c0
  have c1y := B_y.out.c1
  have c2y := B_y.out.c2
  have c3y := B_y.out.c3
  have c0q := B_q.out.c0
  have c1q := B_q.out.c1
  have c2q := B_q.out.c2
  have c3q := B_q.out.c3
  go_wp2_with fail
  clear c0x c1x c2x c3x c0y c1y c2y c3y c0q c1q c2q c3q
  generalize w3.alloc (.cells #[.bool false, (.slice none 0 0), .bool false, (.slice none 0 0)] 26) = W1 at *
  refine (RDivQ_zero (Qd.below V_x.out (by exact ⟨rfl, rfl, rfl, Nat.le_refl _, fun _ _ => rfl⟩)) (Qd.below V_y.out (by exact ⟨rfl, rfl, rfl, Nat.le_refl _, fun _ _ => rfl⟩)) (by omega) (by omega) HZ.out).mono ?_
  rintro e w4 ⟨vp, rfl, rfl, bb⟩
  replace bb := nextw (w0 := W1) (by exact ⟨rfl, rfl, rfl, Nat.le_refl _, fun _ _ => rfl⟩) bb
  replace B_x := Lib.hid (Box4.below B_x.out bb B_x.out.lt)
  replace B_y := Lib.hid (Box4.below B_y.out bb B_y.out.lt)
  replace B_q := Lib.hid (Box4.below B_q.out bb B_q.out.lt)
  replace V_x := Lib.hid (Qd.below V_x.out bb)
  replace V_y := Lib.hid (Qd.below V_y.out bb)
  replace HB := Lib.hid (nextw HB.out bb)
  clear bb
  have hb0 : Below w4.heap.size w4 (w4.alloc (.cells #[.bool false, (.slice none 0 0), .bool false, (.slice none 0 0)] 26)) := (Below.alloc (Below.refl w4.heap.size w4) (by simp <;> omega) _)
  have B_p : Box4 (w4.alloc (.cells #[.bool false, (.slice none 0 0), .bool false, (.slice none 0 0)] 26)) (w4.heap.size) false (.slice none 0 0) false (.slice none 0 0) := by have h := Box4.new w4 false (.slice none 0 0) false (.slice none 0 0); simpa using h
  replace B_p := Lib.hid B_p
  replace B_x := Lib.hid (Box4.below B_x.out hb0 B_x.out.lt)
  replace B_y := Lib.hid (Box4.below B_y.out hb0 B_y.out.lt)
  replace B_q := Lib.hid (Box4.below B_q.out hb0 B_q.out.lt)
  replace V_x := Lib.hid (Qd.below V_x.out hb0)
  replace V_y := Lib.hid (Qd.below V_y.out hb0)
  replace HB := Lib.hid (nextw HB.out hb0)
  clear hb0
  have c0x := B_x.out.c0
  have c1x := B_x.out.c1
  have c2x := B_x.out.c2
  have c3x := B_x.out.c3
  have c0y := B_y.out.c0
  have c1y := B_y.out.c1
  have c2y := B_y.out.c2
  have c3y := B_y.out.c3
  have c0p := B_p.out.c0
  have c1p := B_p.out.c1
  have c2p := B_p.out.c2
  have c3p := B_p.out.c3
  go_wp2_with fail
  clear c0x c1x c2x c3x c0y c1y c2y c3y c0p c1p c2p c3p
  generalize w4.alloc (.cells #[.bool false, (.slice none 0 0), .bool false, (.slice none 0 0)] 26) = W2 at *
  refine (Whole_no (Qd.below V_x.out (by exact ⟨rfl, rfl, rfl, Nat.le_refl _, fun _ _ => rfl⟩)) (by omega) HW.out).mono ?_
  rintro e w5 ⟨vh, rfl, rh, bb⟩
  replace bb := nextw (w0 := W2) (by exact ⟨rfl, rfl, rfl, Nat.le_refl _, fun _ _ => rfl⟩) bb
  replace B_x := Lib.hid (Box4.below B_x.out bb B_x.out.lt)
  replace B_y := Lib.hid (Box4.below B_y.out bb B_y.out.lt)
  replace B_q := Lib.hid (Box4.below B_q.out bb B_q.out.lt)
  replace B_p := Lib.hid (Box4.below B_p.out bb B_p.out.lt)
  replace V_x := Lib.hid (Qd.below V_x.out bb)
  replace V_y := Lib.hid (Qd.below V_y.out bb)
  replace HB := Lib.hid (nextw HB.out bb)
  clear bb
  obtain ⟨sh, Ah, kh, ch, rfl⟩ := rh.shape
  have V_h := Lib.hid rh
  clear rh
  have hb0 : Below w5.heap.size w5 (w5.alloc (.cells #[.bool sh, (.slice Ah kh ch)] 24)) := (Below.alloc (Below.refl w5.heap.size w5) (by simp <;> omega) _)
  have B_h : Box (w5.alloc (.cells #[.bool sh, (.slice Ah kh ch)] 24)) (w5.heap.size) sh (.slice Ah kh ch) := by have h := Box.new w5 sh (.slice Ah kh ch); simpa using h
  replace B_h := Lib.hid B_h
  replace B_x := Lib.hid (Box4.below B_x.out hb0 B_x.out.lt)
  replace B_y := Lib.hid (Box4.below B_y.out hb0 B_y.out.lt)
  replace B_q := Lib.hid (Box4.below B_q.out hb0 B_q.out.lt)
  replace B_p := Lib.hid (Box4.below B_p.out hb0 B_p.out.lt)
  replace V_x := Lib.hid (Qd.below V_x.out hb0)
  replace V_y := Lib.hid (Qd.below V_y.out hb0)
  replace V_h := Lib.hid (Rc.below V_h.out hb0)
  replace HB := Lib.hid (nextw HB.out hb0)
  clear hb0
  have c0x := B_x.out.c0
  have c1x := B_x.out.c1
  have c2x := B_x.out.c2
  have c3x := B_x.out.c3
  have c0y := B_y.out.c0
  have c1y := B_y.out.c1
  have c2y := B_y.out.c2
  have c3y := B_y.out.c3
  have c0q := B_q.out.c0
  have c1q := B_q.out.c1
  have c2q := B_q.out.c2
  have c3q := B_q.out.c3
  have c0p := B_p.out.c0
  have c1p := B_p.out.c1
  have c2p := B_p.out.c2
  have c3p := B_p.out.c3
  have c0h := B_h.out.c0
  have c1h := B_h.out.c1
  go_wp2_with fail
  clear c0x c1x c2x c3x c0y c1y c2y c3y c0q c1q c2q c3q c0p c1p c2p c3p c0h c1h
  generalize w5.alloc (.cells #[.bool sh, (.slice Ah kh ch)] 24) = W3 at *
  refine (RWhole_no (Qd.below V_x.out (by exact ⟨rfl, rfl, rfl, Nat.le_refl _, fun _ _ => rfl⟩)) (by omega) HW.out).mono ?_
  rintro e w6 ⟨vg, rfl, rg, bb⟩
  replace bb := nextw (w0 := W3) (by exact ⟨rfl, rfl, rfl, Nat.le_refl _, fun _ _ => rfl⟩) bb
  replace B_x := Lib.hid (Box4.below B_x.out bb B_x.out.lt)
  replace B_y := Lib.hid (Box4.below B_y.out bb B_y.out.lt)
  replace B_q := Lib.hid (Box4.below B_q.out bb B_q.out.lt)
  replace B_p := Lib.hid (Box4.below B_p.out bb B_p.out.lt)
  replace B_h := Lib.hid (Box.below B_h.out bb B_h.out.lt)
  replace V_x := Lib.hid (Qd.below V_x.out bb)
  replace V_y := Lib.hid (Qd.below V_y.out bb)
  replace V_h := Lib.hid (Rc.below V_h.out bb)
  replace HB := Lib.hid (nextw HB.out bb)
  clear bb
  obtain ⟨sg, Ag, kg, cg, rfl⟩ := rg.shape
  have V_g := Lib.hid rg
  clear rg
  have hb0 : Below w6.heap.size w6 (w6.alloc (.cells #[.bool sg, (.slice Ag kg cg)] 24)) := (Below.alloc (Below.refl w6.heap.size w6) (by simp <;> omega) _)
  have B_g : Box (w6.alloc (.cells #[.bool sg, (.slice Ag kg cg)] 24)) (w6.heap.size) sg (.slice Ag kg cg) := by have h := Box.new w6 sg (.slice Ag kg cg); simpa using h
  replace B_g := Lib.hid B_g
  replace B_x := Lib.hid (Box4.below B_x.out hb0 B_x.out.lt)
  replace B_y := Lib.hid (Box4.below B_y.out hb0 B_y.out.lt)
  replace B_q := Lib.hid (Box4.below B_q.out hb0 B_q.out.lt)
  replace B_p := Lib.hid (Box4.below B_p.out hb0 B_p.out.lt)
  replace B_h := Lib.hid (Box.below B_h.out hb0 B_h.out.lt)
  replace V_x := Lib.hid (Qd.below V_x.out hb0)
  replace V_y := Lib.hid (Qd.below V_y.out hb0)
  replace V_h := Lib.hid (Rc.below V_h.out hb0)
  replace V_g := Lib.hid (Rc.below V_g.out hb0)
  replace HB := Lib.hid (nextw HB.out hb0)
  clear hb0
  have c0x := B_x.out.c0
  have c1x := B_x.out.c1
  have c2x := B_x.out.c2
  have c3x := B_x.out.c3
  have c0y := B_y.out.c0
  have c1y := B_y.out.c1
  have c2y := B_y.out.c2
  have c3y := B_y.out.c3
  have c0q := B_q.out.c0
  have c1q := B_q.out.c1
  have c2q := B_q.out.c2
  have c3q := B_q.out.c3
  have c0p := B_p.out.c0
  have c1p := B_p.out.c1
  have c2p := B_p.out.c2
  have c3p := B_p.out.c3
  have c0h := B_h.out.c0
  have c1h := B_h.out.c1
  have c0g := B_g.out.c0
  have c1g := B_g.out.c1
  go_wp2
  clear c0x c1x c2x c3x c0y c1y c2y c3y c0q c1q c2q c3q c0p c1p c2p c3p c0h c1h c0g c1g
  generalize w6.alloc (.cells #[.bool sg, (.slice Ag kg cg)] 24) = W4 at *
  have c0x := B_x.out.c0
  have c1x := B_x.out.c1
  have c2x := B_x.out.c2
  have c3x := B_x.out.c3
  have c0y := B_y.out.c0
  have c1y := B_y.out.c1
  have c2y := B_y.out.c2
  have c3y := B_y.out.c3
  have c0q := B_q.out.c0
  have c1q := B_q.out.c1
  have c2q := B_q.out.c2
  have c3q := B_q.out.c3
  have c0p := B_p.out.c0
  have c1p := B_p.out.c1
  have c2p := B_p.out.c2
  have c3p := B_p.out.c3
  have c0h := B_h.out.c0
  have c1h := B_h.out.c1
  have c0g := B_g.out.c0
  have c1g := B_g.out.c1
  have tk0 : True := trivial
  first | (go_region_held3 (fun w' => w'.cell? ⟨w.heap.size, 0, none⟩ = some (.bool sx) ∧ w'.cell? ⟨w.heap.size, 1, none⟩ = some (.slice Ax kx cx) ∧ w'.cell? ⟨w.heap.size, 2, none⟩ = some (.bool tx) ∧ w'.cell? ⟨w.heap.size, 3, none⟩ = some (.slice Cx lx dx) ∧ w'.cell? ⟨w.heap.size + 1, 0, none⟩ = some (.bool sy) ∧ w'.cell? ⟨w.heap.size + 1, 1, none⟩ = some (.slice Ay ky cy) ∧ w'.cell? ⟨w.heap.size + 1, 2, none⟩ = some (.bool ty) ∧ w'.cell? ⟨w.heap.size + 1, 3, none⟩ = some (.slice Cy ly dy) ∧ w'.cell? ⟨w3.heap.size, 0, none⟩ = some (.bool false) ∧ w'.cell? ⟨w3.heap.size, 1, none⟩ = some (.slice none 0 0) ∧ w'.cell? ⟨w3.heap.size, 2, none⟩ = some (.bool false) ∧ w'.cell? ⟨w3.heap.size, 3, none⟩ = some (.slice none 0 0) ∧ w'.cell? ⟨w4.heap.size, 0, none⟩ = some (.bool false) ∧ w'.cell? ⟨w4.heap.size, 1, none⟩ = some (.slice none 0 0) ∧ w'.cell? ⟨w4.heap.size, 2, none⟩ = some (.bool false) ∧ w'.cell? ⟨w4.heap.size, 3, none⟩ = some (.slice none 0 0) ∧ w'.cell? ⟨w5.heap.size, 0, none⟩ = some (.bool sh) ∧ w'.cell? ⟨w5.heap.size, 1, none⟩ = some (.slice Ah kh ch) ∧ w'.cell? ⟨w6.heap.size, 0, none⟩ = some (.bool sg) ∧ w'.cell? ⟨w6.heap.size, 1, none⟩ = some (.slice Ag kg cg)) (((try dsimp only); (repeat' apply And.intro) <;> (first | (with_reducible assumption) | ((repeat (first | (with_reducible refine Eq.trans (cell_drew1 _ _) ?_) | (with_reducible refine Eq.trans (cell_set4 (by omega) _ _ _ _) ?_))); with_reducible assumption) | assumption | go_keep)))
    (first
      | (have _t := tk0; clear _t tk0; go_at_call 13; refine (BRat_u (U32.nil none (Nat.zero_le _)) (U32.nil none (Nat.zero_le _)) (U32.nil none (Nat.zero_le _)) (U32.nil none (Nat.zero_le _)) (by simp) (by simp)).mono ?_; rintro e w7 ⟨rfl, bb⟩; replace bb := nextw (w0 := W4) (by exact ⟨rfl, rfl, rfl, Nat.le_refl _, fun _ _ => rfl⟩) bb; replace B_x := Lib.hid (Box4.below B_x.out bb B_x.out.lt); replace B_y := Lib.hid (Box4.below B_y.out bb B_y.out.lt); replace B_q := Lib.hid (Box4.below B_q.out bb B_q.out.lt); replace B_p := Lib.hid (Box4.below B_p.out bb B_p.out.lt); replace B_h := Lib.hid (Box.below B_h.out bb B_h.out.lt); replace B_g := Lib.hid (Box.below B_g.out bb B_g.out.lt); replace V_x := Lib.hid (Qd.below V_x.out bb); replace V_y := Lib.hid (Qd.below V_y.out bb); replace V_h := Lib.hid (Rc.below V_h.out bb); replace V_g := Lib.hid (Rc.below V_g.out bb); replace HB := Lib.hid (nextw HB.out bb); clear bb; have c0x := B_x.out.c0; have c1x := B_x.out.c1; have c2x := B_x.out.c2; have c3x := B_x.out.c3; have c0y := B_y.out.c0; have c1y := B_y.out.c1; have c2y := B_y.out.c2; have c3y := B_y.out.c3; have c0q := B_q.out.c0; have c1q := B_q.out.c1; have c2q := B_q.out.c2; have c3q := B_q.out.c3; have c0p := B_p.out.c0; have c1p := B_p.out.c1; have c2p := B_p.out.c2; have c3p := B_p.out.c3; have c0h := B_h.out.c0; have c1h := B_h.out.c1; have c0g := B_g.out.c0; have c1g := B_g.out.c1; have tk1 : True := trivial)
      | (have _t := tk1; clear _t tk1; go_at_call 33; refine (Cmp_q (Qd.below V_x.out (by exact ⟨rfl, rfl, rfl, Nat.le_refl _, fun _ _ => rfl⟩)) (Qd.below V_y.out (by exact ⟨rfl, rfl, rfl, Nat.le_refl _, fun _ _ => rfl⟩)) (by omega) (by omega)).mono ?_; rintro e w8 ⟨rfl, bb⟩; replace bb := nextw (w0 := w7) (by exact ⟨rfl, rfl, rfl, Nat.le_refl _, fun _ _ => rfl⟩) bb; replace B_x := Lib.hid (Box4.below B_x.out bb B_x.out.lt); replace B_y := Lib.hid (Box4.below B_y.out bb B_y.out.lt); replace B_q := Lib.hid (Box4.below B_q.out bb B_q.out.lt); replace B_p := Lib.hid (Box4.below B_p.out bb B_p.out.lt); replace B_h := Lib.hid (Box.below B_h.out bb B_h.out.lt); replace B_g := Lib.hid (Box.below B_g.out bb B_g.out.lt); replace V_x := Lib.hid (Qd.below V_x.out bb); replace V_y := Lib.hid (Qd.below V_y.out bb); replace V_h := Lib.hid (Rc.below V_h.out bb); replace V_g := Lib.hid (Rc.below V_g.out bb); replace HB := Lib.hid (nextw HB.out bb); clear bb; have c0x := B_x.out.c0; have c1x := B_x.out.c1; have c2x := B_x.out.c2; have c3x := B_x.out.c3; have c0y := B_y.out.c0; have c1y := B_y.out.c1; have c2y := B_y.out.c2; have c3y := B_y.out.c3; have c0q := B_q.out.c0; have c1q := B_q.out.c1; have c2q := B_q.out.c2; have c3q := B_q.out.c3; have c0p := B_p.out.c0; have c1p := B_p.out.c1; have c2p := B_p.out.c2; have c3p := B_p.out.c3; have c0h := B_h.out.c0; have c1h := B_h.out.c1; have c0g := B_g.out.c0; have c1g := B_g.out.c1; have tk2 : True := trivial)
      | (have _t := tk2; clear _t tk2; go_at_call 34; refine (RCmpQ_q (Qd.below V_x.out (by exact ⟨rfl, rfl, rfl, Nat.le_refl _, fun _ _ => rfl⟩)) (Qd.below V_y.out (by exact ⟨rfl, rfl, rfl, Nat.le_refl _, fun _ _ => rfl⟩)) (by omega) (by omega)).mono ?_; rintro e w9 ⟨rfl, bb⟩; replace bb := nextw (w0 := w8) (by exact ⟨rfl, rfl, rfl, Nat.le_refl _, fun _ _ => rfl⟩) bb; replace B_x := Lib.hid (Box4.below B_x.out bb B_x.out.lt); replace B_y := Lib.hid (Box4.below B_y.out bb B_y.out.lt); replace B_q := Lib.hid (Box4.below B_q.out bb B_q.out.lt); replace B_p := Lib.hid (Box4.below B_p.out bb B_p.out.lt); replace B_h := Lib.hid (Box.below B_h.out bb B_h.out.lt); replace B_g := Lib.hid (Box.below B_g.out bb B_g.out.lt); replace V_x := Lib.hid (Qd.below V_x.out bb); replace V_y := Lib.hid (Qd.below V_y.out bb); replace V_h := Lib.hid (Rc.below V_h.out bb); replace V_g := Lib.hid (Rc.below V_g.out bb); replace HB := Lib.hid (nextw HB.out bb); clear bb; have c0x := B_x.out.c0; have c1x := B_x.out.c1; have c2x := B_x.out.c2; have c3x := B_x.out.c3; have c0y := B_y.out.c0; have c1y := B_y.out.c1; have c2y := B_y.out.c2; have c3y := B_y.out.c3; have c0q := B_q.out.c0; have c1q := B_q.out.c1; have c2q := B_q.out.c2; have c3q := B_q.out.c3; have c0p := B_p.out.c0; have c1p := B_p.out.c1; have c2p := B_p.out.c2; have c3p := B_p.out.c3; have c0h := B_h.out.c0; have c1h := B_h.out.c1; have c0g := B_g.out.c0; have c1g := B_g.out.c1; have tk3 : True := trivial)
      | (have _t := tk3; clear _t tk3; go_at_call 36; refine (Floor_q (Qd.below V_x.out (by exact ⟨rfl, rfl, rfl, Nat.le_refl _, fun _ _ => rfl⟩)) (by omega)).mono ?_; rintro e w10 ⟨vi1, rfl, ri1, bb⟩; replace bb := nextw (w0 := w9) (by exact ⟨rfl, rfl, rfl, Nat.le_refl _, fun _ _ => rfl⟩) bb; replace B_x := Lib.hid (Box4.below B_x.out bb B_x.out.lt); replace B_y := Lib.hid (Box4.below B_y.out bb B_y.out.lt); replace B_q := Lib.hid (Box4.below B_q.out bb B_q.out.lt); replace B_p := Lib.hid (Box4.below B_p.out bb B_p.out.lt); replace B_h := Lib.hid (Box.below B_h.out bb B_h.out.lt); replace B_g := Lib.hid (Box.below B_g.out bb B_g.out.lt); replace V_x := Lib.hid (Qd.below V_x.out bb); replace V_y := Lib.hid (Qd.below V_y.out bb); replace V_h := Lib.hid (Rc.below V_h.out bb); replace V_g := Lib.hid (Rc.below V_g.out bb); replace HB := Lib.hid (nextw HB.out bb); clear bb; replace ri1 := Lib.hid ri1; have V_i1 := ri1; clear ri1; have c0x := B_x.out.c0; have c1x := B_x.out.c1; have c2x := B_x.out.c2; have c3x := B_x.out.c3; have c0y := B_y.out.c0; have c1y := B_y.out.c1; have c2y := B_y.out.c2; have c3y := B_y.out.c3; have c0q := B_q.out.c0; have c1q := B_q.out.c1; have c2q := B_q.out.c2; have c3q := B_q.out.c3; have c0p := B_p.out.c0; have c1p := B_p.out.c1; have c2p := B_p.out.c2; have c3p := B_p.out.c3; have c0h := B_h.out.c0; have c1h := B_h.out.c1; have c0g := B_g.out.c0; have c1g := B_g.out.c1; have tk4 : True := trivial)
      | (have _t := tk4; clear _t tk4; go_at_call 37; refine (RFloorQ_q (Qd.below V_x.out (by exact ⟨rfl, rfl, rfl, Nat.le_refl _, fun _ _ => rfl⟩)) (by omega)).mono ?_; rintro e w11 ⟨vi2, rfl, ri2, bb⟩; replace bb := nextw (w0 := w10) (by exact ⟨rfl, rfl, rfl, Nat.le_refl _, fun _ _ => rfl⟩) bb; replace B_x := Lib.hid (Box4.below B_x.out bb B_x.out.lt); replace B_y := Lib.hid (Box4.below B_y.out bb B_y.out.lt); replace B_q := Lib.hid (Box4.below B_q.out bb B_q.out.lt); replace B_p := Lib.hid (Box4.below B_p.out bb B_p.out.lt); replace B_h := Lib.hid (Box.below B_h.out bb B_h.out.lt); replace B_g := Lib.hid (Box.below B_g.out bb B_g.out.lt); replace V_x := Lib.hid (Qd.below V_x.out bb); replace V_y := Lib.hid (Qd.below V_y.out bb); replace V_h := Lib.hid (Rc.below V_h.out bb); replace V_g := Lib.hid (Rc.below V_g.out bb); replace V_i1 := Lib.hid (Rc.below V_i1.out bb); replace HB := Lib.hid (nextw HB.out bb); clear bb; replace ri2 := Lib.hid ri2; have V_i2 := ri2; clear ri2; have c0x := B_x.out.c0; have c1x := B_x.out.c1; have c2x := B_x.out.c2; have c3x := B_x.out.c3; have c0y := B_y.out.c0; have c1y := B_y.out.c1; have c2y := B_y.out.c2; have c3y := B_y.out.c3; have c0q := B_q.out.c0; have c1q := B_q.out.c1; have c2q := B_q.out.c2; have c3q := B_q.out.c3; have c0p := B_p.out.c0; have c1p := B_p.out.c1; have c2p := B_p.out.c2; have c3p := B_p.out.c3; have c0h := B_h.out.c0; have c1h := B_h.out.c1; have c0g := B_g.out.c0; have c1g := B_g.out.c1; have tk5 : True := trivial)
      | (have _t := tk5; clear _t tk5; go_at_call 35; refine (BInt_rc (Rc.below V_i1.out (by exact ⟨rfl, rfl, rfl, Nat.le_refl _, fun _ _ => rfl⟩)) (Rc.below V_i2.out (by exact ⟨rfl, rfl, rfl, Nat.le_refl _, fun _ _ => rfl⟩)) (by omega) (by omega) (rfl)).mono ?_; rintro e w12 ⟨rfl, bb⟩; replace bb := nextw (w0 := w11) (by exact ⟨rfl, rfl, rfl, Nat.le_refl _, fun _ _ => rfl⟩) bb; clear V_i1 V_i2; replace B_x := Lib.hid (Box4.below B_x.out bb B_x.out.lt); replace B_y := Lib.hid (Box4.below B_y.out bb B_y.out.lt); replace B_q := Lib.hid (Box4.below B_q.out bb B_q.out.lt); replace B_p := Lib.hid (Box4.below B_p.out bb B_p.out.lt); replace B_h := Lib.hid (Box.below B_h.out bb B_h.out.lt); replace B_g := Lib.hid (Box.below B_g.out bb B_g.out.lt); replace V_x := Lib.hid (Qd.below V_x.out bb); replace V_y := Lib.hid (Qd.below V_y.out bb); replace V_h := Lib.hid (Rc.below V_h.out bb); replace V_g := Lib.hid (Rc.below V_g.out bb); replace HB := Lib.hid (nextw HB.out bb); clear bb; have c0x := B_x.out.c0; have c1x := B_x.out.c1; have c2x := B_x.out.c2; have c3x := B_x.out.c3; have c0y := B_y.out.c0; have c1y := B_y.out.c1; have c2y := B_y.out.c2; have c3y := B_y.out.c3; have c0q := B_q.out.c0; have c1q := B_q.out.c1; have c2q := B_q.out.c2; have c3q := B_q.out.c3; have c0p := B_p.out.c0; have c1p := B_p.out.c1; have c2p := B_p.out.c2; have c3p := B_p.out.c3; have c0h := B_h.out.c0; have c1h := B_h.out.c1; have c0g := B_g.out.c0; have c1g := B_g.out.c1; have tk6 : True := trivial)
      | (have _t := tk6; clear _t tk6; go_at_call 35; refine (BInt_rc (Rc.below V_h.out (by exact ⟨rfl, rfl, rfl, Nat.le_refl _, fun _ _ => rfl⟩)) (Rc.below V_g.out (by exact ⟨rfl, rfl, rfl, Nat.le_refl _, fun _ _ => rfl⟩)) (by omega) (by omega) (rfl)).mono ?_; rintro e w13 ⟨rfl, bb⟩; replace bb := nextw (w0 := w12) (by exact ⟨rfl, rfl, rfl, Nat.le_refl _, fun _ _ => rfl⟩) bb; clear V_h V_g; replace B_x := Lib.hid (Box4.below B_x.out bb B_x.out.lt); replace B_y := Lib.hid (Box4.below B_y.out bb B_y.out.lt); replace B_q := Lib.hid (Box4.below B_q.out bb B_q.out.lt); replace B_p := Lib.hid (Box4.below B_p.out bb B_p.out.lt); replace B_h := Lib.hid (Box.below B_h.out bb B_h.out.lt); replace B_g := Lib.hid (Box.below B_g.out bb B_g.out.lt); replace V_x := Lib.hid (Qd.below V_x.out bb); replace V_y := Lib.hid (Qd.below V_y.out bb); replace HB := Lib.hid (nextw HB.out bb); clear bb; have c0x := B_x.out.c0; have c1x := B_x.out.c1; have c2x := B_x.out.c2; have c3x := B_x.out.c3; have c0y := B_y.out.c0; have c1y := B_y.out.c1; have c2y := B_y.out.c2; have c3y := B_y.out.c3; have c0q := B_q.out.c0; have c1q := B_q.out.c1; have c2q := B_q.out.c2; have c3q := B_q.out.c3; have c0p := B_p.out.c0; have c1p := B_p.out.c1; have c2p := B_p.out.c2; have c3p := B_p.out.c3; have c0h := B_h.out.c0; have c1h := B_h.out.c1; have c0g := B_g.out.c0; have c1g := B_g.out.c1; have tk7 : True := trivial))) | fail
  have HBo := HB.out
  go_wp2
  go_ret
  exact ⟨rfl, nextw HBo (by exact ⟨rfl, rfl, rfl, Nat.le_refl _, fun _ _ => rfl⟩)⟩

set_option maxRecDepth 100000 in
set_option maxHeartbeats 16000000 in
theorem Quotients_nw {sx : Bool} {Ax : Option Addr} {kx cx : Nat} {tx : Bool} {Cx : Option Addr} {lx dx : Nat} {rx : Rat} {qx : Nat} {sy : Bool} {Ay : Option Addr} {ky cy : Nat} {ty : Bool} {Cy : Option Addr} {ly dy : Nat} {ry : Rat} {qy : Nat} {w : World} (hx : Qd w (.agg #[.bool sx, .slice Ax kx cx, .bool tx, .slice Cx lx dx]) rx qx) (hy : Qd w (.agg #[.bool sy, .slice Ay ky cy, .bool ty, .slice Cy ly dy]) ry qy) (htab : Tab10 w) (hqx : qx ≤ 60) (hqy : qy ≤ 60) (hfew : fewSum [(kx, lx), (ky, ly)] ≤ 60) (hw : rx.den = 1) (hz : ry ≠ 0) :
    Calls Tryz.prog 5 #[.agg #[.bool sx, .slice Ax kx cx, .bool tx, .slice Cx lx dx], .agg #[.bool sy, .slice Ay ky cy, .bool ty, .slice Cy ly dy]] w fun e w' => e = .returned (.bool true) ∧ Below w.heap.size w w' := by
  have V_x := Lib.hid hx
  have V_y := Lib.hid hy
  have V_tab := Lib.hid htab
  have HF := Lib.hid hfew
  have HW := Lib.hid hw
  have HZ := Lib.hid hz
  clear hx hy htab hfew hw hz
  have hb0 : Below w.heap.size w ((w.alloc (.cells #[.bool sx, (.slice Ax kx cx), .bool tx, (.slice Cx lx dx)] 26)).alloc (.cells #[.bool sy, (.slice Ay ky cy), .bool ty, (.slice Cy ly dy)] 26)) := (Below.alloc (Below.alloc (Below.refl w.heap.size w) (by simp <;> omega) _) (by simp <;> omega) _)
  have B_x : Box4 ((w.alloc (.cells #[.bool sx, (.slice Ax kx cx), .bool tx, (.slice Cx lx dx)] 26)).alloc (.cells #[.bool sy, (.slice Ay ky cy), .bool ty, (.slice Cy ly dy)] 26)) (w.heap.size) sx (.slice Ax kx cx) tx (.slice Cx lx dx) := by have h := Box4.alloc (Box4.new w sx (.slice Ax kx cx) tx (.slice Cx lx dx)) (.cells #[.bool sy, (.slice Ay ky cy), .bool ty, (.slice Cy ly dy)] 26); simpa using h
  replace B_x := Lib.hid B_x
  have B_y : Box4 ((w.alloc (.cells #[.bool sx, (.slice Ax kx cx), .bool tx, (.slice Cx lx dx)] 26)).alloc (.cells #[.bool sy, (.slice Ay ky cy), .bool ty, (.slice Cy ly dy)] 26)) (w.heap.size + 1) sy (.slice Ay ky cy) ty (.slice Cy ly dy) := by have h := Box4.new (w.alloc (.cells #[.bool sx, (.slice Ax kx cx), .bool tx, (.slice Cx lx dx)] 26)) sy (.slice Ay ky cy) ty (.slice Cy ly dy); simpa using h
  replace B_y := Lib.hid B_y
  replace V_x := Lib.hid (Qd.below V_x.out hb0)
  replace V_y := Lib.hid (Qd.below V_y.out hb0)
  replace V_tab := Lib.hid (tab_below V_tab.out hb0)
  have HB := Lib.hid hb0
  clear hb0
  have c0x := B_x.out.c0
  have c1x := B_x.out.c1
  have c2x := B_x.out.c2
  have c3x := B_x.out.c3
  have c0y := B_y.out.c0
  have c1y := B_y.out.c1
  have c2y := B_y.out.c2
  have c3y := B_y.out.c3
  go_enter Tryz.func5, Tryz.ntmps5
  go_wp2_with fail
  clear c0x c1x c2x c3x c0y c1y c2y c3y
  generalize (w.alloc (.cells #[.bool sx, (.slice Ax kx cx), .bool tx, (.slice Cx lx dx)] 26)).alloc (.cells #[.bool sy, (.slice Ay ky cy), .bool ty, (.slice Cy ly dy)] 26) = W0 at *
  refine (awakeQ _ (tab_below V_tab.out (by exact ⟨rfl, rfl, rfl, Nat.le_refl _, fun _ _ => rfl⟩))).mono ?_
  rintro e w1 ⟨rfl, bb⟩
  replace bb := nextw (w0 := W0) (by exact ⟨rfl, rfl, rfl, Nat.le_refl _, fun _ _ => rfl⟩) bb
  replace B_x := Lib.hid (Box4.below B_x.out bb B_x.out.lt)
  replace B_y := Lib.hid (Box4.below B_y.out bb B_y.out.lt)
  replace V_x := Lib.hid (Qd.below V_x.out bb)
  replace V_y := Lib.hid (Qd.below V_y.out bb)
  replace V_tab := Lib.hid (tab_below V_tab.out bb)
  replace HB := Lib.hid (nextw HB.out bb)
  clear bb
  have c0x := B_x.out.c0
  have c1x := B_x.out.c1
  have c2x := B_x.out.c2
  have c3x := B_x.out.c3
  have c0y := B_y.out.c0
  have c1y := B_y.out.c1
  have c2y := B_y.out.c2
  have c3y := B_y.out.c3
  go_wp2_with fail
  refine (fewq_yes (L := [(kx, lx), (ky, ly)]) (Rats.lit _ _ _ _ (by intro i hi; rcases i with _ | _ | i <;> first | exact ⟨⟨_, _, rfl⟩, ⟨_, _, rfl⟩⟩ | (simp only [List.length_cons, List.length_nil] at hi; omega))) (by simp) HF.out).mono ?_
  rintro e w2 ⟨rfl, bb⟩
  replace bb := nextw (w0 := w1) (by first | exact ⟨rfl, rfl, rfl, Nat.le_refl _, fun _ _ => rfl⟩ | exact nextw (by exact ⟨rfl, rfl, rfl, Nat.le_refl _, fun _ _ => rfl⟩) ((Below.refl _ _).alloc (Nat.le_refl _) _) | exact below_push rfl rfl rfl rfl) bb
  clear c0x c1x c2x c3x c0y c1y c2y c3y
  replace B_x := Lib.hid (Box4.below B_x.out bb B_x.out.lt)
  replace B_y := Lib.hid (Box4.below B_y.out bb B_y.out.lt)
  replace V_x := Lib.hid (Qd.below V_x.out bb)
  replace V_y := Lib.hid (Qd.below V_y.out bb)
  replace V_tab := Lib.hid (tab_below V_tab.out bb)
  replace HB := Lib.hid (nextw HB.out bb)
  clear bb
  clear V_tab
  have c0x := B_x.out.c0
  have c1x := B_x.out.c1
  have c2x := B_x.out.c2
  have c3x := B_x.out.c3
  have c0y := B_y.out.c0
  have c1y := B_y.out.c1
  have c2y := B_y.out.c2
  have c3y := B_y.out.c3
  go_wp2_with fail
  refine (Div_q (Qd.below V_x.out (by exact ⟨rfl, rfl, rfl, Nat.le_refl _, fun _ _ => rfl⟩)) (Qd.below V_y.out (by exact ⟨rfl, rfl, rfl, Nat.le_refl _, fun _ _ => rfl⟩)) (by omega) (by omega) HZ.out).mono ?_
  rintro e w3 ⟨vq, rfl, rq, bb⟩
  replace bb := nextw (w0 := w2) (by exact ⟨rfl, rfl, rfl, Nat.le_refl _, fun _ _ => rfl⟩) bb
  clear c0x c1x c2x c3x c0y c1y c2y c3y
  replace B_x := Lib.hid (Box4.below B_x.out bb B_x.out.lt)
  replace B_y := Lib.hid (Box4.below B_y.out bb B_y.out.lt)
  replace V_x := Lib.hid (Qd.below V_x.out bb)
  replace V_y := Lib.hid (Qd.below V_y.out bb)
  replace HB := Lib.hid (nextw HB.out bb)
  clear bb
  obtain ⟨sq, Aq, kq, cq, tq, Cq, lq, dq, rfl⟩ := rq.shape
  have V_q := Lib.hid rq
  clear rq
  have hb0 : Below w3.heap.size w3 (w3.alloc (.cells #[.bool sq, (.slice Aq kq cq), .bool tq, (.slice Cq lq dq)] 26)) := (Below.alloc (Below.refl w3.heap.size w3) (by simp <;> omega) _)
  have B_q : Box4 (w3.alloc (.cells #[.bool sq, (.slice Aq kq cq), .bool tq, (.slice Cq lq dq)] 26)) (w3.heap.size) sq (.slice Aq kq cq) tq (.slice Cq lq dq) := by have h := Box4.new w3 sq (.slice Aq kq cq) tq (.slice Cq lq dq); simpa using h
  replace B_q := Lib.hid B_q
  replace B_x := Lib.hid (Box4.below B_x.out hb0 B_x.out.lt)
  replace B_y := Lib.hid (Box4.below B_y.out hb0 B_y.out.lt)
  replace V_x := Lib.hid (Qd.below V_x.out hb0)
  replace V_y := Lib.hid (Qd.below V_y.out hb0)
  replace V_q := Lib.hid (Qc.below V_q.out hb0)
  replace HB := Lib.hid (nextw HB.out hb0)
  clear hb0
  have c0x := B_x.out.c0
  have c1x := B_x.out.c1
  have c2x := B_x.out.c2
  have c3x := B_x.out.c3
  have c0y := B_y.out.c0
  have c1y := B_y.out.c1
  have c2y := B_y.out.c2
  have c3y := B_y.out.c3
  have c0q := B_q.out.c0
  have c1q := B_q.out.c1
  have c2q := B_q.out.c2
  have c3q := B_q.out.c3
  go_wp2_with fail
  clear c0x c1x c2x c3x c0y c1y c2y c3y c0q c1q c2q c3q
  generalize w3.alloc (.cells #[.bool sq, (.slice Aq kq cq), .bool tq, (.slice Cq lq dq)] 26) = W1 at *
  refine (RDivQ_q (Qd.below V_x.out (by exact ⟨rfl, rfl, rfl, Nat.le_refl _, fun _ _ => rfl⟩)) (Qd.below V_y.out (by exact ⟨rfl, rfl, rfl, Nat.le_refl _, fun _ _ => rfl⟩)) (by omega) (by omega) HZ.out).mono ?_
  rintro e w4 ⟨vp, rfl, rp, bb⟩
  replace bb := nextw (w0 := W1) (by exact ⟨rfl, rfl, rfl, Nat.le_refl _, fun _ _ => rfl⟩) bb
  replace B_x := Lib.hid (Box4.below B_x.out bb B_x.out.lt)
  replace B_y := Lib.hid (Box4.below B_y.out bb B_y.out.lt)
  replace B_q := Lib.hid (Box4.below B_q.out bb B_q.out.lt)
  replace V_x := Lib.hid (Qd.below V_x.out bb)
  replace V_y := Lib.hid (Qd.below V_y.out bb)
  replace V_q := Lib.hid (Qc.below V_q.out bb)
  replace HB := Lib.hid (nextw HB.out bb)
  clear bb
  obtain ⟨sp, Ap, kp, cp, tp, Cp, lp, dp, rfl⟩ := rp.shape
  have V_p := Lib.hid rp
  clear rp
  have hb0 : Below w4.heap.size w4 (w4.alloc (.cells #[.bool sp, (.slice Ap kp cp), .bool tp, (.slice Cp lp dp)] 26)) := (Below.alloc (Below.refl w4.heap.size w4) (by simp <;> omega) _)
  have B_p : Box4 (w4.alloc (.cells #[.bool sp, (.slice Ap kp cp), .bool tp, (.slice Cp lp dp)] 26)) (w4.heap.size) sp (.slice Ap kp cp) tp (.slice Cp lp dp) := by have h := Box4.new w4 sp (.slice Ap kp cp) tp (.slice Cp lp dp); simpa using h
  replace B_p := Lib.hid B_p
  replace B_x := Lib.hid (Box4.below B_x.out hb0 B_x.out.lt)
  replace B_y := Lib.hid (Box4.below B_y.out hb0 B_y.out.lt)
  replace B_q := Lib.hid (Box4.below B_q.out hb0 B_q.out.lt)
  replace V_x := Lib.hid (Qd.below V_x.out hb0)
  replace V_y := Lib.hid (Qd.below V_y.out hb0)
  replace V_q := Lib.hid (Qc.below V_q.out hb0)
  replace V_p := Lib.hid (Qc.below V_p.out hb0)
  replace HB := Lib.hid (nextw HB.out hb0)
  clear hb0
  have c0x := B_x.out.c0
  have c1x := B_x.out.c1
  have c2x := B_x.out.c2
  have c3x := B_x.out.c3
  have c0y := B_y.out.c0
  have c1y := B_y.out.c1
  have c2y := B_y.out.c2
  have c3y := B_y.out.c3
  have c0p := B_p.out.c0
  have c1p := B_p.out.c1
  have c2p := B_p.out.c2
  have c3p := B_p.out.c3
  go_wp2_with fail
  clear c0x c1x c2x c3x c0y c1y c2y c3y c0p c1p c2p c3p
  generalize w4.alloc (.cells #[.bool sp, (.slice Ap kp cp), .bool tp, (.slice Cp lp dp)] 26) = W2 at *
  refine (Whole_yes (Qd.below V_x.out (by exact ⟨rfl, rfl, rfl, Nat.le_refl _, fun _ _ => rfl⟩)) (by omega) HW.out).mono ?_
  rintro e w5 ⟨vh, rfl, rh, bb⟩
  replace bb := nextw (w0 := W2) (by exact ⟨rfl, rfl, rfl, Nat.le_refl _, fun _ _ => rfl⟩) bb
  replace B_x := Lib.hid (Box4.below B_x.out bb B_x.out.lt)
  replace B_y := Lib.hid (Box4.below B_y.out bb B_y.out.lt)
  replace B_q := Lib.hid (Box4.below B_q.out bb B_q.out.lt)
  replace B_p := Lib.hid (Box4.below B_p.out bb B_p.out.lt)
  replace V_x := Lib.hid (Qd.below V_x.out bb)
  replace V_y := Lib.hid (Qd.below V_y.out bb)
  replace V_q := Lib.hid (Qc.below V_q.out bb)
  replace V_p := Lib.hid (Qc.below V_p.out bb)
  replace HB := Lib.hid (nextw HB.out bb)
  clear bb
  obtain ⟨sh, Ah, kh, ch, rfl⟩ := rh.shape
  have V_h := Lib.hid rh
  clear rh
  have hb0 : Below w5.heap.size w5 (w5.alloc (.cells #[.bool sh, (.slice Ah kh ch)] 24)) := (Below.alloc (Below.refl w5.heap.size w5) (by simp <;> omega) _)
  have B_h : Box (w5.alloc (.cells #[.bool sh, (.slice Ah kh ch)] 24)) (w5.heap.size) sh (.slice Ah kh ch) := by have h := Box.new w5 sh (.slice Ah kh ch); simpa using h
  replace B_h := Lib.hid B_h
  replace B_x := Lib.hid (Box4.below B_x.out hb0 B_x.out.lt)
  replace B_y := Lib.hid (Box4.below B_y.out hb0 B_y.out.lt)
  replace B_q := Lib.hid (Box4.below B_q.out hb0 B_q.out.lt)
  replace B_p := Lib.hid (Box4.below B_p.out hb0 B_p.out.lt)
  replace V_x := Lib.hid (Qd.below V_x.out hb0)
  replace V_y := Lib.hid (Qd.below V_y.out hb0)
  replace V_q := Lib.hid (Qc.below V_q.out hb0)
  replace V_p := Lib.hid (Qc.below V_p.out hb0)
  replace V_h := Lib.hid (Rc.below V_h.out hb0)
  replace HB := Lib.hid (nextw HB.out hb0)
  clear hb0
  have c0x := B_x.out.c0
  have c1x := B_x.out.c1
  have c2x := B_x.out.c2
  have c3x := B_x.out.c3
  have c0y := B_y.out.c0
  have c1y := B_y.out.c1
  have c2y := B_y.out.c2
  have c3y := B_y.out.c3
  have c0q := B_q.out.c0
  have c1q := B_q.out.c1
  have c2q := B_q.out.c2
  have c3q := B_q.out.c3
  have c0p := B_p.out.c0
  have c1p := B_p.out.c1
  have c2p := B_p.out.c2
  have c3p := B_p.out.c3
  have c0h := B_h.out.c0
  have c1h := B_h.out.c1
  go_wp2_with fail
  clear c0x c1x c2x c3x c0y c1y c2y c3y c0q c1q c2q c3q c0p c1p c2p c3p c0h c1h
  generalize w5.alloc (.cells #[.bool sh, (.slice Ah kh ch)] 24) = W3 at *
  refine (RWhole_yes (Qd.below V_x.out (by exact ⟨rfl, rfl, rfl, Nat.le_refl _, fun _ _ => rfl⟩)) (by omega) HW.out).mono ?_
  rintro e w6 ⟨vg, rfl, rg, bb⟩
  replace bb := nextw (w0 := W3) (by exact ⟨rfl, rfl, rfl, Nat.le_refl _, fun _ _ => rfl⟩) bb
  replace B_x := Lib.hid (Box4.below B_x.out bb B_x.out.lt)
  replace B_y := Lib.hid (Box4.below B_y.out bb B_y.out.lt)
  replace B_q := Lib.hid (Box4.below B_q.out bb B_q.out.lt)
  replace B_p := Lib.hid (Box4.below B_p.out bb B_p.out.lt)
  replace B_h := Lib.hid (Box.below B_h.out bb B_h.out.lt)
  replace V_x := Lib.hid (Qd.below V_x.out bb)
  replace V_y := Lib.hid (Qd.below V_y.out bb)
  replace V_q := Lib.hid (Qc.below V_q.out bb)
  replace V_p := Lib.hid (Qc.below V_p.out bb)
  replace V_h := Lib.hid (Rc.below V_h.out bb)
  replace HB := Lib.hid (nextw HB.out bb)
  clear bb
  obtain ⟨sg, Ag, kg, cg, rfl⟩ := rg.shape
  have V_g := Lib.hid rg
  clear rg
  have hb0 : Below w6.heap.size w6 (w6.alloc (.cells #[.bool sg, (.slice Ag kg cg)] 24)) := (Below.alloc (Below.refl w6.heap.size w6) (by simp <;> omega) _)
  have B_g : Box (w6.alloc (.cells #[.bool sg, (.slice Ag kg cg)] 24)) (w6.heap.size) sg (.slice Ag kg cg) := by have h := Box.new w6 sg (.slice Ag kg cg); simpa using h
  replace B_g := Lib.hid B_g
  replace B_x := Lib.hid (Box4.below B_x.out hb0 B_x.out.lt)
  replace B_y := Lib.hid (Box4.below B_y.out hb0 B_y.out.lt)
  replace B_q := Lib.hid (Box4.below B_q.out hb0 B_q.out.lt)
  replace B_p := Lib.hid (Box4.below B_p.out hb0 B_p.out.lt)
  replace B_h := Lib.hid (Box.below B_h.out hb0 B_h.out.lt)
  replace V_x := Lib.hid (Qd.below V_x.out hb0)
  replace V_y := Lib.hid (Qd.below V_y.out hb0)
  replace V_q := Lib.hid (Qc.below V_q.out hb0)
  replace V_p := Lib.hid (Qc.below V_p.out hb0)
  replace V_h := Lib.hid (Rc.below V_h.out hb0)
  replace V_g := Lib.hid (Rc.below V_g.out hb0)
  replace HB := Lib.hid (nextw HB.out hb0)
  clear hb0
  have c0x := B_x.out.c0
  have c1x := B_x.out.c1
  have c2x := B_x.out.c2
  have c3x := B_x.out.c3
  have c0y := B_y.out.c0
  have c1y := B_y.out.c1
  have c2y := B_y.out.c2
  have c3y := B_y.out.c3
  have c0q := B_q.out.c0
  have c1q := B_q.out.c1
  have c2q := B_q.out.c2
  have c3q := B_q.out.c3
  have c0p := B_p.out.c0
  have c1p := B_p.out.c1
  have c2p := B_p.out.c2
  have c3p := B_p.out.c3
  have c0h := B_h.out.c0
  have c1h := B_h.out.c1
  have c0g := B_g.out.c0
  have c1g := B_g.out.c1
  go_wp2
  clear c0x c1x c2x c3x c0y c1y c2y c3y c0q c1q c2q c3q c0p c1p c2p c3p c0h c1h c0g c1g
  generalize w6.alloc (.cells #[.bool sg, (.slice Ag kg cg)] 24) = W4 at *
  have c0x := B_x.out.c0
  have c1x := B_x.out.c1
  have c2x := B_x.out.c2
  have c3x := B_x.out.c3
  have c0y := B_y.out.c0
  have c1y := B_y.out.c1
  have c2y := B_y.out.c2
  have c3y := B_y.out.c3
  have c0q := B_q.out.c0
  have c1q := B_q.out.c1
  have c2q := B_q.out.c2
  have c3q := B_q.out.c3
  have c0p := B_p.out.c0
  have c1p := B_p.out.c1
  have c2p := B_p.out.c2
  have c3p := B_p.out.c3
  have c0h := B_h.out.c0
  have c1h := B_h.out.c1
  have c0g := B_g.out.c0
  have c1g := B_g.out.c1
  have tk0 : True := trivial
  first | (go_region_held3 (fun w' => w'.cell? ⟨w.heap.size, 0, none⟩ = some (.bool sx) ∧ w'.cell? ⟨w.heap.size, 1, none⟩ = some (.slice Ax kx cx) ∧ w'.cell? ⟨w.heap.size, 2, none⟩ = some (.bool tx) ∧ w'.cell? ⟨w.heap.size, 3, none⟩ = some (.slice Cx lx dx) ∧ w'.cell? ⟨w.heap.size + 1, 0, none⟩ = some (.bool sy) ∧ w'.cell? ⟨w.heap.size + 1, 1, none⟩ = some (.slice Ay ky cy) ∧ w'.cell? ⟨w.heap.size + 1, 2, none⟩ = some (.bool ty) ∧ w'.cell? ⟨w.heap.size + 1, 3, none⟩ = some (.slice Cy ly dy) ∧ w'.cell? ⟨w3.heap.size, 0, none⟩ = some (.bool sq) ∧ w'.cell? ⟨w3.heap.size, 1, none⟩ = some (.slice Aq kq cq) ∧ w'.cell? ⟨w3.heap.size, 2, none⟩ = some (.bool tq) ∧ w'.cell? ⟨w3.heap.size, 3, none⟩ = some (.slice Cq lq dq) ∧ w'.cell? ⟨w4.heap.size, 0, none⟩ = some (.bool sp) ∧ w'.cell? ⟨w4.heap.size, 1, none⟩ = some (.slice Ap kp cp) ∧ w'.cell? ⟨w4.heap.size, 2, none⟩ = some (.bool tp) ∧ w'.cell? ⟨w4.heap.size, 3, none⟩ = some (.slice Cp lp dp) ∧ w'.cell? ⟨w5.heap.size, 0, none⟩ = some (.bool sh) ∧ w'.cell? ⟨w5.heap.size, 1, none⟩ = some (.slice Ah kh ch) ∧ w'.cell? ⟨w6.heap.size, 0, none⟩ = some (.bool sg) ∧ w'.cell? ⟨w6.heap.size, 1, none⟩ = some (.slice Ag kg cg)) (((try dsimp only); (repeat' apply And.intro) <;> (first | (with_reducible assumption) | ((repeat (first | (with_reducible refine Eq.trans (cell_drew1 _ _) ?_) | (with_reducible refine Eq.trans (cell_set4 (by omega) _ _ _ _) ?_))); with_reducible assumption) | assumption | go_keep)))
    (first
      | (have _t := tk0; clear _t tk0; go_at_call 13; refine (BRat_q (Qc.below V_q.out (by exact ⟨rfl, rfl, rfl, Nat.le_refl _, fun _ _ => rfl⟩)) (Qc.below V_p.out (by exact ⟨rfl, rfl, rfl, Nat.le_refl _, fun _ _ => rfl⟩)) (by omega) (by omega) (rfl)).mono ?_; rintro e w7 ⟨rfl, bb⟩; replace bb := nextw (w0 := W4) (by exact ⟨rfl, rfl, rfl, Nat.le_refl _, fun _ _ => rfl⟩) bb; clear V_q V_p; replace B_x := Lib.hid (Box4.below B_x.out bb B_x.out.lt); replace B_y := Lib.hid (Box4.below B_y.out bb B_y.out.lt); replace B_q := Lib.hid (Box4.below B_q.out bb B_q.out.lt); replace B_p := Lib.hid (Box4.below B_p.out bb B_p.out.lt); replace B_h := Lib.hid (Box.below B_h.out bb B_h.out.lt); replace B_g := Lib.hid (Box.below B_g.out bb B_g.out.lt); replace V_x := Lib.hid (Qd.below V_x.out bb); replace V_y := Lib.hid (Qd.below V_y.out bb); replace V_h := Lib.hid (Rc.below V_h.out bb); replace V_g := Lib.hid (Rc.below V_g.out bb); replace HB := Lib.hid (nextw HB.out bb); clear bb; have c0x := B_x.out.c0; have c1x := B_x.out.c1; have c2x := B_x.out.c2; have c3x := B_x.out.c3; have c0y := B_y.out.c0; have c1y := B_y.out.c1; have c2y := B_y.out.c2; have c3y := B_y.out.c3; have c0q := B_q.out.c0; have c1q := B_q.out.c1; have c2q := B_q.out.c2; have c3q := B_q.out.c3; have c0p := B_p.out.c0; have c1p := B_p.out.c1; have c2p := B_p.out.c2; have c3p := B_p.out.c3; have c0h := B_h.out.c0; have c1h := B_h.out.c1; have c0g := B_g.out.c0; have c1g := B_g.out.c1; have tk1 : True := trivial)
      | (have _t := tk1; clear _t tk1; go_at_call 33; refine (Cmp_q (Qd.below V_x.out (by exact ⟨rfl, rfl, rfl, Nat.le_refl _, fun _ _ => rfl⟩)) (Qd.below V_y.out (by exact ⟨rfl, rfl, rfl, Nat.le_refl _, fun _ _ => rfl⟩)) (by omega) (by omega)).mono ?_; rintro e w8 ⟨rfl, bb⟩; replace bb := nextw (w0 := w7) (by exact ⟨rfl, rfl, rfl, Nat.le_refl _, fun _ _ => rfl⟩) bb; replace B_x := Lib.hid (Box4.below B_x.out bb B_x.out.lt); replace B_y := Lib.hid (Box4.below B_y.out bb B_y.out.lt); replace B_q := Lib.hid (Box4.below B_q.out bb B_q.out.lt); replace B_p := Lib.hid (Box4.below B_p.out bb B_p.out.lt); replace B_h := Lib.hid (Box.below B_h.out bb B_h.out.lt); replace B_g := Lib.hid (Box.below B_g.out bb B_g.out.lt); replace V_x := Lib.hid (Qd.below V_x.out bb); replace V_y := Lib.hid (Qd.below V_y.out bb); replace V_h := Lib.hid (Rc.below V_h.out bb); replace V_g := Lib.hid (Rc.below V_g.out bb); replace HB := Lib.hid (nextw HB.out bb); clear bb; have c0x := B_x.out.c0; have c1x := B_x.out.c1; have c2x := B_x.out.c2; have c3x := B_x.out.c3; have c0y := B_y.out.c0; have c1y := B_y.out.c1; have c2y := B_y.out.c2; have c3y := B_y.out.c3; have c0q := B_q.out.c0; have c1q := B_q.out.c1; have c2q := B_q.out.c2; have c3q := B_q.out.c3; have c0p := B_p.out.c0; have c1p := B_p.out.c1; have c2p := B_p.out.c2; have c3p := B_p.out.c3; have c0h := B_h.out.c0; have c1h := B_h.out.c1; have c0g := B_g.out.c0; have c1g := B_g.out.c1; have tk2 : True := trivial)
      | (have _t := tk2; clear _t tk2; go_at_call 34; refine (RCmpQ_q (Qd.below V_x.out (by exact ⟨rfl, rfl, rfl, Nat.le_refl _, fun _ _ => rfl⟩)) (Qd.below V_y.out (by exact ⟨rfl, rfl, rfl, Nat.le_refl _, fun _ _ => rfl⟩)) (by omega) (by omega)).mono ?_; rintro e w9 ⟨rfl, bb⟩; replace bb := nextw (w0 := w8) (by exact ⟨rfl, rfl, rfl, Nat.le_refl _, fun _ _ => rfl⟩) bb; replace B_x := Lib.hid (Box4.below B_x.out bb B_x.out.lt); replace B_y := Lib.hid (Box4.below B_y.out bb B_y.out.lt); replace B_q := Lib.hid (Box4.below B_q.out bb B_q.out.lt); replace B_p := Lib.hid (Box4.below B_p.out bb B_p.out.lt); replace B_h := Lib.hid (Box.below B_h.out bb B_h.out.lt); replace B_g := Lib.hid (Box.below B_g.out bb B_g.out.lt); replace V_x := Lib.hid (Qd.below V_x.out bb); replace V_y := Lib.hid (Qd.below V_y.out bb); replace V_h := Lib.hid (Rc.below V_h.out bb); replace V_g := Lib.hid (Rc.below V_g.out bb); replace HB := Lib.hid (nextw HB.out bb); clear bb; have c0x := B_x.out.c0; have c1x := B_x.out.c1; have c2x := B_x.out.c2; have c3x := B_x.out.c3; have c0y := B_y.out.c0; have c1y := B_y.out.c1; have c2y := B_y.out.c2; have c3y := B_y.out.c3; have c0q := B_q.out.c0; have c1q := B_q.out.c1; have c2q := B_q.out.c2; have c3q := B_q.out.c3; have c0p := B_p.out.c0; have c1p := B_p.out.c1; have c2p := B_p.out.c2; have c3p := B_p.out.c3; have c0h := B_h.out.c0; have c1h := B_h.out.c1; have c0g := B_g.out.c0; have c1g := B_g.out.c1; have tk3 : True := trivial)
      | (have _t := tk3; clear _t tk3; go_at_call 36; refine (Floor_q (Qd.below V_x.out (by exact ⟨rfl, rfl, rfl, Nat.le_refl _, fun _ _ => rfl⟩)) (by omega)).mono ?_; rintro e w10 ⟨vi1, rfl, ri1, bb⟩; replace bb := nextw (w0 := w9) (by exact ⟨rfl, rfl, rfl, Nat.le_refl _, fun _ _ => rfl⟩) bb; replace B_x := Lib.hid (Box4.below B_x.out bb B_x.out.lt); replace B_y := Lib.hid (Box4.below B_y.out bb B_y.out.lt); replace B_q := Lib.hid (Box4.below B_q.out bb B_q.out.lt); replace B_p := Lib.hid (Box4.below B_p.out bb B_p.out.lt); replace B_h := Lib.hid (Box.below B_h.out bb B_h.out.lt); replace B_g := Lib.hid (Box.below B_g.out bb B_g.out.lt); replace V_x := Lib.hid (Qd.below V_x.out bb); replace V_y := Lib.hid (Qd.below V_y.out bb); replace V_h := Lib.hid (Rc.below V_h.out bb); replace V_g := Lib.hid (Rc.below V_g.out bb); replace HB := Lib.hid (nextw HB.out bb); clear bb; replace ri1 := Lib.hid ri1; have V_i1 := ri1; clear ri1; have c0x := B_x.out.c0; have c1x := B_x.out.c1; have c2x := B_x.out.c2; have c3x := B_x.out.c3; have c0y := B_y.out.c0; have c1y := B_y.out.c1; have c2y := B_y.out.c2; have c3y := B_y.out.c3; have c0q := B_q.out.c0; have c1q := B_q.out.c1; have c2q := B_q.out.c2; have c3q := B_q.out.c3; have c0p := B_p.out.c0; have c1p := B_p.out.c1; have c2p := B_p.out.c2; have c3p := B_p.out.c3; have c0h := B_h.out.c0; have c1h := B_h.out.c1; have c0g := B_g.out.c0; have c1g := B_g.out.c1; have tk4 : True := trivial)
      | (have _t := tk4; clear _t tk4; go_at_call 37; refine (RFloorQ_q (Qd.below V_x.out (by exact ⟨rfl, rfl, rfl, Nat.le_refl _, fun _ _ => rfl⟩)) (by omega)).mono ?_; rintro e w11 ⟨vi2, rfl, ri2, bb⟩; replace bb := nextw (w0 := w10) (by exact ⟨rfl, rfl, rfl, Nat.le_refl _, fun _ _ => rfl⟩) bb; replace B_x := Lib.hid (Box4.below B_x.out bb B_x.out.lt); replace B_y := Lib.hid (Box4.below B_y.out bb B_y.out.lt); replace B_q := Lib.hid (Box4.below B_q.out bb B_q.out.lt); replace B_p := Lib.hid (Box4.below B_p.out bb B_p.out.lt); replace B_h := Lib.hid (Box.below B_h.out bb B_h.out.lt); replace B_g := Lib.hid (Box.below B_g.out bb B_g.out.lt); replace V_x := Lib.hid (Qd.below V_x.out bb); replace V_y := Lib.hid (Qd.below V_y.out bb); replace V_h := Lib.hid (Rc.below V_h.out bb); replace V_g := Lib.hid (Rc.below V_g.out bb); replace V_i1 := Lib.hid (Rc.below V_i1.out bb); replace HB := Lib.hid (nextw HB.out bb); clear bb; replace ri2 := Lib.hid ri2; have V_i2 := ri2; clear ri2; have c0x := B_x.out.c0; have c1x := B_x.out.c1; have c2x := B_x.out.c2; have c3x := B_x.out.c3; have c0y := B_y.out.c0; have c1y := B_y.out.c1; have c2y := B_y.out.c2; have c3y := B_y.out.c3; have c0q := B_q.out.c0; have c1q := B_q.out.c1; have c2q := B_q.out.c2; have c3q := B_q.out.c3; have c0p := B_p.out.c0; have c1p := B_p.out.c1; have c2p := B_p.out.c2; have c3p := B_p.out.c3; have c0h := B_h.out.c0; have c1h := B_h.out.c1; have c0g := B_g.out.c0; have c1g := B_g.out.c1; have tk5 : True := trivial)
      | (have _t := tk5; clear _t tk5; go_at_call 35; refine (BInt_rc (Rc.below V_i1.out (by exact ⟨rfl, rfl, rfl, Nat.le_refl _, fun _ _ => rfl⟩)) (Rc.below V_i2.out (by exact ⟨rfl, rfl, rfl, Nat.le_refl _, fun _ _ => rfl⟩)) (by omega) (by omega) (rfl)).mono ?_; rintro e w12 ⟨rfl, bb⟩; replace bb := nextw (w0 := w11) (by exact ⟨rfl, rfl, rfl, Nat.le_refl _, fun _ _ => rfl⟩) bb; clear V_i1 V_i2; replace B_x := Lib.hid (Box4.below B_x.out bb B_x.out.lt); replace B_y := Lib.hid (Box4.below B_y.out bb B_y.out.lt); replace B_q := Lib.hid (Box4.below B_q.out bb B_q.out.lt); replace B_p := Lib.hid (Box4.below B_p.out bb B_p.out.lt); replace B_h := Lib.hid (Box.below B_h.out bb B_h.out.lt); replace B_g := Lib.hid (Box.below B_g.out bb B_g.out.lt); replace V_x := Lib.hid (Qd.below V_x.out bb); replace V_y := Lib.hid (Qd.below V_y.out bb); replace V_h := Lib.hid (Rc.below V_h.out bb); replace V_g := Lib.hid (Rc.below V_g.out bb); replace HB := Lib.hid (nextw HB.out bb); clear bb; have c0x := B_x.out.c0; have c1x := B_x.out.c1; have c2x := B_x.out.c2; have c3x := B_x.out.c3; have c0y := B_y.out.c0; have c1y := B_y.out.c1; have c2y := B_y.out.c2; have c3y := B_y.out.c3; have c0q := B_q.out.c0; have c1q := B_q.out.c1; have c2q := B_q.out.c2; have c3q := B_q.out.c3; have c0p := B_p.out.c0; have c1p := B_p.out.c1; have c2p := B_p.out.c2; have c3p := B_p.out.c3; have c0h := B_h.out.c0; have c1h := B_h.out.c1; have c0g := B_g.out.c0; have c1g := B_g.out.c1; have tk6 : True := trivial)
      | (have _t := tk6; clear _t tk6; go_at_call 35; refine (BInt_rc (Rc.below V_h.out (by exact ⟨rfl, rfl, rfl, Nat.le_refl _, fun _ _ => rfl⟩)) (Rc.below V_g.out (by exact ⟨rfl, rfl, rfl, Nat.le_refl _, fun _ _ => rfl⟩)) (by omega) (by omega) (rfl)).mono ?_; rintro e w13 ⟨rfl, bb⟩; replace bb := nextw (w0 := w12) (by exact ⟨rfl, rfl, rfl, Nat.le_refl _, fun _ _ => rfl⟩) bb; clear V_h V_g; replace B_x := Lib.hid (Box4.below B_x.out bb B_x.out.lt); replace B_y := Lib.hid (Box4.below B_y.out bb B_y.out.lt); replace B_q := Lib.hid (Box4.below B_q.out bb B_q.out.lt); replace B_p := Lib.hid (Box4.below B_p.out bb B_p.out.lt); replace B_h := Lib.hid (Box.below B_h.out bb B_h.out.lt); replace B_g := Lib.hid (Box.below B_g.out bb B_g.out.lt); replace V_x := Lib.hid (Qd.below V_x.out bb); replace V_y := Lib.hid (Qd.below V_y.out bb); replace HB := Lib.hid (nextw HB.out bb); clear bb; have c0x := B_x.out.c0; have c1x := B_x.out.c1; have c2x := B_x.out.c2; have c3x := B_x.out.c3; have c0y := B_y.out.c0; have c1y := B_y.out.c1; have c2y := B_y.out.c2; have c3y := B_y.out.c3; have c0q := B_q.out.c0; have c1q := B_q.out.c1; have c2q := B_q.out.c2; have c3q := B_q.out.c3; have c0p := B_p.out.c0; have c1p := B_p.out.c1; have c2p := B_p.out.c2; have c3p := B_p.out.c3; have c0h := B_h.out.c0; have c1h := B_h.out.c1; have c0g := B_g.out.c0; have c1g := B_g.out.c1; have tk7 : True := trivial))) | fail
  have HBo := HB.out
  go_wp2
  go_ret
  exact ⟨rfl, nextw HBo (by exact ⟨rfl, rfl, rfl, Nat.le_refl _, fun _ _ => rfl⟩)⟩

set_option maxRecDepth 100000 in
set_option maxHeartbeats 16000000 in
theorem Quotients_nf {sx : Bool} {Ax : Option Addr} {kx cx : Nat} {tx : Bool} {Cx : Option Addr} {lx dx : Nat} {rx : Rat} {qx : Nat} {sy : Bool} {Ay : Option Addr} {ky cy : Nat} {ty : Bool} {Cy : Option Addr} {ly dy : Nat} {ry : Rat} {qy : Nat} {w : World} (hx : Qd w (.agg #[.bool sx, .slice Ax kx cx, .bool tx, .slice Cx lx dx]) rx qx) (hy : Qd w (.agg #[.bool sy, .slice Ay ky cy, .bool ty, .slice Cy ly dy]) ry qy) (htab : Tab10 w) (hqx : qx ≤ 60) (hqy : qy ≤ 60) (hfew : fewSum [(kx, lx), (ky, ly)] ≤ 60) (hw : rx.den ≠ 1) (hz : ry ≠ 0) :
    Calls Tryz.prog 5 #[.agg #[.bool sx, .slice Ax kx cx, .bool tx, .slice Cx lx dx], .agg #[.bool sy, .slice Ay ky cy, .bool ty, .slice Cy ly dy]] w fun e w' => e = .returned (.bool true) ∧ Below w.heap.size w w' := by
  have V_x := Lib.hid hx
  have V_y := Lib.hid hy
  have V_tab := Lib.hid htab
  have HF := Lib.hid hfew
  have HW := Lib.hid hw
  have HZ := Lib.hid hz
  clear hx hy htab hfew hw hz
  have hb0 : Below w.heap.size w ((w.alloc (.cells #[.bool sx, (.slice Ax kx cx), .bool tx, (.slice Cx lx dx)] 26)).alloc (.cells #[.bool sy, (.slice Ay ky cy), .bool ty, (.slice Cy ly dy)] 26)) := (Below.alloc (Below.alloc (Below.refl w.heap.size w) (by simp <;> omega) _) (by simp <;> omega) _)
  have B_x : Box4 ((w.alloc (.cells #[.bool sx, (.slice Ax kx cx), .bool tx, (.slice Cx lx dx)] 26)).alloc (.cells #[.bool sy, (.slice Ay ky cy), .bool ty, (.slice Cy ly dy)] 26)) (w.heap.size) sx (.slice Ax kx cx) tx (.slice Cx lx dx) := by have h := Box4.alloc (Box4.new w sx (.slice Ax kx cx) tx (.slice Cx lx dx)) (.cells #[.bool sy, (.slice Ay ky cy), .bool ty, (.slice Cy ly dy)] 26); simpa using h
  replace B_x := Lib.hid B_x
  have B_y : Box4 ((w.alloc (.cells #[.bool sx, (.slice Ax kx cx), .bool tx, (.slice Cx lx dx)] 26)).alloc (.cells #[.bool sy, (.slice Ay ky cy), .bool ty, (.slice Cy ly dy)] 26)) (w.heap.size + 1) sy (.slice Ay ky cy) ty (.slice Cy ly dy) := by have h := Box4.new (w.alloc (.cells #[.bool sx, (.slice Ax kx cx), .bool tx, (.slice Cx lx dx)] 26)) sy (.slice Ay ky cy) ty (.slice Cy ly dy); simpa using h
  replace B_y := Lib.hid B_y
  replace V_x := Lib.hid (Qd.below V_x.out hb0)
  replace V_y := Lib.hid (Qd.below V_y.out hb0)
  replace V_tab := Lib.hid (tab_below V_tab.out hb0)
  have HB := Lib.hid hb0
  clear hb0
  have c0x := B_x.out.c0
  have c1x := B_x.out.c1
  have c2x := B_x.out.c2
  have c3x := B_x.out.c3
  have c0y := B_y.out.c0
  have c1y := B_y.out.c1
  have c2y := B_y.out.c2
  have c3y := B_y.out.c3
  go_enter Tryz.func5, Tryz.ntmps5
  go_wp2_with fail
  clear c0x c1x c2x c3x c0y c1y c2y c3y
  generalize (w.alloc (.cells #[.bool sx, (.slice Ax kx cx), .bool tx, (.slice Cx lx dx)] 26)).alloc (.cells #[.bool sy, (.slice Ay ky cy), .bool ty, (.slice Cy ly dy)] 26) = W0 at *
  refine (awakeQ _ (tab_below V_tab.out (by exact ⟨rfl, rfl, rfl, Nat.le_refl _, fun _ _ => rfl⟩))).mono ?_
  rintro e w1 ⟨rfl, bb⟩
  replace bb := nextw (w0 := W0) (by exact ⟨rfl, rfl, rfl, Nat.le_refl _, fun _ _ => rfl⟩) bb
  replace B_x := Lib.hid (Box4.below B_x.out bb B_x.out.lt)
  replace B_y := Lib.hid (Box4.below B_y.out bb B_y.out.lt)
  replace V_x := Lib.hid (Qd.below V_x.out bb)
  replace V_y := Lib.hid (Qd.below V_y.out bb)
  replace V_tab := Lib.hid (tab_below V_tab.out bb)
  replace HB := Lib.hid (nextw HB.out bb)
  clear bb
  have c0x := B_x.out.c0
  have c1x := B_x.out.c1
  have c2x := B_x.out.c2
  have c3x := B_x.out.c3
  have c0y := B_y.out.c0
  have c1y := B_y.out.c1
  have c2y := B_y.out.c2
  have c3y := B_y.out.c3
  go_wp2_with fail
  refine (fewq_yes (L := [(kx, lx), (ky, ly)]) (Rats.lit _ _ _ _ (by intro i hi; rcases i with _ | _ | i <;> first | exact ⟨⟨_, _, rfl⟩, ⟨_, _, rfl⟩⟩ | (simp only [List.length_cons, List.length_nil] at hi; omega))) (by simp) HF.out).mono ?_
  rintro e w2 ⟨rfl, bb⟩
  replace bb := nextw (w0 := w1) (by first | exact ⟨rfl, rfl, rfl, Nat.le_refl _, fun _ _ => rfl⟩ | exact nextw (by exact ⟨rfl, rfl, rfl, Nat.le_refl _, fun _ _ => rfl⟩) ((Below.refl _ _).alloc (Nat.le_refl _) _) | exact below_push rfl rfl rfl rfl) bb
  clear c0x c1x c2x c3x c0y c1y c2y c3y
  replace B_x := Lib.hid (Box4.below B_x.out bb B_x.out.lt)
  replace B_y := Lib.hid (Box4.below B_y.out bb B_y.out.lt)
  replace V_x := Lib.hid (Qd.below V_x.out bb)
  replace V_y := Lib.hid (Qd.below V_y.out bb)
  replace V_tab := Lib.hid (tab_below V_tab.out bb)
  replace HB := Lib.hid (nextw HB.out bb)
  clear bb
  clear V_tab
  have c0x := B_x.out.c0
  have c1x := B_x.out.c1
  have c2x := B_x.out.c2
  have c3x := B_x.out.c3
  have c0y := B_y.out.c0
  have c1y := B_y.out.c1
  have c2y := B_y.out.c2
  have c3y := B_y.out.c3
  go_wp2_with fail
  refine (Div_q (Qd.below V_x.out (by exact ⟨rfl, rfl, rfl, Nat.le_refl _, fun _ _ => rfl⟩)) (Qd.below V_y.out (by exact ⟨rfl, rfl, rfl, Nat.le_refl _, fun _ _ => rfl⟩)) (by omega) (by omega) HZ.out).mono ?_
  rintro e w3 ⟨vq, rfl, rq, bb⟩
  replace bb := nextw (w0 := w2) (by exact ⟨rfl, rfl, rfl, Nat.le_refl _, fun _ _ => rfl⟩) bb
  clear c0x c1x c2x c3x c0y c1y c2y c3y
  replace B_x := Lib.hid (Box4.below B_x.out bb B_x.out.lt)
  replace B_y := Lib.hid (Box4.below B_y.out bb B_y.out.lt)
  replace V_x := Lib.hid (Qd.below V_x.out bb)
  replace V_y := Lib.hid (Qd.below V_y.out bb)
  replace HB := Lib.hid (nextw HB.out bb)
  clear bb
  obtain ⟨sq, Aq, kq, cq, tq, Cq, lq, dq, rfl⟩ := rq.shape
  have V_q := Lib.hid rq
  clear rq
  have hb0 : Below w3.heap.size w3 (w3.alloc (.cells #[.bool sq, (.slice Aq kq cq), .bool tq, (.slice Cq lq dq)] 26)) := (Below.alloc (Below.refl w3.heap.size w3) (by simp <;> omega) _)
  have B_q : Box4 (w3.alloc (.cells #[.bool sq, (.slice Aq kq cq), .bool tq, (.slice Cq lq dq)] 26)) (w3.heap.size) sq (.slice Aq kq cq) tq (.slice Cq lq dq) := by have h := Box4.new w3 sq (.slice Aq kq cq) tq (.slice Cq lq dq); simpa using h
  replace B_q := Lib.hid B_q
  replace B_x := Lib.hid (Box4.below B_x.out hb0 B_x.out.lt)
  replace B_y := Lib.hid (Box4.below B_y.out hb0 B_y.out.lt)
  replace V_x := Lib.hid (Qd.below V_x.out hb0)
  replace V_y := Lib.hid (Qd.below V_y.out hb0)
  replace V_q := Lib.hid (Qc.below V_q.out hb0)
  replace HB := Lib.hid (nextw HB.out hb0)
  clear hb0
  have c0x := B_x.out.c0
  have c1x := B_x.out.c1
  have c2x := B_x.out.c2
  have c3x := B_x.out.c3
  have c0y := B_y.out.c0
  have c1y := B_y.out.c1
  have c2y := B_y.out.c2
  have c3y := B_y.out.c3
  have c0q := B_q.out.c0
  have c1q := B_q.out.c1
  have c2q := B_q.out.c2
  have c3q := B_q.out.c3
  go_wp2_with fail
  clear c0x c1x c2x c3x c0y c1y c2y c3y c0q c1q c2q c3q
  generalize w3.alloc (.cells #[.bool sq, (.slice Aq kq cq), .bool tq, (.slice Cq lq dq)] 26) = W1 at *
  refine (RDivQ_q (Qd.below V_x.out (by exact ⟨rfl, rfl, rfl, Nat.le_refl _, fun _ _ => rfl⟩)) (Qd.below V_y.out (by exact ⟨rfl, rfl, rfl, Nat.le_refl _, fun _ _ => rfl⟩)) (by omega) (by omega) HZ.out).mono ?_
  rintro e w4 ⟨vp, rfl, rp, bb⟩
  replace bb := nextw (w0 := W1) (by exact ⟨rfl, rfl, rfl, Nat.le_refl _, fun _ _ => rfl⟩) bb
  replace B_x := Lib.hid (Box4.below B_x.out bb B_x.out.lt)
  replace B_y := Lib.hid (Box4.below B_y.out bb B_y.out.lt)
  replace B_q := Lib.hid (Box4.below B_q.out bb B_q.out.lt)
  replace V_x := Lib.hid (Qd.below V_x.out bb)
  replace V_y := Lib.hid (Qd.below V_y.out bb)
  replace V_q := Lib.hid (Qc.below V_q.out bb)
  replace HB := Lib.hid (nextw HB.out bb)
  clear bb
  obtain ⟨sp, Ap, kp, cp, tp, Cp, lp, dp, rfl⟩ := rp.shape
  have V_p := Lib.hid rp
  clear rp
  have hb0 : Below w4.heap.size w4 (w4.alloc (.cells #[.bool sp, (.slice Ap kp cp), .bool tp, (.slice Cp lp dp)] 26)) := (Below.alloc (Below.refl w4.heap.size w4) (by simp <;> omega) _)
  have B_p : Box4 (w4.alloc (.cells #[.bool sp, (.slice Ap kp cp), .bool tp, (.slice Cp lp dp)] 26)) (w4.heap.size) sp (.slice Ap kp cp) tp (.slice Cp lp dp) := by have h := Box4.new w4 sp (.slice Ap kp cp) tp (.slice Cp lp dp); simpa using h
  replace B_p := Lib.hid B_p
  replace B_x := Lib.hid (Box4.below B_x.out hb0 B_x.out.lt)
  replace B_y := Lib.hid (Box4.below B_y.out hb0 B_y.out.lt)
  replace B_q := Lib.hid (Box4.below B_q.out hb0 B_q.out.lt)
  replace V_x := Lib.hid (Qd.below V_x.out hb0)
  replace V_y := Lib.hid (Qd.below V_y.out hb0)
  replace V_q := Lib.hid (Qc.below V_q.out hb0)
  replace V_p := Lib.hid (Qc.below V_p.out hb0)
  replace HB := Lib.hid (nextw HB.out hb0)
  clear hb0
  have c0x := B_x.out.c0
  have c1x := B_x.out.c1
  have c2x := B_x.out.c2
  have c3x := B_x.out.c3
  have c0y := B_y.out.c0
  have c1y := B_y.out.c1
  have c2y := B_y.out.c2
  have c3y := B_y.out.c3
  have c0p := B_p.out.c0
  have c1p := B_p.out.c1
  have c2p := B_p.out.c2
  have c3p := B_p.out.c3
  go_wp2_with fail
  clear c0x c1x c2x c3x c0y c1y c2y c3y c0p c1p c2p c3p
  generalize w4.alloc (.cells #[.bool sp, (.slice Ap kp cp), .bool tp, (.slice Cp lp dp)] 26) = W2 at *
  refine (Whole_no (Qd.below V_x.out (by exact ⟨rfl, rfl, rfl, Nat.le_refl _, fun _ _ => rfl⟩)) (by omega) HW.out).mono ?_
  rintro e w5 ⟨vh, rfl, rh, bb⟩
  replace bb := nextw (w0 := W2) (by exact ⟨rfl, rfl, rfl, Nat.le_refl _, fun _ _ => rfl⟩) bb
  replace B_x := Lib.hid (Box4.below B_x.out bb B_x.out.lt)
  replace B_y := Lib.hid (Box4.below B_y.out bb B_y.out.lt)
  replace B_q := Lib.hid (Box4.below B_q.out bb B_q.out.lt)
  replace B_p := Lib.hid (Box4.below B_p.out bb B_p.out.lt)
  replace V_x := Lib.hid (Qd.below V_x.out bb)
  replace V_y := Lib.hid (Qd.below V_y.out bb)
  replace V_q := Lib.hid (Qc.below V_q.out bb)
  replace V_p := Lib.hid (Qc.below V_p.out bb)
  replace HB := Lib.hid (nextw HB.out bb)
  clear bb
  obtain ⟨sh, Ah, kh, ch, rfl⟩ := rh.shape
  have V_h := Lib.hid rh
  clear rh
  have hb0 : Below w5.heap.size w5 (w5.alloc (.cells #[.bool sh, (.slice Ah kh ch)] 24)) := (Below.alloc (Below.refl w5.heap.size w5) (by simp <;> omega) _)
  have B_h : Box (w5.alloc (.cells #[.bool sh, (.slice Ah kh ch)] 24)) (w5.heap.size) sh (.slice Ah kh ch) := by have h := Box.new w5 sh (.slice Ah kh ch); simpa using h
  replace B_h := Lib.hid B_h
  replace B_x := Lib.hid (Box4.below B_x.out hb0 B_x.out.lt)
  replace B_y := Lib.hid (Box4.below B_y.out hb0 B_y.out.lt)
  replace B_q := Lib.hid (Box4.below B_q.out hb0 B_q.out.lt)
  replace B_p := Lib.hid (Box4.below B_p.out hb0 B_p.out.lt)
  replace V_x := Lib.hid (Qd.below V_x.out hb0)
  replace V_y := Lib.hid (Qd.below V_y.out hb0)
  replace V_q := Lib.hid (Qc.below V_q.out hb0)
  replace V_p := Lib.hid (Qc.below V_p.out hb0)
  replace V_h := Lib.hid (Rc.below V_h.out hb0)
  replace HB := Lib.hid (nextw HB.out hb0)
  clear hb0
  have c0x := B_x.out.c0
  have c1x := B_x.out.c1
  have c2x := B_x.out.c2
  have c3x := B_x.out.c3
  have c0y := B_y.out.c0
  have c1y := B_y.out.c1
  have c2y := B_y.out.c2
  have c3y := B_y.out.c3
  have c0q := B_q.out.c0
  have c1q := B_q.out.c1
  have c2q := B_q.out.c2
  have c3q := B_q.out.c3
  have c0p := B_p.out.c0
  have c1p := B_p.out.c1
  have c2p := B_p.out.c2
  have c3p := B_p.out.c3
  have c0h := B_h.out.c0
  have c1h := B_h.out.c1
  go_wp2_with fail
  clear c0x c1x c2x c3x c0y c1y c2y c3y c0q c1q c2q c3q c0p c1p c2p c3p c0h c1h
  generalize w5.alloc (.cells #[.bool sh, (.slice Ah kh ch)] 24) = W3 at *
  refine (RWhole_no (Qd.below V_x.out (by exact ⟨rfl, rfl, rfl, Nat.le_refl _, fun _ _ => rfl⟩)) (by omega) HW.out).mono ?_
  rintro e w6 ⟨vg, rfl, rg, bb⟩
  replace bb := nextw (w0 := W3) (by exact ⟨rfl, rfl, rfl, Nat.le_refl _, fun _ _ => rfl⟩) bb
  replace B_x := Lib.hid (Box4.below B_x.out bb B_x.out.lt)
  replace B_y := Lib.hid (Box4.below B_y.out bb B_y.out.lt)
  replace B_q := Lib.hid (Box4.below B_q.out bb B_q.out.lt)
  replace B_p := Lib.hid (Box4.below B_p.out bb B_p.out.lt)
  replace B_h := Lib.hid (Box.below B_h.out bb B_h.out.lt)
  replace V_x := Lib.hid (Qd.below V_x.out bb)
  replace V_y := Lib.hid (Qd.below V_y.out bb)
  replace V_q := Lib.hid (Qc.below V_q.out bb)
  replace V_p := Lib.hid (Qc.below V_p.out bb)
  replace V_h := Lib.hid (Rc.below V_h.out bb)
  replace HB := Lib.hid (nextw HB.out bb)
  clear bb
  obtain ⟨sg, Ag, kg, cg, rfl⟩ := rg.shape
  have V_g := Lib.hid rg
  clear rg
  have hb0 : Below w6.heap.size w6 (w6.alloc (.cells #[.bool sg, (.slice Ag kg cg)] 24)) := (Below.alloc (Below.refl w6.heap.size w6) (by simp <;> omega) _)
  have B_g : Box (w6.alloc (.cells #[.bool sg, (.slice Ag kg cg)] 24)) (w6.heap.size) sg (.slice Ag kg cg) := by have h := Box.new w6 sg (.slice Ag kg cg); simpa using h
  replace B_g := Lib.hid B_g
  replace B_x := Lib.hid (Box4.below B_x.out hb0 B_x.out.lt)
  replace B_y := Lib.hid (Box4.below B_y.out hb0 B_y.out.lt)
  replace B_q := Lib.hid (Box4.below B_q.out hb0 B_q.out.lt)
  replace B_p := Lib.hid (Box4.below B_p.out hb0 B_p.out.lt)
  replace B_h := Lib.hid (Box.below B_h.out hb0 B_h.out.lt)
  replace V_x := Lib.hid (Qd.below V_x.out hb0)
  replace V_y := Lib.hid (Qd.below V_y.out hb0)
  replace V_q := Lib.hid (Qc.below V_q.out hb0)
  replace V_p := Lib.hid (Qc.below V_p.out hb0)
  replace V_h := Lib.hid (Rc.below V_h.out hb0)
  replace V_g := Lib.hid (Rc.below V_g.out hb0)
  replace HB := Lib.hid (nextw HB.out hb0)
  clear hb0
  have c0x := B_x.out.c0
  have c1x := B_x.out.c1
  have c2x := B_x.out.c2
  have c3x := B_x.out.c3
  have c0y := B_y.out.c0
  have c1y := B_y.out.c1
  have c2y := B_y.out.c2
  have c3y := B_y.out.c3
  have c0q := B_q.out.c0
  have c1q := B_q.out.c1
  have c2q := B_q.out.c2
  have c3q := B_q.out.c3
  have c0p := B_p.out.c0
  have c1p := B_p.out.c1
  have c2p := B_p.out.c2
  have c3p := B_p.out.c3
  have c0h := B_h.out.c0
  have c1h := B_h.out.c1
  have c0g := B_g.out.c0
  have c1g := B_g.out.c1
  go_wp2
  clear c0x c1x c2x c3x c0y c1y c2y c3y c0q c1q c2q c3q c0p c1p c2p c3p c0h c1h c0g c1g
  generalize w6.alloc (.cells #[.bool sg, (.slice Ag kg cg)] 24) = W4 at *
  have c0x := B_x.out.c0
  have c1x := B_x.out.c1
  have c2x := B_x.out.c2
  have c3x := B_x.out.c3
  have c0y := B_y.out.c0
  have c1y := B_y.out.c1
  have c2y := B_y.out.c2
  have c3y := B_y.out.c3
  have c0q := B_q.out.c0
  have c1q := B_q.out.c1
  have c2q := B_q.out.c2
  have c3q := B_q.out.c3
  have c0p := B_p.out.c0
  have c1p := B_p.out.c1
  have c2p := B_p.out.c2
  have c3p := B_p.out.c3
  have c0h := B_h.out.c0
  have c1h := B_h.out.c1
  have c0g := B_g.out.c0
  have c1g := B_g.out.c1
  have tk0 : True := trivial
  first | (go_region_held3 (fun w' => w'.cell? ⟨w.heap.size, 0, none⟩ = some (.bool sx) ∧ w'.cell? ⟨w.heap.size, 1, none⟩ = some (.slice Ax kx cx) ∧ w'.cell? ⟨w.heap.size, 2, none⟩ = some (.bool tx) ∧ w'.cell? ⟨w.heap.size, 3, none⟩ = some (.slice Cx lx dx) ∧ w'.cell? ⟨w.heap.size + 1, 0, none⟩ = some (.bool sy) ∧ w'.cell? ⟨w.heap.size + 1, 1, none⟩ = some (.slice Ay ky cy) ∧ w'.cell? ⟨w.heap.size + 1, 2, none⟩ = some (.bool ty) ∧ w'.cell? ⟨w.heap.size + 1, 3, none⟩ = some (.slice Cy ly dy) ∧ w'.cell? ⟨w3.heap.size, 0, none⟩ = some (.bool sq) ∧ w'.cell? ⟨w3.heap.size, 1, none⟩ = some (.slice Aq kq cq) ∧ w'.cell? ⟨w3.heap.size, 2, none⟩ = some (.bool tq) ∧ w'.cell? ⟨w3.heap.size, 3, none⟩ = some (.slice Cq lq dq) ∧ w'.cell? ⟨w4.heap.size, 0, none⟩ = some (.bool sp) ∧ w'.cell? ⟨w4.heap.size, 1, none⟩ = some (.slice Ap kp cp) ∧ w'.cell? ⟨w4.heap.size, 2, none⟩ = some (.bool tp) ∧ w'.cell? ⟨w4.heap.size, 3, none⟩ = some (.slice Cp lp dp) ∧ w'.cell? ⟨w5.heap.size, 0, none⟩ = some (.bool sh) ∧ w'.cell? ⟨w5.heap.size, 1, none⟩ = some (.slice Ah kh ch) ∧ w'.cell? ⟨w6.heap.size, 0, none⟩ = some (.bool sg) ∧ w'.cell? ⟨w6.heap.size, 1, none⟩ = some (.slice Ag kg cg)) (((try dsimp only); (repeat' apply And.intro) <;> (first | (with_reducible assumption) | ((repeat (first | (with_reducible refine Eq.trans (cell_drew1 _ _) ?_) | (with_reducible refine Eq.trans (cell_set4 (by omega) _ _ _ _) ?_))); with_reducible assumption) | assumption | go_keep)))
    (first
      | (have _t := tk0; clear _t tk0; go_at_call 13; refine (BRat_q (Qc.below V_q.out (by exact ⟨rfl, rfl, rfl, Nat.le_refl _, fun _ _ => rfl⟩)) (Qc.below V_p.out (by exact ⟨rfl, rfl, rfl, Nat.le_refl _, fun _ _ => rfl⟩)) (by omega) (by omega) (rfl)).mono ?_; rintro e w7 ⟨rfl, bb⟩; replace bb := nextw (w0 := W4) (by exact ⟨rfl, rfl, rfl, Nat.le_refl _, fun _ _ => rfl⟩) bb; clear V_q V_p; replace B_x := Lib.hid (Box4.below B_x.out bb B_x.out.lt); replace B_y := Lib.hid (Box4.below B_y.out bb B_y.out.lt); replace B_q := Lib.hid (Box4.below B_q.out bb B_q.out.lt); replace B_p := Lib.hid (Box4.below B_p.out bb B_p.out.lt); replace B_h := Lib.hid (Box.below B_h.out bb B_h.out.lt); replace B_g := Lib.hid (Box.below B_g.out bb B_g.out.lt); replace V_x := Lib.hid (Qd.below V_x.out bb); replace V_y := Lib.hid (Qd.below V_y.out bb); replace V_h := Lib.hid (Rc.below V_h.out bb); replace V_g := Lib.hid (Rc.below V_g.out bb); replace HB := Lib.hid (nextw HB.out bb); clear bb; have c0x := B_x.out.c0; have c1x := B_x.out.c1; have c2x := B_x.out.c2; have c3x := B_x.out.c3; have c0y := B_y.out.c0; have c1y := B_y.out.c1; have c2y := B_y.out.c2; have c3y := B_y.out.c3; have c0q := B_q.out.c0; have c1q := B_q.out.c1; have c2q := B_q.out.c2; have c3q := B_q.out.c3; have c0p := B_p.out.c0; have c1p := B_p.out.c1; have c2p := B_p.out.c2; have c3p := B_p.out.c3; have c0h := B_h.out.c0; have c1h := B_h.out.c1; have c0g := B_g.out.c0; have c1g := B_g.out.c1; have tk1 : True := trivial)
      | (have _t := tk1; clear _t tk1; go_at_call 33; refine (Cmp_q (Qd.below V_x.out (by exact ⟨rfl, rfl, rfl, Nat.le_refl _, fun _ _ => rfl⟩)) (Qd.below V_y.out (by exact ⟨rfl, rfl, rfl, Nat.le_refl _, fun _ _ => rfl⟩)) (by omega) (by omega)).mono ?_; rintro e w8 ⟨rfl, bb⟩; replace bb := nextw (w0 := w7) (by exact ⟨rfl, rfl, rfl, Nat.le_refl _, fun _ _ => rfl⟩) bb; replace B_x := Lib.hid (Box4.below B_x.out bb B_x.out.lt); replace B_y := Lib.hid (Box4.below B_y.out bb B_y.out.lt); replace B_q := Lib.hid (Box4.below B_q.out bb B_q.out.lt); replace B_p := Lib.hid (Box4.below B_p.out bb B_p.out.lt); replace B_h := Lib.hid (Box.below B_h.out bb B_h.out.lt); replace B_g := Lib.hid (Box.below B_g.out bb B_g.out.lt); replace V_x := Lib.hid (Qd.below V_x.out bb); replace V_y := Lib.hid (Qd.below V_y.out bb); replace V_h := Lib.hid (Rc.below V_h.out bb); replace V_g := Lib.hid (Rc.below V_g.out bb); replace HB := Lib.hid (nextw HB.out bb); clear bb; have c0x := B_x.out.c0; have c1x := B_x.out.c1; have c2x := B_x.out.c2; have c3x := B_x.out.c3; have c0y := B_y.out.c0; have c1y := B_y.out.c1; have c2y := B_y.out.c2; have c3y := B_y.out.c3; have c0q := B_q.out.c0; have c1q := B_q.out.c1; have c2q := B_q.out.c2; have c3q := B_q.out.c3; have c0p := B_p.out.c0; have c1p := B_p.out.c1; have c2p := B_p.out.c2; have c3p := B_p.out.c3; have c0h := B_h.out.c0; have c1h := B_h.out.c1; have c0g := B_g.out.c0; have c1g := B_g.out.c1; have tk2 : True := trivial)
      | (have _t := tk2; clear _t tk2; go_at_call 34; refine (RCmpQ_q (Qd.below V_x.out (by exact ⟨rfl, rfl, rfl, Nat.le_refl _, fun _ _ => rfl⟩)) (Qd.below V_y.out (by exact ⟨rfl, rfl, rfl, Nat.le_refl _, fun _ _ => rfl⟩)) (by omega) (by omega)).mono ?_; rintro e w9 ⟨rfl, bb⟩; replace bb := nextw (w0 := w8) (by exact ⟨rfl, rfl, rfl, Nat.le_refl _, fun _ _ => rfl⟩) bb; replace B_x := Lib.hid (Box4.below B_x.out bb B_x.out.lt); replace B_y := Lib.hid (Box4.below B_y.out bb B_y.out.lt); replace B_q := Lib.hid (Box4.below B_q.out bb B_q.out.lt); replace B_p := Lib.hid (Box4.below B_p.out bb B_p.out.lt); replace B_h := Lib.hid (Box.below B_h.out bb B_h.out.lt); replace B_g := Lib.hid (Box.below B_g.out bb B_g.out.lt); replace V_x := Lib.hid (Qd.below V_x.out bb); replace V_y := Lib.hid (Qd.below V_y.out bb); replace V_h := Lib.hid (Rc.below V_h.out bb); replace V_g := Lib.hid (Rc.below V_g.out bb); replace HB := Lib.hid (nextw HB.out bb); clear bb; have c0x := B_x.out.c0; have c1x := B_x.out.c1; have c2x := B_x.out.c2; have c3x := B_x.out.c3; have c0y := B_y.out.c0; have c1y := B_y.out.c1; have c2y := B_y.out.c2; have c3y := B_y.out.c3; have c0q := B_q.out.c0; have c1q := B_q.out.c1; have c2q := B_q.out.c2; have c3q := B_q.out.c3; have c0p := B_p.out.c0; have c1p := B_p.out.c1; have c2p := B_p.out.c2; have c3p := B_p.out.c3; have c0h := B_h.out.c0; have c1h := B_h.out.c1; have c0g := B_g.out.c0; have c1g := B_g.out.c1; have tk3 : True := trivial)
      | (have _t := tk3; clear _t tk3; go_at_call 36; refine (Floor_q (Qd.below V_x.out (by exact ⟨rfl, rfl, rfl, Nat.le_refl _, fun _ _ => rfl⟩)) (by omega)).mono ?_; rintro e w10 ⟨vi1, rfl, ri1, bb⟩; replace bb := nextw (w0 := w9) (by exact ⟨rfl, rfl, rfl, Nat.le_refl _, fun _ _ => rfl⟩) bb; replace B_x := Lib.hid (Box4.below B_x.out bb B_x.out.lt); replace B_y := Lib.hid (Box4.below B_y.out bb B_y.out.lt); replace B_q := Lib.hid (Box4.below B_q.out bb B_q.out.lt); replace B_p := Lib.hid (Box4.below B_p.out bb B_p.out.lt); replace B_h := Lib.hid (Box.below B_h.out bb B_h.out.lt); replace B_g := Lib.hid (Box.below B_g.out bb B_g.out.lt); replace V_x := Lib.hid (Qd.below V_x.out bb); replace V_y := Lib.hid (Qd.below V_y.out bb); replace V_h := Lib.hid (Rc.below V_h.out bb); replace V_g := Lib.hid (Rc.below V_g.out bb); replace HB := Lib.hid (nextw HB.out bb); clear bb; replace ri1 := Lib.hid ri1; have V_i1 := ri1; clear ri1; have c0x := B_x.out.c0; have c1x := B_x.out.c1; have c2x := B_x.out.c2; have c3x := B_x.out.c3; have c0y := B_y.out.c0; have c1y := B_y.out.c1; have c2y := B_y.out.c2; have c3y := B_y.out.c3; have c0q := B_q.out.c0; have c1q := B_q.out.c1; have c2q := B_q.out.c2; have c3q := B_q.out.c3; have c0p := B_p.out.c0; have c1p := B_p.out.c1; have c2p := B_p.out.c2; have c3p := B_p.out.c3; have c0h := B_h.out.c0; have c1h := B_h.out.c1; have c0g := B_g.out.c0; have c1g := B_g.out.c1; have tk4 : True := trivial)
      | (have _t := tk4; clear _t tk4; go_at_call 37; refine (RFloorQ_q (Qd.below V_x.out (by exact ⟨rfl, rfl, rfl, Nat.le_refl _, fun _ _ => rfl⟩)) (by omega)).mono ?_; rintro e w11 ⟨vi2, rfl, ri2, bb⟩; replace bb := nextw (w0 := w10) (by exact ⟨rfl, rfl, rfl, Nat.le_refl _, fun _ _ => rfl⟩) bb; replace B_x := Lib.hid (Box4.below B_x.out bb B_x.out.lt); replace B_y := Lib.hid (Box4.below B_y.out bb B_y.out.lt); replace B_q := Lib.hid (Box4.below B_q.out bb B_q.out.lt); replace B_p := Lib.hid (Box4.below B_p.out bb B_p.out.lt); replace B_h := Lib.hid (Box.below B_h.out bb B_h.out.lt); replace B_g := Lib.hid (Box.below B_g.out bb B_g.out.lt); replace V_x := Lib.hid (Qd.below V_x.out bb); replace V_y := Lib.hid (Qd.below V_y.out bb); replace V_h := Lib.hid (Rc.below V_h.out bb); replace V_g := Lib.hid (Rc.below V_g.out bb); replace V_i1 := Lib.hid (Rc.below V_i1.out bb); replace HB := Lib.hid (nextw HB.out bb); clear bb; replace ri2 := Lib.hid ri2; have V_i2 := ri2; clear ri2; have c0x := B_x.out.c0; have c1x := B_x.out.c1; have c2x := B_x.out.c2; have c3x := B_x.out.c3; have c0y := B_y.out.c0; have c1y := B_y.out.c1; have c2y := B_y.out.c2; have c3y := B_y.out.c3; have c0q := B_q.out.c0; have c1q := B_q.out.c1; have c2q := B_q.out.c2; have c3q := B_q.out.c3; have c0p := B_p.out.c0; have c1p := B_p.out.c1; have c2p := B_p.out.c2; have c3p := B_p.out.c3; have c0h := B_h.out.c0; have c1h := B_h.out.c1; have c0g := B_g.out.c0; have c1g := B_g.out.c1; have tk5 : True := trivial)
      | (have _t := tk5; clear _t tk5; go_at_call 35; refine (BInt_rc (Rc.below V_i1.out (by exact ⟨rfl, rfl, rfl, Nat.le_refl _, fun _ _ => rfl⟩)) (Rc.below V_i2.out (by exact ⟨rfl, rfl, rfl, Nat.le_refl _, fun _ _ => rfl⟩)) (by omega) (by omega) (rfl)).mono ?_; rintro e w12 ⟨rfl, bb⟩; replace bb := nextw (w0 := w11) (by exact ⟨rfl, rfl, rfl, Nat.le_refl _, fun _ _ => rfl⟩) bb; clear V_i1 V_i2; replace B_x := Lib.hid (Box4.below B_x.out bb B_x.out.lt); replace B_y := Lib.hid (Box4.below B_y.out bb B_y.out.lt); replace B_q := Lib.hid (Box4.below B_q.out bb B_q.out.lt); replace B_p := Lib.hid (Box4.below B_p.out bb B_p.out.lt); replace B_h := Lib.hid (Box.below B_h.out bb B_h.out.lt); replace B_g := Lib.hid (Box.below B_g.out bb B_g.out.lt); replace V_x := Lib.hid (Qd.below V_x.out bb); replace V_y := Lib.hid (Qd.below V_y.out bb); replace V_h := Lib.hid (Rc.below V_h.out bb); replace V_g := Lib.hid (Rc.below V_g.out bb); replace HB := Lib.hid (nextw HB.out bb); clear bb; have c0x := B_x.out.c0; have c1x := B_x.out.c1; have c2x := B_x.out.c2; have c3x := B_x.out.c3; have c0y := B_y.out.c0; have c1y := B_y.out.c1; have c2y := B_y.out.c2; have c3y := B_y.out.c3; have c0q := B_q.out.c0; have c1q := B_q.out.c1; have c2q := B_q.out.c2; have c3q := B_q.out.c3; have c0p := B_p.out.c0; have c1p := B_p.out.c1; have c2p := B_p.out.c2; have c3p := B_p.out.c3; have c0h := B_h.out.c0; have c1h := B_h.out.c1; have c0g := B_g.out.c0; have c1g := B_g.out.c1; have tk6 : True := trivial)
      | (have _t := tk6; clear _t tk6; go_at_call 35; refine (BInt_rc (Rc.below V_h.out (by exact ⟨rfl, rfl, rfl, Nat.le_refl _, fun _ _ => rfl⟩)) (Rc.below V_g.out (by exact ⟨rfl, rfl, rfl, Nat.le_refl _, fun _ _ => rfl⟩)) (by omega) (by omega) (rfl)).mono ?_; rintro e w13 ⟨rfl, bb⟩; replace bb := nextw (w0 := w12) (by exact ⟨rfl, rfl, rfl, Nat.le_refl _, fun _ _ => rfl⟩) bb; clear V_h V_g; replace B_x := Lib.hid (Box4.below B_x.out bb B_x.out.lt); replace B_y := Lib.hid (Box4.below B_y.out bb B_y.out.lt); replace B_q := Lib.hid (Box4.below B_q.out bb B_q.out.lt); replace B_p := Lib.hid (Box4.below B_p.out bb B_p.out.lt); replace B_h := Lib.hid (Box.below B_h.out bb B_h.out.lt); replace B_g := Lib.hid (Box.below B_g.out bb B_g.out.lt); replace V_x := Lib.hid (Qd.below V_x.out bb); replace V_y := Lib.hid (Qd.below V_y.out bb); replace HB := Lib.hid (nextw HB.out bb); clear bb; have c0x := B_x.out.c0; have c1x := B_x.out.c1; have c2x := B_x.out.c2; have c3x := B_x.out.c3; have c0y := B_y.out.c0; have c1y := B_y.out.c1; have c2y := B_y.out.c2; have c3y := B_y.out.c3; have c0q := B_q.out.c0; have c1q := B_q.out.c1; have c2q := B_q.out.c2; have c3q := B_q.out.c3; have c0p := B_p.out.c0; have c1p := B_p.out.c1; have c2p := B_p.out.c2; have c3p := B_p.out.c3; have c0h := B_h.out.c0; have c1h := B_h.out.c1; have c0g := B_g.out.c0; have c1g := B_g.out.c1; have tk7 : True := trivial))) | fail
  have HBo := HB.out
  go_wp2
  go_ret
  exact ⟨rfl, nextw HBo (by exact ⟨rfl, rfl, rfl, Nat.le_refl _, fun _ _ => rfl⟩)⟩

theorem Quotients_any {sx : Bool} {Ax : Option Addr} {kx cx : Nat} {tx : Bool} {Cx : Option Addr} {lx dx : Nat} {rx : Rat} {qx : Nat} {sy : Bool} {Ay : Option Addr} {ky cy : Nat} {ty : Bool} {Cy : Option Addr} {ly dy : Nat} {ry : Rat} {qy : Nat} {w : World} (hx : Qd w (.agg #[.bool sx, .slice Ax kx cx, .bool tx, .slice Cx lx dx]) rx qx) (hy : Qd w (.agg #[.bool sy, .slice Ay ky cy, .bool ty, .slice Cy ly dy]) ry qy) (htab : Tab10 w) (hqx : qx = max kx lx) (hqy : qy = max ky ly)
    (hm : ∀ p ∈ [(kx, lx), (ky, ly)], p.1 ≤ 9223372036854775807 ∧ p.2 ≤ 9223372036854775807) :
    Calls Tryz.prog 5 #[.agg #[.bool sx, .slice Ax kx cx, .bool tx, .slice Cx lx dx], .agg #[.bool sy, .slice Ay ky cy, .bool ty, .slice Cy ly dy]] w fun e w' => e = .returned (.bool true) ∧ Below w.heap.size w w' := by
  by_cases hf : fewSum [(kx, lx), (ky, ly)] ≤ 60
  · have hs := fewSum_small hf
    have s0 := hs (kx, lx) (by simp)
    have s1 := hs (ky, ly) (by simp)
    simp only at s0 s1
    by_cases h1 : rx.den = 1 <;> by_cases h2 : ry = 0
    · exact Quotients_zw hx hy htab (by omega) (by omega) hf h1 h2
    · exact Quotients_nw hx hy htab (by omega) (by omega) hf h1 h2
    · exact Quotients_zf hx hy htab (by omega) (by omega) hf h1 h2
    · exact Quotients_nf hx hy htab (by omega) (by omega) hf h1 h2
  · exact Quotients_long hx hy htab hm hf
end Go.Proofs.YtldfamjlnphokaaGreatDoor
