/- Two numbers of the same words are the same fields. -/
import Derived.Test.YtldfamjlnphokaaGreatDoorQ5

set_option linter.unusedVariables false
set_option linter.unusedSimpArgs false

namespace Go.Proofs.YtldfamjlnphokaaGreatDoor
open Go Go.RowKit Num

theorem BInt_true {s : Bool} {m1 m2 : Value} {l : List Nat} {w : World} (h1 : U32 w m1 l) (h2 : U32 w m2 l) (f : l.length ≤ 50000) :
    Calls Tryz.prog 35 #[.agg #[.bool s, m1], .agg #[.bool s, m2]] w fun e w' => e = .returned (.bool true) ∧ Below w.heap.size w w' :=
  (BInt_any s s m1 m2 l l w h1 h2 (by omega) (by omega)).mono fun e w' ⟨he, hb⟩ => ⟨by rw [he]; simp, hb⟩
set_option maxRecDepth 100000 in
set_option maxHeartbeats 4000000 in
theorem BRat_u {s t : Bool} {A1 C1 A2 C2 : Option Addr} {n1 c1 j1 d1 n2 c2 j2 d2 : Nat} {l r : List Nat} {w : World} (h1 : U32 w (.slice A1 n1 c1) l) (h2 : U32 w (.slice C1 j1 d1) r) (g1 : U32 w (.slice A2 n2 c2) l) (g2 : U32 w (.slice C2 j2 d2) r) (f1 : l.length ≤ 50000) (f2 : r.length ≤ 50000) :
    Calls Tryz.prog 13 #[.agg #[.bool s, .slice A1 n1 c1, .bool t, .slice C1 j1 d1], .agg #[.bool s, .slice A2 n2 c2, .bool t, .slice C2 j2 d2]] w fun e w' => e = .returned (.bool true) ∧ Below w.heap.size w w' := by
  have V_a := Lib.hid h1
  have V_b := Lib.hid h2
  have V_c := Lib.hid g1
  have V_d := Lib.hid g2
  clear h1 h2 g1 g2
  have hb0 : Below w.heap.size w ((w.alloc (.cells #[.bool s, (.slice A1 n1 c1), .bool t, (.slice C1 j1 d1)] 26)).alloc (.cells #[.bool s, (.slice A2 n2 c2), .bool t, (.slice C2 j2 d2)] 26)) := (Below.alloc (Below.alloc (Below.refl w.heap.size w) (by simp <;> omega) _) (by simp <;> omega) _)
  have B_x : Box4 ((w.alloc (.cells #[.bool s, (.slice A1 n1 c1), .bool t, (.slice C1 j1 d1)] 26)).alloc (.cells #[.bool s, (.slice A2 n2 c2), .bool t, (.slice C2 j2 d2)] 26)) (w.heap.size) s (.slice A1 n1 c1) t (.slice C1 j1 d1) := by have h := Box4.alloc (Box4.new w s (.slice A1 n1 c1) t (.slice C1 j1 d1)) (.cells #[.bool s, (.slice A2 n2 c2), .bool t, (.slice C2 j2 d2)] 26); simpa using h
  replace B_x := Lib.hid B_x
  have B_y : Box4 ((w.alloc (.cells #[.bool s, (.slice A1 n1 c1), .bool t, (.slice C1 j1 d1)] 26)).alloc (.cells #[.bool s, (.slice A2 n2 c2), .bool t, (.slice C2 j2 d2)] 26)) (w.heap.size + 1) s (.slice A2 n2 c2) t (.slice C2 j2 d2) := by have h := Box4.new (w.alloc (.cells #[.bool s, (.slice A1 n1 c1), .bool t, (.slice C1 j1 d1)] 26)) s (.slice A2 n2 c2) t (.slice C2 j2 d2); simpa using h
  replace B_y := Lib.hid B_y
  replace V_a := Lib.hid (U32.below V_a.out hb0)
  replace V_b := Lib.hid (U32.below V_b.out hb0)
  replace V_c := Lib.hid (U32.below V_c.out hb0)
  replace V_d := Lib.hid (U32.below V_d.out hb0)
  have HB := Lib.hid hb0
  clear hb0
  have c0x := B_x.out.c0
  have c1x := B_x.out.c1
  have c2x := B_x.out.c2
  have c3x := B_x.out.c3
  have c0y := B_y.out.c0
  have c1y := B_y.out.c1
  have c2y := B_y.out.c2
  have c3y := B_y.out.c3
  go_enter Tryz.func13, Tryz.ntmps13
  go_wp2_with fail
  clear c0x c1x c2x c3x c0y c1y c2y c3y
  generalize (w.alloc (.cells #[.bool s, (.slice A1 n1 c1), .bool t, (.slice C1 j1 d1)] 26)).alloc (.cells #[.bool s, (.slice A2 n2 c2), .bool t, (.slice C2 j2 d2)] 26) = W0 at *
  refine (BInt_true (U32.below V_a.out (by exact ⟨rfl, rfl, rfl, Nat.le_refl _, fun _ _ => rfl⟩)) (U32.below V_c.out (by exact ⟨rfl, rfl, rfl, Nat.le_refl _, fun _ _ => rfl⟩)) (by omega)).mono ?_
  rintro e w1 ⟨rfl, bb⟩
  replace bb := nextw (w0 := W0) (by exact ⟨rfl, rfl, rfl, Nat.le_refl _, fun _ _ => rfl⟩) bb
  replace B_x := Lib.hid (Box4.below B_x.out bb B_x.out.lt)
  replace B_y := Lib.hid (Box4.below B_y.out bb B_y.out.lt)
  replace V_a := Lib.hid (U32.below V_a.out bb)
  replace V_b := Lib.hid (U32.below V_b.out bb)
  replace V_c := Lib.hid (U32.below V_c.out bb)
  replace V_d := Lib.hid (U32.below V_d.out bb)
  replace HB := Lib.hid (nextw HB.out bb)
  clear bb
  have c0x := B_x.out.c0
  have c1x := B_x.out.c1
  have c2x := B_x.out.c2
  have c3x := B_x.out.c3
  have c0y := B_y.out.c0
  have c1y := B_y.out.c1
  have c2y := B_y.out.c2
  have c3y := B_y.out.c3
  go_wp2_with fail
  refine (BInt_true (U32.below V_b.out (by exact ⟨rfl, rfl, rfl, Nat.le_refl _, fun _ _ => rfl⟩)) (U32.below V_d.out (by exact ⟨rfl, rfl, rfl, Nat.le_refl _, fun _ _ => rfl⟩)) (by omega)).mono ?_
  rintro e w2 ⟨rfl, bb⟩
  replace bb := nextw (w0 := w1) (by exact ⟨rfl, rfl, rfl, Nat.le_refl _, fun _ _ => rfl⟩) bb
  clear c0x c1x c2x c3x c0y c1y c2y c3y
  replace B_x := Lib.hid (Box4.below B_x.out bb B_x.out.lt)
  replace B_y := Lib.hid (Box4.below B_y.out bb B_y.out.lt)
  replace V_a := Lib.hid (U32.below V_a.out bb)
  replace V_b := Lib.hid (U32.below V_b.out bb)
  replace V_c := Lib.hid (U32.below V_c.out bb)
  replace V_d := Lib.hid (U32.below V_d.out bb)
  replace HB := Lib.hid (nextw HB.out bb)
  clear bb
  have HBo := HB.out
  go_wp2
  go_ret
  exact ⟨rfl, nextw HBo (by exact ⟨rfl, rfl, rfl, Nat.le_refl _, fun _ _ => rfl⟩)⟩
end Go.Proofs.YtldfamjlnphokaaGreatDoor
