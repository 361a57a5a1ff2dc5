/- The law IntegerGcds: the walk. -/
import Derived.Test.YthfkahccnpkgjaaDoorLarges
import Derived.Test.YthfkahccnpkgjaaDoorRGcd

set_option linter.unusedVariables false
set_option linter.unusedSimpArgs false

namespace Go.Proofs.YthfkahccnpkgjaaDoor
open Go Go.RowKit Num

theorem gcd_quot {a b : Int} {G : Nat} (hG : Nat.gcd a.natAbs b.natAbs = G) (h0 : 0 < G) : a % (G : Int) = 0 ∧ b % (G : Int) = 0 ∧ Nat.gcd (a / (G : Int)).natAbs (b / (G : Int)).natAbs = 1 := by
  have d1 : (G : Int) ∣ a := Int.ofNat_dvd_left.2 (hG ▸ Nat.gcd_dvd_left _ _)
  have d2 : (G : Int) ∣ b := Int.ofNat_dvd_left.2 (hG ▸ Nat.gcd_dvd_right _ _)
  refine ⟨Int.emod_eq_zero_of_dvd d1, Int.emod_eq_zero_of_dvd d2, ?_⟩
  have e1 := Int.mul_ediv_cancel' d1
  have e2 := Int.mul_ediv_cancel' d2
  have n1 : a.natAbs = G * (a / (G : Int)).natAbs := by
    conv => lhs; rw [← e1, Int.natAbs_mul, Int.natAbs_natCast]
  have n2 : b.natAbs = G * (b / (G : Int)).natAbs := by
    conv => lhs; rw [← e2, Int.natAbs_mul, Int.natAbs_natCast]
  rw [n1, n2, Nat.gcd_mul_left] at hG
  exact Nat.eq_of_mul_eq_mul_left h0 (by omega)
theorem gcd_pos' {a b : Int} (h : ¬ (a = 0 ∧ b = 0)) : 0 < Nat.gcd a.natAbs b.natAbs := by
  rcases Nat.eq_zero_or_pos (Nat.gcd a.natAbs b.natAbs) with h1 | h1
  · rw [Nat.gcd_eq_zero_iff] at h1; omega
  · exact h1
theorem Sign_rd_ne' {v1 : Value} {z1 : Int} {n1 : Nat} {w : World} (h1 : Rd w v1 z1 n1) (h : z1 ≠ 0) :
    Calls Tryd.prog 15 #[v1] w fun e w' => ∃ c : Int, (c == 0) = false ∧ e = .returned (.int .i64 c) ∧ Below w.heap.size w w' :=
  (Sign_rd h1).mono fun e w' ⟨he, hb⟩ => ⟨_, beq_eq_false_iff_ne.2 (by unfold sgn; repeat' split <;> omega), he, hb⟩

set_option maxRecDepth 100000 in
set_option maxHeartbeats 8000000 in
theorem Gcds_long0 {sx : Bool} {Ax : Option Addr} {kx cx : Nat} {zx : Int} {sy : Bool} {Ay : Option Addr} {ky cy : Nat} {zy : Int} {w : World} (hx : Rd w (.agg #[.bool sx, .slice Ax kx cx]) zx kx) (hy : Rd w (.agg #[.bool sy, .slice Ay ky cy]) zy ky) (htab : Tab10 w) (hkx : 6 < kx) :
    Calls Tryd.prog 7 #[.agg #[.bool sx, .slice Ax kx cx], .agg #[.bool sy, .slice Ay ky cy]] w fun e w' => e = .returned (.bool true) ∧ Below w.heap.size w w' := by
  have V_x := Lib.hid hx
  have V_y := Lib.hid hy
  have V_tab := Lib.hid htab
  clear hx hy htab
  have hb0 : Below w.heap.size w ((w.alloc (.cells #[.bool sx, (.slice Ax kx cx)] 24)).alloc (.cells #[.bool sy, (.slice Ay ky cy)] 24)) := (Below.alloc (Below.alloc (Below.refl w.heap.size w) (by simp <;> omega) _) (by simp <;> omega) _)
  have B_x : Box ((w.alloc (.cells #[.bool sx, (.slice Ax kx cx)] 24)).alloc (.cells #[.bool sy, (.slice Ay ky cy)] 24)) (w.heap.size) sx (.slice Ax kx cx) := by have h := Box.alloc (Box.new w sx (.slice Ax kx cx)) (.cells #[.bool sy, (.slice Ay ky cy)] 24); simpa using h
  replace B_x := Lib.hid B_x
  have B_y : Box ((w.alloc (.cells #[.bool sx, (.slice Ax kx cx)] 24)).alloc (.cells #[.bool sy, (.slice Ay ky cy)] 24)) (w.heap.size + 1) sy (.slice Ay ky cy) := by have h := Box.new (w.alloc (.cells #[.bool sx, (.slice Ax kx cx)] 24)) sy (.slice Ay ky cy); simpa using h
  replace B_y := Lib.hid B_y
  replace V_x := Lib.hid (Rd.below V_x.out hb0)
  replace V_y := Lib.hid (Rd.below V_y.out hb0)
  replace V_tab := Lib.hid (tab_below V_tab.out hb0)
  have HB := Lib.hid hb0
  clear hb0
  have c0x := B_x.out.c0
  have c1x := B_x.out.c1
  have c0y := B_y.out.c0
  have c1y := B_y.out.c1
  go_enter Tryd.func7, Tryd.ntmps7
  go_wp2_with fail
  clear c0x c1x c0y c1y
  generalize ((w.alloc (.cells #[.bool sx, (.slice Ax kx cx)] 24)).alloc (.cells #[.bool sy, (.slice Ay ky cy)] 24)) = W0 at *
  refine (awake_any _ (tab_below V_tab.out (by exact ⟨rfl, rfl, rfl, Nat.le_refl _, fun _ _ => rfl⟩))).mono ?_
  rintro e w1 ⟨rfl, bb⟩
  replace bb := nextw (w0 := W0) (by exact ⟨rfl, rfl, rfl, Nat.le_refl _, fun _ _ => rfl⟩) bb
  replace B_x := Lib.hid (Box.below B_x.out bb B_x.out.lt)
  replace B_y := Lib.hid (Box.below B_y.out bb B_y.out.lt)
  replace V_x := Lib.hid (Rd.below V_x.out bb)
  replace V_y := Lib.hid (Rd.below V_y.out bb)
  replace V_tab := Lib.hid (tab_below V_tab.out bb)
  replace HB := Lib.hid (nextw HB.out bb)
  clear bb
  have c0x := B_x.out.c0
  have c1x := B_x.out.c1
  have c0y := B_y.out.c0
  have c1y := B_y.out.c1
  go_wp2_with fail
  refine (awake_any _ (tab_below V_tab.out (by exact ⟨rfl, rfl, rfl, Nat.le_refl _, fun _ _ => rfl⟩))).mono ?_
  rintro e w2 ⟨rfl, bb⟩
  replace bb := nextw (w0 := w1) (by exact ⟨rfl, rfl, rfl, Nat.le_refl _, fun _ _ => rfl⟩) bb
  clear c0x c1x c0y c1y
  replace B_x := Lib.hid (Box.below B_x.out bb B_x.out.lt)
  replace B_y := Lib.hid (Box.below B_y.out bb B_y.out.lt)
  replace V_x := Lib.hid (Rd.below V_x.out bb)
  replace V_y := Lib.hid (Rd.below V_y.out bb)
  replace V_tab := Lib.hid (tab_below V_tab.out bb)
  replace HB := Lib.hid (nextw HB.out bb)
  clear bb
  have HBo := HB.out
  go_wp2
  go_ret
  exact ⟨rfl, nextw HBo (by exact ⟨rfl, rfl, rfl, Nat.le_refl _, fun _ _ => rfl⟩)⟩

set_option maxRecDepth 100000 in
set_option maxHeartbeats 8000000 in
theorem Gcds_long1 {sx : Bool} {Ax : Option Addr} {kx cx : Nat} {zx : Int} {sy : Bool} {Ay : Option Addr} {ky cy : Nat} {zy : Int} {w : World} (hx : Rd w (.agg #[.bool sx, .slice Ax kx cx]) zx kx) (hy : Rd w (.agg #[.bool sy, .slice Ay ky cy]) zy ky) (htab : Tab10 w) (hkx : ¬ 6 < kx) (hky : 6 < ky) :
    Calls Tryd.prog 7 #[.agg #[.bool sx, .slice Ax kx cx], .agg #[.bool sy, .slice Ay ky cy]] w fun e w' => e = .returned (.bool true) ∧ Below w.heap.size w w' := by
  have V_x := Lib.hid hx
  have V_y := Lib.hid hy
  have V_tab := Lib.hid htab
  clear hx hy htab
  have hb0 : Below w.heap.size w ((w.alloc (.cells #[.bool sx, (.slice Ax kx cx)] 24)).alloc (.cells #[.bool sy, (.slice Ay ky cy)] 24)) := (Below.alloc (Below.alloc (Below.refl w.heap.size w) (by simp <;> omega) _) (by simp <;> omega) _)
  have B_x : Box ((w.alloc (.cells #[.bool sx, (.slice Ax kx cx)] 24)).alloc (.cells #[.bool sy, (.slice Ay ky cy)] 24)) (w.heap.size) sx (.slice Ax kx cx) := by have h := Box.alloc (Box.new w sx (.slice Ax kx cx)) (.cells #[.bool sy, (.slice Ay ky cy)] 24); simpa using h
  replace B_x := Lib.hid B_x
  have B_y : Box ((w.alloc (.cells #[.bool sx, (.slice Ax kx cx)] 24)).alloc (.cells #[.bool sy, (.slice Ay ky cy)] 24)) (w.heap.size + 1) sy (.slice Ay ky cy) := by have h := Box.new (w.alloc (.cells #[.bool sx, (.slice Ax kx cx)] 24)) sy (.slice Ay ky cy); simpa using h
  replace B_y := Lib.hid B_y
  replace V_x := Lib.hid (Rd.below V_x.out hb0)
  replace V_y := Lib.hid (Rd.below V_y.out hb0)
  replace V_tab := Lib.hid (tab_below V_tab.out hb0)
  have HB := Lib.hid hb0
  clear hb0
  have c0x := B_x.out.c0
  have c1x := B_x.out.c1
  have c0y := B_y.out.c0
  have c1y := B_y.out.c1
  go_enter Tryd.func7, Tryd.ntmps7
  go_wp2_with fail
  clear c0x c1x c0y c1y
  generalize ((w.alloc (.cells #[.bool sx, (.slice Ax kx cx)] 24)).alloc (.cells #[.bool sy, (.slice Ay ky cy)] 24)) = W0 at *
  refine (awake_any _ (tab_below V_tab.out (by exact ⟨rfl, rfl, rfl, Nat.le_refl _, fun _ _ => rfl⟩))).mono ?_
  rintro e w1 ⟨rfl, bb⟩
  replace bb := nextw (w0 := W0) (by exact ⟨rfl, rfl, rfl, Nat.le_refl _, fun _ _ => rfl⟩) bb
  replace B_x := Lib.hid (Box.below B_x.out bb B_x.out.lt)
  replace B_y := Lib.hid (Box.below B_y.out bb B_y.out.lt)
  replace V_x := Lib.hid (Rd.below V_x.out bb)
  replace V_y := Lib.hid (Rd.below V_y.out bb)
  replace V_tab := Lib.hid (tab_below V_tab.out bb)
  replace HB := Lib.hid (nextw HB.out bb)
  clear bb
  have c0x := B_x.out.c0
  have c1x := B_x.out.c1
  have c0y := B_y.out.c0
  have c1y := B_y.out.c1
  go_wp2_with fail
  refine (awake_any _ (tab_below V_tab.out (by exact ⟨rfl, rfl, rfl, Nat.le_refl _, fun _ _ => rfl⟩))).mono ?_
  rintro e w2 ⟨rfl, bb⟩
  replace bb := nextw (w0 := w1) (by exact ⟨rfl, rfl, rfl, Nat.le_refl _, fun _ _ => rfl⟩) bb
  clear c0x c1x c0y c1y
  replace B_x := Lib.hid (Box.below B_x.out bb B_x.out.lt)
  replace B_y := Lib.hid (Box.below B_y.out bb B_y.out.lt)
  replace V_x := Lib.hid (Rd.below V_x.out bb)
  replace V_y := Lib.hid (Rd.below V_y.out bb)
  replace V_tab := Lib.hid (tab_below V_tab.out bb)
  replace HB := Lib.hid (nextw HB.out bb)
  clear bb
  have HBo := HB.out
  go_wp2
  go_ret
  exact ⟨rfl, nextw HBo (by exact ⟨rfl, rfl, rfl, Nat.le_refl _, fun _ _ => rfl⟩)⟩

set_option maxRecDepth 100000 in
set_option maxHeartbeats 8000000 in
theorem Gcds_zero {sx : Bool} {Ax : Option Addr} {kx cx : Nat} {sy : Bool} {Ay : Option Addr} {ky cy : Nat} {w : World} (hx : Rd w (.agg #[.bool sx, .slice Ax kx cx]) 0 kx) (hy : Rd w (.agg #[.bool sy, .slice Ay ky cy]) 0 ky) (htab : Tab10 w) (hkx : ¬ 6 < kx) (hky : ¬ 6 < ky) :
    Calls Tryd.prog 7 #[.agg #[.bool sx, .slice Ax kx cx], .agg #[.bool sy, .slice Ay ky cy]] w fun e w' => e = .returned (.bool true) ∧ Below w.heap.size w w' := by
  have V_x := Lib.hid hx
  have V_y := Lib.hid hy
  have V_tab := Lib.hid htab
  clear hx hy htab
  have hb0 : Below w.heap.size w ((w.alloc (.cells #[.bool sx, (.slice Ax kx cx)] 24)).alloc (.cells #[.bool sy, (.slice Ay ky cy)] 24)) := (Below.alloc (Below.alloc (Below.refl w.heap.size w) (by simp <;> omega) _) (by simp <;> omega) _)
  have B_x : Box ((w.alloc (.cells #[.bool sx, (.slice Ax kx cx)] 24)).alloc (.cells #[.bool sy, (.slice Ay ky cy)] 24)) (w.heap.size) sx (.slice Ax kx cx) := by have h := Box.alloc (Box.new w sx (.slice Ax kx cx)) (.cells #[.bool sy, (.slice Ay ky cy)] 24); simpa using h
  replace B_x := Lib.hid B_x
  have B_y : Box ((w.alloc (.cells #[.bool sx, (.slice Ax kx cx)] 24)).alloc (.cells #[.bool sy, (.slice Ay ky cy)] 24)) (w.heap.size + 1) sy (.slice Ay ky cy) := by have h := Box.new (w.alloc (.cells #[.bool sx, (.slice Ax kx cx)] 24)) sy (.slice Ay ky cy); simpa using h
  replace B_y := Lib.hid B_y
  replace V_x := Lib.hid (Rd.below V_x.out hb0)
  replace V_y := Lib.hid (Rd.below V_y.out hb0)
  replace V_tab := Lib.hid (tab_below V_tab.out hb0)
  have HB := Lib.hid hb0
  clear hb0
  have c0x := B_x.out.c0
  have c1x := B_x.out.c1
  have c0y := B_y.out.c0
  have c1y := B_y.out.c1
  go_enter Tryd.func7, Tryd.ntmps7
  go_wp2_with fail
  clear c0x c1x c0y c1y
  generalize ((w.alloc (.cells #[.bool sx, (.slice Ax kx cx)] 24)).alloc (.cells #[.bool sy, (.slice Ay ky cy)] 24)) = W0 at *
  refine (awake_any _ (tab_below V_tab.out (by exact ⟨rfl, rfl, rfl, Nat.le_refl _, fun _ _ => rfl⟩))).mono ?_
  rintro e w1 ⟨rfl, bb⟩
  replace bb := nextw (w0 := W0) (by exact ⟨rfl, rfl, rfl, Nat.le_refl _, fun _ _ => rfl⟩) bb
  replace B_x := Lib.hid (Box.below B_x.out bb B_x.out.lt)
  replace B_y := Lib.hid (Box.below B_y.out bb B_y.out.lt)
  replace V_x := Lib.hid (Rd.below V_x.out bb)
  replace V_y := Lib.hid (Rd.below V_y.out bb)
  replace V_tab := Lib.hid (tab_below V_tab.out bb)
  replace HB := Lib.hid (nextw HB.out bb)
  clear bb
  clear V_tab
  have c0x := B_x.out.c0
  have c1x := B_x.out.c1
  have c0y := B_y.out.c0
  have c1y := B_y.out.c1
  go_wp2_with fail
  refine (Gcd_rd (Rd.below V_x.out (by exact ⟨rfl, rfl, rfl, Nat.le_refl _, fun _ _ => rfl⟩)) (Rd.below V_y.out (by exact ⟨rfl, rfl, rfl, Nat.le_refl _, fun _ _ => rfl⟩)) (by omega) (by omega)).mono ?_
  rintro e w2 ⟨vg, rfl, rg, bb⟩
  replace bb := nextw (w0 := w1) (by exact ⟨rfl, rfl, rfl, Nat.le_refl _, fun _ _ => rfl⟩) bb
  clear c0x c1x c0y c1y
  replace B_x := Lib.hid (Box.below B_x.out bb B_x.out.lt)
  replace B_y := Lib.hid (Box.below B_y.out bb B_y.out.lt)
  replace V_x := Lib.hid (Rd.below V_x.out bb)
  replace V_y := Lib.hid (Rd.below V_y.out bb)
  replace HB := Lib.hid (nextw HB.out bb)
  clear bb
  obtain ⟨sg, Ag, kg, cg, rfl⟩ := rg.shape
  have V_g := Lib.hid rg
  clear rg
  have hb0 : Below w2.heap.size w2 (w2.alloc (.cells #[.bool sg, (.slice Ag kg cg)] 24)) := (Below.alloc (Below.refl w2.heap.size w2) (by simp <;> omega) _)
  have B_g : Box (w2.alloc (.cells #[.bool sg, (.slice Ag kg cg)] 24)) (w2.heap.size) sg (.slice Ag kg cg) := by have h := Box.new w2 sg (.slice Ag kg cg); simpa using h
  replace B_g := Lib.hid B_g
  replace B_x := Lib.hid (Box.below B_x.out hb0 B_x.out.lt)
  replace B_y := Lib.hid (Box.below B_y.out hb0 B_y.out.lt)
  replace V_x := Lib.hid (Rd.below V_x.out hb0)
  replace V_y := Lib.hid (Rd.below V_y.out hb0)
  replace V_g := Lib.hid (Rc.below V_g.out hb0)
  replace HB := Lib.hid (nextw HB.out hb0)
  clear hb0
  have c0x := B_x.out.c0
  have c1x := B_x.out.c1
  have c0y := B_y.out.c0
  have c1y := B_y.out.c1
  have c0g := B_g.out.c0
  have c1g := B_g.out.c1
  go_wp2
  clear c0x c1x c0y c1y c0g c1g
  generalize (w2.alloc (.cells #[.bool sg, (.slice Ag kg cg)] 24)) = W1 at *
  have c0x := B_x.out.c0
  have c1x := B_x.out.c1
  have c0y := B_y.out.c0
  have c1y := B_y.out.c1
  have c0g := B_g.out.c0
  have c1g := B_g.out.c1
  have tk0 : True := trivial
  first | (go_region_held3 (fun w' => w'.cell? ⟨w.heap.size, 0, none⟩ = some (.bool sx) ∧ w'.cell? ⟨w.heap.size, 1, none⟩ = some (.slice Ax kx cx) ∧ w'.cell? ⟨w.heap.size + 1, 0, none⟩ = some (.bool sy) ∧ w'.cell? ⟨w.heap.size + 1, 1, none⟩ = some (.slice Ay ky cy) ∧ w'.cell? ⟨w2.heap.size, 0, none⟩ = some (.bool sg) ∧ w'.cell? ⟨w2.heap.size, 1, none⟩ = some (.slice Ag kg cg)) (((try dsimp only); (repeat' apply And.intro) <;> (first | assumption | go_keep)))
    (first
      | (have _t := tk0; clear _t tk0; go_at_call 29; refine (RGcd_rd (Rd.below V_x.out (by exact ⟨rfl, rfl, rfl, Nat.le_refl _, fun _ _ => rfl⟩)) (Rd.below V_y.out (by exact ⟨rfl, rfl, rfl, Nat.le_refl _, fun _ _ => rfl⟩)) (by omega) (by omega)).mono ?_; rintro e w3 ⟨va1, rfl, ra1, bb⟩; replace bb := nextw (w0 := W1) (by exact ⟨rfl, rfl, rfl, Nat.le_refl _, fun _ _ => rfl⟩) bb; replace B_x := Lib.hid (Box.below B_x.out bb B_x.out.lt); replace B_y := Lib.hid (Box.below B_y.out bb B_y.out.lt); replace B_g := Lib.hid (Box.below B_g.out bb B_g.out.lt); replace V_x := Lib.hid (Rd.below V_x.out bb); replace V_y := Lib.hid (Rd.below V_y.out bb); replace V_g := Lib.hid (Rc.below V_g.out bb); replace HB := Lib.hid (nextw HB.out bb); clear bb; replace ra1 := Lib.hid ra1; have V_a1 := ra1; clear ra1; have c0x := B_x.out.c0; have c1x := B_x.out.c1; have c0y := B_y.out.c0; have c1y := B_y.out.c1; have c0g := B_g.out.c0; have c1g := B_g.out.c1; have tk1 : True := trivial)
      | (have _t := tk1; clear _t tk1; go_at_call 20; refine (Same_rc (Rc.below V_g.out (by exact ⟨rfl, rfl, rfl, Nat.le_refl _, fun _ _ => rfl⟩)) (Rc.below V_a1.out (by exact ⟨rfl, rfl, rfl, Nat.le_refl _, fun _ _ => rfl⟩)) (by omega) (by omega) (rfl)).mono ?_; rintro e w4 ⟨rfl, bb⟩; replace bb := nextw (w0 := w3) (by exact ⟨rfl, rfl, rfl, Nat.le_refl _, fun _ _ => rfl⟩) bb; clear V_a1; replace B_x := Lib.hid (Box.below B_x.out bb B_x.out.lt); replace B_y := Lib.hid (Box.below B_y.out bb B_y.out.lt); replace B_g := Lib.hid (Box.below B_g.out bb B_g.out.lt); replace V_x := Lib.hid (Rd.below V_x.out bb); replace V_y := Lib.hid (Rd.below V_y.out bb); replace V_g := Lib.hid (Rc.below V_g.out bb); replace HB := Lib.hid (nextw HB.out bb); clear bb; have c0x := B_x.out.c0; have c1x := B_x.out.c1; have c0y := B_y.out.c0; have c1y := B_y.out.c1; have c0g := B_g.out.c0; have c1g := B_g.out.c1; have tk2 : True := trivial)
      | (have _t := tk2; clear _t tk2; go_at_call 28; refine (Gcd_rd (Rd.below V_y.out (by exact ⟨rfl, rfl, rfl, Nat.le_refl _, fun _ _ => rfl⟩)) (Rd.below V_x.out (by exact ⟨rfl, rfl, rfl, Nat.le_refl _, fun _ _ => rfl⟩)) (by omega) (by omega)).mono ?_; rintro e w5 ⟨vb1, rfl, rb1, bb⟩; replace bb := nextw (w0 := w4) (by exact ⟨rfl, rfl, rfl, Nat.le_refl _, fun _ _ => rfl⟩) bb; replace B_x := Lib.hid (Box.below B_x.out bb B_x.out.lt); replace B_y := Lib.hid (Box.below B_y.out bb B_y.out.lt); replace B_g := Lib.hid (Box.below B_g.out bb B_g.out.lt); replace V_x := Lib.hid (Rd.below V_x.out bb); replace V_y := Lib.hid (Rd.below V_y.out bb); replace V_g := Lib.hid (Rc.below V_g.out bb); replace HB := Lib.hid (nextw HB.out bb); clear bb; replace rb1 := Lib.hid rb1; have V_b1 := rb1; clear rb1; have c0x := B_x.out.c0; have c1x := B_x.out.c1; have c0y := B_y.out.c0; have c1y := B_y.out.c1; have c0g := B_g.out.c0; have c1g := B_g.out.c1; have tk3 : True := trivial)
      | (have _t := tk3; clear _t tk3; go_at_call 20; refine (Same_rc (Rc.below V_g.out (by exact ⟨rfl, rfl, rfl, Nat.le_refl _, fun _ _ => rfl⟩)) (Rc.below V_b1.out (by exact ⟨rfl, rfl, rfl, Nat.le_refl _, fun _ _ => rfl⟩)) (by omega) (by omega) (by rw [Nat.gcd_comm])).mono ?_; rintro e w6 ⟨rfl, bb⟩; replace bb := nextw (w0 := w5) (by exact ⟨rfl, rfl, rfl, Nat.le_refl _, fun _ _ => rfl⟩) bb; clear V_b1; replace B_x := Lib.hid (Box.below B_x.out bb B_x.out.lt); replace B_y := Lib.hid (Box.below B_y.out bb B_y.out.lt); replace B_g := Lib.hid (Box.below B_g.out bb B_g.out.lt); replace V_x := Lib.hid (Rd.below V_x.out bb); replace V_y := Lib.hid (Rd.below V_y.out bb); replace V_g := Lib.hid (Rc.below V_g.out bb); replace HB := Lib.hid (nextw HB.out bb); clear bb; have c0x := B_x.out.c0; have c1x := B_x.out.c1; have c0y := B_y.out.c0; have c1y := B_y.out.c1; have c0g := B_g.out.c0; have c1g := B_g.out.c1; have tk4 : True := trivial))) | fail
  have c0x := B_x.out.c0
  have c1x := B_x.out.c1
  have c0y := B_y.out.c0
  have c1y := B_y.out.c1
  have c0g := B_g.out.c0
  have c1g := B_g.out.c1
  go_wp2_with fail
  refine (Sign_rd_eq (Rc.rd (Rc.below V_g.out (by exact ⟨rfl, rfl, rfl, Nat.le_refl _, fun _ _ => rfl⟩))) (by simp)).mono ?_
  rintro e w7 ⟨rfl, bb⟩
  replace bb := nextw (w0 := w6) (by exact ⟨rfl, rfl, rfl, Nat.le_refl _, fun _ _ => rfl⟩) bb
  clear c0x c1x c0y c1y c0g c1g
  replace B_x := Lib.hid (Box.below B_x.out bb B_x.out.lt)
  replace B_y := Lib.hid (Box.below B_y.out bb B_y.out.lt)
  replace B_g := Lib.hid (Box.below B_g.out bb B_g.out.lt)
  replace V_x := Lib.hid (Rd.below V_x.out bb)
  replace V_y := Lib.hid (Rd.below V_y.out bb)
  replace V_g := Lib.hid (Rc.below V_g.out bb)
  replace HB := Lib.hid (nextw HB.out bb)
  clear bb
  have c0x := B_x.out.c0
  have c1x := B_x.out.c1
  have c0y := B_y.out.c0
  have c1y := B_y.out.c1
  have c0g := B_g.out.c0
  have c1g := B_g.out.c1
  go_wp2_with fail
  refine (Sign_rd_eq (Rd.below V_x.out (by exact ⟨rfl, rfl, rfl, Nat.le_refl _, fun _ _ => rfl⟩)) rfl).mono ?_
  rintro e w8 ⟨rfl, bb⟩
  replace bb := nextw (w0 := w7) (by exact ⟨rfl, rfl, rfl, Nat.le_refl _, fun _ _ => rfl⟩) bb
  clear c0x c1x c0y c1y c0g c1g
  replace B_x := Lib.hid (Box.below B_x.out bb B_x.out.lt)
  replace B_y := Lib.hid (Box.below B_y.out bb B_y.out.lt)
  replace B_g := Lib.hid (Box.below B_g.out bb B_g.out.lt)
  replace V_x := Lib.hid (Rd.below V_x.out bb)
  replace V_y := Lib.hid (Rd.below V_y.out bb)
  replace V_g := Lib.hid (Rc.below V_g.out bb)
  replace HB := Lib.hid (nextw HB.out bb)
  clear bb
  have c0x := B_x.out.c0
  have c1x := B_x.out.c1
  have c0y := B_y.out.c0
  have c1y := B_y.out.c1
  have c0g := B_g.out.c0
  have c1g := B_g.out.c1
  go_wp2_with fail
  refine (Sign_rd_eq (Rd.below V_y.out (by exact ⟨rfl, rfl, rfl, Nat.le_refl _, fun _ _ => rfl⟩)) rfl).mono ?_
  rintro e w9 ⟨rfl, bb⟩
  replace bb := nextw (w0 := w8) (by exact ⟨rfl, rfl, rfl, Nat.le_refl _, fun _ _ => rfl⟩) bb
  clear c0x c1x c0y c1y c0g c1g
  replace B_x := Lib.hid (Box.below B_x.out bb B_x.out.lt)
  replace B_y := Lib.hid (Box.below B_y.out bb B_y.out.lt)
  replace B_g := Lib.hid (Box.below B_g.out bb B_g.out.lt)
  replace V_x := Lib.hid (Rd.below V_x.out bb)
  replace V_y := Lib.hid (Rd.below V_y.out bb)
  replace V_g := Lib.hid (Rc.below V_g.out bb)
  replace HB := Lib.hid (nextw HB.out bb)
  clear bb
  have HBo := HB.out
  go_wp2
  go_ret
  exact ⟨rfl, nextw HBo (by exact ⟨rfl, rfl, rfl, Nat.le_refl _, fun _ _ => rfl⟩)⟩

set_option maxRecDepth 100000 in
set_option maxHeartbeats 16000000 in
theorem Gcds_main {sx : Bool} {Ax : Option Addr} {kx cx : Nat} {zx : Int} {sy : Bool} {Ay : Option Addr} {ky cy : Nat} {zy : Int} {w : World} (hx : Rd w (.agg #[.bool sx, .slice Ax kx cx]) zx kx) (hy : Rd w (.agg #[.bool sy, .slice Ay ky cy]) zy ky) (htab : Tab10 w) (hkx : ¬ 6 < kx) (hky : ¬ 6 < ky) (h0 : ¬ (zx = 0 ∧ zy = 0)) :
    Calls Tryd.prog 7 #[.agg #[.bool sx, .slice Ax kx cx], .agg #[.bool sy, .slice Ay ky cy]] w fun e w' => e = .returned (.bool true) ∧ Below w.heap.size w w' := by
  have V_x := Lib.hid hx
  have V_y := Lib.hid hy
  have V_tab := Lib.hid htab
  clear hx hy htab
  have hb0 : Below w.heap.size w ((w.alloc (.cells #[.bool sx, (.slice Ax kx cx)] 24)).alloc (.cells #[.bool sy, (.slice Ay ky cy)] 24)) := (Below.alloc (Below.alloc (Below.refl w.heap.size w) (by simp <;> omega) _) (by simp <;> omega) _)
  have B_x : Box ((w.alloc (.cells #[.bool sx, (.slice Ax kx cx)] 24)).alloc (.cells #[.bool sy, (.slice Ay ky cy)] 24)) (w.heap.size) sx (.slice Ax kx cx) := by have h := Box.alloc (Box.new w sx (.slice Ax kx cx)) (.cells #[.bool sy, (.slice Ay ky cy)] 24); simpa using h
  replace B_x := Lib.hid B_x
  have B_y : Box ((w.alloc (.cells #[.bool sx, (.slice Ax kx cx)] 24)).alloc (.cells #[.bool sy, (.slice Ay ky cy)] 24)) (w.heap.size + 1) sy (.slice Ay ky cy) := by have h := Box.new (w.alloc (.cells #[.bool sx, (.slice Ax kx cx)] 24)) sy (.slice Ay ky cy); simpa using h
  replace B_y := Lib.hid B_y
  replace V_x := Lib.hid (Rd.below V_x.out hb0)
  replace V_y := Lib.hid (Rd.below V_y.out hb0)
  replace V_tab := Lib.hid (tab_below V_tab.out hb0)
  have HB := Lib.hid hb0
  clear hb0
  have c0x := B_x.out.c0
  have c1x := B_x.out.c1
  have c0y := B_y.out.c0
  have c1y := B_y.out.c1
  go_enter Tryd.func7, Tryd.ntmps7
  go_wp2_with fail
  clear c0x c1x c0y c1y
  generalize ((w.alloc (.cells #[.bool sx, (.slice Ax kx cx)] 24)).alloc (.cells #[.bool sy, (.slice Ay ky cy)] 24)) = W0 at *
  refine (awake_any _ (tab_below V_tab.out (by exact ⟨rfl, rfl, rfl, Nat.le_refl _, fun _ _ => rfl⟩))).mono ?_
  rintro e w1 ⟨rfl, bb⟩
  replace bb := nextw (w0 := W0) (by exact ⟨rfl, rfl, rfl, Nat.le_refl _, fun _ _ => rfl⟩) bb
  replace B_x := Lib.hid (Box.below B_x.out bb B_x.out.lt)
  replace B_y := Lib.hid (Box.below B_y.out bb B_y.out.lt)
  replace V_x := Lib.hid (Rd.below V_x.out bb)
  replace V_y := Lib.hid (Rd.below V_y.out bb)
  replace V_tab := Lib.hid (tab_below V_tab.out bb)
  replace HB := Lib.hid (nextw HB.out bb)
  clear bb
  clear V_tab
  have c0x := B_x.out.c0
  have c1x := B_x.out.c1
  have c0y := B_y.out.c0
  have c1y := B_y.out.c1
  go_wp2_with fail
  refine (Gcd_rd (Rd.below V_x.out (by exact ⟨rfl, rfl, rfl, Nat.le_refl _, fun _ _ => rfl⟩)) (Rd.below V_y.out (by exact ⟨rfl, rfl, rfl, Nat.le_refl _, fun _ _ => rfl⟩)) (by omega) (by omega)).mono ?_
  rintro e w2 ⟨vg, rfl, rg, bb⟩
  replace bb := nextw (w0 := w1) (by exact ⟨rfl, rfl, rfl, Nat.le_refl _, fun _ _ => rfl⟩) bb
  clear c0x c1x c0y c1y
  replace B_x := Lib.hid (Box.below B_x.out bb B_x.out.lt)
  replace B_y := Lib.hid (Box.below B_y.out bb B_y.out.lt)
  replace V_x := Lib.hid (Rd.below V_x.out bb)
  replace V_y := Lib.hid (Rd.below V_y.out bb)
  replace HB := Lib.hid (nextw HB.out bb)
  clear bb
  obtain ⟨sg, Ag, kg, cg, rfl⟩ := rg.shape
  have V_g := Lib.hid rg
  clear rg
  have hb0 : Below w2.heap.size w2 (w2.alloc (.cells #[.bool sg, (.slice Ag kg cg)] 24)) := (Below.alloc (Below.refl w2.heap.size w2) (by simp <;> omega) _)
  have B_g : Box (w2.alloc (.cells #[.bool sg, (.slice Ag kg cg)] 24)) (w2.heap.size) sg (.slice Ag kg cg) := by have h := Box.new w2 sg (.slice Ag kg cg); simpa using h
  replace B_g := Lib.hid B_g
  replace B_x := Lib.hid (Box.below B_x.out hb0 B_x.out.lt)
  replace B_y := Lib.hid (Box.below B_y.out hb0 B_y.out.lt)
  replace V_x := Lib.hid (Rd.below V_x.out hb0)
  replace V_y := Lib.hid (Rd.below V_y.out hb0)
  replace V_g := Lib.hid (Rc.below V_g.out hb0)
  replace HB := Lib.hid (nextw HB.out hb0)
  clear hb0
  have c0x := B_x.out.c0
  have c1x := B_x.out.c1
  have c0y := B_y.out.c0
  have c1y := B_y.out.c1
  have c0g := B_g.out.c0
  have c1g := B_g.out.c1
  go_wp2
  clear c0x c1x c0y c1y c0g c1g
  generalize (w2.alloc (.cells #[.bool sg, (.slice Ag kg cg)] 24)) = W1 at *
  have c0x := B_x.out.c0
  have c1x := B_x.out.c1
  have c0y := B_y.out.c0
  have c1y := B_y.out.c1
  have c0g := B_g.out.c0
  have c1g := B_g.out.c1
  have tk0 : True := trivial
  first | (go_region_held3 (fun w' => w'.cell? ⟨w.heap.size, 0, none⟩ = some (.bool sx) ∧ w'.cell? ⟨w.heap.size, 1, none⟩ = some (.slice Ax kx cx) ∧ w'.cell? ⟨w.heap.size + 1, 0, none⟩ = some (.bool sy) ∧ w'.cell? ⟨w.heap.size + 1, 1, none⟩ = some (.slice Ay ky cy) ∧ w'.cell? ⟨w2.heap.size, 0, none⟩ = some (.bool sg) ∧ w'.cell? ⟨w2.heap.size, 1, none⟩ = some (.slice Ag kg cg)) (((try dsimp only); (repeat' apply And.intro) <;> (first | assumption | go_keep)))
    (first
      | (have _t := tk0; clear _t tk0; go_at_call 29; refine (RGcd_rd (Rd.below V_x.out (by exact ⟨rfl, rfl, rfl, Nat.le_refl _, fun _ _ => rfl⟩)) (Rd.below V_y.out (by exact ⟨rfl, rfl, rfl, Nat.le_refl _, fun _ _ => rfl⟩)) (by omega) (by omega)).mono ?_; rintro e w3 ⟨va1, rfl, ra1, bb⟩; replace bb := nextw (w0 := W1) (by exact ⟨rfl, rfl, rfl, Nat.le_refl _, fun _ _ => rfl⟩) bb; replace B_x := Lib.hid (Box.below B_x.out bb B_x.out.lt); replace B_y := Lib.hid (Box.below B_y.out bb B_y.out.lt); replace B_g := Lib.hid (Box.below B_g.out bb B_g.out.lt); replace V_x := Lib.hid (Rd.below V_x.out bb); replace V_y := Lib.hid (Rd.below V_y.out bb); replace V_g := Lib.hid (Rc.below V_g.out bb); replace HB := Lib.hid (nextw HB.out bb); clear bb; replace ra1 := Lib.hid ra1; have V_a1 := ra1; clear ra1; have c0x := B_x.out.c0; have c1x := B_x.out.c1; have c0y := B_y.out.c0; have c1y := B_y.out.c1; have c0g := B_g.out.c0; have c1g := B_g.out.c1; have tk1 : True := trivial)
      | (have _t := tk1; clear _t tk1; go_at_call 20; refine (Same_rc (Rc.below V_g.out (by exact ⟨rfl, rfl, rfl, Nat.le_refl _, fun _ _ => rfl⟩)) (Rc.below V_a1.out (by exact ⟨rfl, rfl, rfl, Nat.le_refl _, fun _ _ => rfl⟩)) (by omega) (by omega) (rfl)).mono ?_; rintro e w4 ⟨rfl, bb⟩; replace bb := nextw (w0 := w3) (by exact ⟨rfl, rfl, rfl, Nat.le_refl _, fun _ _ => rfl⟩) bb; clear V_a1; replace B_x := Lib.hid (Box.below B_x.out bb B_x.out.lt); replace B_y := Lib.hid (Box.below B_y.out bb B_y.out.lt); replace B_g := Lib.hid (Box.below B_g.out bb B_g.out.lt); replace V_x := Lib.hid (Rd.below V_x.out bb); replace V_y := Lib.hid (Rd.below V_y.out bb); replace V_g := Lib.hid (Rc.below V_g.out bb); replace HB := Lib.hid (nextw HB.out bb); clear bb; have c0x := B_x.out.c0; have c1x := B_x.out.c1; have c0y := B_y.out.c0; have c1y := B_y.out.c1; have c0g := B_g.out.c0; have c1g := B_g.out.c1; have tk2 : True := trivial)
      | (have _t := tk2; clear _t tk2; go_at_call 28; refine (Gcd_rd (Rd.below V_y.out (by exact ⟨rfl, rfl, rfl, Nat.le_refl _, fun _ _ => rfl⟩)) (Rd.below V_x.out (by exact ⟨rfl, rfl, rfl, Nat.le_refl _, fun _ _ => rfl⟩)) (by omega) (by omega)).mono ?_; rintro e w5 ⟨vb1, rfl, rb1, bb⟩; replace bb := nextw (w0 := w4) (by exact ⟨rfl, rfl, rfl, Nat.le_refl _, fun _ _ => rfl⟩) bb; replace B_x := Lib.hid (Box.below B_x.out bb B_x.out.lt); replace B_y := Lib.hid (Box.below B_y.out bb B_y.out.lt); replace B_g := Lib.hid (Box.below B_g.out bb B_g.out.lt); replace V_x := Lib.hid (Rd.below V_x.out bb); replace V_y := Lib.hid (Rd.below V_y.out bb); replace V_g := Lib.hid (Rc.below V_g.out bb); replace HB := Lib.hid (nextw HB.out bb); clear bb; replace rb1 := Lib.hid rb1; have V_b1 := rb1; clear rb1; have c0x := B_x.out.c0; have c1x := B_x.out.c1; have c0y := B_y.out.c0; have c1y := B_y.out.c1; have c0g := B_g.out.c0; have c1g := B_g.out.c1; have tk3 : True := trivial)
      | (have _t := tk3; clear _t tk3; go_at_call 20; refine (Same_rc (Rc.below V_g.out (by exact ⟨rfl, rfl, rfl, Nat.le_refl _, fun _ _ => rfl⟩)) (Rc.below V_b1.out (by exact ⟨rfl, rfl, rfl, Nat.le_refl _, fun _ _ => rfl⟩)) (by omega) (by omega) (by rw [Nat.gcd_comm])).mono ?_; rintro e w6 ⟨rfl, bb⟩; replace bb := nextw (w0 := w5) (by exact ⟨rfl, rfl, rfl, Nat.le_refl _, fun _ _ => rfl⟩) bb; clear V_b1; replace B_x := Lib.hid (Box.below B_x.out bb B_x.out.lt); replace B_y := Lib.hid (Box.below B_y.out bb B_y.out.lt); replace B_g := Lib.hid (Box.below B_g.out bb B_g.out.lt); replace V_x := Lib.hid (Rd.below V_x.out bb); replace V_y := Lib.hid (Rd.below V_y.out bb); replace V_g := Lib.hid (Rc.below V_g.out bb); replace HB := Lib.hid (nextw HB.out bb); clear bb; have c0x := B_x.out.c0; have c1x := B_x.out.c1; have c0y := B_y.out.c0; have c1y := B_y.out.c1; have c0g := B_g.out.c0; have c1g := B_g.out.c1; have tk4 : True := trivial))) | fail
  obtain ⟨G, hG⟩ : ∃ G, Nat.gcd zx.natAbs zy.natAbs = G := ⟨_, rfl⟩
  have hp : 0 < G := by rw [← hG]; exact gcd_pos' h0
  obtain ⟨q1, q2, q3⟩ := gcd_quot hG hp
  rw [hG] at V_g
  have HG := Lib.hid (And.intro hp (And.intro q1 (And.intro q2 q3)))
  clear hG hp q1 q2 q3 h0
  have c0x := B_x.out.c0
  have c1x := B_x.out.c1
  have c0y := B_y.out.c0
  have c1y := B_y.out.c1
  have c0g := B_g.out.c0
  have c1g := B_g.out.c1
  go_wp2_with fail
  refine (Sign_rd_ne' (Rc.rd (Rc.below V_g.out (by exact ⟨rfl, rfl, rfl, Nat.le_refl _, fun _ _ => rfl⟩))) (by have := HG.out.1; omega)).mono ?_
  rintro e w7 ⟨cg0, hcg0, rfl, bb⟩
  replace bb := nextw (w0 := w6) (by exact ⟨rfl, rfl, rfl, Nat.le_refl _, fun _ _ => rfl⟩) bb
  clear c0x c1x c0y c1y c0g c1g
  replace B_x := Lib.hid (Box.below B_x.out bb B_x.out.lt)
  replace B_y := Lib.hid (Box.below B_y.out bb B_y.out.lt)
  replace B_g := Lib.hid (Box.below B_g.out bb B_g.out.lt)
  replace V_x := Lib.hid (Rd.below V_x.out bb)
  replace V_y := Lib.hid (Rd.below V_y.out bb)
  replace V_g := Lib.hid (Rc.below V_g.out bb)
  replace HB := Lib.hid (nextw HB.out bb)
  clear bb
  have c0x := B_x.out.c0
  have c1x := B_x.out.c1
  have c0y := B_y.out.c0
  have c1y := B_y.out.c1
  have c0g := B_g.out.c0
  have c1g := B_g.out.c1
  go_wp2_with fail
  refine (DivMod_rd (Rd.below V_x.out (by exact ⟨rfl, rfl, rfl, Nat.le_refl _, fun _ _ => rfl⟩)) (Rc.rd (Rc.below V_g.out (by exact ⟨rfl, rfl, rfl, Nat.le_refl _, fun _ _ => rfl⟩))) (by omega) (by omega) (by have := HG.out.1; omega)).mono ?_
  rintro e w8 ⟨vq, vr, rfl, rq, rr, bb⟩
  replace bb := nextw (w0 := w7) (by exact ⟨rfl, rfl, rfl, Nat.le_refl _, fun _ _ => rfl⟩) bb
  clear c0x c1x c0y c1y c0g c1g
  replace B_x := Lib.hid (Box.below B_x.out bb B_x.out.lt)
  replace B_y := Lib.hid (Box.below B_y.out bb B_y.out.lt)
  replace B_g := Lib.hid (Box.below B_g.out bb B_g.out.lt)
  replace V_x := Lib.hid (Rd.below V_x.out bb)
  replace V_y := Lib.hid (Rd.below V_y.out bb)
  replace V_g := Lib.hid (Rc.below V_g.out bb)
  replace HB := Lib.hid (nextw HB.out bb)
  clear bb
  obtain ⟨sq, Aq, kq, cq, rfl⟩ := rq.shape
  obtain ⟨sr, Ar, kr, cr, rfl⟩ := rr.shape
  have V_q := Lib.hid rq
  have V_r := Lib.hid rr
  clear rq rr
  have hb0 : Below w8.heap.size w8 ((w8.alloc (.cells #[.bool sq, (.slice Aq kq cq)] 24)).alloc (.cells #[.bool sr, (.slice Ar kr cr)] 24)) := (Below.alloc (Below.alloc (Below.refl w8.heap.size w8) (by simp <;> omega) _) (by simp <;> omega) _)
  have B_q : Box ((w8.alloc (.cells #[.bool sq, (.slice Aq kq cq)] 24)).alloc (.cells #[.bool sr, (.slice Ar kr cr)] 24)) (w8.heap.size) sq (.slice Aq kq cq) := by have h := Box.alloc (Box.new w8 sq (.slice Aq kq cq)) (.cells #[.bool sr, (.slice Ar kr cr)] 24); simpa using h
  replace B_q := Lib.hid B_q
  have B_r : Box ((w8.alloc (.cells #[.bool sq, (.slice Aq kq cq)] 24)).alloc (.cells #[.bool sr, (.slice Ar kr cr)] 24)) (w8.heap.size + 1) sr (.slice Ar kr cr) := by have h := Box.new (w8.alloc (.cells #[.bool sq, (.slice Aq kq cq)] 24)) sr (.slice Ar kr cr); simpa using h
  replace B_r := Lib.hid B_r
  replace B_x := Lib.hid (Box.below B_x.out hb0 B_x.out.lt)
  replace B_y := Lib.hid (Box.below B_y.out hb0 B_y.out.lt)
  replace B_g := Lib.hid (Box.below B_g.out hb0 B_g.out.lt)
  replace V_x := Lib.hid (Rd.below V_x.out hb0)
  replace V_y := Lib.hid (Rd.below V_y.out hb0)
  replace V_g := Lib.hid (Rc.below V_g.out hb0)
  replace V_q := Lib.hid (Rc.below V_q.out hb0)
  replace V_r := Lib.hid (Rc.below V_r.out hb0)
  replace HB := Lib.hid (nextw HB.out hb0)
  clear hb0
  have c0x := B_x.out.c0
  have c1x := B_x.out.c1
  have c0y := B_y.out.c0
  have c1y := B_y.out.c1
  have c0g := B_g.out.c0
  have c1g := B_g.out.c1
  have c0q := B_q.out.c0
  have c1q := B_q.out.c1
  have c0r := B_r.out.c0
  have c1r := B_r.out.c1
  go_wp2_with fail
  clear c0x c1x c0y c1y c0g c1g c0q c1q c0r c1r
  generalize ((w8.alloc (.cells #[.bool sq, (.slice Aq kq cq)] 24)).alloc (.cells #[.bool sr, (.slice Ar kr cr)] 24)) = W2 at *
  refine (DivMod_rd (Rd.below V_y.out (by exact ⟨rfl, rfl, rfl, Nat.le_refl _, fun _ _ => rfl⟩)) (Rc.rd (Rc.below V_g.out (by exact ⟨rfl, rfl, rfl, Nat.le_refl _, fun _ _ => rfl⟩))) (by omega) (by omega) (by have := HG.out.1; omega)).mono ?_
  rintro e w30 ⟨vq, vr, rfl, rq, rr, bb⟩
  replace bb := nextw (w0 := W2) (by exact ⟨rfl, rfl, rfl, Nat.le_refl _, fun _ _ => rfl⟩) bb
  replace B_x := Lib.hid (Box.below B_x.out bb B_x.out.lt)
  replace B_y := Lib.hid (Box.below B_y.out bb B_y.out.lt)
  replace B_g := Lib.hid (Box.below B_g.out bb B_g.out.lt)
  replace B_q := Lib.hid (Box.below B_q.out bb B_q.out.lt)
  replace B_r := Lib.hid (Box.below B_r.out bb B_r.out.lt)
  replace V_x := Lib.hid (Rd.below V_x.out bb)
  replace V_y := Lib.hid (Rd.below V_y.out bb)
  replace V_g := Lib.hid (Rc.below V_g.out bb)
  replace V_q := Lib.hid (Rc.below V_q.out bb)
  replace V_r := Lib.hid (Rc.below V_r.out bb)
  replace HB := Lib.hid (nextw HB.out bb)
  clear bb
  obtain ⟨sp, Ap, kp, cp, rfl⟩ := rq.shape
  obtain ⟨st, At, kt, ct, rfl⟩ := rr.shape
  have V_p := Lib.hid rq
  have V_t := Lib.hid rr
  clear rq rr
  have hb0 : Below w30.heap.size w30 ((w30.alloc (.cells #[.bool sp, (.slice Ap kp cp)] 24)).alloc (.cells #[.bool st, (.slice At kt ct)] 24)) := (Below.alloc (Below.alloc (Below.refl w30.heap.size w30) (by simp <;> omega) _) (by simp <;> omega) _)
  have B_p : Box ((w30.alloc (.cells #[.bool sp, (.slice Ap kp cp)] 24)).alloc (.cells #[.bool st, (.slice At kt ct)] 24)) (w30.heap.size) sp (.slice Ap kp cp) := by have h := Box.alloc (Box.new w30 sp (.slice Ap kp cp)) (.cells #[.bool st, (.slice At kt ct)] 24); simpa using h
  replace B_p := Lib.hid B_p
  have B_t : Box ((w30.alloc (.cells #[.bool sp, (.slice Ap kp cp)] 24)).alloc (.cells #[.bool st, (.slice At kt ct)] 24)) (w30.heap.size + 1) st (.slice At kt ct) := by have h := Box.new (w30.alloc (.cells #[.bool sp, (.slice Ap kp cp)] 24)) st (.slice At kt ct); simpa using h
  replace B_t := Lib.hid B_t
  replace B_x := Lib.hid (Box.below B_x.out hb0 B_x.out.lt)
  replace B_y := Lib.hid (Box.below B_y.out hb0 B_y.out.lt)
  replace B_g := Lib.hid (Box.below B_g.out hb0 B_g.out.lt)
  replace B_q := Lib.hid (Box.below B_q.out hb0 B_q.out.lt)
  replace B_r := Lib.hid (Box.below B_r.out hb0 B_r.out.lt)
  replace V_x := Lib.hid (Rd.below V_x.out hb0)
  replace V_y := Lib.hid (Rd.below V_y.out hb0)
  replace V_g := Lib.hid (Rc.below V_g.out hb0)
  replace V_q := Lib.hid (Rc.below V_q.out hb0)
  replace V_r := Lib.hid (Rc.below V_r.out hb0)
  replace V_p := Lib.hid (Rc.below V_p.out hb0)
  replace V_t := Lib.hid (Rc.below V_t.out hb0)
  replace HB := Lib.hid (nextw HB.out hb0)
  clear hb0
  have c0x := B_x.out.c0
  have c1x := B_x.out.c1
  have c0y := B_y.out.c0
  have c1y := B_y.out.c1
  have c0g := B_g.out.c0
  have c1g := B_g.out.c1
  have c0q := B_q.out.c0
  have c1q := B_q.out.c1
  have c0r := B_r.out.c0
  have c1r := B_r.out.c1
  have c0p := B_p.out.c0
  have c1p := B_p.out.c1
  have c0t := B_t.out.c0
  have c1t := B_t.out.c1
  go_wp2_with fail
  clear c0x c1x c0y c1y c0g c1g c0q c1q c0r c1r c0p c1p c0t c1t
  generalize ((w30.alloc (.cells #[.bool sp, (.slice Ap kp cp)] 24)).alloc (.cells #[.bool st, (.slice At kt ct)] 24)) = W3 at *
  refine (Of_rc 1 (by omega) (by omega)).mono ?_
  rintro e w31 ⟨v1, rfl, r1, bb⟩
  replace bb := nextw (w0 := W3) (by exact ⟨rfl, rfl, rfl, Nat.le_refl _, fun _ _ => rfl⟩) bb
  replace B_x := Lib.hid (Box.below B_x.out bb B_x.out.lt)
  replace B_y := Lib.hid (Box.below B_y.out bb B_y.out.lt)
  replace B_g := Lib.hid (Box.below B_g.out bb B_g.out.lt)
  replace B_q := Lib.hid (Box.below B_q.out bb B_q.out.lt)
  replace B_r := Lib.hid (Box.below B_r.out bb B_r.out.lt)
  replace B_p := Lib.hid (Box.below B_p.out bb B_p.out.lt)
  replace B_t := Lib.hid (Box.below B_t.out bb B_t.out.lt)
  replace V_x := Lib.hid (Rd.below V_x.out bb)
  replace V_y := Lib.hid (Rd.below V_y.out bb)
  replace V_g := Lib.hid (Rc.below V_g.out bb)
  replace V_q := Lib.hid (Rc.below V_q.out bb)
  replace V_r := Lib.hid (Rc.below V_r.out bb)
  replace V_p := Lib.hid (Rc.below V_p.out bb)
  replace V_t := Lib.hid (Rc.below V_t.out bb)
  replace HB := Lib.hid (nextw HB.out bb)
  clear bb
  obtain ⟨so, Ao, ko, co, rfl⟩ := r1.shape
  have V_o := Lib.hid r1
  clear r1
  have hb0 : Below w31.heap.size w31 (w31.alloc (.cells #[.bool so, (.slice Ao ko co)] 24)) := (Below.alloc (Below.refl w31.heap.size w31) (by simp <;> omega) _)
  have B_o : Box (w31.alloc (.cells #[.bool so, (.slice Ao ko co)] 24)) (w31.heap.size) so (.slice Ao ko co) := by have h := Box.new w31 so (.slice Ao ko co); simpa using h
  replace B_o := Lib.hid B_o
  replace B_x := Lib.hid (Box.below B_x.out hb0 B_x.out.lt)
  replace B_y := Lib.hid (Box.below B_y.out hb0 B_y.out.lt)
  replace B_g := Lib.hid (Box.below B_g.out hb0 B_g.out.lt)
  replace B_q := Lib.hid (Box.below B_q.out hb0 B_q.out.lt)
  replace B_r := Lib.hid (Box.below B_r.out hb0 B_r.out.lt)
  replace B_p := Lib.hid (Box.below B_p.out hb0 B_p.out.lt)
  replace B_t := Lib.hid (Box.below B_t.out hb0 B_t.out.lt)
  replace V_x := Lib.hid (Rd.below V_x.out hb0)
  replace V_y := Lib.hid (Rd.below V_y.out hb0)
  replace V_g := Lib.hid (Rc.below V_g.out hb0)
  replace V_q := Lib.hid (Rc.below V_q.out hb0)
  replace V_r := Lib.hid (Rc.below V_r.out hb0)
  replace V_p := Lib.hid (Rc.below V_p.out hb0)
  replace V_t := Lib.hid (Rc.below V_t.out hb0)
  replace V_o := Lib.hid (Rc.below V_o.out hb0)
  replace HB := Lib.hid (nextw HB.out hb0)
  clear hb0
  have c0g := B_g.out.c0
  have c1g := B_g.out.c1
  have c0q := B_q.out.c0
  have c1q := B_q.out.c1
  have c0r := B_r.out.c0
  have c1r := B_r.out.c1
  have c0p := B_p.out.c0
  have c1p := B_p.out.c1
  have c0t := B_t.out.c0
  have c1t := B_t.out.c1
  have c0o := B_o.out.c0
  have c1o := B_o.out.c1
  go_wp2
  clear c0g c1g c0q c1q c0r c1r c0p c1p c0t c1t c0o c1o
  generalize (w31.alloc (.cells #[.bool so, (.slice Ao ko co)] 24)) = W4 at *
  have c0g := B_g.out.c0
  have c1g := B_g.out.c1
  have c0q := B_q.out.c0
  have c1q := B_q.out.c1
  have c0r := B_r.out.c0
  have c1r := B_r.out.c1
  have c0p := B_p.out.c0
  have c1p := B_p.out.c1
  have c0t := B_t.out.c0
  have c1t := B_t.out.c1
  have c0o := B_o.out.c0
  have c1o := B_o.out.c1
  have tk0 : True := trivial
  first | (go_region_held3 (fun w' => w'.cell? ⟨w2.heap.size, 0, none⟩ = some (.bool sg) ∧ w'.cell? ⟨w2.heap.size, 1, none⟩ = some (.slice Ag kg cg) ∧ w'.cell? ⟨w8.heap.size, 0, none⟩ = some (.bool sq) ∧ w'.cell? ⟨w8.heap.size, 1, none⟩ = some (.slice Aq kq cq) ∧ w'.cell? ⟨w8.heap.size + 1, 0, none⟩ = some (.bool sr) ∧ w'.cell? ⟨w8.heap.size + 1, 1, none⟩ = some (.slice Ar kr cr) ∧ w'.cell? ⟨w30.heap.size, 0, none⟩ = some (.bool sp) ∧ w'.cell? ⟨w30.heap.size, 1, none⟩ = some (.slice Ap kp cp) ∧ w'.cell? ⟨w30.heap.size + 1, 0, none⟩ = some (.bool st) ∧ w'.cell? ⟨w30.heap.size + 1, 1, none⟩ = some (.slice At kt ct) ∧ w'.cell? ⟨w31.heap.size, 0, none⟩ = some (.bool so) ∧ w'.cell? ⟨w31.heap.size, 1, none⟩ = some (.slice Ao ko co)) (((try dsimp only); (repeat' apply And.intro) <;> (first | assumption | go_keep)))
    (first
      | (have _t := tk0; clear _t tk0; go_at_call 15; refine (Sign_rd_gt (Rc.rd (Rc.below V_g.out (by exact ⟨rfl, rfl, rfl, Nat.le_refl _, fun _ _ => rfl⟩))) (by have := HG.out.1; omega)).mono ?_; rintro e w9 ⟨rfl, bb⟩; replace bb := nextw (w0 := W4) (by exact ⟨rfl, rfl, rfl, Nat.le_refl _, fun _ _ => rfl⟩) bb; clear V_x V_y; replace B_x := Lib.hid (Box.below B_x.out bb B_x.out.lt); replace B_y := Lib.hid (Box.below B_y.out bb B_y.out.lt); replace B_g := Lib.hid (Box.below B_g.out bb B_g.out.lt); replace B_q := Lib.hid (Box.below B_q.out bb B_q.out.lt); replace B_r := Lib.hid (Box.below B_r.out bb B_r.out.lt); replace B_p := Lib.hid (Box.below B_p.out bb B_p.out.lt); replace B_t := Lib.hid (Box.below B_t.out bb B_t.out.lt); replace B_o := Lib.hid (Box.below B_o.out bb B_o.out.lt); replace V_g := Lib.hid (Rc.below V_g.out bb); replace V_q := Lib.hid (Rc.below V_q.out bb); replace V_r := Lib.hid (Rc.below V_r.out bb); replace V_p := Lib.hid (Rc.below V_p.out bb); replace V_t := Lib.hid (Rc.below V_t.out bb); replace V_o := Lib.hid (Rc.below V_o.out bb); replace HB := Lib.hid (nextw HB.out bb); clear bb; have c0g := B_g.out.c0; have c1g := B_g.out.c1; have c0q := B_q.out.c0; have c1q := B_q.out.c1; have c0r := B_r.out.c0; have c1r := B_r.out.c1; have c0p := B_p.out.c0; have c1p := B_p.out.c1; have c0t := B_t.out.c0; have c1t := B_t.out.c1; have c0o := B_o.out.c0; have c1o := B_o.out.c1; have tk1 : True := trivial)
      | (have _t := tk1; clear _t tk1; go_at_call 15; refine (Sign_rd_eq (Rc.rd (Rc.below V_r.out (by exact ⟨rfl, rfl, rfl, Nat.le_refl _, fun _ _ => rfl⟩))) (HG.out.2.1)).mono ?_; rintro e w10 ⟨rfl, bb⟩; replace bb := nextw (w0 := w9) (by exact ⟨rfl, rfl, rfl, Nat.le_refl _, fun _ _ => rfl⟩) bb; replace B_x := Lib.hid (Box.below B_x.out bb B_x.out.lt); replace B_y := Lib.hid (Box.below B_y.out bb B_y.out.lt); replace B_g := Lib.hid (Box.below B_g.out bb B_g.out.lt); replace B_q := Lib.hid (Box.below B_q.out bb B_q.out.lt); replace B_r := Lib.hid (Box.below B_r.out bb B_r.out.lt); replace B_p := Lib.hid (Box.below B_p.out bb B_p.out.lt); replace B_t := Lib.hid (Box.below B_t.out bb B_t.out.lt); replace B_o := Lib.hid (Box.below B_o.out bb B_o.out.lt); replace V_g := Lib.hid (Rc.below V_g.out bb); replace V_q := Lib.hid (Rc.below V_q.out bb); replace V_r := Lib.hid (Rc.below V_r.out bb); replace V_p := Lib.hid (Rc.below V_p.out bb); replace V_t := Lib.hid (Rc.below V_t.out bb); replace V_o := Lib.hid (Rc.below V_o.out bb); replace HB := Lib.hid (nextw HB.out bb); clear bb; have c0g := B_g.out.c0; have c1g := B_g.out.c1; have c0q := B_q.out.c0; have c1q := B_q.out.c1; have c0r := B_r.out.c0; have c1r := B_r.out.c1; have c0p := B_p.out.c0; have c1p := B_p.out.c1; have c0t := B_t.out.c0; have c1t := B_t.out.c1; have c0o := B_o.out.c0; have c1o := B_o.out.c1; have tk2 : True := trivial)
      | (have _t := tk2; clear _t tk2; go_at_call 15; refine (Sign_rd_eq (Rc.rd (Rc.below V_t.out (by exact ⟨rfl, rfl, rfl, Nat.le_refl _, fun _ _ => rfl⟩))) (HG.out.2.2.1)).mono ?_; rintro e w11 ⟨rfl, bb⟩; replace bb := nextw (w0 := w10) (by exact ⟨rfl, rfl, rfl, Nat.le_refl _, fun _ _ => rfl⟩) bb; replace B_x := Lib.hid (Box.below B_x.out bb B_x.out.lt); replace B_y := Lib.hid (Box.below B_y.out bb B_y.out.lt); replace B_g := Lib.hid (Box.below B_g.out bb B_g.out.lt); replace B_q := Lib.hid (Box.below B_q.out bb B_q.out.lt); replace B_r := Lib.hid (Box.below B_r.out bb B_r.out.lt); replace B_p := Lib.hid (Box.below B_p.out bb B_p.out.lt); replace B_t := Lib.hid (Box.below B_t.out bb B_t.out.lt); replace B_o := Lib.hid (Box.below B_o.out bb B_o.out.lt); replace V_g := Lib.hid (Rc.below V_g.out bb); replace V_q := Lib.hid (Rc.below V_q.out bb); replace V_r := Lib.hid (Rc.below V_r.out bb); replace V_p := Lib.hid (Rc.below V_p.out bb); replace V_t := Lib.hid (Rc.below V_t.out bb); replace V_o := Lib.hid (Rc.below V_o.out bb); replace HB := Lib.hid (nextw HB.out bb); clear bb; have c0g := B_g.out.c0; have c1g := B_g.out.c1; have c0q := B_q.out.c0; have c1q := B_q.out.c1; have c0r := B_r.out.c0; have c1r := B_r.out.c1; have c0p := B_p.out.c0; have c1p := B_p.out.c1; have c0t := B_t.out.c0; have c1t := B_t.out.c1; have c0o := B_o.out.c0; have c1o := B_o.out.c1; have tk3 : True := trivial)
      | (have _t := tk3; clear _t tk3; go_at_call 28; refine (Gcd_rd (Rc.rd (Rc.below V_q.out (by exact ⟨rfl, rfl, rfl, Nat.le_refl _, fun _ _ => rfl⟩))) (Rc.rd (Rc.below V_p.out (by exact ⟨rfl, rfl, rfl, Nat.le_refl _, fun _ _ => rfl⟩))) (by omega) (by omega)).mono ?_; rintro e w12 ⟨vm, rfl, rm, bb⟩; replace bb := nextw (w0 := w11) (by exact ⟨rfl, rfl, rfl, Nat.le_refl _, fun _ _ => rfl⟩) bb; replace B_x := Lib.hid (Box.below B_x.out bb B_x.out.lt); replace B_y := Lib.hid (Box.below B_y.out bb B_y.out.lt); replace B_g := Lib.hid (Box.below B_g.out bb B_g.out.lt); replace B_q := Lib.hid (Box.below B_q.out bb B_q.out.lt); replace B_r := Lib.hid (Box.below B_r.out bb B_r.out.lt); replace B_p := Lib.hid (Box.below B_p.out bb B_p.out.lt); replace B_t := Lib.hid (Box.below B_t.out bb B_t.out.lt); replace B_o := Lib.hid (Box.below B_o.out bb B_o.out.lt); replace V_g := Lib.hid (Rc.below V_g.out bb); replace V_q := Lib.hid (Rc.below V_q.out bb); replace V_r := Lib.hid (Rc.below V_r.out bb); replace V_p := Lib.hid (Rc.below V_p.out bb); replace V_t := Lib.hid (Rc.below V_t.out bb); replace V_o := Lib.hid (Rc.below V_o.out bb); replace HB := Lib.hid (nextw HB.out bb); clear bb; replace rm := Lib.hid rm; have V_m := rm; clear rm; have c0g := B_g.out.c0; have c1g := B_g.out.c1; have c0q := B_q.out.c0; have c1q := B_q.out.c1; have c0r := B_r.out.c0; have c1r := B_r.out.c1; have c0p := B_p.out.c0; have c1p := B_p.out.c1; have c0t := B_t.out.c0; have c1t := B_t.out.c1; have c0o := B_o.out.c0; have c1o := B_o.out.c1; have tk4 : True := trivial)
      | (have _t := tk4; clear _t tk4; go_at_call 20; refine (Same_rc (Rc.below V_m.out (by exact ⟨rfl, rfl, rfl, Nat.le_refl _, fun _ _ => rfl⟩)) (Rc.below V_o.out (by exact ⟨rfl, rfl, rfl, Nat.le_refl _, fun _ _ => rfl⟩)) (by omega) (by omega) (by rw [HG.out.2.2.2]; rfl)).mono ?_; rintro e w13 ⟨rfl, bb⟩; replace bb := nextw (w0 := w12) (by exact ⟨rfl, rfl, rfl, Nat.le_refl _, fun _ _ => rfl⟩) bb; clear V_m; replace B_x := Lib.hid (Box.below B_x.out bb B_x.out.lt); replace B_y := Lib.hid (Box.below B_y.out bb B_y.out.lt); replace B_g := Lib.hid (Box.below B_g.out bb B_g.out.lt); replace B_q := Lib.hid (Box.below B_q.out bb B_q.out.lt); replace B_r := Lib.hid (Box.below B_r.out bb B_r.out.lt); replace B_p := Lib.hid (Box.below B_p.out bb B_p.out.lt); replace B_t := Lib.hid (Box.below B_t.out bb B_t.out.lt); replace B_o := Lib.hid (Box.below B_o.out bb B_o.out.lt); replace V_g := Lib.hid (Rc.below V_g.out bb); replace V_q := Lib.hid (Rc.below V_q.out bb); replace V_r := Lib.hid (Rc.below V_r.out bb); replace V_p := Lib.hid (Rc.below V_p.out bb); replace V_t := Lib.hid (Rc.below V_t.out bb); replace V_o := Lib.hid (Rc.below V_o.out bb); replace HB := Lib.hid (nextw HB.out bb); clear bb; have c0g := B_g.out.c0; have c1g := B_g.out.c1; have c0q := B_q.out.c0; have c1q := B_q.out.c1; have c0r := B_r.out.c0; have c1r := B_r.out.c1; have c0p := B_p.out.c0; have c1p := B_p.out.c1; have c0t := B_t.out.c0; have c1t := B_t.out.c1; have c0o := B_o.out.c0; have c1o := B_o.out.c1; have tk5 : True := trivial))) | fail
  have HBo := HB.out
  go_wp2
  go_ret
  exact ⟨rfl, nextw HBo (by exact ⟨rfl, rfl, rfl, Nat.le_refl _, fun _ _ => rfl⟩)⟩

theorem Gcds_any {sx : Bool} {Ax : Option Addr} {kx cx : Nat} {zx : Int} {sy : Bool} {Ay : Option Addr} {ky cy : Nat} {zy : Int} {w : World} (hx : Rd w (.agg #[.bool sx, .slice Ax kx cx]) zx kx) (hy : Rd w (.agg #[.bool sy, .slice Ay ky cy]) zy ky) (htab : Tab10 w) (mx : kx ≤ 9223372036854775807) (my : ky ≤ 9223372036854775807) :
    Calls Tryd.prog 7 #[.agg #[.bool sx, .slice Ax kx cx], .agg #[.bool sy, .slice Ay ky cy]] w fun e w' => e = .returned (.bool true) ∧ Below w.heap.size w w' := by
  by_cases h1 : 6 < kx
  · exact Gcds_long0 hx hy htab h1
  by_cases h2 : 6 < ky
  · exact Gcds_long1 hx hy htab h1 h2
  by_cases h0 : zx = 0 ∧ zy = 0
  · obtain ⟨rfl, rfl⟩ := h0
    exact Gcds_zero hx hy htab h1 h2
  · exact Gcds_main hx hy htab h1 h2 h0
end Go.Proofs.YthfkahccnpkgjaaDoor
