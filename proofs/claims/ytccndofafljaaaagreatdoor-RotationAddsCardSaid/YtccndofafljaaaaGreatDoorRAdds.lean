/- The law RotationAdds: the walk. -/
import Derived.Test.YtccndofafljaaaaGreatDoorRAwake
import Derived.Test.YtccndofafljaaaaGreatDoorRPower
import Derived.Test.YtccndofafljaaaaGreatDoorRDir

set_option linter.unusedVariables false
set_option linter.unusedSimpArgs false

namespace Go.Proofs.YtccndofafljaaaaGreatDoor
open Go Go.RowKit Num

theorem int_bounds' {n : Int} (h : (Lit.int .i64 n).wf = true) : -9223372036854775808 ≤ n ∧ n ≤ 9223372036854775807 := by
  have h1 : IntKind.i64.min ≤ n ∧ n ≤ 9223372036854775807 := by simpa [Lit.wf] using h
  have h2 : IntKind.i64.min = -9223372036854775808 := by decide
  omega

set_option maxRecDepth 100000 in
set_option maxHeartbeats 8000000 in
theorem Adds_long0 {sx : Bool} {Ax : Option Addr} {kx cx : Nat} {tx : Bool} {Cx : Option Addr} {lx dx : Nat} {px qx : Int} {jx : Nat} (m n : Int) {w : World} (hx : Fd w (.agg #[.bool sx, .slice Ax kx cx, .bool tx, .slice Cx lx dx]) px qx jx) (htab : Tab10 w) (g1 : kx ≤ 9223372036854775807) (g2 : 1 < kx) :
    Calls Tryz.prog 9 #[.agg #[.bool sx, .slice Ax kx cx, .bool tx, .slice Cx lx dx], .int .i64 m, .int .i64 n] w fun e w' => e = .returned (.bool true) ∧ Below w.heap.size w w' := by
  have V_xn := Lib.hid hx.num
  have V_xd := Lib.hid hx.den
  have V_tab := Lib.hid htab
  clear hx htab
  have hb0 : Below w.heap.size w (w.alloc (.cells #[.bool sx, (.slice Ax kx cx), .bool tx, (.slice Cx lx dx)] 26)) := (Below.alloc (Below.refl w.heap.size w) (by simp <;> omega) _)
  have B_x : BoxR (w.alloc (.cells #[.bool sx, (.slice Ax kx cx), .bool tx, (.slice Cx lx dx)] 26)) (w.heap.size) sx (.slice Ax kx cx) tx (.slice Cx lx dx) := by have h := BoxR.new w sx (.slice Ax kx cx) tx (.slice Cx lx dx); simpa using h
  replace B_x := Lib.hid B_x
  replace V_xn := Lib.hid (Rd.below V_xn.out hb0)
  replace V_xd := Lib.hid (Rd.below V_xd.out hb0)
  replace V_tab := Lib.hid (tab_below V_tab.out hb0)
  have HB := Lib.hid hb0
  clear hb0
  have c0x := B_x.out.c0
  have c1x := B_x.out.c1
  have c2x := B_x.out.c2
  have c3x := B_x.out.c3
  go_enter Tryz.func9, Tryz.ntmps9
  go_wp2_with fail
  clear c0x c1x c2x c3x
  generalize w.alloc (.cells #[.bool sx, (.slice Ax kx cx), .bool tx, (.slice Cx lx dx)] 26) = W0 at *
  refine (awakeR _ (tab_below V_tab.out (by exact ⟨rfl, rfl, rfl, Nat.le_refl _, fun _ _ => rfl⟩))).mono ?_
  rintro e w1 ⟨rfl, bb⟩
  replace bb := nextw (w0 := W0) (by exact ⟨rfl, rfl, rfl, Nat.le_refl _, fun _ _ => rfl⟩) bb
  replace B_x := Lib.hid (BoxR.below B_x.out bb B_x.out.lt)
  replace V_xn := Lib.hid (Rd.below V_xn.out bb)
  replace V_xd := Lib.hid (Rd.below V_xd.out bb)
  replace V_tab := Lib.hid (tab_below V_tab.out bb)
  replace HB := Lib.hid (nextw HB.out bb)
  clear bb
  have c0x := B_x.out.c0
  have c1x := B_x.out.c1
  have c2x := B_x.out.c2
  have c3x := B_x.out.c3
  go_wp2_with fail
  refine (awakeR _ (tab_below V_tab.out (by exact ⟨rfl, rfl, rfl, Nat.le_refl _, fun _ _ => rfl⟩))).mono ?_
  rintro e w2 ⟨rfl, bb⟩
  replace bb := nextw (w0 := w1) (by exact ⟨rfl, rfl, rfl, Nat.le_refl _, fun _ _ => rfl⟩) bb
  clear c0x c1x c2x c3x
  replace B_x := Lib.hid (BoxR.below B_x.out bb B_x.out.lt)
  replace V_xn := Lib.hid (Rd.below V_xn.out bb)
  replace V_xd := Lib.hid (Rd.below V_xd.out bb)
  replace V_tab := Lib.hid (tab_below V_tab.out bb)
  replace HB := Lib.hid (nextw HB.out bb)
  clear bb
  have HBo := HB.out
  go_wp2
  go_ret
  exact ⟨rfl, nextw HBo (by exact ⟨rfl, rfl, rfl, Nat.le_refl _, fun _ _ => rfl⟩)⟩

set_option maxRecDepth 100000 in
set_option maxHeartbeats 8000000 in
theorem Adds_long1 {sx : Bool} {Ax : Option Addr} {kx cx : Nat} {tx : Bool} {Cx : Option Addr} {lx dx : Nat} {px qx : Int} {jx : Nat} (m n : Int) {w : World} (hx : Fd w (.agg #[.bool sx, .slice Ax kx cx, .bool tx, .slice Cx lx dx]) px qx jx) (htab : Tab10 w) (g0 : kx ≤ 1) (g1 : lx ≤ 9223372036854775807) (g2 : 1 < lx) :
    Calls Tryz.prog 9 #[.agg #[.bool sx, .slice Ax kx cx, .bool tx, .slice Cx lx dx], .int .i64 m, .int .i64 n] w fun e w' => e = .returned (.bool true) ∧ Below w.heap.size w w' := by
  have V_xn := Lib.hid hx.num
  have V_xd := Lib.hid hx.den
  have V_tab := Lib.hid htab
  clear hx htab
  have hb0 : Below w.heap.size w (w.alloc (.cells #[.bool sx, (.slice Ax kx cx), .bool tx, (.slice Cx lx dx)] 26)) := (Below.alloc (Below.refl w.heap.size w) (by simp <;> omega) _)
  have B_x : BoxR (w.alloc (.cells #[.bool sx, (.slice Ax kx cx), .bool tx, (.slice Cx lx dx)] 26)) (w.heap.size) sx (.slice Ax kx cx) tx (.slice Cx lx dx) := by have h := BoxR.new w sx (.slice Ax kx cx) tx (.slice Cx lx dx); simpa using h
  replace B_x := Lib.hid B_x
  replace V_xn := Lib.hid (Rd.below V_xn.out hb0)
  replace V_xd := Lib.hid (Rd.below V_xd.out hb0)
  replace V_tab := Lib.hid (tab_below V_tab.out hb0)
  have HB := Lib.hid hb0
  clear hb0
  have c0x := B_x.out.c0
  have c1x := B_x.out.c1
  have c2x := B_x.out.c2
  have c3x := B_x.out.c3
  go_enter Tryz.func9, Tryz.ntmps9
  go_wp2_with fail
  clear c0x c1x c2x c3x
  generalize w.alloc (.cells #[.bool sx, (.slice Ax kx cx), .bool tx, (.slice Cx lx dx)] 26) = W0 at *
  refine (awakeR _ (tab_below V_tab.out (by exact ⟨rfl, rfl, rfl, Nat.le_refl _, fun _ _ => rfl⟩))).mono ?_
  rintro e w1 ⟨rfl, bb⟩
  replace bb := nextw (w0 := W0) (by exact ⟨rfl, rfl, rfl, Nat.le_refl _, fun _ _ => rfl⟩) bb
  replace B_x := Lib.hid (BoxR.below B_x.out bb B_x.out.lt)
  replace V_xn := Lib.hid (Rd.below V_xn.out bb)
  replace V_xd := Lib.hid (Rd.below V_xd.out bb)
  replace V_tab := Lib.hid (tab_below V_tab.out bb)
  replace HB := Lib.hid (nextw HB.out bb)
  clear bb
  have c0x := B_x.out.c0
  have c1x := B_x.out.c1
  have c2x := B_x.out.c2
  have c3x := B_x.out.c3
  go_wp2_with fail
  refine (awakeR _ (tab_below V_tab.out (by exact ⟨rfl, rfl, rfl, Nat.le_refl _, fun _ _ => rfl⟩))).mono ?_
  rintro e w2 ⟨rfl, bb⟩
  replace bb := nextw (w0 := w1) (by exact ⟨rfl, rfl, rfl, Nat.le_refl _, fun _ _ => rfl⟩) bb
  clear c0x c1x c2x c3x
  replace B_x := Lib.hid (BoxR.below B_x.out bb B_x.out.lt)
  replace V_xn := Lib.hid (Rd.below V_xn.out bb)
  replace V_xd := Lib.hid (Rd.below V_xd.out bb)
  replace V_tab := Lib.hid (tab_below V_tab.out bb)
  replace HB := Lib.hid (nextw HB.out bb)
  clear bb
  have HBo := HB.out
  go_wp2
  go_ret
  exact ⟨rfl, nextw HBo (by exact ⟨rfl, rfl, rfl, Nat.le_refl _, fun _ _ => rfl⟩)⟩

set_option maxRecDepth 100000 in
set_option maxHeartbeats 16000000 in
theorem Adds_main {sx : Bool} {Ax : Option Addr} {kx cx : Nat} {tx : Bool} {Cx : Option Addr} {lx dx : Nat} {px qx : Int} {jx : Nat} (m n : Int) {w : World} (hx : Fd w (.agg #[.bool sx, .slice Ax kx cx, .bool tx, .slice Cx lx dx]) px qx jx) (htab : Tab10 w) (g0 : kx ≤ 1) (g1 : lx ≤ 1) (g2 : jx ≤ 1) (m1 : -9223372036854775808 ≤ m) (m2 : m ≤ 9223372036854775807) (n1 : -9223372036854775808 ≤ n) (n2 : n ≤ 9223372036854775807) :
    Calls Tryz.prog 9 #[.agg #[.bool sx, .slice Ax kx cx, .bool tx, .slice Cx lx dx], .int .i64 m, .int .i64 n] w fun e w' => e = .returned (.bool true) ∧ Below w.heap.size w w' := by
  have V_xn := Lib.hid hx.num
  have V_xd := Lib.hid hx.den
  have V_tab := Lib.hid htab
  clear hx htab
  have hb0 : Below w.heap.size w (w.alloc (.cells #[.bool sx, (.slice Ax kx cx), .bool tx, (.slice Cx lx dx)] 26)) := (Below.alloc (Below.refl w.heap.size w) (by simp <;> omega) _)
  have B_x : BoxR (w.alloc (.cells #[.bool sx, (.slice Ax kx cx), .bool tx, (.slice Cx lx dx)] 26)) (w.heap.size) sx (.slice Ax kx cx) tx (.slice Cx lx dx) := by have h := BoxR.new w sx (.slice Ax kx cx) tx (.slice Cx lx dx); simpa using h
  replace B_x := Lib.hid B_x
  replace V_xn := Lib.hid (Rd.below V_xn.out hb0)
  replace V_xd := Lib.hid (Rd.below V_xd.out hb0)
  replace V_tab := Lib.hid (tab_below V_tab.out hb0)
  have HB := Lib.hid hb0
  clear hb0
  have c0x := B_x.out.c0
  have c1x := B_x.out.c1
  have c2x := B_x.out.c2
  have c3x := B_x.out.c3
  go_enter Tryz.func9, Tryz.ntmps9
  go_wp2_with fail
  clear c0x c1x c2x c3x
  generalize w.alloc (.cells #[.bool sx, (.slice Ax kx cx), .bool tx, (.slice Cx lx dx)] 26) = W0 at *
  refine (awakeR _ (tab_below V_tab.out (by exact ⟨rfl, rfl, rfl, Nat.le_refl _, fun _ _ => rfl⟩))).mono ?_
  rintro e w1 ⟨rfl, bb⟩
  replace bb := nextw (w0 := W0) (by exact ⟨rfl, rfl, rfl, Nat.le_refl _, fun _ _ => rfl⟩) bb
  replace B_x := Lib.hid (BoxR.below B_x.out bb B_x.out.lt)
  replace V_xn := Lib.hid (Rd.below V_xn.out bb)
  replace V_xd := Lib.hid (Rd.below V_xd.out bb)
  replace V_tab := Lib.hid (tab_below V_tab.out bb)
  replace HB := Lib.hid (nextw HB.out bb)
  clear bb
  have c0x := B_x.out.c0
  have c1x := B_x.out.c1
  have c2x := B_x.out.c2
  have c3x := B_x.out.c3
  clear V_tab
  obtain ⟨u, hu⟩ : ∃ u, m % 33 = u := ⟨_, rfl⟩
  obtain ⟨v, hv⟩ : ∃ u, n % 33 = u := ⟨_, rfl⟩
  have u1 : 0 ≤ u := by omega
  have u2 : u < 33 := by omega
  have v1 : 0 ≤ v := by omega
  have v2 : v < 33 := by omega
  have HU := Lib.hid (fun w => Mod_as hu w m1 m2 (by omega) (by omega))
  have HV := Lib.hid (fun w => Mod_as hv w n1 n2 (by omega) (by omega))
  clear hu hv m1 m2 n1 n2
  go_wp2_with fail
  refine (HU.out _).mono ?_
  rintro e w2 ⟨rfl, bb⟩
  replace bb := nextw (w0 := w1) (by exact ⟨rfl, rfl, rfl, Nat.le_refl _, fun _ _ => rfl⟩) bb
  clear c0x c1x c2x c3x
  replace B_x := Lib.hid (BoxR.below B_x.out bb B_x.out.lt)
  replace V_xn := Lib.hid (Rd.below V_xn.out bb)
  replace V_xd := Lib.hid (Rd.below V_xd.out bb)
  replace HB := Lib.hid (nextw HB.out bb)
  clear bb
  go_wp2_with fail
  refine (HV.out _).mono ?_
  rintro e w3 ⟨rfl, bb⟩
  replace bb := nextw (w0 := w2) (by exact ⟨rfl, rfl, rfl, Nat.le_refl _, fun _ _ => rfl⟩) bb
  replace B_x := Lib.hid (BoxR.below B_x.out bb B_x.out.lt)
  replace V_xn := Lib.hid (Rd.below V_xn.out bb)
  replace V_xd := Lib.hid (Rd.below V_xd.out bb)
  replace HB := Lib.hid (nextw HB.out bb)
  clear bb
  have c0x := B_x.out.c0
  have c1x := B_x.out.c1
  have c2x := B_x.out.c2
  have c3x := B_x.out.c3
  go_wp2_with fail
  refine (Power_r (u - 16) (Fd.mk (Rd.below V_xn.out (by exact ⟨rfl, rfl, rfl, Nat.le_refl _, fun _ _ => rfl⟩)) (Rd.below V_xd.out (by exact ⟨rfl, rfl, rfl, Nat.le_refl _, fun _ _ => rfl⟩))) (by omega) (by omega) (by omega)).mono ?_
  rintro e w4 ⟨va, rfl, ra, bb⟩
  replace bb := nextw (w0 := w3) (by exact ⟨rfl, rfl, rfl, Nat.le_refl _, fun _ _ => rfl⟩) bb
  clear c0x c1x c2x c3x
  replace B_x := Lib.hid (BoxR.below B_x.out bb B_x.out.lt)
  replace V_xn := Lib.hid (Rd.below V_xn.out bb)
  replace V_xd := Lib.hid (Rd.below V_xd.out bb)
  replace HB := Lib.hid (nextw HB.out bb)
  clear bb
  obtain ⟨sa, Aa, ka, ca, ta, Ca, la, da, rfl⟩ := ra.shape
  have V_a := Lib.hid ra
  clear ra
  have hb0 : Below w4.heap.size w4 (w4.alloc (.cells #[.bool sa, (.slice Aa ka ca), .bool ta, (.slice Ca la da)] 26)) := (Below.alloc (Below.refl w4.heap.size w4) (by simp <;> omega) _)
  have B_a : BoxR (w4.alloc (.cells #[.bool sa, (.slice Aa ka ca), .bool ta, (.slice Ca la da)] 26)) (w4.heap.size) sa (.slice Aa ka ca) ta (.slice Ca la da) := by have h := BoxR.new w4 sa (.slice Aa ka ca) ta (.slice Ca la da); simpa using h
  replace B_a := Lib.hid B_a
  replace B_x := Lib.hid (BoxR.below B_x.out hb0 B_x.out.lt)
  replace V_xn := Lib.hid (Rd.below V_xn.out hb0)
  replace V_xd := Lib.hid (Rd.below V_xd.out hb0)
  replace V_a := Lib.hid (Gc.below V_a.out hb0)
  replace HB := Lib.hid (nextw HB.out hb0)
  clear hb0
  have c0x := B_x.out.c0
  have c1x := B_x.out.c1
  have c2x := B_x.out.c2
  have c3x := B_x.out.c3
  go_wp2_with fail
  clear c0x c1x c2x c3x
  generalize w4.alloc (.cells #[.bool sa, (.slice Aa ka ca), .bool ta, (.slice Ca la da)] 26) = W1 at *
  have c0x := B_x.out.c0
  have c1x := B_x.out.c1
  have c2x := B_x.out.c2
  have c3x := B_x.out.c3
  refine (Power_r (v - 16) (Fd.mk (Rd.below V_xn.out (by exact ⟨rfl, rfl, rfl, Nat.le_refl _, fun _ _ => rfl⟩)) (Rd.below V_xd.out (by exact ⟨rfl, rfl, rfl, Nat.le_refl _, fun _ _ => rfl⟩))) (by omega) (by omega) (by omega)).mono ?_
  rintro e w5 ⟨vb, rfl, rb, bb⟩
  replace bb := nextw (w0 := W1) (by exact ⟨rfl, rfl, rfl, Nat.le_refl _, fun _ _ => rfl⟩) bb
  clear c0x c1x c2x c3x
  replace B_x := Lib.hid (BoxR.below B_x.out bb B_x.out.lt)
  replace B_a := Lib.hid (BoxR.below B_a.out bb B_a.out.lt)
  replace V_xn := Lib.hid (Rd.below V_xn.out bb)
  replace V_xd := Lib.hid (Rd.below V_xd.out bb)
  replace V_a := Lib.hid (Gc.below V_a.out bb)
  replace HB := Lib.hid (nextw HB.out bb)
  clear bb
  obtain ⟨sb, Ab, kb, cb, tb, Cb, lb, db, rfl⟩ := rb.shape
  have V_b := Lib.hid rb
  clear rb
  have hb0 : Below w5.heap.size w5 (w5.alloc (.cells #[.bool sb, (.slice Ab kb cb), .bool tb, (.slice Cb lb db)] 26)) := (Below.alloc (Below.refl w5.heap.size w5) (by simp <;> omega) _)
  have B_b : BoxR (w5.alloc (.cells #[.bool sb, (.slice Ab kb cb), .bool tb, (.slice Cb lb db)] 26)) (w5.heap.size) sb (.slice Ab kb cb) tb (.slice Cb lb db) := by have h := BoxR.new w5 sb (.slice Ab kb cb) tb (.slice Cb lb db); simpa using h
  replace B_b := Lib.hid B_b
  replace B_x := Lib.hid (BoxR.below B_x.out hb0 B_x.out.lt)
  replace B_a := Lib.hid (BoxR.below B_a.out hb0 B_a.out.lt)
  replace V_xn := Lib.hid (Rd.below V_xn.out hb0)
  replace V_xd := Lib.hid (Rd.below V_xd.out hb0)
  replace V_a := Lib.hid (Gc.below V_a.out hb0)
  replace V_b := Lib.hid (Gc.below V_b.out hb0)
  replace HB := Lib.hid (nextw HB.out hb0)
  clear hb0
  have c0x := B_x.out.c0
  have c1x := B_x.out.c1
  have c2x := B_x.out.c2
  have c3x := B_x.out.c3
  go_wp2_with fail
  clear c0x c1x c2x c3x
  generalize w5.alloc (.cells #[.bool sb, (.slice Ab kb cb), .bool tb, (.slice Cb lb db)] 26) = W2 at *
  have c0x := B_x.out.c0
  have c1x := B_x.out.c1
  have c2x := B_x.out.c2
  have c3x := B_x.out.c3
  refine (Power_r (u - 16 + (v - 16)) (Fd.mk (Rd.below V_xn.out (by exact ⟨rfl, rfl, rfl, Nat.le_refl _, fun _ _ => rfl⟩)) (Rd.below V_xd.out (by exact ⟨rfl, rfl, rfl, Nat.le_refl _, fun _ _ => rfl⟩))) (by omega) (by omega) (by omega)).mono ?_
  rintro e w6 ⟨vg, rfl, rg, bb⟩
  replace bb := nextw (w0 := W2) (by exact ⟨rfl, rfl, rfl, Nat.le_refl _, fun _ _ => rfl⟩) bb
  clear c0x c1x c2x c3x
  replace B_x := Lib.hid (BoxR.below B_x.out bb B_x.out.lt)
  replace B_a := Lib.hid (BoxR.below B_a.out bb B_a.out.lt)
  replace B_b := Lib.hid (BoxR.below B_b.out bb B_b.out.lt)
  replace V_xn := Lib.hid (Rd.below V_xn.out bb)
  replace V_xd := Lib.hid (Rd.below V_xd.out bb)
  replace V_a := Lib.hid (Gc.below V_a.out bb)
  replace V_b := Lib.hid (Gc.below V_b.out bb)
  replace HB := Lib.hid (nextw HB.out bb)
  clear bb
  obtain ⟨sg, Ag, kg, cg, tg, Cg, lg, dg, rfl⟩ := rg.shape
  have V_g := Lib.hid rg
  clear rg
  have hb0 : Below w6.heap.size w6 (w6.alloc (.cells #[.bool sg, (.slice Ag kg cg), .bool tg, (.slice Cg lg dg)] 26)) := (Below.alloc (Below.refl w6.heap.size w6) (by simp <;> omega) _)
  have B_g : BoxR (w6.alloc (.cells #[.bool sg, (.slice Ag kg cg), .bool tg, (.slice Cg lg dg)] 26)) (w6.heap.size) sg (.slice Ag kg cg) tg (.slice Cg lg dg) := by have h := BoxR.new w6 sg (.slice Ag kg cg) tg (.slice Cg lg dg); simpa using h
  replace B_g := Lib.hid B_g
  replace B_x := Lib.hid (BoxR.below B_x.out hb0 B_x.out.lt)
  replace B_a := Lib.hid (BoxR.below B_a.out hb0 B_a.out.lt)
  replace B_b := Lib.hid (BoxR.below B_b.out hb0 B_b.out.lt)
  replace V_xn := Lib.hid (Rd.below V_xn.out hb0)
  replace V_xd := Lib.hid (Rd.below V_xd.out hb0)
  replace V_a := Lib.hid (Gc.below V_a.out hb0)
  replace V_b := Lib.hid (Gc.below V_b.out hb0)
  replace V_g := Lib.hid (Gc.below V_g.out hb0)
  replace HB := Lib.hid (nextw HB.out hb0)
  clear hb0
  have c0x := B_x.out.c0
  have c1x := B_x.out.c1
  have c2x := B_x.out.c2
  have c3x := B_x.out.c3
  go_wp2_with fail
  clear c0x c1x c2x c3x
  generalize w6.alloc (.cells #[.bool sg, (.slice Ag kg cg), .bool tg, (.slice Cg lg dg)] 26) = W3 at *
  refine (Inverse_r (Fd.mk (Rd.below V_xn.out (by exact ⟨rfl, rfl, rfl, Nat.le_refl _, fun _ _ => rfl⟩)) (Rd.below V_xd.out (by exact ⟨rfl, rfl, rfl, Nat.le_refl _, fun _ _ => rfl⟩))) (by omega)).mono ?_
  rintro e w7 ⟨vi, rfl, ri, bb⟩
  replace bb := nextw (w0 := W3) (by exact ⟨rfl, rfl, rfl, Nat.le_refl _, fun _ _ => rfl⟩) bb
  replace B_x := Lib.hid (BoxR.below B_x.out bb B_x.out.lt)
  replace B_a := Lib.hid (BoxR.below B_a.out bb B_a.out.lt)
  replace B_b := Lib.hid (BoxR.below B_b.out bb B_b.out.lt)
  replace B_g := Lib.hid (BoxR.below B_g.out bb B_g.out.lt)
  replace V_xn := Lib.hid (Rd.below V_xn.out bb)
  replace V_xd := Lib.hid (Rd.below V_xd.out bb)
  replace V_a := Lib.hid (Gc.below V_a.out bb)
  replace V_b := Lib.hid (Gc.below V_b.out bb)
  replace V_g := Lib.hid (Gc.below V_g.out bb)
  replace HB := Lib.hid (nextw HB.out bb)
  clear bb
  have V_i := Lib.hid ri
  clear ri
  have c0x := B_x.out.c0
  have c1x := B_x.out.c1
  have c2x := B_x.out.c2
  have c3x := B_x.out.c3
  go_wp2_with fail
  refine (Power_r (-(u - 16)) (Gc.fd (Gc.below V_i.out (by exact ⟨rfl, rfl, rfl, Nat.le_refl _, fun _ _ => rfl⟩))) (by omega) (by omega) (by omega)).mono ?_
  rintro e w8 ⟨vh, rfl, rh, bb⟩
  replace bb := nextw (w0 := w7) (by exact ⟨rfl, rfl, rfl, Nat.le_refl _, fun _ _ => rfl⟩) bb
  clear c0x c1x c2x c3x
  replace B_x := Lib.hid (BoxR.below B_x.out bb B_x.out.lt)
  replace B_a := Lib.hid (BoxR.below B_a.out bb B_a.out.lt)
  replace B_b := Lib.hid (BoxR.below B_b.out bb B_b.out.lt)
  replace B_g := Lib.hid (BoxR.below B_g.out bb B_g.out.lt)
  replace V_xn := Lib.hid (Rd.below V_xn.out bb)
  replace V_xd := Lib.hid (Rd.below V_xd.out bb)
  replace V_a := Lib.hid (Gc.below V_a.out bb)
  replace V_b := Lib.hid (Gc.below V_b.out bb)
  replace V_g := Lib.hid (Gc.below V_g.out bb)
  replace V_i := Lib.hid (Gc.below V_i.out bb)
  replace HB := Lib.hid (nextw HB.out bb)
  clear bb
  obtain ⟨sh, Ah, kh, ch, th, Ch, lh, dh, rfl⟩ := rh.shape
  have V_h := Lib.hid rh
  clear rh
  have hb0 : Below w8.heap.size w8 (w8.alloc (.cells #[.bool sh, (.slice Ah kh ch), .bool th, (.slice Ch lh dh)] 26)) := (Below.alloc (Below.refl w8.heap.size w8) (by simp <;> omega) _)
  have B_h : BoxR (w8.alloc (.cells #[.bool sh, (.slice Ah kh ch), .bool th, (.slice Ch lh dh)] 26)) (w8.heap.size) sh (.slice Ah kh ch) th (.slice Ch lh dh) := by have h := BoxR.new w8 sh (.slice Ah kh ch) th (.slice Ch lh dh); simpa using h
  replace B_h := Lib.hid B_h
  replace B_x := Lib.hid (BoxR.below B_x.out hb0 B_x.out.lt)
  replace B_a := Lib.hid (BoxR.below B_a.out hb0 B_a.out.lt)
  replace B_b := Lib.hid (BoxR.below B_b.out hb0 B_b.out.lt)
  replace B_g := Lib.hid (BoxR.below B_g.out hb0 B_g.out.lt)
  replace V_xn := Lib.hid (Rd.below V_xn.out hb0)
  replace V_xd := Lib.hid (Rd.below V_xd.out hb0)
  replace V_a := Lib.hid (Gc.below V_a.out hb0)
  replace V_b := Lib.hid (Gc.below V_b.out hb0)
  replace V_g := Lib.hid (Gc.below V_g.out hb0)
  replace V_i := Lib.hid (Gc.below V_i.out hb0)
  replace V_h := Lib.hid (Gc.below V_h.out hb0)
  replace HB := Lib.hid (nextw HB.out hb0)
  clear hb0
  have c0x := B_x.out.c0
  have c1x := B_x.out.c1
  have c2x := B_x.out.c2
  have c3x := B_x.out.c3
  have c0a := B_a.out.c0
  have c1a := B_a.out.c1
  have c2a := B_a.out.c2
  have c3a := B_a.out.c3
  have c0b := B_b.out.c0
  have c1b := B_b.out.c1
  have c2b := B_b.out.c2
  have c3b := B_b.out.c3
  have c0g := B_g.out.c0
  have c1g := B_g.out.c1
  have c2g := B_g.out.c2
  have c3g := B_g.out.c3
  have c0h := B_h.out.c0
  have c1h := B_h.out.c1
  have c2h := B_h.out.c2
  have c3h := B_h.out.c3
  go_wp2
  clear c0x c1x c2x c3x c0a c1a c2a c3a c0b c1b c2b c3b c0g c1g c2g c3g c0h c1h c2h c3h
  generalize w8.alloc (.cells #[.bool sh, (.slice Ah kh ch), .bool th, (.slice Ch lh dh)] 26) = W4 at *
  have c0a := B_a.out.c0
  have c1a := B_a.out.c1
  have c2a := B_a.out.c2
  have c3a := B_a.out.c3
  have c0b := B_b.out.c0
  have c1b := B_b.out.c1
  have c2b := B_b.out.c2
  have c3b := B_b.out.c3
  have c0g := B_g.out.c0
  have c1g := B_g.out.c1
  have c2g := B_g.out.c2
  have c3g := B_g.out.c3
  have c0h := B_h.out.c0
  have c1h := B_h.out.c1
  have c2h := B_h.out.c2
  have c3h := B_h.out.c3
  have tk1x0 : True := trivial
  first | (go_region_held3 (fun w' => w'.cell? ⟨w4.heap.size, 0, none⟩ = some (.bool sa) ∧ w'.cell? ⟨w4.heap.size, 1, none⟩ = some (.slice Aa ka ca) ∧ w'.cell? ⟨w4.heap.size, 2, none⟩ = some (.bool ta) ∧ w'.cell? ⟨w4.heap.size, 3, none⟩ = some (.slice Ca la da) ∧ w'.cell? ⟨w5.heap.size, 0, none⟩ = some (.bool sb) ∧ w'.cell? ⟨w5.heap.size, 1, none⟩ = some (.slice Ab kb cb) ∧ w'.cell? ⟨w5.heap.size, 2, none⟩ = some (.bool tb) ∧ w'.cell? ⟨w5.heap.size, 3, none⟩ = some (.slice Cb lb db) ∧ w'.cell? ⟨w6.heap.size, 0, none⟩ = some (.bool sg) ∧ w'.cell? ⟨w6.heap.size, 1, none⟩ = some (.slice Ag kg cg) ∧ w'.cell? ⟨w6.heap.size, 2, none⟩ = some (.bool tg) ∧ w'.cell? ⟨w6.heap.size, 3, none⟩ = some (.slice Cg lg dg) ∧ w'.cell? ⟨w8.heap.size, 0, none⟩ = some (.bool sh) ∧ w'.cell? ⟨w8.heap.size, 1, none⟩ = some (.slice Ah kh ch) ∧ w'.cell? ⟨w8.heap.size, 2, none⟩ = some (.bool th) ∧ w'.cell? ⟨w8.heap.size, 3, none⟩ = some (.slice Ch lh dh)) (((try dsimp only); (repeat' apply And.intro) <;> (first | (with_reducible assumption) | ((repeat (first | (with_reducible refine Eq.trans (cell_drew1 _ _) ?_) | (with_reducible refine Eq.trans (cell_set4 (by omega) _ _ _ _) ?_))); with_reducible assumption) | assumption | go_keep)))
    (first
      | (clear tk1x0; go_at_call 13; refine (Then_r (Gc.fd (Gc.below V_a.out (by exact ⟨rfl, rfl, rfl, Nat.le_refl _, fun _ _ => rfl⟩))) (Gc.fd (Gc.below V_b.out (by exact ⟨rfl, rfl, rfl, Nat.le_refl _, fun _ _ => rfl⟩))) (by omega) (by omega)).mono ?_; rintro e w9 ⟨vt, rfl, rt, bb⟩; replace bb := nextw (w0 := W4) (by exact ⟨rfl, rfl, rfl, Nat.le_refl _, fun _ _ => rfl⟩) bb; clear V_xn V_xd V_b V_i; replace B_x := Lib.hid (BoxR.below B_x.out bb B_x.out.lt); replace B_a := Lib.hid (BoxR.below B_a.out bb B_a.out.lt); replace B_b := Lib.hid (BoxR.below B_b.out bb B_b.out.lt); replace B_g := Lib.hid (BoxR.below B_g.out bb B_g.out.lt); replace B_h := Lib.hid (BoxR.below B_h.out bb B_h.out.lt); replace V_a := Lib.hid (Gc.below V_a.out bb); replace V_g := Lib.hid (Gc.below V_g.out bb); replace V_h := Lib.hid (Gc.below V_h.out bb); replace HB := Lib.hid (nextw HB.out bb); clear bb; replace rt := Lib.hid rt; have V_t := rt; clear rt; clear c0a c1a c2a c3a c0b c1b c2b c3b c0g c1g c2g c3g c0h c1h c2h c3h; have c0a := B_a.out.c0; have c1a := B_a.out.c1; have c2a := B_a.out.c2; have c3a := B_a.out.c3; have c0b := B_b.out.c0; have c1b := B_b.out.c1; have c2b := B_b.out.c2; have c3b := B_b.out.c3; have c0g := B_g.out.c0; have c1g := B_g.out.c1; have c2g := B_g.out.c2; have c3g := B_g.out.c3; have c0h := B_h.out.c0; have c1h := B_h.out.c1; have c2h := B_h.out.c2; have c3h := B_h.out.c3; have tk1x1 : True := trivial)
      | (clear tk1x1; go_at_call 14; refine (BRot_g (Gc.below V_t.out (by exact ⟨rfl, rfl, rfl, Nat.le_refl _, fun _ _ => rfl⟩)) (Gc.below V_g.out (by exact ⟨rfl, rfl, rfl, Nat.le_refl _, fun _ _ => rfl⟩)) (by omega) (by omega) ((pw_add _ _ _ _).1) ((pw_add _ _ _ _).2)).mono ?_; rintro e w10 ⟨rfl, bb⟩; replace bb := nextw (w0 := w9) (by exact ⟨rfl, rfl, rfl, Nat.le_refl _, fun _ _ => rfl⟩) bb; clear V_t; replace B_x := Lib.hid (BoxR.below B_x.out bb B_x.out.lt); replace B_a := Lib.hid (BoxR.below B_a.out bb B_a.out.lt); replace B_b := Lib.hid (BoxR.below B_b.out bb B_b.out.lt); replace B_g := Lib.hid (BoxR.below B_g.out bb B_g.out.lt); replace B_h := Lib.hid (BoxR.below B_h.out bb B_h.out.lt); replace V_a := Lib.hid (Gc.below V_a.out bb); replace V_g := Lib.hid (Gc.below V_g.out bb); replace V_h := Lib.hid (Gc.below V_h.out bb); replace HB := Lib.hid (nextw HB.out bb); clear bb; clear c0a c1a c2a c3a c0b c1b c2b c3b c0g c1g c2g c3g c0h c1h c2h c3h; have c0a := B_a.out.c0; have c1a := B_a.out.c1; have c2a := B_a.out.c2; have c3a := B_a.out.c3; have c0b := B_b.out.c0; have c1b := B_b.out.c1; have c2b := B_b.out.c2; have c3b := B_b.out.c3; have c0g := B_g.out.c0; have c1g := B_g.out.c1; have c2g := B_g.out.c2; have c3g := B_g.out.c3; have c0h := B_h.out.c0; have c1h := B_h.out.c1; have c2h := B_h.out.c2; have c3h := B_h.out.c3; have tk1x2 : True := trivial)
      | (clear tk1x2; go_at_call 14; refine (BRot_g (Gc.below V_h.out (by exact ⟨rfl, rfl, rfl, Nat.le_refl _, fun _ _ => rfl⟩)) (Gc.below V_a.out (by exact ⟨rfl, rfl, rfl, Nat.le_refl _, fun _ _ => rfl⟩)) (by omega) (by omega) ((pw_inv _ _ _).1) ((pw_inv _ _ _).2)).mono ?_; rintro e w11 ⟨rfl, bb⟩; replace bb := nextw (w0 := w10) (by exact ⟨rfl, rfl, rfl, Nat.le_refl _, fun _ _ => rfl⟩) bb; replace B_x := Lib.hid (BoxR.below B_x.out bb B_x.out.lt); replace B_a := Lib.hid (BoxR.below B_a.out bb B_a.out.lt); replace B_b := Lib.hid (BoxR.below B_b.out bb B_b.out.lt); replace B_g := Lib.hid (BoxR.below B_g.out bb B_g.out.lt); replace B_h := Lib.hid (BoxR.below B_h.out bb B_h.out.lt); replace V_a := Lib.hid (Gc.below V_a.out bb); replace V_g := Lib.hid (Gc.below V_g.out bb); replace V_h := Lib.hid (Gc.below V_h.out bb); replace HB := Lib.hid (nextw HB.out bb); clear bb; clear c0a c1a c2a c3a c0b c1b c2b c3b c0g c1g c2g c3g c0h c1h c2h c3h; have c0a := B_a.out.c0; have c1a := B_a.out.c1; have c2a := B_a.out.c2; have c3a := B_a.out.c3; have c0b := B_b.out.c0; have c1b := B_b.out.c1; have c2b := B_b.out.c2; have c3b := B_b.out.c3; have c0g := B_g.out.c0; have c1g := B_g.out.c1; have c2g := B_g.out.c2; have c3g := B_g.out.c3; have c0h := B_h.out.c0; have c1h := B_h.out.c1; have c2h := B_h.out.c2; have c3h := B_h.out.c3; have tk1x3 : True := trivial))) | fail
  have HBo := HB.out
  go_wp2
  go_ret
  exact ⟨rfl, nextw HBo (by exact ⟨rfl, rfl, rfl, Nat.le_refl _, fun _ _ => rfl⟩)⟩

theorem Adds_any {sx : Bool} {Ax : Option Addr} {kx cx : Nat} {tx : Bool} {Cx : Option Addr} {lx dx : Nat} {px qx : Int} {jx : Nat} (m n : Int) {w : World} (hx : Fd w (.agg #[.bool sx, .slice Ax kx cx, .bool tx, .slice Cx lx dx]) px qx jx) (htab : Tab10 w) (m1 : -9223372036854775808 ≤ m) (m2 : m ≤ 9223372036854775807) (n1 : -9223372036854775808 ≤ n) (n2 : n ≤ 9223372036854775807) (hj : jx = max kx lx) (mx : kx ≤ 9223372036854775807 ∧ lx ≤ 9223372036854775807) : Calls Tryz.prog 9 #[.agg #[.bool sx, .slice Ax kx cx, .bool tx, .slice Cx lx dx], .int .i64 m, .int .i64 n] w fun e w' => e = .returned (.bool true) ∧ Below w.heap.size w w' := by
  by_cases g0 : kx ≤ 1
  · by_cases g1 : lx ≤ 1
    · exact Adds_main m n hx htab g0 g1 (by omega) m1 m2 n1 n2
    · exact Adds_long1 m n hx htab g0 mx.2 (by omega)
  · exact Adds_long0 m n hx htab mx.1 (by omega)
end Go.Proofs.YtccndofafljaaaaGreatDoor
