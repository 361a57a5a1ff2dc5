/- Package rotation: Act. -/
import Derived.Test.YtccndofafljaaaaGreatDoorRot5
import Derived.Test.YtccndofafljaaaaGreatDoorRotF

set_option linter.unusedVariables false
set_option linter.unusedSimpArgs false

namespace Go.Proofs.YtccndofafljaaaaGreatDoor
open Go Go.RowKit Num

set_option maxRecDepth 100000 in
set_option maxHeartbeats 16000000 in
theorem Act_r {str : Bool} {Atr : Option Addr} {ktr ctr : Nat} {ttr : Bool} {Ctr : Option Addr} {ltr dtr : Nat} {stx : Bool} {Atx : Option Addr} {ktx ctx : Nat} {ttx : Bool} {Ctx : Option Addr} {ltx dtx : Nat} {sty : Bool} {Aty : Option Addr} {kty cty : Nat} {tty : Bool} {Cty : Option Addr} {lty dty : Nat} {va vb : Value} {p q : Int} {X Y ra rb : Rat} {k i j : Nat} {w : World} (h : Fd w (.agg #[.bool str, .slice Atr ktr ctr, .bool ttr, .slice Ctr ltr dtr]) p q k) (hX : Qd w (.agg #[.bool stx, .slice Atx ktx ctx, .bool ttx, .slice Ctx ltx dtx]) X i) (hY : Qd w (.agg #[.bool sty, .slice Aty kty cty, .bool tty, .slice Cty lty dty]) Y i) (ha : Qd w va ra j) (hb : Qd w vb rb j) (f : k ≤ 200) (g : j ≤ 900) (f2 : i ≤ 2000) (g2 : 1 ≤ i) :
    Calls Tryz.prog 27 #[.agg #[.bool str, .slice Atr ktr ctr, .bool ttr, .slice Ctr ltr dtr, .bool stx, .slice Atx ktx ctx, .bool ttx, .slice Ctx ltx dtx, .bool sty, .slice Aty kty cty, .bool tty, .slice Cty lty dty], va, vb] w fun e w' => ∃ x y, e = .returned (.tuple #[x, y]) ∧ Qc w' x (cosQ p q * ra - sinQ p q * rb + X) (8 * k + 2 * j + 27 + i + 1) ∧ Qc w' y (sinQ p q * ra + cosQ p q * rb + Y) (8 * k + 2 * j + 27 + i + 1) ∧ Below w.heap.size w w' := by
  have V_trn := Lib.hid h.num
  have V_trd := Lib.hid h.den
  have V_tx := Lib.hid hX
  have V_ty := Lib.hid hY
  clear h hX hY
  obtain ⟨sa, Aa, ka, ca, ta, Ca, la, da, rfl⟩ := ha.shape
  obtain ⟨sb, Ab, kb, cb, tb, Cb, lb, db, rfl⟩ := hb.shape
  have V_a := Lib.hid ha
  have V_b := Lib.hid hb
  clear ha hb
  have hb0 : Below w.heap.size w (((((w.alloc (.cells #[.bool str, (.slice Atr ktr ctr), .bool ttr, (.slice Ctr ltr dtr), .bool stx, (.slice Atx ktx ctx), .bool ttx, (.slice Ctx ltx dtx), .bool sty, (.slice Aty kty cty), .bool tty, (.slice Cty lty dty)] 44)).alloc (.cells #[.bool sa, (.slice Aa ka ca), .bool ta, (.slice Ca la da)] 35)).alloc (.cells #[.bool sb, (.slice Ab kb cb), .bool tb, (.slice Cb lb db)] 35)).alloc (.cells #[.bool false, (.slice none 0 0), .bool false, (.slice none 0 0)] 35)).alloc (.cells #[.bool false, (.slice none 0 0), .bool false, (.slice none 0 0)] 35)) := (Below.alloc (Below.alloc (Below.alloc (Below.alloc (Below.alloc (Below.refl w.heap.size w) (by simp <;> omega) _) (by simp <;> omega) _) (by simp <;> omega) _) (by simp <;> omega) _) (by simp <;> omega) _)
  have B_t : Box12 (((((w.alloc (.cells #[.bool str, (.slice Atr ktr ctr), .bool ttr, (.slice Ctr ltr dtr), .bool stx, (.slice Atx ktx ctx), .bool ttx, (.slice Ctx ltx dtx), .bool sty, (.slice Aty kty cty), .bool tty, (.slice Cty lty dty)] 44)).alloc (.cells #[.bool sa, (.slice Aa ka ca), .bool ta, (.slice Ca la da)] 35)).alloc (.cells #[.bool sb, (.slice Ab kb cb), .bool tb, (.slice Cb lb db)] 35)).alloc (.cells #[.bool false, (.slice none 0 0), .bool false, (.slice none 0 0)] 35)).alloc (.cells #[.bool false, (.slice none 0 0), .bool false, (.slice none 0 0)] 35)) (w.heap.size) str (.slice Atr ktr ctr) ttr (.slice Ctr ltr dtr) stx (.slice Atx ktx ctx) ttx (.slice Ctx ltx dtx) sty (.slice Aty kty cty) tty (.slice Cty lty dty) := by have h := Box12.alloc (Box12.alloc (Box12.alloc (Box12.alloc (Box12.new w str (.slice Atr ktr ctr) ttr (.slice Ctr ltr dtr) stx (.slice Atx ktx ctx) ttx (.slice Ctx ltx dtx) sty (.slice Aty kty cty) tty (.slice Cty lty dty)) (.cells #[.bool sa, (.slice Aa ka ca), .bool ta, (.slice Ca la da)] 35)) (.cells #[.bool sb, (.slice Ab kb cb), .bool tb, (.slice Cb lb db)] 35)) (.cells #[.bool false, (.slice none 0 0), .bool false, (.slice none 0 0)] 35)) (.cells #[.bool false, (.slice none 0 0), .bool false, (.slice none 0 0)] 35); simpa using h
  replace B_t := Lib.hid B_t
  have B_a : Box4 (((((w.alloc (.cells #[.bool str, (.slice Atr ktr ctr), .bool ttr, (.slice Ctr ltr dtr), .bool stx, (.slice Atx ktx ctx), .bool ttx, (.slice Ctx ltx dtx), .bool sty, (.slice Aty kty cty), .bool tty, (.slice Cty lty dty)] 44)).alloc (.cells #[.bool sa, (.slice Aa ka ca), .bool ta, (.slice Ca la da)] 35)).alloc (.cells #[.bool sb, (.slice Ab kb cb), .bool tb, (.slice Cb lb db)] 35)).alloc (.cells #[.bool false, (.slice none 0 0), .bool false, (.slice none 0 0)] 35)).alloc (.cells #[.bool false, (.slice none 0 0), .bool false, (.slice none 0 0)] 35)) (w.heap.size + 1) sa (.slice Aa ka ca) ta (.slice Ca la da) := by have h := Box4.alloc (Box4.alloc (Box4.alloc (Box4.new (w.alloc (.cells #[.bool str, (.slice Atr ktr ctr), .bool ttr, (.slice Ctr ltr dtr), .bool stx, (.slice Atx ktx ctx), .bool ttx, (.slice Ctx ltx dtx), .bool sty, (.slice Aty kty cty), .bool tty, (.slice Cty lty dty)] 44)) sa (.slice Aa ka ca) ta (.slice Ca la da)) (.cells #[.bool sb, (.slice Ab kb cb), .bool tb, (.slice Cb lb db)] 35)) (.cells #[.bool false, (.slice none 0 0), .bool false, (.slice none 0 0)] 35)) (.cells #[.bool false, (.slice none 0 0), .bool false, (.slice none 0 0)] 35); simpa using h
  replace B_a := Lib.hid B_a
  have B_b : Box4 (((((w.alloc (.cells #[.bool str, (.slice Atr ktr ctr), .bool ttr, (.slice Ctr ltr dtr), .bool stx, (.slice Atx ktx ctx), .bool ttx, (.slice Ctx ltx dtx), .bool sty, (.slice Aty kty cty), .bool tty, (.slice Cty lty dty)] 44)).alloc (.cells #[.bool sa, (.slice Aa ka ca), .bool ta, (.slice Ca la da)] 35)).alloc (.cells #[.bool sb, (.slice Ab kb cb), .bool tb, (.slice Cb lb db)] 35)).alloc (.cells #[.bool false, (.slice none 0 0), .bool false, (.slice none 0 0)] 35)).alloc (.cells #[.bool false, (.slice none 0 0), .bool false, (.slice none 0 0)] 35)) (w.heap.size + 1 + 1) sb (.slice Ab kb cb) tb (.slice Cb lb db) := by have h := Box4.alloc (Box4.alloc (Box4.new ((w.alloc (.cells #[.bool str, (.slice Atr ktr ctr), .bool ttr, (.slice Ctr ltr dtr), .bool stx, (.slice Atx ktx ctx), .bool ttx, (.slice Ctx ltx dtx), .bool sty, (.slice Aty kty cty), .bool tty, (.slice Cty lty dty)] 44)).alloc (.cells #[.bool sa, (.slice Aa ka ca), .bool ta, (.slice Ca la da)] 35)) sb (.slice Ab kb cb) tb (.slice Cb lb db)) (.cells #[.bool false, (.slice none 0 0), .bool false, (.slice none 0 0)] 35)) (.cells #[.bool false, (.slice none 0 0), .bool false, (.slice none 0 0)] 35); simpa using h
  replace B_b := Lib.hid B_b
  have B_u : Box4 (((((w.alloc (.cells #[.bool str, (.slice Atr ktr ctr), .bool ttr, (.slice Ctr ltr dtr), .bool stx, (.slice Atx ktx ctx), .bool ttx, (.slice Ctx ltx dtx), .bool sty, (.slice Aty kty cty), .bool tty, (.slice Cty lty dty)] 44)).alloc (.cells #[.bool sa, (.slice Aa ka ca), .bool ta, (.slice Ca la da)] 35)).alloc (.cells #[.bool sb, (.slice Ab kb cb), .bool tb, (.slice Cb lb db)] 35)).alloc (.cells #[.bool false, (.slice none 0 0), .bool false, (.slice none 0 0)] 35)).alloc (.cells #[.bool false, (.slice none 0 0), .bool false, (.slice none 0 0)] 35)) (w.heap.size + 1 + 1 + 1) false (.slice none 0 0) false (.slice none 0 0) := by have h := Box4.alloc (Box4.new (((w.alloc (.cells #[.bool str, (.slice Atr ktr ctr), .bool ttr, (.slice Ctr ltr dtr), .bool stx, (.slice Atx ktx ctx), .bool ttx, (.slice Ctx ltx dtx), .bool sty, (.slice Aty kty cty), .bool tty, (.slice Cty lty dty)] 44)).alloc (.cells #[.bool sa, (.slice Aa ka ca), .bool ta, (.slice Ca la da)] 35)).alloc (.cells #[.bool sb, (.slice Ab kb cb), .bool tb, (.slice Cb lb db)] 35)) false (.slice none 0 0) false (.slice none 0 0)) (.cells #[.bool false, (.slice none 0 0), .bool false, (.slice none 0 0)] 35); simpa using h
  replace B_u := Lib.hid B_u
  have B_v : Box4 (((((w.alloc (.cells #[.bool str, (.slice Atr ktr ctr), .bool ttr, (.slice Ctr ltr dtr), .bool stx, (.slice Atx ktx ctx), .bool ttx, (.slice Ctx ltx dtx), .bool sty, (.slice Aty kty cty), .bool tty, (.slice Cty lty dty)] 44)).alloc (.cells #[.bool sa, (.slice Aa ka ca), .bool ta, (.slice Ca la da)] 35)).alloc (.cells #[.bool sb, (.slice Ab kb cb), .bool tb, (.slice Cb lb db)] 35)).alloc (.cells #[.bool false, (.slice none 0 0), .bool false, (.slice none 0 0)] 35)).alloc (.cells #[.bool false, (.slice none 0 0), .bool false, (.slice none 0 0)] 35)) (w.heap.size + 1 + 1 + 1 + 1) false (.slice none 0 0) false (.slice none 0 0) := by have h := Box4.new ((((w.alloc (.cells #[.bool str, (.slice Atr ktr ctr), .bool ttr, (.slice Ctr ltr dtr), .bool stx, (.slice Atx ktx ctx), .bool ttx, (.slice Ctx ltx dtx), .bool sty, (.slice Aty kty cty), .bool tty, (.slice Cty lty dty)] 44)).alloc (.cells #[.bool sa, (.slice Aa ka ca), .bool ta, (.slice Ca la da)] 35)).alloc (.cells #[.bool sb, (.slice Ab kb cb), .bool tb, (.slice Cb lb db)] 35)).alloc (.cells #[.bool false, (.slice none 0 0), .bool false, (.slice none 0 0)] 35)) false (.slice none 0 0) false (.slice none 0 0); simpa using h
  replace B_v := Lib.hid B_v
  replace V_trn := Lib.hid (Rd.below V_trn.out hb0)
  replace V_trd := Lib.hid (Rd.below V_trd.out hb0)
  replace V_tx := Lib.hid (Qd.below V_tx.out hb0)
  replace V_ty := Lib.hid (Qd.below V_ty.out hb0)
  replace V_a := Lib.hid (Qd.below V_a.out hb0)
  replace V_b := Lib.hid (Qd.below V_b.out hb0)
  have HB := Lib.hid hb0
  clear hb0
  have c0t := B_t.out.c0
  have c1t := B_t.out.c1
  have c2t := B_t.out.c2
  have c3t := B_t.out.c3
  have c4t := B_t.out.c4
  have c5t := B_t.out.c5
  have c6t := B_t.out.c6
  have c7t := B_t.out.c7
  have c8t := B_t.out.c8
  have c9t := B_t.out.c9
  have c10t := B_t.out.c10
  have c11t := B_t.out.c11
  have c0a := B_a.out.c0
  have c1a := B_a.out.c1
  have c2a := B_a.out.c2
  have c3a := B_a.out.c3
  have c0b := B_b.out.c0
  have c1b := B_b.out.c1
  have c2b := B_b.out.c2
  have c3b := B_b.out.c3
  have c0u := B_u.out.c0
  have c1u := B_u.out.c1
  have c2u := B_u.out.c2
  have c3u := B_u.out.c3
  have c0v := B_v.out.c0
  have c1v := B_v.out.c1
  have c2v := B_v.out.c2
  have c3v := B_v.out.c3
  go_enter Tryz.func27, Tryz.ntmps27
  go_wp2_with fail
  clear c0t c1t c2t c3t c4t c5t c6t c7t c8t c9t c10t c11t c0a c1a c2a c3a c0b c1b c2b c3b c0u c1u c2u c3u c0v c1v c2v c3v
  generalize ((((w.alloc (.cells #[.bool str, (.slice Atr ktr ctr), .bool ttr, (.slice Ctr ltr dtr), .bool stx, (.slice Atx ktx ctx), .bool ttx, (.slice Ctx ltx dtx), .bool sty, (.slice Aty kty cty), .bool tty, (.slice Cty lty dty)] 44)).alloc (.cells #[.bool sa, (.slice Aa ka ca), .bool ta, (.slice Ca la da)] 35)).alloc (.cells #[.bool sb, (.slice Ab kb cb), .bool tb, (.slice Cb lb db)] 35)).alloc (.cells #[.bool false, (.slice none 0 0), .bool false, (.slice none 0 0)] 35)).alloc (.cells #[.bool false, (.slice none 0 0), .bool false, (.slice none 0 0)] 35) = W0 at *
  refine (Turn_r (Fd.mk (Rd.below V_trn.out (by exact ⟨rfl, rfl, rfl, Nat.le_refl _, fun _ _ => rfl⟩)) (Rd.below V_trd.out (by exact ⟨rfl, rfl, rfl, Nat.le_refl _, fun _ _ => rfl⟩))) (Qd.below V_a.out (by exact ⟨rfl, rfl, rfl, Nat.le_refl _, fun _ _ => rfl⟩)) (Qd.below V_b.out (by exact ⟨rfl, rfl, rfl, Nat.le_refl _, fun _ _ => rfl⟩)) (by omega) (by omega)).mono ?_
  rintro e w1 ⟨vX, vY, rfl, rX, rY, bb⟩
  replace bb := nextw (w0 := W0) (by exact ⟨rfl, rfl, rfl, Nat.le_refl _, fun _ _ => rfl⟩) bb
  replace B_t := Lib.hid (Box12.below B_t.out bb B_t.out.lt)
  replace B_a := Lib.hid (Box4.below B_a.out bb B_a.out.lt)
  replace B_b := Lib.hid (Box4.below B_b.out bb B_b.out.lt)
  replace B_u := Lib.hid (Box4.below B_u.out bb B_u.out.lt)
  replace B_v := Lib.hid (Box4.below B_v.out bb B_v.out.lt)
  replace V_trn := Lib.hid (Rd.below V_trn.out bb)
  replace V_trd := Lib.hid (Rd.below V_trd.out bb)
  replace V_tx := Lib.hid (Qd.below V_tx.out bb)
  replace V_ty := Lib.hid (Qd.below V_ty.out bb)
  replace V_a := Lib.hid (Qd.below V_a.out bb)
  replace V_b := Lib.hid (Qd.below V_b.out bb)
  replace HB := Lib.hid (nextw HB.out bb)
  clear bb
  obtain ⟨sX, AX, kX, cX, tX, CX, lX, dX, rfl⟩ := rX.shape
  obtain ⟨sY, AY, kY, cY, tY, CY, lY, dY, rfl⟩ := rY.shape
  have V_X := Lib.hid rX
  have V_Y := Lib.hid rY
  clear rX rY V_trn V_trd V_a V_b
  have Z1t := Lib.hid B_t.out.lt
  have Z2a := Lib.hid B_a.out.lt
  have Z3b := Lib.hid B_b.out.lt
  have Z4u := Lib.hid B_u.out.lt
  have Z5v := Lib.hid B_v.out.lt
  have hb0 : Below w1.heap.size w1 ((w1.alloc (.cells #[.bool sX, (.slice AX kX cX), .bool tX, (.slice CX lX dX)] 35)).alloc (.cells #[.bool sY, (.slice AY kY cY), .bool tY, (.slice CY lY dY)] 35)) := (Below.alloc (Below.alloc (Below.refl w1.heap.size w1) (by simp <;> omega) _) (by simp <;> omega) _)
  have B_X : Box4 ((w1.alloc (.cells #[.bool sX, (.slice AX kX cX), .bool tX, (.slice CX lX dX)] 35)).alloc (.cells #[.bool sY, (.slice AY kY cY), .bool tY, (.slice CY lY dY)] 35)) (w1.heap.size) sX (.slice AX kX cX) tX (.slice CX lX dX) := by have h := Box4.alloc (Box4.new w1 sX (.slice AX kX cX) tX (.slice CX lX dX)) (.cells #[.bool sY, (.slice AY kY cY), .bool tY, (.slice CY lY dY)] 35); simpa using h
  replace B_X := Lib.hid B_X
  have B_Y : Box4 ((w1.alloc (.cells #[.bool sX, (.slice AX kX cX), .bool tX, (.slice CX lX dX)] 35)).alloc (.cells #[.bool sY, (.slice AY kY cY), .bool tY, (.slice CY lY dY)] 35)) (w1.heap.size + 1) sY (.slice AY kY cY) tY (.slice CY lY dY) := by have h := Box4.new (w1.alloc (.cells #[.bool sX, (.slice AX kX cX), .bool tX, (.slice CX lX dX)] 35)) sY (.slice AY kY cY) tY (.slice CY lY dY); simpa using h
  replace B_Y := Lib.hid B_Y
  replace B_t := Lib.hid (Box12.below B_t.out hb0 B_t.out.lt)
  replace B_a := Lib.hid (Box4.below B_a.out hb0 B_a.out.lt)
  replace B_b := Lib.hid (Box4.below B_b.out hb0 B_b.out.lt)
  replace B_u := Lib.hid (Box4.below B_u.out hb0 B_u.out.lt)
  replace B_v := Lib.hid (Box4.below B_v.out hb0 B_v.out.lt)
  replace V_tx := Lib.hid (Qd.below V_tx.out hb0)
  replace V_ty := Lib.hid (Qd.below V_ty.out hb0)
  replace V_X := Lib.hid (Qc.below V_X.out hb0)
  replace V_Y := Lib.hid (Qc.below V_Y.out hb0)
  replace HB := Lib.hid (nextw HB.out hb0)
  clear hb0
  have c0t := B_t.out.c0
  have c1t := B_t.out.c1
  have c2t := B_t.out.c2
  have c3t := B_t.out.c3
  have c4t := B_t.out.c4
  have c5t := B_t.out.c5
  have c6t := B_t.out.c6
  have c7t := B_t.out.c7
  have c8t := B_t.out.c8
  have c9t := B_t.out.c9
  have c10t := B_t.out.c10
  have c11t := B_t.out.c11
  have f0t := B_t.out.f0
  have f1t := B_t.out.f1
  have f2t := B_t.out.f2
  have f3t := B_t.out.f3
  have f4t := B_t.out.f4
  have f5t := B_t.out.f5
  have f6t := B_t.out.f6
  have f7t := B_t.out.f7
  have f8t := B_t.out.f8
  have f9t := B_t.out.f9
  have f10t := B_t.out.f10
  have f11t := B_t.out.f11
  have c0X := B_X.out.c0
  have c1X := B_X.out.c1
  have c2X := B_X.out.c2
  have c3X := B_X.out.c3
  have f0X := B_X.out.f0
  have f1X := B_X.out.f1
  have f2X := B_X.out.f2
  have f3X := B_X.out.f3
  have c0Y := B_Y.out.c0
  have c1Y := B_Y.out.c1
  have c2Y := B_Y.out.c2
  have c3Y := B_Y.out.c3
  have f0Y := B_Y.out.f0
  have f1Y := B_Y.out.f1
  have f2Y := B_Y.out.f2
  have f3Y := B_Y.out.f3
  have c0u := B_u.out.c0
  have c1u := B_u.out.c1
  have c2u := B_u.out.c2
  have c3u := B_u.out.c3
  have f0u := B_u.out.f0
  have f1u := B_u.out.f1
  have f2u := B_u.out.f2
  have f3u := B_u.out.f3
  have c0v := B_v.out.c0
  have c1v := B_v.out.c1
  have c2v := B_v.out.c2
  have c3v := B_v.out.c3
  have f0v := B_v.out.f0
  have f1v := B_v.out.f1
  have f2v := B_v.out.f2
  have f3v := B_v.out.f3
  go_wp2
  clear c0t c1t c2t c3t c4t c5t c6t c7t c8t c9t c10t c11t f0t f1t f2t f3t f4t f5t f6t f7t f8t f9t f10t f11t c0X c1X c2X c3X f0X f1X f2X f3X c0Y c1Y c2Y c3Y f0Y f1Y f2Y f3Y c0u c1u c2u c3u f0u f1u f2u f3u c0v c1v c2v c3v f0v f1v f2v f3v
  generalize (w1.alloc (.cells #[.bool sX, (.slice AX kX cX), .bool tX, (.slice CX lX dX)] 35)).alloc (.cells #[.bool sY, (.slice AY kY cY), .bool tY, (.slice CY lY dY)] 35) = W1 at *
  have c0X := B_X.out.c0
  have c1X := B_X.out.c1
  have c2X := B_X.out.c2
  have c3X := B_X.out.c3
  have c0Y := B_Y.out.c0
  have c1Y := B_Y.out.c1
  have c2Y := B_Y.out.c2
  have c3Y := B_Y.out.c3
  have c4t := B_t.out.c4
  have c5t := B_t.out.c5
  have c6t := B_t.out.c6
  have c7t := B_t.out.c7
  have c8t := B_t.out.c8
  have c9t := B_t.out.c9
  have c10t := B_t.out.c10
  have c11t := B_t.out.c11
  have z1t := Z1t.out
  have z2a := Z2a.out
  have z3b := Z3b.out
  have z4u := Z4u.out
  have z5v := Z5v.out
  have tk1x0 : True := trivial
  first | (go_region_held3 (fun w' => w'.cell? ⟨w1.heap.size, 0, none⟩ = some (.bool sX) ∧ w'.cell? ⟨w1.heap.size, 1, none⟩ = some (.slice AX kX cX) ∧ w'.cell? ⟨w1.heap.size, 2, none⟩ = some (.bool tX) ∧ w'.cell? ⟨w1.heap.size, 3, none⟩ = some (.slice CX lX dX) ∧ w'.cell? ⟨w1.heap.size + 1, 0, none⟩ = some (.bool sY) ∧ w'.cell? ⟨w1.heap.size + 1, 1, none⟩ = some (.slice AY kY cY) ∧ w'.cell? ⟨w1.heap.size + 1, 2, none⟩ = some (.bool tY) ∧ w'.cell? ⟨w1.heap.size + 1, 3, none⟩ = some (.slice CY lY dY) ∧ w'.cell? ⟨w.heap.size, 4, none⟩ = some (.bool stx) ∧ w'.cell? ⟨w.heap.size, 5, none⟩ = some (.slice Atx ktx ctx) ∧ w'.cell? ⟨w.heap.size, 6, none⟩ = some (.bool ttx) ∧ w'.cell? ⟨w.heap.size, 7, none⟩ = some (.slice Ctx ltx dtx) ∧ w'.cell? ⟨w.heap.size, 8, none⟩ = some (.bool sty) ∧ w'.cell? ⟨w.heap.size, 9, none⟩ = some (.slice Aty kty cty) ∧ w'.cell? ⟨w.heap.size, 10, none⟩ = some (.bool tty) ∧ w'.cell? ⟨w.heap.size, 11, none⟩ = some (.slice Cty lty dty)) (((try dsimp only); (repeat' apply And.intro) <;> (first | (with_reducible assumption) | ((repeat (first | (with_reducible refine Eq.trans (cell_drew1 _ _) ?_) | (with_reducible refine Eq.trans (cell_set4 (by omega) _ _ _ _) ?_))); with_reducible assumption) | assumption | go_keep)))
    (first
      | (clear tk1x0; go_at_call 21; refine (Add_qt (Qc.qd (Qc.below V_X.out (by exact ⟨rfl, rfl, rfl, Nat.le_refl _, fun _ _ => rfl⟩))) (Qd.below V_tx.out (by exact ⟨rfl, rfl, rfl, Nat.le_refl _, fun _ _ => rfl⟩)) (by omega) (by omega) (by omega) (by omega)).mono ?_; rintro e w2 ⟨ve1, rfl, re1, bb⟩; replace bb := nextw (w0 := W1) (by exact ⟨rfl, rfl, rfl, Nat.le_refl _, fun _ _ => rfl⟩) bb; clear V_tx V_X; replace B_t := Lib.hid (Box12.below B_t.out bb B_t.out.lt); replace B_a := Lib.hid (Box4.below B_a.out bb B_a.out.lt); replace B_b := Lib.hid (Box4.below B_b.out bb B_b.out.lt); replace B_u := Lib.hid (Box4.below B_u.out bb B_u.out.lt); replace B_v := Lib.hid (Box4.below B_v.out bb B_v.out.lt); replace B_X := Lib.hid (Box4.below B_X.out bb B_X.out.lt); replace B_Y := Lib.hid (Box4.below B_Y.out bb B_Y.out.lt); replace V_ty := Lib.hid (Qd.below V_ty.out bb); replace V_Y := Lib.hid (Qc.below V_Y.out bb); replace HB := Lib.hid (nextw HB.out bb); clear bb; replace re1 := Lib.hid re1; have V_e1 := re1; clear re1; obtain ⟨se1, Ae1, ke1, ce1, te1, Ce1, le1, de1, rfl⟩ := V_e1.out.shape; clear c0X c1X c2X c3X c0Y c1Y c2Y c3Y c4t c5t c6t c7t c8t c9t c10t c11t; have c0X := B_X.out.c0; have c1X := B_X.out.c1; have c2X := B_X.out.c2; have c3X := B_X.out.c3; have c0Y := B_Y.out.c0; have c1Y := B_Y.out.c1; have c2Y := B_Y.out.c2; have c3Y := B_Y.out.c3; have c4t := B_t.out.c4; have c5t := B_t.out.c5; have c6t := B_t.out.c6; have c7t := B_t.out.c7; have c8t := B_t.out.c8; have c9t := B_t.out.c9; have c10t := B_t.out.c10; have c11t := B_t.out.c11; have tk1x1 : True := trivial)
      | (clear tk1x1; go_at_call 21; refine (Add_qt (Qc.qd (Qc.below V_Y.out (by exact ⟨rfl, rfl, rfl, Nat.le_refl _, fun _ _ => rfl⟩))) (Qd.below V_ty.out (by exact ⟨rfl, rfl, rfl, Nat.le_refl _, fun _ _ => rfl⟩)) (by omega) (by omega) (by omega) (by omega)).mono ?_; rintro e w3 ⟨ve2, rfl, re2, bb⟩; replace bb := nextw (w0 := w2) (by exact ⟨rfl, rfl, rfl, Nat.le_refl _, fun _ _ => rfl⟩) bb; clear V_ty V_Y; replace B_t := Lib.hid (Box12.below B_t.out bb B_t.out.lt); replace B_a := Lib.hid (Box4.below B_a.out bb B_a.out.lt); replace B_b := Lib.hid (Box4.below B_b.out bb B_b.out.lt); replace B_u := Lib.hid (Box4.below B_u.out bb B_u.out.lt); replace B_v := Lib.hid (Box4.below B_v.out bb B_v.out.lt); replace B_X := Lib.hid (Box4.below B_X.out bb B_X.out.lt); replace B_Y := Lib.hid (Box4.below B_Y.out bb B_Y.out.lt); replace V_e1 := Lib.hid (Qc.below V_e1.out bb); replace HB := Lib.hid (nextw HB.out bb); clear bb; replace re2 := Lib.hid re2; have V_e2 := re2; clear re2; obtain ⟨se2, Ae2, ke2, ce2, te2, Ce2, le2, de2, rfl⟩ := V_e2.out.shape; have c0u := B_u.out.c0; have c1u := B_u.out.c1; have c2u := B_u.out.c2; have c3u := B_u.out.c3; have c0v := B_v.out.c0; have c1v := B_v.out.c1; have c2v := B_v.out.c2; have c3v := B_v.out.c3; have f0u := B_u.out.f0; have f1u := B_u.out.f1; have f2u := B_u.out.f2; have f3u := B_u.out.f3; have f0v := B_v.out.f0; have f1v := B_v.out.f1; have f2v := B_v.out.f2; have f3v := B_v.out.f3; clear c0X c1X c2X c3X c0Y c1Y c2Y c3Y c4t c5t c6t c7t c8t c9t c10t c11t; have c0X := B_X.out.c0; have c1X := B_X.out.c1; have c2X := B_X.out.c2; have c3X := B_X.out.c3; have c0Y := B_Y.out.c0; have c1Y := B_Y.out.c1; have c2Y := B_Y.out.c2; have c3Y := B_Y.out.c3; have c4t := B_t.out.c4; have c5t := B_t.out.c5; have c6t := B_t.out.c6; have c7t := B_t.out.c7; have c8t := B_t.out.c8; have c9t := B_t.out.c9; have c10t := B_t.out.c10; have c11t := B_t.out.c11; have tk1x2 : True := trivial))) | fail
  all_goals (clear z1t z2a z3b z4u z5v)
  all_goals
    skip
    have K_e1 := V_e1
    have K_e2 := V_e2
    replace K_e1 := Lib.hid (Box4.keepsQc B_u.out K_e1.out (.bool se1) (.slice Ae1 ke1 ce1) (.bool te1) (.slice Ce1 le1 de1))
    replace K_e2 := Lib.hid (Box4.keepsQc B_u.out K_e2.out (.bool se1) (.slice Ae1 ke1 ce1) (.bool te1) (.slice Ce1 le1 de1))
    have HB1 := Lib.hid (Below.store4 HB.out (y := w.heap.size + 1 + 1 + 1) (by omega) (.bool se1) (.slice Ae1 ke1 ce1) (.bool te1) (.slice Ce1 le1 de1))
    have N0v := Lib.hid (Box4.far4 (y := w.heap.size + 1 + 1 + 1) B_v.out (by omega) (.bool se1) (.slice Ae1 ke1 ce1) (.bool te1) (.slice Ce1 le1 de1))
    have N0u := Lib.hid (Box4.store B_u.out se1 (.slice Ae1 ke1 ce1) te1 (.slice Ce1 le1 de1))
    replace K_e1 := Lib.hid (Box4.keepsQc N0v.out K_e1.out (.bool se2) (.slice Ae2 ke2 ce2) (.bool te2) (.slice Ce2 le2 de2))
    replace K_e2 := Lib.hid (Box4.keepsQc N0v.out K_e2.out (.bool se2) (.slice Ae2 ke2 ce2) (.bool te2) (.slice Ce2 le2 de2))
    have HB2 := Lib.hid (Below.store4 HB1.out (y := w.heap.size + 1 + 1 + 1 + 1) (by omega) (.bool se2) (.slice Ae2 ke2 ce2) (.bool te2) (.slice Ce2 le2 de2))
    have N1u := Lib.hid (Box4.far4 (y := w.heap.size + 1 + 1 + 1 + 1) N0u.out (by omega) (.bool se2) (.slice Ae2 ke2 ce2) (.bool te2) (.slice Ce2 le2 de2))
    have N1v := Lib.hid (Box4.store N0v.out se2 (.slice Ae2 ke2 ce2) te2 (.slice Ce2 le2 de2))
    have s0u := N1u.out.c0
    have s1u := N1u.out.c1
    have s2u := N1u.out.c2
    have s3u := N1u.out.c3
    have s0v := N1v.out.c0
    have s1v := N1v.out.c1
    have s2v := N1v.out.c2
    have s3v := N1v.out.c3
    simp only [st4] at s0u s1u s2u s3u s0v s1v s2v s3v
    have HBF := HB2
    have c0u := B_u.out.c0
    have c1u := B_u.out.c1
    have c2u := B_u.out.c2
    have c3u := B_u.out.c3
    have f0u := B_u.out.f0
    have f1u := B_u.out.f1
    have f2u := B_u.out.f2
    have f3u := B_u.out.f3
    have c0v := B_v.out.c0
    have c1v := B_v.out.c1
    have c2v := B_v.out.c2
    have c3v := B_v.out.c3
    have f0v := B_v.out.f0
    have f1v := B_v.out.f1
    have f2v := B_v.out.f2
    have f3v := B_v.out.f3
    have p00v := N0v.out.c0
    have r00v := N0v.out.f0
    simp only [st4] at p00v r00v
    have p01v := N0v.out.c1
    have r01v := N0v.out.f1
    simp only [st4] at p01v r01v
    have p02v := N0v.out.c2
    have r02v := N0v.out.f2
    simp only [st4] at p02v r02v
    have p03v := N0v.out.c3
    have r03v := N0v.out.f3
    simp only [st4] at p03v r03v
    go_wp2_with fail
    exact bodyPost_ret (v := .tuple #[.agg #[.bool se1, (.slice Ae1 ke1 ce1), .bool te1, (.slice Ce1 le1 de1)], .agg #[.bool se2, (.slice Ae2 ke2 ce2), .bool te2, (.slice Ce2 le2 de2)]]) (by simp [results, Tryz.results27, go_sem, s0u, s1u, s2u, s3u, s0v, s1v, s2v, s3v]) rfl ⟨_, _, rfl, (Qc.below K_e1.out (by exact ⟨rfl, rfl, rfl, Nat.le_refl _, fun _ _ => rfl⟩)), (Qc.below K_e2.out (by exact ⟨rfl, rfl, rfl, Nat.le_refl _, fun _ _ => rfl⟩)), (nextw HBF.out (by exact ⟨rfl, rfl, rfl, Nat.le_refl _, fun _ _ => rfl⟩))⟩
end Go.Proofs.YtccndofafljaaaaGreatDoor
