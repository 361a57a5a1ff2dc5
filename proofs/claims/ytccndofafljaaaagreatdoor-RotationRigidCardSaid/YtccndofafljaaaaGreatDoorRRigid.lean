/- The law RotationRigid: the walk. -/
import Derived.Test.YtccndofafljaaaaGreatDoorRAwake
import Derived.Test.YtccndofafljaaaaGreatDoorRot6
import Derived.Test.YtccndofafljaaaaGreatDoorRLaw1

set_option linter.unusedVariables false
set_option linter.unusedSimpArgs false

namespace Go.Proofs.YtccndofafljaaaaGreatDoor
open Go Go.RowKit Num

theorem Cmp_zero {v1 v2 : Value} {r1 r2 : Rat} {k1 k2 : Nat} {w : World} (h1 : Qd w v1 r1 k1) (h2 : Qd w v2 r2 k2) (f1 : k1 ≤ 4000) (f2 : k2 ≤ 4000) (e : r1 = r2) :
    Calls Tryz.prog 23 #[v1, v2] w fun e w' => e = .returned (.int .i64 0) ∧ Below w.heap.size w w' := by
  have h := Cmp_q h1 h2 f1 f2
  rwa [cmpQ_eq.2 e] at h
theorem rigid (c s x y a b d e : Rat) (h : c * c + s * s = 1) : (d - a) * (d - a) + (e - b) * (e - b) = (c * d - s * e + x - (c * a - s * b + x)) * (c * d - s * e + x - (c * a - s * b + x)) + (s * d + c * e + y - (s * a + c * b + y)) * (s * d + c * e + y - (s * a + c * b + y)) := by grind

set_option maxRecDepth 100000 in
set_option maxHeartbeats 16000000 in
theorem Rigid_long0 {str : Bool} {Atr : Option Addr} {ktr ctr : Nat} {ttr : Bool} {Ctr : Option Addr} {ltr dtr : Nat} {ptr qtr : Int} {stx : Bool} {Atx : Option Addr} {ktx ctx : Nat} {ttx : Bool} {Ctx : Option Addr} {ltx dtx : Nat} {rtx : Rat} {sty : Bool} {Aty : Option Addr} {kty cty : Nat} {tty : Bool} {Cty : Option Addr} {lty dty : Nat} {rty : Rat} {spx : Bool} {Apx : Option Addr} {kpx cpx : Nat} {tpx : Bool} {Cpx : Option Addr} {lpx dpx : Nat} {rpx : Rat} {spy : Bool} {Apy : Option Addr} {kpy cpy : Nat} {tpy : Bool} {Cpy : Option Addr} {lpy dpy : Nat} {rpy : Rat} {sqx : Bool} {Aqx : Option Addr} {kqx cqx : Nat} {tqx : Bool} {Cqx : Option Addr} {lqx dqx : Nat} {rqx : Rat} {sqy : Bool} {Aqy : Option Addr} {kqy cqy : Nat} {tqy : Bool} {Cqy : Option Addr} {lqy dqy : Nat} {rqy : Rat} {j : Nat} {w : World} (htr : Fd w (.agg #[.bool str, .slice Atr ktr ctr, .bool ttr, .slice Ctr ltr dtr]) ptr qtr j) (htx : Qd w (.agg #[.bool stx, .slice Atx ktx ctx, .bool ttx, .slice Ctx ltx dtx]) rtx j) (hty : Qd w (.agg #[.bool sty, .slice Aty kty cty, .bool tty, .slice Cty lty dty]) rty j) (hpx : Qd w (.agg #[.bool spx, .slice Apx kpx cpx, .bool tpx, .slice Cpx lpx dpx]) rpx j) (hpy : Qd w (.agg #[.bool spy, .slice Apy kpy cpy, .bool tpy, .slice Cpy lpy dpy]) rpy j) (hqx : Qd w (.agg #[.bool sqx, .slice Aqx kqx cqx, .bool tqx, .slice Cqx lqx dqx]) rqx j) (hqy : Qd w (.agg #[.bool sqy, .slice Aqy kqy cqy, .bool tqy, .slice Cqy lqy dqy]) rqy j) (htab : Tab10 w) (mtr : ktr ≤ 9223372036854775807 ∧ ltr ≤ 9223372036854775807) (mtx : ktx ≤ 9223372036854775807 ∧ ltx ≤ 9223372036854775807) (mty : kty ≤ 9223372036854775807 ∧ lty ≤ 9223372036854775807) (gt : ¬ ((ktr ≤ 12 ∧ ltr ≤ 12) ∧ (ktx ≤ 12 ∧ ltx ≤ 12) ∧ (kty ≤ 12 ∧ lty ≤ 12))) :
    Calls Tryz.prog 6 #[.agg #[.bool str, .slice Atr ktr ctr, .bool ttr, .slice Ctr ltr dtr, .bool stx, .slice Atx ktx ctx, .bool ttx, .slice Ctx ltx dtx, .bool sty, .slice Aty kty cty, .bool tty, .slice Cty lty dty], .agg #[.bool spx, .slice Apx kpx cpx, .bool tpx, .slice Cpx lpx dpx, .bool spy, .slice Apy kpy cpy, .bool tpy, .slice Cpy lpy dpy], .agg #[.bool sqx, .slice Aqx kqx cqx, .bool tqx, .slice Cqx lqx dqx, .bool sqy, .slice Aqy kqy cqy, .bool tqy, .slice Cqy lqy dqy]] w fun e w' => e = .returned (.bool true) ∧ Below w.heap.size w w' := by
  have Hmtr := Lib.hid mtr
  have Hmtx := Lib.hid mtx
  have Hmty := Lib.hid mty
  have Hgt := Lib.hid gt
  clear mtr mtx mty gt
  have V_trn := Lib.hid htr.num
  have V_trd := Lib.hid htr.den
  have V_tx := Lib.hid htx
  have V_ty := Lib.hid hty
  have V_px := Lib.hid hpx
  have V_py := Lib.hid hpy
  have V_qx := Lib.hid hqx
  have V_qy := Lib.hid hqy
  have V_tab := Lib.hid htab
  clear htr htx hty hpx hpy hqx hqy htab
  have hb0 : Below w.heap.size w (((w.alloc (.cells #[.bool str, (.slice Atr ktr ctr), .bool ttr, (.slice Ctr ltr dtr), .bool stx, (.slice Atx ktx ctx), .bool ttx, (.slice Ctx ltx dtx), .bool sty, (.slice Aty kty cty), .bool tty, (.slice Cty lty dty)] 44)).alloc (.cells #[.bool spx, (.slice Apx kpx cpx), .bool tpx, (.slice Cpx lpx dpx), .bool spy, (.slice Apy kpy cpy), .bool tpy, (.slice Cpy lpy dpy)] 46)).alloc (.cells #[.bool sqx, (.slice Aqx kqx cqx), .bool tqx, (.slice Cqx lqx dqx), .bool sqy, (.slice Aqy kqy cqy), .bool tqy, (.slice Cqy lqy dqy)] 46)) := (Below.alloc (Below.alloc (Below.alloc (Below.refl w.heap.size w) (by simp <;> omega) _) (by simp <;> omega) _) (by simp <;> omega) _)
  have B_t : Box12 (((w.alloc (.cells #[.bool str, (.slice Atr ktr ctr), .bool ttr, (.slice Ctr ltr dtr), .bool stx, (.slice Atx ktx ctx), .bool ttx, (.slice Ctx ltx dtx), .bool sty, (.slice Aty kty cty), .bool tty, (.slice Cty lty dty)] 44)).alloc (.cells #[.bool spx, (.slice Apx kpx cpx), .bool tpx, (.slice Cpx lpx dpx), .bool spy, (.slice Apy kpy cpy), .bool tpy, (.slice Cpy lpy dpy)] 46)).alloc (.cells #[.bool sqx, (.slice Aqx kqx cqx), .bool tqx, (.slice Cqx lqx dqx), .bool sqy, (.slice Aqy kqy cqy), .bool tqy, (.slice Cqy lqy dqy)] 46)) (w.heap.size) str (.slice Atr ktr ctr) ttr (.slice Ctr ltr dtr) stx (.slice Atx ktx ctx) ttx (.slice Ctx ltx dtx) sty (.slice Aty kty cty) tty (.slice Cty lty dty) := by have h := Box12.alloc (Box12.alloc (Box12.new w str (.slice Atr ktr ctr) ttr (.slice Ctr ltr dtr) stx (.slice Atx ktx ctx) ttx (.slice Ctx ltx dtx) sty (.slice Aty kty cty) tty (.slice Cty lty dty)) (.cells #[.bool spx, (.slice Apx kpx cpx), .bool tpx, (.slice Cpx lpx dpx), .bool spy, (.slice Apy kpy cpy), .bool tpy, (.slice Cpy lpy dpy)] 46)) (.cells #[.bool sqx, (.slice Aqx kqx cqx), .bool tqx, (.slice Cqx lqx dqx), .bool sqy, (.slice Aqy kqy cqy), .bool tqy, (.slice Cqy lqy dqy)] 46); simpa using h
  replace B_t := Lib.hid B_t
  have B_p : Box8 (((w.alloc (.cells #[.bool str, (.slice Atr ktr ctr), .bool ttr, (.slice Ctr ltr dtr), .bool stx, (.slice Atx ktx ctx), .bool ttx, (.slice Ctx ltx dtx), .bool sty, (.slice Aty kty cty), .bool tty, (.slice Cty lty dty)] 44)).alloc (.cells #[.bool spx, (.slice Apx kpx cpx), .bool tpx, (.slice Cpx lpx dpx), .bool spy, (.slice Apy kpy cpy), .bool tpy, (.slice Cpy lpy dpy)] 46)).alloc (.cells #[.bool sqx, (.slice Aqx kqx cqx), .bool tqx, (.slice Cqx lqx dqx), .bool sqy, (.slice Aqy kqy cqy), .bool tqy, (.slice Cqy lqy dqy)] 46)) (w.heap.size + 1) spx (.slice Apx kpx cpx) tpx (.slice Cpx lpx dpx) spy (.slice Apy kpy cpy) tpy (.slice Cpy lpy dpy) := by have h := Box8.alloc (Box8.new (w.alloc (.cells #[.bool str, (.slice Atr ktr ctr), .bool ttr, (.slice Ctr ltr dtr), .bool stx, (.slice Atx ktx ctx), .bool ttx, (.slice Ctx ltx dtx), .bool sty, (.slice Aty kty cty), .bool tty, (.slice Cty lty dty)] 44)) spx (.slice Apx kpx cpx) tpx (.slice Cpx lpx dpx) spy (.slice Apy kpy cpy) tpy (.slice Cpy lpy dpy)) (.cells #[.bool sqx, (.slice Aqx kqx cqx), .bool tqx, (.slice Cqx lqx dqx), .bool sqy, (.slice Aqy kqy cqy), .bool tqy, (.slice Cqy lqy dqy)] 46); simpa using h
  replace B_p := Lib.hid B_p
  have B_q : Box8 (((w.alloc (.cells #[.bool str, (.slice Atr ktr ctr), .bool ttr, (.slice Ctr ltr dtr), .bool stx, (.slice Atx ktx ctx), .bool ttx, (.slice Ctx ltx dtx), .bool sty, (.slice Aty kty cty), .bool tty, (.slice Cty lty dty)] 44)).alloc (.cells #[.bool spx, (.slice Apx kpx cpx), .bool tpx, (.slice Cpx lpx dpx), .bool spy, (.slice Apy kpy cpy), .bool tpy, (.slice Cpy lpy dpy)] 46)).alloc (.cells #[.bool sqx, (.slice Aqx kqx cqx), .bool tqx, (.slice Cqx lqx dqx), .bool sqy, (.slice Aqy kqy cqy), .bool tqy, (.slice Cqy lqy dqy)] 46)) (w.heap.size + 1 + 1) sqx (.slice Aqx kqx cqx) tqx (.slice Cqx lqx dqx) sqy (.slice Aqy kqy cqy) tqy (.slice Cqy lqy dqy) := by have h := Box8.new ((w.alloc (.cells #[.bool str, (.slice Atr ktr ctr), .bool ttr, (.slice Ctr ltr dtr), .bool stx, (.slice Atx ktx ctx), .bool ttx, (.slice Ctx ltx dtx), .bool sty, (.slice Aty kty cty), .bool tty, (.slice Cty lty dty)] 44)).alloc (.cells #[.bool spx, (.slice Apx kpx cpx), .bool tpx, (.slice Cpx lpx dpx), .bool spy, (.slice Apy kpy cpy), .bool tpy, (.slice Cpy lpy dpy)] 46)) sqx (.slice Aqx kqx cqx) tqx (.slice Cqx lqx dqx) sqy (.slice Aqy kqy cqy) tqy (.slice Cqy lqy dqy); simpa using h
  replace B_q := Lib.hid B_q
  replace V_trn := Lib.hid (Rd.below V_trn.out hb0)
  replace V_trd := Lib.hid (Rd.below V_trd.out hb0)
  replace V_tx := Lib.hid (Qd.below V_tx.out hb0)
  replace V_ty := Lib.hid (Qd.below V_ty.out hb0)
  replace V_px := Lib.hid (Qd.below V_px.out hb0)
  replace V_py := Lib.hid (Qd.below V_py.out hb0)
  replace V_qx := Lib.hid (Qd.below V_qx.out hb0)
  replace V_qy := Lib.hid (Qd.below V_qy.out hb0)
  replace V_tab := Lib.hid (tab_below V_tab.out hb0)
  have HB := Lib.hid hb0
  clear hb0
  have c0t := B_t.out.c0
  have c1t := B_t.out.c1
  have c2t := B_t.out.c2
  have c3t := B_t.out.c3
  have c4t := B_t.out.c4
  have c5t := B_t.out.c5
  have c6t := B_t.out.c6
  have c7t := B_t.out.c7
  have c8t := B_t.out.c8
  have c9t := B_t.out.c9
  have c10t := B_t.out.c10
  have c11t := B_t.out.c11
  have c0p := B_p.out.c0
  have c1p := B_p.out.c1
  have c2p := B_p.out.c2
  have c3p := B_p.out.c3
  have c4p := B_p.out.c4
  have c5p := B_p.out.c5
  have c6p := B_p.out.c6
  have c7p := B_p.out.c7
  have c0q := B_q.out.c0
  have c1q := B_q.out.c1
  have c2q := B_q.out.c2
  have c3q := B_q.out.c3
  have c4q := B_q.out.c4
  have c5q := B_q.out.c5
  have c6q := B_q.out.c6
  have c7q := B_q.out.c7
  go_enter Tryz.func6, Tryz.ntmps6
  go_wp2_with fail
  clear c0t c1t c2t c3t c4t c5t c6t c7t c8t c9t c10t c11t c0p c1p c2p c3p c4p c5p c6p c7p c0q c1q c2q c3q c4q c5q c6q c7q
  generalize ((w.alloc (.cells #[.bool str, (.slice Atr ktr ctr), .bool ttr, (.slice Ctr ltr dtr), .bool stx, (.slice Atx ktx ctx), .bool ttx, (.slice Ctx ltx dtx), .bool sty, (.slice Aty kty cty), .bool tty, (.slice Cty lty dty)] 44)).alloc (.cells #[.bool spx, (.slice Apx kpx cpx), .bool tpx, (.slice Cpx lpx dpx), .bool spy, (.slice Apy kpy cpy), .bool tpy, (.slice Cpy lpy dpy)] 46)).alloc (.cells #[.bool sqx, (.slice Aqx kqx cqx), .bool tqx, (.slice Cqx lqx dqx), .bool sqy, (.slice Aqy kqy cqy), .bool tqy, (.slice Cqy lqy dqy)] 46) = W0 at *
  refine (awakeR _ (tab_below V_tab.out (by exact ⟨rfl, rfl, rfl, Nat.le_refl _, fun _ _ => rfl⟩))).mono ?_
  rintro e w1 ⟨rfl, bb⟩
  replace bb := nextw (w0 := W0) (by exact ⟨rfl, rfl, rfl, Nat.le_refl _, fun _ _ => rfl⟩) bb
  replace B_t := Lib.hid (Box12.below B_t.out bb B_t.out.lt)
  replace B_p := Lib.hid (Box8.below B_p.out bb B_p.out.lt)
  replace B_q := Lib.hid (Box8.below B_q.out bb B_q.out.lt)
  replace V_trn := Lib.hid (Rd.below V_trn.out bb)
  replace V_trd := Lib.hid (Rd.below V_trd.out bb)
  replace V_tx := Lib.hid (Qd.below V_tx.out bb)
  replace V_ty := Lib.hid (Qd.below V_ty.out bb)
  replace V_px := Lib.hid (Qd.below V_px.out bb)
  replace V_py := Lib.hid (Qd.below V_py.out bb)
  replace V_qx := Lib.hid (Qd.below V_qx.out bb)
  replace V_qy := Lib.hid (Qd.below V_qy.out bb)
  replace V_tab := Lib.hid (tab_below V_tab.out bb)
  replace HB := Lib.hid (nextw HB.out bb)
  clear bb
  have c0t := B_t.out.c0
  have c1t := B_t.out.c1
  have c2t := B_t.out.c2
  have c3t := B_t.out.c3
  have c4t := B_t.out.c4
  have c5t := B_t.out.c5
  have c6t := B_t.out.c6
  have c7t := B_t.out.c7
  have c8t := B_t.out.c8
  have c9t := B_t.out.c9
  have c10t := B_t.out.c10
  have c11t := B_t.out.c11
  have c0p := B_p.out.c0
  have c1p := B_p.out.c1
  have c2p := B_p.out.c2
  have c3p := B_p.out.c3
  have c4p := B_p.out.c4
  have c5p := B_p.out.c5
  have c6p := B_p.out.c6
  have c7p := B_p.out.c7
  have c0q := B_q.out.c0
  have c1q := B_q.out.c1
  have c2q := B_q.out.c2
  have c3q := B_q.out.c3
  have c4q := B_q.out.c4
  have c5q := B_q.out.c5
  have c6q := B_q.out.c6
  have c7q := B_q.out.c7
  go_wp2_with fail
  refine (light_no Hmtr.out Hmtx.out Hmty.out Hgt.out).mono ?_
  rintro e w2 ⟨rfl, bb⟩
  replace bb := nextw (w0 := w1) (by exact ⟨rfl, rfl, rfl, Nat.le_refl _, fun _ _ => rfl⟩) bb
  clear c0t c1t c2t c3t c4t c5t c6t c7t c8t c9t c10t c11t c0p c1p c2p c3p c4p c5p c6p c7p c0q c1q c2q c3q c4q c5q c6q c7q
  replace B_t := Lib.hid (Box12.below B_t.out bb B_t.out.lt)
  replace B_p := Lib.hid (Box8.below B_p.out bb B_p.out.lt)
  replace B_q := Lib.hid (Box8.below B_q.out bb B_q.out.lt)
  replace V_trn := Lib.hid (Rd.below V_trn.out bb)
  replace V_trd := Lib.hid (Rd.below V_trd.out bb)
  replace V_tx := Lib.hid (Qd.below V_tx.out bb)
  replace V_ty := Lib.hid (Qd.below V_ty.out bb)
  replace V_px := Lib.hid (Qd.below V_px.out bb)
  replace V_py := Lib.hid (Qd.below V_py.out bb)
  replace V_qx := Lib.hid (Qd.below V_qx.out bb)
  replace V_qy := Lib.hid (Qd.below V_qy.out bb)
  replace V_tab := Lib.hid (tab_below V_tab.out bb)
  replace HB := Lib.hid (nextw HB.out bb)
  clear bb
  go_wp2_with fail
  refine (awakeR _ (tab_below V_tab.out (by exact ⟨rfl, rfl, rfl, Nat.le_refl _, fun _ _ => rfl⟩))).mono ?_
  rintro e w3 ⟨rfl, bb⟩
  replace bb := nextw (w0 := w2) (by exact ⟨rfl, rfl, rfl, Nat.le_refl _, fun _ _ => rfl⟩) bb
  replace B_t := Lib.hid (Box12.below B_t.out bb B_t.out.lt)
  replace B_p := Lib.hid (Box8.below B_p.out bb B_p.out.lt)
  replace B_q := Lib.hid (Box8.below B_q.out bb B_q.out.lt)
  replace V_trn := Lib.hid (Rd.below V_trn.out bb)
  replace V_trd := Lib.hid (Rd.below V_trd.out bb)
  replace V_tx := Lib.hid (Qd.below V_tx.out bb)
  replace V_ty := Lib.hid (Qd.below V_ty.out bb)
  replace V_px := Lib.hid (Qd.below V_px.out bb)
  replace V_py := Lib.hid (Qd.below V_py.out bb)
  replace V_qx := Lib.hid (Qd.below V_qx.out bb)
  replace V_qy := Lib.hid (Qd.below V_qy.out bb)
  replace V_tab := Lib.hid (tab_below V_tab.out bb)
  replace HB := Lib.hid (nextw HB.out bb)
  clear bb
  have HBo := HB.out
  go_wp2
  go_ret
  exact ⟨rfl, nextw HBo (by exact ⟨rfl, rfl, rfl, Nat.le_refl _, fun _ _ => rfl⟩)⟩

set_option maxRecDepth 100000 in
set_option maxHeartbeats 16000000 in
theorem Rigid_long1 {str : Bool} {Atr : Option Addr} {ktr ctr : Nat} {ttr : Bool} {Ctr : Option Addr} {ltr dtr : Nat} {ptr qtr : Int} {stx : Bool} {Atx : Option Addr} {ktx ctx : Nat} {ttx : Bool} {Ctx : Option Addr} {ltx dtx : Nat} {rtx : Rat} {sty : Bool} {Aty : Option Addr} {kty cty : Nat} {tty : Bool} {Cty : Option Addr} {lty dty : Nat} {rty : Rat} {spx : Bool} {Apx : Option Addr} {kpx cpx : Nat} {tpx : Bool} {Cpx : Option Addr} {lpx dpx : Nat} {rpx : Rat} {spy : Bool} {Apy : Option Addr} {kpy cpy : Nat} {tpy : Bool} {Cpy : Option Addr} {lpy dpy : Nat} {rpy : Rat} {sqx : Bool} {Aqx : Option Addr} {kqx cqx : Nat} {tqx : Bool} {Cqx : Option Addr} {lqx dqx : Nat} {rqx : Rat} {sqy : Bool} {Aqy : Option Addr} {kqy cqy : Nat} {tqy : Bool} {Cqy : Option Addr} {lqy dqy : Nat} {rqy : Rat} {j : Nat} {w : World} (htr : Fd w (.agg #[.bool str, .slice Atr ktr ctr, .bool ttr, .slice Ctr ltr dtr]) ptr qtr j) (htx : Qd w (.agg #[.bool stx, .slice Atx ktx ctx, .bool ttx, .slice Ctx ltx dtx]) rtx j) (hty : Qd w (.agg #[.bool sty, .slice Aty kty cty, .bool tty, .slice Cty lty dty]) rty j) (hpx : Qd w (.agg #[.bool spx, .slice Apx kpx cpx, .bool tpx, .slice Cpx lpx dpx]) rpx j) (hpy : Qd w (.agg #[.bool spy, .slice Apy kpy cpy, .bool tpy, .slice Cpy lpy dpy]) rpy j) (hqx : Qd w (.agg #[.bool sqx, .slice Aqx kqx cqx, .bool tqx, .slice Cqx lqx dqx]) rqx j) (hqy : Qd w (.agg #[.bool sqy, .slice Aqy kqy cqy, .bool tqy, .slice Cqy lqy dqy]) rqy j) (htab : Tab10 w) (gtr : ktr ≤ 12 ∧ ltr ≤ 12) (gtx : ktx ≤ 12 ∧ ltx ≤ 12) (gty : kty ≤ 12 ∧ lty ≤ 12) (mpx : kpx ≤ 9223372036854775807 ∧ lpx ≤ 9223372036854775807) (gpx : ¬ (kpx ≤ 12 ∧ lpx ≤ 12)) :
    Calls Tryz.prog 6 #[.agg #[.bool str, .slice Atr ktr ctr, .bool ttr, .slice Ctr ltr dtr, .bool stx, .slice Atx ktx ctx, .bool ttx, .slice Ctx ltx dtx, .bool sty, .slice Aty kty cty, .bool tty, .slice Cty lty dty], .agg #[.bool spx, .slice Apx kpx cpx, .bool tpx, .slice Cpx lpx dpx, .bool spy, .slice Apy kpy cpy, .bool tpy, .slice Cpy lpy dpy], .agg #[.bool sqx, .slice Aqx kqx cqx, .bool tqx, .slice Cqx lqx dqx, .bool sqy, .slice Aqy kqy cqy, .bool tqy, .slice Cqy lqy dqy]] w fun e w' => e = .returned (.bool true) ∧ Below w.heap.size w w' := by
  have Hgtr := Lib.hid gtr
  have Hgtx := Lib.hid gtx
  have Hgty := Lib.hid gty
  have Hmpx := Lib.hid mpx
  have Hgpx := Lib.hid gpx
  clear gtr gtx gty mpx gpx
  have V_trn := Lib.hid htr.num
  have V_trd := Lib.hid htr.den
  have V_tx := Lib.hid htx
  have V_ty := Lib.hid hty
  have V_px := Lib.hid hpx
  have V_py := Lib.hid hpy
  have V_qx := Lib.hid hqx
  have V_qy := Lib.hid hqy
  have V_tab := Lib.hid htab
  clear htr htx hty hpx hpy hqx hqy htab
  have hb0 : Below w.heap.size w (((w.alloc (.cells #[.bool str, (.slice Atr ktr ctr), .bool ttr, (.slice Ctr ltr dtr), .bool stx, (.slice Atx ktx ctx), .bool ttx, (.slice Ctx ltx dtx), .bool sty, (.slice Aty kty cty), .bool tty, (.slice Cty lty dty)] 44)).alloc (.cells #[.bool spx, (.slice Apx kpx cpx), .bool tpx, (.slice Cpx lpx dpx), .bool spy, (.slice Apy kpy cpy), .bool tpy, (.slice Cpy lpy dpy)] 46)).alloc (.cells #[.bool sqx, (.slice Aqx kqx cqx), .bool tqx, (.slice Cqx lqx dqx), .bool sqy, (.slice Aqy kqy cqy), .bool tqy, (.slice Cqy lqy dqy)] 46)) := (Below.alloc (Below.alloc (Below.alloc (Below.refl w.heap.size w) (by simp <;> omega) _) (by simp <;> omega) _) (by simp <;> omega) _)
  have B_t : Box12 (((w.alloc (.cells #[.bool str, (.slice Atr ktr ctr), .bool ttr, (.slice Ctr ltr dtr), .bool stx, (.slice Atx ktx ctx), .bool ttx, (.slice Ctx ltx dtx), .bool sty, (.slice Aty kty cty), .bool tty, (.slice Cty lty dty)] 44)).alloc (.cells #[.bool spx, (.slice Apx kpx cpx), .bool tpx, (.slice Cpx lpx dpx), .bool spy, (.slice Apy kpy cpy), .bool tpy, (.slice Cpy lpy dpy)] 46)).alloc (.cells #[.bool sqx, (.slice Aqx kqx cqx), .bool tqx, (.slice Cqx lqx dqx), .bool sqy, (.slice Aqy kqy cqy), .bool tqy, (.slice Cqy lqy dqy)] 46)) (w.heap.size) str (.slice Atr ktr ctr) ttr (.slice Ctr ltr dtr) stx (.slice Atx ktx ctx) ttx (.slice Ctx ltx dtx) sty (.slice Aty kty cty) tty (.slice Cty lty dty) := by have h := Box12.alloc (Box12.alloc (Box12.new w str (.slice Atr ktr ctr) ttr (.slice Ctr ltr dtr) stx (.slice Atx ktx ctx) ttx (.slice Ctx ltx dtx) sty (.slice Aty kty cty) tty (.slice Cty lty dty)) (.cells #[.bool spx, (.slice Apx kpx cpx), .bool tpx, (.slice Cpx lpx dpx), .bool spy, (.slice Apy kpy cpy), .bool tpy, (.slice Cpy lpy dpy)] 46)) (.cells #[.bool sqx, (.slice Aqx kqx cqx), .bool tqx, (.slice Cqx lqx dqx), .bool sqy, (.slice Aqy kqy cqy), .bool tqy, (.slice Cqy lqy dqy)] 46); simpa using h
  replace B_t := Lib.hid B_t
  have B_p : Box8 (((w.alloc (.cells #[.bool str, (.slice Atr ktr ctr), .bool ttr, (.slice Ctr ltr dtr), .bool stx, (.slice Atx ktx ctx), .bool ttx, (.slice Ctx ltx dtx), .bool sty, (.slice Aty kty cty), .bool tty, (.slice Cty lty dty)] 44)).alloc (.cells #[.bool spx, (.slice Apx kpx cpx), .bool tpx, (.slice Cpx lpx dpx), .bool spy, (.slice Apy kpy cpy), .bool tpy, (.slice Cpy lpy dpy)] 46)).alloc (.cells #[.bool sqx, (.slice Aqx kqx cqx), .bool tqx, (.slice Cqx lqx dqx), .bool sqy, (.slice Aqy kqy cqy), .bool tqy, (.slice Cqy lqy dqy)] 46)) (w.heap.size + 1) spx (.slice Apx kpx cpx) tpx (.slice Cpx lpx dpx) spy (.slice Apy kpy cpy) tpy (.slice Cpy lpy dpy) := by have h := Box8.alloc (Box8.new (w.alloc (.cells #[.bool str, (.slice Atr ktr ctr), .bool ttr, (.slice Ctr ltr dtr), .bool stx, (.slice Atx ktx ctx), .bool ttx, (.slice Ctx ltx dtx), .bool sty, (.slice Aty kty cty), .bool tty, (.slice Cty lty dty)] 44)) spx (.slice Apx kpx cpx) tpx (.slice Cpx lpx dpx) spy (.slice Apy kpy cpy) tpy (.slice Cpy lpy dpy)) (.cells #[.bool sqx, (.slice Aqx kqx cqx), .bool tqx, (.slice Cqx lqx dqx), .bool sqy, (.slice Aqy kqy cqy), .bool tqy, (.slice Cqy lqy dqy)] 46); simpa using h
  replace B_p := Lib.hid B_p
  have B_q : Box8 (((w.alloc (.cells #[.bool str, (.slice Atr ktr ctr), .bool ttr, (.slice Ctr ltr dtr), .bool stx, (.slice Atx ktx ctx), .bool ttx, (.slice Ctx ltx dtx), .bool sty, (.slice Aty kty cty), .bool tty, (.slice Cty lty dty)] 44)).alloc (.cells #[.bool spx, (.slice Apx kpx cpx), .bool tpx, (.slice Cpx lpx dpx), .bool spy, (.slice Apy kpy cpy), .bool tpy, (.slice Cpy lpy dpy)] 46)).alloc (.cells #[.bool sqx, (.slice Aqx kqx cqx), .bool tqx, (.slice Cqx lqx dqx), .bool sqy, (.slice Aqy kqy cqy), .bool tqy, (.slice Cqy lqy dqy)] 46)) (w.heap.size + 1 + 1) sqx (.slice Aqx kqx cqx) tqx (.slice Cqx lqx dqx) sqy (.slice Aqy kqy cqy) tqy (.slice Cqy lqy dqy) := by have h := Box8.new ((w.alloc (.cells #[.bool str, (.slice Atr ktr ctr), .bool ttr, (.slice Ctr ltr dtr), .bool stx, (.slice Atx ktx ctx), .bool ttx, (.slice Ctx ltx dtx), .bool sty, (.slice Aty kty cty), .bool tty, (.slice Cty lty dty)] 44)).alloc (.cells #[.bool spx, (.slice Apx kpx cpx), .bool tpx, (.slice Cpx lpx dpx), .bool spy, (.slice Apy kpy cpy), .bool tpy, (.slice Cpy lpy dpy)] 46)) sqx (.slice Aqx kqx cqx) tqx (.slice Cqx lqx dqx) sqy (.slice Aqy kqy cqy) tqy (.slice Cqy lqy dqy); simpa using h
  replace B_q := Lib.hid B_q
  replace V_trn := Lib.hid (Rd.below V_trn.out hb0)
  replace V_trd := Lib.hid (Rd.below V_trd.out hb0)
  replace V_tx := Lib.hid (Qd.below V_tx.out hb0)
  replace V_ty := Lib.hid (Qd.below V_ty.out hb0)
  replace V_px := Lib.hid (Qd.below V_px.out hb0)
  replace V_py := Lib.hid (Qd.below V_py.out hb0)
  replace V_qx := Lib.hid (Qd.below V_qx.out hb0)
  replace V_qy := Lib.hid (Qd.below V_qy.out hb0)
  replace V_tab := Lib.hid (tab_below V_tab.out hb0)
  have HB := Lib.hid hb0
  clear hb0
  have c0t := B_t.out.c0
  have c1t := B_t.out.c1
  have c2t := B_t.out.c2
  have c3t := B_t.out.c3
  have c4t := B_t.out.c4
  have c5t := B_t.out.c5
  have c6t := B_t.out.c6
  have c7t := B_t.out.c7
  have c8t := B_t.out.c8
  have c9t := B_t.out.c9
  have c10t := B_t.out.c10
  have c11t := B_t.out.c11
  have c0p := B_p.out.c0
  have c1p := B_p.out.c1
  have c2p := B_p.out.c2
  have c3p := B_p.out.c3
  have c4p := B_p.out.c4
  have c5p := B_p.out.c5
  have c6p := B_p.out.c6
  have c7p := B_p.out.c7
  have c0q := B_q.out.c0
  have c1q := B_q.out.c1
  have c2q := B_q.out.c2
  have c3q := B_q.out.c3
  have c4q := B_q.out.c4
  have c5q := B_q.out.c5
  have c6q := B_q.out.c6
  have c7q := B_q.out.c7
  go_enter Tryz.func6, Tryz.ntmps6
  go_wp2_with fail
  clear c0t c1t c2t c3t c4t c5t c6t c7t c8t c9t c10t c11t c0p c1p c2p c3p c4p c5p c6p c7p c0q c1q c2q c3q c4q c5q c6q c7q
  generalize ((w.alloc (.cells #[.bool str, (.slice Atr ktr ctr), .bool ttr, (.slice Ctr ltr dtr), .bool stx, (.slice Atx ktx ctx), .bool ttx, (.slice Ctx ltx dtx), .bool sty, (.slice Aty kty cty), .bool tty, (.slice Cty lty dty)] 44)).alloc (.cells #[.bool spx, (.slice Apx kpx cpx), .bool tpx, (.slice Cpx lpx dpx), .bool spy, (.slice Apy kpy cpy), .bool tpy, (.slice Cpy lpy dpy)] 46)).alloc (.cells #[.bool sqx, (.slice Aqx kqx cqx), .bool tqx, (.slice Cqx lqx dqx), .bool sqy, (.slice Aqy kqy cqy), .bool tqy, (.slice Cqy lqy dqy)] 46) = W0 at *
  refine (awakeR _ (tab_below V_tab.out (by exact ⟨rfl, rfl, rfl, Nat.le_refl _, fun _ _ => rfl⟩))).mono ?_
  rintro e w1 ⟨rfl, bb⟩
  replace bb := nextw (w0 := W0) (by exact ⟨rfl, rfl, rfl, Nat.le_refl _, fun _ _ => rfl⟩) bb
  replace B_t := Lib.hid (Box12.below B_t.out bb B_t.out.lt)
  replace B_p := Lib.hid (Box8.below B_p.out bb B_p.out.lt)
  replace B_q := Lib.hid (Box8.below B_q.out bb B_q.out.lt)
  replace V_trn := Lib.hid (Rd.below V_trn.out bb)
  replace V_trd := Lib.hid (Rd.below V_trd.out bb)
  replace V_tx := Lib.hid (Qd.below V_tx.out bb)
  replace V_ty := Lib.hid (Qd.below V_ty.out bb)
  replace V_px := Lib.hid (Qd.below V_px.out bb)
  replace V_py := Lib.hid (Qd.below V_py.out bb)
  replace V_qx := Lib.hid (Qd.below V_qx.out bb)
  replace V_qy := Lib.hid (Qd.below V_qy.out bb)
  replace V_tab := Lib.hid (tab_below V_tab.out bb)
  replace HB := Lib.hid (nextw HB.out bb)
  clear bb
  have c0t := B_t.out.c0
  have c1t := B_t.out.c1
  have c2t := B_t.out.c2
  have c3t := B_t.out.c3
  have c4t := B_t.out.c4
  have c5t := B_t.out.c5
  have c6t := B_t.out.c6
  have c7t := B_t.out.c7
  have c8t := B_t.out.c8
  have c9t := B_t.out.c9
  have c10t := B_t.out.c10
  have c11t := B_t.out.c11
  have c0p := B_p.out.c0
  have c1p := B_p.out.c1
  have c2p := B_p.out.c2
  have c3p := B_p.out.c3
  have c4p := B_p.out.c4
  have c5p := B_p.out.c5
  have c6p := B_p.out.c6
  have c7p := B_p.out.c7
  have c0q := B_q.out.c0
  have c1q := B_q.out.c1
  have c2q := B_q.out.c2
  have c3q := B_q.out.c3
  have c4q := B_q.out.c4
  have c5q := B_q.out.c5
  have c6q := B_q.out.c6
  have c7q := B_q.out.c7
  go_wp2_with fail
  refine (light_yes Hgtr.out Hgtx.out Hgty.out).mono ?_
  rintro e w2 ⟨rfl, bb⟩
  replace bb := nextw (w0 := w1) (by exact ⟨rfl, rfl, rfl, Nat.le_refl _, fun _ _ => rfl⟩) bb
  clear c0t c1t c2t c3t c4t c5t c6t c7t c8t c9t c10t c11t c0p c1p c2p c3p c4p c5p c6p c7p c0q c1q c2q c3q c4q c5q c6q c7q
  replace B_t := Lib.hid (Box12.below B_t.out bb B_t.out.lt)
  replace B_p := Lib.hid (Box8.below B_p.out bb B_p.out.lt)
  replace B_q := Lib.hid (Box8.below B_q.out bb B_q.out.lt)
  replace V_trn := Lib.hid (Rd.below V_trn.out bb)
  replace V_trd := Lib.hid (Rd.below V_trd.out bb)
  replace V_tx := Lib.hid (Qd.below V_tx.out bb)
  replace V_ty := Lib.hid (Qd.below V_ty.out bb)
  replace V_px := Lib.hid (Qd.below V_px.out bb)
  replace V_py := Lib.hid (Qd.below V_py.out bb)
  replace V_qx := Lib.hid (Qd.below V_qx.out bb)
  replace V_qy := Lib.hid (Qd.below V_qy.out bb)
  replace V_tab := Lib.hid (tab_below V_tab.out bb)
  replace HB := Lib.hid (nextw HB.out bb)
  clear bb
  have c0t := B_t.out.c0
  have c1t := B_t.out.c1
  have c2t := B_t.out.c2
  have c3t := B_t.out.c3
  have c4t := B_t.out.c4
  have c5t := B_t.out.c5
  have c6t := B_t.out.c6
  have c7t := B_t.out.c7
  have c8t := B_t.out.c8
  have c9t := B_t.out.c9
  have c10t := B_t.out.c10
  have c11t := B_t.out.c11
  have c0p := B_p.out.c0
  have c1p := B_p.out.c1
  have c2p := B_p.out.c2
  have c3p := B_p.out.c3
  have c4p := B_p.out.c4
  have c5p := B_p.out.c5
  have c6p := B_p.out.c6
  have c7p := B_p.out.c7
  have c0q := B_q.out.c0
  have c1q := B_q.out.c1
  have c2q := B_q.out.c2
  have c3q := B_q.out.c3
  have c4q := B_q.out.c4
  have c5q := B_q.out.c5
  have c6q := B_q.out.c6
  have c7q := B_q.out.c7
  go_wp2_with fail
  refine (short_no Hmpx.out.1 Hmpx.out.2 Hgpx.out).mono ?_
  rintro e w3 ⟨rfl, bb⟩
  replace bb := nextw (w0 := w2) (by exact ⟨rfl, rfl, rfl, Nat.le_refl _, fun _ _ => rfl⟩) bb
  clear c0t c1t c2t c3t c4t c5t c6t c7t c8t c9t c10t c11t c0p c1p c2p c3p c4p c5p c6p c7p c0q c1q c2q c3q c4q c5q c6q c7q
  replace B_t := Lib.hid (Box12.below B_t.out bb B_t.out.lt)
  replace B_p := Lib.hid (Box8.below B_p.out bb B_p.out.lt)
  replace B_q := Lib.hid (Box8.below B_q.out bb B_q.out.lt)
  replace V_trn := Lib.hid (Rd.below V_trn.out bb)
  replace V_trd := Lib.hid (Rd.below V_trd.out bb)
  replace V_tx := Lib.hid (Qd.below V_tx.out bb)
  replace V_ty := Lib.hid (Qd.below V_ty.out bb)
  replace V_px := Lib.hid (Qd.below V_px.out bb)
  replace V_py := Lib.hid (Qd.below V_py.out bb)
  replace V_qx := Lib.hid (Qd.below V_qx.out bb)
  replace V_qy := Lib.hid (Qd.below V_qy.out bb)
  replace V_tab := Lib.hid (tab_below V_tab.out bb)
  replace HB := Lib.hid (nextw HB.out bb)
  clear bb
  go_wp2_with fail
  refine (awakeR _ (tab_below V_tab.out (by exact ⟨rfl, rfl, rfl, Nat.le_refl _, fun _ _ => rfl⟩))).mono ?_
  rintro e w4 ⟨rfl, bb⟩
  replace bb := nextw (w0 := w3) (by exact ⟨rfl, rfl, rfl, Nat.le_refl _, fun _ _ => rfl⟩) bb
  replace B_t := Lib.hid (Box12.below B_t.out bb B_t.out.lt)
  replace B_p := Lib.hid (Box8.below B_p.out bb B_p.out.lt)
  replace B_q := Lib.hid (Box8.below B_q.out bb B_q.out.lt)
  replace V_trn := Lib.hid (Rd.below V_trn.out bb)
  replace V_trd := Lib.hid (Rd.below V_trd.out bb)
  replace V_tx := Lib.hid (Qd.below V_tx.out bb)
  replace V_ty := Lib.hid (Qd.below V_ty.out bb)
  replace V_px := Lib.hid (Qd.below V_px.out bb)
  replace V_py := Lib.hid (Qd.below V_py.out bb)
  replace V_qx := Lib.hid (Qd.below V_qx.out bb)
  replace V_qy := Lib.hid (Qd.below V_qy.out bb)
  replace V_tab := Lib.hid (tab_below V_tab.out bb)
  replace HB := Lib.hid (nextw HB.out bb)
  clear bb
  have HBo := HB.out
  go_wp2
  go_ret
  exact ⟨rfl, nextw HBo (by exact ⟨rfl, rfl, rfl, Nat.le_refl _, fun _ _ => rfl⟩)⟩

set_option maxRecDepth 100000 in
set_option maxHeartbeats 16000000 in
theorem Rigid_long2 {str : Bool} {Atr : Option Addr} {ktr ctr : Nat} {ttr : Bool} {Ctr : Option Addr} {ltr dtr : Nat} {ptr qtr : Int} {stx : Bool} {Atx : Option Addr} {ktx ctx : Nat} {ttx : Bool} {Ctx : Option Addr} {ltx dtx : Nat} {rtx : Rat} {sty : Bool} {Aty : Option Addr} {kty cty : Nat} {tty : Bool} {Cty : Option Addr} {lty dty : Nat} {rty : Rat} {spx : Bool} {Apx : Option Addr} {kpx cpx : Nat} {tpx : Bool} {Cpx : Option Addr} {lpx dpx : Nat} {rpx : Rat} {spy : Bool} {Apy : Option Addr} {kpy cpy : Nat} {tpy : Bool} {Cpy : Option Addr} {lpy dpy : Nat} {rpy : Rat} {sqx : Bool} {Aqx : Option Addr} {kqx cqx : Nat} {tqx : Bool} {Cqx : Option Addr} {lqx dqx : Nat} {rqx : Rat} {sqy : Bool} {Aqy : Option Addr} {kqy cqy : Nat} {tqy : Bool} {Cqy : Option Addr} {lqy dqy : Nat} {rqy : Rat} {j : Nat} {w : World} (htr : Fd w (.agg #[.bool str, .slice Atr ktr ctr, .bool ttr, .slice Ctr ltr dtr]) ptr qtr j) (htx : Qd w (.agg #[.bool stx, .slice Atx ktx ctx, .bool ttx, .slice Ctx ltx dtx]) rtx j) (hty : Qd w (.agg #[.bool sty, .slice Aty kty cty, .bool tty, .slice Cty lty dty]) rty j) (hpx : Qd w (.agg #[.bool spx, .slice Apx kpx cpx, .bool tpx, .slice Cpx lpx dpx]) rpx j) (hpy : Qd w (.agg #[.bool spy, .slice Apy kpy cpy, .bool tpy, .slice Cpy lpy dpy]) rpy j) (hqx : Qd w (.agg #[.bool sqx, .slice Aqx kqx cqx, .bool tqx, .slice Cqx lqx dqx]) rqx j) (hqy : Qd w (.agg #[.bool sqy, .slice Aqy kqy cqy, .bool tqy, .slice Cqy lqy dqy]) rqy j) (htab : Tab10 w) (gtr : ktr ≤ 12 ∧ ltr ≤ 12) (gtx : ktx ≤ 12 ∧ ltx ≤ 12) (gty : kty ≤ 12 ∧ lty ≤ 12) (gpx : kpx ≤ 12 ∧ lpx ≤ 12) (mpy : kpy ≤ 9223372036854775807 ∧ lpy ≤ 9223372036854775807) (gpy : ¬ (kpy ≤ 12 ∧ lpy ≤ 12)) :
    Calls Tryz.prog 6 #[.agg #[.bool str, .slice Atr ktr ctr, .bool ttr, .slice Ctr ltr dtr, .bool stx, .slice Atx ktx ctx, .bool ttx, .slice Ctx ltx dtx, .bool sty, .slice Aty kty cty, .bool tty, .slice Cty lty dty], .agg #[.bool spx, .slice Apx kpx cpx, .bool tpx, .slice Cpx lpx dpx, .bool spy, .slice Apy kpy cpy, .bool tpy, .slice Cpy lpy dpy], .agg #[.bool sqx, .slice Aqx kqx cqx, .bool tqx, .slice Cqx lqx dqx, .bool sqy, .slice Aqy kqy cqy, .bool tqy, .slice Cqy lqy dqy]] w fun e w' => e = .returned (.bool true) ∧ Below w.heap.size w w' := by
  have Hgtr := Lib.hid gtr
  have Hgtx := Lib.hid gtx
  have Hgty := Lib.hid gty
  have Hgpx := Lib.hid gpx
  have Hmpy := Lib.hid mpy
  have Hgpy := Lib.hid gpy
  clear gtr gtx gty gpx mpy gpy
  have V_trn := Lib.hid htr.num
  have V_trd := Lib.hid htr.den
  have V_tx := Lib.hid htx
  have V_ty := Lib.hid hty
  have V_px := Lib.hid hpx
  have V_py := Lib.hid hpy
  have V_qx := Lib.hid hqx
  have V_qy := Lib.hid hqy
  have V_tab := Lib.hid htab
  clear htr htx hty hpx hpy hqx hqy htab
  have hb0 : Below w.heap.size w (((w.alloc (.cells #[.bool str, (.slice Atr ktr ctr), .bool ttr, (.slice Ctr ltr dtr), .bool stx, (.slice Atx ktx ctx), .bool ttx, (.slice Ctx ltx dtx), .bool sty, (.slice Aty kty cty), .bool tty, (.slice Cty lty dty)] 44)).alloc (.cells #[.bool spx, (.slice Apx kpx cpx), .bool tpx, (.slice Cpx lpx dpx), .bool spy, (.slice Apy kpy cpy), .bool tpy, (.slice Cpy lpy dpy)] 46)).alloc (.cells #[.bool sqx, (.slice Aqx kqx cqx), .bool tqx, (.slice Cqx lqx dqx), .bool sqy, (.slice Aqy kqy cqy), .bool tqy, (.slice Cqy lqy dqy)] 46)) := (Below.alloc (Below.alloc (Below.alloc (Below.refl w.heap.size w) (by simp <;> omega) _) (by simp <;> omega) _) (by simp <;> omega) _)
  have B_t : Box12 (((w.alloc (.cells #[.bool str, (.slice Atr ktr ctr), .bool ttr, (.slice Ctr ltr dtr), .bool stx, (.slice Atx ktx ctx), .bool ttx, (.slice Ctx ltx dtx), .bool sty, (.slice Aty kty cty), .bool tty, (.slice Cty lty dty)] 44)).alloc (.cells #[.bool spx, (.slice Apx kpx cpx), .bool tpx, (.slice Cpx lpx dpx), .bool spy, (.slice Apy kpy cpy), .bool tpy, (.slice Cpy lpy dpy)] 46)).alloc (.cells #[.bool sqx, (.slice Aqx kqx cqx), .bool tqx, (.slice Cqx lqx dqx), .bool sqy, (.slice Aqy kqy cqy), .bool tqy, (.slice Cqy lqy dqy)] 46)) (w.heap.size) str (.slice Atr ktr ctr) ttr (.slice Ctr ltr dtr) stx (.slice Atx ktx ctx) ttx (.slice Ctx ltx dtx) sty (.slice Aty kty cty) tty (.slice Cty lty dty) := by have h := Box12.alloc (Box12.alloc (Box12.new w str (.slice Atr ktr ctr) ttr (.slice Ctr ltr dtr) stx (.slice Atx ktx ctx) ttx (.slice Ctx ltx dtx) sty (.slice Aty kty cty) tty (.slice Cty lty dty)) (.cells #[.bool spx, (.slice Apx kpx cpx), .bool tpx, (.slice Cpx lpx dpx), .bool spy, (.slice Apy kpy cpy), .bool tpy, (.slice Cpy lpy dpy)] 46)) (.cells #[.bool sqx, (.slice Aqx kqx cqx), .bool tqx, (.slice Cqx lqx dqx), .bool sqy, (.slice Aqy kqy cqy), .bool tqy, (.slice Cqy lqy dqy)] 46); simpa using h
  replace B_t := Lib.hid B_t
  have B_p : Box8 (((w.alloc (.cells #[.bool str, (.slice Atr ktr ctr), .bool ttr, (.slice Ctr ltr dtr), .bool stx, (.slice Atx ktx ctx), .bool ttx, (.slice Ctx ltx dtx), .bool sty, (.slice Aty kty cty), .bool tty, (.slice Cty lty dty)] 44)).alloc (.cells #[.bool spx, (.slice Apx kpx cpx), .bool tpx, (.slice Cpx lpx dpx), .bool spy, (.slice Apy kpy cpy), .bool tpy, (.slice Cpy lpy dpy)] 46)).alloc (.cells #[.bool sqx, (.slice Aqx kqx cqx), .bool tqx, (.slice Cqx lqx dqx), .bool sqy, (.slice Aqy kqy cqy), .bool tqy, (.slice Cqy lqy dqy)] 46)) (w.heap.size + 1) spx (.slice Apx kpx cpx) tpx (.slice Cpx lpx dpx) spy (.slice Apy kpy cpy) tpy (.slice Cpy lpy dpy) := by have h := Box8.alloc (Box8.new (w.alloc (.cells #[.bool str, (.slice Atr ktr ctr), .bool ttr, (.slice Ctr ltr dtr), .bool stx, (.slice Atx ktx ctx), .bool ttx, (.slice Ctx ltx dtx), .bool sty, (.slice Aty kty cty), .bool tty, (.slice Cty lty dty)] 44)) spx (.slice Apx kpx cpx) tpx (.slice Cpx lpx dpx) spy (.slice Apy kpy cpy) tpy (.slice Cpy lpy dpy)) (.cells #[.bool sqx, (.slice Aqx kqx cqx), .bool tqx, (.slice Cqx lqx dqx), .bool sqy, (.slice Aqy kqy cqy), .bool tqy, (.slice Cqy lqy dqy)] 46); simpa using h
  replace B_p := Lib.hid B_p
  have B_q : Box8 (((w.alloc (.cells #[.bool str, (.slice Atr ktr ctr), .bool ttr, (.slice Ctr ltr dtr), .bool stx, (.slice Atx ktx ctx), .bool ttx, (.slice Ctx ltx dtx), .bool sty, (.slice Aty kty cty), .bool tty, (.slice Cty lty dty)] 44)).alloc (.cells #[.bool spx, (.slice Apx kpx cpx), .bool tpx, (.slice Cpx lpx dpx), .bool spy, (.slice Apy kpy cpy), .bool tpy, (.slice Cpy lpy dpy)] 46)).alloc (.cells #[.bool sqx, (.slice Aqx kqx cqx), .bool tqx, (.slice Cqx lqx dqx), .bool sqy, (.slice Aqy kqy cqy), .bool tqy, (.slice Cqy lqy dqy)] 46)) (w.heap.size + 1 + 1) sqx (.slice Aqx kqx cqx) tqx (.slice Cqx lqx dqx) sqy (.slice Aqy kqy cqy) tqy (.slice Cqy lqy dqy) := by have h := Box8.new ((w.alloc (.cells #[.bool str, (.slice Atr ktr ctr), .bool ttr, (.slice Ctr ltr dtr), .bool stx, (.slice Atx ktx ctx), .bool ttx, (.slice Ctx ltx dtx), .bool sty, (.slice Aty kty cty), .bool tty, (.slice Cty lty dty)] 44)).alloc (.cells #[.bool spx, (.slice Apx kpx cpx), .bool tpx, (.slice Cpx lpx dpx), .bool spy, (.slice Apy kpy cpy), .bool tpy, (.slice Cpy lpy dpy)] 46)) sqx (.slice Aqx kqx cqx) tqx (.slice Cqx lqx dqx) sqy (.slice Aqy kqy cqy) tqy (.slice Cqy lqy dqy); simpa using h
  replace B_q := Lib.hid B_q
  replace V_trn := Lib.hid (Rd.below V_trn.out hb0)
  replace V_trd := Lib.hid (Rd.below V_trd.out hb0)
  replace V_tx := Lib.hid (Qd.below V_tx.out hb0)
  replace V_ty := Lib.hid (Qd.below V_ty.out hb0)
  replace V_px := Lib.hid (Qd.below V_px.out hb0)
  replace V_py := Lib.hid (Qd.below V_py.out hb0)
  replace V_qx := Lib.hid (Qd.below V_qx.out hb0)
  replace V_qy := Lib.hid (Qd.below V_qy.out hb0)
  replace V_tab := Lib.hid (tab_below V_tab.out hb0)
  have HB := Lib.hid hb0
  clear hb0
  have c0t := B_t.out.c0
  have c1t := B_t.out.c1
  have c2t := B_t.out.c2
  have c3t := B_t.out.c3
  have c4t := B_t.out.c4
  have c5t := B_t.out.c5
  have c6t := B_t.out.c6
  have c7t := B_t.out.c7
  have c8t := B_t.out.c8
  have c9t := B_t.out.c9
  have c10t := B_t.out.c10
  have c11t := B_t.out.c11
  have c0p := B_p.out.c0
  have c1p := B_p.out.c1
  have c2p := B_p.out.c2
  have c3p := B_p.out.c3
  have c4p := B_p.out.c4
  have c5p := B_p.out.c5
  have c6p := B_p.out.c6
  have c7p := B_p.out.c7
  have c0q := B_q.out.c0
  have c1q := B_q.out.c1
  have c2q := B_q.out.c2
  have c3q := B_q.out.c3
  have c4q := B_q.out.c4
  have c5q := B_q.out.c5
  have c6q := B_q.out.c6
  have c7q := B_q.out.c7
  go_enter Tryz.func6, Tryz.ntmps6
  go_wp2_with fail
  clear c0t c1t c2t c3t c4t c5t c6t c7t c8t c9t c10t c11t c0p c1p c2p c3p c4p c5p c6p c7p c0q c1q c2q c3q c4q c5q c6q c7q
  generalize ((w.alloc (.cells #[.bool str, (.slice Atr ktr ctr), .bool ttr, (.slice Ctr ltr dtr), .bool stx, (.slice Atx ktx ctx), .bool ttx, (.slice Ctx ltx dtx), .bool sty, (.slice Aty kty cty), .bool tty, (.slice Cty lty dty)] 44)).alloc (.cells #[.bool spx, (.slice Apx kpx cpx), .bool tpx, (.slice Cpx lpx dpx), .bool spy, (.slice Apy kpy cpy), .bool tpy, (.slice Cpy lpy dpy)] 46)).alloc (.cells #[.bool sqx, (.slice Aqx kqx cqx), .bool tqx, (.slice Cqx lqx dqx), .bool sqy, (.slice Aqy kqy cqy), .bool tqy, (.slice Cqy lqy dqy)] 46) = W0 at *
  refine (awakeR _ (tab_below V_tab.out (by exact ⟨rfl, rfl, rfl, Nat.le_refl _, fun _ _ => rfl⟩))).mono ?_
  rintro e w1 ⟨rfl, bb⟩
  replace bb := nextw (w0 := W0) (by exact ⟨rfl, rfl, rfl, Nat.le_refl _, fun _ _ => rfl⟩) bb
  replace B_t := Lib.hid (Box12.below B_t.out bb B_t.out.lt)
  replace B_p := Lib.hid (Box8.below B_p.out bb B_p.out.lt)
  replace B_q := Lib.hid (Box8.below B_q.out bb B_q.out.lt)
  replace V_trn := Lib.hid (Rd.below V_trn.out bb)
  replace V_trd := Lib.hid (Rd.below V_trd.out bb)
  replace V_tx := Lib.hid (Qd.below V_tx.out bb)
  replace V_ty := Lib.hid (Qd.below V_ty.out bb)
  replace V_px := Lib.hid (Qd.below V_px.out bb)
  replace V_py := Lib.hid (Qd.below V_py.out bb)
  replace V_qx := Lib.hid (Qd.below V_qx.out bb)
  replace V_qy := Lib.hid (Qd.below V_qy.out bb)
  replace V_tab := Lib.hid (tab_below V_tab.out bb)
  replace HB := Lib.hid (nextw HB.out bb)
  clear bb
  have c0t := B_t.out.c0
  have c1t := B_t.out.c1
  have c2t := B_t.out.c2
  have c3t := B_t.out.c3
  have c4t := B_t.out.c4
  have c5t := B_t.out.c5
  have c6t := B_t.out.c6
  have c7t := B_t.out.c7
  have c8t := B_t.out.c8
  have c9t := B_t.out.c9
  have c10t := B_t.out.c10
  have c11t := B_t.out.c11
  have c0p := B_p.out.c0
  have c1p := B_p.out.c1
  have c2p := B_p.out.c2
  have c3p := B_p.out.c3
  have c4p := B_p.out.c4
  have c5p := B_p.out.c5
  have c6p := B_p.out.c6
  have c7p := B_p.out.c7
  have c0q := B_q.out.c0
  have c1q := B_q.out.c1
  have c2q := B_q.out.c2
  have c3q := B_q.out.c3
  have c4q := B_q.out.c4
  have c5q := B_q.out.c5
  have c6q := B_q.out.c6
  have c7q := B_q.out.c7
  go_wp2_with fail
  refine (light_yes Hgtr.out Hgtx.out Hgty.out).mono ?_
  rintro e w2 ⟨rfl, bb⟩
  replace bb := nextw (w0 := w1) (by exact ⟨rfl, rfl, rfl, Nat.le_refl _, fun _ _ => rfl⟩) bb
  clear c0t c1t c2t c3t c4t c5t c6t c7t c8t c9t c10t c11t c0p c1p c2p c3p c4p c5p c6p c7p c0q c1q c2q c3q c4q c5q c6q c7q
  replace B_t := Lib.hid (Box12.below B_t.out bb B_t.out.lt)
  replace B_p := Lib.hid (Box8.below B_p.out bb B_p.out.lt)
  replace B_q := Lib.hid (Box8.below B_q.out bb B_q.out.lt)
  replace V_trn := Lib.hid (Rd.below V_trn.out bb)
  replace V_trd := Lib.hid (Rd.below V_trd.out bb)
  replace V_tx := Lib.hid (Qd.below V_tx.out bb)
  replace V_ty := Lib.hid (Qd.below V_ty.out bb)
  replace V_px := Lib.hid (Qd.below V_px.out bb)
  replace V_py := Lib.hid (Qd.below V_py.out bb)
  replace V_qx := Lib.hid (Qd.below V_qx.out bb)
  replace V_qy := Lib.hid (Qd.below V_qy.out bb)
  replace V_tab := Lib.hid (tab_below V_tab.out bb)
  replace HB := Lib.hid (nextw HB.out bb)
  clear bb
  have c0t := B_t.out.c0
  have c1t := B_t.out.c1
  have c2t := B_t.out.c2
  have c3t := B_t.out.c3
  have c4t := B_t.out.c4
  have c5t := B_t.out.c5
  have c6t := B_t.out.c6
  have c7t := B_t.out.c7
  have c8t := B_t.out.c8
  have c9t := B_t.out.c9
  have c10t := B_t.out.c10
  have c11t := B_t.out.c11
  have c0p := B_p.out.c0
  have c1p := B_p.out.c1
  have c2p := B_p.out.c2
  have c3p := B_p.out.c3
  have c4p := B_p.out.c4
  have c5p := B_p.out.c5
  have c6p := B_p.out.c6
  have c7p := B_p.out.c7
  have c0q := B_q.out.c0
  have c1q := B_q.out.c1
  have c2q := B_q.out.c2
  have c3q := B_q.out.c3
  have c4q := B_q.out.c4
  have c5q := B_q.out.c5
  have c6q := B_q.out.c6
  have c7q := B_q.out.c7
  go_wp2_with fail
  refine (short_yes Hgpx.out.1 Hgpx.out.2).mono ?_
  rintro e w3 ⟨rfl, bb⟩
  replace bb := nextw (w0 := w2) (by exact ⟨rfl, rfl, rfl, Nat.le_refl _, fun _ _ => rfl⟩) bb
  clear c0t c1t c2t c3t c4t c5t c6t c7t c8t c9t c10t c11t c0p c1p c2p c3p c4p c5p c6p c7p c0q c1q c2q c3q c4q c5q c6q c7q
  replace B_t := Lib.hid (Box12.below B_t.out bb B_t.out.lt)
  replace B_p := Lib.hid (Box8.below B_p.out bb B_p.out.lt)
  replace B_q := Lib.hid (Box8.below B_q.out bb B_q.out.lt)
  replace V_trn := Lib.hid (Rd.below V_trn.out bb)
  replace V_trd := Lib.hid (Rd.below V_trd.out bb)
  replace V_tx := Lib.hid (Qd.below V_tx.out bb)
  replace V_ty := Lib.hid (Qd.below V_ty.out bb)
  replace V_px := Lib.hid (Qd.below V_px.out bb)
  replace V_py := Lib.hid (Qd.below V_py.out bb)
  replace V_qx := Lib.hid (Qd.below V_qx.out bb)
  replace V_qy := Lib.hid (Qd.below V_qy.out bb)
  replace V_tab := Lib.hid (tab_below V_tab.out bb)
  replace HB := Lib.hid (nextw HB.out bb)
  clear bb
  have c0t := B_t.out.c0
  have c1t := B_t.out.c1
  have c2t := B_t.out.c2
  have c3t := B_t.out.c3
  have c4t := B_t.out.c4
  have c5t := B_t.out.c5
  have c6t := B_t.out.c6
  have c7t := B_t.out.c7
  have c8t := B_t.out.c8
  have c9t := B_t.out.c9
  have c10t := B_t.out.c10
  have c11t := B_t.out.c11
  have c0p := B_p.out.c0
  have c1p := B_p.out.c1
  have c2p := B_p.out.c2
  have c3p := B_p.out.c3
  have c4p := B_p.out.c4
  have c5p := B_p.out.c5
  have c6p := B_p.out.c6
  have c7p := B_p.out.c7
  have c0q := B_q.out.c0
  have c1q := B_q.out.c1
  have c2q := B_q.out.c2
  have c3q := B_q.out.c3
  have c4q := B_q.out.c4
  have c5q := B_q.out.c5
  have c6q := B_q.out.c6
  have c7q := B_q.out.c7
  go_wp2_with fail
  refine (short_no Hmpy.out.1 Hmpy.out.2 Hgpy.out).mono ?_
  rintro e w4 ⟨rfl, bb⟩
  replace bb := nextw (w0 := w3) (by exact ⟨rfl, rfl, rfl, Nat.le_refl _, fun _ _ => rfl⟩) bb
  clear c0t c1t c2t c3t c4t c5t c6t c7t c8t c9t c10t c11t c0p c1p c2p c3p c4p c5p c6p c7p c0q c1q c2q c3q c4q c5q c6q c7q
  replace B_t := Lib.hid (Box12.below B_t.out bb B_t.out.lt)
  replace B_p := Lib.hid (Box8.below B_p.out bb B_p.out.lt)
  replace B_q := Lib.hid (Box8.below B_q.out bb B_q.out.lt)
  replace V_trn := Lib.hid (Rd.below V_trn.out bb)
  replace V_trd := Lib.hid (Rd.below V_trd.out bb)
  replace V_tx := Lib.hid (Qd.below V_tx.out bb)
  replace V_ty := Lib.hid (Qd.below V_ty.out bb)
  replace V_px := Lib.hid (Qd.below V_px.out bb)
  replace V_py := Lib.hid (Qd.below V_py.out bb)
  replace V_qx := Lib.hid (Qd.below V_qx.out bb)
  replace V_qy := Lib.hid (Qd.below V_qy.out bb)
  replace V_tab := Lib.hid (tab_below V_tab.out bb)
  replace HB := Lib.hid (nextw HB.out bb)
  clear bb
  go_wp2_with fail
  refine (awakeR _ (tab_below V_tab.out (by exact ⟨rfl, rfl, rfl, Nat.le_refl _, fun _ _ => rfl⟩))).mono ?_
  rintro e w5 ⟨rfl, bb⟩
  replace bb := nextw (w0 := w4) (by exact ⟨rfl, rfl, rfl, Nat.le_refl _, fun _ _ => rfl⟩) bb
  replace B_t := Lib.hid (Box12.below B_t.out bb B_t.out.lt)
  replace B_p := Lib.hid (Box8.below B_p.out bb B_p.out.lt)
  replace B_q := Lib.hid (Box8.below B_q.out bb B_q.out.lt)
  replace V_trn := Lib.hid (Rd.below V_trn.out bb)
  replace V_trd := Lib.hid (Rd.below V_trd.out bb)
  replace V_tx := Lib.hid (Qd.below V_tx.out bb)
  replace V_ty := Lib.hid (Qd.below V_ty.out bb)
  replace V_px := Lib.hid (Qd.below V_px.out bb)
  replace V_py := Lib.hid (Qd.below V_py.out bb)
  replace V_qx := Lib.hid (Qd.below V_qx.out bb)
  replace V_qy := Lib.hid (Qd.below V_qy.out bb)
  replace V_tab := Lib.hid (tab_below V_tab.out bb)
  replace HB := Lib.hid (nextw HB.out bb)
  clear bb
  have HBo := HB.out
  go_wp2
  go_ret
  exact ⟨rfl, nextw HBo (by exact ⟨rfl, rfl, rfl, Nat.le_refl _, fun _ _ => rfl⟩)⟩

set_option maxRecDepth 100000 in
set_option maxHeartbeats 16000000 in
theorem Rigid_long3 {str : Bool} {Atr : Option Addr} {ktr ctr : Nat} {ttr : Bool} {Ctr : Option Addr} {ltr dtr : Nat} {ptr qtr : Int} {stx : Bool} {Atx : Option Addr} {ktx ctx : Nat} {ttx : Bool} {Ctx : Option Addr} {ltx dtx : Nat} {rtx : Rat} {sty : Bool} {Aty : Option Addr} {kty cty : Nat} {tty : Bool} {Cty : Option Addr} {lty dty : Nat} {rty : Rat} {spx : Bool} {Apx : Option Addr} {kpx cpx : Nat} {tpx : Bool} {Cpx : Option Addr} {lpx dpx : Nat} {rpx : Rat} {spy : Bool} {Apy : Option Addr} {kpy cpy : Nat} {tpy : Bool} {Cpy : Option Addr} {lpy dpy : Nat} {rpy : Rat} {sqx : Bool} {Aqx : Option Addr} {kqx cqx : Nat} {tqx : Bool} {Cqx : Option Addr} {lqx dqx : Nat} {rqx : Rat} {sqy : Bool} {Aqy : Option Addr} {kqy cqy : Nat} {tqy : Bool} {Cqy : Option Addr} {lqy dqy : Nat} {rqy : Rat} {j : Nat} {w : World} (htr : Fd w (.agg #[.bool str, .slice Atr ktr ctr, .bool ttr, .slice Ctr ltr dtr]) ptr qtr j) (htx : Qd w (.agg #[.bool stx, .slice Atx ktx ctx, .bool ttx, .slice Ctx ltx dtx]) rtx j) (hty : Qd w (.agg #[.bool sty, .slice Aty kty cty, .bool tty, .slice Cty lty dty]) rty j) (hpx : Qd w (.agg #[.bool spx, .slice Apx kpx cpx, .bool tpx, .slice Cpx lpx dpx]) rpx j) (hpy : Qd w (.agg #[.bool spy, .slice Apy kpy cpy, .bool tpy, .slice Cpy lpy dpy]) rpy j) (hqx : Qd w (.agg #[.bool sqx, .slice Aqx kqx cqx, .bool tqx, .slice Cqx lqx dqx]) rqx j) (hqy : Qd w (.agg #[.bool sqy, .slice Aqy kqy cqy, .bool tqy, .slice Cqy lqy dqy]) rqy j) (htab : Tab10 w) (gtr : ktr ≤ 12 ∧ ltr ≤ 12) (gtx : ktx ≤ 12 ∧ ltx ≤ 12) (gty : kty ≤ 12 ∧ lty ≤ 12) (gpx : kpx ≤ 12 ∧ lpx ≤ 12) (gpy : kpy ≤ 12 ∧ lpy ≤ 12) (mqx : kqx ≤ 9223372036854775807 ∧ lqx ≤ 9223372036854775807) (gqx : ¬ (kqx ≤ 12 ∧ lqx ≤ 12)) :
    Calls Tryz.prog 6 #[.agg #[.bool str, .slice Atr ktr ctr, .bool ttr, .slice Ctr ltr dtr, .bool stx, .slice Atx ktx ctx, .bool ttx, .slice Ctx ltx dtx, .bool sty, .slice Aty kty cty, .bool tty, .slice Cty lty dty], .agg #[.bool spx, .slice Apx kpx cpx, .bool tpx, .slice Cpx lpx dpx, .bool spy, .slice Apy kpy cpy, .bool tpy, .slice Cpy lpy dpy], .agg #[.bool sqx, .slice Aqx kqx cqx, .bool tqx, .slice Cqx lqx dqx, .bool sqy, .slice Aqy kqy cqy, .bool tqy, .slice Cqy lqy dqy]] w fun e w' => e = .returned (.bool true) ∧ Below w.heap.size w w' := by
  have Hgtr := Lib.hid gtr
  have Hgtx := Lib.hid gtx
  have Hgty := Lib.hid gty
  have Hgpx := Lib.hid gpx
  have Hgpy := Lib.hid gpy
  have Hmqx := Lib.hid mqx
  have Hgqx := Lib.hid gqx
  clear gtr gtx gty gpx gpy mqx gqx
  have V_trn := Lib.hid htr.num
  have V_trd := Lib.hid htr.den
  have V_tx := Lib.hid htx
  have V_ty := Lib.hid hty
  have V_px := Lib.hid hpx
  have V_py := Lib.hid hpy
  have V_qx := Lib.hid hqx
  have V_qy := Lib.hid hqy
  have V_tab := Lib.hid htab
  clear htr htx hty hpx hpy hqx hqy htab
  have hb0 : Below w.heap.size w (((w.alloc (.cells #[.bool str, (.slice Atr ktr ctr), .bool ttr, (.slice Ctr ltr dtr), .bool stx, (.slice Atx ktx ctx), .bool ttx, (.slice Ctx ltx dtx), .bool sty, (.slice Aty kty cty), .bool tty, (.slice Cty lty dty)] 44)).alloc (.cells #[.bool spx, (.slice Apx kpx cpx), .bool tpx, (.slice Cpx lpx dpx), .bool spy, (.slice Apy kpy cpy), .bool tpy, (.slice Cpy lpy dpy)] 46)).alloc (.cells #[.bool sqx, (.slice Aqx kqx cqx), .bool tqx, (.slice Cqx lqx dqx), .bool sqy, (.slice Aqy kqy cqy), .bool tqy, (.slice Cqy lqy dqy)] 46)) := (Below.alloc (Below.alloc (Below.alloc (Below.refl w.heap.size w) (by simp <;> omega) _) (by simp <;> omega) _) (by simp <;> omega) _)
  have B_t : Box12 (((w.alloc (.cells #[.bool str, (.slice Atr ktr ctr), .bool ttr, (.slice Ctr ltr dtr), .bool stx, (.slice Atx ktx ctx), .bool ttx, (.slice Ctx ltx dtx), .bool sty, (.slice Aty kty cty), .bool tty, (.slice Cty lty dty)] 44)).alloc (.cells #[.bool spx, (.slice Apx kpx cpx), .bool tpx, (.slice Cpx lpx dpx), .bool spy, (.slice Apy kpy cpy), .bool tpy, (.slice Cpy lpy dpy)] 46)).alloc (.cells #[.bool sqx, (.slice Aqx kqx cqx), .bool tqx, (.slice Cqx lqx dqx), .bool sqy, (.slice Aqy kqy cqy), .bool tqy, (.slice Cqy lqy dqy)] 46)) (w.heap.size) str (.slice Atr ktr ctr) ttr (.slice Ctr ltr dtr) stx (.slice Atx ktx ctx) ttx (.slice Ctx ltx dtx) sty (.slice Aty kty cty) tty (.slice Cty lty dty) := by have h := Box12.alloc (Box12.alloc (Box12.new w str (.slice Atr ktr ctr) ttr (.slice Ctr ltr dtr) stx (.slice Atx ktx ctx) ttx (.slice Ctx ltx dtx) sty (.slice Aty kty cty) tty (.slice Cty lty dty)) (.cells #[.bool spx, (.slice Apx kpx cpx), .bool tpx, (.slice Cpx lpx dpx), .bool spy, (.slice Apy kpy cpy), .bool tpy, (.slice Cpy lpy dpy)] 46)) (.cells #[.bool sqx, (.slice Aqx kqx cqx), .bool tqx, (.slice Cqx lqx dqx), .bool sqy, (.slice Aqy kqy cqy), .bool tqy, (.slice Cqy lqy dqy)] 46); simpa using h
  replace B_t := Lib.hid B_t
  have B_p : Box8 (((w.alloc (.cells #[.bool str, (.slice Atr ktr ctr), .bool ttr, (.slice Ctr ltr dtr), .bool stx, (.slice Atx ktx ctx), .bool ttx, (.slice Ctx ltx dtx), .bool sty, (.slice Aty kty cty), .bool tty, (.slice Cty lty dty)] 44)).alloc (.cells #[.bool spx, (.slice Apx kpx cpx), .bool tpx, (.slice Cpx lpx dpx), .bool spy, (.slice Apy kpy cpy), .bool tpy, (.slice Cpy lpy dpy)] 46)).alloc (.cells #[.bool sqx, (.slice Aqx kqx cqx), .bool tqx, (.slice Cqx lqx dqx), .bool sqy, (.slice Aqy kqy cqy), .bool tqy, (.slice Cqy lqy dqy)] 46)) (w.heap.size + 1) spx (.slice Apx kpx cpx) tpx (.slice Cpx lpx dpx) spy (.slice Apy kpy cpy) tpy (.slice Cpy lpy dpy) := by have h := Box8.alloc (Box8.new (w.alloc (.cells #[.bool str, (.slice Atr ktr ctr), .bool ttr, (.slice Ctr ltr dtr), .bool stx, (.slice Atx ktx ctx), .bool ttx, (.slice Ctx ltx dtx), .bool sty, (.slice Aty kty cty), .bool tty, (.slice Cty lty dty)] 44)) spx (.slice Apx kpx cpx) tpx (.slice Cpx lpx dpx) spy (.slice Apy kpy cpy) tpy (.slice Cpy lpy dpy)) (.cells #[.bool sqx, (.slice Aqx kqx cqx), .bool tqx, (.slice Cqx lqx dqx), .bool sqy, (.slice Aqy kqy cqy), .bool tqy, (.slice Cqy lqy dqy)] 46); simpa using h
  replace B_p := Lib.hid B_p
  have B_q : Box8 (((w.alloc (.cells #[.bool str, (.slice Atr ktr ctr), .bool ttr, (.slice Ctr ltr dtr), .bool stx, (.slice Atx ktx ctx), .bool ttx, (.slice Ctx ltx dtx), .bool sty, (.slice Aty kty cty), .bool tty, (.slice Cty lty dty)] 44)).alloc (.cells #[.bool spx, (.slice Apx kpx cpx), .bool tpx, (.slice Cpx lpx dpx), .bool spy, (.slice Apy kpy cpy), .bool tpy, (.slice Cpy lpy dpy)] 46)).alloc (.cells #[.bool sqx, (.slice Aqx kqx cqx), .bool tqx, (.slice Cqx lqx dqx), .bool sqy, (.slice Aqy kqy cqy), .bool tqy, (.slice Cqy lqy dqy)] 46)) (w.heap.size + 1 + 1) sqx (.slice Aqx kqx cqx) tqx (.slice Cqx lqx dqx) sqy (.slice Aqy kqy cqy) tqy (.slice Cqy lqy dqy) := by have h := Box8.new ((w.alloc (.cells #[.bool str, (.slice Atr ktr ctr), .bool ttr, (.slice Ctr ltr dtr), .bool stx, (.slice Atx ktx ctx), .bool ttx, (.slice Ctx ltx dtx), .bool sty, (.slice Aty kty cty), .bool tty, (.slice Cty lty dty)] 44)).alloc (.cells #[.bool spx, (.slice Apx kpx cpx), .bool tpx, (.slice Cpx lpx dpx), .bool spy, (.slice Apy kpy cpy), .bool tpy, (.slice Cpy lpy dpy)] 46)) sqx (.slice Aqx kqx cqx) tqx (.slice Cqx lqx dqx) sqy (.slice Aqy kqy cqy) tqy (.slice Cqy lqy dqy); simpa using h
  replace B_q := Lib.hid B_q
  replace V_trn := Lib.hid (Rd.below V_trn.out hb0)
  replace V_trd := Lib.hid (Rd.below V_trd.out hb0)
  replace V_tx := Lib.hid (Qd.below V_tx.out hb0)
  replace V_ty := Lib.hid (Qd.below V_ty.out hb0)
  replace V_px := Lib.hid (Qd.below V_px.out hb0)
  replace V_py := Lib.hid (Qd.below V_py.out hb0)
  replace V_qx := Lib.hid (Qd.below V_qx.out hb0)
  replace V_qy := Lib.hid (Qd.below V_qy.out hb0)
  replace V_tab := Lib.hid (tab_below V_tab.out hb0)
  have HB := Lib.hid hb0
  clear hb0
  have c0t := B_t.out.c0
  have c1t := B_t.out.c1
  have c2t := B_t.out.c2
  have c3t := B_t.out.c3
  have c4t := B_t.out.c4
  have c5t := B_t.out.c5
  have c6t := B_t.out.c6
  have c7t := B_t.out.c7
  have c8t := B_t.out.c8
  have c9t := B_t.out.c9
  have c10t := B_t.out.c10
  have c11t := B_t.out.c11
  have c0p := B_p.out.c0
  have c1p := B_p.out.c1
  have c2p := B_p.out.c2
  have c3p := B_p.out.c3
  have c4p := B_p.out.c4
  have c5p := B_p.out.c5
  have c6p := B_p.out.c6
  have c7p := B_p.out.c7
  have c0q := B_q.out.c0
  have c1q := B_q.out.c1
  have c2q := B_q.out.c2
  have c3q := B_q.out.c3
  have c4q := B_q.out.c4
  have c5q := B_q.out.c5
  have c6q := B_q.out.c6
  have c7q := B_q.out.c7
  go_enter Tryz.func6, Tryz.ntmps6
  go_wp2_with fail
  clear c0t c1t c2t c3t c4t c5t c6t c7t c8t c9t c10t c11t c0p c1p c2p c3p c4p c5p c6p c7p c0q c1q c2q c3q c4q c5q c6q c7q
  generalize ((w.alloc (.cells #[.bool str, (.slice Atr ktr ctr), .bool ttr, (.slice Ctr ltr dtr), .bool stx, (.slice Atx ktx ctx), .bool ttx, (.slice Ctx ltx dtx), .bool sty, (.slice Aty kty cty), .bool tty, (.slice Cty lty dty)] 44)).alloc (.cells #[.bool spx, (.slice Apx kpx cpx), .bool tpx, (.slice Cpx lpx dpx), .bool spy, (.slice Apy kpy cpy), .bool tpy, (.slice Cpy lpy dpy)] 46)).alloc (.cells #[.bool sqx, (.slice Aqx kqx cqx), .bool tqx, (.slice Cqx lqx dqx), .bool sqy, (.slice Aqy kqy cqy), .bool tqy, (.slice Cqy lqy dqy)] 46) = W0 at *
  refine (awakeR _ (tab_below V_tab.out (by exact ⟨rfl, rfl, rfl, Nat.le_refl _, fun _ _ => rfl⟩))).mono ?_
  rintro e w1 ⟨rfl, bb⟩
  replace bb := nextw (w0 := W0) (by exact ⟨rfl, rfl, rfl, Nat.le_refl _, fun _ _ => rfl⟩) bb
  replace B_t := Lib.hid (Box12.below B_t.out bb B_t.out.lt)
  replace B_p := Lib.hid (Box8.below B_p.out bb B_p.out.lt)
  replace B_q := Lib.hid (Box8.below B_q.out bb B_q.out.lt)
  replace V_trn := Lib.hid (Rd.below V_trn.out bb)
  replace V_trd := Lib.hid (Rd.below V_trd.out bb)
  replace V_tx := Lib.hid (Qd.below V_tx.out bb)
  replace V_ty := Lib.hid (Qd.below V_ty.out bb)
  replace V_px := Lib.hid (Qd.below V_px.out bb)
  replace V_py := Lib.hid (Qd.below V_py.out bb)
  replace V_qx := Lib.hid (Qd.below V_qx.out bb)
  replace V_qy := Lib.hid (Qd.below V_qy.out bb)
  replace V_tab := Lib.hid (tab_below V_tab.out bb)
  replace HB := Lib.hid (nextw HB.out bb)
  clear bb
  have c0t := B_t.out.c0
  have c1t := B_t.out.c1
  have c2t := B_t.out.c2
  have c3t := B_t.out.c3
  have c4t := B_t.out.c4
  have c5t := B_t.out.c5
  have c6t := B_t.out.c6
  have c7t := B_t.out.c7
  have c8t := B_t.out.c8
  have c9t := B_t.out.c9
  have c10t := B_t.out.c10
  have c11t := B_t.out.c11
  have c0p := B_p.out.c0
  have c1p := B_p.out.c1
  have c2p := B_p.out.c2
  have c3p := B_p.out.c3
  have c4p := B_p.out.c4
  have c5p := B_p.out.c5
  have c6p := B_p.out.c6
  have c7p := B_p.out.c7
  have c0q := B_q.out.c0
  have c1q := B_q.out.c1
  have c2q := B_q.out.c2
  have c3q := B_q.out.c3
  have c4q := B_q.out.c4
  have c5q := B_q.out.c5
  have c6q := B_q.out.c6
  have c7q := B_q.out.c7
  go_wp2_with fail
  refine (light_yes Hgtr.out Hgtx.out Hgty.out).mono ?_
  rintro e w2 ⟨rfl, bb⟩
  replace bb := nextw (w0 := w1) (by exact ⟨rfl, rfl, rfl, Nat.le_refl _, fun _ _ => rfl⟩) bb
  clear c0t c1t c2t c3t c4t c5t c6t c7t c8t c9t c10t c11t c0p c1p c2p c3p c4p c5p c6p c7p c0q c1q c2q c3q c4q c5q c6q c7q
  replace B_t := Lib.hid (Box12.below B_t.out bb B_t.out.lt)
  replace B_p := Lib.hid (Box8.below B_p.out bb B_p.out.lt)
  replace B_q := Lib.hid (Box8.below B_q.out bb B_q.out.lt)
  replace V_trn := Lib.hid (Rd.below V_trn.out bb)
  replace V_trd := Lib.hid (Rd.below V_trd.out bb)
  replace V_tx := Lib.hid (Qd.below V_tx.out bb)
  replace V_ty := Lib.hid (Qd.below V_ty.out bb)
  replace V_px := Lib.hid (Qd.below V_px.out bb)
  replace V_py := Lib.hid (Qd.below V_py.out bb)
  replace V_qx := Lib.hid (Qd.below V_qx.out bb)
  replace V_qy := Lib.hid (Qd.below V_qy.out bb)
  replace V_tab := Lib.hid (tab_below V_tab.out bb)
  replace HB := Lib.hid (nextw HB.out bb)
  clear bb
  have c0t := B_t.out.c0
  have c1t := B_t.out.c1
  have c2t := B_t.out.c2
  have c3t := B_t.out.c3
  have c4t := B_t.out.c4
  have c5t := B_t.out.c5
  have c6t := B_t.out.c6
  have c7t := B_t.out.c7
  have c8t := B_t.out.c8
  have c9t := B_t.out.c9
  have c10t := B_t.out.c10
  have c11t := B_t.out.c11
  have c0p := B_p.out.c0
  have c1p := B_p.out.c1
  have c2p := B_p.out.c2
  have c3p := B_p.out.c3
  have c4p := B_p.out.c4
  have c5p := B_p.out.c5
  have c6p := B_p.out.c6
  have c7p := B_p.out.c7
  have c0q := B_q.out.c0
  have c1q := B_q.out.c1
  have c2q := B_q.out.c2
  have c3q := B_q.out.c3
  have c4q := B_q.out.c4
  have c5q := B_q.out.c5
  have c6q := B_q.out.c6
  have c7q := B_q.out.c7
  go_wp2_with fail
  refine (short_yes Hgpx.out.1 Hgpx.out.2).mono ?_
  rintro e w3 ⟨rfl, bb⟩
  replace bb := nextw (w0 := w2) (by exact ⟨rfl, rfl, rfl, Nat.le_refl _, fun _ _ => rfl⟩) bb
  clear c0t c1t c2t c3t c4t c5t c6t c7t c8t c9t c10t c11t c0p c1p c2p c3p c4p c5p c6p c7p c0q c1q c2q c3q c4q c5q c6q c7q
  replace B_t := Lib.hid (Box12.below B_t.out bb B_t.out.lt)
  replace B_p := Lib.hid (Box8.below B_p.out bb B_p.out.lt)
  replace B_q := Lib.hid (Box8.below B_q.out bb B_q.out.lt)
  replace V_trn := Lib.hid (Rd.below V_trn.out bb)
  replace V_trd := Lib.hid (Rd.below V_trd.out bb)
  replace V_tx := Lib.hid (Qd.below V_tx.out bb)
  replace V_ty := Lib.hid (Qd.below V_ty.out bb)
  replace V_px := Lib.hid (Qd.below V_px.out bb)
  replace V_py := Lib.hid (Qd.below V_py.out bb)
  replace V_qx := Lib.hid (Qd.below V_qx.out bb)
  replace V_qy := Lib.hid (Qd.below V_qy.out bb)
  replace V_tab := Lib.hid (tab_below V_tab.out bb)
  replace HB := Lib.hid (nextw HB.out bb)
  clear bb
  have c0t := B_t.out.c0
  have c1t := B_t.out.c1
  have c2t := B_t.out.c2
  have c3t := B_t.out.c3
  have c4t := B_t.out.c4
  have c5t := B_t.out.c5
  have c6t := B_t.out.c6
  have c7t := B_t.out.c7
  have c8t := B_t.out.c8
  have c9t := B_t.out.c9
  have c10t := B_t.out.c10
  have c11t := B_t.out.c11
  have c0p := B_p.out.c0
  have c1p := B_p.out.c1
  have c2p := B_p.out.c2
  have c3p := B_p.out.c3
  have c4p := B_p.out.c4
  have c5p := B_p.out.c5
  have c6p := B_p.out.c6
  have c7p := B_p.out.c7
  have c0q := B_q.out.c0
  have c1q := B_q.out.c1
  have c2q := B_q.out.c2
  have c3q := B_q.out.c3
  have c4q := B_q.out.c4
  have c5q := B_q.out.c5
  have c6q := B_q.out.c6
  have c7q := B_q.out.c7
  go_wp2_with fail
  refine (short_yes Hgpy.out.1 Hgpy.out.2).mono ?_
  rintro e w4 ⟨rfl, bb⟩
  replace bb := nextw (w0 := w3) (by exact ⟨rfl, rfl, rfl, Nat.le_refl _, fun _ _ => rfl⟩) bb
  clear c0t c1t c2t c3t c4t c5t c6t c7t c8t c9t c10t c11t c0p c1p c2p c3p c4p c5p c6p c7p c0q c1q c2q c3q c4q c5q c6q c7q
  replace B_t := Lib.hid (Box12.below B_t.out bb B_t.out.lt)
  replace B_p := Lib.hid (Box8.below B_p.out bb B_p.out.lt)
  replace B_q := Lib.hid (Box8.below B_q.out bb B_q.out.lt)
  replace V_trn := Lib.hid (Rd.below V_trn.out bb)
  replace V_trd := Lib.hid (Rd.below V_trd.out bb)
  replace V_tx := Lib.hid (Qd.below V_tx.out bb)
  replace V_ty := Lib.hid (Qd.below V_ty.out bb)
  replace V_px := Lib.hid (Qd.below V_px.out bb)
  replace V_py := Lib.hid (Qd.below V_py.out bb)
  replace V_qx := Lib.hid (Qd.below V_qx.out bb)
  replace V_qy := Lib.hid (Qd.below V_qy.out bb)
  replace V_tab := Lib.hid (tab_below V_tab.out bb)
  replace HB := Lib.hid (nextw HB.out bb)
  clear bb
  have c0t := B_t.out.c0
  have c1t := B_t.out.c1
  have c2t := B_t.out.c2
  have c3t := B_t.out.c3
  have c4t := B_t.out.c4
  have c5t := B_t.out.c5
  have c6t := B_t.out.c6
  have c7t := B_t.out.c7
  have c8t := B_t.out.c8
  have c9t := B_t.out.c9
  have c10t := B_t.out.c10
  have c11t := B_t.out.c11
  have c0p := B_p.out.c0
  have c1p := B_p.out.c1
  have c2p := B_p.out.c2
  have c3p := B_p.out.c3
  have c4p := B_p.out.c4
  have c5p := B_p.out.c5
  have c6p := B_p.out.c6
  have c7p := B_p.out.c7
  have c0q := B_q.out.c0
  have c1q := B_q.out.c1
  have c2q := B_q.out.c2
  have c3q := B_q.out.c3
  have c4q := B_q.out.c4
  have c5q := B_q.out.c5
  have c6q := B_q.out.c6
  have c7q := B_q.out.c7
  go_wp2_with fail
  refine (short_no Hmqx.out.1 Hmqx.out.2 Hgqx.out).mono ?_
  rintro e w5 ⟨rfl, bb⟩
  replace bb := nextw (w0 := w4) (by exact ⟨rfl, rfl, rfl, Nat.le_refl _, fun _ _ => rfl⟩) bb
  clear c0t c1t c2t c3t c4t c5t c6t c7t c8t c9t c10t c11t c0p c1p c2p c3p c4p c5p c6p c7p c0q c1q c2q c3q c4q c5q c6q c7q
  replace B_t := Lib.hid (Box12.below B_t.out bb B_t.out.lt)
  replace B_p := Lib.hid (Box8.below B_p.out bb B_p.out.lt)
  replace B_q := Lib.hid (Box8.below B_q.out bb B_q.out.lt)
  replace V_trn := Lib.hid (Rd.below V_trn.out bb)
  replace V_trd := Lib.hid (Rd.below V_trd.out bb)
  replace V_tx := Lib.hid (Qd.below V_tx.out bb)
  replace V_ty := Lib.hid (Qd.below V_ty.out bb)
  replace V_px := Lib.hid (Qd.below V_px.out bb)
  replace V_py := Lib.hid (Qd.below V_py.out bb)
  replace V_qx := Lib.hid (Qd.below V_qx.out bb)
  replace V_qy := Lib.hid (Qd.below V_qy.out bb)
  replace V_tab := Lib.hid (tab_below V_tab.out bb)
  replace HB := Lib.hid (nextw HB.out bb)
  clear bb
  go_wp2_with fail
  refine (awakeR _ (tab_below V_tab.out (by exact ⟨rfl, rfl, rfl, Nat.le_refl _, fun _ _ => rfl⟩))).mono ?_
  rintro e w6 ⟨rfl, bb⟩
  replace bb := nextw (w0 := w5) (by exact ⟨rfl, rfl, rfl, Nat.le_refl _, fun _ _ => rfl⟩) bb
  replace B_t := Lib.hid (Box12.below B_t.out bb B_t.out.lt)
  replace B_p := Lib.hid (Box8.below B_p.out bb B_p.out.lt)
  replace B_q := Lib.hid (Box8.below B_q.out bb B_q.out.lt)
  replace V_trn := Lib.hid (Rd.below V_trn.out bb)
  replace V_trd := Lib.hid (Rd.below V_trd.out bb)
  replace V_tx := Lib.hid (Qd.below V_tx.out bb)
  replace V_ty := Lib.hid (Qd.below V_ty.out bb)
  replace V_px := Lib.hid (Qd.below V_px.out bb)
  replace V_py := Lib.hid (Qd.below V_py.out bb)
  replace V_qx := Lib.hid (Qd.below V_qx.out bb)
  replace V_qy := Lib.hid (Qd.below V_qy.out bb)
  replace V_tab := Lib.hid (tab_below V_tab.out bb)
  replace HB := Lib.hid (nextw HB.out bb)
  clear bb
  have HBo := HB.out
  go_wp2
  go_ret
  exact ⟨rfl, nextw HBo (by exact ⟨rfl, rfl, rfl, Nat.le_refl _, fun _ _ => rfl⟩)⟩

set_option maxRecDepth 100000 in
set_option maxHeartbeats 16000000 in
theorem Rigid_long4 {str : Bool} {Atr : Option Addr} {ktr ctr : Nat} {ttr : Bool} {Ctr : Option Addr} {ltr dtr : Nat} {ptr qtr : Int} {stx : Bool} {Atx : Option Addr} {ktx ctx : Nat} {ttx : Bool} {Ctx : Option Addr} {ltx dtx : Nat} {rtx : Rat} {sty : Bool} {Aty : Option Addr} {kty cty : Nat} {tty : Bool} {Cty : Option Addr} {lty dty : Nat} {rty : Rat} {spx : Bool} {Apx : Option Addr} {kpx cpx : Nat} {tpx : Bool} {Cpx : Option Addr} {lpx dpx : Nat} {rpx : Rat} {spy : Bool} {Apy : Option Addr} {kpy cpy : Nat} {tpy : Bool} {Cpy : Option Addr} {lpy dpy : Nat} {rpy : Rat} {sqx : Bool} {Aqx : Option Addr} {kqx cqx : Nat} {tqx : Bool} {Cqx : Option Addr} {lqx dqx : Nat} {rqx : Rat} {sqy : Bool} {Aqy : Option Addr} {kqy cqy : Nat} {tqy : Bool} {Cqy : Option Addr} {lqy dqy : Nat} {rqy : Rat} {j : Nat} {w : World} (htr : Fd w (.agg #[.bool str, .slice Atr ktr ctr, .bool ttr, .slice Ctr ltr dtr]) ptr qtr j) (htx : Qd w (.agg #[.bool stx, .slice Atx ktx ctx, .bool ttx, .slice Ctx ltx dtx]) rtx j) (hty : Qd w (.agg #[.bool sty, .slice Aty kty cty, .bool tty, .slice Cty lty dty]) rty j) (hpx : Qd w (.agg #[.bool spx, .slice Apx kpx cpx, .bool tpx, .slice Cpx lpx dpx]) rpx j) (hpy : Qd w (.agg #[.bool spy, .slice Apy kpy cpy, .bool tpy, .slice Cpy lpy dpy]) rpy j) (hqx : Qd w (.agg #[.bool sqx, .slice Aqx kqx cqx, .bool tqx, .slice Cqx lqx dqx]) rqx j) (hqy : Qd w (.agg #[.bool sqy, .slice Aqy kqy cqy, .bool tqy, .slice Cqy lqy dqy]) rqy j) (htab : Tab10 w) (gtr : ktr ≤ 12 ∧ ltr ≤ 12) (gtx : ktx ≤ 12 ∧ ltx ≤ 12) (gty : kty ≤ 12 ∧ lty ≤ 12) (gpx : kpx ≤ 12 ∧ lpx ≤ 12) (gpy : kpy ≤ 12 ∧ lpy ≤ 12) (gqx : kqx ≤ 12 ∧ lqx ≤ 12) (mqy : kqy ≤ 9223372036854775807 ∧ lqy ≤ 9223372036854775807) (gqy : ¬ (kqy ≤ 12 ∧ lqy ≤ 12)) :
    Calls Tryz.prog 6 #[.agg #[.bool str, .slice Atr ktr ctr, .bool ttr, .slice Ctr ltr dtr, .bool stx, .slice Atx ktx ctx, .bool ttx, .slice Ctx ltx dtx, .bool sty, .slice Aty kty cty, .bool tty, .slice Cty lty dty], .agg #[.bool spx, .slice Apx kpx cpx, .bool tpx, .slice Cpx lpx dpx, .bool spy, .slice Apy kpy cpy, .bool tpy, .slice Cpy lpy dpy], .agg #[.bool sqx, .slice Aqx kqx cqx, .bool tqx, .slice Cqx lqx dqx, .bool sqy, .slice Aqy kqy cqy, .bool tqy, .slice Cqy lqy dqy]] w fun e w' => e = .returned (.bool true) ∧ Below w.heap.size w w' := by
  have Hgtr := Lib.hid gtr
  have Hgtx := Lib.hid gtx
  have Hgty := Lib.hid gty
  have Hgpx := Lib.hid gpx
  have Hgpy := Lib.hid gpy
  have Hgqx := Lib.hid gqx
  have Hmqy := Lib.hid mqy
  have Hgqy := Lib.hid gqy
  clear gtr gtx gty gpx gpy gqx mqy gqy
  have V_trn := Lib.hid htr.num
  have V_trd := Lib.hid htr.den
  have V_tx := Lib.hid htx
  have V_ty := Lib.hid hty
  have V_px := Lib.hid hpx
  have V_py := Lib.hid hpy
  have V_qx := Lib.hid hqx
  have V_qy := Lib.hid hqy
  have V_tab := Lib.hid htab
  clear htr htx hty hpx hpy hqx hqy htab
  have hb0 : Below w.heap.size w (((w.alloc (.cells #[.bool str, (.slice Atr ktr ctr), .bool ttr, (.slice Ctr ltr dtr), .bool stx, (.slice Atx ktx ctx), .bool ttx, (.slice Ctx ltx dtx), .bool sty, (.slice Aty kty cty), .bool tty, (.slice Cty lty dty)] 44)).alloc (.cells #[.bool spx, (.slice Apx kpx cpx), .bool tpx, (.slice Cpx lpx dpx), .bool spy, (.slice Apy kpy cpy), .bool tpy, (.slice Cpy lpy dpy)] 46)).alloc (.cells #[.bool sqx, (.slice Aqx kqx cqx), .bool tqx, (.slice Cqx lqx dqx), .bool sqy, (.slice Aqy kqy cqy), .bool tqy, (.slice Cqy lqy dqy)] 46)) := (Below.alloc (Below.alloc (Below.alloc (Below.refl w.heap.size w) (by simp <;> omega) _) (by simp <;> omega) _) (by simp <;> omega) _)
  have B_t : Box12 (((w.alloc (.cells #[.bool str, (.slice Atr ktr ctr), .bool ttr, (.slice Ctr ltr dtr), .bool stx, (.slice Atx ktx ctx), .bool ttx, (.slice Ctx ltx dtx), .bool sty, (.slice Aty kty cty), .bool tty, (.slice Cty lty dty)] 44)).alloc (.cells #[.bool spx, (.slice Apx kpx cpx), .bool tpx, (.slice Cpx lpx dpx), .bool spy, (.slice Apy kpy cpy), .bool tpy, (.slice Cpy lpy dpy)] 46)).alloc (.cells #[.bool sqx, (.slice Aqx kqx cqx), .bool tqx, (.slice Cqx lqx dqx), .bool sqy, (.slice Aqy kqy cqy), .bool tqy, (.slice Cqy lqy dqy)] 46)) (w.heap.size) str (.slice Atr ktr ctr) ttr (.slice Ctr ltr dtr) stx (.slice Atx ktx ctx) ttx (.slice Ctx ltx dtx) sty (.slice Aty kty cty) tty (.slice Cty lty dty) := by have h := Box12.alloc (Box12.alloc (Box12.new w str (.slice Atr ktr ctr) ttr (.slice Ctr ltr dtr) stx (.slice Atx ktx ctx) ttx (.slice Ctx ltx dtx) sty (.slice Aty kty cty) tty (.slice Cty lty dty)) (.cells #[.bool spx, (.slice Apx kpx cpx), .bool tpx, (.slice Cpx lpx dpx), .bool spy, (.slice Apy kpy cpy), .bool tpy, (.slice Cpy lpy dpy)] 46)) (.cells #[.bool sqx, (.slice Aqx kqx cqx), .bool tqx, (.slice Cqx lqx dqx), .bool sqy, (.slice Aqy kqy cqy), .bool tqy, (.slice Cqy lqy dqy)] 46); simpa using h
  replace B_t := Lib.hid B_t
  have B_p : Box8 (((w.alloc (.cells #[.bool str, (.slice Atr ktr ctr), .bool ttr, (.slice Ctr ltr dtr), .bool stx, (.slice Atx ktx ctx), .bool ttx, (.slice Ctx ltx dtx), .bool sty, (.slice Aty kty cty), .bool tty, (.slice Cty lty dty)] 44)).alloc (.cells #[.bool spx, (.slice Apx kpx cpx), .bool tpx, (.slice Cpx lpx dpx), .bool spy, (.slice Apy kpy cpy), .bool tpy, (.slice Cpy lpy dpy)] 46)).alloc (.cells #[.bool sqx, (.slice Aqx kqx cqx), .bool tqx, (.slice Cqx lqx dqx), .bool sqy, (.slice Aqy kqy cqy), .bool tqy, (.slice Cqy lqy dqy)] 46)) (w.heap.size + 1) spx (.slice Apx kpx cpx) tpx (.slice Cpx lpx dpx) spy (.slice Apy kpy cpy) tpy (.slice Cpy lpy dpy) := by have h := Box8.alloc (Box8.new (w.alloc (.cells #[.bool str, (.slice Atr ktr ctr), .bool ttr, (.slice Ctr ltr dtr), .bool stx, (.slice Atx ktx ctx), .bool ttx, (.slice Ctx ltx dtx), .bool sty, (.slice Aty kty cty), .bool tty, (.slice Cty lty dty)] 44)) spx (.slice Apx kpx cpx) tpx (.slice Cpx lpx dpx) spy (.slice Apy kpy cpy) tpy (.slice Cpy lpy dpy)) (.cells #[.bool sqx, (.slice Aqx kqx cqx), .bool tqx, (.slice Cqx lqx dqx), .bool sqy, (.slice Aqy kqy cqy), .bool tqy, (.slice Cqy lqy dqy)] 46); simpa using h
  replace B_p := Lib.hid B_p
  have B_q : Box8 (((w.alloc (.cells #[.bool str, (.slice Atr ktr ctr), .bool ttr, (.slice Ctr ltr dtr), .bool stx, (.slice Atx ktx ctx), .bool ttx, (.slice Ctx ltx dtx), .bool sty, (.slice Aty kty cty), .bool tty, (.slice Cty lty dty)] 44)).alloc (.cells #[.bool spx, (.slice Apx kpx cpx), .bool tpx, (.slice Cpx lpx dpx), .bool spy, (.slice Apy kpy cpy), .bool tpy, (.slice Cpy lpy dpy)] 46)).alloc (.cells #[.bool sqx, (.slice Aqx kqx cqx), .bool tqx, (.slice Cqx lqx dqx), .bool sqy, (.slice Aqy kqy cqy), .bool tqy, (.slice Cqy lqy dqy)] 46)) (w.heap.size + 1 + 1) sqx (.slice Aqx kqx cqx) tqx (.slice Cqx lqx dqx) sqy (.slice Aqy kqy cqy) tqy (.slice Cqy lqy dqy) := by have h := Box8.new ((w.alloc (.cells #[.bool str, (.slice Atr ktr ctr), .bool ttr, (.slice Ctr ltr dtr), .bool stx, (.slice Atx ktx ctx), .bool ttx, (.slice Ctx ltx dtx), .bool sty, (.slice Aty kty cty), .bool tty, (.slice Cty lty dty)] 44)).alloc (.cells #[.bool spx, (.slice Apx kpx cpx), .bool tpx, (.slice Cpx lpx dpx), .bool spy, (.slice Apy kpy cpy), .bool tpy, (.slice Cpy lpy dpy)] 46)) sqx (.slice Aqx kqx cqx) tqx (.slice Cqx lqx dqx) sqy (.slice Aqy kqy cqy) tqy (.slice Cqy lqy dqy); simpa using h
  replace B_q := Lib.hid B_q
  replace V_trn := Lib.hid (Rd.below V_trn.out hb0)
  replace V_trd := Lib.hid (Rd.below V_trd.out hb0)
  replace V_tx := Lib.hid (Qd.below V_tx.out hb0)
  replace V_ty := Lib.hid (Qd.below V_ty.out hb0)
  replace V_px := Lib.hid (Qd.below V_px.out hb0)
  replace V_py := Lib.hid (Qd.below V_py.out hb0)
  replace V_qx := Lib.hid (Qd.below V_qx.out hb0)
  replace V_qy := Lib.hid (Qd.below V_qy.out hb0)
  replace V_tab := Lib.hid (tab_below V_tab.out hb0)
  have HB := Lib.hid hb0
  clear hb0
  have c0t := B_t.out.c0
  have c1t := B_t.out.c1
  have c2t := B_t.out.c2
  have c3t := B_t.out.c3
  have c4t := B_t.out.c4
  have c5t := B_t.out.c5
  have c6t := B_t.out.c6
  have c7t := B_t.out.c7
  have c8t := B_t.out.c8
  have c9t := B_t.out.c9
  have c10t := B_t.out.c10
  have c11t := B_t.out.c11
  have c0p := B_p.out.c0
  have c1p := B_p.out.c1
  have c2p := B_p.out.c2
  have c3p := B_p.out.c3
  have c4p := B_p.out.c4
  have c5p := B_p.out.c5
  have c6p := B_p.out.c6
  have c7p := B_p.out.c7
  have c0q := B_q.out.c0
  have c1q := B_q.out.c1
  have c2q := B_q.out.c2
  have c3q := B_q.out.c3
  have c4q := B_q.out.c4
  have c5q := B_q.out.c5
  have c6q := B_q.out.c6
  have c7q := B_q.out.c7
  go_enter Tryz.func6, Tryz.ntmps6
  go_wp2_with fail
  clear c0t c1t c2t c3t c4t c5t c6t c7t c8t c9t c10t c11t c0p c1p c2p c3p c4p c5p c6p c7p c0q c1q c2q c3q c4q c5q c6q c7q
  generalize ((w.alloc (.cells #[.bool str, (.slice Atr ktr ctr), .bool ttr, (.slice Ctr ltr dtr), .bool stx, (.slice Atx ktx ctx), .bool ttx, (.slice Ctx ltx dtx), .bool sty, (.slice Aty kty cty), .bool tty, (.slice Cty lty dty)] 44)).alloc (.cells #[.bool spx, (.slice Apx kpx cpx), .bool tpx, (.slice Cpx lpx dpx), .bool spy, (.slice Apy kpy cpy), .bool tpy, (.slice Cpy lpy dpy)] 46)).alloc (.cells #[.bool sqx, (.slice Aqx kqx cqx), .bool tqx, (.slice Cqx lqx dqx), .bool sqy, (.slice Aqy kqy cqy), .bool tqy, (.slice Cqy lqy dqy)] 46) = W0 at *
  refine (awakeR _ (tab_below V_tab.out (by exact ⟨rfl, rfl, rfl, Nat.le_refl _, fun _ _ => rfl⟩))).mono ?_
  rintro e w1 ⟨rfl, bb⟩
  replace bb := nextw (w0 := W0) (by exact ⟨rfl, rfl, rfl, Nat.le_refl _, fun _ _ => rfl⟩) bb
  replace B_t := Lib.hid (Box12.below B_t.out bb B_t.out.lt)
  replace B_p := Lib.hid (Box8.below B_p.out bb B_p.out.lt)
  replace B_q := Lib.hid (Box8.below B_q.out bb B_q.out.lt)
  replace V_trn := Lib.hid (Rd.below V_trn.out bb)
  replace V_trd := Lib.hid (Rd.below V_trd.out bb)
  replace V_tx := Lib.hid (Qd.below V_tx.out bb)
  replace V_ty := Lib.hid (Qd.below V_ty.out bb)
  replace V_px := Lib.hid (Qd.below V_px.out bb)
  replace V_py := Lib.hid (Qd.below V_py.out bb)
  replace V_qx := Lib.hid (Qd.below V_qx.out bb)
  replace V_qy := Lib.hid (Qd.below V_qy.out bb)
  replace V_tab := Lib.hid (tab_below V_tab.out bb)
  replace HB := Lib.hid (nextw HB.out bb)
  clear bb
  have c0t := B_t.out.c0
  have c1t := B_t.out.c1
  have c2t := B_t.out.c2
  have c3t := B_t.out.c3
  have c4t := B_t.out.c4
  have c5t := B_t.out.c5
  have c6t := B_t.out.c6
  have c7t := B_t.out.c7
  have c8t := B_t.out.c8
  have c9t := B_t.out.c9
  have c10t := B_t.out.c10
  have c11t := B_t.out.c11
  have c0p := B_p.out.c0
  have c1p := B_p.out.c1
  have c2p := B_p.out.c2
  have c3p := B_p.out.c3
  have c4p := B_p.out.c4
  have c5p := B_p.out.c5
  have c6p := B_p.out.c6
  have c7p := B_p.out.c7
  have c0q := B_q.out.c0
  have c1q := B_q.out.c1
  have c2q := B_q.out.c2
  have c3q := B_q.out.c3
  have c4q := B_q.out.c4
  have c5q := B_q.out.c5
  have c6q := B_q.out.c6
  have c7q := B_q.out.c7
  go_wp2_with fail
  refine (light_yes Hgtr.out Hgtx.out Hgty.out).mono ?_
  rintro e w2 ⟨rfl, bb⟩
  replace bb := nextw (w0 := w1) (by exact ⟨rfl, rfl, rfl, Nat.le_refl _, fun _ _ => rfl⟩) bb
  clear c0t c1t c2t c3t c4t c5t c6t c7t c8t c9t c10t c11t c0p c1p c2p c3p c4p c5p c6p c7p c0q c1q c2q c3q c4q c5q c6q c7q
  replace B_t := Lib.hid (Box12.below B_t.out bb B_t.out.lt)
  replace B_p := Lib.hid (Box8.below B_p.out bb B_p.out.lt)
  replace B_q := Lib.hid (Box8.below B_q.out bb B_q.out.lt)
  replace V_trn := Lib.hid (Rd.below V_trn.out bb)
  replace V_trd := Lib.hid (Rd.below V_trd.out bb)
  replace V_tx := Lib.hid (Qd.below V_tx.out bb)
  replace V_ty := Lib.hid (Qd.below V_ty.out bb)
  replace V_px := Lib.hid (Qd.below V_px.out bb)
  replace V_py := Lib.hid (Qd.below V_py.out bb)
  replace V_qx := Lib.hid (Qd.below V_qx.out bb)
  replace V_qy := Lib.hid (Qd.below V_qy.out bb)
  replace V_tab := Lib.hid (tab_below V_tab.out bb)
  replace HB := Lib.hid (nextw HB.out bb)
  clear bb
  have c0t := B_t.out.c0
  have c1t := B_t.out.c1
  have c2t := B_t.out.c2
  have c3t := B_t.out.c3
  have c4t := B_t.out.c4
  have c5t := B_t.out.c5
  have c6t := B_t.out.c6
  have c7t := B_t.out.c7
  have c8t := B_t.out.c8
  have c9t := B_t.out.c9
  have c10t := B_t.out.c10
  have c11t := B_t.out.c11
  have c0p := B_p.out.c0
  have c1p := B_p.out.c1
  have c2p := B_p.out.c2
  have c3p := B_p.out.c3
  have c4p := B_p.out.c4
  have c5p := B_p.out.c5
  have c6p := B_p.out.c6
  have c7p := B_p.out.c7
  have c0q := B_q.out.c0
  have c1q := B_q.out.c1
  have c2q := B_q.out.c2
  have c3q := B_q.out.c3
  have c4q := B_q.out.c4
  have c5q := B_q.out.c5
  have c6q := B_q.out.c6
  have c7q := B_q.out.c7
  go_wp2_with fail
  refine (short_yes Hgpx.out.1 Hgpx.out.2).mono ?_
  rintro e w3 ⟨rfl, bb⟩
  replace bb := nextw (w0 := w2) (by exact ⟨rfl, rfl, rfl, Nat.le_refl _, fun _ _ => rfl⟩) bb
  clear c0t c1t c2t c3t c4t c5t c6t c7t c8t c9t c10t c11t c0p c1p c2p c3p c4p c5p c6p c7p c0q c1q c2q c3q c4q c5q c6q c7q
  replace B_t := Lib.hid (Box12.below B_t.out bb B_t.out.lt)
  replace B_p := Lib.hid (Box8.below B_p.out bb B_p.out.lt)
  replace B_q := Lib.hid (Box8.below B_q.out bb B_q.out.lt)
  replace V_trn := Lib.hid (Rd.below V_trn.out bb)
  replace V_trd := Lib.hid (Rd.below V_trd.out bb)
  replace V_tx := Lib.hid (Qd.below V_tx.out bb)
  replace V_ty := Lib.hid (Qd.below V_ty.out bb)
  replace V_px := Lib.hid (Qd.below V_px.out bb)
  replace V_py := Lib.hid (Qd.below V_py.out bb)
  replace V_qx := Lib.hid (Qd.below V_qx.out bb)
  replace V_qy := Lib.hid (Qd.below V_qy.out bb)
  replace V_tab := Lib.hid (tab_below V_tab.out bb)
  replace HB := Lib.hid (nextw HB.out bb)
  clear bb
  have c0t := B_t.out.c0
  have c1t := B_t.out.c1
  have c2t := B_t.out.c2
  have c3t := B_t.out.c3
  have c4t := B_t.out.c4
  have c5t := B_t.out.c5
  have c6t := B_t.out.c6
  have c7t := B_t.out.c7
  have c8t := B_t.out.c8
  have c9t := B_t.out.c9
  have c10t := B_t.out.c10
  have c11t := B_t.out.c11
  have c0p := B_p.out.c0
  have c1p := B_p.out.c1
  have c2p := B_p.out.c2
  have c3p := B_p.out.c3
  have c4p := B_p.out.c4
  have c5p := B_p.out.c5
  have c6p := B_p.out.c6
  have c7p := B_p.out.c7
  have c0q := B_q.out.c0
  have c1q := B_q.out.c1
  have c2q := B_q.out.c2
  have c3q := B_q.out.c3
  have c4q := B_q.out.c4
  have c5q := B_q.out.c5
  have c6q := B_q.out.c6
  have c7q := B_q.out.c7
  go_wp2_with fail
  refine (short_yes Hgpy.out.1 Hgpy.out.2).mono ?_
  rintro e w4 ⟨rfl, bb⟩
  replace bb := nextw (w0 := w3) (by exact ⟨rfl, rfl, rfl, Nat.le_refl _, fun _ _ => rfl⟩) bb
  clear c0t c1t c2t c3t c4t c5t c6t c7t c8t c9t c10t c11t c0p c1p c2p c3p c4p c5p c6p c7p c0q c1q c2q c3q c4q c5q c6q c7q
  replace B_t := Lib.hid (Box12.below B_t.out bb B_t.out.lt)
  replace B_p := Lib.hid (Box8.below B_p.out bb B_p.out.lt)
  replace B_q := Lib.hid (Box8.below B_q.out bb B_q.out.lt)
  replace V_trn := Lib.hid (Rd.below V_trn.out bb)
  replace V_trd := Lib.hid (Rd.below V_trd.out bb)
  replace V_tx := Lib.hid (Qd.below V_tx.out bb)
  replace V_ty := Lib.hid (Qd.below V_ty.out bb)
  replace V_px := Lib.hid (Qd.below V_px.out bb)
  replace V_py := Lib.hid (Qd.below V_py.out bb)
  replace V_qx := Lib.hid (Qd.below V_qx.out bb)
  replace V_qy := Lib.hid (Qd.below V_qy.out bb)
  replace V_tab := Lib.hid (tab_below V_tab.out bb)
  replace HB := Lib.hid (nextw HB.out bb)
  clear bb
  have c0t := B_t.out.c0
  have c1t := B_t.out.c1
  have c2t := B_t.out.c2
  have c3t := B_t.out.c3
  have c4t := B_t.out.c4
  have c5t := B_t.out.c5
  have c6t := B_t.out.c6
  have c7t := B_t.out.c7
  have c8t := B_t.out.c8
  have c9t := B_t.out.c9
  have c10t := B_t.out.c10
  have c11t := B_t.out.c11
  have c0p := B_p.out.c0
  have c1p := B_p.out.c1
  have c2p := B_p.out.c2
  have c3p := B_p.out.c3
  have c4p := B_p.out.c4
  have c5p := B_p.out.c5
  have c6p := B_p.out.c6
  have c7p := B_p.out.c7
  have c0q := B_q.out.c0
  have c1q := B_q.out.c1
  have c2q := B_q.out.c2
  have c3q := B_q.out.c3
  have c4q := B_q.out.c4
  have c5q := B_q.out.c5
  have c6q := B_q.out.c6
  have c7q := B_q.out.c7
  go_wp2_with fail
  refine (short_yes Hgqx.out.1 Hgqx.out.2).mono ?_
  rintro e w5 ⟨rfl, bb⟩
  replace bb := nextw (w0 := w4) (by exact ⟨rfl, rfl, rfl, Nat.le_refl _, fun _ _ => rfl⟩) bb
  clear c0t c1t c2t c3t c4t c5t c6t c7t c8t c9t c10t c11t c0p c1p c2p c3p c4p c5p c6p c7p c0q c1q c2q c3q c4q c5q c6q c7q
  replace B_t := Lib.hid (Box12.below B_t.out bb B_t.out.lt)
  replace B_p := Lib.hid (Box8.below B_p.out bb B_p.out.lt)
  replace B_q := Lib.hid (Box8.below B_q.out bb B_q.out.lt)
  replace V_trn := Lib.hid (Rd.below V_trn.out bb)
  replace V_trd := Lib.hid (Rd.below V_trd.out bb)
  replace V_tx := Lib.hid (Qd.below V_tx.out bb)
  replace V_ty := Lib.hid (Qd.below V_ty.out bb)
  replace V_px := Lib.hid (Qd.below V_px.out bb)
  replace V_py := Lib.hid (Qd.below V_py.out bb)
  replace V_qx := Lib.hid (Qd.below V_qx.out bb)
  replace V_qy := Lib.hid (Qd.below V_qy.out bb)
  replace V_tab := Lib.hid (tab_below V_tab.out bb)
  replace HB := Lib.hid (nextw HB.out bb)
  clear bb
  have c0t := B_t.out.c0
  have c1t := B_t.out.c1
  have c2t := B_t.out.c2
  have c3t := B_t.out.c3
  have c4t := B_t.out.c4
  have c5t := B_t.out.c5
  have c6t := B_t.out.c6
  have c7t := B_t.out.c7
  have c8t := B_t.out.c8
  have c9t := B_t.out.c9
  have c10t := B_t.out.c10
  have c11t := B_t.out.c11
  have c0p := B_p.out.c0
  have c1p := B_p.out.c1
  have c2p := B_p.out.c2
  have c3p := B_p.out.c3
  have c4p := B_p.out.c4
  have c5p := B_p.out.c5
  have c6p := B_p.out.c6
  have c7p := B_p.out.c7
  have c0q := B_q.out.c0
  have c1q := B_q.out.c1
  have c2q := B_q.out.c2
  have c3q := B_q.out.c3
  have c4q := B_q.out.c4
  have c5q := B_q.out.c5
  have c6q := B_q.out.c6
  have c7q := B_q.out.c7
  go_wp2_with fail
  refine (short_no Hmqy.out.1 Hmqy.out.2 Hgqy.out).mono ?_
  rintro e w6 ⟨rfl, bb⟩
  replace bb := nextw (w0 := w5) (by exact ⟨rfl, rfl, rfl, Nat.le_refl _, fun _ _ => rfl⟩) bb
  clear c0t c1t c2t c3t c4t c5t c6t c7t c8t c9t c10t c11t c0p c1p c2p c3p c4p c5p c6p c7p c0q c1q c2q c3q c4q c5q c6q c7q
  replace B_t := Lib.hid (Box12.below B_t.out bb B_t.out.lt)
  replace B_p := Lib.hid (Box8.below B_p.out bb B_p.out.lt)
  replace B_q := Lib.hid (Box8.below B_q.out bb B_q.out.lt)
  replace V_trn := Lib.hid (Rd.below V_trn.out bb)
  replace V_trd := Lib.hid (Rd.below V_trd.out bb)
  replace V_tx := Lib.hid (Qd.below V_tx.out bb)
  replace V_ty := Lib.hid (Qd.below V_ty.out bb)
  replace V_px := Lib.hid (Qd.below V_px.out bb)
  replace V_py := Lib.hid (Qd.below V_py.out bb)
  replace V_qx := Lib.hid (Qd.below V_qx.out bb)
  replace V_qy := Lib.hid (Qd.below V_qy.out bb)
  replace V_tab := Lib.hid (tab_below V_tab.out bb)
  replace HB := Lib.hid (nextw HB.out bb)
  clear bb
  go_wp2_with fail
  refine (awakeR _ (tab_below V_tab.out (by exact ⟨rfl, rfl, rfl, Nat.le_refl _, fun _ _ => rfl⟩))).mono ?_
  rintro e w7 ⟨rfl, bb⟩
  replace bb := nextw (w0 := w6) (by exact ⟨rfl, rfl, rfl, Nat.le_refl _, fun _ _ => rfl⟩) bb
  replace B_t := Lib.hid (Box12.below B_t.out bb B_t.out.lt)
  replace B_p := Lib.hid (Box8.below B_p.out bb B_p.out.lt)
  replace B_q := Lib.hid (Box8.below B_q.out bb B_q.out.lt)
  replace V_trn := Lib.hid (Rd.below V_trn.out bb)
  replace V_trd := Lib.hid (Rd.below V_trd.out bb)
  replace V_tx := Lib.hid (Qd.below V_tx.out bb)
  replace V_ty := Lib.hid (Qd.below V_ty.out bb)
  replace V_px := Lib.hid (Qd.below V_px.out bb)
  replace V_py := Lib.hid (Qd.below V_py.out bb)
  replace V_qx := Lib.hid (Qd.below V_qx.out bb)
  replace V_qy := Lib.hid (Qd.below V_qy.out bb)
  replace V_tab := Lib.hid (tab_below V_tab.out bb)
  replace HB := Lib.hid (nextw HB.out bb)
  clear bb
  have HBo := HB.out
  go_wp2
  go_ret
  exact ⟨rfl, nextw HBo (by exact ⟨rfl, rfl, rfl, Nat.le_refl _, fun _ _ => rfl⟩)⟩

set_option maxRecDepth 100000 in
set_option maxHeartbeats 16000000 in
theorem Rigid_main {str : Bool} {Atr : Option Addr} {ktr ctr : Nat} {ttr : Bool} {Ctr : Option Addr} {ltr dtr : Nat} {ptr qtr : Int} {stx : Bool} {Atx : Option Addr} {ktx ctx : Nat} {ttx : Bool} {Ctx : Option Addr} {ltx dtx : Nat} {rtx : Rat} {sty : Bool} {Aty : Option Addr} {kty cty : Nat} {tty : Bool} {Cty : Option Addr} {lty dty : Nat} {rty : Rat} {spx : Bool} {Apx : Option Addr} {kpx cpx : Nat} {tpx : Bool} {Cpx : Option Addr} {lpx dpx : Nat} {rpx : Rat} {spy : Bool} {Apy : Option Addr} {kpy cpy : Nat} {tpy : Bool} {Cpy : Option Addr} {lpy dpy : Nat} {rpy : Rat} {sqx : Bool} {Aqx : Option Addr} {kqx cqx : Nat} {tqx : Bool} {Cqx : Option Addr} {lqx dqx : Nat} {rqx : Rat} {sqy : Bool} {Aqy : Option Addr} {kqy cqy : Nat} {tqy : Bool} {Cqy : Option Addr} {lqy dqy : Nat} {rqy : Rat} {w : World} (htr : Fd w (.agg #[.bool str, .slice Atr ktr ctr, .bool ttr, .slice Ctr ltr dtr]) ptr qtr 12) (htx : Qd w (.agg #[.bool stx, .slice Atx ktx ctx, .bool ttx, .slice Ctx ltx dtx]) rtx 12) (hty : Qd w (.agg #[.bool sty, .slice Aty kty cty, .bool tty, .slice Cty lty dty]) rty 12) (hpx : Qd w (.agg #[.bool spx, .slice Apx kpx cpx, .bool tpx, .slice Cpx lpx dpx]) rpx 12) (hpy : Qd w (.agg #[.bool spy, .slice Apy kpy cpy, .bool tpy, .slice Cpy lpy dpy]) rpy 12) (hqx : Qd w (.agg #[.bool sqx, .slice Aqx kqx cqx, .bool tqx, .slice Cqx lqx dqx]) rqx 12) (hqy : Qd w (.agg #[.bool sqy, .slice Aqy kqy cqy, .bool tqy, .slice Cqy lqy dqy]) rqy 12) (htab : Tab10 w) (gtr : ktr ≤ 12 ∧ ltr ≤ 12) (gtx : ktx ≤ 12 ∧ ltx ≤ 12) (gty : kty ≤ 12 ∧ lty ≤ 12) (gpx : kpx ≤ 12 ∧ lpx ≤ 12) (gpy : kpy ≤ 12 ∧ lpy ≤ 12) (gqx : kqx ≤ 12 ∧ lqx ≤ 12) (gqy : kqy ≤ 12 ∧ lqy ≤ 12) :
    Calls Tryz.prog 6 #[.agg #[.bool str, .slice Atr ktr ctr, .bool ttr, .slice Ctr ltr dtr, .bool stx, .slice Atx ktx ctx, .bool ttx, .slice Ctx ltx dtx, .bool sty, .slice Aty kty cty, .bool tty, .slice Cty lty dty], .agg #[.bool spx, .slice Apx kpx cpx, .bool tpx, .slice Cpx lpx dpx, .bool spy, .slice Apy kpy cpy, .bool tpy, .slice Cpy lpy dpy], .agg #[.bool sqx, .slice Aqx kqx cqx, .bool tqx, .slice Cqx lqx dqx, .bool sqy, .slice Aqy kqy cqy, .bool tqy, .slice Cqy lqy dqy]] w fun e w' => e = .returned (.bool true) ∧ Below w.heap.size w w' := by
  have Hgtr := Lib.hid gtr
  have Hgtx := Lib.hid gtx
  have Hgty := Lib.hid gty
  have Hgpx := Lib.hid gpx
  have Hgpy := Lib.hid gpy
  have Hgqx := Lib.hid gqx
  have Hgqy := Lib.hid gqy
  clear gtr gtx gty gpx gpy gqx gqy
  have V_trn := Lib.hid htr.num
  have V_trd := Lib.hid htr.den
  have V_tx := Lib.hid htx
  have V_ty := Lib.hid hty
  have V_px := Lib.hid hpx
  have V_py := Lib.hid hpy
  have V_qx := Lib.hid hqx
  have V_qy := Lib.hid hqy
  have V_tab := Lib.hid htab
  clear htr htx hty hpx hpy hqx hqy htab
  have hb0 : Below w.heap.size w (((w.alloc (.cells #[.bool str, (.slice Atr ktr ctr), .bool ttr, (.slice Ctr ltr dtr), .bool stx, (.slice Atx ktx ctx), .bool ttx, (.slice Ctx ltx dtx), .bool sty, (.slice Aty kty cty), .bool tty, (.slice Cty lty dty)] 44)).alloc (.cells #[.bool spx, (.slice Apx kpx cpx), .bool tpx, (.slice Cpx lpx dpx), .bool spy, (.slice Apy kpy cpy), .bool tpy, (.slice Cpy lpy dpy)] 46)).alloc (.cells #[.bool sqx, (.slice Aqx kqx cqx), .bool tqx, (.slice Cqx lqx dqx), .bool sqy, (.slice Aqy kqy cqy), .bool tqy, (.slice Cqy lqy dqy)] 46)) := (Below.alloc (Below.alloc (Below.alloc (Below.refl w.heap.size w) (by simp <;> omega) _) (by simp <;> omega) _) (by simp <;> omega) _)
  have B_t : Box12 (((w.alloc (.cells #[.bool str, (.slice Atr ktr ctr), .bool ttr, (.slice Ctr ltr dtr), .bool stx, (.slice Atx ktx ctx), .bool ttx, (.slice Ctx ltx dtx), .bool sty, (.slice Aty kty cty), .bool tty, (.slice Cty lty dty)] 44)).alloc (.cells #[.bool spx, (.slice Apx kpx cpx), .bool tpx, (.slice Cpx lpx dpx), .bool spy, (.slice Apy kpy cpy), .bool tpy, (.slice Cpy lpy dpy)] 46)).alloc (.cells #[.bool sqx, (.slice Aqx kqx cqx), .bool tqx, (.slice Cqx lqx dqx), .bool sqy, (.slice Aqy kqy cqy), .bool tqy, (.slice Cqy lqy dqy)] 46)) (w.heap.size) str (.slice Atr ktr ctr) ttr (.slice Ctr ltr dtr) stx (.slice Atx ktx ctx) ttx (.slice Ctx ltx dtx) sty (.slice Aty kty cty) tty (.slice Cty lty dty) := by have h := Box12.alloc (Box12.alloc (Box12.new w str (.slice Atr ktr ctr) ttr (.slice Ctr ltr dtr) stx (.slice Atx ktx ctx) ttx (.slice Ctx ltx dtx) sty (.slice Aty kty cty) tty (.slice Cty lty dty)) (.cells #[.bool spx, (.slice Apx kpx cpx), .bool tpx, (.slice Cpx lpx dpx), .bool spy, (.slice Apy kpy cpy), .bool tpy, (.slice Cpy lpy dpy)] 46)) (.cells #[.bool sqx, (.slice Aqx kqx cqx), .bool tqx, (.slice Cqx lqx dqx), .bool sqy, (.slice Aqy kqy cqy), .bool tqy, (.slice Cqy lqy dqy)] 46); simpa using h
  replace B_t := Lib.hid B_t
  have B_p : Box8 (((w.alloc (.cells #[.bool str, (.slice Atr ktr ctr), .bool ttr, (.slice Ctr ltr dtr), .bool stx, (.slice Atx ktx ctx), .bool ttx, (.slice Ctx ltx dtx), .bool sty, (.slice Aty kty cty), .bool tty, (.slice Cty lty dty)] 44)).alloc (.cells #[.bool spx, (.slice Apx kpx cpx), .bool tpx, (.slice Cpx lpx dpx), .bool spy, (.slice Apy kpy cpy), .bool tpy, (.slice Cpy lpy dpy)] 46)).alloc (.cells #[.bool sqx, (.slice Aqx kqx cqx), .bool tqx, (.slice Cqx lqx dqx), .bool sqy, (.slice Aqy kqy cqy), .bool tqy, (.slice Cqy lqy dqy)] 46)) (w.heap.size + 1) spx (.slice Apx kpx cpx) tpx (.slice Cpx lpx dpx) spy (.slice Apy kpy cpy) tpy (.slice Cpy lpy dpy) := by have h := Box8.alloc (Box8.new (w.alloc (.cells #[.bool str, (.slice Atr ktr ctr), .bool ttr, (.slice Ctr ltr dtr), .bool stx, (.slice Atx ktx ctx), .bool ttx, (.slice Ctx ltx dtx), .bool sty, (.slice Aty kty cty), .bool tty, (.slice Cty lty dty)] 44)) spx (.slice Apx kpx cpx) tpx (.slice Cpx lpx dpx) spy (.slice Apy kpy cpy) tpy (.slice Cpy lpy dpy)) (.cells #[.bool sqx, (.slice Aqx kqx cqx), .bool tqx, (.slice Cqx lqx dqx), .bool sqy, (.slice Aqy kqy cqy), .bool tqy, (.slice Cqy lqy dqy)] 46); simpa using h
  replace B_p := Lib.hid B_p
  have B_q : Box8 (((w.alloc (.cells #[.bool str, (.slice Atr ktr ctr), .bool ttr, (.slice Ctr ltr dtr), .bool stx, (.slice Atx ktx ctx), .bool ttx, (.slice Ctx ltx dtx), .bool sty, (.slice Aty kty cty), .bool tty, (.slice Cty lty dty)] 44)).alloc (.cells #[.bool spx, (.slice Apx kpx cpx), .bool tpx, (.slice Cpx lpx dpx), .bool spy, (.slice Apy kpy cpy), .bool tpy, (.slice Cpy lpy dpy)] 46)).alloc (.cells #[.bool sqx, (.slice Aqx kqx cqx), .bool tqx, (.slice Cqx lqx dqx), .bool sqy, (.slice Aqy kqy cqy), .bool tqy, (.slice Cqy lqy dqy)] 46)) (w.heap.size + 1 + 1) sqx (.slice Aqx kqx cqx) tqx (.slice Cqx lqx dqx) sqy (.slice Aqy kqy cqy) tqy (.slice Cqy lqy dqy) := by have h := Box8.new ((w.alloc (.cells #[.bool str, (.slice Atr ktr ctr), .bool ttr, (.slice Ctr ltr dtr), .bool stx, (.slice Atx ktx ctx), .bool ttx, (.slice Ctx ltx dtx), .bool sty, (.slice Aty kty cty), .bool tty, (.slice Cty lty dty)] 44)).alloc (.cells #[.bool spx, (.slice Apx kpx cpx), .bool tpx, (.slice Cpx lpx dpx), .bool spy, (.slice Apy kpy cpy), .bool tpy, (.slice Cpy lpy dpy)] 46)) sqx (.slice Aqx kqx cqx) tqx (.slice Cqx lqx dqx) sqy (.slice Aqy kqy cqy) tqy (.slice Cqy lqy dqy); simpa using h
  replace B_q := Lib.hid B_q
  replace V_trn := Lib.hid (Rd.below V_trn.out hb0)
  replace V_trd := Lib.hid (Rd.below V_trd.out hb0)
  replace V_tx := Lib.hid (Qd.below V_tx.out hb0)
  replace V_ty := Lib.hid (Qd.below V_ty.out hb0)
  replace V_px := Lib.hid (Qd.below V_px.out hb0)
  replace V_py := Lib.hid (Qd.below V_py.out hb0)
  replace V_qx := Lib.hid (Qd.below V_qx.out hb0)
  replace V_qy := Lib.hid (Qd.below V_qy.out hb0)
  replace V_tab := Lib.hid (tab_below V_tab.out hb0)
  have HB := Lib.hid hb0
  clear hb0
  have c0t := B_t.out.c0
  have c1t := B_t.out.c1
  have c2t := B_t.out.c2
  have c3t := B_t.out.c3
  have c4t := B_t.out.c4
  have c5t := B_t.out.c5
  have c6t := B_t.out.c6
  have c7t := B_t.out.c7
  have c8t := B_t.out.c8
  have c9t := B_t.out.c9
  have c10t := B_t.out.c10
  have c11t := B_t.out.c11
  have c0p := B_p.out.c0
  have c1p := B_p.out.c1
  have c2p := B_p.out.c2
  have c3p := B_p.out.c3
  have c4p := B_p.out.c4
  have c5p := B_p.out.c5
  have c6p := B_p.out.c6
  have c7p := B_p.out.c7
  have c0q := B_q.out.c0
  have c1q := B_q.out.c1
  have c2q := B_q.out.c2
  have c3q := B_q.out.c3
  have c4q := B_q.out.c4
  have c5q := B_q.out.c5
  have c6q := B_q.out.c6
  have c7q := B_q.out.c7
  go_enter Tryz.func6, Tryz.ntmps6
  go_wp2_with fail
  clear c0t c1t c2t c3t c4t c5t c6t c7t c8t c9t c10t c11t c0p c1p c2p c3p c4p c5p c6p c7p c0q c1q c2q c3q c4q c5q c6q c7q
  generalize ((w.alloc (.cells #[.bool str, (.slice Atr ktr ctr), .bool ttr, (.slice Ctr ltr dtr), .bool stx, (.slice Atx ktx ctx), .bool ttx, (.slice Ctx ltx dtx), .bool sty, (.slice Aty kty cty), .bool tty, (.slice Cty lty dty)] 44)).alloc (.cells #[.bool spx, (.slice Apx kpx cpx), .bool tpx, (.slice Cpx lpx dpx), .bool spy, (.slice Apy kpy cpy), .bool tpy, (.slice Cpy lpy dpy)] 46)).alloc (.cells #[.bool sqx, (.slice Aqx kqx cqx), .bool tqx, (.slice Cqx lqx dqx), .bool sqy, (.slice Aqy kqy cqy), .bool tqy, (.slice Cqy lqy dqy)] 46) = W0 at *
  refine (awakeR _ (tab_below V_tab.out (by exact ⟨rfl, rfl, rfl, Nat.le_refl _, fun _ _ => rfl⟩))).mono ?_
  rintro e w1 ⟨rfl, bb⟩
  replace bb := nextw (w0 := W0) (by exact ⟨rfl, rfl, rfl, Nat.le_refl _, fun _ _ => rfl⟩) bb
  replace B_t := Lib.hid (Box12.below B_t.out bb B_t.out.lt)
  replace B_p := Lib.hid (Box8.below B_p.out bb B_p.out.lt)
  replace B_q := Lib.hid (Box8.below B_q.out bb B_q.out.lt)
  replace V_trn := Lib.hid (Rd.below V_trn.out bb)
  replace V_trd := Lib.hid (Rd.below V_trd.out bb)
  replace V_tx := Lib.hid (Qd.below V_tx.out bb)
  replace V_ty := Lib.hid (Qd.below V_ty.out bb)
  replace V_px := Lib.hid (Qd.below V_px.out bb)
  replace V_py := Lib.hid (Qd.below V_py.out bb)
  replace V_qx := Lib.hid (Qd.below V_qx.out bb)
  replace V_qy := Lib.hid (Qd.below V_qy.out bb)
  replace V_tab := Lib.hid (tab_below V_tab.out bb)
  replace HB := Lib.hid (nextw HB.out bb)
  clear bb
  have c0t := B_t.out.c0
  have c1t := B_t.out.c1
  have c2t := B_t.out.c2
  have c3t := B_t.out.c3
  have c4t := B_t.out.c4
  have c5t := B_t.out.c5
  have c6t := B_t.out.c6
  have c7t := B_t.out.c7
  have c8t := B_t.out.c8
  have c9t := B_t.out.c9
  have c10t := B_t.out.c10
  have c11t := B_t.out.c11
  have c0p := B_p.out.c0
  have c1p := B_p.out.c1
  have c2p := B_p.out.c2
  have c3p := B_p.out.c3
  have c4p := B_p.out.c4
  have c5p := B_p.out.c5
  have c6p := B_p.out.c6
  have c7p := B_p.out.c7
  have c0q := B_q.out.c0
  have c1q := B_q.out.c1
  have c2q := B_q.out.c2
  have c3q := B_q.out.c3
  have c4q := B_q.out.c4
  have c5q := B_q.out.c5
  have c6q := B_q.out.c6
  have c7q := B_q.out.c7
  go_wp2_with fail
  refine (light_yes Hgtr.out Hgtx.out Hgty.out).mono ?_
  rintro e w2 ⟨rfl, bb⟩
  replace bb := nextw (w0 := w1) (by exact ⟨rfl, rfl, rfl, Nat.le_refl _, fun _ _ => rfl⟩) bb
  clear c0t c1t c2t c3t c4t c5t c6t c7t c8t c9t c10t c11t c0p c1p c2p c3p c4p c5p c6p c7p c0q c1q c2q c3q c4q c5q c6q c7q
  replace B_t := Lib.hid (Box12.below B_t.out bb B_t.out.lt)
  replace B_p := Lib.hid (Box8.below B_p.out bb B_p.out.lt)
  replace B_q := Lib.hid (Box8.below B_q.out bb B_q.out.lt)
  replace V_trn := Lib.hid (Rd.below V_trn.out bb)
  replace V_trd := Lib.hid (Rd.below V_trd.out bb)
  replace V_tx := Lib.hid (Qd.below V_tx.out bb)
  replace V_ty := Lib.hid (Qd.below V_ty.out bb)
  replace V_px := Lib.hid (Qd.below V_px.out bb)
  replace V_py := Lib.hid (Qd.below V_py.out bb)
  replace V_qx := Lib.hid (Qd.below V_qx.out bb)
  replace V_qy := Lib.hid (Qd.below V_qy.out bb)
  replace V_tab := Lib.hid (tab_below V_tab.out bb)
  replace HB := Lib.hid (nextw HB.out bb)
  clear bb
  have c0t := B_t.out.c0
  have c1t := B_t.out.c1
  have c2t := B_t.out.c2
  have c3t := B_t.out.c3
  have c4t := B_t.out.c4
  have c5t := B_t.out.c5
  have c6t := B_t.out.c6
  have c7t := B_t.out.c7
  have c8t := B_t.out.c8
  have c9t := B_t.out.c9
  have c10t := B_t.out.c10
  have c11t := B_t.out.c11
  have c0p := B_p.out.c0
  have c1p := B_p.out.c1
  have c2p := B_p.out.c2
  have c3p := B_p.out.c3
  have c4p := B_p.out.c4
  have c5p := B_p.out.c5
  have c6p := B_p.out.c6
  have c7p := B_p.out.c7
  have c0q := B_q.out.c0
  have c1q := B_q.out.c1
  have c2q := B_q.out.c2
  have c3q := B_q.out.c3
  have c4q := B_q.out.c4
  have c5q := B_q.out.c5
  have c6q := B_q.out.c6
  have c7q := B_q.out.c7
  go_wp2_with fail
  refine (short_yes Hgpx.out.1 Hgpx.out.2).mono ?_
  rintro e w3 ⟨rfl, bb⟩
  replace bb := nextw (w0 := w2) (by exact ⟨rfl, rfl, rfl, Nat.le_refl _, fun _ _ => rfl⟩) bb
  clear c0t c1t c2t c3t c4t c5t c6t c7t c8t c9t c10t c11t c0p c1p c2p c3p c4p c5p c6p c7p c0q c1q c2q c3q c4q c5q c6q c7q
  replace B_t := Lib.hid (Box12.below B_t.out bb B_t.out.lt)
  replace B_p := Lib.hid (Box8.below B_p.out bb B_p.out.lt)
  replace B_q := Lib.hid (Box8.below B_q.out bb B_q.out.lt)
  replace V_trn := Lib.hid (Rd.below V_trn.out bb)
  replace V_trd := Lib.hid (Rd.below V_trd.out bb)
  replace V_tx := Lib.hid (Qd.below V_tx.out bb)
  replace V_ty := Lib.hid (Qd.below V_ty.out bb)
  replace V_px := Lib.hid (Qd.below V_px.out bb)
  replace V_py := Lib.hid (Qd.below V_py.out bb)
  replace V_qx := Lib.hid (Qd.below V_qx.out bb)
  replace V_qy := Lib.hid (Qd.below V_qy.out bb)
  replace V_tab := Lib.hid (tab_below V_tab.out bb)
  replace HB := Lib.hid (nextw HB.out bb)
  clear bb
  have c0t := B_t.out.c0
  have c1t := B_t.out.c1
  have c2t := B_t.out.c2
  have c3t := B_t.out.c3
  have c4t := B_t.out.c4
  have c5t := B_t.out.c5
  have c6t := B_t.out.c6
  have c7t := B_t.out.c7
  have c8t := B_t.out.c8
  have c9t := B_t.out.c9
  have c10t := B_t.out.c10
  have c11t := B_t.out.c11
  have c0p := B_p.out.c0
  have c1p := B_p.out.c1
  have c2p := B_p.out.c2
  have c3p := B_p.out.c3
  have c4p := B_p.out.c4
  have c5p := B_p.out.c5
  have c6p := B_p.out.c6
  have c7p := B_p.out.c7
  have c0q := B_q.out.c0
  have c1q := B_q.out.c1
  have c2q := B_q.out.c2
  have c3q := B_q.out.c3
  have c4q := B_q.out.c4
  have c5q := B_q.out.c5
  have c6q := B_q.out.c6
  have c7q := B_q.out.c7
  go_wp2_with fail
  refine (short_yes Hgpy.out.1 Hgpy.out.2).mono ?_
  rintro e w4 ⟨rfl, bb⟩
  replace bb := nextw (w0 := w3) (by exact ⟨rfl, rfl, rfl, Nat.le_refl _, fun _ _ => rfl⟩) bb
  clear c0t c1t c2t c3t c4t c5t c6t c7t c8t c9t c10t c11t c0p c1p c2p c3p c4p c5p c6p c7p c0q c1q c2q c3q c4q c5q c6q c7q
  replace B_t := Lib.hid (Box12.below B_t.out bb B_t.out.lt)
  replace B_p := Lib.hid (Box8.below B_p.out bb B_p.out.lt)
  replace B_q := Lib.hid (Box8.below B_q.out bb B_q.out.lt)
  replace V_trn := Lib.hid (Rd.below V_trn.out bb)
  replace V_trd := Lib.hid (Rd.below V_trd.out bb)
  replace V_tx := Lib.hid (Qd.below V_tx.out bb)
  replace V_ty := Lib.hid (Qd.below V_ty.out bb)
  replace V_px := Lib.hid (Qd.below V_px.out bb)
  replace V_py := Lib.hid (Qd.below V_py.out bb)
  replace V_qx := Lib.hid (Qd.below V_qx.out bb)
  replace V_qy := Lib.hid (Qd.below V_qy.out bb)
  replace V_tab := Lib.hid (tab_below V_tab.out bb)
  replace HB := Lib.hid (nextw HB.out bb)
  clear bb
  have c0t := B_t.out.c0
  have c1t := B_t.out.c1
  have c2t := B_t.out.c2
  have c3t := B_t.out.c3
  have c4t := B_t.out.c4
  have c5t := B_t.out.c5
  have c6t := B_t.out.c6
  have c7t := B_t.out.c7
  have c8t := B_t.out.c8
  have c9t := B_t.out.c9
  have c10t := B_t.out.c10
  have c11t := B_t.out.c11
  have c0p := B_p.out.c0
  have c1p := B_p.out.c1
  have c2p := B_p.out.c2
  have c3p := B_p.out.c3
  have c4p := B_p.out.c4
  have c5p := B_p.out.c5
  have c6p := B_p.out.c6
  have c7p := B_p.out.c7
  have c0q := B_q.out.c0
  have c1q := B_q.out.c1
  have c2q := B_q.out.c2
  have c3q := B_q.out.c3
  have c4q := B_q.out.c4
  have c5q := B_q.out.c5
  have c6q := B_q.out.c6
  have c7q := B_q.out.c7
  go_wp2_with fail
  refine (short_yes Hgqx.out.1 Hgqx.out.2).mono ?_
  rintro e w5 ⟨rfl, bb⟩
  replace bb := nextw (w0 := w4) (by exact ⟨rfl, rfl, rfl, Nat.le_refl _, fun _ _ => rfl⟩) bb
  clear c0t c1t c2t c3t c4t c5t c6t c7t c8t c9t c10t c11t c0p c1p c2p c3p c4p c5p c6p c7p c0q c1q c2q c3q c4q c5q c6q c7q
  replace B_t := Lib.hid (Box12.below B_t.out bb B_t.out.lt)
  replace B_p := Lib.hid (Box8.below B_p.out bb B_p.out.lt)
  replace B_q := Lib.hid (Box8.below B_q.out bb B_q.out.lt)
  replace V_trn := Lib.hid (Rd.below V_trn.out bb)
  replace V_trd := Lib.hid (Rd.below V_trd.out bb)
  replace V_tx := Lib.hid (Qd.below V_tx.out bb)
  replace V_ty := Lib.hid (Qd.below V_ty.out bb)
  replace V_px := Lib.hid (Qd.below V_px.out bb)
  replace V_py := Lib.hid (Qd.below V_py.out bb)
  replace V_qx := Lib.hid (Qd.below V_qx.out bb)
  replace V_qy := Lib.hid (Qd.below V_qy.out bb)
  replace V_tab := Lib.hid (tab_below V_tab.out bb)
  replace HB := Lib.hid (nextw HB.out bb)
  clear bb
  have c0t := B_t.out.c0
  have c1t := B_t.out.c1
  have c2t := B_t.out.c2
  have c3t := B_t.out.c3
  have c4t := B_t.out.c4
  have c5t := B_t.out.c5
  have c6t := B_t.out.c6
  have c7t := B_t.out.c7
  have c8t := B_t.out.c8
  have c9t := B_t.out.c9
  have c10t := B_t.out.c10
  have c11t := B_t.out.c11
  have c0p := B_p.out.c0
  have c1p := B_p.out.c1
  have c2p := B_p.out.c2
  have c3p := B_p.out.c3
  have c4p := B_p.out.c4
  have c5p := B_p.out.c5
  have c6p := B_p.out.c6
  have c7p := B_p.out.c7
  have c0q := B_q.out.c0
  have c1q := B_q.out.c1
  have c2q := B_q.out.c2
  have c3q := B_q.out.c3
  have c4q := B_q.out.c4
  have c5q := B_q.out.c5
  have c6q := B_q.out.c6
  have c7q := B_q.out.c7
  go_wp2_with fail
  refine (short_yes Hgqy.out.1 Hgqy.out.2).mono ?_
  rintro e w6 ⟨rfl, bb⟩
  replace bb := nextw (w0 := w5) (by exact ⟨rfl, rfl, rfl, Nat.le_refl _, fun _ _ => rfl⟩) bb
  clear c0t c1t c2t c3t c4t c5t c6t c7t c8t c9t c10t c11t c0p c1p c2p c3p c4p c5p c6p c7p c0q c1q c2q c3q c4q c5q c6q c7q
  replace B_t := Lib.hid (Box12.below B_t.out bb B_t.out.lt)
  replace B_p := Lib.hid (Box8.below B_p.out bb B_p.out.lt)
  replace B_q := Lib.hid (Box8.below B_q.out bb B_q.out.lt)
  replace V_trn := Lib.hid (Rd.below V_trn.out bb)
  replace V_trd := Lib.hid (Rd.below V_trd.out bb)
  replace V_tx := Lib.hid (Qd.below V_tx.out bb)
  replace V_ty := Lib.hid (Qd.below V_ty.out bb)
  replace V_px := Lib.hid (Qd.below V_px.out bb)
  replace V_py := Lib.hid (Qd.below V_py.out bb)
  replace V_qx := Lib.hid (Qd.below V_qx.out bb)
  replace V_qy := Lib.hid (Qd.below V_qy.out bb)
  replace V_tab := Lib.hid (tab_below V_tab.out bb)
  replace HB := Lib.hid (nextw HB.out bb)
  clear bb
  clear Hgtr Hgtx Hgty Hgpx Hgpy Hgqx Hgqy V_tab
  have c0t := B_t.out.c0
  have c1t := B_t.out.c1
  have c2t := B_t.out.c2
  have c3t := B_t.out.c3
  have c4t := B_t.out.c4
  have c5t := B_t.out.c5
  have c6t := B_t.out.c6
  have c7t := B_t.out.c7
  have c8t := B_t.out.c8
  have c9t := B_t.out.c9
  have c10t := B_t.out.c10
  have c11t := B_t.out.c11
  have c0p := B_p.out.c0
  have c1p := B_p.out.c1
  have c2p := B_p.out.c2
  have c3p := B_p.out.c3
  have c4p := B_p.out.c4
  have c5p := B_p.out.c5
  have c6p := B_p.out.c6
  have c7p := B_p.out.c7
  have c0q := B_q.out.c0
  have c1q := B_q.out.c1
  have c2q := B_q.out.c2
  have c3q := B_q.out.c3
  have c4q := B_q.out.c4
  have c5q := B_q.out.c5
  have c6q := B_q.out.c6
  have c7q := B_q.out.c7
  go_wp2_with fail
  refine (Act_r (Fd.mk (Rd.below V_trn.out (by exact ⟨rfl, rfl, rfl, Nat.le_refl _, fun _ _ => rfl⟩)) (Rd.below V_trd.out (by exact ⟨rfl, rfl, rfl, Nat.le_refl _, fun _ _ => rfl⟩))) (Qd.below V_tx.out (by exact ⟨rfl, rfl, rfl, Nat.le_refl _, fun _ _ => rfl⟩)) (Qd.below V_ty.out (by exact ⟨rfl, rfl, rfl, Nat.le_refl _, fun _ _ => rfl⟩)) (Qd.below V_px.out (by exact ⟨rfl, rfl, rfl, Nat.le_refl _, fun _ _ => rfl⟩)) (Qd.below V_py.out (by exact ⟨rfl, rfl, rfl, Nat.le_refl _, fun _ _ => rfl⟩)) (by omega) (by omega) (by omega) (by omega)).mono ?_
  rintro e w7 ⟨va, vb, rfl, ra, rb, bb⟩
  replace bb := nextw (w0 := w6) (by exact ⟨rfl, rfl, rfl, Nat.le_refl _, fun _ _ => rfl⟩) bb
  clear c0t c1t c2t c3t c4t c5t c6t c7t c8t c9t c10t c11t c0p c1p c2p c3p c4p c5p c6p c7p c0q c1q c2q c3q c4q c5q c6q c7q
  replace B_t := Lib.hid (Box12.below B_t.out bb B_t.out.lt)
  replace B_p := Lib.hid (Box8.below B_p.out bb B_p.out.lt)
  replace B_q := Lib.hid (Box8.below B_q.out bb B_q.out.lt)
  replace V_trn := Lib.hid (Rd.below V_trn.out bb)
  replace V_trd := Lib.hid (Rd.below V_trd.out bb)
  replace V_tx := Lib.hid (Qd.below V_tx.out bb)
  replace V_ty := Lib.hid (Qd.below V_ty.out bb)
  replace V_px := Lib.hid (Qd.below V_px.out bb)
  replace V_py := Lib.hid (Qd.below V_py.out bb)
  replace V_qx := Lib.hid (Qd.below V_qx.out bb)
  replace V_qy := Lib.hid (Qd.below V_qy.out bb)
  replace HB := Lib.hid (nextw HB.out bb)
  clear bb
  obtain ⟨sa, Aa, ka, ca, ta, Ca, la, da, rfl⟩ := ra.shape
  obtain ⟨sb, Ab, kb, cb, tb, Cb, lb, db, rfl⟩ := rb.shape
  have V_a := Lib.hid ra
  have V_b := Lib.hid rb
  clear ra rb
  have hb0 : Below w7.heap.size w7 ((w7.alloc (.cells #[.bool sa, (.slice Aa ka ca), .bool ta, (.slice Ca la da)] 35)).alloc (.cells #[.bool sb, (.slice Ab kb cb), .bool tb, (.slice Cb lb db)] 35)) := (Below.alloc (Below.alloc (Below.refl w7.heap.size w7) (by simp <;> omega) _) (by simp <;> omega) _)
  have B_a : Box4 ((w7.alloc (.cells #[.bool sa, (.slice Aa ka ca), .bool ta, (.slice Ca la da)] 35)).alloc (.cells #[.bool sb, (.slice Ab kb cb), .bool tb, (.slice Cb lb db)] 35)) (w7.heap.size) sa (.slice Aa ka ca) ta (.slice Ca la da) := by have h := Box4.alloc (Box4.new w7 sa (.slice Aa ka ca) ta (.slice Ca la da)) (.cells #[.bool sb, (.slice Ab kb cb), .bool tb, (.slice Cb lb db)] 35); simpa using h
  replace B_a := Lib.hid B_a
  have B_b : Box4 ((w7.alloc (.cells #[.bool sa, (.slice Aa ka ca), .bool ta, (.slice Ca la da)] 35)).alloc (.cells #[.bool sb, (.slice Ab kb cb), .bool tb, (.slice Cb lb db)] 35)) (w7.heap.size + 1) sb (.slice Ab kb cb) tb (.slice Cb lb db) := by have h := Box4.new (w7.alloc (.cells #[.bool sa, (.slice Aa ka ca), .bool ta, (.slice Ca la da)] 35)) sb (.slice Ab kb cb) tb (.slice Cb lb db); simpa using h
  replace B_b := Lib.hid B_b
  replace B_t := Lib.hid (Box12.below B_t.out hb0 B_t.out.lt)
  replace B_p := Lib.hid (Box8.below B_p.out hb0 B_p.out.lt)
  replace B_q := Lib.hid (Box8.below B_q.out hb0 B_q.out.lt)
  replace V_trn := Lib.hid (Rd.below V_trn.out hb0)
  replace V_trd := Lib.hid (Rd.below V_trd.out hb0)
  replace V_tx := Lib.hid (Qd.below V_tx.out hb0)
  replace V_ty := Lib.hid (Qd.below V_ty.out hb0)
  replace V_px := Lib.hid (Qd.below V_px.out hb0)
  replace V_py := Lib.hid (Qd.below V_py.out hb0)
  replace V_qx := Lib.hid (Qd.below V_qx.out hb0)
  replace V_qy := Lib.hid (Qd.below V_qy.out hb0)
  replace V_a := Lib.hid (Qc.below V_a.out hb0)
  replace V_b := Lib.hid (Qc.below V_b.out hb0)
  replace HB := Lib.hid (nextw HB.out hb0)
  clear hb0
  have c0t := B_t.out.c0
  have c1t := B_t.out.c1
  have c2t := B_t.out.c2
  have c3t := B_t.out.c3
  have c4t := B_t.out.c4
  have c5t := B_t.out.c5
  have c6t := B_t.out.c6
  have c7t := B_t.out.c7
  have c8t := B_t.out.c8
  have c9t := B_t.out.c9
  have c10t := B_t.out.c10
  have c11t := B_t.out.c11
  have c0p := B_p.out.c0
  have c1p := B_p.out.c1
  have c2p := B_p.out.c2
  have c3p := B_p.out.c3
  have c4p := B_p.out.c4
  have c5p := B_p.out.c5
  have c6p := B_p.out.c6
  have c7p := B_p.out.c7
  have c0q := B_q.out.c0
  have c1q := B_q.out.c1
  have c2q := B_q.out.c2
  have c3q := B_q.out.c3
  have c4q := B_q.out.c4
  have c5q := B_q.out.c5
  have c6q := B_q.out.c6
  have c7q := B_q.out.c7
  go_wp2_with fail
  clear c0t c1t c2t c3t c4t c5t c6t c7t c8t c9t c10t c11t c0p c1p c2p c3p c4p c5p c6p c7p c0q c1q c2q c3q c4q c5q c6q c7q
  generalize (w7.alloc (.cells #[.bool sa, (.slice Aa ka ca), .bool ta, (.slice Ca la da)] 35)).alloc (.cells #[.bool sb, (.slice Ab kb cb), .bool tb, (.slice Cb lb db)] 35) = W1 at *
  refine (Act_r (Fd.mk (Rd.below V_trn.out (by exact ⟨rfl, rfl, rfl, Nat.le_refl _, fun _ _ => rfl⟩)) (Rd.below V_trd.out (by exact ⟨rfl, rfl, rfl, Nat.le_refl _, fun _ _ => rfl⟩))) (Qd.below V_tx.out (by exact ⟨rfl, rfl, rfl, Nat.le_refl _, fun _ _ => rfl⟩)) (Qd.below V_ty.out (by exact ⟨rfl, rfl, rfl, Nat.le_refl _, fun _ _ => rfl⟩)) (Qd.below V_qx.out (by exact ⟨rfl, rfl, rfl, Nat.le_refl _, fun _ _ => rfl⟩)) (Qd.below V_qy.out (by exact ⟨rfl, rfl, rfl, Nat.le_refl _, fun _ _ => rfl⟩)) (by omega) (by omega) (by omega) (by omega)).mono ?_
  rintro e w8 ⟨vg, vh, rfl, rg, rh, bb⟩
  replace bb := nextw (w0 := W1) (by exact ⟨rfl, rfl, rfl, Nat.le_refl _, fun _ _ => rfl⟩) bb
  replace B_t := Lib.hid (Box12.below B_t.out bb B_t.out.lt)
  replace B_p := Lib.hid (Box8.below B_p.out bb B_p.out.lt)
  replace B_q := Lib.hid (Box8.below B_q.out bb B_q.out.lt)
  replace B_a := Lib.hid (Box4.below B_a.out bb B_a.out.lt)
  replace B_b := Lib.hid (Box4.below B_b.out bb B_b.out.lt)
  replace V_trn := Lib.hid (Rd.below V_trn.out bb)
  replace V_trd := Lib.hid (Rd.below V_trd.out bb)
  replace V_tx := Lib.hid (Qd.below V_tx.out bb)
  replace V_ty := Lib.hid (Qd.below V_ty.out bb)
  replace V_px := Lib.hid (Qd.below V_px.out bb)
  replace V_py := Lib.hid (Qd.below V_py.out bb)
  replace V_qx := Lib.hid (Qd.below V_qx.out bb)
  replace V_qy := Lib.hid (Qd.below V_qy.out bb)
  replace V_a := Lib.hid (Qc.below V_a.out bb)
  replace V_b := Lib.hid (Qc.below V_b.out bb)
  replace HB := Lib.hid (nextw HB.out bb)
  clear bb
  obtain ⟨sg, Ag, kg, cg, tg, Cg, lg, dg, rfl⟩ := rg.shape
  obtain ⟨sh, Ah, kh, ch, th, Ch, lh, dh, rfl⟩ := rh.shape
  have V_g := Lib.hid rg
  have V_h := Lib.hid rh
  clear rg rh V_trn V_trd V_tx V_ty
  have hb0 : Below w8.heap.size w8 ((w8.alloc (.cells #[.bool sg, (.slice Ag kg cg), .bool tg, (.slice Cg lg dg)] 35)).alloc (.cells #[.bool sh, (.slice Ah kh ch), .bool th, (.slice Ch lh dh)] 35)) := (Below.alloc (Below.alloc (Below.refl w8.heap.size w8) (by simp <;> omega) _) (by simp <;> omega) _)
  have B_g : Box4 ((w8.alloc (.cells #[.bool sg, (.slice Ag kg cg), .bool tg, (.slice Cg lg dg)] 35)).alloc (.cells #[.bool sh, (.slice Ah kh ch), .bool th, (.slice Ch lh dh)] 35)) (w8.heap.size) sg (.slice Ag kg cg) tg (.slice Cg lg dg) := by have h := Box4.alloc (Box4.new w8 sg (.slice Ag kg cg) tg (.slice Cg lg dg)) (.cells #[.bool sh, (.slice Ah kh ch), .bool th, (.slice Ch lh dh)] 35); simpa using h
  replace B_g := Lib.hid B_g
  have B_h : Box4 ((w8.alloc (.cells #[.bool sg, (.slice Ag kg cg), .bool tg, (.slice Cg lg dg)] 35)).alloc (.cells #[.bool sh, (.slice Ah kh ch), .bool th, (.slice Ch lh dh)] 35)) (w8.heap.size + 1) sh (.slice Ah kh ch) th (.slice Ch lh dh) := by have h := Box4.new (w8.alloc (.cells #[.bool sg, (.slice Ag kg cg), .bool tg, (.slice Cg lg dg)] 35)) sh (.slice Ah kh ch) th (.slice Ch lh dh); simpa using h
  replace B_h := Lib.hid B_h
  replace B_t := Lib.hid (Box12.below B_t.out hb0 B_t.out.lt)
  replace B_p := Lib.hid (Box8.below B_p.out hb0 B_p.out.lt)
  replace B_q := Lib.hid (Box8.below B_q.out hb0 B_q.out.lt)
  replace B_a := Lib.hid (Box4.below B_a.out hb0 B_a.out.lt)
  replace B_b := Lib.hid (Box4.below B_b.out hb0 B_b.out.lt)
  replace V_px := Lib.hid (Qd.below V_px.out hb0)
  replace V_py := Lib.hid (Qd.below V_py.out hb0)
  replace V_qx := Lib.hid (Qd.below V_qx.out hb0)
  replace V_qy := Lib.hid (Qd.below V_qy.out hb0)
  replace V_a := Lib.hid (Qc.below V_a.out hb0)
  replace V_b := Lib.hid (Qc.below V_b.out hb0)
  replace V_g := Lib.hid (Qc.below V_g.out hb0)
  replace V_h := Lib.hid (Qc.below V_h.out hb0)
  replace HB := Lib.hid (nextw HB.out hb0)
  clear hb0
  have c0p := B_p.out.c0
  have c1p := B_p.out.c1
  have c2p := B_p.out.c2
  have c3p := B_p.out.c3
  have c4p := B_p.out.c4
  have c5p := B_p.out.c5
  have c6p := B_p.out.c6
  have c7p := B_p.out.c7
  have c0q := B_q.out.c0
  have c1q := B_q.out.c1
  have c2q := B_q.out.c2
  have c3q := B_q.out.c3
  have c4q := B_q.out.c4
  have c5q := B_q.out.c5
  have c6q := B_q.out.c6
  have c7q := B_q.out.c7
  have c0a := B_a.out.c0
  have c1a := B_a.out.c1
  have c2a := B_a.out.c2
  have c3a := B_a.out.c3
  have c0b := B_b.out.c0
  have c1b := B_b.out.c1
  have c2b := B_b.out.c2
  have c3b := B_b.out.c3
  have c0g := B_g.out.c0
  have c1g := B_g.out.c1
  have c2g := B_g.out.c2
  have c3g := B_g.out.c3
  have c0h := B_h.out.c0
  have c1h := B_h.out.c1
  have c2h := B_h.out.c2
  have c3h := B_h.out.c3
  go_wp2
  clear c0p c1p c2p c3p c4p c5p c6p c7p c0q c1q c2q c3q c4q c5q c6q c7q c0a c1a c2a c3a c0b c1b c2b c3b c0g c1g c2g c3g c0h c1h c2h c3h
  generalize (w8.alloc (.cells #[.bool sg, (.slice Ag kg cg), .bool tg, (.slice Cg lg dg)] 35)).alloc (.cells #[.bool sh, (.slice Ah kh ch), .bool th, (.slice Ch lh dh)] 35) = W2 at *
  have c0p := B_p.out.c0
  have c1p := B_p.out.c1
  have c2p := B_p.out.c2
  have c3p := B_p.out.c3
  have c4p := B_p.out.c4
  have c5p := B_p.out.c5
  have c6p := B_p.out.c6
  have c7p := B_p.out.c7
  have c0q := B_q.out.c0
  have c1q := B_q.out.c1
  have c2q := B_q.out.c2
  have c3q := B_q.out.c3
  have c4q := B_q.out.c4
  have c5q := B_q.out.c5
  have c6q := B_q.out.c6
  have c7q := B_q.out.c7
  have c0a := B_a.out.c0
  have c1a := B_a.out.c1
  have c2a := B_a.out.c2
  have c3a := B_a.out.c3
  have c0b := B_b.out.c0
  have c1b := B_b.out.c1
  have c2b := B_b.out.c2
  have c3b := B_b.out.c3
  have c0g := B_g.out.c0
  have c1g := B_g.out.c1
  have c2g := B_g.out.c2
  have c3g := B_g.out.c3
  have c0h := B_h.out.c0
  have c1h := B_h.out.c1
  have c2h := B_h.out.c2
  have c3h := B_h.out.c3
  have tk1x0 : True := trivial
  first | (go_region_held3 (fun w' => w'.cell? ⟨w.heap.size + 1, 0, none⟩ = some (.bool spx) ∧ w'.cell? ⟨w.heap.size + 1, 1, none⟩ = some (.slice Apx kpx cpx) ∧ w'.cell? ⟨w.heap.size + 1, 2, none⟩ = some (.bool tpx) ∧ w'.cell? ⟨w.heap.size + 1, 3, none⟩ = some (.slice Cpx lpx dpx) ∧ w'.cell? ⟨w.heap.size + 1, 4, none⟩ = some (.bool spy) ∧ w'.cell? ⟨w.heap.size + 1, 5, none⟩ = some (.slice Apy kpy cpy) ∧ w'.cell? ⟨w.heap.size + 1, 6, none⟩ = some (.bool tpy) ∧ w'.cell? ⟨w.heap.size + 1, 7, none⟩ = some (.slice Cpy lpy dpy) ∧ w'.cell? ⟨w.heap.size + 1 + 1, 0, none⟩ = some (.bool sqx) ∧ w'.cell? ⟨w.heap.size + 1 + 1, 1, none⟩ = some (.slice Aqx kqx cqx) ∧ w'.cell? ⟨w.heap.size + 1 + 1, 2, none⟩ = some (.bool tqx) ∧ w'.cell? ⟨w.heap.size + 1 + 1, 3, none⟩ = some (.slice Cqx lqx dqx) ∧ w'.cell? ⟨w.heap.size + 1 + 1, 4, none⟩ = some (.bool sqy) ∧ w'.cell? ⟨w.heap.size + 1 + 1, 5, none⟩ = some (.slice Aqy kqy cqy) ∧ w'.cell? ⟨w.heap.size + 1 + 1, 6, none⟩ = some (.bool tqy) ∧ w'.cell? ⟨w.heap.size + 1 + 1, 7, none⟩ = some (.slice Cqy lqy dqy) ∧ w'.cell? ⟨w7.heap.size, 0, none⟩ = some (.bool sa) ∧ w'.cell? ⟨w7.heap.size, 1, none⟩ = some (.slice Aa ka ca) ∧ w'.cell? ⟨w7.heap.size, 2, none⟩ = some (.bool ta) ∧ w'.cell? ⟨w7.heap.size, 3, none⟩ = some (.slice Ca la da) ∧ w'.cell? ⟨w7.heap.size + 1, 0, none⟩ = some (.bool sb) ∧ w'.cell? ⟨w7.heap.size + 1, 1, none⟩ = some (.slice Ab kb cb) ∧ w'.cell? ⟨w7.heap.size + 1, 2, none⟩ = some (.bool tb) ∧ w'.cell? ⟨w7.heap.size + 1, 3, none⟩ = some (.slice Cb lb db) ∧ w'.cell? ⟨w8.heap.size, 0, none⟩ = some (.bool sg) ∧ w'.cell? ⟨w8.heap.size, 1, none⟩ = some (.slice Ag kg cg) ∧ w'.cell? ⟨w8.heap.size, 2, none⟩ = some (.bool tg) ∧ w'.cell? ⟨w8.heap.size, 3, none⟩ = some (.slice Cg lg dg) ∧ w'.cell? ⟨w8.heap.size + 1, 0, none⟩ = some (.bool sh) ∧ w'.cell? ⟨w8.heap.size + 1, 1, none⟩ = some (.slice Ah kh ch) ∧ w'.cell? ⟨w8.heap.size + 1, 2, none⟩ = some (.bool th) ∧ w'.cell? ⟨w8.heap.size + 1, 3, none⟩ = some (.slice Ch lh dh)) (((try dsimp only); (repeat' apply And.intro) <;> (first | (with_reducible assumption) | ((repeat (first | (with_reducible refine Eq.trans (cell_drew1 _ _) ?_) | (with_reducible refine Eq.trans (cell_set4 (by omega) _ _ _ _) ?_))); with_reducible assumption) | assumption | go_keep)))
    (first
      | (clear tk1x0; go_at_call 32; refine (square_r (Qd.below V_px.out (by exact ⟨rfl, rfl, rfl, Nat.le_refl _, fun _ _ => rfl⟩)) (Qd.below V_py.out (by exact ⟨rfl, rfl, rfl, Nat.le_refl _, fun _ _ => rfl⟩)) (Qd.below V_qx.out (by exact ⟨rfl, rfl, rfl, Nat.le_refl _, fun _ _ => rfl⟩)) (Qd.below V_qy.out (by exact ⟨rfl, rfl, rfl, Nat.le_refl _, fun _ _ => rfl⟩)) (by omega) (by omega) (by omega) (by omega)).mono ?_; rintro e w9 ⟨ve1, rfl, re1, bb⟩; replace bb := nextw (w0 := W2) (by exact ⟨rfl, rfl, rfl, Nat.le_refl _, fun _ _ => rfl⟩) bb; clear V_px V_py V_qx V_qy; replace B_t := Lib.hid (Box12.below B_t.out bb B_t.out.lt); replace B_p := Lib.hid (Box8.below B_p.out bb B_p.out.lt); replace B_q := Lib.hid (Box8.below B_q.out bb B_q.out.lt); replace B_a := Lib.hid (Box4.below B_a.out bb B_a.out.lt); replace B_b := Lib.hid (Box4.below B_b.out bb B_b.out.lt); replace B_g := Lib.hid (Box4.below B_g.out bb B_g.out.lt); replace B_h := Lib.hid (Box4.below B_h.out bb B_h.out.lt); replace V_a := Lib.hid (Qc.below V_a.out bb); replace V_b := Lib.hid (Qc.below V_b.out bb); replace V_g := Lib.hid (Qc.below V_g.out bb); replace V_h := Lib.hid (Qc.below V_h.out bb); replace HB := Lib.hid (nextw HB.out bb); clear bb; replace re1 := Lib.hid re1; have V_e1 := re1; clear re1; clear c0p c1p c2p c3p c4p c5p c6p c7p c0q c1q c2q c3q c4q c5q c6q c7q c0a c1a c2a c3a c0b c1b c2b c3b c0g c1g c2g c3g c0h c1h c2h c3h; have c0p := B_p.out.c0; have c1p := B_p.out.c1; have c2p := B_p.out.c2; have c3p := B_p.out.c3; have c4p := B_p.out.c4; have c5p := B_p.out.c5; have c6p := B_p.out.c6; have c7p := B_p.out.c7; have c0q := B_q.out.c0; have c1q := B_q.out.c1; have c2q := B_q.out.c2; have c3q := B_q.out.c3; have c4q := B_q.out.c4; have c5q := B_q.out.c5; have c6q := B_q.out.c6; have c7q := B_q.out.c7; have c0a := B_a.out.c0; have c1a := B_a.out.c1; have c2a := B_a.out.c2; have c3a := B_a.out.c3; have c0b := B_b.out.c0; have c1b := B_b.out.c1; have c2b := B_b.out.c2; have c3b := B_b.out.c3; have c0g := B_g.out.c0; have c1g := B_g.out.c1; have c2g := B_g.out.c2; have c3g := B_g.out.c3; have c0h := B_h.out.c0; have c1h := B_h.out.c1; have c2h := B_h.out.c2; have c3h := B_h.out.c3; have tk1x1 : True := trivial)
      | (clear tk1x1; go_at_call 32; refine (square_r (Qc.qd (Qc.below V_a.out (by exact ⟨rfl, rfl, rfl, Nat.le_refl _, fun _ _ => rfl⟩))) (Qc.qd (Qc.below V_b.out (by exact ⟨rfl, rfl, rfl, Nat.le_refl _, fun _ _ => rfl⟩))) (Qc.qd (Qc.below V_g.out (by exact ⟨rfl, rfl, rfl, Nat.le_refl _, fun _ _ => rfl⟩))) (Qc.qd (Qc.below V_h.out (by exact ⟨rfl, rfl, rfl, Nat.le_refl _, fun _ _ => rfl⟩))) (by omega) (by omega) (by omega) (by omega)).mono ?_; rintro e w10 ⟨ve2, rfl, re2, bb⟩; replace bb := nextw (w0 := w9) (by exact ⟨rfl, rfl, rfl, Nat.le_refl _, fun _ _ => rfl⟩) bb; clear V_a V_b V_g V_h; replace B_t := Lib.hid (Box12.below B_t.out bb B_t.out.lt); replace B_p := Lib.hid (Box8.below B_p.out bb B_p.out.lt); replace B_q := Lib.hid (Box8.below B_q.out bb B_q.out.lt); replace B_a := Lib.hid (Box4.below B_a.out bb B_a.out.lt); replace B_b := Lib.hid (Box4.below B_b.out bb B_b.out.lt); replace B_g := Lib.hid (Box4.below B_g.out bb B_g.out.lt); replace B_h := Lib.hid (Box4.below B_h.out bb B_h.out.lt); replace V_e1 := Lib.hid (Qc.below V_e1.out bb); replace HB := Lib.hid (nextw HB.out bb); clear bb; replace re2 := Lib.hid re2; have V_e2 := re2; clear re2; clear c0p c1p c2p c3p c4p c5p c6p c7p c0q c1q c2q c3q c4q c5q c6q c7q c0a c1a c2a c3a c0b c1b c2b c3b c0g c1g c2g c3g c0h c1h c2h c3h; have c0p := B_p.out.c0; have c1p := B_p.out.c1; have c2p := B_p.out.c2; have c3p := B_p.out.c3; have c4p := B_p.out.c4; have c5p := B_p.out.c5; have c6p := B_p.out.c6; have c7p := B_p.out.c7; have c0q := B_q.out.c0; have c1q := B_q.out.c1; have c2q := B_q.out.c2; have c3q := B_q.out.c3; have c4q := B_q.out.c4; have c5q := B_q.out.c5; have c6q := B_q.out.c6; have c7q := B_q.out.c7; have c0a := B_a.out.c0; have c1a := B_a.out.c1; have c2a := B_a.out.c2; have c3a := B_a.out.c3; have c0b := B_b.out.c0; have c1b := B_b.out.c1; have c2b := B_b.out.c2; have c3b := B_b.out.c3; have c0g := B_g.out.c0; have c1g := B_g.out.c1; have c2g := B_g.out.c2; have c3g := B_g.out.c3; have c0h := B_h.out.c0; have c1h := B_h.out.c1; have c2h := B_h.out.c2; have c3h := B_h.out.c3; have tk1x2 : True := trivial)
      | (clear tk1x2; go_at_call 23; refine (Cmp_zero (Qc.qd (Qc.below V_e1.out (by exact ⟨rfl, rfl, rfl, Nat.le_refl _, fun _ _ => rfl⟩))) (Qc.qd (Qc.below V_e2.out (by exact ⟨rfl, rfl, rfl, Nat.le_refl _, fun _ _ => rfl⟩))) (by omega) (by omega) (rigid _ _ _ _ _ _ _ _ (cs_one _ _))).mono ?_; rintro e w11 ⟨rfl, bb⟩; replace bb := nextw (w0 := w10) (by exact ⟨rfl, rfl, rfl, Nat.le_refl _, fun _ _ => rfl⟩) bb; clear V_e1 V_e2; replace B_t := Lib.hid (Box12.below B_t.out bb B_t.out.lt); replace B_p := Lib.hid (Box8.below B_p.out bb B_p.out.lt); replace B_q := Lib.hid (Box8.below B_q.out bb B_q.out.lt); replace B_a := Lib.hid (Box4.below B_a.out bb B_a.out.lt); replace B_b := Lib.hid (Box4.below B_b.out bb B_b.out.lt); replace B_g := Lib.hid (Box4.below B_g.out bb B_g.out.lt); replace B_h := Lib.hid (Box4.below B_h.out bb B_h.out.lt); replace HB := Lib.hid (nextw HB.out bb); clear bb; clear c0p c1p c2p c3p c4p c5p c6p c7p c0q c1q c2q c3q c4q c5q c6q c7q c0a c1a c2a c3a c0b c1b c2b c3b c0g c1g c2g c3g c0h c1h c2h c3h; have c0p := B_p.out.c0; have c1p := B_p.out.c1; have c2p := B_p.out.c2; have c3p := B_p.out.c3; have c4p := B_p.out.c4; have c5p := B_p.out.c5; have c6p := B_p.out.c6; have c7p := B_p.out.c7; have c0q := B_q.out.c0; have c1q := B_q.out.c1; have c2q := B_q.out.c2; have c3q := B_q.out.c3; have c4q := B_q.out.c4; have c5q := B_q.out.c5; have c6q := B_q.out.c6; have c7q := B_q.out.c7; have c0a := B_a.out.c0; have c1a := B_a.out.c1; have c2a := B_a.out.c2; have c3a := B_a.out.c3; have c0b := B_b.out.c0; have c1b := B_b.out.c1; have c2b := B_b.out.c2; have c3b := B_b.out.c3; have c0g := B_g.out.c0; have c1g := B_g.out.c1; have c2g := B_g.out.c2; have c3g := B_g.out.c3; have c0h := B_h.out.c0; have c1h := B_h.out.c1; have c2h := B_h.out.c2; have c3h := B_h.out.c3; have tk1x3 : True := trivial))) | fail
  have HBo := HB.out
  go_wp2
  go_ret
  exact ⟨rfl, nextw HBo (by exact ⟨rfl, rfl, rfl, Nat.le_refl _, fun _ _ => rfl⟩)⟩

set_option maxHeartbeats 2000000 in
theorem Rigid_any {str : Bool} {Atr : Option Addr} {ktr ctr : Nat} {ttr : Bool} {Ctr : Option Addr} {ltr dtr : Nat} {ptr qtr : Int} {stx : Bool} {Atx : Option Addr} {ktx ctx : Nat} {ttx : Bool} {Ctx : Option Addr} {ltx dtx : Nat} {rtx : Rat} {sty : Bool} {Aty : Option Addr} {kty cty : Nat} {tty : Bool} {Cty : Option Addr} {lty dty : Nat} {rty : Rat} {spx : Bool} {Apx : Option Addr} {kpx cpx : Nat} {tpx : Bool} {Cpx : Option Addr} {lpx dpx : Nat} {rpx : Rat} {spy : Bool} {Apy : Option Addr} {kpy cpy : Nat} {tpy : Bool} {Cpy : Option Addr} {lpy dpy : Nat} {rpy : Rat} {sqx : Bool} {Aqx : Option Addr} {kqx cqx : Nat} {tqx : Bool} {Cqx : Option Addr} {lqx dqx : Nat} {rqx : Rat} {sqy : Bool} {Aqy : Option Addr} {kqy cqy : Nat} {tqy : Bool} {Cqy : Option Addr} {lqy dqy : Nat} {rqy : Rat} {jtr : Nat} {jtx : Nat} {jty : Nat} {jpx : Nat} {jpy : Nat} {jqx : Nat} {jqy : Nat} {w : World} (htr : Fd w (.agg #[.bool str, .slice Atr ktr ctr, .bool ttr, .slice Ctr ltr dtr]) ptr qtr jtr) (htx : Qd w (.agg #[.bool stx, .slice Atx ktx ctx, .bool ttx, .slice Ctx ltx dtx]) rtx jtx) (hty : Qd w (.agg #[.bool sty, .slice Aty kty cty, .bool tty, .slice Cty lty dty]) rty jty) (hpx : Qd w (.agg #[.bool spx, .slice Apx kpx cpx, .bool tpx, .slice Cpx lpx dpx]) rpx jpx) (hpy : Qd w (.agg #[.bool spy, .slice Apy kpy cpy, .bool tpy, .slice Cpy lpy dpy]) rpy jpy) (hqx : Qd w (.agg #[.bool sqx, .slice Aqx kqx cqx, .bool tqx, .slice Cqx lqx dqx]) rqx jqx) (hqy : Qd w (.agg #[.bool sqy, .slice Aqy kqy cqy, .bool tqy, .slice Cqy lqy dqy]) rqy jqy) (htab : Tab10 w) (hjtr : ktr ≤ 12 ∧ ltr ≤ 12 → jtr ≤ 12) (hjtx : ktx ≤ 12 ∧ ltx ≤ 12 → jtx ≤ 12) (hjty : kty ≤ 12 ∧ lty ≤ 12 → jty ≤ 12) (hjpx : kpx ≤ 12 ∧ lpx ≤ 12 → jpx ≤ 12) (hjpy : kpy ≤ 12 ∧ lpy ≤ 12 → jpy ≤ 12) (hjqx : kqx ≤ 12 ∧ lqx ≤ 12 → jqx ≤ 12) (hjqy : kqy ≤ 12 ∧ lqy ≤ 12 → jqy ≤ 12) (mtr : ktr ≤ 9223372036854775807 ∧ ltr ≤ 9223372036854775807) (mtx : ktx ≤ 9223372036854775807 ∧ ltx ≤ 9223372036854775807) (mty : kty ≤ 9223372036854775807 ∧ lty ≤ 9223372036854775807) (mpx : kpx ≤ 9223372036854775807 ∧ lpx ≤ 9223372036854775807) (mpy : kpy ≤ 9223372036854775807 ∧ lpy ≤ 9223372036854775807) (mqx : kqx ≤ 9223372036854775807 ∧ lqx ≤ 9223372036854775807) (mqy : kqy ≤ 9223372036854775807 ∧ lqy ≤ 9223372036854775807) :
    Calls Tryz.prog 6 #[.agg #[.bool str, .slice Atr ktr ctr, .bool ttr, .slice Ctr ltr dtr, .bool stx, .slice Atx ktx ctx, .bool ttx, .slice Ctx ltx dtx, .bool sty, .slice Aty kty cty, .bool tty, .slice Cty lty dty], .agg #[.bool spx, .slice Apx kpx cpx, .bool tpx, .slice Cpx lpx dpx, .bool spy, .slice Apy kpy cpy, .bool tpy, .slice Cpy lpy dpy], .agg #[.bool sqx, .slice Aqx kqx cqx, .bool tqx, .slice Cqx lqx dqx, .bool sqy, .slice Aqy kqy cqy, .bool tqy, .slice Cqy lqy dqy]] w fun e w' => e = .returned (.bool true) ∧ Below w.heap.size w w' := by
  by_cases et : (ktr ≤ 12 ∧ ltr ≤ 12) ∧ (ktx ≤ 12 ∧ ltx ≤ 12) ∧ (kty ≤ 12 ∧ lty ≤ 12)
  case neg => exact Rigid_long0 (htr.more (k' := (jtr + jtx + jty + jpx + jpy + jqx + jqy)) (by omega)) (htx.more (k' := (jtr + jtx + jty + jpx + jpy + jqx + jqy)) (by omega)) (hty.more (k' := (jtr + jtx + jty + jpx + jpy + jqx + jqy)) (by omega)) (hpx.more (k' := (jtr + jtx + jty + jpx + jpy + jqx + jqy)) (by omega)) (hpy.more (k' := (jtr + jtx + jty + jpx + jpy + jqx + jqy)) (by omega)) (hqx.more (k' := (jtr + jtx + jty + jpx + jpy + jqx + jqy)) (by omega)) (hqy.more (k' := (jtr + jtx + jty + jpx + jpy + jqx + jqy)) (by omega)) htab  mtr mtx mty et
  by_cases epx : kpx ≤ 12 ∧ lpx ≤ 12
  case neg => exact Rigid_long1 (htr.more (k' := (jtr + jtx + jty + jpx + jpy + jqx + jqy)) (by omega)) (htx.more (k' := (jtr + jtx + jty + jpx + jpy + jqx + jqy)) (by omega)) (hty.more (k' := (jtr + jtx + jty + jpx + jpy + jqx + jqy)) (by omega)) (hpx.more (k' := (jtr + jtx + jty + jpx + jpy + jqx + jqy)) (by omega)) (hpy.more (k' := (jtr + jtx + jty + jpx + jpy + jqx + jqy)) (by omega)) (hqx.more (k' := (jtr + jtx + jty + jpx + jpy + jqx + jqy)) (by omega)) (hqy.more (k' := (jtr + jtx + jty + jpx + jpy + jqx + jqy)) (by omega)) htab et.1 et.2.1 et.2.2 mpx epx
  by_cases epy : kpy ≤ 12 ∧ lpy ≤ 12
  case neg => exact Rigid_long2 (htr.more (k' := (jtr + jtx + jty + jpx + jpy + jqx + jqy)) (by omega)) (htx.more (k' := (jtr + jtx + jty + jpx + jpy + jqx + jqy)) (by omega)) (hty.more (k' := (jtr + jtx + jty + jpx + jpy + jqx + jqy)) (by omega)) (hpx.more (k' := (jtr + jtx + jty + jpx + jpy + jqx + jqy)) (by omega)) (hpy.more (k' := (jtr + jtx + jty + jpx + jpy + jqx + jqy)) (by omega)) (hqx.more (k' := (jtr + jtx + jty + jpx + jpy + jqx + jqy)) (by omega)) (hqy.more (k' := (jtr + jtx + jty + jpx + jpy + jqx + jqy)) (by omega)) htab et.1 et.2.1 et.2.2 epx mpy epy
  by_cases eqx : kqx ≤ 12 ∧ lqx ≤ 12
  case neg => exact Rigid_long3 (htr.more (k' := (jtr + jtx + jty + jpx + jpy + jqx + jqy)) (by omega)) (htx.more (k' := (jtr + jtx + jty + jpx + jpy + jqx + jqy)) (by omega)) (hty.more (k' := (jtr + jtx + jty + jpx + jpy + jqx + jqy)) (by omega)) (hpx.more (k' := (jtr + jtx + jty + jpx + jpy + jqx + jqy)) (by omega)) (hpy.more (k' := (jtr + jtx + jty + jpx + jpy + jqx + jqy)) (by omega)) (hqx.more (k' := (jtr + jtx + jty + jpx + jpy + jqx + jqy)) (by omega)) (hqy.more (k' := (jtr + jtx + jty + jpx + jpy + jqx + jqy)) (by omega)) htab et.1 et.2.1 et.2.2 epx epy mqx eqx
  by_cases eqy : kqy ≤ 12 ∧ lqy ≤ 12
  case neg => exact Rigid_long4 (htr.more (k' := (jtr + jtx + jty + jpx + jpy + jqx + jqy)) (by omega)) (htx.more (k' := (jtr + jtx + jty + jpx + jpy + jqx + jqy)) (by omega)) (hty.more (k' := (jtr + jtx + jty + jpx + jpy + jqx + jqy)) (by omega)) (hpx.more (k' := (jtr + jtx + jty + jpx + jpy + jqx + jqy)) (by omega)) (hpy.more (k' := (jtr + jtx + jty + jpx + jpy + jqx + jqy)) (by omega)) (hqx.more (k' := (jtr + jtx + jty + jpx + jpy + jqx + jqy)) (by omega)) (hqy.more (k' := (jtr + jtx + jty + jpx + jpy + jqx + jqy)) (by omega)) htab et.1 et.2.1 et.2.2 epx epy eqx mqy eqy
  exact Rigid_main (htr.more (hjtr et.1)) (htx.more (hjtx et.2.1)) (hty.more (hjty et.2.2)) (hpx.more (hjpx epx)) (hpy.more (hjpy epy)) (hqx.more (hjqx eqx)) (hqy.more (hjqy eqy)) htab et.1 et.2.1 et.2.2 epx epy eqx eqy
end Go.Proofs.YtccndofafljaaaaGreatDoor
