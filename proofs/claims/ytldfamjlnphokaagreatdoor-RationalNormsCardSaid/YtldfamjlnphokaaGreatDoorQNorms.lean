/- The law RationalNorms: the walk. -/
import Derived.Test.YtldfamjlnphokaaGreatDoorQFewL
import Derived.Test.YtldfamjlnphokaaGreatDoorQSameU
import Derived.Test.YtldfamjlnphokaaGreatDoorQClone
import Derived.Test.YtldfamjlnphokaaGreatDoorRQ2

set_option linter.unusedVariables false
set_option linter.unusedSimpArgs false

namespace Go.Proofs.YtldfamjlnphokaaGreatDoor
open Go Go.RowKit Num

theorem int_bounds {n : Int} (h : (Lit.int .i64 n).wf = true) : -9223372036854775808 ≤ n ∧ n ≤ 9223372036854775807 := by
  have h1 : IntKind.i64.min ≤ n ∧ n ≤ 9223372036854775807 := by simpa [Lit.wf] using h
  have h2 : IntKind.i64.min = -9223372036854775808 := by decide
  omega
theorem Qd.words {w : World} {s t : Bool} {A C : Option Addr} {k c j d q : Nat} {r : Rat} (h : Qd w (.agg #[.bool s, .slice A k c, .bool t, .slice C j d]) r q) :
    ∃ l m, U32 w (.slice A k c) l ∧ U32 w (.slice C j d) m ∧ l.length ≤ q ∧ m.length ≤ q ∧ Rat.divInt (ival s l) (ival t m) = r := by
  obtain ⟨a, b, h, e⟩ := h
  obtain ⟨l, u, i, hl⟩ := h.num.u32
  obtain ⟨m, u2, i2, hm⟩ := h.den.u32
  exact ⟨l, m, u, u2, hl, hm, by rw [i, i2]; exact e⟩
theorem Rd.of_words {w : World} {s : Bool} {m : Value} {l : List Nat} {q : Nat} (h : U32 w m l) (hl : l.length ≤ q) : Rd w (.agg #[.bool s, m]) (ival s l) q := ⟨s, m, l, rfl, h, rfl, hl⟩
theorem Qd.of_words {w : World} {s t : Bool} {m n : Value} {l r : List Nat} {q : Nat} {x : Rat} (h : U32 w m l) (hl : l.length ≤ q) (h2 : U32 w n r) (hr : r.length ≤ q) (e : Rat.divInt (ival s l) (ival t r) = x) : Qd w (.agg #[.bool s, m, .bool t, n]) x q :=
  ⟨_, _, Fd.mk (Rd.of_words h hl) (Rd.of_words h2 hr), e⟩

set_option maxRecDepth 100000 in
set_option maxHeartbeats 8000000 in
theorem Norms_long {sx : Bool} {Ax : Option Addr} {kx cx : Nat} {tx : Bool} {Cx : Option Addr} {lx dx : Nat} {rx : Rat} {qx : Nat} {nn dd : Int} {w : World} (hx : Qd w (.agg #[.bool sx, .slice Ax kx cx, .bool tx, .slice Cx lx dx]) rx qx) (htab : Tab10 w) (hm : ∀ p ∈ [(kx, lx)], p.1 ≤ 9223372036854775807 ∧ p.2 ≤ 9223372036854775807) (hfew : ¬ fewSum [(kx, lx)] ≤ 60) :
    Calls Tryz.prog 3 #[.agg #[.bool sx, .slice Ax kx cx, .bool tx, .slice Cx lx dx], .int .i64 nn, .int .i64 dd] w fun e w' => e = .returned (.bool true) ∧ Below w.heap.size w w' := by
  have V_x := Lib.hid hx
  have V_tab := Lib.hid htab
  have HF := Lib.hid hfew
  have HM := Lib.hid hm
  clear hx htab hfew hm
  have hb0 : Below w.heap.size w (w.alloc (.cells #[.bool sx, (.slice Ax kx cx), .bool tx, (.slice Cx lx dx)] 26)) := (Below.alloc (Below.refl w.heap.size w) (by simp <;> omega) _)
  have B_x : Box4 (w.alloc (.cells #[.bool sx, (.slice Ax kx cx), .bool tx, (.slice Cx lx dx)] 26)) (w.heap.size) sx (.slice Ax kx cx) tx (.slice Cx lx dx) := by have h := Box4.new w sx (.slice Ax kx cx) tx (.slice Cx lx dx); simpa using h
  replace B_x := Lib.hid B_x
  replace V_x := Lib.hid (Qd.below V_x.out hb0)
  replace V_tab := Lib.hid (tab_below V_tab.out hb0)
  have HB := Lib.hid hb0
  clear hb0
  have c0x := B_x.out.c0
  have c1x := B_x.out.c1
  have c2x := B_x.out.c2
  have c3x := B_x.out.c3
  go_enter Tryz.func3, Tryz.ntmps3
  go_wp2_with fail
  clear c0x c1x c2x c3x
  generalize w.alloc (.cells #[.bool sx, (.slice Ax kx cx), .bool tx, (.slice Cx lx dx)] 26) = W0 at *
  refine (awakeQ _ (tab_below V_tab.out (by exact ⟨rfl, rfl, rfl, Nat.le_refl _, fun _ _ => rfl⟩))).mono ?_
  rintro e w1 ⟨rfl, bb⟩
  replace bb := nextw (w0 := W0) (by exact ⟨rfl, rfl, rfl, Nat.le_refl _, fun _ _ => rfl⟩) bb
  replace B_x := Lib.hid (Box4.below B_x.out bb B_x.out.lt)
  replace V_x := Lib.hid (Qd.below V_x.out bb)
  replace V_tab := Lib.hid (tab_below V_tab.out bb)
  replace HB := Lib.hid (nextw HB.out bb)
  clear bb
  have c0x := B_x.out.c0
  have c1x := B_x.out.c1
  have c2x := B_x.out.c2
  have c3x := B_x.out.c3
  go_wp2_with fail
  refine (fewq_no (L := [(kx, lx)]) (Rats.lit _ _ _ _ (by intro i hi; rcases i with _ | i <;> first | exact ⟨⟨_, _, rfl⟩, ⟨_, _, rfl⟩⟩ | (simp only [List.length_cons, List.length_nil] at hi; omega))) (by simp) HM.out HF.out).mono ?_
  rintro e w2 ⟨rfl, bb⟩
  replace bb := nextw (w0 := w1) (by first | exact ⟨rfl, rfl, rfl, Nat.le_refl _, fun _ _ => rfl⟩ | exact nextw (by exact ⟨rfl, rfl, rfl, Nat.le_refl _, fun _ _ => rfl⟩) ((Below.refl _ _).alloc (Nat.le_refl _) _) | exact below_push rfl rfl rfl rfl) bb
  clear c0x c1x c2x c3x
  replace B_x := Lib.hid (Box4.below B_x.out bb B_x.out.lt)
  replace V_x := Lib.hid (Qd.below V_x.out bb)
  replace V_tab := Lib.hid (tab_below V_tab.out bb)
  replace HB := Lib.hid (nextw HB.out bb)
  clear bb
  go_wp2_with fail
  refine (awakeQ _ (tab_below V_tab.out (by exact ⟨rfl, rfl, rfl, Nat.le_refl _, fun _ _ => rfl⟩))).mono ?_
  rintro e w3 ⟨rfl, bb⟩
  replace bb := nextw (w0 := w2) (by exact ⟨rfl, rfl, rfl, Nat.le_refl _, fun _ _ => rfl⟩) bb
  replace B_x := Lib.hid (Box4.below B_x.out bb B_x.out.lt)
  replace V_x := Lib.hid (Qd.below V_x.out bb)
  replace V_tab := Lib.hid (tab_below V_tab.out bb)
  replace HB := Lib.hid (nextw HB.out bb)
  clear bb
  have HBo := HB.out
  go_wp2
  go_ret
  exact ⟨rfl, nextw HBo (by exact ⟨rfl, rfl, rfl, Nat.le_refl _, fun _ _ => rfl⟩)⟩

set_option maxRecDepth 100000 in
set_option maxHeartbeats 16000000 in
theorem Norms_main {sx : Bool} {Ax : Option Addr} {kx cx : Nat} {tx : Bool} {Cx : Option Addr} {lx dx : Nat} {rx : Rat} {qx : Nat} {nn dd : Int} {w : World} (hx : Qd w (.agg #[.bool sx, .slice Ax kx cx, .bool tx, .slice Cx lx dx]) rx qx) (htab : Tab10 w) (n1 : -9223372036854775808 ≤ nn) (n2 : nn ≤ 9223372036854775807) (d1 : -9223372036854775808 ≤ dd) (d2 : dd ≤ 9223372036854775807) (hqx : qx ≤ 60) (hfew : fewSum [(kx, lx)] ≤ 60) :
    Calls Tryz.prog 3 #[.agg #[.bool sx, .slice Ax kx cx, .bool tx, .slice Cx lx dx], .int .i64 nn, .int .i64 dd] w fun e w' => e = .returned (.bool true) ∧ Below w.heap.size w w' := by
  have V_x := Lib.hid hx
  have V_tab := Lib.hid htab
  have HF := Lib.hid hfew
  clear hx htab hfew
  have hb0 : Below w.heap.size w (w.alloc (.cells #[.bool sx, (.slice Ax kx cx), .bool tx, (.slice Cx lx dx)] 26)) := (Below.alloc (Below.refl w.heap.size w) (by simp <;> omega) _)
  have B_x : Box4 (w.alloc (.cells #[.bool sx, (.slice Ax kx cx), .bool tx, (.slice Cx lx dx)] 26)) (w.heap.size) sx (.slice Ax kx cx) tx (.slice Cx lx dx) := by have h := Box4.new w sx (.slice Ax kx cx) tx (.slice Cx lx dx); simpa using h
  replace B_x := Lib.hid B_x
  replace V_x := Lib.hid (Qd.below V_x.out hb0)
  replace V_tab := Lib.hid (tab_below V_tab.out hb0)
  have HB := Lib.hid hb0
  clear hb0
  have c0x := B_x.out.c0
  have c1x := B_x.out.c1
  have c2x := B_x.out.c2
  have c3x := B_x.out.c3
  go_enter Tryz.func3, Tryz.ntmps3
  go_wp2_with fail
  clear c0x c1x c2x c3x
  generalize w.alloc (.cells #[.bool sx, (.slice Ax kx cx), .bool tx, (.slice Cx lx dx)] 26) = W0 at *
  refine (awakeQ _ (tab_below V_tab.out (by exact ⟨rfl, rfl, rfl, Nat.le_refl _, fun _ _ => rfl⟩))).mono ?_
  rintro e w1 ⟨rfl, bb⟩
  replace bb := nextw (w0 := W0) (by exact ⟨rfl, rfl, rfl, Nat.le_refl _, fun _ _ => rfl⟩) bb
  replace B_x := Lib.hid (Box4.below B_x.out bb B_x.out.lt)
  replace V_x := Lib.hid (Qd.below V_x.out bb)
  replace V_tab := Lib.hid (tab_below V_tab.out bb)
  replace HB := Lib.hid (nextw HB.out bb)
  clear bb
  have c0x := B_x.out.c0
  have c1x := B_x.out.c1
  have c2x := B_x.out.c2
  have c3x := B_x.out.c3
  go_wp2_with fail
  refine (fewq_yes (L := [(kx, lx)]) (Rats.lit _ _ _ _ (by intro i hi; rcases i with _ | i <;> first | exact ⟨⟨_, _, rfl⟩, ⟨_, _, rfl⟩⟩ | (simp only [List.length_cons, List.length_nil] at hi; omega))) (by simp) HF.out).mono ?_
  rintro e w2 ⟨rfl, bb⟩
  replace bb := nextw (w0 := w1) (by first | exact ⟨rfl, rfl, rfl, Nat.le_refl _, fun _ _ => rfl⟩ | exact nextw (by exact ⟨rfl, rfl, rfl, Nat.le_refl _, fun _ _ => rfl⟩) ((Below.refl _ _).alloc (Nat.le_refl _) _) | exact below_push rfl rfl rfl rfl) bb
  clear c0x c1x c2x c3x
  replace B_x := Lib.hid (Box4.below B_x.out bb B_x.out.lt)
  replace V_x := Lib.hid (Qd.below V_x.out bb)
  replace V_tab := Lib.hid (tab_below V_tab.out bb)
  replace HB := Lib.hid (nextw HB.out bb)
  clear bb
  clear V_tab
  obtain ⟨l, m, ul, um, hl, hm, hrx⟩ := V_x.out.words
  have HRX := Lib.hid hrx
  have HN := Lib.hid (And.intro (And.intro n1 n2) (And.intro d1 d2))
  clear hrx n1 n2 d1 d2
  have V_xl := Lib.hid ul
  have V_xm := Lib.hid um
  clear ul um
  have c0x := B_x.out.c0
  have c1x := B_x.out.c1
  have c2x := B_x.out.c2
  have c3x := B_x.out.c3
  go_wp2_with fail
  refine (clone_q (s := sx) (t := tx) (U32.below V_xl.out (by exact ⟨rfl, rfl, rfl, Nat.le_refl _, fun _ _ => rfl⟩)) (U32.below V_xm.out (by exact ⟨rfl, rfl, rfl, Nat.le_refl _, fun _ _ => rfl⟩)) (by omega) (by omega)).mono ?_
  rintro e w3 ⟨Ay, ky, cy, Cy, ly, dy, rfl, u1, u2, bb⟩
  replace bb := nextw (w0 := w2) (by exact ⟨rfl, rfl, rfl, Nat.le_refl _, fun _ _ => rfl⟩) bb
  clear c0x c1x c2x c3x
  replace B_x := Lib.hid (Box4.below B_x.out bb B_x.out.lt)
  replace V_x := Lib.hid (Qd.below V_x.out bb)
  replace V_xl := Lib.hid (U32.below V_xl.out bb)
  replace V_xm := Lib.hid (U32.below V_xm.out bb)
  replace HB := Lib.hid (nextw HB.out bb)
  clear bb
  have V_yl := Lib.hid u1
  have V_ym := Lib.hid u2
  clear u1 u2
  have hb0 : Below w3.heap.size w3 (w3.alloc (.cells #[.bool sx, (.slice Ay ky cy), .bool tx, (.slice Cy ly dy)] 26)) := (Below.alloc (Below.refl w3.heap.size w3) (by simp <;> omega) _)
  have B_y : Box4 (w3.alloc (.cells #[.bool sx, (.slice Ay ky cy), .bool tx, (.slice Cy ly dy)] 26)) (w3.heap.size) sx (.slice Ay ky cy) tx (.slice Cy ly dy) := by have h := Box4.new w3 sx (.slice Ay ky cy) tx (.slice Cy ly dy); simpa using h
  replace B_y := Lib.hid B_y
  replace B_x := Lib.hid (Box4.below B_x.out hb0 B_x.out.lt)
  replace V_x := Lib.hid (Qd.below V_x.out hb0)
  replace V_xl := Lib.hid (U32.below V_xl.out hb0)
  replace V_xm := Lib.hid (U32.below V_xm.out hb0)
  replace V_yl := Lib.hid (U32.below V_yl.out hb0)
  replace V_ym := Lib.hid (U32.below V_ym.out hb0)
  replace HB := Lib.hid (nextw HB.out hb0)
  clear hb0
  have c0x := B_x.out.c0
  have c1x := B_x.out.c1
  have c2x := B_x.out.c2
  have c3x := B_x.out.c3
  have c0y := B_y.out.c0
  have c1y := B_y.out.c1
  have c2y := B_y.out.c2
  have c3y := B_y.out.c3
  go_wp2
  clear c0x c1x c2x c3x c0y c1y c2y c3y
  generalize w3.alloc (.cells #[.bool sx, (.slice Ay ky cy), .bool tx, (.slice Cy ly dy)] 26) = W1 at *
  have c0x := B_x.out.c0
  have c1x := B_x.out.c1
  have c2x := B_x.out.c2
  have c3x := B_x.out.c3
  have c0y := B_y.out.c0
  have c1y := B_y.out.c1
  have c2y := B_y.out.c2
  have c3y := B_y.out.c3
  have tk0 : True := trivial
  first | (go_region_held3 (fun w' => w'.cell? ⟨w.heap.size, 0, none⟩ = some (.bool sx) ∧ w'.cell? ⟨w.heap.size, 1, none⟩ = some (.slice Ax kx cx) ∧ w'.cell? ⟨w.heap.size, 2, none⟩ = some (.bool tx) ∧ w'.cell? ⟨w.heap.size, 3, none⟩ = some (.slice Cx lx dx) ∧ w'.cell? ⟨w3.heap.size, 0, none⟩ = some (.bool sx) ∧ w'.cell? ⟨w3.heap.size, 1, none⟩ = some (.slice Ay ky cy) ∧ w'.cell? ⟨w3.heap.size, 2, none⟩ = some (.bool tx) ∧ w'.cell? ⟨w3.heap.size, 3, none⟩ = some (.slice Cy ly dy)) (((try dsimp only); (repeat' apply And.intro) <;> (first | (with_reducible assumption) | ((repeat (first | (with_reducible refine Eq.trans (cell_drew1 _ _) ?_) | (with_reducible refine Eq.trans (cell_set4 (by omega) _ _ _ _) ?_))); with_reducible assumption) | assumption | go_keep)))
    (first
      | (have _t := tk0; clear _t tk0; go_at_call 14; refine (Of_q nn dd HN.out.1.1 HN.out.1.2 HN.out.2.1 HN.out.2.2).mono ?_; rintro e w4 ⟨vo1, rfl, ro1, bb⟩; replace bb := nextw (w0 := W1) (by exact ⟨rfl, rfl, rfl, Nat.le_refl _, fun _ _ => rfl⟩) bb; replace B_x := Lib.hid (Box4.below B_x.out bb B_x.out.lt); replace B_y := Lib.hid (Box4.below B_y.out bb B_y.out.lt); replace V_x := Lib.hid (Qd.below V_x.out bb); replace V_xl := Lib.hid (U32.below V_xl.out bb); replace V_xm := Lib.hid (U32.below V_xm.out bb); replace V_yl := Lib.hid (U32.below V_yl.out bb); replace V_ym := Lib.hid (U32.below V_ym.out bb); replace HB := Lib.hid (nextw HB.out bb); clear bb; replace ro1 := Lib.hid ro1; have V_o1 := ro1; clear ro1; have c0x := B_x.out.c0; have c1x := B_x.out.c1; have c2x := B_x.out.c2; have c3x := B_x.out.c3; have c0y := B_y.out.c0; have c1y := B_y.out.c1; have c2y := B_y.out.c2; have c3y := B_y.out.c3; have tk1 : True := trivial)
      | (have _t := tk1; clear _t tk1; go_at_call 15; refine (ROf_q nn dd HN.out.1.1 HN.out.1.2 HN.out.2.1 HN.out.2.2).mono ?_; rintro e w5 ⟨vo2, rfl, ro2, bb⟩; replace bb := nextw (w0 := w4) (by exact ⟨rfl, rfl, rfl, Nat.le_refl _, fun _ _ => rfl⟩) bb; replace B_x := Lib.hid (Box4.below B_x.out bb B_x.out.lt); replace B_y := Lib.hid (Box4.below B_y.out bb B_y.out.lt); replace V_x := Lib.hid (Qd.below V_x.out bb); replace V_xl := Lib.hid (U32.below V_xl.out bb); replace V_xm := Lib.hid (U32.below V_xm.out bb); replace V_yl := Lib.hid (U32.below V_yl.out bb); replace V_ym := Lib.hid (U32.below V_ym.out bb); replace V_o1 := Lib.hid (Qc.below V_o1.out bb); replace HB := Lib.hid (nextw HB.out bb); clear bb; replace ro2 := Lib.hid ro2; have V_o2 := ro2; clear ro2; have c0x := B_x.out.c0; have c1x := B_x.out.c1; have c2x := B_x.out.c2; have c3x := B_x.out.c3; have c0y := B_y.out.c0; have c1y := B_y.out.c1; have c2y := B_y.out.c2; have c3y := B_y.out.c3; have tk2 : True := trivial)
      | (have _t := tk2; clear _t tk2; go_at_call 13; refine (BRat_q (Qc.below V_o1.out (by exact ⟨rfl, rfl, rfl, Nat.le_refl _, fun _ _ => rfl⟩)) (Qc.below V_o2.out (by exact ⟨rfl, rfl, rfl, Nat.le_refl _, fun _ _ => rfl⟩)) (by omega) (by omega) (rfl)).mono ?_; rintro e w6 ⟨rfl, bb⟩; replace bb := nextw (w0 := w5) (by exact ⟨rfl, rfl, rfl, Nat.le_refl _, fun _ _ => rfl⟩) bb; clear V_o1 V_o2; replace B_x := Lib.hid (Box4.below B_x.out bb B_x.out.lt); replace B_y := Lib.hid (Box4.below B_y.out bb B_y.out.lt); replace V_x := Lib.hid (Qd.below V_x.out bb); replace V_xl := Lib.hid (U32.below V_xl.out bb); replace V_xm := Lib.hid (U32.below V_xm.out bb); replace V_yl := Lib.hid (U32.below V_yl.out bb); replace V_ym := Lib.hid (U32.below V_ym.out bb); replace HB := Lib.hid (nextw HB.out bb); clear bb; have c0x := B_x.out.c0; have c1x := B_x.out.c1; have c2x := B_x.out.c2; have c3x := B_x.out.c3; have c0y := B_y.out.c0; have c1y := B_y.out.c1; have c2y := B_y.out.c2; have c3y := B_y.out.c3; have tk3 : True := trivial)
      | (have _t := tk3; clear _t tk3; go_at_call 16; refine (New_rd (Rd.of_words (U32.below V_yl.out (by exact ⟨rfl, rfl, rfl, Nat.le_refl _, fun _ _ => rfl⟩)) hl) (Rd.of_words (U32.below V_ym.out (by exact ⟨rfl, rfl, rfl, Nat.le_refl _, fun _ _ => rfl⟩)) hm) (by omega)).mono ?_; rintro e w7 ⟨vp1, rfl, rp1, bb⟩; replace bb := nextw (w0 := w6) (by exact ⟨rfl, rfl, rfl, Nat.le_refl _, fun _ _ => rfl⟩) bb; replace B_x := Lib.hid (Box4.below B_x.out bb B_x.out.lt); replace B_y := Lib.hid (Box4.below B_y.out bb B_y.out.lt); replace V_x := Lib.hid (Qd.below V_x.out bb); replace V_xl := Lib.hid (U32.below V_xl.out bb); replace V_xm := Lib.hid (U32.below V_xm.out bb); replace V_yl := Lib.hid (U32.below V_yl.out bb); replace V_ym := Lib.hid (U32.below V_ym.out bb); replace HB := Lib.hid (nextw HB.out bb); clear bb; replace rp1 := Lib.hid rp1; have V_p1 := rp1; clear rp1; have c0x := B_x.out.c0; have c1x := B_x.out.c1; have c2x := B_x.out.c2; have c3x := B_x.out.c3; have c0y := B_y.out.c0; have c1y := B_y.out.c1; have c2y := B_y.out.c2; have c3y := B_y.out.c3; have tk4 : True := trivial)
      | (have _t := tk4; clear _t tk4; go_at_call 17; refine (RNormQ_q (Qd.below V_x.out (by exact ⟨rfl, rfl, rfl, Nat.le_refl _, fun _ _ => rfl⟩)) (by omega)).mono ?_; rintro e w8 ⟨vp2, rfl, rp2, bb⟩; replace bb := nextw (w0 := w7) (by exact ⟨rfl, rfl, rfl, Nat.le_refl _, fun _ _ => rfl⟩) bb; replace B_x := Lib.hid (Box4.below B_x.out bb B_x.out.lt); replace B_y := Lib.hid (Box4.below B_y.out bb B_y.out.lt); replace V_x := Lib.hid (Qd.below V_x.out bb); replace V_xl := Lib.hid (U32.below V_xl.out bb); replace V_xm := Lib.hid (U32.below V_xm.out bb); replace V_yl := Lib.hid (U32.below V_yl.out bb); replace V_ym := Lib.hid (U32.below V_ym.out bb); replace V_p1 := Lib.hid (Qc.below V_p1.out bb); replace HB := Lib.hid (nextw HB.out bb); clear bb; replace rp2 := Lib.hid rp2; have V_p2 := rp2; clear rp2; have c0x := B_x.out.c0; have c1x := B_x.out.c1; have c2x := B_x.out.c2; have c3x := B_x.out.c3; have c0y := B_y.out.c0; have c1y := B_y.out.c1; have c2y := B_y.out.c2; have c3y := B_y.out.c3; have tk5 : True := trivial)
      | (have _t := tk5; clear _t tk5; go_at_call 13; refine (BRat_q (Qc.below V_p1.out (by exact ⟨rfl, rfl, rfl, Nat.le_refl _, fun _ _ => rfl⟩)) (Qc.below V_p2.out (by exact ⟨rfl, rfl, rfl, Nat.le_refl _, fun _ _ => rfl⟩)) (by omega) (by omega) (HRX.out)).mono ?_; rintro e w9 ⟨rfl, bb⟩; replace bb := nextw (w0 := w8) (by exact ⟨rfl, rfl, rfl, Nat.le_refl _, fun _ _ => rfl⟩) bb; clear V_p1 V_p2; replace B_x := Lib.hid (Box4.below B_x.out bb B_x.out.lt); replace B_y := Lib.hid (Box4.below B_y.out bb B_y.out.lt); replace V_x := Lib.hid (Qd.below V_x.out bb); replace V_xl := Lib.hid (U32.below V_xl.out bb); replace V_xm := Lib.hid (U32.below V_xm.out bb); replace V_yl := Lib.hid (U32.below V_yl.out bb); replace V_ym := Lib.hid (U32.below V_ym.out bb); replace HB := Lib.hid (nextw HB.out bb); clear bb; have c0x := B_x.out.c0; have c1x := B_x.out.c1; have c2x := B_x.out.c2; have c3x := B_x.out.c3; have c0y := B_y.out.c0; have c1y := B_y.out.c1; have c2y := B_y.out.c2; have c3y := B_y.out.c3; have tk6 : True := trivial)
      | (have _t := tk6; clear _t tk6; go_at_call 18; refine (Norm_q (Qd.of_words (U32.below V_yl.out (by exact ⟨rfl, rfl, rfl, Nat.le_refl _, fun _ _ => rfl⟩)) hl (U32.below V_ym.out (by exact ⟨rfl, rfl, rfl, Nat.le_refl _, fun _ _ => rfl⟩)) hm HRX.out) (by omega)).mono ?_; rintro e w10 ⟨vs1, rfl, rs1, bb⟩; replace bb := nextw (w0 := w9) (by exact ⟨rfl, rfl, rfl, Nat.le_refl _, fun _ _ => rfl⟩) bb; replace B_x := Lib.hid (Box4.below B_x.out bb B_x.out.lt); replace B_y := Lib.hid (Box4.below B_y.out bb B_y.out.lt); replace V_x := Lib.hid (Qd.below V_x.out bb); replace V_xl := Lib.hid (U32.below V_xl.out bb); replace V_xm := Lib.hid (U32.below V_xm.out bb); replace V_yl := Lib.hid (U32.below V_yl.out bb); replace V_ym := Lib.hid (U32.below V_ym.out bb); replace HB := Lib.hid (nextw HB.out bb); clear bb; replace rs1 := Lib.hid rs1; have V_s1 := rs1; clear rs1; have c0x := B_x.out.c0; have c1x := B_x.out.c1; have c2x := B_x.out.c2; have c3x := B_x.out.c3; have c0y := B_y.out.c0; have c1y := B_y.out.c1; have c2y := B_y.out.c2; have c3y := B_y.out.c3; have tk7 : True := trivial)
      | (have _t := tk7; clear _t tk7; go_at_call 17; refine (RNormQ_q (Qd.below V_x.out (by exact ⟨rfl, rfl, rfl, Nat.le_refl _, fun _ _ => rfl⟩)) (by omega)).mono ?_; rintro e w11 ⟨vs2, rfl, rs2, bb⟩; replace bb := nextw (w0 := w10) (by exact ⟨rfl, rfl, rfl, Nat.le_refl _, fun _ _ => rfl⟩) bb; replace B_x := Lib.hid (Box4.below B_x.out bb B_x.out.lt); replace B_y := Lib.hid (Box4.below B_y.out bb B_y.out.lt); replace V_x := Lib.hid (Qd.below V_x.out bb); replace V_xl := Lib.hid (U32.below V_xl.out bb); replace V_xm := Lib.hid (U32.below V_xm.out bb); replace V_yl := Lib.hid (U32.below V_yl.out bb); replace V_ym := Lib.hid (U32.below V_ym.out bb); replace V_s1 := Lib.hid (Qc.below V_s1.out bb); replace HB := Lib.hid (nextw HB.out bb); clear bb; replace rs2 := Lib.hid rs2; have V_s2 := rs2; clear rs2; have c0x := B_x.out.c0; have c1x := B_x.out.c1; have c2x := B_x.out.c2; have c3x := B_x.out.c3; have c0y := B_y.out.c0; have c1y := B_y.out.c1; have c2y := B_y.out.c2; have c3y := B_y.out.c3; have tk8 : True := trivial)
      | (have _t := tk8; clear _t tk8; go_at_call 13; refine (BRat_q (Qc.below V_s1.out (by exact ⟨rfl, rfl, rfl, Nat.le_refl _, fun _ _ => rfl⟩)) (Qc.below V_s2.out (by exact ⟨rfl, rfl, rfl, Nat.le_refl _, fun _ _ => rfl⟩)) (by omega) (by omega) (rfl)).mono ?_; rintro e w12 ⟨rfl, bb⟩; replace bb := nextw (w0 := w11) (by exact ⟨rfl, rfl, rfl, Nat.le_refl _, fun _ _ => rfl⟩) bb; clear V_s1 V_s2; replace B_x := Lib.hid (Box4.below B_x.out bb B_x.out.lt); replace B_y := Lib.hid (Box4.below B_y.out bb B_y.out.lt); replace V_x := Lib.hid (Qd.below V_x.out bb); replace V_xl := Lib.hid (U32.below V_xl.out bb); replace V_xm := Lib.hid (U32.below V_xm.out bb); replace V_yl := Lib.hid (U32.below V_yl.out bb); replace V_ym := Lib.hid (U32.below V_ym.out bb); replace HB := Lib.hid (nextw HB.out bb); clear bb; have c0x := B_x.out.c0; have c1x := B_x.out.c1; have c2x := B_x.out.c2; have c3x := B_x.out.c3; have c0y := B_y.out.c0; have c1y := B_y.out.c1; have c2y := B_y.out.c2; have c3y := B_y.out.c3; have tk9 : True := trivial)
      | (have _t := tk9; clear _t tk9; go_at_call 19; refine (Sign_q (Qd.of_words (U32.below V_yl.out (by exact ⟨rfl, rfl, rfl, Nat.le_refl _, fun _ _ => rfl⟩)) hl (U32.below V_ym.out (by exact ⟨rfl, rfl, rfl, Nat.le_refl _, fun _ _ => rfl⟩)) hm HRX.out) (by omega)).mono ?_; rintro e w13 ⟨rfl, bb⟩; replace bb := nextw (w0 := w12) (by exact ⟨rfl, rfl, rfl, Nat.le_refl _, fun _ _ => rfl⟩) bb; replace B_x := Lib.hid (Box4.below B_x.out bb B_x.out.lt); replace B_y := Lib.hid (Box4.below B_y.out bb B_y.out.lt); replace V_x := Lib.hid (Qd.below V_x.out bb); replace V_xl := Lib.hid (U32.below V_xl.out bb); replace V_xm := Lib.hid (U32.below V_xm.out bb); replace V_yl := Lib.hid (U32.below V_yl.out bb); replace V_ym := Lib.hid (U32.below V_ym.out bb); replace HB := Lib.hid (nextw HB.out bb); clear bb; have c0x := B_x.out.c0; have c1x := B_x.out.c1; have c2x := B_x.out.c2; have c3x := B_x.out.c3; have c0y := B_y.out.c0; have c1y := B_y.out.c1; have c2y := B_y.out.c2; have c3y := B_y.out.c3; have tk10 : True := trivial)
      | (have _t := tk10; clear _t tk10; go_at_call 20; refine (RSignQ_q (Qd.below V_x.out (by exact ⟨rfl, rfl, rfl, Nat.le_refl _, fun _ _ => rfl⟩)) (by omega)).mono ?_; rintro e w14 ⟨rfl, bb⟩; replace bb := nextw (w0 := w13) (by exact ⟨rfl, rfl, rfl, Nat.le_refl _, fun _ _ => rfl⟩) bb; replace B_x := Lib.hid (Box4.below B_x.out bb B_x.out.lt); replace B_y := Lib.hid (Box4.below B_y.out bb B_y.out.lt); replace V_x := Lib.hid (Qd.below V_x.out bb); replace V_xl := Lib.hid (U32.below V_xl.out bb); replace V_xm := Lib.hid (U32.below V_xm.out bb); replace V_yl := Lib.hid (U32.below V_yl.out bb); replace V_ym := Lib.hid (U32.below V_ym.out bb); replace HB := Lib.hid (nextw HB.out bb); clear bb; have c0x := B_x.out.c0; have c1x := B_x.out.c1; have c2x := B_x.out.c2; have c3x := B_x.out.c3; have c0y := B_y.out.c0; have c1y := B_y.out.c1; have c2y := B_y.out.c2; have c3y := B_y.out.c3; have tk11 : True := trivial)
      | (have _t := tk11; clear _t tk11; go_at_call 13; refine (BRat_u (U32.below V_xl.out (by exact ⟨rfl, rfl, rfl, Nat.le_refl _, fun _ _ => rfl⟩)) (U32.below V_xm.out (by exact ⟨rfl, rfl, rfl, Nat.le_refl _, fun _ _ => rfl⟩)) (U32.below V_yl.out (by exact ⟨rfl, rfl, rfl, Nat.le_refl _, fun _ _ => rfl⟩)) (U32.below V_ym.out (by exact ⟨rfl, rfl, rfl, Nat.le_refl _, fun _ _ => rfl⟩)) (by omega) (by omega)).mono ?_; rintro e w15 ⟨rfl, bb⟩; replace bb := nextw (w0 := w14) (by exact ⟨rfl, rfl, rfl, Nat.le_refl _, fun _ _ => rfl⟩) bb; replace B_x := Lib.hid (Box4.below B_x.out bb B_x.out.lt); replace B_y := Lib.hid (Box4.below B_y.out bb B_y.out.lt); replace V_x := Lib.hid (Qd.below V_x.out bb); replace V_xl := Lib.hid (U32.below V_xl.out bb); replace V_xm := Lib.hid (U32.below V_xm.out bb); replace V_yl := Lib.hid (U32.below V_yl.out bb); replace V_ym := Lib.hid (U32.below V_ym.out bb); replace HB := Lib.hid (nextw HB.out bb); clear bb; have c0x := B_x.out.c0; have c1x := B_x.out.c1; have c2x := B_x.out.c2; have c3x := B_x.out.c3; have c0y := B_y.out.c0; have c1y := B_y.out.c1; have c2y := B_y.out.c2; have c3y := B_y.out.c3; have tk12 : True := trivial))) | fail
  have HBo := HB.out
  go_wp2
  go_ret
  exact ⟨rfl, nextw HBo (by exact ⟨rfl, rfl, rfl, Nat.le_refl _, fun _ _ => rfl⟩)⟩

theorem Norms_any {sx : Bool} {Ax : Option Addr} {kx cx : Nat} {tx : Bool} {Cx : Option Addr} {lx dx : Nat} {rx : Rat} {qx : Nat} {nn dd : Int} {w : World} (hx : Qd w (.agg #[.bool sx, .slice Ax kx cx, .bool tx, .slice Cx lx dx]) rx qx) (htab : Tab10 w) (n1 : -9223372036854775808 ≤ nn) (n2 : nn ≤ 9223372036854775807) (d1 : -9223372036854775808 ≤ dd) (d2 : dd ≤ 9223372036854775807) (hqx : qx = max kx lx)
    (hm : ∀ p ∈ [(kx, lx)], p.1 ≤ 9223372036854775807 ∧ p.2 ≤ 9223372036854775807) :
    Calls Tryz.prog 3 #[.agg #[.bool sx, .slice Ax kx cx, .bool tx, .slice Cx lx dx], .int .i64 nn, .int .i64 dd] w fun e w' => e = .returned (.bool true) ∧ Below w.heap.size w w' := by
  by_cases hf : fewSum [(kx, lx)] ≤ 60
  · have s0 := fewSum_small hf (kx, lx) (by simp)
    simp only at s0
    exact Norms_main hx htab n1 n2 d1 d2 (by omega) hf
  · exact Norms_long hx htab hm hf
end Go.Proofs.YtldfamjlnphokaaGreatDoor
