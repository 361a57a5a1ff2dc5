/- Package rational: Text; the laws' awake. -/
import Derived.Test.YtccndofafljaaaaGreatDoorQ3
import Derived.Test.YtccndofafljaaaaGreatDoorTxt3

set_option linter.unusedVariables false
set_option linter.unusedSimpArgs false

namespace Go.Proofs.YtccndofafljaaaaGreatDoor
open Go Go.RowKit Num

/-- The text of a number. -/
def qText (r : Rat) : List UInt8 := if (r.den : Int) = 1 then zText r.num else zText r.num ++ (47 :: zText r.den)
theorem text_room {z : Int} {n : Nat} (h : z.natAbs < 4294967296 ^ n) (hn : n ≤ 50000) : (zText z).length ≤ 3200002 := by
  unfold zText
  rw [List.length_append]
  have h1 := signText_len (decide (z < 0))
  have h2 := digits_room (n := z.natAbs) (Nat.le_trans (digs_length_le h) (by omega)) z.natAbs (Nat.le_refl _)
  omega
theorem join3 (L1 L2 : List UInt8) : (⟨L1.toArray⟩ ++ ⟨#[47]⟩ ++ ⟨L2.toArray⟩ : ByteArray) = ⟨(L1 ++ 47 :: L2).toArray⟩ := by
  apply ByteArray.ext
  rw [ByteArray.data_append, ByteArray.data_append]
  simp
theorem Cmp_rd_ne {v1 v2 : Value} {z1 z2 : Int} {n1 n2 : Nat} {w : World} (h1 : Rd w v1 z1 n1) (h2 : Rd w v2 z2 n2) (f1 : n1 ≤ 50000) (f2 : n2 ≤ 50000) (h : z1 ≠ z2) :
    Calls Tryz.prog 45 #[v1, v2] w fun e w' => ∃ c : Int, (c == 0) = false ∧ e = .returned (.int .i64 c) ∧ Below w.heap.size w w' :=
  (Cmp_rd h1 h2 f1 f2).mono fun e w' ⟨he, hb⟩ => ⟨_, by rw [beq_eq_false_iff_ne]; unfold cmpI; repeat' split <;> omega, he, hb⟩

set_option maxRecDepth 100000 in
set_option maxHeartbeats 4000000 in
theorem isOne_yes {v1 : Value} {z1 : Int} {n1 : Nat} {w : World} (h1 : Rd w v1 z1 n1) (f1 : n1 ≤ 50000) (h0 : z1 = 1) :
    Calls Tryz.prog 58 #[v1] w fun e w' => e = .returned (.bool true) ∧ Below w.heap.size w w' := by
  have H0 := Lib.hid h0
  clear h0
  obtain ⟨sx, Ax, kx, cx, rfl, -⟩ := h1.shape
  have V_x := Lib.hid h1
  clear h1
  have hb0 : Below w.heap.size w (w.alloc (.cells #[.bool sx, (.slice Ax kx cx)] 24)) := (Below.alloc (Below.refl w.heap.size w) (by simp <;> omega) _)
  have B_x : Box (w.alloc (.cells #[.bool sx, (.slice Ax kx cx)] 24)) (w.heap.size) sx (.slice Ax kx cx) := by have h := Box.new w sx (.slice Ax kx cx); simpa using h
  replace B_x := Lib.hid B_x
  replace V_x := Lib.hid (Rd.below V_x.out hb0)
  have HB := Lib.hid hb0
  clear hb0
  have c0x := B_x.out.c0
  have c1x := B_x.out.c1
  go_enter Tryz.func58, Tryz.ntmps58
  go_wp2
  clear c0x c1x
  generalize w.alloc (.cells #[.bool sx, (.slice Ax kx cx)] 24) = W0 at *
  have c0x := B_x.out.c0
  have c1x := B_x.out.c1
  have tk0 : True := trivial
  first | (go_region_held3 (fun w' => w'.cell? ⟨w.heap.size, 0, none⟩ = some (.bool sx) ∧ w'.cell? ⟨w.heap.size, 1, none⟩ = some (.slice Ax kx cx)) (((try dsimp only); (repeat' apply And.intro) <;> (first | (with_reducible assumption) | ((repeat (first | (with_reducible refine Eq.trans (cell_drew1 _ _) ?_) | (with_reducible refine Eq.trans (cell_set4 (by omega) _ _ _ _) ?_))); with_reducible assumption) | assumption | go_keep)))
    (first
      | (have _t := tk0; clear _t tk0; go_at_call 41; refine (Of_rc 1 (by omega) (by omega)).mono ?_; rintro e w1 ⟨vo, rfl, ro, bb⟩; replace bb := nextw (w0 := W0) (by exact ⟨rfl, rfl, rfl, Nat.le_refl _, fun _ _ => rfl⟩) bb; replace B_x := Lib.hid (Box.below B_x.out bb B_x.out.lt); replace V_x := Lib.hid (Rd.below V_x.out bb); replace HB := Lib.hid (nextw HB.out bb); clear bb; replace ro := Lib.hid ro; have V_o := ro; clear ro; have c0x := B_x.out.c0; have c1x := B_x.out.c1; have tk1 : True := trivial)
      | (have _t := tk1; clear _t tk1; go_at_call 45; refine (Cmp_rd_eq (Rd.below V_x.out (by exact ⟨rfl, rfl, rfl, Nat.le_refl _, fun _ _ => rfl⟩)) (Rc.rd (Rc.below V_o.out (by exact ⟨rfl, rfl, rfl, Nat.le_refl _, fun _ _ => rfl⟩))) (by omega) (by omega) H0.out).mono ?_; rintro e w2 ⟨rfl, bb⟩; replace bb := nextw (w0 := w1) (by exact ⟨rfl, rfl, rfl, Nat.le_refl _, fun _ _ => rfl⟩) bb; replace B_x := Lib.hid (Box.below B_x.out bb B_x.out.lt); replace V_x := Lib.hid (Rd.below V_x.out bb); replace V_o := Lib.hid (Rc.below V_o.out bb); replace HB := Lib.hid (nextw HB.out bb); clear bb; have c0x := B_x.out.c0; have c1x := B_x.out.c1; have tk2 : True := trivial))) | fail
  have HBo := HB.out
  go_wp2
  go_ret
  exact ⟨rfl, nextw HBo (by exact ⟨rfl, rfl, rfl, Nat.le_refl _, fun _ _ => rfl⟩)⟩

set_option maxRecDepth 100000 in
set_option maxHeartbeats 4000000 in
theorem isOne_no {v1 : Value} {z1 : Int} {n1 : Nat} {w : World} (h1 : Rd w v1 z1 n1) (f1 : n1 ≤ 50000) (h0 : z1 ≠ 1) :
    Calls Tryz.prog 58 #[v1] w fun e w' => e = .returned (.bool false) ∧ Below w.heap.size w w' := by
  have H0 := Lib.hid h0
  clear h0
  obtain ⟨sx, Ax, kx, cx, rfl, -⟩ := h1.shape
  have V_x := Lib.hid h1
  clear h1
  have hb0 : Below w.heap.size w (w.alloc (.cells #[.bool sx, (.slice Ax kx cx)] 24)) := (Below.alloc (Below.refl w.heap.size w) (by simp <;> omega) _)
  have B_x : Box (w.alloc (.cells #[.bool sx, (.slice Ax kx cx)] 24)) (w.heap.size) sx (.slice Ax kx cx) := by have h := Box.new w sx (.slice Ax kx cx); simpa using h
  replace B_x := Lib.hid B_x
  replace V_x := Lib.hid (Rd.below V_x.out hb0)
  have HB := Lib.hid hb0
  clear hb0
  have c0x := B_x.out.c0
  have c1x := B_x.out.c1
  go_enter Tryz.func58, Tryz.ntmps58
  go_wp2
  clear c0x c1x
  generalize w.alloc (.cells #[.bool sx, (.slice Ax kx cx)] 24) = W0 at *
  have c0x := B_x.out.c0
  have c1x := B_x.out.c1
  have tk0 : True := trivial
  first | (go_region_held3 (fun w' => w'.cell? ⟨w.heap.size, 0, none⟩ = some (.bool sx) ∧ w'.cell? ⟨w.heap.size, 1, none⟩ = some (.slice Ax kx cx)) (((try dsimp only); (repeat' apply And.intro) <;> (first | (with_reducible assumption) | ((repeat (first | (with_reducible refine Eq.trans (cell_drew1 _ _) ?_) | (with_reducible refine Eq.trans (cell_set4 (by omega) _ _ _ _) ?_))); with_reducible assumption) | assumption | go_keep)))
    (first
      | (have _t := tk0; clear _t tk0; go_at_call 41; refine (Of_rc 1 (by omega) (by omega)).mono ?_; rintro e w1 ⟨vo, rfl, ro, bb⟩; replace bb := nextw (w0 := W0) (by exact ⟨rfl, rfl, rfl, Nat.le_refl _, fun _ _ => rfl⟩) bb; replace B_x := Lib.hid (Box.below B_x.out bb B_x.out.lt); replace V_x := Lib.hid (Rd.below V_x.out bb); replace HB := Lib.hid (nextw HB.out bb); clear bb; replace ro := Lib.hid ro; have V_o := ro; clear ro; have c0x := B_x.out.c0; have c1x := B_x.out.c1; have tk1 : True := trivial)
      | (have _t := tk1; clear _t tk1; go_at_call 45; refine (Cmp_rd_ne (Rd.below V_x.out (by exact ⟨rfl, rfl, rfl, Nat.le_refl _, fun _ _ => rfl⟩)) (Rc.rd (Rc.below V_o.out (by exact ⟨rfl, rfl, rfl, Nat.le_refl _, fun _ _ => rfl⟩))) (by omega) (by omega) H0.out).mono ?_; rintro e w2 ⟨cc, hcc, rfl, bb⟩; replace bb := nextw (w0 := w1) (by exact ⟨rfl, rfl, rfl, Nat.le_refl _, fun _ _ => rfl⟩) bb; replace B_x := Lib.hid (Box.below B_x.out bb B_x.out.lt); replace V_x := Lib.hid (Rd.below V_x.out bb); replace V_o := Lib.hid (Rc.below V_o.out bb); replace HB := Lib.hid (nextw HB.out bb); clear bb; have c0x := B_x.out.c0; have c1x := B_x.out.c1; have tk2 : True := trivial))) | fail
  have HBo := HB.out
  go_wp2
  go_ret
  exact ⟨rfl, nextw HBo (by exact ⟨rfl, rfl, rfl, Nat.le_refl _, fun _ _ => rfl⟩)⟩

set_option maxRecDepth 100000 in
set_option maxHeartbeats 4000000 in
theorem Text_whole {v : Value} {r : Rat} {k : Nat} {w : World} (h : Qd w v r k) (f : k ≤ 10000) (htab : Tab10 w) (h0 : (r.den : Int) = 1) :
    Calls Tryz.prog 38 #[v] w fun e w' => e = .returned (.string ⟨(qText r).toArray⟩) ∧ Below w.heap.size w w' := by
  have H0 := Lib.hid h0
  clear h0
  obtain ⟨a, b, h, rfl⟩ := h
  generalize hr : Rat.divInt a b = r at *
  have HR := Lib.hid hr
  clear hr
  obtain ⟨sx, Ax, kx, cx, tx, Cx, lx, dx, rfl, hnx, hdx⟩ := h.shape
  have V_xn := Lib.hid hnx
  have V_xd := Lib.hid hdx
  clear h hnx hdx
  have V_tab := Lib.hid htab
  clear htab
  have hb0 : Below w.heap.size w (w.alloc (.cells #[.bool sx, (.slice Ax kx cx), .bool tx, (.slice Cx lx dx)] 35)) := (Below.alloc (Below.refl w.heap.size w) (by simp <;> omega) _)
  have B_x : Box4 (w.alloc (.cells #[.bool sx, (.slice Ax kx cx), .bool tx, (.slice Cx lx dx)] 35)) (w.heap.size) sx (.slice Ax kx cx) tx (.slice Cx lx dx) := by have h := Box4.new w sx (.slice Ax kx cx) tx (.slice Cx lx dx); simpa using h
  replace B_x := Lib.hid B_x
  replace V_xn := Lib.hid (Rd.below V_xn.out hb0)
  replace V_xd := Lib.hid (Rd.below V_xd.out hb0)
  replace V_tab := Lib.hid (tab_below V_tab.out hb0)
  have HB := Lib.hid hb0
  clear hb0
  have c0x := B_x.out.c0
  have c1x := B_x.out.c1
  have c2x := B_x.out.c2
  have c3x := B_x.out.c3
  go_enter Tryz.func38, Tryz.ntmps38
  go_wp2_with fail
  clear c0x c1x c2x c3x
  generalize w.alloc (.cells #[.bool sx, (.slice Ax kx cx), .bool tx, (.slice Cx lx dx)] 35) = W0 at *
  refine (Norm_q (Fd.qd (Fd.mk (Rd.below V_xn.out (by exact ⟨rfl, rfl, rfl, Nat.le_refl _, fun _ _ => rfl⟩)) (Rd.below V_xd.out (by exact ⟨rfl, rfl, rfl, Nat.le_refl _, fun _ _ => rfl⟩)))) (by omega)).mono ?_
  rintro e w1 ⟨vc, rfl, rc, bb⟩
  replace bb := nextw (w0 := W0) (by exact ⟨rfl, rfl, rfl, Nat.le_refl _, fun _ _ => rfl⟩) bb
  replace B_x := Lib.hid (Box4.below B_x.out bb B_x.out.lt)
  replace V_xn := Lib.hid (Rd.below V_xn.out bb)
  replace V_xd := Lib.hid (Rd.below V_xd.out bb)
  replace V_tab := Lib.hid (tab_below V_tab.out bb)
  replace HB := Lib.hid (nextw HB.out bb)
  clear bb
  rw [HR.out] at rc
  obtain ⟨s_c, m_c, t_c, n_c, rfl, hcn, hcd⟩ := rc
  obtain ⟨sc, Ac, kc, cc, ec⟩ := hcn.shape
  obtain ⟨tc, Cc, lc, dc, ed⟩ := hcd.shape
  simp only [Value.agg.injEq, Array.mk.injEq, List.cons.injEq, and_true, Value.bool.injEq] at ec ed
  obtain ⟨rfl, rfl⟩ := ec
  obtain ⟨rfl, rfl⟩ := ed
  clear V_xn V_xd
  have V_cn := Lib.hid hcn
  have V_cd := Lib.hid hcd
  clear hcn hcd
  have Z1x := Lib.hid B_x.out.lt
  have hb0 : Below w1.heap.size w1 (w1.alloc (.cells #[.bool s_c, (.slice Ac kc cc), .bool t_c, (.slice Cc lc dc)] 35)) := (Below.alloc (Below.refl w1.heap.size w1) (by simp <;> omega) _)
  have B_c : Box4 (w1.alloc (.cells #[.bool s_c, (.slice Ac kc cc), .bool t_c, (.slice Cc lc dc)] 35)) (w1.heap.size) s_c (.slice Ac kc cc) t_c (.slice Cc lc dc) := by have h := Box4.new w1 s_c (.slice Ac kc cc) t_c (.slice Cc lc dc); simpa using h
  replace B_c := Lib.hid B_c
  replace B_x := Lib.hid (Box4.below B_x.out hb0 B_x.out.lt)
  replace V_tab := Lib.hid (tab_below V_tab.out hb0)
  replace V_cn := Lib.hid (Rc.below V_cn.out hb0)
  replace V_cd := Lib.hid (Rc.below V_cd.out hb0)
  replace HB := Lib.hid (nextw HB.out hb0)
  clear hb0
  have c0x := B_x.out.c0
  have c1x := B_x.out.c1
  have c2x := B_x.out.c2
  have c3x := B_x.out.c3
  have c0c := B_c.out.c0
  have c1c := B_c.out.c1
  have c2c := B_c.out.c2
  have c3c := B_c.out.c3
  go_wp2_with fail
  clear c0x c1x c2x c3x c0c c1c c2c c3c
  generalize w1.alloc (.cells #[.bool s_c, (.slice Ac kc cc), .bool t_c, (.slice Cc lc dc)] 35) = W1 at *
  refine (isOne_yes (Rc.rd (Rc.below V_cd.out (by exact ⟨rfl, rfl, rfl, Nat.le_refl _, fun _ _ => rfl⟩))) (by omega) H0.out).mono ?_
  rintro e w2 ⟨rfl, bb⟩
  replace bb := nextw (w0 := W1) (by exact ⟨rfl, rfl, rfl, Nat.le_refl _, fun _ _ => rfl⟩) bb
  replace B_x := Lib.hid (Box4.below B_x.out bb B_x.out.lt)
  replace B_c := Lib.hid (Box4.below B_c.out bb B_c.out.lt)
  replace V_tab := Lib.hid (tab_below V_tab.out bb)
  replace V_cn := Lib.hid (Rc.below V_cn.out bb)
  replace V_cd := Lib.hid (Rc.below V_cd.out bb)
  replace HB := Lib.hid (nextw HB.out bb)
  clear bb
  have c0c := B_c.out.c0
  have c1c := B_c.out.c1
  have c2c := B_c.out.c2
  have c3c := B_c.out.c3
  go_wp2_with fail
  obtain ⟨ts, hs⟩ : ∃ ts : ByteArray, ts = ⟨(zText r.num).toArray⟩ := ⟨_, rfl⟩
  refine (Text_text (Rc.rd (Rc.below V_cn.out (by exact ⟨rfl, rfl, rfl, Nat.le_refl _, fun _ _ => rfl⟩))) (by omega) (tab_below V_tab.out (by exact ⟨rfl, rfl, rfl, Nat.le_refl _, fun _ _ => rfl⟩)) hs).mono ?_
  rintro e w3 ⟨rfl, bb⟩
  replace bb := nextw (w0 := w2) (by exact ⟨rfl, rfl, rfl, Nat.le_refl _, fun _ _ => rfl⟩) bb
  clear c0c c1c c2c c3c
  replace B_x := Lib.hid (Box4.below B_x.out bb B_x.out.lt)
  replace B_c := Lib.hid (Box4.below B_c.out bb B_c.out.lt)
  replace V_tab := Lib.hid (tab_below V_tab.out bb)
  replace V_cn := Lib.hid (Rc.below V_cn.out bb)
  replace V_cd := Lib.hid (Rc.below V_cd.out bb)
  replace HB := Lib.hid (nextw HB.out bb)
  clear bb
  have HS := Lib.hid hs
  clear hs
  have HBo := HB.out
  go_wp2
  go_ret
  exact ⟨ret_str (by rw [HS.out]; unfold qText; rw [if_pos H0.out]), nextw HBo (by exact ⟨rfl, rfl, rfl, Nat.le_refl _, fun _ _ => rfl⟩)⟩

set_option maxRecDepth 100000 in
set_option maxHeartbeats 4000000 in
theorem Text_fr {v : Value} {r : Rat} {k : Nat} {w : World} (h : Qd w v r k) (f : k ≤ 10000) (htab : Tab10 w) (h0 : (r.den : Int) ≠ 1) :
    Calls Tryz.prog 38 #[v] w fun e w' => e = .returned (.string ⟨(qText r).toArray⟩) ∧ Below w.heap.size w w' := by
  have H0 := Lib.hid h0
  clear h0
  obtain ⟨a, b, h, rfl⟩ := h
  generalize hr : Rat.divInt a b = r at *
  have HR := Lib.hid hr
  clear hr
  obtain ⟨sx, Ax, kx, cx, tx, Cx, lx, dx, rfl, hnx, hdx⟩ := h.shape
  have V_xn := Lib.hid hnx
  have V_xd := Lib.hid hdx
  clear h hnx hdx
  have V_tab := Lib.hid htab
  clear htab
  have hb0 : Below w.heap.size w (w.alloc (.cells #[.bool sx, (.slice Ax kx cx), .bool tx, (.slice Cx lx dx)] 35)) := (Below.alloc (Below.refl w.heap.size w) (by simp <;> omega) _)
  have B_x : Box4 (w.alloc (.cells #[.bool sx, (.slice Ax kx cx), .bool tx, (.slice Cx lx dx)] 35)) (w.heap.size) sx (.slice Ax kx cx) tx (.slice Cx lx dx) := by have h := Box4.new w sx (.slice Ax kx cx) tx (.slice Cx lx dx); simpa using h
  replace B_x := Lib.hid B_x
  replace V_xn := Lib.hid (Rd.below V_xn.out hb0)
  replace V_xd := Lib.hid (Rd.below V_xd.out hb0)
  replace V_tab := Lib.hid (tab_below V_tab.out hb0)
  have HB := Lib.hid hb0
  clear hb0
  have c0x := B_x.out.c0
  have c1x := B_x.out.c1
  have c2x := B_x.out.c2
  have c3x := B_x.out.c3
  go_enter Tryz.func38, Tryz.ntmps38
  go_wp2_with fail
  clear c0x c1x c2x c3x
  generalize w.alloc (.cells #[.bool sx, (.slice Ax kx cx), .bool tx, (.slice Cx lx dx)] 35) = W0 at *
  refine (Norm_q (Fd.qd (Fd.mk (Rd.below V_xn.out (by exact ⟨rfl, rfl, rfl, Nat.le_refl _, fun _ _ => rfl⟩)) (Rd.below V_xd.out (by exact ⟨rfl, rfl, rfl, Nat.le_refl _, fun _ _ => rfl⟩)))) (by omega)).mono ?_
  rintro e w1 ⟨vc, rfl, rc, bb⟩
  replace bb := nextw (w0 := W0) (by exact ⟨rfl, rfl, rfl, Nat.le_refl _, fun _ _ => rfl⟩) bb
  replace B_x := Lib.hid (Box4.below B_x.out bb B_x.out.lt)
  replace V_xn := Lib.hid (Rd.below V_xn.out bb)
  replace V_xd := Lib.hid (Rd.below V_xd.out bb)
  replace V_tab := Lib.hid (tab_below V_tab.out bb)
  replace HB := Lib.hid (nextw HB.out bb)
  clear bb
  rw [HR.out] at rc
  obtain ⟨s_c, m_c, t_c, n_c, rfl, hcn, hcd⟩ := rc
  obtain ⟨sc, Ac, kc, cc, ec⟩ := hcn.shape
  obtain ⟨tc, Cc, lc, dc, ed⟩ := hcd.shape
  simp only [Value.agg.injEq, Array.mk.injEq, List.cons.injEq, and_true, Value.bool.injEq] at ec ed
  obtain ⟨rfl, rfl⟩ := ec
  obtain ⟨rfl, rfl⟩ := ed
  clear V_xn V_xd
  have V_cn := Lib.hid hcn
  have V_cd := Lib.hid hcd
  clear hcn hcd
  have Z1x := Lib.hid B_x.out.lt
  have hb0 : Below w1.heap.size w1 (w1.alloc (.cells #[.bool s_c, (.slice Ac kc cc), .bool t_c, (.slice Cc lc dc)] 35)) := (Below.alloc (Below.refl w1.heap.size w1) (by simp <;> omega) _)
  have B_c : Box4 (w1.alloc (.cells #[.bool s_c, (.slice Ac kc cc), .bool t_c, (.slice Cc lc dc)] 35)) (w1.heap.size) s_c (.slice Ac kc cc) t_c (.slice Cc lc dc) := by have h := Box4.new w1 s_c (.slice Ac kc cc) t_c (.slice Cc lc dc); simpa using h
  replace B_c := Lib.hid B_c
  replace B_x := Lib.hid (Box4.below B_x.out hb0 B_x.out.lt)
  replace V_tab := Lib.hid (tab_below V_tab.out hb0)
  replace V_cn := Lib.hid (Rc.below V_cn.out hb0)
  replace V_cd := Lib.hid (Rc.below V_cd.out hb0)
  replace HB := Lib.hid (nextw HB.out hb0)
  clear hb0
  have c0x := B_x.out.c0
  have c1x := B_x.out.c1
  have c2x := B_x.out.c2
  have c3x := B_x.out.c3
  have c0c := B_c.out.c0
  have c1c := B_c.out.c1
  have c2c := B_c.out.c2
  have c3c := B_c.out.c3
  go_wp2_with fail
  clear c0x c1x c2x c3x c0c c1c c2c c3c
  generalize w1.alloc (.cells #[.bool s_c, (.slice Ac kc cc), .bool t_c, (.slice Cc lc dc)] 35) = W1 at *
  refine (isOne_no (Rc.rd (Rc.below V_cd.out (by exact ⟨rfl, rfl, rfl, Nat.le_refl _, fun _ _ => rfl⟩))) (by omega) H0.out).mono ?_
  rintro e w2 ⟨rfl, bb⟩
  replace bb := nextw (w0 := W1) (by exact ⟨rfl, rfl, rfl, Nat.le_refl _, fun _ _ => rfl⟩) bb
  replace B_x := Lib.hid (Box4.below B_x.out bb B_x.out.lt)
  replace B_c := Lib.hid (Box4.below B_c.out bb B_c.out.lt)
  replace V_tab := Lib.hid (tab_below V_tab.out bb)
  replace V_cn := Lib.hid (Rc.below V_cn.out bb)
  replace V_cd := Lib.hid (Rc.below V_cd.out bb)
  replace HB := Lib.hid (nextw HB.out bb)
  clear bb
  have hl1 := text_room V_cn.out.2 (by omega)
  have hl2 := text_room V_cd.out.2 (by omega)
  obtain ⟨L1, hs1⟩ : ∃ L : List UInt8, zText r.num = L := ⟨_, rfl⟩
  obtain ⟨L2, hs2⟩ : ∃ L : List UInt8, zText (r.den : Int) = L := ⟨_, rfl⟩
  rw [hs1] at hl1
  rw [hs2] at hl2
  have HT1 : Hid ((⟨L1.toArray⟩ : ByteArray) = ⟨(zText r.num).toArray⟩) := by unfold Hid; rw [hs1]
  have HT2 : Hid ((⟨L2.toArray⟩ : ByteArray) = ⟨(zText (r.den : Int)).toArray⟩) := by unfold Hid; rw [hs2]
  have HQ : Hid (qText r = L1 ++ (47 :: L2)) := by unfold Hid qText; rw [if_neg H0.out, hs1, hs2]
  clear hs1 hs2
  have c0c := B_c.out.c0
  have c1c := B_c.out.c1
  have c2c := B_c.out.c2
  have c3c := B_c.out.c3
  go_wp2
  have c0c := B_c.out.c0
  have c1c := B_c.out.c1
  have c2c := B_c.out.c2
  have c3c := B_c.out.c3
  have z1x := Z1x.out
  have tk0 : True := trivial
  first | (go_region_with (first
      | (have _t := tk0; clear _t tk0; go_at_call 59; refine (Text_text (Rc.rd (Rc.below V_cn.out (by exact ⟨rfl, rfl, rfl, Nat.le_refl _, fun _ _ => rfl⟩))) (by omega) (tab_below V_tab.out (by exact ⟨rfl, rfl, rfl, Nat.le_refl _, fun _ _ => rfl⟩)) HT1.out).mono ?_; rintro e w3 ⟨rfl, bb⟩; replace bb := nextw (w0 := w2) (by exact ⟨rfl, rfl, rfl, Nat.le_refl _, fun _ _ => rfl⟩) bb; replace B_x := Lib.hid (Box4.below B_x.out bb B_x.out.lt); replace B_c := Lib.hid (Box4.below B_c.out bb B_c.out.lt); replace V_tab := Lib.hid (tab_below V_tab.out bb); replace V_cn := Lib.hid (Rc.below V_cn.out bb); replace V_cd := Lib.hid (Rc.below V_cd.out bb); replace HB := Lib.hid (nextw HB.out bb); clear bb; have c0c := B_c.out.c0; have c1c := B_c.out.c1; have c2c := B_c.out.c2; have c3c := B_c.out.c3; have tk1 : True := trivial)
      | (have _t := tk1; clear _t tk1; go_at_call 59; refine (Text_text (Rc.rd (Rc.below V_cd.out (by exact ⟨rfl, rfl, rfl, Nat.le_refl _, fun _ _ => rfl⟩))) (by omega) (tab_below V_tab.out (by exact ⟨rfl, rfl, rfl, Nat.le_refl _, fun _ _ => rfl⟩)) HT2.out).mono ?_; rintro e w4 ⟨rfl, bb⟩; replace bb := nextw (w0 := w3) (by exact ⟨rfl, rfl, rfl, Nat.le_refl _, fun _ _ => rfl⟩) bb; replace B_x := Lib.hid (Box4.below B_x.out bb B_x.out.lt); replace B_c := Lib.hid (Box4.below B_c.out bb B_c.out.lt); replace V_tab := Lib.hid (tab_below V_tab.out bb); replace V_cn := Lib.hid (Rc.below V_cn.out bb); replace V_cd := Lib.hid (Rc.below V_cd.out bb); replace HB := Lib.hid (nextw HB.out bb); clear bb; have c0c := B_c.out.c0; have c1c := B_c.out.c1; have c2c := B_c.out.c2; have c3c := B_c.out.c3; have tk2 : True := trivial))) | fail
  all_goals (clear z1x)
  all_goals
    have HBo := HB.out
    go_wp2
    go_ret
    exact ⟨ret_str (by rw [HQ.out]; exact join3 L1 L2), nextw HBo (by exact ⟨rfl, rfl, rfl, Nat.le_refl _, fun _ _ => rfl⟩)⟩

theorem Text_q {v : Value} {r : Rat} {k : Nat} {w : World} (h : Qd w v r k) (f : k ≤ 10000) (htab : Tab10 w) {s : ByteArray} (hs : s = ⟨(qText r).toArray⟩) :
    Calls Tryz.prog 38 #[v] w fun e w' => e = .returned (.string s) ∧ Below w.heap.size w w' := by
  subst hs
  by_cases h0 : (r.den : Int) = 1
  · exact Text_whole h f htab h0
  · exact Text_fr h f htab h0
theorem zText_neg3 : zText (-3) = [45, 51] := by
  unfold zText
  rw [show (-3 : Int).natAbs = 3 from rfl, Lib.decDigits]; rfl
theorem zText_dig (n : Nat) (h : n < 10) : zText (n : Int) = [UInt8.ofNat (48 + n)] := by
  unfold zText
  rw [Int.natAbs_natCast, Lib.decDigits, dif_pos h, decide_eq_false (by omega)]; rfl
theorem text_a : (⟨#[45, 51, 47, 50]⟩ : ByteArray) = ⟨(qText (Rat.divInt 6 (-4))).toArray⟩ := by
  have h1 : (Rat.divInt 6 (-4)).num = -3 := by decide +kernel
  have h2 : (Rat.divInt 6 (-4)).den = 2 := by decide +kernel
  unfold qText
  rw [h1, h2, if_neg (by decide), zText_neg3, zText_dig 2 (by omega)]; rfl
theorem text_b : (⟨#[53, 47, 54]⟩ : ByteArray) = ⟨(qText (Rat.divInt 1 2 + Rat.divInt 1 3)).toArray⟩ := by
  have h1 : (Rat.divInt 1 2 + Rat.divInt 1 3).num = ((5 : Nat) : Int) := by decide +kernel
  have h2 : (Rat.divInt 1 2 + Rat.divInt 1 3).den = 6 := by decide +kernel
  unfold qText
  rw [h1, h2, if_neg (by decide), zText_dig 5 (by omega), zText_dig 6 (by omega)]; rfl

end Go.Proofs.YtccndofafljaaaaGreatDoor
