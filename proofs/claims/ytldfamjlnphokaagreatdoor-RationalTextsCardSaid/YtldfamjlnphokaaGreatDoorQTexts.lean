/- The law RationalTexts: the walk. -/
import Derived.Test.YtldfamjlnphokaaGreatDoorQFewL
import Derived.Test.YtldfamjlnphokaaGreatDoorRQText
import Derived.Test.YtldfamjlnphokaaGreatDoorPParse

set_option linter.unusedVariables false
set_option linter.unusedSimpArgs false

namespace Go.Proofs.YtldfamjlnphokaaGreatDoor
open Go Go.RowKit Num

/-- The library's variable MaxLen holds some integer. -/
def MaxC (w : World) (m : Int) : Prop := w.cell? ⟨0, 0, none⟩ = some (.int .i64 m)
theorem MaxC.below {w w' : World} {m : Int} (h : MaxC w m) (hb : Below w.heap.size w w') : MaxC w' m :=
  (hb.cell (p := ⟨0, 0, none⟩) (World.block_lt_of_cell? w _ h)).trans h
theorem frN_abs (a b : Int) : (frN a b).natAbs ≤ a.natAbs := by unfold frN; repeat' split <;> omega
theorem frD_abs (a b : Int) : (frD a b).natAbs ≤ max b.natAbs 1 := by unfold frD; repeat' split <;> omega
theorem divInt_bound (a b : Int) {M : Nat} (ha : a.natAbs < M) (hb : b.natAbs < M) (hM : 1 < M) : (Rat.divInt a b).num.natAbs < M ∧ (Rat.divInt a b).den < M := by
  have hp := frD_pos a b
  have e1 := new_num (a := frN a b) hp
  have e2 := new_den (a := frN a b) hp
  rw [fr_eq] at e1 e2
  have h1 := frN_abs a b
  have h2 := frD_abs a b
  have b1 := Int.natAbs_ediv_le_natAbs (frN a b) (Int.gcd (frN a b) (frD a b) : Int)
  have b2 := Int.natAbs_ediv_le_natAbs (frD a b) (Int.gcd (frN a b) (frD a b) : Int)
  rw [← e1] at b1
  rw [← e2] at b2
  omega
theorem Qd.bound {w : World} {v : Value} {r : Rat} {q : Nat} (h : Qd w v r q) (hq : q ≤ 60) : r.num.natAbs < 4294967296 ^ 62 ∧ r.den < 4294967296 ^ 62 := by
  obtain ⟨a, b, h, rfl⟩ := h
  obtain ⟨s, A, n, c, t, C, n', c', rfl, h1, h2⟩ := h.shape
  have hp : (4294967296 : Nat) ^ q ≤ 4294967296 ^ 62 := Nat.pow_le_pow_right (by decide) (by omega)
  exact divInt_bound a b (Nat.lt_of_lt_of_le h1.abs hp) (Nat.lt_of_lt_of_le h2.abs hp) (by decide +kernel)
theorem text_ne_q {r s : Rat} {t u : ByteArray} (ht : t = ⟨(qText r).toArray⟩) (hu : u = ⟨(qText s).toArray⟩) (h : r ≠ s) : (t.toList == u.toList) = false := by
  rw [beq_eq_false_iff_ne, ByteArray.toList_eq, ByteArray.toList_eq, ht, hu]
  intro e
  exact h (qText_inj (by simpa using e))
theorem Cmp_zero {v1 v2 : Value} {r1 r2 : Rat} {k1 k2 : Nat} {w : World} (h1 : Qd w v1 r1 k1) (h2 : Qd w v2 r2 k2) (f1 : k1 ≤ 4000) (f2 : k2 ≤ 4000) (h : r1 = r2) :
    Calls Tryz.prog 33 #[v1, v2] w fun e w' => e = .returned (.int .i64 0) ∧ Below w.heap.size w w' :=
  (Cmp_q h1 h2 f1 f2).mono fun e w' ⟨he, hb⟩ => ⟨by rw [he, cmpQ_eq.2 h], hb⟩
theorem Cmp_nonzero {v1 v2 : Value} {r1 r2 : Rat} {k1 k2 : Nat} {w : World} (h1 : Qd w v1 r1 k1) (h2 : Qd w v2 r2 k2) (f1 : k1 ≤ 4000) (f2 : k2 ≤ 4000) (h : r1 ≠ r2) :
    Calls Tryz.prog 33 #[v1, v2] w fun e w' => ∃ c : Int, (c == 0) = false ∧ e = .returned (.int .i64 c) ∧ Below w.heap.size w w' :=
  (Cmp_q h1 h2 f1 f2).mono fun e w' ⟨he, hb⟩ => ⟨_, by rw [beq_eq_false_iff_ne]; exact fun e => h (cmpQ_eq.1 e), he, hb⟩

set_option maxRecDepth 100000 in
set_option maxHeartbeats 8000000 in
theorem Texts_long {sx : Bool} {Ax : Option Addr} {kx cx : Nat} {tx : Bool} {Cx : Option Addr} {lx dx : Nat} {rx : Rat} {qx : Nat} {sy : Bool} {Ay : Option Addr} {ky cy : Nat} {ty : Bool} {Cy : Option Addr} {ly dy : Nat} {ry : Rat} {qy : Nat} {w : World} (hx : Qd w (.agg #[.bool sx, .slice Ax kx cx, .bool tx, .slice Cx lx dx]) rx qx) (hy : Qd w (.agg #[.bool sy, .slice Ay ky cy, .bool ty, .slice Cy ly dy]) ry qy) (htab : Tab10 w) (hm : ∀ p ∈ [(kx, lx), (ky, ly)], p.1 ≤ 9223372036854775807 ∧ p.2 ≤ 9223372036854775807) (hfew : ¬ fewSum [(kx, lx), (ky, ly)] ≤ 60) :
    Calls Tryz.prog 6 #[.agg #[.bool sx, .slice Ax kx cx, .bool tx, .slice Cx lx dx], .agg #[.bool sy, .slice Ay ky cy, .bool ty, .slice Cy ly dy]] w fun e w' => e = .returned (.bool true) ∧ Below w.heap.size w w' := by
  have V_x := Lib.hid hx
  have V_y := Lib.hid hy
  have V_tab := Lib.hid htab
  have HF := Lib.hid hfew
  have HM := Lib.hid hm
  clear hx hy htab hfew hm
  have hb0 : Below w.heap.size w ((w.alloc (.cells #[.bool sx, (.slice Ax kx cx), .bool tx, (.slice Cx lx dx)] 26)).alloc (.cells #[.bool sy, (.slice Ay ky cy), .bool ty, (.slice Cy ly dy)] 26)) := (Below.alloc (Below.alloc (Below.refl w.heap.size w) (by simp <;> omega) _) (by simp <;> omega) _)
  have B_x : Box4 ((w.alloc (.cells #[.bool sx, (.slice Ax kx cx), .bool tx, (.slice Cx lx dx)] 26)).alloc (.cells #[.bool sy, (.slice Ay ky cy), .bool ty, (.slice Cy ly dy)] 26)) (w.heap.size) sx (.slice Ax kx cx) tx (.slice Cx lx dx) := by have h := Box4.alloc (Box4.new w sx (.slice Ax kx cx) tx (.slice Cx lx dx)) (.cells #[.bool sy, (.slice Ay ky cy), .bool ty, (.slice Cy ly dy)] 26); simpa using h
  replace B_x := Lib.hid B_x
  have B_y : Box4 ((w.alloc (.cells #[.bool sx, (.slice Ax kx cx), .bool tx, (.slice Cx lx dx)] 26)).alloc (.cells #[.bool sy, (.slice Ay ky cy), .bool ty, (.slice Cy ly dy)] 26)) (w.heap.size + 1) sy (.slice Ay ky cy) ty (.slice Cy ly dy) := by have h := Box4.new (w.alloc (.cells #[.bool sx, (.slice Ax kx cx), .bool tx, (.slice Cx lx dx)] 26)) sy (.slice Ay ky cy) ty (.slice Cy ly dy); simpa using h
  replace B_y := Lib.hid B_y
  replace V_x := Lib.hid (Qd.below V_x.out hb0)
  replace V_y := Lib.hid (Qd.below V_y.out hb0)
  replace V_tab := Lib.hid (tab_below V_tab.out hb0)
  have HB := Lib.hid hb0
  clear hb0
  have c0x := B_x.out.c0
  have c1x := B_x.out.c1
  have c2x := B_x.out.c2
  have c3x := B_x.out.c3
  have c0y := B_y.out.c0
  have c1y := B_y.out.c1
  have c2y := B_y.out.c2
  have c3y := B_y.out.c3
  go_enter Tryz.func6, Tryz.ntmps6
  go_wp2_with fail
  clear c0x c1x c2x c3x c0y c1y c2y c3y
  generalize (w.alloc (.cells #[.bool sx, (.slice Ax kx cx), .bool tx, (.slice Cx lx dx)] 26)).alloc (.cells #[.bool sy, (.slice Ay ky cy), .bool ty, (.slice Cy ly dy)] 26) = W0 at *
  refine (awakeQ _ (tab_below V_tab.out (by exact ⟨rfl, rfl, rfl, Nat.le_refl _, fun _ _ => rfl⟩))).mono ?_
  rintro e w1 ⟨rfl, bb⟩
  replace bb := nextw (w0 := W0) (by exact ⟨rfl, rfl, rfl, Nat.le_refl _, fun _ _ => rfl⟩) bb
  replace B_x := Lib.hid (Box4.below B_x.out bb B_x.out.lt)
  replace B_y := Lib.hid (Box4.below B_y.out bb B_y.out.lt)
  replace V_x := Lib.hid (Qd.below V_x.out bb)
  replace V_y := Lib.hid (Qd.below V_y.out bb)
  replace V_tab := Lib.hid (tab_below V_tab.out bb)
  replace HB := Lib.hid (nextw HB.out bb)
  clear bb
  have c0x := B_x.out.c0
  have c1x := B_x.out.c1
  have c2x := B_x.out.c2
  have c3x := B_x.out.c3
  have c0y := B_y.out.c0
  have c1y := B_y.out.c1
  have c2y := B_y.out.c2
  have c3y := B_y.out.c3
  go_wp2_with fail
  refine (fewq_no (L := [(kx, lx), (ky, ly)]) (Rats.lit _ _ _ _ (by intro i hi; rcases i with _ | _ | i <;> first | exact ⟨⟨_, _, rfl⟩, ⟨_, _, rfl⟩⟩ | (simp only [List.length_cons, List.length_nil] at hi; omega))) (by simp) HM.out HF.out).mono ?_
  rintro e w2 ⟨rfl, bb⟩
  replace bb := nextw (w0 := w1) (by first | exact ⟨rfl, rfl, rfl, Nat.le_refl _, fun _ _ => rfl⟩ | exact nextw (by exact ⟨rfl, rfl, rfl, Nat.le_refl _, fun _ _ => rfl⟩) ((Below.refl _ _).alloc (Nat.le_refl _) _) | exact below_push rfl rfl rfl rfl) bb
  clear c0x c1x c2x c3x c0y c1y c2y c3y
  replace B_x := Lib.hid (Box4.below B_x.out bb B_x.out.lt)
  replace B_y := Lib.hid (Box4.below B_y.out bb B_y.out.lt)
  replace V_x := Lib.hid (Qd.below V_x.out bb)
  replace V_y := Lib.hid (Qd.below V_y.out bb)
  replace V_tab := Lib.hid (tab_below V_tab.out bb)
  replace HB := Lib.hid (nextw HB.out bb)
  clear bb
  go_wp2_with fail
  refine (awakeQ _ (tab_below V_tab.out (by exact ⟨rfl, rfl, rfl, Nat.le_refl _, fun _ _ => rfl⟩))).mono ?_
  rintro e w3 ⟨rfl, bb⟩
  replace bb := nextw (w0 := w2) (by exact ⟨rfl, rfl, rfl, Nat.le_refl _, fun _ _ => rfl⟩) bb
  replace B_x := Lib.hid (Box4.below B_x.out bb B_x.out.lt)
  replace B_y := Lib.hid (Box4.below B_y.out bb B_y.out.lt)
  replace V_x := Lib.hid (Qd.below V_x.out bb)
  replace V_y := Lib.hid (Qd.below V_y.out bb)
  replace V_tab := Lib.hid (tab_below V_tab.out bb)
  replace HB := Lib.hid (nextw HB.out bb)
  clear bb
  have HBo := HB.out
  go_wp2
  go_ret
  exact ⟨rfl, nextw HBo (by exact ⟨rfl, rfl, rfl, Nat.le_refl _, fun _ _ => rfl⟩)⟩

set_option maxRecDepth 100000 in
set_option maxHeartbeats 16000000 in
theorem Texts_eq {sx : Bool} {Ax : Option Addr} {kx cx : Nat} {tx : Bool} {Cx : Option Addr} {lx dx : Nat} {rx : Rat} {qx : Nat} {sy : Bool} {Ay : Option Addr} {ky cy : Nat} {ty : Bool} {Cy : Option Addr} {ly dy : Nat} {ry : Rat} {qy : Nat} {w : World} (hx : Qd w (.agg #[.bool sx, .slice Ax kx cx, .bool tx, .slice Cx lx dx]) rx qx) (hy : Qd w (.agg #[.bool sy, .slice Ay ky cy, .bool ty, .slice Cy ly dy]) ry qy) (htab : Tab10 w) (hqx : qx ≤ 60) (hqy : qy ≤ 60) (hfew : fewSum [(kx, lx), (ky, ly)] ≤ 60) {m : Int} (hmax : MaxC w m) (he : rx = ry) :
    Calls Tryz.prog 6 #[.agg #[.bool sx, .slice Ax kx cx, .bool tx, .slice Cx lx dx], .agg #[.bool sy, .slice Ay ky cy, .bool ty, .slice Cy ly dy]] w fun e w' => e = .returned (.bool true) ∧ Below w.heap.size w w' := by
  have V_x := Lib.hid hx
  have V_y := Lib.hid hy
  have V_tab := Lib.hid htab
  have V_max := Lib.hid hmax
  clear hmax
  have HF := Lib.hid hfew
  have HE := Lib.hid he
  clear hx hy htab hfew he
  have hb0 : Below w.heap.size w ((w.alloc (.cells #[.bool sx, (.slice Ax kx cx), .bool tx, (.slice Cx lx dx)] 26)).alloc (.cells #[.bool sy, (.slice Ay ky cy), .bool ty, (.slice Cy ly dy)] 26)) := (Below.alloc (Below.alloc (Below.refl w.heap.size w) (by simp <;> omega) _) (by simp <;> omega) _)
  have B_x : Box4 ((w.alloc (.cells #[.bool sx, (.slice Ax kx cx), .bool tx, (.slice Cx lx dx)] 26)).alloc (.cells #[.bool sy, (.slice Ay ky cy), .bool ty, (.slice Cy ly dy)] 26)) (w.heap.size) sx (.slice Ax kx cx) tx (.slice Cx lx dx) := by have h := Box4.alloc (Box4.new w sx (.slice Ax kx cx) tx (.slice Cx lx dx)) (.cells #[.bool sy, (.slice Ay ky cy), .bool ty, (.slice Cy ly dy)] 26); simpa using h
  replace B_x := Lib.hid B_x
  have B_y : Box4 ((w.alloc (.cells #[.bool sx, (.slice Ax kx cx), .bool tx, (.slice Cx lx dx)] 26)).alloc (.cells #[.bool sy, (.slice Ay ky cy), .bool ty, (.slice Cy ly dy)] 26)) (w.heap.size + 1) sy (.slice Ay ky cy) ty (.slice Cy ly dy) := by have h := Box4.new (w.alloc (.cells #[.bool sx, (.slice Ax kx cx), .bool tx, (.slice Cx lx dx)] 26)) sy (.slice Ay ky cy) ty (.slice Cy ly dy); simpa using h
  replace B_y := Lib.hid B_y
  replace V_x := Lib.hid (Qd.below V_x.out hb0)
  replace V_y := Lib.hid (Qd.below V_y.out hb0)
  replace V_tab := Lib.hid (tab_below V_tab.out hb0)
  replace V_max := Lib.hid (MaxC.below V_max.out hb0)
  have HB := Lib.hid hb0
  clear hb0
  have c0x := B_x.out.c0
  have c1x := B_x.out.c1
  have c2x := B_x.out.c2
  have c3x := B_x.out.c3
  have c0y := B_y.out.c0
  have c1y := B_y.out.c1
  have c2y := B_y.out.c2
  have c3y := B_y.out.c3
  go_enter Tryz.func6, Tryz.ntmps6
  go_wp2_with fail
  clear c0x c1x c2x c3x c0y c1y c2y c3y
  generalize (w.alloc (.cells #[.bool sx, (.slice Ax kx cx), .bool tx, (.slice Cx lx dx)] 26)).alloc (.cells #[.bool sy, (.slice Ay ky cy), .bool ty, (.slice Cy ly dy)] 26) = W0 at *
  refine (awakeQ _ (tab_below V_tab.out (by exact ⟨rfl, rfl, rfl, Nat.le_refl _, fun _ _ => rfl⟩))).mono ?_
  rintro e w1 ⟨rfl, bb⟩
  replace bb := nextw (w0 := W0) (by exact ⟨rfl, rfl, rfl, Nat.le_refl _, fun _ _ => rfl⟩) bb
  replace B_x := Lib.hid (Box4.below B_x.out bb B_x.out.lt)
  replace B_y := Lib.hid (Box4.below B_y.out bb B_y.out.lt)
  replace V_x := Lib.hid (Qd.below V_x.out bb)
  replace V_y := Lib.hid (Qd.below V_y.out bb)
  replace V_tab := Lib.hid (tab_below V_tab.out bb)
  replace V_max := Lib.hid (MaxC.below V_max.out bb)
  replace HB := Lib.hid (nextw HB.out bb)
  clear bb
  have c0x := B_x.out.c0
  have c1x := B_x.out.c1
  have c2x := B_x.out.c2
  have c3x := B_x.out.c3
  have c0y := B_y.out.c0
  have c1y := B_y.out.c1
  have c2y := B_y.out.c2
  have c3y := B_y.out.c3
  go_wp2_with fail
  refine (fewq_yes (L := [(kx, lx), (ky, ly)]) (Rats.lit _ _ _ _ (by intro i hi; rcases i with _ | _ | i <;> first | exact ⟨⟨_, _, rfl⟩, ⟨_, _, rfl⟩⟩ | (simp only [List.length_cons, List.length_nil] at hi; omega))) (by simp) HF.out).mono ?_
  rintro e w2 ⟨rfl, bb⟩
  replace bb := nextw (w0 := w1) (by first | exact ⟨rfl, rfl, rfl, Nat.le_refl _, fun _ _ => rfl⟩ | exact nextw (by exact ⟨rfl, rfl, rfl, Nat.le_refl _, fun _ _ => rfl⟩) ((Below.refl _ _).alloc (Nat.le_refl _) _) | exact below_push rfl rfl rfl rfl) bb
  clear c0x c1x c2x c3x c0y c1y c2y c3y
  replace B_x := Lib.hid (Box4.below B_x.out bb B_x.out.lt)
  replace B_y := Lib.hid (Box4.below B_y.out bb B_y.out.lt)
  replace V_x := Lib.hid (Qd.below V_x.out bb)
  replace V_y := Lib.hid (Qd.below V_y.out bb)
  replace V_tab := Lib.hid (tab_below V_tab.out bb)
  replace V_max := Lib.hid (MaxC.below V_max.out bb)
  replace HB := Lib.hid (nextw HB.out bb)
  clear bb
  have HBX := Lib.hid (Qd.bound V_x.out hqx)
  obtain ⟨ts, hts⟩ : ∃ s : ByteArray, s = ⟨(qText rx).toArray⟩ := ⟨_, rfl⟩
  have hts2 : ts = ⟨(qText ry).toArray⟩ := by rw [hts, HE.out]
  have HT2 := Lib.hid hts2
  clear hts2
  have HT := Lib.hid hts
  clear hts
  have c0x := B_x.out.c0
  have c1x := B_x.out.c1
  have c2x := B_x.out.c2
  have c3x := B_x.out.c3
  have c0y := B_y.out.c0
  have c1y := B_y.out.c1
  have c2y := B_y.out.c2
  have c3y := B_y.out.c3
  go_wp2_with fail
  refine (Text_q (Qd.below V_x.out (by exact ⟨rfl, rfl, rfl, Nat.le_refl _, fun _ _ => rfl⟩)) (by omega) (tab_below V_tab.out (by exact ⟨rfl, rfl, rfl, Nat.le_refl _, fun _ _ => rfl⟩)) HT.out).mono ?_
  rintro e w3 ⟨rfl, bb⟩
  replace bb := nextw (w0 := w2) (by exact ⟨rfl, rfl, rfl, Nat.le_refl _, fun _ _ => rfl⟩) bb
  clear c0x c1x c2x c3x c0y c1y c2y c3y
  replace B_x := Lib.hid (Box4.below B_x.out bb B_x.out.lt)
  replace B_y := Lib.hid (Box4.below B_y.out bb B_y.out.lt)
  replace V_x := Lib.hid (Qd.below V_x.out bb)
  replace V_y := Lib.hid (Qd.below V_y.out bb)
  replace V_tab := Lib.hid (tab_below V_tab.out bb)
  replace V_max := Lib.hid (MaxC.below V_max.out bb)
  replace HB := Lib.hid (nextw HB.out bb)
  clear bb
  go_wp2_with fail
  refine (PQ_text HBX.out.1 HBX.out.2 HT.out (MaxC.below V_max.out (by exact ⟨rfl, rfl, rfl, Nat.le_refl _, fun _ _ => rfl⟩))).mono ?_
  rintro e w4 ⟨vp, rfl, rp, bb⟩
  replace bb := nextw (w0 := w3) (by exact ⟨rfl, rfl, rfl, Nat.le_refl _, fun _ _ => rfl⟩) bb
  replace B_x := Lib.hid (Box4.below B_x.out bb B_x.out.lt)
  replace B_y := Lib.hid (Box4.below B_y.out bb B_y.out.lt)
  replace V_x := Lib.hid (Qd.below V_x.out bb)
  replace V_y := Lib.hid (Qd.below V_y.out bb)
  replace V_tab := Lib.hid (tab_below V_tab.out bb)
  replace V_max := Lib.hid (MaxC.below V_max.out bb)
  replace HB := Lib.hid (nextw HB.out bb)
  clear bb
  obtain ⟨sp, Ap, kp, cp, tp, Cp, lp, dp, rfl⟩ := rp.shape
  have V_p := Lib.hid rp
  clear rp
  have hb0 : Below w4.heap.size w4 (w4.alloc (.cells #[.bool sp, (.slice Ap kp cp), .bool tp, (.slice Cp lp dp)] 26)) := (Below.alloc (Below.refl w4.heap.size w4) (by simp <;> omega) _)
  have B_p : Box4 (w4.alloc (.cells #[.bool sp, (.slice Ap kp cp), .bool tp, (.slice Cp lp dp)] 26)) (w4.heap.size) sp (.slice Ap kp cp) tp (.slice Cp lp dp) := by have h := Box4.new w4 sp (.slice Ap kp cp) tp (.slice Cp lp dp); simpa using h
  replace B_p := Lib.hid B_p
  replace B_x := Lib.hid (Box4.below B_x.out hb0 B_x.out.lt)
  replace B_y := Lib.hid (Box4.below B_y.out hb0 B_y.out.lt)
  replace V_x := Lib.hid (Qd.below V_x.out hb0)
  replace V_y := Lib.hid (Qd.below V_y.out hb0)
  replace V_tab := Lib.hid (tab_below V_tab.out hb0)
  replace V_max := Lib.hid (MaxC.below V_max.out hb0)
  replace V_p := Lib.hid (Qc.below V_p.out hb0)
  replace HB := Lib.hid (nextw HB.out hb0)
  clear hb0
  have c0x := B_x.out.c0
  have c1x := B_x.out.c1
  have c2x := B_x.out.c2
  have c3x := B_x.out.c3
  have c0y := B_y.out.c0
  have c1y := B_y.out.c1
  have c2y := B_y.out.c2
  have c3y := B_y.out.c3
  have c0p := B_p.out.c0
  have c1p := B_p.out.c1
  have c2p := B_p.out.c2
  have c3p := B_p.out.c3
  go_wp2
  clear c0x c1x c2x c3x c0y c1y c2y c3y c0p c1p c2p c3p
  generalize w4.alloc (.cells #[.bool sp, (.slice Ap kp cp), .bool tp, (.slice Cp lp dp)] 26) = W1 at *
  have c0x := B_x.out.c0
  have c1x := B_x.out.c1
  have c2x := B_x.out.c2
  have c3x := B_x.out.c3
  have c0y := B_y.out.c0
  have c1y := B_y.out.c1
  have c2y := B_y.out.c2
  have c3y := B_y.out.c3
  have c0p := B_p.out.c0
  have c1p := B_p.out.c1
  have c2p := B_p.out.c2
  have c3p := B_p.out.c3
  have tk0 : True := trivial
  first | (go_region_held3 (fun w' => w'.cell? ⟨w.heap.size, 0, none⟩ = some (.bool sx) ∧ w'.cell? ⟨w.heap.size, 1, none⟩ = some (.slice Ax kx cx) ∧ w'.cell? ⟨w.heap.size, 2, none⟩ = some (.bool tx) ∧ w'.cell? ⟨w.heap.size, 3, none⟩ = some (.slice Cx lx dx) ∧ w'.cell? ⟨w.heap.size + 1, 0, none⟩ = some (.bool sy) ∧ w'.cell? ⟨w.heap.size + 1, 1, none⟩ = some (.slice Ay ky cy) ∧ w'.cell? ⟨w.heap.size + 1, 2, none⟩ = some (.bool ty) ∧ w'.cell? ⟨w.heap.size + 1, 3, none⟩ = some (.slice Cy ly dy) ∧ w'.cell? ⟨w4.heap.size, 0, none⟩ = some (.bool sp) ∧ w'.cell? ⟨w4.heap.size, 1, none⟩ = some (.slice Ap kp cp) ∧ w'.cell? ⟨w4.heap.size, 2, none⟩ = some (.bool tp) ∧ w'.cell? ⟨w4.heap.size, 3, none⟩ = some (.slice Cp lp dp)) (((try dsimp only); (repeat' apply And.intro) <;> (first | (with_reducible assumption) | ((repeat (first | (with_reducible refine Eq.trans (cell_drew1 _ _) ?_) | (with_reducible refine Eq.trans (cell_set4 (by omega) _ _ _ _) ?_))); with_reducible assumption) | assumption | go_keep)))
    (first
      | (have _t := tk0; clear _t tk0; go_at_call 40; refine (RTextQ_q (Qd.below V_x.out (by exact ⟨rfl, rfl, rfl, Nat.le_refl _, fun _ _ => rfl⟩)) (by omega) HT.out).mono ?_; rintro e w5 ⟨rfl, bb⟩; replace bb := nextw (w0 := W1) (by exact ⟨rfl, rfl, rfl, Nat.le_refl _, fun _ _ => rfl⟩) bb; clear V_max; replace B_x := Lib.hid (Box4.below B_x.out bb B_x.out.lt); replace B_y := Lib.hid (Box4.below B_y.out bb B_y.out.lt); replace B_p := Lib.hid (Box4.below B_p.out bb B_p.out.lt); replace V_x := Lib.hid (Qd.below V_x.out bb); replace V_y := Lib.hid (Qd.below V_y.out bb); replace V_tab := Lib.hid (tab_below V_tab.out bb); replace V_p := Lib.hid (Qc.below V_p.out bb); replace HB := Lib.hid (nextw HB.out bb); clear bb; have c0x := B_x.out.c0; have c1x := B_x.out.c1; have c2x := B_x.out.c2; have c3x := B_x.out.c3; have c0y := B_y.out.c0; have c1y := B_y.out.c1; have c2y := B_y.out.c2; have c3y := B_y.out.c3; have c0p := B_p.out.c0; have c1p := B_p.out.c1; have c2p := B_p.out.c2; have c3p := B_p.out.c3; have tk1 : True := trivial)
      | (have _t := tk1; clear _t tk1; go_at_call 17; refine (RNormQ_q (Qd.below V_x.out (by exact ⟨rfl, rfl, rfl, Nat.le_refl _, fun _ _ => rfl⟩)) (by omega)).mono ?_; rintro e w6 ⟨vn2, rfl, rn2, bb⟩; replace bb := nextw (w0 := w5) (by exact ⟨rfl, rfl, rfl, Nat.le_refl _, fun _ _ => rfl⟩) bb; replace B_x := Lib.hid (Box4.below B_x.out bb B_x.out.lt); replace B_y := Lib.hid (Box4.below B_y.out bb B_y.out.lt); replace B_p := Lib.hid (Box4.below B_p.out bb B_p.out.lt); replace V_x := Lib.hid (Qd.below V_x.out bb); replace V_y := Lib.hid (Qd.below V_y.out bb); replace V_tab := Lib.hid (tab_below V_tab.out bb); replace V_p := Lib.hid (Qc.below V_p.out bb); replace HB := Lib.hid (nextw HB.out bb); clear bb; replace rn2 := Lib.hid rn2; have V_n2 := rn2; clear rn2; have c0x := B_x.out.c0; have c1x := B_x.out.c1; have c2x := B_x.out.c2; have c3x := B_x.out.c3; have c0y := B_y.out.c0; have c1y := B_y.out.c1; have c2y := B_y.out.c2; have c3y := B_y.out.c3; have c0p := B_p.out.c0; have c1p := B_p.out.c1; have c2p := B_p.out.c2; have c3p := B_p.out.c3; have tk2 : True := trivial)
      | (have _t := tk2; clear _t tk2; go_at_call 13; refine (BRat_q (Qc.below V_p.out (by exact ⟨rfl, rfl, rfl, Nat.le_refl _, fun _ _ => rfl⟩)) (Qc.below V_n2.out (by exact ⟨rfl, rfl, rfl, Nat.le_refl _, fun _ _ => rfl⟩)) (by omega) (by omega) (rfl)).mono ?_; rintro e w7 ⟨rfl, bb⟩; replace bb := nextw (w0 := w6) (by exact ⟨rfl, rfl, rfl, Nat.le_refl _, fun _ _ => rfl⟩) bb; clear V_p V_n2; replace B_x := Lib.hid (Box4.below B_x.out bb B_x.out.lt); replace B_y := Lib.hid (Box4.below B_y.out bb B_y.out.lt); replace B_p := Lib.hid (Box4.below B_p.out bb B_p.out.lt); replace V_x := Lib.hid (Qd.below V_x.out bb); replace V_y := Lib.hid (Qd.below V_y.out bb); replace V_tab := Lib.hid (tab_below V_tab.out bb); replace HB := Lib.hid (nextw HB.out bb); clear bb; have c0x := B_x.out.c0; have c1x := B_x.out.c1; have c2x := B_x.out.c2; have c3x := B_x.out.c3; have c0y := B_y.out.c0; have c1y := B_y.out.c1; have c2y := B_y.out.c2; have c3y := B_y.out.c3; have c0p := B_p.out.c0; have c1p := B_p.out.c1; have c2p := B_p.out.c2; have c3p := B_p.out.c3; have tk3 : True := trivial)
      | (have _t := tk3; clear _t tk3; go_at_call 38; refine (Text_q (Qd.below V_y.out (by exact ⟨rfl, rfl, rfl, Nat.le_refl _, fun _ _ => rfl⟩)) (by omega) (tab_below V_tab.out (by exact ⟨rfl, rfl, rfl, Nat.le_refl _, fun _ _ => rfl⟩)) HT2.out).mono ?_; rintro e w8 ⟨rfl, bb⟩; replace bb := nextw (w0 := w7) (by exact ⟨rfl, rfl, rfl, Nat.le_refl _, fun _ _ => rfl⟩) bb; replace B_x := Lib.hid (Box4.below B_x.out bb B_x.out.lt); replace B_y := Lib.hid (Box4.below B_y.out bb B_y.out.lt); replace B_p := Lib.hid (Box4.below B_p.out bb B_p.out.lt); replace V_x := Lib.hid (Qd.below V_x.out bb); replace V_y := Lib.hid (Qd.below V_y.out bb); replace V_tab := Lib.hid (tab_below V_tab.out bb); replace HB := Lib.hid (nextw HB.out bb); clear bb; have c0x := B_x.out.c0; have c1x := B_x.out.c1; have c2x := B_x.out.c2; have c3x := B_x.out.c3; have c0y := B_y.out.c0; have c1y := B_y.out.c1; have c2y := B_y.out.c2; have c3y := B_y.out.c3; have c0p := B_p.out.c0; have c1p := B_p.out.c1; have c2p := B_p.out.c2; have c3p := B_p.out.c3; have tk4 : True := trivial)
      | (have _t := tk4; clear _t tk4; go_at_call 33; refine (Cmp_zero (Qd.below V_x.out (by exact ⟨rfl, rfl, rfl, Nat.le_refl _, fun _ _ => rfl⟩)) (Qd.below V_y.out (by exact ⟨rfl, rfl, rfl, Nat.le_refl _, fun _ _ => rfl⟩)) (by omega) (by omega) HE.out).mono ?_; rintro e w9 ⟨rfl, bb⟩; replace bb := nextw (w0 := w8) (by exact ⟨rfl, rfl, rfl, Nat.le_refl _, fun _ _ => rfl⟩) bb; replace B_x := Lib.hid (Box4.below B_x.out bb B_x.out.lt); replace B_y := Lib.hid (Box4.below B_y.out bb B_y.out.lt); replace B_p := Lib.hid (Box4.below B_p.out bb B_p.out.lt); replace V_x := Lib.hid (Qd.below V_x.out bb); replace V_y := Lib.hid (Qd.below V_y.out bb); replace V_tab := Lib.hid (tab_below V_tab.out bb); replace HB := Lib.hid (nextw HB.out bb); clear bb; have c0x := B_x.out.c0; have c1x := B_x.out.c1; have c2x := B_x.out.c2; have c3x := B_x.out.c3; have c0y := B_y.out.c0; have c1y := B_y.out.c1; have c2y := B_y.out.c2; have c3y := B_y.out.c3; have c0p := B_p.out.c0; have c1p := B_p.out.c1; have c2p := B_p.out.c2; have c3p := B_p.out.c3; have tk5 : True := trivial))) | fail
  have HBo := HB.out
  go_wp2
  go_ret
  exact ⟨rfl, nextw HBo (by exact ⟨rfl, rfl, rfl, Nat.le_refl _, fun _ _ => rfl⟩)⟩

set_option maxRecDepth 100000 in
set_option maxHeartbeats 16000000 in
theorem Texts_ne {sx : Bool} {Ax : Option Addr} {kx cx : Nat} {tx : Bool} {Cx : Option Addr} {lx dx : Nat} {rx : Rat} {qx : Nat} {sy : Bool} {Ay : Option Addr} {ky cy : Nat} {ty : Bool} {Cy : Option Addr} {ly dy : Nat} {ry : Rat} {qy : Nat} {w : World} (hx : Qd w (.agg #[.bool sx, .slice Ax kx cx, .bool tx, .slice Cx lx dx]) rx qx) (hy : Qd w (.agg #[.bool sy, .slice Ay ky cy, .bool ty, .slice Cy ly dy]) ry qy) (htab : Tab10 w) (hqx : qx ≤ 60) (hqy : qy ≤ 60) (hfew : fewSum [(kx, lx), (ky, ly)] ≤ 60) {m : Int} (hmax : MaxC w m) (he : rx ≠ ry) :
    Calls Tryz.prog 6 #[.agg #[.bool sx, .slice Ax kx cx, .bool tx, .slice Cx lx dx], .agg #[.bool sy, .slice Ay ky cy, .bool ty, .slice Cy ly dy]] w fun e w' => e = .returned (.bool true) ∧ Below w.heap.size w w' := by
  have V_x := Lib.hid hx
  have V_y := Lib.hid hy
  have V_tab := Lib.hid htab
  have V_max := Lib.hid hmax
  clear hmax
  have HF := Lib.hid hfew
  have HE := Lib.hid he
  clear hx hy htab hfew he
  have hb0 : Below w.heap.size w ((w.alloc (.cells #[.bool sx, (.slice Ax kx cx), .bool tx, (.slice Cx lx dx)] 26)).alloc (.cells #[.bool sy, (.slice Ay ky cy), .bool ty, (.slice Cy ly dy)] 26)) := (Below.alloc (Below.alloc (Below.refl w.heap.size w) (by simp <;> omega) _) (by simp <;> omega) _)
  have B_x : Box4 ((w.alloc (.cells #[.bool sx, (.slice Ax kx cx), .bool tx, (.slice Cx lx dx)] 26)).alloc (.cells #[.bool sy, (.slice Ay ky cy), .bool ty, (.slice Cy ly dy)] 26)) (w.heap.size) sx (.slice Ax kx cx) tx (.slice Cx lx dx) := by have h := Box4.alloc (Box4.new w sx (.slice Ax kx cx) tx (.slice Cx lx dx)) (.cells #[.bool sy, (.slice Ay ky cy), .bool ty, (.slice Cy ly dy)] 26); simpa using h
  replace B_x := Lib.hid B_x
  have B_y : Box4 ((w.alloc (.cells #[.bool sx, (.slice Ax kx cx), .bool tx, (.slice Cx lx dx)] 26)).alloc (.cells #[.bool sy, (.slice Ay ky cy), .bool ty, (.slice Cy ly dy)] 26)) (w.heap.size + 1) sy (.slice Ay ky cy) ty (.slice Cy ly dy) := by have h := Box4.new (w.alloc (.cells #[.bool sx, (.slice Ax kx cx), .bool tx, (.slice Cx lx dx)] 26)) sy (.slice Ay ky cy) ty (.slice Cy ly dy); simpa using h
  replace B_y := Lib.hid B_y
  replace V_x := Lib.hid (Qd.below V_x.out hb0)
  replace V_y := Lib.hid (Qd.below V_y.out hb0)
  replace V_tab := Lib.hid (tab_below V_tab.out hb0)
  replace V_max := Lib.hid (MaxC.below V_max.out hb0)
  have HB := Lib.hid hb0
  clear hb0
  have c0x := B_x.out.c0
  have c1x := B_x.out.c1
  have c2x := B_x.out.c2
  have c3x := B_x.out.c3
  have c0y := B_y.out.c0
  have c1y := B_y.out.c1
  have c2y := B_y.out.c2
  have c3y := B_y.out.c3
  go_enter Tryz.func6, Tryz.ntmps6
  go_wp2_with fail
  clear c0x c1x c2x c3x c0y c1y c2y c3y
  generalize (w.alloc (.cells #[.bool sx, (.slice Ax kx cx), .bool tx, (.slice Cx lx dx)] 26)).alloc (.cells #[.bool sy, (.slice Ay ky cy), .bool ty, (.slice Cy ly dy)] 26) = W0 at *
  refine (awakeQ _ (tab_below V_tab.out (by exact ⟨rfl, rfl, rfl, Nat.le_refl _, fun _ _ => rfl⟩))).mono ?_
  rintro e w1 ⟨rfl, bb⟩
  replace bb := nextw (w0 := W0) (by exact ⟨rfl, rfl, rfl, Nat.le_refl _, fun _ _ => rfl⟩) bb
  replace B_x := Lib.hid (Box4.below B_x.out bb B_x.out.lt)
  replace B_y := Lib.hid (Box4.below B_y.out bb B_y.out.lt)
  replace V_x := Lib.hid (Qd.below V_x.out bb)
  replace V_y := Lib.hid (Qd.below V_y.out bb)
  replace V_tab := Lib.hid (tab_below V_tab.out bb)
  replace V_max := Lib.hid (MaxC.below V_max.out bb)
  replace HB := Lib.hid (nextw HB.out bb)
  clear bb
  have c0x := B_x.out.c0
  have c1x := B_x.out.c1
  have c2x := B_x.out.c2
  have c3x := B_x.out.c3
  have c0y := B_y.out.c0
  have c1y := B_y.out.c1
  have c2y := B_y.out.c2
  have c3y := B_y.out.c3
  go_wp2_with fail
  refine (fewq_yes (L := [(kx, lx), (ky, ly)]) (Rats.lit _ _ _ _ (by intro i hi; rcases i with _ | _ | i <;> first | exact ⟨⟨_, _, rfl⟩, ⟨_, _, rfl⟩⟩ | (simp only [List.length_cons, List.length_nil] at hi; omega))) (by simp) HF.out).mono ?_
  rintro e w2 ⟨rfl, bb⟩
  replace bb := nextw (w0 := w1) (by first | exact ⟨rfl, rfl, rfl, Nat.le_refl _, fun _ _ => rfl⟩ | exact nextw (by exact ⟨rfl, rfl, rfl, Nat.le_refl _, fun _ _ => rfl⟩) ((Below.refl _ _).alloc (Nat.le_refl _) _) | exact below_push rfl rfl rfl rfl) bb
  clear c0x c1x c2x c3x c0y c1y c2y c3y
  replace B_x := Lib.hid (Box4.below B_x.out bb B_x.out.lt)
  replace B_y := Lib.hid (Box4.below B_y.out bb B_y.out.lt)
  replace V_x := Lib.hid (Qd.below V_x.out bb)
  replace V_y := Lib.hid (Qd.below V_y.out bb)
  replace V_tab := Lib.hid (tab_below V_tab.out bb)
  replace V_max := Lib.hid (MaxC.below V_max.out bb)
  replace HB := Lib.hid (nextw HB.out bb)
  clear bb
  have HBX := Lib.hid (Qd.bound V_x.out hqx)
  obtain ⟨ts, hts⟩ : ∃ s : ByteArray, s = ⟨(qText rx).toArray⟩ := ⟨_, rfl⟩
  obtain ⟨us, hus⟩ : ∃ s : ByteArray, s = ⟨(qText ry).toArray⟩ := ⟨_, rfl⟩
  have hne := text_ne_q hts hus HE.out
  have HT2 := Lib.hid hus
  clear hus
  have HT := Lib.hid hts
  clear hts
  have c0x := B_x.out.c0
  have c1x := B_x.out.c1
  have c2x := B_x.out.c2
  have c3x := B_x.out.c3
  have c0y := B_y.out.c0
  have c1y := B_y.out.c1
  have c2y := B_y.out.c2
  have c3y := B_y.out.c3
  go_wp2_with fail
  refine (Text_q (Qd.below V_x.out (by exact ⟨rfl, rfl, rfl, Nat.le_refl _, fun _ _ => rfl⟩)) (by omega) (tab_below V_tab.out (by exact ⟨rfl, rfl, rfl, Nat.le_refl _, fun _ _ => rfl⟩)) HT.out).mono ?_
  rintro e w3 ⟨rfl, bb⟩
  replace bb := nextw (w0 := w2) (by exact ⟨rfl, rfl, rfl, Nat.le_refl _, fun _ _ => rfl⟩) bb
  clear c0x c1x c2x c3x c0y c1y c2y c3y
  replace B_x := Lib.hid (Box4.below B_x.out bb B_x.out.lt)
  replace B_y := Lib.hid (Box4.below B_y.out bb B_y.out.lt)
  replace V_x := Lib.hid (Qd.below V_x.out bb)
  replace V_y := Lib.hid (Qd.below V_y.out bb)
  replace V_tab := Lib.hid (tab_below V_tab.out bb)
  replace V_max := Lib.hid (MaxC.below V_max.out bb)
  replace HB := Lib.hid (nextw HB.out bb)
  clear bb
  go_wp2_with fail
  refine (PQ_text HBX.out.1 HBX.out.2 HT.out (MaxC.below V_max.out (by exact ⟨rfl, rfl, rfl, Nat.le_refl _, fun _ _ => rfl⟩))).mono ?_
  rintro e w4 ⟨vp, rfl, rp, bb⟩
  replace bb := nextw (w0 := w3) (by exact ⟨rfl, rfl, rfl, Nat.le_refl _, fun _ _ => rfl⟩) bb
  replace B_x := Lib.hid (Box4.below B_x.out bb B_x.out.lt)
  replace B_y := Lib.hid (Box4.below B_y.out bb B_y.out.lt)
  replace V_x := Lib.hid (Qd.below V_x.out bb)
  replace V_y := Lib.hid (Qd.below V_y.out bb)
  replace V_tab := Lib.hid (tab_below V_tab.out bb)
  replace V_max := Lib.hid (MaxC.below V_max.out bb)
  replace HB := Lib.hid (nextw HB.out bb)
  clear bb
  obtain ⟨sp, Ap, kp, cp, tp, Cp, lp, dp, rfl⟩ := rp.shape
  have V_p := Lib.hid rp
  clear rp
  have hb0 : Below w4.heap.size w4 (w4.alloc (.cells #[.bool sp, (.slice Ap kp cp), .bool tp, (.slice Cp lp dp)] 26)) := (Below.alloc (Below.refl w4.heap.size w4) (by simp <;> omega) _)
  have B_p : Box4 (w4.alloc (.cells #[.bool sp, (.slice Ap kp cp), .bool tp, (.slice Cp lp dp)] 26)) (w4.heap.size) sp (.slice Ap kp cp) tp (.slice Cp lp dp) := by have h := Box4.new w4 sp (.slice Ap kp cp) tp (.slice Cp lp dp); simpa using h
  replace B_p := Lib.hid B_p
  replace B_x := Lib.hid (Box4.below B_x.out hb0 B_x.out.lt)
  replace B_y := Lib.hid (Box4.below B_y.out hb0 B_y.out.lt)
  replace V_x := Lib.hid (Qd.below V_x.out hb0)
  replace V_y := Lib.hid (Qd.below V_y.out hb0)
  replace V_tab := Lib.hid (tab_below V_tab.out hb0)
  replace V_max := Lib.hid (MaxC.below V_max.out hb0)
  replace V_p := Lib.hid (Qc.below V_p.out hb0)
  replace HB := Lib.hid (nextw HB.out hb0)
  clear hb0
  have c0x := B_x.out.c0
  have c1x := B_x.out.c1
  have c2x := B_x.out.c2
  have c3x := B_x.out.c3
  have c0y := B_y.out.c0
  have c1y := B_y.out.c1
  have c2y := B_y.out.c2
  have c3y := B_y.out.c3
  have c0p := B_p.out.c0
  have c1p := B_p.out.c1
  have c2p := B_p.out.c2
  have c3p := B_p.out.c3
  go_wp2
  clear c0x c1x c2x c3x c0y c1y c2y c3y c0p c1p c2p c3p
  generalize w4.alloc (.cells #[.bool sp, (.slice Ap kp cp), .bool tp, (.slice Cp lp dp)] 26) = W1 at *
  have c0x := B_x.out.c0
  have c1x := B_x.out.c1
  have c2x := B_x.out.c2
  have c3x := B_x.out.c3
  have c0y := B_y.out.c0
  have c1y := B_y.out.c1
  have c2y := B_y.out.c2
  have c3y := B_y.out.c3
  have c0p := B_p.out.c0
  have c1p := B_p.out.c1
  have c2p := B_p.out.c2
  have c3p := B_p.out.c3
  have tk0 : True := trivial
  first | (go_region_held3 (fun w' => w'.cell? ⟨w.heap.size, 0, none⟩ = some (.bool sx) ∧ w'.cell? ⟨w.heap.size, 1, none⟩ = some (.slice Ax kx cx) ∧ w'.cell? ⟨w.heap.size, 2, none⟩ = some (.bool tx) ∧ w'.cell? ⟨w.heap.size, 3, none⟩ = some (.slice Cx lx dx) ∧ w'.cell? ⟨w.heap.size + 1, 0, none⟩ = some (.bool sy) ∧ w'.cell? ⟨w.heap.size + 1, 1, none⟩ = some (.slice Ay ky cy) ∧ w'.cell? ⟨w.heap.size + 1, 2, none⟩ = some (.bool ty) ∧ w'.cell? ⟨w.heap.size + 1, 3, none⟩ = some (.slice Cy ly dy) ∧ w'.cell? ⟨w4.heap.size, 0, none⟩ = some (.bool sp) ∧ w'.cell? ⟨w4.heap.size, 1, none⟩ = some (.slice Ap kp cp) ∧ w'.cell? ⟨w4.heap.size, 2, none⟩ = some (.bool tp) ∧ w'.cell? ⟨w4.heap.size, 3, none⟩ = some (.slice Cp lp dp)) (((try dsimp only); (repeat' apply And.intro) <;> (first | (with_reducible assumption) | ((repeat (first | (with_reducible refine Eq.trans (cell_drew1 _ _) ?_) | (with_reducible refine Eq.trans (cell_set4 (by omega) _ _ _ _) ?_))); with_reducible assumption) | assumption | go_keep)))
    (first
      | (have _t := tk0; clear _t tk0; go_at_call 40; refine (RTextQ_q (Qd.below V_x.out (by exact ⟨rfl, rfl, rfl, Nat.le_refl _, fun _ _ => rfl⟩)) (by omega) HT.out).mono ?_; rintro e w5 ⟨rfl, bb⟩; replace bb := nextw (w0 := W1) (by exact ⟨rfl, rfl, rfl, Nat.le_refl _, fun _ _ => rfl⟩) bb; clear V_max; replace B_x := Lib.hid (Box4.below B_x.out bb B_x.out.lt); replace B_y := Lib.hid (Box4.below B_y.out bb B_y.out.lt); replace B_p := Lib.hid (Box4.below B_p.out bb B_p.out.lt); replace V_x := Lib.hid (Qd.below V_x.out bb); replace V_y := Lib.hid (Qd.below V_y.out bb); replace V_tab := Lib.hid (tab_below V_tab.out bb); replace V_p := Lib.hid (Qc.below V_p.out bb); replace HB := Lib.hid (nextw HB.out bb); clear bb; have c0x := B_x.out.c0; have c1x := B_x.out.c1; have c2x := B_x.out.c2; have c3x := B_x.out.c3; have c0y := B_y.out.c0; have c1y := B_y.out.c1; have c2y := B_y.out.c2; have c3y := B_y.out.c3; have c0p := B_p.out.c0; have c1p := B_p.out.c1; have c2p := B_p.out.c2; have c3p := B_p.out.c3; have tk1 : True := trivial)
      | (have _t := tk1; clear _t tk1; go_at_call 17; refine (RNormQ_q (Qd.below V_x.out (by exact ⟨rfl, rfl, rfl, Nat.le_refl _, fun _ _ => rfl⟩)) (by omega)).mono ?_; rintro e w6 ⟨vn2, rfl, rn2, bb⟩; replace bb := nextw (w0 := w5) (by exact ⟨rfl, rfl, rfl, Nat.le_refl _, fun _ _ => rfl⟩) bb; replace B_x := Lib.hid (Box4.below B_x.out bb B_x.out.lt); replace B_y := Lib.hid (Box4.below B_y.out bb B_y.out.lt); replace B_p := Lib.hid (Box4.below B_p.out bb B_p.out.lt); replace V_x := Lib.hid (Qd.below V_x.out bb); replace V_y := Lib.hid (Qd.below V_y.out bb); replace V_tab := Lib.hid (tab_below V_tab.out bb); replace V_p := Lib.hid (Qc.below V_p.out bb); replace HB := Lib.hid (nextw HB.out bb); clear bb; replace rn2 := Lib.hid rn2; have V_n2 := rn2; clear rn2; have c0x := B_x.out.c0; have c1x := B_x.out.c1; have c2x := B_x.out.c2; have c3x := B_x.out.c3; have c0y := B_y.out.c0; have c1y := B_y.out.c1; have c2y := B_y.out.c2; have c3y := B_y.out.c3; have c0p := B_p.out.c0; have c1p := B_p.out.c1; have c2p := B_p.out.c2; have c3p := B_p.out.c3; have tk2 : True := trivial)
      | (have _t := tk2; clear _t tk2; go_at_call 13; refine (BRat_q (Qc.below V_p.out (by exact ⟨rfl, rfl, rfl, Nat.le_refl _, fun _ _ => rfl⟩)) (Qc.below V_n2.out (by exact ⟨rfl, rfl, rfl, Nat.le_refl _, fun _ _ => rfl⟩)) (by omega) (by omega) (rfl)).mono ?_; rintro e w7 ⟨rfl, bb⟩; replace bb := nextw (w0 := w6) (by exact ⟨rfl, rfl, rfl, Nat.le_refl _, fun _ _ => rfl⟩) bb; clear V_p V_n2; replace B_x := Lib.hid (Box4.below B_x.out bb B_x.out.lt); replace B_y := Lib.hid (Box4.below B_y.out bb B_y.out.lt); replace B_p := Lib.hid (Box4.below B_p.out bb B_p.out.lt); replace V_x := Lib.hid (Qd.below V_x.out bb); replace V_y := Lib.hid (Qd.below V_y.out bb); replace V_tab := Lib.hid (tab_below V_tab.out bb); replace HB := Lib.hid (nextw HB.out bb); clear bb; have c0x := B_x.out.c0; have c1x := B_x.out.c1; have c2x := B_x.out.c2; have c3x := B_x.out.c3; have c0y := B_y.out.c0; have c1y := B_y.out.c1; have c2y := B_y.out.c2; have c3y := B_y.out.c3; have c0p := B_p.out.c0; have c1p := B_p.out.c1; have c2p := B_p.out.c2; have c3p := B_p.out.c3; have tk3 : True := trivial)
      | (have _t := tk3; clear _t tk3; go_at_call 38; refine (Text_q (Qd.below V_y.out (by exact ⟨rfl, rfl, rfl, Nat.le_refl _, fun _ _ => rfl⟩)) (by omega) (tab_below V_tab.out (by exact ⟨rfl, rfl, rfl, Nat.le_refl _, fun _ _ => rfl⟩)) HT2.out).mono ?_; rintro e w8 ⟨rfl, bb⟩; replace bb := nextw (w0 := w7) (by exact ⟨rfl, rfl, rfl, Nat.le_refl _, fun _ _ => rfl⟩) bb; replace B_x := Lib.hid (Box4.below B_x.out bb B_x.out.lt); replace B_y := Lib.hid (Box4.below B_y.out bb B_y.out.lt); replace B_p := Lib.hid (Box4.below B_p.out bb B_p.out.lt); replace V_x := Lib.hid (Qd.below V_x.out bb); replace V_y := Lib.hid (Qd.below V_y.out bb); replace V_tab := Lib.hid (tab_below V_tab.out bb); replace HB := Lib.hid (nextw HB.out bb); clear bb; have c0x := B_x.out.c0; have c1x := B_x.out.c1; have c2x := B_x.out.c2; have c3x := B_x.out.c3; have c0y := B_y.out.c0; have c1y := B_y.out.c1; have c2y := B_y.out.c2; have c3y := B_y.out.c3; have c0p := B_p.out.c0; have c1p := B_p.out.c1; have c2p := B_p.out.c2; have c3p := B_p.out.c3; have tk4 : True := trivial)
      | (have _t := tk4; clear _t tk4; go_at_call 33; refine (Cmp_nonzero (Qd.below V_x.out (by exact ⟨rfl, rfl, rfl, Nat.le_refl _, fun _ _ => rfl⟩)) (Qd.below V_y.out (by exact ⟨rfl, rfl, rfl, Nat.le_refl _, fun _ _ => rfl⟩)) (by omega) (by omega) HE.out).mono ?_; rintro e w9 ⟨cs, hcs, rfl, bb⟩; replace bb := nextw (w0 := w8) (by exact ⟨rfl, rfl, rfl, Nat.le_refl _, fun _ _ => rfl⟩) bb; replace B_x := Lib.hid (Box4.below B_x.out bb B_x.out.lt); replace B_y := Lib.hid (Box4.below B_y.out bb B_y.out.lt); replace B_p := Lib.hid (Box4.below B_p.out bb B_p.out.lt); replace V_x := Lib.hid (Qd.below V_x.out bb); replace V_y := Lib.hid (Qd.below V_y.out bb); replace V_tab := Lib.hid (tab_below V_tab.out bb); replace HB := Lib.hid (nextw HB.out bb); clear bb; have c0x := B_x.out.c0; have c1x := B_x.out.c1; have c2x := B_x.out.c2; have c3x := B_x.out.c3; have c0y := B_y.out.c0; have c1y := B_y.out.c1; have c2y := B_y.out.c2; have c3y := B_y.out.c3; have c0p := B_p.out.c0; have c1p := B_p.out.c1; have c2p := B_p.out.c2; have c3p := B_p.out.c3; have tk5 : True := trivial))) | fail
  have HBo := HB.out
  go_wp2
  go_ret
  exact ⟨rfl, nextw HBo (by exact ⟨rfl, rfl, rfl, Nat.le_refl _, fun _ _ => rfl⟩)⟩

theorem Texts_any {sx : Bool} {Ax : Option Addr} {kx cx : Nat} {tx : Bool} {Cx : Option Addr} {lx dx : Nat} {rx : Rat} {qx : Nat} {sy : Bool} {Ay : Option Addr} {ky cy : Nat} {ty : Bool} {Cy : Option Addr} {ly dy : Nat} {ry : Rat} {qy : Nat} {w : World} (hx : Qd w (.agg #[.bool sx, .slice Ax kx cx, .bool tx, .slice Cx lx dx]) rx qx) (hy : Qd w (.agg #[.bool sy, .slice Ay ky cy, .bool ty, .slice Cy ly dy]) ry qy) (htab : Tab10 w) {m : Int} (hmax : MaxC w m) (hqx : qx = max kx lx) (hqy : qy = max ky ly)
    (hm : ∀ p ∈ [(kx, lx), (ky, ly)], p.1 ≤ 9223372036854775807 ∧ p.2 ≤ 9223372036854775807) :
    Calls Tryz.prog 6 #[.agg #[.bool sx, .slice Ax kx cx, .bool tx, .slice Cx lx dx], .agg #[.bool sy, .slice Ay ky cy, .bool ty, .slice Cy ly dy]] w fun e w' => e = .returned (.bool true) ∧ Below w.heap.size w w' := by
  by_cases hf : fewSum [(kx, lx), (ky, ly)] ≤ 60
  · have hs := fewSum_small hf
    have s0 := hs (kx, lx) (by simp)
    have s1 := hs (ky, ly) (by simp)
    simp only at s0 s1
    by_cases h1 : rx = ry
    · exact Texts_eq hx hy htab (by omega) (by omega) hf hmax h1
    · exact Texts_ne hx hy htab (by omega) (by omega) hf hmax h1
  · exact Texts_long hx hy htab hm hf
end Go.Proofs.YtldfamjlnphokaaGreatDoor
