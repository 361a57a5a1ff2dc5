/- The law RationalOrder: the walk. -/
import Derived.Test.YtldfamjlnphokaaDoorQFewL
import Derived.Test.YtldfamjlnphokaaDoorQ5

set_option linter.unusedVariables false
set_option linter.unusedSimpArgs false

namespace Go.Proofs.YtldfamjlnphokaaDoor
open Go Go.RowKit Num

theorem Cmp_as {v1 v2 : Value} {r1 r2 : Rat} {k1 k2 : Nat} {w : World} {m : Int} (h1 : Qd w v1 r1 k1) (h2 : Qd w v2 r2 k2) (f1 : k1 ≤ 4000) (f2 : k2 ≤ 4000) (h : cmpQ r1 r2 = m) :
    Calls Tryd.prog 25 #[v1, v2] w fun e w' => e = .returned (.int .i64 m) ∧ Below w.heap.size w w' := by
  subst h; exact Cmp_q h1 h2 f1 f2
theorem Sign_as {v : Value} {r : Rat} {k : Nat} {w : World} {m : Int} (h : Qd w v r k) (f : k ≤ 10000) (e : sgnQ r = m) :
    Calls Tryd.prog 24 #[v] w fun e w' => e = .returned (.int .i64 m) ∧ Below w.heap.size w w' := by
  subst e; exact Sign_q h f
theorem Rc.len {w : World} {s : Bool} {A : Option Addr} {k c n : Nat} {z : Int} (h : Rc w (.agg #[.bool s, .slice A k c]) z n) : k ≤ n := by
  obtain ⟨A', c', e⟩ := h.form
  simp only [Value.agg.injEq, Array.mk.injEq, List.cons.injEq, and_true, Value.slice.injEq] at e
  obtain ⟨-, -, rfl, -⟩ := e
  exact digs_length_le h.2
theorem Rd.one {w w' : World} (h : w' = w.alloc (.cells #[.int .u32 1] 35)) : Rd w' (.agg #[.bool false, .slice (some ⟨w.heap.size, 0, none⟩) 1 1]) 1 1 := by
  subst h
  exact ⟨false, _, [1], rfl, U32.lit w [1] _ _ (by simp) (by simp only [maxLen]; simp) rfl, rfl, Nat.le_refl _⟩
theorem Box4.push {w w' : World} {s : Bool} {m : Value} {t : Bool} {n : Value} (h4 : w'.heap = w.heap.push (.cells #[.bool s, m, .bool t, n] 38)) : Box4 w' w.heap.size s m t n := by
  unfold Box4; rw [h4]; simp

set_option maxRecDepth 100000 in
set_option maxHeartbeats 8000000 in
theorem Order_long {sx : Bool} {Ax : Option Addr} {kx cx : Nat} {tx : Bool} {Cx : Option Addr} {lx dx : Nat} {rx : Rat} {qx : Nat} {sy : Bool} {Ay : Option Addr} {ky cy : Nat} {ty : Bool} {Cy : Option Addr} {ly dy : Nat} {ry : Rat} {qy : Nat} {sz : Bool} {Az : Option Addr} {kz cz : Nat} {tz : Bool} {Cz : Option Addr} {lz dz : Nat} {rz : Rat} {qz : Nat} {w : World} (hx : Qd w (.agg #[.bool sx, .slice Ax kx cx, .bool tx, .slice Cx lx dx]) rx qx) (hy : Qd w (.agg #[.bool sy, .slice Ay ky cy, .bool ty, .slice Cy ly dy]) ry qy) (hz : Qd w (.agg #[.bool sz, .slice Az kz cz, .bool tz, .slice Cz lz dz]) rz qz) (htab : Tab10 w) (hm : ∀ p ∈ [(kx, lx), (ky, ly), (kz, lz)], p.1 ≤ 9223372036854775807 ∧ p.2 ≤ 9223372036854775807) (hfew : ¬ fewSum [(kx, lx), (ky, ly), (kz, lz)] ≤ 60) :
    Calls Tryd.prog 5 #[.agg #[.bool sx, .slice Ax kx cx, .bool tx, .slice Cx lx dx], .agg #[.bool sy, .slice Ay ky cy, .bool ty, .slice Cy ly dy], .agg #[.bool sz, .slice Az kz cz, .bool tz, .slice Cz lz dz]] w fun e w' => e = .returned (.bool true) ∧ Below w.heap.size w w' := by
  have V_x := Lib.hid hx
  have V_y := Lib.hid hy
  have V_z := Lib.hid hz
  have V_tab := Lib.hid htab
  have HF := Lib.hid hfew
  have HM := Lib.hid hm
  clear hx hy hz htab hfew hm
  have hb0 : Below w.heap.size w (((w.alloc (.cells #[.bool sx, (.slice Ax kx cx), .bool tx, (.slice Cx lx dx)] 38)).alloc (.cells #[.bool sy, (.slice Ay ky cy), .bool ty, (.slice Cy ly dy)] 38)).alloc (.cells #[.bool sz, (.slice Az kz cz), .bool tz, (.slice Cz lz dz)] 38)) := (Below.alloc (Below.alloc (Below.alloc (Below.refl w.heap.size w) (by simp <;> omega) _) (by simp <;> omega) _) (by simp <;> omega) _)
  have B_x : Box4 (((w.alloc (.cells #[.bool sx, (.slice Ax kx cx), .bool tx, (.slice Cx lx dx)] 38)).alloc (.cells #[.bool sy, (.slice Ay ky cy), .bool ty, (.slice Cy ly dy)] 38)).alloc (.cells #[.bool sz, (.slice Az kz cz), .bool tz, (.slice Cz lz dz)] 38)) (w.heap.size) sx (.slice Ax kx cx) tx (.slice Cx lx dx) := by have h := Box4.alloc (Box4.alloc (Box4.new w sx (.slice Ax kx cx) tx (.slice Cx lx dx)) (.cells #[.bool sy, (.slice Ay ky cy), .bool ty, (.slice Cy ly dy)] 38)) (.cells #[.bool sz, (.slice Az kz cz), .bool tz, (.slice Cz lz dz)] 38); simpa using h
  replace B_x := Lib.hid B_x
  have B_y : Box4 (((w.alloc (.cells #[.bool sx, (.slice Ax kx cx), .bool tx, (.slice Cx lx dx)] 38)).alloc (.cells #[.bool sy, (.slice Ay ky cy), .bool ty, (.slice Cy ly dy)] 38)).alloc (.cells #[.bool sz, (.slice Az kz cz), .bool tz, (.slice Cz lz dz)] 38)) (w.heap.size + 1) sy (.slice Ay ky cy) ty (.slice Cy ly dy) := by have h := Box4.alloc (Box4.new (w.alloc (.cells #[.bool sx, (.slice Ax kx cx), .bool tx, (.slice Cx lx dx)] 38)) sy (.slice Ay ky cy) ty (.slice Cy ly dy)) (.cells #[.bool sz, (.slice Az kz cz), .bool tz, (.slice Cz lz dz)] 38); simpa using h
  replace B_y := Lib.hid B_y
  have B_z : Box4 (((w.alloc (.cells #[.bool sx, (.slice Ax kx cx), .bool tx, (.slice Cx lx dx)] 38)).alloc (.cells #[.bool sy, (.slice Ay ky cy), .bool ty, (.slice Cy ly dy)] 38)).alloc (.cells #[.bool sz, (.slice Az kz cz), .bool tz, (.slice Cz lz dz)] 38)) (w.heap.size + 1 + 1) sz (.slice Az kz cz) tz (.slice Cz lz dz) := by have h := Box4.new ((w.alloc (.cells #[.bool sx, (.slice Ax kx cx), .bool tx, (.slice Cx lx dx)] 38)).alloc (.cells #[.bool sy, (.slice Ay ky cy), .bool ty, (.slice Cy ly dy)] 38)) sz (.slice Az kz cz) tz (.slice Cz lz dz); simpa using h
  replace B_z := Lib.hid B_z
  replace V_x := Lib.hid (Qd.below V_x.out hb0)
  replace V_y := Lib.hid (Qd.below V_y.out hb0)
  replace V_z := Lib.hid (Qd.below V_z.out hb0)
  replace V_tab := Lib.hid (tab_below V_tab.out hb0)
  have HB := Lib.hid hb0
  clear hb0
  have c0x := B_x.out.c0
  have c1x := B_x.out.c1
  have c2x := B_x.out.c2
  have c3x := B_x.out.c3
  have c0y := B_y.out.c0
  have c1y := B_y.out.c1
  have c2y := B_y.out.c2
  have c3y := B_y.out.c3
  have c0z := B_z.out.c0
  have c1z := B_z.out.c1
  have c2z := B_z.out.c2
  have c3z := B_z.out.c3
  go_enter Tryd.func5, Tryd.ntmps5
  go_wp2_with fail
  clear c0x c1x c2x c3x c0y c1y c2y c3y c0z c1z c2z c3z
  generalize ((w.alloc (.cells #[.bool sx, (.slice Ax kx cx), .bool tx, (.slice Cx lx dx)] 38)).alloc (.cells #[.bool sy, (.slice Ay ky cy), .bool ty, (.slice Cy ly dy)] 38)).alloc (.cells #[.bool sz, (.slice Az kz cz), .bool tz, (.slice Cz lz dz)] 38) = W0 at *
  refine (awakeQ _ (tab_below V_tab.out (by exact ⟨rfl, rfl, rfl, Nat.le_refl _, fun _ _ => rfl⟩))).mono ?_
  rintro e w1 ⟨rfl, bb⟩
  replace bb := nextw (w0 := W0) (by exact ⟨rfl, rfl, rfl, Nat.le_refl _, fun _ _ => rfl⟩) bb
  replace B_x := Lib.hid (Box4.below B_x.out bb B_x.out.lt)
  replace B_y := Lib.hid (Box4.below B_y.out bb B_y.out.lt)
  replace B_z := Lib.hid (Box4.below B_z.out bb B_z.out.lt)
  replace V_x := Lib.hid (Qd.below V_x.out bb)
  replace V_y := Lib.hid (Qd.below V_y.out bb)
  replace V_z := Lib.hid (Qd.below V_z.out bb)
  replace V_tab := Lib.hid (tab_below V_tab.out bb)
  replace HB := Lib.hid (nextw HB.out bb)
  clear bb
  have c0x := B_x.out.c0
  have c1x := B_x.out.c1
  have c2x := B_x.out.c2
  have c3x := B_x.out.c3
  have c0y := B_y.out.c0
  have c1y := B_y.out.c1
  have c2y := B_y.out.c2
  have c3y := B_y.out.c3
  have c0z := B_z.out.c0
  have c1z := B_z.out.c1
  have c2z := B_z.out.c2
  have c3z := B_z.out.c3
  go_wp2_with fail
  refine (fewq_no (L := [(kx, lx), (ky, ly), (kz, lz)]) (Rats.lit _ _ _ _ (by intro i hi; rcases i with _ | _ | _ | i <;> first | exact ⟨⟨_, _, rfl⟩, ⟨_, _, rfl⟩⟩ | (simp only [List.length_cons, List.length_nil] at hi; omega))) (by simp) HM.out HF.out).mono ?_
  rintro e w2 ⟨rfl, bb⟩
  replace bb := nextw (w0 := w1) (by first | exact ⟨rfl, rfl, rfl, Nat.le_refl _, fun _ _ => rfl⟩ | exact nextw (by exact ⟨rfl, rfl, rfl, Nat.le_refl _, fun _ _ => rfl⟩) ((Below.refl _ _).alloc (Nat.le_refl _) _) | exact below_push rfl rfl rfl rfl) bb
  clear c0x c1x c2x c3x c0y c1y c2y c3y c0z c1z c2z c3z
  replace B_x := Lib.hid (Box4.below B_x.out bb B_x.out.lt)
  replace B_y := Lib.hid (Box4.below B_y.out bb B_y.out.lt)
  replace B_z := Lib.hid (Box4.below B_z.out bb B_z.out.lt)
  replace V_x := Lib.hid (Qd.below V_x.out bb)
  replace V_y := Lib.hid (Qd.below V_y.out bb)
  replace V_z := Lib.hid (Qd.below V_z.out bb)
  replace V_tab := Lib.hid (tab_below V_tab.out bb)
  replace HB := Lib.hid (nextw HB.out bb)
  clear bb
  go_wp2_with fail
  refine (awakeQ _ (tab_below V_tab.out (by exact ⟨rfl, rfl, rfl, Nat.le_refl _, fun _ _ => rfl⟩))).mono ?_
  rintro e w3 ⟨rfl, bb⟩
  replace bb := nextw (w0 := w2) (by exact ⟨rfl, rfl, rfl, Nat.le_refl _, fun _ _ => rfl⟩) bb
  replace B_x := Lib.hid (Box4.below B_x.out bb B_x.out.lt)
  replace B_y := Lib.hid (Box4.below B_y.out bb B_y.out.lt)
  replace B_z := Lib.hid (Box4.below B_z.out bb B_z.out.lt)
  replace V_x := Lib.hid (Qd.below V_x.out bb)
  replace V_y := Lib.hid (Qd.below V_y.out bb)
  replace V_z := Lib.hid (Qd.below V_z.out bb)
  replace V_tab := Lib.hid (tab_below V_tab.out bb)
  replace HB := Lib.hid (nextw HB.out bb)
  clear bb
  have HBo := HB.out
  go_wp2
  go_ret
  exact ⟨rfl, nextw HBo (by exact ⟨rfl, rfl, rfl, Nat.le_refl _, fun _ _ => rfl⟩)⟩

set_option maxRecDepth 100000 in
set_option maxHeartbeats 8000000 in
theorem Order_whole {sx : Bool} {Ax : Option Addr} {kx cx : Nat} {tx : Bool} {Cx : Option Addr} {lx dx : Nat} {rx : Rat} {qx : Nat} {sy : Bool} {Ay : Option Addr} {ky cy : Nat} {ty : Bool} {Cy : Option Addr} {ly dy : Nat} {ry : Rat} {qy : Nat} {sz : Bool} {Az : Option Addr} {kz cz : Nat} {tz : Bool} {Cz : Option Addr} {lz dz : Nat} {rz : Rat} {qz : Nat} {w : World} (hx : Qd w (.agg #[.bool sx, .slice Ax kx cx, .bool tx, .slice Cx lx dx]) rx qx) (hy : Qd w (.agg #[.bool sy, .slice Ay ky cy, .bool ty, .slice Cy ly dy]) ry qy) (hz : Qd w (.agg #[.bool sz, .slice Az kz cz, .bool tz, .slice Cz lz dz]) rz qz) (htab : Tab10 w) (hqx : qx ≤ 60) (hqy : qy ≤ 60) (hqz : qz ≤ 60) (hfew : fewSum [(kx, lx), (ky, ly), (kz, lz)] ≤ 60) (hw : rx.den = 1) :
    Calls Tryd.prog 5 #[.agg #[.bool sx, .slice Ax kx cx, .bool tx, .slice Cx lx dx], .agg #[.bool sy, .slice Ay ky cy, .bool ty, .slice Cy ly dy], .agg #[.bool sz, .slice Az kz cz, .bool tz, .slice Cz lz dz]] w fun e w' => e = .returned (.bool true) ∧ Below w.heap.size w w' := by
  have V_x := Lib.hid hx
  have V_y := Lib.hid hy
  have V_z := Lib.hid hz
  have V_tab := Lib.hid htab
  have HF := Lib.hid hfew
  have HW := Lib.hid hw
  clear hx hy hz htab hfew hw
  have hb0 : Below w.heap.size w (((w.alloc (.cells #[.bool sx, (.slice Ax kx cx), .bool tx, (.slice Cx lx dx)] 38)).alloc (.cells #[.bool sy, (.slice Ay ky cy), .bool ty, (.slice Cy ly dy)] 38)).alloc (.cells #[.bool sz, (.slice Az kz cz), .bool tz, (.slice Cz lz dz)] 38)) := (Below.alloc (Below.alloc (Below.alloc (Below.refl w.heap.size w) (by simp <;> omega) _) (by simp <;> omega) _) (by simp <;> omega) _)
  have B_x : Box4 (((w.alloc (.cells #[.bool sx, (.slice Ax kx cx), .bool tx, (.slice Cx lx dx)] 38)).alloc (.cells #[.bool sy, (.slice Ay ky cy), .bool ty, (.slice Cy ly dy)] 38)).alloc (.cells #[.bool sz, (.slice Az kz cz), .bool tz, (.slice Cz lz dz)] 38)) (w.heap.size) sx (.slice Ax kx cx) tx (.slice Cx lx dx) := by have h := Box4.alloc (Box4.alloc (Box4.new w sx (.slice Ax kx cx) tx (.slice Cx lx dx)) (.cells #[.bool sy, (.slice Ay ky cy), .bool ty, (.slice Cy ly dy)] 38)) (.cells #[.bool sz, (.slice Az kz cz), .bool tz, (.slice Cz lz dz)] 38); simpa using h
  replace B_x := Lib.hid B_x
  have B_y : Box4 (((w.alloc (.cells #[.bool sx, (.slice Ax kx cx), .bool tx, (.slice Cx lx dx)] 38)).alloc (.cells #[.bool sy, (.slice Ay ky cy), .bool ty, (.slice Cy ly dy)] 38)).alloc (.cells #[.bool sz, (.slice Az kz cz), .bool tz, (.slice Cz lz dz)] 38)) (w.heap.size + 1) sy (.slice Ay ky cy) ty (.slice Cy ly dy) := by have h := Box4.alloc (Box4.new (w.alloc (.cells #[.bool sx, (.slice Ax kx cx), .bool tx, (.slice Cx lx dx)] 38)) sy (.slice Ay ky cy) ty (.slice Cy ly dy)) (.cells #[.bool sz, (.slice Az kz cz), .bool tz, (.slice Cz lz dz)] 38); simpa using h
  replace B_y := Lib.hid B_y
  have B_z : Box4 (((w.alloc (.cells #[.bool sx, (.slice Ax kx cx), .bool tx, (.slice Cx lx dx)] 38)).alloc (.cells #[.bool sy, (.slice Ay ky cy), .bool ty, (.slice Cy ly dy)] 38)).alloc (.cells #[.bool sz, (.slice Az kz cz), .bool tz, (.slice Cz lz dz)] 38)) (w.heap.size + 1 + 1) sz (.slice Az kz cz) tz (.slice Cz lz dz) := by have h := Box4.new ((w.alloc (.cells #[.bool sx, (.slice Ax kx cx), .bool tx, (.slice Cx lx dx)] 38)).alloc (.cells #[.bool sy, (.slice Ay ky cy), .bool ty, (.slice Cy ly dy)] 38)) sz (.slice Az kz cz) tz (.slice Cz lz dz); simpa using h
  replace B_z := Lib.hid B_z
  replace V_x := Lib.hid (Qd.below V_x.out hb0)
  replace V_y := Lib.hid (Qd.below V_y.out hb0)
  replace V_z := Lib.hid (Qd.below V_z.out hb0)
  replace V_tab := Lib.hid (tab_below V_tab.out hb0)
  have HB := Lib.hid hb0
  clear hb0
  have c0x := B_x.out.c0
  have c1x := B_x.out.c1
  have c2x := B_x.out.c2
  have c3x := B_x.out.c3
  have c0y := B_y.out.c0
  have c1y := B_y.out.c1
  have c2y := B_y.out.c2
  have c3y := B_y.out.c3
  have c0z := B_z.out.c0
  have c1z := B_z.out.c1
  have c2z := B_z.out.c2
  have c3z := B_z.out.c3
  go_enter Tryd.func5, Tryd.ntmps5
  go_wp2_with fail
  clear c0x c1x c2x c3x c0y c1y c2y c3y c0z c1z c2z c3z
  generalize ((w.alloc (.cells #[.bool sx, (.slice Ax kx cx), .bool tx, (.slice Cx lx dx)] 38)).alloc (.cells #[.bool sy, (.slice Ay ky cy), .bool ty, (.slice Cy ly dy)] 38)).alloc (.cells #[.bool sz, (.slice Az kz cz), .bool tz, (.slice Cz lz dz)] 38) = W0 at *
  refine (awakeQ _ (tab_below V_tab.out (by exact ⟨rfl, rfl, rfl, Nat.le_refl _, fun _ _ => rfl⟩))).mono ?_
  rintro e w1 ⟨rfl, bb⟩
  replace bb := nextw (w0 := W0) (by exact ⟨rfl, rfl, rfl, Nat.le_refl _, fun _ _ => rfl⟩) bb
  replace B_x := Lib.hid (Box4.below B_x.out bb B_x.out.lt)
  replace B_y := Lib.hid (Box4.below B_y.out bb B_y.out.lt)
  replace B_z := Lib.hid (Box4.below B_z.out bb B_z.out.lt)
  replace V_x := Lib.hid (Qd.below V_x.out bb)
  replace V_y := Lib.hid (Qd.below V_y.out bb)
  replace V_z := Lib.hid (Qd.below V_z.out bb)
  replace V_tab := Lib.hid (tab_below V_tab.out bb)
  replace HB := Lib.hid (nextw HB.out bb)
  clear bb
  have c0x := B_x.out.c0
  have c1x := B_x.out.c1
  have c2x := B_x.out.c2
  have c3x := B_x.out.c3
  have c0y := B_y.out.c0
  have c1y := B_y.out.c1
  have c2y := B_y.out.c2
  have c3y := B_y.out.c3
  have c0z := B_z.out.c0
  have c1z := B_z.out.c1
  have c2z := B_z.out.c2
  have c3z := B_z.out.c3
  go_wp2_with fail
  refine (fewq_yes (L := [(kx, lx), (ky, ly), (kz, lz)]) (Rats.lit _ _ _ _ (by intro i hi; rcases i with _ | _ | _ | i <;> first | exact ⟨⟨_, _, rfl⟩, ⟨_, _, rfl⟩⟩ | (simp only [List.length_cons, List.length_nil] at hi; omega))) (by simp) HF.out).mono ?_
  rintro e w2 ⟨rfl, bb⟩
  replace bb := nextw (w0 := w1) (by first | exact ⟨rfl, rfl, rfl, Nat.le_refl _, fun _ _ => rfl⟩ | exact nextw (by exact ⟨rfl, rfl, rfl, Nat.le_refl _, fun _ _ => rfl⟩) ((Below.refl _ _).alloc (Nat.le_refl _) _) | exact below_push rfl rfl rfl rfl) bb
  clear c0x c1x c2x c3x c0y c1y c2y c3y c0z c1z c2z c3z
  replace B_x := Lib.hid (Box4.below B_x.out bb B_x.out.lt)
  replace B_y := Lib.hid (Box4.below B_y.out bb B_y.out.lt)
  replace B_z := Lib.hid (Box4.below B_z.out bb B_z.out.lt)
  replace V_x := Lib.hid (Qd.below V_x.out bb)
  replace V_y := Lib.hid (Qd.below V_y.out bb)
  replace V_z := Lib.hid (Qd.below V_z.out bb)
  replace V_tab := Lib.hid (tab_below V_tab.out bb)
  replace HB := Lib.hid (nextw HB.out bb)
  clear bb
  obtain ⟨n, hn⟩ : ∃ n, cmpQ rx ry = n := ⟨_, rfl⟩
  obtain ⟨sg, hsg⟩ : ∃ n, sgnQ rz = n := ⟨_, rfl⟩
  have hr := cmpQ_range rx ry
  have hr2 := cmpQ_range rz 0
  have h1 := cmpQ_swap rx ry
  have h2 := cmp_add rx ry rz
  have h3 := cmp_mul rx ry rz
  change _ ≤ sgnQ rz ∧ sgnQ rz ≤ _ at hr2
  rw [hn] at hr h1 h2 h3
  rw [hsg] at hr2 h3
  have HN := Lib.hid hn
  have HSG := Lib.hid hsg
  have H1 := Lib.hid h1
  have H2 := Lib.hid h2
  have H3 := Lib.hid h3
  clear hn hsg h1 h2 h3
  have hn1 : decide (n < -1) = false := decide_eq_false (by omega)
  have hn2 : decide ((1 : Int) < n) = false := decide_eq_false (by omega)
  have hw1 : IntKind.i64.wrap (-n) = -n := IntWalk.i64_in _ (by omega)
  have hw2 : IntKind.i64.wrap (n * sg) = n * sg := by
    refine IntWalk.i64_in _ ?_
    have : sg = -1 ∨ sg = 0 ∨ sg = 1 := by omega
    rcases this with rfl | rfl | rfl <;> omega
  have c0x := B_x.out.c0
  have c1x := B_x.out.c1
  have c2x := B_x.out.c2
  have c3x := B_x.out.c3
  have c0y := B_y.out.c0
  have c1y := B_y.out.c1
  have c2y := B_y.out.c2
  have c3y := B_y.out.c3
  have c0z := B_z.out.c0
  have c1z := B_z.out.c1
  have c2z := B_z.out.c2
  have c3z := B_z.out.c3
  go_wp2_with fail
  refine (Cmp_as (Qd.below V_x.out (by exact ⟨rfl, rfl, rfl, Nat.le_refl _, fun _ _ => rfl⟩)) (Qd.below V_y.out (by exact ⟨rfl, rfl, rfl, Nat.le_refl _, fun _ _ => rfl⟩)) (by omega) (by omega) HN.out).mono ?_
  rintro e w3 ⟨rfl, bb⟩
  replace bb := nextw (w0 := w2) (by exact ⟨rfl, rfl, rfl, Nat.le_refl _, fun _ _ => rfl⟩) bb
  clear c0x c1x c2x c3x c0y c1y c2y c3y c0z c1z c2z c3z
  replace B_x := Lib.hid (Box4.below B_x.out bb B_x.out.lt)
  replace B_y := Lib.hid (Box4.below B_y.out bb B_y.out.lt)
  replace B_z := Lib.hid (Box4.below B_z.out bb B_z.out.lt)
  replace V_x := Lib.hid (Qd.below V_x.out bb)
  replace V_y := Lib.hid (Qd.below V_y.out bb)
  replace V_z := Lib.hid (Qd.below V_z.out bb)
  replace V_tab := Lib.hid (tab_below V_tab.out bb)
  replace HB := Lib.hid (nextw HB.out bb)
  clear bb
  have c0x := B_x.out.c0
  have c1x := B_x.out.c1
  have c2x := B_x.out.c2
  have c3x := B_x.out.c3
  have c0y := B_y.out.c0
  have c1y := B_y.out.c1
  have c2y := B_y.out.c2
  have c3y := B_y.out.c3
  have c0z := B_z.out.c0
  have c1z := B_z.out.c1
  have c2z := B_z.out.c2
  have c3z := B_z.out.c3
  go_wp2
  have c0x := B_x.out.c0
  have c1x := B_x.out.c1
  have c2x := B_x.out.c2
  have c3x := B_x.out.c3
  have c0y := B_y.out.c0
  have c1y := B_y.out.c1
  have c2y := B_y.out.c2
  have c3y := B_y.out.c3
  have c0z := B_z.out.c0
  have c1z := B_z.out.c1
  have c2z := B_z.out.c2
  have c3z := B_z.out.c3
  have tk0 : True := trivial
  first | (go_region_held3 (fun w' => w'.cell? ⟨w.heap.size, 0, none⟩ = some (.bool sx) ∧ w'.cell? ⟨w.heap.size, 1, none⟩ = some (.slice Ax kx cx) ∧ w'.cell? ⟨w.heap.size, 2, none⟩ = some (.bool tx) ∧ w'.cell? ⟨w.heap.size, 3, none⟩ = some (.slice Cx lx dx) ∧ w'.cell? ⟨w.heap.size + 1, 0, none⟩ = some (.bool sy) ∧ w'.cell? ⟨w.heap.size + 1, 1, none⟩ = some (.slice Ay ky cy) ∧ w'.cell? ⟨w.heap.size + 1, 2, none⟩ = some (.bool ty) ∧ w'.cell? ⟨w.heap.size + 1, 3, none⟩ = some (.slice Cy ly dy) ∧ w'.cell? ⟨w.heap.size + 1 + 1, 0, none⟩ = some (.bool sz) ∧ w'.cell? ⟨w.heap.size + 1 + 1, 1, none⟩ = some (.slice Az kz cz) ∧ w'.cell? ⟨w.heap.size + 1 + 1, 2, none⟩ = some (.bool tz) ∧ w'.cell? ⟨w.heap.size + 1 + 1, 3, none⟩ = some (.slice Cz lz dz)) (((try dsimp only); (repeat' apply And.intro) <;> (first | (with_reducible assumption) | ((repeat (first | (with_reducible refine Eq.trans (cell_drew1 _ _) ?_) | (with_reducible refine Eq.trans (cell_set4 (by omega) _ _ _ _) ?_))); with_reducible assumption) | assumption | go_keep)))
    (first
      | (have _t := tk0; clear _t tk0; go_at_call 25; refine (Cmp_as (Qd.below V_y.out (by exact ⟨rfl, rfl, rfl, Nat.le_refl _, fun _ _ => rfl⟩)) (Qd.below V_x.out (by exact ⟨rfl, rfl, rfl, Nat.le_refl _, fun _ _ => rfl⟩)) (by omega) (by omega) H1.out).mono ?_; rintro e w4 ⟨rfl, bb⟩; replace bb := nextw (w0 := w3) (by exact ⟨rfl, rfl, rfl, Nat.le_refl _, fun _ _ => rfl⟩) bb; replace B_x := Lib.hid (Box4.below B_x.out bb B_x.out.lt); replace B_y := Lib.hid (Box4.below B_y.out bb B_y.out.lt); replace B_z := Lib.hid (Box4.below B_z.out bb B_z.out.lt); replace V_x := Lib.hid (Qd.below V_x.out bb); replace V_y := Lib.hid (Qd.below V_y.out bb); replace V_z := Lib.hid (Qd.below V_z.out bb); replace V_tab := Lib.hid (tab_below V_tab.out bb); replace HB := Lib.hid (nextw HB.out bb); clear bb; have c0x := B_x.out.c0; have c1x := B_x.out.c1; have c2x := B_x.out.c2; have c3x := B_x.out.c3; have c0y := B_y.out.c0; have c1y := B_y.out.c1; have c2y := B_y.out.c2; have c3y := B_y.out.c3; have c0z := B_z.out.c0; have c1z := B_z.out.c1; have c2z := B_z.out.c2; have c3z := B_z.out.c3; have tk1 : True := trivial)
      | (have _t := tk1; clear _t tk1; go_at_call 18; refine (Add_q (Qd.below V_x.out (by exact ⟨rfl, rfl, rfl, Nat.le_refl _, fun _ _ => rfl⟩)) (Qd.below V_z.out (by exact ⟨rfl, rfl, rfl, Nat.le_refl _, fun _ _ => rfl⟩)) (by omega) (by omega)).mono ?_; rintro e w5 ⟨va1, rfl, ra1, bb⟩; replace bb := nextw (w0 := w4) (by exact ⟨rfl, rfl, rfl, Nat.le_refl _, fun _ _ => rfl⟩) bb; replace B_x := Lib.hid (Box4.below B_x.out bb B_x.out.lt); replace B_y := Lib.hid (Box4.below B_y.out bb B_y.out.lt); replace B_z := Lib.hid (Box4.below B_z.out bb B_z.out.lt); replace V_x := Lib.hid (Qd.below V_x.out bb); replace V_y := Lib.hid (Qd.below V_y.out bb); replace V_z := Lib.hid (Qd.below V_z.out bb); replace V_tab := Lib.hid (tab_below V_tab.out bb); replace HB := Lib.hid (nextw HB.out bb); clear bb; replace ra1 := Lib.hid ra1; have V_a1 := ra1; clear ra1; have c0x := B_x.out.c0; have c1x := B_x.out.c1; have c2x := B_x.out.c2; have c3x := B_x.out.c3; have c0y := B_y.out.c0; have c1y := B_y.out.c1; have c2y := B_y.out.c2; have c3y := B_y.out.c3; have c0z := B_z.out.c0; have c1z := B_z.out.c1; have c2z := B_z.out.c2; have c3z := B_z.out.c3; have tk2 : True := trivial)
      | (have _t := tk2; clear _t tk2; go_at_call 18; refine (Add_q (Qd.below V_y.out (by exact ⟨rfl, rfl, rfl, Nat.le_refl _, fun _ _ => rfl⟩)) (Qd.below V_z.out (by exact ⟨rfl, rfl, rfl, Nat.le_refl _, fun _ _ => rfl⟩)) (by omega) (by omega)).mono ?_; rintro e w6 ⟨va2, rfl, ra2, bb⟩; replace bb := nextw (w0 := w5) (by exact ⟨rfl, rfl, rfl, Nat.le_refl _, fun _ _ => rfl⟩) bb; replace B_x := Lib.hid (Box4.below B_x.out bb B_x.out.lt); replace B_y := Lib.hid (Box4.below B_y.out bb B_y.out.lt); replace B_z := Lib.hid (Box4.below B_z.out bb B_z.out.lt); replace V_x := Lib.hid (Qd.below V_x.out bb); replace V_y := Lib.hid (Qd.below V_y.out bb); replace V_z := Lib.hid (Qd.below V_z.out bb); replace V_tab := Lib.hid (tab_below V_tab.out bb); replace V_a1 := Lib.hid (Qc.below V_a1.out bb); replace HB := Lib.hid (nextw HB.out bb); clear bb; replace ra2 := Lib.hid ra2; have V_a2 := ra2; clear ra2; have c0x := B_x.out.c0; have c1x := B_x.out.c1; have c2x := B_x.out.c2; have c3x := B_x.out.c3; have c0y := B_y.out.c0; have c1y := B_y.out.c1; have c2y := B_y.out.c2; have c3y := B_y.out.c3; have c0z := B_z.out.c0; have c1z := B_z.out.c1; have c2z := B_z.out.c2; have c3z := B_z.out.c3; have tk3 : True := trivial)
      | (have _t := tk3; clear _t tk3; go_at_call 25; refine (Cmp_as (Qc.qd (Qc.below V_a1.out (by exact ⟨rfl, rfl, rfl, Nat.le_refl _, fun _ _ => rfl⟩))) (Qc.qd (Qc.below V_a2.out (by exact ⟨rfl, rfl, rfl, Nat.le_refl _, fun _ _ => rfl⟩))) (by omega) (by omega) H2.out).mono ?_; rintro e w7 ⟨rfl, bb⟩; replace bb := nextw (w0 := w6) (by exact ⟨rfl, rfl, rfl, Nat.le_refl _, fun _ _ => rfl⟩) bb; clear V_a1 V_a2; replace B_x := Lib.hid (Box4.below B_x.out bb B_x.out.lt); replace B_y := Lib.hid (Box4.below B_y.out bb B_y.out.lt); replace B_z := Lib.hid (Box4.below B_z.out bb B_z.out.lt); replace V_x := Lib.hid (Qd.below V_x.out bb); replace V_y := Lib.hid (Qd.below V_y.out bb); replace V_z := Lib.hid (Qd.below V_z.out bb); replace V_tab := Lib.hid (tab_below V_tab.out bb); replace HB := Lib.hid (nextw HB.out bb); clear bb; have c0x := B_x.out.c0; have c1x := B_x.out.c1; have c2x := B_x.out.c2; have c3x := B_x.out.c3; have c0y := B_y.out.c0; have c1y := B_y.out.c1; have c2y := B_y.out.c2; have c3y := B_y.out.c3; have c0z := B_z.out.c0; have c1z := B_z.out.c1; have c2z := B_z.out.c2; have c3z := B_z.out.c3; have tk4 : True := trivial)
      | (have _t := tk4; clear _t tk4; go_at_call 19; refine (Mul_q (Qd.below V_x.out (by exact ⟨rfl, rfl, rfl, Nat.le_refl _, fun _ _ => rfl⟩)) (Qd.below V_z.out (by exact ⟨rfl, rfl, rfl, Nat.le_refl _, fun _ _ => rfl⟩)) (by omega) (by omega)).mono ?_; rintro e w8 ⟨vb1, rfl, rb1, bb⟩; replace bb := nextw (w0 := w7) (by exact ⟨rfl, rfl, rfl, Nat.le_refl _, fun _ _ => rfl⟩) bb; replace B_x := Lib.hid (Box4.below B_x.out bb B_x.out.lt); replace B_y := Lib.hid (Box4.below B_y.out bb B_y.out.lt); replace B_z := Lib.hid (Box4.below B_z.out bb B_z.out.lt); replace V_x := Lib.hid (Qd.below V_x.out bb); replace V_y := Lib.hid (Qd.below V_y.out bb); replace V_z := Lib.hid (Qd.below V_z.out bb); replace V_tab := Lib.hid (tab_below V_tab.out bb); replace HB := Lib.hid (nextw HB.out bb); clear bb; replace rb1 := Lib.hid rb1; have V_b1 := rb1; clear rb1; have c0x := B_x.out.c0; have c1x := B_x.out.c1; have c2x := B_x.out.c2; have c3x := B_x.out.c3; have c0y := B_y.out.c0; have c1y := B_y.out.c1; have c2y := B_y.out.c2; have c3y := B_y.out.c3; have c0z := B_z.out.c0; have c1z := B_z.out.c1; have c2z := B_z.out.c2; have c3z := B_z.out.c3; have tk5 : True := trivial)
      | (have _t := tk5; clear _t tk5; go_at_call 19; refine (Mul_q (Qd.below V_y.out (by exact ⟨rfl, rfl, rfl, Nat.le_refl _, fun _ _ => rfl⟩)) (Qd.below V_z.out (by exact ⟨rfl, rfl, rfl, Nat.le_refl _, fun _ _ => rfl⟩)) (by omega) (by omega)).mono ?_; rintro e w9 ⟨vb2, rfl, rb2, bb⟩; replace bb := nextw (w0 := w8) (by exact ⟨rfl, rfl, rfl, Nat.le_refl _, fun _ _ => rfl⟩) bb; replace B_x := Lib.hid (Box4.below B_x.out bb B_x.out.lt); replace B_y := Lib.hid (Box4.below B_y.out bb B_y.out.lt); replace B_z := Lib.hid (Box4.below B_z.out bb B_z.out.lt); replace V_x := Lib.hid (Qd.below V_x.out bb); replace V_y := Lib.hid (Qd.below V_y.out bb); replace V_z := Lib.hid (Qd.below V_z.out bb); replace V_tab := Lib.hid (tab_below V_tab.out bb); replace V_b1 := Lib.hid (Qc.below V_b1.out bb); replace HB := Lib.hid (nextw HB.out bb); clear bb; replace rb2 := Lib.hid rb2; have V_b2 := rb2; clear rb2; have c0x := B_x.out.c0; have c1x := B_x.out.c1; have c2x := B_x.out.c2; have c3x := B_x.out.c3; have c0y := B_y.out.c0; have c1y := B_y.out.c1; have c2y := B_y.out.c2; have c3y := B_y.out.c3; have c0z := B_z.out.c0; have c1z := B_z.out.c1; have c2z := B_z.out.c2; have c3z := B_z.out.c3; have tk6 : True := trivial)
      | (have _t := tk6; clear _t tk6; go_at_call 25; refine (Cmp_as (Qc.qd (Qc.below V_b1.out (by exact ⟨rfl, rfl, rfl, Nat.le_refl _, fun _ _ => rfl⟩))) (Qc.qd (Qc.below V_b2.out (by exact ⟨rfl, rfl, rfl, Nat.le_refl _, fun _ _ => rfl⟩))) (by omega) (by omega) H3.out).mono ?_; rintro e w10 ⟨rfl, bb⟩; replace bb := nextw (w0 := w9) (by exact ⟨rfl, rfl, rfl, Nat.le_refl _, fun _ _ => rfl⟩) bb; clear V_b1 V_b2; replace B_x := Lib.hid (Box4.below B_x.out bb B_x.out.lt); replace B_y := Lib.hid (Box4.below B_y.out bb B_y.out.lt); replace B_z := Lib.hid (Box4.below B_z.out bb B_z.out.lt); replace V_x := Lib.hid (Qd.below V_x.out bb); replace V_y := Lib.hid (Qd.below V_y.out bb); replace V_z := Lib.hid (Qd.below V_z.out bb); replace V_tab := Lib.hid (tab_below V_tab.out bb); replace HB := Lib.hid (nextw HB.out bb); clear bb; have c0x := B_x.out.c0; have c1x := B_x.out.c1; have c2x := B_x.out.c2; have c3x := B_x.out.c3; have c0y := B_y.out.c0; have c1y := B_y.out.c1; have c2y := B_y.out.c2; have c3y := B_y.out.c3; have c0z := B_z.out.c0; have c1z := B_z.out.c1; have c2z := B_z.out.c2; have c3z := B_z.out.c3; have tk7 : True := trivial)
      | (have _t := tk7; clear _t tk7; go_at_call 24; refine (Sign_as (Qd.below V_z.out (by exact ⟨rfl, rfl, rfl, Nat.le_refl _, fun _ _ => rfl⟩)) (by omega) HSG.out).mono ?_; rintro e w11 ⟨rfl, bb⟩; replace bb := nextw (w0 := w10) (by exact ⟨rfl, rfl, rfl, Nat.le_refl _, fun _ _ => rfl⟩) bb; replace B_x := Lib.hid (Box4.below B_x.out bb B_x.out.lt); replace B_y := Lib.hid (Box4.below B_y.out bb B_y.out.lt); replace B_z := Lib.hid (Box4.below B_z.out bb B_z.out.lt); replace V_x := Lib.hid (Qd.below V_x.out bb); replace V_y := Lib.hid (Qd.below V_y.out bb); replace V_z := Lib.hid (Qd.below V_z.out bb); replace V_tab := Lib.hid (tab_below V_tab.out bb); replace HB := Lib.hid (nextw HB.out bb); clear bb; have c0x := B_x.out.c0; have c1x := B_x.out.c1; have c2x := B_x.out.c2; have c3x := B_x.out.c3; have c0y := B_y.out.c0; have c1y := B_y.out.c1; have c2y := B_y.out.c2; have c3y := B_y.out.c3; have c0z := B_z.out.c0; have c1z := B_z.out.c1; have c2z := B_z.out.c2; have c3z := B_z.out.c3; have tk8 : True := trivial))) | fail
  clear hn1 hn2 hw1 hw2 hr hr2 H1 H2 H3 HN HSG V_z
  have c0x := B_x.out.c0
  have c1x := B_x.out.c1
  have c2x := B_x.out.c2
  have c3x := B_x.out.c3
  go_wp2_with fail
  refine (Floor_q (Qd.below V_x.out (by exact ⟨rfl, rfl, rfl, Nat.le_refl _, fun _ _ => rfl⟩)) (by omega)).mono ?_
  rintro e w12 ⟨vf, rfl, rf, bb⟩
  replace bb := nextw (w0 := w11) (by exact ⟨rfl, rfl, rfl, Nat.le_refl _, fun _ _ => rfl⟩) bb
  clear c0x c1x c2x c3x
  replace B_x := Lib.hid (Box4.below B_x.out bb B_x.out.lt)
  replace B_y := Lib.hid (Box4.below B_y.out bb B_y.out.lt)
  replace B_z := Lib.hid (Box4.below B_z.out bb B_z.out.lt)
  replace V_x := Lib.hid (Qd.below V_x.out bb)
  replace V_y := Lib.hid (Qd.below V_y.out bb)
  replace V_tab := Lib.hid (tab_below V_tab.out bb)
  replace HB := Lib.hid (nextw HB.out bb)
  clear bb
  obtain ⟨sf, Af, kf, cf, rfl⟩ := rf.shape
  have V_f := Lib.hid rf
  have hkf := V_f.out.len
  clear rf
  have hk200 : ¬ (200 : Int) < (kf : Int) := by omega
  have hbA : Below w12.heap.size w12 (w12.alloc (.cells #[.int .u32 1] 35)) := (Below.refl _ _).alloc (Nat.le_refl _) _
  have hbB : Below (w12.alloc (.cells #[.int .u32 1] 35)).heap.size (w12.alloc (.cells #[.int .u32 1] 35)) ((w12.alloc (.cells #[.int .u32 1] 35)).alloc (.cells #[.bool sf, (.slice Af kf cf), .bool false, (.slice (some ⟨w12.heap.size, 0, none⟩) 1 1)] 38)) := (Below.refl _ _).alloc (Nat.le_refl _) _
  have B_lo : Box4 ((w12.alloc (.cells #[.int .u32 1] 35)).alloc (.cells #[.bool sf, (.slice Af kf cf), .bool false, (.slice (some ⟨w12.heap.size, 0, none⟩) 1 1)] 38)) (w12.heap.size + 1) sf (.slice Af kf cf) false (.slice (some ⟨w12.heap.size, 0, none⟩) 1 1) := by have h := Box4.new (w12.alloc (.cells #[.int .u32 1] 35)) sf (.slice Af kf cf) false (.slice (some ⟨w12.heap.size, 0, none⟩) 1 1); simpa using h
  replace B_lo := Lib.hid B_lo
  have V_lo : Qd ((w12.alloc (.cells #[.int .u32 1] 35)).alloc (.cells #[.bool sf, (.slice Af kf cf), .bool false, (.slice (some ⟨w12.heap.size, 0, none⟩) 1 1)] 38)) (.agg #[.bool sf, (.slice Af kf cf), .bool false, (.slice (some ⟨w12.heap.size, 0, none⟩) 1 1)]) (Rat.divInt rx.floor 1) (qx + 2) := (Fd.mk (((Rc.rd (Rc.below V_f.out hbA)).below hbB)) (((Rd.one (w := w12) rfl).more (by omega)).below hbB)).qd
  replace V_lo := Lib.hid V_lo
  have hbC := nextw hbA hbB
  clear V_f
  replace B_x := Lib.hid (Box4.below B_x.out hbC B_x.out.lt)
  replace B_y := Lib.hid (Box4.below B_y.out hbC B_y.out.lt)
  replace B_z := Lib.hid (Box4.below B_z.out hbC B_z.out.lt)
  replace V_x := Lib.hid (Qd.below V_x.out hbC)
  replace V_y := Lib.hid (Qd.below V_y.out hbC)
  replace V_tab := Lib.hid (tab_below V_tab.out hbC)
  replace HB := Lib.hid (nextw HB.out hbC)
  clear hbA hbB hbC
  have c0x := B_x.out.c0
  have c1x := B_x.out.c1
  have c2x := B_x.out.c2
  have c3x := B_x.out.c3
  have c0lo := B_lo.out.c0
  have c1lo := B_lo.out.c1
  have c2lo := B_lo.out.c2
  have c3lo := B_lo.out.c3
  go_wp2_with fail
  clear c0x c1x c2x c3x c0lo c1lo c2lo c3lo
  generalize (w12.alloc (.cells #[.int .u32 1] 35)).alloc (.cells #[.bool sf, (.slice Af kf cf), .bool false, (.slice (some ⟨w12.heap.size, 0, none⟩) 1 1)] 38) = W3 at *
  refine (Whole_yes (Qd.below V_x.out (by exact ⟨rfl, rfl, rfl, Nat.le_refl _, fun _ _ => rfl⟩)) (by omega) HW.out).mono ?_
  rintro e w13 ⟨vq, rfl, rq, bb⟩
  replace bb := nextw (w0 := W3) (by exact ⟨rfl, rfl, rfl, Nat.le_refl _, fun _ _ => rfl⟩) bb
  replace B_x := Lib.hid (Box4.below B_x.out bb B_x.out.lt)
  replace B_y := Lib.hid (Box4.below B_y.out bb B_y.out.lt)
  replace B_z := Lib.hid (Box4.below B_z.out bb B_z.out.lt)
  replace B_lo := Lib.hid (Box4.below B_lo.out bb B_lo.out.lt)
  replace V_x := Lib.hid (Qd.below V_x.out bb)
  replace V_y := Lib.hid (Qd.below V_y.out bb)
  replace V_tab := Lib.hid (tab_below V_tab.out bb)
  replace V_lo := Lib.hid (Qd.below V_lo.out bb)
  replace HB := Lib.hid (nextw HB.out bb)
  clear bb
  obtain ⟨sq, Aq, kq, cq, rfl⟩ := rq.shape
  clear rq
  have hb0 : Below w13.heap.size w13 (w13.alloc (.cells #[.bool sq, (.slice Aq kq cq)] 24)) := (Below.alloc (Below.refl w13.heap.size w13) (by simp <;> omega) _)
  have B_q : Box (w13.alloc (.cells #[.bool sq, (.slice Aq kq cq)] 24)) (w13.heap.size) sq (.slice Aq kq cq) := by have h := Box.new w13 sq (.slice Aq kq cq); simpa using h
  replace B_q := Lib.hid B_q
  replace B_x := Lib.hid (Box4.below B_x.out hb0 B_x.out.lt)
  replace B_y := Lib.hid (Box4.below B_y.out hb0 B_y.out.lt)
  replace B_z := Lib.hid (Box4.below B_z.out hb0 B_z.out.lt)
  replace B_lo := Lib.hid (Box4.below B_lo.out hb0 B_lo.out.lt)
  replace V_x := Lib.hid (Qd.below V_x.out hb0)
  replace V_y := Lib.hid (Qd.below V_y.out hb0)
  replace V_tab := Lib.hid (tab_below V_tab.out hb0)
  replace V_lo := Lib.hid (Qd.below V_lo.out hb0)
  replace HB := Lib.hid (nextw HB.out hb0)
  clear hb0
  have c0x := B_x.out.c0
  have c1x := B_x.out.c1
  have c2x := B_x.out.c2
  have c3x := B_x.out.c3
  have c0lo := B_lo.out.c0
  have c1lo := B_lo.out.c1
  have c2lo := B_lo.out.c2
  have c3lo := B_lo.out.c3
  have hm := (floor_whole rx).2 HW.out
  have hz : cmpQ rx (Rat.divInt rx.floor 1 + Rat.divInt 1 1) < 0 := cmp_floor1 rx
  have HM := Lib.hid hm
  clear hm
  obtain ⟨m2, hm2⟩ : ∃ m, cmpQ rx (Rat.divInt rx.floor 1 + Rat.divInt 1 1) = m := ⟨_, rfl⟩
  rw [hm2] at hz
  have hz2 : decide (m2 < 0) = true := decide_eq_true hz
  clear hz
  have HM2 := Lib.hid hm2
  clear hm2
  go_wp2
  clear c0x c1x c2x c3x c0lo c1lo c2lo c3lo
  generalize w13.alloc (.cells #[.bool sq, (.slice Aq kq cq)] 24) = W4 at *
  have c0x := B_x.out.c0
  have c1x := B_x.out.c1
  have c2x := B_x.out.c2
  have c3x := B_x.out.c3
  have c0lo := B_lo.out.c0
  have c1lo := B_lo.out.c1
  have c2lo := B_lo.out.c2
  have c3lo := B_lo.out.c3
  have tk0 : True := trivial
  first | (go_region_held3 (fun w' => w'.cell? ⟨w.heap.size, 0, none⟩ = some (.bool sx) ∧ w'.cell? ⟨w.heap.size, 1, none⟩ = some (.slice Ax kx cx) ∧ w'.cell? ⟨w.heap.size, 2, none⟩ = some (.bool tx) ∧ w'.cell? ⟨w.heap.size, 3, none⟩ = some (.slice Cx lx dx) ∧ w'.cell? ⟨w12.heap.size + 1, 0, none⟩ = some (.bool sf) ∧ w'.cell? ⟨w12.heap.size + 1, 1, none⟩ = some (.slice Af kf cf) ∧ w'.cell? ⟨w12.heap.size + 1, 2, none⟩ = some (.bool false) ∧ w'.cell? ⟨w12.heap.size + 1, 3, none⟩ = some (.slice (some ⟨w12.heap.size, 0, none⟩) 1 1)) (((try dsimp only); (repeat' apply And.intro) <;> (first | (with_reducible assumption) | ((repeat (first | (with_reducible refine Eq.trans (cell_drew1 _ _) ?_) | (with_reducible refine Eq.trans (cell_set4 (by omega) _ _ _ _) ?_))); with_reducible assumption) | assumption | go_keep)))
    (first
      | (have _t := tk0; clear _t tk0; go_at_call 25; refine (Cmp_as (Qd.below V_lo.out (by exact ⟨rfl, rfl, rfl, Nat.le_refl _, fun _ _ => rfl⟩)) (Qd.below V_x.out (by exact ⟨rfl, rfl, rfl, Nat.le_refl _, fun _ _ => rfl⟩)) (by omega) (by omega) HM.out).mono ?_; rintro e w14 ⟨rfl, bb⟩; replace bb := nextw (w0 := W4) (by exact ⟨rfl, rfl, rfl, Nat.le_refl _, fun _ _ => rfl⟩) bb; clear V_y; replace B_x := Lib.hid (Box4.below B_x.out bb B_x.out.lt); replace B_y := Lib.hid (Box4.below B_y.out bb B_y.out.lt); replace B_z := Lib.hid (Box4.below B_z.out bb B_z.out.lt); replace B_lo := Lib.hid (Box4.below B_lo.out bb B_lo.out.lt); replace B_q := Lib.hid (Box.below B_q.out bb B_q.out.lt); replace V_x := Lib.hid (Qd.below V_x.out bb); replace V_tab := Lib.hid (tab_below V_tab.out bb); replace V_lo := Lib.hid (Qd.below V_lo.out bb); replace HB := Lib.hid (nextw HB.out bb); clear bb; have c0x := B_x.out.c0; have c1x := B_x.out.c1; have c2x := B_x.out.c2; have c3x := B_x.out.c3; have c0lo := B_lo.out.c0; have c1lo := B_lo.out.c1; have c2lo := B_lo.out.c2; have c3lo := B_lo.out.c3; have tk1 : True := trivial)
      | (have _t := tk1; clear _t tk1; go_at_call 28; refine (Of_q 1 1 (by omega) (by omega) (by omega) (by omega)).mono ?_; rintro e w15 ⟨v1, rfl, r1, bb⟩; replace bb := nextw (w0 := w14) (by exact ⟨rfl, rfl, rfl, Nat.le_refl _, fun _ _ => rfl⟩) bb; replace B_x := Lib.hid (Box4.below B_x.out bb B_x.out.lt); replace B_y := Lib.hid (Box4.below B_y.out bb B_y.out.lt); replace B_z := Lib.hid (Box4.below B_z.out bb B_z.out.lt); replace B_lo := Lib.hid (Box4.below B_lo.out bb B_lo.out.lt); replace B_q := Lib.hid (Box.below B_q.out bb B_q.out.lt); replace V_x := Lib.hid (Qd.below V_x.out bb); replace V_tab := Lib.hid (tab_below V_tab.out bb); replace V_lo := Lib.hid (Qd.below V_lo.out bb); replace HB := Lib.hid (nextw HB.out bb); clear bb; replace r1 := Lib.hid r1; have V_o1 := r1; clear r1; have c0x := B_x.out.c0; have c1x := B_x.out.c1; have c2x := B_x.out.c2; have c3x := B_x.out.c3; have c0lo := B_lo.out.c0; have c1lo := B_lo.out.c1; have c2lo := B_lo.out.c2; have c3lo := B_lo.out.c3; have tk2 : True := trivial)
      | (have _t := tk2; clear _t tk2; go_at_call 18; refine (Add_q (Qd.below V_lo.out (by exact ⟨rfl, rfl, rfl, Nat.le_refl _, fun _ _ => rfl⟩)) (Qc.qd (Qc.below V_o1.out (by exact ⟨rfl, rfl, rfl, Nat.le_refl _, fun _ _ => rfl⟩))) (by omega) (by omega)).mono ?_; rintro e w16 ⟨vo2, rfl, ro2, bb⟩; replace bb := nextw (w0 := w15) (by exact ⟨rfl, rfl, rfl, Nat.le_refl _, fun _ _ => rfl⟩) bb; clear V_o1; replace B_x := Lib.hid (Box4.below B_x.out bb B_x.out.lt); replace B_y := Lib.hid (Box4.below B_y.out bb B_y.out.lt); replace B_z := Lib.hid (Box4.below B_z.out bb B_z.out.lt); replace B_lo := Lib.hid (Box4.below B_lo.out bb B_lo.out.lt); replace B_q := Lib.hid (Box.below B_q.out bb B_q.out.lt); replace V_x := Lib.hid (Qd.below V_x.out bb); replace V_tab := Lib.hid (tab_below V_tab.out bb); replace V_lo := Lib.hid (Qd.below V_lo.out bb); replace HB := Lib.hid (nextw HB.out bb); clear bb; replace ro2 := Lib.hid ro2; have V_o2 := ro2; clear ro2; have c0x := B_x.out.c0; have c1x := B_x.out.c1; have c2x := B_x.out.c2; have c3x := B_x.out.c3; have c0lo := B_lo.out.c0; have c1lo := B_lo.out.c1; have c2lo := B_lo.out.c2; have c3lo := B_lo.out.c3; have tk3 : True := trivial)
      | (have _t := tk3; clear _t tk3; go_at_call 25; refine (Cmp_as (Qd.below V_x.out (by exact ⟨rfl, rfl, rfl, Nat.le_refl _, fun _ _ => rfl⟩)) (Qc.qd (Qc.below V_o2.out (by exact ⟨rfl, rfl, rfl, Nat.le_refl _, fun _ _ => rfl⟩))) (by omega) (by omega) HM2.out).mono ?_; rintro e w17 ⟨rfl, bb⟩; replace bb := nextw (w0 := w16) (by exact ⟨rfl, rfl, rfl, Nat.le_refl _, fun _ _ => rfl⟩) bb; clear V_o2; replace B_x := Lib.hid (Box4.below B_x.out bb B_x.out.lt); replace B_y := Lib.hid (Box4.below B_y.out bb B_y.out.lt); replace B_z := Lib.hid (Box4.below B_z.out bb B_z.out.lt); replace B_lo := Lib.hid (Box4.below B_lo.out bb B_lo.out.lt); replace B_q := Lib.hid (Box.below B_q.out bb B_q.out.lt); replace V_x := Lib.hid (Qd.below V_x.out bb); replace V_tab := Lib.hid (tab_below V_tab.out bb); replace V_lo := Lib.hid (Qd.below V_lo.out bb); replace HB := Lib.hid (nextw HB.out bb); clear bb; have c0x := B_x.out.c0; have c1x := B_x.out.c1; have c2x := B_x.out.c2; have c3x := B_x.out.c3; have c0lo := B_lo.out.c0; have c1lo := B_lo.out.c1; have c2lo := B_lo.out.c2; have c3lo := B_lo.out.c3; have tk4 : True := trivial)
      | (have _t := tk4; clear _t tk4; go_at_call 25; refine (Cmp_as (Qd.below V_lo.out (by exact ⟨rfl, rfl, rfl, Nat.le_refl _, fun _ _ => rfl⟩)) (Qd.below V_x.out (by exact ⟨rfl, rfl, rfl, Nat.le_refl _, fun _ _ => rfl⟩)) (by omega) (by omega) HM.out).mono ?_; rintro e w18 ⟨rfl, bb⟩; replace bb := nextw (w0 := w17) (by exact ⟨rfl, rfl, rfl, Nat.le_refl _, fun _ _ => rfl⟩) bb; replace B_x := Lib.hid (Box4.below B_x.out bb B_x.out.lt); replace B_y := Lib.hid (Box4.below B_y.out bb B_y.out.lt); replace B_z := Lib.hid (Box4.below B_z.out bb B_z.out.lt); replace B_lo := Lib.hid (Box4.below B_lo.out bb B_lo.out.lt); replace B_q := Lib.hid (Box.below B_q.out bb B_q.out.lt); replace V_x := Lib.hid (Qd.below V_x.out bb); replace V_tab := Lib.hid (tab_below V_tab.out bb); replace V_lo := Lib.hid (Qd.below V_lo.out bb); replace HB := Lib.hid (nextw HB.out bb); clear bb; have c0x := B_x.out.c0; have c1x := B_x.out.c1; have c2x := B_x.out.c2; have c3x := B_x.out.c3; have c0lo := B_lo.out.c0; have c1lo := B_lo.out.c1; have c2lo := B_lo.out.c2; have c3lo := B_lo.out.c3; have tk5 : True := trivial))) | fail
  have HBo := HB.out
  go_wp2
  go_ret
  exact ⟨rfl, nextw HBo (by exact ⟨rfl, rfl, rfl, Nat.le_refl _, fun _ _ => rfl⟩)⟩

set_option maxRecDepth 100000 in
set_option maxHeartbeats 8000000 in
theorem Order_frac {sx : Bool} {Ax : Option Addr} {kx cx : Nat} {tx : Bool} {Cx : Option Addr} {lx dx : Nat} {rx : Rat} {qx : Nat} {sy : Bool} {Ay : Option Addr} {ky cy : Nat} {ty : Bool} {Cy : Option Addr} {ly dy : Nat} {ry : Rat} {qy : Nat} {sz : Bool} {Az : Option Addr} {kz cz : Nat} {tz : Bool} {Cz : Option Addr} {lz dz : Nat} {rz : Rat} {qz : Nat} {w : World} (hx : Qd w (.agg #[.bool sx, .slice Ax kx cx, .bool tx, .slice Cx lx dx]) rx qx) (hy : Qd w (.agg #[.bool sy, .slice Ay ky cy, .bool ty, .slice Cy ly dy]) ry qy) (hz : Qd w (.agg #[.bool sz, .slice Az kz cz, .bool tz, .slice Cz lz dz]) rz qz) (htab : Tab10 w) (hqx : qx ≤ 60) (hqy : qy ≤ 60) (hqz : qz ≤ 60) (hfew : fewSum [(kx, lx), (ky, ly), (kz, lz)] ≤ 60) (hw : rx.den ≠ 1) :
    Calls Tryd.prog 5 #[.agg #[.bool sx, .slice Ax kx cx, .bool tx, .slice Cx lx dx], .agg #[.bool sy, .slice Ay ky cy, .bool ty, .slice Cy ly dy], .agg #[.bool sz, .slice Az kz cz, .bool tz, .slice Cz lz dz]] w fun e w' => e = .returned (.bool true) ∧ Below w.heap.size w w' := by
  have V_x := Lib.hid hx
  have V_y := Lib.hid hy
  have V_z := Lib.hid hz
  have V_tab := Lib.hid htab
  have HF := Lib.hid hfew
  have HW := Lib.hid hw
  clear hx hy hz htab hfew hw
  have hb0 : Below w.heap.size w (((w.alloc (.cells #[.bool sx, (.slice Ax kx cx), .bool tx, (.slice Cx lx dx)] 38)).alloc (.cells #[.bool sy, (.slice Ay ky cy), .bool ty, (.slice Cy ly dy)] 38)).alloc (.cells #[.bool sz, (.slice Az kz cz), .bool tz, (.slice Cz lz dz)] 38)) := (Below.alloc (Below.alloc (Below.alloc (Below.refl w.heap.size w) (by simp <;> omega) _) (by simp <;> omega) _) (by simp <;> omega) _)
  have B_x : Box4 (((w.alloc (.cells #[.bool sx, (.slice Ax kx cx), .bool tx, (.slice Cx lx dx)] 38)).alloc (.cells #[.bool sy, (.slice Ay ky cy), .bool ty, (.slice Cy ly dy)] 38)).alloc (.cells #[.bool sz, (.slice Az kz cz), .bool tz, (.slice Cz lz dz)] 38)) (w.heap.size) sx (.slice Ax kx cx) tx (.slice Cx lx dx) := by have h := Box4.alloc (Box4.alloc (Box4.new w sx (.slice Ax kx cx) tx (.slice Cx lx dx)) (.cells #[.bool sy, (.slice Ay ky cy), .bool ty, (.slice Cy ly dy)] 38)) (.cells #[.bool sz, (.slice Az kz cz), .bool tz, (.slice Cz lz dz)] 38); simpa using h
  replace B_x := Lib.hid B_x
  have B_y : Box4 (((w.alloc (.cells #[.bool sx, (.slice Ax kx cx), .bool tx, (.slice Cx lx dx)] 38)).alloc (.cells #[.bool sy, (.slice Ay ky cy), .bool ty, (.slice Cy ly dy)] 38)).alloc (.cells #[.bool sz, (.slice Az kz cz), .bool tz, (.slice Cz lz dz)] 38)) (w.heap.size + 1) sy (.slice Ay ky cy) ty (.slice Cy ly dy) := by have h := Box4.alloc (Box4.new (w.alloc (.cells #[.bool sx, (.slice Ax kx cx), .bool tx, (.slice Cx lx dx)] 38)) sy (.slice Ay ky cy) ty (.slice Cy ly dy)) (.cells #[.bool sz, (.slice Az kz cz), .bool tz, (.slice Cz lz dz)] 38); simpa using h
  replace B_y := Lib.hid B_y
  have B_z : Box4 (((w.alloc (.cells #[.bool sx, (.slice Ax kx cx), .bool tx, (.slice Cx lx dx)] 38)).alloc (.cells #[.bool sy, (.slice Ay ky cy), .bool ty, (.slice Cy ly dy)] 38)).alloc (.cells #[.bool sz, (.slice Az kz cz), .bool tz, (.slice Cz lz dz)] 38)) (w.heap.size + 1 + 1) sz (.slice Az kz cz) tz (.slice Cz lz dz) := by have h := Box4.new ((w.alloc (.cells #[.bool sx, (.slice Ax kx cx), .bool tx, (.slice Cx lx dx)] 38)).alloc (.cells #[.bool sy, (.slice Ay ky cy), .bool ty, (.slice Cy ly dy)] 38)) sz (.slice Az kz cz) tz (.slice Cz lz dz); simpa using h
  replace B_z := Lib.hid B_z
  replace V_x := Lib.hid (Qd.below V_x.out hb0)
  replace V_y := Lib.hid (Qd.below V_y.out hb0)
  replace V_z := Lib.hid (Qd.below V_z.out hb0)
  replace V_tab := Lib.hid (tab_below V_tab.out hb0)
  have HB := Lib.hid hb0
  clear hb0
  have c0x := B_x.out.c0
  have c1x := B_x.out.c1
  have c2x := B_x.out.c2
  have c3x := B_x.out.c3
  have c0y := B_y.out.c0
  have c1y := B_y.out.c1
  have c2y := B_y.out.c2
  have c3y := B_y.out.c3
  have c0z := B_z.out.c0
  have c1z := B_z.out.c1
  have c2z := B_z.out.c2
  have c3z := B_z.out.c3
  go_enter Tryd.func5, Tryd.ntmps5
  go_wp2_with fail
  clear c0x c1x c2x c3x c0y c1y c2y c3y c0z c1z c2z c3z
  generalize ((w.alloc (.cells #[.bool sx, (.slice Ax kx cx), .bool tx, (.slice Cx lx dx)] 38)).alloc (.cells #[.bool sy, (.slice Ay ky cy), .bool ty, (.slice Cy ly dy)] 38)).alloc (.cells #[.bool sz, (.slice Az kz cz), .bool tz, (.slice Cz lz dz)] 38) = W0 at *
  refine (awakeQ _ (tab_below V_tab.out (by exact ⟨rfl, rfl, rfl, Nat.le_refl _, fun _ _ => rfl⟩))).mono ?_
  rintro e w1 ⟨rfl, bb⟩
  replace bb := nextw (w0 := W0) (by exact ⟨rfl, rfl, rfl, Nat.le_refl _, fun _ _ => rfl⟩) bb
  replace B_x := Lib.hid (Box4.below B_x.out bb B_x.out.lt)
  replace B_y := Lib.hid (Box4.below B_y.out bb B_y.out.lt)
  replace B_z := Lib.hid (Box4.below B_z.out bb B_z.out.lt)
  replace V_x := Lib.hid (Qd.below V_x.out bb)
  replace V_y := Lib.hid (Qd.below V_y.out bb)
  replace V_z := Lib.hid (Qd.below V_z.out bb)
  replace V_tab := Lib.hid (tab_below V_tab.out bb)
  replace HB := Lib.hid (nextw HB.out bb)
  clear bb
  have c0x := B_x.out.c0
  have c1x := B_x.out.c1
  have c2x := B_x.out.c2
  have c3x := B_x.out.c3
  have c0y := B_y.out.c0
  have c1y := B_y.out.c1
  have c2y := B_y.out.c2
  have c3y := B_y.out.c3
  have c0z := B_z.out.c0
  have c1z := B_z.out.c1
  have c2z := B_z.out.c2
  have c3z := B_z.out.c3
  go_wp2_with fail
  refine (fewq_yes (L := [(kx, lx), (ky, ly), (kz, lz)]) (Rats.lit _ _ _ _ (by intro i hi; rcases i with _ | _ | _ | i <;> first | exact ⟨⟨_, _, rfl⟩, ⟨_, _, rfl⟩⟩ | (simp only [List.length_cons, List.length_nil] at hi; omega))) (by simp) HF.out).mono ?_
  rintro e w2 ⟨rfl, bb⟩
  replace bb := nextw (w0 := w1) (by first | exact ⟨rfl, rfl, rfl, Nat.le_refl _, fun _ _ => rfl⟩ | exact nextw (by exact ⟨rfl, rfl, rfl, Nat.le_refl _, fun _ _ => rfl⟩) ((Below.refl _ _).alloc (Nat.le_refl _) _) | exact below_push rfl rfl rfl rfl) bb
  clear c0x c1x c2x c3x c0y c1y c2y c3y c0z c1z c2z c3z
  replace B_x := Lib.hid (Box4.below B_x.out bb B_x.out.lt)
  replace B_y := Lib.hid (Box4.below B_y.out bb B_y.out.lt)
  replace B_z := Lib.hid (Box4.below B_z.out bb B_z.out.lt)
  replace V_x := Lib.hid (Qd.below V_x.out bb)
  replace V_y := Lib.hid (Qd.below V_y.out bb)
  replace V_z := Lib.hid (Qd.below V_z.out bb)
  replace V_tab := Lib.hid (tab_below V_tab.out bb)
  replace HB := Lib.hid (nextw HB.out bb)
  clear bb
  obtain ⟨n, hn⟩ : ∃ n, cmpQ rx ry = n := ⟨_, rfl⟩
  obtain ⟨sg, hsg⟩ : ∃ n, sgnQ rz = n := ⟨_, rfl⟩
  have hr := cmpQ_range rx ry
  have hr2 := cmpQ_range rz 0
  have h1 := cmpQ_swap rx ry
  have h2 := cmp_add rx ry rz
  have h3 := cmp_mul rx ry rz
  change _ ≤ sgnQ rz ∧ sgnQ rz ≤ _ at hr2
  rw [hn] at hr h1 h2 h3
  rw [hsg] at hr2 h3
  have HN := Lib.hid hn
  have HSG := Lib.hid hsg
  have H1 := Lib.hid h1
  have H2 := Lib.hid h2
  have H3 := Lib.hid h3
  clear hn hsg h1 h2 h3
  have hn1 : decide (n < -1) = false := decide_eq_false (by omega)
  have hn2 : decide ((1 : Int) < n) = false := decide_eq_false (by omega)
  have hw1 : IntKind.i64.wrap (-n) = -n := IntWalk.i64_in _ (by omega)
  have hw2 : IntKind.i64.wrap (n * sg) = n * sg := by
    refine IntWalk.i64_in _ ?_
    have : sg = -1 ∨ sg = 0 ∨ sg = 1 := by omega
    rcases this with rfl | rfl | rfl <;> omega
  have c0x := B_x.out.c0
  have c1x := B_x.out.c1
  have c2x := B_x.out.c2
  have c3x := B_x.out.c3
  have c0y := B_y.out.c0
  have c1y := B_y.out.c1
  have c2y := B_y.out.c2
  have c3y := B_y.out.c3
  have c0z := B_z.out.c0
  have c1z := B_z.out.c1
  have c2z := B_z.out.c2
  have c3z := B_z.out.c3
  go_wp2_with fail
  refine (Cmp_as (Qd.below V_x.out (by exact ⟨rfl, rfl, rfl, Nat.le_refl _, fun _ _ => rfl⟩)) (Qd.below V_y.out (by exact ⟨rfl, rfl, rfl, Nat.le_refl _, fun _ _ => rfl⟩)) (by omega) (by omega) HN.out).mono ?_
  rintro e w3 ⟨rfl, bb⟩
  replace bb := nextw (w0 := w2) (by exact ⟨rfl, rfl, rfl, Nat.le_refl _, fun _ _ => rfl⟩) bb
  clear c0x c1x c2x c3x c0y c1y c2y c3y c0z c1z c2z c3z
  replace B_x := Lib.hid (Box4.below B_x.out bb B_x.out.lt)
  replace B_y := Lib.hid (Box4.below B_y.out bb B_y.out.lt)
  replace B_z := Lib.hid (Box4.below B_z.out bb B_z.out.lt)
  replace V_x := Lib.hid (Qd.below V_x.out bb)
  replace V_y := Lib.hid (Qd.below V_y.out bb)
  replace V_z := Lib.hid (Qd.below V_z.out bb)
  replace V_tab := Lib.hid (tab_below V_tab.out bb)
  replace HB := Lib.hid (nextw HB.out bb)
  clear bb
  have c0x := B_x.out.c0
  have c1x := B_x.out.c1
  have c2x := B_x.out.c2
  have c3x := B_x.out.c3
  have c0y := B_y.out.c0
  have c1y := B_y.out.c1
  have c2y := B_y.out.c2
  have c3y := B_y.out.c3
  have c0z := B_z.out.c0
  have c1z := B_z.out.c1
  have c2z := B_z.out.c2
  have c3z := B_z.out.c3
  go_wp2
  have c0x := B_x.out.c0
  have c1x := B_x.out.c1
  have c2x := B_x.out.c2
  have c3x := B_x.out.c3
  have c0y := B_y.out.c0
  have c1y := B_y.out.c1
  have c2y := B_y.out.c2
  have c3y := B_y.out.c3
  have c0z := B_z.out.c0
  have c1z := B_z.out.c1
  have c2z := B_z.out.c2
  have c3z := B_z.out.c3
  have tk0 : True := trivial
  first | (go_region_held3 (fun w' => w'.cell? ⟨w.heap.size, 0, none⟩ = some (.bool sx) ∧ w'.cell? ⟨w.heap.size, 1, none⟩ = some (.slice Ax kx cx) ∧ w'.cell? ⟨w.heap.size, 2, none⟩ = some (.bool tx) ∧ w'.cell? ⟨w.heap.size, 3, none⟩ = some (.slice Cx lx dx) ∧ w'.cell? ⟨w.heap.size + 1, 0, none⟩ = some (.bool sy) ∧ w'.cell? ⟨w.heap.size + 1, 1, none⟩ = some (.slice Ay ky cy) ∧ w'.cell? ⟨w.heap.size + 1, 2, none⟩ = some (.bool ty) ∧ w'.cell? ⟨w.heap.size + 1, 3, none⟩ = some (.slice Cy ly dy) ∧ w'.cell? ⟨w.heap.size + 1 + 1, 0, none⟩ = some (.bool sz) ∧ w'.cell? ⟨w.heap.size + 1 + 1, 1, none⟩ = some (.slice Az kz cz) ∧ w'.cell? ⟨w.heap.size + 1 + 1, 2, none⟩ = some (.bool tz) ∧ w'.cell? ⟨w.heap.size + 1 + 1, 3, none⟩ = some (.slice Cz lz dz)) (((try dsimp only); (repeat' apply And.intro) <;> (first | (with_reducible assumption) | ((repeat (first | (with_reducible refine Eq.trans (cell_drew1 _ _) ?_) | (with_reducible refine Eq.trans (cell_set4 (by omega) _ _ _ _) ?_))); with_reducible assumption) | assumption | go_keep)))
    (first
      | (have _t := tk0; clear _t tk0; go_at_call 25; refine (Cmp_as (Qd.below V_y.out (by exact ⟨rfl, rfl, rfl, Nat.le_refl _, fun _ _ => rfl⟩)) (Qd.below V_x.out (by exact ⟨rfl, rfl, rfl, Nat.le_refl _, fun _ _ => rfl⟩)) (by omega) (by omega) H1.out).mono ?_; rintro e w4 ⟨rfl, bb⟩; replace bb := nextw (w0 := w3) (by exact ⟨rfl, rfl, rfl, Nat.le_refl _, fun _ _ => rfl⟩) bb; replace B_x := Lib.hid (Box4.below B_x.out bb B_x.out.lt); replace B_y := Lib.hid (Box4.below B_y.out bb B_y.out.lt); replace B_z := Lib.hid (Box4.below B_z.out bb B_z.out.lt); replace V_x := Lib.hid (Qd.below V_x.out bb); replace V_y := Lib.hid (Qd.below V_y.out bb); replace V_z := Lib.hid (Qd.below V_z.out bb); replace V_tab := Lib.hid (tab_below V_tab.out bb); replace HB := Lib.hid (nextw HB.out bb); clear bb; have c0x := B_x.out.c0; have c1x := B_x.out.c1; have c2x := B_x.out.c2; have c3x := B_x.out.c3; have c0y := B_y.out.c0; have c1y := B_y.out.c1; have c2y := B_y.out.c2; have c3y := B_y.out.c3; have c0z := B_z.out.c0; have c1z := B_z.out.c1; have c2z := B_z.out.c2; have c3z := B_z.out.c3; have tk1 : True := trivial)
      | (have _t := tk1; clear _t tk1; go_at_call 18; refine (Add_q (Qd.below V_x.out (by exact ⟨rfl, rfl, rfl, Nat.le_refl _, fun _ _ => rfl⟩)) (Qd.below V_z.out (by exact ⟨rfl, rfl, rfl, Nat.le_refl _, fun _ _ => rfl⟩)) (by omega) (by omega)).mono ?_; rintro e w5 ⟨va1, rfl, ra1, bb⟩; replace bb := nextw (w0 := w4) (by exact ⟨rfl, rfl, rfl, Nat.le_refl _, fun _ _ => rfl⟩) bb; replace B_x := Lib.hid (Box4.below B_x.out bb B_x.out.lt); replace B_y := Lib.hid (Box4.below B_y.out bb B_y.out.lt); replace B_z := Lib.hid (Box4.below B_z.out bb B_z.out.lt); replace V_x := Lib.hid (Qd.below V_x.out bb); replace V_y := Lib.hid (Qd.below V_y.out bb); replace V_z := Lib.hid (Qd.below V_z.out bb); replace V_tab := Lib.hid (tab_below V_tab.out bb); replace HB := Lib.hid (nextw HB.out bb); clear bb; replace ra1 := Lib.hid ra1; have V_a1 := ra1; clear ra1; have c0x := B_x.out.c0; have c1x := B_x.out.c1; have c2x := B_x.out.c2; have c3x := B_x.out.c3; have c0y := B_y.out.c0; have c1y := B_y.out.c1; have c2y := B_y.out.c2; have c3y := B_y.out.c3; have c0z := B_z.out.c0; have c1z := B_z.out.c1; have c2z := B_z.out.c2; have c3z := B_z.out.c3; have tk2 : True := trivial)
      | (have _t := tk2; clear _t tk2; go_at_call 18; refine (Add_q (Qd.below V_y.out (by exact ⟨rfl, rfl, rfl, Nat.le_refl _, fun _ _ => rfl⟩)) (Qd.below V_z.out (by exact ⟨rfl, rfl, rfl, Nat.le_refl _, fun _ _ => rfl⟩)) (by omega) (by omega)).mono ?_; rintro e w6 ⟨va2, rfl, ra2, bb⟩; replace bb := nextw (w0 := w5) (by exact ⟨rfl, rfl, rfl, Nat.le_refl _, fun _ _ => rfl⟩) bb; replace B_x := Lib.hid (Box4.below B_x.out bb B_x.out.lt); replace B_y := Lib.hid (Box4.below B_y.out bb B_y.out.lt); replace B_z := Lib.hid (Box4.below B_z.out bb B_z.out.lt); replace V_x := Lib.hid (Qd.below V_x.out bb); replace V_y := Lib.hid (Qd.below V_y.out bb); replace V_z := Lib.hid (Qd.below V_z.out bb); replace V_tab := Lib.hid (tab_below V_tab.out bb); replace V_a1 := Lib.hid (Qc.below V_a1.out bb); replace HB := Lib.hid (nextw HB.out bb); clear bb; replace ra2 := Lib.hid ra2; have V_a2 := ra2; clear ra2; have c0x := B_x.out.c0; have c1x := B_x.out.c1; have c2x := B_x.out.c2; have c3x := B_x.out.c3; have c0y := B_y.out.c0; have c1y := B_y.out.c1; have c2y := B_y.out.c2; have c3y := B_y.out.c3; have c0z := B_z.out.c0; have c1z := B_z.out.c1; have c2z := B_z.out.c2; have c3z := B_z.out.c3; have tk3 : True := trivial)
      | (have _t := tk3; clear _t tk3; go_at_call 25; refine (Cmp_as (Qc.qd (Qc.below V_a1.out (by exact ⟨rfl, rfl, rfl, Nat.le_refl _, fun _ _ => rfl⟩))) (Qc.qd (Qc.below V_a2.out (by exact ⟨rfl, rfl, rfl, Nat.le_refl _, fun _ _ => rfl⟩))) (by omega) (by omega) H2.out).mono ?_; rintro e w7 ⟨rfl, bb⟩; replace bb := nextw (w0 := w6) (by exact ⟨rfl, rfl, rfl, Nat.le_refl _, fun _ _ => rfl⟩) bb; clear V_a1 V_a2; replace B_x := Lib.hid (Box4.below B_x.out bb B_x.out.lt); replace B_y := Lib.hid (Box4.below B_y.out bb B_y.out.lt); replace B_z := Lib.hid (Box4.below B_z.out bb B_z.out.lt); replace V_x := Lib.hid (Qd.below V_x.out bb); replace V_y := Lib.hid (Qd.below V_y.out bb); replace V_z := Lib.hid (Qd.below V_z.out bb); replace V_tab := Lib.hid (tab_below V_tab.out bb); replace HB := Lib.hid (nextw HB.out bb); clear bb; have c0x := B_x.out.c0; have c1x := B_x.out.c1; have c2x := B_x.out.c2; have c3x := B_x.out.c3; have c0y := B_y.out.c0; have c1y := B_y.out.c1; have c2y := B_y.out.c2; have c3y := B_y.out.c3; have c0z := B_z.out.c0; have c1z := B_z.out.c1; have c2z := B_z.out.c2; have c3z := B_z.out.c3; have tk4 : True := trivial)
      | (have _t := tk4; clear _t tk4; go_at_call 19; refine (Mul_q (Qd.below V_x.out (by exact ⟨rfl, rfl, rfl, Nat.le_refl _, fun _ _ => rfl⟩)) (Qd.below V_z.out (by exact ⟨rfl, rfl, rfl, Nat.le_refl _, fun _ _ => rfl⟩)) (by omega) (by omega)).mono ?_; rintro e w8 ⟨vb1, rfl, rb1, bb⟩; replace bb := nextw (w0 := w7) (by exact ⟨rfl, rfl, rfl, Nat.le_refl _, fun _ _ => rfl⟩) bb; replace B_x := Lib.hid (Box4.below B_x.out bb B_x.out.lt); replace B_y := Lib.hid (Box4.below B_y.out bb B_y.out.lt); replace B_z := Lib.hid (Box4.below B_z.out bb B_z.out.lt); replace V_x := Lib.hid (Qd.below V_x.out bb); replace V_y := Lib.hid (Qd.below V_y.out bb); replace V_z := Lib.hid (Qd.below V_z.out bb); replace V_tab := Lib.hid (tab_below V_tab.out bb); replace HB := Lib.hid (nextw HB.out bb); clear bb; replace rb1 := Lib.hid rb1; have V_b1 := rb1; clear rb1; have c0x := B_x.out.c0; have c1x := B_x.out.c1; have c2x := B_x.out.c2; have c3x := B_x.out.c3; have c0y := B_y.out.c0; have c1y := B_y.out.c1; have c2y := B_y.out.c2; have c3y := B_y.out.c3; have c0z := B_z.out.c0; have c1z := B_z.out.c1; have c2z := B_z.out.c2; have c3z := B_z.out.c3; have tk5 : True := trivial)
      | (have _t := tk5; clear _t tk5; go_at_call 19; refine (Mul_q (Qd.below V_y.out (by exact ⟨rfl, rfl, rfl, Nat.le_refl _, fun _ _ => rfl⟩)) (Qd.below V_z.out (by exact ⟨rfl, rfl, rfl, Nat.le_refl _, fun _ _ => rfl⟩)) (by omega) (by omega)).mono ?_; rintro e w9 ⟨vb2, rfl, rb2, bb⟩; replace bb := nextw (w0 := w8) (by exact ⟨rfl, rfl, rfl, Nat.le_refl _, fun _ _ => rfl⟩) bb; replace B_x := Lib.hid (Box4.below B_x.out bb B_x.out.lt); replace B_y := Lib.hid (Box4.below B_y.out bb B_y.out.lt); replace B_z := Lib.hid (Box4.below B_z.out bb B_z.out.lt); replace V_x := Lib.hid (Qd.below V_x.out bb); replace V_y := Lib.hid (Qd.below V_y.out bb); replace V_z := Lib.hid (Qd.below V_z.out bb); replace V_tab := Lib.hid (tab_below V_tab.out bb); replace V_b1 := Lib.hid (Qc.below V_b1.out bb); replace HB := Lib.hid (nextw HB.out bb); clear bb; replace rb2 := Lib.hid rb2; have V_b2 := rb2; clear rb2; have c0x := B_x.out.c0; have c1x := B_x.out.c1; have c2x := B_x.out.c2; have c3x := B_x.out.c3; have c0y := B_y.out.c0; have c1y := B_y.out.c1; have c2y := B_y.out.c2; have c3y := B_y.out.c3; have c0z := B_z.out.c0; have c1z := B_z.out.c1; have c2z := B_z.out.c2; have c3z := B_z.out.c3; have tk6 : True := trivial)
      | (have _t := tk6; clear _t tk6; go_at_call 25; refine (Cmp_as (Qc.qd (Qc.below V_b1.out (by exact ⟨rfl, rfl, rfl, Nat.le_refl _, fun _ _ => rfl⟩))) (Qc.qd (Qc.below V_b2.out (by exact ⟨rfl, rfl, rfl, Nat.le_refl _, fun _ _ => rfl⟩))) (by omega) (by omega) H3.out).mono ?_; rintro e w10 ⟨rfl, bb⟩; replace bb := nextw (w0 := w9) (by exact ⟨rfl, rfl, rfl, Nat.le_refl _, fun _ _ => rfl⟩) bb; clear V_b1 V_b2; replace B_x := Lib.hid (Box4.below B_x.out bb B_x.out.lt); replace B_y := Lib.hid (Box4.below B_y.out bb B_y.out.lt); replace B_z := Lib.hid (Box4.below B_z.out bb B_z.out.lt); replace V_x := Lib.hid (Qd.below V_x.out bb); replace V_y := Lib.hid (Qd.below V_y.out bb); replace V_z := Lib.hid (Qd.below V_z.out bb); replace V_tab := Lib.hid (tab_below V_tab.out bb); replace HB := Lib.hid (nextw HB.out bb); clear bb; have c0x := B_x.out.c0; have c1x := B_x.out.c1; have c2x := B_x.out.c2; have c3x := B_x.out.c3; have c0y := B_y.out.c0; have c1y := B_y.out.c1; have c2y := B_y.out.c2; have c3y := B_y.out.c3; have c0z := B_z.out.c0; have c1z := B_z.out.c1; have c2z := B_z.out.c2; have c3z := B_z.out.c3; have tk7 : True := trivial)
      | (have _t := tk7; clear _t tk7; go_at_call 24; refine (Sign_as (Qd.below V_z.out (by exact ⟨rfl, rfl, rfl, Nat.le_refl _, fun _ _ => rfl⟩)) (by omega) HSG.out).mono ?_; rintro e w11 ⟨rfl, bb⟩; replace bb := nextw (w0 := w10) (by exact ⟨rfl, rfl, rfl, Nat.le_refl _, fun _ _ => rfl⟩) bb; replace B_x := Lib.hid (Box4.below B_x.out bb B_x.out.lt); replace B_y := Lib.hid (Box4.below B_y.out bb B_y.out.lt); replace B_z := Lib.hid (Box4.below B_z.out bb B_z.out.lt); replace V_x := Lib.hid (Qd.below V_x.out bb); replace V_y := Lib.hid (Qd.below V_y.out bb); replace V_z := Lib.hid (Qd.below V_z.out bb); replace V_tab := Lib.hid (tab_below V_tab.out bb); replace HB := Lib.hid (nextw HB.out bb); clear bb; have c0x := B_x.out.c0; have c1x := B_x.out.c1; have c2x := B_x.out.c2; have c3x := B_x.out.c3; have c0y := B_y.out.c0; have c1y := B_y.out.c1; have c2y := B_y.out.c2; have c3y := B_y.out.c3; have c0z := B_z.out.c0; have c1z := B_z.out.c1; have c2z := B_z.out.c2; have c3z := B_z.out.c3; have tk8 : True := trivial))) | fail
  clear hn1 hn2 hw1 hw2 hr hr2 H1 H2 H3 HN HSG V_z
  have c0x := B_x.out.c0
  have c1x := B_x.out.c1
  have c2x := B_x.out.c2
  have c3x := B_x.out.c3
  go_wp2_with fail
  refine (Floor_q (Qd.below V_x.out (by exact ⟨rfl, rfl, rfl, Nat.le_refl _, fun _ _ => rfl⟩)) (by omega)).mono ?_
  rintro e w12 ⟨vf, rfl, rf, bb⟩
  replace bb := nextw (w0 := w11) (by exact ⟨rfl, rfl, rfl, Nat.le_refl _, fun _ _ => rfl⟩) bb
  clear c0x c1x c2x c3x
  replace B_x := Lib.hid (Box4.below B_x.out bb B_x.out.lt)
  replace B_y := Lib.hid (Box4.below B_y.out bb B_y.out.lt)
  replace B_z := Lib.hid (Box4.below B_z.out bb B_z.out.lt)
  replace V_x := Lib.hid (Qd.below V_x.out bb)
  replace V_y := Lib.hid (Qd.below V_y.out bb)
  replace V_tab := Lib.hid (tab_below V_tab.out bb)
  replace HB := Lib.hid (nextw HB.out bb)
  clear bb
  obtain ⟨sf, Af, kf, cf, rfl⟩ := rf.shape
  have V_f := Lib.hid rf
  have hkf := V_f.out.len
  clear rf
  have hk200 : ¬ (200 : Int) < (kf : Int) := by omega
  have hbA : Below w12.heap.size w12 (w12.alloc (.cells #[.int .u32 1] 35)) := (Below.refl _ _).alloc (Nat.le_refl _) _
  have hbB : Below (w12.alloc (.cells #[.int .u32 1] 35)).heap.size (w12.alloc (.cells #[.int .u32 1] 35)) ((w12.alloc (.cells #[.int .u32 1] 35)).alloc (.cells #[.bool sf, (.slice Af kf cf), .bool false, (.slice (some ⟨w12.heap.size, 0, none⟩) 1 1)] 38)) := (Below.refl _ _).alloc (Nat.le_refl _) _
  have B_lo : Box4 ((w12.alloc (.cells #[.int .u32 1] 35)).alloc (.cells #[.bool sf, (.slice Af kf cf), .bool false, (.slice (some ⟨w12.heap.size, 0, none⟩) 1 1)] 38)) (w12.heap.size + 1) sf (.slice Af kf cf) false (.slice (some ⟨w12.heap.size, 0, none⟩) 1 1) := by have h := Box4.new (w12.alloc (.cells #[.int .u32 1] 35)) sf (.slice Af kf cf) false (.slice (some ⟨w12.heap.size, 0, none⟩) 1 1); simpa using h
  replace B_lo := Lib.hid B_lo
  have V_lo : Qd ((w12.alloc (.cells #[.int .u32 1] 35)).alloc (.cells #[.bool sf, (.slice Af kf cf), .bool false, (.slice (some ⟨w12.heap.size, 0, none⟩) 1 1)] 38)) (.agg #[.bool sf, (.slice Af kf cf), .bool false, (.slice (some ⟨w12.heap.size, 0, none⟩) 1 1)]) (Rat.divInt rx.floor 1) (qx + 2) := (Fd.mk (((Rc.rd (Rc.below V_f.out hbA)).below hbB)) (((Rd.one (w := w12) rfl).more (by omega)).below hbB)).qd
  replace V_lo := Lib.hid V_lo
  have hbC := nextw hbA hbB
  clear V_f
  replace B_x := Lib.hid (Box4.below B_x.out hbC B_x.out.lt)
  replace B_y := Lib.hid (Box4.below B_y.out hbC B_y.out.lt)
  replace B_z := Lib.hid (Box4.below B_z.out hbC B_z.out.lt)
  replace V_x := Lib.hid (Qd.below V_x.out hbC)
  replace V_y := Lib.hid (Qd.below V_y.out hbC)
  replace V_tab := Lib.hid (tab_below V_tab.out hbC)
  replace HB := Lib.hid (nextw HB.out hbC)
  clear hbA hbB hbC
  have c0x := B_x.out.c0
  have c1x := B_x.out.c1
  have c2x := B_x.out.c2
  have c3x := B_x.out.c3
  have c0lo := B_lo.out.c0
  have c1lo := B_lo.out.c1
  have c2lo := B_lo.out.c2
  have c3lo := B_lo.out.c3
  go_wp2_with fail
  clear c0x c1x c2x c3x c0lo c1lo c2lo c3lo
  generalize (w12.alloc (.cells #[.int .u32 1] 35)).alloc (.cells #[.bool sf, (.slice Af kf cf), .bool false, (.slice (some ⟨w12.heap.size, 0, none⟩) 1 1)] 38) = W3 at *
  refine (Whole_no (Qd.below V_x.out (by exact ⟨rfl, rfl, rfl, Nat.le_refl _, fun _ _ => rfl⟩)) (by omega) HW.out).mono ?_
  rintro e w13 ⟨vq, rfl, rq, bb⟩
  replace bb := nextw (w0 := W3) (by exact ⟨rfl, rfl, rfl, Nat.le_refl _, fun _ _ => rfl⟩) bb
  replace B_x := Lib.hid (Box4.below B_x.out bb B_x.out.lt)
  replace B_y := Lib.hid (Box4.below B_y.out bb B_y.out.lt)
  replace B_z := Lib.hid (Box4.below B_z.out bb B_z.out.lt)
  replace B_lo := Lib.hid (Box4.below B_lo.out bb B_lo.out.lt)
  replace V_x := Lib.hid (Qd.below V_x.out bb)
  replace V_y := Lib.hid (Qd.below V_y.out bb)
  replace V_tab := Lib.hid (tab_below V_tab.out bb)
  replace V_lo := Lib.hid (Qd.below V_lo.out bb)
  replace HB := Lib.hid (nextw HB.out bb)
  clear bb
  obtain ⟨sq, Aq, kq, cq, rfl⟩ := rq.shape
  clear rq
  have hb0 : Below w13.heap.size w13 (w13.alloc (.cells #[.bool sq, (.slice Aq kq cq)] 24)) := (Below.alloc (Below.refl w13.heap.size w13) (by simp <;> omega) _)
  have B_q : Box (w13.alloc (.cells #[.bool sq, (.slice Aq kq cq)] 24)) (w13.heap.size) sq (.slice Aq kq cq) := by have h := Box.new w13 sq (.slice Aq kq cq); simpa using h
  replace B_q := Lib.hid B_q
  replace B_x := Lib.hid (Box4.below B_x.out hb0 B_x.out.lt)
  replace B_y := Lib.hid (Box4.below B_y.out hb0 B_y.out.lt)
  replace B_z := Lib.hid (Box4.below B_z.out hb0 B_z.out.lt)
  replace B_lo := Lib.hid (Box4.below B_lo.out hb0 B_lo.out.lt)
  replace V_x := Lib.hid (Qd.below V_x.out hb0)
  replace V_y := Lib.hid (Qd.below V_y.out hb0)
  replace V_tab := Lib.hid (tab_below V_tab.out hb0)
  replace V_lo := Lib.hid (Qd.below V_lo.out hb0)
  replace HB := Lib.hid (nextw HB.out hb0)
  clear hb0
  have c0x := B_x.out.c0
  have c1x := B_x.out.c1
  have c2x := B_x.out.c2
  have c3x := B_x.out.c3
  have c0lo := B_lo.out.c0
  have c1lo := B_lo.out.c1
  have c2lo := B_lo.out.c2
  have c3lo := B_lo.out.c3
  have hz : cmpQ rx (Rat.divInt rx.floor 1 + Rat.divInt 1 1) < 0 := cmp_floor1 rx
  have hle := cmp_floor rx
  have hne : (cmpQ (Rat.divInt rx.floor 1) rx == 0) = false := by rw [cmp_whole]; exact decide_eq_false HW.out
  obtain ⟨m2, hm2⟩ : ∃ m, cmpQ rx (Rat.divInt rx.floor 1 + Rat.divInt 1 1) = m := ⟨_, rfl⟩
  rw [hm2] at hz
  have hz2 : decide (m2 < 0) = true := decide_eq_true hz
  clear hz
  have HM2 := Lib.hid hm2
  clear hm2
  obtain ⟨m, hm⟩ : ∃ m, cmpQ (Rat.divInt rx.floor 1) rx = m := ⟨_, rfl⟩
  rw [hm] at hle hne
  have hle2 : decide (m ≤ 0) = true := decide_eq_true hle
  clear hle
  have HM := Lib.hid hm
  clear hm
  go_wp2
  clear c0x c1x c2x c3x c0lo c1lo c2lo c3lo
  generalize w13.alloc (.cells #[.bool sq, (.slice Aq kq cq)] 24) = W4 at *
  have c0x := B_x.out.c0
  have c1x := B_x.out.c1
  have c2x := B_x.out.c2
  have c3x := B_x.out.c3
  have c0lo := B_lo.out.c0
  have c1lo := B_lo.out.c1
  have c2lo := B_lo.out.c2
  have c3lo := B_lo.out.c3
  have tk0 : True := trivial
  first | (go_region_held3 (fun w' => w'.cell? ⟨w.heap.size, 0, none⟩ = some (.bool sx) ∧ w'.cell? ⟨w.heap.size, 1, none⟩ = some (.slice Ax kx cx) ∧ w'.cell? ⟨w.heap.size, 2, none⟩ = some (.bool tx) ∧ w'.cell? ⟨w.heap.size, 3, none⟩ = some (.slice Cx lx dx) ∧ w'.cell? ⟨w12.heap.size + 1, 0, none⟩ = some (.bool sf) ∧ w'.cell? ⟨w12.heap.size + 1, 1, none⟩ = some (.slice Af kf cf) ∧ w'.cell? ⟨w12.heap.size + 1, 2, none⟩ = some (.bool false) ∧ w'.cell? ⟨w12.heap.size + 1, 3, none⟩ = some (.slice (some ⟨w12.heap.size, 0, none⟩) 1 1)) (((try dsimp only); (repeat' apply And.intro) <;> (first | (with_reducible assumption) | ((repeat (first | (with_reducible refine Eq.trans (cell_drew1 _ _) ?_) | (with_reducible refine Eq.trans (cell_set4 (by omega) _ _ _ _) ?_))); with_reducible assumption) | assumption | go_keep)))
    (first
      | (have _t := tk0; clear _t tk0; go_at_call 25; refine (Cmp_as (Qd.below V_lo.out (by exact ⟨rfl, rfl, rfl, Nat.le_refl _, fun _ _ => rfl⟩)) (Qd.below V_x.out (by exact ⟨rfl, rfl, rfl, Nat.le_refl _, fun _ _ => rfl⟩)) (by omega) (by omega) HM.out).mono ?_; rintro e w14 ⟨rfl, bb⟩; replace bb := nextw (w0 := W4) (by exact ⟨rfl, rfl, rfl, Nat.le_refl _, fun _ _ => rfl⟩) bb; clear V_y; replace B_x := Lib.hid (Box4.below B_x.out bb B_x.out.lt); replace B_y := Lib.hid (Box4.below B_y.out bb B_y.out.lt); replace B_z := Lib.hid (Box4.below B_z.out bb B_z.out.lt); replace B_lo := Lib.hid (Box4.below B_lo.out bb B_lo.out.lt); replace B_q := Lib.hid (Box.below B_q.out bb B_q.out.lt); replace V_x := Lib.hid (Qd.below V_x.out bb); replace V_tab := Lib.hid (tab_below V_tab.out bb); replace V_lo := Lib.hid (Qd.below V_lo.out bb); replace HB := Lib.hid (nextw HB.out bb); clear bb; have c0x := B_x.out.c0; have c1x := B_x.out.c1; have c2x := B_x.out.c2; have c3x := B_x.out.c3; have c0lo := B_lo.out.c0; have c1lo := B_lo.out.c1; have c2lo := B_lo.out.c2; have c3lo := B_lo.out.c3; have tk1 : True := trivial)
      | (have _t := tk1; clear _t tk1; go_at_call 28; refine (Of_q 1 1 (by omega) (by omega) (by omega) (by omega)).mono ?_; rintro e w15 ⟨v1, rfl, r1, bb⟩; replace bb := nextw (w0 := w14) (by exact ⟨rfl, rfl, rfl, Nat.le_refl _, fun _ _ => rfl⟩) bb; replace B_x := Lib.hid (Box4.below B_x.out bb B_x.out.lt); replace B_y := Lib.hid (Box4.below B_y.out bb B_y.out.lt); replace B_z := Lib.hid (Box4.below B_z.out bb B_z.out.lt); replace B_lo := Lib.hid (Box4.below B_lo.out bb B_lo.out.lt); replace B_q := Lib.hid (Box.below B_q.out bb B_q.out.lt); replace V_x := Lib.hid (Qd.below V_x.out bb); replace V_tab := Lib.hid (tab_below V_tab.out bb); replace V_lo := Lib.hid (Qd.below V_lo.out bb); replace HB := Lib.hid (nextw HB.out bb); clear bb; replace r1 := Lib.hid r1; have V_o1 := r1; clear r1; have c0x := B_x.out.c0; have c1x := B_x.out.c1; have c2x := B_x.out.c2; have c3x := B_x.out.c3; have c0lo := B_lo.out.c0; have c1lo := B_lo.out.c1; have c2lo := B_lo.out.c2; have c3lo := B_lo.out.c3; have tk2 : True := trivial)
      | (have _t := tk2; clear _t tk2; go_at_call 18; refine (Add_q (Qd.below V_lo.out (by exact ⟨rfl, rfl, rfl, Nat.le_refl _, fun _ _ => rfl⟩)) (Qc.qd (Qc.below V_o1.out (by exact ⟨rfl, rfl, rfl, Nat.le_refl _, fun _ _ => rfl⟩))) (by omega) (by omega)).mono ?_; rintro e w16 ⟨vo2, rfl, ro2, bb⟩; replace bb := nextw (w0 := w15) (by exact ⟨rfl, rfl, rfl, Nat.le_refl _, fun _ _ => rfl⟩) bb; clear V_o1; replace B_x := Lib.hid (Box4.below B_x.out bb B_x.out.lt); replace B_y := Lib.hid (Box4.below B_y.out bb B_y.out.lt); replace B_z := Lib.hid (Box4.below B_z.out bb B_z.out.lt); replace B_lo := Lib.hid (Box4.below B_lo.out bb B_lo.out.lt); replace B_q := Lib.hid (Box.below B_q.out bb B_q.out.lt); replace V_x := Lib.hid (Qd.below V_x.out bb); replace V_tab := Lib.hid (tab_below V_tab.out bb); replace V_lo := Lib.hid (Qd.below V_lo.out bb); replace HB := Lib.hid (nextw HB.out bb); clear bb; replace ro2 := Lib.hid ro2; have V_o2 := ro2; clear ro2; have c0x := B_x.out.c0; have c1x := B_x.out.c1; have c2x := B_x.out.c2; have c3x := B_x.out.c3; have c0lo := B_lo.out.c0; have c1lo := B_lo.out.c1; have c2lo := B_lo.out.c2; have c3lo := B_lo.out.c3; have tk3 : True := trivial)
      | (have _t := tk3; clear _t tk3; go_at_call 25; refine (Cmp_as (Qd.below V_x.out (by exact ⟨rfl, rfl, rfl, Nat.le_refl _, fun _ _ => rfl⟩)) (Qc.qd (Qc.below V_o2.out (by exact ⟨rfl, rfl, rfl, Nat.le_refl _, fun _ _ => rfl⟩))) (by omega) (by omega) HM2.out).mono ?_; rintro e w17 ⟨rfl, bb⟩; replace bb := nextw (w0 := w16) (by exact ⟨rfl, rfl, rfl, Nat.le_refl _, fun _ _ => rfl⟩) bb; clear V_o2; replace B_x := Lib.hid (Box4.below B_x.out bb B_x.out.lt); replace B_y := Lib.hid (Box4.below B_y.out bb B_y.out.lt); replace B_z := Lib.hid (Box4.below B_z.out bb B_z.out.lt); replace B_lo := Lib.hid (Box4.below B_lo.out bb B_lo.out.lt); replace B_q := Lib.hid (Box.below B_q.out bb B_q.out.lt); replace V_x := Lib.hid (Qd.below V_x.out bb); replace V_tab := Lib.hid (tab_below V_tab.out bb); replace V_lo := Lib.hid (Qd.below V_lo.out bb); replace HB := Lib.hid (nextw HB.out bb); clear bb; have c0x := B_x.out.c0; have c1x := B_x.out.c1; have c2x := B_x.out.c2; have c3x := B_x.out.c3; have c0lo := B_lo.out.c0; have c1lo := B_lo.out.c1; have c2lo := B_lo.out.c2; have c3lo := B_lo.out.c3; have tk4 : True := trivial)
      | (have _t := tk4; clear _t tk4; go_at_call 25; refine (Cmp_as (Qd.below V_lo.out (by exact ⟨rfl, rfl, rfl, Nat.le_refl _, fun _ _ => rfl⟩)) (Qd.below V_x.out (by exact ⟨rfl, rfl, rfl, Nat.le_refl _, fun _ _ => rfl⟩)) (by omega) (by omega) HM.out).mono ?_; rintro e w18 ⟨rfl, bb⟩; replace bb := nextw (w0 := w17) (by exact ⟨rfl, rfl, rfl, Nat.le_refl _, fun _ _ => rfl⟩) bb; replace B_x := Lib.hid (Box4.below B_x.out bb B_x.out.lt); replace B_y := Lib.hid (Box4.below B_y.out bb B_y.out.lt); replace B_z := Lib.hid (Box4.below B_z.out bb B_z.out.lt); replace B_lo := Lib.hid (Box4.below B_lo.out bb B_lo.out.lt); replace B_q := Lib.hid (Box.below B_q.out bb B_q.out.lt); replace V_x := Lib.hid (Qd.below V_x.out bb); replace V_tab := Lib.hid (tab_below V_tab.out bb); replace V_lo := Lib.hid (Qd.below V_lo.out bb); replace HB := Lib.hid (nextw HB.out bb); clear bb; have c0x := B_x.out.c0; have c1x := B_x.out.c1; have c2x := B_x.out.c2; have c3x := B_x.out.c3; have c0lo := B_lo.out.c0; have c1lo := B_lo.out.c1; have c2lo := B_lo.out.c2; have c3lo := B_lo.out.c3; have tk5 : True := trivial))) | fail
  have HBo := HB.out
  go_wp2
  go_ret
  exact ⟨rfl, nextw HBo (by exact ⟨rfl, rfl, rfl, Nat.le_refl _, fun _ _ => rfl⟩)⟩

theorem Order_any {sx : Bool} {Ax : Option Addr} {kx cx : Nat} {tx : Bool} {Cx : Option Addr} {lx dx : Nat} {rx : Rat} {qx : Nat} {sy : Bool} {Ay : Option Addr} {ky cy : Nat} {ty : Bool} {Cy : Option Addr} {ly dy : Nat} {ry : Rat} {qy : Nat} {sz : Bool} {Az : Option Addr} {kz cz : Nat} {tz : Bool} {Cz : Option Addr} {lz dz : Nat} {rz : Rat} {qz : Nat} {w : World} (hx : Qd w (.agg #[.bool sx, .slice Ax kx cx, .bool tx, .slice Cx lx dx]) rx qx) (hy : Qd w (.agg #[.bool sy, .slice Ay ky cy, .bool ty, .slice Cy ly dy]) ry qy) (hz : Qd w (.agg #[.bool sz, .slice Az kz cz, .bool tz, .slice Cz lz dz]) rz qz) (htab : Tab10 w) (hqx : qx = max kx lx) (hqy : qy = max ky ly) (hqz : qz = max kz lz)
    (hm : ∀ p ∈ [(kx, lx), (ky, ly), (kz, lz)], p.1 ≤ 9223372036854775807 ∧ p.2 ≤ 9223372036854775807) :
    Calls Tryd.prog 5 #[.agg #[.bool sx, .slice Ax kx cx, .bool tx, .slice Cx lx dx], .agg #[.bool sy, .slice Ay ky cy, .bool ty, .slice Cy ly dy], .agg #[.bool sz, .slice Az kz cz, .bool tz, .slice Cz lz dz]] w fun e w' => e = .returned (.bool true) ∧ Below w.heap.size w w' := by
  by_cases hf : fewSum [(kx, lx), (ky, ly), (kz, lz)] ≤ 60
  · have hs := fewSum_small hf
    have s1 := hs (kx, lx) (by simp)
    have s2 := hs (ky, ly) (by simp)
    have s3 := hs (kz, lz) (by simp)
    simp only at s1 s2 s3
    by_cases h : rx.den = 1
    · exact Order_whole hx hy hz htab (by omega) (by omega) (by omega) hf h
    · exact Order_frac hx hy hz htab (by omega) (by omega) (by omega) hf h
  · exact Order_long hx hy hz htab hm hf
end Go.Proofs.YtldfamjlnphokaaDoor
