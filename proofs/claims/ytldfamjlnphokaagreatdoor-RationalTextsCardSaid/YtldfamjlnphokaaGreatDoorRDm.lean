/- The reference: DivMod for a positive divisor, without a remainder or of a number that is not negative. -/
import Derived.Test.YtldfamjlnphokaaGreatDoorRDiv
import Derived.Test.YtldfamjlnphokaaGreatDoorRefC
import Derived.Test.YtldfamjlnphokaaGreatDoorQBox

set_option linter.unusedVariables false
set_option linter.unusedSimpArgs false

namespace Go.Proofs.YtldfamjlnphokaaGreatDoor
open Go Go.RowKit Num

theorem RSign_gt {v1 : Value} {z1 : Int} {n1 : Nat} {w : World} (h1 : Rd w v1 z1 n1) (f1 : n1 ≤ 50000) (h : 0 < z1) :
    Calls Tryz.prog 58 #[v1] w fun e w' => e = .returned (.int .i64 1) ∧ Below w.heap.size w w' :=
  (RSign_rd h1 f1).mono fun e w' ⟨he, hb⟩ => ⟨by rw [he]; unfold sgn; rw [if_neg (by omega), if_neg (by omega)], hb⟩
theorem RSign_lt {v1 : Value} {z1 : Int} {n1 : Nat} {w : World} (h1 : Rd w v1 z1 n1) (f1 : n1 ≤ 50000) (h : z1 < 0) :
    Calls Tryz.prog 58 #[v1] w fun e w' => e = .returned (.int .i64 (-1)) ∧ Below w.heap.size w w' :=
  (RSign_rd h1 f1).mono fun e w' ⟨he, hb⟩ => ⟨by rw [he]; unfold sgn; rw [if_pos h], hb⟩
theorem RSign_eq {v1 : Value} {z1 : Int} {n1 : Nat} {w : World} (h1 : Rd w v1 z1 n1) (f1 : n1 ≤ 50000) (h : z1 = 0) :
    Calls Tryz.prog 58 #[v1] w fun e w' => e = .returned (.int .i64 0) ∧ Below w.heap.size w w' :=
  (RSign_rd h1 f1).mono fun e w' ⟨he, hb⟩ => ⟨by rw [he]; subst h; rfl, hb⟩
theorem rtrim_mag {v : Value} {l : List Nat} {N : Nat} {w : World} (h : U32 w v l) (hN : val l = N) (hn : l.length ≤ 50000) :
    Calls Tryz.prog 94 #[v] w fun e w' => ∃ m, e = .returned m ∧ U32 w' m (digs N) ∧ Below w.heap.size w w' := by
  subst hN
  exact (rtrim_any v l w h (by omega)).mono fun e w' ⟨A, c, he, hu, hb⟩ => ⟨_, he, hu, hb⟩
theorem rdivide_mag {v1 v2 : Value} {N D : Nat} {w : World} (h1 : U32 w v1 (digs N)) (h2 : U32 w v2 (digs D)) (h0 : 0 < D) (f1 : (digs N).length ≤ 100000) (f2 : (digs D).length ≤ 100000) :
    Calls Tryz.prog 125 #[v1, v2] w fun e w' => ∃ A1 k1 c1 A2 k2 c2, e = .returned (.tuple #[.slice A1 k1 c1, .slice A2 k2 c2]) ∧ U32 w' (.slice A1 k1 c1) (digs (N / D)) ∧ U32 w' (.slice A2 k2 c2) (digs (N % D)) ∧ Below w.heap.size w w' := by
  have h := rdivide_any v1 v2 (digs N) D w h1 h2 h0 f1 f2
  rw [val_digs] at h
  exact h
theorem dm_unique {a : Int} {D : Nat} {q r : Int} (h0 : 0 < D) (h : r + (D : Int) * q = a) (h1 : 0 ≤ r) (h2 : r < D) : q = a / D ∧ r = a % D := by
  obtain ⟨e1, e2⟩ := (Int.ediv_emod_unique (by omega : (0 : Int) < D)).2 ⟨h, h1, h2⟩
  exact ⟨e1.symm, e2.symm⟩
theorem dm_parts (N D : Nat) : (D : Int) * ((N / D : Nat) : Int) + ((N % D : Nat) : Int) = N := by
  rw [← Int.natCast_mul, ← Int.natCast_add, Nat.div_add_mod]
theorem dmA {s : Bool} {N D : Nat} (h0 : 0 < D) (h : s = false ∨ N % D = 0) : sgnd s (N / D) = sgnd s N / (D : Int) ∧ sgnd s (N % D) = sgnd s N % (D : Int) := by
  have e := dm_parts N D
  have hm := Nat.mod_lt N h0
  unfold sgnd
  rcases h with rfl | h
  · exact dm_unique h0 (by rw [if_neg (by decide), if_neg (by decide), if_neg (by decide)]; omega) (by rw [if_neg (by decide)]; omega) (by rw [if_neg (by decide)]; omega)
  · rw [h] at e ⊢
    cases s
    · exact dm_unique h0 (by rw [if_neg (by decide), if_neg (by decide), if_neg (by decide)]; omega) (by rw [if_neg (by decide)]; omega) (by rw [if_neg (by decide)]; omega)
    · exact dm_unique h0 (by rw [if_pos rfl, if_pos rfl, if_pos rfl, Int.mul_neg]; omega) (by rw [if_pos rfl]; omega) (by rw [if_pos rfl]; omega)
theorem dmB {N D : Nat} (h0 : 0 < D) (h : N % D ≠ 0) : sgnd true (N / D) - 1 = sgnd true N / (D : Int) ∧ sgnd true (N % D) < 0 := by
  have e := dm_parts N D
  have hm := Nat.mod_lt N h0
  unfold sgnd
  refine ⟨(dm_unique (r := -((N % D : Nat) : Int) + D) h0 ?_ (by omega) (by omega)).1, by rw [if_pos rfl]; omega⟩
  rw [if_pos rfl, if_pos rfl, Int.mul_sub, Int.mul_neg, Int.mul_one]
  omega
theorem ndiv_words {N D k : Nat} (h : N < 4294967296 ^ k) : N / D < 4294967296 ^ k := Nat.lt_of_le_of_lt (Nat.div_le_self _ _) h
theorem nmod_words {N D k : Nat} (h : N < 4294967296 ^ k) : N % D < 4294967296 ^ k := Nat.lt_of_le_of_lt (Nat.mod_le _ _) h
theorem quot_words {z1 z2 : Int} {n : Nat} (h : z1.natAbs < 4294967296 ^ n) : (z1 / z2).natAbs < 4294967296 ^ n := Nat.lt_of_le_of_lt (Int.natAbs_ediv_le_natAbs _ _) h
theorem Rc.shrink {w : World} {v : Value} {a b : Int} {n k : Nat} (h : Rc w v a n) (e : a = b) (hk : b.natAbs < 4294967296 ^ k) : Rc w v b k := by subst e; exact ⟨h.1, hk⟩
theorem Rc.plus {w : World} {v : Value} {z : Int} {n : Nat} (h : Rc w v z n) (hz : 0 ≤ z) : ∃ A k c, v = .agg #[.bool false, .slice A k c] := by
  obtain ⟨A, c, e⟩ := h.form
  rw [decide_eq_false (by omega)] at e
  exact ⟨A, _, c, e⟩
theorem Rc.minus {w : World} {v : Value} {z : Int} {n : Nat} (h : Rc w v z n) (hz : z < 0) : ∃ A k c, v = .agg #[.bool true, .slice A k c] := by
  obtain ⟨A, c, e⟩ := h.form
  rw [decide_eq_true hz] at e
  exact ⟨A, _, c, e⟩
theorem Rd.sgnd {w : World} {s : Bool} {m : Value} {z : Int} {n : Nat} (h : Rd w (.agg #[.bool s, m]) z n) : ∃ l N, U32 w m l ∧ val l = N ∧ l.length ≤ n ∧ N < 4294967296 ^ n ∧ sgnd s N = z := by
  obtain ⟨l, u, i, hl⟩ := h.u32
  refine ⟨l, _, u, rfl, hl, Nat.lt_of_lt_of_le (val_lt u.lt) (pow_mono hl), ?_⟩
  rw [← i]; rfl
theorem Rd.plus {w : World} {s : Bool} {m : Value} {z : Int} {n : Nat} (h : Rd w (.agg #[.bool s, m]) z n) (hz : 0 < z) : s = false := by
  obtain ⟨l, N, -, -, -, -, e⟩ := h.sgnd
  cases s
  · rfl
  · unfold Go.Proofs.YtldfamjlnphokaaGreatDoor.sgnd at e; rw [if_pos rfl] at e; omega
theorem slot_len {N k : Nat} (h : N < 4294967296 ^ k) (hk : k ≤ 50000) : (digs N).length ≤ 100000 := by have := digs_length_le h; omega

set_option maxRecDepth 100000 in
set_option maxHeartbeats 8000000 in
theorem RDM_plus {m v2 : Value} {z1 z2 : Int} {n1 n2 : Nat} {w : World} (h1 : Rd w (.agg #[.bool false, m]) z1 n1) (h2 : Rd w v2 z2 n2) (f1 : n1 ≤ 10000) (f2 : n2 ≤ 10000) (h0 : 0 < z2) :
    Calls Tryz.prog 103 #[.agg #[.bool false, m], v2] w fun e w' => ∃ v s A k c, e = .returned (.tuple #[v, .agg #[.bool s, .slice A k c], .int .i64 0]) ∧ Rc w' v (z1 / z2) n1 ∧ Below w.heap.size w w' := by
  obtain ⟨A1, k1, c1, rfl⟩ : ∃ A k c, m = .slice A k c := by obtain ⟨s', A, k, c, e, -⟩ := h1.shape; simp only [Value.agg.injEq, Array.mk.injEq, List.cons.injEq, and_true] at e; exact ⟨A, k, c, e.2⟩
  obtain ⟨sy, Ay, ky, cy, rfl, -⟩ := h2.shape
  obtain rfl := h2.plus h0
  have hzw := h1.abs
  obtain ⟨lx, N, ux, vx, hlx, hNn, ix⟩ := h1.sgnd
  obtain ⟨ly, D, uy, vy, hly, hDn, iy⟩ := h2.sgnd
  have hD : z2 = (D : Int) := by rw [← iy]; rfl
  have hD0 : 0 < D := by omega
  have hc : false = false ∨ N % D = 0 := Or.inl rfl
  obtain ⟨e1, e2⟩ := dmA hD0 hc
  rw [ix, ← hD] at e1 e2
  have hnn : 0 ≤ z1 % z2 := Int.emod_nonneg _ (by omega)
  have HE1 := Lib.hid e1
  have HE2 := Lib.hid e2
  have HNN := Lib.hid hnn
  clear e1 e2 hc hnn
  have HVX := Lib.hid vx
  have HVY := Lib.hid vy
  have HD0 := Lib.hid hD0
  have HNN1 := Lib.hid hNn
  have HDN := Lib.hid hDn
  have HZW := Lib.hid hzw
  have H0 := Lib.hid h0
  have V_y := Lib.hid h2
  have V_xm := Lib.hid ux
  have V_ym := Lib.hid uy
  clear h1 h2 ux uy vx vy ix iy hD hD0 hNn hDn hzw h0
  have hb0 : Below w.heap.size w ((((w.alloc (.cells #[.bool false, (.slice A1 k1 c1)] 24)).alloc (.cells #[.bool false, (.slice Ay ky cy)] 24)).alloc (.cells #[.bool false, (.slice none 0 0)] 24)).alloc (.cells #[.bool false, (.slice none 0 0)] 24)) := (Below.alloc (Below.alloc (Below.alloc (Below.alloc (Below.refl w.heap.size w) (by simp <;> omega) _) (by simp <;> omega) _) (by simp <;> omega) _) (by simp <;> omega) _)
  have B_x : Box ((((w.alloc (.cells #[.bool false, (.slice A1 k1 c1)] 24)).alloc (.cells #[.bool false, (.slice Ay ky cy)] 24)).alloc (.cells #[.bool false, (.slice none 0 0)] 24)).alloc (.cells #[.bool false, (.slice none 0 0)] 24)) (w.heap.size) false (.slice A1 k1 c1) := by have h := Box.alloc (Box.alloc (Box.alloc (Box.new w false (.slice A1 k1 c1)) (.cells #[.bool false, (.slice Ay ky cy)] 24)) (.cells #[.bool false, (.slice none 0 0)] 24)) (.cells #[.bool false, (.slice none 0 0)] 24); simpa using h
  replace B_x := Lib.hid B_x
  have B_y : Box ((((w.alloc (.cells #[.bool false, (.slice A1 k1 c1)] 24)).alloc (.cells #[.bool false, (.slice Ay ky cy)] 24)).alloc (.cells #[.bool false, (.slice none 0 0)] 24)).alloc (.cells #[.bool false, (.slice none 0 0)] 24)) (w.heap.size + 1) false (.slice Ay ky cy) := by have h := Box.alloc (Box.alloc (Box.new (w.alloc (.cells #[.bool false, (.slice A1 k1 c1)] 24)) false (.slice Ay ky cy)) (.cells #[.bool false, (.slice none 0 0)] 24)) (.cells #[.bool false, (.slice none 0 0)] 24); simpa using h
  replace B_y := Lib.hid B_y
  have B_q : Box ((((w.alloc (.cells #[.bool false, (.slice A1 k1 c1)] 24)).alloc (.cells #[.bool false, (.slice Ay ky cy)] 24)).alloc (.cells #[.bool false, (.slice none 0 0)] 24)).alloc (.cells #[.bool false, (.slice none 0 0)] 24)) (w.heap.size + 1 + 1) false (.slice none 0 0) := by have h := Box.alloc (Box.new ((w.alloc (.cells #[.bool false, (.slice A1 k1 c1)] 24)).alloc (.cells #[.bool false, (.slice Ay ky cy)] 24)) false (.slice none 0 0)) (.cells #[.bool false, (.slice none 0 0)] 24); simpa using h
  replace B_q := Lib.hid B_q
  have B_r : Box ((((w.alloc (.cells #[.bool false, (.slice A1 k1 c1)] 24)).alloc (.cells #[.bool false, (.slice Ay ky cy)] 24)).alloc (.cells #[.bool false, (.slice none 0 0)] 24)).alloc (.cells #[.bool false, (.slice none 0 0)] 24)) (w.heap.size + 1 + 1 + 1) false (.slice none 0 0) := by have h := Box.new (((w.alloc (.cells #[.bool false, (.slice A1 k1 c1)] 24)).alloc (.cells #[.bool false, (.slice Ay ky cy)] 24)).alloc (.cells #[.bool false, (.slice none 0 0)] 24)) false (.slice none 0 0); simpa using h
  replace B_r := Lib.hid B_r
  replace V_y := Lib.hid (Rd.below V_y.out hb0)
  replace V_xm := Lib.hid (U32.below V_xm.out hb0)
  replace V_ym := Lib.hid (U32.below V_ym.out hb0)
  have HB := Lib.hid hb0
  clear hb0
  have c0x := B_x.out.c0
  have c1x := B_x.out.c1
  have c0y := B_y.out.c0
  have c1y := B_y.out.c1
  have c0q := B_q.out.c0
  have c1q := B_q.out.c1
  have c0r := B_r.out.c0
  have c1r := B_r.out.c1
  go_enter Tryz.func103, Tryz.ntmps103
  go_wp2_with fail
  clear c0x c1x c0y c1y c0q c1q c0r c1r
  generalize (((w.alloc (.cells #[.bool false, (.slice A1 k1 c1)] 24)).alloc (.cells #[.bool false, (.slice Ay ky cy)] 24)).alloc (.cells #[.bool false, (.slice none 0 0)] 24)).alloc (.cells #[.bool false, (.slice none 0 0)] 24) = W0 at *
  refine (RSign_gt (Rd.below V_y.out (by exact ⟨rfl, rfl, rfl, Nat.le_refl _, fun _ _ => rfl⟩)) (by omega) H0.out).mono ?_
  rintro e w1 ⟨rfl, bb⟩
  replace bb := nextw (w0 := W0) (by exact ⟨rfl, rfl, rfl, Nat.le_refl _, fun _ _ => rfl⟩) bb
  replace B_x := Lib.hid (Box.below B_x.out bb B_x.out.lt)
  replace B_y := Lib.hid (Box.below B_y.out bb B_y.out.lt)
  replace B_q := Lib.hid (Box.below B_q.out bb B_q.out.lt)
  replace B_r := Lib.hid (Box.below B_r.out bb B_r.out.lt)
  replace V_y := Lib.hid (Rd.below V_y.out bb)
  replace V_xm := Lib.hid (U32.below V_xm.out bb)
  replace V_ym := Lib.hid (U32.below V_ym.out bb)
  replace HB := Lib.hid (nextw HB.out bb)
  clear bb
  have c0x := B_x.out.c0
  have c1x := B_x.out.c1
  have c0y := B_y.out.c0
  have c1y := B_y.out.c1
  go_wp2
  have c0x := B_x.out.c0
  have c1x := B_x.out.c1
  have c0y := B_y.out.c0
  have c1y := B_y.out.c1
  have tk0 : True := trivial
  first | (go_region_held3 (fun w' => w'.cell? ⟨w.heap.size, 0, none⟩ = some (.bool false) ∧ w'.cell? ⟨w.heap.size, 1, none⟩ = some (.slice A1 k1 c1) ∧ w'.cell? ⟨w.heap.size + 1, 0, none⟩ = some (.bool false) ∧ w'.cell? ⟨w.heap.size + 1, 1, none⟩ = some (.slice Ay ky cy)) (((try dsimp only); (repeat' apply And.intro) <;> (first | (with_reducible assumption) | ((repeat (first | (with_reducible refine Eq.trans (cell_drew1 _ _) ?_) | (with_reducible refine Eq.trans (cell_set4 (by omega) _ _ _ _) ?_))); with_reducible assumption) | assumption | go_keep)))
    (first
      | (have _t := tk0; clear _t tk0; go_at_call 94; refine (rtrim_mag (U32.below V_xm.out (by exact ⟨rfl, rfl, rfl, Nat.le_refl _, fun _ _ => rfl⟩)) HVX.out (by omega)).mono ?_; rintro e w2 ⟨m1, rfl, hm1, bb⟩; replace bb := nextw (w0 := w1) (by exact ⟨rfl, rfl, rfl, Nat.le_refl _, fun _ _ => rfl⟩) bb; clear V_xm; replace B_x := Lib.hid (Box.below B_x.out bb B_x.out.lt); replace B_y := Lib.hid (Box.below B_y.out bb B_y.out.lt); replace B_q := Lib.hid (Box.below B_q.out bb B_q.out.lt); replace B_r := Lib.hid (Box.below B_r.out bb B_r.out.lt); replace V_y := Lib.hid (Rd.below V_y.out bb); replace V_ym := Lib.hid (U32.below V_ym.out bb); replace HB := Lib.hid (nextw HB.out bb); clear bb; replace hm1 := Lib.hid hm1; have V_a := hm1; clear hm1; have c0x := B_x.out.c0; have c1x := B_x.out.c1; have c0y := B_y.out.c0; have c1y := B_y.out.c1; have tk1 : True := trivial)
      | (have _t := tk1; clear _t tk1; go_at_call 94; refine (rtrim_mag (U32.below V_ym.out (by exact ⟨rfl, rfl, rfl, Nat.le_refl _, fun _ _ => rfl⟩)) HVY.out (by omega)).mono ?_; rintro e w3 ⟨m2, rfl, hm2, bb⟩; replace bb := nextw (w0 := w2) (by exact ⟨rfl, rfl, rfl, Nat.le_refl _, fun _ _ => rfl⟩) bb; clear V_ym; replace B_x := Lib.hid (Box.below B_x.out bb B_x.out.lt); replace B_y := Lib.hid (Box.below B_y.out bb B_y.out.lt); replace B_q := Lib.hid (Box.below B_q.out bb B_q.out.lt); replace B_r := Lib.hid (Box.below B_r.out bb B_r.out.lt); replace V_y := Lib.hid (Rd.below V_y.out bb); replace V_a := Lib.hid (U32.below V_a.out bb); replace HB := Lib.hid (nextw HB.out bb); clear bb; replace hm2 := Lib.hid hm2; have V_b := hm2; clear hm2; have c0x := B_x.out.c0; have c1x := B_x.out.c1; have c0y := B_y.out.c0; have c1y := B_y.out.c1; have tk2 : True := trivial)
      | (have _t := tk2; clear _t tk2; go_at_call 125; refine (rdivide_mag (U32.below V_a.out (by exact ⟨rfl, rfl, rfl, Nat.le_refl _, fun _ _ => rfl⟩)) (U32.below V_b.out (by exact ⟨rfl, rfl, rfl, Nat.le_refl _, fun _ _ => rfl⟩)) HD0.out (slot_len HNN1.out (by omega)) (slot_len HDN.out (by omega))).mono ?_; rintro e w4 ⟨Aq, kq, cq, Au, ku, cu, rfl, hq, hu, bb⟩; replace bb := nextw (w0 := w3) (by exact ⟨rfl, rfl, rfl, Nat.le_refl _, fun _ _ => rfl⟩) bb; clear V_a V_b; replace B_x := Lib.hid (Box.below B_x.out bb B_x.out.lt); replace B_y := Lib.hid (Box.below B_y.out bb B_y.out.lt); replace B_q := Lib.hid (Box.below B_q.out bb B_q.out.lt); replace B_r := Lib.hid (Box.below B_r.out bb B_r.out.lt); replace V_y := Lib.hid (Rd.below V_y.out bb); replace HB := Lib.hid (nextw HB.out bb); clear bb; replace hq := Lib.hid hq; have V_qm := hq; clear hq; replace hu := Lib.hid hu; have V_um := hu; clear hu; have c0x := B_x.out.c0; have c1x := B_x.out.c1; have c0y := B_y.out.c0; have c1y := B_y.out.c1; have tk3 : True := trivial))) | fail
  all_goals
    have c0x := B_x.out.c0
    have c1x := B_x.out.c1
    have c0y := B_y.out.c0
    have c1y := B_y.out.c1
    go_wp2_with fail
    refine (RNorm_rd (n1 := n1) (z1 := (z1 / z2)) (Rd_of_mag (U32.below V_qm.out (by exact ⟨rfl, rfl, rfl, Nat.le_refl _, fun _ _ => rfl⟩)) (ndiv_words HNN1.out) HE1.out) (by omega)).mono ?_
    rintro e w5 ⟨vQ, rfl, rQ, bb⟩
    replace bb := nextw (w0 := w4) (by exact ⟨rfl, rfl, rfl, Nat.le_refl _, fun _ _ => rfl⟩) bb
    clear c0x c1x c0y c1y
    replace B_x := Lib.hid (Box.below B_x.out bb B_x.out.lt)
    replace B_y := Lib.hid (Box.below B_y.out bb B_y.out.lt)
    replace B_q := Lib.hid (Box.below B_q.out bb B_q.out.lt)
    replace B_r := Lib.hid (Box.below B_r.out bb B_r.out.lt)
    replace V_y := Lib.hid (Rd.below V_y.out bb)
    replace V_qm := Lib.hid (U32.below V_qm.out bb)
    replace V_um := Lib.hid (U32.below V_um.out bb)
    replace HB := Lib.hid (nextw HB.out bb)
    clear bb
    obtain ⟨sQ, AQ, kQ, cQ, rfl⟩ := rQ.shape
    have V_Q := Lib.hid rQ
    clear rQ V_qm
    have Z1x := Lib.hid B_x.out.lt
    have Z2y := Lib.hid B_y.out.lt
    have Z3q := Lib.hid B_q.out.lt
    have Z4r := Lib.hid B_r.out.lt
    have hb0 : Below w5.heap.size w5 (w5.alloc (.cells #[.bool sQ, (.slice AQ kQ cQ)] 24)) := (Below.alloc (Below.refl w5.heap.size w5) (by simp <;> omega) _)
    have B_Q : Box (w5.alloc (.cells #[.bool sQ, (.slice AQ kQ cQ)] 24)) (w5.heap.size) sQ (.slice AQ kQ cQ) := by have h := Box.new w5 sQ (.slice AQ kQ cQ); simpa using h
    replace B_Q := Lib.hid B_Q
    replace B_x := Lib.hid (Box.below B_x.out hb0 B_x.out.lt)
    replace B_y := Lib.hid (Box.below B_y.out hb0 B_y.out.lt)
    replace B_q := Lib.hid (Box.below B_q.out hb0 B_q.out.lt)
    replace B_r := Lib.hid (Box.below B_r.out hb0 B_r.out.lt)
    replace V_y := Lib.hid (Rd.below V_y.out hb0)
    replace V_um := Lib.hid (U32.below V_um.out hb0)
    replace V_Q := Lib.hid (Rc.below V_Q.out hb0)
    replace HB := Lib.hid (nextw HB.out hb0)
    clear hb0
    have c0x := B_x.out.c0
    have c1x := B_x.out.c1
    have c0y := B_y.out.c0
    have c1y := B_y.out.c1
    go_wp2_with fail
    clear c0x c1x c0y c1y
    generalize w5.alloc (.cells #[.bool sQ, (.slice AQ kQ cQ)] 24) = W1 at *
    refine (RNorm_rd (n1 := n1) (z1 := (z1 % z2)) (Rd_of_mag (U32.below V_um.out (by exact ⟨rfl, rfl, rfl, Nat.le_refl _, fun _ _ => rfl⟩)) (nmod_words HNN1.out) HE2.out) (by omega)).mono ?_
    rintro e w6 ⟨vR, rfl, rR, bb⟩
    replace bb := nextw (w0 := W1) (by exact ⟨rfl, rfl, rfl, Nat.le_refl _, fun _ _ => rfl⟩) bb
    replace B_x := Lib.hid (Box.below B_x.out bb B_x.out.lt)
    replace B_y := Lib.hid (Box.below B_y.out bb B_y.out.lt)
    replace B_q := Lib.hid (Box.below B_q.out bb B_q.out.lt)
    replace B_r := Lib.hid (Box.below B_r.out bb B_r.out.lt)
    replace B_Q := Lib.hid (Box.below B_Q.out bb B_Q.out.lt)
    replace V_y := Lib.hid (Rd.below V_y.out bb)
    replace V_um := Lib.hid (U32.below V_um.out bb)
    replace V_Q := Lib.hid (Rc.below V_Q.out bb)
    replace HB := Lib.hid (nextw HB.out bb)
    clear bb
    obtain ⟨AR, kR, cR, rfl⟩ := rR.plus HNN.out
    have V_R := Lib.hid rR
    clear rR V_um
    have Z5x := Lib.hid B_x.out.lt
    have Z6y := Lib.hid B_y.out.lt
    have Z7q := Lib.hid B_q.out.lt
    have Z8r := Lib.hid B_r.out.lt
    have Z9Q := Lib.hid B_Q.out.lt
    have hb0 : Below w6.heap.size w6 (w6.alloc (.cells #[.bool false, (.slice AR kR cR)] 24)) := (Below.alloc (Below.refl w6.heap.size w6) (by simp <;> omega) _)
    have B_R : Box (w6.alloc (.cells #[.bool false, (.slice AR kR cR)] 24)) (w6.heap.size) false (.slice AR kR cR) := by have h := Box.new w6 false (.slice AR kR cR); simpa using h
    replace B_R := Lib.hid B_R
    replace B_x := Lib.hid (Box.below B_x.out hb0 B_x.out.lt)
    replace B_y := Lib.hid (Box.below B_y.out hb0 B_y.out.lt)
    replace B_q := Lib.hid (Box.below B_q.out hb0 B_q.out.lt)
    replace B_r := Lib.hid (Box.below B_r.out hb0 B_r.out.lt)
    replace B_Q := Lib.hid (Box.below B_Q.out hb0 B_Q.out.lt)
    replace V_y := Lib.hid (Rd.below V_y.out hb0)
    replace V_Q := Lib.hid (Rc.below V_Q.out hb0)
    replace V_R := Lib.hid (Rc.below V_R.out hb0)
    replace HB := Lib.hid (nextw HB.out hb0)
    clear hb0
    have c0x := B_x.out.c0
    have c1x := B_x.out.c1
    have f0x := B_x.out.f0
    have f1x := B_x.out.f1
    have c0y := B_y.out.c0
    have c1y := B_y.out.c1
    have f0y := B_y.out.f0
    have f1y := B_y.out.f1
    have c0Q := B_Q.out.c0
    have c1Q := B_Q.out.c1
    have f0Q := B_Q.out.f0
    have f1Q := B_Q.out.f1
    have c0R := B_R.out.c0
    have c1R := B_R.out.c1
    have f0R := B_R.out.f0
    have f1R := B_R.out.f1
    have c0q := B_q.out.c0
    have c1q := B_q.out.c1
    have f0q := B_q.out.f0
    have f1q := B_q.out.f1
    have c0r := B_r.out.c0
    have c1r := B_r.out.c1
    have f0r := B_r.out.f0
    have f1r := B_r.out.f1
    go_wp2
    clear c0x c1x f0x f1x c0y c1y f0y f1y c0Q c1Q f0Q f1Q c0R c1R f0R f1R c0q c1q f0q f1q c0r c1r f0r f1r
    generalize w6.alloc (.cells #[.bool false, (.slice AR kR cR)] 24) = W2 at *
    have c0Q := B_Q.out.c0
    have c1Q := B_Q.out.c1
    have f0Q := B_Q.out.f0
    have f1Q := B_Q.out.f1
    have c0R := B_R.out.c0
    have c1R := B_R.out.c1
    have f0R := B_R.out.f0
    have f1R := B_R.out.f1
    have c0q := B_q.out.c0
    have c1q := B_q.out.c1
    have f0q := B_q.out.f0
    have f1q := B_q.out.f1
    have c0r := B_r.out.c0
    have c1r := B_r.out.c1
    have f0r := B_r.out.f0
    have f1r := B_r.out.f1
    have na1x := Nat.ne_of_lt Z1x.out
    have nb1x := Nat.ne_of_gt Z1x.out
    have na2y := Nat.ne_of_lt Z2y.out
    have nb2y := Nat.ne_of_gt Z2y.out
    have na3q := Nat.ne_of_lt Z3q.out
    have nb3q := Nat.ne_of_gt Z3q.out
    have na4r := Nat.ne_of_lt Z4r.out
    have nb4r := Nat.ne_of_gt Z4r.out
    have na5x := Nat.ne_of_lt Z5x.out
    have nb5x := Nat.ne_of_gt Z5x.out
    have na6y := Nat.ne_of_lt Z6y.out
    have nb6y := Nat.ne_of_gt Z6y.out
    have na7q := Nat.ne_of_lt Z7q.out
    have nb7q := Nat.ne_of_gt Z7q.out
    have na8r := Nat.ne_of_lt Z8r.out
    have nb8r := Nat.ne_of_gt Z8r.out
    have na9Q := Nat.ne_of_lt Z9Q.out
    have nb9Q := Nat.ne_of_gt Z9Q.out
    go_region
    clear c0Q c1Q f0Q f1Q c0R c1R f0R f1R c0q c1q f0q f1q c0r c1r f0r f1r
    skip
    have K_Q := V_Q
    replace K_Q := Lib.hid (Box.keepsRc B_q.out K_Q.out sQ (.slice AQ kQ cQ))
    have HB1 := Lib.hid (Below.store HB.out (x := w.heap.size + 1 + 1) (by omega) (.bool sQ) (.slice AQ kQ cQ))
    have N0r := Lib.hid (Box.far (y := w.heap.size + 1 + 1) B_r.out (by omega) (.bool sQ) (.slice AQ kQ cQ))
    have N0q := Lib.hid (Box.store B_q.out sQ (.slice AQ kQ cQ))
    replace K_Q := Lib.hid (Box.keepsRc N0r.out K_Q.out false (.slice AR kR cR))
    have HB2 := Lib.hid (Below.store HB1.out (x := w.heap.size + 1 + 1 + 1) (by omega) (.bool false) (.slice AR kR cR))
    have N1q := Lib.hid (Box.far (y := w.heap.size + 1 + 1 + 1) N0q.out (by omega) (.bool false) (.slice AR kR cR))
    have N1r := Lib.hid (Box.store N0r.out false (.slice AR kR cR))
    have s0q := N1q.out.c0
    have s1q := N1q.out.c1
    have s0r := N1r.out.c0
    have s1r := N1r.out.c1
    have HBF := HB2
    have c0q := B_q.out.c0
    have c1q := B_q.out.c1
    have f0q := B_q.out.f0
    have f1q := B_q.out.f1
    have c0r := B_r.out.c0
    have c1r := B_r.out.c1
    have f0r := B_r.out.f0
    have f1r := B_r.out.f1
    have p00r := N0r.out.c0
    have r00r := N0r.out.f0
    have p01r := N0r.out.c1
    have r01r := N0r.out.f1
    go_wp2_with fail
    exact bodyPost_ret (v := .tuple #[.agg #[.bool sQ, (.slice AQ kQ cQ)], .agg #[.bool false, (.slice AR kR cR)], .int .i64 0]) (by simp [results, Tryz.results103, go_sem, s0q, s1q, s0r, s1r]) rfl ⟨_, _, _, _, _, rfl, (Rc.below K_Q.out (by exact ⟨rfl, rfl, rfl, Nat.le_refl _, fun _ _ => rfl⟩)), (nextw HBF.out (by exact ⟨rfl, rfl, rfl, Nat.le_refl _, fun _ _ => rfl⟩))⟩

set_option maxRecDepth 100000 in
set_option maxHeartbeats 8000000 in
theorem RDM_zero {m v2 : Value} {z1 z2 : Int} {n1 n2 : Nat} {w : World} (h1 : Rd w (.agg #[.bool true, m]) z1 n1) (h2 : Rd w v2 z2 n2) (f1 : n1 ≤ 10000) (f2 : n2 ≤ 10000) (h0 : 0 < z2) (h : z1 % z2 = 0) :
    Calls Tryz.prog 103 #[.agg #[.bool true, m], v2] w fun e w' => ∃ v s A k c, e = .returned (.tuple #[v, .agg #[.bool s, .slice A k c], .int .i64 0]) ∧ Rc w' v (z1 / z2) n1 ∧ Below w.heap.size w w' := by
  obtain ⟨A1, k1, c1, rfl⟩ : ∃ A k c, m = .slice A k c := by obtain ⟨s', A, k, c, e, -⟩ := h1.shape; simp only [Value.agg.injEq, Array.mk.injEq, List.cons.injEq, and_true] at e; exact ⟨A, k, c, e.2⟩
  obtain ⟨sy, Ay, ky, cy, rfl, -⟩ := h2.shape
  obtain rfl := h2.plus h0
  have hzw := h1.abs
  obtain ⟨lx, N, ux, vx, hlx, hNn, ix⟩ := h1.sgnd
  obtain ⟨ly, D, uy, vy, hly, hDn, iy⟩ := h2.sgnd
  have hD : z2 = (D : Int) := by rw [← iy]; rfl
  have hD0 : 0 < D := by omega
  have hc : true = false ∨ N % D = 0 := Or.inr (by rw [hD, ← ix] at h; unfold sgnd at h; rw [if_pos rfl] at h; have h3 := Int.dvd_of_emod_eq_zero h; rw [Int.dvd_neg, Int.natCast_dvd_natCast] at h3; exact Nat.mod_eq_zero_of_dvd h3)
  obtain ⟨e1, e2⟩ := dmA hD0 hc
  rw [ix, ← hD] at e1 e2
  have hnn : 0 ≤ z1 % z2 := Int.emod_nonneg _ (by omega)
  have HE1 := Lib.hid e1
  have HE2 := Lib.hid e2
  have HNN := Lib.hid hnn
  clear e1 e2 hc hnn
  have HVX := Lib.hid vx
  have HVY := Lib.hid vy
  have HD0 := Lib.hid hD0
  have HNN1 := Lib.hid hNn
  have HDN := Lib.hid hDn
  have HZW := Lib.hid hzw
  have H0 := Lib.hid h0
  have V_y := Lib.hid h2
  have V_xm := Lib.hid ux
  have V_ym := Lib.hid uy
  clear h1 h2 ux uy vx vy ix iy hD hD0 hNn hDn hzw h0 h
  have hb0 : Below w.heap.size w ((((w.alloc (.cells #[.bool true, (.slice A1 k1 c1)] 24)).alloc (.cells #[.bool false, (.slice Ay ky cy)] 24)).alloc (.cells #[.bool false, (.slice none 0 0)] 24)).alloc (.cells #[.bool false, (.slice none 0 0)] 24)) := (Below.alloc (Below.alloc (Below.alloc (Below.alloc (Below.refl w.heap.size w) (by simp <;> omega) _) (by simp <;> omega) _) (by simp <;> omega) _) (by simp <;> omega) _)
  have B_x : Box ((((w.alloc (.cells #[.bool true, (.slice A1 k1 c1)] 24)).alloc (.cells #[.bool false, (.slice Ay ky cy)] 24)).alloc (.cells #[.bool false, (.slice none 0 0)] 24)).alloc (.cells #[.bool false, (.slice none 0 0)] 24)) (w.heap.size) true (.slice A1 k1 c1) := by have h := Box.alloc (Box.alloc (Box.alloc (Box.new w true (.slice A1 k1 c1)) (.cells #[.bool false, (.slice Ay ky cy)] 24)) (.cells #[.bool false, (.slice none 0 0)] 24)) (.cells #[.bool false, (.slice none 0 0)] 24); simpa using h
  replace B_x := Lib.hid B_x
  have B_y : Box ((((w.alloc (.cells #[.bool true, (.slice A1 k1 c1)] 24)).alloc (.cells #[.bool false, (.slice Ay ky cy)] 24)).alloc (.cells #[.bool false, (.slice none 0 0)] 24)).alloc (.cells #[.bool false, (.slice none 0 0)] 24)) (w.heap.size + 1) false (.slice Ay ky cy) := by have h := Box.alloc (Box.alloc (Box.new (w.alloc (.cells #[.bool true, (.slice A1 k1 c1)] 24)) false (.slice Ay ky cy)) (.cells #[.bool false, (.slice none 0 0)] 24)) (.cells #[.bool false, (.slice none 0 0)] 24); simpa using h
  replace B_y := Lib.hid B_y
  have B_q : Box ((((w.alloc (.cells #[.bool true, (.slice A1 k1 c1)] 24)).alloc (.cells #[.bool false, (.slice Ay ky cy)] 24)).alloc (.cells #[.bool false, (.slice none 0 0)] 24)).alloc (.cells #[.bool false, (.slice none 0 0)] 24)) (w.heap.size + 1 + 1) false (.slice none 0 0) := by have h := Box.alloc (Box.new ((w.alloc (.cells #[.bool true, (.slice A1 k1 c1)] 24)).alloc (.cells #[.bool false, (.slice Ay ky cy)] 24)) false (.slice none 0 0)) (.cells #[.bool false, (.slice none 0 0)] 24); simpa using h
  replace B_q := Lib.hid B_q
  have B_r : Box ((((w.alloc (.cells #[.bool true, (.slice A1 k1 c1)] 24)).alloc (.cells #[.bool false, (.slice Ay ky cy)] 24)).alloc (.cells #[.bool false, (.slice none 0 0)] 24)).alloc (.cells #[.bool false, (.slice none 0 0)] 24)) (w.heap.size + 1 + 1 + 1) false (.slice none 0 0) := by have h := Box.new (((w.alloc (.cells #[.bool true, (.slice A1 k1 c1)] 24)).alloc (.cells #[.bool false, (.slice Ay ky cy)] 24)).alloc (.cells #[.bool false, (.slice none 0 0)] 24)) false (.slice none 0 0); simpa using h
  replace B_r := Lib.hid B_r
  replace V_y := Lib.hid (Rd.below V_y.out hb0)
  replace V_xm := Lib.hid (U32.below V_xm.out hb0)
  replace V_ym := Lib.hid (U32.below V_ym.out hb0)
  have HB := Lib.hid hb0
  clear hb0
  have c0x := B_x.out.c0
  have c1x := B_x.out.c1
  have c0y := B_y.out.c0
  have c1y := B_y.out.c1
  have c0q := B_q.out.c0
  have c1q := B_q.out.c1
  have c0r := B_r.out.c0
  have c1r := B_r.out.c1
  go_enter Tryz.func103, Tryz.ntmps103
  go_wp2_with fail
  clear c0x c1x c0y c1y c0q c1q c0r c1r
  generalize (((w.alloc (.cells #[.bool true, (.slice A1 k1 c1)] 24)).alloc (.cells #[.bool false, (.slice Ay ky cy)] 24)).alloc (.cells #[.bool false, (.slice none 0 0)] 24)).alloc (.cells #[.bool false, (.slice none 0 0)] 24) = W0 at *
  refine (RSign_gt (Rd.below V_y.out (by exact ⟨rfl, rfl, rfl, Nat.le_refl _, fun _ _ => rfl⟩)) (by omega) H0.out).mono ?_
  rintro e w1 ⟨rfl, bb⟩
  replace bb := nextw (w0 := W0) (by exact ⟨rfl, rfl, rfl, Nat.le_refl _, fun _ _ => rfl⟩) bb
  replace B_x := Lib.hid (Box.below B_x.out bb B_x.out.lt)
  replace B_y := Lib.hid (Box.below B_y.out bb B_y.out.lt)
  replace B_q := Lib.hid (Box.below B_q.out bb B_q.out.lt)
  replace B_r := Lib.hid (Box.below B_r.out bb B_r.out.lt)
  replace V_y := Lib.hid (Rd.below V_y.out bb)
  replace V_xm := Lib.hid (U32.below V_xm.out bb)
  replace V_ym := Lib.hid (U32.below V_ym.out bb)
  replace HB := Lib.hid (nextw HB.out bb)
  clear bb
  have c0x := B_x.out.c0
  have c1x := B_x.out.c1
  have c0y := B_y.out.c0
  have c1y := B_y.out.c1
  go_wp2
  have c0x := B_x.out.c0
  have c1x := B_x.out.c1
  have c0y := B_y.out.c0
  have c1y := B_y.out.c1
  have tk0 : True := trivial
  first | (go_region_held3 (fun w' => w'.cell? ⟨w.heap.size, 0, none⟩ = some (.bool true) ∧ w'.cell? ⟨w.heap.size, 1, none⟩ = some (.slice A1 k1 c1) ∧ w'.cell? ⟨w.heap.size + 1, 0, none⟩ = some (.bool false) ∧ w'.cell? ⟨w.heap.size + 1, 1, none⟩ = some (.slice Ay ky cy)) (((try dsimp only); (repeat' apply And.intro) <;> (first | (with_reducible assumption) | ((repeat (first | (with_reducible refine Eq.trans (cell_drew1 _ _) ?_) | (with_reducible refine Eq.trans (cell_set4 (by omega) _ _ _ _) ?_))); with_reducible assumption) | assumption | go_keep)))
    (first
      | (have _t := tk0; clear _t tk0; go_at_call 94; refine (rtrim_mag (U32.below V_xm.out (by exact ⟨rfl, rfl, rfl, Nat.le_refl _, fun _ _ => rfl⟩)) HVX.out (by omega)).mono ?_; rintro e w2 ⟨m1, rfl, hm1, bb⟩; replace bb := nextw (w0 := w1) (by exact ⟨rfl, rfl, rfl, Nat.le_refl _, fun _ _ => rfl⟩) bb; clear V_xm; replace B_x := Lib.hid (Box.below B_x.out bb B_x.out.lt); replace B_y := Lib.hid (Box.below B_y.out bb B_y.out.lt); replace B_q := Lib.hid (Box.below B_q.out bb B_q.out.lt); replace B_r := Lib.hid (Box.below B_r.out bb B_r.out.lt); replace V_y := Lib.hid (Rd.below V_y.out bb); replace V_ym := Lib.hid (U32.below V_ym.out bb); replace HB := Lib.hid (nextw HB.out bb); clear bb; replace hm1 := Lib.hid hm1; have V_a := hm1; clear hm1; have c0x := B_x.out.c0; have c1x := B_x.out.c1; have c0y := B_y.out.c0; have c1y := B_y.out.c1; have tk1 : True := trivial)
      | (have _t := tk1; clear _t tk1; go_at_call 94; refine (rtrim_mag (U32.below V_ym.out (by exact ⟨rfl, rfl, rfl, Nat.le_refl _, fun _ _ => rfl⟩)) HVY.out (by omega)).mono ?_; rintro e w3 ⟨m2, rfl, hm2, bb⟩; replace bb := nextw (w0 := w2) (by exact ⟨rfl, rfl, rfl, Nat.le_refl _, fun _ _ => rfl⟩) bb; clear V_ym; replace B_x := Lib.hid (Box.below B_x.out bb B_x.out.lt); replace B_y := Lib.hid (Box.below B_y.out bb B_y.out.lt); replace B_q := Lib.hid (Box.below B_q.out bb B_q.out.lt); replace B_r := Lib.hid (Box.below B_r.out bb B_r.out.lt); replace V_y := Lib.hid (Rd.below V_y.out bb); replace V_a := Lib.hid (U32.below V_a.out bb); replace HB := Lib.hid (nextw HB.out bb); clear bb; replace hm2 := Lib.hid hm2; have V_b := hm2; clear hm2; have c0x := B_x.out.c0; have c1x := B_x.out.c1; have c0y := B_y.out.c0; have c1y := B_y.out.c1; have tk2 : True := trivial)
      | (have _t := tk2; clear _t tk2; go_at_call 125; refine (rdivide_mag (U32.below V_a.out (by exact ⟨rfl, rfl, rfl, Nat.le_refl _, fun _ _ => rfl⟩)) (U32.below V_b.out (by exact ⟨rfl, rfl, rfl, Nat.le_refl _, fun _ _ => rfl⟩)) HD0.out (slot_len HNN1.out (by omega)) (slot_len HDN.out (by omega))).mono ?_; rintro e w4 ⟨Aq, kq, cq, Au, ku, cu, rfl, hq, hu, bb⟩; replace bb := nextw (w0 := w3) (by exact ⟨rfl, rfl, rfl, Nat.le_refl _, fun _ _ => rfl⟩) bb; clear V_a V_b; replace B_x := Lib.hid (Box.below B_x.out bb B_x.out.lt); replace B_y := Lib.hid (Box.below B_y.out bb B_y.out.lt); replace B_q := Lib.hid (Box.below B_q.out bb B_q.out.lt); replace B_r := Lib.hid (Box.below B_r.out bb B_r.out.lt); replace V_y := Lib.hid (Rd.below V_y.out bb); replace HB := Lib.hid (nextw HB.out bb); clear bb; replace hq := Lib.hid hq; have V_qm := hq; clear hq; replace hu := Lib.hid hu; have V_um := hu; clear hu; have c0x := B_x.out.c0; have c1x := B_x.out.c1; have c0y := B_y.out.c0; have c1y := B_y.out.c1; have tk3 : True := trivial))) | fail
  all_goals
    have c0x := B_x.out.c0
    have c1x := B_x.out.c1
    have c0y := B_y.out.c0
    have c1y := B_y.out.c1
    go_wp2_with fail
    refine (RNorm_rd (n1 := n1) (z1 := (z1 / z2)) (Rd_of_mag (U32.below V_qm.out (by exact ⟨rfl, rfl, rfl, Nat.le_refl _, fun _ _ => rfl⟩)) (ndiv_words HNN1.out) HE1.out) (by omega)).mono ?_
    rintro e w5 ⟨vQ, rfl, rQ, bb⟩
    replace bb := nextw (w0 := w4) (by exact ⟨rfl, rfl, rfl, Nat.le_refl _, fun _ _ => rfl⟩) bb
    clear c0x c1x c0y c1y
    replace B_x := Lib.hid (Box.below B_x.out bb B_x.out.lt)
    replace B_y := Lib.hid (Box.below B_y.out bb B_y.out.lt)
    replace B_q := Lib.hid (Box.below B_q.out bb B_q.out.lt)
    replace B_r := Lib.hid (Box.below B_r.out bb B_r.out.lt)
    replace V_y := Lib.hid (Rd.below V_y.out bb)
    replace V_qm := Lib.hid (U32.below V_qm.out bb)
    replace V_um := Lib.hid (U32.below V_um.out bb)
    replace HB := Lib.hid (nextw HB.out bb)
    clear bb
    obtain ⟨sQ, AQ, kQ, cQ, rfl⟩ := rQ.shape
    have V_Q := Lib.hid rQ
    clear rQ V_qm
    have Z1x := Lib.hid B_x.out.lt
    have Z2y := Lib.hid B_y.out.lt
    have Z3q := Lib.hid B_q.out.lt
    have Z4r := Lib.hid B_r.out.lt
    have hb0 : Below w5.heap.size w5 (w5.alloc (.cells #[.bool sQ, (.slice AQ kQ cQ)] 24)) := (Below.alloc (Below.refl w5.heap.size w5) (by simp <;> omega) _)
    have B_Q : Box (w5.alloc (.cells #[.bool sQ, (.slice AQ kQ cQ)] 24)) (w5.heap.size) sQ (.slice AQ kQ cQ) := by have h := Box.new w5 sQ (.slice AQ kQ cQ); simpa using h
    replace B_Q := Lib.hid B_Q
    replace B_x := Lib.hid (Box.below B_x.out hb0 B_x.out.lt)
    replace B_y := Lib.hid (Box.below B_y.out hb0 B_y.out.lt)
    replace B_q := Lib.hid (Box.below B_q.out hb0 B_q.out.lt)
    replace B_r := Lib.hid (Box.below B_r.out hb0 B_r.out.lt)
    replace V_y := Lib.hid (Rd.below V_y.out hb0)
    replace V_um := Lib.hid (U32.below V_um.out hb0)
    replace V_Q := Lib.hid (Rc.below V_Q.out hb0)
    replace HB := Lib.hid (nextw HB.out hb0)
    clear hb0
    have c0x := B_x.out.c0
    have c1x := B_x.out.c1
    have c0y := B_y.out.c0
    have c1y := B_y.out.c1
    go_wp2_with fail
    clear c0x c1x c0y c1y
    generalize w5.alloc (.cells #[.bool sQ, (.slice AQ kQ cQ)] 24) = W1 at *
    refine (RNorm_rd (n1 := n1) (z1 := (z1 % z2)) (Rd_of_mag (U32.below V_um.out (by exact ⟨rfl, rfl, rfl, Nat.le_refl _, fun _ _ => rfl⟩)) (nmod_words HNN1.out) HE2.out) (by omega)).mono ?_
    rintro e w6 ⟨vR, rfl, rR, bb⟩
    replace bb := nextw (w0 := W1) (by exact ⟨rfl, rfl, rfl, Nat.le_refl _, fun _ _ => rfl⟩) bb
    replace B_x := Lib.hid (Box.below B_x.out bb B_x.out.lt)
    replace B_y := Lib.hid (Box.below B_y.out bb B_y.out.lt)
    replace B_q := Lib.hid (Box.below B_q.out bb B_q.out.lt)
    replace B_r := Lib.hid (Box.below B_r.out bb B_r.out.lt)
    replace B_Q := Lib.hid (Box.below B_Q.out bb B_Q.out.lt)
    replace V_y := Lib.hid (Rd.below V_y.out bb)
    replace V_um := Lib.hid (U32.below V_um.out bb)
    replace V_Q := Lib.hid (Rc.below V_Q.out bb)
    replace HB := Lib.hid (nextw HB.out bb)
    clear bb
    obtain ⟨AR, kR, cR, rfl⟩ := rR.plus HNN.out
    have V_R := Lib.hid rR
    clear rR V_um
    have Z5x := Lib.hid B_x.out.lt
    have Z6y := Lib.hid B_y.out.lt
    have Z7q := Lib.hid B_q.out.lt
    have Z8r := Lib.hid B_r.out.lt
    have Z9Q := Lib.hid B_Q.out.lt
    have hb0 : Below w6.heap.size w6 (w6.alloc (.cells #[.bool false, (.slice AR kR cR)] 24)) := (Below.alloc (Below.refl w6.heap.size w6) (by simp <;> omega) _)
    have B_R : Box (w6.alloc (.cells #[.bool false, (.slice AR kR cR)] 24)) (w6.heap.size) false (.slice AR kR cR) := by have h := Box.new w6 false (.slice AR kR cR); simpa using h
    replace B_R := Lib.hid B_R
    replace B_x := Lib.hid (Box.below B_x.out hb0 B_x.out.lt)
    replace B_y := Lib.hid (Box.below B_y.out hb0 B_y.out.lt)
    replace B_q := Lib.hid (Box.below B_q.out hb0 B_q.out.lt)
    replace B_r := Lib.hid (Box.below B_r.out hb0 B_r.out.lt)
    replace B_Q := Lib.hid (Box.below B_Q.out hb0 B_Q.out.lt)
    replace V_y := Lib.hid (Rd.below V_y.out hb0)
    replace V_Q := Lib.hid (Rc.below V_Q.out hb0)
    replace V_R := Lib.hid (Rc.below V_R.out hb0)
    replace HB := Lib.hid (nextw HB.out hb0)
    clear hb0
    have c0x := B_x.out.c0
    have c1x := B_x.out.c1
    have f0x := B_x.out.f0
    have f1x := B_x.out.f1
    have c0y := B_y.out.c0
    have c1y := B_y.out.c1
    have f0y := B_y.out.f0
    have f1y := B_y.out.f1
    have c0Q := B_Q.out.c0
    have c1Q := B_Q.out.c1
    have f0Q := B_Q.out.f0
    have f1Q := B_Q.out.f1
    have c0R := B_R.out.c0
    have c1R := B_R.out.c1
    have f0R := B_R.out.f0
    have f1R := B_R.out.f1
    have c0q := B_q.out.c0
    have c1q := B_q.out.c1
    have f0q := B_q.out.f0
    have f1q := B_q.out.f1
    have c0r := B_r.out.c0
    have c1r := B_r.out.c1
    have f0r := B_r.out.f0
    have f1r := B_r.out.f1
    go_wp2
    clear c0x c1x f0x f1x c0y c1y f0y f1y c0Q c1Q f0Q f1Q c0R c1R f0R f1R c0q c1q f0q f1q c0r c1r f0r f1r
    generalize w6.alloc (.cells #[.bool false, (.slice AR kR cR)] 24) = W2 at *
    have c0Q := B_Q.out.c0
    have c1Q := B_Q.out.c1
    have f0Q := B_Q.out.f0
    have f1Q := B_Q.out.f1
    have c0R := B_R.out.c0
    have c1R := B_R.out.c1
    have f0R := B_R.out.f0
    have f1R := B_R.out.f1
    have c0q := B_q.out.c0
    have c1q := B_q.out.c1
    have f0q := B_q.out.f0
    have f1q := B_q.out.f1
    have c0r := B_r.out.c0
    have c1r := B_r.out.c1
    have f0r := B_r.out.f0
    have f1r := B_r.out.f1
    have na1x := Nat.ne_of_lt Z1x.out
    have nb1x := Nat.ne_of_gt Z1x.out
    have na2y := Nat.ne_of_lt Z2y.out
    have nb2y := Nat.ne_of_gt Z2y.out
    have na3q := Nat.ne_of_lt Z3q.out
    have nb3q := Nat.ne_of_gt Z3q.out
    have na4r := Nat.ne_of_lt Z4r.out
    have nb4r := Nat.ne_of_gt Z4r.out
    have na5x := Nat.ne_of_lt Z5x.out
    have nb5x := Nat.ne_of_gt Z5x.out
    have na6y := Nat.ne_of_lt Z6y.out
    have nb6y := Nat.ne_of_gt Z6y.out
    have na7q := Nat.ne_of_lt Z7q.out
    have nb7q := Nat.ne_of_gt Z7q.out
    have na8r := Nat.ne_of_lt Z8r.out
    have nb8r := Nat.ne_of_gt Z8r.out
    have na9Q := Nat.ne_of_lt Z9Q.out
    have nb9Q := Nat.ne_of_gt Z9Q.out
    go_region
    clear c0Q c1Q f0Q f1Q c0R c1R f0R f1R c0q c1q f0q f1q c0r c1r f0r f1r
    skip
    have K_Q := V_Q
    replace K_Q := Lib.hid (Box.keepsRc B_q.out K_Q.out sQ (.slice AQ kQ cQ))
    have HB1 := Lib.hid (Below.store HB.out (x := w.heap.size + 1 + 1) (by omega) (.bool sQ) (.slice AQ kQ cQ))
    have N0r := Lib.hid (Box.far (y := w.heap.size + 1 + 1) B_r.out (by omega) (.bool sQ) (.slice AQ kQ cQ))
    have N0q := Lib.hid (Box.store B_q.out sQ (.slice AQ kQ cQ))
    replace K_Q := Lib.hid (Box.keepsRc N0r.out K_Q.out false (.slice AR kR cR))
    have HB2 := Lib.hid (Below.store HB1.out (x := w.heap.size + 1 + 1 + 1) (by omega) (.bool false) (.slice AR kR cR))
    have N1q := Lib.hid (Box.far (y := w.heap.size + 1 + 1 + 1) N0q.out (by omega) (.bool false) (.slice AR kR cR))
    have N1r := Lib.hid (Box.store N0r.out false (.slice AR kR cR))
    have s0q := N1q.out.c0
    have s1q := N1q.out.c1
    have s0r := N1r.out.c0
    have s1r := N1r.out.c1
    have HBF := HB2
    have c0q := B_q.out.c0
    have c1q := B_q.out.c1
    have f0q := B_q.out.f0
    have f1q := B_q.out.f1
    have c0r := B_r.out.c0
    have c1r := B_r.out.c1
    have f0r := B_r.out.f0
    have f1r := B_r.out.f1
    have p00r := N0r.out.c0
    have r00r := N0r.out.f0
    have p01r := N0r.out.c1
    have r01r := N0r.out.f1
    go_wp2_with fail
    exact bodyPost_ret (v := .tuple #[.agg #[.bool sQ, (.slice AQ kQ cQ)], .agg #[.bool false, (.slice AR kR cR)], .int .i64 0]) (by simp [results, Tryz.results103, go_sem, s0q, s1q, s0r, s1r]) rfl ⟨_, _, _, _, _, rfl, (Rc.below K_Q.out (by exact ⟨rfl, rfl, rfl, Nat.le_refl _, fun _ _ => rfl⟩)), (nextw HBF.out (by exact ⟨rfl, rfl, rfl, Nat.le_refl _, fun _ _ => rfl⟩))⟩

theorem RDivMod0_rd {v1 v2 : Value} {z1 z2 : Int} {n1 n2 : Nat} {w : World} (h1 : Rd w v1 z1 n1) (h2 : Rd w v2 z2 n2) (f1 : n1 ≤ 10000) (f2 : n2 ≤ 10000) (h0 : 0 < z2) (h : z1 % z2 = 0) :
    Calls Tryz.prog 103 #[v1, v2] w fun e w' => ∃ v s A k c, e = .returned (.tuple #[v, .agg #[.bool s, .slice A k c], .int .i64 0]) ∧ Rc w' v (z1 / z2) n1 ∧ Below w.heap.size w w' := by
  obtain ⟨s, m, l, rfl, hu, hz, hl⟩ := id h1
  cases s
  · exact RDM_plus h1 h2 f1 f2 h0
  · exact RDM_zero h1 h2 f1 f2 h0 h
end Go.Proofs.YtldfamjlnphokaaGreatDoor
