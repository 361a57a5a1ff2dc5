/- The exported functions of package integer, seventh part: DivMod. -/
import Derived.Test.YtccndofafljaaaaGreatDoorInts

set_option linter.unusedVariables false
set_option linter.unusedSimpArgs false

namespace Go.Proofs.YtccndofafljaaaaGreatDoor
open Go Go.RowKit Num

theorem Box.far {w : World} {x y : Nat} {s : Bool} {m : Value} (h : Box w x s m) (hne : x ≠ y) (u v : Value) : Box ((w.setCell ⟨y, 0, none⟩ u).setCell ⟨y, 1, none⟩ v) x s m :=
  ((heap_setCell_other _ ⟨y, 1, none⟩ x v hne).trans (heap_setCell_other w ⟨y, 0, none⟩ x u hne)).trans h

theorem euclid {a b q r : Int} (hb : b ≠ 0) (h : r + b * q = a) (h0 : 0 ≤ r) (h1 : r < b.natAbs) : a / b = q ∧ a % b = r := by
  rcases Int.lt_or_gt_of_ne hb with hlt | hgt
  · have h2 : 0 < -b := by omega
    have h3 := (Int.ediv_emod_unique (a := a) (b := -b) (q := -q) (r := r) h2).2 ⟨by rw [Int.neg_mul_neg]; exact h, h0, by omega⟩
    rw [Int.ediv_neg, Int.emod_neg] at h3
    exact ⟨by omega, h3.2⟩
  · exact (Int.ediv_emod_unique hgt).2 ⟨h, h0, by omega⟩

/-- The quotient and the remainder, out of those of the magnitudes. -/
theorem div_signs {s1 s2 : Bool} {l1 l2 : List Nat} (hD : 0 < val l2) :
    (¬ (s1 = true ∧ 0 < val l1 % val l2) → (if (!(s1 == s2)) = true then -((val l1 / val l2 : Nat) : Int) else ((val l1 / val l2 : Nat) : Int)) = ival s1 l1 / ival s2 l2 ∧ ((val l1 % val l2 : Nat) : Int) = ival s1 l1 % ival s2 l2) ∧
    ((s1 = true ∧ 0 < val l1 % val l2) → (if (!(s1 == s2)) = true then -((val l1 / val l2 + 1 : Nat) : Int) else ((val l1 / val l2 + 1 : Nat) : Int)) = ival s1 l1 / ival s2 l2 ∧ ((val l2 - val l1 % val l2 : Nat) : Int) = ival s1 l1 % ival s2 l2) := by
  have e := Nat.div_add_mod (val l1) (val l2)
  have hm := Nat.mod_lt (val l1) hD
  unfold ival
  generalize val l1 = A at *
  generalize val l2 = D at *
  generalize A / D = q at *
  generalize A % D = r at *
  have e' : (D : Int) * (q : Int) + (r : Int) = (A : Int) := by rw [← Int.natCast_mul, ← Int.natCast_add, e]
  constructor
  · intro hn
    have hr : s1 = true → r = 0 := fun h => by
      rcases Nat.eq_zero_or_pos r with h0 | h0
      · exact h0
      · exact absurd ⟨h, h0⟩ hn
    cases s1 <;> cases s2 <;> simp only [Bool.false_eq_true, if_false, if_true, show (!(false == false)) = false from rfl, show (!(true == false)) = true from rfl, show (!(false == true)) = true from rfl, show (!(true == true)) = false from rfl]
    · have := euclid (a := (A : Int)) (b := (D : Int)) (q := q) (r := r) (by omega) (by omega) (by omega) (by omega)
      exact ⟨this.1.symm, this.2.symm⟩
    · have := euclid (a := (A : Int)) (b := -(D : Int)) (q := -q) (r := r) (by omega) (by rw [Int.neg_mul_neg]; omega) (by omega) (by omega)
      exact ⟨this.1.symm, this.2.symm⟩
    · have h0 := hr rfl
      have := euclid (a := -(A : Int)) (b := (D : Int)) (q := -q) (r := r) (by omega) (by rw [Int.mul_neg]; omega) (by omega) (by omega)
      exact ⟨this.1.symm, this.2.symm⟩
    · have h0 := hr rfl
      have := euclid (a := -(A : Int)) (b := -(D : Int)) (q := q) (r := r) (by omega) (by rw [Int.neg_mul]; omega) (by omega) (by omega)
      exact ⟨this.1.symm, this.2.symm⟩
  · rintro ⟨rfl, hr⟩
    cases s2 <;> simp only [Bool.false_eq_true, if_false, if_true, show (!(false == false)) = false from rfl, show (!(true == false)) = true from rfl, show (!(false == true)) = true from rfl, show (!(true == true)) = false from rfl]
    · have := euclid (a := -(A : Int)) (b := (D : Int)) (q := -((q + 1 : Nat) : Int)) (r := ((D - r : Nat) : Int)) (by omega) (by rw [Int.mul_neg, Int.natCast_add, Int.mul_add]; omega) (by omega) (by omega)
      exact ⟨this.1.symm, this.2.symm⟩
    · have := euclid (a := -(A : Int)) (b := -(D : Int)) (q := ((q + 1 : Nat) : Int)) (r := ((D - r : Nat) : Int)) (by omega) (by rw [Int.neg_mul, Int.natCast_add, Int.mul_add]; omega) (by omega) (by omega)
      exact ⟨this.1.symm, this.2.symm⟩

set_option maxRecDepth 100000 in
set_option maxHeartbeats 2000000 in
theorem DivMod_zero (s1 s2 : Bool) (m1 m2 : Value) (l1 l2 : List Nat) (w : World) (h1 : U32 w m1 l1) (h2 : U32 w m2 l2) (hn1 : l1.length ≤ 50000) (hn2 : l2.length ≤ 50000) (h0 : val l2 = 0) :
    Calls Tryz.prog 80 #[.agg #[.bool s1, m1], .agg #[.bool s2, m2]] w fun e w' => e = .returned (.tuple #[.agg #[.bool false, .slice none 0 0], .agg #[.bool false, .slice none 0 0], .int .i64 10]) ∧ Below w.heap.size w w' := by
  have bA := (((Box.new w s1 m1).alloc (.cells #[.bool s2, m2] 24)).alloc (.cells #[.bool false, .slice none 0 0] 24)).alloc (.cells #[.bool false, .slice none 0 0] 24)
  have bB := ((Box.new (w.alloc (.cells #[.bool s1, m1] 24)) s2 m2).alloc (.cells #[.bool false, .slice none 0 0] 24)).alloc (.cells #[.bool false, .slice none 0 0] 24)
  have bR := (Box.new ((w.alloc (.cells #[.bool s1, m1] 24)).alloc (.cells #[.bool s2, m2] 24)) false (.slice none 0 0)).alloc (.cells #[.bool false, .slice none 0 0] 24)
  have bP := Box.new (((w.alloc (.cells #[.bool s1, m1] 24)).alloc (.cells #[.bool s2, m2] 24)).alloc (.cells #[.bool false, .slice none 0 0] 24)) false (.slice none 0 0)
  have hb0 : Below w.heap.size w ((((w.alloc (.cells #[.bool s1, m1] 24)).alloc (.cells #[.bool s2, m2] 24)).alloc (.cells #[.bool false, .slice none 0 0] 24)).alloc (.cells #[.bool false, .slice none 0 0] 24)) := (((((Below.refl w.heap.size w).alloc (Nat.le_refl _) _).alloc (by simp) _).alloc (by simp; omega) _).alloc (by simp; omega) _)
  have hsz : w.heap.size + 4 = ((((w.alloc (.cells #[.bool s1, m1] 24)).alloc (.cells #[.bool s2, m2] 24)).alloc (.cells #[.bool false, .slice none 0 0] 24)).alloc (.cells #[.bool false, .slice none 0 0] 24)).heap.size := by simp
  simp only [World.size_alloc] at bB bR bP
  have h1' := h1.below hb0
  have h2' := h2.below hb0
  have hl1 := length_val_le h1.lt
  have hl2 := length_val_le h2.lt
  have hmt1 := trimV_mag h1'
  have hmt2 := trimV_mag h2'
  have cA0 := Box.c0 bA
  have cA1 := Box.c1 bA
  have fA0 := Box.f0 bA
  have fA1 := Box.f1 bA
  have cB0 := Box.c0 bB
  have cB1 := Box.c1 bB
  have fB0 := Box.f0 bB
  have fB1 := Box.f1 bB
  have cR0 := Box.c0 bR
  have cR1 := Box.c1 bR
  have fR0 := Box.f0 bR
  have fR1 := Box.f1 bR
  have cP0 := Box.c0 bP
  have cP1 := Box.c1 bP
  have fP0 := Box.f0 bP
  have fP1 := Box.f1 bP
  have ct := trim_any m2 l2 _ h2'
  have HC := Lib.hid ct
  have HZ : Hid ((digs (val l2)).length = 0) := nat_len_zero.2 h0
  clear ct h0
  go_enter Tryz.func80, Tryz.ntmps80
  go_wp2_with fail
  refine HC.out.mono ?_
  rintro e w1 ⟨v1, rfl, rfl, hm1, -⟩
  obtain ⟨A1, c1, rfl, -, -, -⟩ := (hm1 _ h2').form'
  rw [HZ.out]
  clear hm1 HC
  generalize hW : (((w.alloc (.cells #[.bool s1, m1] 24)).alloc (.cells #[.bool s2, m2] 24)).alloc (.cells #[.bool false, .slice none 0 0] 24)).alloc (.cells #[.bool false, .slice none 0 0] 24) = W0 at *
  have hge : w.heap.size + 4 ≤ W0.heap.size := by omega
  have bR' := bR.store false (.slice none 0 0)
  have bP' := (bP.far (y := w.heap.size + 1 + 1) (by omega) (.bool false) (.slice none 0 0))
  have bR'' := bR'.far (y := w.heap.size + 1 + 1 + 1) (by omega) (.bool false) (.slice none 0 0)
  have bP'' := bP'.store false (.slice none 0 0)
  have pc0 := bP'.c0
  have pc1 := bP'.c1
  have pf0 := bP'.f0
  have pf1 := bP'.f1
  have r0 := bR''.c0
  have r1 := bR''.c1
  have p0 := bP''.c0
  have p1 := bP''.c1
  have hbel := (Below.store (Below.store hb0 (x := w.heap.size + 1 + 1) (by omega) (.bool false) (.slice none 0 0)) (x := w.heap.size + 1 + 1 + 1) (by omega) (.bool false) (.slice none 0 0))
  go_wp2
  generalize (((W0.setCell ⟨w.heap.size + 1 + 1, 0, none⟩ (.bool false)).setCell ⟨w.heap.size + 1 + 1, 1, none⟩ (.slice none 0 0)).setCell ⟨w.heap.size + 1 + 1 + 1, 0, none⟩ (.bool false)).setCell ⟨w.heap.size + 1 + 1 + 1, 1, none⟩ (.slice none 0 0) = W at *
  exact bodyPost_ret (v := .tuple #[.agg #[.bool false, .slice none 0 0], .agg #[.bool false, .slice none 0 0], .int .i64 10]) (by simp [results, Tryz.results80, go_sem, r0, r1, p0, p1]) rfl ⟨rfl, hbel⟩

set_option maxRecDepth 100000 in
set_option maxHeartbeats 2000000 in
theorem DivMod_plain (s1 s2 : Bool) (m1 m2 : Value) (l1 l2 : List Nat) (w : World) (h1 : U32 w m1 l1) (h2 : U32 w m2 l2) (hn1 : l1.length ≤ 50000) (hn2 : l2.length ≤ 50000) (hD : 0 < val l2) (hn : ¬ (s1 = true ∧ 0 < val l1 % val l2)) :
    Calls Tryz.prog 80 #[.agg #[.bool s1, m1], .agg #[.bool s2, m2]] w fun e w' => ∃ q r, e = .returned (.tuple #[q, r, .int .i64 0]) ∧ Can w' q (ival s1 l1 / ival s2 l2) ∧ Can w' r (ival s1 l1 % ival s2 l2) ∧ Below w.heap.size w w' := by
  obtain ⟨A1, k1, rfl, -⟩ := id h1.form
  obtain ⟨A2, k2, rfl, -⟩ := id h2.form
  have bA := (((Box.new w s1 (.slice A1 l1.length k1)).alloc (.cells #[.bool s2, .slice A2 l2.length k2] 24)).alloc (.cells #[.bool false, .slice none 0 0] 24)).alloc (.cells #[.bool false, .slice none 0 0] 24)
  have bB := ((Box.new (w.alloc (.cells #[.bool s1, .slice A1 l1.length k1] 24)) s2 (.slice A2 l2.length k2)).alloc (.cells #[.bool false, .slice none 0 0] 24)).alloc (.cells #[.bool false, .slice none 0 0] 24)
  have bR := (Box.new ((w.alloc (.cells #[.bool s1, .slice A1 l1.length k1] 24)).alloc (.cells #[.bool s2, .slice A2 l2.length k2] 24)) false (.slice none 0 0)).alloc (.cells #[.bool false, .slice none 0 0] 24)
  have bP := Box.new (((w.alloc (.cells #[.bool s1, .slice A1 l1.length k1] 24)).alloc (.cells #[.bool s2, .slice A2 l2.length k2] 24)).alloc (.cells #[.bool false, .slice none 0 0] 24)) false (.slice none 0 0)
  have hb0 : Below w.heap.size w ((((w.alloc (.cells #[.bool s1, .slice A1 l1.length k1] 24)).alloc (.cells #[.bool s2, .slice A2 l2.length k2] 24)).alloc (.cells #[.bool false, .slice none 0 0] 24)).alloc (.cells #[.bool false, .slice none 0 0] 24)) := (((((Below.refl w.heap.size w).alloc (Nat.le_refl _) _).alloc (by simp) _).alloc (by simp; omega) _).alloc (by simp; omega) _)
  have hsz : w.heap.size + 4 = ((((w.alloc (.cells #[.bool s1, .slice A1 l1.length k1] 24)).alloc (.cells #[.bool s2, .slice A2 l2.length k2] 24)).alloc (.cells #[.bool false, .slice none 0 0] 24)).alloc (.cells #[.bool false, .slice none 0 0] 24)).heap.size := by simp
  simp only [World.size_alloc] at bB bR bP
  have h1' := h1.below hb0
  have h2' := h2.below hb0
  have hl1 := length_val_le h1.lt
  have hl2 := length_val_le h2.lt
  have hmt1 := trimV_mag h1'
  have hmt2 := trimV_mag h2'
  have cA0 := Box.c0 bA
  have cA1 := Box.c1 bA
  have fA0 := Box.f0 bA
  have fA1 := Box.f1 bA
  have cB0 := Box.c0 bB
  have cB1 := Box.c1 bB
  have fB0 := Box.f0 bB
  have fB1 := Box.f1 bB
  have cR0 := Box.c0 bR
  have cR1 := Box.c1 bR
  have fR0 := Box.f0 bR
  have fR1 := Box.f1 bR
  have cP0 := Box.c0 bP
  have cP1 := Box.c1 bP
  have fP0 := Box.f0 bP
  have fP1 := Box.f1 bP
  obtain ⟨hq, hr⟩ := (@div_signs s1 s2 l1 l2 hD).1 hn
  have HQ := Lib.hid hq
  have HR := Lib.hid hr
  have hlen : s1 = true → (digs (val l1 % val l2)).length ≤ 0 := fun h => by
    rcases Nat.eq_zero_or_pos (val l1 % val l2) with h0 | h0
    · rw [h0, digs_zero]; exact Nat.le_refl _
    · exact absurd ⟨h, h0⟩ hn
  clear hq hr hn
  have hz : (((digs (val l2)).length : Int) == 0) = false := by rw [beq_eq_false_iff_ne]; intro h; have := nat_len_zero.1 (by omega : (digs (val l2)).length = 0); omega
  have ct2 : Calls Tryz.prog 67 #[.slice A2 l2.length k2] ((((w.alloc (.cells #[.bool s1, .slice A1 l1.length k1] 24)).alloc (.cells #[.bool s2, .slice A2 l2.length k2] 24)).alloc (.cells #[.bool false, .slice none 0 0] 24)).alloc (.cells #[.bool false, .slice none 0 0] 24)) fun e w' => e = .returned (.slice A2 (digs (val l2)).length k2) ∧ w' = ((((w.alloc (.cells #[.bool s1, .slice A1 l1.length k1] 24)).alloc (.cells #[.bool s2, .slice A2 l2.length k2] 24)).alloc (.cells #[.bool false, .slice none 0 0] 24)).alloc (.cells #[.bool false, .slice none 0 0] 24)) := trim_eq (.slice A2 l2.length k2) l2 _ h2'
  have ct1 : Calls Tryz.prog 67 #[.slice A1 l1.length k1] ((((w.alloc (.cells #[.bool s1, .slice A1 l1.length k1] 24)).alloc (.cells #[.bool s2, .slice A2 l2.length k2] 24)).alloc (.cells #[.bool false, .slice none 0 0] 24)).alloc (.cells #[.bool false, .slice none 0 0] 24)) fun e w' => e = .returned (.slice A1 (digs (val l1)).length k1) ∧ w' = ((((w.alloc (.cells #[.bool s1, .slice A1 l1.length k1] 24)).alloc (.cells #[.bool s2, .slice A2 l2.length k2] 24)).alloc (.cells #[.bool false, .slice none 0 0] 24)).alloc (.cells #[.bool false, .slice none 0 0] 24)) := trim_eq (.slice A1 l1.length k1) l1 _ h1'
  have hmt1' : Mag ((((w.alloc (.cells #[.bool s1, .slice A1 l1.length k1] 24)).alloc (.cells #[.bool s2, .slice A2 l2.length k2] 24)).alloc (.cells #[.bool false, .slice none 0 0] 24)).alloc (.cells #[.bool false, .slice none 0 0] 24)) (.slice A1 (digs (val l1)).length k1) (val l1) := hmt1
  have hmt2' : Mag ((((w.alloc (.cells #[.bool s1, .slice A1 l1.length k1] 24)).alloc (.cells #[.bool s2, .slice A2 l2.length k2] 24)).alloc (.cells #[.bool false, .slice none 0 0] 24)).alloc (.cells #[.bool false, .slice none 0 0] 24)) (.slice A2 (digs (val l2)).length k2) (val l2) := hmt2
  have cd := divide_any _ _ (val l1) (val l2) _ hmt1' hmt2' hD (by omega) (by omega)
  have CT1 := Lib.hid ct1
  have CT2 := Lib.hid ct2
  have CD := Lib.hid cd
  have HD := Lib.hid hD
  have hrl : (digs (val l1 % val l2)).length ≤ (digs (val l2)).length := length_mono (Nat.le_of_lt (Nat.mod_lt _ hD))
  have hql : (digs (val l1 / val l2)).length ≤ (digs (val l1)).length := length_mono (Nat.div_le_self _ _)
  have hrd := Nat.mod_lt (val l1) hD
  have HRD := Lib.hid hrd
  clear ct1 ct2 cd hmt1 hmt2 hD hrd
  cases s1 <;> cases s2
  all_goals
    go_enter Tryz.func80, Tryz.ntmps80
    go_wp2_with fail
    refine CT2.out.mono ?_
    rintro e w1 ⟨rfl, rfl⟩
    go_wp2_with fail
    refine CT1.out.mono ?_
    rintro e w1 ⟨rfl, rfl⟩
    go_wp2_with fail
    refine CD.out.mono ?_
    rintro e w2 ⟨vq, vr, rfl, hmq, hmr, hb2⟩
    obtain ⟨Aq, cq, rfl, -, -, -⟩ := hmq.form'
    obtain ⟨Ar, cr, rfl, -, -, -⟩ := hmr.form'
    generalize (digs (val l1 % val l2)).length = kr at *
    have bAw2 := Box.below bA hb2 (by first | omega | (simp; done) | exact Nat.lt_of_lt_of_le (by omega) hge | (simp <;> omega))
    have cA0w2 := Box.c0 bAw2
    have cA1w2 := Box.c1 bAw2
    have bBw2 := Box.below bB hb2 (by first | omega | (simp; done) | exact Nat.lt_of_lt_of_le (by omega) hge | (simp <;> omega))
    have cB0w2 := Box.c0 bBw2
    have cB1w2 := Box.c1 bBw2
    have bRw2 := Box.below bR hb2 (by first | omega | (simp; done) | exact Nat.lt_of_lt_of_le (by omega) hge | (simp <;> omega))
    have cR0w2 := Box.c0 bRw2
    have cR1w2 := Box.c1 bRw2
    have fR0w2 := Box.f0 bRw2
    have fR1w2 := Box.f1 bRw2
    have bPw2 := Box.below bP hb2 (by first | omega | (simp; done) | exact Nat.lt_of_lt_of_le (by omega) hge | (simp <;> omega))
    have cP0w2 := Box.c0 bPw2
    have cP1w2 := Box.c1 bPw2
    have fP0w2 := Box.f0 bPw2
    have fP1w2 := Box.f1 bPw2
    have hzw2 : w.heap.size + 4 ≤ w2.heap.size := (by have hq := hb2.size; first | omega | exact Nat.le_trans hge hq | (simp at hq; omega))
    have hbel2 := hb0.trans (hb2.mono (by simp; omega))
    have hd2 : U32 w2 (.slice A2 (digs (val l2)).length k2) (digs (val l2)) := U32.below hmt2' hb2
    clear hb2 CT1 CT2 CD
    first | (have hk0 : kr ≤ 0 := hlen trivial; obtain rfl : kr = 0 := Nat.le_zero.1 hk0) | (have hk0 : kr ≤ 0 := hlen rfl; obtain rfl : kr = 0 := Nat.le_zero.1 hk0) | skip
    clear hlen
    have cs := fun W v (b : U32 W v (digs (val l1 / val l2))) sg => signed_can sg v (digs (val l1 / val l2)) W b
    have cs2 := fun W v (b : U32 W v (digs (val l1 % val l2))) => signed_can false v (digs (val l1 % val l2)) W b
    have CS := Lib.hid cs
    have CS2 := Lib.hid cs2
    clear cs cs2
    go_wp2_with fail
    refine (CS.out _ _ hmq _).mono ?_
    rintro e w8 ⟨sg, A8, k8, c8, rfl, hm8, hb8⟩
    have hmr8 := U32.below hmr hb8
    have bAw8 := Box.below bAw2 hb8 (by first | omega | (simp; done) | exact Nat.lt_of_lt_of_le (by omega) hge | (simp <;> omega))
    have cA0w8 := Box.c0 bAw8
    have cA1w8 := Box.c1 bAw8
    have bBw8 := Box.below bBw2 hb8 (by first | omega | (simp; done) | exact Nat.lt_of_lt_of_le (by omega) hge | (simp <;> omega))
    have cB0w8 := Box.c0 bBw8
    have cB1w8 := Box.c1 bBw8
    have bRw8 := Box.below bRw2 hb8 (by first | omega | (simp; done) | exact Nat.lt_of_lt_of_le (by omega) hge | (simp <;> omega))
    have cR0w8 := Box.c0 bRw8
    have cR1w8 := Box.c1 bRw8
    have fR0w8 := Box.f0 bRw8
    have fR1w8 := Box.f1 bRw8
    have bPw8 := Box.below bPw2 hb8 (by first | omega | (simp; done) | exact Nat.lt_of_lt_of_le (by omega) hge | (simp <;> omega))
    have cP0w8 := Box.c0 bPw8
    have cP1w8 := Box.c1 bPw8
    have fP0w8 := Box.f0 bPw8
    have fP1w8 := Box.f1 bPw8
    have hzw8 : w.heap.size + 4 ≤ w8.heap.size := (by have hq := hb8.size; first | omega | exact Nat.le_trans hge hq | (simp at hq; omega))
    have hbel8 := hbel2.trans (hb8.mono (by omega))
    clear hb8
    go_wp2_with fail
    refine (CS2.out _ _ hmr8).mono ?_
    rintro e w9 ⟨sg9, A9, k9, c9, rfl, hm9, hb9⟩
    have bAw9 := Box.below bAw8 hb9 (by first | omega | (simp; done) | exact Nat.lt_of_lt_of_le (by omega) hge | (simp <;> omega))
    have cA0w9 := Box.c0 bAw9
    have cA1w9 := Box.c1 bAw9
    have bBw9 := Box.below bBw8 hb9 (by first | omega | (simp; done) | exact Nat.lt_of_lt_of_le (by omega) hge | (simp <;> omega))
    have cB0w9 := Box.c0 bBw9
    have cB1w9 := Box.c1 bBw9
    have bRw9 := Box.below bRw8 hb9 (by first | omega | (simp; done) | exact Nat.lt_of_lt_of_le (by omega) hge | (simp <;> omega))
    have cR0w9 := Box.c0 bRw9
    have cR1w9 := Box.c1 bRw9
    have fR0w9 := Box.f0 bRw9
    have fR1w9 := Box.f1 bRw9
    have bPw9 := Box.below bPw8 hb9 (by first | omega | (simp; done) | exact Nat.lt_of_lt_of_le (by omega) hge | (simp <;> omega))
    have cP0w9 := Box.c0 bPw9
    have cP1w9 := Box.c1 bPw9
    have fP0w9 := Box.f0 bPw9
    have fP1w9 := Box.f1 bPw9
    have hzw9 : w.heap.size + 4 ≤ w9.heap.size := (by have hq := hb9.size; first | omega | exact Nat.le_trans hge hq | (simp at hq; omega))
    have hm89 := hm8.below hb9
    have hbel9 := hbel8.trans (hb9.mono (by omega))
    have bR1 := bRw9.store sg (.slice A8 k8 c8)
    have bP1 := bPw9.far (y := w.heap.size + 1 + 1) (by omega) (.bool sg) (.slice A8 k8 c8)
    have bR2 := bR1.far (y := w.heap.size + 1 + 1 + 1) (by omega) (.bool sg9) (.slice A9 k9 c9)
    have bP2 := bP1.store sg9 (.slice A9 k9 c9)
    have pc0 := bP1.c0
    have pc1 := bP1.c1
    have pf0 := bP1.f0
    have pf1 := bP1.f1
    have r0 := bR2.c0
    have r1 := bR2.c1
    have p0 := bP2.c0
    have p1 := bP2.c1
    have canq := bP1.can (bRw9.can hm89 sg (.slice A8 k8 c8)) sg9 (.slice A9 k9 c9)
    have canr := bP1.can (bRw9.can hm9 sg (.slice A8 k8 c8)) sg9 (.slice A9 k9 c9)
    have hbel := (Below.store (Below.store hbel9 (x := w.heap.size + 1 + 1) (by omega) (.bool sg) (.slice A8 k8 c8)) (x := w.heap.size + 1 + 1 + 1) (by omega) (.bool sg9) (.slice A9 k9 c9))
    rw [ival_digs] at canq canr
    have CQ := Lib.hid canq
    have CR := Lib.hid canr
    clear hm8 hm89 hm9 hmr8 hb9 bR1 bR2 bP1 bP2 canq canr hbel8 hbel9
    go_wp2_with fail
    generalize (((w9.setCell ⟨w.heap.size + 1 + 1, 0, none⟩ (.bool sg)).setCell ⟨w.heap.size + 1 + 1, 1, none⟩ (.slice A8 k8 c8)).setCell ⟨w.heap.size + 1 + 1 + 1, 0, none⟩ (.bool sg9)).setCell ⟨w.heap.size + 1 + 1 + 1, 1, none⟩ (.slice A9 k9 c9) = W at *
    exact bodyPost_ret (v := .tuple #[.agg #[.bool sg, .slice A8 k8 c8], .agg #[.bool sg9, .slice A9 k9 c9], .int .i64 0]) (by simp [results, Tryz.results80, go_sem, r0, r1, p0, p1]) rfl ⟨_, _, rfl, (by rw [← HQ.out]; exact CQ.out), (by rw [← HR.out]; exact CR.out), hbel⟩

set_option maxRecDepth 100000 in
set_option maxHeartbeats 2000000 in
theorem DivMod_adj (s1 s2 : Bool) (m1 m2 : Value) (l1 l2 : List Nat) (w : World) (h1 : U32 w m1 l1) (h2 : U32 w m2 l2) (hn1 : l1.length ≤ 50000) (hn2 : l2.length ≤ 50000) (hD : 0 < val l2) (ha : s1 = true ∧ 0 < val l1 % val l2) :
    Calls Tryz.prog 80 #[.agg #[.bool s1, m1], .agg #[.bool s2, m2]] w fun e w' => ∃ q r, e = .returned (.tuple #[q, r, .int .i64 0]) ∧ Can w' q (ival s1 l1 / ival s2 l2) ∧ Can w' r (ival s1 l1 % ival s2 l2) ∧ Below w.heap.size w w' := by
  obtain ⟨A1, k1, rfl, -⟩ := id h1.form
  obtain ⟨A2, k2, rfl, -⟩ := id h2.form
  have bA := (((Box.new w s1 (.slice A1 l1.length k1)).alloc (.cells #[.bool s2, .slice A2 l2.length k2] 24)).alloc (.cells #[.bool false, .slice none 0 0] 24)).alloc (.cells #[.bool false, .slice none 0 0] 24)
  have bB := ((Box.new (w.alloc (.cells #[.bool s1, .slice A1 l1.length k1] 24)) s2 (.slice A2 l2.length k2)).alloc (.cells #[.bool false, .slice none 0 0] 24)).alloc (.cells #[.bool false, .slice none 0 0] 24)
  have bR := (Box.new ((w.alloc (.cells #[.bool s1, .slice A1 l1.length k1] 24)).alloc (.cells #[.bool s2, .slice A2 l2.length k2] 24)) false (.slice none 0 0)).alloc (.cells #[.bool false, .slice none 0 0] 24)
  have bP := Box.new (((w.alloc (.cells #[.bool s1, .slice A1 l1.length k1] 24)).alloc (.cells #[.bool s2, .slice A2 l2.length k2] 24)).alloc (.cells #[.bool false, .slice none 0 0] 24)) false (.slice none 0 0)
  have hb0 : Below w.heap.size w ((((w.alloc (.cells #[.bool s1, .slice A1 l1.length k1] 24)).alloc (.cells #[.bool s2, .slice A2 l2.length k2] 24)).alloc (.cells #[.bool false, .slice none 0 0] 24)).alloc (.cells #[.bool false, .slice none 0 0] 24)) := (((((Below.refl w.heap.size w).alloc (Nat.le_refl _) _).alloc (by simp) _).alloc (by simp; omega) _).alloc (by simp; omega) _)
  have hsz : w.heap.size + 4 = ((((w.alloc (.cells #[.bool s1, .slice A1 l1.length k1] 24)).alloc (.cells #[.bool s2, .slice A2 l2.length k2] 24)).alloc (.cells #[.bool false, .slice none 0 0] 24)).alloc (.cells #[.bool false, .slice none 0 0] 24)).heap.size := by simp
  simp only [World.size_alloc] at bB bR bP
  have h1' := h1.below hb0
  have h2' := h2.below hb0
  have hl1 := length_val_le h1.lt
  have hl2 := length_val_le h2.lt
  have hmt1 := trimV_mag h1'
  have hmt2 := trimV_mag h2'
  have cA0 := Box.c0 bA
  have cA1 := Box.c1 bA
  have fA0 := Box.f0 bA
  have fA1 := Box.f1 bA
  have cB0 := Box.c0 bB
  have cB1 := Box.c1 bB
  have fB0 := Box.f0 bB
  have fB1 := Box.f1 bB
  have cR0 := Box.c0 bR
  have cR1 := Box.c1 bR
  have fR0 := Box.f0 bR
  have fR1 := Box.f1 bR
  have cP0 := Box.c0 bP
  have cP1 := Box.c1 bP
  have fP0 := Box.f0 bP
  have fP1 := Box.f1 bP
  obtain ⟨hq, hr⟩ := (@div_signs s1 s2 l1 l2 hD).2 ha
  have HQ := Lib.hid hq
  have HR := Lib.hid hr
  obtain ⟨hs1, hpos⟩ := ha
  have hlen : 0 < (digs (val l1 % val l2)).length := by
    rcases Nat.eq_zero_or_pos (digs (val l1 % val l2)).length with h0 | h0
    · have := nat_len_zero.1 h0; omega
    · exact h0
  have hd1 : (digs 1).length ≤ 1000000 := by rw [digs_one (by omega) (by omega)]; simp
  clear hq hr hpos
  have hz : (((digs (val l2)).length : Int) == 0) = false := by rw [beq_eq_false_iff_ne]; intro h; have := nat_len_zero.1 (by omega : (digs (val l2)).length = 0); omega
  have ct2 : Calls Tryz.prog 67 #[.slice A2 l2.length k2] ((((w.alloc (.cells #[.bool s1, .slice A1 l1.length k1] 24)).alloc (.cells #[.bool s2, .slice A2 l2.length k2] 24)).alloc (.cells #[.bool false, .slice none 0 0] 24)).alloc (.cells #[.bool false, .slice none 0 0] 24)) fun e w' => e = .returned (.slice A2 (digs (val l2)).length k2) ∧ w' = ((((w.alloc (.cells #[.bool s1, .slice A1 l1.length k1] 24)).alloc (.cells #[.bool s2, .slice A2 l2.length k2] 24)).alloc (.cells #[.bool false, .slice none 0 0] 24)).alloc (.cells #[.bool false, .slice none 0 0] 24)) := trim_eq (.slice A2 l2.length k2) l2 _ h2'
  have ct1 : Calls Tryz.prog 67 #[.slice A1 l1.length k1] ((((w.alloc (.cells #[.bool s1, .slice A1 l1.length k1] 24)).alloc (.cells #[.bool s2, .slice A2 l2.length k2] 24)).alloc (.cells #[.bool false, .slice none 0 0] 24)).alloc (.cells #[.bool false, .slice none 0 0] 24)) fun e w' => e = .returned (.slice A1 (digs (val l1)).length k1) ∧ w' = ((((w.alloc (.cells #[.bool s1, .slice A1 l1.length k1] 24)).alloc (.cells #[.bool s2, .slice A2 l2.length k2] 24)).alloc (.cells #[.bool false, .slice none 0 0] 24)).alloc (.cells #[.bool false, .slice none 0 0] 24)) := trim_eq (.slice A1 l1.length k1) l1 _ h1'
  have hmt1' : Mag ((((w.alloc (.cells #[.bool s1, .slice A1 l1.length k1] 24)).alloc (.cells #[.bool s2, .slice A2 l2.length k2] 24)).alloc (.cells #[.bool false, .slice none 0 0] 24)).alloc (.cells #[.bool false, .slice none 0 0] 24)) (.slice A1 (digs (val l1)).length k1) (val l1) := hmt1
  have hmt2' : Mag ((((w.alloc (.cells #[.bool s1, .slice A1 l1.length k1] 24)).alloc (.cells #[.bool s2, .slice A2 l2.length k2] 24)).alloc (.cells #[.bool false, .slice none 0 0] 24)).alloc (.cells #[.bool false, .slice none 0 0] 24)) (.slice A2 (digs (val l2)).length k2) (val l2) := hmt2
  have cd := divide_any _ _ (val l1) (val l2) _ hmt1' hmt2' hD (by omega) (by omega)
  have CT1 := Lib.hid ct1
  have CT2 := Lib.hid ct2
  have CD := Lib.hid cd
  have HD := Lib.hid hD
  have hrl : (digs (val l1 % val l2)).length ≤ (digs (val l2)).length := length_mono (Nat.le_of_lt (Nat.mod_lt _ hD))
  have hql : (digs (val l1 / val l2)).length ≤ (digs (val l1)).length := length_mono (Nat.div_le_self _ _)
  have hrd := Nat.mod_lt (val l1) hD
  have HRD := Lib.hid hrd
  clear ct1 ct2 cd hmt1 hmt2 hD hrd
  subst hs1
  cases s2
  all_goals
    go_enter Tryz.func80, Tryz.ntmps80
    go_wp2_with fail
    refine CT2.out.mono ?_
    rintro e w1 ⟨rfl, rfl⟩
    go_wp2_with fail
    refine CT1.out.mono ?_
    rintro e w1 ⟨rfl, rfl⟩
    go_wp2_with fail
    refine CD.out.mono ?_
    rintro e w2 ⟨vq, vr, rfl, hmq, hmr, hb2⟩
    obtain ⟨Aq, cq, rfl, -, -, -⟩ := hmq.form'
    obtain ⟨Ar, cr, rfl, -, -, -⟩ := hmr.form'
    generalize (digs (val l1 % val l2)).length = kr at *
    have bAw2 := Box.below bA hb2 (by first | omega | (simp; done) | exact Nat.lt_of_lt_of_le (by omega) hge | (simp <;> omega))
    have cA0w2 := Box.c0 bAw2
    have cA1w2 := Box.c1 bAw2
    have bBw2 := Box.below bB hb2 (by first | omega | (simp; done) | exact Nat.lt_of_lt_of_le (by omega) hge | (simp <;> omega))
    have cB0w2 := Box.c0 bBw2
    have cB1w2 := Box.c1 bBw2
    have bRw2 := Box.below bR hb2 (by first | omega | (simp; done) | exact Nat.lt_of_lt_of_le (by omega) hge | (simp <;> omega))
    have cR0w2 := Box.c0 bRw2
    have cR1w2 := Box.c1 bRw2
    have fR0w2 := Box.f0 bRw2
    have fR1w2 := Box.f1 bRw2
    have bPw2 := Box.below bP hb2 (by first | omega | (simp; done) | exact Nat.lt_of_lt_of_le (by omega) hge | (simp <;> omega))
    have cP0w2 := Box.c0 bPw2
    have cP1w2 := Box.c1 bPw2
    have fP0w2 := Box.f0 bPw2
    have fP1w2 := Box.f1 bPw2
    have hzw2 : w.heap.size + 4 ≤ w2.heap.size := (by have hq := hb2.size; first | omega | exact Nat.le_trans hge hq | (simp at hq; omega))
    have hbel2 := hb0.trans (hb2.mono (by simp; omega))
    have hd2 : U32 w2 (.slice A2 (digs (val l2)).length k2) (digs (val l2)) := U32.below hmt2' hb2
    clear hb2 CT1 CT2 CD
    go_wp2_with fail
    refine (words_any 1 (by omega) _).mono ?_
    rintro e w3 ⟨v3, rfl, hm3, hb3⟩
    have bAw3 := Box.below bAw2 hb3 (by first | omega | (simp; done) | exact Nat.lt_of_lt_of_le (by omega) hge | (simp <;> omega))
    have cA0w3 := Box.c0 bAw3
    have cA1w3 := Box.c1 bAw3
    have bBw3 := Box.below bBw2 hb3 (by first | omega | (simp; done) | exact Nat.lt_of_lt_of_le (by omega) hge | (simp <;> omega))
    have cB0w3 := Box.c0 bBw3
    have cB1w3 := Box.c1 bBw3
    have bRw3 := Box.below bRw2 hb3 (by first | omega | (simp; done) | exact Nat.lt_of_lt_of_le (by omega) hge | (simp <;> omega))
    have cR0w3 := Box.c0 bRw3
    have cR1w3 := Box.c1 bRw3
    have fR0w3 := Box.f0 bRw3
    have fR1w3 := Box.f1 bRw3
    have bPw3 := Box.below bPw2 hb3 (by first | omega | (simp; done) | exact Nat.lt_of_lt_of_le (by omega) hge | (simp <;> omega))
    have cP0w3 := Box.c0 bPw3
    have cP1w3 := Box.c1 bPw3
    have fP0w3 := Box.f0 bPw3
    have fP1w3 := Box.f1 bPw3
    have hzw3 : w.heap.size + 4 ≤ w3.heap.size := (by have hq := hb3.size; first | omega | exact Nat.le_trans hge hq | (simp at hq; omega))
    have hbel3 := hbel2.trans (hb3.mono (by omega))
    have hmq3 := U32.below hmq hb3
    have hmr3 := U32.below hmr hb3
    have hd3 := U32.below hd2 hb3
    have c4 := sum_any _ v3 _ _ w3 hmq3 hm3 (by omega) hd1
    simp only [val_digs] at c4
    have C4 := Lib.hid c4
    clear c4 hb3 hmq hmr hd2 hm3
    go_wp2_with fail
    refine C4.out.mono ?_
    rintro e w4 ⟨v4, rfl, hm4, hb4⟩
    have bAw4 := Box.below bAw3 hb4 (by first | omega | (simp; done) | exact Nat.lt_of_lt_of_le (by omega) hge | (simp <;> omega))
    have cA0w4 := Box.c0 bAw4
    have cA1w4 := Box.c1 bAw4
    have bBw4 := Box.below bBw3 hb4 (by first | omega | (simp; done) | exact Nat.lt_of_lt_of_le (by omega) hge | (simp <;> omega))
    have cB0w4 := Box.c0 bBw4
    have cB1w4 := Box.c1 bBw4
    have bRw4 := Box.below bRw3 hb4 (by first | omega | (simp; done) | exact Nat.lt_of_lt_of_le (by omega) hge | (simp <;> omega))
    have cR0w4 := Box.c0 bRw4
    have cR1w4 := Box.c1 bRw4
    have fR0w4 := Box.f0 bRw4
    have fR1w4 := Box.f1 bRw4
    have bPw4 := Box.below bPw3 hb4 (by first | omega | (simp; done) | exact Nat.lt_of_lt_of_le (by omega) hge | (simp <;> omega))
    have cP0w4 := Box.c0 bPw4
    have cP1w4 := Box.c1 bPw4
    have fP0w4 := Box.f0 bPw4
    have fP1w4 := Box.f1 bPw4
    have hzw4 : w.heap.size + 4 ≤ w4.heap.size := (by have hq := hb4.size; first | omega | exact Nat.le_trans hge hq | (simp at hq; omega))
    have hbel4 := hbel3.trans (hb4.mono (by omega))
    have hmr4 := U32.below hmr3 hb4
    have hd4 := U32.below hd3 hb4
    have c5 := difference_any _ _ _ _ w4 hd4 hmr4 (by omega) (length_mono (Nat.le_of_lt HRD.out)) (by simp only [val_digs]; exact Nat.le_of_lt HRD.out)
    simp only [val_digs] at c5
    have C5 := Lib.hid c5
    clear c5 hb4 hmq3 hmr3 hd3 C4
    go_wp2_with fail
    refine C5.out.mono ?_
    rintro e w5 ⟨v5, rfl, hm5, hb5⟩
    have bAw5 := Box.below bAw4 hb5 (by first | omega | (simp; done) | exact Nat.lt_of_lt_of_le (by omega) hge | (simp <;> omega))
    have cA0w5 := Box.c0 bAw5
    have cA1w5 := Box.c1 bAw5
    have bBw5 := Box.below bBw4 hb5 (by first | omega | (simp; done) | exact Nat.lt_of_lt_of_le (by omega) hge | (simp <;> omega))
    have cB0w5 := Box.c0 bBw5
    have cB1w5 := Box.c1 bBw5
    have bRw5 := Box.below bRw4 hb5 (by first | omega | (simp; done) | exact Nat.lt_of_lt_of_le (by omega) hge | (simp <;> omega))
    have cR0w5 := Box.c0 bRw5
    have cR1w5 := Box.c1 bRw5
    have fR0w5 := Box.f0 bRw5
    have fR1w5 := Box.f1 bRw5
    have bPw5 := Box.below bPw4 hb5 (by first | omega | (simp; done) | exact Nat.lt_of_lt_of_le (by omega) hge | (simp <;> omega))
    have cP0w5 := Box.c0 bPw5
    have cP1w5 := Box.c1 bPw5
    have fP0w5 := Box.f0 bPw5
    have fP1w5 := Box.f1 bPw5
    have hzw5 : w.heap.size + 4 ≤ w5.heap.size := (by have hq := hb5.size; first | omega | exact Nat.le_trans hge hq | (simp at hq; omega))
    have hbel5 := hbel4.trans (hb5.mono (by omega))
    have hm45 := U32.below hm4 hb5
    clear hb5 hmr4 hd4 C5 hm4 hlen
    have cs := fun W v (b : U32 W v (digs (val l1 / val l2 + 1))) sg => signed_can sg v (digs (val l1 / val l2 + 1)) W b
    have cs2 := fun W v (b : U32 W v (digs (val l2 - val l1 % val l2))) => signed_can false v (digs (val l2 - val l1 % val l2)) W b
    have CS := Lib.hid cs
    have CS2 := Lib.hid cs2
    clear cs cs2
    go_wp2_with fail
    refine (CS.out _ _ hm45 _).mono ?_
    rintro e w8 ⟨sg, A8, k8, c8, rfl, hm8, hb8⟩
    have hmr8 := U32.below hm5 hb8
    have bAw8 := Box.below bAw5 hb8 (by first | omega | (simp; done) | exact Nat.lt_of_lt_of_le (by omega) hge | (simp <;> omega))
    have cA0w8 := Box.c0 bAw8
    have cA1w8 := Box.c1 bAw8
    have bBw8 := Box.below bBw5 hb8 (by first | omega | (simp; done) | exact Nat.lt_of_lt_of_le (by omega) hge | (simp <;> omega))
    have cB0w8 := Box.c0 bBw8
    have cB1w8 := Box.c1 bBw8
    have bRw8 := Box.below bRw5 hb8 (by first | omega | (simp; done) | exact Nat.lt_of_lt_of_le (by omega) hge | (simp <;> omega))
    have cR0w8 := Box.c0 bRw8
    have cR1w8 := Box.c1 bRw8
    have fR0w8 := Box.f0 bRw8
    have fR1w8 := Box.f1 bRw8
    have bPw8 := Box.below bPw5 hb8 (by first | omega | (simp; done) | exact Nat.lt_of_lt_of_le (by omega) hge | (simp <;> omega))
    have cP0w8 := Box.c0 bPw8
    have cP1w8 := Box.c1 bPw8
    have fP0w8 := Box.f0 bPw8
    have fP1w8 := Box.f1 bPw8
    have hzw8 : w.heap.size + 4 ≤ w8.heap.size := (by have hq := hb8.size; first | omega | exact Nat.le_trans hge hq | (simp at hq; omega))
    have hbel8 := hbel5.trans (hb8.mono (by omega))
    clear hb8
    go_wp2_with fail
    refine (CS2.out _ _ hmr8).mono ?_
    rintro e w9 ⟨sg9, A9, k9, c9, rfl, hm9, hb9⟩
    have bAw9 := Box.below bAw8 hb9 (by first | omega | (simp; done) | exact Nat.lt_of_lt_of_le (by omega) hge | (simp <;> omega))
    have cA0w9 := Box.c0 bAw9
    have cA1w9 := Box.c1 bAw9
    have bBw9 := Box.below bBw8 hb9 (by first | omega | (simp; done) | exact Nat.lt_of_lt_of_le (by omega) hge | (simp <;> omega))
    have cB0w9 := Box.c0 bBw9
    have cB1w9 := Box.c1 bBw9
    have bRw9 := Box.below bRw8 hb9 (by first | omega | (simp; done) | exact Nat.lt_of_lt_of_le (by omega) hge | (simp <;> omega))
    have cR0w9 := Box.c0 bRw9
    have cR1w9 := Box.c1 bRw9
    have fR0w9 := Box.f0 bRw9
    have fR1w9 := Box.f1 bRw9
    have bPw9 := Box.below bPw8 hb9 (by first | omega | (simp; done) | exact Nat.lt_of_lt_of_le (by omega) hge | (simp <;> omega))
    have cP0w9 := Box.c0 bPw9
    have cP1w9 := Box.c1 bPw9
    have fP0w9 := Box.f0 bPw9
    have fP1w9 := Box.f1 bPw9
    have hzw9 : w.heap.size + 4 ≤ w9.heap.size := (by have hq := hb9.size; first | omega | exact Nat.le_trans hge hq | (simp at hq; omega))
    have hm89 := hm8.below hb9
    have hbel9 := hbel8.trans (hb9.mono (by omega))
    have bR1 := bRw9.store sg (.slice A8 k8 c8)
    have bP1 := bPw9.far (y := w.heap.size + 1 + 1) (by omega) (.bool sg) (.slice A8 k8 c8)
    have bR2 := bR1.far (y := w.heap.size + 1 + 1 + 1) (by omega) (.bool sg9) (.slice A9 k9 c9)
    have bP2 := bP1.store sg9 (.slice A9 k9 c9)
    have pc0 := bP1.c0
    have pc1 := bP1.c1
    have pf0 := bP1.f0
    have pf1 := bP1.f1
    have r0 := bR2.c0
    have r1 := bR2.c1
    have p0 := bP2.c0
    have p1 := bP2.c1
    have canq := bP1.can (bRw9.can hm89 sg (.slice A8 k8 c8)) sg9 (.slice A9 k9 c9)
    have canr := bP1.can (bRw9.can hm9 sg (.slice A8 k8 c8)) sg9 (.slice A9 k9 c9)
    have hbel := (Below.store (Below.store hbel9 (x := w.heap.size + 1 + 1) (by omega) (.bool sg) (.slice A8 k8 c8)) (x := w.heap.size + 1 + 1 + 1) (by omega) (.bool sg9) (.slice A9 k9 c9))
    rw [ival_digs] at canq canr
    have CQ := Lib.hid canq
    have CR := Lib.hid canr
    clear hm8 hm89 hm9 hmr8 hb9 bR1 bR2 bP1 bP2 canq canr hbel8 hbel9
    go_wp2_with fail
    generalize (((w9.setCell ⟨w.heap.size + 1 + 1, 0, none⟩ (.bool sg)).setCell ⟨w.heap.size + 1 + 1, 1, none⟩ (.slice A8 k8 c8)).setCell ⟨w.heap.size + 1 + 1 + 1, 0, none⟩ (.bool sg9)).setCell ⟨w.heap.size + 1 + 1 + 1, 1, none⟩ (.slice A9 k9 c9) = W at *
    exact bodyPost_ret (v := .tuple #[.agg #[.bool sg, .slice A8 k8 c8], .agg #[.bool sg9, .slice A9 k9 c9], .int .i64 0]) (by simp [results, Tryz.results80, go_sem, r0, r1, p0, p1]) rfl ⟨_, _, rfl, (by rw [← HQ.out]; exact CQ.out), (by rw [← HR.out]; exact CR.out), hbel⟩

theorem DivMod_any (s1 s2 : Bool) (m1 m2 : Value) (l1 l2 : List Nat) (w : World) (h1 : U32 w m1 l1) (h2 : U32 w m2 l2) (hn1 : l1.length ≤ 50000) (hn2 : l2.length ≤ 50000) (hD : 0 < val l2) :
    Calls Tryz.prog 80 #[.agg #[.bool s1, m1], .agg #[.bool s2, m2]] w fun e w' => ∃ q r, e = .returned (.tuple #[q, r, .int .i64 0]) ∧ Can w' q (ival s1 l1 / ival s2 l2) ∧ Can w' r (ival s1 l1 % ival s2 l2) ∧ Below w.heap.size w w' := by
  by_cases hc : s1 = true ∧ 0 < val l1 % val l2
  · exact DivMod_adj s1 s2 m1 m2 l1 l2 w h1 h2 hn1 hn2 hD hc
  · exact DivMod_plain s1 s2 m1 m2 l1 l2 w h1 h2 hn1 hn2 hD hc
end Go.Proofs.YtccndofafljaaaaGreatDoor
