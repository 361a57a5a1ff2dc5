/- The exported functions of package integer, third part: Of, Small. -/
import Derived.Test.YtgfoplokplnpgaaDoorInt2
namespace Go.Proofs.YtgfoplokplnpgaaDoor
open Go Go.RowKit Num

set_option maxRecDepth 100000 in
set_option maxHeartbeats 1000000 in
theorem Of_any (n : Int) (w : World) (h1 : -9223372036854775808 ≤ n) (h2 : n ≤ 9223372036854775807) :
    Calls Tryd.prog 22 #[.int .i64 n] w fun e w' => ∃ v, e = .returned v ∧ Can w' v n ∧ Below w.heap.size w w' := by
  have bR := Box.new w false (.slice none 0 0)
  have hb0 : Below w.heap.size w (w.alloc (.cells #[.bool false, .slice none 0 0] 24)) := (Below.refl w.heap.size w).alloc (Nat.le_refl _) _
  have hsz : w.heap.size + 1 = (w.alloc (.cells #[.bool false, .slice none 0 0] 24)).heap.size := by simp
  obtain ⟨k, hk⟩ : ∃ k : Nat, k = n.natAbs := ⟨_, rfl⟩
  have hk64 : k < 18446744073709551616 := by omega
  have hw : n < 0 → IntKind.u64.wrap (-(IntKind.u64.wrap n)) = (k : Int) := by
    intro h
    simp only [IntKind.wrap, IntKind.bits, IntKind.signed]
    simp
    omega
  have HK := Lib.hid hk
  clear hk
  by_cases hneg : n < 0
  · have hw' := hw hneg
    have HZ : Hid (-(k : Int) = n) := by have := HK.out; unfold Hid; omega
    clear hw
    go_enter Tryd.func22, Tryd.ntmps22
    go_wp2_with fail
    refine (words_any k hk64 _).mono ?_
    rintro e w2 ⟨m2, rfl, hm2, hb2⟩
    have bRw2 := Box.below bR hb2 (by first | omega | (simp; done))
    generalize w.alloc (.cells #[.bool false, .slice none 0 0] 24) = W0 at *
    have hz2 : w.heap.size + 1 ≤ w2.heap.size := by have := hb2.size; omega
    go_wp2_with fail
    refine (signed_can true m2 (digs k) _ hm2).mono ?_
    rintro e w3 ⟨sg, A3, k3, c3, rfl, hm3, hb3⟩
    have bRw3 := Box.below bRw2 hb3 (by omega)
    have cR0 := Box.c0 bRw3
    have cR1 := Box.c1 bRw3
    have fR0 := Box.f0 bRw3
    have fR1 := Box.f1 bRw3
    have bS := bRw3.store sg (.slice A3 k3 c3)
    have s0 := bS.c0
    have s1 := bS.c1
    have hfin := bRw3.can hm3 sg (.slice A3 k3 c3)
    have hbel : Below w.heap.size w w3 := (hb0.trans (hb2.mono (by omega))).trans (hb3.mono (by omega))
    have hbel2 := Below.store hbel (x := w.heap.size) (by omega) (.bool sg) (.slice A3 k3 c3)
    rw [ival_digs] at hfin
    simp only [if_true] at hfin
    rw [HZ.out] at hfin
    clear hm3 hm2 hb2 hb3 bS hbel hsz
    go_wp2_with fail
    generalize (w3.setCell ⟨w.heap.size, 0, none⟩ (.bool sg)).setCell ⟨w.heap.size, 1, none⟩ (.slice A3 k3 c3) = W at *
    exact bodyPost_ret (v := .agg #[.bool sg, .slice A3 k3 c3]) (by simp [results, Tryd.results22, go_sem, s0, s1]) rfl ⟨_, rfl, hfin, hbel2⟩
  · have hn0 : 0 ≤ n := by omega
    have hnk : n = (k : Int) := by have := HK.out; omega
    subst hnk
    clear hw HK
    go_enter Tryd.func22, Tryd.ntmps22
    go_wp2_with fail
    refine (words_any k hk64 _).mono ?_
    rintro e w2 ⟨m2, rfl, hm2, hb2⟩
    have bRw2 := Box.below bR hb2 (by first | omega | (simp; done))
    generalize w.alloc (.cells #[.bool false, .slice none 0 0] 24) = W0 at *
    have hz2 : w.heap.size + 1 ≤ w2.heap.size := by have := hb2.size; omega
    go_wp2_with fail
    refine (signed_can false m2 (digs k) _ hm2).mono ?_
    rintro e w3 ⟨sg, A3, k3, c3, rfl, hm3, hb3⟩
    have bRw3 := Box.below bRw2 hb3 (by omega)
    have cR0 := Box.c0 bRw3
    have cR1 := Box.c1 bRw3
    have fR0 := Box.f0 bRw3
    have fR1 := Box.f1 bRw3
    have bS := bRw3.store sg (.slice A3 k3 c3)
    have s0 := bS.c0
    have s1 := bS.c1
    have hfin := bRw3.can hm3 sg (.slice A3 k3 c3)
    have hbel : Below w.heap.size w w3 := (hb0.trans (hb2.mono (by omega))).trans (hb3.mono (by omega))
    have hbel2 := Below.store hbel (x := w.heap.size) (by omega) (.bool sg) (.slice A3 k3 c3)
    rw [ival_digs] at hfin
    simp only [Bool.false_eq_true, if_false] at hfin
    clear hm3 hm2 hb2 hb3 bS hbel hsz
    go_wp2_with fail
    generalize (w3.setCell ⟨w.heap.size, 0, none⟩ (.bool sg)).setCell ⟨w.heap.size, 1, none⟩ (.slice A3 k3 c3) = W at *
    exact bodyPost_ret (v := .agg #[.bool sg, .slice A3 k3 c3]) (by simp [results, Tryd.results22, go_sem, s0, s1]) rfl ⟨_, rfl, hfin, hbel2⟩

/-- Does it fit into an int? -/
def fitsInt (z : Int) : Bool := decide (-9223372036854775808 ≤ z ∧ z ≤ 9223372036854775807)
def smallOf (z : Int) : Int := if fitsInt z = true then z else 0

theorem fits_yes {z : Int} (h1 : -9223372036854775808 ≤ z) (h2 : z ≤ 9223372036854775807) : fitsInt z = true ∧ smallOf z = z := by
  have : fitsInt z = true := decide_eq_true ⟨h1, h2⟩
  exact ⟨this, if_pos this⟩
theorem fits_no {z : Int} (h : ¬ (-9223372036854775808 ≤ z ∧ z ≤ 9223372036854775807)) : fitsInt z = false ∧ smallOf z = 0 := by
  have : fitsInt z = false := decide_eq_false h
  exact ⟨this, by unfold smallOf; rw [this]; rfl⟩

theorem ret_pair {a b : Int} {c : Bool} (h : a = b) : Ending.returned (.tuple #[.int .i64 a, .bool c]) = .returned (.tuple #[.int .i64 b, .bool c]) := by rw [h]

set_option maxRecDepth 100000 in
set_option maxHeartbeats 1000000 in
theorem Small_any (s : Bool) (m : Value) (l : List Nat) (w : World) (h : U32 w m l) (hn : l.length ≤ 100000) :
    Calls Tryd.prog 23 #[.agg #[.bool s, m]] w fun e w' => e = .returned (.tuple #[.int .i64 (smallOf (ival s l)), .bool (fitsInt (ival s l))]) ∧ Below w.heap.size w w' := by
  have h' : U32 (w.alloc (.cells #[.bool s, m] 24)) m l := h.below ((Below.refl _ _).alloc (Nat.le_refl _) _)
  have hb : Below w.heap.size w (w.alloc (.cells #[.bool s, m] 24)) := (Below.refl _ _).alloc (Nat.le_refl _) _
  have HC := Lib.hid (trim_any m l _ h')
  have hl := length_val_le h.lt
  by_cases hb3 : val l < 18446744073709551616
  · have hlen : (digs (val l)).length ≤ 2 := digs_length_le (by omega)
    cases s
    · by_cases hbig : val l ≤ 9223372036854775807
      · obtain ⟨e1, e2⟩ := fits_yes (z := ival false l) (by unfold ival; simp <;> omega) (by unfold ival; simp; omega)
        rw [e1, e2]
        have hz : ival false l = (val l : Int) := rfl
        rw [hz]
        clear e1 e2 hz
        go_enter Tryd.func23, Tryd.ntmps23
        go_wp2_with fail
        refine HC.out.mono ?_
        rintro e w1 ⟨m1, rfl, rfl, hm1, -⟩
        have hm := hm1 _ h'
        obtain ⟨A1, c1, rfl, -, -, -⟩ := hm.form'
        clear hm1 HC
        go_wp2_with fail
        refine (number_any _ (val l) hb3 _ hm).mono ?_
        rintro e w1 ⟨rfl, rfl⟩
        go_wp2
        go_ret2
        exact ⟨rfl, hb⟩
      · obtain ⟨e1, e2⟩ := fits_no (z := ival false l) (by unfold ival; simp; omega)
        rw [e1, e2]
        clear e1 e2
        go_enter Tryd.func23, Tryd.ntmps23
        go_wp2_with fail
        refine HC.out.mono ?_
        rintro e w1 ⟨m1, rfl, rfl, hm1, -⟩
        have hm := hm1 _ h'
        obtain ⟨A1, c1, rfl, -, -, -⟩ := hm.form'
        clear hm1 HC
        go_wp2_with fail
        refine (number_any _ (val l) hb3 _ hm).mono ?_
        rintro e w1 ⟨rfl, rfl⟩
        go_wp2
        go_ret2
        exact ⟨rfl, hb⟩
    · by_cases hbig : val l ≤ 9223372036854775808
      · obtain ⟨e1, e2⟩ := fits_yes (z := ival true l) (by unfold ival; simp <;> omega) (by unfold ival; simp <;> omega)
        rw [e1, e2]
        have hz : ival true l = -(val l : Int) := rfl
        rw [hz]
        have hw : wrap64 (IntKind.u64.wrap (-(val l : Int))) = -(val l : Int) := by
          unfold wrap64
          simp only [IntKind.wrap, IntKind.bits, IntKind.signed]
          simp
          omega
        have HW := Lib.hid hw
        clear e1 e2 hz hw
        go_enter Tryd.func23, Tryd.ntmps23
        go_wp2_with fail
        refine HC.out.mono ?_
        rintro e w1 ⟨m1, rfl, rfl, hm1, -⟩
        have hm := hm1 _ h'
        obtain ⟨A1, c1, rfl, -, -, -⟩ := hm.form'
        clear hm1 HC
        go_wp2_with fail
        refine (number_any _ (val l) hb3 _ hm).mono ?_
        rintro e w1 ⟨rfl, rfl⟩
        go_wp2
        go_ret2
        exact ⟨ret_pair HW.out, hb⟩
      · obtain ⟨e1, e2⟩ := fits_no (z := ival true l) (by unfold ival; simp; omega)
        rw [e1, e2]
        clear e1 e2
        go_enter Tryd.func23, Tryd.ntmps23
        go_wp2_with fail
        refine HC.out.mono ?_
        rintro e w1 ⟨m1, rfl, rfl, hm1, -⟩
        have hm := hm1 _ h'
        obtain ⟨A1, c1, rfl, -, -, -⟩ := hm.form'
        clear hm1 HC
        go_wp2_with fail
        refine (number_any _ (val l) hb3 _ hm).mono ?_
        rintro e w1 ⟨rfl, rfl⟩
        go_wp2
        go_ret2
        exact ⟨rfl, hb⟩
  · obtain ⟨e1, e2⟩ := fits_no (z := ival s l) (by unfold ival; cases s <;> simp <;> omega)
    rw [e1, e2]
    have hlen : 2 < (digs (val l)).length := by
      rcases Nat.lt_or_ge 2 (digs (val l)).length with h1 | h1
      · exact h1
      · have h2 := lt_pow_length (val l)
        have h3 : 4294967296 ^ (digs (val l)).length ≤ 4294967296 ^ 2 := Nat.pow_le_pow_right (by omega) h1
        omega
    clear e1 e2
    go_enter Tryd.func23, Tryd.ntmps23
    go_wp2_with fail
    refine HC.out.mono ?_
    rintro e w1 ⟨m1, rfl, rfl, hm1, -⟩
    obtain ⟨A1, c1, rfl, -, -, -⟩ := (hm1 _ h').form'
    clear hm1 HC
    go_wp2
    go_ret2
    exact ⟨rfl, hb⟩
end Go.Proofs.YtgfoplokplnpgaaDoor
