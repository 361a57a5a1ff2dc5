/- The exported functions of package integer, fourth part: Add, Sub, Mul, Cmp. -/
import Derived.Test.YtgfoplokplnpgaaDoorInt3
namespace Go.Proofs.YtgfoplokplnpgaaDoor
open Go Go.RowKit Num

theorem ival_nat (s : Bool) (l : List Nat) : ival s l = if s then -(val l : Int) else val l := rfl
theorem far2 {w : World} {x y o : Nat} (h : y ≠ x) (u v : Value) : ((w.setCell ⟨x, 0, none⟩ u).setCell ⟨x, 1, none⟩ v).cell? ⟨y, o, none⟩ = w.cell? ⟨y, o, none⟩ := by
  rw [World.cell?_of_block (a := ⟨y, o, none⟩) (heap_setCell_other _ ⟨x, 1, none⟩ y _ h), World.cell?_of_block (a := ⟨y, o, none⟩) (heap_setCell_other _ ⟨x, 0, none⟩ y _ h)]
theorem undraw {w w' : World} {n : Nat} (h : Below (w.drewN n).heap.size (w.drewN n) w') : Below w.heap.size w w' := ⟨h.os, h.tape, h.output, h.size, h.block⟩
theorem bel_drewN {B : Nat} {a w : World} (h : Below B a w) (n : Nat) : Below B a (w.drewN n) := ⟨h.os, h.tape, h.output, h.size, h.block⟩

set_option maxRecDepth 100000 in
set_option maxHeartbeats 600000 in
theorem Add_any (s1 s2 : Bool) (m1 m2 : Value) (l1 l2 : List Nat) (w : World) (h1 : U32 w m1 l1) (h2 : U32 w m2 l2) (hn1 : l1.length ≤ 50000) (hn2 : l2.length ≤ 50000) :
    Calls Tryd.prog 17 #[.agg #[.bool s1, m1], .agg #[.bool s2, m2]] w fun e w' => ∃ v, e = .returned v ∧ Can w' v (ival s1 l1 + ival s2 l2) ∧ Below w.heap.size w w' := by
  have bA := ((Box.new w s1 m1).alloc (.cells #[.bool s2, m2] 24)).alloc (.cells #[.bool false, .slice none 0 0] 24)
  have bB := (Box.new (w.alloc (.cells #[.bool s1, m1] 24)) s2 m2).alloc (.cells #[.bool false, .slice none 0 0] 24)
  have bR := Box.new ((w.alloc (.cells #[.bool s1, m1] 24)).alloc (.cells #[.bool s2, m2] 24)) false (.slice none 0 0)
  have hb0 : Below w.heap.size w (((w.alloc (.cells #[.bool s1, m1] 24)).alloc (.cells #[.bool s2, m2] 24)).alloc (.cells #[.bool false, .slice none 0 0] 24)) := ((((Below.refl w.heap.size w).alloc (Nat.le_refl _) _).alloc (by simp) _).alloc (by simp; omega) _)
  have hsz : w.heap.size + 3 = (((w.alloc (.cells #[.bool s1, m1] 24)).alloc (.cells #[.bool s2, m2] 24)).alloc (.cells #[.bool false, .slice none 0 0] 24)).heap.size := by simp
  simp only [World.size_alloc] at bB bR
  have h1' := h1.below hb0
  have h2' := h2.below hb0
  have hl1 := length_val_le h1.lt
  have hl2 := length_val_le h2.lt
  have cA0 := Box.c0 bA
  have cA1 := Box.c1 bA
  have fA0 := Box.f0 bA
  have fA1 := Box.f1 bA
  have cB0 := Box.c0 bB
  have cB1 := Box.c1 bB
  have fB0 := Box.f0 bB
  have fB1 := Box.f1 bB
  have cR0 := Box.c0 bR
  have cR1 := Box.c1 bR
  have fR0 := Box.f0 bR
  have fR1 := Box.f1 bR
  have hmt1 := trimV_mag h1'
  have hmt2 := trimV_mag h2'
  by_cases hss : s1 = s2
  · have hbe : (s1 == s2) = true := by simp [hss]
    have HZ : Hid ((if s1 = true then -((val l1 + val l2 : Nat) : Int) else ((val l1 + val l2 : Nat) : Int)) = ival s1 l1 + ival s2 l2) := by
      unfold Hid ival; rw [← hss]; cases s1 <;> simp <;> omega
    clear hss
    go_enter Tryd.func17, Tryd.ntmps17
    go_wp2
    generalize ((w.alloc (.cells #[.bool s1, m1] 24)).alloc (.cells #[.bool s2, m2] 24)).alloc (.cells #[.bool false, .slice none 0 0] 24) = W0 at *
    go_quiet ((first | (go_at_call_of 36 (m1); exact Calls.quiet_of_same (trim_eq m1 l1 _ (h1'.drewN _))) | (go_at_call_of 36 (m2); exact Calls.quiet_of_same (trim_eq m2 l2 _ (h2'.drewN _)))))
    go_wp2
    have hge : w.heap.size + 3 ≤ W0.heap.size := by omega
    clear hsz
    have hb0' : Below w.heap.size w W0 := hb0
    go_region_held3 (fun w' => w'.cell? ⟨w.heap.size, 0, none⟩ = some (.bool s1) ∧ w'.cell? ⟨w.heap.size + 1, 0, none⟩ = some (.bool s2)) (((try dsimp only); (repeat' apply And.intro) <;> (first | go_keep | (rw [far2 (by omega)]; assumption))))
      (first
        | (go_at_call 38; refine (sum_any (trimV m1 (val l1)) (trimV m2 (val l2)) (digs (val l1)) (digs (val l2)) _ (U32.below hmt1 (by exact ⟨rfl, rfl, rfl, Nat.le_refl _, fun _ _ => rfl⟩)) (U32.below hmt2 (by exact ⟨rfl, rfl, rfl, Nat.le_refl _, fun _ _ => rfl⟩)) (by omega) (by omega)).mono ?_; rintro e w2 ⟨v2, rfl, hm2, hb2⟩; replace hb2 := undraw hb2; simp only [val_digs] at hm2; have bAw2 := Box.below bA hb2 (by first | omega | (simp; done) | exact Nat.lt_of_lt_of_le (by omega) hge | (simp <;> omega)); have cA0w2 := Box.c0 bAw2; have cA1w2 := Box.c1 bAw2; have bBw2 := Box.below bB hb2 (by first | omega | (simp; done) | exact Nat.lt_of_lt_of_le (by omega) hge | (simp <;> omega)); have cB0w2 := Box.c0 bBw2; have cB1w2 := Box.c1 bBw2; have bRw2 := Box.below bR hb2 (by first | omega | (simp; done) | exact Nat.lt_of_lt_of_le (by omega) hge | (simp <;> omega)); have cR0w2 := Box.c0 bRw2; have cR1w2 := Box.c1 bRw2; have fR0w2 := Box.f0 bRw2; have fR1w2 := Box.f1 bRw2; have hzw2 : w.heap.size + 3 ≤ w2.heap.size := (by have hq := hb2.size; first | omega | exact Nat.le_trans hge hq | (simp at hq; omega)))
        | (go_at_call 41; refine (signed_can _ _ (digs (val l1 + val l2)) _ hm2).mono ?_; rintro e w3 ⟨sg, A3, k3, c3, rfl, hm3, hb3⟩; have bAw3 := Box.below bAw2 hb3 (by first | omega | (simp; done) | exact Nat.lt_of_lt_of_le (by omega) hge | (simp <;> omega)); have cA0w3 := Box.c0 bAw3; have cA1w3 := Box.c1 bAw3; have bBw3 := Box.below bBw2 hb3 (by first | omega | (simp; done) | exact Nat.lt_of_lt_of_le (by omega) hge | (simp <;> omega)); have cB0w3 := Box.c0 bBw3; have cB1w3 := Box.c1 bBw3; have bRw3 := Box.below bRw2 hb3 (by first | omega | (simp; done) | exact Nat.lt_of_lt_of_le (by omega) hge | (simp <;> omega)); have cR0w3 := Box.c0 bRw3; have cR1w3 := Box.c1 bRw3; have fR0w3 := Box.f0 bRw3; have fR1w3 := Box.f1 bRw3; have hzw3 : w.heap.size + 3 ≤ w3.heap.size := (by have hq := hb3.size; first | omega | exact Nat.le_trans hge hq | (simp at hq; omega))))
    have bS := bRw3.store sg (.slice A3 k3 c3)
    have s0 := bS.c0
    have s1' := bS.c1
    have hfin := bRw3.can hm3 sg (.slice A3 k3 c3)
    have hbel : Below w.heap.size w w3 := (hb0'.trans (hb2.mono (by omega))).trans (hb3.mono (by omega))
    have hbel2 := Below.store hbel (x := w.heap.size + 1 + 1) (by omega) (.bool sg) (.slice A3 k3 c3)
    rw [ival_digs, HZ.out] at hfin
    clear hm3 hb2 hb3 bS hbel
    generalize (w3.setCell ⟨w.heap.size + 1 + 1, 0, none⟩ (.bool sg)).setCell ⟨w.heap.size + 1 + 1, 1, none⟩ (.slice A3 k3 c3) = W at *
    go_wp2
    exact bodyPost_ret (v := .agg #[.bool sg, .slice A3 k3 c3]) (by simp [results, Tryd.results17, go_sem, s0, s1']) rfl ⟨_, rfl, hfin, hbel2⟩
  · have hbe : (s1 == s2) = false := by rw [beq_eq_false_iff_ne]; exact hss
    by_cases hle : val l2 ≤ val l1
    · have hll : (digs (val l2)).length ≤ (digs (val l1)).length := length_mono hle
      have HZ : Hid ((if s1 = true then -((val l1 - val l2 : Nat) : Int) else ((val l1 - val l2 : Nat) : Int)) = ival s1 l1 + ival s2 l2) := by
        unfold Hid ival; cases s1 <;> cases s2 <;> simp at hss ⊢ <;> omega
      clear hss
      go_enter Tryd.func17, Tryd.ntmps17
      go_wp2
      generalize ((w.alloc (.cells #[.bool s1, m1] 24)).alloc (.cells #[.bool s2, m2] 24)).alloc (.cells #[.bool false, .slice none 0 0] 24) = W0 at *
      go_quiet ((first | (go_at_call_of 36 (m1); exact Calls.quiet_of_same (trim_eq m1 l1 _ (h1'.drewN _))) | (go_at_call_of 36 (m2); exact Calls.quiet_of_same (trim_eq m2 l2 _ (h2'.drewN _)))))
      go_wp2_with fail
      have hge : w.heap.size + 3 ≤ W0.heap.size := by omega
      clear hsz
      have hcv := cmpI_lt.2.2 hle
      have c1 := fun W (b1 : U32 W (trimV m1 (val l1)) (digs (val l1))) (b2 : U32 W (trimV m2 (val l2)) (digs (val l2))) => compare_any (trimV m1 (val l1)) (trimV m2 (val l2)) (val l1) (val l2) W b1 b2 (by omega) (by omega)
      generalize cmpI (val l1) (val l2) = cv at *
      have HCC := Lib.hid c1
      clear c1
      refine (HCC.out _ (U32.below hmt1 (by exact ⟨rfl, rfl, rfl, Nat.le_refl _, fun _ _ => rfl⟩)) (U32.below hmt2 (by exact ⟨rfl, rfl, rfl, Nat.le_refl _, fun _ _ => rfl⟩))).mono ?_
      rintro e w1 ⟨rfl, n1, rfl⟩
      go_wp2
      have hb0' : Below w.heap.size w W0 := hb0
      go_region_held3 (fun w' => w'.cell? ⟨w.heap.size, 0, none⟩ = some (.bool s1) ∧ w'.cell? ⟨w.heap.size + 1, 0, none⟩ = some (.bool s2)) (((try dsimp only); (repeat' apply And.intro) <;> (first | go_keep | (rw [far2 (by omega)]; assumption))))
        (first
          | (go_at_call 40; refine (difference_any (trimV m1 (val l1)) (trimV m2 (val l2)) (digs (val l1)) (digs (val l2)) _ (U32.below hmt1 (by exact ⟨rfl, rfl, rfl, Nat.le_refl _, fun _ _ => rfl⟩)) (U32.below hmt2 (by exact ⟨rfl, rfl, rfl, Nat.le_refl _, fun _ _ => rfl⟩)) (by omega) hll (by simp only [val_digs]; exact hle)).mono ?_; rintro e w2 ⟨v2, rfl, hm2, hb2⟩; replace hb2 := undraw hb2; simp only [val_digs] at hm2; have bAw2 := Box.below bA hb2 (by first | omega | (simp; done) | exact Nat.lt_of_lt_of_le (by omega) hge | (simp <;> omega)); have cA0w2 := Box.c0 bAw2; have cA1w2 := Box.c1 bAw2; have bBw2 := Box.below bB hb2 (by first | omega | (simp; done) | exact Nat.lt_of_lt_of_le (by omega) hge | (simp <;> omega)); have cB0w2 := Box.c0 bBw2; have cB1w2 := Box.c1 bBw2; have bRw2 := Box.below bR hb2 (by first | omega | (simp; done) | exact Nat.lt_of_lt_of_le (by omega) hge | (simp <;> omega)); have cR0w2 := Box.c0 bRw2; have cR1w2 := Box.c1 bRw2; have fR0w2 := Box.f0 bRw2; have fR1w2 := Box.f1 bRw2; have hzw2 : w.heap.size + 3 ≤ w2.heap.size := (by have hq := hb2.size; first | omega | exact Nat.le_trans hge hq | (simp at hq; omega)))
          | (go_at_call 41; refine (signed_can _ _ (digs (val l1 - val l2)) _ hm2).mono ?_; rintro e w3 ⟨sg, A3, k3, c3, rfl, hm3, hb3⟩; have bAw3 := Box.below bAw2 hb3 (by first | omega | (simp; done) | exact Nat.lt_of_lt_of_le (by omega) hge | (simp <;> omega)); have cA0w3 := Box.c0 bAw3; have cA1w3 := Box.c1 bAw3; have bBw3 := Box.below bBw2 hb3 (by first | omega | (simp; done) | exact Nat.lt_of_lt_of_le (by omega) hge | (simp <;> omega)); have cB0w3 := Box.c0 bBw3; have cB1w3 := Box.c1 bBw3; have bRw3 := Box.below bRw2 hb3 (by first | omega | (simp; done) | exact Nat.lt_of_lt_of_le (by omega) hge | (simp <;> omega)); have cR0w3 := Box.c0 bRw3; have cR1w3 := Box.c1 bRw3; have fR0w3 := Box.f0 bRw3; have fR1w3 := Box.f1 bRw3; have hzw3 : w.heap.size + 3 ≤ w3.heap.size := (by have hq := hb3.size; first | omega | exact Nat.le_trans hge hq | (simp at hq; omega))))
      have bS := bRw3.store sg (.slice A3 k3 c3)
      have s0 := bS.c0
      have s1' := bS.c1
      have hfin := bRw3.can hm3 sg (.slice A3 k3 c3)
      have hbel : Below w.heap.size w w3 := (hb0'.trans (hb2.mono (by omega))).trans (hb3.mono (by omega))
      have hbel2 := Below.store hbel (x := w.heap.size + 1 + 1) (by omega) (.bool sg) (.slice A3 k3 c3)
      rw [ival_digs, HZ.out] at hfin
      clear hm3 hb2 hb3 bS hbel
      generalize (w3.setCell ⟨w.heap.size + 1 + 1, 0, none⟩ (.bool sg)).setCell ⟨w.heap.size + 1 + 1, 1, none⟩ (.slice A3 k3 c3) = W at *
      go_wp2
      exact bodyPost_ret (v := .agg #[.bool sg, .slice A3 k3 c3]) (by simp [results, Tryd.results17, go_sem, s0, s1']) rfl ⟨_, rfl, hfin, hbel2⟩
    · have hlt : val l1 < val l2 := by omega
      have hll : (digs (val l1)).length ≤ (digs (val l2)).length := length_mono (by omega)
      have HZ : Hid ((if s2 = true then -((val l2 - val l1 : Nat) : Int) else ((val l2 - val l1 : Nat) : Int)) = ival s1 l1 + ival s2 l2) := by
        unfold Hid ival; cases s1 <;> cases s2 <;> simp at hss ⊢ <;> omega
      clear hss
      go_enter Tryd.func17, Tryd.ntmps17
      go_wp2
      generalize ((w.alloc (.cells #[.bool s1, m1] 24)).alloc (.cells #[.bool s2, m2] 24)).alloc (.cells #[.bool false, .slice none 0 0] 24) = W0 at *
      go_quiet ((first | (go_at_call_of 36 (m1); exact Calls.quiet_of_same (trim_eq m1 l1 _ (h1'.drewN _))) | (go_at_call_of 36 (m2); exact Calls.quiet_of_same (trim_eq m2 l2 _ (h2'.drewN _)))))
      go_wp2_with fail
      have hge : w.heap.size + 3 ≤ W0.heap.size := by omega
      clear hsz
      have hcv := cmpI_lt.1.2 hlt
      have c1 := fun W (b1 : U32 W (trimV m1 (val l1)) (digs (val l1))) (b2 : U32 W (trimV m2 (val l2)) (digs (val l2))) => compare_any (trimV m1 (val l1)) (trimV m2 (val l2)) (val l1) (val l2) W b1 b2 (by omega) (by omega)
      generalize cmpI (val l1) (val l2) = cv at *
      have HCC := Lib.hid c1
      clear c1
      refine (HCC.out _ (U32.below hmt1 (by exact ⟨rfl, rfl, rfl, Nat.le_refl _, fun _ _ => rfl⟩)) (U32.below hmt2 (by exact ⟨rfl, rfl, rfl, Nat.le_refl _, fun _ _ => rfl⟩))).mono ?_
      rintro e w1 ⟨rfl, n1, rfl⟩
      go_wp2
      have hb0' : Below w.heap.size w W0 := hb0
      go_region_held3 (fun w' => w'.cell? ⟨w.heap.size, 0, none⟩ = some (.bool s1) ∧ w'.cell? ⟨w.heap.size + 1, 0, none⟩ = some (.bool s2)) (((try dsimp only); (repeat' apply And.intro) <;> (first | go_keep | (rw [far2 (by omega)]; assumption))))
        (first
          | (go_at_call 40; refine (difference_any (trimV m2 (val l2)) (trimV m1 (val l1)) (digs (val l2)) (digs (val l1)) _ (U32.below hmt2 (by exact ⟨rfl, rfl, rfl, Nat.le_refl _, fun _ _ => rfl⟩)) (U32.below hmt1 (by exact ⟨rfl, rfl, rfl, Nat.le_refl _, fun _ _ => rfl⟩)) (by omega) hll (by simp only [val_digs]; omega)).mono ?_; rintro e w2 ⟨v2, rfl, hm2, hb2⟩; replace hb2 := undraw hb2; simp only [val_digs] at hm2; have bAw2 := Box.below bA hb2 (by first | omega | (simp; done) | exact Nat.lt_of_lt_of_le (by omega) hge | (simp <;> omega)); have cA0w2 := Box.c0 bAw2; have cA1w2 := Box.c1 bAw2; have bBw2 := Box.below bB hb2 (by first | omega | (simp; done) | exact Nat.lt_of_lt_of_le (by omega) hge | (simp <;> omega)); have cB0w2 := Box.c0 bBw2; have cB1w2 := Box.c1 bBw2; have bRw2 := Box.below bR hb2 (by first | omega | (simp; done) | exact Nat.lt_of_lt_of_le (by omega) hge | (simp <;> omega)); have cR0w2 := Box.c0 bRw2; have cR1w2 := Box.c1 bRw2; have fR0w2 := Box.f0 bRw2; have fR1w2 := Box.f1 bRw2; have hzw2 : w.heap.size + 3 ≤ w2.heap.size := (by have hq := hb2.size; first | omega | exact Nat.le_trans hge hq | (simp at hq; omega)))
          | (go_at_call 41; refine (signed_can _ _ (digs (val l2 - val l1)) _ hm2).mono ?_; rintro e w3 ⟨sg, A3, k3, c3, rfl, hm3, hb3⟩; have bAw3 := Box.below bAw2 hb3 (by first | omega | (simp; done) | exact Nat.lt_of_lt_of_le (by omega) hge | (simp <;> omega)); have cA0w3 := Box.c0 bAw3; have cA1w3 := Box.c1 bAw3; have bBw3 := Box.below bBw2 hb3 (by first | omega | (simp; done) | exact Nat.lt_of_lt_of_le (by omega) hge | (simp <;> omega)); have cB0w3 := Box.c0 bBw3; have cB1w3 := Box.c1 bBw3; have bRw3 := Box.below bRw2 hb3 (by first | omega | (simp; done) | exact Nat.lt_of_lt_of_le (by omega) hge | (simp <;> omega)); have cR0w3 := Box.c0 bRw3; have cR1w3 := Box.c1 bRw3; have fR0w3 := Box.f0 bRw3; have fR1w3 := Box.f1 bRw3; have hzw3 : w.heap.size + 3 ≤ w3.heap.size := (by have hq := hb3.size; first | omega | exact Nat.le_trans hge hq | (simp at hq; omega))))
      have bS := bRw3.store sg (.slice A3 k3 c3)
      have s0 := bS.c0
      have s1' := bS.c1
      have hfin := bRw3.can hm3 sg (.slice A3 k3 c3)
      have hbel : Below w.heap.size w w3 := (hb0'.trans (hb2.mono (by omega))).trans (hb3.mono (by omega))
      have hbel2 := Below.store hbel (x := w.heap.size + 1 + 1) (by omega) (.bool sg) (.slice A3 k3 c3)
      rw [ival_digs, HZ.out] at hfin
      clear hm3 hb2 hb3 bS hbel
      generalize (w3.setCell ⟨w.heap.size + 1 + 1, 0, none⟩ (.bool sg)).setCell ⟨w.heap.size + 1 + 1, 1, none⟩ (.slice A3 k3 c3) = W at *
      go_wp2
      exact bodyPost_ret (v := .agg #[.bool sg, .slice A3 k3 c3]) (by simp [results, Tryd.results17, go_sem, s0, s1']) rfl ⟨_, rfl, hfin, hbel2⟩
end Go.Proofs.YtgfoplokplnpgaaDoor
