/- Gcd and Sqrt at magnitudes of at most two words. -/
import Derived.Test.YtgfoplokplnpgaaDoorGcd1
namespace Go.Proofs.YtgfoplokplnpgaaDoor
open Go Go.RowKit Num

set_option maxRecDepth 100000 in
set_option maxHeartbeats 2000000 in
theorem Gcd_keep (s1 s2 : Bool) (m1 m2 : Value) (l1 l2 : List Nat) (w : World) (h1 : U32 w m1 l1) (h2 : U32 w m2 l2) (hv1 : val l1 < 18446744073709551616) (hv2 : val l2 < 18446744073709551616) (hle : val l2 ≤ val l1) :
    Calls Tryd.prog 28 #[.agg #[.bool s1, m1], .agg #[.bool s2, m2]] w fun e w' => ∃ v, e = .returned v ∧ Can w' v (Nat.gcd (val l1) (val l2) : Nat) ∧ Below w.heap.size w w' := by
  have bA := ((Box.new w s1 m1).alloc (.cells #[.bool s2, m2] 24)).alloc (.cells #[.bool false, .slice none 0 0] 24)
  have bB := (Box.new (w.alloc (.cells #[.bool s1, m1] 24)) s2 m2).alloc (.cells #[.bool false, .slice none 0 0] 24)
  have bR := Box.new ((w.alloc (.cells #[.bool s1, m1] 24)).alloc (.cells #[.bool s2, m2] 24)) false (.slice none 0 0)
  have hb0 : Below w.heap.size w (((w.alloc (.cells #[.bool s1, m1] 24)).alloc (.cells #[.bool s2, m2] 24)).alloc (.cells #[.bool false, .slice none 0 0] 24)) := ((((Below.refl w.heap.size w).alloc (Nat.le_refl _) _).alloc (by simp) _).alloc (by simp; omega) _)
  have hsz : w.heap.size + 3 = (((w.alloc (.cells #[.bool s1, m1] 24)).alloc (.cells #[.bool s2, m2] 24)).alloc (.cells #[.bool false, .slice none 0 0] 24)).heap.size := by simp
  simp only [World.size_alloc] at bB bR
  have h1' := h1.below hb0
  have h2' := h2.below hb0
  have hl1 := length_val_le h1.lt
  have hl2 := length_val_le h2.lt
  have cA0 := Box.c0 bA
  have cA1 := Box.c1 bA
  have fA0 := Box.f0 bA
  have fA1 := Box.f1 bA
  have cB0 := Box.c0 bB
  have cB1 := Box.c1 bB
  have fB0 := Box.f0 bB
  have fB1 := Box.f1 bB
  have cR0 := Box.c0 bR
  have cR1 := Box.c1 bR
  have fR0 := Box.f0 bR
  have fR1 := Box.f1 bR
  have hmt1 := trimV_mag h1'
  have hmt2 := trimV_mag h2'
  have hgl : (digs (Nat.gcd (val l1) (val l2))).length ≤ 2 := len2 (by
    rcases Nat.eq_zero_or_pos (val l1) with h0 | h0
    · rw [h0]; simp; exact hv2
    · have := Nat.gcd_le_left (val l2) h0
      first | omega | (rw [Nat.gcd_comm]; omega))
  have HZ : Hid ((if false = true then -((Nat.gcd (val l1) (val l2) : Nat) : Int) else ((Nat.gcd (val l1) (val l2) : Nat) : Int)) = (Nat.gcd (val l1) (val l2) : Nat)) := by
    unfold Hid; first | rfl | (rw [Nat.gcd_comm]; rfl)
  go_enter Tryd.func28, Tryd.ntmps28
  go_wp2
  generalize ((w.alloc (.cells #[.bool s1, m1] 24)).alloc (.cells #[.bool s2, m2] 24)).alloc (.cells #[.bool false, .slice none 0 0] 24) = W0 at *
  have hge : w.heap.size + 3 ≤ W0.heap.size := by omega
  clear hsz
  go_region_held3 (fun w' => w'.cell? ⟨w.heap.size, 0, none⟩ = some (.bool s1) ∧ w'.cell? ⟨w.heap.size, 1, none⟩ = some m1 ∧ w'.cell? ⟨w.heap.size + 1, 0, none⟩ = some (.bool s2) ∧ w'.cell? ⟨w.heap.size + 1, 1, none⟩ = some m2) (((try dsimp only); (repeat' apply And.intro) <;> (first | go_keep | (rw [far2 (by omega)]; assumption) | assumption)))
    (first
      | (go_at_call_of 36 (m1); refine (trim_eq m1 l1 _ (U32.below h1' (by exact ⟨rfl, rfl, rfl, Nat.le_refl _, fun _ _ => rfl⟩))).mono ?_; rintro e w' ⟨rfl, rfl⟩)
      | (go_at_call_of 36 (m2); refine (trim_eq m2 l2 _ (U32.below h2' (by exact ⟨rfl, rfl, rfl, Nat.le_refl _, fun _ _ => rfl⟩))).mono ?_; rintro e w' ⟨rfl, rfl⟩)
      | (go_at_call 49; refine (common_keep (trimV m1 (val l1)) (trimV m2 (val l2)) (val l1) (val l2) _ (U32.below hmt1 (by exact ⟨rfl, rfl, rfl, Nat.le_refl _, fun _ _ => rfl⟩)) (U32.below hmt2 (by exact ⟨rfl, rfl, rfl, Nat.le_refl _, fun _ _ => rfl⟩)) hle hv1).mono ?_; rintro e w2 ⟨v2, rfl, hm2, hb2⟩; replace hb2 := undraw1 hb2; have bAw2 := Box.below bA hb2 (by first | omega | (simp; done) | exact Nat.lt_of_lt_of_le (by omega) hge | (simp <;> omega)); have cA0w2 := Box.c0 bAw2; have cA1w2 := Box.c1 bAw2; have bBw2 := Box.below bB hb2 (by first | omega | (simp; done) | exact Nat.lt_of_lt_of_le (by omega) hge | (simp <;> omega)); have cB0w2 := Box.c0 bBw2; have cB1w2 := Box.c1 bBw2; have bRw2 := Box.below bR hb2 (by first | omega | (simp; done) | exact Nat.lt_of_lt_of_le (by omega) hge | (simp <;> omega)); have cR0w2 := Box.c0 bRw2; have cR1w2 := Box.c1 bRw2; have fR0w2 := Box.f0 bRw2; have fR1w2 := Box.f1 bRw2; have hzw2 : w.heap.size + 3 ≤ w2.heap.size := (by have hq := hb2.size; first | omega | exact Nat.le_trans hge hq | (simp at hq; omega)))
      | (go_at_call 44; refine (clone_any v2 _ _ hm2 (by omega)).mono ?_; rintro e w4 ⟨v4, rfl, hcl, hb4⟩; have bAw4 := Box.below bAw2 hb4 (by first | omega | (simp; done) | exact Nat.lt_of_lt_of_le (by omega) hge | (simp <;> omega)); have cA0w4 := Box.c0 bAw4; have cA1w4 := Box.c1 bAw4; have bBw4 := Box.below bBw2 hb4 (by first | omega | (simp; done) | exact Nat.lt_of_lt_of_le (by omega) hge | (simp <;> omega)); have cB0w4 := Box.c0 bBw4; have cB1w4 := Box.c1 bBw4; have bRw4 := Box.below bRw2 hb4 (by first | omega | (simp; done) | exact Nat.lt_of_lt_of_le (by omega) hge | (simp <;> omega)); have cR0w4 := Box.c0 bRw4; have cR1w4 := Box.c1 bRw4; have fR0w4 := Box.f0 bRw4; have fR1w4 := Box.f1 bRw4; have hzw4 : w.heap.size + 3 ≤ w4.heap.size := (by have hq := hb4.size; first | omega | exact Nat.le_trans hge hq | (simp at hq; omega)))
      | (go_at_call 41; refine (signed_can false _ (digs (Nat.gcd (val l1) (val l2))) _ (hcl.u32 (digs_lt _))).mono ?_; rintro e w3 ⟨sg, A3, k3, c3, rfl, hm3, hb3⟩; have bAw3 := Box.below bAw4 hb3 (by first | omega | (simp; done) | exact Nat.lt_of_lt_of_le (by omega) hge | (simp <;> omega)); have cA0w3 := Box.c0 bAw3; have cA1w3 := Box.c1 bAw3; have bBw3 := Box.below bBw4 hb3 (by first | omega | (simp; done) | exact Nat.lt_of_lt_of_le (by omega) hge | (simp <;> omega)); have cB0w3 := Box.c0 bBw3; have cB1w3 := Box.c1 bBw3; have bRw3 := Box.below bRw4 hb3 (by first | omega | (simp; done) | exact Nat.lt_of_lt_of_le (by omega) hge | (simp <;> omega)); have cR0w3 := Box.c0 bRw3; have cR1w3 := Box.c1 bRw3; have fR0w3 := Box.f0 bRw3; have fR1w3 := Box.f1 bRw3; have hzw3 : w.heap.size + 3 ≤ w3.heap.size := (by have hq := hb3.size; first | omega | exact Nat.le_trans hge hq | (simp at hq; omega))))
  all_goals
    have hb0' : Below w.heap.size w W0 := hb0
    replace hb2 := hb2.trans (hb4.mono hb2.size)
    have bS := bRw3.store sg (.slice A3 k3 c3)
    have s0 := bS.c0
    have s1' := bS.c1
    have hfin := bRw3.can hm3 sg (.slice A3 k3 c3)
    have hbel : Below w.heap.size w w3 := (hb0'.trans (hb2.mono (by omega))).trans (hb3.mono (by omega))
    have hbel2 := Below.store hbel (x := w.heap.size + 1 + 1) (by omega) (.bool sg) (.slice A3 k3 c3)
    rw [ival_digs, HZ.out] at hfin
    clear hm3 hb2 hb3 bS hbel
    generalize (w3.setCell ⟨w.heap.size + 1 + 1, 0, none⟩ (.bool sg)).setCell ⟨w.heap.size + 1 + 1, 1, none⟩ (.slice A3 k3 c3) = W at *
    go_wp2
    exact bodyPost_ret (v := .agg #[.bool sg, .slice A3 k3 c3]) (by simp [results, Tryd.results28, go_sem, s0, s1']) rfl ⟨_, rfl, hfin, hbel2⟩

set_option maxRecDepth 100000 in
set_option maxHeartbeats 2000000 in
theorem Gcd_swap (s1 s2 : Bool) (m1 m2 : Value) (l1 l2 : List Nat) (w : World) (h1 : U32 w m1 l1) (h2 : U32 w m2 l2) (hv1 : val l1 < 18446744073709551616) (hv2 : val l2 < 18446744073709551616) (hle : val l1 < val l2) :
    Calls Tryd.prog 28 #[.agg #[.bool s1, m1], .agg #[.bool s2, m2]] w fun e w' => ∃ v, e = .returned v ∧ Can w' v (Nat.gcd (val l1) (val l2) : Nat) ∧ Below w.heap.size w w' := by
  have bA := ((Box.new w s1 m1).alloc (.cells #[.bool s2, m2] 24)).alloc (.cells #[.bool false, .slice none 0 0] 24)
  have bB := (Box.new (w.alloc (.cells #[.bool s1, m1] 24)) s2 m2).alloc (.cells #[.bool false, .slice none 0 0] 24)
  have bR := Box.new ((w.alloc (.cells #[.bool s1, m1] 24)).alloc (.cells #[.bool s2, m2] 24)) false (.slice none 0 0)
  have hb0 : Below w.heap.size w (((w.alloc (.cells #[.bool s1, m1] 24)).alloc (.cells #[.bool s2, m2] 24)).alloc (.cells #[.bool false, .slice none 0 0] 24)) := ((((Below.refl w.heap.size w).alloc (Nat.le_refl _) _).alloc (by simp) _).alloc (by simp; omega) _)
  have hsz : w.heap.size + 3 = (((w.alloc (.cells #[.bool s1, m1] 24)).alloc (.cells #[.bool s2, m2] 24)).alloc (.cells #[.bool false, .slice none 0 0] 24)).heap.size := by simp
  simp only [World.size_alloc] at bB bR
  have h1' := h1.below hb0
  have h2' := h2.below hb0
  have hl1 := length_val_le h1.lt
  have hl2 := length_val_le h2.lt
  have cA0 := Box.c0 bA
  have cA1 := Box.c1 bA
  have fA0 := Box.f0 bA
  have fA1 := Box.f1 bA
  have cB0 := Box.c0 bB
  have cB1 := Box.c1 bB
  have fB0 := Box.f0 bB
  have fB1 := Box.f1 bB
  have cR0 := Box.c0 bR
  have cR1 := Box.c1 bR
  have fR0 := Box.f0 bR
  have fR1 := Box.f1 bR
  have hmt1 := trimV_mag h1'
  have hmt2 := trimV_mag h2'
  have hgl : (digs (Nat.gcd (val l2) (val l1))).length ≤ 2 := len2 (by
    rcases Nat.eq_zero_or_pos (val l1) with h0 | h0
    · rw [h0]; simp; exact hv2
    · have := Nat.gcd_le_left (val l2) h0
      first | omega | (rw [Nat.gcd_comm]; omega))
  have HZ : Hid ((if false = true then -((Nat.gcd (val l2) (val l1) : Nat) : Int) else ((Nat.gcd (val l2) (val l1) : Nat) : Int)) = (Nat.gcd (val l1) (val l2) : Nat)) := by
    unfold Hid; first | rfl | (rw [Nat.gcd_comm]; rfl)
  go_enter Tryd.func28, Tryd.ntmps28
  go_wp2
  generalize ((w.alloc (.cells #[.bool s1, m1] 24)).alloc (.cells #[.bool s2, m2] 24)).alloc (.cells #[.bool false, .slice none 0 0] 24) = W0 at *
  have hge : w.heap.size + 3 ≤ W0.heap.size := by omega
  clear hsz
  go_region_held3 (fun w' => w'.cell? ⟨w.heap.size, 0, none⟩ = some (.bool s1) ∧ w'.cell? ⟨w.heap.size, 1, none⟩ = some m1 ∧ w'.cell? ⟨w.heap.size + 1, 0, none⟩ = some (.bool s2) ∧ w'.cell? ⟨w.heap.size + 1, 1, none⟩ = some m2) (((try dsimp only); (repeat' apply And.intro) <;> (first | go_keep | (rw [far2 (by omega)]; assumption) | assumption)))
    (first
      | (go_at_call_of 36 (m1); refine (trim_eq m1 l1 _ (U32.below h1' (by exact ⟨rfl, rfl, rfl, Nat.le_refl _, fun _ _ => rfl⟩))).mono ?_; rintro e w' ⟨rfl, rfl⟩)
      | (go_at_call_of 36 (m2); refine (trim_eq m2 l2 _ (U32.below h2' (by exact ⟨rfl, rfl, rfl, Nat.le_refl _, fun _ _ => rfl⟩))).mono ?_; rintro e w' ⟨rfl, rfl⟩)
      | (go_at_call 49; refine (common_swap (trimV m2 (val l2)) (trimV m1 (val l1)) (val l2) (val l1) _ (U32.below hmt2 (by exact ⟨rfl, rfl, rfl, Nat.le_refl _, fun _ _ => rfl⟩)) (U32.below hmt1 (by exact ⟨rfl, rfl, rfl, Nat.le_refl _, fun _ _ => rfl⟩)) hle hv2).mono ?_; rintro e w2 ⟨v2, rfl, hm2, hb2⟩; replace hb2 := undraw1 hb2; have bAw2 := Box.below bA hb2 (by first | omega | (simp; done) | exact Nat.lt_of_lt_of_le (by omega) hge | (simp <;> omega)); have cA0w2 := Box.c0 bAw2; have cA1w2 := Box.c1 bAw2; have bBw2 := Box.below bB hb2 (by first | omega | (simp; done) | exact Nat.lt_of_lt_of_le (by omega) hge | (simp <;> omega)); have cB0w2 := Box.c0 bBw2; have cB1w2 := Box.c1 bBw2; have bRw2 := Box.below bR hb2 (by first | omega | (simp; done) | exact Nat.lt_of_lt_of_le (by omega) hge | (simp <;> omega)); have cR0w2 := Box.c0 bRw2; have cR1w2 := Box.c1 bRw2; have fR0w2 := Box.f0 bRw2; have fR1w2 := Box.f1 bRw2; have hzw2 : w.heap.size + 3 ≤ w2.heap.size := (by have hq := hb2.size; first | omega | exact Nat.le_trans hge hq | (simp at hq; omega)))
      | (go_at_call 44; refine (clone_any v2 _ _ hm2 (by omega)).mono ?_; rintro e w4 ⟨v4, rfl, hcl, hb4⟩; have bAw4 := Box.below bAw2 hb4 (by first | omega | (simp; done) | exact Nat.lt_of_lt_of_le (by omega) hge | (simp <;> omega)); have cA0w4 := Box.c0 bAw4; have cA1w4 := Box.c1 bAw4; have bBw4 := Box.below bBw2 hb4 (by first | omega | (simp; done) | exact Nat.lt_of_lt_of_le (by omega) hge | (simp <;> omega)); have cB0w4 := Box.c0 bBw4; have cB1w4 := Box.c1 bBw4; have bRw4 := Box.below bRw2 hb4 (by first | omega | (simp; done) | exact Nat.lt_of_lt_of_le (by omega) hge | (simp <;> omega)); have cR0w4 := Box.c0 bRw4; have cR1w4 := Box.c1 bRw4; have fR0w4 := Box.f0 bRw4; have fR1w4 := Box.f1 bRw4; have hzw4 : w.heap.size + 3 ≤ w4.heap.size := (by have hq := hb4.size; first | omega | exact Nat.le_trans hge hq | (simp at hq; omega)))
      | (go_at_call 41; refine (signed_can false _ (digs (Nat.gcd (val l2) (val l1))) _ (hcl.u32 (digs_lt _))).mono ?_; rintro e w3 ⟨sg, A3, k3, c3, rfl, hm3, hb3⟩; have bAw3 := Box.below bAw4 hb3 (by first | omega | (simp; done) | exact Nat.lt_of_lt_of_le (by omega) hge | (simp <;> omega)); have cA0w3 := Box.c0 bAw3; have cA1w3 := Box.c1 bAw3; have bBw3 := Box.below bBw4 hb3 (by first | omega | (simp; done) | exact Nat.lt_of_lt_of_le (by omega) hge | (simp <;> omega)); have cB0w3 := Box.c0 bBw3; have cB1w3 := Box.c1 bBw3; have bRw3 := Box.below bRw4 hb3 (by first | omega | (simp; done) | exact Nat.lt_of_lt_of_le (by omega) hge | (simp <;> omega)); have cR0w3 := Box.c0 bRw3; have cR1w3 := Box.c1 bRw3; have fR0w3 := Box.f0 bRw3; have fR1w3 := Box.f1 bRw3; have hzw3 : w.heap.size + 3 ≤ w3.heap.size := (by have hq := hb3.size; first | omega | exact Nat.le_trans hge hq | (simp at hq; omega))))
  all_goals
    have hb0' : Below w.heap.size w W0 := hb0
    replace hb2 := hb2.trans (hb4.mono hb2.size)
    have bS := bRw3.store sg (.slice A3 k3 c3)
    have s0 := bS.c0
    have s1' := bS.c1
    have hfin := bRw3.can hm3 sg (.slice A3 k3 c3)
    have hbel : Below w.heap.size w w3 := (hb0'.trans (hb2.mono (by omega))).trans (hb3.mono (by omega))
    have hbel2 := Below.store hbel (x := w.heap.size + 1 + 1) (by omega) (.bool sg) (.slice A3 k3 c3)
    rw [ival_digs, HZ.out] at hfin
    clear hm3 hb2 hb3 bS hbel
    generalize (w3.setCell ⟨w.heap.size + 1 + 1, 0, none⟩ (.bool sg)).setCell ⟨w.heap.size + 1 + 1, 1, none⟩ (.slice A3 k3 c3) = W at *
    go_wp2
    exact bodyPost_ret (v := .agg #[.bool sg, .slice A3 k3 c3]) (by simp [results, Tryd.results28, go_sem, s0, s1']) rfl ⟨_, rfl, hfin, hbel2⟩

set_option maxRecDepth 100000 in
set_option maxHeartbeats 1000000 in
theorem Sqrt_small (m : Value) (l : List Nat) (w : World) (h : U32 w m l) (hv : val l < 18446744073709551616) :
    Calls Tryd.prog 30 #[.agg #[.bool false, m]] w fun e w' => ∃ v s, e = .returned (.tuple #[v, .int .i64 0]) ∧ Can w' v (s : Nat) ∧ IsRoot (val l) s ∧ Below w.heap.size w w' := by
  obtain ⟨A1, k1, rfl, -⟩ := id h.form
  have bR := (Box.new (w.alloc (.cells #[.bool false, .slice A1 l.length k1] 24)) false (.slice none 0 0))
  have bA := (Box.new w false (.slice A1 l.length k1)).alloc (.cells #[.bool false, .slice none 0 0] 24)
  rw [World.size_alloc] at bR
  have hb0 : Below w.heap.size w ((w.alloc (.cells #[.bool false, .slice A1 l.length k1] 24)).alloc (.cells #[.bool false, .slice none 0 0] 24)) := ((Below.refl w.heap.size w).alloc (Nat.le_refl _) _).alloc (by simp) _
  have h' := h.below hb0
  have hsz : w.heap.size + 2 = ((w.alloc (.cells #[.bool false, .slice A1 l.length k1] 24)).alloc (.cells #[.bool false, .slice none 0 0] 24)).heap.size := by simp
  have hsg : 0 ≤ sgn (ival false l) := by
    unfold sgn ival
    simp only [Bool.false_eq_true, if_false]
    rw [if_neg (by omega)]
    split <;> omega
  have c0 := Sign_any false (.slice A1 l.length k1) l _ h'
  generalize sgn (ival false l) = sv at *
  have HC0 := Lib.hid c0
  clear c0
  go_enter Tryd.func30, Tryd.ntmps30
  go_wp2_with fail
  refine HC0.out.mono ?_
  rintro e w1 ⟨rfl, hb1⟩
  generalize (w.alloc (.cells #[.bool false, .slice A1 l.length k1] 24)).alloc (.cells #[.bool false, .slice none 0 0] 24) = W0 at *
  have hge : w.heap.size + 2 ≤ W0.heap.size := by omega
  clear hsz HC0
  have bAw1 := Box.below bA hb1 (by first | omega | (simp; done) | exact Nat.lt_of_lt_of_le (by omega) hge | (simp <;> omega))
  have cA0w1 := Box.c0 bAw1
  have cA1w1 := Box.c1 bAw1
  have bRw1 := Box.below bR hb1 (by first | omega | (simp; done) | exact Nat.lt_of_lt_of_le (by omega) hge | (simp <;> omega))
  have cR0w1 := Box.c0 bRw1
  have cR1w1 := Box.c1 bRw1
  have fR0w1 := Box.f0 bRw1
  have fR1w1 := Box.f1 bRw1
  have hzw1 : w.heap.size + 2 ≤ w1.heap.size := (by have hq := hb1.size; first | omega | exact Nat.le_trans hge hq | (simp at hq; omega))
  have h1 := h'.below hb1
  go_wp2_with fail
  refine (trim_eq _ l _ h1).mono ?_
  rintro e w2 ⟨rfl, rfl⟩
  have hm := trimV_mag h1
  go_wp2_with fail
  refine (root_small _ (val l) _ hm hv).mono ?_
  rintro e w3 ⟨v3, s, rfl, hm3, hr, hb3⟩
  have bAw3 := Box.below bAw1 hb3 (by first | omega | (simp; done) | exact Nat.lt_of_lt_of_le (by omega) hge | (simp <;> omega))
  have cA0w3 := Box.c0 bAw3
  have cA1w3 := Box.c1 bAw3
  have bRw3 := Box.below bRw1 hb3 (by first | omega | (simp; done) | exact Nat.lt_of_lt_of_le (by omega) hge | (simp <;> omega))
  have cR0w3 := Box.c0 bRw3
  have cR1w3 := Box.c1 bRw3
  have fR0w3 := Box.f0 bRw3
  have fR1w3 := Box.f1 bRw3
  have hzw3 : w.heap.size + 2 ≤ w3.heap.size := (by have hq := hb3.size; first | omega | exact Nat.le_trans hge hq | (simp at hq; omega))
  have HR := Lib.hid hr
  clear hr hm
  go_wp2_with fail
  refine (signed_can false _ (digs s) _ hm3).mono ?_
  rintro e w5 ⟨sg, A3, k3, c3, rfl, hm5, hb5⟩
  have bAw5 := Box.below bAw3 hb5 (by first | omega | (simp; done) | exact Nat.lt_of_lt_of_le (by omega) hge | (simp <;> omega))
  have cA0w5 := Box.c0 bAw5
  have cA1w5 := Box.c1 bAw5
  have bRw5 := Box.below bRw3 hb5 (by first | omega | (simp; done) | exact Nat.lt_of_lt_of_le (by omega) hge | (simp <;> omega))
  have cR0w5 := Box.c0 bRw5
  have cR1w5 := Box.c1 bRw5
  have fR0w5 := Box.f0 bRw5
  have fR1w5 := Box.f1 bRw5
  have hzw5 : w.heap.size + 2 ≤ w5.heap.size := (by have hq := hb5.size; first | omega | exact Nat.le_trans hge hq | (simp at hq; omega))
  have bS := bRw5.store sg (.slice A3 k3 c3)
  have s0 := bS.c0
  have s1 := bS.c1
  have hfin := bRw5.can hm5 sg (.slice A3 k3 c3)
  have hbel : Below w.heap.size w w5 := ((hb0.trans (hb1.mono (by omega))).trans (hb3.mono (by omega))).trans (hb5.mono (by omega))
  have hbel2 := Below.store hbel (x := w.heap.size + 1) (by omega) (.bool sg) (.slice A3 k3 c3)
  rw [ival_digs] at hfin
  simp only [Bool.false_eq_true, if_false] at hfin
  clear hm5 hm3 hb1 hb3 hb5 bS hbel
  go_wp2_with fail
  generalize (w5.setCell ⟨w.heap.size + 1, 0, none⟩ (.bool sg)).setCell ⟨w.heap.size + 1, 1, none⟩ (.slice A3 k3 c3) = W at *
  exact bodyPost_ret (v := .tuple #[.agg #[.bool sg, .slice A3 k3 c3], .int .i64 0]) (by simp [results, Tryd.results30, go_sem, s0, s1]) rfl ⟨_, s, rfl, hfin, HR.out, hbel2⟩
end Go.Proofs.YtgfoplokplnpgaaDoor
