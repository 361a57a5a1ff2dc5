/- integer.Gcd, in general. -/
import Derived.Test.YtccndofafljaaaaGreatDoorCommon
import Derived.Test.YtccndofafljaaaaGreatDoorLow

set_option linter.unusedVariables false
set_option linter.unusedSimpArgs false

namespace Go.Proofs.YtccndofafljaaaaGreatDoor
open Go Go.RowKit Num

set_option maxRecDepth 100000 in
set_option maxHeartbeats 2000000 in
theorem Gcd_any (s1 s2 : Bool) (m1 m2 : Value) (l1 l2 : List Nat) (w : World) (h1 : U32 w m1 l1) (h2 : U32 w m2 l2) (hn1 : l1.length ≤ 50000) (hn2 : l2.length ≤ 50000) :
    Calls Tryz.prog 60 #[.agg #[.bool s1, m1], .agg #[.bool s2, m2]] w fun e w' => ∃ v, e = .returned v ∧ Can w' v (Nat.gcd (val l1) (val l2) : Nat) ∧ Below w.heap.size w w' := by
  have bA := ((Box.new w s1 m1).alloc (.cells #[.bool s2, m2] 24)).alloc (.cells #[.bool false, .slice none 0 0] 24)
  have bB := (Box.new (w.alloc (.cells #[.bool s1, m1] 24)) s2 m2).alloc (.cells #[.bool false, .slice none 0 0] 24)
  have bR := Box.new ((w.alloc (.cells #[.bool s1, m1] 24)).alloc (.cells #[.bool s2, m2] 24)) false (.slice none 0 0)
  have hb0 : Below w.heap.size w (((w.alloc (.cells #[.bool s1, m1] 24)).alloc (.cells #[.bool s2, m2] 24)).alloc (.cells #[.bool false, .slice none 0 0] 24)) := ((((Below.refl w.heap.size w).alloc (Nat.le_refl _) _).alloc (by simp) _).alloc (by simp; omega) _)
  have hsz : w.heap.size + 3 = (((w.alloc (.cells #[.bool s1, m1] 24)).alloc (.cells #[.bool s2, m2] 24)).alloc (.cells #[.bool false, .slice none 0 0] 24)).heap.size := by simp
  simp only [World.size_alloc] at bB bR
  have h1' := h1.below hb0
  have h2' := h2.below hb0
  have hl1 := length_val_le h1.lt
  have hl2 := length_val_le h2.lt
  have cA0 := Box.c0 bA
  have cA1 := Box.c1 bA
  have fA0 := Box.f0 bA
  have fA1 := Box.f1 bA
  have cB0 := Box.c0 bB
  have cB1 := Box.c1 bB
  have fB0 := Box.f0 bB
  have fB1 := Box.f1 bB
  have cR0 := Box.c0 bR
  have cR1 := Box.c1 bR
  have fR0 := Box.f0 bR
  have fR1 := Box.f1 bR
  have hmt1 := trimV_mag h1'
  have hmt2 := trimV_mag h2'
  have hgl : (digs (Nat.gcd (val l1) (val l2))).length ≤ 100000 := by
    rcases Nat.eq_zero_or_pos (val l1) with h0 | h0
    · rw [h0, Nat.gcd_zero_left]; omega
    · exact Nat.le_trans (length_mono (Nat.gcd_le_left (val l2) h0)) (by omega)
  have HZ : Hid ((if false = true then -((Nat.gcd (val l1) (val l2) : Nat) : Int) else ((Nat.gcd (val l1) (val l2) : Nat) : Int)) = (Nat.gcd (val l1) (val l2) : Nat)) := by
    unfold Hid; first | rfl | (rw [Nat.gcd_comm]; rfl)
  go_enter Tryz.func60, Tryz.ntmps60
  go_wp2
  generalize ((w.alloc (.cells #[.bool s1, m1] 24)).alloc (.cells #[.bool s2, m2] 24)).alloc (.cells #[.bool false, .slice none 0 0] 24) = W0 at *
  have hge : w.heap.size + 3 ≤ W0.heap.size := by omega
  clear hsz
  go_region_held3 (fun w' => w'.cell? ⟨w.heap.size, 0, none⟩ = some (.bool s1) ∧ w'.cell? ⟨w.heap.size, 1, none⟩ = some m1 ∧ w'.cell? ⟨w.heap.size + 1, 0, none⟩ = some (.bool s2) ∧ w'.cell? ⟨w.heap.size + 1, 1, none⟩ = some m2) (((try dsimp only); (repeat' apply And.intro) <;> (first | go_keep | (rw [far2 (by omega)]; assumption) | assumption)))
    (first
      | (go_at_call_of 67 (m1); refine (trim_eq m1 l1 _ (U32.below h1' (by exact ⟨rfl, rfl, rfl, Nat.le_refl _, fun _ _ => rfl⟩))).mono ?_; rintro e w' ⟨rfl, rfl⟩)
      | (go_at_call_of 67 (m2); refine (trim_eq m2 l2 _ (U32.below h2' (by exact ⟨rfl, rfl, rfl, Nat.le_refl _, fun _ _ => rfl⟩))).mono ?_; rintro e w' ⟨rfl, rfl⟩)
      | (go_at_call 79; refine (common_any (trimV m1 (val l1)) (trimV m2 (val l2)) (val l1) (val l2) _ (U32.below hmt1 (by exact ⟨rfl, rfl, rfl, Nat.le_refl _, fun _ _ => rfl⟩)) (U32.below hmt2 (by exact ⟨rfl, rfl, rfl, Nat.le_refl _, fun _ _ => rfl⟩)) (by omega) (by omega)).mono ?_; rintro e w2 ⟨v2, rfl, hm2, hb2⟩; replace hb2 := undraw1 hb2; have bAw2 := Box.below bA hb2 (by first | omega | (simp; done) | exact Nat.lt_of_lt_of_le (by omega) hge | (simp <;> omega)); have cA0w2 := Box.c0 bAw2; have cA1w2 := Box.c1 bAw2; have bBw2 := Box.below bB hb2 (by first | omega | (simp; done) | exact Nat.lt_of_lt_of_le (by omega) hge | (simp <;> omega)); have cB0w2 := Box.c0 bBw2; have cB1w2 := Box.c1 bBw2; have bRw2 := Box.below bR hb2 (by first | omega | (simp; done) | exact Nat.lt_of_lt_of_le (by omega) hge | (simp <;> omega)); have cR0w2 := Box.c0 bRw2; have cR1w2 := Box.c1 bRw2; have fR0w2 := Box.f0 bRw2; have fR1w2 := Box.f1 bRw2; have hzw2 : w.heap.size + 3 ≤ w2.heap.size := (by have hq := hb2.size; first | omega | exact Nat.le_trans hge hq | (simp at hq; omega)))
      | (go_at_call 69; refine (clone_any v2 _ _ hm2 (by omega)).mono ?_; rintro e w4 ⟨v4, rfl, hcl, hb4⟩; have bAw4 := Box.below bAw2 hb4 (by first | omega | (simp; done) | exact Nat.lt_of_lt_of_le (by omega) hge | (simp <;> omega)); have cA0w4 := Box.c0 bAw4; have cA1w4 := Box.c1 bAw4; have bBw4 := Box.below bBw2 hb4 (by first | omega | (simp; done) | exact Nat.lt_of_lt_of_le (by omega) hge | (simp <;> omega)); have cB0w4 := Box.c0 bBw4; have cB1w4 := Box.c1 bBw4; have bRw4 := Box.below bRw2 hb4 (by first | omega | (simp; done) | exact Nat.lt_of_lt_of_le (by omega) hge | (simp <;> omega)); have cR0w4 := Box.c0 bRw4; have cR1w4 := Box.c1 bRw4; have fR0w4 := Box.f0 bRw4; have fR1w4 := Box.f1 bRw4; have hzw4 : w.heap.size + 3 ≤ w4.heap.size := (by have hq := hb4.size; first | omega | exact Nat.le_trans hge hq | (simp at hq; omega)))
      | (go_at_call 63; refine (signed_can false _ (digs (Nat.gcd (val l1) (val l2))) _ (hcl.u32 (digs_lt _))).mono ?_; rintro e w3 ⟨sg, A3, k3, c3, rfl, hm3, hb3⟩; have bAw3 := Box.below bAw4 hb3 (by first | omega | (simp; done) | exact Nat.lt_of_lt_of_le (by omega) hge | (simp <;> omega)); have cA0w3 := Box.c0 bAw3; have cA1w3 := Box.c1 bAw3; have bBw3 := Box.below bBw4 hb3 (by first | omega | (simp; done) | exact Nat.lt_of_lt_of_le (by omega) hge | (simp <;> omega)); have cB0w3 := Box.c0 bBw3; have cB1w3 := Box.c1 bBw3; have bRw3 := Box.below bRw4 hb3 (by first | omega | (simp; done) | exact Nat.lt_of_lt_of_le (by omega) hge | (simp <;> omega)); have cR0w3 := Box.c0 bRw3; have cR1w3 := Box.c1 bRw3; have fR0w3 := Box.f0 bRw3; have fR1w3 := Box.f1 bRw3; have hzw3 : w.heap.size + 3 ≤ w3.heap.size := (by have hq := hb3.size; first | omega | exact Nat.le_trans hge hq | (simp at hq; omega))))
  all_goals
    have hb0' : Below w.heap.size w W0 := hb0
    replace hb2 := hb2.trans (hb4.mono hb2.size)
    have bS := bRw3.store sg (.slice A3 k3 c3)
    have s0 := bS.c0
    have s1' := bS.c1
    have hfin := bRw3.can hm3 sg (.slice A3 k3 c3)
    have hbel : Below w.heap.size w w3 := (hb0'.trans (hb2.mono (by omega))).trans (hb3.mono (by omega))
    have hbel2 := Below.store hbel (x := w.heap.size + 1 + 1) (by omega) (.bool sg) (.slice A3 k3 c3)
    rw [ival_digs, HZ.out] at hfin
    clear hm3 hb2 hb3 bS hbel
    generalize (w3.setCell ⟨w.heap.size + 1 + 1, 0, none⟩ (.bool sg)).setCell ⟨w.heap.size + 1 + 1, 1, none⟩ (.slice A3 k3 c3) = W at *
    go_wp2
    exact bodyPost_ret (v := .agg #[.bool sg, .slice A3 k3 c3]) (by simp [results, Tryz.results60, go_sem, s0, s1']) rfl ⟨_, rfl, hfin, hbel2⟩


theorem gcd_words {x y : Int} {n k : Nat} (hx : x.natAbs < 4294967296 ^ n) (hy : y.natAbs < 4294967296 ^ k) : ((Nat.gcd x.natAbs y.natAbs : Nat) : Int).natAbs < 4294967296 ^ (n + k) := by
  rw [Int.natAbs_natCast]
  rcases Nat.eq_zero_or_pos x.natAbs with h0 | h0
  · rw [h0, Nat.gcd_zero_left]
    exact Nat.lt_of_lt_of_le hy (pow_mono (by omega))
  · exact Nat.lt_of_le_of_lt (Nat.gcd_le_left _ h0) (Nat.lt_of_lt_of_le hx (pow_mono (by omega)))
theorem Gcd_rd {v1 v2 : Value} {z1 z2 : Int} {n1 n2 : Nat} {w : World} (h1 : Rd w v1 z1 n1) (h2 : Rd w v2 z2 n2) (f1 : n1 ≤ 50000) (f2 : n2 ≤ 50000) :
    Calls Tryz.prog 60 #[v1, v2] w fun e w' => ∃ v, e = .returned v ∧ Rc w' v (Nat.gcd z1.natAbs z2.natAbs : Nat) (n1 + n2) ∧ Below w.heap.size w w' := by
  have a1 := h1.abs
  have a2 := h2.abs
  obtain ⟨s1, m1, l1, rfl, u1, rfl, e1⟩ := h1
  obtain ⟨s2, m2, l2, rfl, u2, rfl, e2⟩ := h2
  have gw := gcd_words a1 a2
  rw [ival_abs, ival_abs] at gw ⊢
  exact (Gcd_any s1 s2 m1 m2 l1 l2 w u1 u2 (by omega) (by omega)).mono fun e w' ⟨v, he, hc, hb⟩ => ⟨v, he, ⟨hc, gw⟩, hb⟩
end Go.Proofs.YtccndofafljaaaaGreatDoor
