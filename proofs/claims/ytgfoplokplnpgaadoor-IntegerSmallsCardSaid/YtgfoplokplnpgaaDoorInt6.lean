/- The exported functions of package integer, sixth part: Cmp. -/
import Derived.Test.YtgfoplokplnpgaaDoorInt5
namespace Go.Proofs.YtgfoplokplnpgaaDoor
open Go Go.RowKit Num

theorem nextw {w0 w w' : World} (h : Below w0.heap.size w0 w) (hb : Below w.heap.size w w') : Below w0.heap.size w0 w' := h.trans (hb.mono h.size)
theorem quiet_ex {P : Program} {f : FuncId} {args : Array Value} {w : World} {n : Nat} {v : Value} (h : Calls P f args (w.drewN n) fun e w' => e = .returned v ∧ ∃ m, w' = (w.drewN n).drewN m) :
    Calls P f args (w.drewN n) fun e w' => e = .returned v ∧ ∃ m, w' = w.drewN m := h.mono fun _ _ hh => ⟨hh.1, by obtain ⟨m, hm⟩ := hh.2; exact ⟨n + m, by rw [hm, World.drewN_drewN]⟩⟩

theorem sgn_range (z : Int) : -1 ≤ sgn z ∧ sgn z ≤ 1 := by
  unfold sgn
  by_cases h : z < 0
  · rw [if_pos h]; omega
  · rw [if_neg h]
    by_cases h' : z = 0
    · rw [if_pos h']; omega
    · rw [if_neg h']; omega

theorem cmpI_range (a b : Int) : -1 ≤ cmpI a b ∧ cmpI a b ≤ 1 := by
  unfold cmpI
  by_cases h : a < b
  · rw [if_pos h]; omega
  · rw [if_neg h]
    by_cases h' : b < a
    · rw [if_pos h']; omega
    · rw [if_neg h']; omega

theorem cmp_signs {s1 s2 : Bool} {l1 l2 : List Nat} :
    (sgn (ival s1 l1) < sgn (ival s2 l2) → cmpI (ival s1 l1) (ival s2 l2) = -1) ∧ (sgn (ival s2 l2) < sgn (ival s1 l1) → cmpI (ival s1 l1) (ival s2 l2) = 1) ∧
    (sgn (ival s1 l1) = sgn (ival s2 l2) → cmpI (ival s1 l1) (ival s2 l2) = sgn (ival s1 l1) * cmpI (val l1) (val l2)) := by
  have e1 : ival s1 l1 = if s1 then -(val l1 : Int) else val l1 := rfl
  have e2 : ival s2 l2 = if s2 then -(val l2 : Int) else val l2 := rfl
  generalize ival s1 l1 = a at *
  generalize ival s2 l2 = b at *
  generalize val l1 = x at *
  generalize val l2 = y at *
  unfold sgn cmpI
  refine ⟨fun h => ?_, fun h => ?_, fun h => ?_⟩
  · repeat' split at h
    all_goals (repeat' split) <;> omega
  · repeat' split at h
    all_goals (repeat' split) <;> omega
  · cases s1 <;> cases s2 <;> simp only [if_true, Bool.false_eq_true, if_false] at e1 e2
    all_goals (repeat' split at h) <;> (repeat' split) <;> omega

set_option maxRecDepth 100000 in
set_option maxHeartbeats 2000000 in
theorem Cmp_any (s1 s2 : Bool) (m1 m2 : Value) (l1 l2 : List Nat) (w : World) (h1 : U32 w m1 l1) (h2 : U32 w m2 l2) (hn1 : l1.length ≤ 50000) (hn2 : l2.length ≤ 50000) :
    Calls Tryd.prog 16 #[.agg #[.bool s1, m1], .agg #[.bool s2, m2]] w fun e w' => e = .returned (.int .i64 (cmpI (ival s1 l1) (ival s2 l2))) ∧ Below w.heap.size w w' := by
  have bA := (Box.new w s1 m1).alloc (.cells #[.bool s2, m2] 24)
  have bB := Box.new (w.alloc (.cells #[.bool s1, m1] 24)) s2 m2
  have hb0 : Below w.heap.size w ((w.alloc (.cells #[.bool s1, m1] 24)).alloc (.cells #[.bool s2, m2] 24)) := ((Below.refl w.heap.size w).alloc (Nat.le_refl _) _).alloc (by simp) _
  have hsz : w.heap.size + 1 + 1 = ((w.alloc (.cells #[.bool s1, m1] 24)).alloc (.cells #[.bool s2, m2] 24)).heap.size := by simp
  simp only [World.size_alloc] at bB
  have h1' := h1.below hb0
  have h2' := h2.below hb0
  have hl1 := length_val_le h1.lt
  have hl2 := length_val_le h2.lt
  have cA0 := Box.c0 bA
  have cA1 := Box.c1 bA
  have fA0 := Box.f0 bA
  have fA1 := Box.f1 bA
  have cB0 := Box.c0 bB
  have cB1 := Box.c1 bB
  have fB0 := Box.f0 bB
  have fB1 := Box.f1 bB
  obtain ⟨A1, k1, rfl, -⟩ := id h1.form
  obtain ⟨A2, k2, rfl, -⟩ := id h2.form
  have c1 := fun W (b : U32 W (.slice A1 l1.length k1) l1) => Sign_any s1 (.slice A1 l1.length k1) l1 W b
  have c2 := fun W (b : U32 W (.slice A2 l2.length k2) l2) => Sign_any s2 (.slice A2 l2.length k2) l2 W b
  obtain ⟨q1, q2, q3⟩ := @cmp_signs s1 s2 l1 l2
  have g1 := sgn_range (ival s1 l1)
  have g2 := sgn_range (ival s2 l2)
  have g3 := cmpI_range (val l1) (val l2)
  have c3 := fun W (b1 : U32 W (trimV (.slice A1 l1.length k1) (val l1)) (digs (val l1))) (b2 : U32 W (trimV (.slice A2 l2.length k2) (val l2)) (digs (val l2))) => compare_any (trimV (.slice A1 l1.length k1) (val l1)) (trimV (.slice A2 l2.length k2) (val l2)) (val l1) (val l2) W b1 b2 (by omega) (by omega)
  have hmt1 := trimV_mag h1'
  have hmt2 := trimV_mag h2'
  generalize cmpI (ival s1 l1) (ival s2 l2) = cr at *
  generalize sgn (ival s1 l1) = g at *
  generalize sgn (ival s2 l2) = h at *
  generalize cmpI (val l1) (val l2) = cv at *
  have HC1 := Lib.hid c1
  have HC2 := Lib.hid c2
  have HC3 := Lib.hid c3
  have HQ1 := Lib.hid q1
  have HQ2 := Lib.hid q2
  have HQ3 := Lib.hid q3
  clear c1 c2 c3 q1 q2 q3
  obtain ⟨g1a, g1b⟩ := g1
  obtain ⟨g2a, g2b⟩ := g2
  obtain ⟨g3a, g3b⟩ := g3
  go_enter Tryd.func16, Tryd.ntmps16
  go_wp2
  generalize (w.alloc (.cells #[.bool s1, .slice A1 l1.length k1] 24)).alloc (.cells #[.bool s2, .slice A2 l2.length k2] 24) = W0 at *
  have hge : w.heap.size + 2 ≤ W0.heap.size := by omega
  clear hsz
  go_region_held3 (fun w' => w'.cell? ⟨w.heap.size, 0, none⟩ = some (.bool s1) ∧ w'.cell? ⟨w.heap.size, 1, none⟩ = some (.slice A1 l1.length k1) ∧ w'.cell? ⟨w.heap.size + 1, 0, none⟩ = some (.bool s2) ∧ w'.cell? ⟨w.heap.size + 1, 1, none⟩ = some (.slice A2 l2.length k2)) (((try dsimp only); (repeat' apply And.intro) <;> (first | go_keep | (rw [far2 (by omega)]; assumption) | assumption)))
    (first
      | (go_at_call_of 15 (Value.agg #[Value.bool s1, Value.slice A1 l1.length k1]); refine (HC1.out _ (U32.below h1' (by first | exact hbx | exact ⟨rfl, rfl, rfl, Nat.le_refl _, fun _ _ => rfl⟩))).mono ?_; rintro e w2 ⟨rfl, hb2⟩; have hbx : Below W0.heap.size W0 w2 := nextw (by first | exact hbx | exact ⟨rfl, rfl, rfl, Nat.le_refl _, fun _ _ => rfl⟩) hb2; have bAw2 := Box.below bA hbx (by first | omega | (simp; done) | exact Nat.lt_of_lt_of_le (by omega) hge | (simp <;> omega)); have cA0w2 := Box.c0 bAw2; have cA1w2 := Box.c1 bAw2; have bBw2 := Box.below bB hbx (by first | omega | (simp; done) | exact Nat.lt_of_lt_of_le (by omega) hge | (simp <;> omega)); have cB0w2 := Box.c0 bBw2; have cB1w2 := Box.c1 bBw2; have hzw2 : w.heap.size + 2 ≤ w2.heap.size := (by have hq := hbx.size; first | omega | exact Nat.le_trans hge hq | (simp at hq; omega)))
      | (go_at_call_of 15 (Value.agg #[Value.bool s2, Value.slice A2 l2.length k2]); refine (HC2.out _ (U32.below h2' (by first | exact hbx | exact ⟨rfl, rfl, rfl, Nat.le_refl _, fun _ _ => rfl⟩))).mono ?_; rintro e w2 ⟨rfl, hb2⟩; have hbx : Below W0.heap.size W0 w2 := nextw (by first | exact hbx | exact ⟨rfl, rfl, rfl, Nat.le_refl _, fun _ _ => rfl⟩) hb2; have bAw2 := Box.below bA hbx (by first | omega | (simp; done) | exact Nat.lt_of_lt_of_le (by omega) hge | (simp <;> omega)); have cA0w2 := Box.c0 bAw2; have cA1w2 := Box.c1 bAw2; have bBw2 := Box.below bB hbx (by first | omega | (simp; done) | exact Nat.lt_of_lt_of_le (by omega) hge | (simp <;> omega)); have cB0w2 := Box.c0 bBw2; have cB1w2 := Box.c1 bBw2; have hzw2 : w.heap.size + 2 ≤ w2.heap.size := (by have hq := hbx.size; first | omega | exact Nat.le_trans hge hq | (simp at hq; omega))))
  all_goals
    rcases Int.lt_trichotomy g h with hgh | hgh | hgh
    · have HR := Lib.hid (HQ1.out hgh)
      have hbel := hb0.trans (hbx.mono hb0.size)
      go_wp2
      go_ret
      exact ⟨ret_int HR.out.symm, hbel⟩
    · have HR := Lib.hid (HQ3.out hgh)
      have hng : ¬ g < h := by omega
      have hnh : ¬ h < g := by omega
      have hbel := hb0.trans (hbx.mono hb0.size)
      have u1 := U32.below h1' hbx
      have u2 := U32.below h2' hbx
      have t1 := U32.below hmt1 hbx
      have t2 := U32.below hmt2 hbx
      have hgc : -1 ≤ g * cv ∧ g * cv ≤ 1 := by
        rcases (by omega : g = -1 ∨ g = 0 ∨ g = 1) with hg | hg | hg <;> rw [hg] <;> omega
      obtain ⟨hgc1, hgc2⟩ := hgc
      have hwr : IntKind.i64.wrap (g * cv) = g * cv := IntWalk.i64_in _ ⟨by omega, by omega⟩
      clear hgh
      go_wp2
      go_quiet ((first
        | (go_at_call_of 36 (Value.slice A1 l1.length k1); exact Calls.quiet_of_same (trim_eq (.slice A1 l1.length k1) l1 _ (U32.drewN u1 _)))
        | (go_at_call_of 36 (Value.slice A2 l2.length k2); exact Calls.quiet_of_same (trim_eq (.slice A2 l2.length k2) l2 _ (U32.drewN u2 _)))
        | (go_at_call 42; exact quiet_ex (HC3.out _ (U32.drewN t1 _) (U32.drewN t2 _)))))
      go_wp2
      go_ret
      exact ⟨ret_int HR.out.symm, bel_drewN hbel _⟩
    · have HR := Lib.hid (HQ2.out hgh)
      have hbel := hb0.trans (hbx.mono hb0.size)
      go_wp2
      go_ret
      exact ⟨ret_int HR.out.symm, hbel⟩
end Go.Proofs.YtgfoplokplnpgaaDoor
