/- The comparison of package wayfinderbase: Int. -/
import Derived.Test.YtccndofafljaaaaGreatDoorRefB

set_option linter.unusedVariables false
set_option linter.unusedSimpArgs false

namespace Go.Proofs.YtccndofafljaaaaGreatDoor
open Go Go.RowKit Num

theorem take_eq_step' {l1 l2 : List Nat} {k : Nat} (h : l1.take k = l2.take k) (h1 : k < l1.length) (h2 : k < l2.length) : l1.take (k + 1) = l2.take (k + 1) ↔ l1.getD k 0 = l2.getD k 0 := by
  have e1 := List.take_succ_eq_append_getElem h1
  have e2 := List.take_succ_eq_append_getElem h2
  rw [e1, e2, h, List.append_cancel_left_eq]
  simp [List.getD, h1, h2]

set_option maxRecDepth 100000 in
set_option maxHeartbeats 1000000 in
theorem BInt_eq (s : Bool) (m1 m2 : Value) (l1 l2 : List Nat) (w : World) (h1 : U32 w m1 l1) (h2 : U32 w m2 l2) (hn1 : l1.length ≤ 1000000) (hn2 : l2.length ≤ 1000000) :
    Calls Tryz.prog 43 #[.agg #[.bool s, m1], .agg #[.bool s, m2]] w fun e w' => e = .returned (.bool (decide (l1 = l2))) ∧ Below w.heap.size w w' := by
  obtain ⟨A1, k1, rfl, -, -, hf1⟩ := id h1.form
  obtain ⟨A2, k2, rfl, -, -, hf2⟩ := id h2.form
  have bA := (Box.new w s (.slice A1 l1.length k1)).alloc (.cells #[.bool s, .slice A2 l2.length k2] 24)
  have bB := Box.new (w.alloc (.cells #[.bool s, .slice A1 l1.length k1] 24)) s (.slice A2 l2.length k2)
  have hb0 : Below w.heap.size w ((w.alloc (.cells #[.bool s, .slice A1 l1.length k1] 24)).alloc (.cells #[.bool s, .slice A2 l2.length k2] 24)) := ((Below.refl w.heap.size w).alloc (Nat.le_refl _) _).alloc (by simp) _
  have hsz : w.heap.size + 1 + 1 = ((w.alloc (.cells #[.bool s, .slice A1 l1.length k1] 24)).alloc (.cells #[.bool s, .slice A2 l2.length k2] 24)).heap.size := by simp
  simp only [World.size_alloc] at bB
  have h1' := h1.below hb0
  have h2' := h2.below hb0
  have hl1 := length_val_le h1.lt
  have hl2 := length_val_le h2.lt
  have cA0 := Box.c0 bA
  have cA1 := Box.c1 bA
  have fA0 := Box.f0 bA
  have fA1 := Box.f1 bA
  have cB0 := Box.c0 bB
  have cB1 := Box.c1 bB
  have fB0 := Box.f0 bB
  have fB1 := Box.f1 bB
  · by_cases hl : l1.length = l2.length
    · have hb2 : ((l1.length : Int) != (l2.length : Int)) = false := by simp [hl]
      have HL := Lib.hid hl
      have hle1 : l1.length ≤ l2.length := by omega
      have hle2 : l2.length ≤ l1.length := by omega
      clear hl
      go_enter Tryz.func43, Tryz.ntmps43
      go_wp2
      generalize (w.alloc (.cells #[.bool s, .slice A1 l1.length k1] 24)).alloc (.cells #[.bool s, .slice A2 l2.length k2] 24) = W0 at *
      go_loopw [5] (fun i wr => ∃ (k n : Nat), k ≤ l1.length ∧ i = .int .i64 k ∧ l1.take k = l2.take k ∧ wr = W0.drewN n) (fun i _ => l1.length - (intOf i).toNat)
      case atStart => exact ⟨0, 0, Nat.zero_le _, rfl, rfl, rfl⟩
      case round =>
        obtain ⟨k, n, hk, rfl, he, rfl⟩ := hrel
        have HE := Lib.hid he
        clear he
        by_cases hk1 : k < l1.length
        · obtain ⟨b1, o1, rfl, hbb1, hc1⟩ := hf1 (by intro h; rw [h] at hk1; simp at hk1)
          obtain ⟨b2, o2, rfl, hbb2, hc2⟩ := hf2 (by intro h; rw [h, List.length_nil] at hle1; omega)
          have x1 := (hb0.cell (p := ⟨b1, o1 + k, none⟩) hbb1).trans (hc1 k hk1)
          have x2 := (hb0.cell (p := ⟨b2, o2 + k, none⟩) hbb2).trans (hc2 k (by omega))
          have HT := Lib.hid (take_eq_step' HE.out hk1 (by omega : k < l2.length))
          have hkI : (k : Int) < (l1.length : Int) := by omega
          have hkI2 : (k : Int) < (l2.length : Int) := by omega
          clear hf1 hf2 hc1 hc2
          generalize l1.getD k 0 = x at *
          generalize l2.getD k 0 = y at *
          by_cases hxy : x = y
          · have hb : ((x : Int) != (y : Int)) = false := by simp [hxy]
            have HX := Lib.hid hxy
            clear hxy
            go_wp2
            go_quiet (fail)
            go_wp2
            go_roundw
            case rel => exact ⟨k + 1, _, by omega, by go_num, HT.out.2 HX.out, rfl⟩
            case measure => simp only [intOf]; omega
          · have hb : ((x : Int) != (y : Int)) = true := by rw [bne_iff_ne]; omega
            have HX := Lib.hid hxy
            clear hxy
            have hd : decide (l1 = l2) = false := by
              rw [decide_eq_false_iff_not]
              intro h
              exact HX.out (HT.out.1 (by rw [h]))
            have HD := Lib.hid hd
            have hbd := fun n => bel_drewN hb0 n
            have HB := Lib.hid hbd
            clear hd hbd
            go_wp2
            go_quiet (fail)
            go_wp2
            go_ret
            exact ⟨by first | (rw [HD.out]; done) | (rw [HD.out]; rfl), by first | exact HB.out _ | exact bel_drewN (HB.out _) _⟩
        · obtain rfl : k = l1.length := by omega
          have hd : decide (l1 = l2) = true := by
            rw [decide_eq_true_iff]
            have := HE.out
            rwa [List.take_length, List.take_of_length_le hle2] at this
          have HD := Lib.hid hd
          have hbd := fun n => bel_drewN hb0 n
          have HB := Lib.hid hbd
          clear hd hbd
          go_wp2
          go_ret
          exact ⟨by first | (rw [HD.out]; done) | (rw [HD.out]; rfl), by first | exact HB.out _ | exact bel_drewN (HB.out _) _⟩
    · have hb2 : ((l1.length : Int) != (l2.length : Int)) = true := by rw [bne_iff_ne]; omega
      have hd : decide (l1 = l2) = false := by
        rw [decide_eq_false_iff_not]
        intro h
        exact hl (by rw [h])
      rw [hd]
      clear hl hd
      go_enter Tryz.func43, Tryz.ntmps43
      go_wp2
      go_ret
      exact ⟨rfl, hb0⟩

set_option maxRecDepth 100000 in
set_option maxHeartbeats 1000000 in
theorem BInt_ne (s : Bool) (m1 m2 : Value) (l1 l2 : List Nat) (w : World) (h1 : U32 w m1 l1) (h2 : U32 w m2 l2) :
    Calls Tryz.prog 43 #[.agg #[.bool s, m1], .agg #[.bool (!s), m2]] w fun e w' => e = .returned (.bool false) ∧ Below w.heap.size w w' := by
  cases s
  all_goals
    go_enter Tryz.func43, Tryz.ntmps43
    go_wp2
    go_ret
    exact ⟨rfl, ((Below.refl w.heap.size w).alloc (Nat.le_refl _) _).alloc (by simp) _⟩

theorem BInt_any (s1 s2 : Bool) (m1 m2 : Value) (l1 l2 : List Nat) (w : World) (h1 : U32 w m1 l1) (h2 : U32 w m2 l2) (hn1 : l1.length ≤ 1000000) (hn2 : l2.length ≤ 1000000) :
    Calls Tryz.prog 43 #[.agg #[.bool s1, m1], .agg #[.bool s2, m2]] w fun e w' => e = .returned (.bool (decide (s1 = s2 ∧ l1 = l2))) ∧ Below w.heap.size w w' := by
  by_cases hs : s1 = s2
  · subst hs
    have e : decide (s1 = s1 ∧ l1 = l2) = decide (l1 = l2) := by simp
    rw [e]
    exact BInt_eq s1 m1 m2 l1 l2 w h1 h2 hn1 hn2
  · have e : decide (s1 = s2 ∧ l1 = l2) = false := by
      rw [decide_eq_false_iff_not]
      rintro ⟨h, -⟩
      exact hs h
    rw [e]
    have e2 : s2 = !s1 := by cases s1 <;> cases s2 <;> simp at hs ⊢
    rw [e2]
    exact BInt_ne s1 m1 m2 l1 l2 w h1 h2

/-- Canonical Ints are the same words exactly if they have the same value. -/
theorem BInt_can (v1 v2 : Value) (z1 z2 : Int) (w : World) (h1 : Can w v1 z1) (h2 : Can w v2 z2) (hn1 : (digs z1.natAbs).length ≤ 1000000) (hn2 : (digs z2.natAbs).length ≤ 1000000) :
    Calls Tryz.prog 43 #[v1, v2] w fun e w' => e = .returned (.bool (decide (z1 = z2))) ∧ Below w.heap.size w w' := by
  obtain ⟨m1, rfl, hu1⟩ := h1
  obtain ⟨m2, rfl, hu2⟩ := h2
  have e : decide (decide (z1 < 0) = decide (z2 < 0) ∧ digs z1.natAbs = digs z2.natAbs) = decide (z1 = z2) := by
    rw [decide_eq_decide]
    constructor
    · rintro ⟨ha, hb⟩
      have := digs_inj hb
      rw [decide_eq_decide] at ha
      omega
    · rintro rfl
      exact ⟨rfl, rfl⟩
  have c := BInt_any (decide (z1 < 0)) (decide (z2 < 0)) m1 m2 _ _ w hu1 hu2 hn1 hn2
  rw [e] at c
  exact c

theorem BInt_rc {v1 v2 : Value} {z1 z2 : Int} {n1 n2 : Nat} {w : World} (h1 : Rc w v1 z1 n1) (h2 : Rc w v2 z2 n2) (f1 : n1 ≤ 50000) (f2 : n2 ≤ 50000) (h : z1 = z2) :
    Calls Tryz.prog 43 #[v1, v2] w fun e w' => e = .returned (.bool true) ∧ Below w.heap.size w w' := by
  subst h
  have c := BInt_can v1 v2 z1 z1 w h1.1 h2.1 (Nat.le_trans (digs_length_le h1.2) (by omega)) (Nat.le_trans (digs_length_le h1.2) (by omega))
  rw [decide_eq_true rfl] at c
  exact c
end Go.Proofs.YtccndofafljaaaaGreatDoor
