/- The reference: Same; the law's few.
   The reference's trim.
   The reference's Norm and Of.
   The reference's Of. -/
import Derived.Test.YtccndofafljaaaaDoorInts
import Derived.Laws.AppendOwnNone

set_option linter.unusedVariables false
set_option linter.unusedSimpArgs false

namespace Go.Proofs.YtccndofafljaaaaDoor
open Go Go.RowKit Num

theorem take_eq_step {l1 l2 : List Nat} {k : Nat} (h : l1.take k = l2.take k) (h1 : k < l1.length) (h2 : k < l2.length) : l1.take (k + 1) = l2.take (k + 1) ↔ l1.getD k 0 = l2.getD k 0 := by
  have e1 := List.take_succ_eq_append_getElem h1
  have e2 := List.take_succ_eq_append_getElem h2
  rw [e1, e2, h, List.append_cancel_left_eq]
  simp [List.getD, h1, h2]

set_option maxRecDepth 100000 in
set_option maxHeartbeats 1000000 in
theorem Same_eq (s : Bool) (m1 m2 : Value) (l1 l2 : List Nat) (w : World) (h1 : U32 w m1 l1) (h2 : U32 w m2 l2) (hn1 : l1.length ≤ 1000000) (hn2 : l2.length ≤ 1000000) :
    Calls Tryd.prog 9 #[.agg #[.bool s, m1], .agg #[.bool s, m2]] w fun e w' => e = .returned (.bool (decide (l1 = l2))) ∧ Below w.heap.size w w' := by
  obtain ⟨A1, k1, rfl, -, -, hf1⟩ := id h1.form
  obtain ⟨A2, k2, rfl, -, -, hf2⟩ := id h2.form
  have bA := (Box.new w s (.slice A1 l1.length k1)).alloc (.cells #[.bool s, .slice A2 l2.length k2] 24)
  have bB := Box.new (w.alloc (.cells #[.bool s, .slice A1 l1.length k1] 24)) s (.slice A2 l2.length k2)
  have hb0 : Below w.heap.size w ((w.alloc (.cells #[.bool s, .slice A1 l1.length k1] 24)).alloc (.cells #[.bool s, .slice A2 l2.length k2] 24)) := ((Below.refl w.heap.size w).alloc (Nat.le_refl _) _).alloc (by simp) _
  have hsz : w.heap.size + 1 + 1 = ((w.alloc (.cells #[.bool s, .slice A1 l1.length k1] 24)).alloc (.cells #[.bool s, .slice A2 l2.length k2] 24)).heap.size := by simp
  simp only [World.size_alloc] at bB
  have h1' := h1.below hb0
  have h2' := h2.below hb0
  have hl1 := length_val_le h1.lt
  have hl2 := length_val_le h2.lt
  have cA0 := Box.c0 bA
  have cA1 := Box.c1 bA
  have fA0 := Box.f0 bA
  have fA1 := Box.f1 bA
  have cB0 := Box.c0 bB
  have cB1 := Box.c1 bB
  have fB0 := Box.f0 bB
  have fB1 := Box.f1 bB
  · by_cases hl : l1.length = l2.length
    · have hb2 : ((l1.length : Int) != (l2.length : Int)) = false := by simp [hl]
      have HL := Lib.hid hl
      have hle1 : l1.length ≤ l2.length := by omega
      have hle2 : l2.length ≤ l1.length := by omega
      clear hl
      go_enter Tryd.func9, Tryd.ntmps9
      go_wp2
      generalize (w.alloc (.cells #[.bool s, .slice A1 l1.length k1] 24)).alloc (.cells #[.bool s, .slice A2 l2.length k2] 24) = W0 at *
      go_loopw [5] (fun i wr => ∃ (k n : Nat), k ≤ l1.length ∧ i = .int .i64 k ∧ l1.take k = l2.take k ∧ wr = W0.drewN n) (fun i _ => l1.length - (intOf i).toNat)
      case atStart => exact ⟨0, 0, Nat.zero_le _, rfl, rfl, rfl⟩
      case round =>
        obtain ⟨k, n, hk, rfl, he, rfl⟩ := hrel
        have HE := Lib.hid he
        clear he
        by_cases hk1 : k < l1.length
        · obtain ⟨b1, o1, rfl, hbb1, hc1⟩ := hf1 (by intro h; rw [h] at hk1; simp at hk1)
          obtain ⟨b2, o2, rfl, hbb2, hc2⟩ := hf2 (by intro h; rw [h, List.length_nil] at hle1; omega)
          have x1 := (hb0.cell (p := ⟨b1, o1 + k, none⟩) hbb1).trans (hc1 k hk1)
          have x2 := (hb0.cell (p := ⟨b2, o2 + k, none⟩) hbb2).trans (hc2 k (by omega))
          have HT := Lib.hid (take_eq_step HE.out hk1 (by omega : k < l2.length))
          have hkI : (k : Int) < (l1.length : Int) := by omega
          have hkI2 : (k : Int) < (l2.length : Int) := by omega
          clear hf1 hf2 hc1 hc2
          generalize l1.getD k 0 = x at *
          generalize l2.getD k 0 = y at *
          by_cases hxy : x = y
          · have hb : ((x : Int) != (y : Int)) = false := by simp [hxy]
            have HX := Lib.hid hxy
            clear hxy
            go_wp2
            go_quiet (fail)
            go_wp2
            go_roundw
            case rel => exact ⟨k + 1, _, by omega, by go_num, HT.out.2 HX.out, rfl⟩
            case measure => simp only [intOf]; omega
          · have hb : ((x : Int) != (y : Int)) = true := by rw [bne_iff_ne]; omega
            have HX := Lib.hid hxy
            clear hxy
            have hd : decide (l1 = l2) = false := by
              rw [decide_eq_false_iff_not]
              intro h
              exact HX.out (HT.out.1 (by rw [h]))
            have HD := Lib.hid hd
            have hbd := fun n => bel_drewN hb0 n
            have HB := Lib.hid hbd
            clear hd hbd
            go_wp2
            go_quiet (fail)
            go_wp2
            go_ret
            exact ⟨by first | (rw [HD.out]; done) | (rw [HD.out]; rfl), by first | exact HB.out _ | exact bel_drewN (HB.out _) _⟩
        · obtain rfl : k = l1.length := by omega
          have hd : decide (l1 = l2) = true := by
            rw [decide_eq_true_iff]
            have := HE.out
            rwa [List.take_length, List.take_of_length_le hle2] at this
          have HD := Lib.hid hd
          have hbd := fun n => bel_drewN hb0 n
          have HB := Lib.hid hbd
          clear hd hbd
          go_wp2
          go_ret
          exact ⟨by first | (rw [HD.out]; done) | (rw [HD.out]; rfl), by first | exact HB.out _ | exact bel_drewN (HB.out _) _⟩
    · have hb2 : ((l1.length : Int) != (l2.length : Int)) = true := by rw [bne_iff_ne]; omega
      have hd : decide (l1 = l2) = false := by
        rw [decide_eq_false_iff_not]
        intro h
        exact hl (by rw [h])
      rw [hd]
      clear hl hd
      go_enter Tryd.func9, Tryd.ntmps9
      go_wp2
      go_ret
      exact ⟨rfl, hb0⟩

set_option maxRecDepth 100000 in
set_option maxHeartbeats 1000000 in
theorem Same_ne (s : Bool) (m1 m2 : Value) (l1 l2 : List Nat) (w : World) (h1 : U32 w m1 l1) (h2 : U32 w m2 l2) :
    Calls Tryd.prog 9 #[.agg #[.bool s, m1], .agg #[.bool (!s), m2]] w fun e w' => e = .returned (.bool false) ∧ Below w.heap.size w w' := by
  cases s
  all_goals
    go_enter Tryd.func9, Tryd.ntmps9
    go_wp2
    go_ret
    exact ⟨rfl, ((Below.refl w.heap.size w).alloc (Nat.le_refl _) _).alloc (by simp) _⟩

theorem Same_any (s1 s2 : Bool) (m1 m2 : Value) (l1 l2 : List Nat) (w : World) (h1 : U32 w m1 l1) (h2 : U32 w m2 l2) (hn1 : l1.length ≤ 1000000) (hn2 : l2.length ≤ 1000000) :
    Calls Tryd.prog 9 #[.agg #[.bool s1, m1], .agg #[.bool s2, m2]] w fun e w' => e = .returned (.bool (decide (s1 = s2 ∧ l1 = l2))) ∧ Below w.heap.size w w' := by
  by_cases hs : s1 = s2
  · subst hs
    have e : decide (s1 = s1 ∧ l1 = l2) = decide (l1 = l2) := by simp
    rw [e]
    exact Same_eq s1 m1 m2 l1 l2 w h1 h2 hn1 hn2
  · have e : decide (s1 = s2 ∧ l1 = l2) = false := by
      rw [decide_eq_false_iff_not]
      rintro ⟨h, -⟩
      exact hs h
    rw [e]
    have e2 : s2 = !s1 := by cases s1 <;> cases s2 <;> simp at hs ⊢
    rw [e2]
    exact Same_ne s1 m1 m2 l1 l2 w h1 h2

/-- Canonical Ints are the same words exactly if they have the same value. -/
theorem Same_can (v1 v2 : Value) (z1 z2 : Int) (w : World) (h1 : Can w v1 z1) (h2 : Can w v2 z2) (hn1 : (digs z1.natAbs).length ≤ 1000000) (hn2 : (digs z2.natAbs).length ≤ 1000000) :
    Calls Tryd.prog 9 #[v1, v2] w fun e w' => e = .returned (.bool (decide (z1 = z2))) ∧ Below w.heap.size w w' := by
  obtain ⟨m1, rfl, hu1⟩ := h1
  obtain ⟨m2, rfl, hu2⟩ := h2
  have e : decide (decide (z1 < 0) = decide (z2 < 0) ∧ digs z1.natAbs = digs z2.natAbs) = decide (z1 = z2) := by
    rw [decide_eq_decide]
    constructor
    · rintro ⟨ha, hb⟩
      have := digs_inj hb
      rw [decide_eq_decide] at ha
      omega
    · rintro rfl
      exact ⟨rfl, rfl⟩
  have c := Same_any (decide (z1 < 0)) (decide (z2 < 0)) m1 m2 _ _ w hu1 hu2 hn1 hn2
  rw [e] at c
  exact c

set_option maxHeartbeats 1000000 in
theorem few_any (s : Bool) (A : Option Addr) (n c : Nat) (hn : n ≤ 9223372036854775807) (w : World) :
    Calls Tryd.prog 7 #[.agg #[.bool s, .slice A n c]] w fun e w' => e = .returned (.bool (decide (n ≤ 12))) ∧ Below w.heap.size w w' := by
  by_cases h : n ≤ 12
  · rw [decide_eq_true h]
    go_enter Tryd.func7, Tryd.ntmps7
    go_wp2
    go_ret
    exact ⟨by simp; omega, (Below.refl _ _).alloc (Nat.le_refl _) _⟩
  · rw [decide_eq_false h]
    go_enter Tryd.func7, Tryd.ntmps7
    go_wp2
    go_ret
    exact ⟨by simp; omega, (Below.refl _ _).alloc (Nat.le_refl _) _⟩
end Go.Proofs.YtccndofafljaaaaDoor

namespace Go.Proofs.YtccndofafljaaaaDoor
open Go Go.RowKit Num

theorem cells_of {w : World} {l : List Nat} {b off k : Nat} (hb : b < w.heap.size) (hk : k ≤ l.length) (hc : ∀ i, i < l.length → w.cell? ⟨b, off + i, none⟩ = some (.int .u32 (l.getD i 0 : Nat))) (o : Obj) :
    ∀ j u, (ws (l.take k))[j]? = some u → (w.alloc o).cell? ((⟨b, off, none⟩ : Addr).add j) = some u := by
  intro j u hu
  have hj : j < k := by
    rcases Nat.lt_or_ge j k with h1 | h1
    · exact h1
    · rw [ws_getElem?, List.getElem?_eq_none (by rw [List.length_take]; omega)] at hu; cases hu
  have h2 : (⟨b, off, none⟩ : Addr).add j = ⟨b, off + j, none⟩ := by
    unfold Addr.add
    by_cases h0 : j = 0
    · simp [h0]
    · simp [h0]
  rw [ws_getElem?, List.getElem?_take, if_pos hj] at hu
  rw [h2, World.cell?_alloc_lt w _ ⟨b, off + j, none⟩ hb, hc j (by omega)]
  rw [List.getElem?_eq_getElem (by omega)] at hu
  simp only [Option.map_some] at hu
  rw [← hu]
  simp [List.getD, show j < l.length from by omega]

set_option maxRecDepth 100000 in
set_option maxHeartbeats 1000000 in
theorem rtrim_any (v : Value) (l : List Nat) (w : World) (h : U32 w v l) (hn : l.length ≤ 1000000) :
    Calls Tryd.prog 89 #[v] w fun e w' => ∃ A c, e = .returned (.slice A (digs (val l)).length c) ∧ Mag w' (.slice A (digs (val l)).length c) (val l) ∧ Below w.heap.size w w' := by
  obtain ⟨i0, hi, hz0, hz1, hz2⟩ := info_parts info32
  rcases h.cases with ⟨rfl, A, cap, rfl, hcap⟩ | ⟨hpos, b, off, cap, rfl, hlc, hcap, hb, hc⟩
  · rw [val, digs_zero]
    rcases A with _ | a
    · go_enter Tryd.func89, Tryd.ntmps89
      go_wp2
      go_loop [0] (fun m => m = .slice none 0 cap) (fun _ => 0)
      case atStart => rfl
      case round =>
        subst hrel
        go_wp2
        go_ret
        exact ⟨_, _, rfl, by unfold Mag; rw [digs_zero]; exact U32.nil _ (Nat.zero_le _), (Below.refl _ _).alloc (Nat.le_refl _) _⟩
    · go_enter Tryd.func89, Tryd.ntmps89
      go_wp2
      go_loop [0] (fun m => m = .slice (some a) 0 cap) (fun _ => 0)
      case atStart => rfl
      case round =>
        subst hrel
        go_wp2
        go_ret
        exact ⟨_, _, rfl, by unfold Mag; rw [digs_zero]; exact U32.nil _ (Nat.zero_le _), (Below.refl _ _).alloc (Nat.le_refl _) _⟩
  · have hlt := h.lt
    have hcap' := hcap
    unfold maxLen at hcap
    go_enter Tryd.func89, Tryd.ntmps89
    go_wp2
    go_loop [0] (fun m => ∃ k : Nat, k ≤ l.length ∧ m = .slice (some ⟨b, off, none⟩) k cap ∧ val (l.take k) = val l) (fun m => match m with | .slice _ k _ => k | _ => 0)
    case atStart => exact ⟨l.length, Nat.le_refl _, rfl, by rw [List.take_length]⟩
    case round =>
      obtain ⟨k, hk, rfl, hv⟩ := hrel
      have HV := Lib.hid hv
      clear hv
      rcases k with _ | k
      · have hv0 : val l = 0 := by have := HV.out; rw [List.take_zero] at this; exact this.symm
        have HZ := Lib.hid hv0
        clear hv0
        go_wp2
        go_ret
        exact ⟨some ⟨w.heap.size, 0, none⟩, 0, by rw [HZ.out, digs_zero]; rfl, by rw [HZ.out, digs_zero]; unfold Mag; rw [digs_zero]; exact U32.nil _ (Nat.zero_le _), (Below.refl _ _).alloc (Nat.le_refl _) _⟩
      · have hck := hc k (by omega)
        have HCE := Lib.hid (cells_of hb hk hc (.cells #[] 35))
        have hlen : (ws (l.take (k + 1))).length = k + 1 := by rw [ws_length, List.length_take]; omega
        have HLEN := Lib.hid hlen
        have HONE := Lib.hid (ws_oneCell (l.take (k + 1)))
        have hHC := Lib.hid hc
        clear hc hlen
        go_wp2_with ((at_builtin; refine wpList_append_own _ rfl _ _ 22 rfl w.heap.size 35 i0 (.int .u32 0) 1 4 Tryd.underlying22 hi hz0 hz1 hz2 rfl (by decide) (.slice (some ⟨w.heap.size, 0, none⟩) 0 0) 0 [] rfl (World.ownsRow_lit w #[] 0 (Nat.le_refl _) (Nat.zero_le _) rfl) ⟨b, off, none⟩ (k + 1) cap (ws (l.take (k + 1))) rfl (by rw [HLEN.out, Nat.mul_one]) HCE.out HONE.out (by simp only [maxLen]; omega) (by omega) (by simp) ?_; intro v1 w1 hown1 hgrow1 hnil1))
        · have h0 : ((l[k]?.getD 0 : Nat) : Int) = 0 := beq_iff_eq.1 (by assumption)
          go_round
          case rel => exact ⟨k, by omega, rfl, (val_take_zero (by omega) (by simp only [List.getD_eq_getElem?_getD]; omega)).trans HV.out⟩
          case measure => simp
        · have h0 : ((l[k]?.getD 0 : Nat) : Int) ≠ 0 := beq_eq_false_iff_ne.1 (by assumption)
          have hq : ∀ j, k + 1 = j + 1 → l.getD j 0 ≠ 0 := fun j hj => by
            obtain rfl : j = k := by omega
            simp only [List.getD_eq_getElem?_getD]; omega
          have hfin := mag_take h hpos hk HV.out hq
          have hd : digs (val l) = l.take (k + 1) := by
            rw [digs_front hlt, ← hfin.length]
          rw [Nat.zero_add, List.nil_append] at hown1
          have hlen2 : (l.take (k + 1)).length = k + 1 := by rw [List.length_take]; omega
          have hown2 : w1.ownsRow w.heap.size 35 1 v1 (l.take (k + 1)).length (ws (l.take (k + 1))) := by rw [hlen2]; exact hown1
          have hm : U32 w1 v1 (l.take (k + 1)) := U32.of_own (fun x hx => hlt x (List.mem_of_mem_take hx)) hown2
          have hb1 : Below w.heap.size w w1 := ((Below.refl _ _).alloc (Nat.le_refl _) _).grown hgrow1 (by simp) (fun j hj => by simp [Value.ownBlock] at hj; omega)
          rw [← hd] at hm
          obtain ⟨A', c', rfl, -⟩ := id hm.form
          clear hown1 hown2 hnil1 hgrow1 hfin
          go_ret
          exact ⟨A', c', rfl, hm, hb1⟩
end Go.Proofs.YtccndofafljaaaaDoor

namespace Go.Proofs.YtccndofafljaaaaDoor
open Go Go.RowKit Num

theorem can_mk {w : World} {m : Value} {n : Nat} {z : Int} {s : Bool} (h : Mag w m n) (hz : z.natAbs = n) (hs : s = decide (z < 0)) : Can w (.agg #[.bool s, m]) z := by
  refine ⟨m, by rw [hs], ?_⟩
  rw [hz]; exact h

set_option maxRecDepth 100000 in
set_option maxHeartbeats 1000000 in
theorem RNorm_any (s : Bool) (m : Value) (l : List Nat) (w : World) (h : U32 w m l) (hn : l.length ≤ 1000000) :
    Calls Tryd.prog 69 #[.agg #[.bool s, m]] w fun e w' => ∃ v, e = .returned v ∧ Can w' v (ival s l) ∧ Below w.heap.size w w' := by
  obtain ⟨Am, km, rfl, -⟩ := id h.form
  have bR := (Box.new (w.alloc (.cells #[.bool s, .slice Am l.length km] 24)) false (.slice none 0 0))
  have bA := (Box.new w s (.slice Am l.length km)).alloc (.cells #[.bool false, .slice none 0 0] 24)
  rw [World.size_alloc] at bR
  have hb0 : Below w.heap.size w ((w.alloc (.cells #[.bool s, .slice Am l.length km] 24)).alloc (.cells #[.bool false, .slice none 0 0] 24)) := ((Below.refl w.heap.size w).alloc (Nat.le_refl _) _).alloc (by simp) _
  have h' := h.below hb0
  have hsz : w.heap.size + 2 = ((w.alloc (.cells #[.bool s, .slice Am l.length km] 24)).alloc (.cells #[.bool false, .slice none 0 0] 24)).heap.size := by simp
  have hl := length_val_le h.lt
  have c0 := rtrim_any (.slice Am l.length km) l _ h' hn
  have HC0 := Lib.hid c0
  clear c0
  rcases Nat.eq_zero_or_pos (val l) with hv | hv
  · have hz : ival s l = 0 := by unfold ival; rw [hv]; cases s <;> rfl
    rw [hz]
    rw [hv, digs_zero] at HC0
    clear hv hz
    cases s
    all_goals
      go_enter Tryd.func69, Tryd.ntmps69
      go_wp2_with fail
      refine HC0.out.mono ?_
      rintro e w1 ⟨A1, c1, rfl, hm1, hb1⟩
      have hge : w.heap.size + 2 ≤ w1.heap.size := by have := hb1.size; omega
      have bAw1 := Box.below bA hb1 (by first | omega | (simp; done) | exact Nat.lt_of_lt_of_le (by omega) hge | (simp <;> omega))
      have cA0w1 := Box.c0 bAw1
      have cA1w1 := Box.c1 bAw1
      have bRw1 := Box.below bR hb1 (by first | omega | (simp; done) | exact Nat.lt_of_lt_of_le (by omega) hge | (simp <;> omega))
      have cR0w1 := Box.c0 bRw1
      have cR1w1 := Box.c1 bRw1
      have fR0w1 := Box.f0 bRw1
      have fR1w1 := Box.f1 bRw1
      have hzw1 : w.heap.size + 2 ≤ w1.heap.size := (by have hq := hb1.size; first | omega | exact Nat.le_trans hge hq | (simp at hq; omega))
      have hbel := hb0.trans (hb1.mono (by omega))
      have hm2 := bRw1.keeps hm1 false (.slice A1 0 c1)
      have bS := bRw1.store false (.slice A1 0 c1)
      have s0 := bS.c0
      have s1 := bS.c1
      have hbel2 := Below.store hbel (x := w.heap.size + 1) (by omega) (.bool false) (.slice A1 0 c1)
      simp only [List.length_nil]
      clear hm1 hb1 bS hbel
      go_wp2_with fail
      generalize (w1.setCell ⟨w.heap.size + 1, 0, none⟩ (.bool false)).setCell ⟨w.heap.size + 1, 1, none⟩ (.slice A1 0 c1) = W at *
      exact bodyPost_ret (v := .agg #[.bool false, .slice A1 0 c1]) (by simp [results, Tryd.results69, go_sem, s0, s1]) rfl ⟨_, rfl, can_mk (n := 0) hm2 rfl rfl, hbel2⟩
  · have hz : (ival s l).natAbs = val l := by unfold ival; cases s <;> simp
    have hzs : s = decide (ival s l < 0) := by unfold ival; cases s <;> simp <;> omega
    have HZ := Lib.hid hz
    have HS := Lib.hid hzs
    have hk : 0 < (digs (val l)).length := by
      rcases Nat.eq_zero_or_pos (digs (val l)).length with h0 | h0
      · have := nat_len_zero.1 h0; omega
      · exact h0
    clear hzs hz hv
    generalize hlen : (digs (val l)).length = kk at *
    have HL := Lib.hid hlen
    clear hlen
    cases s
    all_goals
      go_enter Tryd.func69, Tryd.ntmps69
      go_wp2_with fail
      refine HC0.out.mono ?_
      rintro e w1 ⟨A1, c1, rfl, hm1, hb1⟩
      have hge : w.heap.size + 2 ≤ w1.heap.size := by have := hb1.size; omega
      have bAw1 := Box.below bA hb1 (by first | omega | (simp; done) | exact Nat.lt_of_lt_of_le (by omega) hge | (simp <;> omega))
      have cA0w1 := Box.c0 bAw1
      have cA1w1 := Box.c1 bAw1
      have bRw1 := Box.below bR hb1 (by first | omega | (simp; done) | exact Nat.lt_of_lt_of_le (by omega) hge | (simp <;> omega))
      have cR0w1 := Box.c0 bRw1
      have cR1w1 := Box.c1 bRw1
      have fR0w1 := Box.f0 bRw1
      have fR1w1 := Box.f1 bRw1
      have hzw1 : w.heap.size + 2 ≤ w1.heap.size := (by have hq := hb1.size; first | omega | exact Nat.le_trans hge hq | (simp at hq; omega))
      have hbel := hb0.trans (hb1.mono (by omega))
      have hm2 := fun sg => bRw1.keeps hm1 sg (.slice A1 kk c1)
      have bS := fun sg => bRw1.store sg (.slice A1 kk c1)
      have hbel2 := fun sg => Below.store hbel (x := w.heap.size + 1) (by omega) (.bool sg) (.slice A1 kk c1)
      have HM2 := Lib.hid hm2
      have HBS := Lib.hid bS
      have HB2 := Lib.hid hbel2
      clear hm1 hb1 bS hbel hm2 hbel2
      go_wp2_with fail
      first
        | (have s0 := (HBS.out true).c0
           have s1 := (HBS.out true).c1
           have hmm := HM2.out true
           have hbb := HB2.out true
           generalize (w1.setCell ⟨w.heap.size + 1, 0, none⟩ (.bool true)).setCell ⟨w.heap.size + 1, 1, none⟩ (.slice A1 kk c1) = W at *
           exact bodyPost_ret (v := .agg #[.bool true, .slice A1 kk c1]) (by simp [results, Tryd.results69, go_sem, s0, s1]) rfl ⟨_, rfl, can_mk hmm HZ.out HS.out, hbb⟩)
        | (have s0 := (HBS.out false).c0
           have s1 := (HBS.out false).c1
           have hmm := HM2.out false
           have hbb := HB2.out false
           generalize (w1.setCell ⟨w.heap.size + 1, 0, none⟩ (.bool false)).setCell ⟨w.heap.size + 1, 1, none⟩ (.slice A1 kk c1) = W at *
           exact bodyPost_ret (v := .agg #[.bool false, .slice A1 kk c1]) (by simp [results, Tryd.results69, go_sem, s0, s1]) rfl ⟨_, rfl, can_mk hmm HZ.out HS.out, hbb⟩)
end Go.Proofs.YtccndofafljaaaaDoor

namespace Go.Proofs.YtccndofafljaaaaDoor
open Go Go.RowKit Num

set_option maxRecDepth 100000 in
set_option maxHeartbeats 1000000 in
theorem ROf_any (n : Int) (w : World) (h1 : -9223372036854775808 ≤ n) (h2 : n ≤ 9223372036854775807) :
    Calls Tryd.prog 33 #[.int .i64 n] w fun e w' => ∃ v, e = .returned v ∧ Can w' v n ∧ Below w.heap.size w w' := by
  obtain ⟨k, hk⟩ : ∃ k : Nat, k = n.natAbs := ⟨_, rfl⟩
  have hk64 : k < 18446744073709551616 := by omega
  have bR := (Box.new w false (.slice none 0 0)).alloc (.cells #[.int .u32 (k % 4294967296 : Nat), .int .u32 (k / 4294967296 : Nat)] 35)
  have hU : U32 ((w.alloc (.cells #[.bool false, .slice none 0 0] 24)).alloc (.cells #[.int .u32 (k % 4294967296 : Nat), .int .u32 (k / 4294967296 : Nat)] 35)) (.slice (some ⟨w.heap.size + 1, 0, none⟩) 2 2) [k % 4294967296, k / 4294967296] := by
    have := U32.lit (w.alloc (.cells #[.bool false, .slice none 0 0] 24)) [k % 4294967296, k / 4294967296] #[.int .u32 (k % 4294967296 : Nat), .int .u32 (k / 4294967296 : Nat)] 35 (by intro x hx; simp at hx; omega) (by simp [maxLen]) (by simp [ws])
    rw [World.size_alloc] at this
    exact this
  have hb0 : Below w.heap.size w ((w.alloc (.cells #[.bool false, .slice none 0 0] 24)).alloc (.cells #[.int .u32 (k % 4294967296 : Nat), .int .u32 (k / 4294967296 : Nat)] 35)) := ((Below.refl w.heap.size w).alloc (Nat.le_refl _) _).alloc (by simp) _
  have hsz : w.heap.size + 2 = ((w.alloc (.cells #[.bool false, .slice none 0 0] 24)).alloc (.cells #[.int .u32 (k % 4294967296 : Nat), .int .u32 (k / 4294967296 : Nat)] 35)).heap.size := by simp
  have hv : ∀ s, ival s [k % 4294967296, k / 4294967296] = if s then -(k : Int) else k := by
    intro s
    have : val [k % 4294967296, k / 4294967296] = k := by simp only [val]; omega
    unfold ival; rw [this]
  have hw : n < 0 → IntKind.u64.wrap (-(IntKind.u64.wrap n)) = (k : Int) := by
    intro h
    simp only [IntKind.wrap, IntKind.bits, IntKind.signed]
    simp
    omega
  have c0 := fun s => RNorm_any s _ _ _ hU (by simp)
  have HC0 := Lib.hid c0
  have HV := Lib.hid hv
  have HK := Lib.hid hk
  clear c0 hv hk hU
  by_cases hneg : n < 0
  · have hw' := hw hneg
    have HZ : Hid (-(k : Int) = n) := by have := HK.out; unfold Hid; omega
    clear hw
    go_enter Tryd.func33, Tryd.ntmps33
    go_wp2_with fail
    refine (HC0.out true).mono ?_
    rintro e w2 ⟨v2, rfl, hm2, hb2⟩
    rw [HV.out, if_pos rfl, HZ.out] at hm2
    have bR2 := Box.below bR hb2 (by omega)
    have cR0 := Box.c0 bR2
    have cR1 := Box.c1 bR2
    have fR0 := Box.f0 bR2
    have fR1 := Box.f1 bR2
    have hbel := hb0.trans (hb2.mono (by omega))
    have hm3 := hm2
    obtain ⟨m, rfl, hu⟩ := hm2
    obtain ⟨A, c, rfl, -⟩ := id hu.form
    generalize decide (n < 0) = sg at *
    generalize (digs n.natAbs).length = kk at *
    have hfin := bR2.can hm3 sg (.slice A kk c)
    have bS := bR2.store sg (.slice A kk c)
    have s0 := bS.c0
    have s1 := bS.c1
    have hbel2 := Below.store hbel (x := w.heap.size) (by omega) (.bool sg) (.slice A kk c)
    clear hm3 hu hb2 bS hbel HC0
    go_wp2_with fail
    generalize (w2.setCell ⟨w.heap.size, 0, none⟩ (.bool sg)).setCell ⟨w.heap.size, 1, none⟩ (.slice A kk c) = W at *
    exact bodyPost_ret (v := .agg #[.bool sg, .slice A kk c]) (by simp [results, Tryd.results33, go_sem, s0, s1]) rfl ⟨_, rfl, hfin, hbel2⟩
  · have hn0 : 0 ≤ n := by omega
    have hnk : n = (k : Int) := by have := HK.out; omega
    subst hnk
    clear hw HK
    go_enter Tryd.func33, Tryd.ntmps33
    go_wp2_with fail
    refine (HC0.out false).mono ?_
    rintro e w2 ⟨v2, rfl, hm2, hb2⟩
    rw [HV.out] at hm2
    simp only [Bool.false_eq_true, if_false] at hm2
    have bR2 := Box.below bR hb2 (by omega)
    have cR0 := Box.c0 bR2
    have cR1 := Box.c1 bR2
    have fR0 := Box.f0 bR2
    have fR1 := Box.f1 bR2
    have hbel := hb0.trans (hb2.mono (by omega))
    have hm3 := hm2
    obtain ⟨m, rfl, hu⟩ := hm2
    obtain ⟨A, c, rfl, -⟩ := id hu.form
    generalize decide ((k : Int) < 0) = sg at *
    generalize (digs (k : Int).natAbs).length = kk at *
    have hfin := bR2.can hm3 sg (.slice A kk c)
    have bS := bR2.store sg (.slice A kk c)
    have s0 := bS.c0
    have s1 := bS.c1
    have hbel2 := Below.store hbel (x := w.heap.size) (by omega) (.bool sg) (.slice A kk c)
    clear hm3 hu hb2 bS hbel HC0
    go_wp2_with fail
    generalize (w2.setCell ⟨w.heap.size, 0, none⟩ (.bool sg)).setCell ⟨w.heap.size, 1, none⟩ (.slice A kk c) = W at *
    exact bodyPost_ret (v := .agg #[.bool sg, .slice A kk c]) (by simp [results, Tryd.results33, go_sem, s0, s1]) rfl ⟨_, rfl, hfin, hbel2⟩
end Go.Proofs.YtccndofafljaaaaDoor
