/- The reference's Meet: its list lies in memory of its own. -/
import Derived.Test.YtjpdahalplkfbaaHRMeet
set_option linter.unusedSimpArgs false
set_option linter.unusedVariables false
namespace Go.Proofs.Ytjpdahalplkfbaa
open Go Go.RowKit Hd

def ListedF (l : List (Int × Int)) (w : World) (e : Ending) (w' : World) : Prop := ∃ v, e = .returned v ∧ AR w' v l ∧ (∀ g, v.ownBlock = some g → w.heap.size ≤ g) ∧ Below w.heap.size w w'
set_option maxRecDepth 100000 in
set_option maxHeartbeats 8000000 in
theorem RMeet_fresh (f c g d : Int) (ha : OkA f c) (hb : OkA g d) (w : World) :
    Calls Try.prog 51 #[av f c, av g d] w fun e w' => ListedF (refAll f c g d) w e w' := by
  have HV := Lib.hid (fun w => RVA_yes ha w)
  have HW := Lib.hid (fun w => RVA_yes hb w)
  have HX := Lib.hid (fun w => RSet_ok f c ha w)
  have HY := Lib.hid (fun w => RSet_ok g d hb w)
  have HCB := Lib.hid (fun m n => cnt_both (m := m) (n := n) ha hb)
  have HCP := Lib.hid (fun m => cnt_pos (m := m) ha hb)
  clear ha hb
  obtain ⟨i0, hi, hz0, hz1, hz2⟩ := info_parts infoA
  have HI := Lib.hid hi
  clear hi
  have HB := Lib.hid (show Below w.heap.size w ((w.alloc (.cells #[.int .i64 f, .int .i64 c] 59)).alloc (.cells #[.int .i64 g, .int .i64 d] 59)) from (((Below.refl _ _).alloc (by simp <;> omega) _).alloc (by simp <;> omega) _))
  have B_a : Box2 ((w.alloc (.cells #[.int .i64 f, .int .i64 c] 59)).alloc (.cells #[.int .i64 g, .int .i64 d] 59)) (w.heap.size) f c := by have h := (Box2.alloc (Box2.new w f c) (.cells #[.int .i64 g, .int .i64 d] 59)); simpa using h
  replace B_a := Lib.hid B_a
  have B_b : Box2 ((w.alloc (.cells #[.int .i64 f, .int .i64 c] 59)).alloc (.cells #[.int .i64 g, .int .i64 d] 59)) (w.heap.size + 1) g d := by have h := (Box2.new (w.alloc (.cells #[.int .i64 f, .int .i64 c] 59)) g d); simpa using h
  replace B_b := Lib.hid B_b
  go_enter Try.func51, Try.ntmps51
  go_wp2_with fail
  generalize (w.alloc (.cells #[.int .i64 f, .int .i64 c] 59)).alloc (.cells #[.int .i64 g, .int .i64 d] 59) = W0 at *
  have c0a := B_a.out.c0
  have c1a := B_a.out.c1
  have c0b := B_b.out.c0
  have c1b := B_b.out.c1
  refine (HV.out _).mono ?_
  clear c0a c1a c0b c1b
  rintro e w1 ⟨rfl, bb⟩
  replace bb := nextw (w0 := W0) (by exact ⟨rfl, rfl, rfl, Nat.le_refl _, fun _ _ => rfl⟩) bb
  replace B_a := Lib.hid (Box2.below B_a.out bb B_a.out.lt)
  replace B_b := Lib.hid (Box2.below B_b.out bb B_b.out.lt)
  replace HB := Lib.hid (nextw HB.out bb)
  clear bb
  have c0a := B_a.out.c0
  have c1a := B_a.out.c1
  have c0b := B_b.out.c0
  have c1b := B_b.out.c1
  go_wp2_with fail
  refine (HW.out _).mono ?_
  clear c0a c1a c0b c1b
  rintro e w2 ⟨rfl, bb⟩
  replace bb := nextw (w0 := w1) (by exact ⟨rfl, rfl, rfl, Nat.le_refl _, fun _ _ => rfl⟩) bb
  replace B_a := Lib.hid (Box2.below B_a.out bb B_a.out.lt)
  replace B_b := Lib.hid (Box2.below B_b.out bb B_b.out.lt)
  replace HB := Lib.hid (nextw HB.out bb)
  clear bb
  have c0a := B_a.out.c0
  have c1a := B_a.out.c1
  have c0b := B_b.out.c0
  have c1b := B_b.out.c1
  go_wp2_with fail
  refine (HX.out _).mono ?_
  clear c0a c1a c0b c1b
  rintro e w3 ⟨gx, rfl, -, hx, bb⟩
  replace bb := nextw (w0 := w2) (by exact ⟨rfl, rfl, rfl, Nat.le_refl _, fun _ _ => rfl⟩) bb
  replace B_a := Lib.hid (Box2.below B_a.out bb B_a.out.lt)
  replace B_b := Lib.hid (Box2.below B_b.out bb B_b.out.lt)
  replace HB := Lib.hid (nextw HB.out bb)
  clear bb
  have VX := Lib.hid hx
  clear hx
  have c0a := B_a.out.c0
  have c1a := B_a.out.c1
  have c0b := B_b.out.c0
  have c1b := B_b.out.c1
  go_wp2_with fail
  refine (HY.out _).mono ?_
  clear c0a c1a c0b c1b
  rintro e w4 ⟨gy, rfl, -, hy, bb⟩
  replace bb := nextw (w0 := w3) (by exact ⟨rfl, rfl, rfl, Nat.le_refl _, fun _ _ => rfl⟩) bb
  replace B_a := Lib.hid (Box2.below B_a.out bb B_a.out.lt)
  replace B_b := Lib.hid (Box2.below B_b.out bb B_b.out.lt)
  replace VX := Lib.hid (OwnB.keep VX.out bb)
  replace HB := Lib.hid (nextw HB.out bb)
  clear bb
  have VY := Lib.hid hy
  clear hy HV HW HX HY B_a B_b
  obtain ⟨base, hbase⟩ : ∃ base, w4.heap.size = base := ⟨_, rfl⟩
  have HBS : Hid (base ≤ w4.heap.size) := by unfold Hid; omega
  have LX : Hid (gx < base) := by have := VX.out.lt; unfold Hid; omega
  have LY : Hid (gy < base) := by have := VY.out.lt; unfold Hid; omega
  have LW : Hid (w.heap.size ≤ base) := by have := HB.out.size; unfold Hid; omega
  clear hbase
  go_wp2_with fail
  go_loopw [7, 8] (fun v fr wr => ∃ k : Nat, k ≤ 256 ∧ fr = .int .i64 k ∧ Hid (wr.ownsRow base 59 2 v (refL f c g d k).length (arcs (refL f c g d k))) ∧ Hid (base ≤ wr.heap.size) ∧ Hid (OwnB wr gx (bset f c)) ∧ Hid (OwnB wr gy (bset g d)) ∧ Hid (Below w.heap.size w wr)) (fun _ fr _ => 256 - (intOf fr).toNat)
  case atStart => exact ⟨0, by omega, rfl, nil_rowA _ _, HBS, VX, VY, HB⟩
  case round =>
    clear HBS VX VY HB
    obtain ⟨k, hk, rfl, VR, HBS, VX, VY, HB⟩ := hrel
    by_cases hlt : k < 256
    · obtain ⟨q, hq⟩ : ∃ q : Nat, ((k : Int) + 255) % 256 = (q : Int) := ⟨(((k : Int) + 255) % 256).toNat, by omega⟩
      have hq2 : q < 256 := by omega
      have cx := VX.out.cell (i := k) (by rw [bset_length]; exact hlt)
      have cy := VY.out.cell (i := k) (by rw [bset_length]; exact hlt)
      have px := VX.out.cell (i := q) (by rw [bset_length]; exact hq2)
      have py := VY.out.cell (i := q) (by rw [bset_length]; exact hq2)
      rw [bset_getD hlt] at cx cy
      rw [bset_getD hq2] at px py
      change wr.cell? _ = some (.bool (hasB f c k)) at cx
      change wr.cell? _ = some (.bool (hasB g d k)) at cy
      change wr.cell? _ = some (.bool (hasB f c q)) at px
      change wr.cell? _ = some (.bool (hasB g d q)) at py
      rw [has_mod (m := (k : Int) - 1) (by omega)] at px py
      have HST : Hid (startB f c g d k = (hasB f c k && hasB g d k && !(hasB f c ((k : Int) - 1) && hasB g d ((k : Int) - 1)))) := rfl
      by_cases hst : startB f c g d k = true
      · have HS2 : Hid (hasB f c k = true ∧ hasB g d k = true ∧ (hasB f c ((k : Int) - 1) = false ∨ hasB f c ((k : Int) - 1) = true ∧ hasB g d ((k : Int) - 1) = false)) := by
          have h := HST.out
          rw [hst] at h
          exact start_path h
        obtain ⟨N, hN⟩ : ∃ N, cntM f c g d k = N := ⟨_, rfl⟩
        have HN1 := HCP.out k hst
        have HN2 := Lib.hid (fun n h1 h2 => HCB.out k n hst h1 h2)
        have HN3 := (HCB.out k 1 hst (by omega) HN1).2
        rw [hN] at HN1 HN2 HN3
        have HAD := Lib.hid ((ref_succ f c g d k).trans (add_yes hst hN.symm))
        have hpath := HS2.out
        clear HST HS2 hst hN
        obtain ⟨hx1, hx2, hx3⟩ := hpath
        rw [hx1] at cx
        rw [hx2] at cy
        clear hx1 hx2
        rcases hx3 with hx3 | ⟨hx3, hx4⟩
        all_goals
          rw [hx3] at px
          try rw [hx4] at py
          clear hx3
          try clear hx4
          obtain ⟨wo, rfl⟩ : ∃ wo : World, wo = wr := ⟨_, rfl⟩
          go_wp2_with fail
          clear cx cy px py hq hq2
          go_loop [10] (fun nn => ∃ n : Nat, 1 ≤ n ∧ (n : Int) ≤ N ∧ nn = .int .i64 n) (fun nn => 256 - (intOf nn).toNat)
          case atStart => exact ⟨1, by omega, by omega, rfl⟩
          case round =>
            obtain ⟨n, n1, n2, rfl⟩ := hrel
            obtain ⟨p, hp⟩ : ∃ p : Nat, ((k : Int) + (n : Int)) % 256 = (p : Int) := ⟨(((k : Int) + (n : Int)) % 256).toNat, by omega⟩
            have hp2 : p < 256 := by omega
            have cx := VX.out.cell (i := p) (by rw [bset_length]; exact hp2)
            have cy := VY.out.cell (i := p) (by rw [bset_length]; exact hp2)
            rw [bset_getD hp2] at cx cy
            change wo.cell? _ = some (.bool (hasB f c p)) at cx
            change wo.cell? _ = some (.bool (hasB g d p)) at cy
            rw [has_mod (m := (k : Int) + n) (by omega)] at cx cy
            have HBT := Lib.hid (HN2.out n (by omega) n2).1
            by_cases hnl : (n : Int) < N
            · have h2 := HBT.out.2 hnl
              unfold bothB at h2
              rw [Bool.and_eq_true] at h2
              rw [h2.1] at cx
              rw [h2.2] at cy
              clear h2
              go_wp2
              go_round
              case rel => exact ⟨n + 1, by omega, by omega, by go_num⟩
              case measure => simp [intOf]; omega
            · have h2 : hasB f c ((k : Int) + n) = false ∨ hasB f c ((k : Int) + n) = true ∧ hasB g d ((k : Int) + n) = false := by
                have h3 : ¬ (bothB f c g d ((k : Int) + n) = true) := fun h => hnl (HBT.out.1 h)
                unfold bothB at h3
                exact both_path h3
              have hnN : Hid ((n : Int) = N) := by unfold Hid; omega
              have HAD2 := HAD.out
              rw [← hnN.out] at HAD2
              have HAD3 := Lib.hid HAD2
              have HLE := refL_le f c g d k
              clear HAD2 HBT
              have HG := Lib.hid (fun w3 (hg : (wo.alloc (.cells #[.int .i64 (k : Int), .int .i64 (n : Int)] 59)).grownBy w3 (Value.ownBlock u7)) => ((Below.refl base wo).alloc HBS.out (.cells #[.int .i64 (k : Int), .int .i64 (n : Int)] 59)).grown hg (by have := HBS.out; simp; omega) (fun j hj => (VR.out.lt j hj).1))
              rcases h2 with h2 | ⟨h2, h3⟩
              all_goals
                rw [h2] at cx
                try rw [h3] at cy
                clear h2
                try clear h3
                go_wp2_with ((at_builtin; refine wpList_append_own _ rfl _ _ 67 rfl base 59 i0 (.agg #[.int .i64 0, .int .i64 0]) 2 16 Try.underlying67 HI.out hz0 hz1 hz2 rfl (by decide) u7 (refL f c g d k).length (arcs (refL f c g d k)) rfl (VR.out.alloc _) ⟨wo.heap.size, 0, none⟩ 1 1 [.int .i64 (k : Int), .int .i64 (n : Int)] rfl rfl (new_arc2 wo _ _) (by intro u hu; simp at hu; rcases hu with rfl | rfl <;> rfl) (by simp only [maxLen]; omega) (by omega) (by have := HBS.out; simp; omega) ?_; intro v3 w3 hown3 hgrow3 hnil3; have HX3 := Lib.hid hown3; have HY3 := Lib.hid (HG.out _ hgrow3); clear hown3 hgrow3 hnil3 cx cy))
                have VR3 : Hid (w3.ownsRow base 59 2 v3 (refL f c g d (k + 1)).length (arcs (refL f c g d (k + 1)))) := by have h := HX3.out; rw [arcs_snoc] at h; unfold Hid; rw [HAD3.out, List.length_append]; exact h
                have HBS3 : Hid (base ≤ w3.heap.size) := Nat.le_trans HBS.out HY3.out.size
                have VX3 := Lib.hid (OwnB.below VX.out HY3.out LX.out)
                have VY3 := Lib.hid (OwnB.below VY.out HY3.out LY.out)
                have HB3 : Hid (Below w.heap.size w w3) := HB.out.trans (HY3.out.mono LW.out)
                go_roundw
                case rel => exact ⟨k + 1, by omega, by go_num, VR3, HBS3, VX3, VY3, HB3⟩
                case measure => simp only [intOf]; omega
      · have hst2 : startB f c g d k = false := by simpa using hst
        have HS2 : Hid (hasB f c k = false ∨ hasB f c k = true ∧ hasB g d k = false ∨ hasB f c k = true ∧ hasB g d k = true ∧ hasB f c ((k : Int) - 1) = true ∧ hasB g d ((k : Int) - 1) = true) := by
          have h := HST.out
          rw [hst2] at h
          exact nostart_path h
        have HAD : Hid (refL f c g d (k + 1) = refL f c g d k) := (ref_succ f c g d k).trans (add_no hst2)
        have hpath := HS2.out
        clear HST HS2 hst hst2
        rcases hpath with h1 | ⟨h1, h2⟩ | ⟨h1, h2, h3, h4⟩
        all_goals
          rw [h1] at cx
          try rw [h2] at cy
          try rw [h3] at px
          try rw [h4] at py
          clear h1
          try clear h2
          try clear h3 h4
          go_wp2
          go_roundw
          case rel => exact ⟨k + 1, by omega, by go_num, by rw [HAD.out]; exact VR, HBS, VX, VY, HB⟩
          case measure => simp only [intOf]; omega
    · obtain rfl : k = 256 := by omega
      have VF := Lib.hid VR.out.lt
      obtain ⟨A, cap, rfl, hh⟩ := ar_of_row VR.out rfl
      have VA : Hid (AR wr (.slice A (refL f c g d 256).length cap) (refL f c g d 256)) := ⟨A, cap, rfl, hh⟩
      have cx := VX.out.cell (i := 0) (by rw [bset_length]; omega)
      have cy := VY.out.cell (i := 0) (by rw [bset_length]; omega)
      rw [bset_getD (by omega)] at cx cy
      change wr.cell? _ = some (.bool (hasB f c 0)) at cx
      change wr.cell? _ = some (.bool (hasB g d 0)) at cy
      have HRA : Hid (refAll f c g d = if refL f c g d 256 = [] ∧ bothB f c g d 0 = true then [(0, 256)] else refL f c g d 256) := rfl
      clear hh VR HBS
      generalize refL f c g d 256 = L at *
      have LX2 := VX.out.lt
      clear LX2
      by_cases h0 : L = []
      · subst h0
        have HP : Hid (bothB f c g d 0 = (hasB f c 0 && hasB g d 0)) := rfl
        rcases h1 : hasB f c 0 with _ | _ <;> rcases h2 : hasB g d 0 with _ | _ <;> rw [h1] at cx HP <;> rw [h2] at cy HP
        all_goals
          clear h1 h2
          simp only [List.length_nil] at VA VF ⊢
          go_wp2
          go_ret
          first
            | exact ⟨_, rfl, by rw [HRA.out, if_neg (fun h => by rw [HP.out] at h; exact absurd h.2 (by decide))]; exact VA.out, fun g hg => Nat.le_trans LW.out (VF.out g hg).1, HB.out⟩
            | exact ⟨_, rfl, by rw [HRA.out, if_pos ⟨by first | rfl | trivial, by rw [HP.out]; rfl⟩]; exact ar_one (Box2.new wr 0 256), fun g hg => (by cases hg; exact HB.out.size), nextw HB.out ((Below.refl _ _).alloc (Nat.le_refl _) _)⟩
      · have hlen : ((L.length : Int) == 0) = false := by rw [beq_eq_false_iff_ne]; intro e; exact h0 (List.eq_nil_of_length_eq_zero (by omega))
        have HRB : Hid (refAll f c g d = L) := by unfold Hid; rw [HRA.out, if_neg (fun h => h0 h.1)]
        clear h0
        go_wp2
        go_ret
        exact ⟨_, rfl, by rw [HRB.out]; exact VA.out, fun g hg => Nat.le_trans LW.out (VF.out g hg).1, HB.out⟩
end Go.Proofs.Ytjpdahalplkfbaa
