/- The reference's Norm and Of. -/
import Derived.Test.YtgfoplokplnpgaaDoorRefT
namespace Go.Proofs.YtgfoplokplnpgaaDoor
open Go Go.RowKit Num

theorem can_mk {w : World} {m : Value} {n : Nat} {z : Int} {s : Bool} (h : Mag w m n) (hz : z.natAbs = n) (hs : s = decide (z < 0)) : Can w (.agg #[.bool s, m]) z := by
  refine ⟨m, by rw [hs], ?_⟩
  rw [hz]; exact h

set_option maxRecDepth 100000 in
set_option maxHeartbeats 1000000 in
theorem RNorm_any (s : Bool) (m : Value) (l : List Nat) (w : World) (h : U32 w m l) (hn : l.length ≤ 1000000) :
    Calls Tryd.prog 21 #[.agg #[.bool s, m]] w fun e w' => ∃ v, e = .returned v ∧ Can w' v (ival s l) ∧ Below w.heap.size w w' := by
  obtain ⟨Am, km, rfl, -⟩ := id h.form
  have bR := (Box.new (w.alloc (.cells #[.bool s, .slice Am l.length km] 24)) false (.slice none 0 0))
  have bA := (Box.new w s (.slice Am l.length km)).alloc (.cells #[.bool false, .slice none 0 0] 24)
  rw [World.size_alloc] at bR
  have hb0 : Below w.heap.size w ((w.alloc (.cells #[.bool s, .slice Am l.length km] 24)).alloc (.cells #[.bool false, .slice none 0 0] 24)) := ((Below.refl w.heap.size w).alloc (Nat.le_refl _) _).alloc (by simp) _
  have h' := h.below hb0
  have hsz : w.heap.size + 2 = ((w.alloc (.cells #[.bool s, .slice Am l.length km] 24)).alloc (.cells #[.bool false, .slice none 0 0] 24)).heap.size := by simp
  have hl := length_val_le h.lt
  have c0 := rtrim_any (.slice Am l.length km) l _ h' hn
  have HC0 := Lib.hid c0
  clear c0
  rcases Nat.eq_zero_or_pos (val l) with hv | hv
  · have hz : ival s l = 0 := by unfold ival; rw [hv]; cases s <;> rfl
    rw [hz]
    rw [hv, digs_zero] at HC0
    clear hv hz
    cases s
    all_goals
      go_enter Tryd.func21, Tryd.ntmps21
      go_wp2_with fail
      refine HC0.out.mono ?_
      rintro e w1 ⟨A1, c1, rfl, hm1, hb1⟩
      have hge : w.heap.size + 2 ≤ w1.heap.size := by have := hb1.size; omega
      have bAw1 := Box.below bA hb1 (by first | omega | (simp; done) | exact Nat.lt_of_lt_of_le (by omega) hge | (simp <;> omega))
      have cA0w1 := Box.c0 bAw1
      have cA1w1 := Box.c1 bAw1
      have bRw1 := Box.below bR hb1 (by first | omega | (simp; done) | exact Nat.lt_of_lt_of_le (by omega) hge | (simp <;> omega))
      have cR0w1 := Box.c0 bRw1
      have cR1w1 := Box.c1 bRw1
      have fR0w1 := Box.f0 bRw1
      have fR1w1 := Box.f1 bRw1
      have hzw1 : w.heap.size + 2 ≤ w1.heap.size := (by have hq := hb1.size; first | omega | exact Nat.le_trans hge hq | (simp at hq; omega))
      have hbel := hb0.trans (hb1.mono (by omega))
      have hm2 := bRw1.keeps hm1 false (.slice A1 0 c1)
      have bS := bRw1.store false (.slice A1 0 c1)
      have s0 := bS.c0
      have s1 := bS.c1
      have hbel2 := Below.store hbel (x := w.heap.size + 1) (by omega) (.bool false) (.slice A1 0 c1)
      simp only [List.length_nil]
      clear hm1 hb1 bS hbel
      go_wp2_with fail
      generalize (w1.setCell ⟨w.heap.size + 1, 0, none⟩ (.bool false)).setCell ⟨w.heap.size + 1, 1, none⟩ (.slice A1 0 c1) = W at *
      exact bodyPost_ret (v := .agg #[.bool false, .slice A1 0 c1]) (by simp [results, Tryd.results21, go_sem, s0, s1]) rfl ⟨_, rfl, can_mk (n := 0) hm2 rfl rfl, hbel2⟩
  · have hz : (ival s l).natAbs = val l := by unfold ival; cases s <;> simp
    have hzs : s = decide (ival s l < 0) := by unfold ival; cases s <;> simp <;> omega
    have HZ := Lib.hid hz
    have HS := Lib.hid hzs
    have hk : 0 < (digs (val l)).length := by
      rcases Nat.eq_zero_or_pos (digs (val l)).length with h0 | h0
      · have := nat_len_zero.1 h0; omega
      · exact h0
    clear hzs hz hv
    generalize hlen : (digs (val l)).length = kk at *
    have HL := Lib.hid hlen
    clear hlen
    cases s
    all_goals
      go_enter Tryd.func21, Tryd.ntmps21
      go_wp2_with fail
      refine HC0.out.mono ?_
      rintro e w1 ⟨A1, c1, rfl, hm1, hb1⟩
      have hge : w.heap.size + 2 ≤ w1.heap.size := by have := hb1.size; omega
      have bAw1 := Box.below bA hb1 (by first | omega | (simp; done) | exact Nat.lt_of_lt_of_le (by omega) hge | (simp <;> omega))
      have cA0w1 := Box.c0 bAw1
      have cA1w1 := Box.c1 bAw1
      have bRw1 := Box.below bR hb1 (by first | omega | (simp; done) | exact Nat.lt_of_lt_of_le (by omega) hge | (simp <;> omega))
      have cR0w1 := Box.c0 bRw1
      have cR1w1 := Box.c1 bRw1
      have fR0w1 := Box.f0 bRw1
      have fR1w1 := Box.f1 bRw1
      have hzw1 : w.heap.size + 2 ≤ w1.heap.size := (by have hq := hb1.size; first | omega | exact Nat.le_trans hge hq | (simp at hq; omega))
      have hbel := hb0.trans (hb1.mono (by omega))
      have hm2 := fun sg => bRw1.keeps hm1 sg (.slice A1 kk c1)
      have bS := fun sg => bRw1.store sg (.slice A1 kk c1)
      have hbel2 := fun sg => Below.store hbel (x := w.heap.size + 1) (by omega) (.bool sg) (.slice A1 kk c1)
      have HM2 := Lib.hid hm2
      have HBS := Lib.hid bS
      have HB2 := Lib.hid hbel2
      clear hm1 hb1 bS hbel hm2 hbel2
      go_wp2_with fail
      first
        | (have s0 := (HBS.out true).c0
           have s1 := (HBS.out true).c1
           have hmm := HM2.out true
           have hbb := HB2.out true
           generalize (w1.setCell ⟨w.heap.size + 1, 0, none⟩ (.bool true)).setCell ⟨w.heap.size + 1, 1, none⟩ (.slice A1 kk c1) = W at *
           exact bodyPost_ret (v := .agg #[.bool true, .slice A1 kk c1]) (by simp [results, Tryd.results21, go_sem, s0, s1]) rfl ⟨_, rfl, can_mk hmm HZ.out HS.out, hbb⟩)
        | (have s0 := (HBS.out false).c0
           have s1 := (HBS.out false).c1
           have hmm := HM2.out false
           have hbb := HB2.out false
           generalize (w1.setCell ⟨w.heap.size + 1, 0, none⟩ (.bool false)).setCell ⟨w.heap.size + 1, 1, none⟩ (.slice A1 kk c1) = W at *
           exact bodyPost_ret (v := .agg #[.bool false, .slice A1 kk c1]) (by simp [results, Tryd.results21, go_sem, s0, s1]) rfl ⟨_, rfl, can_mk hmm HZ.out HS.out, hbb⟩)
end Go.Proofs.YtgfoplokplnpgaaDoor
