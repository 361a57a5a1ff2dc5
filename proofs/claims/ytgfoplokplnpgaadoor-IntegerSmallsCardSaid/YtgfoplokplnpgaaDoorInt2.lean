/- The exported functions of package integer, second part: Sign, Bits, Neg, Abs, Of, Small. -/
import Derived.Test.YtgfoplokplnpgaaDoorInt
namespace Go.Proofs.YtgfoplokplnpgaaDoor
open Go Go.RowKit Num

/-- -1, 0 or 1. -/
def sgn (z : Int) : Int := if z < 0 then -1 else if z = 0 then 0 else 1

theorem nat_len_zero {n : Nat} : (digs n).length = 0 ↔ n = 0 := by
  constructor
  · intro h; exact digs_eq_nil.1 (List.eq_nil_of_length_eq_zero h)
  · rintro rfl; rw [digs_zero]; rfl

set_option maxRecDepth 100000 in
set_option maxHeartbeats 1000000 in
theorem Sign_any (s : Bool) (m : Value) (l : List Nat) (w : World) (h : U32 w m l) :
    Calls Tryd.prog 15 #[.agg #[.bool s, m]] w fun e w' => e = .returned (.int .i64 (sgn (ival s l))) ∧ Below w.heap.size w w' := by
  have h' : U32 (w.alloc (.cells #[.bool s, m] 24)) m l := h.below ((Below.refl _ _).alloc (Nat.le_refl _) _)
  have ct := trim_any m l _ h'
  have HC := Lib.hid ct
  clear ct
  have hb : Below w.heap.size w (w.alloc (.cells #[.bool s, m] 24)) := (Below.refl _ _).alloc (Nat.le_refl _) _
  by_cases h0 : val l = 0
  · have hs : sgn (ival s l) = 0 := by unfold ival sgn; rw [h0]; cases s <;> simp
    rw [hs]
    have HZ : Hid ((digs (val l)).length = 0) := nat_len_zero.2 h0
    clear h0 hs
    go_enter Tryd.func15, Tryd.ntmps15
    go_wp2_with fail
    refine HC.out.mono ?_
    rintro e w1 ⟨m1, rfl, rfl, hm1, -⟩
    obtain ⟨A1, c1, rfl, -, -, -⟩ := (hm1 _ h').form'
    rw [HZ.out]
    clear hm1 HC
    go_wp2
    go_ret
    exact ⟨rfl, hb⟩
  · have hs : sgn (ival s l) = if s then -1 else 1 := by
      unfold ival sgn
      cases s
      · simp only [Bool.false_eq_true, if_false]; rw [if_neg (by omega), if_neg (by omega)]
      · simp only [if_true]; rw [if_pos (by omega)]
    rw [hs]
    have hz : (((digs (val l)).length : Int) == 0) = false := by rw [beq_eq_false_iff_ne]; intro h1; exact h0 (nat_len_zero.1 (by omega))
    clear h0 hs
    cases s
    all_goals
      go_enter Tryd.func15, Tryd.ntmps15
      go_wp2_with fail
      refine HC.out.mono ?_
      rintro e w1 ⟨m1, rfl, rfl, hm1, -⟩
      obtain ⟨A1, c1, rfl, -, -, -⟩ := (hm1 _ h').form'
      clear hm1 HC
      go_wp2
      go_ret
      exact ⟨rfl, hb⟩

set_option maxRecDepth 100000 in
set_option maxHeartbeats 1000000 in
theorem Bits_any (s : Bool) (m : Value) (l : List Nat) (w : World) (h : U32 w m l) (hn : l.length ≤ 100000) :
    Calls Tryd.prog 26 #[.agg #[.bool s, m]] w fun e w' => e = .returned (.int .i64 (blen (val l))) ∧ Below w.heap.size w w' := by
  have h' : U32 (w.alloc (.cells #[.bool s, m] 24)) m l := h.below ((Below.refl _ _).alloc (Nat.le_refl _) _)
  have hl := length_val_le h.lt
  have hb : Below w.heap.size w (w.alloc (.cells #[.bool s, m] 24)) := (Below.refl _ _).alloc (Nat.le_refl _) _
  go_enter Tryd.func26, Tryd.ntmps26
  go_wp2_with fail
  refine (trim_any m l _ h').mono ?_
  rintro e w1 ⟨m1, rfl, rfl, hm1, -⟩
  have hm := hm1 _ h'
  clear hm1
  go_wp2_with fail
  refine (length_any m1 (val l) _ hm (by omega)).mono ?_
  rintro e w1 ⟨rfl, rfl⟩
  go_wp2
  go_ret
  exact ⟨rfl, hb⟩

set_option maxRecDepth 100000 in
set_option maxHeartbeats 1000000 in
theorem Abs_any (s : Bool) (m : Value) (l : List Nat) (w : World) (h : U32 w m l) (hn : l.length ≤ 100000) :
    Calls Tryd.prog 19 #[.agg #[.bool s, m]] w fun e w' => ∃ v, e = .returned v ∧ Can w' v (val l) ∧ Below w.heap.size w w' := by
  have bR := (Box.new (w.alloc (.cells #[.bool s, m] 24)) false (.slice none 0 0))
  rw [World.size_alloc] at bR
  have hb0 : Below w.heap.size w ((w.alloc (.cells #[.bool s, m] 24)).alloc (.cells #[.bool false, .slice none 0 0] 24)) := ((Below.refl w.heap.size w).alloc (Nat.le_refl _) _).alloc (by simp) _
  have h' := h.below hb0
  have hsz : w.heap.size + 2 = ((w.alloc (.cells #[.bool s, m] 24)).alloc (.cells #[.bool false, .slice none 0 0] 24)).heap.size := by simp
  have hl := length_val_le h.lt
  go_enter Tryd.func19, Tryd.ntmps19
  go_wp2_with fail
  refine (trim_any m l _ h').mono ?_
  rintro e w1 ⟨m1, rfl, rfl, hm1, -⟩
  have hm := hm1 _ h'
  clear hm1
  generalize (w.alloc (.cells #[.bool s, m] 24)).alloc (.cells #[.bool false, .slice none 0 0] 24) = W0 at *
  have hge : w.heap.size + 2 ≤ W0.heap.size := by omega
  clear hsz
  go_wp2_with fail
  refine (clone_any m1 (digs (val l)) _ hm (by omega)).mono ?_
  rintro e w2 ⟨m2, rfl, hcl, hb2⟩
  have bRw2 := Box.below bR hb2 (by first | omega | (simp; done) | (simp <;> omega))
  have cR0w2 := Box.c0 bRw2
  have cR1w2 := Box.c1 bRw2
  have fR0w2 := Box.f0 bRw2
  have fR1w2 := Box.f1 bRw2
  have hzw2 : w.heap.size + 2 ≤ w2.heap.size := (by have hq := hb2.size; first | omega | (simp at hq; omega))
  go_wp2_with fail
  refine (signed_can false m2 (digs (val l)) _ (hcl.u32 (digs_lt _))).mono ?_
  rintro e w3 ⟨sg, A3, k3, c3, rfl, hm3, hb3⟩
  have bRw3 := Box.below bRw2 hb3 (by first | omega | (simp; done) | (simp <;> omega))
  have cR0w3 := Box.c0 bRw3
  have cR1w3 := Box.c1 bRw3
  have fR0w3 := Box.f0 bRw3
  have fR1w3 := Box.f1 bRw3
  have hzw3 : w.heap.size + 2 ≤ w3.heap.size := (by have hq := hb3.size; first | omega | (simp at hq; omega))
  have bS := bRw3.store sg (.slice A3 k3 c3)
  have s0 := bS.c0
  have s1 := bS.c1
  have hfin := bRw3.can hm3 sg (.slice A3 k3 c3)
  have hbel : Below w.heap.size w w3 := (hb0.trans (hb2.mono (by omega))).trans (hb3.mono (by omega))
  have hbel2 := Below.store hbel (x := w.heap.size + 1) (by omega) (.bool sg) (.slice A3 k3 c3)
  rw [ival_digs] at hfin
  simp only [Bool.false_eq_true, if_false] at hfin
  clear hm3 hcl hb2 hb3 bS hbel
  go_wp2_with fail
  generalize (w3.setCell ⟨w.heap.size + 1, 0, none⟩ (.bool sg)).setCell ⟨w.heap.size + 1, 1, none⟩ (.slice A3 k3 c3) = W at *
  go_wp2
  exact bodyPost_ret (v := .agg #[.bool sg, .slice A3 k3 c3]) (by simp [results, Tryd.results19, go_sem, s0, s1]) rfl ⟨_, rfl, hfin, hbel2⟩
end Go.Proofs.YtgfoplokplnpgaaDoor
