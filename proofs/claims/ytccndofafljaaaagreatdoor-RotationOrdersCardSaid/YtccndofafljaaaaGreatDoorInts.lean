/- The exported functions of package integer, first part.
   The exported functions of package integer, second part: Sign, Bits, Neg, Abs, Of, Small.
   The exported functions of package integer, third part: Of, Small.
   The exported functions of package integer, fourth part: Add, Sub, Mul, Cmp.
   The exported functions of package integer, fifth part: Mul, Sub, Cmp.
   The exported functions of package integer, sixth part: Cmp. -/
import Derived.Test.YtccndofafljaaaaGreatDoorQuot
import Derived.Test.YtccndofafljaaaaGreatDoorMagn
import Derived.Deep.RegionHeld3

set_option linter.unusedVariables false
set_option linter.unusedSimpArgs false

namespace Go.Proofs.YtccndofafljaaaaGreatDoor
open Go Go.RowKit Num

/-- The value of an Int of a sign and words. -/
def ival (s : Bool) (l : List Nat) : Int := if s then -(val l : Int) else val l

/-- The struct value v reads as the Int of the sign s and the words l. -/
def IntV (w : World) (v : Value) (s : Bool) (l : List Nat) : Prop := ∃ m, v = .agg #[.bool s, m] ∧ U32 w m l
/-- .. as the canonical Int of z. -/
def Can (w : World) (v : Value) (z : Int) : Prop := IntV w v (decide (z < 0)) (digs z.natAbs)

theorem IntV.below {w w' : World} {v : Value} {s : Bool} {l : List Nat} (h : IntV w v s l) (hb : Below w.heap.size w w') : IntV w' v s l := by
  obtain ⟨m, e, hu⟩ := h
  exact ⟨m, e, hu.below hb⟩
theorem Can.below {w w' : World} {v : Value} {z : Int} (h : Can w v z) (hb : Below w.heap.size w w') : Can w' v z := IntV.below h hb

theorem can_of_signed {w : World} {m : Value} {s : Bool} {n : Nat} (h : Mag w m n) : Can w (.agg #[.bool (s && decide (n ≠ 0)), m]) (if s then -(n : Int) else n) := by
  refine ⟨m, ?_, ?_⟩
  · have e : (s && decide (n ≠ 0)) = decide ((if s then -(n : Int) else n) < 0) := by
      cases s
      · simp
      · rw [Bool.true_and, if_pos rfl]
        by_cases h0 : n = 0
        · rw [decide_eq_false (by omega), decide_eq_false (by omega)]
        · rw [decide_eq_true h0, decide_eq_true (by omega)]
    rw [e]
  · have e : (if s then -(n : Int) else n).natAbs = n := by cases s <;> simp
    rw [e]
    exact h

theorem Mag.form' {w : World} {v : Value} {n : Nat} (h : Mag w v n) : ∃ A cap, v = .slice A (digs n).length cap ∧ True ∧ True ∧ True := by
  obtain ⟨A, cap, e, _⟩ := h.form
  exact ⟨A, cap, e, trivial, trivial, trivial⟩
theorem length_val_le {l : List Nat} (h : ∀ x ∈ l, x < 4294967296) : (digs (val l)).length ≤ l.length := digs_length_le (val_lt h)

/-- Block x is a variable of the type Int that holds the sign s and the slice m. -/
def Box (w : World) (x : Nat) (s : Bool) (m : Value) : Prop := w.heap[x]? = some (.cells #[.bool s, m] 24 (0, 0))
section
variable {w w' : World} {x : Nat} {s : Bool} {m : Value}
theorem Box.c0 (h : Box w x s m) : w.cell? ⟨x, 0, none⟩ = some (.bool s) := cell_of_row w x 0 _ _ (0, 0) h
theorem Box.c1 (h : Box w x s m) : w.cell? ⟨x, 1, none⟩ = some m := cell_of_row w x 1 _ _ (0, 0) h
theorem Box.f0 (h : Box w x s m) : w.frozen? ⟨x, 0, none⟩ = false := frozen_of_row w x 0 _ _ h
theorem Box.f1 (h : Box w x s m) : w.frozen? ⟨x, 1, none⟩ = false := frozen_of_row w x 1 _ _ h
theorem Box.new (w : World) (s : Bool) (m : Value) : Box (w.alloc (.cells #[.bool s, m] 24)) w.heap.size s m := heap_alloc_new w _
theorem Box.lt (h : Box w x s m) : x < w.heap.size := by
  rcases Nat.lt_or_ge x w.heap.size with hlt | hge
  · exact hlt
  · unfold Box at h; rw [Array.getElem?_eq_none hge] at h; cases h
theorem Box.alloc (h : Box w x s m) (o : Obj) : Box (w.alloc o) x s m := (Below.heap_alloc w o x h.lt).trans h
theorem Box.drew (h : Box w x s m) : Box w.drew x s m := h
theorem Box.drewN (h : Box w x s m) (n : Nat) : Box (w.drewN n) x s m := h
theorem Box.below {B : Nat} (h : Box w x s m) (hb : Below B w w') (hx : x < B) : Box w' x s m := (hb.block x hx).trans h
theorem Box.store (h : Box w x s m) (s' : Bool) (m' : Value) : Box ((w.setCell ⟨x, 0, none⟩ (.bool s')).setCell ⟨x, 1, none⟩ m') x s' m' := by
  have h1 := heap_setCell_same w x 0 _ _ (.bool s') h
  have h2 := heap_setCell_same _ x 1 _ _ m' h1
  exact h2
/-- A variable of the type Int holds no words: a store into it changes no slice of words. -/
theorem Box.keeps {l : List Nat} {v : Value} {A : Option Addr} {n c : Nat} (h : Box w x s (.slice A n c)) (hu : U32 w v l) (s' : Bool) (m' : Value) : U32 ((w.setCell ⟨x, 0, none⟩ (.bool s')).setCell ⟨x, 1, none⟩ m') v l := by
  refine ⟨hu.lt, ?_⟩
  obtain ⟨A', cap, rfl, h1, h2, h3⟩ := hu.form
  refine ⟨A', cap, rfl, h1, h2, fun hne => ?_⟩
  obtain ⟨b, off, rfl, hb, hc⟩ := h3 hne
  have hbx : b ≠ x := by
    rintro rfl
    have h0 := hc 0 (by rcases l with _ | ⟨y, ys⟩; exact absurd rfl hne; simp)
    rw [cell_of_row w b (off + 0) _ _ (0, 0) h] at h0
    match off, h0 with
    | 0, h0 => simp at h0
    | 1, h0 => simp at h0
    | off + 2, h0 => simp at h0
  refine ⟨b, off, rfl, by simpa [World.setCell] using hb, fun i hi => ?_⟩
  rw [World.cell?_of_block (a := ⟨b, off + i, none⟩) (heap_setCell_other _ ⟨x, 1, none⟩ b _ hbx), World.cell?_of_block (a := ⟨b, off + i, none⟩) (heap_setCell_other _ ⟨x, 0, none⟩ b _ hbx)]
  exact hc i hi
end

theorem Box.can {w : World} {x : Nat} {s : Bool} {A : Option Addr} {n c : Nat} {v : Value} {z : Int} (h : Box w x s (.slice A n c)) (hu : Can w v z) (s' : Bool) (m' : Value) : Can ((w.setCell ⟨x, 0, none⟩ (.bool s')).setCell ⟨x, 1, none⟩ m') v z := by
  obtain ⟨m, e, hu⟩ := hu
  exact ⟨m, e, h.keeps hu s' m'⟩
theorem Below.store {B x : Nat} {a w : World} (h : Below B a w) (hx : B ≤ x) (u v : Value) : Below B a ((w.setCell ⟨x, 0, none⟩ u).setCell ⟨x, 1, none⟩ v) := (h.setCell (p := ⟨x, 0, none⟩) hx u).setCell (p := ⟨x, 1, none⟩) hx v

theorem ival_digs (s : Bool) (n : Nat) : ival s (digs n) = if s then -(n : Int) else n := by unfold ival; rw [val_digs]
theorem Can.val' {w : World} {v : Value} {s : Bool} {l : List Nat} (h : Can w v (ival s (digs (val l)))) (_ : ∀ x ∈ l, x < 4294967296) : Can w v (ival s l) := by
  rw [ival_digs] at h
  exact h

theorem signed_can (s : Bool) (v : Value) (l : List Nat) (w : World) (h : U32 w v l) :
    Calls Tryz.prog 63 #[.bool s, v] w fun e w' => ∃ sg A k c, e = .returned (.agg #[.bool sg, .slice A k c]) ∧ Can w' (.agg #[.bool sg, .slice A k c]) (ival s l) ∧ Below w.heap.size w w' := by
  refine (signed_any s v l w h).mono fun e w' hh => ?_
  obtain ⟨v', he, hm, hb⟩ := hh
  have hc := can_of_signed (s := s) hm
  obtain ⟨A, cap, rfl, _⟩ := hm.form
  exact ⟨_, _, _, _, he, hc, hb⟩

end Go.Proofs.YtccndofafljaaaaGreatDoor

namespace Go.Proofs.YtccndofafljaaaaGreatDoor
open Go Go.RowKit Num

/-- -1, 0 or 1. -/
def sgn (z : Int) : Int := if z < 0 then -1 else if z = 0 then 0 else 1

theorem nat_len_zero {n : Nat} : (digs n).length = 0 ↔ n = 0 := by
  constructor
  · intro h; exact digs_eq_nil.1 (List.eq_nil_of_length_eq_zero h)
  · rintro rfl; rw [digs_zero]; rfl

set_option maxRecDepth 100000 in
set_option maxHeartbeats 1000000 in
theorem Sign_any (s : Bool) (m : Value) (l : List Nat) (w : World) (h : U32 w m l) :
    Calls Tryz.prog 56 #[.agg #[.bool s, m]] w fun e w' => e = .returned (.int .i64 (sgn (ival s l))) ∧ Below w.heap.size w w' := by
  have h' : U32 (w.alloc (.cells #[.bool s, m] 24)) m l := h.below ((Below.refl _ _).alloc (Nat.le_refl _) _)
  have ct := trim_any m l _ h'
  have HC := Lib.hid ct
  clear ct
  have hb : Below w.heap.size w (w.alloc (.cells #[.bool s, m] 24)) := (Below.refl _ _).alloc (Nat.le_refl _) _
  by_cases h0 : val l = 0
  · have hs : sgn (ival s l) = 0 := by unfold ival sgn; rw [h0]; cases s <;> simp
    rw [hs]
    have HZ : Hid ((digs (val l)).length = 0) := nat_len_zero.2 h0
    clear h0 hs
    go_enter Tryz.func56, Tryz.ntmps56
    go_wp2_with fail
    refine HC.out.mono ?_
    rintro e w1 ⟨m1, rfl, rfl, hm1, -⟩
    obtain ⟨A1, c1, rfl, -, -, -⟩ := (hm1 _ h').form'
    rw [HZ.out]
    clear hm1 HC
    go_wp2
    go_ret
    exact ⟨rfl, hb⟩
  · have hs : sgn (ival s l) = if s then -1 else 1 := by
      unfold ival sgn
      cases s
      · simp only [Bool.false_eq_true, if_false]; rw [if_neg (by omega), if_neg (by omega)]
      · simp only [if_true]; rw [if_pos (by omega)]
    rw [hs]
    have hz : (((digs (val l)).length : Int) == 0) = false := by rw [beq_eq_false_iff_ne]; intro h1; exact h0 (nat_len_zero.1 (by omega))
    clear h0 hs
    cases s
    all_goals
      go_enter Tryz.func56, Tryz.ntmps56
      go_wp2_with fail
      refine HC.out.mono ?_
      rintro e w1 ⟨m1, rfl, rfl, hm1, -⟩
      obtain ⟨A1, c1, rfl, -, -, -⟩ := (hm1 _ h').form'
      clear hm1 HC
      go_wp2
      go_ret
      exact ⟨rfl, hb⟩

set_option maxRecDepth 100000 in
set_option maxHeartbeats 1000000 in
theorem Abs_any (s : Bool) (m : Value) (l : List Nat) (w : World) (h : U32 w m l) (hn : l.length ≤ 100000) :
    Calls Tryz.prog 57 #[.agg #[.bool s, m]] w fun e w' => ∃ v, e = .returned v ∧ Can w' v (val l) ∧ Below w.heap.size w w' := by
  have bR := (Box.new (w.alloc (.cells #[.bool s, m] 24)) false (.slice none 0 0))
  rw [World.size_alloc] at bR
  have hb0 : Below w.heap.size w ((w.alloc (.cells #[.bool s, m] 24)).alloc (.cells #[.bool false, .slice none 0 0] 24)) := ((Below.refl w.heap.size w).alloc (Nat.le_refl _) _).alloc (by simp) _
  have h' := h.below hb0
  have hsz : w.heap.size + 2 = ((w.alloc (.cells #[.bool s, m] 24)).alloc (.cells #[.bool false, .slice none 0 0] 24)).heap.size := by simp
  have hl := length_val_le h.lt
  go_enter Tryz.func57, Tryz.ntmps57
  go_wp2_with fail
  refine (trim_any m l _ h').mono ?_
  rintro e w1 ⟨m1, rfl, rfl, hm1, -⟩
  have hm := hm1 _ h'
  clear hm1
  generalize (w.alloc (.cells #[.bool s, m] 24)).alloc (.cells #[.bool false, .slice none 0 0] 24) = W0 at *
  have hge : w.heap.size + 2 ≤ W0.heap.size := by omega
  clear hsz
  go_wp2_with fail
  refine (clone_any m1 (digs (val l)) _ hm (by omega)).mono ?_
  rintro e w2 ⟨m2, rfl, hcl, hb2⟩
  have bRw2 := Box.below bR hb2 (by first | omega | (simp; done) | (simp <;> omega))
  have cR0w2 := Box.c0 bRw2
  have cR1w2 := Box.c1 bRw2
  have fR0w2 := Box.f0 bRw2
  have fR1w2 := Box.f1 bRw2
  have hzw2 : w.heap.size + 2 ≤ w2.heap.size := (by have hq := hb2.size; first | omega | (simp at hq; omega))
  go_wp2_with fail
  refine (signed_can false m2 (digs (val l)) _ (hcl.u32 (digs_lt _))).mono ?_
  rintro e w3 ⟨sg, A3, k3, c3, rfl, hm3, hb3⟩
  have bRw3 := Box.below bRw2 hb3 (by first | omega | (simp; done) | (simp <;> omega))
  have cR0w3 := Box.c0 bRw3
  have cR1w3 := Box.c1 bRw3
  have fR0w3 := Box.f0 bRw3
  have fR1w3 := Box.f1 bRw3
  have hzw3 : w.heap.size + 2 ≤ w3.heap.size := (by have hq := hb3.size; first | omega | (simp at hq; omega))
  have bS := bRw3.store sg (.slice A3 k3 c3)
  have s0 := bS.c0
  have s1 := bS.c1
  have hfin := bRw3.can hm3 sg (.slice A3 k3 c3)
  have hbel : Below w.heap.size w w3 := (hb0.trans (hb2.mono (by omega))).trans (hb3.mono (by omega))
  have hbel2 := Below.store hbel (x := w.heap.size + 1) (by omega) (.bool sg) (.slice A3 k3 c3)
  rw [ival_digs] at hfin
  simp only [Bool.false_eq_true, if_false] at hfin
  clear hm3 hcl hb2 hb3 bS hbel
  go_wp2_with fail
  generalize (w3.setCell ⟨w.heap.size + 1, 0, none⟩ (.bool sg)).setCell ⟨w.heap.size + 1, 1, none⟩ (.slice A3 k3 c3) = W at *
  go_wp2
  exact bodyPost_ret (v := .agg #[.bool sg, .slice A3 k3 c3]) (by simp [results, Tryz.results57, go_sem, s0, s1]) rfl ⟨_, rfl, hfin, hbel2⟩
end Go.Proofs.YtccndofafljaaaaGreatDoor

namespace Go.Proofs.YtccndofafljaaaaGreatDoor
open Go Go.RowKit Num

set_option maxRecDepth 100000 in
set_option maxHeartbeats 1000000 in
theorem Of_any (n : Int) (w : World) (h1 : -9223372036854775808 ≤ n) (h2 : n ≤ 9223372036854775807) :
    Calls Tryz.prog 41 #[.int .i64 n] w fun e w' => ∃ v, e = .returned v ∧ Can w' v n ∧ Below w.heap.size w w' := by
  have bR := Box.new w false (.slice none 0 0)
  have hb0 : Below w.heap.size w (w.alloc (.cells #[.bool false, .slice none 0 0] 24)) := (Below.refl w.heap.size w).alloc (Nat.le_refl _) _
  have hsz : w.heap.size + 1 = (w.alloc (.cells #[.bool false, .slice none 0 0] 24)).heap.size := by simp
  obtain ⟨k, hk⟩ : ∃ k : Nat, k = n.natAbs := ⟨_, rfl⟩
  have hk64 : k < 18446744073709551616 := by omega
  have hw : n < 0 → IntKind.u64.wrap (-(IntKind.u64.wrap n)) = (k : Int) := by
    intro h
    simp only [IntKind.wrap, IntKind.bits, IntKind.signed]
    simp
    omega
  have HK := Lib.hid hk
  clear hk
  by_cases hneg : n < 0
  · have hw' := hw hneg
    have HZ : Hid (-(k : Int) = n) := by have := HK.out; unfold Hid; omega
    clear hw
    go_enter Tryz.func41, Tryz.ntmps41
    go_wp2_with fail
    refine (words_any k hk64 _).mono ?_
    rintro e w2 ⟨m2, rfl, hm2, hb2⟩
    have bRw2 := Box.below bR hb2 (by first | omega | (simp; done))
    generalize w.alloc (.cells #[.bool false, .slice none 0 0] 24) = W0 at *
    have hz2 : w.heap.size + 1 ≤ w2.heap.size := by have := hb2.size; omega
    go_wp2_with fail
    refine (signed_can true m2 (digs k) _ hm2).mono ?_
    rintro e w3 ⟨sg, A3, k3, c3, rfl, hm3, hb3⟩
    have bRw3 := Box.below bRw2 hb3 (by omega)
    have cR0 := Box.c0 bRw3
    have cR1 := Box.c1 bRw3
    have fR0 := Box.f0 bRw3
    have fR1 := Box.f1 bRw3
    have bS := bRw3.store sg (.slice A3 k3 c3)
    have s0 := bS.c0
    have s1 := bS.c1
    have hfin := bRw3.can hm3 sg (.slice A3 k3 c3)
    have hbel : Below w.heap.size w w3 := (hb0.trans (hb2.mono (by omega))).trans (hb3.mono (by omega))
    have hbel2 := Below.store hbel (x := w.heap.size) (by omega) (.bool sg) (.slice A3 k3 c3)
    rw [ival_digs] at hfin
    simp only [if_true] at hfin
    rw [HZ.out] at hfin
    clear hm3 hm2 hb2 hb3 bS hbel hsz
    go_wp2_with fail
    generalize (w3.setCell ⟨w.heap.size, 0, none⟩ (.bool sg)).setCell ⟨w.heap.size, 1, none⟩ (.slice A3 k3 c3) = W at *
    exact bodyPost_ret (v := .agg #[.bool sg, .slice A3 k3 c3]) (by simp [results, Tryz.results41, go_sem, s0, s1]) rfl ⟨_, rfl, hfin, hbel2⟩
  · have hn0 : 0 ≤ n := by omega
    have hnk : n = (k : Int) := by have := HK.out; omega
    subst hnk
    clear hw HK
    go_enter Tryz.func41, Tryz.ntmps41
    go_wp2_with fail
    refine (words_any k hk64 _).mono ?_
    rintro e w2 ⟨m2, rfl, hm2, hb2⟩
    have bRw2 := Box.below bR hb2 (by first | omega | (simp; done))
    generalize w.alloc (.cells #[.bool false, .slice none 0 0] 24) = W0 at *
    have hz2 : w.heap.size + 1 ≤ w2.heap.size := by have := hb2.size; omega
    go_wp2_with fail
    refine (signed_can false m2 (digs k) _ hm2).mono ?_
    rintro e w3 ⟨sg, A3, k3, c3, rfl, hm3, hb3⟩
    have bRw3 := Box.below bRw2 hb3 (by omega)
    have cR0 := Box.c0 bRw3
    have cR1 := Box.c1 bRw3
    have fR0 := Box.f0 bRw3
    have fR1 := Box.f1 bRw3
    have bS := bRw3.store sg (.slice A3 k3 c3)
    have s0 := bS.c0
    have s1 := bS.c1
    have hfin := bRw3.can hm3 sg (.slice A3 k3 c3)
    have hbel : Below w.heap.size w w3 := (hb0.trans (hb2.mono (by omega))).trans (hb3.mono (by omega))
    have hbel2 := Below.store hbel (x := w.heap.size) (by omega) (.bool sg) (.slice A3 k3 c3)
    rw [ival_digs] at hfin
    simp only [Bool.false_eq_true, if_false] at hfin
    clear hm3 hm2 hb2 hb3 bS hbel hsz
    go_wp2_with fail
    generalize (w3.setCell ⟨w.heap.size, 0, none⟩ (.bool sg)).setCell ⟨w.heap.size, 1, none⟩ (.slice A3 k3 c3) = W at *
    exact bodyPost_ret (v := .agg #[.bool sg, .slice A3 k3 c3]) (by simp [results, Tryz.results41, go_sem, s0, s1]) rfl ⟨_, rfl, hfin, hbel2⟩

/-- Does it fit into an int? -/
def fitsInt (z : Int) : Bool := decide (-9223372036854775808 ≤ z ∧ z ≤ 9223372036854775807)
def smallOf (z : Int) : Int := if fitsInt z = true then z else 0

theorem fits_yes {z : Int} (h1 : -9223372036854775808 ≤ z) (h2 : z ≤ 9223372036854775807) : fitsInt z = true ∧ smallOf z = z := by
  have : fitsInt z = true := decide_eq_true ⟨h1, h2⟩
  exact ⟨this, if_pos this⟩
theorem fits_no {z : Int} (h : ¬ (-9223372036854775808 ≤ z ∧ z ≤ 9223372036854775807)) : fitsInt z = false ∧ smallOf z = 0 := by
  have : fitsInt z = false := decide_eq_false h
  exact ⟨this, by unfold smallOf; rw [this]; rfl⟩

theorem ret_pair {a b : Int} {c : Bool} (h : a = b) : Ending.returned (.tuple #[.int .i64 a, .bool c]) = .returned (.tuple #[.int .i64 b, .bool c]) := by rw [h]

end Go.Proofs.YtccndofafljaaaaGreatDoor

namespace Go.Proofs.YtccndofafljaaaaGreatDoor
open Go Go.RowKit Num

theorem ival_nat (s : Bool) (l : List Nat) : ival s l = if s then -(val l : Int) else val l := rfl
theorem far2 {w : World} {x y o : Nat} (h : y ≠ x) (u v : Value) : ((w.setCell ⟨x, 0, none⟩ u).setCell ⟨x, 1, none⟩ v).cell? ⟨y, o, none⟩ = w.cell? ⟨y, o, none⟩ := by
  rw [World.cell?_of_block (a := ⟨y, o, none⟩) (heap_setCell_other _ ⟨x, 1, none⟩ y _ h), World.cell?_of_block (a := ⟨y, o, none⟩) (heap_setCell_other _ ⟨x, 0, none⟩ y _ h)]
theorem undraw {w w' : World} {n : Nat} (h : Below (w.drewN n).heap.size (w.drewN n) w') : Below w.heap.size w w' := ⟨h.os, h.tape, h.output, h.size, h.block⟩
theorem bel_drewN {B : Nat} {a w : World} (h : Below B a w) (n : Nat) : Below B a (w.drewN n) := ⟨h.os, h.tape, h.output, h.size, h.block⟩

set_option maxRecDepth 100000 in
set_option maxHeartbeats 600000 in
theorem Add_any (s1 s2 : Bool) (m1 m2 : Value) (l1 l2 : List Nat) (w : World) (h1 : U32 w m1 l1) (h2 : U32 w m2 l2) (hn1 : l1.length ≤ 50000) (hn2 : l2.length ≤ 50000) :
    Calls Tryz.prog 52 #[.agg #[.bool s1, m1], .agg #[.bool s2, m2]] w fun e w' => ∃ v, e = .returned v ∧ Can w' v (ival s1 l1 + ival s2 l2) ∧ Below w.heap.size w w' := by
  have bA := ((Box.new w s1 m1).alloc (.cells #[.bool s2, m2] 24)).alloc (.cells #[.bool false, .slice none 0 0] 24)
  have bB := (Box.new (w.alloc (.cells #[.bool s1, m1] 24)) s2 m2).alloc (.cells #[.bool false, .slice none 0 0] 24)
  have bR := Box.new ((w.alloc (.cells #[.bool s1, m1] 24)).alloc (.cells #[.bool s2, m2] 24)) false (.slice none 0 0)
  have hb0 : Below w.heap.size w (((w.alloc (.cells #[.bool s1, m1] 24)).alloc (.cells #[.bool s2, m2] 24)).alloc (.cells #[.bool false, .slice none 0 0] 24)) := ((((Below.refl w.heap.size w).alloc (Nat.le_refl _) _).alloc (by simp) _).alloc (by simp; omega) _)
  have hsz : w.heap.size + 3 = (((w.alloc (.cells #[.bool s1, m1] 24)).alloc (.cells #[.bool s2, m2] 24)).alloc (.cells #[.bool false, .slice none 0 0] 24)).heap.size := by simp
  simp only [World.size_alloc] at bB bR
  have h1' := h1.below hb0
  have h2' := h2.below hb0
  have hl1 := length_val_le h1.lt
  have hl2 := length_val_le h2.lt
  have cA0 := Box.c0 bA
  have cA1 := Box.c1 bA
  have fA0 := Box.f0 bA
  have fA1 := Box.f1 bA
  have cB0 := Box.c0 bB
  have cB1 := Box.c1 bB
  have fB0 := Box.f0 bB
  have fB1 := Box.f1 bB
  have cR0 := Box.c0 bR
  have cR1 := Box.c1 bR
  have fR0 := Box.f0 bR
  have fR1 := Box.f1 bR
  have hmt1 := trimV_mag h1'
  have hmt2 := trimV_mag h2'
  by_cases hss : s1 = s2
  · have hbe : (s1 == s2) = true := by simp [hss]
    have HZ : Hid ((if s1 = true then -((val l1 + val l2 : Nat) : Int) else ((val l1 + val l2 : Nat) : Int)) = ival s1 l1 + ival s2 l2) := by
      unfold Hid ival; rw [← hss]; cases s1 <;> simp <;> omega
    clear hss
    go_enter Tryz.func52, Tryz.ntmps52
    go_wp2
    generalize ((w.alloc (.cells #[.bool s1, m1] 24)).alloc (.cells #[.bool s2, m2] 24)).alloc (.cells #[.bool false, .slice none 0 0] 24) = W0 at *
    go_quiet ((first | (go_at_call_of 67 (m1); exact Calls.quiet_of_same (trim_eq m1 l1 _ (h1'.drewN _))) | (go_at_call_of 67 (m2); exact Calls.quiet_of_same (trim_eq m2 l2 _ (h2'.drewN _)))))
    go_wp2
    have hge : w.heap.size + 3 ≤ W0.heap.size := by omega
    clear hsz
    have hb0' : Below w.heap.size w W0 := hb0
    go_region_held3 (fun w' => w'.cell? ⟨w.heap.size, 0, none⟩ = some (.bool s1) ∧ w'.cell? ⟨w.heap.size + 1, 0, none⟩ = some (.bool s2)) (((try dsimp only); (repeat' apply And.intro) <;> (first | go_keep | (rw [far2 (by omega)]; assumption))))
      (first
        | (go_at_call 71; refine (sum_any (trimV m1 (val l1)) (trimV m2 (val l2)) (digs (val l1)) (digs (val l2)) _ (U32.below hmt1 (by exact ⟨rfl, rfl, rfl, Nat.le_refl _, fun _ _ => rfl⟩)) (U32.below hmt2 (by exact ⟨rfl, rfl, rfl, Nat.le_refl _, fun _ _ => rfl⟩)) (by omega) (by omega)).mono ?_; rintro e w2 ⟨v2, rfl, hm2, hb2⟩; replace hb2 := undraw hb2; simp only [val_digs] at hm2; have bAw2 := Box.below bA hb2 (by first | omega | (simp; done) | exact Nat.lt_of_lt_of_le (by omega) hge | (simp <;> omega)); have cA0w2 := Box.c0 bAw2; have cA1w2 := Box.c1 bAw2; have bBw2 := Box.below bB hb2 (by first | omega | (simp; done) | exact Nat.lt_of_lt_of_le (by omega) hge | (simp <;> omega)); have cB0w2 := Box.c0 bBw2; have cB1w2 := Box.c1 bBw2; have bRw2 := Box.below bR hb2 (by first | omega | (simp; done) | exact Nat.lt_of_lt_of_le (by omega) hge | (simp <;> omega)); have cR0w2 := Box.c0 bRw2; have cR1w2 := Box.c1 bRw2; have fR0w2 := Box.f0 bRw2; have fR1w2 := Box.f1 bRw2; have hzw2 : w.heap.size + 3 ≤ w2.heap.size := (by have hq := hb2.size; first | omega | exact Nat.le_trans hge hq | (simp at hq; omega)))
        | (go_at_call 63; refine (signed_can _ _ (digs (val l1 + val l2)) _ hm2).mono ?_; rintro e w3 ⟨sg, A3, k3, c3, rfl, hm3, hb3⟩; have bAw3 := Box.below bAw2 hb3 (by first | omega | (simp; done) | exact Nat.lt_of_lt_of_le (by omega) hge | (simp <;> omega)); have cA0w3 := Box.c0 bAw3; have cA1w3 := Box.c1 bAw3; have bBw3 := Box.below bBw2 hb3 (by first | omega | (simp; done) | exact Nat.lt_of_lt_of_le (by omega) hge | (simp <;> omega)); have cB0w3 := Box.c0 bBw3; have cB1w3 := Box.c1 bBw3; have bRw3 := Box.below bRw2 hb3 (by first | omega | (simp; done) | exact Nat.lt_of_lt_of_le (by omega) hge | (simp <;> omega)); have cR0w3 := Box.c0 bRw3; have cR1w3 := Box.c1 bRw3; have fR0w3 := Box.f0 bRw3; have fR1w3 := Box.f1 bRw3; have hzw3 : w.heap.size + 3 ≤ w3.heap.size := (by have hq := hb3.size; first | omega | exact Nat.le_trans hge hq | (simp at hq; omega))))
    have bS := bRw3.store sg (.slice A3 k3 c3)
    have s0 := bS.c0
    have s1' := bS.c1
    have hfin := bRw3.can hm3 sg (.slice A3 k3 c3)
    have hbel : Below w.heap.size w w3 := (hb0'.trans (hb2.mono (by omega))).trans (hb3.mono (by omega))
    have hbel2 := Below.store hbel (x := w.heap.size + 1 + 1) (by omega) (.bool sg) (.slice A3 k3 c3)
    rw [ival_digs, HZ.out] at hfin
    clear hm3 hb2 hb3 bS hbel
    generalize (w3.setCell ⟨w.heap.size + 1 + 1, 0, none⟩ (.bool sg)).setCell ⟨w.heap.size + 1 + 1, 1, none⟩ (.slice A3 k3 c3) = W at *
    go_wp2
    exact bodyPost_ret (v := .agg #[.bool sg, .slice A3 k3 c3]) (by simp [results, Tryz.results52, go_sem, s0, s1']) rfl ⟨_, rfl, hfin, hbel2⟩
  · have hbe : (s1 == s2) = false := by rw [beq_eq_false_iff_ne]; exact hss
    by_cases hle : val l2 ≤ val l1
    · have hll : (digs (val l2)).length ≤ (digs (val l1)).length := length_mono hle
      have HZ : Hid ((if s1 = true then -((val l1 - val l2 : Nat) : Int) else ((val l1 - val l2 : Nat) : Int)) = ival s1 l1 + ival s2 l2) := by
        unfold Hid ival; cases s1 <;> cases s2 <;> simp at hss ⊢ <;> omega
      clear hss
      go_enter Tryz.func52, Tryz.ntmps52
      go_wp2
      generalize ((w.alloc (.cells #[.bool s1, m1] 24)).alloc (.cells #[.bool s2, m2] 24)).alloc (.cells #[.bool false, .slice none 0 0] 24) = W0 at *
      go_quiet ((first | (go_at_call_of 67 (m1); exact Calls.quiet_of_same (trim_eq m1 l1 _ (h1'.drewN _))) | (go_at_call_of 67 (m2); exact Calls.quiet_of_same (trim_eq m2 l2 _ (h2'.drewN _)))))
      go_wp2_with fail
      have hge : w.heap.size + 3 ≤ W0.heap.size := by omega
      clear hsz
      have hcv := cmpI_lt.2.2 hle
      have c1 := fun W (b1 : U32 W (trimV m1 (val l1)) (digs (val l1))) (b2 : U32 W (trimV m2 (val l2)) (digs (val l2))) => compare_any (trimV m1 (val l1)) (trimV m2 (val l2)) (val l1) (val l2) W b1 b2 (by omega) (by omega)
      generalize cmpI (val l1) (val l2) = cv at *
      have HCC := Lib.hid c1
      clear c1
      refine (HCC.out _ (U32.below hmt1 (by exact ⟨rfl, rfl, rfl, Nat.le_refl _, fun _ _ => rfl⟩)) (U32.below hmt2 (by exact ⟨rfl, rfl, rfl, Nat.le_refl _, fun _ _ => rfl⟩))).mono ?_
      rintro e w1 ⟨rfl, n1, rfl⟩
      go_wp2
      have hb0' : Below w.heap.size w W0 := hb0
      go_region_held3 (fun w' => w'.cell? ⟨w.heap.size, 0, none⟩ = some (.bool s1) ∧ w'.cell? ⟨w.heap.size + 1, 0, none⟩ = some (.bool s2)) (((try dsimp only); (repeat' apply And.intro) <;> (first | go_keep | (rw [far2 (by omega)]; assumption))))
        (first
          | (go_at_call 72; refine (difference_any (trimV m1 (val l1)) (trimV m2 (val l2)) (digs (val l1)) (digs (val l2)) _ (U32.below hmt1 (by exact ⟨rfl, rfl, rfl, Nat.le_refl _, fun _ _ => rfl⟩)) (U32.below hmt2 (by exact ⟨rfl, rfl, rfl, Nat.le_refl _, fun _ _ => rfl⟩)) (by omega) hll (by simp only [val_digs]; exact hle)).mono ?_; rintro e w2 ⟨v2, rfl, hm2, hb2⟩; replace hb2 := undraw hb2; simp only [val_digs] at hm2; have bAw2 := Box.below bA hb2 (by first | omega | (simp; done) | exact Nat.lt_of_lt_of_le (by omega) hge | (simp <;> omega)); have cA0w2 := Box.c0 bAw2; have cA1w2 := Box.c1 bAw2; have bBw2 := Box.below bB hb2 (by first | omega | (simp; done) | exact Nat.lt_of_lt_of_le (by omega) hge | (simp <;> omega)); have cB0w2 := Box.c0 bBw2; have cB1w2 := Box.c1 bBw2; have bRw2 := Box.below bR hb2 (by first | omega | (simp; done) | exact Nat.lt_of_lt_of_le (by omega) hge | (simp <;> omega)); have cR0w2 := Box.c0 bRw2; have cR1w2 := Box.c1 bRw2; have fR0w2 := Box.f0 bRw2; have fR1w2 := Box.f1 bRw2; have hzw2 : w.heap.size + 3 ≤ w2.heap.size := (by have hq := hb2.size; first | omega | exact Nat.le_trans hge hq | (simp at hq; omega)))
          | (go_at_call 63; refine (signed_can _ _ (digs (val l1 - val l2)) _ hm2).mono ?_; rintro e w3 ⟨sg, A3, k3, c3, rfl, hm3, hb3⟩; have bAw3 := Box.below bAw2 hb3 (by first | omega | (simp; done) | exact Nat.lt_of_lt_of_le (by omega) hge | (simp <;> omega)); have cA0w3 := Box.c0 bAw3; have cA1w3 := Box.c1 bAw3; have bBw3 := Box.below bBw2 hb3 (by first | omega | (simp; done) | exact Nat.lt_of_lt_of_le (by omega) hge | (simp <;> omega)); have cB0w3 := Box.c0 bBw3; have cB1w3 := Box.c1 bBw3; have bRw3 := Box.below bRw2 hb3 (by first | omega | (simp; done) | exact Nat.lt_of_lt_of_le (by omega) hge | (simp <;> omega)); have cR0w3 := Box.c0 bRw3; have cR1w3 := Box.c1 bRw3; have fR0w3 := Box.f0 bRw3; have fR1w3 := Box.f1 bRw3; have hzw3 : w.heap.size + 3 ≤ w3.heap.size := (by have hq := hb3.size; first | omega | exact Nat.le_trans hge hq | (simp at hq; omega))))
      have bS := bRw3.store sg (.slice A3 k3 c3)
      have s0 := bS.c0
      have s1' := bS.c1
      have hfin := bRw3.can hm3 sg (.slice A3 k3 c3)
      have hbel : Below w.heap.size w w3 := (hb0'.trans (hb2.mono (by omega))).trans (hb3.mono (by omega))
      have hbel2 := Below.store hbel (x := w.heap.size + 1 + 1) (by omega) (.bool sg) (.slice A3 k3 c3)
      rw [ival_digs, HZ.out] at hfin
      clear hm3 hb2 hb3 bS hbel
      generalize (w3.setCell ⟨w.heap.size + 1 + 1, 0, none⟩ (.bool sg)).setCell ⟨w.heap.size + 1 + 1, 1, none⟩ (.slice A3 k3 c3) = W at *
      go_wp2
      exact bodyPost_ret (v := .agg #[.bool sg, .slice A3 k3 c3]) (by simp [results, Tryz.results52, go_sem, s0, s1']) rfl ⟨_, rfl, hfin, hbel2⟩
    · have hlt : val l1 < val l2 := by omega
      have hll : (digs (val l1)).length ≤ (digs (val l2)).length := length_mono (by omega)
      have HZ : Hid ((if s2 = true then -((val l2 - val l1 : Nat) : Int) else ((val l2 - val l1 : Nat) : Int)) = ival s1 l1 + ival s2 l2) := by
        unfold Hid ival; cases s1 <;> cases s2 <;> simp at hss ⊢ <;> omega
      clear hss
      go_enter Tryz.func52, Tryz.ntmps52
      go_wp2
      generalize ((w.alloc (.cells #[.bool s1, m1] 24)).alloc (.cells #[.bool s2, m2] 24)).alloc (.cells #[.bool false, .slice none 0 0] 24) = W0 at *
      go_quiet ((first | (go_at_call_of 67 (m1); exact Calls.quiet_of_same (trim_eq m1 l1 _ (h1'.drewN _))) | (go_at_call_of 67 (m2); exact Calls.quiet_of_same (trim_eq m2 l2 _ (h2'.drewN _)))))
      go_wp2_with fail
      have hge : w.heap.size + 3 ≤ W0.heap.size := by omega
      clear hsz
      have hcv := cmpI_lt.1.2 hlt
      have c1 := fun W (b1 : U32 W (trimV m1 (val l1)) (digs (val l1))) (b2 : U32 W (trimV m2 (val l2)) (digs (val l2))) => compare_any (trimV m1 (val l1)) (trimV m2 (val l2)) (val l1) (val l2) W b1 b2 (by omega) (by omega)
      generalize cmpI (val l1) (val l2) = cv at *
      have HCC := Lib.hid c1
      clear c1
      refine (HCC.out _ (U32.below hmt1 (by exact ⟨rfl, rfl, rfl, Nat.le_refl _, fun _ _ => rfl⟩)) (U32.below hmt2 (by exact ⟨rfl, rfl, rfl, Nat.le_refl _, fun _ _ => rfl⟩))).mono ?_
      rintro e w1 ⟨rfl, n1, rfl⟩
      go_wp2
      have hb0' : Below w.heap.size w W0 := hb0
      go_region_held3 (fun w' => w'.cell? ⟨w.heap.size, 0, none⟩ = some (.bool s1) ∧ w'.cell? ⟨w.heap.size + 1, 0, none⟩ = some (.bool s2)) (((try dsimp only); (repeat' apply And.intro) <;> (first | go_keep | (rw [far2 (by omega)]; assumption))))
        (first
          | (go_at_call 72; refine (difference_any (trimV m2 (val l2)) (trimV m1 (val l1)) (digs (val l2)) (digs (val l1)) _ (U32.below hmt2 (by exact ⟨rfl, rfl, rfl, Nat.le_refl _, fun _ _ => rfl⟩)) (U32.below hmt1 (by exact ⟨rfl, rfl, rfl, Nat.le_refl _, fun _ _ => rfl⟩)) (by omega) hll (by simp only [val_digs]; omega)).mono ?_; rintro e w2 ⟨v2, rfl, hm2, hb2⟩; replace hb2 := undraw hb2; simp only [val_digs] at hm2; have bAw2 := Box.below bA hb2 (by first | omega | (simp; done) | exact Nat.lt_of_lt_of_le (by omega) hge | (simp <;> omega)); have cA0w2 := Box.c0 bAw2; have cA1w2 := Box.c1 bAw2; have bBw2 := Box.below bB hb2 (by first | omega | (simp; done) | exact Nat.lt_of_lt_of_le (by omega) hge | (simp <;> omega)); have cB0w2 := Box.c0 bBw2; have cB1w2 := Box.c1 bBw2; have bRw2 := Box.below bR hb2 (by first | omega | (simp; done) | exact Nat.lt_of_lt_of_le (by omega) hge | (simp <;> omega)); have cR0w2 := Box.c0 bRw2; have cR1w2 := Box.c1 bRw2; have fR0w2 := Box.f0 bRw2; have fR1w2 := Box.f1 bRw2; have hzw2 : w.heap.size + 3 ≤ w2.heap.size := (by have hq := hb2.size; first | omega | exact Nat.le_trans hge hq | (simp at hq; omega)))
          | (go_at_call 63; refine (signed_can _ _ (digs (val l2 - val l1)) _ hm2).mono ?_; rintro e w3 ⟨sg, A3, k3, c3, rfl, hm3, hb3⟩; have bAw3 := Box.below bAw2 hb3 (by first | omega | (simp; done) | exact Nat.lt_of_lt_of_le (by omega) hge | (simp <;> omega)); have cA0w3 := Box.c0 bAw3; have cA1w3 := Box.c1 bAw3; have bBw3 := Box.below bBw2 hb3 (by first | omega | (simp; done) | exact Nat.lt_of_lt_of_le (by omega) hge | (simp <;> omega)); have cB0w3 := Box.c0 bBw3; have cB1w3 := Box.c1 bBw3; have bRw3 := Box.below bRw2 hb3 (by first | omega | (simp; done) | exact Nat.lt_of_lt_of_le (by omega) hge | (simp <;> omega)); have cR0w3 := Box.c0 bRw3; have cR1w3 := Box.c1 bRw3; have fR0w3 := Box.f0 bRw3; have fR1w3 := Box.f1 bRw3; have hzw3 : w.heap.size + 3 ≤ w3.heap.size := (by have hq := hb3.size; first | omega | exact Nat.le_trans hge hq | (simp at hq; omega))))
      have bS := bRw3.store sg (.slice A3 k3 c3)
      have s0 := bS.c0
      have s1' := bS.c1
      have hfin := bRw3.can hm3 sg (.slice A3 k3 c3)
      have hbel : Below w.heap.size w w3 := (hb0'.trans (hb2.mono (by omega))).trans (hb3.mono (by omega))
      have hbel2 := Below.store hbel (x := w.heap.size + 1 + 1) (by omega) (.bool sg) (.slice A3 k3 c3)
      rw [ival_digs, HZ.out] at hfin
      clear hm3 hb2 hb3 bS hbel
      generalize (w3.setCell ⟨w.heap.size + 1 + 1, 0, none⟩ (.bool sg)).setCell ⟨w.heap.size + 1 + 1, 1, none⟩ (.slice A3 k3 c3) = W at *
      go_wp2
      exact bodyPost_ret (v := .agg #[.bool sg, .slice A3 k3 c3]) (by simp [results, Tryz.results52, go_sem, s0, s1']) rfl ⟨_, rfl, hfin, hbel2⟩
end Go.Proofs.YtccndofafljaaaaGreatDoor

namespace Go.Proofs.YtccndofafljaaaaGreatDoor
open Go Go.RowKit Num
theorem undraw1 {w w' : World} (h : Below w.drew.heap.size w.drew w') : Below w.heap.size w w' := ⟨h.os, h.tape, h.output, h.size, h.block⟩

set_option maxRecDepth 100000 in
set_option maxHeartbeats 600000 in
theorem Mul_any (s1 s2 : Bool) (m1 m2 : Value) (l1 l2 : List Nat) (w : World) (h1 : U32 w m1 l1) (h2 : U32 w m2 l2) (hn1 : l1.length ≤ 50000) (hn2 : l2.length ≤ 50000) :
    Calls Tryz.prog 46 #[.agg #[.bool s1, m1], .agg #[.bool s2, m2]] w fun e w' => ∃ v, e = .returned v ∧ Can w' v (ival s1 l1 * ival s2 l2) ∧ Below w.heap.size w w' := by
  have bA := ((Box.new w s1 m1).alloc (.cells #[.bool s2, m2] 24)).alloc (.cells #[.bool false, .slice none 0 0] 24)
  have bB := (Box.new (w.alloc (.cells #[.bool s1, m1] 24)) s2 m2).alloc (.cells #[.bool false, .slice none 0 0] 24)
  have bR := Box.new ((w.alloc (.cells #[.bool s1, m1] 24)).alloc (.cells #[.bool s2, m2] 24)) false (.slice none 0 0)
  have hb0 : Below w.heap.size w (((w.alloc (.cells #[.bool s1, m1] 24)).alloc (.cells #[.bool s2, m2] 24)).alloc (.cells #[.bool false, .slice none 0 0] 24)) := ((((Below.refl w.heap.size w).alloc (Nat.le_refl _) _).alloc (by simp) _).alloc (by simp; omega) _)
  have hsz : w.heap.size + 3 = (((w.alloc (.cells #[.bool s1, m1] 24)).alloc (.cells #[.bool s2, m2] 24)).alloc (.cells #[.bool false, .slice none 0 0] 24)).heap.size := by simp
  simp only [World.size_alloc] at bB bR
  have h1' := h1.below hb0
  have h2' := h2.below hb0
  have hl1 := length_val_le h1.lt
  have hl2 := length_val_le h2.lt
  have cA0 := Box.c0 bA
  have cA1 := Box.c1 bA
  have fA0 := Box.f0 bA
  have fA1 := Box.f1 bA
  have cB0 := Box.c0 bB
  have cB1 := Box.c1 bB
  have fB0 := Box.f0 bB
  have fB1 := Box.f1 bB
  have cR0 := Box.c0 bR
  have cR1 := Box.c1 bR
  have fR0 := Box.f0 bR
  have fR1 := Box.f1 bR
  have hmt1 := trimV_mag h1'
  have hmt2 := trimV_mag h2'
  have HZ : Hid ((if (!(s1 == s2)) = true then -((val l1 * val l2 : Nat) : Int) else ((val l1 * val l2 : Nat) : Int)) = ival s1 l1 * ival s2 l2) := by
    unfold Hid ival; cases s1 <;> cases s2 <;> simp [Int.natCast_mul, Int.neg_mul, Int.mul_neg]
  go_enter Tryz.func46, Tryz.ntmps46
  go_wp2
  generalize ((w.alloc (.cells #[.bool s1, m1] 24)).alloc (.cells #[.bool s2, m2] 24)).alloc (.cells #[.bool false, .slice none 0 0] 24) = W0 at *
  have hge : w.heap.size + 3 ≤ W0.heap.size := by omega
  clear hsz
  go_region_held3 (fun w' => w'.cell? ⟨w.heap.size, 0, none⟩ = some (.bool s1) ∧ w'.cell? ⟨w.heap.size, 1, none⟩ = some m1 ∧ w'.cell? ⟨w.heap.size + 1, 0, none⟩ = some (.bool s2) ∧ w'.cell? ⟨w.heap.size + 1, 1, none⟩ = some m2) (((try dsimp only); (repeat' apply And.intro) <;> (first | go_keep | (rw [far2 (by omega)]; assumption) | assumption)))
    (first
      | (go_at_call_of 67 (m1); refine (trim_eq m1 l1 _ (U32.below h1' (by exact ⟨rfl, rfl, rfl, Nat.le_refl _, fun _ _ => rfl⟩))).mono ?_; rintro e w' ⟨rfl, rfl⟩)
      | (go_at_call_of 67 (m2); refine (trim_eq m2 l2 _ (U32.below h2' (by exact ⟨rfl, rfl, rfl, Nat.le_refl _, fun _ _ => rfl⟩))).mono ?_; rintro e w' ⟨rfl, rfl⟩)
      | (go_at_call 68; refine (product_any (trimV m1 (val l1)) (trimV m2 (val l2)) (digs (val l1)) (digs (val l2)) _ (U32.below hmt1 (by exact ⟨rfl, rfl, rfl, Nat.le_refl _, fun _ _ => rfl⟩)) (U32.below hmt2 (by exact ⟨rfl, rfl, rfl, Nat.le_refl _, fun _ _ => rfl⟩)) (by omega) (by omega)).mono ?_; rintro e w2 ⟨v2, rfl, hm2, hb2⟩; replace hb2 := undraw1 hb2; simp only [val_digs] at hm2; have bAw2 := Box.below bA hb2 (by first | omega | (simp; done) | exact Nat.lt_of_lt_of_le (by omega) hge | (simp <;> omega)); have cA0w2 := Box.c0 bAw2; have cA1w2 := Box.c1 bAw2; have bBw2 := Box.below bB hb2 (by first | omega | (simp; done) | exact Nat.lt_of_lt_of_le (by omega) hge | (simp <;> omega)); have cB0w2 := Box.c0 bBw2; have cB1w2 := Box.c1 bBw2; have bRw2 := Box.below bR hb2 (by first | omega | (simp; done) | exact Nat.lt_of_lt_of_le (by omega) hge | (simp <;> omega)); have cR0w2 := Box.c0 bRw2; have cR1w2 := Box.c1 bRw2; have fR0w2 := Box.f0 bRw2; have fR1w2 := Box.f1 bRw2; have hzw2 : w.heap.size + 3 ≤ w2.heap.size := (by have hq := hb2.size; first | omega | exact Nat.le_trans hge hq | (simp at hq; omega)))
      | (go_at_call 63; refine (signed_can _ _ (digs (val l1 * val l2)) _ hm2).mono ?_; rintro e w3 ⟨sg, A3, k3, c3, rfl, hm3, hb3⟩; have bAw3 := Box.below bAw2 hb3 (by first | omega | (simp; done) | exact Nat.lt_of_lt_of_le (by omega) hge | (simp <;> omega)); have cA0w3 := Box.c0 bAw3; have cA1w3 := Box.c1 bAw3; have bBw3 := Box.below bBw2 hb3 (by first | omega | (simp; done) | exact Nat.lt_of_lt_of_le (by omega) hge | (simp <;> omega)); have cB0w3 := Box.c0 bBw3; have cB1w3 := Box.c1 bBw3; have bRw3 := Box.below bRw2 hb3 (by first | omega | (simp; done) | exact Nat.lt_of_lt_of_le (by omega) hge | (simp <;> omega)); have cR0w3 := Box.c0 bRw3; have cR1w3 := Box.c1 bRw3; have fR0w3 := Box.f0 bRw3; have fR1w3 := Box.f1 bRw3; have hzw3 : w.heap.size + 3 ≤ w3.heap.size := (by have hq := hb3.size; first | omega | exact Nat.le_trans hge hq | (simp at hq; omega))))
  all_goals
    have hb0' : Below w.heap.size w W0 := hb0
    have bS := bRw3.store sg (.slice A3 k3 c3)
    have s0 := bS.c0
    have s1' := bS.c1
    have hfin := bRw3.can hm3 sg (.slice A3 k3 c3)
    have hbel : Below w.heap.size w w3 := (hb0'.trans (hb2.mono (by omega))).trans (hb3.mono (by omega))
    have hbel2 := Below.store hbel (x := w.heap.size + 1 + 1) (by omega) (.bool sg) (.slice A3 k3 c3)
    rw [ival_digs, HZ.out] at hfin
    clear hm3 hb2 hb3 bS hbel
    generalize (w3.setCell ⟨w.heap.size + 1 + 1, 0, none⟩ (.bool sg)).setCell ⟨w.heap.size + 1 + 1, 1, none⟩ (.slice A3 k3 c3) = W at *
    go_wp2
    exact bodyPost_ret (v := .agg #[.bool sg, .slice A3 k3 c3]) (by simp [results, Tryz.results46, go_sem, s0, s1']) rfl ⟨_, rfl, hfin, hbel2⟩

set_option maxRecDepth 100000 in
set_option maxHeartbeats 600000 in
theorem Sub_any (s1 s2 : Bool) (m1 m2 : Value) (l1 l2 : List Nat) (w : World) (h1 : U32 w m1 l1) (h2 : U32 w m2 l2) (hn1 : l1.length ≤ 50000) (hn2 : l2.length ≤ 50000) :
    Calls Tryz.prog 65 #[.agg #[.bool s1, m1], .agg #[.bool s2, m2]] w fun e w' => ∃ v, e = .returned v ∧ Can w' v (ival s1 l1 - ival s2 l2) ∧ Below w.heap.size w w' := by
  have bA := ((Box.new w s1 m1).alloc (.cells #[.bool s2, m2] 24)).alloc (.cells #[.bool false, .slice none 0 0] 24)
  have bB := (Box.new (w.alloc (.cells #[.bool s1, m1] 24)) s2 m2).alloc (.cells #[.bool false, .slice none 0 0] 24)
  have bR := Box.new ((w.alloc (.cells #[.bool s1, m1] 24)).alloc (.cells #[.bool s2, m2] 24)) false (.slice none 0 0)
  have hb0 : Below w.heap.size w (((w.alloc (.cells #[.bool s1, m1] 24)).alloc (.cells #[.bool s2, m2] 24)).alloc (.cells #[.bool false, .slice none 0 0] 24)) := ((((Below.refl w.heap.size w).alloc (Nat.le_refl _) _).alloc (by simp) _).alloc (by simp; omega) _)
  have hsz : w.heap.size + 3 = (((w.alloc (.cells #[.bool s1, m1] 24)).alloc (.cells #[.bool s2, m2] 24)).alloc (.cells #[.bool false, .slice none 0 0] 24)).heap.size := by simp
  simp only [World.size_alloc] at bB bR
  have h1' := h1.below hb0
  have h2' := h2.below hb0
  have hl1 := length_val_le h1.lt
  have hl2 := length_val_le h2.lt
  have cA0 := Box.c0 bA
  have cA1 := Box.c1 bA
  have fA0 := Box.f0 bA
  have fA1 := Box.f1 bA
  have cB0 := Box.c0 bB
  have cB1 := Box.c1 bB
  have fB0 := Box.f0 bB
  have fB1 := Box.f1 bB
  have cR0 := Box.c0 bR
  have cR1 := Box.c1 bR
  have fR0 := Box.f0 bR
  have fR1 := Box.f1 bR
  have HZ : Hid (ival s1 l1 + ival (!s2) l2 = ival s1 l1 - ival s2 l2) := by
    unfold Hid ival; cases s1 <;> cases s2 <;> simp <;> omega
  obtain ⟨A1, k1, rfl, -⟩ := id h1.form
  obtain ⟨A2, k2, rfl, -⟩ := id h2.form
  go_enter Tryz.func65, Tryz.ntmps65
  go_wp2_with fail
  generalize ((w.alloc (.cells #[.bool s1, .slice A1 l1.length k1] 24)).alloc (.cells #[.bool s2, .slice A2 l2.length k2] 24)).alloc (.cells #[.bool false, .slice none 0 0] 24) = W0 at *
  have hge : w.heap.size + 3 ≤ W0.heap.size := by omega
  clear hsz
  refine (Add_any s1 (!s2) _ _ l1 l2 _ h1' h2' hn1 hn2).mono ?_
  rintro e w3 ⟨v3, rfl, hm3, hb3⟩
  have hm3' := hm3
  obtain ⟨m3, rfl, hu3⟩ := hm3
  obtain ⟨A3, c3, rfl, -⟩ := id hu3.form
  generalize decide (ival s1 l1 + ival (!s2) l2 < 0) = sg at *
  generalize (digs (ival s1 l1 + ival (!s2) l2).natAbs).length = k3 at *
  have bRw3 := Box.below bR hb3 (by first | omega | (simp; done) | exact Nat.lt_of_lt_of_le (by omega) hge | (simp <;> omega))
  have cR0w3 := Box.c0 bRw3
  have cR1w3 := Box.c1 bRw3
  have fR0w3 := Box.f0 bRw3
  have fR1w3 := Box.f1 bRw3
  have hzw3 : w.heap.size + 3 ≤ w3.heap.size := (by have hq := hb3.size; first | omega | exact Nat.le_trans hge hq | (simp at hq; omega))
  have bS := bRw3.store sg (.slice A3 k3 c3)
  have s0 := bS.c0
  have s1' := bS.c1
  have hfin := bRw3.can hm3' sg (.slice A3 k3 c3)
  have hbel : Below w.heap.size w w3 := hb0.trans (hb3.mono (by omega))
  have hbel2 := Below.store hbel (x := w.heap.size + 1 + 1) (by omega) (.bool sg) (.slice A3 k3 c3)
  rw [HZ.out] at hfin
  clear hm3' hb3 bS hbel hu3
  go_wp2_with fail
  generalize (w3.setCell ⟨w.heap.size + 1 + 1, 0, none⟩ (.bool sg)).setCell ⟨w.heap.size + 1 + 1, 1, none⟩ (.slice A3 k3 c3) = W at *
  exact bodyPost_ret (v := .agg #[.bool sg, .slice A3 k3 c3]) (by simp [results, Tryz.results65, go_sem, s0, s1']) rfl ⟨_, rfl, hfin, hbel2⟩
end Go.Proofs.YtccndofafljaaaaGreatDoor

namespace Go.Proofs.YtccndofafljaaaaGreatDoor
open Go Go.RowKit Num

theorem nextw {w0 w w' : World} (h : Below w0.heap.size w0 w) (hb : Below w.heap.size w w') : Below w0.heap.size w0 w' := h.trans (hb.mono h.size)
theorem quiet_ex {P : Program} {f : FuncId} {args : Array Value} {w : World} {n : Nat} {v : Value} (h : Calls P f args (w.drewN n) fun e w' => e = .returned v ∧ ∃ m, w' = (w.drewN n).drewN m) :
    Calls P f args (w.drewN n) fun e w' => e = .returned v ∧ ∃ m, w' = w.drewN m := h.mono fun _ _ hh => ⟨hh.1, by obtain ⟨m, hm⟩ := hh.2; exact ⟨n + m, by rw [hm, World.drewN_drewN]⟩⟩

theorem sgn_range (z : Int) : -1 ≤ sgn z ∧ sgn z ≤ 1 := by
  unfold sgn
  by_cases h : z < 0
  · rw [if_pos h]; omega
  · rw [if_neg h]
    by_cases h' : z = 0
    · rw [if_pos h']; omega
    · rw [if_neg h']; omega

theorem cmpI_range (a b : Int) : -1 ≤ cmpI a b ∧ cmpI a b ≤ 1 := by
  unfold cmpI
  by_cases h : a < b
  · rw [if_pos h]; omega
  · rw [if_neg h]
    by_cases h' : b < a
    · rw [if_pos h']; omega
    · rw [if_neg h']; omega

theorem cmp_signs {s1 s2 : Bool} {l1 l2 : List Nat} :
    (sgn (ival s1 l1) < sgn (ival s2 l2) → cmpI (ival s1 l1) (ival s2 l2) = -1) ∧ (sgn (ival s2 l2) < sgn (ival s1 l1) → cmpI (ival s1 l1) (ival s2 l2) = 1) ∧
    (sgn (ival s1 l1) = sgn (ival s2 l2) → cmpI (ival s1 l1) (ival s2 l2) = sgn (ival s1 l1) * cmpI (val l1) (val l2)) := by
  have e1 : ival s1 l1 = if s1 then -(val l1 : Int) else val l1 := rfl
  have e2 : ival s2 l2 = if s2 then -(val l2 : Int) else val l2 := rfl
  generalize ival s1 l1 = a at *
  generalize ival s2 l2 = b at *
  generalize val l1 = x at *
  generalize val l2 = y at *
  unfold sgn cmpI
  refine ⟨fun h => ?_, fun h => ?_, fun h => ?_⟩
  · repeat' split at h
    all_goals (repeat' split) <;> omega
  · repeat' split at h
    all_goals (repeat' split) <;> omega
  · cases s1 <;> cases s2 <;> simp only [if_true, Bool.false_eq_true, if_false] at e1 e2
    all_goals (repeat' split at h) <;> (repeat' split) <;> omega

set_option maxRecDepth 100000 in
set_option maxHeartbeats 2000000 in
theorem Cmp_any (s1 s2 : Bool) (m1 m2 : Value) (l1 l2 : List Nat) (w : World) (h1 : U32 w m1 l1) (h2 : U32 w m2 l2) (hn1 : l1.length ≤ 50000) (hn2 : l2.length ≤ 50000) :
    Calls Tryz.prog 45 #[.agg #[.bool s1, m1], .agg #[.bool s2, m2]] w fun e w' => e = .returned (.int .i64 (cmpI (ival s1 l1) (ival s2 l2))) ∧ Below w.heap.size w w' := by
  have bA := (Box.new w s1 m1).alloc (.cells #[.bool s2, m2] 24)
  have bB := Box.new (w.alloc (.cells #[.bool s1, m1] 24)) s2 m2
  have hb0 : Below w.heap.size w ((w.alloc (.cells #[.bool s1, m1] 24)).alloc (.cells #[.bool s2, m2] 24)) := ((Below.refl w.heap.size w).alloc (Nat.le_refl _) _).alloc (by simp) _
  have hsz : w.heap.size + 1 + 1 = ((w.alloc (.cells #[.bool s1, m1] 24)).alloc (.cells #[.bool s2, m2] 24)).heap.size := by simp
  simp only [World.size_alloc] at bB
  have h1' := h1.below hb0
  have h2' := h2.below hb0
  have hl1 := length_val_le h1.lt
  have hl2 := length_val_le h2.lt
  have cA0 := Box.c0 bA
  have cA1 := Box.c1 bA
  have fA0 := Box.f0 bA
  have fA1 := Box.f1 bA
  have cB0 := Box.c0 bB
  have cB1 := Box.c1 bB
  have fB0 := Box.f0 bB
  have fB1 := Box.f1 bB
  obtain ⟨A1, k1, rfl, -⟩ := id h1.form
  obtain ⟨A2, k2, rfl, -⟩ := id h2.form
  have c1 := fun W (b : U32 W (.slice A1 l1.length k1) l1) => Sign_any s1 (.slice A1 l1.length k1) l1 W b
  have c2 := fun W (b : U32 W (.slice A2 l2.length k2) l2) => Sign_any s2 (.slice A2 l2.length k2) l2 W b
  obtain ⟨q1, q2, q3⟩ := @cmp_signs s1 s2 l1 l2
  have g1 := sgn_range (ival s1 l1)
  have g2 := sgn_range (ival s2 l2)
  have g3 := cmpI_range (val l1) (val l2)
  have c3 := fun W (b1 : U32 W (trimV (.slice A1 l1.length k1) (val l1)) (digs (val l1))) (b2 : U32 W (trimV (.slice A2 l2.length k2) (val l2)) (digs (val l2))) => compare_any (trimV (.slice A1 l1.length k1) (val l1)) (trimV (.slice A2 l2.length k2) (val l2)) (val l1) (val l2) W b1 b2 (by omega) (by omega)
  have hmt1 := trimV_mag h1'
  have hmt2 := trimV_mag h2'
  generalize cmpI (ival s1 l1) (ival s2 l2) = cr at *
  generalize sgn (ival s1 l1) = g at *
  generalize sgn (ival s2 l2) = h at *
  generalize cmpI (val l1) (val l2) = cv at *
  have HC1 := Lib.hid c1
  have HC2 := Lib.hid c2
  have HC3 := Lib.hid c3
  have HQ1 := Lib.hid q1
  have HQ2 := Lib.hid q2
  have HQ3 := Lib.hid q3
  clear c1 c2 c3 q1 q2 q3
  obtain ⟨g1a, g1b⟩ := g1
  obtain ⟨g2a, g2b⟩ := g2
  obtain ⟨g3a, g3b⟩ := g3
  go_enter Tryz.func45, Tryz.ntmps45
  go_wp2
  generalize (w.alloc (.cells #[.bool s1, .slice A1 l1.length k1] 24)).alloc (.cells #[.bool s2, .slice A2 l2.length k2] 24) = W0 at *
  have hge : w.heap.size + 2 ≤ W0.heap.size := by omega
  clear hsz
  go_region_held3 (fun w' => w'.cell? ⟨w.heap.size, 0, none⟩ = some (.bool s1) ∧ w'.cell? ⟨w.heap.size, 1, none⟩ = some (.slice A1 l1.length k1) ∧ w'.cell? ⟨w.heap.size + 1, 0, none⟩ = some (.bool s2) ∧ w'.cell? ⟨w.heap.size + 1, 1, none⟩ = some (.slice A2 l2.length k2)) (((try dsimp only); (repeat' apply And.intro) <;> (first | go_keep | (rw [far2 (by omega)]; assumption) | assumption)))
    (first
      | (go_at_call_of 56 (Value.agg #[Value.bool s1, Value.slice A1 l1.length k1]); refine (HC1.out _ (U32.below h1' (by first | exact hbx | exact ⟨rfl, rfl, rfl, Nat.le_refl _, fun _ _ => rfl⟩))).mono ?_; rintro e w2 ⟨rfl, hb2⟩; have hbx : Below W0.heap.size W0 w2 := nextw (by first | exact hbx | exact ⟨rfl, rfl, rfl, Nat.le_refl _, fun _ _ => rfl⟩) hb2; have bAw2 := Box.below bA hbx (by first | omega | (simp; done) | exact Nat.lt_of_lt_of_le (by omega) hge | (simp <;> omega)); have cA0w2 := Box.c0 bAw2; have cA1w2 := Box.c1 bAw2; have bBw2 := Box.below bB hbx (by first | omega | (simp; done) | exact Nat.lt_of_lt_of_le (by omega) hge | (simp <;> omega)); have cB0w2 := Box.c0 bBw2; have cB1w2 := Box.c1 bBw2; have hzw2 : w.heap.size + 2 ≤ w2.heap.size := (by have hq := hbx.size; first | omega | exact Nat.le_trans hge hq | (simp at hq; omega)))
      | (go_at_call_of 56 (Value.agg #[Value.bool s2, Value.slice A2 l2.length k2]); refine (HC2.out _ (U32.below h2' (by first | exact hbx | exact ⟨rfl, rfl, rfl, Nat.le_refl _, fun _ _ => rfl⟩))).mono ?_; rintro e w2 ⟨rfl, hb2⟩; have hbx : Below W0.heap.size W0 w2 := nextw (by first | exact hbx | exact ⟨rfl, rfl, rfl, Nat.le_refl _, fun _ _ => rfl⟩) hb2; have bAw2 := Box.below bA hbx (by first | omega | (simp; done) | exact Nat.lt_of_lt_of_le (by omega) hge | (simp <;> omega)); have cA0w2 := Box.c0 bAw2; have cA1w2 := Box.c1 bAw2; have bBw2 := Box.below bB hbx (by first | omega | (simp; done) | exact Nat.lt_of_lt_of_le (by omega) hge | (simp <;> omega)); have cB0w2 := Box.c0 bBw2; have cB1w2 := Box.c1 bBw2; have hzw2 : w.heap.size + 2 ≤ w2.heap.size := (by have hq := hbx.size; first | omega | exact Nat.le_trans hge hq | (simp at hq; omega))))
  all_goals
    rcases Int.lt_trichotomy g h with hgh | hgh | hgh
    · have HR := Lib.hid (HQ1.out hgh)
      have hbel := hb0.trans (hbx.mono hb0.size)
      go_wp2
      go_ret
      exact ⟨ret_int HR.out.symm, hbel⟩
    · have HR := Lib.hid (HQ3.out hgh)
      have hng : ¬ g < h := by omega
      have hnh : ¬ h < g := by omega
      have hbel := hb0.trans (hbx.mono hb0.size)
      have u1 := U32.below h1' hbx
      have u2 := U32.below h2' hbx
      have t1 := U32.below hmt1 hbx
      have t2 := U32.below hmt2 hbx
      have hgc : -1 ≤ g * cv ∧ g * cv ≤ 1 := by
        rcases (by omega : g = -1 ∨ g = 0 ∨ g = 1) with hg | hg | hg <;> rw [hg] <;> omega
      obtain ⟨hgc1, hgc2⟩ := hgc
      have hwr : IntKind.i64.wrap (g * cv) = g * cv := IntWalk.i64_in _ ⟨by omega, by omega⟩
      clear hgh
      go_wp2
      go_quiet ((first
        | (go_at_call_of 67 (Value.slice A1 l1.length k1); exact Calls.quiet_of_same (trim_eq (.slice A1 l1.length k1) l1 _ (U32.drewN u1 _)))
        | (go_at_call_of 67 (Value.slice A2 l2.length k2); exact Calls.quiet_of_same (trim_eq (.slice A2 l2.length k2) l2 _ (U32.drewN u2 _)))
        | (go_at_call 66; exact quiet_ex (HC3.out _ (U32.drewN t1 _) (U32.drewN t2 _)))))
      go_wp2
      go_ret
      exact ⟨ret_int HR.out.symm, bel_drewN hbel _⟩
    · have HR := Lib.hid (HQ2.out hgh)
      have hbel := hb0.trans (hbx.mono hb0.size)
      go_wp2
      go_ret
      exact ⟨ret_int HR.out.symm, hbel⟩
end Go.Proofs.YtccndofafljaaaaGreatDoor
