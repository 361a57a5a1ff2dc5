/- The exported functions of package integer, first part. -/
import Derived.Test.YtgfoplokplnpgaaDoorDivide
import Derived.Test.YtgfoplokplnpgaaDoorSum
import Derived.Test.YtgfoplokplnpgaaDoorDiff
import Derived.Deep.RegionHeld3
namespace Go.Proofs.YtgfoplokplnpgaaDoor
open Go Go.RowKit Num

/-- The value of an Int of a sign and words. -/
def ival (s : Bool) (l : List Nat) : Int := if s then -(val l : Int) else val l

/-- The struct value v reads as the Int of the sign s and the words l. -/
def IntV (w : World) (v : Value) (s : Bool) (l : List Nat) : Prop := ∃ m, v = .agg #[.bool s, m] ∧ U32 w m l
/-- .. as the canonical Int of z. -/
def Can (w : World) (v : Value) (z : Int) : Prop := IntV w v (decide (z < 0)) (digs z.natAbs)

theorem IntV.below {w w' : World} {v : Value} {s : Bool} {l : List Nat} (h : IntV w v s l) (hb : Below w.heap.size w w') : IntV w' v s l := by
  obtain ⟨m, e, hu⟩ := h
  exact ⟨m, e, hu.below hb⟩
theorem Can.below {w w' : World} {v : Value} {z : Int} (h : Can w v z) (hb : Below w.heap.size w w') : Can w' v z := IntV.below h hb

theorem can_of_signed {w : World} {m : Value} {s : Bool} {n : Nat} (h : Mag w m n) : Can w (.agg #[.bool (s && decide (n ≠ 0)), m]) (if s then -(n : Int) else n) := by
  refine ⟨m, ?_, ?_⟩
  · have e : (s && decide (n ≠ 0)) = decide ((if s then -(n : Int) else n) < 0) := by
      cases s
      · simp
      · rw [Bool.true_and, if_pos rfl]
        by_cases h0 : n = 0
        · rw [decide_eq_false (by omega), decide_eq_false (by omega)]
        · rw [decide_eq_true h0, decide_eq_true (by omega)]
    rw [e]
  · have e : (if s then -(n : Int) else n).natAbs = n := by cases s <;> simp
    rw [e]
    exact h

theorem Mag.form' {w : World} {v : Value} {n : Nat} (h : Mag w v n) : ∃ A cap, v = .slice A (digs n).length cap ∧ True ∧ True ∧ True := by
  obtain ⟨A, cap, e, _⟩ := h.form
  exact ⟨A, cap, e, trivial, trivial, trivial⟩
theorem length_val_le {l : List Nat} (h : ∀ x ∈ l, x < 4294967296) : (digs (val l)).length ≤ l.length := digs_length_le (val_lt h)

/-- Block x is a variable of the type Int that holds the sign s and the slice m. -/
def Box (w : World) (x : Nat) (s : Bool) (m : Value) : Prop := w.heap[x]? = some (.cells #[.bool s, m] 24 (0, 0))
section
variable {w w' : World} {x : Nat} {s : Bool} {m : Value}
theorem Box.c0 (h : Box w x s m) : w.cell? ⟨x, 0, none⟩ = some (.bool s) := cell_of_row w x 0 _ _ (0, 0) h
theorem Box.c1 (h : Box w x s m) : w.cell? ⟨x, 1, none⟩ = some m := cell_of_row w x 1 _ _ (0, 0) h
theorem Box.f0 (h : Box w x s m) : w.frozen? ⟨x, 0, none⟩ = false := frozen_of_row w x 0 _ _ h
theorem Box.f1 (h : Box w x s m) : w.frozen? ⟨x, 1, none⟩ = false := frozen_of_row w x 1 _ _ h
theorem Box.new (w : World) (s : Bool) (m : Value) : Box (w.alloc (.cells #[.bool s, m] 24)) w.heap.size s m := heap_alloc_new w _
theorem Box.lt (h : Box w x s m) : x < w.heap.size := by
  rcases Nat.lt_or_ge x w.heap.size with hlt | hge
  · exact hlt
  · unfold Box at h; rw [Array.getElem?_eq_none hge] at h; cases h
theorem Box.alloc (h : Box w x s m) (o : Obj) : Box (w.alloc o) x s m := (Below.heap_alloc w o x h.lt).trans h
theorem Box.drew (h : Box w x s m) : Box w.drew x s m := h
theorem Box.drewN (h : Box w x s m) (n : Nat) : Box (w.drewN n) x s m := h
theorem Box.below {B : Nat} (h : Box w x s m) (hb : Below B w w') (hx : x < B) : Box w' x s m := (hb.block x hx).trans h
theorem Box.store (h : Box w x s m) (s' : Bool) (m' : Value) : Box ((w.setCell ⟨x, 0, none⟩ (.bool s')).setCell ⟨x, 1, none⟩ m') x s' m' := by
  have h1 := heap_setCell_same w x 0 _ _ (.bool s') h
  have h2 := heap_setCell_same _ x 1 _ _ m' h1
  exact h2
/-- A variable of the type Int holds no words: a store into it changes no slice of words. -/
theorem Box.keeps {l : List Nat} {v : Value} {A : Option Addr} {n c : Nat} (h : Box w x s (.slice A n c)) (hu : U32 w v l) (s' : Bool) (m' : Value) : U32 ((w.setCell ⟨x, 0, none⟩ (.bool s')).setCell ⟨x, 1, none⟩ m') v l := by
  refine ⟨hu.lt, ?_⟩
  obtain ⟨A', cap, rfl, h1, h2, h3⟩ := hu.form
  refine ⟨A', cap, rfl, h1, h2, fun hne => ?_⟩
  obtain ⟨b, off, rfl, hb, hc⟩ := h3 hne
  have hbx : b ≠ x := by
    rintro rfl
    have h0 := hc 0 (by rcases l with _ | ⟨y, ys⟩; exact absurd rfl hne; simp)
    rw [cell_of_row w b (off + 0) _ _ (0, 0) h] at h0
    match off, h0 with
    | 0, h0 => simp at h0
    | 1, h0 => simp at h0
    | off + 2, h0 => simp at h0
  refine ⟨b, off, rfl, by simpa [World.setCell] using hb, fun i hi => ?_⟩
  rw [World.cell?_of_block (a := ⟨b, off + i, none⟩) (heap_setCell_other _ ⟨x, 1, none⟩ b _ hbx), World.cell?_of_block (a := ⟨b, off + i, none⟩) (heap_setCell_other _ ⟨x, 0, none⟩ b _ hbx)]
  exact hc i hi
end

theorem Box.can {w : World} {x : Nat} {s : Bool} {A : Option Addr} {n c : Nat} {v : Value} {z : Int} (h : Box w x s (.slice A n c)) (hu : Can w v z) (s' : Bool) (m' : Value) : Can ((w.setCell ⟨x, 0, none⟩ (.bool s')).setCell ⟨x, 1, none⟩ m') v z := by
  obtain ⟨m, e, hu⟩ := hu
  exact ⟨m, e, h.keeps hu s' m'⟩
theorem Below.store {B x : Nat} {a w : World} (h : Below B a w) (hx : B ≤ x) (u v : Value) : Below B a ((w.setCell ⟨x, 0, none⟩ u).setCell ⟨x, 1, none⟩ v) := (h.setCell (p := ⟨x, 0, none⟩) hx u).setCell (p := ⟨x, 1, none⟩) hx v

theorem ival_digs (s : Bool) (n : Nat) : ival s (digs n) = if s then -(n : Int) else n := by unfold ival; rw [val_digs]
theorem Can.val' {w : World} {v : Value} {s : Bool} {l : List Nat} (h : Can w v (ival s (digs (val l)))) (_ : ∀ x ∈ l, x < 4294967296) : Can w v (ival s l) := by
  rw [ival_digs] at h
  exact h

theorem signed_can (s : Bool) (v : Value) (l : List Nat) (w : World) (h : U32 w v l) :
    Calls Tryd.prog 41 #[.bool s, v] w fun e w' => ∃ sg A k c, e = .returned (.agg #[.bool sg, .slice A k c]) ∧ Can w' (.agg #[.bool sg, .slice A k c]) (ival s l) ∧ Below w.heap.size w w' := by
  refine (signed_any s v l w h).mono fun e w' hh => ?_
  obtain ⟨v', he, hm, hb⟩ := hh
  have hc := can_of_signed (s := s) hm
  obtain ⟨A, cap, rfl, _⟩ := hm.form
  exact ⟨_, _, _, _, he, hc, hb⟩

set_option maxRecDepth 100000 in
set_option maxHeartbeats 1000000 in
theorem Norm_any (s : Bool) (m : Value) (l : List Nat) (w : World) (h : U32 w m l) (hn : l.length ≤ 100000) :
    Calls Tryd.prog 27 #[.agg #[.bool s, m]] w fun e w' => ∃ v, e = .returned v ∧ Can w' v (ival s l) ∧ Below w.heap.size w w' := by
  have bA := ((Box.new w s m).alloc (.cells #[.bool false, .slice none 0 0] 24)).drew
  have bR := (Box.new (w.alloc (.cells #[.bool s, m] 24)) false (.slice none 0 0)).drew
  rw [World.size_alloc] at bR
  go_enter Tryd.func27, Tryd.ntmps27
  go_wp2
  go_region_held3 (fun w' => w'.cell? ⟨w.heap.size, 0, none⟩ = some (.bool s) ∧ w'.cell? ⟨w.heap.size, 1, none⟩ = some m) (go_keep)
    (first
      | (go_at_call 36; refine (trim_any _ l _ (h.below (by go_grown))).mono ?_; rintro e w1 ⟨m1, rfl, rfl, hm1, -⟩)
      | (go_at_call 44; refine (clone_any _ (digs (val l)) _ (hm1 _ (h.below (by go_grown))) (by have := length_val_le h.lt; omega)).mono ?_; rintro e w2 ⟨m2, rfl, hcl, hb2⟩; have bAw2 := Box.below bA hb2 (by first | omega | (simp; omega) | (simp; done)); have cA0w2 := Box.c0 bAw2; have cA1w2 := Box.c1 bAw2; have bRw2 := Box.below bR hb2 (by first | omega | (simp; omega) | (simp; done)); have cR0w2 := Box.c0 bRw2; have cR1w2 := Box.c1 bRw2; have fR0w2 := Box.f0 bRw2; have fR1w2 := Box.f1 bRw2; have hzw2 : w.heap.size + 2 ≤ w2.heap.size := (by have := hb2.size; first | omega | (simp at this; omega)))
      | (go_at_call 41; refine (signed_can _ _ (digs (val l)) _ (hcl.u32 (digs_lt _))).mono ?_; rintro e w3 ⟨sg, A3, k3, c3, rfl, hm3, hb3⟩; have bAw3 := Box.below bAw2 hb3 (by first | omega | (simp; omega) | (simp; done)); have cA0w3 := Box.c0 bAw3; have cA1w3 := Box.c1 bAw3; have bRw3 := Box.below bRw2 hb3 (by first | omega | (simp; omega) | (simp; done)); have cR0w3 := Box.c0 bRw3; have cR1w3 := Box.c1 bRw3; have fR0w3 := Box.f0 bRw3; have fR1w3 := Box.f1 bRw3; have hzw3 : w.heap.size + 2 ≤ w3.heap.size := (by have := hb3.size; first | omega | (simp at this; omega))))
  have bS := bRw3.store sg (.slice A3 k3 c3)
  have s0 := bS.c0
  have s1 := bS.c1
  have hfin := bRw3.can hm3 sg (.slice A3 k3 c3)
  have hbel : Below w.heap.size w w3 := (((((Below.refl w.heap.size w).alloc (Nat.le_refl _) _).alloc (by simp) _).drew).trans (hb2.mono (by simp; omega))).trans (hb3.mono (by omega))
  have hbel2 := Below.store hbel (x := w.heap.size + 1) (by omega) (.bool sg) (.slice A3 k3 c3)
  have hU := hfin.val' h.lt
  clear hm3 hcl hb2 hb3 bS hbel hfin
  generalize (w3.setCell ⟨w.heap.size + 1, 0, none⟩ (.bool sg)).setCell ⟨w.heap.size + 1, 1, none⟩ (.slice A3 k3 c3) = W at *
  go_wp2
  exact bodyPost_ret (v := .agg #[.bool sg, .slice A3 k3 c3]) (by simp [results, Tryd.results27, go_sem, s0, s1]) rfl ⟨_, rfl, hU, hbel2⟩
end Go.Proofs.YtgfoplokplnpgaaDoor
