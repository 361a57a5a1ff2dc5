/- heading.List: rows of ints that a call makes. -/
import Derived.Test.YtincejndchdcdaaHGrow
namespace Go.Proofs.Ytincejndchdcdaa
open Go Go.RowKit Hd

def is (l : List Int) : List Value := l.map fun n => .int .i64 n
theorem is_length (l : List Int) : (is l).length = l.length := by simp [is]
theorem is_getElem? (l : List Int) (i : Nat) : (is l)[i]? = (l[i]?).map fun n => Value.int .i64 n := by simp [is]
/-- Block g is just the ints l. -/
def OwnI (w : World) (g : Nat) (l : List Int) : Prop := w.heap[g]? = some (.cells (is l).toArray 3 (0, 0))
section
variable {w w' : World} {g : Nat} {l : List Int}
theorem OwnI.lt (h : OwnI w g l) : g < w.heap.size := by
  rcases Nat.lt_or_ge g w.heap.size with hlt | hge
  · exact hlt
  · unfold OwnI at h; rw [Array.getElem?_eq_none hge] at h; cases h
theorem OwnI.cell (h : OwnI w g l) {i : Nat} (hi : i < l.length) : w.cell? ⟨g, i, none⟩ = some (.int .i64 (l.getD i 0)) := by
  rw [cell_of_row w g i _ _ (0, 0) h]
  simp only [List.getElem?_toArray, is_getElem?]
  simp [hi]
theorem OwnI.frozen (h : OwnI w g l) (i : Nat) : w.frozen? ⟨g, i, none⟩ = false := frozen_of_row w g i _ _ h
theorem OwnI.below {B : Nat} (h : OwnI w g l) (hb : Below B w w') (hg : g < B) : OwnI w' g l := (hb.block g hg).trans h
theorem OwnI.drewN (h : OwnI w g l) (n : Nat) : OwnI (w.drewN n) g l := h
theorem OwnI.alloc (h : OwnI w g l) (o : Obj) : OwnI (w.alloc o) g l := (Below.heap_alloc w o g h.lt).trans h
theorem OwnI.set (h : OwnI w g l) (i : Nat) (x : Int) : OwnI (w.setCell ⟨g, i, none⟩ (.int .i64 x)) g (l.set i x) := by
  unfold OwnI
  rw [heap_setCell_same w g i _ _ _ h]
  congr 2
  simp [is, List.map_set]
theorem OwnI.new (w : World) (l : List Int) : OwnI (w.alloc (.cells (is l).toArray 3)) w.heap.size l := heap_alloc_new w _
end
theorem infoI : (Try.prog.info? 3).map (fun i => (i.zero, i.size, i.bytes)) = some (some (.int .i64 0), 1, 8) := by kernel_rfl
theorem made_is (n : Nat) : madeCells #[.int .i64 0] n = (is (List.replicate n 0)).toArray := by
  apply Array.ext'
  rw [toList_madeCells_one]
  simp [is]
/-- make([]int, n). -/
theorem make_ints {x : Int} (n : Nat) (hx : x = n) (hn : n ≤ 1048576) (w : World) :
    (Instr.makeSlice 47 (.int .i64 x) (.int .i64 x)).run Try.prog w = .ok (.slice (some ⟨w.heap.size, 0, none⟩) n n) (w.alloc (.cells (is (List.replicate n 0)).toArray 3)) := by
  subst hx
  rw [← made_is]
  exact run_make_row' _ _ _ 8 Try.underlying47 infoI rfl _ _ n (by omega) (by omega) w

/-- The marks of an arc. -/
def marks (f : Int) (n : Nat) : List Int := (List.range n).map fun (i : Nat) => (f + i) % 256
theorem marks_length (f : Int) (n : Nat) : (marks f n).length = n := by simp [marks]
theorem marks_getD {f : Int} {n i : Nat} (h : i < n) : (marks f n).getD i 0 = (f + i) % 256 := by
  simp [marks, List.getD_eq_getElem?_getD, h]
/-- The row after k rounds. -/
def row (f : Int) (n k : Nat) : List Int := marks f k ++ List.replicate (n - k) 0
theorem row_length {f : Int} {n k : Nat} (h : k ≤ n) : (row f n k).length = n := by simp [row, marks_length]; omega
theorem row_done (f : Int) (n : Nat) : row f n n = marks f n := by simp [row]
theorem row_set {f : Int} {n k : Nat} (h : k < n) : (row f n k).set k ((f + k) % 256) = row f n (k + 1) := by
  have e : n - k = (n - (k + 1)) + 1 := by omega
  unfold row
  rw [List.set_append, if_neg (by simp [marks_length]), marks_length, Nat.sub_self, e, List.replicate_succ, List.set_cons_zero]
  simp [marks, List.range_succ]

set_option maxRecDepth 100000 in
set_option maxHeartbeats 1000000 in
theorem List_bad (f c : Int) (hn : ¬ OkA f c) (w : World) :
    Calls Try.prog 35 #[av f c] w fun e w' => e = .returned (.slice none 0 0) ∧ Below w.heap.size w w' := by
  have HV := Lib.hid (fun w => VA_no hn w)
  clear hn
  have HB := Lib.hid (show Below w.heap.size w (w.alloc (.cells #[.int .i64 f, .int .i64 c] 43)) from ((Below.refl _ _).alloc (by simp <;> omega) _))
  have B_a : Box2 (w.alloc (.cells #[.int .i64 f, .int .i64 c] 43)) (w.heap.size) f c := by have h := (Box2.new w f c); simpa using h
  replace B_a := Lib.hid B_a
  go_enter Try.func35, Try.ntmps35
  go_wp2_with fail
  generalize w.alloc (.cells #[.int .i64 f, .int .i64 c] 43) = W0 at *
  have c0a := B_a.out.c0
  have c1a := B_a.out.c1
  refine (HV.out _).mono ?_
  clear c0a c1a
  rintro e w1 ⟨rfl, bb⟩
  replace bb := nextw (w0 := W0) (by exact ⟨rfl, rfl, rfl, Nat.le_refl _, fun _ _ => rfl⟩) bb
  replace B_a := Lib.hid (Box2.below B_a.out bb B_a.out.lt)
  replace HB := Lib.hid (nextw HB.out bb)
  clear bb
  go_wp2
  go_ret
  exact ⟨rfl, nextw HB.out (by exact ⟨rfl, rfl, rfl, Nat.le_refl _, fun _ _ => rfl⟩)⟩

/-- A row of ints, its own. -/
def Listed (l : List Int) (w : World) (e : Ending) (w' : World) : Prop := ∃ g : Nat, e = .returned (.slice (some ⟨g, 0, none⟩) l.length l.length) ∧ w.heap.size ≤ g ∧ OwnI w' g l ∧ Below w.heap.size w w'

set_option maxRecDepth 100000 in
set_option maxHeartbeats 1000000 in
theorem List_ok (f c : Int) (hv : OkA f c) (w : World) :
    Calls Try.prog 35 #[av f c] w fun e w' => Listed (marks f c.toNat) w e w' := by
  have HV := Lib.hid (fun w => VA_yes hv w)
  obtain ⟨n, hn⟩ : ∃ n : Nat, c = n := ⟨c.toNat, by have := hv.c0; omega⟩
  subst hn
  have b0 := hv.c0
  have b1 := hv.c1
  have g0 := hv.f0
  have g1 := hv.f1
  have HP : Hid (marks f (n : Int).toNat = marks f n) := by unfold Hid; rw [Int.toNat_natCast]
  rw [HP.out]
  have HML := Lib.hid (marks_length f n)
  clear hv HP
  have HB := Lib.hid (show Below w.heap.size w (w.alloc (.cells #[.int .i64 f, .int .i64 (n : Int)] 43)) from ((Below.refl _ _).alloc (by simp <;> omega) _))
  have B_a : Box2 (w.alloc (.cells #[.int .i64 f, .int .i64 (n : Int)] 43)) (w.heap.size) f (n : Int) := by have h := (Box2.new w f (n : Int)); simpa using h
  replace B_a := Lib.hid B_a
  go_enter Try.func35, Try.ntmps35
  go_wp2_with fail
  generalize w.alloc (.cells #[.int .i64 f, .int .i64 (n : Int)] 43) = W0 at *
  have c0a := B_a.out.c0
  have c1a := B_a.out.c1
  refine (HV.out _).mono ?_
  clear c0a c1a
  rintro e w1 ⟨rfl, bb⟩
  replace bb := nextw (w0 := W0) (by exact ⟨rfl, rfl, rfl, Nat.le_refl _, fun _ _ => rfl⟩) bb
  replace B_a := Lib.hid (Box2.below B_a.out bb B_a.out.lt)
  replace HB := Lib.hid (nextw HB.out bb)
  clear bb
  have c0a := B_a.out.c0
  have c1a := B_a.out.c1
  have hmk := make_ints (x := (n : Int)) n rfl (by omega)
  have HO := Lib.hid (OwnI.new w1 (List.replicate n 0))
  have hlt := B_a.out.lt
  replace B_a := Lib.hid (Box2.alloc B_a.out (.cells (is (List.replicate n 0)).toArray 3))
  replace HB := Lib.hid (nextw HB.out ((Below.refl w1.heap.size w1).alloc (Nat.le_refl _) (.cells (is (List.replicate n 0)).toArray 3)))
  have hsz : Hid (w.heap.size ≤ w1.heap.size) := by unfold Hid; omega
  go_wp2_with fail
  clear c0a c1a
  generalize w1.alloc (.cells (is (List.replicate n 0)).toArray 3) = W1 at *
  clear hmk HV
  go_loopw [13] (fun i wr => ∃ k : Nat, k ≤ n ∧ i = .int .i64 k ∧ Hid (OwnI wr w1.heap.size (row f n k)) ∧ Hid (Box2 wr w.heap.size f n) ∧ Hid (Below w.heap.size w wr)) (fun i _ => n - (intOf i).toNat)
  case atStart => exact ⟨0, by omega, rfl, by simpa [row, marks] using HO, B_a, HB⟩
  case round =>
    clear HO B_a HB
    obtain ⟨k, hk, rfl, ho, ba, hb⟩ := hrel
    by_cases hlt2 : k < n
    · have hr : w1.heap.size < wr.heap.size := ho.out.lt
      have hc : wr.cell? ⟨w1.heap.size, k, none⟩ = some (.int .i64 ((row f n k).getD k 0)) := ho.out.cell (by rw [row_length hk]; exact hlt2)
      have hf := ho.out.frozen k
      have c0a := ba.out.c0
      have HR := Lib.hid (fun w => residue_any (f + k) w)
      have HS : Hid (OwnI (wr.setCell ⟨w1.heap.size, k, none⟩ (.int .i64 ((f + k) % 256))) w1.heap.size (row f n (k + 1))) := by have h := ho.out.set k ((f + k) % 256); rw [row_set hlt2] at h; exact h
      have HA : Hid (Box2 (wr.setCell ⟨w1.heap.size, k, none⟩ (.int .i64 ((f + k) % 256))) w.heap.size f n) := (heap_setCell_other wr ⟨w1.heap.size, k, none⟩ w.heap.size _ (by show w.heap.size ≠ w1.heap.size; omega)).trans ba.out
      have HW : Hid (Below w.heap.size w (wr.setCell ⟨w1.heap.size, k, none⟩ (.int .i64 ((f + k) % 256)))) := hb.out.setCell (p := ⟨w1.heap.size, k, none⟩) (by show w.heap.size ≤ w1.heap.size; omega) _
      go_wp2_with fail
      refine (HR.out _).mono ?_
      rintro e w9 ⟨rfl, rfl⟩
      go_wp2_with fail
      go_roundw
      case rel => exact ⟨k + 1, by omega, by go_num, HS, HA, HW⟩
      case measure => simp only [intOf]; omega
    · obtain rfl : k = n := by omega
      have HD : Hid (OwnI wr w1.heap.size (marks f k)) := by have h := ho.out; rw [row_done] at h; exact h
      go_wp2
      go_ret
      refine ⟨w1.heap.size, by rw [HML.out]; rfl, hsz.out, HD.out, hb.out⟩
end Go.Proofs.Ytincejndchdcdaa
