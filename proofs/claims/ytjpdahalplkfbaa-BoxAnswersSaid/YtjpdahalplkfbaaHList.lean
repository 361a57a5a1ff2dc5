/- heading.List: rows of ints that a call makes. -/
import Derived.Test.YtjpdahalplkfbaaHGrow
namespace Go.Proofs.Ytjpdahalplkfbaa
open Go Go.RowKit Hd

def is (l : List Int) : List Value := l.map fun n => .int .i64 n
theorem is_length (l : List Int) : (is l).length = l.length := by simp [is]
theorem is_getElem? (l : List Int) (i : Nat) : (is l)[i]? = (l[i]?).map fun n => Value.int .i64 n := by simp [is]
/-- Block g is just the ints l. -/
def OwnI (w : World) (g : Nat) (l : List Int) : Prop := w.heap[g]? = some (.cells (is l).toArray 3 (0, 0))
section
variable {w w' : World} {g : Nat} {l : List Int}
theorem OwnI.lt (h : OwnI w g l) : g < w.heap.size := by
  rcases Nat.lt_or_ge g w.heap.size with hlt | hge
  · exact hlt
  · unfold OwnI at h; rw [Array.getElem?_eq_none hge] at h; cases h
theorem OwnI.cell (h : OwnI w g l) {i : Nat} (hi : i < l.length) : w.cell? ⟨g, i, none⟩ = some (.int .i64 (l.getD i 0)) := by
  rw [cell_of_row w g i _ _ (0, 0) h]
  simp only [List.getElem?_toArray, is_getElem?]
  simp [hi]
theorem OwnI.frozen (h : OwnI w g l) (i : Nat) : w.frozen? ⟨g, i, none⟩ = false := frozen_of_row w g i _ _ h
theorem OwnI.below {B : Nat} (h : OwnI w g l) (hb : Below B w w') (hg : g < B) : OwnI w' g l := (hb.block g hg).trans h
theorem OwnI.drewN (h : OwnI w g l) (n : Nat) : OwnI (w.drewN n) g l := h
theorem OwnI.alloc (h : OwnI w g l) (o : Obj) : OwnI (w.alloc o) g l := (Below.heap_alloc w o g h.lt).trans h
theorem OwnI.set (h : OwnI w g l) (i : Nat) (x : Int) : OwnI (w.setCell ⟨g, i, none⟩ (.int .i64 x)) g (l.set i x) := by
  unfold OwnI
  rw [heap_setCell_same w g i _ _ _ h]
  congr 2
  simp [is, List.map_set]
theorem OwnI.new (w : World) (l : List Int) : OwnI (w.alloc (.cells (is l).toArray 3)) w.heap.size l := heap_alloc_new w _
end
theorem infoI : (Try.prog.info? 3).map (fun i => (i.zero, i.size, i.bytes)) = some (some (.int .i64 0), 1, 8) := by kernel_rfl
theorem made_is (n : Nat) : madeCells #[.int .i64 0] n = (is (List.replicate n 0)).toArray := by
  apply Array.ext'
  rw [toList_madeCells_one]
  simp [is]
/-- make([]int, n). -/
theorem make_ints {x : Int} (n : Nat) (hx : x = n) (hn : n ≤ 1048576) (w : World) :
    (Instr.makeSlice 83 (.int .i64 x) (.int .i64 x)).run Try.prog w = .ok (.slice (some ⟨w.heap.size, 0, none⟩) n n) (w.alloc (.cells (is (List.replicate n 0)).toArray 3)) := by
  subst hx
  rw [← made_is]
  exact run_make_row' _ _ _ 8 Try.underlying83 infoI rfl _ _ n (by omega) (by omega) w

/-- The marks of an arc. -/
def marks (f : Int) (n : Nat) : List Int := (List.range n).map fun (i : Nat) => (f + i) % 256
theorem marks_length (f : Int) (n : Nat) : (marks f n).length = n := by simp [marks]
theorem marks_getD {f : Int} {n i : Nat} (h : i < n) : (marks f n).getD i 0 = (f + i) % 256 := by
  simp [marks, List.getD_eq_getElem?_getD, h]
/-- The row after k rounds. -/
def row (f : Int) (n k : Nat) : List Int := marks f k ++ List.replicate (n - k) 0
theorem row_length {f : Int} {n k : Nat} (h : k ≤ n) : (row f n k).length = n := by simp [row, marks_length]; omega
theorem row_done (f : Int) (n : Nat) : row f n n = marks f n := by simp [row]
theorem row_set {f : Int} {n k : Nat} (h : k < n) : (row f n k).set k ((f + k) % 256) = row f n (k + 1) := by
  have e : n - k = (n - (k + 1)) + 1 := by omega
  unfold row
  rw [List.set_append, if_neg (by simp [marks_length]), marks_length, Nat.sub_self, e, List.replicate_succ, List.set_cons_zero]
  simp [marks, List.range_succ]

/-- A row of ints, its own. -/
def Listed (l : List Int) (w : World) (e : Ending) (w' : World) : Prop := ∃ g : Nat, e = .returned (.slice (some ⟨g, 0, none⟩) l.length l.length) ∧ w.heap.size ≤ g ∧ OwnI w' g l ∧ Below w.heap.size w w'

end Go.Proofs.Ytjpdahalplkfbaa
