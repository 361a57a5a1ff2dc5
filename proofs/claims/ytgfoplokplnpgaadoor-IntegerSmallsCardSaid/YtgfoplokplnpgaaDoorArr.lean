/- Arrays of words that a call makes and writes. -/
import Derived.Test.YtgfoplokplnpgaaDoorWords
namespace Go.Proofs.YtgfoplokplnpgaaDoor
open Go Go.RowKit Num

/-- Block g is just the words l, none frozen. -/
def Own (w : World) (g : Nat) (l : List Nat) : Prop := w.heap[g]? = some (.cells (ws l).toArray 46 (0, 0))

section
variable {w w' : World} {g : Nat} {l : List Nat}

theorem Own.lt (h : Own w g l) : g < w.heap.size := by
  rcases Nat.lt_or_ge g w.heap.size with hlt | hge
  · exact hlt
  · unfold Own at h; rw [Array.getElem?_eq_none hge] at h; cases h
theorem Own.cell (h : Own w g l) {i : Nat} (hi : i < l.length) : w.cell? ⟨g, i, none⟩ = some (.int .u32 (l.getD i 0 : Nat)) := by
  rw [cell_of_row w g i _ _ (0, 0) h]
  simp only [List.getElem?_toArray, ws_getElem?]
  simp [hi]
theorem Own.frozen (h : Own w g l) (i : Nat) : w.frozen? ⟨g, i, none⟩ = false := frozen_of_row w g i _ _ h
theorem Own.drew (h : Own w g l) : Own w.drew g l := h
theorem Own.drewN (h : Own w g l) (n : Nat) : Own (w.drewN n) g l := h
theorem Own.below {B : Nat} (h : Own w g l) (hb : Below B w w') (hg : g < B) : Own w' g l := (hb.block g hg).trans h
theorem Own.alloc (h : Own w g l) (o : Obj) : Own (w.alloc o) g l := (Below.heap_alloc w o g h.lt).trans h
theorem Own.other (h : Own w g l) {a : Addr} (hne : g ≠ a.block) (v : Value) : Own (w.setCell a v) g l := (heap_setCell_other w a g v hne).trans h
theorem Own.grown {row : Option Nat} (h : Own w g l) (hg : w.grownBy w' row) (hne : some g ≠ row) : Own w' g l := (hg.block g h.lt hne).trans h
theorem Own.set (h : Own w g l) (i x : Nat) : Own (w.setCell ⟨g, i, none⟩ (.int .u32 (x : Int))) g (l.set i x) := by
  unfold Own
  rw [heap_setCell_same w g i _ _ _ h]
  congr 2
  simp [ws, List.map_set]
theorem Own.new (w : World) (l : List Nat) : Own (w.alloc (.cells (ws l).toArray 46)) w.heap.size l := heap_alloc_new w _
theorem Own.u32 (h : Own w g l) (hlt : ∀ x ∈ l, x < 4294967296) (hm : l.length ≤ maxLen) : U32 w (.slice (some ⟨g, 0, none⟩) l.length l.length) l :=
  ⟨hlt, _, _, rfl, Nat.le_refl _, hm, fun _ => ⟨g, 0, rfl, h.lt, fun i hi => by rw [Nat.zero_add]; exact h.cell hi⟩⟩
/-- A part of a block. -/
theorem Own.part (h : Own w g l) (hlt : ∀ x ∈ l, x < 4294967296) {off n cap : Nat} (hn : off + n ≤ l.length) (hc : n ≤ cap) (hm : cap ≤ maxLen) :
    U32 w (.slice (some ⟨g, off, none⟩) n cap) ((l.drop off).take n) := by
  have hlen : ((l.drop off).take n).length = n := by simp; omega
  refine ⟨fun x hx => hlt x (List.mem_of_mem_drop (List.mem_of_mem_take hx)), some ⟨g, off, none⟩, cap, by rw [hlen], by omega, hm, fun _ => ⟨g, off, rfl, h.lt, fun i hi => ?_⟩⟩
  rw [hlen] at hi
  rw [h.cell (by omega)]
  congr 2
  simp [List.getD, List.getElem?_take, hi, List.getElem?_drop]
end

theorem made_ws (n : Nat) : madeCells #[.int .u32 0] n = (ws (List.replicate n 0)).toArray := by
  apply Array.ext'
  rw [toList_madeCells_one]
  simp [ws]

/-- make([]uint32, n), for whatever the size is spelled. -/
theorem make_u32 {x : Int} (n : Nat) (hx : x = n) (hn : n ≤ 1048576) (w : World) :
    (Instr.makeSlice 22 (.int .i64 x) (.int .i64 x)).run Tryd.prog w = .ok (.slice (some ⟨w.heap.size, 0, none⟩) n n) (w.alloc (.cells (ws (List.replicate n 0)).toArray 46)) := by
  subst hx
  rw [← made_ws]
  exact run_make_row' _ _ _ 4 Tryd.underlying22 info32 rfl _ _ n (by omega) (by omega) w

theorem getD_lt {l : List Nat} (hlt : ∀ x ∈ l, x < 4294967296) (i : Nat) : l.getD i 0 < 4294967296 := by
  rw [List.getD_eq_getElem?_getD]
  rcases h : l[i]? with _ | x
  · simp
  · exact hlt x (List.mem_of_getElem? h)

theorem val_take_succ (l : List Nat) (k : Nat) : val (l.take (k + 1)) = val (l.take k) + 4294967296 ^ k * l.getD k 0 := by
  rcases Nat.lt_or_ge k l.length with h | h
  · rw [List.take_succ_eq_append_getElem h, val_snoc]
    have : (l.take k).length = k := by simp; omega
    rw [this]
    simp [List.getD, h]
  · rw [List.take_of_length_le (by omega), List.take_of_length_le h]
    simp [List.getD, List.getElem?_eq_none h]

theorem set_done (done : List Nat) (m x : Nat) (rest : List Nat) : (done ++ m :: rest).set done.length x = done ++ x :: rest := by
  rw [List.set_append_right _ _ (Nat.le_refl _)]
  simp
end Go.Proofs.YtgfoplokplnpgaaDoor
