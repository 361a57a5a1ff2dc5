/- The reference: set. -/
import Derived.Test.YtjpdahalplkfbaaHRHas
namespace Go.Proofs.Ytjpdahalplkfbaa
open Go Go.RowKit Hd

def bs (l : List Bool) : List Value := l.map fun b => .bool b
theorem bs_getElem? (l : List Bool) (i : Nat) : (bs l)[i]? = (l[i]?).map fun b => Value.bool b := by simp [bs]
/-- Block g is just the bools l. -/
def OwnB (w : World) (g : Nat) (l : List Bool) : Prop := w.heap[g]? = some (.cells (bs l).toArray 4 (0, 0))
section
variable {w w' : World} {g : Nat} {l : List Bool}
theorem OwnB.lt (h : OwnB w g l) : g < w.heap.size := by
  rcases Nat.lt_or_ge g w.heap.size with hlt | hge
  · exact hlt
  · unfold OwnB at h; rw [Array.getElem?_eq_none hge] at h; cases h
theorem OwnB.cell (h : OwnB w g l) {i : Nat} (hi : i < l.length) : w.cell? ⟨g, i, none⟩ = some (.bool (l.getD i false)) := by
  rw [cell_of_row w g i _ _ (0, 0) h]
  simp only [List.getElem?_toArray, bs_getElem?]
  simp [hi]
theorem OwnB.frozen (h : OwnB w g l) (i : Nat) : w.frozen? ⟨g, i, none⟩ = false := frozen_of_row w g i _ _ h
theorem OwnB.below {B : Nat} (h : OwnB w g l) (hb : Below B w w') (hg : g < B) : OwnB w' g l := (hb.block g hg).trans h
theorem OwnB.keep (h : OwnB w g l) (hb : Below w.heap.size w w') : OwnB w' g l := h.below hb h.lt
theorem OwnB.set (h : OwnB w g l) (i : Nat) (x : Bool) : OwnB (w.setCell ⟨g, i, none⟩ (.bool x)) g (l.set i x) := by
  unfold OwnB
  rw [heap_setCell_same w g i _ _ _ h]
  congr 2
  simp [bs, List.map_set]
theorem OwnB.new (w : World) (l : List Bool) : OwnB (w.alloc (.cells (bs l).toArray 4)) w.heap.size l := heap_alloc_new w _
end
theorem infoB : (Try.prog.info? 4).map (fun i => (i.zero, i.size, i.bytes)) = some (some (.bool false), 1, 1) := by kernel_rfl
theorem made_bs (n : Nat) : madeCells #[.bool false] n = (bs (List.replicate n false)).toArray := by
  apply Array.ext'
  rw [toList_madeCells_one]
  simp [bs]
/-- The marks from 0 to 255: whether each is one of the k marks from f on. -/
def bset (f k : Int) : List Bool := (List.range 256).map fun (i : Nat) => decide (((i : Int) - f) % 256 < k)
theorem bset_length (f k : Int) : (bset f k).length = 256 := by simp [bset]
theorem bset_getD {f k : Int} {i : Nat} (h : i < 256) : (bset f k).getD i false = decide (((i : Int) - f) % 256 < k) := by
  simp [bset, List.getD_eq_getElem?_getD, h]
theorem bset_zero (f : Int) : List.replicate 256 false = bset f 0 := by
  apply List.ext_getElem (by rw [bset_length, List.length_replicate])
  intro i h1 h2
  simp only [List.getElem_replicate, bset, List.getElem_map, List.getElem_range]
  exact (decide_eq_false (by omega)).symm
theorem bset_set {f : Int} {k x : Nat} (hk : k < 256) (hx : (x : Int) = (f + k) % 256) : (bset f k).set x true = bset f ((k : Int) + 1) := by
  apply List.ext_getElem (by simp [bset_length])
  intro i h1 h2
  rw [bset_length] at h2
  rw [List.getElem_set]
  simp only [bset, List.getElem_map, List.getElem_range]
  split
  · rename_i e; subst e; exact (decide_eq_true (by omega)).symm
  · rename_i e
    have : (((i : Int) - f) % 256 < k) ↔ (((i : Int) - f) % 256 < (k : Int) + 1) := by omega
    rw [decide_eq_decide]; exact this
theorem make_bools (f : Int) (w : World) :
    (Instr.makeSlice 76 (.int .i64 256) (.int .i64 256)).run Try.prog w = .ok (.slice (some ⟨w.heap.size, 0, none⟩) 256 256) (w.alloc (.cells (bs (bset f 0)).toArray 4)) := by
  rw [← bset_zero, ← made_bs]
  exact run_make_row' _ _ _ 1 Try.underlying76 infoB rfl _ _ 256 (by omega) (by omega) w
theorem OwnB.ne {w : World} {g h o : Nat} {l : List Bool} {z : Int} (hb : OwnB w g l) (hc : w.cell? ⟨h, o, none⟩ = some (.int .i64 z)) : h ≠ g := by
  rintro rfl
  rw [cell_of_row w h o _ _ (0, 0) hb] at hc
  simp only [List.getElem?_toArray, bs_getElem?] at hc
  rcases hl : l[o]? with _ | b <;> rw [hl] at hc <;> simp at hc
/-- A list of bools, its own. -/
def Setted (l : List Bool) (w : World) (e : Ending) (w' : World) : Prop := ∃ g : Nat, e = .returned (.slice (some ⟨g, 0, none⟩) 256 256) ∧ w.heap.size ≤ g ∧ OwnB w' g l ∧ Below w.heap.size w w'

set_option maxRecDepth 100000 in
set_option maxHeartbeats 4000000 in
theorem RSet_ok (f c : Int) (hv : OkA f c) (w : World) :
    Calls Try.prog 62 #[av f c] w fun e w' => Setted (bset f c) w e w' := by
  have HL := Lib.hid (fun w => RList_ok f c hv w)
  obtain ⟨n, hn⟩ : ∃ n : Nat, c = n := ⟨c.toNat, by have := hv.c0; omega⟩
  subst hn
  have b0 := hv.c0
  have b1 := hv.c1
  have g0 := hv.f0
  have g1 := hv.f1
  have HP : Hid (marks f (n : Int).toNat = marks f n) := by unfold Hid; rw [Int.toNat_natCast]
  rw [HP.out] at HL
  clear hv HP
  have hmk := fun w => make_bools f w
  have HB := Lib.hid (show Below w.heap.size w (w.alloc (.cells #[.int .i64 f, .int .i64 (n : Int)] 59)) from ((Below.refl _ _).alloc (by simp <;> omega) _))
  have B_a : Box2 (w.alloc (.cells #[.int .i64 f, .int .i64 (n : Int)] 59)) (w.heap.size) f (n : Int) := by have h := (Box2.new w f (n : Int)); simpa using h
  replace B_a := Lib.hid B_a
  have ca0 := B_a.out.c0
  have ca1 := B_a.out.c1
  go_enter Try.func62, Try.ntmps62
  go_wp2_with fail
  clear ca0 ca1
  replace B_a := Lib.hid (Box2.alloc B_a.out (.cells (bs (bset f 0)).toArray 4))
  replace HB := Lib.hid (nextw HB.out ((Below.refl (w.alloc (.cells #[.int .i64 f, .int .i64 (n : Int)] 59)).heap.size (w.alloc (.cells #[.int .i64 f, .int .i64 (n : Int)] 59))).alloc (Nat.le_refl _) (.cells (bs (bset f 0)).toArray 4)))
  have HO : OwnB ((w.alloc (.cells #[.int .i64 f, .int .i64 (n : Int)] 59)).alloc (.cells (bs (bset f 0)).toArray 4)) (w.heap.size + 1) (bset f 0) := by have h := OwnB.new (w.alloc (.cells #[.int .i64 f, .int .i64 (n : Int)] 59)) (bset f 0); simpa using h
  replace HO := Lib.hid HO
  generalize (w.alloc (.cells #[.int .i64 f, .int .i64 (n : Int)] 59)).alloc (.cells (bs (bset f 0)).toArray 4) = W0 at *
  clear hmk
  refine (HL.out _).mono ?_
  rintro e w1 ⟨v, rfl, ⟨A, cap, rfl, hmx, hh⟩, bb⟩
  replace bb := nextw (w0 := W0) (by exact ⟨rfl, rfl, rfl, Nat.le_refl _, fun _ _ => rfl⟩) bb
  replace HO := Lib.hid (OwnB.keep HO.out bb)
  replace HB := Lib.hid (nextw HB.out bb)
  clear bb B_a HL
  obtain ⟨g, off, rfl, hg, hc⟩ := hh (by intro he; have := marks_length f n; rw [he] at this; simp at this; omega)
  have hne : Hid (g ≠ w.heap.size + 1) := Lib.hid (OwnB.ne HO.out (hc 0 (by rw [marks_length]; omega)))
  have HC := Lib.hid hc
  have hln := marks_length f n
  rw [hln]
  clear hh hg hc hmx hln
  go_wp2_with fail
  go_loopw [5] (fun i wr => ∃ k : Nat, k ≤ n ∧ i = .int .i64 k ∧ Hid (∀ i, i < (marks f n).length → wr.cell? ⟨g, off + i, none⟩ = some (.int .i64 ((marks f n).getD i 0))) ∧ Hid (OwnB wr (w.heap.size + 1) (bset f k)) ∧ Hid (Below w.heap.size w wr)) (fun i _ => n - (intOf i).toNat)
  case atStart => exact ⟨0, by omega, rfl, HC, HO, HB⟩
  case round =>
    clear HC HO HB
    obtain ⟨k, hk, rfl, HC, HO, HB⟩ := hrel
    by_cases hlt : k < n
    · obtain ⟨x, hx⟩ : ∃ x : Nat, (x : Int) = (f + k) % 256 := ⟨((f + k) % 256).toNat, by omega⟩
      have hx2 : x < 256 := by omega
      have hcell : wr.cell? ⟨g, off + k, none⟩ = some (.int .i64 (x : Int)) := by have h := HC.out k (by rw [marks_length]; exact hlt); rw [marks_getD hlt, ← hx] at h; exact h
      have hlb : x < (bset f k).length := by rw [bset_length]; exact hx2
      have hcb := HO.out.cell hlb
      have hfb := HO.out.frozen x
      have HO2 : Hid (OwnB (wr.setCell ⟨w.heap.size + 1, x, none⟩ (.bool true)) (w.heap.size + 1) (bset f ((k + 1 : Nat) : Int))) := by have h := HO.out.set x true; rw [bset_set (by omega) hx] at h; exact h
      have HC2 : Hid (∀ i, i < (marks f n).length → (wr.setCell ⟨w.heap.size + 1, x, none⟩ (.bool true)).cell? ⟨g, off + i, none⟩ = some (.int .i64 ((marks f n).getD i 0))) := fun i hi => (World.cell?_of_block (a := ⟨g, off + i, none⟩) (heap_setCell_other _ ⟨w.heap.size + 1, x, none⟩ g _ hne.out)).trans (HC.out i hi)
      have HB2 : Hid (Below w.heap.size w (wr.setCell ⟨w.heap.size + 1, x, none⟩ (.bool true))) := HB.out.setCell (p := ⟨w.heap.size + 1, x, none⟩) (by show w.heap.size ≤ w.heap.size + 1; omega) _
      clear hx hlb
      go_wp2
      go_roundw
      case rel => exact ⟨k + 1, by omega, by go_num, HC2, HO2, HB2⟩
      case measure => simp only [intOf]; omega
    · obtain rfl : k = n := by omega
      go_wp2
      go_ret
      exact ⟨w.heap.size + 1, rfl, by omega, HO.out, HB.out⟩
end Go.Proofs.Ytjpdahalplkfbaa
