/- slices.SortFunc at upward vectors by their angles. -/
import Derived.Test.YtpjbkadhmjlpfaaZM2
import Derived.Shelf.SlSortCmp.WholeK
import Derived.Shelf.SlSortCmp.NoneTotal
import Derived.Shelf.SlicesG.Cmp
import Derived.Sort.OwnSortedInts
set_option linter.unusedSimpArgs false
set_option linter.unusedVariables false
namespace Go.Proofs.Ytpjbkadhmjlpfaa
open Go Go.RowKit Hd Go.Sort

theorem heap_sortedV {w : World} {g n : Nat} {os : Array Obj} {cur : Array Value} {e : TypeId} {fr : Nat × Nat} (d : Array Value) (hb : w.heap[g]? = some (.cells cur e fr)) :
    (grow (putRow id (Sort.ahead w n) g 0 d) os).heap[g]? = some (.cells (putCells id 0 d cur) e fr) := by
  have hg : g < w.heap.size := (Array.getElem?_eq_some_iff.1 hb).1
  rw [heap_grow_old _ _ (by simpa using hg)]
  simp [putRow, mapBlock, Sort.ahead, Array.getElem?_modify, hb, onCells]
theorem below_sortedV {w : World} {g n base : Nat} {os : Array Obj} (d : Array Value) (hb : base ≤ g) (hs : base ≤ w.heap.size) : Below base w (grow (putRow id (Sort.ahead w n) g 0 d) os) := by
  refine ⟨rfl, rfl, rfl, by simp, fun k hk => ?_⟩
  rw [heap_grow_old _ _ (by simp; omega)]
  have : g ≠ k := by omega
  simp [putRow, mapBlock, Sort.ahead, Array.getElem?_modify, this]
theorem take_putCellsV (cur : Array Value) (ts : Array Value) (h : ts.size ≤ cur.size) : (putCells id 0 ts cur).toList.take ts.size = ts.toList := by
  apply List.ext_getElem?
  intro j
  by_cases hj : j < ts.size
  · rw [List.getElem?_take_of_lt hj, Array.getElem?_toList]
    simp [putCells, hj, show j < cur.size by omega]
  · rw [List.getElem?_take_eq_none (by omega), List.getElem?_eq_none (by simp; omega)]
theorem flatK_pts {α : Type} [Inhabited α] (f : α → P2) (d : Array α) : (flatK (fun x => enc2 (f x)) 2 d).toList = pts (d.toList.map f) := by
  apply List.ext_getElem?
  intro j
  have hs : (flatK (fun x => enc2 (f x)) 2 d).size = d.size * 2 := size_flatK _ _ _
  by_cases hj : j < d.size * 2
  · have hi : j / 2 < d.size := by omega
    have hp := pts_at (d.toList.map f) (j / 2) (by simpa using hi)
    have e : (d.toList.map f).getD (j / 2) z2 = f d[j / 2]! := by
      simp [List.getD_eq_getElem?_getD, hi]
    rw [e] at hp
    have hg := get_flatK (fun x => enc2 (f x)) 2 d j hj
    have h1 : (flatK (fun x => enc2 (f x)) 2 d).toList[j]? = some (flatK (fun x => enc2 (f x)) 2 d)[j]! := by
      rw [Array.getElem?_toList, Array.getElem?_eq_getElem (by rw [hs]; exact hj), getElem!_pos _ j (by rw [hs]; exact hj)]
    rw [h1, hg]
    rcases Nat.mod_two_eq_zero_or_one j with h0 | h0
    · rw [h0]
      have e2 : j / 2 * 2 = j := by omega
      rw [e2] at hp
      rw [hp.1]; rfl
    · rw [h0]
      have e2 : j / 2 * 2 + 1 = j := by omega
      rw [e2] at hp
      rw [hp.2]; rfl
  · rw [List.getElem?_eq_none (by rw [Array.length_toList, hs]; omega), List.getElem?_eq_none (by rw [pts_length]; simp; omega)]
theorem holds_own {α : Type} [Inhabited α] (f : α → P2) {w : World} {base g cap : Nat} {l : List P2} (zs : List α) (hz : zs.map f = l) (h : OwnP w base (.slice (some ⟨g, 0, none⟩) l.length cap) l) : HoldsK (fun x => enc2 (f x)) 2 w g 0 zs.toArray := by
  intro j hj
  rw [size_flatK] at hj
  have hl : l.length = zs.length := by rw [← hz]; simp
  refine ⟨?_, h.frozenAt _⟩
  rw [h.cellAt _ (by simp at hj; omega), Nat.zero_add]
  have e := flatK_pts f zs.toArray
  rw [show zs.toArray.toList = zs from rfl, hz] at e
  rw [← e, Array.getElem?_toList]
  have hs : j < (flatK (fun x => enc2 (f x)) 2 zs.toArray).size := by rw [size_flatK]; exact hj
  show _ = some (flatK (fun x => enc2 (f x)) 2 zs.toArray)[j]!
  rw [Array.getElem?_eq_getElem hs, getElem!_pos _ j hs]
theorem own_sorted {α : Type} [Inhabited α] (f : α → P2) {w : World} {base g cap n : Nat} {os : Array Obj} {l : List P2} (d : Array α) (hd : d.size = l.length) (h : OwnP w base (.slice (some ⟨g, 0, none⟩) l.length cap) l) :
    OwnP (sortWorldK (fun x => enc2 (f x)) 2 w g 0 n d os) base (.slice (some ⟨g, 0, none⟩) l.length cap) (d.toList.map f) := by
  have hl : (d.toList.map f).length = l.length := by simp [hd]
  rcases h.2 with ⟨h0, _⟩ | ⟨g', cap', cur, hv, hg, hh, hn, hc, hcs, ht⟩
  · cases h0
  cases hv
  refine ⟨pts_length _, .inr ⟨g, cap, _, by rw [hl], hg, heap_sortedV _ hh, by omega, hc, by simp [putCells, hcs], ?_⟩⟩
  have hs : (flatK (fun x => enc2 (f x)) 2 d).size = (d.toList.map f).length * 2 := by rw [size_flatK, hl, hd]
  rw [← hs, take_putCellsV _ _ (by rw [hs, hl, hcs]; exact Nat.mul_le_mul_right 2 hn), flatK_pts]
theorem below_own {α : Type} [Inhabited α] (f : α → P2) {w : World} {base g cap n : Nat} {os : Array Obj} {l : List P2} (d : Array α) (h : OwnP w base (.slice (some ⟨g, 0, none⟩) l.length cap) l) (hb : base ≤ w.heap.size) :
    Below base w (sortWorldK (fun x => enc2 (f x)) 2 w g 0 n d os) := below_sortedV _ (h.lt g rfl).1 hb

/-- An upward vector with small coordinates. -/
abbrev U2 := { p : P2 // Up p ∧ Bd 16777216 p }
instance : Inhabited U2 := ⟨⟨(1, 0), .inr ⟨rfl, by decide⟩, ⟨by decide, by decide⟩, by decide, by decide⟩⟩
def angC (a b : U2) : Int := Lib.compareInt 0 (crs a.1 b.1)
theorem angC_lt (a b : U2) : ltOf angC a b = decide (0 < crs a.1 b.1) := by
  unfold ltOf angC Lib.compareInt
  by_cases h : 0 < crs a.1 b.1
  · simp [h]
  · rw [if_neg h]; split <;> simp_all
theorem angC_swo : SWO (ltOf angC) where
  irrefl x := by rw [angC_lt, crs_self]; rfl
  trans x y z h1 h2 := by
    rw [angC_lt] at *
    have h1 := of_decide_eq_true h1
    have h2 := of_decide_eq_true h2
    exact decide_eq_true (crs_ltle x.2.1 y.2.1 z.2.1 h1 (Int.le_of_lt h2))
  ntrans x y z h1 h2 := by
    rw [angC_lt] at *
    have h1 := of_decide_eq_false h1
    have h2 := of_decide_eq_false h2
    refine decide_eq_false ?_
    have := crs_lele z.2.1 y.2.1 x.2.1 (by rw [crs_neg]; omega) (by rw [crs_neg]; omega)
    rw [crs_neg] at this
    omega
theorem u2_sm (a b : U2) : Sm (a.1.1 * b.1.2) ∧ Sm (a.1.2 * b.1.1) ∧ Wi (crs a.1 b.1) 562949953421312 := by
  have h1 := wi_mul a.2.2.1 b.2.2.2
  have h2 := wi_mul a.2.2.2 b.2.2.1
  obtain ⟨a1, a2⟩ := h1
  obtain ⟨b1, b2⟩ := h2
  refine ⟨⟨by omega, by omega⟩, ⟨by omega, by omega⟩, ?_⟩
  unfold crs cr
  exact ⟨by omega, by omega⟩

set_option maxRecDepth 100000 in
set_option maxHeartbeats 1000000 in
theorem cross_gr (a b c d : Int) (h1 : Sm (a * d)) (h2 : Sm (b * c)) (w : World) :
    Calls Try.prog 53 #[.agg #[.int .i64 a, .int .i64 b], .agg #[.int .i64 c, .int .i64 d]] w fun e w' => e = .returned (.int .i64 (cr a b c d)) ∧ w' = (w.alloc (.cells #[.int .i64 a, .int .i64 b] 39)).alloc (.cells #[.int .i64 c, .int .i64 d] 39) := by
  have h11 := h1.1
  have h12 := h1.2
  have h21 := h2.1
  have h22 := h2.2
  have e1 : IntKind.i64.wrap (a * d) = a * d := by rw [IntKind.wrap_i64]; omega
  have e2 : IntKind.i64.wrap (b * c) = b * c := by rw [IntKind.wrap_i64]; omega
  have e3 : IntKind.i64.wrap (a * d - b * c) = a * d - b * c := by rw [IntKind.wrap_i64]; omega
  unfold cr
  clear h1 h2
  go_enter Try.func53, Try.ntmps53
  go_wp2
  go_ret
  exact ⟨rfl, rfl⟩
theorem canonF_eg : ∀ args w, (callFunc 72 args).run Try.prog w = .ok (.enter 72 args) w := enters_of Try.func72 (by kernel_rfl) rfl
set_option maxRecDepth 100000 in
set_option maxHeartbeats 1000000 in
theorem canonF (x y : U2) (W : World) : Calls Try.prog 72 #[.agg #[.int .i64 x.1.1, .int .i64 x.1.2], .agg #[.int .i64 y.1.1, .int .i64 y.1.2]] W fun e w' => e = .returned (.int .i64 (angC x y)) ∧ ∃ q os', w' = grow (W.drewN q) os' := by
  have hcon := fun W' => AnyG.cmp_Compare_int Try.cc 0 (cr x.1.1 x.1.2 y.1.1 y.1.2) W'
  change ∀ W', Calls Try.prog 73 _ _ _ at hcon
  have hcr := fun W' => cross_gr x.1.1 x.1.2 y.1.1 y.1.2 (u2_sm x y).1 (u2_sm x y).2.1 W'
  unfold angC crs
  have HC := Lib.hid hcon
  have HR := Lib.hid hcr
  clear hcon hcr
  generalize cr x.1.1 x.1.2 y.1.1 y.1.2 = c at *
  generalize Lib.compareInt 0 c = r at *
  generalize x.1.1 = a0 at *
  generalize x.1.2 = a1 at *
  generalize y.1.1 = b0 at *
  generalize y.1.2 = b1 at *
  go_enter Try.func72, Try.ntmps72
  go_wp2_with (first | (go_at_call 53; refine (HR.out _).mono ?_; rintro e w' ⟨rfl, rfl⟩) | (go_at_call 73; refine (HC.out _).mono ?_; rintro e w' ⟨rfl, rfl⟩))
  go_ret
  exact ⟨rfl, 0, _, by rw [alloc_eq_grow, alloc_eq_grow, grow_grow, alloc_eq_grow, grow_grow, alloc_eq_grow, grow_grow]; rfl⟩

/-- The list with its bounds. -/
def bndU (l : List P2) (h : ∀ p ∈ l, Up p ∧ Bd 16777216 p) : List U2 := l.pmap (fun p hp => ⟨p, hp⟩) h
theorem bndU_map (l : List P2) (h : ∀ p ∈ l, Up p ∧ Bd 16777216 p) : (bndU l h).map Subtype.val = l := by simp [bndU, List.map_pmap]
theorem SortF_any {base : Nat} {A : Option Addr} {n cap : Nat} {l : List P2} (hl : ∀ x ∈ l, Up x ∧ Bd 16777216 x) (hn : l.length ≤ 1000) (hnl : n = l.length) (w : World) (hown : OwnP w base (.slice A n cap) l) (hb : base ≤ w.heap.size) :
    Calls Try.prog 71 #[.slice A n cap, .func (.func 72) #[] #[]] w fun e w' => e = .returned (.tuple #[]) ∧ ∃ s : List P2, s.Perm l ∧ (s.Pairwise fun a b => 0 ≤ crs a b) ∧ OwnP w' base (.slice A n cap) s ∧ Below base w w' := by
  subst hnl
  by_cases hne : l = []
  · subst hne
    exact (AnyF.slices_SortFunc_none Try.sf A cap _ w).mono fun e w' ⟨he, hw⟩ => ⟨he, [], List.Perm.refl _, List.Pairwise.nil, by rw [hw]; exact hown, by rw [hw]; exact Below.refl _ _⟩
  · have hpos : 0 < l.length := List.length_pos_iff.mpr hne
    rcases hown.2 with ⟨h0, h1⟩ | ⟨g, cap', cur, hv, hg, hh, hnc, hcm, hcs, htake⟩
    · omega
    cases hv
    have hz := bndU_map l hl
    have hH := holds_own (fun x : U2 => x.1) (bndU l hl) hz hown
    have hsz : (bndU l hl).length = l.length := by have := congrArg List.length hz; simpa using this
    have hlt : g < w.heap.size := (hown.lt g rfl).2
    have hcon := AnyQ.slices_SortFunc Try.sf 2 Try.isAgg39 Try.sizeOf39 (fun x : U2 => enc2 x.1) (fun _ => rfl) (fun x v hv => by simp [enc2] at hv; rcases hv with rfl | rfl <;> rfl) angC angC_swo 72 #[] g 0 cap (bndU l hl).toArray w canonF_eg (fun _ _ _ _ x y => canonF x y _) hH hlt (by simp [hsz]; omega)
    rw [show (bndU l hl).toArray.size = l.length by simp [hsz]] at hcon
    refine hcon.mono ?_
    rintro e w' ⟨he, d', n, os, hp, hs, rfl⟩
    have hd : d'.size = l.length := by rw [hp.1]; simp [hsz]
    refine ⟨he, d'.toList.map Subtype.val, ?_, ?_, own_sorted (fun x : U2 => x.1) d' hd hown, below_own (fun x : U2 => x.1) d' hown hb⟩
    · have h2 := hp.2.2
      have e1 : (d'.extract 0 l.length).toList = d'.toList := by simp [← hd]
      have e2 : ((bndU l hl).toArray.extract 0 l.length).toList = bndU l hl := by simp [← hsz]
      rw [e1, e2] at h2
      have h3 := h2.map Subtype.val
      rwa [hz] at h3
    · rw [List.pairwise_map, List.pairwise_iff_getElem]
      intro i j hi hj hij
      have h2 := hs i j (Nat.zero_le _) hij (by simpa [hd] using hj)
      rw [angC_lt] at h2
      have h3 := of_decide_eq_false h2
      have hi2 : i < d'.size := by simpa using hi
      have hj2 : j < d'.size := by simpa using hj
      rw [getElem!_pos d' i hi2, getElem!_pos d' j hj2] at h3
      rw [crs_neg] at h3
      simp only [Array.getElem_toList]
      omega
end Go.Proofs.Ytpjbkadhmjlpfaa
