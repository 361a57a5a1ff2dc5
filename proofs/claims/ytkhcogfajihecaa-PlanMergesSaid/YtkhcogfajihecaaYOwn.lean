/- Rows of bytes of the call's own; slices.Clone of bytes. -/
import Derived.Test.YtkhcogfajihecaaY18
set_option linter.unusedSimpArgs false
set_option linter.unusedVariables false
set_option maxRecDepth 100000
namespace Go.Proofs.Ytkhcogfajihecaa
open Go Go.RowKit Hd

def vb (l : List Int) : List Value := l.map fun x => .int .u8 x
theorem vb_len (l : List Int) : (vb l).length = l.length := by simp [vb]
theorem vb_get (l : List Int) {i : Nat} (h : i < l.length) : (vb l)[i]? = some (.int .u8 (l.getD i 0)) := by
  unfold vb
  rw [List.getElem?_map, List.getElem?_eq_getElem h, List.getD_eq_getElem?_getD, List.getElem?_eq_getElem h]
  rfl
theorem vb_one (l : List Int) : ∀ u ∈ vb l, u.oneCell' = true := by
  intro u hu
  obtain ⟨x, -, rfl⟩ := List.mem_map.1 hu
  rfl
/-- A row of the call's own, in block g, that holds the bytes l. -/
def OwnV (w : World) (base g cap : Nat) (l : List Int) : Prop := w.ownsRow base 5 1 (.slice (some ⟨g, 0, none⟩) l.length cap) l.length (vb l)
section
variable {w w' : World} {base g cap : Nat} {l : List Int}
theorem OwnV.row (h : OwnV w base g cap l) : base ≤ g ∧ ∃ cur : Array Value, w.heap[g]? = some (.cells cur 5 (0, 0)) ∧ l.length ≤ cap ∧ cur.toList.take l.length = vb l := by
  rcases h.2 with ⟨h1, _⟩ | ⟨g', cap', cur, h1, hg, hh, hnc, hcm, hcs, ht⟩
  · cases h1
  · injection h1 with e1 _ e3
    injection e1 with e1
    injection e1 with e1 _ _
    subst e1 e3
    exact ⟨hg, cur, hh, hnc, by simpa using ht⟩
theorem OwnV.lt (h : OwnV w base g cap l) : g < w.heap.size := by
  obtain ⟨-, cur, hh, -⟩ := h.row
  rcases Nat.lt_or_ge g w.heap.size with h1 | h1
  · exact h1
  · rw [Array.getElem?_eq_none h1] at hh; cases hh
theorem OwnV.cell (h : OwnV w base g cap l) {i : Nat} (hi : i < l.length) : w.cell? ⟨g, i, none⟩ = some (.int .u8 (l.getD i 0)) := by
  obtain ⟨-, cur, hh, hnc, ht⟩ := h.row
  have e := vb_get l hi
  rw [← ht, List.getElem?_take, if_pos hi, Array.getElem?_toList] at e
  simp only [World.cell?, hh]
  simpa using e
theorem OwnV.frozen (h : OwnV w base g cap l) (i : Nat) : w.frozen? ⟨g, i, none⟩ = false := by
  obtain ⟨-, cur, hh, -⟩ := h.row
  simp [World.frozen?, hh]
theorem OwnV.below (h : OwnV w base g cap l) (hb : Below w.heap.size w w') : OwnV w' base g cap l := by
  refine ⟨h.1, ?_⟩
  rcases h.2 with h2 | ⟨g', cap', cur, h1, hg, hh, r⟩
  · exact .inl h2
  · refine .inr ⟨g', cap', cur, h1, hg, (hb.block g' ?_).trans hh, r⟩
    rcases Nat.lt_or_ge g' w.heap.size with h3 | h3
    · exact h3
    · rw [Array.getElem?_eq_none h3] at hh; cases hh
theorem OwnV.stored (h : OwnV w base g cap l) (i : Nat) (x : Int) : OwnV (w.setCell ⟨g, i, none⟩ (.int .u8 x)) base g cap (l.set i x) := by
  have k := (World.ownsRow.stored h i (.int .u8 x)).1
  unfold OwnV
  rw [List.length_set]
  have e : vb (l.set i x) = (vb l).set i (.int .u8 x) := by unfold vb; rw [List.map_set]
  rw [e]
  exact k
theorem OwnV.kb (h : OwnV w base g cap l) (hb : ∀ b ∈ l, 0 ≤ b ∧ b ≤ 255) : KB w base w.heap.size (some ⟨g, 0, none⟩) l.length cap l := by
  obtain ⟨hg, cur, hh, hnc, ht⟩ := h.row
  exact ⟨rfl, hnc, Nat.le_refl _, hb, fun _ => ⟨g, 0, rfl, ⟨hg, h.lt⟩, fun i hi => by rw [Nat.zero_add]; exact h.cell hi⟩⟩
end
set_option maxHeartbeats 2000000 in
theorem CloneB_is (A : Option Addr) (n c : Nat) (l : List Int) (hn1 : 1 ≤ n) (hn : n ≤ 1000000) (w : World) {lo hi : Nat} (L : KB w lo hi A n c l) :
    Calls Try.prog 60 #[.slice A n c] w fun e w' => ∃ g cap, e = .returned (.slice (some ⟨g, 0, none⟩) n cap) ∧ OwnV w' w.heap.size g cap l ∧ Below w.heap.size w w' := by
  obtain ⟨i0, hi, hz0, hz1, hz2⟩ := info_parts infoB
  have hl := L.len
  have hne : l ≠ [] := fun e => by rw [e] at hl; simp at hl; omega
  obtain ⟨g, o, rfl, hg, hc⟩ := L.row hne
  have hnews : ∀ j u, (vb l)[j]? = some u → w.cell? ((⟨g, o, none⟩ : Addr).add j) = some u := by
    intro j u hu
    rcases Nat.lt_or_ge j l.length with h1 | h1
    · rw [vb_get l h1] at hu
      injection hu with hu
      subst hu
      have := hc j h1
      unfold Addr.add
      split
      · rename_i e; subst e; simpa using this
      · exact this
    · rw [List.getElem?_eq_none (by rw [vb_len]; exact h1)] at hu; cases hu
  have q22 : ∀ (w : World) (a : Option Addr) (n c n' c' : Nat), (binOp .eql 22 (.slice a n c) (.slice none n' c')).run Try.prog w = .ok (.bool a.isNone) w := fun w a n c n' c' => Lib.run_eql_slice_nil w _ _ a n c n' c' Try.underlying22
  have HA := Lib.hid hnews
  have HI := Lib.hid hi
  have HLN := Lib.hid hl
  clear hnews hi hl L hc
  go_enter Try.func60, Try.ntmps60
  go_wp2_with (at_builtin; refine wpList_append_own _ rfl _ _ 22 rfl w.heap.size 5 i0 (.int .u8 0) 1 1 Try.underlying22 HI.out hz0 hz1 hz2 rfl (by decide) _ _ _ rfl (World.ownsRow_made w #[] 0 (Nat.le_refl _) (Nat.zero_le _) (by simp)) ⟨g, o, none⟩ n c (vb l) rfl ?qc1 ?qc2 ?qc3 ?qc4 ?qc5 ?qc6 ?_)
  case qc1 => rw [vb_len, HLN.out, Nat.mul_one]
  case qc2 => intro j u hj; exact Lib.cell?_alloc_some _ (HA.out j u hj)
  case qc3 => exact vb_one _
  case qc4 => unfold maxLen; omega
  case qc5 => omega
  case qc6 => simp
  intro v' w1 hown hgrow hnil
  have HB : Hid (Below w.heap.size w w1) := ((Below.refl _ w).alloc (Nat.le_refl _) _).grown hgrow (by simp) (by intro k hk; simp [Value.ownBlock] at hk; omega)
  obtain ⟨g', cap, rfl⟩ : ∃ g' cap, v' = .slice (some ⟨g', 0, none⟩) n cap := by
    rcases hown.2 with ⟨_, h0⟩ | ⟨g', cap, cur, hv, _⟩
    · omega
    · exact ⟨g', cap, by simpa using hv⟩
  have HO : Hid (OwnV w1 w.heap.size g' cap l) := by unfold Hid OwnV; rw [← HLN.out]; simpa using hown
  clear hown hgrow hnil
  go_wp2
  go_ret
  exact ⟨g', cap, rfl, HO.out, HB.out⟩
end Go.Proofs.Ytkhcogfajihecaa
