/- decimalGroups. -/
import Derived.Test.YtgfoplokplnpgaaDoorFmt
namespace Go.Proofs.YtgfoplokplnpgaaDoor
open Go Go.RowKit Num

/-- The groups of nine decimal digits of n, the lowest ahead. -/
def groups (n : Nat) : List Nat := if n = 0 then [] else n % 1000000000 :: groups (n / 1000000000)
termination_by n
decreasing_by omega

theorem groups_zero : groups 0 = [] := by rw [groups, if_pos rfl]
theorem groups_pos {n : Nat} (h : n ≠ 0) : groups n = n % 1000000000 :: groups (n / 1000000000) := by rw [groups, if_neg h]
theorem groups_lt (n : Nat) : ∀ x ∈ groups n, x < 1000000000 := by
  induction n using Nat.strongRecOn with
  | _ n ih =>
    by_cases h : n = 0
    · rw [h, groups_zero]; intro x hx; cases hx
    · rw [groups_pos h]
      intro x hx
      rcases List.mem_cons.1 hx with rfl | hx
      · exact Nat.mod_lt _ (by omega)
      · exact ih _ (by omega) x hx
theorem groups_len : ∀ (k n : Nat), n < 2 ^ k → (groups n).length ≤ k
  | 0, n, h => by
    have : n = 0 := by simpa using h
    rw [this, groups_zero]; exact Nat.le_refl _
  | k + 1, n, h => by
    by_cases h0 : n = 0
    · rw [h0, groups_zero]; exact Nat.zero_le _
    · rw [groups_pos h0, List.length_cons]
      have := groups_len k (n / 1000000000) (by rw [Nat.pow_succ] at h; omega)
      omega
theorem groups_digs {n : Nat} (h : (digs n).length ≤ 100000) : (groups n).length ≤ 3200000 := by
  refine Nat.le_trans (groups_len (32 * (digs n).length) n ?_) (by omega)
  have h1 : n < 4294967296 ^ (digs n).length := by
    have := val_lt (digs_lt n)
    rwa [val_digs] at this
  rw [Nat.pow_mul]
  exact h1

/-- WHAT HOLDS AT THE LOOP's HEAD. -/
structure GrpAt (w wr : World) (n g cap : Nat) (vg : Value) (done : List Nat) (m : Nat) (ex : List Value) : Prop where
  row : wr.ownsRow (g + 1) 46 1 vg done.length (ws done)
  own : OwnX wr g (digs m) ex
  base : w.heap.size ≤ g
  cap0 : (digs m).length ≤ cap
  cap1 : cap ≤ maxLen
  eq : done ++ groups m = groups n
  below : Below w.heap.size w wr
  len : (digs m).length ≤ 100000

theorem GrpAt.room {w wr : World} {n g cap : Nat} {vg : Value} {done : List Nat} {m : Nat} {ex : List Value} (h : GrpAt w wr n g cap vg done m ex) (hn : (digs n).length ≤ 100000) : done.length ≤ 3200000 := by
  have h1 := groups_digs hn
  rw [← h.eq, List.length_append] at h1
  omega

/-- The groups at the loop's end, read. -/
theorem GrpAt.done {w wr : World} {n g cap : Nat} {vg : Value} {done : List Nat} {ex : List Value} (h : GrpAt w wr n g cap vg done 0 ex) : U32 wr vg (groups n) := by
  have he := h.eq
  rw [groups_zero, List.append_nil] at he
  have hl : ∀ x ∈ done, x < 4294967296 := fun x hx => by rw [he] at hx; have := groups_lt n x hx; omega
  rw [← he]
  by_cases hv : vg = .slice none 0 0
  · have : done.length = 0 := by
      rcases h.row.2 with ⟨_, h0⟩ | ⟨g', cap', cur, e, _⟩
      · exact h0
      · rw [hv] at e; cases e
    have hd := List.eq_nil_of_length_eq_zero this
    subst hv hd
    exact U32.nil none (Nat.zero_le _)
  · obtain ⟨g', cap', ex', rfl, _, ho, hc, hm⟩ := OwnX.of_row h.row hv
    exact ho.u32 hl hc hm

/-- One round: the number shortened (block g), the group's own block, the append, the trim. -/
theorem GrpAt.next {w wr w1 w2 : World} {n g cap : Nat} {vg vg' : Value} {done l' : List Nat} {m : Nat} {ex : List Value} (h : GrpAt w wr n g cap vg done m ex) (hm : m ≠ 0)
    (hl' : l'.length = (digs m).length) (hlt : ∀ x ∈ l', x < 4294967296) (hv : val l' = m / 1000000000) (ho : OwnX w1 g l' ex) (hg : wr.grownBy w1 (some g))
    (hrow : w2.ownsRow (g + 1) 46 1 vg' (done.length + 1) (ws done ++ [.int .u32 (m % 1000000000 : Nat)])) (hgr : (w1.alloc (.cells #[.int .u32 (m % 1000000000 : Nat)] 46)).grownBy w2 vg.ownBlock) :
    U32 w2 (.slice (some ⟨g, 0, none⟩) (digs m).length cap) l' ∧ ∃ ex', GrpAt w w2 n g cap vg' (done ++ [m % 1000000000]) (m / 1000000000) ex' := by
  have hne : some g ≠ vg.ownBlock := by
    intro e
    have := h.row.lt g e.symm
    omega
  have ho2 : OwnX w2 g l' ex := (ho.alloc _).grown hgr hne
  have hU := ho2.u32 hlt (cap := cap) (by rw [hl']; exact h.cap0) h.cap1
  rw [hl'] at hU
  have hd := digs_take hlt
  rw [hv] at hd
  have hk : (digs (m / 1000000000)).length ≤ l'.length := by rw [hd, List.length_take]; omega
  have hf := ho2.front (k := (digs (m / 1000000000)).length)
  rw [← hd] at hf
  refine ⟨hU, _, ?_, hf, h.base, by have := h.cap0; omega, h.cap1, ?_, ?_, by have := h.len; omega⟩
  · rw [List.length_append, ws_append]
    exact hrow
  · rw [List.append_assoc, List.singleton_append, ← groups_pos hm]; exact h.eq
  · have hB := h.base
    have hlt1 := ho.lt
    exact ((h.below.grown hg h.below.size (fun k hk => by injection hk with hk; omega)).alloc (by omega) _).grown hgr (by simp; omega) (fun k hk => by have := (h.row.lt k hk).1; omega)

theorem groups_start {w w1 : World} {n g cap : Nat} {ex : List Value} (hg : w.heap.size ≤ g) (ho : OwnX w1 g (digs n) ex) (h1 : (digs n).length ≤ cap) (h2 : cap ≤ maxLen) (hb : Below w.heap.size w w1) (hn : (digs n).length ≤ 100000) :
    GrpAt w w1 n g cap (.slice none 0 0) [] n ex :=
  ⟨World.ownsRow_nil _ _ _ _, ho, hg, h1, h2, rfl, hb, hn⟩

/-- The length of a slice. -/
def lenOf : Value → Nat | .slice _ k _ => k | _ => 0
theorem GrpAt.lenOf {w wr : World} {n g cap : Nat} {vg : Value} {done : List Nat} {m : Nat} {ex : List Value} (h : GrpAt w wr n g cap vg done m ex) : lenOf vg = done.length := by
  rcases h.row.2 with ⟨rfl, h0⟩ | ⟨g', cap', cur, rfl, _⟩
  · exact h0.symm
  · rfl
theorem groups_more {n m : Nat} {done : List Nat} (h : done ++ groups m = groups n) (hm : m ≠ 0) : done.length < (groups n).length := by
  rw [← h, groups_pos hm, List.length_append, List.length_cons]; omega

theorem row_ahead {w wr w1 : World} {n g cap : Nat} {vg : Value} {done : List Nat} {m : Nat} {ex : List Value} (h : GrpAt w wr n g cap vg done m ex) (hg : wr.grownBy w1 (some g)) (o : Obj) : (w1.alloc o).ownsRow (g + 1) 46 1 vg done.length (ws done) := by
  have h1 := h.row.kept hg (.inr fun e => by have := h.row.lt g e; omega)
  refine h1.kept (row := none) ⟨rfl, rfl, rfl, by simp, fun k hk _ => Below.heap_alloc _ _ _ hk⟩ ?_
  cases vg.ownBlock
  · exact .inl rfl
  · exact .inr (by simp)
theorem new_word (w : World) (r : Nat) : ∀ j u, [Value.int .u32 (r : Int)][j]? = some u → (w.alloc (.cells #[.int .u32 (r : Int)] 46)).cell? ((⟨w.heap.size, 0, none⟩ : Addr).add j) = some u := by
  intro j u hu
  match j, hu with
  | 0, hu =>
    rw [Addr.add]
    simp only [if_pos, World.cell?_alloc_new]
    exact hu
  | j + 1, hu => simp at hu

set_option maxRecDepth 100000 in
set_option maxHeartbeats 2000000 in
theorem decimalGroups_any (v : Value) (n : Nat) (w : World) (h : Mag w v n) (hn : (digs n).length ≤ 100000) :
    Calls Tryd.prog 56 #[v] w fun e w' => ∃ v', e = .returned v' ∧ U32 w' v' (groups n) ∧ Below w.heap.size w w' := by
  obtain ⟨i0, hi, hz0, hz1, hz2⟩ := info_parts info32
  have cc := clone_any v (digs n) w h (by omega)
  have HC := Lib.hid cc
  clear cc
  go_enter Tryd.func56, Tryd.ntmps56
  go_wp2_with fail
  refine HC.out.mono ?_
  rintro e w1 ⟨v1, rfl, hcl, hb1⟩
  rcases hcl with ⟨h0, rfl⟩ | ⟨g, cap, ex, rfl, hg, ho, hc1, hc2⟩
  · have hn0 := digs_eq_nil.1 h0
    subst hn0
    clear HC hn
    go_wp2
    go_loopw [3, 4] (fun a b wr => a = .slice none 0 0 ∧ b = .slice none 0 0 ∧ wr = w1) (fun _ _ _ => 0)
    case atStart => exact ⟨rfl, rfl, rfl⟩
    case round =>
      obtain ⟨rfl, rfl, rfl⟩ := hrel
      go_wp2
      go_returns
      refine ⟨_, rfl, ?_, hb1⟩
      rw [groups_zero]
      exact U32.nil none (Nat.zero_le _)
  · have hs := groups_start hg ho hc1 hc2 hb1 hn
    have HI := Lib.hid hi
    have HN := Lib.hid hn
    clear HC hi hn hc1 hc2 hb1 hg ho
    go_wp2
    go_loopw [3, 4] (fun a b wr => ∃ (done : List Nat) (m : Nat) (ex : List Value), b = .slice (some ⟨g, 0, none⟩) (digs m).length cap ∧ GrpAt w wr n g cap a done m ex) (fun a _ _ => (groups n).length - lenOf a)
    case atStart => exact ⟨[], n, ex, rfl, hs⟩
    case round =>
      clear hs
      obtain ⟨done, m, ex1, rfl, hs⟩ := hrel
      have hroom := hs.room HN.out
      have hlo := hs.lenOf
      by_cases hm : m = 0
      · subst hm
        have hd := hs.done
        have hb := hs.below
        clear hs hlo hroom
        rw [digs_zero] at *
        go_wp2
        go_returns
        exact ⟨_, rfl, hd, hb⟩
      · have hpos : 0 < (digs m).length := by
          rcases Nat.eq_zero_or_pos (digs m).length with h' | h'
          · exact absurd (digs_eq_nil.1 (List.eq_nil_of_length_eq_zero h')) hm
          · exact h'
        have hml := hs.len
        have cs := shorten_any g cap 1000000000 (digs m) ex1 wr hs.own (digs_lt m) (by omega) (by omega) (by omega) hs.cap0
        rw [val_digs] at cs
        have hmore := groups_more hs.eq hm
        have HM := Lib.hid hmore
        have HL := Lib.hid hlo
        have HS := Lib.hid hs
        have HNX := Lib.hid (fun w1 w2 vg' l' => hs.next (w1 := w1) (w2 := w2) (vg' := vg') (l' := l') hm)
        obtain ⟨r, hr⟩ : ∃ r, r = m % 1000000000 := ⟨_, rfl⟩
        have hr9 : r < 1000000000 := by omega
        rw [← hr] at cs HNX
        have CS := Lib.hid cs
        clear cs hs hmore hlo hr
        obtain ⟨K, hK⟩ : ∃ K, K = (digs m).length := ⟨_, rfl⟩
        rw [← hK] at hpos hml HNX CS ⊢
        have HK := Lib.hid hK
        clear hK
        go_wp2_with fail
        refine CS.out.mono ?_
        rintro e w2 ⟨rfl, l', hl', hlt', hv', ho', hgr⟩
        have hrow2 := row_ahead HS.out hgr (.cells #[.int .u32 (r : Int)] 46)
        have hgl : g + 1 ≤ w2.heap.size := ho'.lt
        go_wp2_with ((at_builtin; refine wpList_append_own _ rfl _ _ 22 rfl (g + 1) 46 i0 (.int .u32 0) 1 4 Tryd.underlying22 HI.out hz0 hz1 hz2 rfl (by decide) u3 done.length (ws done) rfl hrow2 ⟨w2.heap.size, 0, none⟩ 1 1 [.int .u32 (r : Int)] rfl rfl (new_word w2 r) (by intro u hu; simp at hu; subst hu; rfl) (by simp only [maxLen]; omega) (by omega) (by simp; omega) ?_; intro v3 w3 hown3 hgrow3 hnil3))
        obtain ⟨hU, ex', hs'⟩ := HNX.out w2 w3 v3 l' hl' hlt' hv' ho' hgr hown3 hgrow3
        refine (trim_any _ _ _ hU).mono ?_
        rintro e w4 ⟨v4, rfl, rfl, -, hf4⟩
        have e4 := hf4 _ _ _ rfl
        rw [hv'] at e4
        subst e4
        have hlo' := hs'.lenOf
        rw [List.length_append, List.length_singleton] at hlo'
        have HS' := Lib.hid hs'
        have HL' := Lib.hid hlo'
        clear hs' hlo' hU hl' hlt' hv' ho' hgr hown3 hgrow3 hnil3 hrow2 hf4
        go_wp2
        go_roundw
        case rel => exact ⟨_, _, _, rfl, HS'.out⟩
        case measure =>
          have h1 := HL.out
          have h2 := HL'.out
          have h3 := HM.out
          omega
end Go.Proofs.YtgfoplokplnpgaaDoor
