/- Builder: WriteByte, WriteString.
   FormatUint at base 10; digits.
   Parse at "-0".
   decimalGroups.
   Text: the numeral, in groups.
   Text. -/
import Derived.Test.YtccndofafljaaaaGreatDoorShelf
import Derived.Test.YtccndofafljaaaaGreatDoorLow
import Derived.Lib.ItoaMem
import Derived.Test.YtccndofafljaaaaGreatDoorInt7

set_option linter.unusedVariables false
set_option linter.unusedSimpArgs false

namespace Go.Proofs.YtccndofafljaaaaGreatDoor
open Go Go.RowKit Go.Shelf
def bld_ren : Go.Shelf.Ren := ⟨fun | 166 => 75 | 167 => 74 | 240 => 84 | 276 => 96 | n => n, fun | 0 => 0 | 3 => 3 | 4 => 4 | 5 => 5 | 9 => 9 | 20 => 20 | 37 => 93 | 70 => 92 | 72 => 95 | 75 => 97 | 80 => 103 | 164 => 122 | n => n, fun | n => n⟩
theorem lays240 : Go.Proofs.Lays.n240 Tryz.prog bld_ren := {
  mixed := by kernel_rfl
  f240 := Tryz.func84.trans (congrArg some (by kernel_rfl))
  f276 := Tryz.func96.trans (congrArg some (by kernel_rfl))
  t0 := Tryz.underlying0
  a0 := Tryz.isAgg0
  z0 := Tryz.sizeOf0
  v0 := Tryz.zeroValue0
  t4 := Tryz.underlying4
  a4 := Tryz.isAgg4
  z4 := Tryz.sizeOf4
  v4 := Tryz.zeroValue4
  t9 := Tryz.underlying9
  a9 := Tryz.isAgg9
  z9 := Tryz.sizeOf9
  v9 := Tryz.zeroValue9
  t20 := Tryz.underlying20
  a20 := Tryz.isAgg20
  z20 := Tryz.sizeOf20
  v20 := Tryz.zeroValue20
  t70 := Tryz.underlying92
  a70 := Tryz.isAgg92
  z70 := Tryz.sizeOf92
  v70 := Tryz.zeroValue92
  t72 := Tryz.underlying95
  a72 := Tryz.isAgg95
  z72 := Tryz.sizeOf95
  v72 := Tryz.zeroValue95
  t164 := Tryz.underlying122
  a164 := Tryz.isAgg122
  z164 := Tryz.sizeOf122
  v164 := Tryz.zeroValue122 }
theorem lays166 : Go.Proofs.Lays.n166 Tryz.prog bld_ren := {
  mixed := by kernel_rfl
  f166 := Tryz.func75.trans (congrArg some (by kernel_rfl))
  f240 := Tryz.func84.trans (congrArg some (by kernel_rfl))
  f276 := Tryz.func96.trans (congrArg some (by kernel_rfl))
  t0 := Tryz.underlying0
  a0 := Tryz.isAgg0
  z0 := Tryz.sizeOf0
  v0 := Tryz.zeroValue0
  t3 := Tryz.underlying3
  a3 := Tryz.isAgg3
  z3 := Tryz.sizeOf3
  v3 := Tryz.zeroValue3
  t4 := Tryz.underlying4
  a4 := Tryz.isAgg4
  z4 := Tryz.sizeOf4
  v4 := Tryz.zeroValue4
  t9 := Tryz.underlying9
  a9 := Tryz.isAgg9
  z9 := Tryz.sizeOf9
  v9 := Tryz.zeroValue9
  t20 := Tryz.underlying20
  a20 := Tryz.isAgg20
  z20 := Tryz.sizeOf20
  v20 := Tryz.zeroValue20
  t37 := Tryz.underlying93
  a37 := Tryz.isAgg93
  z37 := Tryz.sizeOf93
  v37 := Tryz.zeroValue93
  t70 := Tryz.underlying92
  a70 := Tryz.isAgg92
  z70 := Tryz.sizeOf92
  v70 := Tryz.zeroValue92
  t72 := Tryz.underlying95
  a72 := Tryz.isAgg95
  z72 := Tryz.sizeOf95
  v72 := Tryz.zeroValue95
  t75 := Tryz.underlying97
  a75 := Tryz.isAgg97
  z75 := Tryz.sizeOf97
  v75 := Tryz.zeroValue97
  t164 := Tryz.underlying122
  a164 := Tryz.isAgg122
  z164 := Tryz.sizeOf122
  v164 := Tryz.zeroValue122 }
theorem lays167 : Go.Proofs.Lays.n167 Tryz.prog bld_ren := {
  mixed := by kernel_rfl
  f167 := Tryz.func74.trans (congrArg some (by kernel_rfl))
  f240 := Tryz.func84.trans (congrArg some (by kernel_rfl))
  f276 := Tryz.func96.trans (congrArg some (by kernel_rfl))
  t0 := Tryz.underlying0
  a0 := Tryz.isAgg0
  z0 := Tryz.sizeOf0
  v0 := Tryz.zeroValue0
  t4 := Tryz.underlying4
  a4 := Tryz.isAgg4
  z4 := Tryz.sizeOf4
  v4 := Tryz.zeroValue4
  t5 := Tryz.underlying5
  a5 := Tryz.isAgg5
  z5 := Tryz.sizeOf5
  v5 := Tryz.zeroValue5
  t9 := Tryz.underlying9
  a9 := Tryz.isAgg9
  z9 := Tryz.sizeOf9
  v9 := Tryz.zeroValue9
  t20 := Tryz.underlying20
  a20 := Tryz.isAgg20
  z20 := Tryz.sizeOf20
  v20 := Tryz.zeroValue20
  t37 := Tryz.underlying93
  a37 := Tryz.isAgg93
  z37 := Tryz.sizeOf93
  v37 := Tryz.zeroValue93
  t70 := Tryz.underlying92
  a70 := Tryz.isAgg92
  z70 := Tryz.sizeOf92
  v70 := Tryz.zeroValue92
  t72 := Tryz.underlying95
  a72 := Tryz.isAgg95
  z72 := Tryz.sizeOf95
  v72 := Tryz.zeroValue95
  t75 := Tryz.underlying97
  a75 := Tryz.isAgg97
  z75 := Tryz.sizeOf97
  v75 := Tryz.zeroValue97
  t164 := Tryz.underlying122
  a164 := Tryz.isAgg122
  z164 := Tryz.sizeOf122
  v164 := Tryz.zeroValue122 }
theorem bld_extra : Builder.Extra Tryz.prog bld_ren := {
  sizeBuilder := by kernel_rfl
  liesBuilder := by kernel_rfl
  t5 := Tryz.underlying5
  a5 := Tryz.isAgg5
  z5 := Tryz.sizeOf5
  v5 := Tryz.zeroValue5
  infoByte := by kernel_rfl
  cellsByte := by kernel_rfl
  sizeByte := by kernel_rfl
  neB5 := by decide }
theorem writeByte_any (B b : Nat) (l : List UInt8) (c : UInt8) (w : World) (h : Lib.IsBuilder 95 5 B b (Lib.byteCells l) w) (hlen : l.length + 1 ≤ 140737488355328) (hBw : B ≤ w.heap.size) :
    Calls Tryz.prog 74 #[.pointer (some ⟨b, 0, none⟩), .int .u8 c.toNat] w fun e w' => e = .returned .nilIface ∧ Lib.IsBuilder 95 5 B b (Lib.byteCells (l ++ [c])) w' ∧ Below B w w' :=
  (Any.Builder_WriteByte lays167 bld_extra B b (Lib.byteCells l) c.toNat w h (by rw [Lib.byteCells_length]; exact hlen) hBw).mono fun e w' hh =>
    ⟨hh.1, Or.inr (by rw [Lib.byteCells_append]; exact hh.2.1), hh.2.2⟩
theorem writeString_any (B b : Nat) (l s : List UInt8) (w : World) (h : Lib.IsBuilder 95 5 B b (Lib.byteCells l) w) (hlen : l.length + s.length ≤ 140737488355328) (hBw : B ≤ w.heap.size) :
    Calls Tryz.prog 75 #[.pointer (some ⟨b, 0, none⟩), .string ⟨s.toArray⟩] w fun e w' => e = .returned (.tuple #[.int .i64 s.length, .nilIface]) ∧ Lib.IsBuilder 95 5 B b (Lib.byteCells (l ++ s)) w' ∧ Below B w w' := by
  refine (Any.Builder_WriteString lays166 bld_extra B b (Lib.byteCells l) ⟨s.toArray⟩ w h (by rw [Lib.byteCells_length]; exact hlen) hBw).mono fun e w' hh => ?_
  exact ⟨hh.1, Or.inr (by rw [Lib.byteCells_append]; exact hh.2.1), hh.2.2⟩
end Go.Proofs.YtccndofafljaaaaGreatDoor

namespace Go.Proofs.YtccndofafljaaaaGreatDoor
open Go Go.RowKit Num Go.Sort

/-- The listed table of the powers of ten. -/
abbrev Tab10 (w : World) : Prop := Lib.TabIs Tryz.prog w "internal/strconv.uint64pow10" .u64 Lib.pow10Tab

theorem tab_below {w w' : World} (h : Tab10 w) (hb : Below w.heap.size w w') : Tab10 w' := by
  unfold Tab10 Lib.TabIs World.var? at *
  cases hg : Tryz.prog.globalNamed "internal/strconv.uint64pow10" with
  | none => simp [hg] at h
  | some g =>
    simp only [hg, Option.bind_some] at h ⊢
    have hlt : g < w.heap.size := by
      rcases Nat.lt_or_ge g w.heap.size with h' | h'
      · exact h'
      · rw [Array.getElem?_eq_none h'] at h; simp at h
    rw [hb.block g hlt]
    exact h

theorem zeros_hold (w : World) (T : TypeId) (nd : Nat) (hs : nd ≤ 24) : Holds (fun (b : UInt8) => Value.int .u8 (b.toNat : Int)) (w.alloc (.cells Lib.zeros24 T)) w.heap.size 0 (Array.replicate nd (0 : UInt8)) := fun j hj => by
  have hj' : j < nd := by simpa using hj
  refine ⟨?_, World.frozen?_alloc_new _ _ _ _⟩
  rw [World.cell?_alloc_new, Lib.zeros24_at _ (by omega), getElem!_pos _ j hj]
  simp

theorem put_below (w : World) (o : Obj) (dk : Array UInt8) (k : Nat) : Below w.heap.size w ((putRow (fun (b : UInt8) => Value.int .u8 (b.toNat : Int)) (w.alloc o) w.heap.size 0 dk).drewN k) := by
  rw [alloc_eq_grow]
  obtain ⟨os', _, e⟩ := putRow_grow_new (fun (b : UInt8) => Value.int .u8 (b.toNat : Int)) w #[o] w.heap.size 0 dk (Nat.le_refl _)
  rw [e]
  refine ⟨rfl, rfl, rfl, ?_, fun i hi => ?_⟩
  · simp [World.drewN, grow]
  · simp [World.drewN, grow, Array.getElem?_append_left hi]

set_option maxRecDepth 100000 in
set_option maxHeartbeats 2000000 in
theorem FormatUint_in (u : Nat) (hu64 : u < 18446744073709551616) (w : World) (htab : Tab10 w) :
    Calls Tryz.prog 97 #[.int .u64 u, .int .i64 10] w fun e w' => e = .returned (.string ⟨(Lib.decDigits u).toArray⟩) ∧ Below w.heap.size w w' := by
  by_cases hs : u < 100
  · go_enter Tryz.func97, Tryz.ntmps97
    go_wp2_with (go_at_call 105; refine (Tryz.internal_strconv_small u hs _).mono ?_; rintro e w1 ⟨rfl, rfl⟩)
    go_ret
    exact ⟨rfl, Below.refl _ _⟩
  · have hu1 : 1 ≤ u := by omega
    have hnd20 : Lib.nDigits u ≤ 20 := by have := Lib.numDigits_eq u hu1 hu64; split at this <;> omega
    have hal : Tryz.prog.arrayLen 133 = 24 := by kernel_rfl
    have hsl : ∀ W, (Instr.sliceAt 133 (.pointer (some ⟨w.heap.size, 0, none⟩)) none (some (.int .i64 (Lib.nDigits u : Int))) none).run Tryz.prog W = .ok (.slice (some ⟨w.heap.size, 0, none⟩) (Lib.nDigits u) 24) W := fun W => by
      rw [run_sliceAt_array_h W 133 ⟨w.heap.size, 0, none⟩ (by simp [Program.arrayLen, Program.elem, Tryz.underlying133]) .i64 (Lib.nDigits u : Int) (by omega) (by rw [hal]; omega)]
      go_simp
      try omega
    have hH0 := zeros_hold w 133 (Lib.nDigits u) (by omega)
    have hfmt := Tryz.internal_strconv_formatBase10 w.heap.size 0 24 u (Array.replicate (Lib.nDigits u) 0) (w.alloc (.cells Lib.zeros24 133)) hH0 (by rw [Array.size_replicate]; exact Lib.lt_pow_nDigits u) hu64 (by rw [Array.size_replicate]; omega)
    rw [Array.size_replicate] at hfmt
    have HH0 := Lib.hid hH0
    clear hH0 hal
    go_enter Tryz.func97, Tryz.ntmps97
    go_wp2_with (go_at_call 106; refine (Tryz.internal_strconv_numDigits u hu1 hu64 _ (Lib.tabIs_alloc htab _)).mono ?_; rintro e w1 ⟨rfl, rfl⟩)
    go_at_call 107
    refine hfmt.mono ?_
    rintro e w1 ⟨rfl, k, v', dk, rfl, hF⟩
    have hcv : (convert 93 9 (.slice (some ⟨w.heap.size, 0, none⟩) (Lib.nDigits u) 24)).run Tryz.prog ((putRow (fun (b : UInt8) => Value.int .u8 (b.toNat : Int)) (w.alloc (.cells Lib.zeros24 133)) w.heap.size 0 dk).drewN k) = .ok (.string ⟨(Lib.decDigits u).toArray⟩) ((putRow (fun (b : UInt8) => Value.int .u8 (b.toNat : Int)) (w.alloc (.cells Lib.zeros24 133)) w.heap.size 0 dk).drewN k) := by
      have h := run_convert_bytes_back (P := Tryz.prog) ((putRow (fun (b : UInt8) => Value.int .u8 (b.toNat : Int)) (w.alloc (.cells Lib.zeros24 133)) w.heap.size 0 dk).drewN k) 93 9 5 ⟨w.heap.size, 0, none⟩ 24 (Lib.decDigits u) Tryz.underlying93 Tryz.underlying5 Tryz.underlying9 (fun j hj => by
        rw [Lib.row_is_numeral hF j hj, Lib.add_plain, World.cell?_drewN]
        exact cell?_putRow (fun (b : UInt8) => Value.int .u8 (b.toNat : Int)) _ w.heap.size 0 _ dk HH0.out (by rw [hF.size, Array.size_replicate]) j (by rw [hF.size]; rw [Lib.decDigits_length] at hj; exact hj))
      rw [Lib.decDigits_length] at h
      exact h
    go_wp2
    go_ret
    exact ⟨rfl, put_below w _ dk k⟩

theorem FormatUint_any (u : Nat) (hu64 : u < 18446744073709551616) (w : World) (htab : Tab10 w) :
    Calls Tryz.prog 85 #[.int .u64 u, .int .i64 10] w fun e w' => e = .returned (.string ⟨(Lib.decDigits u).toArray⟩) ∧ Below w.heap.size w w' := by
  go_enter Tryz.func85, Tryz.ntmps85
  go_wp2_with (go_at_call 97; refine (FormatUint_in u hu64 _ htab).mono ?_; rintro e w1 ⟨rfl, hb1⟩)
  go_ret
  exact ⟨rfl, hb1⟩

theorem digits_any (u : Nat) (hu : u < 4294967296) (w : World) (htab : Tab10 w) :
    Calls Tryz.prog 76 #[.int .u32 u] w fun e w' => e = .returned (.string ⟨(Lib.decDigits u).toArray⟩) ∧ Below w.heap.size w w' := by
  go_enter Tryz.func76, Tryz.ntmps76
  go_wp2_with (go_at_call 85; refine (FormatUint_any u (by omega) _ htab).mono ?_; rintro e w1 ⟨rfl, hb1⟩)
  go_ret
  exact ⟨rfl, hb1⟩
end Go.Proofs.YtccndofafljaaaaGreatDoor

namespace Go.Proofs.YtccndofafljaaaaGreatDoor
open Go Go.RowKit Num

end Go.Proofs.YtccndofafljaaaaGreatDoor

namespace Go.Proofs.YtccndofafljaaaaGreatDoor
open Go Go.RowKit Num

/-- The groups of nine decimal digits of n, the lowest ahead. -/
def groups (n : Nat) : List Nat := if n = 0 then [] else n % 1000000000 :: groups (n / 1000000000)
termination_by n
decreasing_by omega

theorem groups_zero : groups 0 = [] := by rw [groups, if_pos rfl]
theorem groups_pos {n : Nat} (h : n ≠ 0) : groups n = n % 1000000000 :: groups (n / 1000000000) := by rw [groups, if_neg h]
theorem groups_lt (n : Nat) : ∀ x ∈ groups n, x < 1000000000 := by
  induction n using Nat.strongRecOn with
  | _ n ih =>
    by_cases h : n = 0
    · rw [h, groups_zero]; intro x hx; cases hx
    · rw [groups_pos h]
      intro x hx
      rcases List.mem_cons.1 hx with rfl | hx
      · exact Nat.mod_lt _ (by omega)
      · exact ih _ (by omega) x hx
theorem groups_len : ∀ (k n : Nat), n < 2 ^ k → (groups n).length ≤ k
  | 0, n, h => by
    have : n = 0 := by simpa using h
    rw [this, groups_zero]; exact Nat.le_refl _
  | k + 1, n, h => by
    by_cases h0 : n = 0
    · rw [h0, groups_zero]; exact Nat.zero_le _
    · rw [groups_pos h0, List.length_cons]
      have := groups_len k (n / 1000000000) (by rw [Nat.pow_succ] at h; omega)
      omega
theorem groups_digs {n : Nat} (h : (digs n).length ≤ 100000) : (groups n).length ≤ 3200000 := by
  refine Nat.le_trans (groups_len (32 * (digs n).length) n ?_) (by omega)
  have h1 : n < 4294967296 ^ (digs n).length := by
    have := val_lt (digs_lt n)
    rwa [val_digs] at this
  rw [Nat.pow_mul]
  exact h1

/-- WHAT HOLDS AT THE LOOP's HEAD. -/
structure GrpAt (w wr : World) (n g cap : Nat) (vg : Value) (done : List Nat) (m : Nat) (ex : List Value) : Prop where
  row : wr.ownsRow (g + 1) 69 1 vg done.length (ws done)
  own : OwnX wr g (digs m) ex
  base : w.heap.size ≤ g
  cap0 : (digs m).length ≤ cap
  cap1 : cap ≤ maxLen
  eq : done ++ groups m = groups n
  below : Below w.heap.size w wr
  len : (digs m).length ≤ 100000

theorem GrpAt.room {w wr : World} {n g cap : Nat} {vg : Value} {done : List Nat} {m : Nat} {ex : List Value} (h : GrpAt w wr n g cap vg done m ex) (hn : (digs n).length ≤ 100000) : done.length ≤ 3200000 := by
  have h1 := groups_digs hn
  rw [← h.eq, List.length_append] at h1
  omega

/-- The groups at the loop's end, read. -/
theorem GrpAt.done {w wr : World} {n g cap : Nat} {vg : Value} {done : List Nat} {ex : List Value} (h : GrpAt w wr n g cap vg done 0 ex) : U32 wr vg (groups n) := by
  have he := h.eq
  rw [groups_zero, List.append_nil] at he
  have hl : ∀ x ∈ done, x < 4294967296 := fun x hx => by rw [he] at hx; have := groups_lt n x hx; omega
  rw [← he]
  by_cases hv : vg = .slice none 0 0
  · have : done.length = 0 := by
      rcases h.row.2 with ⟨_, h0⟩ | ⟨g', cap', cur, e, _⟩
      · exact h0
      · rw [hv] at e; cases e
    have hd := List.eq_nil_of_length_eq_zero this
    subst hv hd
    exact U32.nil none (Nat.zero_le _)
  · obtain ⟨g', cap', ex', rfl, _, ho, hc, hm⟩ := OwnX.of_row h.row hv
    exact ho.u32 hl hc hm

/-- One round: the number shortened (block g), the group's own block, the append, the trim. -/
theorem GrpAt.next {w wr w1 w2 : World} {n g cap : Nat} {vg vg' : Value} {done l' : List Nat} {m : Nat} {ex : List Value} (h : GrpAt w wr n g cap vg done m ex) (hm : m ≠ 0)
    (hl' : l'.length = (digs m).length) (hlt : ∀ x ∈ l', x < 4294967296) (hv : val l' = m / 1000000000) (ho : OwnX w1 g l' ex) (hg : wr.grownBy w1 (some g))
    (hrow : w2.ownsRow (g + 1) 69 1 vg' (done.length + 1) (ws done ++ [.int .u32 (m % 1000000000 : Nat)])) (hgr : (w1.alloc (.cells #[.int .u32 (m % 1000000000 : Nat)] 69)).grownBy w2 vg.ownBlock) :
    U32 w2 (.slice (some ⟨g, 0, none⟩) (digs m).length cap) l' ∧ ∃ ex', GrpAt w w2 n g cap vg' (done ++ [m % 1000000000]) (m / 1000000000) ex' := by
  have hne : some g ≠ vg.ownBlock := by
    intro e
    have := h.row.lt g e.symm
    omega
  have ho2 : OwnX w2 g l' ex := (ho.alloc _).grown hgr hne
  have hU := ho2.u32 hlt (cap := cap) (by rw [hl']; exact h.cap0) h.cap1
  rw [hl'] at hU
  have hd := digs_take hlt
  rw [hv] at hd
  have hk : (digs (m / 1000000000)).length ≤ l'.length := by rw [hd, List.length_take]; omega
  have hf := ho2.front (k := (digs (m / 1000000000)).length)
  rw [← hd] at hf
  refine ⟨hU, _, ?_, hf, h.base, by have := h.cap0; omega, h.cap1, ?_, ?_, by have := h.len; omega⟩
  · rw [List.length_append, ws_append]
    exact hrow
  · rw [List.append_assoc, List.singleton_append, ← groups_pos hm]; exact h.eq
  · have hB := h.base
    have hlt1 := ho.lt
    exact ((h.below.grown hg h.below.size (fun k hk => by injection hk with hk; omega)).alloc (by omega) _).grown hgr (by simp; omega) (fun k hk => by have := (h.row.lt k hk).1; omega)

theorem groups_start {w w1 : World} {n g cap : Nat} {ex : List Value} (hg : w.heap.size ≤ g) (ho : OwnX w1 g (digs n) ex) (h1 : (digs n).length ≤ cap) (h2 : cap ≤ maxLen) (hb : Below w.heap.size w w1) (hn : (digs n).length ≤ 100000) :
    GrpAt w w1 n g cap (.slice none 0 0) [] n ex :=
  ⟨World.ownsRow_nil _ _ _ _, ho, hg, h1, h2, rfl, hb, hn⟩

/-- The length of a slice. -/
def lenOf : Value → Nat | .slice _ k _ => k | _ => 0
theorem GrpAt.lenOf {w wr : World} {n g cap : Nat} {vg : Value} {done : List Nat} {m : Nat} {ex : List Value} (h : GrpAt w wr n g cap vg done m ex) : lenOf vg = done.length := by
  rcases h.row.2 with ⟨rfl, h0⟩ | ⟨g', cap', cur, rfl, _⟩
  · exact h0.symm
  · rfl
theorem groups_more {n m : Nat} {done : List Nat} (h : done ++ groups m = groups n) (hm : m ≠ 0) : done.length < (groups n).length := by
  rw [← h, groups_pos hm, List.length_append, List.length_cons]; omega

theorem row_ahead {w wr w1 : World} {n g cap : Nat} {vg : Value} {done : List Nat} {m : Nat} {ex : List Value} (h : GrpAt w wr n g cap vg done m ex) (hg : wr.grownBy w1 (some g)) (o : Obj) : (w1.alloc o).ownsRow (g + 1) 69 1 vg done.length (ws done) := by
  have h1 := h.row.kept hg (.inr fun e => by have := h.row.lt g e; omega)
  refine h1.kept (row := none) ⟨rfl, rfl, rfl, by simp, fun k hk _ => Below.heap_alloc _ _ _ hk⟩ ?_
  cases vg.ownBlock
  · exact .inl rfl
  · exact .inr (by simp)
theorem new_word (w : World) (r : Nat) : ∀ j u, [Value.int .u32 (r : Int)][j]? = some u → (w.alloc (.cells #[.int .u32 (r : Int)] 69)).cell? ((⟨w.heap.size, 0, none⟩ : Addr).add j) = some u := by
  intro j u hu
  match j, hu with
  | 0, hu =>
    rw [Addr.add]
    simp only [if_pos, World.cell?_alloc_new]
    exact hu
  | j + 1, hu => simp at hu

set_option maxRecDepth 100000 in
set_option maxHeartbeats 2000000 in
theorem decimalGroups_any (v : Value) (n : Nat) (w : World) (h : Mag w v n) (hn : (digs n).length ≤ 100000) :
    Calls Tryz.prog 73 #[v] w fun e w' => ∃ v', e = .returned v' ∧ U32 w' v' (groups n) ∧ Below w.heap.size w w' := by
  obtain ⟨i0, hi, hz0, hz1, hz2⟩ := info_parts info32
  have cc := clone_any v (digs n) w h (by omega)
  have HC := Lib.hid cc
  clear cc
  go_enter Tryz.func73, Tryz.ntmps73
  go_wp2_with fail
  refine HC.out.mono ?_
  rintro e w1 ⟨v1, rfl, hcl, hb1⟩
  rcases hcl with ⟨h0, rfl⟩ | ⟨g, cap, ex, rfl, hg, ho, hc1, hc2⟩
  · have hn0 := digs_eq_nil.1 h0
    subst hn0
    clear HC hn
    go_wp2
    go_loopw [3, 4] (fun a b wr => a = .slice none 0 0 ∧ b = .slice none 0 0 ∧ wr = w1) (fun _ _ _ => 0)
    case atStart => exact ⟨rfl, rfl, rfl⟩
    case round =>
      obtain ⟨rfl, rfl, rfl⟩ := hrel
      go_wp2
      go_returns
      refine ⟨_, rfl, ?_, hb1⟩
      rw [groups_zero]
      exact U32.nil none (Nat.zero_le _)
  · have hs := groups_start hg ho hc1 hc2 hb1 hn
    have HI := Lib.hid hi
    have HN := Lib.hid hn
    clear HC hi hn hc1 hc2 hb1 hg ho
    go_wp2
    go_loopw [3, 4] (fun a b wr => ∃ (done : List Nat) (m : Nat) (ex : List Value), b = .slice (some ⟨g, 0, none⟩) (digs m).length cap ∧ GrpAt w wr n g cap a done m ex) (fun a _ _ => (groups n).length - lenOf a)
    case atStart => exact ⟨[], n, ex, rfl, hs⟩
    case round =>
      clear hs
      obtain ⟨done, m, ex1, rfl, hs⟩ := hrel
      have hroom := hs.room HN.out
      have hlo := hs.lenOf
      by_cases hm : m = 0
      · subst hm
        have hd := hs.done
        have hb := hs.below
        clear hs hlo hroom
        rw [digs_zero] at *
        go_wp2
        go_returns
        exact ⟨_, rfl, hd, hb⟩
      · have hpos : 0 < (digs m).length := by
          rcases Nat.eq_zero_or_pos (digs m).length with h' | h'
          · exact absurd (digs_eq_nil.1 (List.eq_nil_of_length_eq_zero h')) hm
          · exact h'
        have hml := hs.len
        have cs := shorten_any g cap 1000000000 (digs m) ex1 wr hs.own (digs_lt m) (by omega) (by omega) (by omega) hs.cap0
        rw [val_digs] at cs
        have hmore := groups_more hs.eq hm
        have HM := Lib.hid hmore
        have HL := Lib.hid hlo
        have HS := Lib.hid hs
        have HNX := Lib.hid (fun w1 w2 vg' l' => hs.next (w1 := w1) (w2 := w2) (vg' := vg') (l' := l') hm)
        obtain ⟨r, hr⟩ : ∃ r, r = m % 1000000000 := ⟨_, rfl⟩
        have hr9 : r < 1000000000 := by omega
        rw [← hr] at cs HNX
        have CS := Lib.hid cs
        clear cs hs hmore hlo hr
        obtain ⟨K, hK⟩ : ∃ K, K = (digs m).length := ⟨_, rfl⟩
        rw [← hK] at hpos hml HNX CS ⊢
        have HK := Lib.hid hK
        clear hK
        go_wp2_with fail
        refine CS.out.mono ?_
        rintro e w2 ⟨rfl, l', hl', hlt', hv', ho', hgr⟩
        have hrow2 := row_ahead HS.out hgr (.cells #[.int .u32 (r : Int)] 69)
        have hgl : g + 1 ≤ w2.heap.size := ho'.lt
        go_wp2_with ((at_builtin; refine wpList_append_own _ rfl _ _ 22 rfl (g + 1) 69 i0 (.int .u32 0) 1 4 Tryz.underlying22 HI.out hz0 hz1 hz2 rfl (by decide) u3 done.length (ws done) rfl hrow2 ⟨w2.heap.size, 0, none⟩ 1 1 [.int .u32 (r : Int)] rfl rfl (new_word w2 r) (by intro u hu; simp at hu; subst hu; rfl) (by simp only [maxLen]; omega) (by omega) (by simp; omega) ?_; intro v3 w3 hown3 hgrow3 hnil3))
        obtain ⟨hU, ex', hs'⟩ := HNX.out w2 w3 v3 l' hl' hlt' hv' ho' hgr hown3 hgrow3
        refine (trim_any _ _ _ hU).mono ?_
        rintro e w4 ⟨v4, rfl, rfl, -, hf4⟩
        have e4 := hf4 _ _ _ rfl
        rw [hv'] at e4
        subst e4
        have hlo' := hs'.lenOf
        rw [List.length_append, List.length_singleton] at hlo'
        have HS' := Lib.hid hs'
        have HL' := Lib.hid hlo'
        clear hs' hlo' hU hl' hlt' hv' ho' hgr hown3 hgrow3 hnil3 hrow2 hf4
        go_wp2
        go_roundw
        case rel => exact ⟨_, _, _, rfl, HS'.out⟩
        case measure =>
          have h1 := HL.out
          have h2 := HL'.out
          have h3 := HM.out
          omega
end Go.Proofs.YtccndofafljaaaaGreatDoor

namespace Go.Proofs.YtccndofafljaaaaGreatDoor
open Go Go.RowKit Num Go.Lib

theorem groups_drop : ∀ (i n : Nat), (groups n).drop i = groups (n / 1000000000 ^ i)
  | 0, n => by rw [Nat.pow_zero, Nat.div_one]; rfl
  | i + 1, n => by
    by_cases h : n = 0
    · subst h
      rw [Nat.zero_div, groups_zero]; rfl
    · rw [groups_pos h, List.drop_succ_cons, groups_drop i, Nat.pow_succ, Nat.mul_comm, Nat.div_div_eq_div_mul]
theorem groups_nil {n : Nat} : groups n = [] ↔ n = 0 := by
  constructor
  · intro h
    by_cases h0 : n = 0
    · exact h0
    · rw [groups_pos h0] at h; cases h
  · rintro rfl; exact groups_zero
theorem groups_at {n i : Nat} (h : i < (groups n).length) : n / 1000000000 ^ i ≠ 0 ∧ (groups n).getD i 0 = n / 1000000000 ^ i % 1000000000 := by
  have hd := groups_drop i n
  have h1 : n / 1000000000 ^ i ≠ 0 := by
    intro h0
    rw [h0, groups_zero, List.drop_eq_nil_iff] at hd
    omega
  refine ⟨h1, ?_⟩
  rw [groups_pos h1, List.drop_eq_getElem_cons h] at hd
  injection hd with e _
  rw [← e]
  simp [List.getD, h]
theorem groups_out {n i : Nat} (h : (groups n).length ≤ i) : n / 1000000000 ^ i = 0 := by
  have hd := groups_drop i n
  rw [List.drop_eq_nil_iff.2 h] at hd
  exact groups_nil.1 hd.symm
theorem pow9 (n i : Nat) : n / 1000000000 ^ i / 1000000000 = n / 1000000000 ^ (i + 1) := by
  rw [Nat.div_div_eq_div_mul, ← Nat.pow_succ]

/-- k decimal places of x. -/
def places : Nat → Nat → List UInt8
  | 0, _ => []
  | k + 1, x => places k (x / 10) ++ [UInt8.ofNat (48 + x % 10)]
theorem digits_places : ∀ (k n : Nat), 10 ^ k ≤ n → decDigits n = decDigits (n / 10 ^ k) ++ places k (n % 10 ^ k)
  | 0, n, _ => by rw [Nat.pow_zero, Nat.div_one, places, List.append_nil]
  | k + 1, n, h => by
    have hp : 0 < 10 ^ k := Nat.pow_pos (by omega)
    have h10 : ¬ n < 10 := by rw [Nat.pow_succ] at h; omega
    have ih := digits_places k (n / 10) (by rw [Nat.pow_succ] at h; omega)
    have e0 := decDigits.eq_1 n
    rw [dif_neg h10] at e0
    rw [e0, ih, places, Nat.div_div_eq_div_mul, ← List.append_assoc]
    have e1 : 10 * 10 ^ k = 10 ^ (k + 1) := by rw [Nat.pow_succ, Nat.mul_comm]
    have e2 : n / 10 % 10 ^ k = n % 10 ^ (k + 1) / 10 := by
      rw [← e1, Nat.mod_mul_right_div_self]
    have e3 : n % 10 ^ (k + 1) % 10 = n % 10 := by
      rw [← e1, Nat.mod_mul_right_mod]
    rw [e1, e2, e3]
theorem nDigits_le : ∀ (k x : Nat), x < 10 ^ (k + 1) → nDigits x ≤ k + 1
  | 0, x, h => by rw [nDigits_small (by simpa using h)]; omega
  | k + 1, x, h => by
    by_cases h0 : x < 10
    · rw [nDigits_small h0]; omega
    · rw [nDigits_big h0]
      have := nDigits_le k (x / 10) (by rw [Nat.pow_succ] at h; omega)
      omega
theorem places_pad : ∀ (k x : Nat), x < 10 ^ (k + 1) → places (k + 1) x = List.replicate (k + 1 - nDigits x) 48 ++ decDigits x
  | 0, x, h => by
    have h0 : x < 10 := by simpa using h
    rw [nDigits_small h0, decDigits, dif_pos h0, places, places, Nat.mod_eq_of_lt h0]; rfl
  | k + 1, x, h => by
    rw [places]
    by_cases h0 : x < 10
    · have h1 : x / 10 = 0 := by omega
      rw [h1, places_pad k 0 (Nat.pow_pos (by omega)), nDigits_small h0, nDigits_small (by omega), decDigits, dif_pos (by omega), decDigits, dif_pos h0, Nat.mod_eq_of_lt h0, List.append_assoc]
      have : (UInt8.ofNat (48 + 0)) = 48 := rfl
      rw [this, ← List.append_assoc, show k + 1 + 1 - 1 = (k + 1 - 1) + 1 from by omega, List.replicate_succ']
    · have ih := places_pad k (x / 10) (by rw [Nat.pow_succ] at h; omega)
      have e0 := decDigits.eq_1 x
      rw [dif_neg h0] at e0
      rw [ih, e0, nDigits_big h0, ← List.append_assoc, show k + 1 + 1 - (nDigits (x / 10) + 1) = k + 1 - nDigits (x / 10) from by omega]
/-- One group more. -/
theorem digits_group {n : Nat} (h : 1000000000 ≤ n) : decDigits n = decDigits (n / 1000000000) ++ (List.replicate (9 - (decDigits (n % 1000000000)).length) 48 ++ decDigits (n % 1000000000)) := by
  have h1 := digits_places 9 n h
  rw [show (10 : Nat) ^ 9 = 1000000000 from rfl] at h1
  rw [h1, places_pad 8 _ (by have := Nat.mod_lt n (show 1000000000 > 0 by omega); simpa using this), decDigits_length]
theorem nDigits_two : ∀ (k x : Nat), x < 2 ^ k → nDigits x ≤ k + 1
  | 0, x, h => by rw [nDigits_small (by have : x = 0 := by simpa using h
                                        omega)]; omega
  | k + 1, x, h => by
    by_cases h0 : x < 10
    · rw [nDigits_small h0]; omega
    · rw [nDigits_big h0]
      have := nDigits_two k (x / 10) (by rw [Nat.pow_succ] at h; omega)
      omega
theorem digits_room {n : Nat} (h : (digs n).length ≤ 100000) (m : Nat) (hm : m ≤ n) : (decDigits m).length ≤ 3200001 := by
  rw [decDigits_length]
  refine Nat.le_trans (nDigits_two (32 * (digs n).length) m ?_) (by omega)
  have h1 : n < 4294967296 ^ (digs n).length := by
    have := val_lt (digs_lt n)
    rwa [val_digs] at this
  rw [Nat.pow_mul]
  exact Nat.lt_of_le_of_lt hm h1
theorem repeat_zero (c : Nat) : repeatL [48] c = List.replicate c (48 : UInt8) := by
  induction c with
  | zero => rfl
  | succ c ih => simp [repeatL, ih, List.replicate_succ]

theorem bld_below {B b : Nat} {bs : List Value} {w w' : World} (h : IsBuilder 95 5 B b bs w) (hb : Below w.heap.size w w') : IsBuilder 95 5 B b bs w' := by
  have key : ∀ p, BuilderAt 95 5 B b p bs w → BuilderAt 95 5 B b p bs w' := by
    intro p hp
    have hlt := hp.lt
    obtain ⟨hB, v, hh, ho, hne⟩ := hp
    refine ⟨hB, v, (hb.block b hlt).trans hh, ho.kept (row := none) ⟨hb.os, hb.tape, hb.output, hb.size, fun i hi _ => hb.block i hi⟩ ?_, hne⟩
    cases v.ownBlock
    · exact .inl rfl
    · exact .inr (by simp)
  exact h.imp (key _) (key _)
end Go.Proofs.YtccndofafljaaaaGreatDoor

namespace Go.Proofs.YtccndofafljaaaaGreatDoor
open Go Go.RowKit Num Go.Lib

abbrev Bld (B b : Nat) (l : List UInt8) (w : World) : Prop := IsBuilder 95 5 B b (byteCells l) w

/-- The text of a number of a sign and a magnitude. -/
def signText (s : Bool) : List UInt8 := if s then [45] else []
theorem signText_len (s : Bool) : (signText s).length ≤ 1 := by cases s <;> simp [signText]

/-- WHAT HOLDS AT THE LOOP's HEAD: the groups from j on are written. -/
structure TxtAt (w w1 wr : World) (s : Bool) (n j : Nat) (vg : Value) : Prop where
  bld : Bld w1.heap.size w1.heap.size (signText s ++ decDigits (n / 1000000000 ^ j)) wr
  gs : U32 w1 vg (groups n)
  below1 : Below w1.heap.size w1 wr
  below : Below w.heap.size w w1
  j : j < (groups n).length

theorem TxtAt.u32 {w w1 wr : World} {s : Bool} {n j : Nat} {vg : Value} (h : TxtAt w w1 wr s n j vg) : U32 wr vg (groups n) := h.gs.below h.below1

/-- A small part's text and its padding, written behind what is there. -/
theorem TxtAt.next {w w1 wr w6 : World} {s : Bool} {n j : Nat} {vg : Value} (h : TxtAt w w1 wr s n (j + 1) vg) {l1 l2 : List UInt8}
    (h6 : Bld w1.heap.size w1.heap.size (signText s ++ decDigits (n / 1000000000 ^ (j + 1)) ++ l1 ++ l2) w6) (e1 : l1 ++ l2 = List.replicate (9 - (decDigits (n / 1000000000 ^ j % 1000000000)).length) 48 ++ decDigits (n / 1000000000 ^ j % 1000000000))
    (hb : Below w1.heap.size w1 w6) : TxtAt w w1 w6 s n j vg := by
  refine ⟨?_, h.gs, hb, h.below, Nat.lt_of_succ_lt h.j⟩
  have h1 := (groups_at h.j).1
  rw [← pow9] at h1
  have h2 : 1000000000 ≤ n / 1000000000 ^ j := by
    generalize n / 1000000000 ^ j = q at h1
    omega
  rw [digits_group h2, pow9, ← e1, ← List.append_assoc, ← List.append_assoc]
  exact h6

theorem u32_lt {w : World} {v : Value} {l : List Nat} (h : U32 w v l) : l.length ≤ maxLen := by
  obtain ⟨A, c, _, h1, h2, _⟩ := h.form
  omega

theorem Text_form {w : World} {A : Option Addr} {L c : Nat} {l : List Nat} (h : U32 w (.slice A L c) l) {k : Nat} (hk : l.length = k + 1) :
    ∃ b o, A = some ⟨b, o, none⟩ ∧ b < w.heap.size ∧ ∀ i, i < k + 1 → w.cell? ⟨b, o + i, none⟩ = some (.int .u32 (l.getD i 0 : Nat)) := by
  obtain ⟨A', c', e, _, _, hf⟩ := h.form
  obtain ⟨b, o, rfl, h1, h2⟩ := hf (by intro h0; rw [h0] at hk; simp at hk)
  injection e with e1 _ _
  exact ⟨b, o, e1, h1, fun i hi => h2 i (by omega)⟩

set_option maxRecDepth 100000 in
set_option maxHeartbeats 4000000 in
theorem Text_zero (s : Bool) (m : Value) (l : List Nat) (w : World) (h : U32 w m l) (hz : val l = 0) :
    Calls Tryz.prog 59 #[.agg #[.bool s, m]] w fun e w' => e = .returned (.string ⟨#[48]⟩) ∧ Below w.heap.size w w' := by
  have bA := Box.new w s m
  have hb0 : Below w.heap.size w (w.alloc (.cells #[.bool s, m] 24)) := (Below.refl w.heap.size w).alloc (Nat.le_refl _) _
  have h' := h.below hb0
  have cA0 := bA.c0
  have cA1 := bA.c1
  have fA0 := bA.f0
  have fA1 := bA.f1
  have c0 := trim_any m l _ h'
  have HC := Lib.hid c0
  clear c0
  go_enter Tryz.func59, Tryz.ntmps59
  go_wp2_with fail
  refine HC.out.mono ?_
  rintro e w1 ⟨v1, rfl, rfl, hm1, -⟩
  have hmag := hm1 _ h'
  rw [hz] at hmag
  clear hm1 HC
  go_wp2_with fail
  refine (decimalGroups_any v1 0 _ hmag (by rw [digs_zero]; simp)).mono ?_
  rintro e w2 ⟨v2, rfl, hu2, hb2⟩
  rw [groups_zero] at hu2
  obtain ⟨A, c, rfl, -⟩ := id hu2.form
  have hbf := hb0.trans (hb2.mono (by simp))
  clear hu2 hb2 hmag h h'
  go_wp2
  go_ret
  exact ⟨rfl, hbf⟩

set_option maxRecDepth 100000 in
set_option maxHeartbeats 4000000 in
theorem Text_more (s : Bool) (m : Value) (l : List Nat) (w : World) (h : U32 w m l) (hz : val l ≠ 0) (hn : (digs (val l)).length ≤ 100000) (htab : Tab10 w) :
    Calls Tryz.prog 59 #[.agg #[.bool s, m]] w fun e w' => e = .returned (.string ⟨(signText s ++ decDigits (val l)).toArray⟩) ∧ Below w.heap.size w w' := by
  have bA := Box.new w s m
  have hb0 : Below w.heap.size w (w.alloc (.cells #[.bool s, m] 24)) := (Below.refl w.heap.size w).alloc (Nat.le_refl _) _
  have h' := h.below hb0
  have cA0 := bA.c0
  have cA1 := bA.c1
  have fA0 := bA.f0
  have fA1 := bA.f1
  have c0 := trim_any m l _ h'
  have HC := Lib.hid c0
  clear c0
  generalize hN : val l = n at *
  have HZ := Lib.hid hz
  have HN := Lib.hid hn
  clear hz hn hN
  go_enter Tryz.func59, Tryz.ntmps59
  go_wp2_with fail
  refine HC.out.mono ?_
  rintro e w1 ⟨v1, rfl, rfl, hm1, -⟩
  have hmag := hm1 _ h'
  clear hm1 HC h h'
  go_wp2_with fail
  refine (decimalGroups_any v1 n _ hmag HN.out).mono ?_
  rintro e w2 ⟨v2, rfl, hu2, hb2⟩
  obtain ⟨A, c, rfl, -⟩ := id hu2.form
  have hbf := hb0.trans (hb2.mono (by simp))
  have htab2 := tab_below htab hbf
  have bA2 := Box.below bA hb2 (by simp)
  have bA3 := bA2.alloc (.cells #[.pointer none, .slice none 0 0] 95)
  have cB0 := bA3.c0
  have cB1 := bA3.c1
  have fB0 := bA3.f0
  have fB1 := bA3.f1
  have hlen : 0 < (groups n).length := by
    rcases Nat.eq_zero_or_pos (groups n).length with h0 | h0
    · exact absurd (groups_nil.1 (List.eq_nil_of_length_eq_zero h0)) HZ.out
    · exact h0
  have hlen2 := groups_digs HN.out
  have HT := Lib.hid htab2
  have HU := Lib.hid hu2
  have HB := Lib.hid hbf
  obtain ⟨k, hk⟩ : ∃ k, (groups n).length = k + 1 := ⟨(groups n).length - 1, by omega⟩
  have HK := Lib.hid hk
  rw [hk] at hlen2 ⊢
  clear hb2 hmag htab htab2 hu2 hbf bA hb0 bA2 bA3 cA0 cA1 fA0 fA1 hlen hk
  cases s
  · have hB3 : Bld w2.heap.size w2.heap.size (signText false) (w2.alloc (.cells #[.pointer none, .slice none 0 0] 95)) := fresh_isBuilder _ _ w2
    have hb3 : Below w2.heap.size w2 (w2.alloc (.cells #[.pointer none, .slice none 0 0] 95)) := (Below.refl _ _).alloc (Nat.le_refl _) _
    obtain ⟨b, o, rfl, hbl, hcl⟩ := Text_form HU.out HK.out
    have hx := hcl k (by omega)
    have hxs := groups_at (n := n) (i := k) (by have := HK.out; omega)
    have hxl : (groups n).getD k 0 < 1000000000 := by rw [hxs.2]; exact Nat.mod_lt _ (by omega)
    have hxe : Hid ((groups n).getD k 0 = n / 1000000000 ^ k) := by
      have h1 := groups_out (n := n) (i := k + 1) (by have := HK.out; omega)
      rw [← pow9] at h1
      rw [Hid, hxs.2]
      generalize n / 1000000000 ^ k = q at h1
      omega
    have hx3 := (hb3.cell (p := ⟨b, o + k, none⟩) hbl).trans hx
    clear hx hxs
    have hcl2 : Hid (∀ i, i < k + 1 → w2.cell? ⟨b, o + i, none⟩ = some (.int .u32 ((groups n).getD i 0 : Nat))) := hcl
    clear hcl
    generalize (groups n).getD k 0 = x at *
    have HT3 := Lib.hid (tab_below HT.out hb3)
    go_wp2_with fail
    refine (digits_any x (by omega) _ HT3.out).mono ?_
    rintro e w4 ⟨rfl, hb4⟩
    have hl4 : (decDigits x).length ≤ 3200001 := by
      rw [decDigits_length]
      exact Nat.le_trans (nDigits_le 8 x (by simpa using hxl)) (by omega)
    have hB4 := bld_below hB3 hb4
    have hb24 := hb3.trans (hb4.mono hb3.size)
    have hsl := signText_len false
    clear hB3 hb4 hb3
    go_wp2_with fail
    refine (writeString_any _ _ _ _ _ hB4 (by first | omega | (simp only [List.length_append, List.length_nil, List.length_singleton]; omega)) hb24.size).mono ?_
    rintro e w5 ⟨rfl, hB5, hb5⟩
    have hs : TxtAt w w2 w5 false n k (.slice (some ⟨b, o, none⟩) (k + 1) c) := ⟨by rw [← hxe.out]; exact hB5, HK.out ▸ HU.out, hb24.trans hb5, HB.out, by rw [HK.out]; omega⟩
    clear hB4 hB5 hb5 hb24 hl4 HT3 hxe hx3 hxl hsl
    go_wp2
    go_loopw [6, 7] (fun i _ wr => ∃ j : Nat, i = .int .i64 ((j : Int) - 1) ∧ TxtAt w w2 wr false n j (.slice (some ⟨b, o, none⟩) (k + 1) c)) (fun i _ _ => (RowKit.intOf i + 1).toNat)
    case atStart => exact ⟨k, rfl, hs⟩
    case round =>
      clear hs
      obtain ⟨j, rfl, hs⟩ := hrel
      rcases j with _ | j
      · have hB := hs.bld
        have hb := hs.below1
        have hfin := hs.below.trans (hb.mono hs.below.size)
        clear hs
        go_wp2_with fail
        refine (Tryz.Builder_String_any _ _ _ _ hB hb.size).mono ?_
        rintro e w6 ⟨rfl, hb6⟩
        have hfin2 := hfin.trans (hb6.mono HB.out.size)
        rw [Nat.pow_zero, Nat.div_one]
        clear hB hb hb6 hfin
        go_wp2
        go_ret
        exact ⟨rfl, hfin2⟩
      · have ei : ((j + 1 : Nat) : Int) - 1 = (j : Int) := by omega
        rw [ei]
        have hj := hs.j
        rw [HK.out] at hj
        have hxs := groups_at (n := n) (i := j) (by rw [HK.out]; omega)
        have hx := (hs.below1.cell (p := ⟨b, o + j, none⟩) hbl).trans (hcl2.out j (by omega))
        have hyl : (groups n).getD j 0 < 1000000000 := by rw [hxs.2]; exact Nat.mod_lt _ (by omega)
        have HY : Hid ((groups n).getD j 0 = n / 1000000000 ^ j % 1000000000) := hxs.2
        clear hxs
        generalize (groups n).getD j 0 = y at *
        have HS := Lib.hid hs
        have HT3 := Lib.hid (tab_below (tab_below HT.out (hs.below1.mono (Nat.le_refl _))) (Below.refl _ _))
        clear hs
        have hd9 : (decDigits y).length ≤ 9 := by rw [decDigits_length]; exact nDigits_le 8 y (by simpa using hyl)
        have cy := fun W (h : Tab10 W) => digits_any y (by omega) W h
        obtain ⟨L, hL⟩ : ∃ L, L = decDigits y := ⟨_, rfl⟩
        rw [← hL] at hd9 cy
        have CY := Lib.hid cy
        have HL := Lib.hid hL
        clear cy hL
        obtain ⟨d, hd⟩ : ∃ d, L.length = 9 - d ∧ d ≤ 9 := ⟨9 - L.length, by omega, by omega⟩
        go_wp2_with fail
        refine (CY.out _ HT3.out).mono ?_
        rintro e w3' ⟨rfl, hb3'⟩
        have hB3' := bld_below HS.out.bld hb3'
        have hbw := HS.out.below1.trans (hb3'.mono HS.out.below1.size)
        have hroom := digits_room HN.out (n / 1000000000 ^ (j + 1)) (Nat.div_le_self _ _)
        have hsl := signText_len false
        have cr : Calls Tryz.prog 77 #[.string ⟨#[48]⟩, .int .i64 (d : Int)] w3' fun e w' => e = .returned (.string ⟨(List.replicate d (48 : UInt8)).toArray⟩) ∧ Below w3'.heap.size w3' w' := by
          rw [← repeat_zero]
          exact Tryz.strings_Repeat ⟨#[48]⟩ d w3' (by omega) (by show 1 * d ≤ _; omega)
        have e9 : (9 : Int) - (L.length : Int) = (d : Int) := by omega
        have CR := Lib.hid cr
        have E9 := Lib.hid e9
        have HD := Lib.hid hd
        clear cr hb3' e9 hd
        go_wp2_with fail
        rw [E9.out]
        refine CR.out.mono ?_
        rintro e w4' ⟨rfl, hb4'⟩
        have hB4' := bld_below hB3' hb4'
        have hbw4 := hbw.trans (hb4'.mono hbw.size)
        clear hB3' hbw hb4' CR E9
        have hd2 := HD.out.2
        have hd1 : L.length ≤ 9 := by have := HD.out.1; omega
        go_wp2_with fail
        refine (writeString_any _ _ _ _ _ hB4' (by simp only [List.length_append, List.length_replicate]; omega) hbw4.size).mono ?_
        rintro e w5' ⟨rfl, hB5', hb5'⟩
        have hbw5 := hbw4.trans hb5'
        clear hB4' hbw4 hb5'
        go_wp2_with fail
        refine (writeString_any _ _ _ _ _ hB5' (by simp only [List.length_append, List.length_replicate]; omega) hbw5.size).mono ?_
        rintro e w6' ⟨rfl, hB6', hb6'⟩
        have hbw6 := hbw5.trans hb6'
        have hnx := TxtAt.next HS.out hB6' (by rw [← HY.out, ← HL.out, HD.out.1, show 9 - (9 - d) = d from by omega]) hbw6
        clear hB5' hbw5 hB6' hb6' hbw6
        go_wp2
        go_roundw
        case rel => exact ⟨j, by go_num, hnx⟩
        case measure => simp only [RowKit.intOf]; omega
  · have hB0 : Bld w2.heap.size w2.heap.size [] (w2.alloc (.cells #[.pointer none, .slice none 0 0] 95)) := fresh_isBuilder _ _ w2
    have hb0 : Below w2.heap.size w2 (w2.alloc (.cells #[.pointer none, .slice none 0 0] 95)) := (Below.refl _ _).alloc (Nat.le_refl _) _
    go_wp2_with fail
    refine (writeByte_any _ _ _ 45 _ hB0 (by simp) hb0.size).mono ?_
    rintro e w3 ⟨rfl, hB3, hb3'⟩
    have hb3 := hb0.trans hb3'
    clear hb3' hB0 hb0 cB0 cB1 fB0 fB1
    obtain ⟨b, o, rfl, hbl, hcl⟩ := Text_form HU.out HK.out
    have hx := hcl k (by omega)
    have hxs := groups_at (n := n) (i := k) (by have := HK.out; omega)
    have hxl : (groups n).getD k 0 < 1000000000 := by rw [hxs.2]; exact Nat.mod_lt _ (by omega)
    have hxe : Hid ((groups n).getD k 0 = n / 1000000000 ^ k) := by
      have h1 := groups_out (n := n) (i := k + 1) (by have := HK.out; omega)
      rw [← pow9] at h1
      rw [Hid, hxs.2]
      generalize n / 1000000000 ^ k = q at h1
      omega
    have hx3 := (hb3.cell (p := ⟨b, o + k, none⟩) hbl).trans hx
    clear hx hxs
    have hcl2 : Hid (∀ i, i < k + 1 → w2.cell? ⟨b, o + i, none⟩ = some (.int .u32 ((groups n).getD i 0 : Nat))) := hcl
    clear hcl
    generalize (groups n).getD k 0 = x at *
    have HT3 := Lib.hid (tab_below HT.out hb3)
    go_wp2_with fail
    refine (digits_any x (by omega) _ HT3.out).mono ?_
    rintro e w4 ⟨rfl, hb4⟩
    have hl4 : (decDigits x).length ≤ 3200001 := by
      rw [decDigits_length]
      exact Nat.le_trans (nDigits_le 8 x (by simpa using hxl)) (by omega)
    have hB4 := bld_below hB3 hb4
    have hb24 := hb3.trans (hb4.mono hb3.size)
    have hsl := signText_len true
    clear hB3 hb4 hb3
    go_wp2_with fail
    refine (writeString_any _ _ _ _ _ hB4 (by first | omega | (simp only [List.length_append, List.length_nil, List.length_singleton]; omega)) hb24.size).mono ?_
    rintro e w5 ⟨rfl, hB5, hb5⟩
    have hs : TxtAt w w2 w5 true n k (.slice (some ⟨b, o, none⟩) (k + 1) c) := ⟨by rw [← hxe.out]; exact hB5, HK.out ▸ HU.out, hb24.trans hb5, HB.out, by rw [HK.out]; omega⟩
    clear hB4 hB5 hb5 hb24 hl4 HT3 hxe hx3 hxl hsl
    go_wp2
    go_loopw [6, 7] (fun i _ wr => ∃ j : Nat, i = .int .i64 ((j : Int) - 1) ∧ TxtAt w w2 wr true n j (.slice (some ⟨b, o, none⟩) (k + 1) c)) (fun i _ _ => (RowKit.intOf i + 1).toNat)
    case atStart => exact ⟨k, rfl, hs⟩
    case round =>
      clear hs
      obtain ⟨j, rfl, hs⟩ := hrel
      rcases j with _ | j
      · have hB := hs.bld
        have hb := hs.below1
        have hfin := hs.below.trans (hb.mono hs.below.size)
        clear hs
        go_wp2_with fail
        refine (Tryz.Builder_String_any _ _ _ _ hB hb.size).mono ?_
        rintro e w6 ⟨rfl, hb6⟩
        have hfin2 := hfin.trans (hb6.mono HB.out.size)
        rw [Nat.pow_zero, Nat.div_one]
        clear hB hb hb6 hfin
        go_wp2
        go_ret
        exact ⟨rfl, hfin2⟩
      · have ei : ((j + 1 : Nat) : Int) - 1 = (j : Int) := by omega
        rw [ei]
        have hj := hs.j
        rw [HK.out] at hj
        have hxs := groups_at (n := n) (i := j) (by rw [HK.out]; omega)
        have hx := (hs.below1.cell (p := ⟨b, o + j, none⟩) hbl).trans (hcl2.out j (by omega))
        have hyl : (groups n).getD j 0 < 1000000000 := by rw [hxs.2]; exact Nat.mod_lt _ (by omega)
        have HY : Hid ((groups n).getD j 0 = n / 1000000000 ^ j % 1000000000) := hxs.2
        clear hxs
        generalize (groups n).getD j 0 = y at *
        have HS := Lib.hid hs
        have HT3 := Lib.hid (tab_below (tab_below HT.out (hs.below1.mono (Nat.le_refl _))) (Below.refl _ _))
        clear hs
        have hd9 : (decDigits y).length ≤ 9 := by rw [decDigits_length]; exact nDigits_le 8 y (by simpa using hyl)
        have cy := fun W (h : Tab10 W) => digits_any y (by omega) W h
        obtain ⟨L, hL⟩ : ∃ L, L = decDigits y := ⟨_, rfl⟩
        rw [← hL] at hd9 cy
        have CY := Lib.hid cy
        have HL := Lib.hid hL
        clear cy hL
        obtain ⟨d, hd⟩ : ∃ d, L.length = 9 - d ∧ d ≤ 9 := ⟨9 - L.length, by omega, by omega⟩
        go_wp2_with fail
        refine (CY.out _ HT3.out).mono ?_
        rintro e w3' ⟨rfl, hb3'⟩
        have hB3' := bld_below HS.out.bld hb3'
        have hbw := HS.out.below1.trans (hb3'.mono HS.out.below1.size)
        have hroom := digits_room HN.out (n / 1000000000 ^ (j + 1)) (Nat.div_le_self _ _)
        have hsl := signText_len true
        have cr : Calls Tryz.prog 77 #[.string ⟨#[48]⟩, .int .i64 (d : Int)] w3' fun e w' => e = .returned (.string ⟨(List.replicate d (48 : UInt8)).toArray⟩) ∧ Below w3'.heap.size w3' w' := by
          rw [← repeat_zero]
          exact Tryz.strings_Repeat ⟨#[48]⟩ d w3' (by omega) (by show 1 * d ≤ _; omega)
        have e9 : (9 : Int) - (L.length : Int) = (d : Int) := by omega
        have CR := Lib.hid cr
        have E9 := Lib.hid e9
        have HD := Lib.hid hd
        clear cr hb3' e9 hd
        go_wp2_with fail
        rw [E9.out]
        refine CR.out.mono ?_
        rintro e w4' ⟨rfl, hb4'⟩
        have hB4' := bld_below hB3' hb4'
        have hbw4 := hbw.trans (hb4'.mono hbw.size)
        clear hB3' hbw hb4' CR E9
        have hd2 := HD.out.2
        have hd1 : L.length ≤ 9 := by have := HD.out.1; omega
        go_wp2_with fail
        refine (writeString_any _ _ _ _ _ hB4' (by simp only [List.length_append, List.length_replicate]; omega) hbw4.size).mono ?_
        rintro e w5' ⟨rfl, hB5', hb5'⟩
        have hbw5 := hbw4.trans hb5'
        clear hB4' hbw4 hb5'
        go_wp2_with fail
        refine (writeString_any _ _ _ _ _ hB5' (by simp only [List.length_append, List.length_replicate]; omega) hbw5.size).mono ?_
        rintro e w6' ⟨rfl, hB6', hb6'⟩
        have hbw6 := hbw5.trans hb6'
        have hnx := TxtAt.next HS.out hB6' (by rw [← HY.out, ← HL.out, HD.out.1, show 9 - (9 - d) = d from by omega]) hbw6
        clear hB5' hbw5 hB6' hb6' hbw6
        go_wp2
        go_roundw
        case rel => exact ⟨j, by go_num, hnx⟩
        case measure => simp only [RowKit.intOf]; omega
end Go.Proofs.YtccndofafljaaaaGreatDoor
