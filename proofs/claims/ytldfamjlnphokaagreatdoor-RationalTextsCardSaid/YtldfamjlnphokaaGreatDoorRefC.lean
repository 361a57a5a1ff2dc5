/- The reference: add, sub.
   The reference: sub.
   The reference: Abs. -/
import Derived.Test.YtldfamjlnphokaaGreatDoorRefB
import Derived.Test.YtldfamjlnphokaaGreatDoorRefA
import Derived.Test.YtldfamjlnphokaaGreatDoorMagn

set_option linter.unusedVariables false
set_option linter.unusedSimpArgs false

namespace Go.Proofs.YtldfamjlnphokaaGreatDoor
open Go Go.RowKit Num

/-- A slice of words that the call itself appends to. -/
structure OutAt (w wr : World) (v : Value) (done : List Nat) : Prop where
  row : wr.ownsRow w.heap.size 49 1 v done.length (ws done)
  below : Below w.heap.size w wr
theorem OutAt.start (w : World) : OutAt w w (.slice none 0 0) [] := ⟨World.ownsRow_nil _ _ _ _, Below.refl _ _⟩
theorem OutAt.u32 {w wr : World} {v : Value} {done : List Nat} (h : OutAt w wr v done) (hl : ∀ x ∈ done, x < 4294967296) : U32 wr v done := by
  by_cases hv : v = .slice none 0 0
  · have : done.length = 0 := by
      rcases h.row.2 with ⟨_, h0⟩ | ⟨g', cap', cur, e, _⟩
      · exact h0
      · rw [hv] at e; cases e
    have hd := List.eq_nil_of_length_eq_zero this
    subst hv hd
    exact U32.nil none (Nat.zero_le _)
  · obtain ⟨g', cap', ex', rfl, _, ho, hc, hm⟩ := OwnX.of_row h.row hv
    exact ho.u32 hl hc hm
theorem OutAt.ahead {w wr : World} {v : Value} {done : List Nat} (h : OutAt w wr v done) (o : Obj) : (wr.alloc o).ownsRow w.heap.size 49 1 v done.length (ws done) := by
  refine h.row.kept (row := none) ⟨rfl, rfl, rfl, by simp, fun k hk _ => Below.heap_alloc _ _ _ hk⟩ ?_
  cases v.ownBlock
  · exact .inl rfl
  · exact .inr (by simp)
theorem OutAt.next {w wr w2 : World} {v v' : Value} {done : List Nat} {x : Nat} (h : OutAt w wr v done)
    (hrow : w2.ownsRow w.heap.size 49 1 v' (done.length + 1) (ws done ++ [.int .u32 (x : Int)])) (hgr : (wr.alloc (.cells #[.int .u32 (x : Int)] 49)).grownBy w2 v.ownBlock) : OutAt w w2 v' (done ++ [x]) := by
  refine ⟨?_, ?_⟩
  · rw [List.length_append, ws_append]
    exact hrow
  · exact (h.below.alloc h.below.size _).grown hgr (by have := h.below.size; simp; omega) (fun k hk => (h.row.lt k hk).1)
theorem OutAt.form {w wr : World} {v : Value} {done : List Nat} (h : OutAt w wr v done) : ∃ A c, v = .slice A done.length c := by
  rcases h.row.2 with ⟨rfl, h0⟩ | ⟨g', cap', cur, rfl, _⟩
  · exact ⟨none, 0, by rw [h0]⟩
  · exact ⟨_, _, rfl⟩

/-- What holds at the head of add's loop. -/
structure RAddAt (w wr : World) (l1 l2 : List Nat) (k c : Nat) (v : Value) (done : List Nat) : Prop where
  out : OutAt w wr v done
  len : done.length = k
  lt : ∀ x ∈ done, x < 4294967296
  carry : c < 2
  eq : val done + 4294967296 ^ k * c = val (l1.take k) + val (l2.take k)
theorem RAddAt.step {w wr w2 : World} {l1 l2 : List Nat} {k c : Nat} {v v' : Value} {done : List Nat} (h : RAddAt w wr l1 l2 k c v done) (h1 : ∀ x ∈ l1, x < 4294967296) (h2 : ∀ x ∈ l2, x < 4294967296) {s : Nat} (hs : c + l1.getD k 0 + l2.getD k 0 = s)
    (hrow : w2.ownsRow w.heap.size 49 1 v' (done.length + 1) (ws done ++ [.int .u32 ((s % 4294967296 : Nat) : Int)])) (hgr : (wr.alloc (.cells #[.int .u32 ((s % 4294967296 : Nat) : Int)] 49)).grownBy w2 v.ownBlock) :
    RAddAt w w2 l1 l2 (k + 1) (s / 4294967296) v' (done ++ [s % 4294967296]) := by
  have a1 := getD_lt h1 k
  have a2 := getD_lt h2 k
  have hc := h.carry
  refine ⟨h.out.next hrow hgr, by simp [h.len], ?_, by omega, ?_⟩
  · intro x hx
    rcases List.mem_append.1 hx with hx | hx
    · exact h.lt x hx
    · simp at hx; omega
  · subst hs
    rw [val_snoc, h.len, val_take_succ, val_take_succ, Nat.pow_succ]
    exact carry_step h.eq
theorem RAddAt.done {w wr : World} {l1 l2 : List Nat} {k : Nat} {v : Value} {done : List Nat} (h : RAddAt w wr l1 l2 k 0 v done) (h1 : l1.length ≤ k) (h2 : l2.length ≤ k) : U32 wr v done ∧ val done = val l1 + val l2 := by
  refine ⟨h.out.u32 h.lt, ?_⟩
  have e := h.eq
  rw [List.take_of_length_le h1, List.take_of_length_le h2] at e
  omega

theorem mod_word (s : Nat) : ((s % 4294967296 : Nat) : Int) = (s : Int) % 4294967296 := by omega

set_option maxRecDepth 100000 in
set_option maxHeartbeats 4000000 in
theorem radd_any (v1 v2 : Value) (l1 l2 : List Nat) (w : World) (h1 : U32 w v1 l1) (h2 : U32 w v2 l2) (hn1 : l1.length ≤ 500000) (hn2 : l2.length ≤ 500000) :
    Calls Tryz.prog 99 #[v1, v2] w fun e w' => ∃ A c, e = .returned (.slice A (digs (val l1 + val l2)).length c) ∧ Mag w' (.slice A (digs (val l1 + val l2)).length c) (val l1 + val l2) ∧ Below w.heap.size w w' := by
  obtain ⟨i0, hi, hz0, hz1, hz2⟩ := info_parts info32
  obtain ⟨A1, cap1, rfl, hc1, hm1, hf1⟩ := id h1.form
  obtain ⟨A2, cap2, rfl, hc2, hm2, hf2⟩ := id h2.form
  have HI := Lib.hid hi
  have HF1 := Lib.hid hf1
  have HF2 := Lib.hid hf2
  have HL := Lib.hid (And.intro h1.lt h2.lt)
  clear hi hf1 hf2 h1 h2 hm1 hm2
  go_enter Tryz.func99, Tryz.ntmps99
  go_wp2
  go_loopw [5, 6, 7] (fun v cy i wr => ∃ (k c : Nat) (done : List Nat), k ≤ 500001 ∧ cy = .int .u64 c ∧ i = .int .i64 k ∧ RAddAt w wr l1 l2 k c v done ∧ (k ≤ l1.length ∨ k ≤ l2.length ∨ c = 0)) (fun _ cy i _ => 2 * (max l1.length l2.length - (intOf i).toNat) + (intOf cy).toNat)
  case atStart => exact ⟨0, 0, [], by omega, rfl, rfl, ⟨OutAt.start w, rfl, by simp, by omega, by simp [val]⟩, by omega⟩
  case round =>
    obtain ⟨k, c, done, hk, rfl, rfl, hs, hkc⟩ := hrel
    have hcy := hs.carry
    have hlen := hs.len
    have hb := hs.out.below
    have hsz := hb.size
    have a1 := getD_lt HL.out.1 k
    have a2 := getD_lt HL.out.2 k
    obtain ⟨s, hse⟩ : ∃ s : Nat, c + l1.getD k 0 + l2.getD k 0 = s := ⟨_, rfl⟩
    have hrow2 := hs.out.ahead (.cells #[.int .u32 ((s % 4294967296 : Nat) : Int)] 49)
    have hmw := (mod_word s).symm
    have HS := Lib.hid hs
    have HN := Lib.hid (fun w2 v' => hs.step (w2 := w2) (v' := v') HL.out.1 HL.out.2 hse)
    obtain ⟨p, hp⟩ : ∃ p, s % 4294967296 = p := ⟨_, rfl⟩
    rw [hp] at hrow2 hmw HN
    have HKC := Lib.hid hkc
    have HB := Lib.hid hb
    have HLE := Lib.hid hlen
    have HW := Lib.hid hmw
    have hlk : done.length ≤ 500001 := by omega
    clear hs hkc hb hlen hp hmw
    by_cases hk1 : k < l1.length
    · by_cases hk2 : k < l2.length
      · obtain ⟨b1, o1, rfl, hb1, hcell1⟩ := HF1.out (by intro h; rw [h] at hk1; simp at hk1)
        have hx := (HB.out.cell (p := ⟨b1, o1 + k, none⟩) hb1).trans (hcell1 k hk1)
        clear hcell1
        obtain ⟨b2, o2, rfl, hb2, hcell2⟩ := HF2.out (by intro h; rw [h] at hk2; simp at hk2)
        have hy := (HB.out.cell (p := ⟨b2, o2 + k, none⟩) hb2).trans (hcell2 k hk2)
        clear hcell2 HF1 HF2
        generalize l1.getD k 0 = x at *
        generalize l2.getD k 0 = y at *
        have hs64 : s < 18446744073709551616 := by omega
        have hsI : (c : Int) + (x : Int) + (y : Int) = (s : Int) := by omega
        clear hse
        have hmw := HW.out
        go_wp2_with ((at_builtin; refine wpList_append_own _ rfl _ _ 22 rfl w.heap.size 49 i0 (.int .u32 0) 1 4 Tryz.underlying22 HI.out hz0 hz1 hz2 rfl (by decide) u5 done.length (ws done) rfl hrow2 ⟨wr.heap.size, 0, none⟩ 1 1 [.int .u32 (p : Int)] rfl rfl (new_word wr p) (by intro u hu; simp at hu; subst hu; rfl) (by simp only [maxLen]; omega) (by omega) (by simp; omega) ?_; intro v3 w3 hown3 hgrow3 hnil3))
        have HX := Lib.hid (HN.out w3 v3 hown3 hgrow3)
        clear hown3 hgrow3 hnil3 hrow2
        go_wp2
        go_roundw
        case rel => exact ⟨k + 1, _, _, by have := HKC.out; omega, by go_num, by go_num, HX.out, by have := HKC.out; omega⟩
        case measure => simp only [intOf]; omega
      · obtain ⟨b1, o1, rfl, hb1, hcell1⟩ := HF1.out (by intro h; rw [h] at hk1; simp at hk1)
        have hx := (HB.out.cell (p := ⟨b1, o1 + k, none⟩) hb1).trans (hcell1 k hk1)
        clear hcell1 HF1 HF2
        have e2 : l2.getD k 0 = 0 := by simp only [List.getD_eq_getElem?_getD, List.getElem?_eq_none (by omega : l2.length ≤ k)]; rfl
        rw [e2] at hse a2
        clear e2
        generalize l1.getD k 0 = x at *
        have hs64 : s < 18446744073709551616 := by omega
        have hsI : (c : Int) + (x : Int) = (s : Int) := by omega
        clear hse
        have hmw := HW.out
        go_wp2_with ((at_builtin; refine wpList_append_own _ rfl _ _ 22 rfl w.heap.size 49 i0 (.int .u32 0) 1 4 Tryz.underlying22 HI.out hz0 hz1 hz2 rfl (by decide) u5 done.length (ws done) rfl hrow2 ⟨wr.heap.size, 0, none⟩ 1 1 [.int .u32 (p : Int)] rfl rfl (new_word wr p) (by intro u hu; simp at hu; subst hu; rfl) (by simp only [maxLen]; omega) (by omega) (by simp; omega) ?_; intro v3 w3 hown3 hgrow3 hnil3))
        have HX := Lib.hid (HN.out w3 v3 hown3 hgrow3)
        clear hown3 hgrow3 hnil3 hrow2
        go_wp2
        go_roundw
        case rel => exact ⟨k + 1, _, _, by have := HKC.out; omega, by go_num, by go_num, HX.out, by have := HKC.out; omega⟩
        case measure => simp only [intOf]; omega
    · by_cases hk2 : k < l2.length
      · have e1 : l1.getD k 0 = 0 := by simp only [List.getD_eq_getElem?_getD, List.getElem?_eq_none (by omega : l1.length ≤ k)]; rfl
        rw [e1] at hse a1
        clear e1 HF1
        obtain ⟨b2, o2, rfl, hb2, hcell2⟩ := HF2.out (by intro h; rw [h] at hk2; simp at hk2)
        have hy := (HB.out.cell (p := ⟨b2, o2 + k, none⟩) hb2).trans (hcell2 k hk2)
        clear hcell2 HF2
        generalize l2.getD k 0 = y at *
        have hs64 : s < 18446744073709551616 := by omega
        have hsI : (c : Int) + (y : Int) = (s : Int) := by omega
        clear hse
        have hmw := HW.out
        go_wp2_with ((at_builtin; refine wpList_append_own _ rfl _ _ 22 rfl w.heap.size 49 i0 (.int .u32 0) 1 4 Tryz.underlying22 HI.out hz0 hz1 hz2 rfl (by decide) u5 done.length (ws done) rfl hrow2 ⟨wr.heap.size, 0, none⟩ 1 1 [.int .u32 (p : Int)] rfl rfl (new_word wr p) (by intro u hu; simp at hu; subst hu; rfl) (by simp only [maxLen]; omega) (by omega) (by simp; omega) ?_; intro v3 w3 hown3 hgrow3 hnil3))
        have HX := Lib.hid (HN.out w3 v3 hown3 hgrow3)
        clear hown3 hgrow3 hnil3 hrow2
        go_wp2
        go_roundw
        case rel => exact ⟨k + 1, _, _, by have := HKC.out; omega, by go_num, by go_num, HX.out, by have := HKC.out; omega⟩
        case measure => simp only [intOf]; omega
      · by_cases hc0 : 0 < c
        · have e1 : l1.getD k 0 = 0 := by simp only [List.getD_eq_getElem?_getD, List.getElem?_eq_none (by omega : l1.length ≤ k)]; rfl
          rw [e1] at hse a1
          clear e1 HF1 HF2
          have e2 : l2.getD k 0 = 0 := by simp only [List.getD_eq_getElem?_getD, List.getElem?_eq_none (by omega : l2.length ≤ k)]; rfl
          rw [e2] at hse a2
          clear e2
          have hs64 : s < 18446744073709551616 := by omega
          obtain rfl : s = c := by omega
          clear hse
          obtain rfl : p = s := by have := HW.out; omega
          go_wp2_with ((at_builtin; refine wpList_append_own _ rfl _ _ 22 rfl w.heap.size 49 i0 (.int .u32 0) 1 4 Tryz.underlying22 HI.out hz0 hz1 hz2 rfl (by decide) u5 done.length (ws done) rfl hrow2 ⟨wr.heap.size, 0, none⟩ 1 1 [.int .u32 (p : Int)] rfl rfl (new_word wr p) (by intro u hu; simp at hu; subst hu; rfl) (by simp only [maxLen]; omega) (by omega) (by simp; omega) ?_; intro v3 w3 hown3 hgrow3 hnil3))
          have HX := Lib.hid (HN.out w3 v3 hown3 hgrow3)
          clear hown3 hgrow3 hnil3 hrow2
          go_wp2
          go_roundw
          case rel => exact ⟨k + 1, _, _, by have := HKC.out; omega, by go_num, by go_num, HX.out, by have := HKC.out; omega⟩
          case measure => simp only [intOf]; omega
        · obtain rfl : c = 0 := by omega
          obtain ⟨hU, hv⟩ := HS.out.done (by omega) (by omega)
          have HU := Lib.hid hU
          have HV := Lib.hid hv
          clear hU hv HN hse hrow2
          go_wp2_with fail
          refine (rtrim_any _ done _ HU.out (by omega)).mono ?_
          rw [HV.out]
          rintro e w4 ⟨A, c', rfl, hm, hb4⟩
          have HM := Lib.hid hm
          have HBB := Lib.hid (nextw HB.out hb4)
          clear hm hb4
          go_wp2
          go_ret
          exact ⟨A, c', rfl, HM.out, HBB.out⟩
end Go.Proofs.YtldfamjlnphokaaGreatDoor

namespace Go.Proofs.YtldfamjlnphokaaGreatDoor
open Go Go.RowKit Num

/-- What holds at the head of sub's loop. -/
structure RSubAt (w wr : World) (l1 l2 : List Nat) (k b : Nat) (v : Value) (done : List Nat) : Prop where
  out : OutAt w wr v done
  len : done.length = k
  lt : ∀ x ∈ done, x < 4294967296
  carry : b < 2
  eq : val (l1.take k) + 4294967296 ^ k * b = val done + val (l2.take k)
theorem RSubAt.step {w wr w2 : World} {l1 l2 : List Nat} {k b : Nat} {v v' : Value} {done : List Nat} (h : RSubAt w wr l1 l2 k b v done) (h1 : ∀ x ∈ l1, x < 4294967296) (h2 : ∀ x ∈ l2, x < 4294967296) {p b' : Nat} (hp : p < 4294967296) (hb' : b' < 2) (hs : l1.getD k 0 + 4294967296 * b' = p + l2.getD k 0 + b)
    (hrow : w2.ownsRow w.heap.size 49 1 v' (done.length + 1) (ws done ++ [.int .u32 (p : Int)])) (hgr : (wr.alloc (.cells #[.int .u32 (p : Int)] 49)).grownBy w2 v.ownBlock) :
    RSubAt w w2 l1 l2 (k + 1) b' v' (done ++ [p]) := by
  refine ⟨h.out.next hrow hgr, by simp [h.len], ?_, hb', ?_⟩
  · intro x hx
    rcases List.mem_append.1 hx with hx | hx
    · exact h.lt x hx
    · simp at hx; omega
  · rw [val_snoc, h.len, val_take_succ, val_take_succ, Nat.pow_succ]
    have e := borrow_step (d := val done) (P := 4294967296 ^ k) (b := b) (a := val (l1.take k)) (c := val (l2.take k)) (x := l1.getD k 0) (y := l2.getD k 0) (b' := b') h.eq (by omega)
    rw [show l1.getD k 0 + 4294967296 * b' - l2.getD k 0 - b = p by omega] at e
    exact e
theorem RSubAt.done {w wr : World} {l1 l2 : List Nat} {b : Nat} {v : Value} {done : List Nat} (hs : RSubAt w wr l1 l2 l1.length b v done) (hle : l2.length ≤ l1.length) (hv : val l2 ≤ val l1) : U32 wr v done ∧ val done = val l1 - val l2 := by
  refine ⟨hs.out.u32 hs.lt, ?_⟩
  have e := hs.eq
  have t2 : l2.take l1.length = l2 := List.take_of_length_le (by omega)
  rw [List.take_length, t2] at e
  have hl := val_lt hs.lt
  rw [hs.len] at hl
  have hb := hs.carry
  rcases Nat.eq_zero_or_pos b with h0 | h0
  · rw [h0, Nat.mul_zero] at e; omega
  · have h1 : b = 1 := by omega
    rw [h1, Nat.mul_one] at e; omega

set_option maxRecDepth 100000 in
set_option maxHeartbeats 4000000 in
theorem rsub_any (v1 v2 : Value) (l1 l2 : List Nat) (w : World) (h1 : U32 w v1 l1) (h2 : U32 w v2 l2) (hn1 : l1.length ≤ 500000) (hle : l2.length ≤ l1.length) (hv : val l2 ≤ val l1) :
    Calls Tryz.prog 101 #[v1, v2] w fun e w' => ∃ A c, e = .returned (.slice A (digs (val l1 - val l2)).length c) ∧ Mag w' (.slice A (digs (val l1 - val l2)).length c) (val l1 - val l2) ∧ Below w.heap.size w w' := by
  obtain ⟨i0, hi, hz0, hz1, hz2⟩ := info_parts info32
  obtain ⟨A1, cap1, rfl, hc1, hm1, hf1⟩ := id h1.form
  obtain ⟨A2, cap2, rfl, hc2, hm2, hf2⟩ := id h2.form
  have HI := Lib.hid hi
  have HF1 := Lib.hid hf1
  have HF2 := Lib.hid hf2
  have HL := Lib.hid (And.intro h1.lt h2.lt)
  have HV := Lib.hid hv
  clear hi hf1 hf2 h1 h2 hm1 hm2 hv
  go_enter Tryz.func101, Tryz.ntmps101
  go_wp2
  go_loopw [5, 6, 7, 8] (fun v cy i _ wr => ∃ (k b : Nat) (done : List Nat), k ≤ l1.length ∧ cy = .int .i64 b ∧ i = .int .i64 k ∧ RSubAt w wr l1 l2 k b v done) (fun _ _ i _ _ => l1.length - (intOf i).toNat)
  case atStart => exact ⟨0, 0, [], by omega, rfl, rfl, ⟨OutAt.start w, rfl, by simp, by omega, by simp [val]⟩⟩
  case round =>
    obtain ⟨k, b, done, hk, rfl, rfl, hs⟩ := hrel
    have hcy := hs.carry
    have hlen := hs.len
    have hb := hs.out.below
    have hsz := hb.size
    have a1 := getD_lt HL.out.1 k
    have a2 := getD_lt HL.out.2 k
    have HS := Lib.hid hs
    have HO := Lib.hid (fun p : Nat => hs.out.ahead (.cells #[.int .u32 (p : Int)] 49))
    have HN := Lib.hid (fun w2 v' p b' => hs.step (w2 := w2) (v' := v') (p := p) (b' := b') HL.out.1 HL.out.2)
    have HB := Lib.hid hb
    have HLE := Lib.hid hlen
    have hlk : done.length ≤ 500001 := by omega
    clear hs hb hlen
    by_cases hk1 : k < l1.length
    · obtain ⟨b1, o1, rfl, hb1, hcell1⟩ := HF1.out (by intro h; rw [h] at hk1; simp at hk1)
      have hx := (HB.out.cell (p := ⟨b1, o1 + k, none⟩) hb1).trans (hcell1 k hk1)
      clear hcell1 HF1
      generalize l1.getD k 0 = x at *
      by_cases hk2 : k < l2.length
      · obtain ⟨b2, o2, rfl, hb2, hcell2⟩ := HF2.out (by intro h; rw [h] at hk2; simp at hk2)
        have hy := (HB.out.cell (p := ⟨b2, o2 + k, none⟩) hb2).trans (hcell2 k hk2)
        clear hcell2 HF2
        generalize l2.getD k 0 = y at *
        by_cases hlt : x < y + b
        · obtain ⟨q, hq⟩ : ∃ q : Int, (x : Int) - (b : Int) - (y : Int) = q := ⟨_, rfl⟩
          have hq0 : q < 0 := by omega
          obtain ⟨p, hp⟩ : ∃ p : Nat, q + 4294967296 = (p : Int) := ⟨(q + 4294967296).toNat, by omega⟩
          have hp32 : p < 4294967296 := by omega
          have HX := Lib.hid (fun w2 v' => HN.out w2 v' p 1 hp32 (by omega) (by omega))
          have hqm : -8589934592 ≤ q := by omega
          have hrow2 := HO.out p
          clear HN hlt
          go_wp2_with ((at_builtin; refine wpList_append_own _ rfl _ _ 22 rfl w.heap.size 49 i0 (.int .u32 0) 1 4 Tryz.underlying22 HI.out hz0 hz1 hz2 rfl (by decide) u5 done.length (ws done) rfl hrow2 ⟨wr.heap.size, 0, none⟩ 1 1 [.int .u32 (p : Int)] rfl rfl (new_word wr p) (by intro u hu; simp at hu; subst hu; rfl) (by simp only [maxLen]; omega) (by omega) (by simp; omega) ?_; intro v3 w3 hown3 hgrow3 hnil3))
          replace HX := Lib.hid (HX.out w3 v3 hown3 hgrow3)
          clear hown3 hgrow3 hnil3 hrow2
          go_wp2
          go_roundw
          case rel => exact ⟨k + 1, 1, _, by omega, rfl, by go_num, HX.out⟩
          case measure => simp only [intOf]; omega
        · obtain ⟨p, hp⟩ : ∃ p : Nat, (x : Int) - (b : Int) - (y : Int) = (p : Int) := ⟨((x : Int) - (b : Int) - (y : Int)).toNat, by omega⟩
          have hp32 : p < 4294967296 := by omega
          have HX := Lib.hid (fun w2 v' => HN.out w2 v' p 0 hp32 (by omega) (by omega))
          have hrow2 := HO.out p
          clear HN hlt
          go_wp2_with ((at_builtin; refine wpList_append_own _ rfl _ _ 22 rfl w.heap.size 49 i0 (.int .u32 0) 1 4 Tryz.underlying22 HI.out hz0 hz1 hz2 rfl (by decide) u5 done.length (ws done) rfl hrow2 ⟨wr.heap.size, 0, none⟩ 1 1 [.int .u32 (p : Int)] rfl rfl (new_word wr p) (by intro u hu; simp at hu; subst hu; rfl) (by simp only [maxLen]; omega) (by omega) (by simp; omega) ?_; intro v3 w3 hown3 hgrow3 hnil3))
          replace HX := Lib.hid (HX.out w3 v3 hown3 hgrow3)
          clear hown3 hgrow3 hnil3 hrow2
          go_wp2
          go_roundw
          case rel => exact ⟨k + 1, 0, _, by omega, rfl, by go_num, HX.out⟩
          case measure => simp only [intOf]; omega
      · have e2 : l2.getD k 0 = 0 := by simp only [List.getD_eq_getElem?_getD, List.getElem?_eq_none (by omega : l2.length ≤ k)]; rfl
        rw [e2] at HN a2
        clear e2 HF2 a2
        by_cases hlt : x < b
        · obtain ⟨q, hq⟩ : ∃ q : Int, (x : Int) - (b : Int) = q := ⟨_, rfl⟩
          have hq0 : q < 0 := by omega
          obtain ⟨p, hp⟩ : ∃ p : Nat, q + 4294967296 = (p : Int) := ⟨(q + 4294967296).toNat, by omega⟩
          have hp32 : p < 4294967296 := by omega
          have HX := Lib.hid (fun w2 v' => HN.out w2 v' p 1 hp32 (by omega) (by omega))
          have hqm : -8589934592 ≤ q := by omega
          have hrow2 := HO.out p
          clear HN hlt
          go_wp2_with ((at_builtin; refine wpList_append_own _ rfl _ _ 22 rfl w.heap.size 49 i0 (.int .u32 0) 1 4 Tryz.underlying22 HI.out hz0 hz1 hz2 rfl (by decide) u5 done.length (ws done) rfl hrow2 ⟨wr.heap.size, 0, none⟩ 1 1 [.int .u32 (p : Int)] rfl rfl (new_word wr p) (by intro u hu; simp at hu; subst hu; rfl) (by simp only [maxLen]; omega) (by omega) (by simp; omega) ?_; intro v3 w3 hown3 hgrow3 hnil3))
          replace HX := Lib.hid (HX.out w3 v3 hown3 hgrow3)
          clear hown3 hgrow3 hnil3 hrow2
          go_wp2
          go_roundw
          case rel => exact ⟨k + 1, 1, _, by omega, rfl, by go_num, HX.out⟩
          case measure => simp only [intOf]; omega
        · obtain ⟨p, hp⟩ : ∃ p : Nat, (x : Int) - (b : Int) = (p : Int) := ⟨((x : Int) - (b : Int)).toNat, by omega⟩
          have hp32 : p < 4294967296 := by omega
          have HX := Lib.hid (fun w2 v' => HN.out w2 v' p 0 hp32 (by omega) (by omega))
          have hrow2 := HO.out p
          clear HN hlt
          go_wp2_with ((at_builtin; refine wpList_append_own _ rfl _ _ 22 rfl w.heap.size 49 i0 (.int .u32 0) 1 4 Tryz.underlying22 HI.out hz0 hz1 hz2 rfl (by decide) u5 done.length (ws done) rfl hrow2 ⟨wr.heap.size, 0, none⟩ 1 1 [.int .u32 (p : Int)] rfl rfl (new_word wr p) (by intro u hu; simp at hu; subst hu; rfl) (by simp only [maxLen]; omega) (by omega) (by simp; omega) ?_; intro v3 w3 hown3 hgrow3 hnil3))
          replace HX := Lib.hid (HX.out w3 v3 hown3 hgrow3)
          clear hown3 hgrow3 hnil3 hrow2
          go_wp2
          go_roundw
          case rel => exact ⟨k + 1, 0, _, by omega, rfl, by go_num, HX.out⟩
          case measure => simp only [intOf]; omega
    · obtain rfl : k = l1.length := by omega
      obtain ⟨hU, hvd⟩ := HS.out.done hle HV.out
      have HU := Lib.hid hU
      have HD := Lib.hid hvd
      clear hU hvd HN
      go_wp2_with fail
      refine (rtrim_any _ done _ HU.out (by omega)).mono ?_
      rw [HD.out]
      rintro e w4 ⟨A, c', rfl, hm, hb4⟩
      have HM := Lib.hid hm
      have HBB := Lib.hid (nextw HB.out hb4)
      clear hm hb4
      go_wp2
      go_ret
      exact ⟨A, c', rfl, HM.out, HBB.out⟩
end Go.Proofs.YtldfamjlnphokaaGreatDoor

namespace Go.Proofs.YtldfamjlnphokaaGreatDoor
open Go Go.RowKit Num

set_option maxRecDepth 100000 in
set_option maxHeartbeats 2000000 in
theorem RAbs_rd {v1 : Value} {z1 : Int} {n1 : Nat} {w : World} (h1 : Rd w v1 z1 n1) (f1 : n1 ≤ 50000) :
    Calls Tryz.prog 116 #[v1] w fun e w' => ∃ v, e = .returned v ∧ Rc w' v (z1.natAbs : Nat) n1 ∧ Below w.heap.size w w' := by
  obtain ⟨s1, A1, k1, c1, rfl, -⟩ := h1.shape
  have V_x := Lib.hid h1
  clear h1
  have hb0 : Below w.heap.size w ((w.alloc (.cells #[.bool s1, (.slice A1 k1 c1)] 24)).alloc (.cells #[.bool false, (.slice none 0 0)] 24)) := (Below.alloc (Below.alloc (Below.refl w.heap.size w) (by simp <;> omega) _) (by simp <;> omega) _)
  have B_x : Box ((w.alloc (.cells #[.bool s1, (.slice A1 k1 c1)] 24)).alloc (.cells #[.bool false, (.slice none 0 0)] 24)) (w.heap.size) s1 (.slice A1 k1 c1) := by have h := Box.alloc (Box.new w s1 (.slice A1 k1 c1)) (.cells #[.bool false, (.slice none 0 0)] 24); simpa using h
  replace B_x := Lib.hid B_x
  have B_r : Box ((w.alloc (.cells #[.bool s1, (.slice A1 k1 c1)] 24)).alloc (.cells #[.bool false, (.slice none 0 0)] 24)) (w.heap.size + 1) false (.slice none 0 0) := by have h := Box.new (w.alloc (.cells #[.bool s1, (.slice A1 k1 c1)] 24)) false (.slice none 0 0); simpa using h
  replace B_r := Lib.hid B_r
  replace V_x := Lib.hid (Rd.below V_x.out hb0)
  have HB := Lib.hid hb0
  clear hb0
  have c0x := B_x.out.c0
  have c1x := B_x.out.c1
  have f0x := B_x.out.f0
  have f1x := B_x.out.f1
  have c0r := B_r.out.c0
  have c1r := B_r.out.c1
  have f0r := B_r.out.f0
  have f1r := B_r.out.f1
  go_enter Tryz.func116, Tryz.ntmps116
  go_wp2_with fail
  clear c0x c1x f0x f1x c0r c1r f0r f1r
  generalize (w.alloc (.cells #[.bool s1, (.slice A1 k1 c1)] 24)).alloc (.cells #[.bool false, (.slice none 0 0)] 24) = W0 at *
  obtain ⟨l, hu, hi, hl⟩ := Rd.u32 V_x.out
  have hv := ival_abs s1 l
  rw [hi] at hv
  have HV := Lib.hid hv
  clear hi hv
  have hd : Rd W0 (.agg #[.bool false, .slice A1 k1 c1]) (z1.natAbs : Nat) n1 := ⟨false, _, l, rfl, hu, by rw [HV.out]; rfl, hl⟩
  have V_d := Lib.hid hd
  clear hd hu hl
  refine (RNorm_rd (Rd.below V_d.out (by exact ⟨rfl, rfl, rfl, Nat.le_refl _, fun _ _ => rfl⟩)) f1).mono ?_
  rintro e w1 ⟨v, rfl, rr, bb⟩
  replace bb := nextw (w0 := W0) (by exact ⟨rfl, rfl, rfl, Nat.le_refl _, fun _ _ => rfl⟩) bb
  replace B_x := Lib.hid (Box.below B_x.out bb B_x.out.lt)
  replace B_r := Lib.hid (Box.below B_r.out bb B_r.out.lt)
  replace V_x := Lib.hid (Rd.below V_x.out bb)
  replace V_d := Lib.hid (Rd.below V_d.out bb)
  replace HB := Lib.hid (nextw HB.out bb)
  clear bb
  obtain ⟨sr, Ar, kr, cr, rfl⟩ := rr.shape
  have V_r := Lib.hid rr
  clear rr
  have bS := Box.store B_r.out sr (.slice Ar kr cr)
  have s0 := bS.c0
  have s1 := bS.c1
  have K_r := Lib.hid (Box.keepsRc B_r.out V_r.out sr (.slice Ar kr cr))
  have HBF := Lib.hid (Below.store HB.out (x := w.heap.size + 1) (by omega) (.bool sr) (.slice Ar kr cr))
  clear bS
  have c0r := B_r.out.c0
  have c1r := B_r.out.c1
  have f0r := B_r.out.f0
  have f1r := B_r.out.f1
  go_wp2_with fail
  generalize (w1.setCell ⟨w.heap.size + 1, 0, none⟩ (.bool sr)).setCell ⟨w.heap.size + 1, 1, none⟩ (.slice Ar kr cr) = WF at *
  go_wp2
  exact bodyPost_ret (v := .agg #[.bool sr, (.slice Ar kr cr)]) (by simp [results, Tryz.results116, go_sem, s0, s1]) rfl ⟨_, rfl, K_r.out, HBF.out⟩
end Go.Proofs.YtldfamjlnphokaaGreatDoor
