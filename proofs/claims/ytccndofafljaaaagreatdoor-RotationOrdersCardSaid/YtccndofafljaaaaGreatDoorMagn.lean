/- integer.sum, integer.difference
   integer.difference
   The number of binary digits.
   integer.compare, integer.length
   slices.Clone, integer.shorten
   integer.product
   integer.raise, integer.lower
   integer.lower -/
import Derived.Test.YtccndofafljaaaaGreatDoorBase
import Derived.Lib.BitFns
import Derived.Test.YtccndofafljaaaaGreatDoorShelf
import Derived.WalkSpells

set_option linter.unusedVariables false
set_option linter.unusedSimpArgs false

namespace Go.Proofs.YtccndofafljaaaaGreatDoor
open Go Go.RowKit Num

theorem carry_join (P s : Nat) : P * (s % 4294967296) + P * 4294967296 * (s / 4294967296) = P * s := by
  rw [Nat.mul_assoc, ← Nat.mul_add, Nat.mod_add_div]
theorem carry_step {d P c a b x y : Nat} (e : d + P * c = a + b) :
    d + P * ((c + x + y) % 4294967296) + P * 4294967296 * ((c + x + y) / 4294967296) = a + P * x + (b + P * y) := by
  rw [Nat.add_assoc, carry_join, Nat.mul_add, Nat.mul_add]; omega

/-- WHAT HOLDS AT THE HEAD OF sum's LOOP, k words done. -/
structure SumAt (w wr : World) (l1 l2 : List Nat) (k c : Nat) (done : List Nat) : Prop where
  own : Own wr w.heap.size (done ++ List.replicate (l1.length + 1 - k) 0)
  len : done.length = k
  lt : ∀ x ∈ done, x < 4294967296
  carry : c < 2
  eq : val done + 4294967296 ^ k * c = val (l1.take k) + val (l2.take k)
  below : Below w.heap.size w wr

theorem SumAt.step {w wr : World} {l1 l2 : List Nat} {k c : Nat} {done : List Nat} (h : SumAt w wr l1 l2 k c done) (hk : k < l1.length + 1) (h1 : ∀ x ∈ l1, x < 4294967296) (h2 : ∀ x ∈ l2, x < 4294967296) :
    SumAt w (wr.setCell ⟨w.heap.size, k, none⟩ (.int .u32 ((c + l1.getD k 0 + l2.getD k 0) % 4294967296 : Nat))) l1 l2 (k + 1) ((c + l1.getD k 0 + l2.getD k 0) / 4294967296) (done ++ [(c + l1.getD k 0 + l2.getD k 0) % 4294967296]) := by
  have a1 := getD_lt h1 k
  have a2 := getD_lt h2 k
  have hc := h.carry
  refine ⟨?_, by simp [h.len], ?_, by omega, ?_, h.below.setCell (Nat.le_refl _) _⟩
  · have e := h.own.set k ((c + l1.getD k 0 + l2.getD k 0) % 4294967296)
    rw [show l1.length + 1 - k = (l1.length + 1 - (k + 1)) + 1 from by omega, List.replicate_succ] at e
    have hs := set_done done 0 ((c + l1.getD k 0 + l2.getD k 0) % 4294967296) (List.replicate (l1.length + 1 - (k + 1)) 0)
    rw [h.len] at hs
    rw [hs] at e
    simpa using e
  · intro x hx
    rcases List.mem_append.1 hx with hx | hx
    · exact h.lt x hx
    · simp at hx; omega
  · have e := h.eq
    rw [val_snoc, h.len, val_take_succ, val_take_succ, Nat.pow_succ]
    exact carry_step e

/-- The last word is the carry. -/
theorem SumAt.done {w wr : World} {l1 l2 : List Nat} {c : Nat} {done : List Nat} (hs : SumAt w wr l1 l2 l1.length c done) (hle : l2.length ≤ l1.length) (h1 : ∀ x ∈ l1, x < 4294967296) (h2 : ∀ x ∈ l2, x < 4294967296) (hn : l1.length ≤ 1000000) :
    U32 (wr.setCell ⟨w.heap.size, l1.length, none⟩ (.int .u32 (c : Int))) (.slice (some ⟨w.heap.size, 0, none⟩) (l1.length + 1) (l1.length + 1)) (done ++ [c]) ∧ val (done ++ [c]) = val l1 + val l2 ∧
    Below w.heap.size w (wr.setCell ⟨w.heap.size, l1.length, none⟩ (.int .u32 (c : Int))) := by
  have h0 : l1.getD l1.length 0 = 0 := by simp
  have h0' : l2.getD l1.length 0 = 0 := by simp only [List.getD_eq_getElem?_getD, List.getElem?_eq_none (by omega : l2.length ≤ l1.length)]; rfl
  have hcy := hs.carry
  have hS := hs.step (by omega) h1 h2
  rw [h0, h0', show (c + 0 + 0) % 4294967296 = c from by omega, show (c + 0 + 0) / 4294967296 = 0 from by omega] at hS
  have hU := hS.own.u32 (by
    intro x hx
    rw [show l1.length + 1 - (l1.length + 1) = 0 from by omega] at hx
    simp only [List.replicate_zero, List.append_nil] at hx
    exact hS.lt x hx) (by simp [maxLen, hs.len]; omega)
  rw [show l1.length + 1 - (l1.length + 1) = 0 from by omega] at hU
  simp only [List.replicate_zero, List.append_nil] at hU
  rw [show (done ++ [c]).length = l1.length + 1 from by simp [hs.len]] at hU
  refine ⟨hU, ?_, hS.below⟩
  have e := hS.eq
  have t1 : l1.take (l1.length + 1) = l1 := List.take_of_length_le (by omega)
  have t2 : l2.take (l1.length + 1) = l2 := List.take_of_length_le (by omega)
  rw [t1, t2, Nat.mul_zero, Nat.add_zero] at e
  exact e

theorem SumAt.start (w : World) (l1 l2 : List Nat) : SumAt w (w.alloc (.cells (ws (List.replicate (l1.length + 1) 0)).toArray 69)) l1 l2 0 0 [] :=
  ⟨by simpa using Own.new w _, rfl, by simp, by omega, by simp [val], (Below.refl _ _).alloc (Nat.le_refl _) _⟩

set_option maxHeartbeats 1000000 in
theorem sum_any (v1 v2 : Value) (l1 l2 : List Nat) (w : World) (h1 : U32 w v1 l1) (h2 : U32 w v2 l2) (hn1 : l1.length ≤ 1000000) (hn2 : l2.length ≤ 1000000) :
    Calls Tryz.prog 71 #[v1, v2] w fun e w' => ∃ v', e = .returned v' ∧ Mag w' v' (val l1 + val l2) ∧ Below w.heap.size w w' := by
  obtain ⟨A1, cap1, rfl, hc1, hm1, hf1⟩ := id h1.form
  obtain ⟨A2, cap2, rfl, hc2, hm2, hf2⟩ := id h2.form
  by_cases hlt : l1.length < l2.length
  · have hmk := make_u32 (x := (l2.length : Int) + 1) (l2.length + 1) (by omega) (by omega)
    go_enter Tryz.func71, Tryz.ntmps71
    go_wp2
    go_loopw [6, 7, 8, 22] (fun cy _ _ i wr => ∃ (k c : Nat) (done : List Nat), k ≤ l2.length ∧ cy = .int .u64 c ∧ i = .int .i64 k ∧ SumAt w wr l2 l1 k c done) (fun _ _ _ i _ => l2.length - (intOf i).toNat)
    case atStart => exact ⟨0, 0, [], Nat.zero_le _, rfl, rfl, SumAt.start w l2 l1⟩
    case round =>
      obtain ⟨k, c, done, hk, rfl, rfl, hs⟩ := hrel
      by_cases hk1 : k < l2.length
      · obtain ⟨b1, o1, rfl, hb1, hcell2⟩ := hf2 (by intro h; rw [h] at hk1; simp at hk1)
        have hx := (hs.below.cell (p := ⟨b1, o1 + k, none⟩) hb1).trans (hcell2 k hk1)
        have hc0 := hs.own.cell (i := k) (by simp [hs.len]; omega)
        have hfz := hs.own.frozen k
        have hcy := hs.carry
        have a1 := getD_lt h2.lt k
        have a2 := getD_lt h1.lt k
        have HS := Lib.hid (hs.step (by omega) h2.lt h1.lt)
        clear hmk hf2 hcell2
        generalize l2.getD k 0 = x at *
        by_cases hk2 : k < l1.length
        · obtain ⟨b2, o2, rfl, hb2, hcell1⟩ := hf1 (by intro h; rw [h] at hk2; simp at hk2)
          have hy := (hs.below.cell (p := ⟨b2, o2 + k, none⟩) hb2).trans (hcell1 k hk2)
          clear hcell1
          generalize l1.getD k 0 = y at *
          clear hf1 hs
          go_wp2
          go_roundw
          case rel => exact ⟨k + 1, (c + x + y) / 4294967296, _, by omega, by go_num, by go_num, HS.out⟩
          case measure => simp [intOf]; omega
        · have hy : l1.getD k 0 = 0 := by simp only [List.getD_eq_getElem?_getD, List.getElem?_eq_none (by omega : l1.length ≤ k)]; rfl
          rw [hy] at HS
          clear hf1 hs hy a2
          go_wp2
          go_roundw
          case rel => exact ⟨k + 1, (c + x + 0) / 4294967296, _, by omega, by go_num, by go_num, HS.out⟩
          case measure => simp [intOf]; omega
      · obtain rfl : k = l2.length := by omega
        have hc0 := hs.own.cell (i := l2.length) (by simp [hs.len])
        have hfz := hs.own.frozen l2.length
        have hcy := hs.carry
        obtain ⟨hU, hv, hb⟩ := hs.done (by omega) h2.lt h1.lt (by omega)
        have HV := Lib.hid hv
        clear hmk hf2 hf1 hs hv
        go_wp2_with fail
        refine (trim_any _ _ _ hU).mono ?_
        rintro e w' ⟨v', rfl, rfl, hm, -⟩
        have hm1 := hm _ hU
        rw [HV.out, Nat.add_comm] at hm1
        go_wp2
        go_ret
        exact ⟨_, rfl, hm1, hb⟩
  · have hmk := make_u32 (x := (l1.length : Int) + 1) (l1.length + 1) (by omega) (by omega)
    go_enter Tryz.func71, Tryz.ntmps71
    go_wp2
    go_loopw [6, 7, 8, 22] (fun cy _ _ i wr => ∃ (k c : Nat) (done : List Nat), k ≤ l1.length ∧ cy = .int .u64 c ∧ i = .int .i64 k ∧ SumAt w wr l1 l2 k c done) (fun _ _ _ i _ => l1.length - (intOf i).toNat)
    case atStart => exact ⟨0, 0, [], Nat.zero_le _, rfl, rfl, SumAt.start w l1 l2⟩
    case round =>
      obtain ⟨k, c, done, hk, rfl, rfl, hs⟩ := hrel
      by_cases hk1 : k < l1.length
      · obtain ⟨b1, o1, rfl, hb1, hcell1⟩ := hf1 (by intro h; rw [h] at hk1; simp at hk1)
        have hx := (hs.below.cell (p := ⟨b1, o1 + k, none⟩) hb1).trans (hcell1 k hk1)
        have hc0 := hs.own.cell (i := k) (by simp [hs.len]; omega)
        have hfz := hs.own.frozen k
        have hcy := hs.carry
        have a1 := getD_lt h1.lt k
        have a2 := getD_lt h2.lt k
        have HS := Lib.hid (hs.step (by omega) h1.lt h2.lt)
        clear hmk hf1 hcell1
        generalize l1.getD k 0 = x at *
        by_cases hk2 : k < l2.length
        · obtain ⟨b2, o2, rfl, hb2, hcell2⟩ := hf2 (by intro h; rw [h] at hk2; simp at hk2)
          have hy := (hs.below.cell (p := ⟨b2, o2 + k, none⟩) hb2).trans (hcell2 k hk2)
          clear hcell2
          generalize l2.getD k 0 = y at *
          clear hf2 hs
          go_wp2
          go_roundw
          case rel => exact ⟨k + 1, (c + x + y) / 4294967296, _, by omega, by go_num, by go_num, HS.out⟩
          case measure => simp [intOf]; omega
        · have hy : l2.getD k 0 = 0 := by simp only [List.getD_eq_getElem?_getD, List.getElem?_eq_none (by omega : l2.length ≤ k)]; rfl
          rw [hy] at HS
          clear hf2 hs hy a2
          go_wp2
          go_roundw
          case rel => exact ⟨k + 1, (c + x + 0) / 4294967296, _, by omega, by go_num, by go_num, HS.out⟩
          case measure => simp [intOf]; omega
      · obtain rfl : k = l1.length := by omega
        have hc0 := hs.own.cell (i := l1.length) (by simp [hs.len])
        have hfz := hs.own.frozen l1.length
        have hcy := hs.carry
        obtain ⟨hU, hv, hb⟩ := hs.done (by omega) h1.lt h2.lt (by omega)
        have HV := Lib.hid hv
        clear hmk hf1 hf2 hs hv
        go_wp2_with fail
        refine (trim_any _ _ _ hU).mono ?_
        rintro e w' ⟨v', rfl, rfl, hm, -⟩
        have hm1 := hm _ hU
        rw [HV.out] at hm1
        go_wp2
        go_ret
        exact ⟨_, rfl, hm1, hb⟩
end Go.Proofs.YtccndofafljaaaaGreatDoor

namespace Go.Proofs.YtccndofafljaaaaGreatDoor
open Go Go.RowKit Num

/-- The next borrow. -/
def bor (b x y : Nat) : Nat := if x < y + b then 1 else 0
theorem bor_lt (b x y : Nat) : bor b x y < 2 := by unfold bor; split <;> omega
theorem bor_eq {b x y : Nat} (hb : b < 2) (hx : x < 4294967296) (hy : y < 4294967296) :
    (-(b : Int) + x - y) / 4294967296 = -(bor b x y : Int) ∧ (-(b : Int) + x - y) % 4294967296 = ((x + 4294967296 * bor b x y - y - b : Nat) : Int) ∧ x + 4294967296 * bor b x y - y - b < 4294967296 ∧
    y + b ≤ x + 4294967296 * bor b x y := by
  unfold bor
  by_cases h : x < y + b
  · simp only [if_pos h]; omega
  · simp only [if_neg h]; omega

/-- WHAT HOLDS AT THE HEAD OF THE LOOP, k words done, b borrowed. -/
structure DiffAt (w wr : World) (l1 l2 : List Nat) (k b : Nat) (done : List Nat) : Prop where
  own : Own wr w.heap.size (done ++ List.replicate (l1.length - k) 0)
  len : done.length = k
  lt : ∀ x ∈ done, x < 4294967296
  carry : b < 2
  eq : val (l1.take k) + 4294967296 ^ k * b = val done + val (l2.take k)
  below : Below w.heap.size w wr

theorem borrow_step {d P b a c x y b' : Nat} (e : a + P * b = d + c) (hb : y + b ≤ x + 4294967296 * b') :
    a + P * x + P * 4294967296 * b' = d + P * (x + 4294967296 * b' - y - b) + (c + P * y) := by
  have h : P * (x + 4294967296 * b') = P * (x + 4294967296 * b' - y - b) + P * y + P * b := by
    rw [← Nat.mul_add, ← Nat.mul_add]; congr 1; omega
  rw [Nat.mul_add, ← Nat.mul_assoc] at h
  omega

theorem DiffAt.step {w wr : World} {l1 l2 : List Nat} {k b : Nat} {done : List Nat} (h : DiffAt w wr l1 l2 k b done) (hk : k < l1.length) (h1 : ∀ x ∈ l1, x < 4294967296) (h2 : ∀ x ∈ l2, x < 4294967296) :
    DiffAt w (wr.setCell ⟨w.heap.size, k, none⟩ (.int .u32 ((l1.getD k 0 + 4294967296 * bor b (l1.getD k 0) (l2.getD k 0) - l2.getD k 0 - b : Nat) : Int))) l1 l2 (k + 1) (bor b (l1.getD k 0) (l2.getD k 0))
      (done ++ [l1.getD k 0 + 4294967296 * bor b (l1.getD k 0) (l2.getD k 0) - l2.getD k 0 - b]) := by
  obtain ⟨_, _, q1, q2⟩ := bor_eq h.carry (getD_lt h1 k) (getD_lt h2 k)
  refine ⟨?_, by simp [h.len], ?_, bor_lt _ _ _, ?_, h.below.setCell (Nat.le_refl _) _⟩
  · have e := h.own.set k (l1.getD k 0 + 4294967296 * bor b (l1.getD k 0) (l2.getD k 0) - l2.getD k 0 - b)
    rw [show l1.length - k = (l1.length - (k + 1)) + 1 from by omega, List.replicate_succ] at e
    have hs := set_done done 0 (l1.getD k 0 + 4294967296 * bor b (l1.getD k 0) (l2.getD k 0) - l2.getD k 0 - b) (List.replicate (l1.length - (k + 1)) 0)
    rw [h.len] at hs
    rw [hs] at e
    rw [List.append_assoc]
    exact e
  · intro x hx
    rcases List.mem_append.1 hx with hx | hx
    · exact h.lt x hx
    · rw [List.mem_singleton] at hx; rw [hx]; exact q1
  · rw [val_snoc, h.len, val_take_succ, val_take_succ, Nat.pow_succ]
    exact borrow_step h.eq q2

theorem DiffAt.done {w wr : World} {l1 l2 : List Nat} {b : Nat} {done : List Nat} (hs : DiffAt w wr l1 l2 l1.length b done) (hle : l2.length ≤ l1.length) (hv : val l2 ≤ val l1) (hn : l1.length ≤ 1000000) :
    U32 wr (.slice (some ⟨w.heap.size, 0, none⟩) l1.length l1.length) done ∧ val done = val l1 - val l2 := by
  have hU : U32 wr (.slice (some ⟨w.heap.size, 0, none⟩) done.length done.length) done := by
    have ho := hs.own
    rw [Nat.sub_self, List.replicate_zero, List.append_nil] at ho
    exact ho.u32 hs.lt (by rw [hs.len]; simp only [maxLen]; omega)
  rw [hs.len] at hU
  refine ⟨hU, ?_⟩
  have e := hs.eq
  have t2 : l2.take l1.length = l2 := List.take_of_length_le (by omega)
  rw [List.take_length, t2] at e
  have hl := val_lt hs.lt
  rw [hs.len] at hl
  have hb := hs.carry
  rcases Nat.eq_zero_or_pos b with h0 | h0
  · rw [h0, Nat.mul_zero] at e; omega
  · have h1 : b = 1 := by omega
    rw [h1, Nat.mul_one] at e; omega

theorem DiffAt.start (w : World) (l1 l2 : List Nat) : DiffAt w (w.alloc (.cells (ws (List.replicate l1.length 0)).toArray 69)) l1 l2 0 0 [] :=
  ⟨by simpa using Own.new w _, rfl, by simp, by omega, by simp [val], (Below.refl _ _).alloc (Nat.le_refl _) _⟩

set_option maxHeartbeats 1000000 in
theorem difference_any (v1 v2 : Value) (l1 l2 : List Nat) (w : World) (h1 : U32 w v1 l1) (h2 : U32 w v2 l2) (hn1 : l1.length ≤ 1000000) (hle : l2.length ≤ l1.length) (hv : val l2 ≤ val l1) :
    Calls Tryz.prog 72 #[v1, v2] w fun e w' => ∃ v', e = .returned v' ∧ Mag w' v' (val l1 - val l2) ∧ Below w.heap.size w w' := by
  obtain ⟨A1, cap1, rfl, hc1, hm1, hf1⟩ := id h1.form
  obtain ⟨A2, cap2, rfl, hc2, hm2, hf2⟩ := id h2.form
  have hmk := make_u32 (x := (l1.length : Int)) l1.length rfl (by omega)
  have HV := Lib.hid hv
  clear hv
  go_enter Tryz.func72, Tryz.ntmps72
  go_wp2
  go_loopw [6, 7, 8, 14] (fun cy _ _ i wr => ∃ (k b : Nat) (done : List Nat), k ≤ l1.length ∧ cy = .int .i64 (-(b : Int)) ∧ i = .int .i64 k ∧ DiffAt w wr l1 l2 k b done) (fun _ _ _ i _ => l1.length - (intOf i).toNat)
  case atStart => exact ⟨0, 0, [], Nat.zero_le _, rfl, rfl, DiffAt.start w l1 l2⟩
  case round =>
    obtain ⟨k, b, done, hk, rfl, rfl, hs⟩ := hrel
    by_cases hk1 : k < l1.length
    · obtain ⟨b1, o1, rfl, hb1, hcell1⟩ := hf1 (by intro h; rw [h] at hk1; simp at hk1)
      have hx := (hs.below.cell (p := ⟨b1, o1 + k, none⟩) hb1).trans (hcell1 k hk1)
      have hc0 := hs.own.cell (i := k) (by simp [hs.len]; omega)
      have hfz := hs.own.frozen k
      have hcy := hs.carry
      have a1 := getD_lt h1.lt k
      have a2 := getD_lt h2.lt k
      have HS := Lib.hid (hs.step hk1 h1.lt h2.lt)
      have HB := Lib.hid (bor_eq hs.carry a1 a2)
      clear hmk hf1 hcell1
      generalize l1.getD k 0 = x at *
      by_cases hk2 : k < l2.length
      · obtain ⟨b2, o2, rfl, hb2, hcell2⟩ := hf2 (by intro h; rw [h] at hk2; simp at hk2)
        have hy := (hs.below.cell (p := ⟨b2, o2 + k, none⟩) hb2).trans (hcell2 k hk2)
        clear hcell2
        generalize l2.getD k 0 = y at *
        clear hf2 hs
        go_wp2
        go_roundw
        case rel => exact ⟨k + 1, bor b x y, _, by omega, by rw [← HB.out.1], by go_num, by rw [HB.out.2.1]; exact HS.out⟩
        case measure => simp [intOf]; omega
      · have hy : l2.getD k 0 = 0 := by simp only [List.getD_eq_getElem?_getD, List.getElem?_eq_none (by omega : l2.length ≤ k)]; rfl
        rw [hy] at HS HB
        clear hf2 hs hy a2
        have e0 : -(b : Int) + x - (0 : Nat) = -(b : Int) + x := by omega
        rw [e0] at HB
        clear e0
        go_wp2
        go_roundw
        case rel => exact ⟨k + 1, bor b x 0, _, by omega, by rw [← HB.out.1], by go_num, by rw [HB.out.2.1]; exact HS.out⟩
        case measure => simp [intOf]; omega
    · obtain rfl : k = l1.length := by omega
      obtain ⟨hU, hv⟩ := hs.done hle HV.out (by omega)
      have hb := hs.below
      have HD := Lib.hid hv
      clear hmk hf1 hf2 hs hv
      go_wp2_with fail
      refine (trim_any _ _ _ hU).mono ?_
      rintro e w' ⟨v', rfl, rfl, hm, -⟩
      have hm1 := hm _ hU
      rw [HD.out] at hm1
      go_wp2
      go_ret
      exact ⟨_, rfl, hm1, hb⟩
end Go.Proofs.YtccndofafljaaaaGreatDoor

namespace Go.Proofs.YtccndofafljaaaaGreatDoor
open Go Num

/-- The number of binary digits of n. -/
def blen (n : Nat) : Nat := if n = 0 then 0 else n.log2 + 1

theorem blen_unique {n k : Nat} (h : n < 2 ^ k) (hl : ∀ j, k = j + 1 → 2 ^ j ≤ n) : blen n = k := by
  unfold blen
  rcases k with _ | j
  · have : n = 0 := by simpa using h
    rw [if_pos this]
  · have h1 := hl j rfl
    have hp : 0 < 2 ^ j := Nat.pow_pos (by omega)
    have h0 : n ≠ 0 := by omega
    rw [if_neg h0, (Nat.log2_eq_iff h0).2 ⟨h1, h⟩]

theorem lt_blen (n : Nat) : n < 2 ^ blen n := by
  unfold blen
  by_cases h : n = 0
  · subst h; simp
  · rw [if_neg h]; exact Nat.lt_log2_self

theorem blen_le {n j : Nat} (h : blen n = j + 1) : 2 ^ j ≤ n := by
  unfold blen at h
  by_cases h0 : n = 0
  · rw [if_pos h0] at h; omega
  · rw [if_neg h0] at h
    have : n.log2 = j := by omega
    rw [← this]; exact Nat.log2_self_le h0

theorem blen_zero : blen 0 = 0 := rfl
theorem blen_pos {n : Nat} (h : n ≠ 0) : 0 < blen n := by unfold blen; rw [if_neg h]; omega

theorem bitLen_eq (n : Nat) (h : n < 18446744073709551616) : Lib.bitLen n = blen n := by
  induction n using Nat.strongRecOn with
  | _ n ih =>
    by_cases h0 : n = 0
    · subst h0; rfl
    · rw [Lib.bitLen_half n h0 (by omega), ih (n / 2) (by omega) (by omega)]
      have h1 := lt_blen (n / 2)
      refine (blen_unique (by rw [Nat.pow_add]; omega) fun j hj => ?_).symm
      obtain rfl : j = blen (n / 2) := by omega
      rcases hb : blen (n / 2) with _ | i
      · simp; omega
      · have := blen_le hb
        rw [Nat.pow_succ]; omega

theorem blen_top {v x k : Nat} (hv : v < 4294967296 ^ k) (hx : x ≠ 0) : blen (v + 4294967296 ^ k * x) = 32 * k + blen x := by
  have hp : 4294967296 ^ k = 2 ^ (32 * k) := by rw [Nat.pow_mul]
  rw [hp] at hv ⊢
  have h1 := lt_blen x
  refine blen_unique ?_ fun j hj => ?_
  · rw [Nat.pow_add]
    have : 2 ^ (32 * k) * (x + 1) ≤ 2 ^ (32 * k) * 2 ^ blen x := Nat.mul_le_mul_left _ h1
    rw [Nat.mul_succ] at this
    omega
  · obtain ⟨i, hi⟩ : ∃ i, blen x = i + 1 := ⟨blen x - 1, by have := blen_pos hx; omega⟩
    have h2 := blen_le hi
    obtain rfl : j = 32 * k + i := by omega
    rw [Nat.pow_add]
    have := Nat.mul_le_mul_left (2 ^ (32 * k)) h2
    omega
end Go.Proofs.YtccndofafljaaaaGreatDoor

namespace Go.Proofs.YtccndofafljaaaaGreatDoor
open Go Go.RowKit Num

theorem cmpI_nat (a b : Nat) : cmpI a b = if a < b then -1 else if b < a then 1 else 0 := by
  unfold cmpI
  by_cases h : a < b
  · rw [if_pos h, if_pos (by omega)]
  · rw [if_neg h, if_neg (by omega)]
    by_cases h' : b < a
    · rw [if_pos h', if_pos (by omega)]
    · rw [if_neg h', if_neg (by omega)]

/-- The highest words decide, if they differ. -/
theorem cmp_top {P a b x y : Nat} (ha : a < P) (hb : b < P) : cmpI (a + P * x : Nat) (b + P * y : Nat) = if x = y then cmpI a b else cmpI x y := by
  rw [cmpI_nat, cmpI_nat, cmpI_nat]
  rcases Nat.lt_trichotomy x y with h | h | h
  · have h1 : P * x + P ≤ P * y := by rw [← Nat.mul_succ]; exact Nat.mul_le_mul_left _ h
    rw [if_pos (by omega), if_neg (by omega), if_pos h]
  · subst h
    rw [if_pos rfl]
    by_cases h1 : a < b
    · rw [if_pos (by omega), if_pos h1]
    · by_cases h2 : b < a
      · rw [if_neg (by omega), if_pos (by omega), if_neg h1, if_pos h2]
      · rw [if_neg (by omega), if_neg (by omega), if_neg h1, if_neg h2]
  · have h1 : P * y + P ≤ P * x := by rw [← Nat.mul_succ]; exact Nat.mul_le_mul_left _ h
    rw [if_neg (by omega), if_pos (by omega), if_neg (by omega), if_neg (by omega), if_pos h]

theorem take_val_lt {l : List Nat} (h : ∀ x ∈ l, x < 4294967296) {k : Nat} (hk : k ≤ l.length) : val (l.take k) < 4294967296 ^ k := by
  have h1 := val_lt (l := l.take k) (fun x hx => h x (List.mem_of_mem_take hx))
  have : (l.take k).length = k := by simp; omega
  rwa [this] at h1

/-- A callee that leaves the world alone, met in a world that has drawn before. -/
theorem quiet_here {P : Program} {f : FuncId} {args : Array Value} {w : World} {a n : Nat} {v : Value} (h : ∀ W, Calls P f args W fun e w' => e = .returned v ∧ w' = W) :
    Calls P f args (w.drewN (a + n)) fun e w' => e = .returned v ∧ ∃ m, w' = w.drewN (a + m) := (h _).mono fun _ _ hh => ⟨hh.1, n, hh.2⟩

theorem lt_of_length {a b : Nat} (h : (digs a).length < (digs b).length) : a < b := by
  rcases Nat.lt_or_ge a b with h1 | h1
  · exact h1
  · have := length_mono h1; omega

set_option maxHeartbeats 1000000 in
theorem compare_any (v1 v2 : Value) (a b : Nat) (w : World) (h1 : Mag w v1 a) (h2 : Mag w v2 b) (hn1 : (digs a).length ≤ 1000000) (hn2 : (digs b).length ≤ 1000000) :
    Calls Tryz.prog 66 #[v1, v2] w fun e w' => e = .returned (.int .i64 (cmpI a b)) ∧ ∃ n, w' = w.drewN n := by
  obtain ⟨A1, cap1, rfl, hc1, hm1, hf1⟩ := id h1.form
  obtain ⟨A2, cap2, rfl, hc2, hm2, hf2⟩ := id h2.form
  have hl1 := h1.lt
  have hl2 := h2.lt
  have hva := val_digs a
  have hvb := val_digs b
  have hq := @lt_of_length a b
  have hq' := @lt_of_length b a
  generalize digs a = l1 at *
  generalize digs b = l2 at *
  by_cases hne : l1.length = l2.length
  · clear hq hq'
    have hr : cmpI (val (l1.take l1.length)) (val (l2.take l1.length)) = cmpI a b := by
      have t2 : l2.take l1.length = l2 := List.take_of_length_le (by omega)
      rw [List.take_length, t2, hva, hvb]
    clear hva hvb
    have HR := Lib.hid hr
    have HN := Lib.hid hne
    have hne1 : ((l1.length : Int) != (l2.length : Int)) = false := by simp [hne]
    have hge : l2.length ≤ l1.length ∧ l1.length ≤ l2.length := by omega
    obtain ⟨hge1, hge2⟩ := hge
    clear hr hne
    go_enter Tryz.func66, Tryz.ntmps66
    go_wp2
    go_loopw [5] (fun i wr => ∃ (k n : Nat), k ≤ l1.length ∧ i = .int .i64 ((k : Int) - 1) ∧ cmpI (val (l1.take k)) (val (l2.take k)) = cmpI a b ∧ wr = w.drewN n) (fun i _ => (intOf i + 1).toNat)
    case atStart => exact ⟨l1.length, 0, Nat.le_refl _, rfl, HR.out, rfl⟩
    case round =>
      obtain ⟨k, n, hk, rfl, hr, rfl⟩ := hrel
      rcases k with _ | k
      · have HK := Lib.hid hr
        clear hr HR
        go_wp2
        go_ret
        exact ⟨ret_int (by have := HK.out; simpa [val, cmpI] using this), n, rfl⟩
      · obtain ⟨b1, o1, rfl, hb1, hcell1⟩ := hf1 (by intro h; rw [h] at hk; simp at hk)
        obtain ⟨b2, o2, rfl, hb2, hcell2⟩ := hf2 (by intro h; rw [h, List.length_nil] at hge2; omega)
        have hx := hcell1 k (by omega)
        have hy := hcell2 k (by omega)
        rw [val_take_succ, val_take_succ, cmp_top (take_val_lt hl1 (by omega)) (take_val_lt hl2 (by omega))] at hr
        have HK := Lib.hid hr
        have e1 : (((k + 1 : Nat) : Int) - 1) = (k : Int) := by omega
        rw [e1]
        clear hr hcell1 hcell2 hf1 hf2 e1
        generalize l1.getD k 0 = x at *
        generalize l2.getD k 0 = y at *
        by_cases hxy : x = y
        · have HX := Lib.hid hxy
          have hb : ((x : Int) != (y : Int)) = false := by simp [hxy]
          clear hxy
          go_wp2
          go_quiet (fail)
          go_wp2
          go_roundw
          case rel => exact ⟨k, n + nq, by omega, rfl, by have := HK.out; rwa [if_pos HX.out] at this, rfl⟩
          case measure => simp only [intOf]; omega
        · have HX := Lib.hid hxy
          have hb : ((x : Int) != (y : Int)) = true := by rw [bne_iff_ne]; omega
          clear hxy
          go_wp2
          go_quiet (fail)
          go_wp2
          go_quiet ((go_at_call 82; exact quiet_here (cmp_u32 _ _)))
          go_wp2
          go_ret
          exact ⟨ret_int (by have := HK.out; rwa [if_neg HX.out] at this), _, by rw [World.drewN_drewN, World.drewN_drewN]⟩
  · have hne1 : ((l1.length : Int) != (l2.length : Int)) = true := by rw [bne_iff_ne]; omega
    have HR : Hid (cmpI l1.length l2.length = cmpI a b) := by
      unfold Hid
      rw [cmpI_nat, cmpI_nat]
      rcases Nat.lt_or_ge l1.length l2.length with h | h
      · have := hq h
        rw [if_pos h, if_pos this]
      · have h' : l2.length < l1.length := by omega
        have := hq' h'
        rw [if_neg (by omega), if_pos h', if_neg (by omega), if_pos this]
    clear hq hq' hva hvb
    go_enter Tryz.func66, Tryz.ntmps66
    go_wp2_with fail
    refine (cmp_int _ _ _).mono ?_
    rintro e w' ⟨rfl, rfl⟩
    go_wp2
    go_ret
    exact ⟨ret_int HR.out, 0, rfl⟩

set_option maxHeartbeats 400000 in
theorem length_any (v : Value) (a : Nat) (w : World) (h : Mag w v a) (hn : (digs a).length ≤ 1000000) :
    Calls Tryz.prog 110 #[v] w fun e w' => e = .returned (.int .i64 (blen a)) ∧ w' = w := by
  rcases h.cases with ⟨hz, A, cap, rfl, -⟩ | ⟨hpos, b, off, cap, rfl, -, -, hb, hc⟩
  · have h0 : a = 0 := digs_eq_nil.1 hz
    subst h0
    go_enter Tryz.func110, Tryz.ntmps110
    go_wp2
    go_ret
    exact ⟨rfl, rfl⟩
  · obtain ⟨m, hm⟩ : ∃ m, (digs a).length = m + 1 := ⟨(digs a).length - 1, by omega⟩
    have hc1 := hc m (by omega)
    have hx := getD_lt (digs_lt a) m
    have hx0 : (digs a).getD m 0 ≠ 0 := digs_getLast (n := a) (by
      have := take_last (l := digs a) (k := m) (by omega)
      rwa [List.take_of_length_le (by omega)] at this)
    have hv := val_take_succ (digs a) m
    rw [List.take_of_length_le (by omega), val_digs] at hv
    have hlt := take_val_lt (digs_lt a) (k := m) (by omega)
    have hbl := blen_top hlt hx0
    rw [← hv] at hbl
    have HB := Lib.hid hbl
    have hle := Lib.bitLen_le ((digs a).getD m 0) 32 (by omega) hx
    have he := bitLen_eq ((digs a).getD m 0) (by omega)
    have HE := Lib.hid he
    rw [hm]
    clear hc hv hlt hbl he h hx0
    generalize (digs a).getD m 0 = x at *
    have hm' : m ≤ 1000000 := by omega
    clear hm hpos hn
    go_enter Tryz.func110, Tryz.ntmps110
    go_wp2_with fail
    refine (Tryz.bits_Len32 _ _ (by omega) (by omega)).mono ?_
    rintro e w' ⟨rfl, rfl⟩
    rw [Int.toNat_natCast]
    go_wp2
    go_ret
    exact ⟨ret_int (by rw [HB.out, HE.out]; omega), rfl⟩
end Go.Proofs.YtccndofafljaaaaGreatDoor

namespace Go.Proofs.YtccndofafljaaaaGreatDoor
open Go Go.RowKit Num

/-- Block g begins with the words l; behind them lies ex. -/
def OwnX (w : World) (g : Nat) (l : List Nat) (ex : List Value) : Prop := w.heap[g]? = some (.cells (ws l ++ ex).toArray 69 (0, 0))

section
variable {w w' : World} {g : Nat} {l : List Nat} {ex : List Value}
theorem OwnX.lt (h : OwnX w g l ex) : g < w.heap.size := by
  rcases Nat.lt_or_ge g w.heap.size with hlt | hge
  · exact hlt
  · unfold OwnX at h; rw [Array.getElem?_eq_none hge] at h; cases h
theorem OwnX.cell (h : OwnX w g l ex) {i : Nat} (hi : i < l.length) : w.cell? ⟨g, i, none⟩ = some (.int .u32 (l.getD i 0 : Nat)) := by
  rw [cell_of_row w g i _ _ (0, 0) h]
  rw [List.getElem?_toArray, List.getElem?_append_left (by rw [ws_length]; exact hi), ws_getElem?]
  simp [hi]
theorem OwnX.frozen (h : OwnX w g l ex) (i : Nat) : w.frozen? ⟨g, i, none⟩ = false := frozen_of_row w g i _ _ h
theorem OwnX.below {B : Nat} (h : OwnX w g l ex) (hb : Below B w w') (hg : g < B) : OwnX w' g l ex := (hb.block g hg).trans h
theorem OwnX.grown {row : Option Nat} (h : OwnX w g l ex) (hg : w.grownBy w' row) (hne : some g ≠ row) : OwnX w' g l ex := (hg.block g h.lt hne).trans h
theorem OwnX.other (h : OwnX w g l ex) {a : Addr} (hne : g ≠ a.block) (v : Value) : OwnX (w.setCell a v) g l ex := (heap_setCell_other w a g v hne).trans h
theorem OwnX.drewN (h : OwnX w g l ex) (n : Nat) : OwnX (w.drewN n) g l ex := h
theorem OwnX.alloc (h : OwnX w g l ex) (o : Obj) : OwnX (w.alloc o) g l ex := (Below.heap_alloc w o g h.lt).trans h
theorem OwnX.set (h : OwnX w g l ex) {i : Nat} (hi : i < l.length) (x : Nat) : OwnX (w.setCell ⟨g, i, none⟩ (.int .u32 (x : Int))) g (l.set i x) ex := by
  unfold OwnX
  rw [heap_setCell_same w g i _ _ _ h]
  congr 2
  rw [List.setIfInBounds_toArray, List.set_append_left _ _ (by rw [ws_length]; exact hi)]
  simp [ws, List.map_set]
theorem OwnX.front (h : OwnX w g l ex) {k : Nat} : OwnX w g (l.take k) (ws (l.drop k) ++ ex) := by
  unfold OwnX
  rw [← List.append_assoc, ← ws_append, List.take_append_drop]
  exact h
theorem OwnX.u32 (h : OwnX w g l ex) (hlt : ∀ x ∈ l, x < 4294967296) {cap : Nat} (hc : l.length ≤ cap) (hm : cap ≤ maxLen) : U32 w (.slice (some ⟨g, 0, none⟩) l.length cap) l :=
  ⟨hlt, _, _, rfl, hc, hm, fun _ => ⟨g, 0, rfl, h.lt, fun i hi => by rw [Nat.zero_add]; exact h.cell hi⟩⟩
theorem Own.x (h : Own w g l) : OwnX w g l [] := by unfold OwnX; rw [List.append_nil]; exact h
theorem grown_set (w : World) (g i : Nat) (v : Value) : w.grownBy (w.setCell ⟨g, i, none⟩ v) (some g) :=
  ⟨rfl, rfl, rfl, by simp, fun k _ hk => heap_setCell_other w ⟨g, i, none⟩ k v (fun e => hk (by simp [e]))⟩
theorem grown_trans {a b c : World} {r : Option Nat} (h : a.grownBy b r) (k : b.grownBy c r) : a.grownBy c r :=
  ⟨k.os.trans h.os, k.tape.trans h.tape, k.output.trans h.output, Nat.le_trans h.size k.size, fun i hi hne => (k.block i (Nat.lt_of_lt_of_le hi h.size) hne).trans (h.block i hi hne)⟩
theorem grown_refl (w : World) (r : Option Nat) : w.grownBy w r := ⟨rfl, rfl, rfl, Nat.le_refl _, fun _ _ _ => rfl⟩
theorem grown_drewN (w : World) (r : Option Nat) (n : Nat) : w.grownBy (w.drewN n) r := ⟨rfl, rfl, rfl, Nat.le_refl _, fun _ _ _ => rfl⟩
theorem grown_below {a b : World} (h : Below a.heap.size a b) (r : Option Nat) : a.grownBy b r := ⟨h.os, h.tape, h.output, h.size, fun i hi _ => h.block i hi⟩
theorem OwnX.of_row {base : Nat} {v : Value} {n : Nat} (h : w.ownsRow base 69 1 v n (ws l)) (hv : v ≠ .slice none 0 0) :
    ∃ g cap ex, v = .slice (some ⟨g, 0, none⟩) n cap ∧ base ≤ g ∧ OwnX w g l ex ∧ n ≤ cap ∧ cap ≤ maxLen := by
  rcases h.2 with ⟨rfl, _⟩ | ⟨g, cap, cur, rfl, hg, hh, hnc, hcm, hcs, htake⟩
  · exact absurd rfl hv
  · refine ⟨g, cap, cur.toList.drop (n * 1), rfl, hg, ?_, hnc, hcm⟩
    unfold OwnX
    rw [← htake, List.take_append_drop]
    simpa using hh
end

/-- What a clone is: nil, or new cells with the same words. -/
def Cloned (w w' : World) (l : List Nat) (v' : Value) : Prop :=
  (l = [] ∧ v' = .slice none 0 0) ∨ ∃ g cap ex, v' = .slice (some ⟨g, 0, none⟩) l.length cap ∧ w.heap.size ≤ g ∧ OwnX w' g l ex ∧ l.length ≤ cap ∧ cap ≤ maxLen

theorem Cloned.u32 {w w' : World} {l : List Nat} {v' : Value} (h : Cloned w w' l v') (hlt : ∀ x ∈ l, x < 4294967296) : U32 w' v' l := by
  rcases h with ⟨rfl, rfl⟩ | ⟨g, cap, ex, rfl, _, ho, hc, hm⟩
  · exact U32.nil none (Nat.zero_le _)
  · exact ho.u32 hlt hc hm

set_option maxHeartbeats 400000 in
set_option maxRecDepth 100000 in
theorem clone_any (v : Value) (l : List Nat) (w : World) (h : U32 w v l) (hn : l.length ≤ 1000000) :
    Calls Tryz.prog 69 #[v] w fun e w' => ∃ v', e = .returned v' ∧ Cloned w w' l v' ∧ Below w.heap.size w w' := by
  obtain ⟨A, cap, rfl, hc1, hm1, hf⟩ := id h.form
  have heq := Lib.run_eql_slice_nil (P := Tryz.prog) w 22 69 A l.length cap 0 0 Tryz.underlying22
  obtain ⟨i0, hi, hz0, hz1, hz2⟩ := info_parts info32
  rcases A with _ | a
  · have hl : l = [] := by
      rcases l with _ | ⟨x, xs⟩
      · rfl
      · obtain ⟨b, off, e, -⟩ := hf (by simp); cases e
    subst hl
    clear hf
    simp only [Option.isNone_none, List.length_nil] at heq
    go_enter Tryz.func69, Tryz.ntmps69
    go_wp2
    go_ret
    exact ⟨_, rfl, .inl ⟨rfl, rfl⟩, Below.refl _ _⟩
  · have hcell : ∀ j u, (ws l)[j]? = some u → (w.alloc (.cells #[] 69)).cell? (a.add j) = some u := by
      intro j u hu
      have hj : j < l.length := by
        rcases Nat.lt_or_ge j l.length with h1 | h1
        · exact h1
        · rw [ws_getElem?, List.getElem?_eq_none h1] at hu; cases hu
      obtain ⟨b, off, e, hb, hcc⟩ := hf (by intro h; rw [h] at hj; simp at hj)
      injection e with e
      subst e
      have h1 := hcc j hj
      rw [ws_getElem?] at hu
      have h2 : (⟨b, off, none⟩ : Addr).add j = ⟨b, off + j, none⟩ := by
        unfold Addr.add
        by_cases h0 : j = 0
        · simp [h0]
        · simp [h0]
      rw [h2, World.cell?_alloc_lt w _ ⟨b, off + j, none⟩ hb, h1]
      rw [List.getElem?_eq_getElem hj] at hu
      simp [List.getD, hj] at hu ⊢
      exact hu
    have HC := Lib.hid hcell
    clear hcell hf
    simp only [Option.isNone_some] at heq
    go_enter Tryz.func69, Tryz.ntmps69
    go_wp2_with ((at_builtin; refine wpList_append_own _ rfl _ _ 22 rfl w.heap.size 69 i0 (.int .u32 0) 1 4 Tryz.underlying22 hi hz0 hz1 hz2 rfl (by decide) (.slice (some ⟨w.heap.size, 0, none⟩) 0 0) 0 [] rfl (World.ownsRow_lit w #[] 0 (Nat.le_refl _) (Nat.zero_le _) rfl) a l.length cap (ws l) rfl (by rw [ws_length, Nat.mul_one]) HC.out (ws_oneCell l) (by simp only [maxLen]; omega) (by omega) (by simp) ?_; intro v1 w1 hown1 hgrow1 hnil1))
    go_ret
    rw [Nat.zero_add, List.nil_append] at hown1
    have hb : Below w.heap.size w w1 := ((Below.refl _ _).alloc (Nat.le_refl _) _).grown hgrow1 (by simp) (fun k hk => by simp [Value.ownBlock] at hk; omega)
    refine ⟨_, rfl, .inr ?_, hb⟩
    obtain ⟨g, c, ex, e1, e2, e3, e4, e5⟩ := OwnX.of_row hown1 (fun hv => by have := hnil1.1 hv; simp at this)
    exact ⟨g, c, ex, e1, e2, e3, e4, e5⟩

theorem or_join64' (r x : Nat) (hr : r < 4294967296) (hx : x < 4294967296) : bits .or .u64 ((r : Int) * 4294967296) (x : Int) = ((r * 4294967296 + x : Nat) : Int) := by
  have e := u64_or_nat (r * 4294967296) x (by omega) (by omega)
  rw [nat_join 32 (r * 4294967296) x (by omega) (by omega)] at e
  rw [← e]
  congr 1
theorem val_drop {l : List Nat} {k : Nat} (hk : k < l.length) : val (l.drop k) = l.getD k 0 + 4294967296 * val (l.drop (k + 1)) := by
  rw [List.drop_eq_getElem_cons hk, val]
  simp [List.getD, hk]

/-- WHAT HOLDS AT THE HEAD OF shorten's LOOP, the words from k on done. -/
structure ShortAt (w wr : World) (g : Nat) (l : List Nat) (ex : List Value) (d k r : Nat) (q : List Nat) : Prop where
  own : OwnX wr g (l.take k ++ q) ex
  len : k + q.length = l.length
  lt : ∀ x ∈ q, x < 4294967296
  rest : r < d
  eq : val (l.drop k) = d * val q + r
  grown : w.grownBy wr (some g)

theorem ShortAt.step {w wr : World} {g : Nat} {l : List Nat} {ex : List Value} {d k r : Nat} {q : List Nat} (h : ShortAt w wr g l ex d (k + 1) r q) (hd : d < 4294967296) (hl : ∀ x ∈ l, x < 4294967296) :
    ShortAt w (wr.setCell ⟨g, k, none⟩ (.int .u32 (((r * 4294967296 + l.getD k 0) / d : Nat) : Int))) g l ex d k ((r * 4294967296 + l.getD k 0) % d) ((r * 4294967296 + l.getD k 0) / d :: q) := by
  have hr := h.rest
  have hlen := h.len
  have hx := getD_lt hl k
  refine ⟨?_, by simp only [List.length_cons]; omega, ?_, Nat.mod_lt _ (by omega), ?_, grown_trans h.grown (grown_set _ _ _ _)⟩
  · have e := h.own.set (i := k) (by simp; omega) ((r * 4294967296 + l.getD k 0) / d)
    have hk : k < l.length := by omega
    rw [List.take_succ_eq_append_getElem hk, List.append_assoc, List.singleton_append] at e
    have hs := set_done (l.take k) l[k] ((r * 4294967296 + l.getD k 0) / d) q
    have hk' : (l.take k).length = k := by simp; omega
    rw [hk'] at hs
    rw [hs] at e
    exact e
  · intro x hx'
    rcases List.mem_cons.1 hx' with rfl | hx'
    · rw [Nat.div_lt_iff_lt_mul (by omega)]
      have : (r + 1) * 4294967296 ≤ d * 4294967296 := Nat.mul_le_mul_right _ h.rest
      rw [Nat.mul_comm]; omega
    · exact h.lt x hx'
  · rw [val_drop (by omega), h.eq, val]
    have e := Nat.div_add_mod (r * 4294967296 + l.getD k 0) d
    generalize (r * 4294967296 + l.getD k 0) / d = s at *
    generalize (r * 4294967296 + l.getD k 0) % d = m at *
    have e2 : 4294967296 * (d * val q) = d * (4294967296 * val q) := Nat.mul_left_comm _ _ _
    rw [Nat.mul_add, Nat.mul_add, e2]
    omega

set_option maxHeartbeats 1000000 in
theorem shorten_any (g cap d : Nat) (l : List Nat) (ex : List Value) (w : World) (h : OwnX w g l ex) (hl : ∀ x ∈ l, x < 4294967296) (hd0 : 0 < d) (hd : d < 4294967296) (hn : l.length ≤ 1000000) (hc : l.length ≤ cap) :
    Calls Tryz.prog 83 #[.slice (some ⟨g, 0, none⟩) l.length cap, .int .u32 d] w fun e w' =>
      e = .returned (.int .u32 (val l % d : Nat)) ∧ ∃ l', l'.length = l.length ∧ (∀ x ∈ l', x < 4294967296) ∧ val l' = val l / d ∧ OwnX w' g l' ex ∧ w.grownBy w' (some g) := by
  have hs0 : ShortAt w w g l ex d l.length 0 [] := ⟨by rw [List.take_length, List.append_nil]; exact h, rfl, by simp, hd0, by simp [val], grown_refl _ _⟩
  go_enter Tryz.func83, Tryz.ntmps83
  go_wp2
  go_loopw [5, 6] (fun rv i wr => ∃ (k r : Nat) (q : List Nat), k ≤ l.length ∧ i = .int .i64 ((k : Int) - 1) ∧ rv = .int .u64 r ∧ ShortAt w wr g l ex d k r q) (fun _ i _ => (intOf i + 1).toNat)
  case atStart => exact ⟨l.length, 0, [], Nat.le_refl _, rfl, rfl, hs0⟩
  case round =>
    obtain ⟨k, r, q, hk, rfl, rfl, hs⟩ := hrel
    have hr := hs.rest
    rcases k with _ | k
    · have HS := Lib.hid hs
      clear hs hs0
      go_wp2
      go_ret
      have hs := HS.out
      have e := hs.eq
      rw [List.drop_zero] at e
      have ho := hs.own
      rw [List.take_zero, List.nil_append] at ho
      have hlen := hs.len
      refine ⟨ret_int (by rw [e, Nat.mul_add_mod_self_left, Nat.mod_eq_of_lt hr]), q, by omega, hs.lt, ?_, ho, hs.grown⟩
      rw [e, Nat.mul_add_div hd0, Nat.div_eq_of_lt hr, Nat.add_zero]
    · have hx := getD_lt hl k
      have hc0 := hs.own.cell (i := k) (by simp; omega)
      have hg : (List.take (k + 1) l ++ q).getD k 0 = l.getD k 0 := by
        simp only [List.getD_eq_getElem?_getD]
        rw [List.getElem?_append_left (by simp; omega), List.getElem?_take, if_pos (by omega)]
      rw [hg] at hc0
      have hfz := hs.own.frozen k
      have hor := or_join64' r (l.getD k 0) (by omega) hx
      have HS := Lib.hid (hs.step hd hl)
      have hsd : (r * 4294967296 + l.getD k 0) / d < 4294967296 := by
        rw [Nat.div_lt_iff_lt_mul hd0]
        have : (r + 1) * 4294967296 ≤ d * 4294967296 := Nat.mul_le_mul_right _ hr
        rw [Nat.mul_comm 4294967296]; omega
      have hsb : r * 4294967296 + l.getD k 0 < 18446744073709551616 := by omega
      have hsd' : ((r * 4294967296 + l.getD k 0 : Nat) : Int) / (d : Int) < 4294967296 := by
        rw [← Int.natCast_ediv]; omega
      have hsd0 : 0 ≤ ((r * 4294967296 + l.getD k 0 : Nat) : Int) / (d : Int) := by
        rw [← Int.natCast_ediv]; exact Int.natCast_nonneg _
      have e1 : (((k + 1 : Nat) : Int) - 1) = (k : Int) := by omega
      rw [e1]
      clear hs hs0 hg hsd e1
      generalize l.getD k 0 = x at *
      generalize r * 4294967296 + x = s at *
      go_wp2
      go_roundw
      case rel => exact ⟨k, s % d, _, by omega, rfl, by rw [Int.natCast_emod], by have := HS.out; rwa [Int.natCast_ediv] at this⟩
      case measure => simp only [intOf]; omega
end Go.Proofs.YtccndofafljaaaaGreatDoor

namespace Go.Proofs.YtccndofafljaaaaGreatDoor
open Go Go.RowKit Num

/-- One word is changed: so much does the number change. -/
theorem val_set (L : List Nat) (p y : Nat) (hp : p < L.length) : val (L.set p y) + 4294967296 ^ p * L.getD p 0 = val L + 4294967296 ^ p * y := by
  induction L generalizing p with
  | nil => simp at hp
  | cons a t ih =>
    rcases p with _ | p
    · simp only [List.set_cons_zero, val, List.getD_cons_zero, Nat.pow_zero, Nat.one_mul]; omega
    · have := ih p (by simpa using hp)
      simp only [List.set_cons_succ, val, List.getD_cons_succ, Nat.pow_succ]
      have e1 : 4294967296 ^ p * 4294967296 * t.getD p 0 = 4294967296 * (4294967296 ^ p * t.getD p 0) := by rw [Nat.mul_comm (4294967296 ^ p), Nat.mul_assoc]
      have e2 : 4294967296 ^ p * 4294967296 * y = 4294967296 * (4294967296 ^ p * y) := by rw [Nat.mul_comm (4294967296 ^ p), Nat.mul_assoc]
      rw [e1, e2]
      omega

theorem mem_set_lt {L : List Nat} {p y : Nat} (h : ∀ x ∈ L, x < 4294967296) (hy : y < 4294967296) : ∀ x ∈ L.set p y, x < 4294967296 := by
  intro x hx
  rcases List.mem_or_eq_of_mem_set hx with h1 | h1
  · exact h x h1
  · omega
theorem getD_set_ne (L : List Nat) {p t y : Nat} (h : p ≠ t) : (L.set p y).getD t 0 = L.getD t 0 := by
  simp [List.getD_eq_getElem?_getD, List.getElem?_set_ne h]

/-- WHAT HOLDS AT THE OUTER LOOP's HEAD. -/
structure MulAt (w wr : World) (l1 l2 : List Nat) (i : Nat) (L : List Nat) : Prop where
  own : Own wr w.heap.size L
  len : L.length = l1.length + l2.length
  lt : ∀ x ∈ L, x < 4294967296
  zero : ∀ t, i + l2.length ≤ t → L.getD t 0 = 0
  eq : val L = val (l1.take i) * val l2
  below : Below w.heap.size w wr

/-- .. AND AT THE INNER ONE's. -/
structure MulIn (w wr : World) (l1 l2 : List Nat) (i j c : Nat) (L : List Nat) : Prop where
  own : Own wr w.heap.size L
  len : L.length = l1.length + l2.length
  lt : ∀ x ∈ L, x < 4294967296
  zero : ∀ t, i + l2.length ≤ t → L.getD t 0 = 0
  carry : c < 4294967296
  eq : val L + 4294967296 ^ (i + j) * c = val (l1.take i) * val l2 + 4294967296 ^ i * (l1.getD i 0 * val (l2.take j))
  below : Below w.heap.size w wr

theorem MulAt.start (w : World) (l1 l2 : List Nat) : MulAt w (w.alloc (.cells (ws (List.replicate (l1.length + l2.length) 0)).toArray 69)) l1 l2 0 (List.replicate (l1.length + l2.length) 0) := by
  have hz : ∀ n, val (List.replicate n 0) = 0 := by
    intro n; induction n with
    | zero => rfl
    | succ n ih => rw [List.replicate_succ, val, ih]
  refine ⟨Own.new w _, by simp, by intro x hx; rw [List.mem_replicate] at hx; omega, fun t _ => ?_, by rw [hz]; simp [val], (Below.refl _ _).alloc (Nat.le_refl _) _⟩
  simp only [List.getD_eq_getElem?_getD, List.getElem?_replicate]
  split <;> rfl

theorem MulAt.inner {w wr : World} {l1 l2 : List Nat} {i : Nat} {L : List Nat} (h : MulAt w wr l1 l2 i L) : MulIn w wr l1 l2 i 0 0 L :=
  ⟨h.own, h.len, h.lt, h.zero, by omega, by rw [h.eq]; simp [val], h.below⟩

theorem carry_join' (P s : Nat) : P * (s % 4294967296) + P * 4294967296 * (s / 4294967296) = P * s := by
  rw [Nat.mul_assoc, ← Nat.mul_add, Nat.mod_add_div]

theorem mul_bound {c x y o : Nat} (hc : c < 4294967296) (hx : x < 4294967296) (hy : y < 4294967296) (ho : o < 4294967296) : x * y ≤ 18446744065119617025 ∧ c + (x * y + o) < 18446744073709551616 := by
  have h : x * y ≤ 4294967295 * 4294967295 := Nat.mul_le_mul (by omega) (by omega)
  omega

theorem MulIn.step {w wr : World} {l1 l2 : List Nat} {i j c : Nat} {L : List Nat} (h : MulIn w wr l1 l2 i j c L) (hi : i < l1.length) (hj : j < l2.length) (h1 : ∀ x ∈ l1, x < 4294967296) (h2 : ∀ x ∈ l2, x < 4294967296) :
    MulIn w (wr.setCell ⟨w.heap.size, i + j, none⟩ (.int .u32 (((c + (l1.getD i 0 * l2.getD j 0 + L.getD (i + j) 0)) % 4294967296 : Nat) : Int))) l1 l2 i (j + 1) ((c + (l1.getD i 0 * l2.getD j 0 + L.getD (i + j) 0)) / 4294967296)
      (L.set (i + j) ((c + (l1.getD i 0 * l2.getD j 0 + L.getD (i + j) 0)) % 4294967296)) := by
  obtain ⟨_, hb⟩ := mul_bound h.carry (getD_lt h1 i) (getD_lt h2 j) (getD_lt h.lt (i + j))
  have hlen := h.len
  have hs := val_set L (i + j) ((c + (l1.getD i 0 * l2.getD j 0 + L.getD (i + j) 0)) % 4294967296) (by omega)
  have he := h.eq
  refine ⟨h.own.set _ _, by rw [List.length_set, h.len], mem_set_lt h.lt (by omega), fun t ht => by rw [getD_set_ne L (by omega)]; exact h.zero t ht, by omega, ?_, h.below.setCell (Nat.le_refl _) _⟩
  rw [val_take_succ, Nat.mul_add, Nat.mul_add]
  have e1 : 4294967296 ^ i * (l1.getD i 0 * (4294967296 ^ j * l2.getD j 0)) = 4294967296 ^ (i + j) * (l1.getD i 0 * l2.getD j 0) := by
    rw [Nat.pow_add, Nat.mul_left_comm (l1.getD i 0), ← Nat.mul_assoc, ← Nat.mul_assoc]
  rw [e1, show i + (j + 1) = (i + j) + 1 from rfl, Nat.pow_succ]
  generalize l1.getD i 0 * l2.getD j 0 = m at *
  generalize L.getD (i + j) 0 = o at *
  generalize 4294967296 ^ (i + j) = P at *
  have e2 : P * ((c + (m + o)) % 4294967296) + P * 4294967296 * ((c + (m + o)) / 4294967296) = P * c + P * m + P * o := by
    rw [Nat.mul_assoc, ← Nat.mul_add, Nat.mod_add_div, Nat.mul_add, Nat.mul_add, Nat.add_assoc]
  omega

theorem MulIn.done {w wr : World} {l1 l2 : List Nat} {i c : Nat} {L : List Nat} (h : MulIn w wr l1 l2 i l2.length c L) (hi : i < l1.length) :
    MulAt w (wr.setCell ⟨w.heap.size, i + l2.length, none⟩ (.int .u32 (c : Int))) l1 l2 (i + 1) (L.set (i + l2.length) c) := by
  have hlen := h.len
  have hs := val_set L (i + l2.length) c (by omega)
  rw [h.zero _ (Nat.le_refl _), Nat.mul_zero, Nat.add_zero] at hs
  have he := h.eq
  rw [List.take_length] at he
  refine ⟨h.own.set _ _, by rw [List.length_set, h.len], mem_set_lt h.lt h.carry, fun t ht => by rw [getD_set_ne L (by omega)]; exact h.zero t (by omega), ?_, h.below.setCell (Nat.le_refl _) _⟩
  rw [hs, he, val_take_succ, Nat.add_mul, Nat.mul_assoc]

set_option maxHeartbeats 2000000 in
theorem product_any (v1 v2 : Value) (l1 l2 : List Nat) (w : World) (h1 : U32 w v1 l1) (h2 : U32 w v2 l2) (hn1 : l1.length ≤ 500000) (hn2 : l2.length ≤ 500000) :
    Calls Tryz.prog 68 #[v1, v2] w fun e w' => ∃ v', e = .returned v' ∧ Mag w' v' (val l1 * val l2) ∧ Below w.heap.size w w' := by
  obtain ⟨A1, cap1, rfl, hc1, hm1, hf1⟩ := id h1.form
  obtain ⟨A2, cap2, rfl, hc2, hm2, hf2⟩ := id h2.form
  have hmk := make_u32 (x := (l1.length : Int) + (l2.length : Int)) (l1.length + l2.length) (by omega) (by omega)
  go_enter Tryz.func68, Tryz.ntmps68
  go_wp2
  go_loopw [6, 7, 8, 9, 10, 19, 24, 25, 26] (fun _ _ _ _ _ i _ _ _ wr => ∃ (k : Nat) (L : List Nat), k ≤ l1.length ∧ i = .int .i64 k ∧ MulAt w wr l1 l2 k L) (fun _ _ _ _ _ i _ _ _ _ => l1.length - (intOf i).toNat)
  case atStart => exact ⟨0, _, Nat.zero_le _, rfl, MulAt.start w l1 l2⟩
  case round =>
    obtain ⟨k, L, hk, rfl, hs⟩ := hrel
    clear hmk
    by_cases hk1 : k < l1.length
    · obtain ⟨b1, o1, rfl, hb1, hcell1⟩ := hf1 (by intro h; rw [h] at hk1; simp at hk1)
      have hx := (hs.below.cell (p := ⟨b1, o1 + k, none⟩) hb1).trans (hcell1 k hk1)
      have hin := hs.inner
      have a1 := getD_lt h1.lt k
      clear hf1 hcell1 hs
      have HX : Hid (∃ x, x = l1.getD k 0) := ⟨_, rfl⟩
      obtain ⟨x, hxe⟩ := HX.out
      rw [← hxe] at hx a1
      have HXE := Lib.hid hxe
      clear HX hxe
      obtain ⟨wo, rfl⟩ : ∃ wo : World, wo = wr := ⟨_, rfl⟩
      go_wp2
      go_loopw [8, 9, 10, 26] (fun cy _ _ jv wr => ∃ (j c : Nat) (L' : List Nat), j ≤ l2.length ∧ cy = .int .u64 c ∧ jv = .int .i64 j ∧ MulIn w wr l1 l2 k j c L') (fun _ _ _ jv _ => l2.length - (intOf jv).toNat)
      case atStart => exact ⟨0, 0, L, Nat.zero_le _, rfl, rfl, hin⟩
      case round =>
        obtain ⟨j, c, L', hj, rfl, rfl, hs⟩ := hrel
        clear hin
        have hlen := hs.len
        have hcy := hs.carry
        by_cases hj1 : j < l2.length
        · obtain ⟨b2, o2, rfl, hb2, hcell2⟩ := hf2 (by intro h; rw [h] at hj1; simp at hj1)
          have hy := (hs.below.cell (p := ⟨b2, o2 + j, none⟩) hb2).trans (hcell2 j hj1)
          have a2 := getD_lt h2.lt j
          have a3 := getD_lt hs.lt (k + j)
          have hc0 := hs.own.cell (i := k + j) (by omega)
          have hfz := hs.own.frozen (k + j)
          have hst := hs.step hk1 hj1 h1.lt h2.lt
          rw [← HXE.out] at hst
          have HS := Lib.hid hst
          have hbd := mul_bound hcy a1 a2 a3
          clear hf2 hcell2 hs hst hlen
          generalize l2.getD j 0 = y at *
          generalize L'.getD (k + j) 0 = o at *
          have hm0 : 0 ≤ (x : Int) * (y : Int) := by rw [← Int.natCast_mul]; exact Int.natCast_nonneg _
          have hm1 : (x : Int) * (y : Int) + o + c < 18446744073709551616 := by rw [← Int.natCast_mul]; omega
          have HM : Hid ((x : Int) * (y : Int) = ((x * y : Nat) : Int)) := (Int.natCast_mul _ _).symm
          clear hbd
          go_wp2
          go_roundw
          case rel => exact ⟨j + 1, (c + (x * y + o)) / 4294967296, _, by omega, by rw [HM.out]; go_num, by go_num, by have := HS.out; rw [HM.out]; exact this⟩
          case measure => simp only [intOf]; omega
        · obtain rfl : j = l2.length := by omega
          have hc0 := hs.own.cell (i := k + l2.length) (by omega)
          have hfz := hs.own.frozen (k + l2.length)
          have HS := Lib.hid (hs.done hk1)
          clear hs hf2 hlen
          go_wp2
          go_roundw
          case rel => exact ⟨k + 1, _, by omega, by go_num, HS.out⟩
          case measure => simp only [intOf]; omega
    · obtain rfl : k = l1.length := by omega
      have hU := hs.own.u32 hs.lt (by rw [hs.len]; simp only [maxLen]; omega)
      rw [hs.len] at hU
      have hv := hs.eq
      rw [List.take_length] at hv
      have hb := hs.below
      have HV := Lib.hid hv
      clear hf1 hf2 hs hv
      go_wp2_with fail
      refine (trim_any _ _ _ hU).mono ?_
      rintro e w' ⟨v', rfl, rfl, hm, -⟩
      have hm1 := hm _ hU
      rw [HV.out] at hm1
      go_wp2
      go_ret
      exact ⟨_, rfl, hm1, hb⟩
end Go.Proofs.YtccndofafljaaaaGreatDoor

namespace Go.Proofs.YtccndofafljaaaaGreatDoor
open Go Go.RowKit Num

/-- WHAT HOLDS AT THE HEAD OF raise's LOOP. -/
structure RaiseAt (w wr : World) (l : List Nat) (q r i c : Nat) (L : List Nat) : Prop where
  own : Own wr w.heap.size L
  len : L.length = l.length + q + 1
  lt : ∀ x ∈ L, x < 4294967296
  zero : ∀ t, i + q ≤ t → L.getD t 0 = 0
  carry : c < 2 ^ r
  eq : val L + 4294967296 ^ (i + q) * c = 4294967296 ^ q * (2 ^ r * val (l.take i))
  below : Below w.heap.size w wr

theorem val_replicate (n : Nat) : val (List.replicate n 0) = 0 := by
  induction n with
  | zero => rfl
  | succ n ih => rw [List.replicate_succ, val, ih]
theorem getD_replicate (n t : Nat) : (List.replicate n 0).getD t 0 = 0 := by
  simp only [List.getD_eq_getElem?_getD, List.getElem?_replicate]
  split <;> rfl

theorem RaiseAt.start (w : World) (l : List Nat) (q r : Nat) : RaiseAt w (w.alloc (.cells (ws (List.replicate (l.length + q + 1) 0)).toArray 69)) l q r 0 0 (List.replicate (l.length + q + 1) 0) :=
  ⟨Own.new w _, by simp, by intro x hx; rw [List.mem_replicate] at hx; omega, fun t _ => getD_replicate _ _, Nat.pow_pos (by omega), by rw [val_replicate]; simp [val], (Below.refl _ _).alloc (Nat.le_refl _) _⟩

theorem RaiseAt.step {w wr : World} {l : List Nat} {q r i c : Nat} {L : List Nat} (h : RaiseAt w wr l q r i c L) (hi : i < l.length + 1) (h1 : ∀ x ∈ l, x < 4294967296) :
    RaiseAt w (wr.setCell ⟨w.heap.size, i + q, none⟩ (.int .u32 (((c + l.getD i 0 * 2 ^ r) % 4294967296 : Nat) : Int))) l q r (i + 1) ((c + l.getD i 0 * 2 ^ r) / 4294967296) (L.set (i + q) ((c + l.getD i 0 * 2 ^ r) % 4294967296)) := by
  have hx := getD_lt h1 i
  have hlen := h.len
  have hc := h.carry
  have hs := val_set L (i + q) ((c + l.getD i 0 * 2 ^ r) % 4294967296) (by omega)
  rw [h.zero _ (Nat.le_refl _), Nat.mul_zero, Nat.add_zero] at hs
  have he := h.eq
  refine ⟨h.own.set _ _, by rw [List.length_set, h.len], mem_set_lt h.lt (by omega), fun t ht => by rw [getD_set_ne L (by omega)]; exact h.zero t (by omega), ?_, ?_, h.below.setCell (Nat.le_refl _) _⟩
  · rw [Nat.div_lt_iff_lt_mul (by omega)]
    have : (l.getD i 0 + 1) * 2 ^ r ≤ 4294967296 * 2 ^ r := Nat.mul_le_mul_right _ hx
    rw [Nat.add_mul, Nat.one_mul] at this
    rw [Nat.mul_comm (2 ^ r)]; omega
  · rw [val_take_succ, show i + 1 + q = (i + q) + 1 from by omega, Nat.pow_succ, hs, Nat.add_assoc, carry_join', Nat.mul_add, Nat.mul_add, Nat.mul_add]
    have e1 : 4294967296 ^ q * (2 ^ r * (4294967296 ^ i * l.getD i 0)) = 4294967296 ^ (i + q) * (l.getD i 0 * 2 ^ r) := by
      rw [Nat.pow_add, Nat.mul_left_comm (2 ^ r), Nat.mul_comm (2 ^ r), ← Nat.mul_assoc, Nat.mul_comm (4294967296 ^ q)]
    rw [e1]
    omega

theorem digs_take {l : List Nat} (h : ∀ x ∈ l, x < 4294967296) : digs (val l) = l.take (digs (val l)).length := by
  induction l with
  | nil => simp [val, digs_zero]
  | cons x xs ih =>
    have hx := h x (List.mem_cons_self ..)
    have ih' := ih (fun y hy => h y (List.mem_cons_of_mem _ hy))
    by_cases h0 : x + 4294967296 * val xs = 0
    · rw [val, h0, digs_zero]; rfl
    · rw [digs_val_cons hx h0, List.length_cons, List.take_succ_cons, ← ih']

theorem row_of_own {w : World} {g base : Nat} {L : List Nat} (h : Own w g L) (hb : base ≤ g) {k : Nat} (hk : k ≤ L.length) (hm : L.length ≤ maxLen) :
    w.ownsRow base 69 1 (.slice (some ⟨g, 0, none⟩) k L.length) k (ws (L.take k)) := by
  refine ⟨by rw [ws_length, List.length_take]; omega, .inr ⟨g, L.length, (ws L).toArray, rfl, hb, h, hk, hm, by rw [List.size_toArray, ws_length]; omega, ?_⟩⟩
  rw [Nat.mul_one]
  simp [ws, List.map_take]

theorem RaiseAt.done {w wr : World} {l : List Nat} {n c : Nat} {L : List Nat} (h : RaiseAt w wr l (n / 32) (n % 32) l.length c L) (hr : n % 32 < 32) (h1 : ∀ x ∈ l, x < 4294967296) (hn : l.length ≤ 500000) (hn2 : n ≤ 1000000) :
    U32 (wr.setCell ⟨w.heap.size, l.length + n / 32, none⟩ (.int .u32 (c : Int))) (.slice (some ⟨w.heap.size, 0, none⟩) (l.length + n / 32 + 1) (l.length + n / 32 + 1)) (L.set (l.length + n / 32) c) ∧
    val (L.set (l.length + n / 32) c) = val l * 2 ^ n ∧ Below w.heap.size w (wr.setCell ⟨w.heap.size, l.length + n / 32, none⟩ (.int .u32 (c : Int))) ∧
    (wr.setCell ⟨w.heap.size, l.length + n / 32, none⟩ (.int .u32 (c : Int))).ownsRow w.heap.size 69 1 (.slice (some ⟨w.heap.size, 0, none⟩) (digs (val l * 2 ^ n)).length (l.length + n / 32 + 1)) (digs (val l * 2 ^ n)).length (ws (digs (val l * 2 ^ n))) := by
  have hc := h.carry
  have h2 : 2 ^ (n % 32) ≤ 2 ^ 31 := Nat.pow_le_pow_right (by omega) (by omega)
  have hlen := h.len
  have ho := (h.own.set (l.length + n / 32) c).u32 (mem_set_lt h.lt (by omega)) (by rw [List.length_set, hlen]; simp only [maxLen]; omega)
  rw [List.length_set, hlen] at ho
  have hval : val (L.set (l.length + n / 32) c) = val l * 2 ^ n := by
    have hs := val_set L (l.length + n / 32) c (by omega)
    rw [h.zero _ (Nat.le_refl _), Nat.mul_zero, Nat.add_zero] at hs
    have he := h.eq
    rw [List.take_length] at he
    rw [hs, he, show 4294967296 ^ (n / 32) = 2 ^ (32 * (n / 32)) from by rw [Nat.pow_mul], ← Nat.mul_assoc, ← Nat.pow_add, Nat.mul_comm, Nat.div_add_mod]
  refine ⟨ho, hval, h.below.setCell (Nat.le_refl _) _, ?_⟩
  have hd := digs_take (mem_set_lt h.lt (by omega : c < 4294967296) (p := l.length + n / 32))
  rw [hval] at hd
  have hr := row_of_own (h.own.set (l.length + n / 32) c) (Nat.le_refl _) (k := (digs (val l * 2 ^ n)).length) (by rw [hd, List.length_take]; omega) (by rw [List.length_set, hlen]; simp only [maxLen]; omega)
  rw [← hd, List.length_set, hlen] at hr
  exact hr

theorem shl_bound {x r : Nat} (hx : x < 4294967296) (hr : r < 32) : x * 2 ^ r + 2 ^ r ≤ 4294967296 * 2147483648 ∧ 2 ^ r ≤ 2147483648 := by
  have h1 : 2 ^ r ≤ 2 ^ 31 := Nat.pow_le_pow_right (by omega) (by omega)
  have h2 : (x + 1) * 2 ^ r ≤ 4294967296 * 2 ^ 31 := Nat.mul_le_mul (by omega) h1
  rw [Nat.add_mul, Nat.one_mul] at h2
  omega
theorem or_shl {c x r : Nat} (hc : c < 2 ^ r) (hx : x < 4294967296) (hr : r < 32) : bits .or .u64 (c : Int) (IntKind.u64.wrap ((x : Int) * 2 ^ r)) = ((c + x * 2 ^ r : Nat) : Int) := by
  obtain ⟨h1, h2⟩ := shl_bound hx hr
  have e0 : ((x : Int) * 2 ^ r) = ((x * 2 ^ r : Nat) : Int) := by rw [Int.natCast_mul, Int.natCast_pow]; rfl
  rw [e0, IntWalk.u64_in _ (by omega)]
  have e := u64_or_nat c (x * 2 ^ r) (by omega) (by omega)
  rw [Nat.or_comm, nat_join r (x * 2 ^ r) c (Nat.mul_mod_left _ _) hc] at e
  rw [e, Nat.add_comm]

set_option maxHeartbeats 2000000 in
theorem raise_any (v : Value) (l : List Nat) (n : Nat) (w : World) (h : U32 w v l) (hn : l.length ≤ 500000) (hn2 : n ≤ 1000000) :
    Calls Tryz.prog 113 #[v, .int .i64 n] w fun e w' => ∃ v', e = .returned v' ∧ Mag w' v' (val l * 2 ^ n) ∧ w'.ownsRow w.heap.size 69 1 v' (digs (val l * 2 ^ n)).length (ws (digs (val l * 2 ^ n))) ∧ Below w.heap.size w w' := by
  obtain ⟨A1, cap1, rfl, hc1, hm1, hf1⟩ := id h.form
  have hmk := make_u32 (x := (l.length : Int) + (n : Int) / 32 + 1) (l.length + n / 32 + 1) (by omega) (by omega)
  go_enter Tryz.func113, Tryz.ntmps113
  go_wp2
  go_loopw [8, 9, 10, 23] (fun cy _ _ i wr => ∃ (k c : Nat) (L : List Nat), k ≤ l.length ∧ cy = .int .u64 c ∧ i = .int .i64 k ∧ RaiseAt w wr l (n / 32) (n % 32) k c L) (fun _ _ _ i _ => l.length - (intOf i).toNat)
  case atStart => exact ⟨0, 0, _, Nat.zero_le _, rfl, rfl, RaiseAt.start w l _ _⟩
  case round =>
    obtain ⟨k, c, L, hk, rfl, rfl, hs⟩ := hrel
    clear hmk
    have hlen := hs.len
    have hcy := hs.carry
    by_cases hk1 : k < l.length
    · obtain ⟨b1, o1, rfl, hb1, hcell1⟩ := hf1 (by intro h; rw [h] at hk1; simp at hk1)
      have hc0 := hs.own.cell (i := k + n / 32) (by omega)
      have hfz := hs.own.frozen (k + n / 32)
      have hst := hs.step (by omega) h.lt
      have hx := (hs.below.cell (p := ⟨b1, o1 + k, none⟩) hb1).trans (hcell1 k hk1)
      have a1 := getD_lt h.lt k
      have HS := Lib.hid hst
      have hor := or_shl hcy a1 (Nat.mod_lt n (by omega))
      have hbd := shl_bound a1 (Nat.mod_lt n (by omega : 32 > 0))
      have hsb : c + l.getD k 0 * 2 ^ (n % 32) < 18446744073709551616 := by omega
      clear hs hst hf1 hcell1 hbd hcy
      generalize l.getD k 0 = x at *
      generalize c + x * 2 ^ (n % 32) = s at *
      go_wp2
      go_roundw
      case rel => exact ⟨k + 1, s / 4294967296, _, by omega, by go_num, by go_num, HS.out⟩
      case measure => simp only [intOf]; omega
    · obtain rfl : k = l.length := by omega
      have hc0 := hs.own.cell (i := l.length + n / 32) (by omega)
      have hfz := hs.own.frozen (l.length + n / 32)
      have hcb := (shl_bound (x := 0) (by omega) (Nat.mod_lt n (by omega : 32 > 0))).2
      have hst := hs.done (Nat.mod_lt n (by omega : 32 > 0)) h.lt hn hn2
      have HS := Lib.hid hst
      have hc31 : c < 2147483648 := by omega
      clear hs hst hf1 hlen hcb hcy
      go_wp2_with fail
      refine (trim_any _ _ _ HS.out.1).mono ?_
      rintro e w' ⟨v', rfl, rfl, hm, hfr⟩
      have hm1 := hm _ HS.out.1
      have hv := hfr _ _ _ rfl
      rw [HS.out.2.1] at hm1 hv
      have hrow := HS.out.2.2.2
      rw [← hv] at hrow
      have HR := Lib.hid hrow
      have HV := Lib.hid hv
      clear hm hfr hv hrow
      go_wp2
      go_ret
      exact ⟨_, rfl, hm1, HR.out, HS.out.2.2.1⟩
end Go.Proofs.YtccndofafljaaaaGreatDoor

namespace Go.Proofs.YtccndofafljaaaaGreatDoor
open Go Go.RowKit Num

theorem low_word {V x r : Nat} (hx : x < 4294967296) (hr : r ≤ 32) : (V % 4294967296 * 4294967296 + x) / 2 ^ r % 4294967296 = (x + 4294967296 * V) / 2 ^ r % 4294967296 := by
  have e : V % 4294967296 * 4294967296 + x = (x + 4294967296 * V) % (4294967296 * 4294967296) := by omega
  rw [e, ← Nat.mod_mul_right_div_self, ← Nat.mod_mul_right_div_self, Nat.mod_mod_of_dvd]
  refine ⟨2 ^ (32 - r), ?_⟩
  have : 2 ^ r * 2 ^ (32 - r) = 4294967296 := by rw [← Nat.pow_add, show r + (32 - r) = 32 from by omega]
  rw [Nat.mul_right_comm, this]
theorem low_high (V x r : Nat) (hx : x < 4294967296) : (x + 4294967296 * V) / 2 ^ r / 4294967296 = V / 2 ^ r := by
  rw [Nat.div_div_eq_div_mul, Nat.mul_comm (2 ^ r), ← Nat.div_div_eq_div_mul, show (x + 4294967296 * V) / 4294967296 = V from by omega]

/-- WHAT HOLDS AT THE HEAD OF lower's LOOP. -/
structure LowerAt (w wr : World) (l : List Nat) (q r k c : Nat) (L : List Nat) : Prop where
  own : Own wr w.heap.size L
  len : L.length + q = l.length
  lt : ∀ x ∈ L, x < 4294967296
  low : c % 4294967296 = val (l.drop (k + q)) % 4294967296
  eq : val (L.drop k) = val (l.drop (k + q)) / 2 ^ r
  below : Below w.heap.size w wr

theorem LowerAt.start (w : World) (l : List Nat) (q r : Nat) (hq : q < l.length) :
    LowerAt w (w.alloc (.cells (ws (List.replicate (l.length - q) 0)).toArray 69)) l q r (l.length - q) 0 (List.replicate (l.length - q) 0) := by
  have hd : l.drop (l.length - q + q) = [] := List.drop_eq_nil_of_le (by omega)
  exact ⟨Own.new w _, by simp; omega, by intro x hx; rw [List.mem_replicate] at hx; omega, by rw [hd]; rfl, by rw [hd, List.drop_eq_nil_of_le (by simp)]; simp [val], (Below.refl _ _).alloc (Nat.le_refl _) _⟩

theorem LowerAt.step {w wr : World} {l : List Nat} {q r k c : Nat} {L : List Nat} (h : LowerAt w wr l q r (k + 1) c L) (hk : k < L.length) (h1 : ∀ x ∈ l, x < 4294967296) (hr : r < 32) :
    LowerAt w (wr.setCell ⟨w.heap.size, k, none⟩ (.int .u32 (((c % 4294967296 * 4294967296 + l.getD (k + q) 0) / 2 ^ r % 4294967296 : Nat) : Int))) l q r k (c % 4294967296 * 4294967296 + l.getD (k + q) 0)
      (L.set k ((c % 4294967296 * 4294967296 + l.getD (k + q) 0) / 2 ^ r % 4294967296)) := by
  have hx := getD_lt h1 (k + q)
  have hlen := h.len
  have hl := h.low
  have he := h.eq
  rw [show k + 1 + q = (k + q) + 1 from by omega] at hl he
  have hv := val_drop (l := l) (k := k + q) (by omega)
  refine ⟨h.own.set _ _, by rw [List.length_set]; exact h.len, mem_set_lt h.lt (by omega), by rw [hv]; omega, ?_, h.below.setCell (Nat.le_refl _) _⟩
  rw [val_drop (by rw [List.length_set]; exact hk), hv, List.drop_set_of_lt (by omega), he, hl, low_word hx (by omega)]
  have e : (L.set k ((l.getD (k + q) 0 + 4294967296 * val (l.drop (k + q + 1))) / 2 ^ r % 4294967296)).getD k 0 = (l.getD (k + q) 0 + 4294967296 * val (l.drop (k + q + 1))) / 2 ^ r % 4294967296 := by
    simp [List.getD_eq_getElem?_getD, hk]
  rw [e]
  have h2 := low_high (val (l.drop (k + q + 1))) (l.getD (k + q) 0) r hx
  omega

theorem or_shl32 (c x : Nat) (hx : x < 4294967296) (hc : c < 18446744073709551616) : bits .or .u64 (IntKind.u64.wrap ((c : Int) * 4294967296)) (x : Int) = ((c % 4294967296 * 4294967296 + x : Nat) : Int) := by
  have e0 : IntKind.u64.wrap ((c : Int) * 4294967296) = (((c % 4294967296 : Nat) : Int) * 4294967296) := by
    simp only [IntKind.wrap, IntKind.bits, IntKind.signed]; simp; omega
  rw [e0]
  exact or_join64' (c % 4294967296) x (by omega) hx

theorem val_drop_div {l : List Nat} (h1 : ∀ x ∈ l, x < 4294967296) (q : Nat) : val (l.drop q) = val l / 4294967296 ^ q := by
  rcases Nat.lt_or_ge q l.length with h | h
  · have hs := val_append (l.take q) (l.drop q)
    rw [List.take_append_drop] at hs
    have hq : (l.take q).length = q := by simp; omega
    have hlt := take_val_lt h1 (k := q) (by omega)
    rw [hq] at hs
    rw [hs, Nat.add_comm, Nat.mul_add_div (Nat.pow_pos (by omega)), Nat.div_eq_of_lt hlt, Nat.add_zero]
  · rw [List.drop_eq_nil_of_le h, Nat.div_eq_of_lt (Nat.lt_of_lt_of_le (val_lt h1) (Nat.pow_le_pow_right (by omega) h))]
    rfl

set_option maxHeartbeats 2000000 in
theorem lower_any (v : Value) (l : List Nat) (n : Nat) (w : World) (h : U32 w v l) (hn : l.length ≤ 500000) (hn2 : n ≤ 1000000000) :
    Calls Tryz.prog 115 #[v, .int .i64 n] w fun e w' => ∃ v', e = .returned v' ∧ Mag w' v' (val l / 2 ^ n) ∧ Below w.heap.size w w' := by
  obtain ⟨A1, cap1, rfl, hc1, hm1, hf1⟩ := id h.form
  have hfin : val (l.drop (n / 32)) / 2 ^ (n % 32) = val l / 2 ^ n := by
    rw [val_drop_div h.lt, Nat.div_div_eq_div_mul, show 4294967296 ^ (n / 32) = 2 ^ (32 * (n / 32)) from by rw [Nat.pow_mul], ← Nat.pow_add, Nat.div_add_mod]
  have HF := Lib.hid hfin
  clear hfin
  by_cases hq : n / 32 < l.length
  · have hmk := make_u32 (x := (l.length : Int) - (n : Int) / 32) (l.length - n / 32) (by omega) (by omega)
    go_enter Tryz.func115, Tryz.ntmps115
    go_wp2
    go_loopw [8, 9] (fun cy i wr => ∃ (k c : Nat) (L : List Nat), k ≤ l.length - n / 32 ∧ cy = .int .u64 c ∧ c < 18446744073709551616 ∧ i = .int .i64 ((k : Int) - 1) ∧ LowerAt w wr l (n / 32) (n % 32) k c L) (fun _ i _ => (intOf i + 1).toNat)
    case atStart => exact ⟨l.length - n / 32, 0, _, by omega, rfl, by omega, by go_num, LowerAt.start w l _ _ hq⟩
    case round =>
      obtain ⟨k, c, L, hk, rfl, hc64, rfl, hs⟩ := hrel
      clear hmk
      have hlen := hs.len
      have hL : L.length = l.length - n / 32 := by omega
      rcases k with _ | k
      · have hU := hs.own.u32 hs.lt (by simp only [maxLen]; omega)
        rw [hL] at hU
        have hv := hs.eq
        rw [List.drop_zero, Nat.zero_add, HF.out] at hv
        have hb := hs.below
        have HV := Lib.hid hv
        clear hf1 hs hv hlen hL
        go_wp2_with fail
        refine (trim_any _ _ _ hU).mono ?_
        rintro e w' ⟨v', rfl, rfl, hm, -⟩
        have hm1 := hm _ hU
        rw [HV.out] at hm1
        go_wp2
        go_ret
        exact ⟨_, rfl, hm1, hb⟩
      · obtain ⟨b1, o1, rfl, hb1, hcell1⟩ := hf1 (by intro h; rw [h, List.length_nil] at hlen; omega)
        have hx := (hs.below.cell (p := ⟨b1, o1 + (k + n / 32), none⟩) hb1).trans (hcell1 (k + n / 32) (by omega))
        have hc0 := hs.own.cell (i := k) (by omega)
        have hfz := hs.own.frozen k
        have a1 := getD_lt h.lt (k + n / 32)
        have HS := Lib.hid (hs.step (by omega) h.lt (Nat.mod_lt n (by omega)))
        have hor := or_shl32 c _ a1 hc64
        have hsb : c % 4294967296 * 4294967296 + l.getD (k + n / 32) 0 < 18446744073709551616 := by omega
        have e1 : (((k + 1 : Nat) : Int) - 1) = (k : Int) := by omega
        rw [e1]
        have HL := Lib.hid hL
        have hk' : k < l.length - n / 32 := by omega
        clear hs hf1 hcell1 e1 hL hlen
        generalize l.getD (k + n / 32) 0 = x at *
        generalize c % 4294967296 * 4294967296 + x = s at *
        have HE : Hid (((s / 2 ^ (n % 32) % 4294967296 : Nat) : Int) = (s : Int) / 2 ^ (n % 32) % 4294967296) := by
          unfold Hid; rw [Int.natCast_emod, Int.natCast_ediv, Int.natCast_pow]; rfl
        go_wp2
        go_roundw
        case rel => exact ⟨k, s, _, by omega, rfl, hsb, rfl, by have := HS.out; rw [HE.out] at this; exact this⟩
        case measure => simp only [intOf]; omega
  · have hz : val l / 2 ^ n = 0 := by
      rw [← HF.out, List.drop_eq_nil_of_le (by omega)]; simp [val]
    rw [hz]
    clear HF hz hf1
    go_enter Tryz.func115, Tryz.ntmps115
    go_wp2
    go_ret
    exact ⟨_, rfl, by unfold Mag; rw [digs_zero]; exact U32.nil none (Nat.zero_le _), Below.refl _ _⟩
end Go.Proofs.YtccndofafljaaaaGreatDoor
