/- integer.difference -/
import Derived.Test.YtgfoplokplnpgaaDoorArr
namespace Go.Proofs.YtgfoplokplnpgaaDoor
open Go Go.RowKit Num

/-- The next borrow. -/
def bor (b x y : Nat) : Nat := if x < y + b then 1 else 0
theorem bor_lt (b x y : Nat) : bor b x y < 2 := by unfold bor; split <;> omega
theorem bor_eq {b x y : Nat} (hb : b < 2) (hx : x < 4294967296) (hy : y < 4294967296) :
    (-(b : Int) + x - y) / 4294967296 = -(bor b x y : Int) ∧ (-(b : Int) + x - y) % 4294967296 = ((x + 4294967296 * bor b x y - y - b : Nat) : Int) ∧ x + 4294967296 * bor b x y - y - b < 4294967296 ∧
    y + b ≤ x + 4294967296 * bor b x y := by
  unfold bor
  by_cases h : x < y + b
  · simp only [if_pos h]; omega
  · simp only [if_neg h]; omega

/-- WHAT HOLDS AT THE HEAD OF THE LOOP, k words done, b borrowed. -/
structure DiffAt (w wr : World) (l1 l2 : List Nat) (k b : Nat) (done : List Nat) : Prop where
  own : Own wr w.heap.size (done ++ List.replicate (l1.length - k) 0)
  len : done.length = k
  lt : ∀ x ∈ done, x < 4294967296
  carry : b < 2
  eq : val (l1.take k) + 4294967296 ^ k * b = val done + val (l2.take k)
  below : Below w.heap.size w wr

theorem borrow_step {d P b a c x y b' : Nat} (e : a + P * b = d + c) (hb : y + b ≤ x + 4294967296 * b') :
    a + P * x + P * 4294967296 * b' = d + P * (x + 4294967296 * b' - y - b) + (c + P * y) := by
  have h : P * (x + 4294967296 * b') = P * (x + 4294967296 * b' - y - b) + P * y + P * b := by
    rw [← Nat.mul_add, ← Nat.mul_add]; congr 1; omega
  rw [Nat.mul_add, ← Nat.mul_assoc] at h
  omega

theorem DiffAt.step {w wr : World} {l1 l2 : List Nat} {k b : Nat} {done : List Nat} (h : DiffAt w wr l1 l2 k b done) (hk : k < l1.length) (h1 : ∀ x ∈ l1, x < 4294967296) (h2 : ∀ x ∈ l2, x < 4294967296) :
    DiffAt w (wr.setCell ⟨w.heap.size, k, none⟩ (.int .u32 ((l1.getD k 0 + 4294967296 * bor b (l1.getD k 0) (l2.getD k 0) - l2.getD k 0 - b : Nat) : Int))) l1 l2 (k + 1) (bor b (l1.getD k 0) (l2.getD k 0))
      (done ++ [l1.getD k 0 + 4294967296 * bor b (l1.getD k 0) (l2.getD k 0) - l2.getD k 0 - b]) := by
  obtain ⟨_, _, q1, q2⟩ := bor_eq h.carry (getD_lt h1 k) (getD_lt h2 k)
  refine ⟨?_, by simp [h.len], ?_, bor_lt _ _ _, ?_, h.below.setCell (Nat.le_refl _) _⟩
  · have e := h.own.set k (l1.getD k 0 + 4294967296 * bor b (l1.getD k 0) (l2.getD k 0) - l2.getD k 0 - b)
    rw [show l1.length - k = (l1.length - (k + 1)) + 1 from by omega, List.replicate_succ] at e
    have hs := set_done done 0 (l1.getD k 0 + 4294967296 * bor b (l1.getD k 0) (l2.getD k 0) - l2.getD k 0 - b) (List.replicate (l1.length - (k + 1)) 0)
    rw [h.len] at hs
    rw [hs] at e
    rw [List.append_assoc]
    exact e
  · intro x hx
    rcases List.mem_append.1 hx with hx | hx
    · exact h.lt x hx
    · rw [List.mem_singleton] at hx; rw [hx]; exact q1
  · rw [val_snoc, h.len, val_take_succ, val_take_succ, Nat.pow_succ]
    exact borrow_step h.eq q2

theorem DiffAt.done {w wr : World} {l1 l2 : List Nat} {b : Nat} {done : List Nat} (hs : DiffAt w wr l1 l2 l1.length b done) (hle : l2.length ≤ l1.length) (hv : val l2 ≤ val l1) (hn : l1.length ≤ 1000000) :
    U32 wr (.slice (some ⟨w.heap.size, 0, none⟩) l1.length l1.length) done ∧ val done = val l1 - val l2 := by
  have hU : U32 wr (.slice (some ⟨w.heap.size, 0, none⟩) done.length done.length) done := by
    have ho := hs.own
    rw [Nat.sub_self, List.replicate_zero, List.append_nil] at ho
    exact ho.u32 hs.lt (by rw [hs.len]; simp only [maxLen]; omega)
  rw [hs.len] at hU
  refine ⟨hU, ?_⟩
  have e := hs.eq
  have t2 : l2.take l1.length = l2 := List.take_of_length_le (by omega)
  rw [List.take_length, t2] at e
  have hl := val_lt hs.lt
  rw [hs.len] at hl
  have hb := hs.carry
  rcases Nat.eq_zero_or_pos b with h0 | h0
  · rw [h0, Nat.mul_zero] at e; omega
  · have h1 : b = 1 := by omega
    rw [h1, Nat.mul_one] at e; omega

theorem DiffAt.start (w : World) (l1 l2 : List Nat) : DiffAt w (w.alloc (.cells (ws (List.replicate l1.length 0)).toArray 46)) l1 l2 0 0 [] :=
  ⟨by simpa using Own.new w _, rfl, by simp, by omega, by simp [val], (Below.refl _ _).alloc (Nat.le_refl _) _⟩

set_option maxHeartbeats 1000000 in
theorem difference_any (v1 v2 : Value) (l1 l2 : List Nat) (w : World) (h1 : U32 w v1 l1) (h2 : U32 w v2 l2) (hn1 : l1.length ≤ 1000000) (hle : l2.length ≤ l1.length) (hv : val l2 ≤ val l1) :
    Calls Tryd.prog 40 #[v1, v2] w fun e w' => ∃ v', e = .returned v' ∧ Mag w' v' (val l1 - val l2) ∧ Below w.heap.size w w' := by
  obtain ⟨A1, cap1, rfl, hc1, hm1, hf1⟩ := id h1.form
  obtain ⟨A2, cap2, rfl, hc2, hm2, hf2⟩ := id h2.form
  have hmk := make_u32 (x := (l1.length : Int)) l1.length rfl (by omega)
  have HV := Lib.hid hv
  clear hv
  go_enter Tryd.func40, Tryd.ntmps40
  go_wp2
  go_loopw [6, 7, 8, 14] (fun cy _ _ i wr => ∃ (k b : Nat) (done : List Nat), k ≤ l1.length ∧ cy = .int .i64 (-(b : Int)) ∧ i = .int .i64 k ∧ DiffAt w wr l1 l2 k b done) (fun _ _ _ i _ => l1.length - (intOf i).toNat)
  case atStart => exact ⟨0, 0, [], Nat.zero_le _, rfl, rfl, DiffAt.start w l1 l2⟩
  case round =>
    obtain ⟨k, b, done, hk, rfl, rfl, hs⟩ := hrel
    by_cases hk1 : k < l1.length
    · obtain ⟨b1, o1, rfl, hb1, hcell1⟩ := hf1 (by intro h; rw [h] at hk1; simp at hk1)
      have hx := (hs.below.cell (p := ⟨b1, o1 + k, none⟩) hb1).trans (hcell1 k hk1)
      have hc0 := hs.own.cell (i := k) (by simp [hs.len]; omega)
      have hfz := hs.own.frozen k
      have hcy := hs.carry
      have a1 := getD_lt h1.lt k
      have a2 := getD_lt h2.lt k
      have HS := Lib.hid (hs.step hk1 h1.lt h2.lt)
      have HB := Lib.hid (bor_eq hs.carry a1 a2)
      clear hmk hf1 hcell1
      generalize l1.getD k 0 = x at *
      by_cases hk2 : k < l2.length
      · obtain ⟨b2, o2, rfl, hb2, hcell2⟩ := hf2 (by intro h; rw [h] at hk2; simp at hk2)
        have hy := (hs.below.cell (p := ⟨b2, o2 + k, none⟩) hb2).trans (hcell2 k hk2)
        clear hcell2
        generalize l2.getD k 0 = y at *
        clear hf2 hs
        go_wp2
        go_roundw
        case rel => exact ⟨k + 1, bor b x y, _, by omega, by rw [← HB.out.1], by go_num, by rw [HB.out.2.1]; exact HS.out⟩
        case measure => simp [intOf]; omega
      · have hy : l2.getD k 0 = 0 := by simp only [List.getD_eq_getElem?_getD, List.getElem?_eq_none (by omega : l2.length ≤ k)]; rfl
        rw [hy] at HS HB
        clear hf2 hs hy a2
        have e0 : -(b : Int) + x - (0 : Nat) = -(b : Int) + x := by omega
        rw [e0] at HB
        clear e0
        go_wp2
        go_roundw
        case rel => exact ⟨k + 1, bor b x 0, _, by omega, by rw [← HB.out.1], by go_num, by rw [HB.out.2.1]; exact HS.out⟩
        case measure => simp [intOf]; omega
    · obtain rfl : k = l1.length := by omega
      obtain ⟨hU, hv⟩ := hs.done hle HV.out (by omega)
      have hb := hs.below
      have HD := Lib.hid hv
      clear hmk hf1 hf2 hs hv
      go_wp2_with fail
      refine (trim_any _ _ _ hU).mono ?_
      rintro e w' ⟨v', rfl, rfl, hm, -⟩
      have hm1 := hm _ hU
      rw [HD.out] at hm1
      go_wp2
      go_ret
      exact ⟨_, rfl, hm1, hb⟩
end Go.Proofs.YtgfoplokplnpgaaDoor
