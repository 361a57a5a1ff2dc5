/- integer.sum, integer.difference -/
import Derived.Test.YtgfoplokplnpgaaDoorArr
namespace Go.Proofs.YtgfoplokplnpgaaDoor
open Go Go.RowKit Num

theorem carry_join (P s : Nat) : P * (s % 4294967296) + P * 4294967296 * (s / 4294967296) = P * s := by
  rw [Nat.mul_assoc, ← Nat.mul_add, Nat.mod_add_div]
theorem carry_step {d P c a b x y : Nat} (e : d + P * c = a + b) :
    d + P * ((c + x + y) % 4294967296) + P * 4294967296 * ((c + x + y) / 4294967296) = a + P * x + (b + P * y) := by
  rw [Nat.add_assoc, carry_join, Nat.mul_add, Nat.mul_add]; omega

/-- WHAT HOLDS AT THE HEAD OF sum's LOOP, k words done. -/
structure SumAt (w wr : World) (l1 l2 : List Nat) (k c : Nat) (done : List Nat) : Prop where
  own : Own wr w.heap.size (done ++ List.replicate (l1.length + 1 - k) 0)
  len : done.length = k
  lt : ∀ x ∈ done, x < 4294967296
  carry : c < 2
  eq : val done + 4294967296 ^ k * c = val (l1.take k) + val (l2.take k)
  below : Below w.heap.size w wr

theorem SumAt.step {w wr : World} {l1 l2 : List Nat} {k c : Nat} {done : List Nat} (h : SumAt w wr l1 l2 k c done) (hk : k < l1.length + 1) (h1 : ∀ x ∈ l1, x < 4294967296) (h2 : ∀ x ∈ l2, x < 4294967296) :
    SumAt w (wr.setCell ⟨w.heap.size, k, none⟩ (.int .u32 ((c + l1.getD k 0 + l2.getD k 0) % 4294967296 : Nat))) l1 l2 (k + 1) ((c + l1.getD k 0 + l2.getD k 0) / 4294967296) (done ++ [(c + l1.getD k 0 + l2.getD k 0) % 4294967296]) := by
  have a1 := getD_lt h1 k
  have a2 := getD_lt h2 k
  have hc := h.carry
  refine ⟨?_, by simp [h.len], ?_, by omega, ?_, h.below.setCell (Nat.le_refl _) _⟩
  · have e := h.own.set k ((c + l1.getD k 0 + l2.getD k 0) % 4294967296)
    rw [show l1.length + 1 - k = (l1.length + 1 - (k + 1)) + 1 from by omega, List.replicate_succ] at e
    have hs := set_done done 0 ((c + l1.getD k 0 + l2.getD k 0) % 4294967296) (List.replicate (l1.length + 1 - (k + 1)) 0)
    rw [h.len] at hs
    rw [hs] at e
    simpa using e
  · intro x hx
    rcases List.mem_append.1 hx with hx | hx
    · exact h.lt x hx
    · simp at hx; omega
  · have e := h.eq
    rw [val_snoc, h.len, val_take_succ, val_take_succ, Nat.pow_succ]
    exact carry_step e

/-- The last word is the carry. -/
theorem SumAt.done {w wr : World} {l1 l2 : List Nat} {c : Nat} {done : List Nat} (hs : SumAt w wr l1 l2 l1.length c done) (hle : l2.length ≤ l1.length) (h1 : ∀ x ∈ l1, x < 4294967296) (h2 : ∀ x ∈ l2, x < 4294967296) (hn : l1.length ≤ 1000000) :
    U32 (wr.setCell ⟨w.heap.size, l1.length, none⟩ (.int .u32 (c : Int))) (.slice (some ⟨w.heap.size, 0, none⟩) (l1.length + 1) (l1.length + 1)) (done ++ [c]) ∧ val (done ++ [c]) = val l1 + val l2 ∧
    Below w.heap.size w (wr.setCell ⟨w.heap.size, l1.length, none⟩ (.int .u32 (c : Int))) := by
  have h0 : l1.getD l1.length 0 = 0 := by simp
  have h0' : l2.getD l1.length 0 = 0 := by simp only [List.getD_eq_getElem?_getD, List.getElem?_eq_none (by omega : l2.length ≤ l1.length)]; rfl
  have hcy := hs.carry
  have hS := hs.step (by omega) h1 h2
  rw [h0, h0', show (c + 0 + 0) % 4294967296 = c from by omega, show (c + 0 + 0) / 4294967296 = 0 from by omega] at hS
  have hU := hS.own.u32 (by
    intro x hx
    rw [show l1.length + 1 - (l1.length + 1) = 0 from by omega] at hx
    simp only [List.replicate_zero, List.append_nil] at hx
    exact hS.lt x hx) (by simp [maxLen, hs.len]; omega)
  rw [show l1.length + 1 - (l1.length + 1) = 0 from by omega] at hU
  simp only [List.replicate_zero, List.append_nil] at hU
  rw [show (done ++ [c]).length = l1.length + 1 from by simp [hs.len]] at hU
  refine ⟨hU, ?_, hS.below⟩
  have e := hS.eq
  have t1 : l1.take (l1.length + 1) = l1 := List.take_of_length_le (by omega)
  have t2 : l2.take (l1.length + 1) = l2 := List.take_of_length_le (by omega)
  rw [t1, t2, Nat.mul_zero, Nat.add_zero] at e
  exact e

theorem SumAt.start (w : World) (l1 l2 : List Nat) : SumAt w (w.alloc (.cells (ws (List.replicate (l1.length + 1) 0)).toArray 46)) l1 l2 0 0 [] :=
  ⟨by simpa using Own.new w _, rfl, by simp, by omega, by simp [val], (Below.refl _ _).alloc (Nat.le_refl _) _⟩

set_option maxHeartbeats 1000000 in
theorem sum_any (v1 v2 : Value) (l1 l2 : List Nat) (w : World) (h1 : U32 w v1 l1) (h2 : U32 w v2 l2) (hn1 : l1.length ≤ 1000000) (hn2 : l2.length ≤ 1000000) :
    Calls Tryd.prog 38 #[v1, v2] w fun e w' => ∃ v', e = .returned v' ∧ Mag w' v' (val l1 + val l2) ∧ Below w.heap.size w w' := by
  obtain ⟨A1, cap1, rfl, hc1, hm1, hf1⟩ := id h1.form
  obtain ⟨A2, cap2, rfl, hc2, hm2, hf2⟩ := id h2.form
  by_cases hlt : l1.length < l2.length
  · have hmk := make_u32 (x := (l2.length : Int) + 1) (l2.length + 1) (by omega) (by omega)
    go_enter Tryd.func38, Tryd.ntmps38
    go_wp2
    go_loopw [6, 7, 8, 22] (fun cy _ _ i wr => ∃ (k c : Nat) (done : List Nat), k ≤ l2.length ∧ cy = .int .u64 c ∧ i = .int .i64 k ∧ SumAt w wr l2 l1 k c done) (fun _ _ _ i _ => l2.length - (intOf i).toNat)
    case atStart => exact ⟨0, 0, [], Nat.zero_le _, rfl, rfl, SumAt.start w l2 l1⟩
    case round =>
      obtain ⟨k, c, done, hk, rfl, rfl, hs⟩ := hrel
      by_cases hk1 : k < l2.length
      · obtain ⟨b1, o1, rfl, hb1, hcell2⟩ := hf2 (by intro h; rw [h] at hk1; simp at hk1)
        have hx := (hs.below.cell (p := ⟨b1, o1 + k, none⟩) hb1).trans (hcell2 k hk1)
        have hc0 := hs.own.cell (i := k) (by simp [hs.len]; omega)
        have hfz := hs.own.frozen k
        have hcy := hs.carry
        have a1 := getD_lt h2.lt k
        have a2 := getD_lt h1.lt k
        have HS := Lib.hid (hs.step (by omega) h2.lt h1.lt)
        clear hmk hf2 hcell2
        generalize l2.getD k 0 = x at *
        by_cases hk2 : k < l1.length
        · obtain ⟨b2, o2, rfl, hb2, hcell1⟩ := hf1 (by intro h; rw [h] at hk2; simp at hk2)
          have hy := (hs.below.cell (p := ⟨b2, o2 + k, none⟩) hb2).trans (hcell1 k hk2)
          clear hcell1
          generalize l1.getD k 0 = y at *
          clear hf1 hs
          go_wp2
          go_roundw
          case rel => exact ⟨k + 1, (c + x + y) / 4294967296, _, by omega, by go_num, by go_num, HS.out⟩
          case measure => simp [intOf]; omega
        · have hy : l1.getD k 0 = 0 := by simp only [List.getD_eq_getElem?_getD, List.getElem?_eq_none (by omega : l1.length ≤ k)]; rfl
          rw [hy] at HS
          clear hf1 hs hy a2
          go_wp2
          go_roundw
          case rel => exact ⟨k + 1, (c + x + 0) / 4294967296, _, by omega, by go_num, by go_num, HS.out⟩
          case measure => simp [intOf]; omega
      · obtain rfl : k = l2.length := by omega
        have hc0 := hs.own.cell (i := l2.length) (by simp [hs.len])
        have hfz := hs.own.frozen l2.length
        have hcy := hs.carry
        obtain ⟨hU, hv, hb⟩ := hs.done (by omega) h2.lt h1.lt (by omega)
        have HV := Lib.hid hv
        clear hmk hf2 hf1 hs hv
        go_wp2_with fail
        refine (trim_any _ _ _ hU).mono ?_
        rintro e w' ⟨v', rfl, rfl, hm, -⟩
        have hm1 := hm _ hU
        rw [HV.out, Nat.add_comm] at hm1
        go_wp2
        go_ret
        exact ⟨_, rfl, hm1, hb⟩
  · have hmk := make_u32 (x := (l1.length : Int) + 1) (l1.length + 1) (by omega) (by omega)
    go_enter Tryd.func38, Tryd.ntmps38
    go_wp2
    go_loopw [6, 7, 8, 22] (fun cy _ _ i wr => ∃ (k c : Nat) (done : List Nat), k ≤ l1.length ∧ cy = .int .u64 c ∧ i = .int .i64 k ∧ SumAt w wr l1 l2 k c done) (fun _ _ _ i _ => l1.length - (intOf i).toNat)
    case atStart => exact ⟨0, 0, [], Nat.zero_le _, rfl, rfl, SumAt.start w l1 l2⟩
    case round =>
      obtain ⟨k, c, done, hk, rfl, rfl, hs⟩ := hrel
      by_cases hk1 : k < l1.length
      · obtain ⟨b1, o1, rfl, hb1, hcell1⟩ := hf1 (by intro h; rw [h] at hk1; simp at hk1)
        have hx := (hs.below.cell (p := ⟨b1, o1 + k, none⟩) hb1).trans (hcell1 k hk1)
        have hc0 := hs.own.cell (i := k) (by simp [hs.len]; omega)
        have hfz := hs.own.frozen k
        have hcy := hs.carry
        have a1 := getD_lt h1.lt k
        have a2 := getD_lt h2.lt k
        have HS := Lib.hid (hs.step (by omega) h1.lt h2.lt)
        clear hmk hf1 hcell1
        generalize l1.getD k 0 = x at *
        by_cases hk2 : k < l2.length
        · obtain ⟨b2, o2, rfl, hb2, hcell2⟩ := hf2 (by intro h; rw [h] at hk2; simp at hk2)
          have hy := (hs.below.cell (p := ⟨b2, o2 + k, none⟩) hb2).trans (hcell2 k hk2)
          clear hcell2
          generalize l2.getD k 0 = y at *
          clear hf2 hs
          go_wp2
          go_roundw
          case rel => exact ⟨k + 1, (c + x + y) / 4294967296, _, by omega, by go_num, by go_num, HS.out⟩
          case measure => simp [intOf]; omega
        · have hy : l2.getD k 0 = 0 := by simp only [List.getD_eq_getElem?_getD, List.getElem?_eq_none (by omega : l2.length ≤ k)]; rfl
          rw [hy] at HS
          clear hf2 hs hy a2
          go_wp2
          go_roundw
          case rel => exact ⟨k + 1, (c + x + 0) / 4294967296, _, by omega, by go_num, by go_num, HS.out⟩
          case measure => simp [intOf]; omega
      · obtain rfl : k = l1.length := by omega
        have hc0 := hs.own.cell (i := l1.length) (by simp [hs.len])
        have hfz := hs.own.frozen l1.length
        have hcy := hs.carry
        obtain ⟨hU, hv, hb⟩ := hs.done (by omega) h1.lt h2.lt (by omega)
        have HV := Lib.hid hv
        clear hmk hf1 hf2 hs hv
        go_wp2_with fail
        refine (trim_any _ _ _ hU).mono ?_
        rintro e w' ⟨v', rfl, rfl, hm, -⟩
        have hm1 := hm _ hU
        rw [HV.out] at hm1
        go_wp2
        go_ret
        exact ⟨_, rfl, hm1, hb⟩
end Go.Proofs.YtgfoplokplnpgaaDoor
