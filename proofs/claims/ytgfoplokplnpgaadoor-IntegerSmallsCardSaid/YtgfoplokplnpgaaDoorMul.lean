/- integer.product -/
import Derived.Test.YtgfoplokplnpgaaDoorArr
namespace Go.Proofs.YtgfoplokplnpgaaDoor
open Go Go.RowKit Num

/-- One word is changed: so much does the number change. -/
theorem val_set (L : List Nat) (p y : Nat) (hp : p < L.length) : val (L.set p y) + 4294967296 ^ p * L.getD p 0 = val L + 4294967296 ^ p * y := by
  induction L generalizing p with
  | nil => simp at hp
  | cons a t ih =>
    rcases p with _ | p
    · simp only [List.set_cons_zero, val, List.getD_cons_zero, Nat.pow_zero, Nat.one_mul]; omega
    · have := ih p (by simpa using hp)
      simp only [List.set_cons_succ, val, List.getD_cons_succ, Nat.pow_succ]
      have e1 : 4294967296 ^ p * 4294967296 * t.getD p 0 = 4294967296 * (4294967296 ^ p * t.getD p 0) := by rw [Nat.mul_comm (4294967296 ^ p), Nat.mul_assoc]
      have e2 : 4294967296 ^ p * 4294967296 * y = 4294967296 * (4294967296 ^ p * y) := by rw [Nat.mul_comm (4294967296 ^ p), Nat.mul_assoc]
      rw [e1, e2]
      omega

theorem mem_set_lt {L : List Nat} {p y : Nat} (h : ∀ x ∈ L, x < 4294967296) (hy : y < 4294967296) : ∀ x ∈ L.set p y, x < 4294967296 := by
  intro x hx
  rcases List.mem_or_eq_of_mem_set hx with h1 | h1
  · exact h x h1
  · omega
theorem getD_set_ne (L : List Nat) {p t y : Nat} (h : p ≠ t) : (L.set p y).getD t 0 = L.getD t 0 := by
  simp [List.getD_eq_getElem?_getD, List.getElem?_set_ne h]

/-- WHAT HOLDS AT THE OUTER LOOP's HEAD. -/
structure MulAt (w wr : World) (l1 l2 : List Nat) (i : Nat) (L : List Nat) : Prop where
  own : Own wr w.heap.size L
  len : L.length = l1.length + l2.length
  lt : ∀ x ∈ L, x < 4294967296
  zero : ∀ t, i + l2.length ≤ t → L.getD t 0 = 0
  eq : val L = val (l1.take i) * val l2
  below : Below w.heap.size w wr

/-- .. AND AT THE INNER ONE's. -/
structure MulIn (w wr : World) (l1 l2 : List Nat) (i j c : Nat) (L : List Nat) : Prop where
  own : Own wr w.heap.size L
  len : L.length = l1.length + l2.length
  lt : ∀ x ∈ L, x < 4294967296
  zero : ∀ t, i + l2.length ≤ t → L.getD t 0 = 0
  carry : c < 4294967296
  eq : val L + 4294967296 ^ (i + j) * c = val (l1.take i) * val l2 + 4294967296 ^ i * (l1.getD i 0 * val (l2.take j))
  below : Below w.heap.size w wr

theorem MulAt.start (w : World) (l1 l2 : List Nat) : MulAt w (w.alloc (.cells (ws (List.replicate (l1.length + l2.length) 0)).toArray 46)) l1 l2 0 (List.replicate (l1.length + l2.length) 0) := by
  have hz : ∀ n, val (List.replicate n 0) = 0 := by
    intro n; induction n with
    | zero => rfl
    | succ n ih => rw [List.replicate_succ, val, ih]
  refine ⟨Own.new w _, by simp, by intro x hx; rw [List.mem_replicate] at hx; omega, fun t _ => ?_, by rw [hz]; simp [val], (Below.refl _ _).alloc (Nat.le_refl _) _⟩
  simp only [List.getD_eq_getElem?_getD, List.getElem?_replicate]
  split <;> rfl

theorem MulAt.inner {w wr : World} {l1 l2 : List Nat} {i : Nat} {L : List Nat} (h : MulAt w wr l1 l2 i L) : MulIn w wr l1 l2 i 0 0 L :=
  ⟨h.own, h.len, h.lt, h.zero, by omega, by rw [h.eq]; simp [val], h.below⟩

theorem carry_join' (P s : Nat) : P * (s % 4294967296) + P * 4294967296 * (s / 4294967296) = P * s := by
  rw [Nat.mul_assoc, ← Nat.mul_add, Nat.mod_add_div]

theorem mul_bound {c x y o : Nat} (hc : c < 4294967296) (hx : x < 4294967296) (hy : y < 4294967296) (ho : o < 4294967296) : x * y ≤ 18446744065119617025 ∧ c + (x * y + o) < 18446744073709551616 := by
  have h : x * y ≤ 4294967295 * 4294967295 := Nat.mul_le_mul (by omega) (by omega)
  omega

theorem MulIn.step {w wr : World} {l1 l2 : List Nat} {i j c : Nat} {L : List Nat} (h : MulIn w wr l1 l2 i j c L) (hi : i < l1.length) (hj : j < l2.length) (h1 : ∀ x ∈ l1, x < 4294967296) (h2 : ∀ x ∈ l2, x < 4294967296) :
    MulIn w (wr.setCell ⟨w.heap.size, i + j, none⟩ (.int .u32 (((c + (l1.getD i 0 * l2.getD j 0 + L.getD (i + j) 0)) % 4294967296 : Nat) : Int))) l1 l2 i (j + 1) ((c + (l1.getD i 0 * l2.getD j 0 + L.getD (i + j) 0)) / 4294967296)
      (L.set (i + j) ((c + (l1.getD i 0 * l2.getD j 0 + L.getD (i + j) 0)) % 4294967296)) := by
  obtain ⟨_, hb⟩ := mul_bound h.carry (getD_lt h1 i) (getD_lt h2 j) (getD_lt h.lt (i + j))
  have hlen := h.len
  have hs := val_set L (i + j) ((c + (l1.getD i 0 * l2.getD j 0 + L.getD (i + j) 0)) % 4294967296) (by omega)
  have he := h.eq
  refine ⟨h.own.set _ _, by rw [List.length_set, h.len], mem_set_lt h.lt (by omega), fun t ht => by rw [getD_set_ne L (by omega)]; exact h.zero t ht, by omega, ?_, h.below.setCell (Nat.le_refl _) _⟩
  rw [val_take_succ, Nat.mul_add, Nat.mul_add]
  have e1 : 4294967296 ^ i * (l1.getD i 0 * (4294967296 ^ j * l2.getD j 0)) = 4294967296 ^ (i + j) * (l1.getD i 0 * l2.getD j 0) := by
    rw [Nat.pow_add, Nat.mul_left_comm (l1.getD i 0), ← Nat.mul_assoc, ← Nat.mul_assoc]
  rw [e1, show i + (j + 1) = (i + j) + 1 from rfl, Nat.pow_succ]
  generalize l1.getD i 0 * l2.getD j 0 = m at *
  generalize L.getD (i + j) 0 = o at *
  generalize 4294967296 ^ (i + j) = P at *
  have e2 : P * ((c + (m + o)) % 4294967296) + P * 4294967296 * ((c + (m + o)) / 4294967296) = P * c + P * m + P * o := by
    rw [Nat.mul_assoc, ← Nat.mul_add, Nat.mod_add_div, Nat.mul_add, Nat.mul_add, Nat.add_assoc]
  omega

theorem MulIn.done {w wr : World} {l1 l2 : List Nat} {i c : Nat} {L : List Nat} (h : MulIn w wr l1 l2 i l2.length c L) (hi : i < l1.length) :
    MulAt w (wr.setCell ⟨w.heap.size, i + l2.length, none⟩ (.int .u32 (c : Int))) l1 l2 (i + 1) (L.set (i + l2.length) c) := by
  have hlen := h.len
  have hs := val_set L (i + l2.length) c (by omega)
  rw [h.zero _ (Nat.le_refl _), Nat.mul_zero, Nat.add_zero] at hs
  have he := h.eq
  rw [List.take_length] at he
  refine ⟨h.own.set _ _, by rw [List.length_set, h.len], mem_set_lt h.lt h.carry, fun t ht => by rw [getD_set_ne L (by omega)]; exact h.zero t (by omega), ?_, h.below.setCell (Nat.le_refl _) _⟩
  rw [hs, he, val_take_succ, Nat.add_mul, Nat.mul_assoc]

set_option maxHeartbeats 2000000 in
theorem product_any (v1 v2 : Value) (l1 l2 : List Nat) (w : World) (h1 : U32 w v1 l1) (h2 : U32 w v2 l2) (hn1 : l1.length ≤ 500000) (hn2 : l2.length ≤ 500000) :
    Calls Tryd.prog 43 #[v1, v2] w fun e w' => ∃ v', e = .returned v' ∧ Mag w' v' (val l1 * val l2) ∧ Below w.heap.size w w' := by
  obtain ⟨A1, cap1, rfl, hc1, hm1, hf1⟩ := id h1.form
  obtain ⟨A2, cap2, rfl, hc2, hm2, hf2⟩ := id h2.form
  have hmk := make_u32 (x := (l1.length : Int) + (l2.length : Int)) (l1.length + l2.length) (by omega) (by omega)
  go_enter Tryd.func43, Tryd.ntmps43
  go_wp2
  go_loopw [6, 7, 8, 9, 10, 19, 24, 25, 26] (fun _ _ _ _ _ i _ _ _ wr => ∃ (k : Nat) (L : List Nat), k ≤ l1.length ∧ i = .int .i64 k ∧ MulAt w wr l1 l2 k L) (fun _ _ _ _ _ i _ _ _ _ => l1.length - (intOf i).toNat)
  case atStart => exact ⟨0, _, Nat.zero_le _, rfl, MulAt.start w l1 l2⟩
  case round =>
    obtain ⟨k, L, hk, rfl, hs⟩ := hrel
    clear hmk
    by_cases hk1 : k < l1.length
    · obtain ⟨b1, o1, rfl, hb1, hcell1⟩ := hf1 (by intro h; rw [h] at hk1; simp at hk1)
      have hx := (hs.below.cell (p := ⟨b1, o1 + k, none⟩) hb1).trans (hcell1 k hk1)
      have hin := hs.inner
      have a1 := getD_lt h1.lt k
      clear hf1 hcell1 hs
      have HX : Hid (∃ x, x = l1.getD k 0) := ⟨_, rfl⟩
      obtain ⟨x, hxe⟩ := HX.out
      rw [← hxe] at hx a1
      have HXE := Lib.hid hxe
      clear HX hxe
      obtain ⟨wo, rfl⟩ : ∃ wo : World, wo = wr := ⟨_, rfl⟩
      go_wp2
      go_loopw [8, 9, 10, 26] (fun cy _ _ jv wr => ∃ (j c : Nat) (L' : List Nat), j ≤ l2.length ∧ cy = .int .u64 c ∧ jv = .int .i64 j ∧ MulIn w wr l1 l2 k j c L') (fun _ _ _ jv _ => l2.length - (intOf jv).toNat)
      case atStart => exact ⟨0, 0, L, Nat.zero_le _, rfl, rfl, hin⟩
      case round =>
        obtain ⟨j, c, L', hj, rfl, rfl, hs⟩ := hrel
        clear hin
        have hlen := hs.len
        have hcy := hs.carry
        by_cases hj1 : j < l2.length
        · obtain ⟨b2, o2, rfl, hb2, hcell2⟩ := hf2 (by intro h; rw [h] at hj1; simp at hj1)
          have hy := (hs.below.cell (p := ⟨b2, o2 + j, none⟩) hb2).trans (hcell2 j hj1)
          have a2 := getD_lt h2.lt j
          have a3 := getD_lt hs.lt (k + j)
          have hc0 := hs.own.cell (i := k + j) (by omega)
          have hfz := hs.own.frozen (k + j)
          have hst := hs.step hk1 hj1 h1.lt h2.lt
          rw [← HXE.out] at hst
          have HS := Lib.hid hst
          have hbd := mul_bound hcy a1 a2 a3
          clear hf2 hcell2 hs hst hlen
          generalize l2.getD j 0 = y at *
          generalize L'.getD (k + j) 0 = o at *
          have hm0 : 0 ≤ (x : Int) * (y : Int) := by rw [← Int.natCast_mul]; exact Int.natCast_nonneg _
          have hm1 : (x : Int) * (y : Int) + o + c < 18446744073709551616 := by rw [← Int.natCast_mul]; omega
          have HM : Hid ((x : Int) * (y : Int) = ((x * y : Nat) : Int)) := (Int.natCast_mul _ _).symm
          clear hbd
          go_wp2
          go_roundw
          case rel => exact ⟨j + 1, (c + (x * y + o)) / 4294967296, _, by omega, by rw [HM.out]; go_num, by go_num, by have := HS.out; rw [HM.out]; exact this⟩
          case measure => simp only [intOf]; omega
        · obtain rfl : j = l2.length := by omega
          have hc0 := hs.own.cell (i := k + l2.length) (by omega)
          have hfz := hs.own.frozen (k + l2.length)
          have HS := Lib.hid (hs.done hk1)
          clear hs hf2 hlen
          go_wp2
          go_roundw
          case rel => exact ⟨k + 1, _, by omega, by go_num, HS.out⟩
          case measure => simp only [intOf]; omega
    · obtain rfl : k = l1.length := by omega
      have hU := hs.own.u32 hs.lt (by rw [hs.len]; simp only [maxLen]; omega)
      rw [hs.len] at hU
      have hv := hs.eq
      rw [List.take_length] at hv
      have hb := hs.below
      have HV := Lib.hid hv
      clear hf1 hf2 hs hv
      go_wp2_with fail
      refine (trim_any _ _ _ hU).mono ?_
      rintro e w' ⟨v', rfl, rfl, hm, -⟩
      have hm1 := hm _ hU
      rw [HV.out] at hm1
      go_wp2
      go_ret
      exact ⟨_, rfl, hm1, hb⟩
end Go.Proofs.YtgfoplokplnpgaaDoor
