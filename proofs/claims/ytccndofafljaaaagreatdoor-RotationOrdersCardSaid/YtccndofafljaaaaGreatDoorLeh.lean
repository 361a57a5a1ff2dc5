/- integer.mix
   integer.cut
   integer.foresee
   integer.closer -/
import Derived.Test.YtccndofafljaaaaGreatDoorMagn
import Derived.Test.YtccndofafljaaaaGreatDoorBase
import Derived.Test.YtccndofafljaaaaGreatDoorRefB

set_option linter.unusedVariables false
set_option linter.unusedSimpArgs false

namespace Go.Proofs.YtccndofafljaaaaGreatDoor
open Go Go.RowKit Num

/-- One word of m*a + n*b with the carry c. -/
theorem mix_bound {m n c x y : Int} (hm : -2147483648 < m ∧ m < 2147483648) (hn : -2147483648 < n ∧ n < 2147483648) (hs : 0 ≤ m ∧ n ≤ 0 ∨ m ≤ 0 ∧ 0 ≤ n)
    (hx : 0 ≤ x ∧ x < 4294967296) (hy : 0 ≤ y ∧ y < 4294967296) (hc : -2147483648 ≤ c ∧ c ≤ 2147483647) :
    (-9223372036854775808 ≤ m * x ∧ m * x ≤ 9223372036854775807) ∧ (-9223372036854775808 ≤ n * y ∧ n * y ≤ 9223372036854775807) ∧
    (-9223372036854775808 ≤ m * x + n * y ∧ m * x + n * y ≤ 9223372036854775807) ∧ (-9223372036854775808 ≤ c + (m * x + n * y) ∧ c + (m * x + n * y) ≤ 9223372036854775807) ∧
    (-2147483648 ≤ (c + (m * x + n * y)) / 4294967296 ∧ (c + (m * x + n * y)) / 4294967296 ≤ 2147483647) := by
  have a1 : ∀ k z : Int, 0 ≤ k → k < 2147483648 → 0 ≤ z → z < 4294967296 → 0 ≤ k * z ∧ k * z ≤ 2147483647 * 4294967295 := fun k z h1 h2 h3 h4 =>
    ⟨Int.mul_nonneg h1 h3, Int.le_trans (Int.mul_le_mul_of_nonneg_right (by omega : k ≤ 2147483647) h3) (Int.mul_le_mul_of_nonneg_left (by omega) (by omega))⟩
  rcases hs with ⟨s1, s2⟩ | ⟨s1, s2⟩
  · have b1 := a1 m x s1 hm.2 hx.1 hx.2
    have b2 := a1 (-n) y (by omega) (by omega) hy.1 hy.2
    rw [Int.neg_mul] at b2
    omega
  · have b1 := a1 (-m) x (by omega) (by omega) hx.1 hx.2
    have b2 := a1 n y s2 hn.2 hy.1 hy.2
    rw [Int.neg_mul] at b1
    omega

theorem mix_step {d P c m n a b x y : Int} (e : d + P * c = m * a + n * b) :
    d + P * ((c + (m * x + n * y)) % 4294967296) + P * 4294967296 * ((c + (m * x + n * y)) / 4294967296) = m * (a + P * x) + n * (b + P * y) := by
  have h := Int.mul_ediv_add_emod (c + (m * x + n * y)) 4294967296
  have h2 : P * ((c + (m * x + n * y)) % 4294967296) + P * 4294967296 * ((c + (m * x + n * y)) / 4294967296) = P * (c + (m * x + n * y)) := by
    rw [Int.mul_assoc, ← Int.mul_add, Int.add_comm, h]
  rw [Int.add_assoc, h2, Int.mul_add, Int.mul_add, Int.mul_add, Int.mul_add, Int.mul_left_comm P m x, Int.mul_left_comm P n y]
  omega

theorem mix_end {d P c R : Int} (e : d + P * c = R) (hd0 : 0 ≤ d) (hd : d < P) (hR0 : 0 ≤ R) (hR : R < P) : d = R := by
  have hP : 0 < P := by omega
  have : c = 0 := by
    rcases Int.lt_trichotomy c 0 with h | h | h
    · have := Int.mul_le_mul_of_nonneg_left (show c ≤ -1 by omega) (Int.le_of_lt hP)
      omega
    · exact h
    · have := Int.mul_le_mul_of_nonneg_left (show 1 ≤ c by omega) (Int.le_of_lt hP)
      omega
  subst this
  omega

/-- WHAT HOLDS AT THE HEAD OF mix's LOOP, k words done. -/
structure MixAt (w wr : World) (m n : Int) (l1 l2 : List Nat) (k : Nat) (c : Int) (done : List Nat) : Prop where
  own : Own wr w.heap.size (done ++ List.replicate (l1.length - k) 0)
  len : done.length = k
  lt : ∀ x ∈ done, x < 4294967296
  carry : -2147483648 ≤ c ∧ c ≤ 2147483647
  eq : (val done : Int) + ((4294967296 ^ k : Nat) : Int) * c = m * (val (l1.take k) : Nat) + n * (val (l2.take k) : Nat)
  below : Below w.heap.size w wr

theorem MixAt.step {w wr : World} {m n : Int} {l1 l2 : List Nat} {k : Nat} {c : Int} {done : List Nat} (h : MixAt w wr m n l1 l2 k c done) (hk : k < l1.length) (h1 : ∀ x ∈ l1, x < 4294967296) (h2 : ∀ x ∈ l2, x < 4294967296)
    (hm : -2147483648 < m ∧ m < 2147483648) (hn : -2147483648 < n ∧ n < 2147483648) (hs : 0 ≤ m ∧ n ≤ 0 ∨ m ≤ 0 ∧ 0 ≤ n) {s : Int} (e : c + (m * (l1.getD k 0 : Nat) + n * (l2.getD k 0 : Nat)) = s) {d : Nat} (hd : (d : Int) = s % 4294967296) :
    MixAt w (wr.setCell ⟨w.heap.size, k, none⟩ (.int .u32 (d : Int))) m n l1 l2 (k + 1) (s / 4294967296) (done ++ [d]) := by
  have hb := mix_bound (x := (l1.getD k 0 : Nat)) (y := (l2.getD k 0 : Nat)) hm hn hs ⟨by omega, by have := getD_lt h1 k; omega⟩ ⟨by omega, by have := getD_lt h2 k; omega⟩ h.carry
  rw [e] at hb
  refine ⟨?_, by simp [h.len], ?_, hb.2.2.2.2, ?_, h.below.setCell (Nat.le_refl _) _⟩
  · have e := h.own.set k d
    rw [show l1.length - k = (l1.length - (k + 1)) + 1 from by omega, List.replicate_succ] at e
    have hs := set_done done 0 d (List.replicate (l1.length - (k + 1)) 0)
    rw [h.len] at hs
    rw [hs] at e
    rw [List.append_assoc]
    exact e
  · intro x hx
    rcases List.mem_append.1 hx with hx | hx
    · exact h.lt x hx
    · rw [List.mem_singleton] at hx; omega
  · have st := mix_step (x := (l1.getD k 0 : Nat)) (y := (l2.getD k 0 : Nat)) h.eq
    rw [e, ← hd] at st
    rw [val_snoc, h.len, val_take_succ, val_take_succ, Nat.pow_succ]
    simp only [Int.natCast_add, Int.natCast_mul] at st ⊢
    exact st

theorem MixAt.start (w : World) (m n : Int) (l1 l2 : List Nat) : MixAt w (w.alloc (.cells (ws (List.replicate l1.length 0)).toArray 69)) m n l1 l2 0 0 [] :=
  ⟨by simpa using Own.new w _, rfl, by simp, by omega, by simp [val], (Below.refl _ _).alloc (Nat.le_refl _) _⟩

theorem MixAt.done {w wr : World} {m n : Int} {l1 l2 : List Nat} {c : Int} {done : List Nat} (hs : MixAt w wr m n l1 l2 l1.length c done) (hle : l2.length ≤ l1.length) (h1 : ∀ x ∈ l1, x < 4294967296) {R : Nat} (hR : (R : Int) = m * (val l1 : Nat) + n * (val l2 : Nat)) (hRl : R ≤ val l1) (hn : l1.length ≤ 1000000) :
    U32 wr (.slice (some ⟨w.heap.size, 0, none⟩) l1.length l1.length) done ∧ val done = R := by
  have hU : U32 wr (.slice (some ⟨w.heap.size, 0, none⟩) done.length done.length) done := by
    have ho := hs.own
    rw [Nat.sub_self, List.replicate_zero, List.append_nil] at ho
    exact ho.u32 hs.lt (by rw [hs.len]; simp only [maxLen]; omega)
  rw [hs.len] at hU
  refine ⟨hU, ?_⟩
  have e := hs.eq
  have t2 : l2.take l1.length = l2 := List.take_of_length_le (by omega)
  rw [List.take_length, t2, ← hR] at e
  have hl := val_lt hs.lt
  rw [hs.len] at hl
  have hl1 := val_lt h1
  have := mix_end e (by omega) (by omega) (by omega) (by omega)
  omega

set_option maxHeartbeats 1000000 in
theorem mix_any (m n : Int) (v1 v2 : Value) (l1 l2 : List Nat) (w : World) (h1 : U32 w v1 l1) (h2 : U32 w v2 l2) (hm : -2147483648 < m ∧ m < 2147483648) (hn : -2147483648 < n ∧ n < 2147483648) (hs : 0 ≤ m ∧ n ≤ 0 ∨ m ≤ 0 ∧ 0 ≤ n)
    (hn1 : l1.length ≤ 1000000) (hle : l2.length ≤ l1.length) (R : Nat) (hR : (R : Int) = m * (val l1 : Nat) + n * (val l2 : Nat)) (hRl : R ≤ val l1) :
    Calls Tryz.prog 103 #[.int .i64 m, v1, .int .i64 n, v2] w fun e w' => ∃ v', e = .returned v' ∧ Mag w' v' R ∧ Below w.heap.size w w' := by
  obtain ⟨A1, cap1, rfl, hc1, hm1, hf1⟩ := id h1.form
  obtain ⟨A2, cap2, rfl, hc2, hm2, hf2⟩ := id h2.form
  have hmk := make_u32 (x := (l1.length : Int)) l1.length rfl (by omega)
  have HR := Lib.hid hR
  have HM := Lib.hid (And.intro hm (And.intro hn hs))
  clear hR hm hn hs
  go_enter Tryz.func103, Tryz.ntmps103
  go_wp2
  go_loopw [10, 11, 12, 13, 19] (fun cy _ _ _ i wr => ∃ (k : Nat) (c : Int) (done : List Nat), k ≤ l1.length ∧ cy = .int .i64 c ∧ i = .int .i64 k ∧ MixAt w wr m n l1 l2 k c done) (fun _ _ _ _ i _ => l1.length - (intOf i).toNat)
  case atStart => exact ⟨0, 0, [], Nat.zero_le _, rfl, rfl, MixAt.start w m n l1 l2⟩
  case round =>
    obtain ⟨k, c, done, hk, rfl, rfl, hs⟩ := hrel
    by_cases hk1 : k < l1.length
    · obtain ⟨b1, o1, rfl, hb1, hcell1⟩ := hf1 (by intro h; rw [h] at hk1; simp at hk1)
      have hx := (hs.below.cell (p := ⟨b1, o1 + k, none⟩) hb1).trans (hcell1 k hk1)
      have hc0 := hs.own.cell (i := k) (by simp [hs.len]; omega)
      have hfz := hs.own.frozen k
      have hcy := hs.carry
      have a1 := getD_lt h1.lt k
      have a2 := getD_lt h2.lt k
      obtain ⟨q1, q2, q3, q4, -⟩ := mix_bound (x := (l1.getD k 0 : Nat)) (y := (l2.getD k 0 : Nat)) HM.out.1 HM.out.2.1 HM.out.2.2 ⟨by omega, by omega⟩ ⟨by omega, by omega⟩ hcy
      obtain ⟨s, hsum⟩ : ∃ s, c + (m * (l1.getD k 0 : Nat) + n * (l2.getD k 0 : Nat)) = s := ⟨_, rfl⟩
      obtain ⟨d, hd⟩ : ∃ d : Nat, (d : Int) = s % 4294967296 := ⟨(s % 4294967296).toNat, by omega⟩
      have HS := Lib.hid (hs.step hk1 h1.lt h2.lt HM.out.1 HM.out.2.1 HM.out.2.2 hsum hd)
      have HD := Lib.hid hd
      rw [hsum] at q4
      clear hmk hf1 hcell1 hd
      generalize l1.getD k 0 = x at *
      obtain ⟨q1l, q1u⟩ := q1
      obtain ⟨q3l, q3u⟩ := q3
      obtain ⟨q4l, q4u⟩ := q4
      obtain ⟨q2l, q2u⟩ := q2
      by_cases hk2 : k < l2.length
      · obtain ⟨b2, o2, rfl, hb2, hcell2⟩ := hf2 (by intro h; rw [h] at hk2; simp at hk2)
        have hy := (hs.below.cell (p := ⟨b2, o2 + k, none⟩) hb2).trans (hcell2 k hk2)
        clear hcell2
        generalize l2.getD k 0 = y at *
        clear hf2 hs
        go_wp2
        go_roundw
        case rel => exact ⟨k + 1, s / 4294967296, _, by omega, by go_num, by go_num, by rw [← HD.out]; exact HS.out⟩
        case measure => simp [intOf]; omega
      · have hy : l2.getD k 0 = 0 := by simp only [List.getD_eq_getElem?_getD, List.getElem?_eq_none (by omega : l2.length ≤ k)]; rfl
        rw [hy] at hsum q2l q2u q3l q3u
        clear hf2 hs hy a2
        have e0 : n * ((0 : Nat) : Int) = 0 := by simp
        rw [e0, Int.add_zero] at hsum q3l q3u
        clear e0 q2l q2u
        go_wp2
        go_roundw
        case rel => exact ⟨k + 1, s / 4294967296, _, by omega, by go_num, by go_num, by rw [← HD.out]; exact HS.out⟩
        case measure => simp [intOf]; omega
    · obtain rfl : k = l1.length := by omega
      obtain ⟨hU, hv⟩ := hs.done hle h1.lt HR.out hRl (by omega)
      have hb := hs.below
      have HD := Lib.hid hv
      clear hmk hf1 hf2 hs hv
      go_wp2_with fail
      refine (trim_any _ _ _ hU).mono ?_
      rintro e w' ⟨v', rfl, rfl, hm, -⟩
      have hm1 := hm _ hU
      rw [HD.out] at hm1
      go_wp2
      go_ret
      exact ⟨_, rfl, hm1, hb⟩
end Go.Proofs.YtccndofafljaaaaGreatDoor

namespace Go.Proofs.YtccndofafljaaaaGreatDoor
open Go Go.RowKit Num

theorem or_shift {X y s : Nat} (hX : X < 2 ^ s) (hb : X + y * 2 ^ s < 18446744073709551616) : bits .or .u64 (X : Int) (IntKind.u64.wrap ((y : Int) * 2 ^ s)) = ((X + y * 2 ^ s : Nat) : Int) := by
  have e0 : IntKind.u64.wrap ((y : Int) * 2 ^ s) = ((y * 2 ^ s : Nat) : Int) := by
    have : ((y * 2 ^ s : Nat) : Int) = (y : Int) * 2 ^ s := by rw [Int.natCast_mul, Int.natCast_pow]; rfl
    rw [← this]
    simp only [IntKind.wrap, IntKind.bits, IntKind.signed]; simp; omega
  rw [e0]
  have e := u64_or_nat X (y * 2 ^ s) (by omega) (by omega)
  rw [e, Nat.or_comm, nat_join s (y * 2 ^ s) X (Nat.mul_mod_left _ _) hX]
  omega

/-- What stands in the words of l from q on, up to the k-th, without the lowest r digits. -/
def part (l : List Nat) (q r k : Nat) : Nat := val ((l.drop q).take k) / 2 ^ r

theorem part_lt {l : List Nat} (h : ∀ x ∈ l, x < 4294967296) {q r k s : Nat} (hs : s + r = 32 * k) : part l q r k < 2 ^ s := by
  unfold part
  have h1 := val_lt (l := (l.drop q).take k) (fun x hx => h x (List.mem_of_mem_drop (List.mem_of_mem_take hx)))
  have h2 : 4294967296 ^ ((l.drop q).take k).length ≤ 4294967296 ^ k := Nat.pow_le_pow_right (by omega) (List.length_take_le _ _)
  rw [Nat.div_lt_iff_lt_mul (Nat.two_pow_pos r), ← Nat.pow_add, hs, Nat.pow_mul]
  exact Nat.lt_of_lt_of_le h1 h2
theorem part_succ {l : List Nat} {q r k s : Nat} (hs : s + r = 32 * k) (hk : q + k < l.length) : part l q r (k + 1) = part l q r k + l.getD (q + k) 0 * 2 ^ s := by
  unfold part
  rw [val_take_succ]
  have e : (l.drop q).getD k 0 = l.getD (q + k) 0 := by simp [List.getD, List.getElem?_drop]
  rw [e, show (4294967296 : Nat) ^ k = 2 ^ r * 2 ^ s by rw [← Nat.pow_add, Nat.add_comm, hs, Nat.pow_mul], Nat.mul_assoc, Nat.add_mul_div_left _ _ (Nat.two_pow_pos r), Nat.mul_comm (2 ^ s)]
theorem part_le {l : List Nat} {q r k : Nat} (h : ∀ x ∈ l, x < 4294967296) : part l q r k ≤ val (l.drop q) / 2 ^ r := by
  unfold part
  apply Nat.div_le_div_right
  have := val_append ((l.drop q).take k) ((l.drop q).drop k)
  rw [List.take_append_drop] at this
  omega
theorem part_one {l : List Nat} {q r : Nat} (hq : q < l.length) : part l q r 1 = l.getD q 0 / 2 ^ r := by
  unfold part
  rw [show (1 : Nat) = 0 + 1 from rfl, val_take_succ]
  simp [val, List.getD, List.getElem?_drop]
theorem part_all {l : List Nat} {q r k : Nat} (hk : l.length ≤ q + k) : part l q r k = val (l.drop q) / 2 ^ r := by
  unfold part
  rw [List.take_of_length_le (by simp; omega)]

/-- How far the words reach. -/
theorem cut_reach {N n k : Nat} (hN : N / 2 ^ n < 4611686018427387904) (hk : n / 32 + k < (digs N).length) : 32 * k < 62 + n % 32 := by
  have h1 := pow_le_of_length hk
  have h2 : N < 4611686018427387904 * 2 ^ n := (Nat.div_lt_iff_lt_mul (Nat.two_pow_pos n)).1 hN
  have h3 : (2 : Nat) ^ (32 * (n / 32 + k)) < 2 ^ (62 + n) := by
    rw [Nat.pow_mul, Nat.pow_add 2 62 n]
    exact Nat.lt_of_le_of_lt h1 h2
  have h4 := (Nat.pow_lt_pow_iff_right (by omega : 1 < 2)).1 h3
  omega

set_option maxHeartbeats 2000000 in
theorem cut_any (v : Value) (N n R : Nat) (w : World) (h : Mag w v N) (hn : (digs N).length ≤ 500000) (hn2 : n ≤ 1000000000) (hR : N / 2 ^ n = R) (hRR : R < 4611686018427387904) :
    Calls Tryz.prog 111 #[v, .int .i64 n] w fun e w' => e = .returned (.int .i64 R) ∧ w = w' := by
  have hN : N / 2 ^ n < 4611686018427387904 := by rw [hR]; exact hRR
  obtain ⟨A1, cap1, rfl, hc1, hm1, hf1⟩ := id h.form
  have hlt := h.lt
  have hfin : val ((digs N).drop (n / 32)) / 2 ^ (n % 32) = R := by
    rw [← hR, val_drop_div h.lt, Nat.div_div_eq_div_mul, show 4294967296 ^ (n / 32) = 2 ^ (32 * (n / 32)) from by rw [Nat.pow_mul], ← Nat.pow_add, Nat.div_add_mod, val_digs]
  have hreach := fun k => @cut_reach N n k hN
  have HF := Lib.hid hfin
  have HR := Lib.hid hreach
  have HN := Lib.hid hN
  clear hfin hreach hN hR
  have hm1' := hm1
  unfold maxLen at hm1'
  by_cases hq : n / 32 < (digs N).length
  · obtain ⟨b1, o1, rfl, hb1, hcell1⟩ := hf1 (by intro h; rw [h] at hq; simp at hq)
    generalize digs N = l at *
    have hp1 := @part_one l (n / 32) (n % 32) hq
    have hx := hcell1 (n / 32) (by omega)
    have hqc : n / 32 + 1 < cap1 ∨ n / 32 + 1 = cap1 := by omega
    rcases hqc with hqc | hqc
    · clear hf1
      have hy0 := getD_lt hlt (n / 32)
      have hxx : ((l.getD (n / 32) 0 / 2 ^ (n % 32) : Nat) : Int) = (l.getD (n / 32) 0 : Int) / 2 ^ (n % 32) := by rw [Int.natCast_ediv, Int.natCast_pow]; rfl
      rw [← hp1] at hxx
      have HX := Lib.hid hxx
      have HC := Lib.hid hcell1
      clear hxx hp1 hcell1
      generalize l.getD (n / 32) 0 = x0 at *
      go_enter Tryz.func111, Tryz.ntmps111
      go_wp2
      go_loop [7, 8, 9, 30] (fun X _ _ i => ∃ k : Nat, k ≤ l.length - (n / 32 + 1) ∧ i = .int .i64 k ∧ X = .int .u64 (part l (n / 32) (n % 32) (k + 1) : Nat)) (fun _ _ _ i => l.length - (n / 32 + 1) - (intOf i).toNat)
      case atStart => exact ⟨0, Nat.zero_le _, rfl, by rw [HX.out]⟩
      case round =>
        obtain ⟨k, hk, rfl, rfl⟩ := hrel
        by_cases hk1 : k < l.length - (n / 32 + 1)
        · have hcell := HC.out (n / 32 + (k + 1)) (by omega)
          have hsr := HR.out (k + 1) (by omega)
          obtain ⟨s, hs, hse⟩ : ∃ s : Nat, s + n % 32 = 32 * (k + 1) ∧ 32 * (k + 1) - n % 32 = s := ⟨32 * (k + 1) - n % 32, by omega, rfl⟩
          have hps := @part_succ l (n / 32) (n % 32) (k + 1) s hs (by omega)
          have hpl := @part_lt l hlt (n / 32) (n % 32) (k + 1) s hs
          have hpt := @part_le l (n / 32) (n % 32) (k + 1 + 1) hlt
          rw [HF.out, hps] at hpt
          have hor := or_shift hpl (by omega : part l (n / 32) (n % 32) (k + 1) + l.getD (n / 32 + (k + 1)) 0 * 2 ^ s < 18446744073709551616)
          rw [← hps] at hor
          have hp63 : part l (n / 32) (n % 32) (k + 1) < 18446744073709551616 := by omega
          have hy := getD_lt hlt (n / 32 + (k + 1))
          have HO := Lib.hid hor
          have HE := Lib.hid hse
          clear hps hpl hpt hor hse
          generalize l.getD (n / 32 + (k + 1)) 0 = y at *
          generalize part l (n / 32) (n % 32) (k + 1) = P at *
          rw [show o1 + (n / 32 + (k + 1)) = o1 + (n / 32 + 1) + k by omega] at hcell
          go_wp2
          go_round
          case rel => exact ⟨k + 1, by omega, by go_num, by rw [HE.out, HO.out]⟩
          case measure => simp only [intOf]; omega
        · have hpa := @part_all l (n / 32) (n % 32) (k + 1) (by omega)
          rw [HF.out] at hpa
          rw [hpa]
          clear hpa
          go_wp2
          go_ret
          exact ⟨rfl, rfl⟩
    · have hpa := @part_all l (n / 32) (n % 32) 1 (by omega)
      rw [HF.out, hp1] at hpa
      have HP := Lib.hid hpa
      have hxx : (l.getD (n / 32) 0 : Int) / 2 ^ (n % 32) = (R : Int) := by rw [← hpa, Int.natCast_ediv, Int.natCast_pow]; rfl
      have hy0 := getD_lt hlt (n / 32)
      have hle : l.length ≤ n / 32 + 1 := by omega
      have hle2 : n / 32 + 1 ≤ l.length := by omega
      clear hpa hp1 HP hcell1 hf1
      generalize l.getD (n / 32) 0 = x0 at *
      have hl : l.length = cap1 := by omega
      rw [hl] at *
      have HL := Lib.hid hl
      clear hl
      subst hqc
      go_enter Tryz.func111, Tryz.ntmps111
      go_wp2
      go_rounds 1
      go_ret
      exact ⟨rfl, rfl⟩
  · have hz : R = 0 := by
      rw [← HF.out, List.drop_eq_nil_of_le (by omega)]; simp [val]
    subst hz
    clear HF HR HN hf1
    go_enter Tryz.func111, Tryz.ntmps111
    go_wp2
    go_ret
    exact ⟨rfl, rfl⟩
end Go.Proofs.YtccndofafljaaaaGreatDoor

namespace Go.Proofs.YtccndofafljaaaaGreatDoor
open Go Go.RowKit Num

/-- Block x is a variable of the type steps. -/
def Quad (w : World) (x : Nat) (a b c d : Int) : Prop := w.heap[x]? = some (.cells #[.int .i64 a, .int .i64 b, .int .i64 c, .int .i64 d] 129 (0, 0))
section
variable {w w' : World} {x : Nat} {a b c d : Int}
theorem Quad.c0 (h : Quad w x a b c d) : w.cell? ⟨x, 0, none⟩ = some (.int .i64 a) := cell_of_row w x 0 _ _ (0, 0) h
theorem Quad.c1 (h : Quad w x a b c d) : w.cell? ⟨x, 1, none⟩ = some (.int .i64 b) := cell_of_row w x 1 _ _ (0, 0) h
theorem Quad.c2 (h : Quad w x a b c d) : w.cell? ⟨x, 2, none⟩ = some (.int .i64 c) := cell_of_row w x 2 _ _ (0, 0) h
theorem Quad.c3 (h : Quad w x a b c d) : w.cell? ⟨x, 3, none⟩ = some (.int .i64 d) := cell_of_row w x 3 _ _ (0, 0) h
theorem Quad.fz (h : Quad w x a b c d) (i : Nat) : w.frozen? ⟨x, i, none⟩ = false := frozen_of_row w x i _ _ h
theorem Quad.new (w : World) (a b c d : Int) : Quad (w.alloc (.cells #[.int .i64 a, .int .i64 b, .int .i64 c, .int .i64 d] 129)) w.heap.size a b c d := heap_alloc_new w _
theorem Quad.lt (h : Quad w x a b c d) : x < w.heap.size := by
  rcases Nat.lt_or_ge x w.heap.size with hlt | hge
  · exact hlt
  · unfold Quad at h; rw [Array.getElem?_eq_none hge] at h; cases h
theorem Quad.alloc (h : Quad w x a b c d) (o : Obj) : Quad (w.alloc o) x a b c d := (Below.heap_alloc w o x h.lt).trans h
theorem Quad.below {B : Nat} (h : Quad w x a b c d) (hb : Below B w w') (hx : x < B) : Quad w' x a b c d := (hb.block x hx).trans h
/-- The world after a store into a variable of the type steps. -/
def qset (w : World) (x : Nat) (a b c d : Int) : World := (((w.setCell ⟨x, 0, none⟩ (.int .i64 a)).setCell ⟨x, 1, none⟩ (.int .i64 b)).setCell ⟨x, 2, none⟩ (.int .i64 c)).setCell ⟨x, 3, none⟩ (.int .i64 d)
theorem Quad.store (h : Quad w x a b c d) (a' b' c' d' : Int) : Quad (qset w x a' b' c' d') x a' b' c' d' := by
  have h1 := heap_setCell_same w x 0 _ _ (.int .i64 a') h
  have h2 := heap_setCell_same _ x 1 _ _ (.int .i64 b') h1
  have h3 := heap_setCell_same _ x 2 _ _ (.int .i64 c') h2
  have h4 := heap_setCell_same _ x 3 _ _ (.int .i64 d') h3
  exact h4
theorem Quad.stores (h : Quad w x a b c d) (a' b' c' d' : Int) :
    (w.setCell ⟨x, 0, none⟩ (.int .i64 a')).cell? ⟨x, 0, none⟩ = some (.int .i64 a') ∧
    ((w.setCell ⟨x, 0, none⟩ (.int .i64 a')).setCell ⟨x, 1, none⟩ (.int .i64 b')).cell? ⟨x, 1, none⟩ = some (.int .i64 b') ∧
    (((w.setCell ⟨x, 0, none⟩ (.int .i64 a')).setCell ⟨x, 1, none⟩ (.int .i64 b')).setCell ⟨x, 2, none⟩ (.int .i64 c')).cell? ⟨x, 2, none⟩ = some (.int .i64 c') ∧
    ((((w.setCell ⟨x, 0, none⟩ (.int .i64 a')).setCell ⟨x, 1, none⟩ (.int .i64 b')).setCell ⟨x, 2, none⟩ (.int .i64 c')).setCell ⟨x, 3, none⟩ (.int .i64 d')).cell? ⟨x, 3, none⟩ = some (.int .i64 d') := by
  have h1 := heap_setCell_same w x 0 _ _ (.int .i64 a') h
  have h2 := heap_setCell_same _ x 1 _ _ (.int .i64 b') h1
  have h3 := heap_setCell_same _ x 2 _ _ (.int .i64 c') h2
  have h4 := heap_setCell_same _ x 3 _ _ (.int .i64 d') h3
  exact ⟨cell_of_row _ x 0 _ _ (0, 0) h1, cell_of_row _ x 1 _ _ (0, 0) h2, cell_of_row _ x 2 _ _ (0, 0) h3, cell_of_row _ x 3 _ _ (0, 0) h4⟩
theorem Quad.far {y : Nat} (h : Quad w x a b c d) (hne : x ≠ y) (a' b' c' d' : Int) : Quad (qset w y a' b' c' d') x a b c d := by
  unfold qset
  exact (heap_setCell_other _ ⟨y, 3, none⟩ x _ hne).trans ((heap_setCell_other _ ⟨y, 2, none⟩ x _ hne).trans ((heap_setCell_other _ ⟨y, 1, none⟩ x _ hne).trans ((heap_setCell_other _ ⟨y, 0, none⟩ x _ hne).trans h)))
theorem below_qset {B y : Nat} {u : World} (h : Below B u w) (hy : B ≤ y) (a b c d : Int) : Below B u (qset w y a b c d) :=
  (((h.setCell (p := ⟨y, 0, none⟩) hy _).setCell (p := ⟨y, 1, none⟩) hy _).setCell (p := ⟨y, 2, none⟩) hy _).setCell (p := ⟨y, 3, none⟩) hy _
end

theorem blen_words {n k : Nat} (h : (digs n).length ≤ k) : blen n ≤ 32 * k := by
  rcases Nat.lt_or_ge (32 * k) (blen n) with h1 | h1
  · have h5 := blen_le (n := n) (j := blen n - 1) (by omega)
    have h6 := lt_pow_length n
    have h7 : 4294967296 ^ (digs n).length ≤ 4294967296 ^ k := Nat.pow_le_pow_right (by omega) h
    have h8 : (4294967296 : Nat) ^ k = 2 ^ (32 * k) := by rw [Nat.pow_mul]
    have h9 : (2 : Nat) ^ (32 * k) ≤ 2 ^ (blen n - 1) := Nat.pow_le_pow_right (by omega) (by omega)
    omega
  · exact h1
theorem fore_start {a b : Nat} (hba : b ≤ a) (h3 : 3 ≤ (digs b).length) (hn : (digs a).length ≤ 100000) :
    ∃ low X Y : Nat, blen a = low + 62 ∧ 0 < low ∧ low ≤ 3200000 ∧ a / 2 ^ low = X ∧ b / 2 ^ low = Y ∧ X < 4611686018427387904 ∧ Y < 4611686018427387904 ∧ Lehm a b X Y 1 0 0 1 X Y ∧
      (a : Int) = X * ((2 ^ low : Nat) : Int) + ((a % 2 ^ low : Nat) : Int) ∧ (b : Int) = Y * ((2 ^ low : Nat) : Int) + ((b % 2 ^ low : Nat) : Int) ∧ a % 2 ^ low < 2 ^ low ∧ b % 2 ^ low < 2 ^ low := by
  have hb := pow_le_of_length (n := b) (k := 2) (by omega)
  have h1 := lt_blen a
  have hl : 64 < blen a := by
    rcases Nat.lt_or_ge 64 (blen a) with h | h
    · exact h
    · have : 2 ^ blen a ≤ 2 ^ 64 := Nat.pow_le_pow_right (by omega) h
      omega
  have hu := blen_words hn
  obtain ⟨low, hlow⟩ : ∃ low, blen a = low + 62 := ⟨blen a - 62, by omega⟩
  have hX : a / 2 ^ low < 4611686018427387904 := by
    rw [Nat.div_lt_iff_lt_mul (Nat.two_pow_pos low)]
    rw [hlow, Nat.add_comm, Nat.pow_add] at h1
    exact h1
  have hY : b / 2 ^ low ≤ a / 2 ^ low := Nat.div_le_div_right hba
  have ea := Nat.div_add_mod a (2 ^ low)
  have eb := Nat.div_add_mod b (2 ^ low)
  have ra := Nat.mod_lt a (Nat.two_pow_pos low)
  have rb := Nat.mod_lt b (Nat.two_pow_pos low)
  obtain ⟨X, hXe⟩ : ∃ X, a / 2 ^ low = X := ⟨_, rfl⟩
  obtain ⟨Y, hYe⟩ : ∃ Y, b / 2 ^ low = Y := ⟨_, rfl⟩
  rw [hXe] at hX hY ea
  rw [hYe] at hY eb
  refine ⟨low, X, Y, hlow, by omega, by omega, hXe, hYe, hX, by omega, Lehm.first (by omega) (by omega) (by omega) (by omega) (by omega) (by omega), ?_, ?_, ra, rb⟩
  · rw [Int.mul_comm, ← Int.natCast_mul, ← Int.natCast_add, ea]
  · rw [Int.mul_comm, ← Int.natCast_mul, ← Int.natCast_add, eb]

/-- What foresee hands back. -/
def Foreseen (a b : Nat) (w : World) (e : Ending) (w' : World) : Prop := ∃ X Y aa ab ba bb x y : Int, e = .returned (.agg #[.int .i64 aa, .int .i64 ab, .int .i64 ba, .int .i64 bb]) ∧ Lehm a b X Y aa ab ba bb x y ∧ Below w.heap.size w w'

/-- What holds at the head of foresee's loop. -/
structure ForeAt (w wr : World) (a b : Nat) (X Y aa ab ba bb x y : Int) : Prop where
  lehm : Lehm a b X Y aa ab ba bb x y
  s : Quad wr (w.heap.size + 1) aa ab ba bb
  r : Quad wr w.heap.size 0 0 0 0
  below : Below w.heap.size w wr

set_option maxRecDepth 100000 in
set_option maxHeartbeats 4000000 in
theorem foresee_any (v1 v2 : Value) (a b : Nat) (w : World) (h1 : Mag w v1 a) (h2 : Mag w v2 b) (hba : b ≤ a) (h3 : 3 ≤ (digs b).length) (hn : (digs a).length ≤ 100000) :
    Calls Tryz.prog 102 #[v1, v2] w fun e w' => Foreseen a b w e w' := by
  obtain ⟨low, X, Y, hlow, hl0, hl1, hX, hY, hXb, hYb, hL, ea, eb, ra, rb⟩ := fore_start hba h3 hn
  have hb0 : Below w.heap.size w (w.alloc (.cells #[.int .i64 0, .int .i64 0, .int .i64 0, .int .i64 0] 129)) := (Below.refl _ _).alloc (Nat.le_refl _) _
  have c0 := length_any v1 a _ (h1.below hb0) (by omega)
  have hnb : (digs b).length ≤ 100000 := Nat.le_trans (length_mono hba) hn
  have c1 := cut_any v1 a low X _ (h1.below hb0) (by omega) (by omega) hX hXb
  have c2 := cut_any v2 b low Y _ (h2.below hb0) (by omega) (by omega) hY hYb
  rw [hlow] at c0
  have C0 := Lib.hid c0
  have C1 := Lib.hid c1
  have C2 := Lib.hid c2
  have E := Lib.hid (And.intro ea (And.intro eb (And.intro ra rb)))
  have HL := Lib.hid hL
  clear c0 c1 c2 hlow hX hY ea eb ra rb hL hb0 h1 h2 h3 hn hnb hba
  obtain ⟨A, hA⟩ : ∃ A : Int, (a : Int) = A := ⟨_, rfl⟩
  go_enter Tryz.func102, Tryz.ntmps102
  go_wp2_with fail
  refine C0.out.mono ?_
  rintro e w1 ⟨rfl, rfl⟩
  have el : ((low + 62 : Nat) : Int) - 62 = low := by omega
  go_wp2_with fail
  refine C1.out.mono ?_
  rintro e w1 ⟨rfl, rfl⟩
  go_wp2_with fail
  refine C2.out.mono ?_
  rintro e w1 ⟨rfl, rfl⟩
  go_wp2
  go_loopw [6, 7, 9] (fun xv yv _ wr => ∃ aa ab ba bb x y : Int, xv = .int .i64 x ∧ yv = .int .i64 y ∧ ForeAt w wr a b X Y aa ab ba bb x y) (fun _ yv _ _ => (intOf yv).toNat)
  case atStart =>
    have q1 := (Quad.new w 0 0 0 0).alloc (.cells #[.int .i64 1, .int .i64 0, .int .i64 0, .int .i64 1] 129)
    have q2 := Quad.new (w.alloc (.cells #[.int .i64 0, .int .i64 0, .int .i64 0, .int .i64 0] 129)) 1 0 0 1
    rw [World.size_alloc] at q2
    exact ⟨1, 0, 0, 1, X, Y, rfl, rfl, HL.out, q2, q1, ((Below.refl _ _).alloc (Nat.le_refl _) _).alloc (by simp) _⟩
  case round =>
    obtain ⟨aa, ab, ba, bb, x, y, rfl, rfl, hs⟩ := hrel
    have sQ := hs.s
    have s0 := sQ.c0
    have s1 := sQ.c1
    have s2 := sQ.c2
    have s3 := sQ.c3
    have bx0 := hs.lehm.x0
    have bx1 := hs.lehm.x1
    have by0 := hs.lehm.y0
    have by1 := hs.lehm.y1
    obtain ⟨a1, a2⟩ := hs.lehm.aa1
    obtain ⟨a3, a4⟩ := hs.lehm.ab1
    obtain ⟨a5, a6⟩ := hs.lehm.ba1
    obtain ⟨a7, a8⟩ := hs.lehm.bb1
    have hxaa := hs.lehm.xaa
    have hxab := hs.lehm.xab
    have hyba := hs.lehm.yba
    have hybb := hs.lehm.ybb
    clear HL C0 C1 C2
    by_cases n1 : y + ba = 0
    · have hq1 : ((y + ba) != 0) = false := by simp [n1]
      clear n1
      have sR := hs.r
      have r0 := sR.c0
      have r1 := sR.c1
      have r2 := sR.c2
      have r3 := sR.c3
      have z0 := sR.fz 0
      have z1 := sR.fz 1
      have z2 := sR.fz 2
      have z3 := sR.fz 3
      obtain ⟨o0, o1, o2, o3⟩ := sR.stores aa ab ba bb
      have HBf := Lib.hid (below_qset hs.below (Nat.le_refl _) aa ab ba bb)
      have HLf := Lib.hid hs.lehm
      clear hs sR
      go_wp2
      exact bodyPost_ret (v := .agg #[.int .i64 aa, .int .i64 ab, .int .i64 ba, .int .i64 bb]) (by simp [results, Tryz.results102, go_sem, o0, o1, o2, o3]) rfl ⟨X, Y, aa, ab, ba, bb, x, y, rfl, HLf.out, HBf.out⟩
    by_cases n2 : y + bb = 0
    · have hq1 : ((y + ba) != 0) = true := bne_iff_ne.2 n1
      have hq2 : ((y + bb) != 0) = false := by simp [n2]
      clear n1 n2
      have sR := hs.r
      have r0 := sR.c0
      have r1 := sR.c1
      have r2 := sR.c2
      have r3 := sR.c3
      have z0 := sR.fz 0
      have z1 := sR.fz 1
      have z2 := sR.fz 2
      have z3 := sR.fz 3
      obtain ⟨o0, o1, o2, o3⟩ := sR.stores aa ab ba bb
      have HBf := Lib.hid (below_qset hs.below (Nat.le_refl _) aa ab ba bb)
      have HLf := Lib.hid hs.lehm
      clear hs sR
      go_wp2
      exact bodyPost_ret (v := .agg #[.int .i64 aa, .int .i64 ab, .int .i64 ba, .int .i64 bb]) (by simp [results, Tryz.results102, go_sem, o0, o1, o2, o3]) rfl ⟨X, Y, aa, ab, ba, bb, x, y, rfl, HLf.out, HBf.out⟩
    have hq1 : ((y + ba) != 0) = true := bne_iff_ne.2 n1
    have hq2 : ((y + bb) != 0) = true := bne_iff_ne.2 n2
    have hp1 : 0 < y + ba := by omega
    have hp2 : 0 < y + bb := by omega
    obtain ⟨t, ht⟩ : ∃ t, (x + aa) / (y + ba) = t := ⟨_, rfl⟩
    obtain ⟨u, hu⟩ : ∃ u, (x + ab) / (y + bb) = u := ⟨_, rfl⟩
    by_cases htu : t = u
    · subst htu
      obtain ⟨hL, g1, g2, g3⟩ := hs.lehm.step E.out.1 E.out.2.1 (by omega) (by have := E.out.2.2.1; omega) (by omega) (by have := E.out.2.2.2; omega) (by omega) (by omega) n1 n2 ht hu
      obtain ⟨e1, e2⟩ := hL.ba1
      obtain ⟨e3, e4⟩ := hL.bb1
      have e5 : 0 ≤ t * y := Int.mul_nonneg g2 by0
      have m1 : -9223372036854775808 ≤ t * ba := by omega
      have m2 : t * ba ≤ 9223372036854775807 := by omega
      have m3 : -9223372036854775808 ≤ t * bb := by omega
      have m4 : t * bb ≤ 9223372036854775807 := by omega
      have hyn := hL.y0
      have z0 := sQ.fz 0
      have z1 := sQ.fz 1
      have z2 := sQ.fz 2
      have z3 := sQ.fz 3
      have hd : (t != t) = false := by simp
      have HNX : Hid (ForeAt w (qset wr (w.heap.size + 1) ba bb (aa - t * ba) (ab - t * bb)) a b X Y ba bb (aa - t * ba) (ab - t * bb) y (x - t * y)) :=
        ⟨hL, sQ.store _ _ _ _, hs.r.far (by omega) _ _ _ _, below_qset hs.below (by omega) _ _ _ _⟩
      have HT := Lib.hid (And.intro g1 (And.intro by0 hyn))
      have ht1 : t < 9223372036854775808 := by have := Int.ediv_le_self (y + ba) hxaa; omega
      have htd : (x + aa).tdiv (y + ba) = t := by rw [Int.tdiv_eq_ediv_of_nonneg hxaa]; exact ht
      have hud : (x + ab).tdiv (y + bb) = t := by rw [Int.tdiv_eq_ediv_of_nonneg hxab]; exact hu
      clear hs sQ hL n1 n2 ht hu hxaa hxab hyba hybb
      go_wp2
      go_roundw
      case rel => exact ⟨ba, bb, _, _, y, _, rfl, rfl, HNX.out⟩
      case measure => have := HT.out; simp only [intOf]; omega
    · have hd : (t != u) = true := bne_iff_ne.2 htu
      clear htu n1 n2
      have sR := hs.r
      have r0 := sR.c0
      have r1 := sR.c1
      have r2 := sR.c2
      have r3 := sR.c3
      have z0 := sR.fz 0
      have z1 := sR.fz 1
      have z2 := sR.fz 2
      have z3 := sR.fz 3
      obtain ⟨o0, o1, o2, o3⟩ := sR.stores aa ab ba bb
      have HBf := Lib.hid (below_qset hs.below (Nat.le_refl _) aa ab ba bb)
      have HLf := Lib.hid hs.lehm
      clear hs sR
      go_wp2
      exact bodyPost_ret (v := .agg #[.int .i64 aa, .int .i64 ab, .int .i64 ba, .int .i64 bb]) (by simp [results, Tryz.results102, go_sem, o0, o1, o2, o3]) rfl ⟨X, Y, aa, ab, ba, bb, x, y, rfl, HLf.out, HBf.out⟩
end Go.Proofs.YtccndofafljaaaaGreatDoor

namespace Go.Proofs.YtccndofafljaaaaGreatDoor
open Go Go.RowKit Num

/-- What closer hands back: numbers with the same divisors, the second one smaller than before. -/
def Closer (a b : Nat) (w : World) (e : Ending) (w' : World) : Prop := ∃ (va vb : Value) (a' b' : Nat), e = .returned (.tuple #[va, vb]) ∧ Mag w' va a' ∧ Mag w' vb b' ∧ Nat.gcd a' b' = Nat.gcd a b ∧ b' < b ∧ b' ≤ a' ∧ a' ≤ a ∧ Below w.heap.size w w'

theorem lehm_ends {a b : Nat} {X Y aa ab ba bb x y : Int} (h : Lehm a b X Y aa ab ba bb x y) (h0 : ab ≠ 0) :
    ∃ R1 R2 : Nat, (R1 : Int) = aa * (a : Int) + ab * (b : Int) ∧ (R2 : Int) = ba * (a : Int) + bb * (b : Int) ∧ Nat.gcd R1 R2 = Nat.gcd a b ∧ R2 < b ∧ R2 ≤ R1 ∧ R1 ≤ a ∧
      (0 ≤ aa ∧ ab ≤ 0 ∨ aa ≤ 0 ∧ 0 ≤ ab) ∧ (0 ≤ ba ∧ bb ≤ 0 ∨ ba ≤ 0 ∧ 0 ≤ bb) := by
  have h1 := h.nonneg
  have h2 := h.le
  have h3 := h.top
  have hg := h.gcd
  obtain ⟨R2, e2⟩ := Int.eq_ofNat_of_zero_le h1
  obtain ⟨R1, e1⟩ := Int.eq_ofNat_of_zero_le (Int.le_trans h1 h2)
  rw [e1, e2] at hg h2
  rw [e1] at h3
  refine ⟨R1, R2, e1.symm, e2.symm, hg, ?_, by omega, by omega, ?_, ?_⟩
  · rcases h.start with h4 | h4
    · exact absurd h4.1 h0
    · omega
  · rcases h.form with h4 | h4 <;> omega
  · rcases h.form with h4 | h4 <;> omega

set_option maxRecDepth 100000 in
set_option maxHeartbeats 4000000 in
theorem closer_any (v1 v2 : Value) (a b : Nat) (w : World) (h1 : Mag w v1 a) (h2 : Mag w v2 b) (hba : b ≤ a) (h3 : 3 ≤ (digs b).length) (hn : (digs a).length ≤ 100000) :
    Calls Tryz.prog 90 #[v1, v2] w fun e w' => Closer a b w e w' := by
  have hnb : (digs b).length ≤ (digs a).length := length_mono hba
  have hb0 : 0 < b := by
    rcases Nat.eq_zero_or_pos b with h | h
    · subst h; rw [digs_zero] at h3; simp at h3
    · exact h
  have H1 := Lib.hid h1
  have H2 := Lib.hid h2
  have HP := Lib.hid (And.intro hnb (And.intro hb0 (And.intro h3 (And.intro hba hn))))
  clear h1 h2 hnb hb0
  go_enter Tryz.func90, Tryz.ntmps90
  go_wp2_with fail
  refine (foresee_any v1 v2 a b _ H1.out H2.out hba h3 hn).mono ?_
  rintro e w1 ⟨X, Y, aa, ab, ba, bb, x, y, rfl, hL, bb1⟩
  clear hba h3 hn
  have q := Quad.new w1 aa ab ba bb
  have hb2 : Below w.heap.size w (w1.alloc (.cells #[.int .i64 aa, .int .i64 ab, .int .i64 ba, .int .i64 bb] 129)) := bb1.alloc bb1.size _
  have H1' := Lib.hid (Mag.below H1.out hb2)
  have H2' := Lib.hid (Mag.below H2.out hb2)
  have HB := Lib.hid hb2
  have HL := Lib.hid hL
  have c0 := q.c0
  have c1 := q.c1
  have c2 := q.c2
  have c3 := q.c3
  have HQ := Lib.hid q
  clear hL hb2 bb1 q H1 H2
  by_cases hz : ab = 0
  · have hd : (ab == 0) = true := beq_iff_eq.2 hz
    clear hz
    go_wp2_with fail
    refine (divide_any _ _ a b _ H1'.out H2'.out HP.out.2.1 HP.out.2.2.2.2 (by have := HP.out; omega)).mono ?_
    rintro e w2 ⟨vq, vr, rfl, hq, hr, b2⟩
    have H2'' := Lib.hid (Mag.below H2'.out b2)
    have HB2 := Lib.hid (nextw HB.out b2)
    have HR := Lib.hid hr
    clear hq hr b2 c0 c1 c2 c3 HQ
    go_wp2
    go_returns
    exact ⟨v2, vr, b, a % b, rfl, H2''.out, HR.out, by rw [Nat.gcd_comm, ← Nat.gcd_rec, Nat.gcd_comm], Nat.mod_lt _ HP.out.2.1, Nat.le_of_lt (Nat.mod_lt _ HP.out.2.1), HP.out.2.2.2.1, HB2.out⟩
  · have hd : (ab == 0) = false := beq_eq_false_iff_ne.2 hz
    obtain ⟨R1, R2, e1, e2, hg, r1, r2, r3, s1, s2⟩ := lehm_ends HL.out hz
    have HE := Lib.hid (And.intro e1 (And.intro e2 (And.intro hg (And.intro r1 (And.intro r2 (And.intro r3 (And.intro s1 s2)))))))
    clear hz e1 e2 hg r1 r2 r3 s1 s2
    go_wp2
    generalize w1.alloc (.cells #[.int .i64 aa, .int .i64 ab, .int .i64 ba, .int .i64 bb] 129) = W0 at *
    have tk0 : True := trivial
    first | (go_region_held3 (fun w' => w'.cell? ⟨w1.heap.size, 0, none⟩ = some (.int .i64 aa) ∧ w'.cell? ⟨w1.heap.size, 1, none⟩ = some (.int .i64 ab) ∧ w'.cell? ⟨w1.heap.size, 2, none⟩ = some (.int .i64 ba) ∧ w'.cell? ⟨w1.heap.size, 3, none⟩ = some (.int .i64 bb)) (((try dsimp only); (repeat' apply And.intro) <;> (first | assumption | go_keep)))
      (first
        | (have _t := tk0; clear _t tk0; go_at_call 103; refine (mix_any aa ab v1 v2 (digs a) (digs b) _ (U32.below H1'.out (by exact ⟨rfl, rfl, rfl, Nat.le_refl _, fun _ _ => rfl⟩)) (U32.below H2'.out (by exact ⟨rfl, rfl, rfl, Nat.le_refl _, fun _ _ => rfl⟩)) HL.out.aa1 HL.out.ab1 HE.out.2.2.2.2.2.2.1 (by have := HP.out; omega) HP.out.1 R1 (by rw [val_digs, val_digs]; exact HE.out.1) (by rw [val_digs]; exact HE.out.2.2.2.2.2.1)).mono ?_; rintro e w3 ⟨v3, rfl, m3, b3⟩; replace b3 := nextw (w0 := W0) (by exact ⟨rfl, rfl, rfl, Nat.le_refl _, fun _ _ => rfl⟩) b3; replace H1' := Lib.hid (Mag.below H1'.out b3); replace H2' := Lib.hid (Mag.below H2'.out b3); replace HB := Lib.hid (nextw HB.out b3); replace HQ := Lib.hid (Quad.below HQ.out b3 HQ.out.lt); have c0 := HQ.out.c0; have c1 := HQ.out.c1; have c2 := HQ.out.c2; have c3 := HQ.out.c3; have HM := Lib.hid m3; clear m3 b3; have tk1 : True := trivial)
        | (have _t := tk1; clear _t tk1; go_at_call 103; refine (mix_any ba bb v1 v2 (digs a) (digs b) _ (U32.below H1'.out (by exact ⟨rfl, rfl, rfl, Nat.le_refl _, fun _ _ => rfl⟩)) (U32.below H2'.out (by exact ⟨rfl, rfl, rfl, Nat.le_refl _, fun _ _ => rfl⟩)) HL.out.ba1 HL.out.bb1 HE.out.2.2.2.2.2.2.2 (by have := HP.out; omega) HP.out.1 R2 (by rw [val_digs, val_digs]; exact HE.out.2.1) (by rw [val_digs]; have := HE.out; omega)).mono ?_; rintro e w4 ⟨v4, rfl, m4, b4⟩; replace b4 := nextw (w0 := w3) (by exact ⟨rfl, rfl, rfl, Nat.le_refl _, fun _ _ => rfl⟩) b4; replace HB := Lib.hid (nextw HB.out b4); replace HQ := Lib.hid (Quad.below HQ.out b4 HQ.out.lt); have c0 := HQ.out.c0; have c1 := HQ.out.c1; have c2 := HQ.out.c2; have c3 := HQ.out.c3; replace HM := Lib.hid (Mag.below HM.out b4); have HM2 := Lib.hid m4; clear m4 b4))) | fail
    clear c0 c1 c2 c3
    go_wp2
    go_returns
    exact ⟨v3, v4, R1, R2, rfl, Mag.below HM.out (by exact ⟨rfl, rfl, rfl, Nat.le_refl _, fun _ _ => rfl⟩), Mag.below HM2.out (by exact ⟨rfl, rfl, rfl, Nat.le_refl _, fun _ _ => rfl⟩), HE.out.2.2.1, HE.out.2.2.2.1, HE.out.2.2.2.2.1, HE.out.2.2.2.2.2.1, nextw HB.out (by exact ⟨rfl, rfl, rfl, Nat.le_refl _, fun _ _ => rfl⟩)⟩
end Go.Proofs.YtccndofafljaaaaGreatDoor
