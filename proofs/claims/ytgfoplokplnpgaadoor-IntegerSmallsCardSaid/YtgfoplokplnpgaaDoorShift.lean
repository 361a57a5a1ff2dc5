/- integer.raise, integer.lower -/
import Derived.Test.YtgfoplokplnpgaaDoorMul
namespace Go.Proofs.YtgfoplokplnpgaaDoor
open Go Go.RowKit Num

/-- WHAT HOLDS AT THE HEAD OF raise's LOOP. -/
structure RaiseAt (w wr : World) (l : List Nat) (q r i c : Nat) (L : List Nat) : Prop where
  own : Own wr w.heap.size L
  len : L.length = l.length + q + 1
  lt : ∀ x ∈ L, x < 4294967296
  zero : ∀ t, i + q ≤ t → L.getD t 0 = 0
  carry : c < 2 ^ r
  eq : val L + 4294967296 ^ (i + q) * c = 4294967296 ^ q * (2 ^ r * val (l.take i))
  below : Below w.heap.size w wr

theorem val_replicate (n : Nat) : val (List.replicate n 0) = 0 := by
  induction n with
  | zero => rfl
  | succ n ih => rw [List.replicate_succ, val, ih]
theorem getD_replicate (n t : Nat) : (List.replicate n 0).getD t 0 = 0 := by
  simp only [List.getD_eq_getElem?_getD, List.getElem?_replicate]
  split <;> rfl

theorem RaiseAt.start (w : World) (l : List Nat) (q r : Nat) : RaiseAt w (w.alloc (.cells (ws (List.replicate (l.length + q + 1) 0)).toArray 46)) l q r 0 0 (List.replicate (l.length + q + 1) 0) :=
  ⟨Own.new w _, by simp, by intro x hx; rw [List.mem_replicate] at hx; omega, fun t _ => getD_replicate _ _, Nat.pow_pos (by omega), by rw [val_replicate]; simp [val], (Below.refl _ _).alloc (Nat.le_refl _) _⟩

theorem RaiseAt.step {w wr : World} {l : List Nat} {q r i c : Nat} {L : List Nat} (h : RaiseAt w wr l q r i c L) (hi : i < l.length + 1) (h1 : ∀ x ∈ l, x < 4294967296) :
    RaiseAt w (wr.setCell ⟨w.heap.size, i + q, none⟩ (.int .u32 (((c + l.getD i 0 * 2 ^ r) % 4294967296 : Nat) : Int))) l q r (i + 1) ((c + l.getD i 0 * 2 ^ r) / 4294967296) (L.set (i + q) ((c + l.getD i 0 * 2 ^ r) % 4294967296)) := by
  have hx := getD_lt h1 i
  have hlen := h.len
  have hc := h.carry
  have hs := val_set L (i + q) ((c + l.getD i 0 * 2 ^ r) % 4294967296) (by omega)
  rw [h.zero _ (Nat.le_refl _), Nat.mul_zero, Nat.add_zero] at hs
  have he := h.eq
  refine ⟨h.own.set _ _, by rw [List.length_set, h.len], mem_set_lt h.lt (by omega), fun t ht => by rw [getD_set_ne L (by omega)]; exact h.zero t (by omega), ?_, ?_, h.below.setCell (Nat.le_refl _) _⟩
  · rw [Nat.div_lt_iff_lt_mul (by omega)]
    have : (l.getD i 0 + 1) * 2 ^ r ≤ 4294967296 * 2 ^ r := Nat.mul_le_mul_right _ hx
    rw [Nat.add_mul, Nat.one_mul] at this
    rw [Nat.mul_comm (2 ^ r)]; omega
  · rw [val_take_succ, show i + 1 + q = (i + q) + 1 from by omega, Nat.pow_succ, hs, Nat.add_assoc, carry_join', Nat.mul_add, Nat.mul_add, Nat.mul_add]
    have e1 : 4294967296 ^ q * (2 ^ r * (4294967296 ^ i * l.getD i 0)) = 4294967296 ^ (i + q) * (l.getD i 0 * 2 ^ r) := by
      rw [Nat.pow_add, Nat.mul_left_comm (2 ^ r), Nat.mul_comm (2 ^ r), ← Nat.mul_assoc, Nat.mul_comm (4294967296 ^ q)]
    rw [e1]
    omega

theorem digs_take {l : List Nat} (h : ∀ x ∈ l, x < 4294967296) : digs (val l) = l.take (digs (val l)).length := by
  induction l with
  | nil => simp [val, digs_zero]
  | cons x xs ih =>
    have hx := h x (List.mem_cons_self ..)
    have ih' := ih (fun y hy => h y (List.mem_cons_of_mem _ hy))
    by_cases h0 : x + 4294967296 * val xs = 0
    · rw [val, h0, digs_zero]; rfl
    · rw [digs_val_cons hx h0, List.length_cons, List.take_succ_cons, ← ih']

theorem row_of_own {w : World} {g base : Nat} {L : List Nat} (h : Own w g L) (hb : base ≤ g) {k : Nat} (hk : k ≤ L.length) (hm : L.length ≤ maxLen) :
    w.ownsRow base 46 1 (.slice (some ⟨g, 0, none⟩) k L.length) k (ws (L.take k)) := by
  refine ⟨by rw [ws_length, List.length_take]; omega, .inr ⟨g, L.length, (ws L).toArray, rfl, hb, h, hk, hm, by rw [List.size_toArray, ws_length]; omega, ?_⟩⟩
  rw [Nat.mul_one]
  simp [ws, List.map_take]

theorem RaiseAt.done {w wr : World} {l : List Nat} {n c : Nat} {L : List Nat} (h : RaiseAt w wr l (n / 32) (n % 32) l.length c L) (hr : n % 32 < 32) (h1 : ∀ x ∈ l, x < 4294967296) (hn : l.length ≤ 500000) (hn2 : n ≤ 1000000) :
    U32 (wr.setCell ⟨w.heap.size, l.length + n / 32, none⟩ (.int .u32 (c : Int))) (.slice (some ⟨w.heap.size, 0, none⟩) (l.length + n / 32 + 1) (l.length + n / 32 + 1)) (L.set (l.length + n / 32) c) ∧
    val (L.set (l.length + n / 32) c) = val l * 2 ^ n ∧ Below w.heap.size w (wr.setCell ⟨w.heap.size, l.length + n / 32, none⟩ (.int .u32 (c : Int))) ∧
    (wr.setCell ⟨w.heap.size, l.length + n / 32, none⟩ (.int .u32 (c : Int))).ownsRow w.heap.size 46 1 (.slice (some ⟨w.heap.size, 0, none⟩) (digs (val l * 2 ^ n)).length (l.length + n / 32 + 1)) (digs (val l * 2 ^ n)).length (ws (digs (val l * 2 ^ n))) := by
  have hc := h.carry
  have h2 : 2 ^ (n % 32) ≤ 2 ^ 31 := Nat.pow_le_pow_right (by omega) (by omega)
  have hlen := h.len
  have ho := (h.own.set (l.length + n / 32) c).u32 (mem_set_lt h.lt (by omega)) (by rw [List.length_set, hlen]; simp only [maxLen]; omega)
  rw [List.length_set, hlen] at ho
  have hval : val (L.set (l.length + n / 32) c) = val l * 2 ^ n := by
    have hs := val_set L (l.length + n / 32) c (by omega)
    rw [h.zero _ (Nat.le_refl _), Nat.mul_zero, Nat.add_zero] at hs
    have he := h.eq
    rw [List.take_length] at he
    rw [hs, he, show 4294967296 ^ (n / 32) = 2 ^ (32 * (n / 32)) from by rw [Nat.pow_mul], ← Nat.mul_assoc, ← Nat.pow_add, Nat.mul_comm, Nat.div_add_mod]
  refine ⟨ho, hval, h.below.setCell (Nat.le_refl _) _, ?_⟩
  have hd := digs_take (mem_set_lt h.lt (by omega : c < 4294967296) (p := l.length + n / 32))
  rw [hval] at hd
  have hr := row_of_own (h.own.set (l.length + n / 32) c) (Nat.le_refl _) (k := (digs (val l * 2 ^ n)).length) (by rw [hd, List.length_take]; omega) (by rw [List.length_set, hlen]; simp only [maxLen]; omega)
  rw [← hd, List.length_set, hlen] at hr
  exact hr

theorem shl_bound {x r : Nat} (hx : x < 4294967296) (hr : r < 32) : x * 2 ^ r + 2 ^ r ≤ 4294967296 * 2147483648 ∧ 2 ^ r ≤ 2147483648 := by
  have h1 : 2 ^ r ≤ 2 ^ 31 := Nat.pow_le_pow_right (by omega) (by omega)
  have h2 : (x + 1) * 2 ^ r ≤ 4294967296 * 2 ^ 31 := Nat.mul_le_mul (by omega) h1
  rw [Nat.add_mul, Nat.one_mul] at h2
  omega
theorem or_shl {c x r : Nat} (hc : c < 2 ^ r) (hx : x < 4294967296) (hr : r < 32) : bits .or .u64 (c : Int) (IntKind.u64.wrap ((x : Int) * 2 ^ r)) = ((c + x * 2 ^ r : Nat) : Int) := by
  obtain ⟨h1, h2⟩ := shl_bound hx hr
  have e0 : ((x : Int) * 2 ^ r) = ((x * 2 ^ r : Nat) : Int) := by rw [Int.natCast_mul, Int.natCast_pow]; rfl
  rw [e0, IntWalk.u64_in _ (by omega)]
  have e := u64_or_nat c (x * 2 ^ r) (by omega) (by omega)
  rw [Nat.or_comm, nat_join r (x * 2 ^ r) c (Nat.mul_mod_left _ _) hc] at e
  rw [e, Nat.add_comm]

set_option maxHeartbeats 2000000 in
theorem raise_any (v : Value) (l : List Nat) (n : Nat) (w : World) (h : U32 w v l) (hn : l.length ≤ 500000) (hn2 : n ≤ 1000000) :
    Calls Tryd.prog 73 #[v, .int .i64 n] w fun e w' => ∃ v', e = .returned v' ∧ Mag w' v' (val l * 2 ^ n) ∧ w'.ownsRow w.heap.size 46 1 v' (digs (val l * 2 ^ n)).length (ws (digs (val l * 2 ^ n))) ∧ Below w.heap.size w w' := by
  obtain ⟨A1, cap1, rfl, hc1, hm1, hf1⟩ := id h.form
  have hmk := make_u32 (x := (l.length : Int) + (n : Int) / 32 + 1) (l.length + n / 32 + 1) (by omega) (by omega)
  go_enter Tryd.func73, Tryd.ntmps73
  go_wp2
  go_loopw [8, 9, 10, 23] (fun cy _ _ i wr => ∃ (k c : Nat) (L : List Nat), k ≤ l.length ∧ cy = .int .u64 c ∧ i = .int .i64 k ∧ RaiseAt w wr l (n / 32) (n % 32) k c L) (fun _ _ _ i _ => l.length - (intOf i).toNat)
  case atStart => exact ⟨0, 0, _, Nat.zero_le _, rfl, rfl, RaiseAt.start w l _ _⟩
  case round =>
    obtain ⟨k, c, L, hk, rfl, rfl, hs⟩ := hrel
    clear hmk
    have hlen := hs.len
    have hcy := hs.carry
    by_cases hk1 : k < l.length
    · obtain ⟨b1, o1, rfl, hb1, hcell1⟩ := hf1 (by intro h; rw [h] at hk1; simp at hk1)
      have hc0 := hs.own.cell (i := k + n / 32) (by omega)
      have hfz := hs.own.frozen (k + n / 32)
      have hst := hs.step (by omega) h.lt
      have hx := (hs.below.cell (p := ⟨b1, o1 + k, none⟩) hb1).trans (hcell1 k hk1)
      have a1 := getD_lt h.lt k
      have HS := Lib.hid hst
      have hor := or_shl hcy a1 (Nat.mod_lt n (by omega))
      have hbd := shl_bound a1 (Nat.mod_lt n (by omega : 32 > 0))
      have hsb : c + l.getD k 0 * 2 ^ (n % 32) < 18446744073709551616 := by omega
      clear hs hst hf1 hcell1 hbd hcy
      generalize l.getD k 0 = x at *
      generalize c + x * 2 ^ (n % 32) = s at *
      go_wp2
      go_roundw
      case rel => exact ⟨k + 1, s / 4294967296, _, by omega, by go_num, by go_num, HS.out⟩
      case measure => simp only [intOf]; omega
    · obtain rfl : k = l.length := by omega
      have hc0 := hs.own.cell (i := l.length + n / 32) (by omega)
      have hfz := hs.own.frozen (l.length + n / 32)
      have hcb := (shl_bound (x := 0) (by omega) (Nat.mod_lt n (by omega : 32 > 0))).2
      have hst := hs.done (Nat.mod_lt n (by omega : 32 > 0)) h.lt hn hn2
      have HS := Lib.hid hst
      have hc31 : c < 2147483648 := by omega
      clear hs hst hf1 hlen hcb hcy
      go_wp2_with fail
      refine (trim_any _ _ _ HS.out.1).mono ?_
      rintro e w' ⟨v', rfl, rfl, hm, hfr⟩
      have hm1 := hm _ HS.out.1
      have hv := hfr _ _ _ rfl
      rw [HS.out.2.1] at hm1 hv
      have hrow := HS.out.2.2.2
      rw [← hv] at hrow
      have HR := Lib.hid hrow
      have HV := Lib.hid hv
      clear hm hfr hv hrow
      go_wp2
      go_ret
      exact ⟨_, rfl, hm1, HR.out, HS.out.2.2.1⟩
end Go.Proofs.YtgfoplokplnpgaaDoor
