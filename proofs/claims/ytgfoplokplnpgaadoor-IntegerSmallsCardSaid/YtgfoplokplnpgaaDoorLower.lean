/- integer.lower -/
import Derived.Test.YtgfoplokplnpgaaDoorShift
import Derived.Test.YtgfoplokplnpgaaDoorClone
import Derived.Test.YtgfoplokplnpgaaDoorCmp
namespace Go.Proofs.YtgfoplokplnpgaaDoor
open Go Go.RowKit Num

theorem low_word {V x r : Nat} (hx : x < 4294967296) (hr : r ≤ 32) : (V % 4294967296 * 4294967296 + x) / 2 ^ r % 4294967296 = (x + 4294967296 * V) / 2 ^ r % 4294967296 := by
  have e : V % 4294967296 * 4294967296 + x = (x + 4294967296 * V) % (4294967296 * 4294967296) := by omega
  rw [e, ← Nat.mod_mul_right_div_self, ← Nat.mod_mul_right_div_self, Nat.mod_mod_of_dvd]
  refine ⟨2 ^ (32 - r), ?_⟩
  have : 2 ^ r * 2 ^ (32 - r) = 4294967296 := by rw [← Nat.pow_add, show r + (32 - r) = 32 from by omega]
  rw [Nat.mul_right_comm, this]
theorem low_high (V x r : Nat) (hx : x < 4294967296) : (x + 4294967296 * V) / 2 ^ r / 4294967296 = V / 2 ^ r := by
  rw [Nat.div_div_eq_div_mul, Nat.mul_comm (2 ^ r), ← Nat.div_div_eq_div_mul, show (x + 4294967296 * V) / 4294967296 = V from by omega]

/-- WHAT HOLDS AT THE HEAD OF lower's LOOP. -/
structure LowerAt (w wr : World) (l : List Nat) (q r k c : Nat) (L : List Nat) : Prop where
  own : Own wr w.heap.size L
  len : L.length + q = l.length
  lt : ∀ x ∈ L, x < 4294967296
  low : c % 4294967296 = val (l.drop (k + q)) % 4294967296
  eq : val (L.drop k) = val (l.drop (k + q)) / 2 ^ r
  below : Below w.heap.size w wr

theorem LowerAt.start (w : World) (l : List Nat) (q r : Nat) (hq : q < l.length) :
    LowerAt w (w.alloc (.cells (ws (List.replicate (l.length - q) 0)).toArray 46)) l q r (l.length - q) 0 (List.replicate (l.length - q) 0) := by
  have hd : l.drop (l.length - q + q) = [] := List.drop_eq_nil_of_le (by omega)
  exact ⟨Own.new w _, by simp; omega, by intro x hx; rw [List.mem_replicate] at hx; omega, by rw [hd]; rfl, by rw [hd, List.drop_eq_nil_of_le (by simp)]; simp [val], (Below.refl _ _).alloc (Nat.le_refl _) _⟩

theorem LowerAt.step {w wr : World} {l : List Nat} {q r k c : Nat} {L : List Nat} (h : LowerAt w wr l q r (k + 1) c L) (hk : k < L.length) (h1 : ∀ x ∈ l, x < 4294967296) (hr : r < 32) :
    LowerAt w (wr.setCell ⟨w.heap.size, k, none⟩ (.int .u32 (((c % 4294967296 * 4294967296 + l.getD (k + q) 0) / 2 ^ r % 4294967296 : Nat) : Int))) l q r k (c % 4294967296 * 4294967296 + l.getD (k + q) 0)
      (L.set k ((c % 4294967296 * 4294967296 + l.getD (k + q) 0) / 2 ^ r % 4294967296)) := by
  have hx := getD_lt h1 (k + q)
  have hlen := h.len
  have hl := h.low
  have he := h.eq
  rw [show k + 1 + q = (k + q) + 1 from by omega] at hl he
  have hv := val_drop (l := l) (k := k + q) (by omega)
  refine ⟨h.own.set _ _, by rw [List.length_set]; exact h.len, mem_set_lt h.lt (by omega), by rw [hv]; omega, ?_, h.below.setCell (Nat.le_refl _) _⟩
  rw [val_drop (by rw [List.length_set]; exact hk), hv, List.drop_set_of_lt (by omega), he, hl, low_word hx (by omega)]
  have e : (L.set k ((l.getD (k + q) 0 + 4294967296 * val (l.drop (k + q + 1))) / 2 ^ r % 4294967296)).getD k 0 = (l.getD (k + q) 0 + 4294967296 * val (l.drop (k + q + 1))) / 2 ^ r % 4294967296 := by
    simp [List.getD_eq_getElem?_getD, hk]
  rw [e]
  have h2 := low_high (val (l.drop (k + q + 1))) (l.getD (k + q) 0) r hx
  omega

theorem or_shl32 (c x : Nat) (hx : x < 4294967296) (hc : c < 18446744073709551616) : bits .or .u64 (IntKind.u64.wrap ((c : Int) * 4294967296)) (x : Int) = ((c % 4294967296 * 4294967296 + x : Nat) : Int) := by
  have e0 : IntKind.u64.wrap ((c : Int) * 4294967296) = (((c % 4294967296 : Nat) : Int) * 4294967296) := by
    simp only [IntKind.wrap, IntKind.bits, IntKind.signed]; simp; omega
  rw [e0]
  exact or_join64' (c % 4294967296) x (by omega) hx

theorem val_drop_div {l : List Nat} (h1 : ∀ x ∈ l, x < 4294967296) (q : Nat) : val (l.drop q) = val l / 4294967296 ^ q := by
  rcases Nat.lt_or_ge q l.length with h | h
  · have hs := val_append (l.take q) (l.drop q)
    rw [List.take_append_drop] at hs
    have hq : (l.take q).length = q := by simp; omega
    have hlt := take_val_lt h1 (k := q) (by omega)
    rw [hq] at hs
    rw [hs, Nat.add_comm, Nat.mul_add_div (Nat.pow_pos (by omega)), Nat.div_eq_of_lt hlt, Nat.add_zero]
  · rw [List.drop_eq_nil_of_le h, Nat.div_eq_of_lt (Nat.lt_of_lt_of_le (val_lt h1) (Nat.pow_le_pow_right (by omega) h))]
    rfl

set_option maxHeartbeats 2000000 in
theorem lower_any (v : Value) (l : List Nat) (n : Nat) (w : World) (h : U32 w v l) (hn : l.length ≤ 500000) (hn2 : n ≤ 1000000000) :
    Calls Tryd.prog 74 #[v, .int .i64 n] w fun e w' => ∃ v', e = .returned v' ∧ Mag w' v' (val l / 2 ^ n) ∧ Below w.heap.size w w' := by
  obtain ⟨A1, cap1, rfl, hc1, hm1, hf1⟩ := id h.form
  have hfin : val (l.drop (n / 32)) / 2 ^ (n % 32) = val l / 2 ^ n := by
    rw [val_drop_div h.lt, Nat.div_div_eq_div_mul, show 4294967296 ^ (n / 32) = 2 ^ (32 * (n / 32)) from by rw [Nat.pow_mul], ← Nat.pow_add, Nat.div_add_mod]
  have HF := Lib.hid hfin
  clear hfin
  by_cases hq : n / 32 < l.length
  · have hmk := make_u32 (x := (l.length : Int) - (n : Int) / 32) (l.length - n / 32) (by omega) (by omega)
    go_enter Tryd.func74, Tryd.ntmps74
    go_wp2
    go_loopw [8, 9] (fun cy i wr => ∃ (k c : Nat) (L : List Nat), k ≤ l.length - n / 32 ∧ cy = .int .u64 c ∧ c < 18446744073709551616 ∧ i = .int .i64 ((k : Int) - 1) ∧ LowerAt w wr l (n / 32) (n % 32) k c L) (fun _ i _ => (intOf i + 1).toNat)
    case atStart => exact ⟨l.length - n / 32, 0, _, by omega, rfl, by omega, by go_num, LowerAt.start w l _ _ hq⟩
    case round =>
      obtain ⟨k, c, L, hk, rfl, hc64, rfl, hs⟩ := hrel
      clear hmk
      have hlen := hs.len
      have hL : L.length = l.length - n / 32 := by omega
      rcases k with _ | k
      · have hU := hs.own.u32 hs.lt (by simp only [maxLen]; omega)
        rw [hL] at hU
        have hv := hs.eq
        rw [List.drop_zero, Nat.zero_add, HF.out] at hv
        have hb := hs.below
        have HV := Lib.hid hv
        clear hf1 hs hv hlen hL
        go_wp2_with fail
        refine (trim_any _ _ _ hU).mono ?_
        rintro e w' ⟨v', rfl, rfl, hm, -⟩
        have hm1 := hm _ hU
        rw [HV.out] at hm1
        go_wp2
        go_ret
        exact ⟨_, rfl, hm1, hb⟩
      · obtain ⟨b1, o1, rfl, hb1, hcell1⟩ := hf1 (by intro h; rw [h, List.length_nil] at hlen; omega)
        have hx := (hs.below.cell (p := ⟨b1, o1 + (k + n / 32), none⟩) hb1).trans (hcell1 (k + n / 32) (by omega))
        have hc0 := hs.own.cell (i := k) (by omega)
        have hfz := hs.own.frozen k
        have a1 := getD_lt h.lt (k + n / 32)
        have HS := Lib.hid (hs.step (by omega) h.lt (Nat.mod_lt n (by omega)))
        have hor := or_shl32 c _ a1 hc64
        have hsb : c % 4294967296 * 4294967296 + l.getD (k + n / 32) 0 < 18446744073709551616 := by omega
        have e1 : (((k + 1 : Nat) : Int) - 1) = (k : Int) := by omega
        rw [e1]
        have HL := Lib.hid hL
        have hk' : k < l.length - n / 32 := by omega
        clear hs hf1 hcell1 e1 hL hlen
        generalize l.getD (k + n / 32) 0 = x at *
        generalize c % 4294967296 * 4294967296 + x = s at *
        have HE : Hid (((s / 2 ^ (n % 32) % 4294967296 : Nat) : Int) = (s : Int) / 2 ^ (n % 32) % 4294967296) := by
          unfold Hid; rw [Int.natCast_emod, Int.natCast_ediv, Int.natCast_pow]; rfl
        go_wp2
        go_roundw
        case rel => exact ⟨k, s, _, by omega, rfl, hsb, rfl, by have := HS.out; rw [HE.out] at this; exact this⟩
        case measure => simp only [intOf]; omega
  · have hz : val l / 2 ^ n = 0 := by
      rw [← HF.out, List.drop_eq_nil_of_le (by omega)]; simp [val]
    rw [hz]
    clear HF hz hf1
    go_enter Tryd.func74, Tryd.ntmps74
    go_wp2
    go_ret
    exact ⟨_, rfl, by unfold Mag; rw [digs_zero]; exact U32.nil none (Nat.zero_le _), Below.refl _ _⟩
end Go.Proofs.YtgfoplokplnpgaaDoor
