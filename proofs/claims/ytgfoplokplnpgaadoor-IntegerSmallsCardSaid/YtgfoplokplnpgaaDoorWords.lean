/- integer.words, signed, number, length; cmp.Compare -/
import Derived.Test.YtgfoplokplnpgaaDoorTrim
namespace Go.Proofs.YtgfoplokplnpgaaDoor
open Go Go.RowKit Num

theorem U32.lit (w : World) (l : List Nat) (cs : Array Value) (T : TypeId) (hlt : ∀ x ∈ l, x < 4294967296) (hm : l.length ≤ maxLen) (hcs : cs.toList = ws l) :
    U32 (w.alloc (.cells cs T)) (.slice (some ⟨w.heap.size, 0, none⟩) l.length l.length) l := by
  refine ⟨hlt, some ⟨w.heap.size, 0, none⟩, l.length, rfl, Nat.le_refl _, hm, fun _ => ⟨w.heap.size, 0, rfl, by simp, fun i hi => ?_⟩⟩
  rw [cell_of_row (w.alloc (.cells cs T)) w.heap.size (0 + i) cs T (0, 0) (heap_alloc_new w _), Nat.zero_add, ← Array.getElem?_toList, hcs, ws_getElem?]
  simp [hi]

set_option maxHeartbeats 400000 in
theorem words_any (n : Nat) (hn : n < 18446744073709551616) (w : World) :
    Calls Tryd.prog 39 #[.int .u64 n] w fun e w' => ∃ v', e = .returned v' ∧ Mag w' v' n ∧ Below w.heap.size w w' := by
  have hv : val [n % 4294967296, n / 4294967296] = n := by simp only [val]; omega
  have hU : U32 (w.alloc (.cells #[.int .u32 (n % 4294967296 : Nat), .int .u32 (n / 4294967296 : Nat)] 46)) (.slice (some ⟨w.heap.size, 0, none⟩) 2 2) [n % 4294967296, n / 4294967296] :=
    U32.lit w [n % 4294967296, n / 4294967296] _ _ (by intro x hx; simp at hx; omega) (by simp [maxLen]) (by simp [ws])
  have HV := Lib.hid hv
  clear hv
  go_enter Tryd.func39, Tryd.ntmps39
  go_wp2_with fail
  refine (trim_any _ _ _ hU).mono ?_
  rintro e w' ⟨v', rfl, rfl, hm, -⟩
  have hm1 := hm _ hU
  rw [HV.out] at hm1
  clear hm
  go_wp2
  go_ret
  exact ⟨_, rfl, hm1, (Below.refl _ _).alloc (Nat.le_refl _) _⟩

set_option maxHeartbeats 400000 in
theorem signed_any (s : Bool) (v : Value) (l : List Nat) (w : World) (h : U32 w v l) :
    Calls Tryd.prog 41 #[.bool s, v] w fun e w' => ∃ v', e = .returned (.agg #[.bool (s && decide (val l ≠ 0)), v']) ∧ Mag w' v' (val l) ∧ Below w.heap.size w w' := by
  have hU := h.below ((Below.refl _ _).alloc (Nat.le_refl _) (Obj.cells #[Value.bool false, Value.slice none 0 0] 24))
  go_enter Tryd.func41, Tryd.ntmps41
  go_wp2_with fail
  refine (trim_any _ _ _ hU).mono ?_
  rintro e w' ⟨v', rfl, rfl, hm, -⟩
  have hm' := hm w h
  clear hm
  obtain ⟨A, cap, rfl, h1, h2, -⟩ := id hm'.form
  rcases Nat.eq_zero_or_pos (digs (val l)).length with h0 | h0
  · have hz : digs (val l) = [] := List.eq_nil_of_length_eq_zero h0
    have hz' := digs_eq_nil.1 hz
    rw [hz', digs_zero]
    have HZ := Lib.hid hz'
    clear h0 hz hz' h1 hm'
    simp only [List.length_nil]
    go_wp2
    go_returns
    exact ⟨.slice none 0 0, by simp [HZ.out], by unfold Mag; rw [HZ.out, digs_zero]; exact U32.nil none (Nat.zero_le _), by go_grown⟩
  · have h0' : val l ≠ 0 := by
      intro h; rw [h, digs_zero] at h0; simp at h0
    go_wp2
    go_returns
    exact ⟨_, by simp [h0'], hm'.below (by go_grown), by go_grown⟩

/-- -1, 0 or 1, as a is less than, equal to or greater than b. -/
def cmpI (a b : Int) : Int := if a < b then -1 else if b < a then 1 else 0

theorem cmp_int (a b : Int) (w : World) :
    Calls Tryd.prog 67 #[.int .i64 a, .int .i64 b] w fun e w' => e = .returned (.int .i64 (cmpI a b)) ∧ w' = w := by
  unfold cmpI
  by_cases h1 : a < b
  · go_enter Tryd.func67, Tryd.ntmps67
    go_wp2
    go_ret
    exact ⟨by simp [h1], rfl⟩
  · by_cases h2 : b < a
    · go_enter Tryd.func67, Tryd.ntmps67
      go_wp2
      go_ret
      exact ⟨by simp [h1, h2], rfl⟩
    · go_enter Tryd.func67, Tryd.ntmps67
      go_wp2
      go_ret
      exact ⟨by simp [h1, h2], rfl⟩

theorem cmp_u32 (a b : Int) (w : World) :
    Calls Tryd.prog 68 #[.int .u32 a, .int .u32 b] w fun e w' => e = .returned (.int .i64 (cmpI a b)) ∧ w' = w := by
  unfold cmpI
  by_cases h1 : a < b
  · go_enter Tryd.func68, Tryd.ntmps68
    go_wp2
    go_ret
    exact ⟨by simp [h1], rfl⟩
  · by_cases h2 : b < a
    · go_enter Tryd.func68, Tryd.ntmps68
      go_wp2
      go_ret
      exact ⟨by simp [h1, h2], rfl⟩
    · go_enter Tryd.func68, Tryd.ntmps68
      go_wp2
      go_ret
      exact ⟨by simp [h1, h2], rfl⟩

theorem ret_int {k : IntKind} {a b : Int} (h : a = b) : Ending.returned (.int k a) = .returned (.int k b) := by rw [h]
theorem or_zero64 (n : Nat) (hn : n < 18446744073709551616) : bits .or .u64 0 (n : Int) = n := by
  have := u64_or_nat 0 n (by omega) hn
  simpa using this
theorem or_zero64' (n : Int) (h0 : 0 ≤ n) (hn : n < 18446744073709551616) : bits .or .u64 0 n = n := by
  obtain ⟨m, rfl⟩ := Int.eq_ofNat_of_zero_le h0
  exact or_zero64 m (by omega)
theorem or_join64 (lo hi : Int) (h0 : 0 ≤ lo) (h1 : lo < 4294967296) (h2 : 0 ≤ hi) (h3 : hi < 4294967296) : bits .or .u64 lo (hi * 4294967296) = lo + hi * 4294967296 := by
  obtain ⟨a, rfl⟩ := Int.eq_ofNat_of_zero_le h0
  obtain ⟨b, rfl⟩ := Int.eq_ofNat_of_zero_le h2
  have e := u64_or_nat a (b * 4294967296) (by omega) (by omega)
  rw [Nat.or_comm, nat_join 32 (b * 4294967296) a (by omega) (by omega)] at e
  rw [show ((b : Int) * 4294967296) = ((b * 4294967296 : Nat) : Int) from by omega, e]
  omega

theorem number_any (v : Value) (n : Nat) (hn : n < 18446744073709551616) (w : World) (h : Mag w v n) :
    Calls Tryd.prog 46 #[v] w fun e w' => e = .returned (.int .u64 n) ∧ w = w' := by
  rcases Nat.lt_or_ge n 4294967296 with h1 | h1
  · rcases Nat.eq_zero_or_pos n with h0 | h0
    · subst h0
      unfold Mag at h
      rw [digs_zero] at h
      obtain ⟨A, cap, rfl, -, -, -⟩ := h.form
      go_enter Tryd.func46, Tryd.ntmps46
      go_wp2
      go_rounds 1
      go_ret
      exact ⟨rfl, rfl⟩
    · unfold Mag at h
      rw [digs_one (by omega) (by omega)] at h
      obtain ⟨A, cap, rfl, -, -, h3⟩ := h.form
      obtain ⟨b, off, rfl, hb, hc⟩ := h3 (by simp)
      have hc0 := hc 0 (by simp)
      clear hc h3
      simp only [List.getD_cons_zero, Nat.add_zero] at hc0
      simp only [List.length_cons, List.length_nil]
      go_enter Tryd.func46, Tryd.ntmps46
      go_wp2
      go_rounds 2
      go_ret
      exact ⟨ret_int (or_zero64 n hn), rfl⟩
  · unfold Mag at h
    rw [digs_two (by omega) (by omega)] at h
    obtain ⟨A, cap, rfl, -, -, h3⟩ := h.form
    obtain ⟨b, off, rfl, hb, hc⟩ := h3 (by simp)
    have hc0 := hc 0 (by simp)
    have hc1 := hc 1 (by simp)
    clear hc h3
    simp only [List.getD_cons_zero, List.getD_cons_succ, Nat.add_zero] at hc0 hc1
    simp only [List.length_cons, List.length_nil]
    go_enter Tryd.func46, Tryd.ntmps46
    go_wp2
    go_rounds 3
    go_ret
    exact ⟨ret_int (by rw [or_zero64' _ (by omega) (by omega), or_join64 _ _ (by omega) (by omega) (by omega) (by omega)]; omega), rfl⟩
end Go.Proofs.YtgfoplokplnpgaaDoor
