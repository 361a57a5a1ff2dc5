/- integer.compare, integer.length -/
import Derived.Test.YtgfoplokplnpgaaDoorArr
import Derived.Test.YtgfoplokplnpgaaDoorBits
import Derived.Test.YtgfoplokplnpgaaDoorShelf
namespace Go.Proofs.YtgfoplokplnpgaaDoor
open Go Go.RowKit Num

theorem cmpI_nat (a b : Nat) : cmpI a b = if a < b then -1 else if b < a then 1 else 0 := by
  unfold cmpI
  by_cases h : a < b
  · rw [if_pos h, if_pos (by omega)]
  · rw [if_neg h, if_neg (by omega)]
    by_cases h' : b < a
    · rw [if_pos h', if_pos (by omega)]
    · rw [if_neg h', if_neg (by omega)]

/-- The highest words decide, if they differ. -/
theorem cmp_top {P a b x y : Nat} (ha : a < P) (hb : b < P) : cmpI (a + P * x : Nat) (b + P * y : Nat) = if x = y then cmpI a b else cmpI x y := by
  rw [cmpI_nat, cmpI_nat, cmpI_nat]
  rcases Nat.lt_trichotomy x y with h | h | h
  · have h1 : P * x + P ≤ P * y := by rw [← Nat.mul_succ]; exact Nat.mul_le_mul_left _ h
    rw [if_pos (by omega), if_neg (by omega), if_pos h]
  · subst h
    rw [if_pos rfl]
    by_cases h1 : a < b
    · rw [if_pos (by omega), if_pos h1]
    · by_cases h2 : b < a
      · rw [if_neg (by omega), if_pos (by omega), if_neg h1, if_pos h2]
      · rw [if_neg (by omega), if_neg (by omega), if_neg h1, if_neg h2]
  · have h1 : P * y + P ≤ P * x := by rw [← Nat.mul_succ]; exact Nat.mul_le_mul_left _ h
    rw [if_neg (by omega), if_pos (by omega), if_neg (by omega), if_neg (by omega), if_pos h]

theorem take_val_lt {l : List Nat} (h : ∀ x ∈ l, x < 4294967296) {k : Nat} (hk : k ≤ l.length) : val (l.take k) < 4294967296 ^ k := by
  have h1 := val_lt (l := l.take k) (fun x hx => h x (List.mem_of_mem_take hx))
  have : (l.take k).length = k := by simp; omega
  rwa [this] at h1

/-- A callee that leaves the world alone, met in a world that has drawn before. -/
theorem quiet_here {P : Program} {f : FuncId} {args : Array Value} {w : World} {a n : Nat} {v : Value} (h : ∀ W, Calls P f args W fun e w' => e = .returned v ∧ w' = W) :
    Calls P f args (w.drewN (a + n)) fun e w' => e = .returned v ∧ ∃ m, w' = w.drewN (a + m) := (h _).mono fun _ _ hh => ⟨hh.1, n, hh.2⟩

theorem lt_of_length {a b : Nat} (h : (digs a).length < (digs b).length) : a < b := by
  rcases Nat.lt_or_ge a b with h1 | h1
  · exact h1
  · have := length_mono h1; omega

set_option maxHeartbeats 1000000 in
theorem compare_any (v1 v2 : Value) (a b : Nat) (w : World) (h1 : Mag w v1 a) (h2 : Mag w v2 b) (hn1 : (digs a).length ≤ 1000000) (hn2 : (digs b).length ≤ 1000000) :
    Calls Tryd.prog 42 #[v1, v2] w fun e w' => e = .returned (.int .i64 (cmpI a b)) ∧ ∃ n, w' = w.drewN n := by
  obtain ⟨A1, cap1, rfl, hc1, hm1, hf1⟩ := id h1.form
  obtain ⟨A2, cap2, rfl, hc2, hm2, hf2⟩ := id h2.form
  have hl1 := h1.lt
  have hl2 := h2.lt
  have hva := val_digs a
  have hvb := val_digs b
  have hq := @lt_of_length a b
  have hq' := @lt_of_length b a
  generalize digs a = l1 at *
  generalize digs b = l2 at *
  by_cases hne : l1.length = l2.length
  · clear hq hq'
    have hr : cmpI (val (l1.take l1.length)) (val (l2.take l1.length)) = cmpI a b := by
      have t2 : l2.take l1.length = l2 := List.take_of_length_le (by omega)
      rw [List.take_length, t2, hva, hvb]
    clear hva hvb
    have HR := Lib.hid hr
    have HN := Lib.hid hne
    have hne1 : ((l1.length : Int) != (l2.length : Int)) = false := by simp [hne]
    have hge : l2.length ≤ l1.length ∧ l1.length ≤ l2.length := by omega
    obtain ⟨hge1, hge2⟩ := hge
    clear hr hne
    go_enter Tryd.func42, Tryd.ntmps42
    go_wp2
    go_loopw [5] (fun i wr => ∃ (k n : Nat), k ≤ l1.length ∧ i = .int .i64 ((k : Int) - 1) ∧ cmpI (val (l1.take k)) (val (l2.take k)) = cmpI a b ∧ wr = w.drewN n) (fun i _ => (intOf i + 1).toNat)
    case atStart => exact ⟨l1.length, 0, Nat.le_refl _, rfl, HR.out, rfl⟩
    case round =>
      obtain ⟨k, n, hk, rfl, hr, rfl⟩ := hrel
      rcases k with _ | k
      · have HK := Lib.hid hr
        clear hr HR
        go_wp2
        go_ret
        exact ⟨ret_int (by have := HK.out; simpa [val, cmpI] using this), n, rfl⟩
      · obtain ⟨b1, o1, rfl, hb1, hcell1⟩ := hf1 (by intro h; rw [h] at hk; simp at hk)
        obtain ⟨b2, o2, rfl, hb2, hcell2⟩ := hf2 (by intro h; rw [h, List.length_nil] at hge2; omega)
        have hx := hcell1 k (by omega)
        have hy := hcell2 k (by omega)
        rw [val_take_succ, val_take_succ, cmp_top (take_val_lt hl1 (by omega)) (take_val_lt hl2 (by omega))] at hr
        have HK := Lib.hid hr
        have e1 : (((k + 1 : Nat) : Int) - 1) = (k : Int) := by omega
        rw [e1]
        clear hr hcell1 hcell2 hf1 hf2 e1
        generalize l1.getD k 0 = x at *
        generalize l2.getD k 0 = y at *
        by_cases hxy : x = y
        · have HX := Lib.hid hxy
          have hb : ((x : Int) != (y : Int)) = false := by simp [hxy]
          clear hxy
          go_wp2
          go_quiet (fail)
          go_wp2
          go_roundw
          case rel => exact ⟨k, n + nq, by omega, rfl, by have := HK.out; rwa [if_pos HX.out] at this, rfl⟩
          case measure => simp only [intOf]; omega
        · have HX := Lib.hid hxy
          have hb : ((x : Int) != (y : Int)) = true := by rw [bne_iff_ne]; omega
          clear hxy
          go_wp2
          go_quiet (fail)
          go_wp2
          go_quiet ((go_at_call 68; exact quiet_here (cmp_u32 _ _)))
          go_wp2
          go_ret
          exact ⟨ret_int (by have := HK.out; rwa [if_neg HX.out] at this), _, by rw [World.drewN_drewN, World.drewN_drewN]⟩
  · have hne1 : ((l1.length : Int) != (l2.length : Int)) = true := by rw [bne_iff_ne]; omega
    have HR : Hid (cmpI l1.length l2.length = cmpI a b) := by
      unfold Hid
      rw [cmpI_nat, cmpI_nat]
      rcases Nat.lt_or_ge l1.length l2.length with h | h
      · have := hq h
        rw [if_pos h, if_pos this]
      · have h' : l2.length < l1.length := by omega
        have := hq' h'
        rw [if_neg (by omega), if_pos h', if_neg (by omega), if_pos this]
    clear hq hq' hva hvb
    go_enter Tryd.func42, Tryd.ntmps42
    go_wp2_with fail
    refine (cmp_int _ _ _).mono ?_
    rintro e w' ⟨rfl, rfl⟩
    go_wp2
    go_ret
    exact ⟨ret_int HR.out, 0, rfl⟩

set_option maxHeartbeats 400000 in
theorem length_any (v : Value) (a : Nat) (w : World) (h : Mag w v a) (hn : (digs a).length ≤ 1000000) :
    Calls Tryd.prog 48 #[v] w fun e w' => e = .returned (.int .i64 (blen a)) ∧ w' = w := by
  rcases h.cases with ⟨hz, A, cap, rfl, -⟩ | ⟨hpos, b, off, cap, rfl, -, -, hb, hc⟩
  · have h0 : a = 0 := digs_eq_nil.1 hz
    subst h0
    go_enter Tryd.func48, Tryd.ntmps48
    go_wp2
    go_ret
    exact ⟨rfl, rfl⟩
  · obtain ⟨m, hm⟩ : ∃ m, (digs a).length = m + 1 := ⟨(digs a).length - 1, by omega⟩
    have hc1 := hc m (by omega)
    have hx := getD_lt (digs_lt a) m
    have hx0 : (digs a).getD m 0 ≠ 0 := digs_getLast (n := a) (by
      have := take_last (l := digs a) (k := m) (by omega)
      rwa [List.take_of_length_le (by omega)] at this)
    have hv := val_take_succ (digs a) m
    rw [List.take_of_length_le (by omega), val_digs] at hv
    have hlt := take_val_lt (digs_lt a) (k := m) (by omega)
    have hbl := blen_top hlt hx0
    rw [← hv] at hbl
    have HB := Lib.hid hbl
    have hle := Lib.bitLen_le ((digs a).getD m 0) 32 (by omega) hx
    have he := bitLen_eq ((digs a).getD m 0) (by omega)
    have HE := Lib.hid he
    rw [hm]
    clear hc hv hlt hbl he h hx0
    generalize (digs a).getD m 0 = x at *
    have hm' : m ≤ 1000000 := by omega
    clear hm hpos hn
    go_enter Tryd.func48, Tryd.ntmps48
    go_wp2_with fail
    refine (Tryd.bits_Len32 _ _ (by omega) (by omega)).mono ?_
    rintro e w' ⟨rfl, rfl⟩
    rw [Int.toNat_natCast]
    go_wp2
    go_ret
    exact ⟨ret_int (by rw [HB.out, HE.out]; omega), rfl⟩
end Go.Proofs.YtgfoplokplnpgaaDoor
