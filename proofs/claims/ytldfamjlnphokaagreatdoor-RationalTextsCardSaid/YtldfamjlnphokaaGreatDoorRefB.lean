/- Contracts by value: an Int of at most n words that stands for z.
   The reference: cmp.
   The reference: Cmp.
   What stores into variables of the type Int leave of the values. -/
import Derived.Test.YtldfamjlnphokaaGreatDoorAwk1
import Derived.Test.YtldfamjlnphokaaGreatDoorRefA

set_option linter.unusedVariables false
set_option linter.unusedSimpArgs false

namespace Go.Proofs.YtldfamjlnphokaaGreatDoor
open Go Go.RowKit Num

/-- v reads as an Int of the value z, of at most n words. -/
def Rd (w : World) (v : Value) (z : Int) (n : Nat) : Prop := ∃ s m l, v = .agg #[.bool s, m] ∧ U32 w m l ∧ ival s l = z ∧ l.length ≤ n
/-- v is the canonical Int of z, which takes at most n words. -/
def Rc (w : World) (v : Value) (z : Int) (n : Nat) : Prop := Can w v z ∧ z.natAbs < 4294967296 ^ n

theorem Rd.below {w w' : World} {v : Value} {z : Int} {n : Nat} (h : Rd w v z n) (hb : Below w.heap.size w w') : Rd w' v z n := by
  obtain ⟨s, m, l, e, hu, hz, hl⟩ := h
  exact ⟨s, m, l, e, hu.below hb, hz, hl⟩
theorem Rc.below {w w' : World} {v : Value} {z : Int} {n : Nat} (h : Rc w v z n) (hb : Below w.heap.size w w') : Rc w' v z n := ⟨h.1.below hb, h.2⟩
theorem Rc.rd {w : World} {v : Value} {z : Int} {n : Nat} (h : Rc w v z n) : Rd w v z n := by
  obtain ⟨⟨m, e, hu⟩, hz⟩ := h
  exact ⟨_, m, _, e, hu, ival_can z, digs_length_le hz⟩
theorem Rc.of_eq {w : World} {v : Value} {z z' : Int} {n : Nat} (h : Rc w v z n) (e : z = z') : Rc w v z' n := by subst e; exact h
theorem ival_abs (s : Bool) (l : List Nat) : (ival s l).natAbs = val l := by unfold ival; cases s <;> simp
theorem pow_mono {n k : Nat} (h : n ≤ k) : 4294967296 ^ n ≤ 4294967296 ^ k := Nat.pow_le_pow_right (by omega) h
theorem Rd.abs {w : World} {v : Value} {z : Int} {n : Nat} (h : Rd w v z n) : z.natAbs < 4294967296 ^ n := by
  obtain ⟨s, m, l, -, hu, rfl, hl⟩ := h
  rw [ival_abs]
  exact Nat.lt_of_lt_of_le (val_lt hu.lt) (pow_mono hl)
theorem Rd.more {w : World} {v : Value} {z : Int} {n k : Nat} (h : Rd w v z n) (hk : n ≤ k) : Rd w v z k := by
  obtain ⟨s, m, l, e, hu, hz, hl⟩ := h
  exact ⟨s, m, l, e, hu, hz, Nat.le_trans hl hk⟩
theorem Rc.more {w : World} {v : Value} {z : Int} {n k : Nat} (h : Rc w v z n) (hk : n ≤ k) : Rc w v z k := ⟨h.1, Nat.lt_of_lt_of_le h.2 (pow_mono hk)⟩
theorem Rd.shape {w : World} {v : Value} {z : Int} {n : Nat} (h : Rd w v z n) : ∃ s A k c, v = .agg #[.bool s, .slice A k c] ∧ k ≤ n := by
  obtain ⟨s, m, l, rfl, hu, -, hl⟩ := h
  obtain ⟨A, c, rfl, -⟩ := hu.form
  exact ⟨_, _, _, _, rfl, hl⟩
theorem Rc.shape {w : World} {v : Value} {z : Int} {n : Nat} (h : Rc w v z n) : ∃ s A k c, v = .agg #[.bool s, .slice A k c] := h.1.shape
/-- The sign and the number of words of a canonical Int. -/
theorem Rc.form {w : World} {v : Value} {z : Int} {n : Nat} (h : Rc w v z n) : ∃ A c, v = .agg #[.bool (decide (z < 0)), .slice A (digs z.natAbs).length c] := by
  obtain ⟨⟨m, e, hu⟩, hz⟩ := h
  obtain ⟨A, c, rfl, -⟩ := hu.form
  exact ⟨A, c, e⟩

theorem add_words {x y : Int} {n k : Nat} (hx : x.natAbs < 4294967296 ^ n) (hy : y.natAbs < 4294967296 ^ k) : (x + y).natAbs < 4294967296 ^ (n + k + 1) := by
  have h1 := pow_mono (show n ≤ n + k by omega)
  have h2 := pow_mono (show k ≤ n + k by omega)
  have h3 : 0 < 4294967296 ^ (n + k) := Nat.pow_pos (by omega)
  rw [Nat.pow_succ]
  have := Int.natAbs_add_le x y
  omega
theorem sub_words {x y : Int} {n k : Nat} (hx : x.natAbs < 4294967296 ^ n) (hy : y.natAbs < 4294967296 ^ k) : (x - y).natAbs < 4294967296 ^ (n + k + 1) := by
  rw [Int.sub_eq_add_neg]
  exact add_words hx (by rw [Int.natAbs_neg]; exact hy)
theorem mul_words {x y : Int} {n k : Nat} (hx : x.natAbs < 4294967296 ^ n) (hy : y.natAbs < 4294967296 ^ k) : (x * y).natAbs < 4294967296 ^ (n + k) := by
  rw [Int.natAbs_mul, Nat.pow_add]
  exact Nat.mul_lt_mul'' hx hy
theorem div_words {x y : Int} {n : Nat} (hx : x.natAbs < 4294967296 ^ n) : (x / y).natAbs < 4294967296 ^ n := by
  refine Nat.lt_of_le_of_lt ?_ hx
  exact Int.natAbs_ediv_le_natAbs x y
theorem mod_words {x y : Int} {n : Nat} (hy : y.natAbs < 4294967296 ^ n) (h0 : y ≠ 0) : (x % y).natAbs < 4294967296 ^ n := by
  have h1 := Int.emod_nonneg x h0
  have h2 := Int.emod_lt x h0
  omega
theorem word2 {n : Int} (h1 : -9223372036854775808 ≤ n) (h2 : n ≤ 9223372036854775807) : n.natAbs < 4294967296 ^ 2 := by omega

section
variable {v1 v2 : Value} {z1 z2 : Int} {n1 n2 : Nat} {w : World}
theorem Add_rd (h1 : Rd w v1 z1 n1) (h2 : Rd w v2 z2 n2) (f1 : n1 ≤ 50000) (f2 : n2 ≤ 50000) :
    Calls Tryz.prog 59 #[v1, v2] w fun e w' => ∃ v, e = .returned v ∧ Rc w' v (z1 + z2) (n1 + n2 + 1) ∧ Below w.heap.size w w' := by
  have a1 := h1.abs
  have a2 := h2.abs
  obtain ⟨s1, m1, l1, rfl, u1, rfl, e1⟩ := h1
  obtain ⟨s2, m2, l2, rfl, u2, rfl, e2⟩ := h2
  exact (Add_any s1 s2 m1 m2 l1 l2 w u1 u2 (by omega) (by omega)).mono fun e w' ⟨v, he, hc, hb⟩ => ⟨v, he, ⟨hc, add_words a1 a2⟩, hb⟩
theorem Mul_rd (h1 : Rd w v1 z1 n1) (h2 : Rd w v2 z2 n2) (f1 : n1 ≤ 50000) (f2 : n2 ≤ 50000) :
    Calls Tryz.prog 60 #[v1, v2] w fun e w' => ∃ v, e = .returned v ∧ Rc w' v (z1 * z2) (n1 + n2) ∧ Below w.heap.size w w' := by
  have a1 := h1.abs
  have a2 := h2.abs
  obtain ⟨s1, m1, l1, rfl, u1, rfl, e1⟩ := h1
  obtain ⟨s2, m2, l2, rfl, u2, rfl, e2⟩ := h2
  exact (Mul_any s1 s2 m1 m2 l1 l2 w u1 u2 (by omega) (by omega)).mono fun e w' ⟨v, he, hc, hb⟩ => ⟨v, he, ⟨hc, mul_words a1 a2⟩, hb⟩
theorem DivMod_rd (h1 : Rd w v1 z1 n1) (h2 : Rd w v2 z2 n2) (f1 : n1 ≤ 50000) (f2 : n2 ≤ 50000) (h0 : z2 ≠ 0) :
    Calls Tryz.prog 65 #[v1, v2] w fun e w' => ∃ q r, e = .returned (.tuple #[q, r, .int .i64 0]) ∧ Rc w' q (z1 / z2) n1 ∧ Rc w' r (z1 % z2) n2 ∧ Below w.heap.size w w' := by
  have a1 := h1.abs
  have a2 := h2.abs
  obtain ⟨s1, m1, l1, rfl, u1, rfl, e1⟩ := h1
  obtain ⟨s2, m2, l2, rfl, u2, rfl, e2⟩ := h2
  have hv : 0 < val l2 := by have := ival_abs s2 l2; omega
  exact (DivMod_any s1 s2 m1 m2 l1 l2 w u1 u2 (by omega) (by omega) hv).mono fun e w' ⟨q, r, he, hq, hr, hb⟩ => ⟨q, r, he, ⟨hq, div_words a1⟩, ⟨hr, mod_words a2 h0⟩, hb⟩
theorem DivMod_rd0 (h1 : Rd w v1 z1 n1) (h2 : Rd w v2 0 n2) (f1 : n1 ≤ 50000) (f2 : n2 ≤ 50000) :
    Calls Tryz.prog 65 #[v1, v2] w fun e w' => e = .returned (.tuple #[.agg #[.bool false, .slice none 0 0], .agg #[.bool false, .slice none 0 0], .int .i64 10]) ∧ Below w.heap.size w w' := by
  obtain ⟨s1, m1, l1, rfl, u1, rfl, e1⟩ := h1
  obtain ⟨s2, m2, l2, rfl, u2, h0, e2⟩ := h2
  have hv : val l2 = 0 := by have := ival_abs s2 l2; omega
  exact DivMod_zero s1 s2 m1 m2 l1 l2 w u1 u2 (by omega) (by omega) hv
theorem RNorm_rd (h1 : Rd w v1 z1 n1) (f1 : n1 ≤ 50000) :
    Calls Tryz.prog 90 #[v1] w fun e w' => ∃ v, e = .returned v ∧ Rc w' v z1 n1 ∧ Below w.heap.size w w' := by
  have a1 := h1.abs
  obtain ⟨s1, m1, l1, rfl, u1, rfl, e1⟩ := h1
  exact (RNorm_any s1 m1 l1 w u1 (by omega)).mono fun e w' ⟨v, he, hc, hb⟩ => ⟨v, he, ⟨hc, a1⟩, hb⟩
theorem Sign_rd (h1 : Rd w v1 z1 n1) :
    Calls Tryz.prog 57 #[v1] w fun e w' => e = .returned (.int .i64 (sgn z1)) ∧ Below w.heap.size w w' := by
  obtain ⟨s1, m1, l1, rfl, u1, rfl, e1⟩ := h1
  exact Sign_any s1 m1 l1 w u1
theorem Sign_rd_eq (h1 : Rd w v1 z1 n1) (h : z1 = 0) :
    Calls Tryz.prog 57 #[v1] w fun e w' => e = .returned (.int .i64 0) ∧ Below w.heap.size w w' := by
  have e : sgn z1 = 0 := by unfold sgn; rw [if_neg (by omega), if_pos h]
  rw [← e]; exact Sign_rd h1
theorem Sign_rd_gt (h1 : Rd w v1 z1 n1) (h : 0 < z1) :
    Calls Tryz.prog 57 #[v1] w fun e w' => e = .returned (.int .i64 1) ∧ Below w.heap.size w w' := by
  have e : sgn z1 = 1 := by unfold sgn; rw [if_neg (by omega), if_neg (by omega)]
  rw [← e]; exact Sign_rd h1
theorem Sign_rd_lt (h1 : Rd w v1 z1 n1) (h : z1 < 0) :
    Calls Tryz.prog 57 #[v1] w fun e w' => e = .returned (.int .i64 (-1)) ∧ Below w.heap.size w w' := by
  have e : sgn z1 = -1 := by unfold sgn; rw [if_pos h]
  rw [← e]; exact Sign_rd h1
theorem Cmp_rd (h1 : Rd w v1 z1 n1) (h2 : Rd w v2 z2 n2) (f1 : n1 ≤ 50000) (f2 : n2 ≤ 50000) :
    Calls Tryz.prog 68 #[v1, v2] w fun e w' => e = .returned (.int .i64 (cmpI z1 z2)) ∧ Below w.heap.size w w' := by
  obtain ⟨s1, m1, l1, rfl, u1, rfl, e1⟩ := h1
  obtain ⟨s2, m2, l2, rfl, u2, rfl, e2⟩ := h2
  exact Cmp_any s1 s2 m1 m2 l1 l2 w u1 u2 (by omega) (by omega)
theorem Cmp_rd_eq (h1 : Rd w v1 z1 n1) (h2 : Rd w v2 z2 n2) (f1 : n1 ≤ 50000) (f2 : n2 ≤ 50000) (h : z1 = z2) :
    Calls Tryz.prog 68 #[v1, v2] w fun e w' => e = .returned (.int .i64 0) ∧ Below w.heap.size w w' := by
  have e : cmpI z1 z2 = 0 := by unfold cmpI; rw [if_neg (by omega), if_neg (by omega)]
  rw [← e]; exact Cmp_rd h1 h2 f1 f2
theorem Cmp_rd_lt (h1 : Rd w v1 z1 n1) (h2 : Rd w v2 z2 n2) (f1 : n1 ≤ 50000) (f2 : n2 ≤ 50000) (h : z1 < z2) :
    Calls Tryz.prog 68 #[v1, v2] w fun e w' => e = .returned (.int .i64 (-1)) ∧ Below w.heap.size w w' := by
  have e : cmpI z1 z2 = -1 := by unfold cmpI; rw [if_pos h]
  rw [← e]; exact Cmp_rd h1 h2 f1 f2
theorem Cmp_rd_gt (h1 : Rd w v1 z1 n1) (h2 : Rd w v2 z2 n2) (f1 : n1 ≤ 50000) (f2 : n2 ≤ 50000) (h : z2 < z1) :
    Calls Tryz.prog 68 #[v1, v2] w fun e w' => e = .returned (.int .i64 1) ∧ Below w.heap.size w w' := by
  have e : cmpI z1 z2 = 1 := by unfold cmpI; rw [if_neg (by omega), if_pos h]
  rw [← e]; exact Cmp_rd h1 h2 f1 f2
theorem Of_rc (n : Int) (h1 : -9223372036854775808 ≤ n) (h2 : n ≤ 9223372036854775807) :
    Calls Tryz.prog 51 #[.int .i64 n] w fun e w' => ∃ v, e = .returned v ∧ Rc w' v n 2 ∧ Below w.heap.size w w' :=
  (Of_any n w h1 h2).mono fun e w' ⟨v, he, hc, hb⟩ => ⟨v, he, ⟨hc, word2 h1 h2⟩, hb⟩
theorem ROf_rc (n : Int) (h1 : -9223372036854775808 ≤ n) (h2 : n ≤ 9223372036854775807) :
    Calls Tryz.prog 53 #[.int .i64 n] w fun e w' => ∃ v, e = .returned v ∧ Rc w' v n 2 ∧ Below w.heap.size w w' :=
  (ROf_any n w h1 h2).mono fun e w' ⟨v, he, hc, hb⟩ => ⟨v, he, ⟨hc, word2 h1 h2⟩, hb⟩
end
theorem Rd.u32 {w : World} {s : Bool} {m : Value} {z : Int} {n : Nat} (h : Rd w (.agg #[.bool s, m]) z n) : ∃ l, U32 w m l ∧ ival s l = z ∧ l.length ≤ n := by
  obtain ⟨s', m', l, e, hu, hz, hl⟩ := h
  simp only [Value.agg.injEq, Array.mk.injEq, List.cons.injEq, and_true, Value.bool.injEq] at e
  obtain ⟨rfl, rfl⟩ := e
  exact ⟨l, hu, hz, hl⟩
end Go.Proofs.YtldfamjlnphokaaGreatDoor

namespace Go.Proofs.YtldfamjlnphokaaGreatDoor
open Go Go.RowKit Num

set_option maxHeartbeats 1000000 in
theorem rcmp_any (v1 v2 : Value) (a b : Nat) (w : World) (h1 : Mag w v1 a) (h2 : Mag w v2 b) (hn1 : (digs a).length ≤ 1000000) (hn2 : (digs b).length ≤ 1000000) :
    Calls Tryz.prog 100 #[v1, v2] w fun e w' => e = .returned (.int .i64 (cmpI a b)) ∧ ∃ n, w' = w.drewN n := by
  obtain ⟨A1, cap1, rfl, hc1, hm1, hf1⟩ := id h1.form
  obtain ⟨A2, cap2, rfl, hc2, hm2, hf2⟩ := id h2.form
  have hl1 := h1.lt
  have hl2 := h2.lt
  have hva := val_digs a
  have hvb := val_digs b
  have hq := @lt_of_length a b
  have hq' := @lt_of_length b a
  generalize digs a = l1 at *
  generalize digs b = l2 at *
  by_cases hne : l1.length = l2.length
  · clear hq hq'
    have hr : cmpI (val (l1.take l1.length)) (val (l2.take l1.length)) = cmpI a b := by
      have t2 : l2.take l1.length = l2 := List.take_of_length_le (by omega)
      rw [List.take_length, t2, hva, hvb]
    clear hva hvb
    have HR := Lib.hid hr
    have HN := Lib.hid hne
    have hne1 : ((l1.length : Int) != (l2.length : Int)) = false := by simp [hne]
    have hge : l2.length ≤ l1.length ∧ l1.length ≤ l2.length := by omega
    obtain ⟨hge1, hge2⟩ := hge
    clear hr hne
    go_enter Tryz.func100, Tryz.ntmps100
    go_wp2
    go_loopw [5] (fun i wr => ∃ (k n : Nat), k ≤ l1.length ∧ i = .int .i64 ((k : Int) - 1) ∧ cmpI (val (l1.take k)) (val (l2.take k)) = cmpI a b ∧ wr = w.drewN n) (fun i _ => (intOf i + 1).toNat)
    case atStart => exact ⟨l1.length, 0, Nat.le_refl _, rfl, HR.out, rfl⟩
    case round =>
      obtain ⟨k, n, hk, rfl, hr, rfl⟩ := hrel
      rcases k with _ | k
      · have HK := Lib.hid hr
        clear hr HR
        go_wp2
        go_ret
        exact ⟨ret_int (by have := HK.out; simpa [val, cmpI] using this), n, rfl⟩
      · obtain ⟨b1, o1, rfl, hb1, hcell1⟩ := hf1 (by intro h; rw [h] at hk; simp at hk)
        obtain ⟨b2, o2, rfl, hb2, hcell2⟩ := hf2 (by intro h; rw [h, List.length_nil] at hge2; omega)
        have hx := hcell1 k (by omega)
        have hy := hcell2 k (by omega)
        rw [val_take_succ, val_take_succ, cmp_top (take_val_lt hl1 (by omega)) (take_val_lt hl2 (by omega))] at hr
        have HK := Lib.hid hr
        have e1 : (((k + 1 : Nat) : Int) - 1) = (k : Int) := by omega
        rw [e1]
        clear hr hcell1 hcell2 hf1 hf2 e1
        generalize l1.getD k 0 = x at *
        generalize l2.getD k 0 = y at *
        by_cases hxy : x < y
        · go_wp2
          go_quiet (fail)
          go_wp2
          go_ret
          exact ⟨ret_int (by have := HK.out; rw [if_neg (by omega)] at this; rw [← this, cmpI, if_pos (by omega)]), _, by rw [World.drewN_drewN]⟩
        · by_cases hyx : y < x
          · go_wp2
            go_quiet (fail)
            go_wp2
            go_quiet (fail)
            go_wp2
            go_ret
            exact ⟨ret_int (by have := HK.out; rw [if_neg (by omega)] at this; rw [← this, cmpI, if_neg (by omega), if_pos (by omega)]), _, by rw [World.drewN_drewN, World.drewN_drewN]⟩
          · go_wp2
            go_quiet (fail)
            go_wp2
            go_quiet (fail)
            go_wp2
            go_roundw
            case rel => exact ⟨k, _, by omega, rfl, by have := HK.out; rwa [if_pos (by omega)] at this, rfl⟩
            case measure => simp only [intOf]; omega
  · have hne1 : ((l1.length : Int) != (l2.length : Int)) = true := by rw [bne_iff_ne]; omega
    rcases Nat.lt_or_ge l1.length l2.length with h | h
    · have HR : Hid ((-1 : Int) = cmpI a b) := by
        unfold Hid
        rw [cmpI_nat, if_pos (hq h)]
      clear hq hq' hva hvb
      go_enter Tryz.func100, Tryz.ntmps100
      go_wp2
      go_ret
      exact ⟨ret_int HR.out, 0, rfl⟩
    · have HR : Hid ((1 : Int) = cmpI a b) := by
        unfold Hid
        have := hq' (by omega)
        rw [cmpI_nat, if_neg (by omega), if_pos this]
      clear hq hq' hva hvb
      go_enter Tryz.func100, Tryz.ntmps100
      go_wp2
      go_ret
      exact ⟨ret_int HR.out, 0, rfl⟩
end Go.Proofs.YtldfamjlnphokaaGreatDoor

namespace Go.Proofs.YtldfamjlnphokaaGreatDoor
open Go Go.RowKit Num

theorem Box.keeps' {w : World} {x : Nat} {s : Bool} {A : Option Addr} {n c : Nat} {v : Value} {z : Int} {k : Nat} (h : Box w x s (.slice A n c)) (hu : Rc w v z k) (s' : Bool) (m' : Value) : Rc ((w.setCell ⟨x, 0, none⟩ (.bool s')).setCell ⟨x, 1, none⟩ m') v z k := ⟨h.can hu.1 s' m', hu.2⟩
set_option maxRecDepth 100000 in
set_option maxHeartbeats 2000000 in
theorem RCmp_rd {v1 v2 : Value} {z1 z2 : Int} {n1 n2 : Nat} {w : World} (h1 : Rd w v1 z1 n1) (h2 : Rd w v2 z2 n2) (f1 : n1 ≤ 50000) (f2 : n2 ≤ 50000) :
    Calls Tryz.prog 66 #[v1, v2] w fun e w' => e = .returned (.int .i64 (cmpI z1 z2)) ∧ Below w.heap.size w w' := by
  obtain ⟨s1, A1, k1, c1, rfl, -⟩ := h1.shape
  obtain ⟨s2, A2, k2, c2, rfl, -⟩ := h2.shape
  have bA := (Box.new w s1 (.slice A1 k1 c1)).alloc (.cells #[.bool s2, .slice A2 k2 c2] 24)
  have bB := Box.new (w.alloc (.cells #[.bool s1, .slice A1 k1 c1] 24)) s2 (.slice A2 k2 c2)
  rw [World.size_alloc] at bB
  have hb0 : Below w.heap.size w ((w.alloc (.cells #[.bool s1, .slice A1 k1 c1] 24)).alloc (.cells #[.bool s2, .slice A2 k2 c2] 24)) := ((Below.refl _ _).alloc (Nat.le_refl _) _).alloc (by simp) _
  have H1 := Lib.hid (h1.below hb0)
  have H2 := Lib.hid h2
  have HB0 := Lib.hid hb0
  have cA0 := bA.c0
  have cA1 := bA.c1
  clear h1 h2 hb0
  go_enter Tryz.func66, Tryz.ntmps66
  go_wp2_with fail
  generalize (w.alloc (.cells #[.bool s1, .slice A1 k1 c1] 24)).alloc (.cells #[.bool s2, .slice A2 k2 c2] 24) = W0 at *
  refine (RNorm_rd H1.out f1).mono ?_
  rintro e w1 ⟨v1, rfl, r1, b1⟩
  obtain ⟨A1', c1', rfl⟩ := r1.form
  have bA1 := Box.below bA b1 bA.lt
  have bB1 := Box.below bB b1 bB.lt
  have fA0 := bA1.f0
  have fA1 := bA1.f1
  have cA0 := bA1.c0
  have cA1 := bA1.c1
  have cB0 := bB1.c0
  have cB1 := bB1.c1
  go_wp2_with fail
  have hb1 : Below w.heap.size w w1 := nextw HB0.out b1
  have R1 := Lib.hid ((bA1.keeps' r1) (decide (z1 < 0)) (.slice A1' (digs z1.natAbs).length c1'))
  have hb2 := Below.store hb1 (x := w.heap.size) (Nat.le_refl _) (.bool (decide (z1 < 0))) (.slice A1' (digs z1.natAbs).length c1')
  have bA2 := bA1.store (decide (z1 < 0)) (.slice A1' (digs z1.natAbs).length c1')
  have bB2 := bB1.far (by omega : w.heap.size + 1 ≠ w.heap.size) (.bool (decide (z1 < 0))) (.slice A1' (digs z1.natAbs).length c1')
  have H2' := Lib.hid (H2.out.below hb2)
  clear bA1 bB1 r1 b1 hb1 fA0 fA1 cA0 cA1 cB0 cB1 bA bB HB0 H1 H2
  generalize (w1.setCell ⟨w.heap.size, 0, none⟩ (.bool (decide (z1 < 0)))).setCell ⟨w.heap.size, 1, none⟩ (.slice A1' (digs z1.natAbs).length c1') = W1 at *
  refine (RNorm_rd H2'.out f2).mono ?_
  rintro e w2 ⟨v2, rfl, r2, b2⟩
  obtain ⟨A2', c2', rfl⟩ := r2.form
  have bA3 := Box.below bA2 b2 bA2.lt
  have bB3 := Box.below bB2 b2 bB2.lt
  have fB0 := bB3.f0
  have fB1 := bB3.f1
  have cB0 := bB3.c0
  have cB1 := bB3.c1
  have R1' := Lib.hid ((bB3.keeps' (R1.out.below b2)) (decide (z2 < 0)) (.slice A2' (digs z2.natAbs).length c2'))
  have R2' := Lib.hid ((bB3.keeps' r2) (decide (z2 < 0)) (.slice A2' (digs z2.natAbs).length c2'))
  have hb3 := Below.store (nextw hb2 b2) (x := w.heap.size + 1) (by omega) (.bool (decide (z2 < 0))) (.slice A2' (digs z2.natAbs).length c2')
  have bB4 := bB3.store (decide (z2 < 0)) (.slice A2' (digs z2.natAbs).length c2')
  have bA4 := bA3.far (by omega : w.heap.size ≠ w.heap.size + 1) (.bool (decide (z2 < 0))) (.slice A2' (digs z2.natAbs).length c2')
  have X0 := bA4.c0
  have X1 := bA4.c1
  have Y0 := bB4.c0
  have Y1 := bB4.c1
  clear bA2 bB2 r2 b2 hb2 H2' R1 bA3 bB3 bA4 bB4
  obtain ⟨W2, hW⟩ : ∃ W2, W2 = (w2.setCell ⟨w.heap.size + 1, 0, none⟩ (.bool (decide (z2 < 0)))).setCell ⟨w.heap.size + 1, 1, none⟩ (.slice A2' (digs z2.natAbs).length c2') := ⟨_, rfl⟩
  rw [← hW] at R1' R2' hb3
  have a1 := digs_length_le R1'.out.2
  have a2 := digs_length_le R2'.out.2
  have M1 : Mag W2 (.slice A1' (digs z1.natAbs).length c1') z1.natAbs := by
    obtain ⟨m1, e1, u1⟩ := R1'.out.1
    simp only [Value.agg.injEq, Array.mk.injEq, List.cons.injEq, and_true, true_and] at e1
    rw [e1]; exact u1
  have M2 : Mag W2 (.slice A2' (digs z2.natAbs).length c2') z2.natAbs := by
    obtain ⟨m2, e2, u2⟩ := R2'.out.1
    simp only [Value.agg.injEq, Array.mk.injEq, List.cons.injEq, and_true, true_and] at e2
    rw [e2]; exact u2
  have c12 := rcmp_any _ _ _ _ W2 M1 M2 (by omega) (by omega)
  have c21 := rcmp_any _ _ _ _ W2 M2 M1 (by omega) (by omega)
  have C12 := Lib.hid c12
  have C21 := Lib.hid c21
  have HB := Lib.hid hb3
  subst hW
  clear a1 a2 M1 M2 c12 c21 hb3 R1' R2'
  obtain ⟨g1, hg1⟩ : ∃ g, decide (z1 < 0) = g := ⟨_, rfl⟩
  obtain ⟨g2, hg2⟩ : ∃ g, decide (z2 < 0) = g := ⟨_, rfl⟩
  rw [hg2] at X0 X1 Y0 Y1 C12 C21 HB
  rw [hg1] at X0
  rw [hg1, hg2]
  have G1 := Lib.hid hg1
  have G2 := Lib.hid hg2
  clear hg1 hg2
  generalize (digs z1.natAbs).length = q1 at *
  generalize (digs z2.natAbs).length = q2 at *
  cases g1 <;> cases g2
  · go_wp2_with fail
    refine C12.out.mono ?_
    rintro e w3 ⟨rfl, n, rfl⟩
    go_wp2
    go_ret
    have e1 := of_decide_eq_false G1.out
    have e2 := of_decide_eq_false G2.out
    exact ⟨ret_int (by rw [Int.natAbs_of_nonneg (by omega), Int.natAbs_of_nonneg (by omega)]), bel_drewN HB.out n⟩
  · go_wp2
    go_ret
    have e1 := of_decide_eq_false G1.out
    have e2 := of_decide_eq_true G2.out
    exact ⟨ret_int (by unfold cmpI; rw [if_neg (by omega), if_pos (by omega)]), HB.out⟩
  · go_wp2
    go_ret
    have e1 := of_decide_eq_true G1.out
    have e2 := of_decide_eq_false G2.out
    exact ⟨ret_int (by unfold cmpI; rw [if_pos (by omega)]), HB.out⟩
  · go_wp2_with fail
    refine C21.out.mono ?_
    rintro e w3 ⟨rfl, n, rfl⟩
    go_wp2
    go_ret
    have e1 := of_decide_eq_true G1.out
    have e2 := of_decide_eq_true G2.out
    exact ⟨ret_int (by unfold cmpI; repeat' split <;> omega), bel_drewN HB.out n⟩
end Go.Proofs.YtldfamjlnphokaaGreatDoor

namespace Go.Proofs.YtldfamjlnphokaaGreatDoor
open Go Go.RowKit Num

theorem Box.keepsRc {w : World} {x : Nat} {s : Bool} {A : Option Addr} {n c : Nat} {v : Value} {z : Int} {k : Nat} (h : Box w x s (.slice A n c)) (hu : Rc w v z k) (s' : Bool) (m' : Value) : Rc ((w.setCell ⟨x, 0, none⟩ (.bool s')).setCell ⟨x, 1, none⟩ m') v z k := ⟨h.can hu.1 s' m', hu.2⟩
theorem Box.keepsRd {w : World} {x : Nat} {s : Bool} {A : Option Addr} {n c : Nat} {v : Value} {z : Int} {k : Nat} (h : Box w x s (.slice A n c)) (hu : Rd w v z k) (s' : Bool) (m' : Value) : Rd ((w.setCell ⟨x, 0, none⟩ (.bool s')).setCell ⟨x, 1, none⟩ m') v z k := by
  obtain ⟨s1, m, l, e, hu, hz, hl⟩ := hu
  exact ⟨s1, m, l, e, h.keeps hu s' m', hz, hl⟩
theorem Rd.mag {w : World} {s : Bool} {m : Value} {n k : Nat} (h : Mag w m n) (hk : n < 4294967296 ^ k) : Rd w (.agg #[.bool s, m]) (if s then -(n : Int) else n) k :=
  ⟨s, m, digs n, rfl, h, by rw [ival_digs], digs_length_le hk⟩
end Go.Proofs.YtldfamjlnphokaaGreatDoor
