/- Contracts by value: an Int of at most n words that stands for z.
   The reference: cmp.
   The reference: Cmp.
   What stores into variables of the type Int leave of the values. -/
import Derived.Test.YtccndofafljaaaaGreatDoorAwk1
import Derived.Test.YtccndofafljaaaaGreatDoorRefA

set_option linter.unusedVariables false
set_option linter.unusedSimpArgs false

namespace Go.Proofs.YtccndofafljaaaaGreatDoor
open Go Go.RowKit Num

/-- v reads as an Int of the value z, of at most n words. -/
def Rd (w : World) (v : Value) (z : Int) (n : Nat) : Prop := ∃ s m l, v = .agg #[.bool s, m] ∧ U32 w m l ∧ ival s l = z ∧ l.length ≤ n
/-- v is the canonical Int of z, which takes at most n words. -/
def Rc (w : World) (v : Value) (z : Int) (n : Nat) : Prop := Can w v z ∧ z.natAbs < 4294967296 ^ n

theorem Rd.below {w w' : World} {v : Value} {z : Int} {n : Nat} (h : Rd w v z n) (hb : Below w.heap.size w w') : Rd w' v z n := by
  obtain ⟨s, m, l, e, hu, hz, hl⟩ := h
  exact ⟨s, m, l, e, hu.below hb, hz, hl⟩
theorem Rc.below {w w' : World} {v : Value} {z : Int} {n : Nat} (h : Rc w v z n) (hb : Below w.heap.size w w') : Rc w' v z n := ⟨h.1.below hb, h.2⟩
theorem Rc.rd {w : World} {v : Value} {z : Int} {n : Nat} (h : Rc w v z n) : Rd w v z n := by
  obtain ⟨⟨m, e, hu⟩, hz⟩ := h
  exact ⟨_, m, _, e, hu, ival_can z, digs_length_le hz⟩
theorem Rc.of_eq {w : World} {v : Value} {z z' : Int} {n : Nat} (h : Rc w v z n) (e : z = z') : Rc w v z' n := by subst e; exact h
theorem ival_abs (s : Bool) (l : List Nat) : (ival s l).natAbs = val l := by unfold ival; cases s <;> simp
theorem pow_mono {n k : Nat} (h : n ≤ k) : 4294967296 ^ n ≤ 4294967296 ^ k := Nat.pow_le_pow_right (by omega) h
theorem Rd.abs {w : World} {v : Value} {z : Int} {n : Nat} (h : Rd w v z n) : z.natAbs < 4294967296 ^ n := by
  obtain ⟨s, m, l, -, hu, rfl, hl⟩ := h
  rw [ival_abs]
  exact Nat.lt_of_lt_of_le (val_lt hu.lt) (pow_mono hl)
theorem Rd.more {w : World} {v : Value} {z : Int} {n k : Nat} (h : Rd w v z n) (hk : n ≤ k) : Rd w v z k := by
  obtain ⟨s, m, l, e, hu, hz, hl⟩ := h
  exact ⟨s, m, l, e, hu, hz, Nat.le_trans hl hk⟩
theorem Rc.more {w : World} {v : Value} {z : Int} {n k : Nat} (h : Rc w v z n) (hk : n ≤ k) : Rc w v z k := ⟨h.1, Nat.lt_of_lt_of_le h.2 (pow_mono hk)⟩
theorem Rd.shape {w : World} {v : Value} {z : Int} {n : Nat} (h : Rd w v z n) : ∃ s A k c, v = .agg #[.bool s, .slice A k c] ∧ k ≤ n := by
  obtain ⟨s, m, l, rfl, hu, -, hl⟩ := h
  obtain ⟨A, c, rfl, -⟩ := hu.form
  exact ⟨_, _, _, _, rfl, hl⟩
theorem Rc.shape {w : World} {v : Value} {z : Int} {n : Nat} (h : Rc w v z n) : ∃ s A k c, v = .agg #[.bool s, .slice A k c] := h.1.shape
/-- The sign and the number of words of a canonical Int. -/
theorem Rc.form {w : World} {v : Value} {z : Int} {n : Nat} (h : Rc w v z n) : ∃ A c, v = .agg #[.bool (decide (z < 0)), .slice A (digs z.natAbs).length c] := by
  obtain ⟨⟨m, e, hu⟩, hz⟩ := h
  obtain ⟨A, c, rfl, -⟩ := hu.form
  exact ⟨A, c, e⟩

theorem add_words {x y : Int} {n k : Nat} (hx : x.natAbs < 4294967296 ^ n) (hy : y.natAbs < 4294967296 ^ k) : (x + y).natAbs < 4294967296 ^ (n + k + 1) := by
  have h1 := pow_mono (show n ≤ n + k by omega)
  have h2 := pow_mono (show k ≤ n + k by omega)
  have h3 : 0 < 4294967296 ^ (n + k) := Nat.pow_pos (by omega)
  rw [Nat.pow_succ]
  have := Int.natAbs_add_le x y
  omega
theorem sub_words {x y : Int} {n k : Nat} (hx : x.natAbs < 4294967296 ^ n) (hy : y.natAbs < 4294967296 ^ k) : (x - y).natAbs < 4294967296 ^ (n + k + 1) := by
  rw [Int.sub_eq_add_neg]
  exact add_words hx (by rw [Int.natAbs_neg]; exact hy)
theorem mul_words {x y : Int} {n k : Nat} (hx : x.natAbs < 4294967296 ^ n) (hy : y.natAbs < 4294967296 ^ k) : (x * y).natAbs < 4294967296 ^ (n + k) := by
  rw [Int.natAbs_mul, Nat.pow_add]
  exact Nat.mul_lt_mul'' hx hy
theorem div_words {x y : Int} {n : Nat} (hx : x.natAbs < 4294967296 ^ n) : (x / y).natAbs < 4294967296 ^ n := by
  refine Nat.lt_of_le_of_lt ?_ hx
  exact Int.natAbs_ediv_le_natAbs x y
theorem mod_words {x y : Int} {n : Nat} (hy : y.natAbs < 4294967296 ^ n) (h0 : y ≠ 0) : (x % y).natAbs < 4294967296 ^ n := by
  have h1 := Int.emod_nonneg x h0
  have h2 := Int.emod_lt x h0
  omega
theorem word2 {n : Int} (h1 : -9223372036854775808 ≤ n) (h2 : n ≤ 9223372036854775807) : n.natAbs < 4294967296 ^ 2 := by omega

section
variable {v1 v2 : Value} {z1 z2 : Int} {n1 n2 : Nat} {w : World}
theorem Add_rd (h1 : Rd w v1 z1 n1) (h2 : Rd w v2 z2 n2) (f1 : n1 ≤ 50000) (f2 : n2 ≤ 50000) :
    Calls Tryz.prog 52 #[v1, v2] w fun e w' => ∃ v, e = .returned v ∧ Rc w' v (z1 + z2) (n1 + n2 + 1) ∧ Below w.heap.size w w' := by
  have a1 := h1.abs
  have a2 := h2.abs
  obtain ⟨s1, m1, l1, rfl, u1, rfl, e1⟩ := h1
  obtain ⟨s2, m2, l2, rfl, u2, rfl, e2⟩ := h2
  exact (Add_any s1 s2 m1 m2 l1 l2 w u1 u2 (by omega) (by omega)).mono fun e w' ⟨v, he, hc, hb⟩ => ⟨v, he, ⟨hc, add_words a1 a2⟩, hb⟩
theorem Sub_rd (h1 : Rd w v1 z1 n1) (h2 : Rd w v2 z2 n2) (f1 : n1 ≤ 50000) (f2 : n2 ≤ 50000) :
    Calls Tryz.prog 65 #[v1, v2] w fun e w' => ∃ v, e = .returned v ∧ Rc w' v (z1 - z2) (n1 + n2 + 1) ∧ Below w.heap.size w w' := by
  have a1 := h1.abs
  have a2 := h2.abs
  obtain ⟨s1, m1, l1, rfl, u1, rfl, e1⟩ := h1
  obtain ⟨s2, m2, l2, rfl, u2, rfl, e2⟩ := h2
  exact (Sub_any s1 s2 m1 m2 l1 l2 w u1 u2 (by omega) (by omega)).mono fun e w' ⟨v, he, hc, hb⟩ => ⟨v, he, ⟨hc, sub_words a1 a2⟩, hb⟩
theorem Mul_rd (h1 : Rd w v1 z1 n1) (h2 : Rd w v2 z2 n2) (f1 : n1 ≤ 50000) (f2 : n2 ≤ 50000) :
    Calls Tryz.prog 46 #[v1, v2] w fun e w' => ∃ v, e = .returned v ∧ Rc w' v (z1 * z2) (n1 + n2) ∧ Below w.heap.size w w' := by
  have a1 := h1.abs
  have a2 := h2.abs
  obtain ⟨s1, m1, l1, rfl, u1, rfl, e1⟩ := h1
  obtain ⟨s2, m2, l2, rfl, u2, rfl, e2⟩ := h2
  exact (Mul_any s1 s2 m1 m2 l1 l2 w u1 u2 (by omega) (by omega)).mono fun e w' ⟨v, he, hc, hb⟩ => ⟨v, he, ⟨hc, mul_words a1 a2⟩, hb⟩
theorem DivMod_rd (h1 : Rd w v1 z1 n1) (h2 : Rd w v2 z2 n2) (f1 : n1 ≤ 50000) (f2 : n2 ≤ 50000) (h0 : z2 ≠ 0) :
    Calls Tryz.prog 80 #[v1, v2] w fun e w' => ∃ q r, e = .returned (.tuple #[q, r, .int .i64 0]) ∧ Rc w' q (z1 / z2) n1 ∧ Rc w' r (z1 % z2) n2 ∧ Below w.heap.size w w' := by
  have a1 := h1.abs
  have a2 := h2.abs
  obtain ⟨s1, m1, l1, rfl, u1, rfl, e1⟩ := h1
  obtain ⟨s2, m2, l2, rfl, u2, rfl, e2⟩ := h2
  have hv : 0 < val l2 := by have := ival_abs s2 l2; omega
  exact (DivMod_any s1 s2 m1 m2 l1 l2 w u1 u2 (by omega) (by omega) hv).mono fun e w' ⟨q, r, he, hq, hr, hb⟩ => ⟨q, r, he, ⟨hq, div_words a1⟩, ⟨hr, mod_words a2 h0⟩, hb⟩
theorem DivMod_rd0 (h1 : Rd w v1 z1 n1) (h2 : Rd w v2 0 n2) (f1 : n1 ≤ 50000) (f2 : n2 ≤ 50000) :
    Calls Tryz.prog 80 #[v1, v2] w fun e w' => e = .returned (.tuple #[.agg #[.bool false, .slice none 0 0], .agg #[.bool false, .slice none 0 0], .int .i64 10]) ∧ Below w.heap.size w w' := by
  obtain ⟨s1, m1, l1, rfl, u1, rfl, e1⟩ := h1
  obtain ⟨s2, m2, l2, rfl, u2, h0, e2⟩ := h2
  have hv : val l2 = 0 := by have := ival_abs s2 l2; omega
  exact DivMod_zero s1 s2 m1 m2 l1 l2 w u1 u2 (by omega) (by omega) hv
theorem Abs_rd (h1 : Rd w v1 z1 n1) (f1 : n1 ≤ 50000) :
    Calls Tryz.prog 57 #[v1] w fun e w' => ∃ v, e = .returned v ∧ Rc w' v (z1.natAbs : Nat) n1 ∧ Below w.heap.size w w' := by
  have a1 := h1.abs
  obtain ⟨s1, m1, l1, rfl, u1, rfl, e1⟩ := h1
  refine (Abs_any s1 m1 l1 w u1 (by omega)).mono fun e w' ⟨v, he, hc, hb⟩ => ⟨v, he, ⟨?_, by simpa using a1⟩, hb⟩
  rw [ival_abs]; exact hc
theorem Sign_rd (h1 : Rd w v1 z1 n1) :
    Calls Tryz.prog 56 #[v1] w fun e w' => e = .returned (.int .i64 (sgn z1)) ∧ Below w.heap.size w w' := by
  obtain ⟨s1, m1, l1, rfl, u1, rfl, e1⟩ := h1
  exact Sign_any s1 m1 l1 w u1
theorem Sign_rd_eq (h1 : Rd w v1 z1 n1) (h : z1 = 0) :
    Calls Tryz.prog 56 #[v1] w fun e w' => e = .returned (.int .i64 0) ∧ Below w.heap.size w w' := by
  have e : sgn z1 = 0 := by unfold sgn; rw [if_neg (by omega), if_pos h]
  rw [← e]; exact Sign_rd h1
theorem Sign_rd_gt (h1 : Rd w v1 z1 n1) (h : 0 < z1) :
    Calls Tryz.prog 56 #[v1] w fun e w' => e = .returned (.int .i64 1) ∧ Below w.heap.size w w' := by
  have e : sgn z1 = 1 := by unfold sgn; rw [if_neg (by omega), if_neg (by omega)]
  rw [← e]; exact Sign_rd h1
theorem Sign_rd_lt (h1 : Rd w v1 z1 n1) (h : z1 < 0) :
    Calls Tryz.prog 56 #[v1] w fun e w' => e = .returned (.int .i64 (-1)) ∧ Below w.heap.size w w' := by
  have e : sgn z1 = -1 := by unfold sgn; rw [if_pos h]
  rw [← e]; exact Sign_rd h1
theorem Cmp_rd (h1 : Rd w v1 z1 n1) (h2 : Rd w v2 z2 n2) (f1 : n1 ≤ 50000) (f2 : n2 ≤ 50000) :
    Calls Tryz.prog 45 #[v1, v2] w fun e w' => e = .returned (.int .i64 (cmpI z1 z2)) ∧ Below w.heap.size w w' := by
  obtain ⟨s1, m1, l1, rfl, u1, rfl, e1⟩ := h1
  obtain ⟨s2, m2, l2, rfl, u2, rfl, e2⟩ := h2
  exact Cmp_any s1 s2 m1 m2 l1 l2 w u1 u2 (by omega) (by omega)
theorem Cmp_rd_eq (h1 : Rd w v1 z1 n1) (h2 : Rd w v2 z2 n2) (f1 : n1 ≤ 50000) (f2 : n2 ≤ 50000) (h : z1 = z2) :
    Calls Tryz.prog 45 #[v1, v2] w fun e w' => e = .returned (.int .i64 0) ∧ Below w.heap.size w w' := by
  have e : cmpI z1 z2 = 0 := by unfold cmpI; rw [if_neg (by omega), if_neg (by omega)]
  rw [← e]; exact Cmp_rd h1 h2 f1 f2
theorem Cmp_rd_lt (h1 : Rd w v1 z1 n1) (h2 : Rd w v2 z2 n2) (f1 : n1 ≤ 50000) (f2 : n2 ≤ 50000) (h : z1 < z2) :
    Calls Tryz.prog 45 #[v1, v2] w fun e w' => e = .returned (.int .i64 (-1)) ∧ Below w.heap.size w w' := by
  have e : cmpI z1 z2 = -1 := by unfold cmpI; rw [if_pos h]
  rw [← e]; exact Cmp_rd h1 h2 f1 f2
theorem Cmp_rd_gt (h1 : Rd w v1 z1 n1) (h2 : Rd w v2 z2 n2) (f1 : n1 ≤ 50000) (f2 : n2 ≤ 50000) (h : z2 < z1) :
    Calls Tryz.prog 45 #[v1, v2] w fun e w' => e = .returned (.int .i64 1) ∧ Below w.heap.size w w' := by
  have e : cmpI z1 z2 = 1 := by unfold cmpI; rw [if_neg (by omega), if_pos h]
  rw [← e]; exact Cmp_rd h1 h2 f1 f2
theorem Of_rc (n : Int) (h1 : -9223372036854775808 ≤ n) (h2 : n ≤ 9223372036854775807) :
    Calls Tryz.prog 41 #[.int .i64 n] w fun e w' => ∃ v, e = .returned v ∧ Rc w' v n 2 ∧ Below w.heap.size w w' :=
  (Of_any n w h1 h2).mono fun e w' ⟨v, he, hc, hb⟩ => ⟨v, he, ⟨hc, word2 h1 h2⟩, hb⟩
end
theorem Rd.u32 {w : World} {s : Bool} {m : Value} {z : Int} {n : Nat} (h : Rd w (.agg #[.bool s, m]) z n) : ∃ l, U32 w m l ∧ ival s l = z ∧ l.length ≤ n := by
  obtain ⟨s', m', l, e, hu, hz, hl⟩ := h
  simp only [Value.agg.injEq, Array.mk.injEq, List.cons.injEq, and_true, Value.bool.injEq] at e
  obtain ⟨rfl, rfl⟩ := e
  exact ⟨l, hu, hz, hl⟩
end Go.Proofs.YtccndofafljaaaaGreatDoor

namespace Go.Proofs.YtccndofafljaaaaGreatDoor
open Go Go.RowKit Num

end Go.Proofs.YtccndofafljaaaaGreatDoor

namespace Go.Proofs.YtccndofafljaaaaGreatDoor
open Go Go.RowKit Num

theorem Box.keeps' {w : World} {x : Nat} {s : Bool} {A : Option Addr} {n c : Nat} {v : Value} {z : Int} {k : Nat} (h : Box w x s (.slice A n c)) (hu : Rc w v z k) (s' : Bool) (m' : Value) : Rc ((w.setCell ⟨x, 0, none⟩ (.bool s')).setCell ⟨x, 1, none⟩ m') v z k := ⟨h.can hu.1 s' m', hu.2⟩
end Go.Proofs.YtccndofafljaaaaGreatDoor

namespace Go.Proofs.YtccndofafljaaaaGreatDoor
open Go Go.RowKit Num

theorem Box.keepsRc {w : World} {x : Nat} {s : Bool} {A : Option Addr} {n c : Nat} {v : Value} {z : Int} {k : Nat} (h : Box w x s (.slice A n c)) (hu : Rc w v z k) (s' : Bool) (m' : Value) : Rc ((w.setCell ⟨x, 0, none⟩ (.bool s')).setCell ⟨x, 1, none⟩ m') v z k := ⟨h.can hu.1 s' m', hu.2⟩
theorem Box.keepsRd {w : World} {x : Nat} {s : Bool} {A : Option Addr} {n c : Nat} {v : Value} {z : Int} {k : Nat} (h : Box w x s (.slice A n c)) (hu : Rd w v z k) (s' : Bool) (m' : Value) : Rd ((w.setCell ⟨x, 0, none⟩ (.bool s')).setCell ⟨x, 1, none⟩ m') v z k := by
  obtain ⟨s1, m, l, e, hu, hz, hl⟩ := hu
  exact ⟨s1, m, l, e, h.keeps hu s' m', hz, hl⟩
theorem Rd.mag {w : World} {s : Bool} {m : Value} {n k : Nat} (h : Mag w m n) (hk : n < 4294967296 ^ k) : Rd w (.agg #[.bool s, m]) (if s then -(n : Int) else n) k :=
  ⟨s, m, digs n, rfl, h, by rw [ival_digs], digs_length_le hk⟩
end Go.Proofs.YtccndofafljaaaaGreatDoor
