/- heading.Valid, isLower, cmp.Compare, Delta. -/
import Derived.Test.YtincejndchdcdaaHDir
namespace Go.Proofs.Ytincejndchdcdaa
open Go Go.RowKit Hd

/-- An integer that fits the machine's. -/
structure I64 (n : Int) : Prop where
  lo : -9223372036854775808 ≤ n
  hi : n ≤ 9223372036854775807
/-- A vector of such. -/
structure Fit (v : V3) : Prop where
  x : I64 v.x
  y : I64 v.y
  d : I64 v.d

theorem sq_bound {x d : Int} (h1 : -d ≤ x) (h2 : x ≤ d) (hd : d ≤ 67108864) : 0 ≤ x * x ∧ x * x ≤ 4503599627370496 := by
  refine ⟨sq_nonneg x, ?_⟩
  have : x.natAbs * x.natAbs ≤ 67108864 * 67108864 := Nat.mul_le_mul (by omega) (by omega)
  have e : ((x.natAbs * x.natAbs : Nat) : Int) = x * x := by rw [Int.natCast_mul, Int.natAbs_mul_self']
  omega

def SomeBool (b : Bool) (w : World) (e : Ending) (w' : World) : Prop := e = .returned (.bool b) ∧ Below w.heap.size w w'

set_option maxRecDepth 100000 in
set_option maxHeartbeats 1000000 in
theorem Valid_no (v : V3) (hf : Fit v) (hn : ¬ Ok v) (w : World) :
    Calls Try.prog 20 #[vv v] w fun e w' => e = .returned (.bool false) ∧ Below w.heap.size w w' := by
  obtain ⟨⟨x1, x2⟩, ⟨y1, y2⟩, ⟨d1, d2⟩⟩ := hf
  obtain ⟨x, y, d⟩ := v
  simp only at x1 x2 y1 y2 d1 d2
  have hb : Below w.heap.size w (w.alloc (.cells #[.int .i64 x, .int .i64 y, .int .i64 d] 24)) := (Below.refl _ _).alloc (Nat.le_refl _) _
  have HB := Lib.hid hb
  clear hb
  by_cases c1 : d < 1
  · clear hn
    go_enter Try.func20, Try.ntmps20
    go_wp2
    go_ret
    exact ⟨rfl, HB.out⟩
  by_cases c2 : 67108864 < d
  · clear hn
    go_enter Try.func20, Try.ntmps20
    go_wp2
    go_ret
    exact ⟨rfl, HB.out⟩
  by_cases c3 : x < -d
  · clear hn
    go_enter Try.func20, Try.ntmps20
    go_wp2
    go_ret
    exact ⟨rfl, HB.out⟩
  by_cases c4 : d < x
  · clear hn
    go_enter Try.func20, Try.ntmps20
    go_wp2
    go_ret
    exact ⟨rfl, HB.out⟩
  by_cases c5 : y < -d
  · clear hn
    go_enter Try.func20, Try.ntmps20
    go_wp2
    go_ret
    exact ⟨rfl, HB.out⟩
  by_cases c6 : d < y
  · clear hn
    go_enter Try.func20, Try.ntmps20
    go_wp2
    go_ret
    exact ⟨rfl, HB.out⟩
  have hx := sq_bound (show -d ≤ x by omega) (by omega) (by omega)
  have hy := sq_bound (show -d ≤ y by omega) (by omega) (by omega)
  have hd := sq_bound (show -d ≤ d by omega) (by omega) (by omega)
  have he : (x * x + y * y == d * d) = false := by
    rw [beq_eq_false_iff_ne]; intro h; exact hn ⟨by show 1 ≤ d; omega, by show d ≤ 67108864; omega, h⟩
  clear hn
  go_enter Try.func20, Try.ntmps20
  go_wp2
  go_ret
  exact ⟨rfl, HB.out⟩

set_option maxRecDepth 100000 in
set_option maxHeartbeats 1000000 in
theorem Valid_yes (v : V3) (h : Ok v) (w : World) :
    Calls Try.prog 20 #[vv v] w fun e w' => e = .returned (.bool true) ∧ Below w.heap.size w w' := by
  have hbx := h.bx
  have hby := h.by_
  obtain ⟨h1, h2, h3⟩ := h
  obtain ⟨x, y, d⟩ := v
  simp only at h1 h2 h3 hbx hby
  have hb : Below w.heap.size w (w.alloc (.cells #[.int .i64 x, .int .i64 y, .int .i64 d] 24)) := (Below.refl _ _).alloc (Nat.le_refl _) _
  have HB := Lib.hid hb
  clear hb
  have hx := sq_bound (show -d ≤ x by omega) (by omega) (by omega)
  have hy := sq_bound (show -d ≤ y by omega) (by omega) (by omega)
  have hd := sq_bound (show -d ≤ d by omega) (by omega) (by omega)
  have he : (x * x + y * y == d * d) = true := by rw [h3]; simp
  clear h3
  go_enter Try.func20, Try.ntmps20
  go_wp2
  go_ret
  exact ⟨rfl, HB.out⟩

/-- An angle of 180 degrees or more. -/
def lowB (v : V3) : Bool := decide (v.y < 0 ∨ v.y = 0 ∧ v.x < 0)
set_option maxRecDepth 100000 in
set_option maxHeartbeats 1000000 in
theorem isLower_any (v : V3) (w : World) :
    Calls Try.prog 50 #[vv v] w fun e w' => e = .returned (.bool (lowB v)) ∧ Below w.heap.size w w' := by
  obtain ⟨x, y, d⟩ := v
  have hb : Below w.heap.size w (w.alloc (.cells #[.int .i64 x, .int .i64 y, .int .i64 d] 24)) := (Below.refl _ _).alloc (Nat.le_refl _) _
  have HB := Lib.hid hb
  have ht := @decide_eq_true (y < 0 ∨ y = 0 ∧ x < 0) inferInstance
  have hn := @decide_eq_false (y < 0 ∨ y = 0 ∧ x < 0) inferInstance
  have HT : Hid ((y < 0 ∨ y = 0 ∧ x < 0) → lowB ⟨x, y, d⟩ = true) := ht
  have HN : Hid (¬ (y < 0 ∨ y = 0 ∧ x < 0) → lowB ⟨x, y, d⟩ = false) := hn
  clear hb ht hn
  by_cases c1 : y < 0
  · rw [HT.out (by omega)]
    go_enter Try.func50, Try.ntmps50
    go_wp2
    go_ret
    exact ⟨rfl, HB.out⟩
  by_cases c2 : y = 0
  · subst c2
    by_cases c3 : x < 0
    · rw [HT.out (by omega)]
      go_enter Try.func50, Try.ntmps50
      go_wp2
      go_ret
      exact ⟨rfl, HB.out⟩
    · rw [HN.out (by omega)]
      go_enter Try.func50, Try.ntmps50
      go_wp2
      go_ret
      exact ⟨rfl, HB.out⟩
  · rw [HN.out (by omega)]
    have hz : (y == 0) = false := by simpa using c2
    go_enter Try.func50, Try.ntmps50
    go_wp2
    go_ret
    exact ⟨rfl, HB.out⟩

/-- -1, 0 or 1. -/
def cmpI (a b : Int) : Int := if a < b then -1 else if b < a then 1 else 0
set_option maxRecDepth 100000 in
set_option maxHeartbeats 1000000 in
theorem Compare_any (a b : Int) (w : World) :
    Calls Try.prog 51 #[.int .i64 a, .int .i64 b] w fun e w' => e = .returned (.int .i64 (cmpI a b)) ∧ w = w' := by
  rcases Int.lt_trichotomy a b with h | h | h
  · have HC : Hid (cmpI a b = -1) := by unfold Hid cmpI; rw [if_pos h]
    rw [HC.out]
    go_enter Try.func51, Try.ntmps51
    go_wp2
    go_ret
    exact ⟨rfl, rfl⟩
  · subst h
    have HC : Hid (cmpI a a = 0) := by unfold Hid cmpI; rw [if_neg (by omega), if_neg (by omega)]
    rw [HC.out]
    go_enter Try.func51, Try.ntmps51
    go_wp2
    go_ret
    exact ⟨rfl, rfl⟩
  · have HC : Hid (cmpI a b = 1) := by unfold Hid cmpI; rw [if_neg (by omega), if_pos h]
    have hn : ¬ a < b := by omega
    rw [HC.out]
    go_enter Try.func51, Try.ntmps51
    go_wp2
    go_ret
    exact ⟨rfl, rfl⟩

/-- The integer from -128 to 127 that is congruent. -/
def delta (a b : Int) : Int := (b - a + 128) % 256 - 128
theorem delta_wrap (a b : Int) : wrap64 (IntKind.i8.wrap (wrap64 (b - a))) = delta a b := by
  have e : ∀ n, IntKind.i8.wrap n = if 128 ≤ n % 256 then n % 256 - 256 else n % 256 := by
    intro n
    have e1 : (2 ^ IntKind.i8.bits : Int) = 256 := by decide
    have e2 : (2 ^ (IntKind.i8.bits - 1) : Int) = 128 := by decide
    have e3 : IntKind.i8.signed = true := rfl
    unfold IntKind.wrap
    simp only [e1, e2, e3, Bool.true_and, decide_eq_true_eq, ge_iff_le]
  rw [e]; unfold wrap64 delta; split <;> omega
theorem ret_i64 {a b : Int} (h : a = b) : Ending.returned (.int .i64 a) = .returned (.int .i64 b) := by rw [h]
set_option maxHeartbeats 1000000 in
theorem Delta_any (a b : Int) (w : World) :
    Calls Try.prog 18 #[.int .i64 a, .int .i64 b] w fun e w' => e = .returned (.int .i64 (delta a b)) ∧ w = w' := by
  go_enter Try.func18, Try.ntmps18
  go_wp2
  go_ret
  exact ⟨ret_i64 (delta_wrap a b), rfl⟩
end Go.Proofs.Ytincejndchdcdaa
