/- Layer 3's laws: the direction of a mark. -/
import Derived.Test.YtccndofafljaaaaGreatDoorRMark

set_option linter.unusedVariables false
set_option linter.unusedSimpArgs false

namespace Go.Proofs.YtccndofafljaaaaGreatDoor
open Go Go.RowKit Num

/-- A variable of the type Vector. -/
def Box3 (w : World) (x : Nat) (a b c : Int) : Prop := w.heap[x]? = some (.cells #[.int .i64 a, .int .i64 b, .int .i64 c] 58 (0, 0))
section
variable {w w' : World} {x : Nat} {a b c : Int}
theorem Box3.c0 (h : Box3 w x a b c) : w.cell? ⟨x, 0, none⟩ = some (.int .i64 a) := cell_of_row w x 0 _ _ (0, 0) h
theorem Box3.c1 (h : Box3 w x a b c) : w.cell? ⟨x, 1, none⟩ = some (.int .i64 b) := cell_of_row w x 1 _ _ (0, 0) h
theorem Box3.c2 (h : Box3 w x a b c) : w.cell? ⟨x, 2, none⟩ = some (.int .i64 c) := cell_of_row w x 2 _ _ (0, 0) h
theorem Box3.f0 (h : Box3 w x a b c) : w.frozen? ⟨x, 0, none⟩ = false := frozen_of_row w x 0 _ _ h
theorem Box3.f1 (h : Box3 w x a b c) : w.frozen? ⟨x, 1, none⟩ = false := frozen_of_row w x 1 _ _ h
theorem Box3.f2 (h : Box3 w x a b c) : w.frozen? ⟨x, 2, none⟩ = false := frozen_of_row w x 2 _ _ h
theorem Box3.new (w : World) (a b c : Int) : Box3 (w.alloc (.cells #[.int .i64 a, .int .i64 b, .int .i64 c] 58)) w.heap.size a b c := heap_alloc_new w _
theorem Box3.lt (h : Box3 w x a b c) : x < w.heap.size := by
  rcases Nat.lt_or_ge x w.heap.size with hlt | hge
  · exact hlt
  · unfold Box3 at h; rw [Array.getElem?_eq_none hge] at h; cases h
theorem Box3.alloc (h : Box3 w x a b c) (o : Obj) : Box3 (w.alloc o) x a b c := (Below.heap_alloc w o x h.lt).trans h
theorem Box3.below {B : Nat} (h : Box3 w x a b c) (hb : Below B w w') (hx : x < B) : Box3 w' x a b c := (hb.block x hx).trans h
def st3 (w : World) (x : Nat) (u0 u1 u2 : Value) : World := ((w.setCell ⟨x, 0, none⟩ u0).setCell ⟨x, 1, none⟩ u1).setCell ⟨x, 2, none⟩ u2
theorem Box3.store (h : Box3 w x a b c) (a' b' c' : Int) : Box3 (st3 w x (.int .i64 a') (.int .i64 b') (.int .i64 c')) x a' b' c' := by
  have h1 : Box3 (w.setCell ⟨x, 0, none⟩ (.int .i64 a')) x a' b c := heap_setCell_same w x 0 _ _ (.int .i64 a') h
  have h2 : Box3 ((w.setCell ⟨x, 0, none⟩ (.int .i64 a')).setCell ⟨x, 1, none⟩ (.int .i64 b')) x a' b' c := heap_setCell_same _ x 1 _ _ (.int .i64 b') h1
  exact heap_setCell_same _ x 2 _ _ (.int .i64 c') h2
theorem Box3.far3 {y : Nat} (h : Box3 w x a b c) (hne : x ≠ y) (u0 u1 u2 : Value) : Box3 (st3 w y u0 u1 u2) x a b c :=
  ((heap_setCell_other _ ⟨y, 2, none⟩ x u2 hne).trans ((heap_setCell_other _ ⟨y, 1, none⟩ x u1 hne).trans (heap_setCell_other w ⟨y, 0, none⟩ x u0 hne))).trans h
theorem Below.store3 {B y : Nat} {a : World} (h : Below B a w) (hx : B ≤ y) (u0 u1 u2 : Value) : Below B a (st3 w y u0 u1 u2) :=
  ((h.setCell (p := ⟨y, 0, none⟩) hx u0).setCell (p := ⟨y, 1, none⟩) hx u1).setCell (p := ⟨y, 2, none⟩) hx u2
end
/-- The direction of a mark: n quarter turns of the one of k. -/
def xI (n : Nat) (k : Int) : Int := match n with | 0 => 4096 - k * k | 1 => -(128 * k) | 2 => -(4096 - k * k) | _ => 128 * k
def yI (n : Nat) (k : Int) : Int := match n with | 0 => 128 * k | 1 => 4096 - k * k | 2 => -(128 * k) | _ => -(4096 - k * k)
theorem xI_step {n : Nat} (h : n < 3) (k : Int) : xI (n + 1) k = -(yI n k) ∧ yI (n + 1) k = xI n k := by
  obtain rfl | rfl | rfl : n = 0 ∨ n = 1 ∨ n = 2 := by omega
  · exact ⟨rfl, rfl⟩
  · exact ⟨rfl, rfl⟩
  · exact ⟨by show 128 * k = -(-(128 * k)); omega, rfl⟩
theorem kk_bound {k : Int} (h : 0 ≤ k) (h2 : k < 64) : 0 ≤ k * k ∧ k * k ≤ 3969 := ⟨Int.mul_nonneg h h, by have := Int.mul_le_mul (show k ≤ 63 by omega) (show k ≤ 63 by omega) h (show (0 : Int) ≤ 63 by omega); omega⟩
theorem xI_bound (n : Nat) {k : Int} (h : 0 ≤ k) (h2 : k < 64) : -8192 ≤ xI n k ∧ xI n k ≤ 8192 ∧ -8192 ≤ yI n k ∧ yI n k ≤ 8192 := by
  have hk := kk_bound h h2
  match n with
  | 0 => simp only [xI, yI]; omega
  | 1 => simp only [xI, yI]; omega
  | 2 => simp only [xI, yI]; omega
  | n + 3 => simp only [xI, yI]; omega
/-- The direction of the mark h. -/
def drX (h : Int) : Int := xI (h % 256 / 64).toNat (h % 256 % 64)
def drY (h : Int) : Int := yI (h % 256 / 64).toNat (h % 256 % 64)
def drD (h : Int) : Int := 4096 + (h % 256 % 64) * (h % 256 % 64)
theorem Mod_as {a b m : Int} (e : a % b = m) (w : World) (h1 : -9223372036854775808 ≤ a) (h2 : a ≤ 9223372036854775807) (g1 : 1 ≤ b) (g2 : b ≤ 1000) :
    Calls Tryz.prog 35 #[.int .i64 a, .int .i64 b] w fun e w' => e = .returned (.int .i64 m) ∧ Below w.heap.size w w' := by subst e; exact Mod_r a b w h1 h2 g1 g2

set_option maxRecDepth 100000 in
set_option maxHeartbeats 4000000 in
theorem direction_v (h : Int) {w : World} (h1 : -9223372036854775808 ≤ h) (h2 : h ≤ 9223372036854775807) :
    Calls Tryz.prog 33 #[.int .i64 h] w fun e w' => e = .returned (.agg #[.int .i64 (drX h), .int .i64 (drY h), .int .i64 (drD h)]) ∧ Below w.heap.size w w' := by
  obtain ⟨m, hm⟩ : ∃ m, h % 256 = m := ⟨_, rfl⟩
  have m1 : 0 ≤ m := by omega
  have m2 : m < 256 := by omega
  obtain ⟨k, hk⟩ : ∃ k, m % 64 = k := ⟨_, rfl⟩
  obtain ⟨j, hj⟩ : ∃ j, m / 64 = j := ⟨_, rfl⟩
  have EX : Hid (xI j.toNat k = drX h) := by unfold Hid drX; rw [hm, hk, hj]
  have EY : Hid (yI j.toNat k = drY h) := by unfold Hid drY; rw [hm, hk, hj]
  have ED : Hid (4096 + k * k = drD h) := by unfold Hid drD; rw [hm, hk]
  have k1 : 0 ≤ k := by omega
  have k2 : k < 64 := by omega
  have j1 : 0 ≤ j := by omega
  have j2 : j < 4 := by omega
  have kb := kk_bound k1 k2
  have HM := Lib.hid (Mod_as hm)
  clear hm
  have B_r := Lib.hid (Box3.new w 0 0 0)
  have HB := Lib.hid ((Below.refl w.heap.size w).alloc (Nat.le_refl _) (.cells #[.int .i64 (0), .int .i64 (0), .int .i64 (0)] 58))
  go_enter Tryz.func33, Tryz.ntmps33
  go_wp2_with fail
  generalize w.alloc (.cells #[.int .i64 (0), .int .i64 (0), .int .i64 (0)] 58) = W0 at *
  refine (HM.out _ h1 h2 (by omega) (by omega)).mono ?_
  rintro e w1 ⟨rfl, bb⟩
  replace B_r := Lib.hid (Box3.below B_r.out bb B_r.out.lt)
  replace HB := Lib.hid (nextw HB.out bb)
  clear bb
  have hs0 : w.heap.size < w1.heap.size := B_r.out.lt
  have hk' : m % 64 = k := hk
  have hj' : m / 64 = j := hj
  have B_v := Lib.hid (Box3.new w1 (4096 - k * k) (128 * k) (4096 + k * k))
  replace B_r := Lib.hid (Box3.alloc B_r.out (.cells #[.int .i64 (4096 - k * k), .int .i64 (128 * k), .int .i64 (4096 + k * k)] 58))
  replace HB := Lib.hid (nextw HB.out ((Below.refl w1.heap.size w1).alloc (Nat.le_refl _) (.cells #[.int .i64 (4096 - k * k), .int .i64 (128 * k), .int .i64 (4096 + k * k)] 58)))
  have hmm : (m % 64) * (m % 64) = k * k := by rw [hk]
  have hmb : 0 ≤ (m % 64) * (m % 64) ∧ (m % 64) * (m % 64) ≤ 3969 := by rw [hk]; exact kb
  go_wp2_with fail
  rw [hk]
  generalize w1.alloc (.cells #[.int .i64 (4096 - k * k), .int .i64 (128 * k), .int .i64 (4096 + k * k)] 58) = W1 at *
  clear hk hk' hj' hmm hmb
  go_loopw [5] (fun i wr => ∃ n : Nat, (n : Int) ≤ j ∧ i = .int .i64 n ∧ Box3 wr w1.heap.size (xI n k) (yI n k) (4096 + k * k) ∧ Box3 wr w.heap.size 0 0 0 ∧ Below w.heap.size w wr) (fun i _ => 4 - (RowKit.intOf i).toNat)
  case atStart => exact ⟨0, by omega, rfl, B_v.out, B_r.out, HB.out⟩
  case round =>
    clear B_v B_r HB
    obtain ⟨n, hn, rfl, bv, br, hb⟩ := hrel
    have hx := xI_bound n k1 k2
    by_cases hlt : (n : Int) < j
    · have hs := xI_step (n := n) (by omega) k
      generalize xI n k = x at *
      generalize yI n k = y at *
      have c0 := bv.c0
      have c1 := bv.c1
      have c2 := bv.c2
      have f0 := bv.f0
      have f1 := bv.f1
      have f2 := bv.f2
      have BV := Lib.hid bv
      have BR := Lib.hid br
      have HB := Lib.hid hb
      clear bv br hb
      go_wp2
      go_roundw
      case rel => exact ⟨n + 1, by omega, by go_num, by rw [hs.1, hs.2]; exact BV.out.store (-y) x _, BR.out.far3 (by omega) _ _ _, Below.store3 HB.out (by omega) _ _ _⟩
      case measure => simp only [RowKit.intOf]; omega
    · have EJ : Hid (j.toNat = n) := by unfold Hid; omega
      have hlt2 : j ≤ (n : Int) := by omega
      have HX : Hid (xI n k = drX h) := by unfold Hid; rw [← EJ.out]; exact EX.out
      have HY : Hid (yI n k = drY h) := by unfold Hid; rw [← EJ.out]; exact EY.out
      rw [HX.out, HY.out, ED.out] at bv
      have c0 := bv.c0
      have c1 := bv.c1
      have c2 := bv.c2
      have f0 := br.f0
      have f1 := br.f1
      have f2 := br.f2
      have r0 := br.c0
      have r1 := br.c1
      have r2 := br.c2
      have sS := br.store (drX h) (drY h) (drD h)
      have s0 := sS.c0
      have s1 := sS.c1
      have s2 := sS.c2
      simp only [st3] at s0 s1 s2
      have HF := Lib.hid (Below.store3 hb (y := w.heap.size) (Nat.le_refl _) (.int .i64 (drX h)) (.int .i64 (drY h)) (.int .i64 (drD h)))
      clear sS bv br hb hx
      go_wp2_with fail
      exact bodyPost_ret (v := .agg #[.int .i64 (drX h), .int .i64 (drY h), .int .i64 (drD h)]) (by simp [results, Tryz.results33, go_sem, s0, s1, s2]) rfl ⟨rfl, nextw HF.out (by exact ⟨rfl, rfl, rfl, Nat.le_refl _, fun _ _ => rfl⟩)⟩
end Go.Proofs.YtccndofafljaaaaGreatDoor
