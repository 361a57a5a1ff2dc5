/- box: Split. -/
import Derived.Test.YtjpdahalplkfbaaB2
set_option linter.unusedVariables false
set_option linter.unusedSimpArgs false
namespace Go.Proofs.Ytjpdahalplkfbaa
open Go Go.RowKit Hd

theorem sm_drew (w : World) : Below w.heap.size w w.drew := ⟨rfl, rfl, rfl, Nat.le_refl _, fun _ _ => rfl⟩
/-- The size of a dimension. -/
def sz (n m : Int) : Int := if n = 1 then 0 else n * m
theorem sz_bd {n m s : Int} (h : sz n m = s) (h1 : 0 ≤ n) (h2 : n ≤ 2097153) (hm : 0 ≤ m ∧ m ≤ 8) : 0 ≤ s ∧ s ≤ 16777224 := by
  have k := mul_le (a := n) (b := m) (A := 2097153) (B := 8) (by omega) h2 (by omega) hm.2
  have k2 := Int.mul_nonneg h1 hm.1
  unfold sz at h; split at h <;> omega
/-- Which dimension is divided. -/
def spX (x0 y0 x1 y1 c : Int) : Prop := x0 < x1 ∧ (y0 < y1 → y1 - y0 ≤ x1 - x0) ∧ (1 < c → 8 * c ≤ x1 - x0 + 1)
instance (x0 y0 x1 y1 c : Int) : Decidable (spX x0 y0 x1 y1 c) := inferInstanceAs (Decidable (_ ∧ _))
def spY (y0 y1 c : Int) : Prop := y0 < y1 ∧ (1 < c → 8 * c ≤ y1 - y0 + 1)
instance (y0 y1 c : Int) : Decidable (spY y0 y1 c) := inferInstanceAs (Decidable (_ ∧ _))
/-- A box of one pose. -/
def oneP (x0 y0 x1 y1 c : Int) : Prop := x0 = x1 ∧ y0 = y1 ∧ c = 1
instance (x0 y0 x1 y1 c : Int) : Decidable (oneP x0 y0 x1 y1 c) := inferInstanceAs (Decidable (_ ∧ _))
def splitV (x0 y0 x1 y1 f c : Int) : Value := if OkB x0 y0 x1 y1 f c then if oneP x0 y0 x1 y1 c then .tuple #[.agg #[.int .i64 0, .int .i64 0, .int .i64 0, .int .i64 0, .int .i64 0, .int .i64 0], .agg #[.int .i64 0, .int .i64 0, .int .i64 0, .int .i64 0, .int .i64 0, .int .i64 0], .bool false] else if spX x0 y0 x1 y1 c then .tuple #[.agg #[.int .i64 x0, .int .i64 y0, .int .i64 (x0 + (x1 - x0 + 1) / 2 - 1), .int .i64 y1, .int .i64 f, .int .i64 c], .agg #[.int .i64 (x0 + (x1 - x0 + 1) / 2), .int .i64 y0, .int .i64 x1, .int .i64 y1, .int .i64 f, .int .i64 c], .bool true] else if spY y0 y1 c then .tuple #[.agg #[.int .i64 x0, .int .i64 y0, .int .i64 x1, .int .i64 (y0 + (y1 - y0 + 1) / 2 - 1), .int .i64 f, .int .i64 c], .agg #[.int .i64 x0, .int .i64 (y0 + (y1 - y0 + 1) / 2), .int .i64 x1, .int .i64 y1, .int .i64 f, .int .i64 c], .bool true] else .tuple #[.agg #[.int .i64 x0, .int .i64 y0, .int .i64 x1, .int .i64 y1, .int .i64 f, .int .i64 (c / 2)], .agg #[.int .i64 x0, .int .i64 y0, .int .i64 x1, .int .i64 y1, .int .i64 ((f + c / 2) % 256), .int .i64 (c - c / 2)], .bool true] else .tuple #[.agg #[.int .i64 0, .int .i64 0, .int .i64 0, .int .i64 0, .int .i64 0, .int .i64 0], .agg #[.int .i64 0, .int .i64 0, .int .i64 0, .int .i64 0, .int .i64 0, .int .i64 0], .bool false]
theorem tup2 {a0 a1 a2 a3 a4 a5 b0 b1 b2 b3 b4 b5 A0 A1 A2 A3 A4 A5 B0 B1 B2 B3 B4 B5 : Int} (h : (a0 = A0 ∧ a1 = A1 ∧ a2 = A2 ∧ a3 = A3 ∧ a4 = A4 ∧ a5 = A5) ∧ (b0 = B0 ∧ b1 = B1 ∧ b2 = B2 ∧ b3 = B3 ∧ b4 = B4 ∧ b5 = B5)) : (.tuple #[.agg #[.int .i64 a0, .int .i64 a1, .int .i64 a2, .int .i64 a3, .int .i64 a4, .int .i64 a5], .agg #[.int .i64 b0, .int .i64 b1, .int .i64 b2, .int .i64 b3, .int .i64 b4, .int .i64 b5], .bool true] : Value) = .tuple #[.agg #[.int .i64 A0, .int .i64 A1, .int .i64 A2, .int .i64 A3, .int .i64 A4, .int .i64 A5], .agg #[.int .i64 B0, .int .i64 B1, .int .i64 B2, .int .i64 B3, .int .i64 B4, .int .i64 B5], .bool true] := by
  obtain ⟨⟨rfl, rfl, rfl, rfl, rfl, rfl⟩, rfl, rfl, rfl, rfl, rfl, rfl⟩ := h; rfl

set_option maxRecDepth 100000 in
set_option maxHeartbeats 4000000 in
theorem size_w0 (n m : Int)  (hn : -4194304 ≤ n ∧ n ≤ 4194304) (hm : 0 ≤ m ∧ m ≤ 8) (dd0 : n = 1) (w : World) :
    Calls Try.prog 52 #[.int .i64 n, .int .i64 m] w fun e w' => e = .returned (.int .i64 0) ∧ Below w.heap.size w w' := by
  have hmm := mul_le (a := n) (b := m) (A := 4194304) (B := 8) hn.1 hn.2 (by omega) hm.2
  have HB := Lib.hid (Below.refl w.heap.size w)
  go_enter Try.func52, Try.ntmps52
  go_upto_region 1 with (fail)
  go_wp2
  go_ret
  exact ⟨(by first | rfl | exact rbt (by omega) | exact rbf (by omega)), nextw HB.out (by exact sm)⟩

set_option maxRecDepth 100000 in
set_option maxHeartbeats 4000000 in
theorem size_w1 (n m : Int)  (hn : -4194304 ≤ n ∧ n ≤ 4194304) (hm : 0 ≤ m ∧ m ≤ 8) (dd0 : ¬ (n = 1)) (w : World) :
    Calls Try.prog 52 #[.int .i64 n, .int .i64 m] w fun e w' => e = .returned (.int .i64 (n * m)) ∧ Below w.heap.size w w' := by
  have hmm := mul_le (a := n) (b := m) (A := 4194304) (B := 8) hn.1 hn.2 (by omega) hm.2
  have HB := Lib.hid (Below.refl w.heap.size w)
  go_enter Try.func52, Try.ntmps52
  go_upto_region 1 with (fail)
  go_wp2
  go_ret
  exact ⟨(by first | rfl | exact rbt (by omega) | exact rbf (by omega)), nextw HB.out (by exact sm)⟩

def sizeV (n m : Int) : Value := if n = 1 then .int .i64 0 else .int .i64 (n * m)
theorem size_any (n m : Int) (hn : -4194304 ≤ n ∧ n ≤ 4194304) (hm : 0 ≤ m ∧ m ≤ 8) (w : World) :
    Calls Try.prog 52 #[.int .i64 n, .int .i64 m] w fun e w' => e = .returned (sizeV n m) ∧ Below w.heap.size w w' := by
  unfold sizeV
  by_cases dd0 : n = 1
  · rw [if_pos dd0]
    exact size_w0 n m   hn hm dd0 w
  · rw [if_neg dd0]
    exact size_w1 n m   hn hm dd0 w

theorem sz_at {n m s : Int} (hs : sz n m = s) (h1 : -4194304 ≤ n) (h2 : n ≤ 4194304) (w : World) (hm : 0 ≤ m ∧ m ≤ 8 := by decide) : Calls Try.prog 52 #[.int .i64 n, .int .i64 m] w fun e w' => e = .returned (.int .i64 s) ∧ Below w.heap.size w w' := by
  rw [← show sizeV n m = .int .i64 s from (by rw [← hs]; unfold sizeV sz; split <;> rfl)]; exact size_any n m ⟨h1, h2⟩ hm w

set_option maxRecDepth 100000 in
set_option maxHeartbeats 4000000 in
theorem Split_w0 (x0 y0 x1 y1 f c : Int) (MX0 MX1 MX2 MX3 MX4 : Int) (mx0 : (sz ((x1 - x0) + 1) 1) = MX0) (mx1 : (sz ((y1 - y0) + 1) 1) = MX1) (mx2 : (sz c 8) = MX2) (mx3 : (if MX0 < MX1 then MX1 else MX0) = MX3) (mx4 : (if MX3 < MX2 then MX2 else MX3) = MX4)  (dd0 : OkB x0 y0 x1 y1 f c) (dd1 : MX4 = 0) (w : World) :
    Calls Try.prog 26 #[.agg #[.int .i64 x0, .int .i64 y0, .int .i64 x1, .int .i64 y1, .int .i64 f, .int .i64 c]] w fun e w' => e = .returned (.tuple #[.agg #[.int .i64 0, .int .i64 0, .int .i64 0, .int .i64 0, .int .i64 0, .int .i64 0], .agg #[.int .i64 0, .int .i64 0, .int .i64 0, .int .i64 0, .int .i64 0, .int .i64 0], .bool false]) ∧ Below w.heap.size w w' := by
  have H0 := Lib.hid (fun w => Valid_yes dd0 w)
  have H1 := Lib.hid (fun w => sz_at mx0 (by have := dd0.b; omega) (by have := dd0.b; omega) w)
  have H2 := Lib.hid (fun w => sz_at mx1 (by have := dd0.b; omega) (by have := dd0.b; omega) w)
  have H3 := Lib.hid (fun w => sz_at mx2 (by have := dd0.b; omega) (by have := dd0.b; omega) w)
  replace mx0 := Lib.hid mx0
  replace mx1 := Lib.hid mx1
  replace mx2 := Lib.hid mx2
  replace mx3 := Lib.hid mx3
  replace mx4 := Lib.hid mx4
  have dd0b := dd0.b
  have sb0 := sz_bd mx0.out (by omega) (by omega) (by omega)
  have sb1 := sz_bd mx1.out (by omega) (by omega) (by omega)
  have sb2 := sz_bd mx2.out (by omega) (by omega) (by omega)
  obtain ⟨HB, B_z0, B_z1, B_z2⟩ := box3 w 23 #[.int .i64 x0, .int .i64 y0, .int .i64 x1, .int .i64 y1, .int .i64 f, .int .i64 c] 23 #[.int .i64 0, .int .i64 0, .int .i64 0, .int .i64 0, .int .i64 0, .int .i64 0] 23 #[.int .i64 0, .int .i64 0, .int .i64 0, .int .i64 0, .int .i64 0, .int .i64 0]
  go_enter Try.func26, Try.ntmps26
  go_upto_region 1 with (fail)
  generalize ((w.alloc (.cells #[.int .i64 x0, .int .i64 y0, .int .i64 x1, .int .i64 y1, .int .i64 f, .int .i64 c] 23)).alloc (.cells #[.int .i64 0, .int .i64 0, .int .i64 0, .int .i64 0, .int .i64 0, .int .i64 0] 23)).alloc (.cells #[.int .i64 0, .int .i64 0, .int .i64 0, .int .i64 0, .int .i64 0, .int .i64 0] 23) = W0 at *
  obtain ⟨c0z0, c1z0, c2z0, c3z0, c4z0, c5z0⟩ := cells6 B_z0
  go_wp2_with fail
  refine (H0.out _).mono ?_
  clear c0z0 c1z0 c2z0 c3z0 c4z0 c5z0
  rintro e w1 ⟨rfl, bb⟩
  replace bb := nextw (w0 := W0) (by exact sm) bb
  replace B_z0 := mv B_z0 bb
  replace B_z1 := mv B_z1 bb
  replace B_z2 := mv B_z2 bb
  replace HB := nx HB bb
  clear bb
  go_upto_region 3 with (fail)
  have wq3x0 : IntKind.i64.wrap (x1 - x0) = x1 - x0 := by rw [IntKind.wrap_i64]; omega
  have wq3x1 : IntKind.i64.wrap ((x1 - x0) + 1) = (x1 - x0) + 1 := by rw [IntKind.wrap_i64]; omega
  have wq3x2 : IntKind.i64.wrap (y1 - y0) = y1 - y0 := by rw [IntKind.wrap_i64]; omega
  have wq3x3 : IntKind.i64.wrap ((y1 - y0) + 1) = (y1 - y0) + 1 := by rw [IntKind.wrap_i64]; omega
  obtain ⟨c0z0, c1z0, c2z0, c3z0, -, c5z0⟩ := cells6 B_z0
  have tk1x0 : True := trivial
  go_region_held3 (fun w' => w'.cell? ⟨w.heap.size, 0, none⟩ = some (.int .i64 x0) ∧ w'.cell? ⟨w.heap.size, 1, none⟩ = some (.int .i64 y0) ∧ w'.cell? ⟨w.heap.size, 2, none⟩ = some (.int .i64 x1) ∧ w'.cell? ⟨w.heap.size, 3, none⟩ = some (.int .i64 y1) ∧ w'.cell? ⟨w.heap.size, 5, none⟩ = some (.int .i64 c)) (((try dsimp only); (repeat' apply And.intro) <;> (first | (with_reducible assumption) | ((repeat (first | (with_reducible refine Eq.trans (cell_drew1 _ _) ?_) | (with_reducible refine Eq.trans (cell_far (by omega) _ _ _) ?_) | (with_reducible refine Eq.trans (World.cell?_alloc_lt _ _ _ (by first | (dsimp only; omega) | (simp only [World.size_alloc, World.size_setCell]; omega))) ?_))); with_reducible assumption) | assumption | go_keep)))
    (first
      | (clear tk1x0; go_at_call 52; refine (H1.out _).mono ?_; rintro e w2 ⟨rfl, bb⟩; replace bb := nextw (w0 := w1) (by exact sm) bb; replace B_z0 := mv B_z0 bb; replace B_z1 := mv B_z1 bb; replace B_z2 := mv B_z2 bb; replace HB := nx HB bb; clear bb c0z0 c1z0 c2z0 c3z0 c5z0; have c0z0 : w2.cell? ⟨w.heap.size, 0, none⟩ = some (.int .i64 x0) := B_z0.out.cell 0 rfl; have c1z0 : w2.cell? ⟨w.heap.size, 1, none⟩ = some (.int .i64 y0) := B_z0.out.cell 1 rfl; have c2z0 : w2.cell? ⟨w.heap.size, 2, none⟩ = some (.int .i64 x1) := B_z0.out.cell 2 rfl; have c3z0 : w2.cell? ⟨w.heap.size, 3, none⟩ = some (.int .i64 y1) := B_z0.out.cell 3 rfl; have c5z0 : w2.cell? ⟨w.heap.size, 5, none⟩ = some (.int .i64 c) := B_z0.out.cell 5 rfl; have tk1x1 : True := trivial)
      | (clear tk1x1; go_at_call 52; refine (H2.out _).mono ?_; rintro e w3 ⟨rfl, bb⟩; replace bb := nextw (w0 := w2) (by exact sm) bb; replace B_z0 := mv B_z0 bb; replace B_z1 := mv B_z1 bb; replace B_z2 := mv B_z2 bb; replace HB := nx HB bb; clear bb c0z0 c1z0 c2z0 c3z0 c5z0; have c0z0 : w3.cell? ⟨w.heap.size, 0, none⟩ = some (.int .i64 x0) := B_z0.out.cell 0 rfl; have c1z0 : w3.cell? ⟨w.heap.size, 1, none⟩ = some (.int .i64 y0) := B_z0.out.cell 1 rfl; have c2z0 : w3.cell? ⟨w.heap.size, 2, none⟩ = some (.int .i64 x1) := B_z0.out.cell 2 rfl; have c3z0 : w3.cell? ⟨w.heap.size, 3, none⟩ = some (.int .i64 y1) := B_z0.out.cell 3 rfl; have c5z0 : w3.cell? ⟨w.heap.size, 5, none⟩ = some (.int .i64 c) := B_z0.out.cell 5 rfl; have tk1x2 : True := trivial)
      | (clear tk1x2; go_at_call 52; refine (H3.out _).mono ?_; rintro e w4 ⟨rfl, bb⟩; replace bb := nextw (w0 := w3) (by exact sm) bb; replace B_z0 := mv B_z0 bb; replace B_z1 := mv B_z1 bb; replace B_z2 := mv B_z2 bb; replace HB := nx HB bb; clear bb c0z0 c1z0 c2z0 c3z0 c5z0; have c0z0 : w4.cell? ⟨w.heap.size, 0, none⟩ = some (.int .i64 x0) := B_z0.out.cell 0 rfl; have c1z0 : w4.cell? ⟨w.heap.size, 1, none⟩ = some (.int .i64 y0) := B_z0.out.cell 1 rfl; have c2z0 : w4.cell? ⟨w.heap.size, 2, none⟩ = some (.int .i64 x1) := B_z0.out.cell 2 rfl; have c3z0 : w4.cell? ⟨w.heap.size, 3, none⟩ = some (.int .i64 y1) := B_z0.out.cell 3 rfl; have c5z0 : w4.cell? ⟨w.heap.size, 5, none⟩ = some (.int .i64 c) := B_z0.out.cell 5 rfl; have tk1x3 : True := trivial))
  clear c0z0 c1z0 c2z0 c3z0 c5z0
  go_upto_region 4 with (fail)
  go_cut [8, 9] (fun sv0 sv1 wx => ∃ Pz3 Pz4 : Nat, sv0 = (.pointer (some ⟨Pz3, 0, none⟩)) ∧ sv1 = (.pointer (some ⟨Pz4, 0, none⟩)) ∧ Hid (Pz3 ≠ Pz4) ∧ Hid (w.heap.size ≠ Pz3) ∧ Hid (w.heap.size ≠ Pz4) ∧ Hid (w.heap.size + 1 ≠ Pz3) ∧ Hid (w.heap.size + 1 ≠ Pz4) ∧ Hid (w.heap.size + 1 + 1 ≠ Pz3) ∧ Hid (w.heap.size + 1 + 1 ≠ Pz4) ∧ Hid (w.heap.size ≤ Pz3) ∧ Hid (w.heap.size ≤ Pz4) ∧ Hid (Bx wx (Pz3) 23 #[.int .i64 x0, .int .i64 y0, .int .i64 x1, .int .i64 y1, .int .i64 f, .int .i64 c]) ∧ Hid (Bx wx (Pz4) 23 #[.int .i64 x0, .int .i64 y0, .int .i64 x1, .int .i64 y1, .int .i64 f, .int .i64 c]) ∧ Hid (Bx wx (w.heap.size) 23 #[.int .i64 x0, .int .i64 y0, .int .i64 x1, .int .i64 y1, .int .i64 f, .int .i64 c]) ∧ Hid (Bx wx (w.heap.size + 1) 23 #[.int .i64 0, .int .i64 0, .int .i64 0, .int .i64 0, .int .i64 0, .int .i64 0]) ∧ Hid (Bx wx (w.heap.size + 1 + 1) 23 #[.int .i64 0, .int .i64 0, .int .i64 0, .int .i64 0, .int .i64 0, .int .i64 0]) ∧ Hid (Below w.heap.size w wx))
  case first =>
    obtain ⟨c0z0, c1z0, c2z0, c3z0, c4z0, c5z0⟩ := cells6 B_z0
    have lt_z0 := B_z0.out.lt
    go_region_held3 (fun w' => w'.cell? ⟨w.heap.size, 0, none⟩ = some (.int .i64 x0) ∧ w'.cell? ⟨w.heap.size, 1, none⟩ = some (.int .i64 y0) ∧ w'.cell? ⟨w.heap.size, 2, none⟩ = some (.int .i64 x1) ∧ w'.cell? ⟨w.heap.size, 3, none⟩ = some (.int .i64 y1) ∧ w'.cell? ⟨w.heap.size, 4, none⟩ = some (.int .i64 f) ∧ w'.cell? ⟨w.heap.size, 5, none⟩ = some (.int .i64 c)) (((try dsimp only); (repeat' apply And.intro) <;> (first | (with_reducible assumption) | ((repeat (first | (with_reducible refine Eq.trans (cell_drew1 _ _) ?_) | (with_reducible refine Eq.trans (cell_far (by omega) _ _ _) ?_) | (with_reducible refine Eq.trans (World.cell?_alloc_lt _ _ _ (by first | (dsimp only; omega) | (simp only [World.size_alloc, World.size_setCell]; omega))) ?_))); with_reducible assumption) | assumption | go_keep)))
        (first | fail)
    all_goals clear c0z0 c1z0 c2z0 c3z0 c4z0 c5z0 lt_z0
    all_goals go_wp2_with fail
    all_goals go_meet
    all_goals first
        | (refine ⟨w4.heap.size, w4.heap.size + 1, rfl, rfl, ?_⟩; have lx_z0 := B_z0.out.lt; have lx_z1 := B_z1.out.lt; have lx_z2 := B_z2.out.lt; obtain ⟨bb, b0, b1⟩ := box2 w4 23 #[.int .i64 x0, .int .i64 y0, .int .i64 x1, .int .i64 y1, .int .i64 f, .int .i64 c] 23 #[.int .i64 x0, .int .i64 y0, .int .i64 x1, .int .i64 y1, .int .i64 f, .int .i64 c]; replace bb := bb.out; have hs := HB.out.size; exact ⟨(by unfold Hid; omega), (by unfold Hid; omega), (by unfold Hid; omega), (by unfold Hid; omega), (by unfold Hid; omega), (by unfold Hid; omega), (by unfold Hid; omega), (by unfold Hid; omega), (by unfold Hid; omega), mv b0 sm, mv b1 sm, mv (mv B_z0 bb) sm, mv (mv B_z1 bb) sm, mv (mv B_z2 bb) sm, nx (nx HB bb) sm⟩)
        | (refine ⟨w4.heap.size + 1, w4.heap.size, rfl, rfl, ?_⟩; have lx_z0 := B_z0.out.lt; have lx_z1 := B_z1.out.lt; have lx_z2 := B_z2.out.lt; obtain ⟨bb, b0, b1⟩ := box2 w4 23 #[.int .i64 x0, .int .i64 y0, .int .i64 x1, .int .i64 y1, .int .i64 f, .int .i64 c] 23 #[.int .i64 x0, .int .i64 y0, .int .i64 x1, .int .i64 y1, .int .i64 f, .int .i64 c]; replace bb := bb.out; have hs := HB.out.size; exact ⟨(by unfold Hid; omega), (by unfold Hid; omega), (by unfold Hid; omega), (by unfold Hid; omega), (by unfold Hid; omega), (by unfold Hid; omega), (by unfold Hid; omega), (by unfold Hid; omega), (by unfold Hid; omega), mv b1 sm, mv b0 sm, mv (mv B_z0 bb) sm, mv (mv B_z1 bb) sm, mv (mv B_z2 bb) sm, nx (nx HB bb) sm⟩)
  case rest =>
    clear B_z0
    clear B_z1
    clear B_z2
    clear HB
    rename World => wc5
    obtain ⟨Pz3, Pz4, rfl, rfl, ne01Pz3, noz0Pz3, noz0Pz4, noz1Pz3, noz1Pz4, noz2Pz3, noz2Pz4, lePz3, lePz4, B_z3, B_z4, B_z0, B_z1, B_z2, HB⟩ := hcut
    have ne01Pz3' := ne01Pz3.out
    have noz0Pz3' := noz0Pz3.out
    have noz0Pz4' := noz0Pz4.out
    have noz1Pz3' := noz1Pz3.out
    have noz1Pz4' := noz1Pz4.out
    have noz2Pz3' := noz2Pz3.out
    have noz2Pz4' := noz2Pz4.out
    have lePz3' := lePz3.out
    have lePz4' := lePz4.out
    have mxo3 := mx3.out
    have mxo4 := mx4.out
    have ne_ab : (w.heap.size + 1) ≠ (w.heap.size + 1 + 1) := by omega
    have ne_ba : (w.heap.size + 1 + 1) ≠ (w.heap.size + 1) := by omega
    obtain ⟨c0z1, c1z1, c2z1, c3z1, c4z1, c5z1⟩ := cells6 B_z1
    obtain ⟨f0z1, f1z1, f2z1, f3z1, f4z1, f5z1⟩ := froz6 B_z1
    obtain ⟨c0z2, c1z2, c2z2, c3z2, c4z2, c5z2⟩ := cells6 B_z2
    obtain ⟨f0z2, f1z2, f2z2, f3z2, f4z2, f5z2⟩ := froz6 B_z2
    go_wp2_with fail
    have t_z1q := stor6 B_z1 (.int .i64 0) (.int .i64 0) (.int .i64 0) (.int .i64 0) (.int .i64 0) (.int .i64 0); have m_z2q := far6 B_z2 ne_ba 0 (.int .i64 0) 1 (.int .i64 0) 2 (.int .i64 0) 3 (.int .i64 0) 4 (.int .i64 0) 5 (.int .i64 0); have p_z2q := stor6 m_z2q (.int .i64 0) (.int .i64 0) (.int .i64 0) (.int .i64 0) (.int .i64 0) (.int .i64 0); have p_z1q := far6 t_z1q ne_ab 0 (.int .i64 0) 1 (.int .i64 0) 2 (.int .i64 0) 3 (.int .i64 0) 4 (.int .i64 0) 5 (.int .i64 0); obtain ⟨s0, s1, s2, s3, s4, s5⟩ := cells6 p_z1q; obtain ⟨r0, r1, r2, r3, r4, r5⟩ := cells6 p_z2q; have HF := stb6 (stb6 HB (y := w.heap.size + 1) (by omega) 0 (.int .i64 0) 1 (.int .i64 0) 2 (.int .i64 0) 3 (.int .i64 0) 4 (.int .i64 0) 5 (.int .i64 0)) (y := w.heap.size + 1 + 1) (by omega) 0 (.int .i64 0) 1 (.int .i64 0) 2 (.int .i64 0) 3 (.int .i64 0) 4 (.int .i64 0) 5 (.int .i64 0)
    exact bodyPost_ret (v := .tuple #[.agg #[.int .i64 0, .int .i64 0, .int .i64 0, .int .i64 0, .int .i64 0, .int .i64 0], .agg #[.int .i64 0, .int .i64 0, .int .i64 0, .int .i64 0, .int .i64 0, .int .i64 0], .bool false]) (by simp [results, Try.results26, go_sem, s0, s1, s2, s3, s4, s5, r0, r1, r2, r3, r4, r5]) rfl ⟨rfl, nextw HF.out (by exact sm)⟩

set_option maxRecDepth 100000 in
set_option maxHeartbeats 4000000 in
theorem Split_w1 (x0 y0 x1 y1 f c : Int)   (dd0 : ¬ (OkB x0 y0 x1 y1 f c)) (w : World) :
    Calls Try.prog 26 #[.agg #[.int .i64 x0, .int .i64 y0, .int .i64 x1, .int .i64 y1, .int .i64 f, .int .i64 c]] w fun e w' => e = .returned (.tuple #[.agg #[.int .i64 0, .int .i64 0, .int .i64 0, .int .i64 0, .int .i64 0, .int .i64 0], .agg #[.int .i64 0, .int .i64 0, .int .i64 0, .int .i64 0, .int .i64 0, .int .i64 0], .bool false]) ∧ Below w.heap.size w w' := by
  have H0 := Lib.hid (fun w => Valid_no dd0 w)
  obtain ⟨HB, B_z0, B_z1, B_z2⟩ := box3 w 23 #[.int .i64 x0, .int .i64 y0, .int .i64 x1, .int .i64 y1, .int .i64 f, .int .i64 c] 23 #[.int .i64 0, .int .i64 0, .int .i64 0, .int .i64 0, .int .i64 0, .int .i64 0] 23 #[.int .i64 0, .int .i64 0, .int .i64 0, .int .i64 0, .int .i64 0, .int .i64 0]
  go_enter Try.func26, Try.ntmps26
  go_upto_region 1 with (fail)
  generalize ((w.alloc (.cells #[.int .i64 x0, .int .i64 y0, .int .i64 x1, .int .i64 y1, .int .i64 f, .int .i64 c] 23)).alloc (.cells #[.int .i64 0, .int .i64 0, .int .i64 0, .int .i64 0, .int .i64 0, .int .i64 0] 23)).alloc (.cells #[.int .i64 0, .int .i64 0, .int .i64 0, .int .i64 0, .int .i64 0, .int .i64 0] 23) = W0 at *
  obtain ⟨c0z0, c1z0, c2z0, c3z0, c4z0, c5z0⟩ := cells6 B_z0
  go_wp2_with fail
  refine (H0.out _).mono ?_
  clear c0z0 c1z0 c2z0 c3z0 c4z0 c5z0
  rintro e w1 ⟨rfl, bb⟩
  replace bb := nextw (w0 := W0) (by exact sm) bb
  replace B_z0 := mv B_z0 bb
  replace B_z1 := mv B_z1 bb
  replace B_z2 := mv B_z2 bb
  replace HB := nx HB bb
  clear bb
  have ne_ab : (w.heap.size + 1) ≠ (w.heap.size + 1 + 1) := by omega
  have ne_ba : (w.heap.size + 1 + 1) ≠ (w.heap.size + 1) := by omega
  obtain ⟨c0z1, c1z1, c2z1, c3z1, c4z1, c5z1⟩ := cells6 B_z1
  obtain ⟨f0z1, f1z1, f2z1, f3z1, f4z1, f5z1⟩ := froz6 B_z1
  obtain ⟨c0z2, c1z2, c2z2, c3z2, c4z2, c5z2⟩ := cells6 B_z2
  obtain ⟨f0z2, f1z2, f2z2, f3z2, f4z2, f5z2⟩ := froz6 B_z2
  go_wp2_with fail
  have t_z1q := stor6 B_z1 (.int .i64 0) (.int .i64 0) (.int .i64 0) (.int .i64 0) (.int .i64 0) (.int .i64 0); have m_z2q := far6 B_z2 ne_ba 0 (.int .i64 0) 1 (.int .i64 0) 2 (.int .i64 0) 3 (.int .i64 0) 4 (.int .i64 0) 5 (.int .i64 0); have p_z2q := stor6 m_z2q (.int .i64 0) (.int .i64 0) (.int .i64 0) (.int .i64 0) (.int .i64 0) (.int .i64 0); have p_z1q := far6 t_z1q ne_ab 0 (.int .i64 0) 1 (.int .i64 0) 2 (.int .i64 0) 3 (.int .i64 0) 4 (.int .i64 0) 5 (.int .i64 0); obtain ⟨s0, s1, s2, s3, s4, s5⟩ := cells6 p_z1q; obtain ⟨r0, r1, r2, r3, r4, r5⟩ := cells6 p_z2q; have HF := stb6 (stb6 HB (y := w.heap.size + 1) (by omega) 0 (.int .i64 0) 1 (.int .i64 0) 2 (.int .i64 0) 3 (.int .i64 0) 4 (.int .i64 0) 5 (.int .i64 0)) (y := w.heap.size + 1 + 1) (by omega) 0 (.int .i64 0) 1 (.int .i64 0) 2 (.int .i64 0) 3 (.int .i64 0) 4 (.int .i64 0) 5 (.int .i64 0)
  exact bodyPost_ret (v := .tuple #[.agg #[.int .i64 0, .int .i64 0, .int .i64 0, .int .i64 0, .int .i64 0, .int .i64 0], .agg #[.int .i64 0, .int .i64 0, .int .i64 0, .int .i64 0, .int .i64 0, .int .i64 0], .bool false]) (by simp [results, Try.results26, go_sem, s0, s1, s2, s3, s4, s5, r0, r1, r2, r3, r4, r5]) rfl ⟨rfl, nextw HF.out (by exact sm)⟩

set_option maxRecDepth 100000 in
set_option maxHeartbeats 4000000 in
theorem Split_w2 (x0 y0 x1 y1 f c : Int) (MX0 MX1 MX2 MX3 MX4 : Int) (mx0 : (sz ((x1 - x0) + 1) 1) = MX0) (mx1 : (sz ((y1 - y0) + 1) 1) = MX1) (mx2 : (sz c 8) = MX2) (mx3 : (if MX0 < MX1 then MX1 else MX0) = MX3) (mx4 : (if MX3 < MX2 then MX2 else MX3) = MX4)  (dd0 : OkB x0 y0 x1 y1 f c) (dd1 : ¬ (MX4 = 0)) (dd2 : MX4 = MX0) (w : World) :
    Calls Try.prog 26 #[.agg #[.int .i64 x0, .int .i64 y0, .int .i64 x1, .int .i64 y1, .int .i64 f, .int .i64 c]] w fun e w' => e = .returned (.tuple #[.agg #[.int .i64 x0, .int .i64 y0, .int .i64 ((x0 + (MX0 / 2)) - 1), .int .i64 y1, .int .i64 f, .int .i64 c], .agg #[.int .i64 (x0 + (MX0 / 2)), .int .i64 y0, .int .i64 x1, .int .i64 y1, .int .i64 f, .int .i64 c], .bool true]) ∧ Below w.heap.size w w' := by
  have H0 := Lib.hid (fun w => Valid_yes dd0 w)
  have H1 := Lib.hid (fun w => sz_at mx0 (by have := dd0.b; omega) (by have := dd0.b; omega) w)
  have H2 := Lib.hid (fun w => sz_at mx1 (by have := dd0.b; omega) (by have := dd0.b; omega) w)
  have H3 := Lib.hid (fun w => sz_at mx2 (by have := dd0.b; omega) (by have := dd0.b; omega) w)
  replace mx0 := Lib.hid mx0
  replace mx1 := Lib.hid mx1
  replace mx2 := Lib.hid mx2
  replace mx3 := Lib.hid mx3
  replace mx4 := Lib.hid mx4
  have dd0b := dd0.b
  have sb0 := sz_bd mx0.out (by omega) (by omega) (by omega)
  have sb1 := sz_bd mx1.out (by omega) (by omega) (by omega)
  have sb2 := sz_bd mx2.out (by omega) (by omega) (by omega)
  obtain ⟨HB, B_z0, B_z1, B_z2⟩ := box3 w 23 #[.int .i64 x0, .int .i64 y0, .int .i64 x1, .int .i64 y1, .int .i64 f, .int .i64 c] 23 #[.int .i64 0, .int .i64 0, .int .i64 0, .int .i64 0, .int .i64 0, .int .i64 0] 23 #[.int .i64 0, .int .i64 0, .int .i64 0, .int .i64 0, .int .i64 0, .int .i64 0]
  go_enter Try.func26, Try.ntmps26
  go_upto_region 1 with (fail)
  generalize ((w.alloc (.cells #[.int .i64 x0, .int .i64 y0, .int .i64 x1, .int .i64 y1, .int .i64 f, .int .i64 c] 23)).alloc (.cells #[.int .i64 0, .int .i64 0, .int .i64 0, .int .i64 0, .int .i64 0, .int .i64 0] 23)).alloc (.cells #[.int .i64 0, .int .i64 0, .int .i64 0, .int .i64 0, .int .i64 0, .int .i64 0] 23) = W0 at *
  obtain ⟨c0z0, c1z0, c2z0, c3z0, c4z0, c5z0⟩ := cells6 B_z0
  go_wp2_with fail
  refine (H0.out _).mono ?_
  clear c0z0 c1z0 c2z0 c3z0 c4z0 c5z0
  rintro e w1 ⟨rfl, bb⟩
  replace bb := nextw (w0 := W0) (by exact sm) bb
  replace B_z0 := mv B_z0 bb
  replace B_z1 := mv B_z1 bb
  replace B_z2 := mv B_z2 bb
  replace HB := nx HB bb
  clear bb
  go_upto_region 3 with (fail)
  have wq3x0 : IntKind.i64.wrap (x1 - x0) = x1 - x0 := by rw [IntKind.wrap_i64]; omega
  have wq3x1 : IntKind.i64.wrap ((x1 - x0) + 1) = (x1 - x0) + 1 := by rw [IntKind.wrap_i64]; omega
  have wq3x2 : IntKind.i64.wrap (y1 - y0) = y1 - y0 := by rw [IntKind.wrap_i64]; omega
  have wq3x3 : IntKind.i64.wrap ((y1 - y0) + 1) = (y1 - y0) + 1 := by rw [IntKind.wrap_i64]; omega
  obtain ⟨c0z0, c1z0, c2z0, c3z0, -, c5z0⟩ := cells6 B_z0
  have tk1x0 : True := trivial
  go_region_held3 (fun w' => w'.cell? ⟨w.heap.size, 0, none⟩ = some (.int .i64 x0) ∧ w'.cell? ⟨w.heap.size, 1, none⟩ = some (.int .i64 y0) ∧ w'.cell? ⟨w.heap.size, 2, none⟩ = some (.int .i64 x1) ∧ w'.cell? ⟨w.heap.size, 3, none⟩ = some (.int .i64 y1) ∧ w'.cell? ⟨w.heap.size, 5, none⟩ = some (.int .i64 c)) (((try dsimp only); (repeat' apply And.intro) <;> (first | (with_reducible assumption) | ((repeat (first | (with_reducible refine Eq.trans (cell_drew1 _ _) ?_) | (with_reducible refine Eq.trans (cell_far (by omega) _ _ _) ?_) | (with_reducible refine Eq.trans (World.cell?_alloc_lt _ _ _ (by first | (dsimp only; omega) | (simp only [World.size_alloc, World.size_setCell]; omega))) ?_))); with_reducible assumption) | assumption | go_keep)))
    (first
      | (clear tk1x0; go_at_call 52; refine (H1.out _).mono ?_; rintro e w2 ⟨rfl, bb⟩; replace bb := nextw (w0 := w1) (by exact sm) bb; replace B_z0 := mv B_z0 bb; replace B_z1 := mv B_z1 bb; replace B_z2 := mv B_z2 bb; replace HB := nx HB bb; clear bb c0z0 c1z0 c2z0 c3z0 c5z0; have c0z0 : w2.cell? ⟨w.heap.size, 0, none⟩ = some (.int .i64 x0) := B_z0.out.cell 0 rfl; have c1z0 : w2.cell? ⟨w.heap.size, 1, none⟩ = some (.int .i64 y0) := B_z0.out.cell 1 rfl; have c2z0 : w2.cell? ⟨w.heap.size, 2, none⟩ = some (.int .i64 x1) := B_z0.out.cell 2 rfl; have c3z0 : w2.cell? ⟨w.heap.size, 3, none⟩ = some (.int .i64 y1) := B_z0.out.cell 3 rfl; have c5z0 : w2.cell? ⟨w.heap.size, 5, none⟩ = some (.int .i64 c) := B_z0.out.cell 5 rfl; have tk1x1 : True := trivial)
      | (clear tk1x1; go_at_call 52; refine (H2.out _).mono ?_; rintro e w3 ⟨rfl, bb⟩; replace bb := nextw (w0 := w2) (by exact sm) bb; replace B_z0 := mv B_z0 bb; replace B_z1 := mv B_z1 bb; replace B_z2 := mv B_z2 bb; replace HB := nx HB bb; clear bb c0z0 c1z0 c2z0 c3z0 c5z0; have c0z0 : w3.cell? ⟨w.heap.size, 0, none⟩ = some (.int .i64 x0) := B_z0.out.cell 0 rfl; have c1z0 : w3.cell? ⟨w.heap.size, 1, none⟩ = some (.int .i64 y0) := B_z0.out.cell 1 rfl; have c2z0 : w3.cell? ⟨w.heap.size, 2, none⟩ = some (.int .i64 x1) := B_z0.out.cell 2 rfl; have c3z0 : w3.cell? ⟨w.heap.size, 3, none⟩ = some (.int .i64 y1) := B_z0.out.cell 3 rfl; have c5z0 : w3.cell? ⟨w.heap.size, 5, none⟩ = some (.int .i64 c) := B_z0.out.cell 5 rfl; have tk1x2 : True := trivial)
      | (clear tk1x2; go_at_call 52; refine (H3.out _).mono ?_; rintro e w4 ⟨rfl, bb⟩; replace bb := nextw (w0 := w3) (by exact sm) bb; replace B_z0 := mv B_z0 bb; replace B_z1 := mv B_z1 bb; replace B_z2 := mv B_z2 bb; replace HB := nx HB bb; clear bb c0z0 c1z0 c2z0 c3z0 c5z0; have c0z0 : w4.cell? ⟨w.heap.size, 0, none⟩ = some (.int .i64 x0) := B_z0.out.cell 0 rfl; have c1z0 : w4.cell? ⟨w.heap.size, 1, none⟩ = some (.int .i64 y0) := B_z0.out.cell 1 rfl; have c2z0 : w4.cell? ⟨w.heap.size, 2, none⟩ = some (.int .i64 x1) := B_z0.out.cell 2 rfl; have c3z0 : w4.cell? ⟨w.heap.size, 3, none⟩ = some (.int .i64 y1) := B_z0.out.cell 3 rfl; have c5z0 : w4.cell? ⟨w.heap.size, 5, none⟩ = some (.int .i64 c) := B_z0.out.cell 5 rfl; have tk1x3 : True := trivial))
  clear c0z0 c1z0 c2z0 c3z0 c5z0
  go_upto_region 4 with (fail)
  go_cut [8, 9] (fun sv0 sv1 wx => ∃ Pz3 Pz4 : Nat, sv0 = (.pointer (some ⟨Pz3, 0, none⟩)) ∧ sv1 = (.pointer (some ⟨Pz4, 0, none⟩)) ∧ Hid (Pz3 ≠ Pz4) ∧ Hid (w.heap.size ≠ Pz3) ∧ Hid (w.heap.size ≠ Pz4) ∧ Hid (w.heap.size + 1 ≠ Pz3) ∧ Hid (w.heap.size + 1 ≠ Pz4) ∧ Hid (w.heap.size + 1 + 1 ≠ Pz3) ∧ Hid (w.heap.size + 1 + 1 ≠ Pz4) ∧ Hid (w.heap.size ≤ Pz3) ∧ Hid (w.heap.size ≤ Pz4) ∧ Hid (Bx wx (Pz3) 23 #[.int .i64 x0, .int .i64 y0, .int .i64 x1, .int .i64 y1, .int .i64 f, .int .i64 c]) ∧ Hid (Bx wx (Pz4) 23 #[.int .i64 x0, .int .i64 y0, .int .i64 x1, .int .i64 y1, .int .i64 f, .int .i64 c]) ∧ Hid (Bx wx (w.heap.size) 23 #[.int .i64 x0, .int .i64 y0, .int .i64 x1, .int .i64 y1, .int .i64 f, .int .i64 c]) ∧ Hid (Bx wx (w.heap.size + 1) 23 #[.int .i64 0, .int .i64 0, .int .i64 0, .int .i64 0, .int .i64 0, .int .i64 0]) ∧ Hid (Bx wx (w.heap.size + 1 + 1) 23 #[.int .i64 0, .int .i64 0, .int .i64 0, .int .i64 0, .int .i64 0, .int .i64 0]) ∧ Hid (Below w.heap.size w wx))
  case first =>
    obtain ⟨c0z0, c1z0, c2z0, c3z0, c4z0, c5z0⟩ := cells6 B_z0
    have lt_z0 := B_z0.out.lt
    go_region_held3 (fun w' => w'.cell? ⟨w.heap.size, 0, none⟩ = some (.int .i64 x0) ∧ w'.cell? ⟨w.heap.size, 1, none⟩ = some (.int .i64 y0) ∧ w'.cell? ⟨w.heap.size, 2, none⟩ = some (.int .i64 x1) ∧ w'.cell? ⟨w.heap.size, 3, none⟩ = some (.int .i64 y1) ∧ w'.cell? ⟨w.heap.size, 4, none⟩ = some (.int .i64 f) ∧ w'.cell? ⟨w.heap.size, 5, none⟩ = some (.int .i64 c)) (((try dsimp only); (repeat' apply And.intro) <;> (first | (with_reducible assumption) | ((repeat (first | (with_reducible refine Eq.trans (cell_drew1 _ _) ?_) | (with_reducible refine Eq.trans (cell_far (by omega) _ _ _) ?_) | (with_reducible refine Eq.trans (World.cell?_alloc_lt _ _ _ (by first | (dsimp only; omega) | (simp only [World.size_alloc, World.size_setCell]; omega))) ?_))); with_reducible assumption) | assumption | go_keep)))
        (first | fail)
    all_goals clear c0z0 c1z0 c2z0 c3z0 c4z0 c5z0 lt_z0
    all_goals go_wp2_with fail
    all_goals go_meet
    all_goals first
        | (refine ⟨w4.heap.size, w4.heap.size + 1, rfl, rfl, ?_⟩; have lx_z0 := B_z0.out.lt; have lx_z1 := B_z1.out.lt; have lx_z2 := B_z2.out.lt; obtain ⟨bb, b0, b1⟩ := box2 w4 23 #[.int .i64 x0, .int .i64 y0, .int .i64 x1, .int .i64 y1, .int .i64 f, .int .i64 c] 23 #[.int .i64 x0, .int .i64 y0, .int .i64 x1, .int .i64 y1, .int .i64 f, .int .i64 c]; replace bb := bb.out; have hs := HB.out.size; exact ⟨(by unfold Hid; omega), (by unfold Hid; omega), (by unfold Hid; omega), (by unfold Hid; omega), (by unfold Hid; omega), (by unfold Hid; omega), (by unfold Hid; omega), (by unfold Hid; omega), (by unfold Hid; omega), mv b0 sm, mv b1 sm, mv (mv B_z0 bb) sm, mv (mv B_z1 bb) sm, mv (mv B_z2 bb) sm, nx (nx HB bb) sm⟩)
        | (refine ⟨w4.heap.size + 1, w4.heap.size, rfl, rfl, ?_⟩; have lx_z0 := B_z0.out.lt; have lx_z1 := B_z1.out.lt; have lx_z2 := B_z2.out.lt; obtain ⟨bb, b0, b1⟩ := box2 w4 23 #[.int .i64 x0, .int .i64 y0, .int .i64 x1, .int .i64 y1, .int .i64 f, .int .i64 c] 23 #[.int .i64 x0, .int .i64 y0, .int .i64 x1, .int .i64 y1, .int .i64 f, .int .i64 c]; replace bb := bb.out; have hs := HB.out.size; exact ⟨(by unfold Hid; omega), (by unfold Hid; omega), (by unfold Hid; omega), (by unfold Hid; omega), (by unfold Hid; omega), (by unfold Hid; omega), (by unfold Hid; omega), (by unfold Hid; omega), (by unfold Hid; omega), mv b1 sm, mv b0 sm, mv (mv B_z0 bb) sm, mv (mv B_z1 bb) sm, mv (mv B_z2 bb) sm, nx (nx HB bb) sm⟩)
  case rest =>
    clear B_z0
    clear B_z1
    clear B_z2
    clear HB
    rename World => wc5
    obtain ⟨Pz3, Pz4, rfl, rfl, ne01Pz3, noz0Pz3, noz0Pz4, noz1Pz3, noz1Pz4, noz2Pz3, noz2Pz4, lePz3, lePz4, B_z3, B_z4, B_z0, B_z1, B_z2, HB⟩ := hcut
    have ne01Pz3' := ne01Pz3.out
    have noz0Pz3' := noz0Pz3.out
    have noz0Pz4' := noz0Pz4.out
    have noz1Pz3' := noz1Pz3.out
    have noz1Pz4' := noz1Pz4.out
    have noz2Pz3' := noz2Pz3.out
    have noz2Pz4' := noz2Pz4.out
    have lePz3' := lePz3.out
    have lePz4' := lePz4.out
    have mxo3 := mx3.out
    have mxo4 := mx4.out
    obtain ⟨c0z0, c1z0, c2z0, c3z0, c4z0, c5z0⟩ := cells6 B_z0
    obtain ⟨c0z4, c1z4, c2z4, c3z4, c4z4, c5z4⟩ := cells6 B_z4
    obtain ⟨f0z4, f1z4, f2z4, f3z4, f4z4, f5z4⟩ := froz6 B_z4
    have ne_z0 : Hid ((w.heap.size) ≠ (Pz4)) := by unfold Hid; omega
    have ne_z1 : Hid ((w.heap.size + 1) ≠ (Pz4)) := by unfold Hid; omega
    have ne_z2 : Hid ((w.heap.size + 1 + 1) ≠ (Pz4)) := by unfold Hid; omega
    have ne_z3 : Hid ((Pz3) ≠ (Pz4)) := by unfold Hid; omega
    have n_z4 : Hid (Bx (wc5.setCell ⟨Pz4, 0, none⟩ (.int .i64 (x0 + (MX0 / 2)))) (Pz4) 23 #[.int .i64 (x0 + (MX0 / 2)), .int .i64 y0, .int .i64 x1, .int .i64 y1, .int .i64 f, .int .i64 c]) := (B_z4.out.set 0 (.int .i64 (x0 + (MX0 / 2))))
    have n_z0 := far1 B_z0 ne_z0.out 0 (.int .i64 (x0 + (MX0 / 2)))
    have n_z1 := far1 B_z1 ne_z1.out 0 (.int .i64 (x0 + (MX0 / 2)))
    have n_z2 := far1 B_z2 ne_z2.out 0 (.int .i64 (x0 + (MX0 / 2)))
    have n_z3 := far1 B_z3 ne_z3.out 0 (.int .i64 (x0 + (MX0 / 2)))
    have nHB := stb1 HB (y := Pz4) (by omega) 0 (.int .i64 (x0 + (MX0 / 2)))
    go_upto_region 13 with (fail)
    clear c0z0 c1z0 c2z0 c3z0 c4z0 c5z0 c0z4 c1z4 c2z4 c3z4 c4z4 c5z4 f0z4 f1z4 f2z4 f3z4 f4z4 f5z4
    clear ne_z0 ne_z1 ne_z2 ne_z3
    generalize wc5.setCell ⟨Pz4, 0, none⟩ (.int .i64 (x0 + (MX0 / 2))) = WS7 at *
    clear B_z0
    have B_z0 := n_z0
    clear n_z0
    clear B_z1
    have B_z1 := n_z1
    clear n_z1
    clear B_z2
    have B_z2 := n_z2
    clear n_z2
    clear B_z3
    have B_z3 := n_z3
    clear n_z3
    clear B_z4
    have B_z4 := n_z4
    clear n_z4
    clear HB
    have HB := nHB
    clear nHB
    obtain ⟨c0z4, c1z4, c2z4, c3z4, c4z4, c5z4⟩ := cells6 B_z4
    obtain ⟨c0z3, c1z3, c2z3, c3z3, c4z3, c5z3⟩ := cells6 B_z3
    obtain ⟨f0z3, f1z3, f2z3, f3z3, f4z3, f5z3⟩ := froz6 B_z3
    have ne_z0 : Hid ((w.heap.size) ≠ (Pz3)) := by unfold Hid; omega
    have ne_z1 : Hid ((w.heap.size + 1) ≠ (Pz3)) := by unfold Hid; omega
    have ne_z2 : Hid ((w.heap.size + 1 + 1) ≠ (Pz3)) := by unfold Hid; omega
    have ne_z4 : Hid ((Pz4) ≠ (Pz3)) := by unfold Hid; omega
    have n_z3 : Hid (Bx (WS7.setCell ⟨Pz3, 2, none⟩ (.int .i64 ((x0 + (MX0 / 2)) - 1))) (Pz3) 23 #[.int .i64 x0, .int .i64 y0, .int .i64 ((x0 + (MX0 / 2)) - 1), .int .i64 y1, .int .i64 f, .int .i64 c]) := (B_z3.out.set 2 (.int .i64 ((x0 + (MX0 / 2)) - 1)))
    have n_z0 := far1 B_z0 ne_z0.out 2 (.int .i64 ((x0 + (MX0 / 2)) - 1))
    have n_z1 := far1 B_z1 ne_z1.out 2 (.int .i64 ((x0 + (MX0 / 2)) - 1))
    have n_z2 := far1 B_z2 ne_z2.out 2 (.int .i64 ((x0 + (MX0 / 2)) - 1))
    have n_z4 := far1 B_z4 ne_z4.out 2 (.int .i64 ((x0 + (MX0 / 2)) - 1))
    have nHB := stb1 HB (y := Pz3) (by omega) 2 (.int .i64 ((x0 + (MX0 / 2)) - 1))
    go_upto_region 17 with (fail)
    clear c0z4 c1z4 c2z4 c3z4 c4z4 c5z4 c0z3 c1z3 c2z3 c3z3 c4z3 c5z3 f0z3 f1z3 f2z3 f3z3 f4z3 f5z3
    clear ne_z0 ne_z1 ne_z2 ne_z4
    generalize WS7.setCell ⟨Pz3, 2, none⟩ (.int .i64 ((x0 + (MX0 / 2)) - 1)) = WS8 at *
    clear B_z0
    have B_z0 := n_z0
    clear n_z0
    clear B_z1
    have B_z1 := n_z1
    clear n_z1
    clear B_z2
    have B_z2 := n_z2
    clear n_z2
    clear B_z3
    have B_z3 := n_z3
    clear n_z3
    clear B_z4
    have B_z4 := n_z4
    clear n_z4
    clear HB
    have HB := nHB
    clear nHB
    have ne_ab : (w.heap.size + 1) ≠ (w.heap.size + 1 + 1) := by omega
    have ne_ba : (w.heap.size + 1 + 1) ≠ (w.heap.size + 1) := by omega
    obtain ⟨c0z1, c1z1, c2z1, c3z1, c4z1, c5z1⟩ := cells6 B_z1
    obtain ⟨f0z1, f1z1, f2z1, f3z1, f4z1, f5z1⟩ := froz6 B_z1
    obtain ⟨c0z2, c1z2, c2z2, c3z2, c4z2, c5z2⟩ := cells6 B_z2
    obtain ⟨f0z2, f1z2, f2z2, f3z2, f4z2, f5z2⟩ := froz6 B_z2
    obtain ⟨c0z3, c1z3, c2z3, c3z3, c4z3, c5z3⟩ := cells6 B_z3
    obtain ⟨c0z4, c1z4, c2z4, c3z4, c4z4, c5z4⟩ := cells6 B_z4
    go_region
    clear c0z1 c1z1 c2z1 c3z1 c4z1 c5z1 f0z1 f1z1 f2z1 f3z1 f4z1 f5z1 c0z2 c1z2 c2z2 c3z2 c4z2 c5z2 f0z2 f1z2 f2z2 f3z2 f4z2 f5z2 c0z3 c1z3 c2z3 c3z3 c4z3 c5z3 c0z4 c1z4 c2z4 c3z4 c4z4 c5z4
    have t_z1q := stor6 B_z1 (.int .i64 x0) (.int .i64 y0) (.int .i64 ((x0 + (MX0 / 2)) - 1)) (.int .i64 y1) (.int .i64 f) (.int .i64 c)
    have m_z2q := far6 B_z2 ne_ba 0 (.int .i64 x0) 1 (.int .i64 y0) 2 (.int .i64 ((x0 + (MX0 / 2)) - 1)) 3 (.int .i64 y1) 4 (.int .i64 f) 5 (.int .i64 c)
    have p_z2q := stor6 m_z2q (.int .i64 (x0 + (MX0 / 2))) (.int .i64 y0) (.int .i64 x1) (.int .i64 y1) (.int .i64 f) (.int .i64 c)
    have p_z1q := far6 t_z1q ne_ab 0 (.int .i64 (x0 + (MX0 / 2))) 1 (.int .i64 y0) 2 (.int .i64 x1) 3 (.int .i64 y1) 4 (.int .i64 f) 5 (.int .i64 c)
    have HF := stb6 (stb6 HB (y := w.heap.size + 1) (by omega) 0 (.int .i64 x0) 1 (.int .i64 y0) 2 (.int .i64 ((x0 + (MX0 / 2)) - 1)) 3 (.int .i64 y1) 4 (.int .i64 f) 5 (.int .i64 c)) (y := w.heap.size + 1 + 1) (by omega) 0 (.int .i64 (x0 + (MX0 / 2))) 1 (.int .i64 y0) 2 (.int .i64 x1) 3 (.int .i64 y1) 4 (.int .i64 f) 5 (.int .i64 c)
    have dr := sm_drew (((((((((((((WS8.setCell ⟨w.heap.size + 1, 0, none⟩ (.int .i64 x0)).setCell ⟨w.heap.size + 1, 1, none⟩ (.int .i64 y0)).setCell ⟨w.heap.size + 1, 2, none⟩ (.int .i64 ((x0 + (MX0 / 2)) - 1))).setCell ⟨w.heap.size + 1, 3, none⟩ (.int .i64 y1)).setCell ⟨w.heap.size + 1, 4, none⟩ (.int .i64 f)).setCell ⟨w.heap.size + 1, 5, none⟩ (.int .i64 c)).setCell ⟨w.heap.size + 1 + 1, 0, none⟩ (.int .i64 (x0 + (MX0 / 2)))).setCell ⟨w.heap.size + 1 + 1, 1, none⟩ (.int .i64 y0)).setCell ⟨w.heap.size + 1 + 1, 2, none⟩ (.int .i64 x1)).setCell ⟨w.heap.size + 1 + 1, 3, none⟩ (.int .i64 y1)).setCell ⟨w.heap.size + 1 + 1, 4, none⟩ (.int .i64 f)).setCell ⟨w.heap.size + 1 + 1, 5, none⟩ (.int .i64 c)))
    replace p_z1q := mv p_z1q dr
    replace p_z2q := mv p_z2q dr
    replace HF := nx HF dr
    clear dr
    clear m_z2q t_z1q
    generalize (((((((((((((WS8.setCell ⟨w.heap.size + 1, 0, none⟩ (.int .i64 x0)).setCell ⟨w.heap.size + 1, 1, none⟩ (.int .i64 y0)).setCell ⟨w.heap.size + 1, 2, none⟩ (.int .i64 ((x0 + (MX0 / 2)) - 1))).setCell ⟨w.heap.size + 1, 3, none⟩ (.int .i64 y1)).setCell ⟨w.heap.size + 1, 4, none⟩ (.int .i64 f)).setCell ⟨w.heap.size + 1, 5, none⟩ (.int .i64 c)).setCell ⟨w.heap.size + 1 + 1, 0, none⟩ (.int .i64 (x0 + (MX0 / 2)))).setCell ⟨w.heap.size + 1 + 1, 1, none⟩ (.int .i64 y0)).setCell ⟨w.heap.size + 1 + 1, 2, none⟩ (.int .i64 x1)).setCell ⟨w.heap.size + 1 + 1, 3, none⟩ (.int .i64 y1)).setCell ⟨w.heap.size + 1 + 1, 4, none⟩ (.int .i64 f)).setCell ⟨w.heap.size + 1 + 1, 5, none⟩ (.int .i64 c))).drew = WR at *
    obtain ⟨s0, s1, s2, s3, s4, s5⟩ := cells6 p_z1q
    obtain ⟨r0, r1, r2, r3, r4, r5⟩ := cells6 p_z2q
    go_wp2_with fail
    exact bodyPost_ret (v := .tuple #[.agg #[.int .i64 x0, .int .i64 y0, .int .i64 ((x0 + (MX0 / 2)) - 1), .int .i64 y1, .int .i64 f, .int .i64 c], .agg #[.int .i64 (x0 + (MX0 / 2)), .int .i64 y0, .int .i64 x1, .int .i64 y1, .int .i64 f, .int .i64 c], .bool true]) (by simp [results, Try.results26, go_sem, s0, s1, s2, s3, s4, s5, r0, r1, r2, r3, r4, r5]) rfl ⟨rfl, nextw HF.out (by exact sm)⟩

set_option maxRecDepth 100000 in
set_option maxHeartbeats 4000000 in
theorem Split_w3 (x0 y0 x1 y1 f c : Int) (MX0 MX1 MX2 MX3 MX4 : Int) (mx0 : (sz ((x1 - x0) + 1) 1) = MX0) (mx1 : (sz ((y1 - y0) + 1) 1) = MX1) (mx2 : (sz c 8) = MX2) (mx3 : (if MX0 < MX1 then MX1 else MX0) = MX3) (mx4 : (if MX3 < MX2 then MX2 else MX3) = MX4)  (dd0 : OkB x0 y0 x1 y1 f c) (dd1 : ¬ (MX4 = 0)) (dd2 : ¬ (MX4 = MX0)) (dd3 : MX4 = MX1) (w : World) :
    Calls Try.prog 26 #[.agg #[.int .i64 x0, .int .i64 y0, .int .i64 x1, .int .i64 y1, .int .i64 f, .int .i64 c]] w fun e w' => e = .returned (.tuple #[.agg #[.int .i64 x0, .int .i64 y0, .int .i64 x1, .int .i64 ((y0 + (MX1 / 2)) - 1), .int .i64 f, .int .i64 c], .agg #[.int .i64 x0, .int .i64 (y0 + (MX1 / 2)), .int .i64 x1, .int .i64 y1, .int .i64 f, .int .i64 c], .bool true]) ∧ Below w.heap.size w w' := by
  have H0 := Lib.hid (fun w => Valid_yes dd0 w)
  have H1 := Lib.hid (fun w => sz_at mx0 (by have := dd0.b; omega) (by have := dd0.b; omega) w)
  have H2 := Lib.hid (fun w => sz_at mx1 (by have := dd0.b; omega) (by have := dd0.b; omega) w)
  have H3 := Lib.hid (fun w => sz_at mx2 (by have := dd0.b; omega) (by have := dd0.b; omega) w)
  replace mx0 := Lib.hid mx0
  replace mx1 := Lib.hid mx1
  replace mx2 := Lib.hid mx2
  replace mx3 := Lib.hid mx3
  replace mx4 := Lib.hid mx4
  have dd0b := dd0.b
  have sb0 := sz_bd mx0.out (by omega) (by omega) (by omega)
  have sb1 := sz_bd mx1.out (by omega) (by omega) (by omega)
  have sb2 := sz_bd mx2.out (by omega) (by omega) (by omega)
  obtain ⟨HB, B_z0, B_z1, B_z2⟩ := box3 w 23 #[.int .i64 x0, .int .i64 y0, .int .i64 x1, .int .i64 y1, .int .i64 f, .int .i64 c] 23 #[.int .i64 0, .int .i64 0, .int .i64 0, .int .i64 0, .int .i64 0, .int .i64 0] 23 #[.int .i64 0, .int .i64 0, .int .i64 0, .int .i64 0, .int .i64 0, .int .i64 0]
  go_enter Try.func26, Try.ntmps26
  go_upto_region 1 with (fail)
  generalize ((w.alloc (.cells #[.int .i64 x0, .int .i64 y0, .int .i64 x1, .int .i64 y1, .int .i64 f, .int .i64 c] 23)).alloc (.cells #[.int .i64 0, .int .i64 0, .int .i64 0, .int .i64 0, .int .i64 0, .int .i64 0] 23)).alloc (.cells #[.int .i64 0, .int .i64 0, .int .i64 0, .int .i64 0, .int .i64 0, .int .i64 0] 23) = W0 at *
  obtain ⟨c0z0, c1z0, c2z0, c3z0, c4z0, c5z0⟩ := cells6 B_z0
  go_wp2_with fail
  refine (H0.out _).mono ?_
  clear c0z0 c1z0 c2z0 c3z0 c4z0 c5z0
  rintro e w1 ⟨rfl, bb⟩
  replace bb := nextw (w0 := W0) (by exact sm) bb
  replace B_z0 := mv B_z0 bb
  replace B_z1 := mv B_z1 bb
  replace B_z2 := mv B_z2 bb
  replace HB := nx HB bb
  clear bb
  go_upto_region 3 with (fail)
  have wq3x0 : IntKind.i64.wrap (x1 - x0) = x1 - x0 := by rw [IntKind.wrap_i64]; omega
  have wq3x1 : IntKind.i64.wrap ((x1 - x0) + 1) = (x1 - x0) + 1 := by rw [IntKind.wrap_i64]; omega
  have wq3x2 : IntKind.i64.wrap (y1 - y0) = y1 - y0 := by rw [IntKind.wrap_i64]; omega
  have wq3x3 : IntKind.i64.wrap ((y1 - y0) + 1) = (y1 - y0) + 1 := by rw [IntKind.wrap_i64]; omega
  obtain ⟨c0z0, c1z0, c2z0, c3z0, -, c5z0⟩ := cells6 B_z0
  have tk1x0 : True := trivial
  go_region_held3 (fun w' => w'.cell? ⟨w.heap.size, 0, none⟩ = some (.int .i64 x0) ∧ w'.cell? ⟨w.heap.size, 1, none⟩ = some (.int .i64 y0) ∧ w'.cell? ⟨w.heap.size, 2, none⟩ = some (.int .i64 x1) ∧ w'.cell? ⟨w.heap.size, 3, none⟩ = some (.int .i64 y1) ∧ w'.cell? ⟨w.heap.size, 5, none⟩ = some (.int .i64 c)) (((try dsimp only); (repeat' apply And.intro) <;> (first | (with_reducible assumption) | ((repeat (first | (with_reducible refine Eq.trans (cell_drew1 _ _) ?_) | (with_reducible refine Eq.trans (cell_far (by omega) _ _ _) ?_) | (with_reducible refine Eq.trans (World.cell?_alloc_lt _ _ _ (by first | (dsimp only; omega) | (simp only [World.size_alloc, World.size_setCell]; omega))) ?_))); with_reducible assumption) | assumption | go_keep)))
    (first
      | (clear tk1x0; go_at_call 52; refine (H1.out _).mono ?_; rintro e w2 ⟨rfl, bb⟩; replace bb := nextw (w0 := w1) (by exact sm) bb; replace B_z0 := mv B_z0 bb; replace B_z1 := mv B_z1 bb; replace B_z2 := mv B_z2 bb; replace HB := nx HB bb; clear bb c0z0 c1z0 c2z0 c3z0 c5z0; have c0z0 : w2.cell? ⟨w.heap.size, 0, none⟩ = some (.int .i64 x0) := B_z0.out.cell 0 rfl; have c1z0 : w2.cell? ⟨w.heap.size, 1, none⟩ = some (.int .i64 y0) := B_z0.out.cell 1 rfl; have c2z0 : w2.cell? ⟨w.heap.size, 2, none⟩ = some (.int .i64 x1) := B_z0.out.cell 2 rfl; have c3z0 : w2.cell? ⟨w.heap.size, 3, none⟩ = some (.int .i64 y1) := B_z0.out.cell 3 rfl; have c5z0 : w2.cell? ⟨w.heap.size, 5, none⟩ = some (.int .i64 c) := B_z0.out.cell 5 rfl; have tk1x1 : True := trivial)
      | (clear tk1x1; go_at_call 52; refine (H2.out _).mono ?_; rintro e w3 ⟨rfl, bb⟩; replace bb := nextw (w0 := w2) (by exact sm) bb; replace B_z0 := mv B_z0 bb; replace B_z1 := mv B_z1 bb; replace B_z2 := mv B_z2 bb; replace HB := nx HB bb; clear bb c0z0 c1z0 c2z0 c3z0 c5z0; have c0z0 : w3.cell? ⟨w.heap.size, 0, none⟩ = some (.int .i64 x0) := B_z0.out.cell 0 rfl; have c1z0 : w3.cell? ⟨w.heap.size, 1, none⟩ = some (.int .i64 y0) := B_z0.out.cell 1 rfl; have c2z0 : w3.cell? ⟨w.heap.size, 2, none⟩ = some (.int .i64 x1) := B_z0.out.cell 2 rfl; have c3z0 : w3.cell? ⟨w.heap.size, 3, none⟩ = some (.int .i64 y1) := B_z0.out.cell 3 rfl; have c5z0 : w3.cell? ⟨w.heap.size, 5, none⟩ = some (.int .i64 c) := B_z0.out.cell 5 rfl; have tk1x2 : True := trivial)
      | (clear tk1x2; go_at_call 52; refine (H3.out _).mono ?_; rintro e w4 ⟨rfl, bb⟩; replace bb := nextw (w0 := w3) (by exact sm) bb; replace B_z0 := mv B_z0 bb; replace B_z1 := mv B_z1 bb; replace B_z2 := mv B_z2 bb; replace HB := nx HB bb; clear bb c0z0 c1z0 c2z0 c3z0 c5z0; have c0z0 : w4.cell? ⟨w.heap.size, 0, none⟩ = some (.int .i64 x0) := B_z0.out.cell 0 rfl; have c1z0 : w4.cell? ⟨w.heap.size, 1, none⟩ = some (.int .i64 y0) := B_z0.out.cell 1 rfl; have c2z0 : w4.cell? ⟨w.heap.size, 2, none⟩ = some (.int .i64 x1) := B_z0.out.cell 2 rfl; have c3z0 : w4.cell? ⟨w.heap.size, 3, none⟩ = some (.int .i64 y1) := B_z0.out.cell 3 rfl; have c5z0 : w4.cell? ⟨w.heap.size, 5, none⟩ = some (.int .i64 c) := B_z0.out.cell 5 rfl; have tk1x3 : True := trivial))
  clear c0z0 c1z0 c2z0 c3z0 c5z0
  go_upto_region 4 with (fail)
  go_cut [8, 9] (fun sv0 sv1 wx => ∃ Pz3 Pz4 : Nat, sv0 = (.pointer (some ⟨Pz3, 0, none⟩)) ∧ sv1 = (.pointer (some ⟨Pz4, 0, none⟩)) ∧ Hid (Pz3 ≠ Pz4) ∧ Hid (w.heap.size ≠ Pz3) ∧ Hid (w.heap.size ≠ Pz4) ∧ Hid (w.heap.size + 1 ≠ Pz3) ∧ Hid (w.heap.size + 1 ≠ Pz4) ∧ Hid (w.heap.size + 1 + 1 ≠ Pz3) ∧ Hid (w.heap.size + 1 + 1 ≠ Pz4) ∧ Hid (w.heap.size ≤ Pz3) ∧ Hid (w.heap.size ≤ Pz4) ∧ Hid (Bx wx (Pz3) 23 #[.int .i64 x0, .int .i64 y0, .int .i64 x1, .int .i64 y1, .int .i64 f, .int .i64 c]) ∧ Hid (Bx wx (Pz4) 23 #[.int .i64 x0, .int .i64 y0, .int .i64 x1, .int .i64 y1, .int .i64 f, .int .i64 c]) ∧ Hid (Bx wx (w.heap.size) 23 #[.int .i64 x0, .int .i64 y0, .int .i64 x1, .int .i64 y1, .int .i64 f, .int .i64 c]) ∧ Hid (Bx wx (w.heap.size + 1) 23 #[.int .i64 0, .int .i64 0, .int .i64 0, .int .i64 0, .int .i64 0, .int .i64 0]) ∧ Hid (Bx wx (w.heap.size + 1 + 1) 23 #[.int .i64 0, .int .i64 0, .int .i64 0, .int .i64 0, .int .i64 0, .int .i64 0]) ∧ Hid (Below w.heap.size w wx))
  case first =>
    obtain ⟨c0z0, c1z0, c2z0, c3z0, c4z0, c5z0⟩ := cells6 B_z0
    have lt_z0 := B_z0.out.lt
    go_region_held3 (fun w' => w'.cell? ⟨w.heap.size, 0, none⟩ = some (.int .i64 x0) ∧ w'.cell? ⟨w.heap.size, 1, none⟩ = some (.int .i64 y0) ∧ w'.cell? ⟨w.heap.size, 2, none⟩ = some (.int .i64 x1) ∧ w'.cell? ⟨w.heap.size, 3, none⟩ = some (.int .i64 y1) ∧ w'.cell? ⟨w.heap.size, 4, none⟩ = some (.int .i64 f) ∧ w'.cell? ⟨w.heap.size, 5, none⟩ = some (.int .i64 c)) (((try dsimp only); (repeat' apply And.intro) <;> (first | (with_reducible assumption) | ((repeat (first | (with_reducible refine Eq.trans (cell_drew1 _ _) ?_) | (with_reducible refine Eq.trans (cell_far (by omega) _ _ _) ?_) | (with_reducible refine Eq.trans (World.cell?_alloc_lt _ _ _ (by first | (dsimp only; omega) | (simp only [World.size_alloc, World.size_setCell]; omega))) ?_))); with_reducible assumption) | assumption | go_keep)))
        (first | fail)
    all_goals clear c0z0 c1z0 c2z0 c3z0 c4z0 c5z0 lt_z0
    all_goals go_wp2_with fail
    all_goals go_meet
    all_goals first
        | (refine ⟨w4.heap.size, w4.heap.size + 1, rfl, rfl, ?_⟩; have lx_z0 := B_z0.out.lt; have lx_z1 := B_z1.out.lt; have lx_z2 := B_z2.out.lt; obtain ⟨bb, b0, b1⟩ := box2 w4 23 #[.int .i64 x0, .int .i64 y0, .int .i64 x1, .int .i64 y1, .int .i64 f, .int .i64 c] 23 #[.int .i64 x0, .int .i64 y0, .int .i64 x1, .int .i64 y1, .int .i64 f, .int .i64 c]; replace bb := bb.out; have hs := HB.out.size; exact ⟨(by unfold Hid; omega), (by unfold Hid; omega), (by unfold Hid; omega), (by unfold Hid; omega), (by unfold Hid; omega), (by unfold Hid; omega), (by unfold Hid; omega), (by unfold Hid; omega), (by unfold Hid; omega), mv b0 sm, mv b1 sm, mv (mv B_z0 bb) sm, mv (mv B_z1 bb) sm, mv (mv B_z2 bb) sm, nx (nx HB bb) sm⟩)
        | (refine ⟨w4.heap.size + 1, w4.heap.size, rfl, rfl, ?_⟩; have lx_z0 := B_z0.out.lt; have lx_z1 := B_z1.out.lt; have lx_z2 := B_z2.out.lt; obtain ⟨bb, b0, b1⟩ := box2 w4 23 #[.int .i64 x0, .int .i64 y0, .int .i64 x1, .int .i64 y1, .int .i64 f, .int .i64 c] 23 #[.int .i64 x0, .int .i64 y0, .int .i64 x1, .int .i64 y1, .int .i64 f, .int .i64 c]; replace bb := bb.out; have hs := HB.out.size; exact ⟨(by unfold Hid; omega), (by unfold Hid; omega), (by unfold Hid; omega), (by unfold Hid; omega), (by unfold Hid; omega), (by unfold Hid; omega), (by unfold Hid; omega), (by unfold Hid; omega), (by unfold Hid; omega), mv b1 sm, mv b0 sm, mv (mv B_z0 bb) sm, mv (mv B_z1 bb) sm, mv (mv B_z2 bb) sm, nx (nx HB bb) sm⟩)
  case rest =>
    clear B_z0
    clear B_z1
    clear B_z2
    clear HB
    rename World => wc5
    obtain ⟨Pz3, Pz4, rfl, rfl, ne01Pz3, noz0Pz3, noz0Pz4, noz1Pz3, noz1Pz4, noz2Pz3, noz2Pz4, lePz3, lePz4, B_z3, B_z4, B_z0, B_z1, B_z2, HB⟩ := hcut
    have ne01Pz3' := ne01Pz3.out
    have noz0Pz3' := noz0Pz3.out
    have noz0Pz4' := noz0Pz4.out
    have noz1Pz3' := noz1Pz3.out
    have noz1Pz4' := noz1Pz4.out
    have noz2Pz3' := noz2Pz3.out
    have noz2Pz4' := noz2Pz4.out
    have lePz3' := lePz3.out
    have lePz4' := lePz4.out
    have mxo3 := mx3.out
    have mxo4 := mx4.out
    obtain ⟨c0z0, c1z0, c2z0, c3z0, c4z0, c5z0⟩ := cells6 B_z0
    obtain ⟨c0z4, c1z4, c2z4, c3z4, c4z4, c5z4⟩ := cells6 B_z4
    obtain ⟨f0z4, f1z4, f2z4, f3z4, f4z4, f5z4⟩ := froz6 B_z4
    have ne_z0 : Hid ((w.heap.size) ≠ (Pz4)) := by unfold Hid; omega
    have ne_z1 : Hid ((w.heap.size + 1) ≠ (Pz4)) := by unfold Hid; omega
    have ne_z2 : Hid ((w.heap.size + 1 + 1) ≠ (Pz4)) := by unfold Hid; omega
    have ne_z3 : Hid ((Pz3) ≠ (Pz4)) := by unfold Hid; omega
    have n_z4 : Hid (Bx (wc5.setCell ⟨Pz4, 1, none⟩ (.int .i64 (y0 + (MX1 / 2)))) (Pz4) 23 #[.int .i64 x0, .int .i64 (y0 + (MX1 / 2)), .int .i64 x1, .int .i64 y1, .int .i64 f, .int .i64 c]) := (B_z4.out.set 1 (.int .i64 (y0 + (MX1 / 2))))
    have n_z0 := far1 B_z0 ne_z0.out 1 (.int .i64 (y0 + (MX1 / 2)))
    have n_z1 := far1 B_z1 ne_z1.out 1 (.int .i64 (y0 + (MX1 / 2)))
    have n_z2 := far1 B_z2 ne_z2.out 1 (.int .i64 (y0 + (MX1 / 2)))
    have n_z3 := far1 B_z3 ne_z3.out 1 (.int .i64 (y0 + (MX1 / 2)))
    have nHB := stb1 HB (y := Pz4) (by omega) 1 (.int .i64 (y0 + (MX1 / 2)))
    go_upto_region 16 with (fail)
    clear c0z0 c1z0 c2z0 c3z0 c4z0 c5z0 c0z4 c1z4 c2z4 c3z4 c4z4 c5z4 f0z4 f1z4 f2z4 f3z4 f4z4 f5z4
    clear ne_z0 ne_z1 ne_z2 ne_z3
    generalize wc5.setCell ⟨Pz4, 1, none⟩ (.int .i64 (y0 + (MX1 / 2))) = WS8 at *
    clear B_z0
    have B_z0 := n_z0
    clear n_z0
    clear B_z1
    have B_z1 := n_z1
    clear n_z1
    clear B_z2
    have B_z2 := n_z2
    clear n_z2
    clear B_z3
    have B_z3 := n_z3
    clear n_z3
    clear B_z4
    have B_z4 := n_z4
    clear n_z4
    clear HB
    have HB := nHB
    clear nHB
    obtain ⟨c0z4, c1z4, c2z4, c3z4, c4z4, c5z4⟩ := cells6 B_z4
    obtain ⟨c0z3, c1z3, c2z3, c3z3, c4z3, c5z3⟩ := cells6 B_z3
    obtain ⟨f0z3, f1z3, f2z3, f3z3, f4z3, f5z3⟩ := froz6 B_z3
    have ne_z0 : Hid ((w.heap.size) ≠ (Pz3)) := by unfold Hid; omega
    have ne_z1 : Hid ((w.heap.size + 1) ≠ (Pz3)) := by unfold Hid; omega
    have ne_z2 : Hid ((w.heap.size + 1 + 1) ≠ (Pz3)) := by unfold Hid; omega
    have ne_z4 : Hid ((Pz4) ≠ (Pz3)) := by unfold Hid; omega
    have n_z3 : Hid (Bx (WS8.setCell ⟨Pz3, 3, none⟩ (.int .i64 ((y0 + (MX1 / 2)) - 1))) (Pz3) 23 #[.int .i64 x0, .int .i64 y0, .int .i64 x1, .int .i64 ((y0 + (MX1 / 2)) - 1), .int .i64 f, .int .i64 c]) := (B_z3.out.set 3 (.int .i64 ((y0 + (MX1 / 2)) - 1)))
    have n_z0 := far1 B_z0 ne_z0.out 3 (.int .i64 ((y0 + (MX1 / 2)) - 1))
    have n_z1 := far1 B_z1 ne_z1.out 3 (.int .i64 ((y0 + (MX1 / 2)) - 1))
    have n_z2 := far1 B_z2 ne_z2.out 3 (.int .i64 ((y0 + (MX1 / 2)) - 1))
    have n_z4 := far1 B_z4 ne_z4.out 3 (.int .i64 ((y0 + (MX1 / 2)) - 1))
    have nHB := stb1 HB (y := Pz3) (by omega) 3 (.int .i64 ((y0 + (MX1 / 2)) - 1))
    go_upto_region 17 with (fail)
    clear c0z4 c1z4 c2z4 c3z4 c4z4 c5z4 c0z3 c1z3 c2z3 c3z3 c4z3 c5z3 f0z3 f1z3 f2z3 f3z3 f4z3 f5z3
    clear ne_z0 ne_z1 ne_z2 ne_z4
    generalize WS8.setCell ⟨Pz3, 3, none⟩ (.int .i64 ((y0 + (MX1 / 2)) - 1)) = WS9 at *
    clear B_z0
    have B_z0 := n_z0
    clear n_z0
    clear B_z1
    have B_z1 := n_z1
    clear n_z1
    clear B_z2
    have B_z2 := n_z2
    clear n_z2
    clear B_z3
    have B_z3 := n_z3
    clear n_z3
    clear B_z4
    have B_z4 := n_z4
    clear n_z4
    clear HB
    have HB := nHB
    clear nHB
    have ne_ab : (w.heap.size + 1) ≠ (w.heap.size + 1 + 1) := by omega
    have ne_ba : (w.heap.size + 1 + 1) ≠ (w.heap.size + 1) := by omega
    obtain ⟨c0z1, c1z1, c2z1, c3z1, c4z1, c5z1⟩ := cells6 B_z1
    obtain ⟨f0z1, f1z1, f2z1, f3z1, f4z1, f5z1⟩ := froz6 B_z1
    obtain ⟨c0z2, c1z2, c2z2, c3z2, c4z2, c5z2⟩ := cells6 B_z2
    obtain ⟨f0z2, f1z2, f2z2, f3z2, f4z2, f5z2⟩ := froz6 B_z2
    obtain ⟨c0z3, c1z3, c2z3, c3z3, c4z3, c5z3⟩ := cells6 B_z3
    obtain ⟨c0z4, c1z4, c2z4, c3z4, c4z4, c5z4⟩ := cells6 B_z4
    go_region
    clear c0z1 c1z1 c2z1 c3z1 c4z1 c5z1 f0z1 f1z1 f2z1 f3z1 f4z1 f5z1 c0z2 c1z2 c2z2 c3z2 c4z2 c5z2 f0z2 f1z2 f2z2 f3z2 f4z2 f5z2 c0z3 c1z3 c2z3 c3z3 c4z3 c5z3 c0z4 c1z4 c2z4 c3z4 c4z4 c5z4
    have t_z1q := stor6 B_z1 (.int .i64 x0) (.int .i64 y0) (.int .i64 x1) (.int .i64 ((y0 + (MX1 / 2)) - 1)) (.int .i64 f) (.int .i64 c)
    have m_z2q := far6 B_z2 ne_ba 0 (.int .i64 x0) 1 (.int .i64 y0) 2 (.int .i64 x1) 3 (.int .i64 ((y0 + (MX1 / 2)) - 1)) 4 (.int .i64 f) 5 (.int .i64 c)
    have p_z2q := stor6 m_z2q (.int .i64 x0) (.int .i64 (y0 + (MX1 / 2))) (.int .i64 x1) (.int .i64 y1) (.int .i64 f) (.int .i64 c)
    have p_z1q := far6 t_z1q ne_ab 0 (.int .i64 x0) 1 (.int .i64 (y0 + (MX1 / 2))) 2 (.int .i64 x1) 3 (.int .i64 y1) 4 (.int .i64 f) 5 (.int .i64 c)
    have HF := stb6 (stb6 HB (y := w.heap.size + 1) (by omega) 0 (.int .i64 x0) 1 (.int .i64 y0) 2 (.int .i64 x1) 3 (.int .i64 ((y0 + (MX1 / 2)) - 1)) 4 (.int .i64 f) 5 (.int .i64 c)) (y := w.heap.size + 1 + 1) (by omega) 0 (.int .i64 x0) 1 (.int .i64 (y0 + (MX1 / 2))) 2 (.int .i64 x1) 3 (.int .i64 y1) 4 (.int .i64 f) 5 (.int .i64 c)
    have dr := sm_drew (((((((((((((WS9.setCell ⟨w.heap.size + 1, 0, none⟩ (.int .i64 x0)).setCell ⟨w.heap.size + 1, 1, none⟩ (.int .i64 y0)).setCell ⟨w.heap.size + 1, 2, none⟩ (.int .i64 x1)).setCell ⟨w.heap.size + 1, 3, none⟩ (.int .i64 ((y0 + (MX1 / 2)) - 1))).setCell ⟨w.heap.size + 1, 4, none⟩ (.int .i64 f)).setCell ⟨w.heap.size + 1, 5, none⟩ (.int .i64 c)).setCell ⟨w.heap.size + 1 + 1, 0, none⟩ (.int .i64 x0)).setCell ⟨w.heap.size + 1 + 1, 1, none⟩ (.int .i64 (y0 + (MX1 / 2)))).setCell ⟨w.heap.size + 1 + 1, 2, none⟩ (.int .i64 x1)).setCell ⟨w.heap.size + 1 + 1, 3, none⟩ (.int .i64 y1)).setCell ⟨w.heap.size + 1 + 1, 4, none⟩ (.int .i64 f)).setCell ⟨w.heap.size + 1 + 1, 5, none⟩ (.int .i64 c)))
    replace p_z1q := mv p_z1q dr
    replace p_z2q := mv p_z2q dr
    replace HF := nx HF dr
    clear dr
    clear m_z2q t_z1q
    generalize (((((((((((((WS9.setCell ⟨w.heap.size + 1, 0, none⟩ (.int .i64 x0)).setCell ⟨w.heap.size + 1, 1, none⟩ (.int .i64 y0)).setCell ⟨w.heap.size + 1, 2, none⟩ (.int .i64 x1)).setCell ⟨w.heap.size + 1, 3, none⟩ (.int .i64 ((y0 + (MX1 / 2)) - 1))).setCell ⟨w.heap.size + 1, 4, none⟩ (.int .i64 f)).setCell ⟨w.heap.size + 1, 5, none⟩ (.int .i64 c)).setCell ⟨w.heap.size + 1 + 1, 0, none⟩ (.int .i64 x0)).setCell ⟨w.heap.size + 1 + 1, 1, none⟩ (.int .i64 (y0 + (MX1 / 2)))).setCell ⟨w.heap.size + 1 + 1, 2, none⟩ (.int .i64 x1)).setCell ⟨w.heap.size + 1 + 1, 3, none⟩ (.int .i64 y1)).setCell ⟨w.heap.size + 1 + 1, 4, none⟩ (.int .i64 f)).setCell ⟨w.heap.size + 1 + 1, 5, none⟩ (.int .i64 c))).drew = WR at *
    obtain ⟨s0, s1, s2, s3, s4, s5⟩ := cells6 p_z1q
    obtain ⟨r0, r1, r2, r3, r4, r5⟩ := cells6 p_z2q
    go_wp2_with fail
    exact bodyPost_ret (v := .tuple #[.agg #[.int .i64 x0, .int .i64 y0, .int .i64 x1, .int .i64 ((y0 + (MX1 / 2)) - 1), .int .i64 f, .int .i64 c], .agg #[.int .i64 x0, .int .i64 (y0 + (MX1 / 2)), .int .i64 x1, .int .i64 y1, .int .i64 f, .int .i64 c], .bool true]) (by simp [results, Try.results26, go_sem, s0, s1, s2, s3, s4, s5, r0, r1, r2, r3, r4, r5]) rfl ⟨rfl, nextw HF.out (by exact sm)⟩

set_option maxRecDepth 100000 in
set_option maxHeartbeats 4000000 in
theorem Split_w4 (x0 y0 x1 y1 f c : Int) (MX0 MX1 MX2 MX3 MX4 : Int) (mx0 : (sz ((x1 - x0) + 1) 1) = MX0) (mx1 : (sz ((y1 - y0) + 1) 1) = MX1) (mx2 : (sz c 8) = MX2) (mx3 : (if MX0 < MX1 then MX1 else MX0) = MX3) (mx4 : (if MX3 < MX2 then MX2 else MX3) = MX4)  (dd0 : OkB x0 y0 x1 y1 f c) (dd1 : ¬ (MX4 = 0)) (dd2 : ¬ (MX4 = MX0)) (dd3 : ¬ (MX4 = MX1)) (w : World) :
    Calls Try.prog 26 #[.agg #[.int .i64 x0, .int .i64 y0, .int .i64 x1, .int .i64 y1, .int .i64 f, .int .i64 c]] w fun e w' => e = .returned (.tuple #[.agg #[.int .i64 x0, .int .i64 y0, .int .i64 x1, .int .i64 y1, .int .i64 f, .int .i64 (c / 2)], .agg #[.int .i64 x0, .int .i64 y0, .int .i64 x1, .int .i64 y1, .int .i64 ((f + (c / 2)) % 256), .int .i64 (c - (c / 2))], .bool true]) ∧ Below w.heap.size w w' := by
  have H0 := Lib.hid (fun w => Valid_yes dd0 w)
  have H1 := Lib.hid (fun w => sz_at mx0 (by have := dd0.b; omega) (by have := dd0.b; omega) w)
  have H2 := Lib.hid (fun w => sz_at mx1 (by have := dd0.b; omega) (by have := dd0.b; omega) w)
  have H3 := Lib.hid (fun w => sz_at mx2 (by have := dd0.b; omega) (by have := dd0.b; omega) w)
  replace mx0 := Lib.hid mx0
  replace mx1 := Lib.hid mx1
  replace mx2 := Lib.hid mx2
  replace mx3 := Lib.hid mx3
  replace mx4 := Lib.hid mx4
  have dd0b := dd0.b
  have sb0 := sz_bd mx0.out (by omega) (by omega) (by omega)
  have sb1 := sz_bd mx1.out (by omega) (by omega) (by omega)
  have sb2 := sz_bd mx2.out (by omega) (by omega) (by omega)
  obtain ⟨HB, B_z0, B_z1, B_z2⟩ := box3 w 23 #[.int .i64 x0, .int .i64 y0, .int .i64 x1, .int .i64 y1, .int .i64 f, .int .i64 c] 23 #[.int .i64 0, .int .i64 0, .int .i64 0, .int .i64 0, .int .i64 0, .int .i64 0] 23 #[.int .i64 0, .int .i64 0, .int .i64 0, .int .i64 0, .int .i64 0, .int .i64 0]
  go_enter Try.func26, Try.ntmps26
  go_upto_region 1 with (fail)
  generalize ((w.alloc (.cells #[.int .i64 x0, .int .i64 y0, .int .i64 x1, .int .i64 y1, .int .i64 f, .int .i64 c] 23)).alloc (.cells #[.int .i64 0, .int .i64 0, .int .i64 0, .int .i64 0, .int .i64 0, .int .i64 0] 23)).alloc (.cells #[.int .i64 0, .int .i64 0, .int .i64 0, .int .i64 0, .int .i64 0, .int .i64 0] 23) = W0 at *
  obtain ⟨c0z0, c1z0, c2z0, c3z0, c4z0, c5z0⟩ := cells6 B_z0
  go_wp2_with fail
  refine (H0.out _).mono ?_
  clear c0z0 c1z0 c2z0 c3z0 c4z0 c5z0
  rintro e w1 ⟨rfl, bb⟩
  replace bb := nextw (w0 := W0) (by exact sm) bb
  replace B_z0 := mv B_z0 bb
  replace B_z1 := mv B_z1 bb
  replace B_z2 := mv B_z2 bb
  replace HB := nx HB bb
  clear bb
  go_upto_region 3 with (fail)
  have wq3x0 : IntKind.i64.wrap (x1 - x0) = x1 - x0 := by rw [IntKind.wrap_i64]; omega
  have wq3x1 : IntKind.i64.wrap ((x1 - x0) + 1) = (x1 - x0) + 1 := by rw [IntKind.wrap_i64]; omega
  have wq3x2 : IntKind.i64.wrap (y1 - y0) = y1 - y0 := by rw [IntKind.wrap_i64]; omega
  have wq3x3 : IntKind.i64.wrap ((y1 - y0) + 1) = (y1 - y0) + 1 := by rw [IntKind.wrap_i64]; omega
  obtain ⟨c0z0, c1z0, c2z0, c3z0, -, c5z0⟩ := cells6 B_z0
  have tk1x0 : True := trivial
  go_region_held3 (fun w' => w'.cell? ⟨w.heap.size, 0, none⟩ = some (.int .i64 x0) ∧ w'.cell? ⟨w.heap.size, 1, none⟩ = some (.int .i64 y0) ∧ w'.cell? ⟨w.heap.size, 2, none⟩ = some (.int .i64 x1) ∧ w'.cell? ⟨w.heap.size, 3, none⟩ = some (.int .i64 y1) ∧ w'.cell? ⟨w.heap.size, 5, none⟩ = some (.int .i64 c)) (((try dsimp only); (repeat' apply And.intro) <;> (first | (with_reducible assumption) | ((repeat (first | (with_reducible refine Eq.trans (cell_drew1 _ _) ?_) | (with_reducible refine Eq.trans (cell_far (by omega) _ _ _) ?_) | (with_reducible refine Eq.trans (World.cell?_alloc_lt _ _ _ (by first | (dsimp only; omega) | (simp only [World.size_alloc, World.size_setCell]; omega))) ?_))); with_reducible assumption) | assumption | go_keep)))
    (first
      | (clear tk1x0; go_at_call 52; refine (H1.out _).mono ?_; rintro e w2 ⟨rfl, bb⟩; replace bb := nextw (w0 := w1) (by exact sm) bb; replace B_z0 := mv B_z0 bb; replace B_z1 := mv B_z1 bb; replace B_z2 := mv B_z2 bb; replace HB := nx HB bb; clear bb c0z0 c1z0 c2z0 c3z0 c5z0; have c0z0 : w2.cell? ⟨w.heap.size, 0, none⟩ = some (.int .i64 x0) := B_z0.out.cell 0 rfl; have c1z0 : w2.cell? ⟨w.heap.size, 1, none⟩ = some (.int .i64 y0) := B_z0.out.cell 1 rfl; have c2z0 : w2.cell? ⟨w.heap.size, 2, none⟩ = some (.int .i64 x1) := B_z0.out.cell 2 rfl; have c3z0 : w2.cell? ⟨w.heap.size, 3, none⟩ = some (.int .i64 y1) := B_z0.out.cell 3 rfl; have c5z0 : w2.cell? ⟨w.heap.size, 5, none⟩ = some (.int .i64 c) := B_z0.out.cell 5 rfl; have tk1x1 : True := trivial)
      | (clear tk1x1; go_at_call 52; refine (H2.out _).mono ?_; rintro e w3 ⟨rfl, bb⟩; replace bb := nextw (w0 := w2) (by exact sm) bb; replace B_z0 := mv B_z0 bb; replace B_z1 := mv B_z1 bb; replace B_z2 := mv B_z2 bb; replace HB := nx HB bb; clear bb c0z0 c1z0 c2z0 c3z0 c5z0; have c0z0 : w3.cell? ⟨w.heap.size, 0, none⟩ = some (.int .i64 x0) := B_z0.out.cell 0 rfl; have c1z0 : w3.cell? ⟨w.heap.size, 1, none⟩ = some (.int .i64 y0) := B_z0.out.cell 1 rfl; have c2z0 : w3.cell? ⟨w.heap.size, 2, none⟩ = some (.int .i64 x1) := B_z0.out.cell 2 rfl; have c3z0 : w3.cell? ⟨w.heap.size, 3, none⟩ = some (.int .i64 y1) := B_z0.out.cell 3 rfl; have c5z0 : w3.cell? ⟨w.heap.size, 5, none⟩ = some (.int .i64 c) := B_z0.out.cell 5 rfl; have tk1x2 : True := trivial)
      | (clear tk1x2; go_at_call 52; refine (H3.out _).mono ?_; rintro e w4 ⟨rfl, bb⟩; replace bb := nextw (w0 := w3) (by exact sm) bb; replace B_z0 := mv B_z0 bb; replace B_z1 := mv B_z1 bb; replace B_z2 := mv B_z2 bb; replace HB := nx HB bb; clear bb c0z0 c1z0 c2z0 c3z0 c5z0; have c0z0 : w4.cell? ⟨w.heap.size, 0, none⟩ = some (.int .i64 x0) := B_z0.out.cell 0 rfl; have c1z0 : w4.cell? ⟨w.heap.size, 1, none⟩ = some (.int .i64 y0) := B_z0.out.cell 1 rfl; have c2z0 : w4.cell? ⟨w.heap.size, 2, none⟩ = some (.int .i64 x1) := B_z0.out.cell 2 rfl; have c3z0 : w4.cell? ⟨w.heap.size, 3, none⟩ = some (.int .i64 y1) := B_z0.out.cell 3 rfl; have c5z0 : w4.cell? ⟨w.heap.size, 5, none⟩ = some (.int .i64 c) := B_z0.out.cell 5 rfl; have tk1x3 : True := trivial))
  clear c0z0 c1z0 c2z0 c3z0 c5z0
  go_upto_region 4 with (fail)
  go_cut [8, 9] (fun sv0 sv1 wx => ∃ Pz3 Pz4 : Nat, sv0 = (.pointer (some ⟨Pz3, 0, none⟩)) ∧ sv1 = (.pointer (some ⟨Pz4, 0, none⟩)) ∧ Hid (Pz3 ≠ Pz4) ∧ Hid (w.heap.size ≠ Pz3) ∧ Hid (w.heap.size ≠ Pz4) ∧ Hid (w.heap.size + 1 ≠ Pz3) ∧ Hid (w.heap.size + 1 ≠ Pz4) ∧ Hid (w.heap.size + 1 + 1 ≠ Pz3) ∧ Hid (w.heap.size + 1 + 1 ≠ Pz4) ∧ Hid (w.heap.size ≤ Pz3) ∧ Hid (w.heap.size ≤ Pz4) ∧ Hid (Bx wx (Pz3) 23 #[.int .i64 x0, .int .i64 y0, .int .i64 x1, .int .i64 y1, .int .i64 f, .int .i64 c]) ∧ Hid (Bx wx (Pz4) 23 #[.int .i64 x0, .int .i64 y0, .int .i64 x1, .int .i64 y1, .int .i64 f, .int .i64 c]) ∧ Hid (Bx wx (w.heap.size) 23 #[.int .i64 x0, .int .i64 y0, .int .i64 x1, .int .i64 y1, .int .i64 f, .int .i64 c]) ∧ Hid (Bx wx (w.heap.size + 1) 23 #[.int .i64 0, .int .i64 0, .int .i64 0, .int .i64 0, .int .i64 0, .int .i64 0]) ∧ Hid (Bx wx (w.heap.size + 1 + 1) 23 #[.int .i64 0, .int .i64 0, .int .i64 0, .int .i64 0, .int .i64 0, .int .i64 0]) ∧ Hid (Below w.heap.size w wx))
  case first =>
    obtain ⟨c0z0, c1z0, c2z0, c3z0, c4z0, c5z0⟩ := cells6 B_z0
    have lt_z0 := B_z0.out.lt
    go_region_held3 (fun w' => w'.cell? ⟨w.heap.size, 0, none⟩ = some (.int .i64 x0) ∧ w'.cell? ⟨w.heap.size, 1, none⟩ = some (.int .i64 y0) ∧ w'.cell? ⟨w.heap.size, 2, none⟩ = some (.int .i64 x1) ∧ w'.cell? ⟨w.heap.size, 3, none⟩ = some (.int .i64 y1) ∧ w'.cell? ⟨w.heap.size, 4, none⟩ = some (.int .i64 f) ∧ w'.cell? ⟨w.heap.size, 5, none⟩ = some (.int .i64 c)) (((try dsimp only); (repeat' apply And.intro) <;> (first | (with_reducible assumption) | ((repeat (first | (with_reducible refine Eq.trans (cell_drew1 _ _) ?_) | (with_reducible refine Eq.trans (cell_far (by omega) _ _ _) ?_) | (with_reducible refine Eq.trans (World.cell?_alloc_lt _ _ _ (by first | (dsimp only; omega) | (simp only [World.size_alloc, World.size_setCell]; omega))) ?_))); with_reducible assumption) | assumption | go_keep)))
        (first | fail)
    all_goals clear c0z0 c1z0 c2z0 c3z0 c4z0 c5z0 lt_z0
    all_goals go_wp2_with fail
    all_goals go_meet
    all_goals first
        | (refine ⟨w4.heap.size, w4.heap.size + 1, rfl, rfl, ?_⟩; have lx_z0 := B_z0.out.lt; have lx_z1 := B_z1.out.lt; have lx_z2 := B_z2.out.lt; obtain ⟨bb, b0, b1⟩ := box2 w4 23 #[.int .i64 x0, .int .i64 y0, .int .i64 x1, .int .i64 y1, .int .i64 f, .int .i64 c] 23 #[.int .i64 x0, .int .i64 y0, .int .i64 x1, .int .i64 y1, .int .i64 f, .int .i64 c]; replace bb := bb.out; have hs := HB.out.size; exact ⟨(by unfold Hid; omega), (by unfold Hid; omega), (by unfold Hid; omega), (by unfold Hid; omega), (by unfold Hid; omega), (by unfold Hid; omega), (by unfold Hid; omega), (by unfold Hid; omega), (by unfold Hid; omega), mv b0 sm, mv b1 sm, mv (mv B_z0 bb) sm, mv (mv B_z1 bb) sm, mv (mv B_z2 bb) sm, nx (nx HB bb) sm⟩)
        | (refine ⟨w4.heap.size + 1, w4.heap.size, rfl, rfl, ?_⟩; have lx_z0 := B_z0.out.lt; have lx_z1 := B_z1.out.lt; have lx_z2 := B_z2.out.lt; obtain ⟨bb, b0, b1⟩ := box2 w4 23 #[.int .i64 x0, .int .i64 y0, .int .i64 x1, .int .i64 y1, .int .i64 f, .int .i64 c] 23 #[.int .i64 x0, .int .i64 y0, .int .i64 x1, .int .i64 y1, .int .i64 f, .int .i64 c]; replace bb := bb.out; have hs := HB.out.size; exact ⟨(by unfold Hid; omega), (by unfold Hid; omega), (by unfold Hid; omega), (by unfold Hid; omega), (by unfold Hid; omega), (by unfold Hid; omega), (by unfold Hid; omega), (by unfold Hid; omega), (by unfold Hid; omega), mv b1 sm, mv b0 sm, mv (mv B_z0 bb) sm, mv (mv B_z1 bb) sm, mv (mv B_z2 bb) sm, nx (nx HB bb) sm⟩)
  case rest =>
    clear B_z0
    clear B_z1
    clear B_z2
    clear HB
    rename World => wc5
    obtain ⟨Pz3, Pz4, rfl, rfl, ne01Pz3, noz0Pz3, noz0Pz4, noz1Pz3, noz1Pz4, noz2Pz3, noz2Pz4, lePz3, lePz4, B_z3, B_z4, B_z0, B_z1, B_z2, HB⟩ := hcut
    have ne01Pz3' := ne01Pz3.out
    have noz0Pz3' := noz0Pz3.out
    have noz0Pz4' := noz0Pz4.out
    have noz1Pz3' := noz1Pz3.out
    have noz1Pz4' := noz1Pz4.out
    have noz2Pz3' := noz2Pz3.out
    have noz2Pz4' := noz2Pz4.out
    have lePz3' := lePz3.out
    have lePz4' := lePz4.out
    have mxo3 := mx3.out
    have mxo4 := mx4.out
    obtain ⟨c0z0, c1z0, c2z0, c3z0, c4z0, c5z0⟩ := cells6 B_z0
    obtain ⟨c0z3, c1z3, c2z3, c3z3, c4z3, c5z3⟩ := cells6 B_z3
    obtain ⟨f0z3, f1z3, f2z3, f3z3, f4z3, f5z3⟩ := froz6 B_z3
    have ne_z0 : Hid ((w.heap.size) ≠ (Pz3)) := by unfold Hid; omega
    have ne_z1 : Hid ((w.heap.size + 1) ≠ (Pz3)) := by unfold Hid; omega
    have ne_z2 : Hid ((w.heap.size + 1 + 1) ≠ (Pz3)) := by unfold Hid; omega
    have ne_z4 : Hid ((Pz4) ≠ (Pz3)) := by unfold Hid; omega
    have n_z3 : Hid (Bx (wc5.setCell ⟨Pz3, 5, none⟩ (.int .i64 (c / 2))) (Pz3) 23 #[.int .i64 x0, .int .i64 y0, .int .i64 x1, .int .i64 y1, .int .i64 f, .int .i64 (c / 2)]) := (B_z3.out.set 5 (.int .i64 (c / 2)))
    have n_z0 := far1 B_z0 ne_z0.out 5 (.int .i64 (c / 2))
    have n_z1 := far1 B_z1 ne_z1.out 5 (.int .i64 (c / 2))
    have n_z2 := far1 B_z2 ne_z2.out 5 (.int .i64 (c / 2))
    have n_z4 := far1 B_z4 ne_z4.out 5 (.int .i64 (c / 2))
    have nHB := stb1 HB (y := Pz3) (by omega) 5 (.int .i64 (c / 2))
    go_upto_region 7 with (fail)
    clear c0z0 c1z0 c2z0 c3z0 c4z0 c5z0 c0z3 c1z3 c2z3 c3z3 c4z3 c5z3 f0z3 f1z3 f2z3 f3z3 f4z3 f5z3
    clear ne_z0 ne_z1 ne_z2 ne_z4
    generalize wc5.setCell ⟨Pz3, 5, none⟩ (.int .i64 (c / 2)) = WS8 at *
    clear B_z0
    have B_z0 := n_z0
    clear n_z0
    clear B_z1
    have B_z1 := n_z1
    clear n_z1
    clear B_z2
    have B_z2 := n_z2
    clear n_z2
    clear B_z3
    have B_z3 := n_z3
    clear n_z3
    clear B_z4
    have B_z4 := n_z4
    clear n_z4
    clear HB
    have HB := nHB
    clear nHB
    obtain ⟨c0z0, c1z0, c2z0, c3z0, c4z0, c5z0⟩ := cells6 B_z0
    obtain ⟨c0z3, c1z3, c2z3, c3z3, c4z3, c5z3⟩ := cells6 B_z3
    obtain ⟨c0z4, c1z4, c2z4, c3z4, c4z4, c5z4⟩ := cells6 B_z4
    obtain ⟨f0z4, f1z4, f2z4, f3z4, f4z4, f5z4⟩ := froz6 B_z4
    have ne_z0 : Hid ((w.heap.size) ≠ (Pz4)) := by unfold Hid; omega
    have ne_z1 : Hid ((w.heap.size + 1) ≠ (Pz4)) := by unfold Hid; omega
    have ne_z2 : Hid ((w.heap.size + 1 + 1) ≠ (Pz4)) := by unfold Hid; omega
    have ne_z3 : Hid ((Pz3) ≠ (Pz4)) := by unfold Hid; omega
    have n_z4 : Hid (Bx (WS8.setCell ⟨Pz4, 5, none⟩ (.int .i64 (c - (c / 2)))) (Pz4) 23 #[.int .i64 x0, .int .i64 y0, .int .i64 x1, .int .i64 y1, .int .i64 f, .int .i64 (c - (c / 2))]) := (B_z4.out.set 5 (.int .i64 (c - (c / 2))))
    have n_z0 := far1 B_z0 ne_z0.out 5 (.int .i64 (c - (c / 2)))
    have n_z1 := far1 B_z1 ne_z1.out 5 (.int .i64 (c - (c / 2)))
    have n_z2 := far1 B_z2 ne_z2.out 5 (.int .i64 (c - (c / 2)))
    have n_z3 := far1 B_z3 ne_z3.out 5 (.int .i64 (c - (c / 2)))
    have nHB := stb1 HB (y := Pz4) (by omega) 5 (.int .i64 (c - (c / 2)))
    go_upto_region 8 with (fail)
    clear c0z0 c1z0 c2z0 c3z0 c4z0 c5z0 c0z3 c1z3 c2z3 c3z3 c4z3 c5z3 c0z4 c1z4 c2z4 c3z4 c4z4 c5z4 f0z4 f1z4 f2z4 f3z4 f4z4 f5z4
    clear ne_z0 ne_z1 ne_z2 ne_z3
    generalize WS8.setCell ⟨Pz4, 5, none⟩ (.int .i64 (c - (c / 2))) = WS9 at *
    clear B_z0
    have B_z0 := n_z0
    clear n_z0
    clear B_z1
    have B_z1 := n_z1
    clear n_z1
    clear B_z2
    have B_z2 := n_z2
    clear n_z2
    clear B_z3
    have B_z3 := n_z3
    clear n_z3
    clear B_z4
    have B_z4 := n_z4
    clear n_z4
    clear HB
    have HB := nHB
    clear nHB
    obtain ⟨c0z0, c1z0, c2z0, c3z0, c4z0, c5z0⟩ := cells6 B_z0
    obtain ⟨c0z3, c1z3, c2z3, c3z3, c4z3, c5z3⟩ := cells6 B_z3
    obtain ⟨c0z4, c1z4, c2z4, c3z4, c4z4, c5z4⟩ := cells6 B_z4
    obtain ⟨f0z4, f1z4, f2z4, f3z4, f4z4, f5z4⟩ := froz6 B_z4
    have ne_z0 : Hid ((w.heap.size) ≠ (Pz4)) := by unfold Hid; omega
    have ne_z1 : Hid ((w.heap.size + 1) ≠ (Pz4)) := by unfold Hid; omega
    have ne_z2 : Hid ((w.heap.size + 1 + 1) ≠ (Pz4)) := by unfold Hid; omega
    have ne_z3 : Hid ((Pz3) ≠ (Pz4)) := by unfold Hid; omega
    have n_z4 : Hid (Bx (WS9.setCell ⟨Pz4, 4, none⟩ (.int .i64 ((f + (c / 2)) % 256))) (Pz4) 23 #[.int .i64 x0, .int .i64 y0, .int .i64 x1, .int .i64 y1, .int .i64 ((f + (c / 2)) % 256), .int .i64 (c - (c / 2))]) := (B_z4.out.set 4 (.int .i64 ((f + (c / 2)) % 256)))
    have n_z0 := far1 B_z0 ne_z0.out 4 (.int .i64 ((f + (c / 2)) % 256))
    have n_z1 := far1 B_z1 ne_z1.out 4 (.int .i64 ((f + (c / 2)) % 256))
    have n_z2 := far1 B_z2 ne_z2.out 4 (.int .i64 ((f + (c / 2)) % 256))
    have n_z3 := far1 B_z3 ne_z3.out 4 (.int .i64 ((f + (c / 2)) % 256))
    have nHB := stb1 HB (y := Pz4) (by omega) 4 (.int .i64 ((f + (c / 2)) % 256))
    go_upto_region 17 with (fail)
    clear c0z0 c1z0 c2z0 c3z0 c4z0 c5z0 c0z3 c1z3 c2z3 c3z3 c4z3 c5z3 c0z4 c1z4 c2z4 c3z4 c4z4 c5z4 f0z4 f1z4 f2z4 f3z4 f4z4 f5z4
    clear ne_z0 ne_z1 ne_z2 ne_z3
    generalize WS9.setCell ⟨Pz4, 4, none⟩ (.int .i64 ((f + (c / 2)) % 256)) = WS10 at *
    clear B_z0
    have B_z0 := n_z0
    clear n_z0
    clear B_z1
    have B_z1 := n_z1
    clear n_z1
    clear B_z2
    have B_z2 := n_z2
    clear n_z2
    clear B_z3
    have B_z3 := n_z3
    clear n_z3
    clear B_z4
    have B_z4 := n_z4
    clear n_z4
    clear HB
    have HB := nHB
    clear nHB
    have ne_ab : (w.heap.size + 1) ≠ (w.heap.size + 1 + 1) := by omega
    have ne_ba : (w.heap.size + 1 + 1) ≠ (w.heap.size + 1) := by omega
    obtain ⟨c0z1, c1z1, c2z1, c3z1, c4z1, c5z1⟩ := cells6 B_z1
    obtain ⟨f0z1, f1z1, f2z1, f3z1, f4z1, f5z1⟩ := froz6 B_z1
    obtain ⟨c0z2, c1z2, c2z2, c3z2, c4z2, c5z2⟩ := cells6 B_z2
    obtain ⟨f0z2, f1z2, f2z2, f3z2, f4z2, f5z2⟩ := froz6 B_z2
    obtain ⟨c0z3, c1z3, c2z3, c3z3, c4z3, c5z3⟩ := cells6 B_z3
    obtain ⟨c0z4, c1z4, c2z4, c3z4, c4z4, c5z4⟩ := cells6 B_z4
    go_region
    clear c0z1 c1z1 c2z1 c3z1 c4z1 c5z1 f0z1 f1z1 f2z1 f3z1 f4z1 f5z1 c0z2 c1z2 c2z2 c3z2 c4z2 c5z2 f0z2 f1z2 f2z2 f3z2 f4z2 f5z2 c0z3 c1z3 c2z3 c3z3 c4z3 c5z3 c0z4 c1z4 c2z4 c3z4 c4z4 c5z4
    have t_z1q := stor6 B_z1 (.int .i64 x0) (.int .i64 y0) (.int .i64 x1) (.int .i64 y1) (.int .i64 f) (.int .i64 (c / 2))
    have m_z2q := far6 B_z2 ne_ba 0 (.int .i64 x0) 1 (.int .i64 y0) 2 (.int .i64 x1) 3 (.int .i64 y1) 4 (.int .i64 f) 5 (.int .i64 (c / 2))
    have p_z2q := stor6 m_z2q (.int .i64 x0) (.int .i64 y0) (.int .i64 x1) (.int .i64 y1) (.int .i64 ((f + (c / 2)) % 256)) (.int .i64 (c - (c / 2)))
    have p_z1q := far6 t_z1q ne_ab 0 (.int .i64 x0) 1 (.int .i64 y0) 2 (.int .i64 x1) 3 (.int .i64 y1) 4 (.int .i64 ((f + (c / 2)) % 256)) 5 (.int .i64 (c - (c / 2)))
    have HF := stb6 (stb6 HB (y := w.heap.size + 1) (by omega) 0 (.int .i64 x0) 1 (.int .i64 y0) 2 (.int .i64 x1) 3 (.int .i64 y1) 4 (.int .i64 f) 5 (.int .i64 (c / 2))) (y := w.heap.size + 1 + 1) (by omega) 0 (.int .i64 x0) 1 (.int .i64 y0) 2 (.int .i64 x1) 3 (.int .i64 y1) 4 (.int .i64 ((f + (c / 2)) % 256)) 5 (.int .i64 (c - (c / 2)))
    have dr := sm_drew (((((((((((((WS10.setCell ⟨w.heap.size + 1, 0, none⟩ (.int .i64 x0)).setCell ⟨w.heap.size + 1, 1, none⟩ (.int .i64 y0)).setCell ⟨w.heap.size + 1, 2, none⟩ (.int .i64 x1)).setCell ⟨w.heap.size + 1, 3, none⟩ (.int .i64 y1)).setCell ⟨w.heap.size + 1, 4, none⟩ (.int .i64 f)).setCell ⟨w.heap.size + 1, 5, none⟩ (.int .i64 (c / 2))).setCell ⟨w.heap.size + 1 + 1, 0, none⟩ (.int .i64 x0)).setCell ⟨w.heap.size + 1 + 1, 1, none⟩ (.int .i64 y0)).setCell ⟨w.heap.size + 1 + 1, 2, none⟩ (.int .i64 x1)).setCell ⟨w.heap.size + 1 + 1, 3, none⟩ (.int .i64 y1)).setCell ⟨w.heap.size + 1 + 1, 4, none⟩ (.int .i64 ((f + (c / 2)) % 256))).setCell ⟨w.heap.size + 1 + 1, 5, none⟩ (.int .i64 (c - (c / 2)))))
    replace p_z1q := mv p_z1q dr
    replace p_z2q := mv p_z2q dr
    replace HF := nx HF dr
    clear dr
    clear m_z2q t_z1q
    generalize (((((((((((((WS10.setCell ⟨w.heap.size + 1, 0, none⟩ (.int .i64 x0)).setCell ⟨w.heap.size + 1, 1, none⟩ (.int .i64 y0)).setCell ⟨w.heap.size + 1, 2, none⟩ (.int .i64 x1)).setCell ⟨w.heap.size + 1, 3, none⟩ (.int .i64 y1)).setCell ⟨w.heap.size + 1, 4, none⟩ (.int .i64 f)).setCell ⟨w.heap.size + 1, 5, none⟩ (.int .i64 (c / 2))).setCell ⟨w.heap.size + 1 + 1, 0, none⟩ (.int .i64 x0)).setCell ⟨w.heap.size + 1 + 1, 1, none⟩ (.int .i64 y0)).setCell ⟨w.heap.size + 1 + 1, 2, none⟩ (.int .i64 x1)).setCell ⟨w.heap.size + 1 + 1, 3, none⟩ (.int .i64 y1)).setCell ⟨w.heap.size + 1 + 1, 4, none⟩ (.int .i64 ((f + (c / 2)) % 256))).setCell ⟨w.heap.size + 1 + 1, 5, none⟩ (.int .i64 (c - (c / 2))))).drew = WR at *
    obtain ⟨s0, s1, s2, s3, s4, s5⟩ := cells6 p_z1q
    obtain ⟨r0, r1, r2, r3, r4, r5⟩ := cells6 p_z2q
    go_wp2_with fail
    exact bodyPost_ret (v := .tuple #[.agg #[.int .i64 x0, .int .i64 y0, .int .i64 x1, .int .i64 y1, .int .i64 f, .int .i64 (c / 2)], .agg #[.int .i64 x0, .int .i64 y0, .int .i64 x1, .int .i64 y1, .int .i64 ((f + (c / 2)) % 256), .int .i64 (c - (c / 2))], .bool true]) (by simp [results, Try.results26, go_sem, s0, s1, s2, s3, s4, s5, r0, r1, r2, r3, r4, r5]) rfl ⟨rfl, nextw HF.out (by exact sm)⟩

def SplitV (x0 y0 x1 y1 f c : Int) : Value := if OkB x0 y0 x1 y1 f c then if (if (if (sz ((x1 - x0) + 1) 1) < (sz ((y1 - y0) + 1) 1) then (sz ((y1 - y0) + 1) 1) else (sz ((x1 - x0) + 1) 1)) < (sz c 8) then (sz c 8) else (if (sz ((x1 - x0) + 1) 1) < (sz ((y1 - y0) + 1) 1) then (sz ((y1 - y0) + 1) 1) else (sz ((x1 - x0) + 1) 1))) = 0 then .tuple #[.agg #[.int .i64 0, .int .i64 0, .int .i64 0, .int .i64 0, .int .i64 0, .int .i64 0], .agg #[.int .i64 0, .int .i64 0, .int .i64 0, .int .i64 0, .int .i64 0, .int .i64 0], .bool false] else if (if (if (sz ((x1 - x0) + 1) 1) < (sz ((y1 - y0) + 1) 1) then (sz ((y1 - y0) + 1) 1) else (sz ((x1 - x0) + 1) 1)) < (sz c 8) then (sz c 8) else (if (sz ((x1 - x0) + 1) 1) < (sz ((y1 - y0) + 1) 1) then (sz ((y1 - y0) + 1) 1) else (sz ((x1 - x0) + 1) 1))) = (sz ((x1 - x0) + 1) 1) then .tuple #[.agg #[.int .i64 x0, .int .i64 y0, .int .i64 ((x0 + ((sz ((x1 - x0) + 1) 1) / 2)) - 1), .int .i64 y1, .int .i64 f, .int .i64 c], .agg #[.int .i64 (x0 + ((sz ((x1 - x0) + 1) 1) / 2)), .int .i64 y0, .int .i64 x1, .int .i64 y1, .int .i64 f, .int .i64 c], .bool true] else if (if (if (sz ((x1 - x0) + 1) 1) < (sz ((y1 - y0) + 1) 1) then (sz ((y1 - y0) + 1) 1) else (sz ((x1 - x0) + 1) 1)) < (sz c 8) then (sz c 8) else (if (sz ((x1 - x0) + 1) 1) < (sz ((y1 - y0) + 1) 1) then (sz ((y1 - y0) + 1) 1) else (sz ((x1 - x0) + 1) 1))) = (sz ((y1 - y0) + 1) 1) then .tuple #[.agg #[.int .i64 x0, .int .i64 y0, .int .i64 x1, .int .i64 ((y0 + ((sz ((y1 - y0) + 1) 1) / 2)) - 1), .int .i64 f, .int .i64 c], .agg #[.int .i64 x0, .int .i64 (y0 + ((sz ((y1 - y0) + 1) 1) / 2)), .int .i64 x1, .int .i64 y1, .int .i64 f, .int .i64 c], .bool true] else .tuple #[.agg #[.int .i64 x0, .int .i64 y0, .int .i64 x1, .int .i64 y1, .int .i64 f, .int .i64 (c / 2)], .agg #[.int .i64 x0, .int .i64 y0, .int .i64 x1, .int .i64 y1, .int .i64 ((f + (c / 2)) % 256), .int .i64 (c - (c / 2))], .bool true] else .tuple #[.agg #[.int .i64 0, .int .i64 0, .int .i64 0, .int .i64 0, .int .i64 0, .int .i64 0], .agg #[.int .i64 0, .int .i64 0, .int .i64 0, .int .i64 0, .int .i64 0, .int .i64 0], .bool false]
theorem Split_any (x0 y0 x1 y1 f c : Int)  (w : World) :
    Calls Try.prog 26 #[.agg #[.int .i64 x0, .int .i64 y0, .int .i64 x1, .int .i64 y1, .int .i64 f, .int .i64 c]] w fun e w' => e = .returned (SplitV x0 y0 x1 y1 f c) ∧ Below w.heap.size w w' := by
  unfold SplitV
  by_cases dd0 : OkB x0 y0 x1 y1 f c
  · rw [if_pos dd0]
    by_cases dd1 : (if (if (sz ((x1 - x0) + 1) 1) < (sz ((y1 - y0) + 1) 1) then (sz ((y1 - y0) + 1) 1) else (sz ((x1 - x0) + 1) 1)) < (sz c 8) then (sz c 8) else (if (sz ((x1 - x0) + 1) 1) < (sz ((y1 - y0) + 1) 1) then (sz ((y1 - y0) + 1) 1) else (sz ((x1 - x0) + 1) 1))) = 0
    · rw [if_pos dd1]
      exact Split_w0 x0 y0 x1 y1 f c _ _ _ _ _ rfl rfl rfl rfl rfl  dd0 dd1 w
    · rw [if_neg dd1]
      by_cases dd2 : (if (if (sz ((x1 - x0) + 1) 1) < (sz ((y1 - y0) + 1) 1) then (sz ((y1 - y0) + 1) 1) else (sz ((x1 - x0) + 1) 1)) < (sz c 8) then (sz c 8) else (if (sz ((x1 - x0) + 1) 1) < (sz ((y1 - y0) + 1) 1) then (sz ((y1 - y0) + 1) 1) else (sz ((x1 - x0) + 1) 1))) = (sz ((x1 - x0) + 1) 1)
      · rw [if_pos dd2]
        exact Split_w2 x0 y0 x1 y1 f c _ _ _ _ _ rfl rfl rfl rfl rfl  dd0 dd1 dd2 w
      · rw [if_neg dd2]
        by_cases dd3 : (if (if (sz ((x1 - x0) + 1) 1) < (sz ((y1 - y0) + 1) 1) then (sz ((y1 - y0) + 1) 1) else (sz ((x1 - x0) + 1) 1)) < (sz c 8) then (sz c 8) else (if (sz ((x1 - x0) + 1) 1) < (sz ((y1 - y0) + 1) 1) then (sz ((y1 - y0) + 1) 1) else (sz ((x1 - x0) + 1) 1))) = (sz ((y1 - y0) + 1) 1)
        · rw [if_pos dd3]
          exact Split_w3 x0 y0 x1 y1 f c _ _ _ _ _ rfl rfl rfl rfl rfl  dd0 dd1 dd2 dd3 w
        · rw [if_neg dd3]
          exact Split_w4 x0 y0 x1 y1 f c _ _ _ _ _ rfl rfl rfl rfl rfl  dd0 dd1 dd2 dd3 w
  · rw [if_neg dd0]
    exact Split_w1 x0 y0 x1 y1 f c    dd0 w

set_option maxHeartbeats 4000000 in
theorem Split_eq (x0 y0 x1 y1 f c : Int) : SplitV x0 y0 x1 y1 f c = splitV x0 y0 x1 y1 f c := by
  unfold SplitV splitV
  by_cases hb : OkB x0 y0 x1 y1 f c
  · rw [if_pos hb, if_pos hb]
    have b := hb.b
    have hx : (x0 = x1 ∧ sz (x1 - x0 + 1) 1 = 0) ∨ (x0 < x1 ∧ sz (x1 - x0 + 1) 1 = x1 - x0 + 1) := by unfold sz; split <;> omega
    have hy : (y0 = y1 ∧ sz (y1 - y0 + 1) 1 = 0) ∨ (y0 < y1 ∧ sz (y1 - y0 + 1) 1 = y1 - y0 + 1) := by unfold sz; split <;> omega
    have hc : (c = 1 ∧ sz c 8 = 0) ∨ (1 < c ∧ sz c 8 = 8 * c) := by unfold sz; split <;> omega
    generalize sz (x1 - x0 + 1) 1 = sx at *
    generalize sz (y1 - y0 + 1) 1 = sy at *
    generalize sz c 8 = sh at *
    have e1 : (if sx < sy then sy else sx) = max sx sy := by split <;> omega
    have e2 : (if max sx sy < sh then sh else max sx sy) = max (max sx sy) sh := by split <;> omega
    simp only [e1, e2]
    generalize hM : max (max sx sy) sh = M at *
    clear e1 e2
    repeat' split
    all_goals simp only [oneP, spX, spY] at *
    all_goals first | rfl | (exfalso; omega) | exact tup2 (by omega)
  · rw [if_neg hb, if_neg hb]
theorem Split_is (x0 y0 x1 y1 f c : Int) (w : World) : Calls Try.prog 26 #[.agg #[.int .i64 x0, .int .i64 y0, .int .i64 x1, .int .i64 y1, .int .i64 f, .int .i64 c]] w fun e w' => e = .returned (splitV x0 y0 x1 y1 f c) ∧ Below w.heap.size w w' := by rw [← Split_eq]; exact Split_any x0 y0 x1 y1 f c w
end Go.Proofs.Ytjpdahalplkfbaa
