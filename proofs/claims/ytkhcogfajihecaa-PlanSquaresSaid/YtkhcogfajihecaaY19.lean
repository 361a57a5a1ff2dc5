/- the reference's around, overlap; grids. -/
import Derived.Test.YtkhcogfajihecaaY18
import Derived.Test.YtkhcogfajihecaaYM3
set_option linter.unusedVariables false
set_option linter.unusedSimpArgs false
namespace Go.Proofs.Ytkhcogfajihecaa
open Go Go.RowKit Hd

/-- Two closed rectangles have a point in common. -/
def OvC (a0 a1 a2 a3 b0 b1 b2 b3 : Int) : Prop := a0 ≤ b2 ∧ b0 ≤ a2 ∧ a1 ≤ b3 ∧ b1 ≤ a3
instance (a0 a1 a2 a3 b0 b1 b2 b3 : Int) : Decidable (OvC a0 a1 a2 a3 b0 b1 b2 b3) := inferInstanceAs (Decidable (_ ∧ _))
def ovB (x0 y0 x1 y1 X Y : Int) : Bool := decide (OvC (X * 64) (Y * 64) ((X * 64) + 64) ((Y * 64) + 64) x0 y0 x1 y1)
theorem fl64 (n : Int) : 64 * fl n 64 ≤ n ∧ n < 64 * (fl n 64 + 1) := by unfold fl; omega
theorem own_cast {w : World} {b : Nat} {v : Value} {l m : List P2} (h : Hid (OwnP w b v l)) (e : l = m) : Hid (OwnP w b v m) := e ▸ h
theorem mem_ceX {x0 y0 x1 y1 Y0 : Int} {k : Nat} {c : P2} : c ∈ ceX x0 y0 x1 y1 Y0 k ↔ (Y0 ≤ c.2 ∧ c.2 < Y0 + k) ∧ rF x0 1 ≤ c.1 ∧ c.1 ≤ rL x1 1 := by
  induction k with
  | zero => simp [ceX]; omega
  | succ k ih =>
    rw [ceX, List.mem_append, ih, mem_rowK]
    constructor
    · rintro (⟨h1, h2⟩ | ⟨h1, h2, h3⟩)
      · exact ⟨by omega, h2⟩
      · exact ⟨by omega, by omega, by omega⟩
    · rintro ⟨h1, h2⟩
      by_cases h : c.2 < Y0 + k
      · exact .inl ⟨by omega, h2⟩
      · exact .inr ⟨by omega, by omega, by omega⟩
theorem sr_ceX (x0 y0 x1 y1 Y0 : Int) (k : Nat) : SrC (ceX x0 y0 x1 y1 Y0 k) := by
  induction k with
  | zero => exact List.Pairwise.nil
  | succ k ih =>
    refine sr_app ih (sr_rowK _ _ _) (fun u hu b hb => ?_)
    rw [mem_ceX] at hu
    rw [mem_rowK] at hb
    exact .inl (by omega)
/-- The reference's grid has the cells of the rectangle. -/
theorem grid_ce {x0 y0 x1 y1 KX0 KY0 KX1 KY1 : Int} {n m : Nat} (h1 : 64 * (KX0 + 1) ≤ x0) (h2 : 64 * (KY0 + 1) ≤ y0) (h3 : x1 < 64 * KX1) (h4 : y1 < 64 * KY1) (hn : (KX1 + 1 - KX0).toNat = n) (hm : (KY1 + 1 - KY0).toNat = m) :
    gridF (ovB x0 y0 x1 y1) KX0 KY0 n m = ceX x0 y0 x1 y1 (rF y0 1) (rL y1 1 + 1 - rF y0 1).toNat := by
  refine sr_ext (sr_gridF _ _ _ _ _) (sr_ceX _ _ _ _ _ _) (fun c => ?_)
  rw [mem_gridF, mem_ceX]
  unfold ovB
  rw [decide_eq_true_iff]
  unfold OvC
  have a1 := rF_le (lo := x0) (d := 1) (y := c.1) (by decide)
  have a2 := le_rL (hi := x1) (d := 1) (y := c.1) (by decide)
  have a3 := rF_le (lo := y0) (d := 1) (y := c.2) (by decide)
  have a4 := le_rL (hi := y1) (d := 1) (y := c.2) (by decide)
  constructor
  · rintro ⟨g1, g2, g3, g4, g5, g6⟩
    have b1 := a1.2 (by omega)
    have b2 := a2.2 (by omega)
    have b3 := a3.2 (by omega)
    have b4 := a4.2 (by omega)
    omega
  · rintro ⟨g1, g2, g3⟩
    have b1 := a1.1 g2
    have b2 := a2.1 g3
    have b3 := a3.1 g1.1
    have b4 := a4.1 (by omega)
    omega
theorem ceX_n {x0 y0 x1 y1 : Int} (hx : x0 ≤ x1) (hy : y0 ≤ y1) : (((ceX x0 y0 x1 y1 (rF y0 1) (rL y1 1 + 1 - rF y0 1).toNat).length : Nat) : Int) = ceN x0 y0 x1 y1 := by
  have a := rF_one x0
  have b := rL_one x1
  have c := rF_one y0
  have d := rL_one y1
  rw [ceX_len, Int.natCast_mul, Int.toNat_of_nonneg (by omega), Int.toNat_of_nonneg (by omega), Int.mul_comm]
  unfold ceN
  rw [show rL x1 1 + 1 - rF x0 1 = rL x1 1 - rF x0 1 + 1 by omega, show rL y1 1 + 1 - rF y0 1 = rL y1 1 - rF y0 1 + 1 by omega]
theorem ce_big {x0 y0 x1 y1 KX0 KY0 KX1 KY1 : Int} (hx : x0 ≤ x1) (hy : y0 ≤ y1) (h1 : x0 < 64 * (KX0 + 2)) (h2 : y0 < 64 * (KY0 + 2)) (h3 : 64 * (KX1 - 1) ≤ x1) (h4 : 64 * (KY1 - 1) ≤ y1) (g1 : 64 * (KX0 + 1) ≤ x0) (g2 : 64 * (KY0 + 1) ≤ y0) (g3 : x1 < 64 * KX1) (g4 : y1 < 64 * KY1) (h : 20000 < ((KX1 - KX0) - 2) * ((KY1 - KY0) - 2)) : 8192 < ceN x0 y0 x1 y1 := by
  have a := rF_one x0
  have b := rL_one x1
  have c := rF_one y0
  have d := rL_one y1
  have p1 : (KX1 - KX0) - 2 ≤ rL x1 1 - rF x0 1 + 1 := by omega
  have p2 : (KY1 - KY0) - 2 ≤ rL y1 1 - rF y0 1 + 1 := by omega
  have p3 : 0 ≤ (KX1 - KX0) - 2 := by omega
  have p4 : 0 ≤ (KY1 - KY0) - 2 := by omega
  have := Int.mul_le_mul p1 p2 p4 (by omega)
  unfold ceN
  omega

set_option maxRecDepth 100000 in
set_option maxHeartbeats 4000000 in
theorem around_w0 (x0 y0 x1 y1 : Int)   (x01 : -1152921504606846976 ≤ x0) (x02 : x0 ≤ 1152921504606846976) (y01 : -1152921504606846976 ≤ y0) (y02 : y0 ≤ 1152921504606846976) (x11 : -1152921504606846976 ≤ x1) (x12 : x1 ≤ 1152921504606846976) (y11 : -1152921504606846976 ≤ y1) (y12 : y1 ≤ 1152921504606846976)  (w : World) :
    Calls Try.prog 75 #[.agg #[.int .i64 x0, .int .i64 y0, .int .i64 x1, .int .i64 y1]] w fun e w' => e = .returned (.agg #[.int .i64 ((fl x0 64) - 1), .int .i64 ((fl y0 64) - 1), .int .i64 ((fl x1 64) + 1), .int .i64 ((fl y1 64) + 1)]) ∧ Below w.heap.size w w' := by
  obtain ⟨fx01, fx02⟩ := fl64 x0
  obtain ⟨fy01, fy02⟩ := fl64 y0
  obtain ⟨fx11, fx12⟩ := fl64 x1
  obtain ⟨fy11, fy12⟩ := fl64 y1
  have H0 := Lib.hid (fun w => BFloor_is x0 64 ⟨by omega, by omega⟩ ⟨by decide, by decide⟩ w)
  have H1 := Lib.hid (fun w => BFloor_is y0 64 ⟨by omega, by omega⟩ ⟨by decide, by decide⟩ w)
  have H2 := Lib.hid (fun w => BFloor_is x1 64 ⟨by omega, by omega⟩ ⟨by decide, by decide⟩ w)
  have H3 := Lib.hid (fun w => BFloor_is y1 64 ⟨by omega, by omega⟩ ⟨by decide, by decide⟩ w)
  obtain ⟨HB, B_z0, B_z1⟩ := box2 w 45 #[.int .i64 x0, .int .i64 y0, .int .i64 x1, .int .i64 y1] 45 #[.int .i64 0, .int .i64 0, .int .i64 0, .int .i64 0]
  go_enter Try.func75, Try.ntmps75
  go_upto_region 1 with (fail)
  generalize (w.alloc (.cells #[.int .i64 x0, .int .i64 y0, .int .i64 x1, .int .i64 y1] 45)).alloc (.cells #[.int .i64 0, .int .i64 0, .int .i64 0, .int .i64 0] 45) = W0 at *
  have wq1x0 : IntKind.i64.wrap ((fl x0 64) - 1) = (fl x0 64) - 1 := by rw [IntKind.wrap_i64]; omega
  have wq1x1 : IntKind.i64.wrap ((fl y0 64) - 1) = (fl y0 64) - 1 := by rw [IntKind.wrap_i64]; omega
  have wq1x2 : IntKind.i64.wrap ((fl x1 64) + 1) = (fl x1 64) + 1 := by rw [IntKind.wrap_i64]; omega
  have wq1x3 : IntKind.i64.wrap ((fl y1 64) + 1) = (fl y1 64) + 1 := by rw [IntKind.wrap_i64]; omega
  obtain ⟨f0z1, f1z1, f2z1, f3z1⟩ := froz4 B_z1
  clear f0z1 f1z1 f2z1 f3z1
  obtain ⟨c0z0, c1z0, c2z0, c3z0⟩ := cells4 B_z0
  have tk1x0 : True := trivial
  go_region_held3 (fun w' => w'.cell? ⟨w.heap.size, 0, none⟩ = some (.int .i64 x0) ∧ w'.cell? ⟨w.heap.size, 1, none⟩ = some (.int .i64 y0) ∧ w'.cell? ⟨w.heap.size, 2, none⟩ = some (.int .i64 x1) ∧ w'.cell? ⟨w.heap.size, 3, none⟩ = some (.int .i64 y1)) (((try dsimp only); (repeat' apply And.intro) <;> (first | (with_reducible assumption) | ((repeat (first | (with_reducible refine Eq.trans (cell_drew1 _ _) ?_) | (with_reducible refine Eq.trans (cell_far (by omega) _ _ _) ?_) | (with_reducible refine Eq.trans (World.cell?_alloc_lt _ _ _ (by first | (dsimp only; omega) | (simp only [World.size_alloc, World.size_setCell]; omega))) ?_))); with_reducible assumption) | assumption | go_keep)))
    (first
      | (clear tk1x0; go_at_call 68; refine (H0.out _).mono ?_; rintro e w1 ⟨rfl, bb⟩; replace bb := nextw (w0 := W0) (by exact sm) bb; replace B_z0 := mv B_z0 bb; replace B_z1 := mv B_z1 bb; replace HB := nx HB bb; clear bb c0z0 c1z0 c2z0 c3z0; have c0z1 : w1.cell? ⟨w.heap.size + 1, 0, none⟩ = some (.int .i64 0) := B_z1.out.cell 0 rfl; have c1z1 : w1.cell? ⟨w.heap.size + 1, 1, none⟩ = some (.int .i64 0) := B_z1.out.cell 1 rfl; have c2z1 : w1.cell? ⟨w.heap.size + 1, 2, none⟩ = some (.int .i64 0) := B_z1.out.cell 2 rfl; have c3z1 : w1.cell? ⟨w.heap.size + 1, 3, none⟩ = some (.int .i64 0) := B_z1.out.cell 3 rfl; have f0z1 : w1.frozen? ⟨w.heap.size + 1, 0, none⟩ = false := B_z1.out.frozen 0; have f1z1 : w1.frozen? ⟨w.heap.size + 1, 1, none⟩ = false := B_z1.out.frozen 1; have f2z1 : w1.frozen? ⟨w.heap.size + 1, 2, none⟩ = false := B_z1.out.frozen 2; have f3z1 : w1.frozen? ⟨w.heap.size + 1, 3, none⟩ = false := B_z1.out.frozen 3; have c0z0 : w1.cell? ⟨w.heap.size, 0, none⟩ = some (.int .i64 x0) := B_z0.out.cell 0 rfl; have c1z0 : w1.cell? ⟨w.heap.size, 1, none⟩ = some (.int .i64 y0) := B_z0.out.cell 1 rfl; have c2z0 : w1.cell? ⟨w.heap.size, 2, none⟩ = some (.int .i64 x1) := B_z0.out.cell 2 rfl; have c3z0 : w1.cell? ⟨w.heap.size, 3, none⟩ = some (.int .i64 y1) := B_z0.out.cell 3 rfl; have tk1x1 : True := trivial)
      | (clear tk1x1; go_at_call 68; refine (H1.out _).mono ?_; rintro e w2 ⟨rfl, bb⟩; replace bb := nextw (w0 := w1) (by exact sm) bb; replace B_z0 := mv B_z0 bb; replace B_z1 := mv B_z1 bb; replace HB := nx HB bb; clear bb c0z0 c1z0 c2z0 c3z0; have c0z1 : w2.cell? ⟨w.heap.size + 1, 0, none⟩ = some (.int .i64 0) := B_z1.out.cell 0 rfl; have c1z1 : w2.cell? ⟨w.heap.size + 1, 1, none⟩ = some (.int .i64 0) := B_z1.out.cell 1 rfl; have c2z1 : w2.cell? ⟨w.heap.size + 1, 2, none⟩ = some (.int .i64 0) := B_z1.out.cell 2 rfl; have c3z1 : w2.cell? ⟨w.heap.size + 1, 3, none⟩ = some (.int .i64 0) := B_z1.out.cell 3 rfl; have f0z1 : w2.frozen? ⟨w.heap.size + 1, 0, none⟩ = false := B_z1.out.frozen 0; have f1z1 : w2.frozen? ⟨w.heap.size + 1, 1, none⟩ = false := B_z1.out.frozen 1; have f2z1 : w2.frozen? ⟨w.heap.size + 1, 2, none⟩ = false := B_z1.out.frozen 2; have f3z1 : w2.frozen? ⟨w.heap.size + 1, 3, none⟩ = false := B_z1.out.frozen 3; have c0z0 : w2.cell? ⟨w.heap.size, 0, none⟩ = some (.int .i64 x0) := B_z0.out.cell 0 rfl; have c1z0 : w2.cell? ⟨w.heap.size, 1, none⟩ = some (.int .i64 y0) := B_z0.out.cell 1 rfl; have c2z0 : w2.cell? ⟨w.heap.size, 2, none⟩ = some (.int .i64 x1) := B_z0.out.cell 2 rfl; have c3z0 : w2.cell? ⟨w.heap.size, 3, none⟩ = some (.int .i64 y1) := B_z0.out.cell 3 rfl; have tk1x2 : True := trivial)
      | (clear tk1x2; go_at_call 68; refine (H2.out _).mono ?_; rintro e w3 ⟨rfl, bb⟩; replace bb := nextw (w0 := w2) (by exact sm) bb; replace B_z0 := mv B_z0 bb; replace B_z1 := mv B_z1 bb; replace HB := nx HB bb; clear bb c0z0 c1z0 c2z0 c3z0; have c0z1 : w3.cell? ⟨w.heap.size + 1, 0, none⟩ = some (.int .i64 0) := B_z1.out.cell 0 rfl; have c1z1 : w3.cell? ⟨w.heap.size + 1, 1, none⟩ = some (.int .i64 0) := B_z1.out.cell 1 rfl; have c2z1 : w3.cell? ⟨w.heap.size + 1, 2, none⟩ = some (.int .i64 0) := B_z1.out.cell 2 rfl; have c3z1 : w3.cell? ⟨w.heap.size + 1, 3, none⟩ = some (.int .i64 0) := B_z1.out.cell 3 rfl; have f0z1 : w3.frozen? ⟨w.heap.size + 1, 0, none⟩ = false := B_z1.out.frozen 0; have f1z1 : w3.frozen? ⟨w.heap.size + 1, 1, none⟩ = false := B_z1.out.frozen 1; have f2z1 : w3.frozen? ⟨w.heap.size + 1, 2, none⟩ = false := B_z1.out.frozen 2; have f3z1 : w3.frozen? ⟨w.heap.size + 1, 3, none⟩ = false := B_z1.out.frozen 3; have c0z0 : w3.cell? ⟨w.heap.size, 0, none⟩ = some (.int .i64 x0) := B_z0.out.cell 0 rfl; have c1z0 : w3.cell? ⟨w.heap.size, 1, none⟩ = some (.int .i64 y0) := B_z0.out.cell 1 rfl; have c2z0 : w3.cell? ⟨w.heap.size, 2, none⟩ = some (.int .i64 x1) := B_z0.out.cell 2 rfl; have c3z0 : w3.cell? ⟨w.heap.size, 3, none⟩ = some (.int .i64 y1) := B_z0.out.cell 3 rfl; have tk1x3 : True := trivial)
      | (clear tk1x3; go_at_call 68; refine (H3.out _).mono ?_; rintro e w4 ⟨rfl, bb⟩; replace bb := nextw (w0 := w3) (by exact sm) bb; replace B_z0 := mv B_z0 bb; replace B_z1 := mv B_z1 bb; replace HB := nx HB bb; clear bb c0z0 c1z0 c2z0 c3z0; have c0z1 : w4.cell? ⟨w.heap.size + 1, 0, none⟩ = some (.int .i64 0) := B_z1.out.cell 0 rfl; have c1z1 : w4.cell? ⟨w.heap.size + 1, 1, none⟩ = some (.int .i64 0) := B_z1.out.cell 1 rfl; have c2z1 : w4.cell? ⟨w.heap.size + 1, 2, none⟩ = some (.int .i64 0) := B_z1.out.cell 2 rfl; have c3z1 : w4.cell? ⟨w.heap.size + 1, 3, none⟩ = some (.int .i64 0) := B_z1.out.cell 3 rfl; have f0z1 : w4.frozen? ⟨w.heap.size + 1, 0, none⟩ = false := B_z1.out.frozen 0; have f1z1 : w4.frozen? ⟨w.heap.size + 1, 1, none⟩ = false := B_z1.out.frozen 1; have f2z1 : w4.frozen? ⟨w.heap.size + 1, 2, none⟩ = false := B_z1.out.frozen 2; have f3z1 : w4.frozen? ⟨w.heap.size + 1, 3, none⟩ = false := B_z1.out.frozen 3; have c0z0 : w4.cell? ⟨w.heap.size, 0, none⟩ = some (.int .i64 x0) := B_z0.out.cell 0 rfl; have c1z0 : w4.cell? ⟨w.heap.size, 1, none⟩ = some (.int .i64 y0) := B_z0.out.cell 1 rfl; have c2z0 : w4.cell? ⟨w.heap.size, 2, none⟩ = some (.int .i64 x1) := B_z0.out.cell 2 rfl; have c3z0 : w4.cell? ⟨w.heap.size, 3, none⟩ = some (.int .i64 y1) := B_z0.out.cell 3 rfl; have tk1x4 : True := trivial))
  clear c0z0 c1z0 c2z0 c3z0
  obtain ⟨s0, s1, s2, s3⟩ := cells4 (stor4 B_z1 (.int .i64 ((fl x0 64) - 1)) (.int .i64 ((fl y0 64) - 1)) (.int .i64 ((fl x1 64) + 1)) (.int .i64 ((fl y1 64) + 1)))
  have HF := stb4 HB (y := w.heap.size + 1) (by omega) 0 (.int .i64 ((fl x0 64) - 1)) 1 (.int .i64 ((fl y0 64) - 1)) 2 (.int .i64 ((fl x1 64) + 1)) 3 (.int .i64 ((fl y1 64) + 1))
  obtain ⟨c0z1, c1z1, c2z1, c3z1⟩ := cells4 B_z1
  obtain ⟨f0z1, f1z1, f2z1, f3z1⟩ := froz4 B_z1
  go_wp2_with fail
  exact bodyPost_ret (v := .agg #[.int .i64 ((fl x0 64) - 1), .int .i64 ((fl y0 64) - 1), .int .i64 ((fl x1 64) + 1), .int .i64 ((fl y1 64) + 1)]) (by simp [results, Try.results75, go_sem, s0, s1, s2, s3]) rfl ⟨rfl, nextw HF.out (by exact sm)⟩

set_option maxRecDepth 100000 in
set_option maxHeartbeats 4000000 in
theorem overlap_w0 (a0 a1 a2 a3 b0 b1 b2 b3 : Int)   (dd0 : a0 ≤ b2) (dd1 : b0 ≤ a2) (dd2 : a1 ≤ b3) (w : World) :
    Calls Try.prog 76 #[.agg #[.int .i64 a0, .int .i64 a1, .int .i64 a2, .int .i64 a3], .agg #[.int .i64 b0, .int .i64 b1, .int .i64 b2, .int .i64 b3]] w fun e w' => e = .returned (.bool (decide (b1 ≤ a3))) ∧ Below w.heap.size w w' := by
  obtain ⟨HB, B_z0, B_z1⟩ := box2 w 45 #[.int .i64 a0, .int .i64 a1, .int .i64 a2, .int .i64 a3] 45 #[.int .i64 b0, .int .i64 b1, .int .i64 b2, .int .i64 b3]
  go_enter Try.func76, Try.ntmps76
  go_upto_region 1 with (fail)
  generalize (w.alloc (.cells #[.int .i64 a0, .int .i64 a1, .int .i64 a2, .int .i64 a3] 45)).alloc (.cells #[.int .i64 b0, .int .i64 b1, .int .i64 b2, .int .i64 b3] 45) = W0 at *
  obtain ⟨c0z0, c1z0, c2z0, c3z0⟩ := cells4 B_z0
  obtain ⟨c0z1, c1z1, c2z1, c3z1⟩ := cells4 B_z1
  go_wp2
  go_ret
  exact ⟨(by first | rfl | exact rbt (by omega) | exact rbf (by omega)), nextw HB.out (by exact sm)⟩

set_option maxRecDepth 100000 in
set_option maxHeartbeats 4000000 in
theorem overlap_w1 (a0 a1 a2 a3 b0 b1 b2 b3 : Int)   (dd0 : b2 < a0) (w : World) :
    Calls Try.prog 76 #[.agg #[.int .i64 a0, .int .i64 a1, .int .i64 a2, .int .i64 a3], .agg #[.int .i64 b0, .int .i64 b1, .int .i64 b2, .int .i64 b3]] w fun e w' => e = .returned (.bool false) ∧ Below w.heap.size w w' := by
  obtain ⟨HB, B_z0, B_z1⟩ := box2 w 45 #[.int .i64 a0, .int .i64 a1, .int .i64 a2, .int .i64 a3] 45 #[.int .i64 b0, .int .i64 b1, .int .i64 b2, .int .i64 b3]
  go_enter Try.func76, Try.ntmps76
  go_upto_region 1 with (fail)
  generalize (w.alloc (.cells #[.int .i64 a0, .int .i64 a1, .int .i64 a2, .int .i64 a3] 45)).alloc (.cells #[.int .i64 b0, .int .i64 b1, .int .i64 b2, .int .i64 b3] 45) = W0 at *
  obtain ⟨c0z0, c1z0, c2z0, c3z0⟩ := cells4 B_z0
  obtain ⟨c0z1, c1z1, c2z1, c3z1⟩ := cells4 B_z1
  go_wp2
  go_ret
  exact ⟨(by first | rfl | exact rbt (by omega) | exact rbf (by omega)), nextw HB.out (by exact sm)⟩

set_option maxRecDepth 100000 in
set_option maxHeartbeats 4000000 in
theorem overlap_w2 (a0 a1 a2 a3 b0 b1 b2 b3 : Int)   (dd0 : a0 ≤ b2) (dd1 : a2 < b0) (w : World) :
    Calls Try.prog 76 #[.agg #[.int .i64 a0, .int .i64 a1, .int .i64 a2, .int .i64 a3], .agg #[.int .i64 b0, .int .i64 b1, .int .i64 b2, .int .i64 b3]] w fun e w' => e = .returned (.bool false) ∧ Below w.heap.size w w' := by
  obtain ⟨HB, B_z0, B_z1⟩ := box2 w 45 #[.int .i64 a0, .int .i64 a1, .int .i64 a2, .int .i64 a3] 45 #[.int .i64 b0, .int .i64 b1, .int .i64 b2, .int .i64 b3]
  go_enter Try.func76, Try.ntmps76
  go_upto_region 1 with (fail)
  generalize (w.alloc (.cells #[.int .i64 a0, .int .i64 a1, .int .i64 a2, .int .i64 a3] 45)).alloc (.cells #[.int .i64 b0, .int .i64 b1, .int .i64 b2, .int .i64 b3] 45) = W0 at *
  obtain ⟨c0z0, c1z0, c2z0, c3z0⟩ := cells4 B_z0
  obtain ⟨c0z1, c1z1, c2z1, c3z1⟩ := cells4 B_z1
  go_wp2
  go_ret
  exact ⟨(by first | rfl | exact rbt (by omega) | exact rbf (by omega)), nextw HB.out (by exact sm)⟩

set_option maxRecDepth 100000 in
set_option maxHeartbeats 4000000 in
theorem overlap_w3 (a0 a1 a2 a3 b0 b1 b2 b3 : Int)   (dd0 : a0 ≤ b2) (dd1 : b0 ≤ a2) (dd2 : b3 < a1) (w : World) :
    Calls Try.prog 76 #[.agg #[.int .i64 a0, .int .i64 a1, .int .i64 a2, .int .i64 a3], .agg #[.int .i64 b0, .int .i64 b1, .int .i64 b2, .int .i64 b3]] w fun e w' => e = .returned (.bool false) ∧ Below w.heap.size w w' := by
  obtain ⟨HB, B_z0, B_z1⟩ := box2 w 45 #[.int .i64 a0, .int .i64 a1, .int .i64 a2, .int .i64 a3] 45 #[.int .i64 b0, .int .i64 b1, .int .i64 b2, .int .i64 b3]
  go_enter Try.func76, Try.ntmps76
  go_upto_region 1 with (fail)
  generalize (w.alloc (.cells #[.int .i64 a0, .int .i64 a1, .int .i64 a2, .int .i64 a3] 45)).alloc (.cells #[.int .i64 b0, .int .i64 b1, .int .i64 b2, .int .i64 b3] 45) = W0 at *
  obtain ⟨c0z0, c1z0, c2z0, c3z0⟩ := cells4 B_z0
  obtain ⟨c0z1, c1z1, c2z1, c3z1⟩ := cells4 B_z1
  go_wp2
  go_ret
  exact ⟨(by first | rfl | exact rbt (by omega) | exact rbf (by omega)), nextw HB.out (by exact sm)⟩

def overlapV (a0 a1 a2 a3 b0 b1 b2 b3 : Int) : Value := if a0 ≤ b2 then if b0 ≤ a2 then if a1 ≤ b3 then .bool (decide (b1 ≤ a3)) else .bool false else .bool false else .bool false
theorem overlap_any (a0 a1 a2 a3 b0 b1 b2 b3 : Int)  (w : World) :
    Calls Try.prog 76 #[.agg #[.int .i64 a0, .int .i64 a1, .int .i64 a2, .int .i64 a3], .agg #[.int .i64 b0, .int .i64 b1, .int .i64 b2, .int .i64 b3]] w fun e w' => e = .returned (overlapV a0 a1 a2 a3 b0 b1 b2 b3) ∧ Below w.heap.size w w' := by
  unfold overlapV
  by_cases dd0 : a0 ≤ b2
  · rw [if_pos dd0]
    by_cases dd1 : b0 ≤ a2
    · rw [if_pos dd1]
      by_cases dd2 : a1 ≤ b3
      · rw [if_pos dd2]
        exact overlap_w0 a0 a1 a2 a3 b0 b1 b2 b3    dd0 dd1 dd2 w 
      · rw [if_neg dd2]
        exact overlap_w3 a0 a1 a2 a3 b0 b1 b2 b3    dd0 dd1 (by omega) w 
    · rw [if_neg dd1]
      exact overlap_w2 a0 a1 a2 a3 b0 b1 b2 b3    dd0 (by omega) w 
  · rw [if_neg dd0]
    exact overlap_w1 a0 a1 a2 a3 b0 b1 b2 b3    (by omega) w 

theorem overlap_is (a0 a1 a2 a3 b0 b1 b2 b3 : Int)  (w : World) : Calls Try.prog 76 #[.agg #[.int .i64 a0, .int .i64 a1, .int .i64 a2, .int .i64 a3], .agg #[.int .i64 b0, .int .i64 b1, .int .i64 b2, .int .i64 b3]] w fun e w' => e = .returned (.bool (decide (OvC a0 a1 a2 a3 b0 b1 b2 b3))) ∧ Below w.heap.size w w' := by
  rw [← show overlapV a0 a1 a2 a3 b0 b1 b2 b3 = .bool (decide (OvC a0 a1 a2 a3 b0 b1 b2 b3)) from (by unfold overlapV; (repeat' split) <;> (refine congrArg Value.bool ?_; rw [Bool.eq_iff_iff, decide_eq_true_iff]; (try simp only [decide_eq_true_iff, Bool.false_eq_true, false_iff]); (try simp only [OvC] at *); omega))]; exact overlap_any a0 a1 a2 a3 b0 b1 b2 b3  w
end Go.Proofs.Ytkhcogfajihecaa
