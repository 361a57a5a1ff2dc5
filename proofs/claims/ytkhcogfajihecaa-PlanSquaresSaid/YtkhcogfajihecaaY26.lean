/- the law PlanSquares. -/
import Derived.Test.YtkhcogfajihecaaY21
import Derived.Test.YtkhcogfajihecaaY12
import Derived.Test.YtkhcogfajihecaaYM5
set_option linter.unusedVariables false
set_option linter.unusedSimpArgs false
namespace Go.Proofs.Ytkhcogfajihecaa
open Go Go.RowKit Hd

theorem okq_pt {p q : Int} : OkQ p q p q ↔ Wi p 1048576 ∧ Wi q 1048576 := ⟨fun h => ⟨h.1, h.2.1⟩, fun h => ⟨h.1, h.2, h.1, h.2, Int.le_refl _, Int.le_refl _⟩⟩
theorem around_mem {p q : Int} {c : P2} (h : c ∈ ceV p q p q) : (64 * c.1 ≤ p ∧ p ≤ 64 * c.1 + 64) ∧ (64 * c.2 ≤ q ∧ q ≤ 64 * c.2 + 64) := by
  unfold ceV at h
  split at h
  · rw [mem_ceX] at h
    have a1 := rF_one p
    have a2 := rL_one p
    have a3 := rF_one q
    have a4 := rL_one q
    omega
  · cases h
theorem around_of {p q : Int} (h : Wi p 1048576 ∧ Wi q 1048576) : (fl p 64, fl q 64) ∈ ceV p q p q := by
  have e := (ce_one (okq_pt.2 h)).1
  rw [ceV_ok e, mem_ceX]
  have a1 := rF_one p
  have a2 := rL_one p
  have a3 := rF_one q
  have a4 := rL_one q
  have b1 := fl64 p
  have b2 := fl64 q
  dsimp only
  omega
/-- Whether one of the first k cells is the cell (a, b). -/
def fdB (l : List P2) (a b : Int) : Nat → Bool
  | 0 => false
  | k + 1 => fdB l a b k || decide (l.getD k z2 = (a, b))
theorem fdB_true {l : List P2} {a b : Int} (h : (a, b) ∈ l) : fdB l a b l.length = true := by
  have key : ∀ n, n ≤ l.length → ∀ i, i < n → l.getD i z2 = (a, b) → fdB l a b n = true := by
    intro n
    induction n with
    | zero => intro _ i hi; omega
    | succ n ih =>
      intro hn i hi e
      unfold fdB
      rw [Bool.or_eq_true]
      rcases Nat.lt_or_ge i n with h1 | h1
      · exact .inl (ih (by omega) i h1 e)
      · have : i = n := by omega
        subst this
        exact .inr (decide_eq_true e)
  obtain ⟨i, hi, e⟩ := List.mem_iff_getElem.1 h
  exact key _ (Nat.le_refl _) i hi (by rw [getD_eq hi]; exact e)
theorem Square_m (a b : Int) (h1 : Wi a 16384) (h2 : Wi b 16384) (w : World) : Calls Try.prog 31 #[.agg #[.int .i64 a, .int .i64 b]] w fun e w' => e = .returned (.tuple #[.agg #[.int .i64 (a * 64), .int .i64 (b * 64), .int .i64 ((a * 64) + 64), .int .i64 ((b * 64) + 64)], .bool true]) ∧ Below w.heap.size w w' := by
  have h := Square_w0 a b h1 h2 w
  rw [Int.mul_comm 64 a, Int.mul_comm 64 b] at h
  exact h
theorem sq_both (a b : Int) : ∃ S0 S1 S2 S3 : Int, ∃ SB : Bool, (∀ w, Calls Try.prog 31 #[.agg #[.int .i64 a, .int .i64 b]] w fun e w' => e = .returned (.tuple #[.agg #[.int .i64 S0, .int .i64 S1, .int .i64 S2, .int .i64 S3], .bool SB]) ∧ Below w.heap.size w w') ∧ (∀ w, Calls Try.prog 32 #[.agg #[.int .i64 a, .int .i64 b]] w fun e w' => e = .returned (.tuple #[.agg #[.int .i64 S0, .int .i64 S1, .int .i64 S2, .int .i64 S3], .bool SB]) ∧ Below w.heap.size w w') := by
  by_cases h1 : Wi a 16384
  · by_cases h2 : Wi b 16384
    · exact ⟨_, _, _, _, _, fun w => Square_m a b h1 h2 w, fun w => RSquare_w0 a b h1 h2 w⟩
    · exact ⟨_, _, _, _, _, fun w => Square_w2 a b h1 h2 w, fun w => RSquare_w2 a b h1 h2 w⟩
  · exact ⟨_, _, _, _, _, fun w => Square_w1 a b h1 w, fun w => RSquare_w1 a b h1 w⟩

set_option maxRecDepth 100000 in
set_option maxHeartbeats 4000000 in
theorem RAround_yes (a b : Int) (h : Wi a 1048576 ∧ Wi b 1048576) (w : World) :
    Calls Try.prog 37 #[.agg #[.int .i64 a, .int .i64 b]] w fun e w' => ∃ A c, e = .returned (.slice A (ceV a b a b).length c) ∧ PL w' w.heap.size w'.heap.size A (ceV a b a b).length c (ceV a b a b) ∧ Below w.heap.size w w' := by
  have HP := Lib.hid (fun w => BPoint_is a b w)
  rw [decide_eq_true h] at HP
  obtain ⟨HB, B_z0⟩ := box1 w 43 #[.int .i64 a, .int .i64 b]
  go_enter Try.func37, Try.ntmps37
  go_wp2_with fail
  generalize w.alloc (.cells #[.int .i64 a, .int .i64 b] 43) = W0 at *
  obtain ⟨c0z0, c1z0⟩ := cells2 B_z0
  go_wp2_with fail
  refine (HP.out _).mono ?_
  clear c0z0 c1z0
  rintro e w1 ⟨rfl, bb⟩
  replace bb := nextw (w0 := W0) (by exact sm) bb
  replace B_z0 := mv B_z0 bb
  replace HB := nx HB bb
  clear bb
  have hs0 := HB.out.size
  obtain ⟨c0z0, c1z0⟩ := cells2 B_z0
  go_wp2_with fail
  refine (RCellsN a b a b rfl rfl _ hs0).mono ?_
  clear c0z0 c1z0
  rintro e w2 ⟨A0, c0, rfl, L0, bb⟩
  replace bb := nextw (w0 := w1) (by exact sm) bb
  replace B_z0 := mv B_z0 bb
  replace HB := nx HB bb
  clear bb
  replace L0 := Lib.hid L0
  go_wp2_with fail
  exact bodyPost_ret (v := .slice A0 (ceV a b a b).length c0) (by simp [results, Try.results37, go_sem]) rfl ⟨A0, c0, rfl, PL.outw (PL.below L0.out (by exact sm)) (Nat.le_refl _), nextw HB.out (by exact sm)⟩

set_option maxRecDepth 100000 in
set_option maxHeartbeats 4000000 in
theorem RAround_no (a b : Int) (h : ¬ (Wi a 1048576 ∧ Wi b 1048576)) (w : World) :
    Calls Try.prog 37 #[.agg #[.int .i64 a, .int .i64 b]] w fun e w' => ∃ A c, e = .returned (.slice A (ceV a b a b).length c) ∧ PL w' w.heap.size w'.heap.size A (ceV a b a b).length c (ceV a b a b) ∧ Below w.heap.size w w' := by
  have HP := Lib.hid (fun w => BPoint_is a b w)
  rw [decide_eq_false h] at HP
  have HV : Hid (ceV a b a b = []) := ceV_nil (ceE_1 (fun g => h (okq_pt.1 g))) (by decide)
  obtain ⟨HB, B_z0⟩ := box1 w 43 #[.int .i64 a, .int .i64 b]
  go_enter Try.func37, Try.ntmps37
  go_wp2_with fail
  generalize w.alloc (.cells #[.int .i64 a, .int .i64 b] 43) = W0 at *
  obtain ⟨c0z0, c1z0⟩ := cells2 B_z0
  go_wp2_with fail
  refine (HP.out _).mono ?_
  clear c0z0 c1z0
  rintro e w1 ⟨rfl, bb⟩
  replace bb := nextw (w0 := W0) (by exact sm) bb
  replace B_z0 := mv B_z0 bb
  replace HB := nx HB bb
  clear bb
  go_wp2_with fail
  exact bodyPost_ret (v := .slice none 0 0) (by simp [results, Try.results37, go_sem]) rfl ⟨none, 0, by rw [HV.out]; rfl, by rw [HV.out]; exact pl_nil _ _, nextw HB.out (by exact sm)⟩

theorem RAround_is (a b : Int) (w : World) : Calls Try.prog 37 #[.agg #[.int .i64 a, .int .i64 b]] w fun e w' => ∃ A c, e = .returned (.slice A (ceV a b a b).length c) ∧ PL w' w.heap.size w'.heap.size A (ceV a b a b).length c (ceV a b a b) ∧ Below w.heap.size w w' := by
  by_cases h : Wi a 1048576 ∧ Wi b 1048576
  · exact RAround_yes a b h w
  · exact RAround_no a b h w

set_option maxRecDepth 100000 in
set_option maxHeartbeats 4000000 in
theorem LSquares_yes (a b p q : Int)  (h : Wi p 1048576 ∧ Wi q 1048576) (w : World) :
    Calls Try.prog 6 #[.agg #[.int .i64 a, .int .i64 b], .agg #[.int .i64 p, .int .i64 q]] w fun e w' => e = .returned (.bool true) ∧ Below w.heap.size w w' := by
  obtain ⟨S0, S1, S2, S3, SB, hsq, hsr⟩ := sq_both a b
  have HSQ := Lib.hid hsq
  have HSR := Lib.hid hsr
  clear hsq hsr
  obtain ⟨LL, hLL⟩ : ∃ l, ceV p q p q = l := ⟨_, rfl⟩
  have HAL := Lib.hid (fun w => Around_is p q w)
  have HAM := Lib.hid (fun w => RAround_is p q w)
  have hLb : LL.length ≤ 1000000 := by rw [← hLL]; exact Nat.le_trans (ceV_len _ _ _ _) (by decide)
  rw [hLL] at HAL HAM
  have HLL := Lib.hid hLL
  obtain ⟨N, hN⟩ : ∃ N, LL.length = N := ⟨_, rfl⟩
  rw [hN] at HAL HAM
  have hNb : N ≤ 1000000 := by omega
  replace hLb := Lib.hid hLb
  have HN := Lib.hid hN
  have HOF := Lib.hid (fun w => Of_w0 p q h w)
  have HOR := Lib.hid (fun w => ROf_w0 p q h w)
  have HFI : fdB LL (fl p 64) (fl q 64) N = true := by rw [← hN, ← hLL]; exact fdB_true (around_of h)
  obtain ⟨O0, hO0⟩ : ∃ q, fl p 64 = q := ⟨_, rfl⟩
  obtain ⟨O1, hO1⟩ : ∃ r, fl q 64 = r := ⟨_, rfl⟩
  rw [hO0, hO1] at HOF HOR HFI
  have HFIN := Lib.hid HFI
  clear hO0 hO1 HFI hLL hN
  have H0 := Lib.hid (fun w => awake_is w)
  have H1 := Lib.hid (fun w => (HSQ.out w))
  have H2 := Lib.hid (fun w => (HSR.out w))
  have H3 := Lib.hid (fun w => (HOF.out w))
  have H4 := Lib.hid (fun w => (HOR.out w))
  have H5 := Lib.hid (fun w => (HAL.out w))
  have H6 := Lib.hid (fun w => (HAM.out w))
  obtain ⟨HB, B_z0, B_z1⟩ := box2 w 37 #[.int .i64 a, .int .i64 b] 43 #[.int .i64 p, .int .i64 q]
  go_enter Try.func6, Try.ntmps6
  go_upto_region 1 with (fail)
  generalize (w.alloc (.cells #[.int .i64 a, .int .i64 b] 37)).alloc (.cells #[.int .i64 p, .int .i64 q] 43) = W0 at *
  go_wp2_with fail
  refine (H0.out _).mono ?_
  rintro e w1 ⟨rfl, bb⟩
  replace bb := nextw (w0 := W0) (by exact sm) bb
  replace B_z0 := mv B_z0 bb
  replace B_z1 := mv B_z1 bb
  replace HB := nx HB bb
  clear bb
  obtain ⟨c0z0, c1z0⟩ := cells2 B_z0
  go_wp2_with fail
  refine (H1.out _).mono ?_
  clear c0z0 c1z0
  rintro e w2 ⟨rfl, bb⟩
  replace bb := nextw (w0 := w1) (by exact sm) bb
  replace B_z0 := mv B_z0 bb
  replace B_z1 := mv B_z1 bb
  replace HB := nx HB bb
  clear bb
  have lt_z2z0 := B_z0.out.lt
  have lt_z2z1 := B_z1.out.lt
  obtain ⟨bb, B_z2⟩ := box1 w2 45 #[.int .i64 S0, .int .i64 S1, .int .i64 S2, .int .i64 S3]
  replace bb := bb.out
  replace B_z0 := mv B_z0 bb
  replace B_z1 := mv B_z1 bb
  replace HB := nx HB bb
  clear bb
  go_upto_region 4 with (fail)
  generalize w2.alloc (.cells #[.int .i64 S0, .int .i64 S1, .int .i64 S2, .int .i64 S3] 45) = WN3x52 at *
  obtain ⟨c0z0, c1z0⟩ := cells2 B_z0
  go_wp2_with fail
  refine (H2.out _).mono ?_
  clear c0z0 c1z0
  rintro e w3 ⟨rfl, bb⟩
  replace bb := nextw (w0 := WN3x52) (by exact sm) bb
  replace B_z0 := mv B_z0 bb
  replace B_z1 := mv B_z1 bb
  replace B_z2 := mv B_z2 bb
  replace HB := nx HB bb
  clear bb
  have lt_z3z0 := B_z0.out.lt
  have lt_z3z1 := B_z1.out.lt
  have lt_z3z2 := B_z2.out.lt
  obtain ⟨bb, B_z3⟩ := box1 w3 45 #[.int .i64 S0, .int .i64 S1, .int .i64 S2, .int .i64 S3]
  replace bb := bb.out
  replace B_z0 := mv B_z0 bb
  replace B_z1 := mv B_z1 bb
  replace B_z2 := mv B_z2 bb
  replace HB := nx HB bb
  clear bb
  go_upto_region 5 with (fail)
  generalize w3.alloc (.cells #[.int .i64 S0, .int .i64 S1, .int .i64 S2, .int .i64 S3] 45) = WN4x73 at *
  obtain ⟨c0z1, c1z1⟩ := cells2 B_z1
  go_wp2_with fail
  refine (H3.out _).mono ?_
  clear c0z1 c1z1
  rintro e w4 ⟨rfl, bb⟩
  replace bb := nextw (w0 := WN4x73) (by exact sm) bb
  replace B_z0 := mv B_z0 bb
  replace B_z1 := mv B_z1 bb
  replace B_z2 := mv B_z2 bb
  replace B_z3 := mv B_z3 bb
  replace HB := nx HB bb
  clear bb
  have lt_z4z0 := B_z0.out.lt
  have lt_z4z1 := B_z1.out.lt
  have lt_z4z2 := B_z2.out.lt
  have lt_z4z3 := B_z3.out.lt
  obtain ⟨bb, B_z4⟩ := box1 w4 37 #[.int .i64 O0, .int .i64 O1]
  replace bb := bb.out
  replace B_z0 := mv B_z0 bb
  replace B_z1 := mv B_z1 bb
  replace B_z2 := mv B_z2 bb
  replace B_z3 := mv B_z3 bb
  replace HB := nx HB bb
  clear bb
  go_upto_region 6 with (fail)
  generalize w4.alloc (.cells #[.int .i64 O0, .int .i64 O1] 37) = WN5x97 at *
  obtain ⟨c0z1, c1z1⟩ := cells2 B_z1
  go_wp2_with fail
  refine (H4.out _).mono ?_
  clear c0z1 c1z1
  rintro e w5 ⟨rfl, bb⟩
  replace bb := nextw (w0 := WN5x97) (by exact sm) bb
  replace B_z0 := mv B_z0 bb
  replace B_z1 := mv B_z1 bb
  replace B_z2 := mv B_z2 bb
  replace B_z3 := mv B_z3 bb
  replace B_z4 := mv B_z4 bb
  replace HB := nx HB bb
  clear bb
  have lt_z5z0 := B_z0.out.lt
  have lt_z5z1 := B_z1.out.lt
  have lt_z5z2 := B_z2.out.lt
  have lt_z5z3 := B_z3.out.lt
  have lt_z5z4 := B_z4.out.lt
  obtain ⟨bb, B_z5⟩ := box1 w5 37 #[.int .i64 O0, .int .i64 O1]
  replace bb := bb.out
  replace B_z0 := mv B_z0 bb
  replace B_z1 := mv B_z1 bb
  replace B_z2 := mv B_z2 bb
  replace B_z3 := mv B_z3 bb
  replace B_z4 := mv B_z4 bb
  replace HB := nx HB bb
  clear bb
  go_upto_region 7 with (fail)
  generalize w5.alloc (.cells #[.int .i64 O0, .int .i64 O1] 37) = WN6x124 at *
  obtain ⟨c0z1, c1z1⟩ := cells2 B_z1
  have sp_z0_L : Hid (w.heap.size < WN6x124.heap.size) := B_z0.out.lt
  have sp_z1_L : Hid (w.heap.size + 1 < WN6x124.heap.size) := B_z1.out.lt
  have sp_z2_L : Hid (w2.heap.size < WN6x124.heap.size) := B_z2.out.lt
  have sp_z3_L : Hid (w3.heap.size < WN6x124.heap.size) := B_z3.out.lt
  have sp_z4_L : Hid (w4.heap.size < WN6x124.heap.size) := B_z4.out.lt
  have sp_z5_L : Hid (w5.heap.size < WN6x124.heap.size) := B_z5.out.lt
  have lw_L : Hid (w.heap.size ≤ WN6x124.heap.size) := HB.out.size
  go_wp2_with fail
  refine (H5.out _).mono ?_
  clear c0z1 c1z1
  rintro e w6 ⟨AL, cL, rfl, L, bb⟩
  replace bb := nextw (w0 := WN6x124) (by exact sm) bb
  replace B_z0 := mv B_z0 bb
  replace B_z1 := mv B_z1 bb
  replace B_z2 := mv B_z2 bb
  replace B_z3 := mv B_z3 bb
  replace B_z4 := mv B_z4 bb
  replace B_z5 := mv B_z5 bb
  replace HB := nx HB bb
  clear bb
  replace L := Lib.hid L
  obtain ⟨lo_L, hi_L, hlo_L, hhi_L, L⟩ : ∃ lo hi, WN6x124.heap.size ≤ lo ∧ hi ≤ w6.heap.size ∧ Hid (PL w6 lo hi AL N cL LL) := ⟨_, _, Nat.le_refl _, Nat.le_refl _, L⟩
  have hb_z0_L : w.heap.size < lo_L := by have := sp_z0_L.out; omega
  have hb_z1_L : w.heap.size + 1 < lo_L := by have := sp_z1_L.out; omega
  have hb_z2_L : w2.heap.size < lo_L := by have := sp_z2_L.out; omega
  have hb_z3_L : w3.heap.size < lo_L := by have := sp_z3_L.out; omega
  have hb_z4_L : w4.heap.size < lo_L := by have := sp_z4_L.out; omega
  have hb_z5_L : w5.heap.size < lo_L := by have := sp_z5_L.out; omega
  have hw_L : w.heap.size ≤ lo_L := by have := lw_L.out; omega
  obtain ⟨c0z2, c1z2, c2z2, c3z2⟩ := cells4 B_z2
  obtain ⟨c0z3, c1z3, c2z3, c3z3⟩ := cells4 B_z3
  obtain ⟨c0z4, c1z4⟩ := cells2 B_z4
  obtain ⟨c0z5, c1z5⟩ := cells2 B_z5
  obtain ⟨c0z1, c1z1⟩ := cells2 B_z1
  have sp_z0_M : Hid (w.heap.size < w6.heap.size) := B_z0.out.lt
  have sp_z1_M : Hid (w.heap.size + 1 < w6.heap.size) := B_z1.out.lt
  have sp_z2_M : Hid (w2.heap.size < w6.heap.size) := B_z2.out.lt
  have sp_z3_M : Hid (w3.heap.size < w6.heap.size) := B_z3.out.lt
  have sp_z4_M : Hid (w4.heap.size < w6.heap.size) := B_z4.out.lt
  have sp_z5_M : Hid (w5.heap.size < w6.heap.size) := B_z5.out.lt
  have lw_M : Hid (w.heap.size ≤ w6.heap.size) := HB.out.size
  go_wp2_with fail
  refine (H6.out _).mono ?_
  clear c0z2 c1z2 c2z2 c3z2 c0z3 c1z3 c2z3 c3z3 c0z4 c1z4 c0z5 c1z5 c0z1 c1z1
  rintro e w7 ⟨AM, cM, rfl, M, bb⟩
  replace bb := nextw (w0 := w6) (by exact sm) bb
  replace B_z0 := mv B_z0 bb
  replace B_z1 := mv B_z1 bb
  replace B_z2 := mv B_z2 bb
  replace B_z3 := mv B_z3 bb
  replace B_z4 := mv B_z4 bb
  replace B_z5 := mv B_z5 bb
  replace L := Lib.hid (PL.below L.out bb)
  replace HB := nx HB bb
  clear bb
  replace M := Lib.hid M
  obtain ⟨lo_M, hi_M, hlo_M, hhi_M, M⟩ : ∃ lo hi, w6.heap.size ≤ lo ∧ hi ≤ w7.heap.size ∧ Hid (PL w7 lo hi AM N cM LL) := ⟨_, _, Nat.le_refl _, Nat.le_refl _, M⟩
  have hb_z0_M : w.heap.size < lo_M := by have := sp_z0_M.out; omega
  have hb_z1_M : w.heap.size + 1 < lo_M := by have := sp_z1_M.out; omega
  have hb_z2_M : w2.heap.size < lo_M := by have := sp_z2_M.out; omega
  have hb_z3_M : w3.heap.size < lo_M := by have := sp_z3_M.out; omega
  have hb_z4_M : w4.heap.size < lo_M := by have := sp_z4_M.out; omega
  have hb_z5_M : w5.heap.size < lo_M := by have := sp_z5_M.out; omega
  have hw_M : w.heap.size ≤ lo_M := by have := lw_M.out; omega
  go_wp2_with fail
  refine (same_cells LL hLb.out _ _ _ _ _ _ HN.out HN.out _ (PL.below L.out (by exact sm)) (PL.below M.out (by exact sm))).mono ?_
  rintro e w8 ⟨rfl, bb⟩
  replace bb := nextw (w0 := w7) (by exact sm) bb
  replace B_z0 := mv B_z0 bb
  replace B_z1 := mv B_z1 bb
  replace B_z2 := mv B_z2 bb
  replace B_z3 := mv B_z3 bb
  replace B_z4 := mv B_z4 bb
  replace B_z5 := mv B_z5 bb
  replace L := Lib.hid (PL.below L.out bb)
  replace M := Lib.hid (PL.below M.out bb)
  replace HB := nx HB bb
  clear bb
  go_wp2_with fail
  go_loopw [14, 15] (fun a0 kk wx => ∃ (k : Nat), k ≤ N ∧ kk = .int .i64 k ∧ a0 = (.bool (fdB LL O0 O1 k)) ∧ Hid (PL wx lo_L hi_L AL N cL LL) ∧ Hid (PL wx lo_M hi_M AM N cM LL) ∧ Hid (Bx wx (w.heap.size) 37 #[.int .i64 a, .int .i64 b]) ∧ Hid (Bx wx (w.heap.size + 1) 43 #[.int .i64 p, .int .i64 q]) ∧ Hid (Bx wx (w2.heap.size) 45 #[.int .i64 S0, .int .i64 S1, .int .i64 S2, .int .i64 S3]) ∧ Hid (Bx wx (w3.heap.size) 45 #[.int .i64 S0, .int .i64 S1, .int .i64 S2, .int .i64 S3]) ∧ Hid (Bx wx (w4.heap.size) 37 #[.int .i64 O0, .int .i64 O1]) ∧ Hid (Bx wx (w5.heap.size) 37 #[.int .i64 O0, .int .i64 O1]) ∧ Hid (Below w.heap.size w wx)) (fun _ kk _ => N - (intOf kk).toNat)
  case atStart => exact ⟨0, by omega, rfl, rfl, L, M, B_z0, B_z1, B_z2, B_z3, B_z4, B_z5, HB⟩
  case round =>
    clear L M B_z0 B_z1 B_z2 B_z3 B_z4 B_z5 HB
    obtain ⟨k, hk, rfl, rfl, L, M, B_z0, B_z1, B_z2, B_z3, B_z4, B_z5, HB⟩ := hrel
    by_cases hlt : k < N
    · skip
      have hlq0L : k < N := by omega
      obtain ⟨g_L, o_L, eA_L, -, -, -⟩ := L.out.elem hlq0L
      subst eA_L
      obtain ⟨⟨x_q0L, y_q0L⟩, hpq0L⟩ : ∃ q, LL.getD k z2 = q := ⟨_, rfl⟩
      have HPq0L := Lib.hid hpq0L
      have HLq0L := Lib.hid hlq0L
      have hmq0L : (x_q0L, y_q0L) ∈ LL := by rw [← hpq0L]; exact getD_mem (by have := L.out.len; omega)
      clear hpq0L hlq0L
      obtain ⟨⟨g1, g2⟩, g3, g4⟩ := around_mem (c := (x_q0L, y_q0L)) (by rw [HLL.out]; exact hmq0L)
      dsimp only at g1 g2 g3 g4
      have HFB : Hid (fdB LL O0 O1 (k + 1) = (fdB LL O0 O1 k || decide ((x_q0L, y_q0L) = (O0, O1)))) := by unfold Hid; rw [← HPq0L.out]; rfl
      obtain ⟨FB, hFB⟩ : ∃ b, fdB LL O0 O1 k = b := ⟨_, rfl⟩
      rw [hFB] at HFB ⊢
      clear hFB
      by_cases dd1 : Wi x_q0L 16384
      · skip
        by_cases dd2 : Wi y_q0L 16384
        · skip
          by_cases dd3 : p < (x_q0L * 64)
          · skip
            exfalso; omega
          · skip
            replace dd3 : (x_q0L * 64) ≤ p := by omega
            by_cases dd4 : ((x_q0L * 64) + 64) < p
            · skip
              exfalso; omega
            · skip
              replace dd4 : p ≤ ((x_q0L * 64) + 64) := by omega
              by_cases dd5 : q < (y_q0L * 64)
              · skip
                exfalso; omega
              · skip
                replace dd5 : (y_q0L * 64) ≤ q := by omega
                by_cases dd6 : ((y_q0L * 64) + 64) < q
                · skip
                  exfalso; omega
                · skip
                  replace dd6 : q ≤ ((y_q0L * 64) + 64) := by omega
                  by_cases dd7 : FB = true
                  · skip
                    have H8 := Lib.hid (fun w => Square_m x_q0L y_q0L dd1 dd2 w)
                    have H9 := Lib.hid (fun w => Size_is x_q0L 16384 (by omega) w)
                    have H10 := Lib.hid (fun w => Size_is y_q0L 16384 (by omega) w)
                    have e0q0L : wr.cell? ⟨g_L, o_L + k * 2, none⟩ = some (.int .i64 x_q0L) := (PL.el L.out HLq0L.out HPq0L.out).1
                    have e1q0L : wr.cell? ⟨g_L, o_L + k * 2 + 1, none⟩ = some (.int .i64 y_q0L) := (PL.el L.out HLq0L.out HPq0L.out).2
                    go_wp2_with fail
                    refine (H8.out _).mono ?_
                    clear e0q0L e1q0L
                    rintro e w9 ⟨rfl, bb⟩
                    replace bb := nextw (w0 := wr) (by exact sm) bb
                    replace B_z0 := mv B_z0 bb
                    replace B_z1 := mv B_z1 bb
                    replace B_z2 := mv B_z2 bb
                    replace B_z3 := mv B_z3 bb
                    replace B_z4 := mv B_z4 bb
                    replace B_z5 := mv B_z5 bb
                    replace L := Lib.hid (PL.below L.out bb)
                    replace M := Lib.hid (PL.below M.out bb)
                    replace HB := nx HB bb
                    clear bb
                    have ltL_z6L : hi_L ≤ w9.heap.size := L.out.top
                    have ltL_z6M : hi_M ≤ w9.heap.size := M.out.top
                    have lt_z6z0 := B_z0.out.lt
                    have lt_z6z1 := B_z1.out.lt
                    have lt_z6z2 := B_z2.out.lt
                    have lt_z6z3 := B_z3.out.lt
                    have lt_z6z4 := B_z4.out.lt
                    have lt_z6z5 := B_z5.out.lt
                    obtain ⟨bb, B_z6⟩ := box1 w9 45 #[.int .i64 (x_q0L * 64), .int .i64 (y_q0L * 64), .int .i64 ((x_q0L * 64) + 64), .int .i64 ((y_q0L * 64) + 64)]
                    replace bb := bb.out
                    replace B_z0 := mv B_z0 bb
                    replace B_z1 := mv B_z1 bb
                    replace B_z2 := mv B_z2 bb
                    replace B_z3 := mv B_z3 bb
                    replace B_z4 := mv B_z4 bb
                    replace B_z5 := mv B_z5 bb
                    replace L := Lib.hid (PL.below L.out bb)
                    replace M := Lib.hid (PL.below M.out bb)
                    replace HB := nx HB bb
                    clear bb
                    go_upto_region 15 with (fail)
                    generalize w9.alloc (.cells #[.int .i64 (x_q0L * 64), .int .i64 (y_q0L * 64), .int .i64 ((x_q0L * 64) + 64), .int .i64 ((y_q0L * 64) + 64)] 45) = WN14x287 at *
                    have e0q0L : WN14x287.cell? ⟨g_L, o_L + k * 2, none⟩ = some (.int .i64 x_q0L) := (PL.el L.out HLq0L.out HPq0L.out).1
                    have e1q0L : WN14x287.cell? ⟨g_L, o_L + k * 2 + 1, none⟩ = some (.int .i64 y_q0L) := (PL.el L.out HLq0L.out HPq0L.out).2
                    go_wp2_with fail
                    refine (H9.out _).mono ?_
                    clear e0q0L e1q0L
                    rintro e w10 ⟨rfl, bb⟩
                    replace bb := nextw (w0 := WN14x287) (by exact sm) bb
                    replace B_z0 := mv B_z0 bb
                    replace B_z1 := mv B_z1 bb
                    replace B_z2 := mv B_z2 bb
                    replace B_z3 := mv B_z3 bb
                    replace B_z4 := mv B_z4 bb
                    replace B_z5 := mv B_z5 bb
                    replace B_z6 := mv B_z6 bb
                    replace L := Lib.hid (PL.below L.out bb)
                    replace M := Lib.hid (PL.below M.out bb)
                    replace HB := nx HB bb
                    clear bb
                    have e0q0L : w10.cell? ⟨g_L, o_L + k * 2, none⟩ = some (.int .i64 x_q0L) := (PL.el L.out HLq0L.out HPq0L.out).1
                    have e1q0L : w10.cell? ⟨g_L, o_L + k * 2 + 1, none⟩ = some (.int .i64 y_q0L) := (PL.el L.out HLq0L.out HPq0L.out).2
                    go_wp2_with fail
                    refine (H10.out _).mono ?_
                    clear e0q0L e1q0L
                    rintro e w11 ⟨rfl, bb⟩
                    replace bb := nextw (w0 := w10) (by exact sm) bb
                    replace B_z0 := mv B_z0 bb
                    replace B_z1 := mv B_z1 bb
                    replace B_z2 := mv B_z2 bb
                    replace B_z3 := mv B_z3 bb
                    replace B_z4 := mv B_z4 bb
                    replace B_z5 := mv B_z5 bb
                    replace B_z6 := mv B_z6 bb
                    replace L := Lib.hid (PL.below L.out bb)
                    replace M := Lib.hid (PL.below M.out bb)
                    replace HB := nx HB bb
                    clear bb
                    obtain ⟨c0z1, c1z1⟩ := cells2 B_z1
                    obtain ⟨c0z6, c1z6, c2z6, c3z6⟩ := cells4 B_z6
                    go_upto_region 17 with (fail)
                    clear c0z1 c1z1 c0z6 c1z6 c2z6 c3z6
                    go_quiet (fail)
                    have bb : Below w11.heap.size w11 (w11.drewN nq) := bel_drewN (Below.refl _ _) _
                    generalize w11.drewN nq = w12q at *
                    replace B_z0 := mv B_z0 bb
                    replace B_z1 := mv B_z1 bb
                    replace B_z2 := mv B_z2 bb
                    replace B_z3 := mv B_z3 bb
                    replace B_z4 := mv B_z4 bb
                    replace B_z5 := mv B_z5 bb
                    replace B_z6 := mv B_z6 bb
                    replace L := Lib.hid (PL.below L.out bb)
                    replace M := Lib.hid (PL.below M.out bb)
                    replace HB := nx HB bb
                    clear bb
                    go_wp2_with fail
                    go_roundw
                    case rel => exact ⟨k + 1, by omega, by go_num, (by rw [HFB.out, dd7]; rfl), L, M, B_z0, B_z1, B_z2, B_z3, B_z4, B_z5, HB⟩
                    case measure => simp only [intOf]; omega
                  · skip
                    by_cases dd8 : x_q0L = O0
                    · skip
                      by_cases dd9 : y_q0L = O1
                      · skip
                        have H11 := Lib.hid (fun w => Square_m x_q0L y_q0L dd1 dd2 w)
                        have H12 := Lib.hid (fun w => Size_is x_q0L 16384 (by omega) w)
                        have H13 := Lib.hid (fun w => Size_is y_q0L 16384 (by omega) w)
                        replace dd8 := Lib.hid dd8
                        replace dd9 := Lib.hid dd9
                        have e0q0L : wr.cell? ⟨g_L, o_L + k * 2, none⟩ = some (.int .i64 x_q0L) := (PL.el L.out HLq0L.out HPq0L.out).1
                        have e1q0L : wr.cell? ⟨g_L, o_L + k * 2 + 1, none⟩ = some (.int .i64 y_q0L) := (PL.el L.out HLq0L.out HPq0L.out).2
                        go_wp2_with fail
                        refine (H11.out _).mono ?_
                        clear e0q0L e1q0L
                        rintro e w13 ⟨rfl, bb⟩
                        replace bb := nextw (w0 := wr) (by exact sm) bb
                        replace B_z0 := mv B_z0 bb
                        replace B_z1 := mv B_z1 bb
                        replace B_z2 := mv B_z2 bb
                        replace B_z3 := mv B_z3 bb
                        replace B_z4 := mv B_z4 bb
                        replace B_z5 := mv B_z5 bb
                        replace L := Lib.hid (PL.below L.out bb)
                        replace M := Lib.hid (PL.below M.out bb)
                        replace HB := nx HB bb
                        clear bb
                        have ltL_z6L : hi_L ≤ w13.heap.size := L.out.top
                        have ltL_z6M : hi_M ≤ w13.heap.size := M.out.top
                        have lt_z6z0 := B_z0.out.lt
                        have lt_z6z1 := B_z1.out.lt
                        have lt_z6z2 := B_z2.out.lt
                        have lt_z6z3 := B_z3.out.lt
                        have lt_z6z4 := B_z4.out.lt
                        have lt_z6z5 := B_z5.out.lt
                        obtain ⟨bb, B_z6⟩ := box1 w13 45 #[.int .i64 (x_q0L * 64), .int .i64 (y_q0L * 64), .int .i64 ((x_q0L * 64) + 64), .int .i64 ((y_q0L * 64) + 64)]
                        replace bb := bb.out
                        replace B_z0 := mv B_z0 bb
                        replace B_z1 := mv B_z1 bb
                        replace B_z2 := mv B_z2 bb
                        replace B_z3 := mv B_z3 bb
                        replace B_z4 := mv B_z4 bb
                        replace B_z5 := mv B_z5 bb
                        replace L := Lib.hid (PL.below L.out bb)
                        replace M := Lib.hid (PL.below M.out bb)
                        replace HB := nx HB bb
                        clear bb
                        go_upto_region 15 with (fail)
                        generalize w13.alloc (.cells #[.int .i64 (x_q0L * 64), .int .i64 (y_q0L * 64), .int .i64 ((x_q0L * 64) + 64), .int .i64 ((y_q0L * 64) + 64)] 45) = WN14x394 at *
                        have e0q0L : WN14x394.cell? ⟨g_L, o_L + k * 2, none⟩ = some (.int .i64 x_q0L) := (PL.el L.out HLq0L.out HPq0L.out).1
                        have e1q0L : WN14x394.cell? ⟨g_L, o_L + k * 2 + 1, none⟩ = some (.int .i64 y_q0L) := (PL.el L.out HLq0L.out HPq0L.out).2
                        go_wp2_with fail
                        refine (H12.out _).mono ?_
                        clear e0q0L e1q0L
                        rintro e w14 ⟨rfl, bb⟩
                        replace bb := nextw (w0 := WN14x394) (by exact sm) bb
                        replace B_z0 := mv B_z0 bb
                        replace B_z1 := mv B_z1 bb
                        replace B_z2 := mv B_z2 bb
                        replace B_z3 := mv B_z3 bb
                        replace B_z4 := mv B_z4 bb
                        replace B_z5 := mv B_z5 bb
                        replace B_z6 := mv B_z6 bb
                        replace L := Lib.hid (PL.below L.out bb)
                        replace M := Lib.hid (PL.below M.out bb)
                        replace HB := nx HB bb
                        clear bb
                        have e0q0L : w14.cell? ⟨g_L, o_L + k * 2, none⟩ = some (.int .i64 x_q0L) := (PL.el L.out HLq0L.out HPq0L.out).1
                        have e1q0L : w14.cell? ⟨g_L, o_L + k * 2 + 1, none⟩ = some (.int .i64 y_q0L) := (PL.el L.out HLq0L.out HPq0L.out).2
                        go_wp2_with fail
                        refine (H13.out _).mono ?_
                        clear e0q0L e1q0L
                        rintro e w15 ⟨rfl, bb⟩
                        replace bb := nextw (w0 := w14) (by exact sm) bb
                        replace B_z0 := mv B_z0 bb
                        replace B_z1 := mv B_z1 bb
                        replace B_z2 := mv B_z2 bb
                        replace B_z3 := mv B_z3 bb
                        replace B_z4 := mv B_z4 bb
                        replace B_z5 := mv B_z5 bb
                        replace B_z6 := mv B_z6 bb
                        replace L := Lib.hid (PL.below L.out bb)
                        replace M := Lib.hid (PL.below M.out bb)
                        replace HB := nx HB bb
                        clear bb
                        obtain ⟨c0z1, c1z1⟩ := cells2 B_z1
                        obtain ⟨c0z6, c1z6, c2z6, c3z6⟩ := cells4 B_z6
                        go_upto_region 17 with (fail)
                        clear c0z1 c1z1 c0z6 c1z6 c2z6 c3z6
                        have e0q0L : w15.cell? ⟨g_L, o_L + k * 2, none⟩ = some (.int .i64 x_q0L) := (PL.el L.out HLq0L.out HPq0L.out).1
                        have e1q0L : w15.cell? ⟨g_L, o_L + k * 2 + 1, none⟩ = some (.int .i64 y_q0L) := (PL.el L.out HLq0L.out HPq0L.out).2
                        obtain ⟨c0z4, c1z4⟩ := cells2 B_z4
                        have od8 : (x_q0L == O0) = true := decide_eq_true dd8.out
                        have od9 : (y_q0L == O1) = true := decide_eq_true dd9.out
                        have ob8 : (x_q0L != O0) = false := by rw [bne, od8]; rfl
                        have ob9 : (y_q0L != O1) = false := by rw [bne, od9]; rfl
                        go_quiet (fail)
                        clear e0q0L e1q0L c0z4 c1z4
                        have bb : Below w15.heap.size w15 (w15.drewN nq) := bel_drewN (Below.refl _ _) _
                        generalize w15.drewN nq = w16q at *
                        replace B_z0 := mv B_z0 bb
                        replace B_z1 := mv B_z1 bb
                        replace B_z2 := mv B_z2 bb
                        replace B_z3 := mv B_z3 bb
                        replace B_z4 := mv B_z4 bb
                        replace B_z5 := mv B_z5 bb
                        replace B_z6 := mv B_z6 bb
                        replace L := Lib.hid (PL.below L.out bb)
                        replace M := Lib.hid (PL.below M.out bb)
                        replace HB := nx HB bb
                        clear bb
                        go_wp2_with fail
                        go_roundw
                        case rel => exact ⟨k + 1, by omega, by go_num, (by rw [HFB.out, (Bool.eq_false_iff.2 dd7), decide_eq_true (show (x_q0L, y_q0L) = (O0, O1) from by rw [dd8.out, dd9.out])]; rfl), L, M, B_z0, B_z1, B_z2, B_z3, B_z4, B_z5, HB⟩
                        case measure => simp only [intOf]; omega
                      · skip
                        have H14 := Lib.hid (fun w => Square_m x_q0L y_q0L dd1 dd2 w)
                        have H15 := Lib.hid (fun w => Size_is x_q0L 16384 (by omega) w)
                        have H16 := Lib.hid (fun w => Size_is y_q0L 16384 (by omega) w)
                        replace dd8 := Lib.hid dd8
                        have e0q0L : wr.cell? ⟨g_L, o_L + k * 2, none⟩ = some (.int .i64 x_q0L) := (PL.el L.out HLq0L.out HPq0L.out).1
                        have e1q0L : wr.cell? ⟨g_L, o_L + k * 2 + 1, none⟩ = some (.int .i64 y_q0L) := (PL.el L.out HLq0L.out HPq0L.out).2
                        go_wp2_with fail
                        refine (H14.out _).mono ?_
                        clear e0q0L e1q0L
                        rintro e w17 ⟨rfl, bb⟩
                        replace bb := nextw (w0 := wr) (by exact sm) bb
                        replace B_z0 := mv B_z0 bb
                        replace B_z1 := mv B_z1 bb
                        replace B_z2 := mv B_z2 bb
                        replace B_z3 := mv B_z3 bb
                        replace B_z4 := mv B_z4 bb
                        replace B_z5 := mv B_z5 bb
                        replace L := Lib.hid (PL.below L.out bb)
                        replace M := Lib.hid (PL.below M.out bb)
                        replace HB := nx HB bb
                        clear bb
                        have ltL_z6L : hi_L ≤ w17.heap.size := L.out.top
                        have ltL_z6M : hi_M ≤ w17.heap.size := M.out.top
                        have lt_z6z0 := B_z0.out.lt
                        have lt_z6z1 := B_z1.out.lt
                        have lt_z6z2 := B_z2.out.lt
                        have lt_z6z3 := B_z3.out.lt
                        have lt_z6z4 := B_z4.out.lt
                        have lt_z6z5 := B_z5.out.lt
                        obtain ⟨bb, B_z6⟩ := box1 w17 45 #[.int .i64 (x_q0L * 64), .int .i64 (y_q0L * 64), .int .i64 ((x_q0L * 64) + 64), .int .i64 ((y_q0L * 64) + 64)]
                        replace bb := bb.out
                        replace B_z0 := mv B_z0 bb
                        replace B_z1 := mv B_z1 bb
                        replace B_z2 := mv B_z2 bb
                        replace B_z3 := mv B_z3 bb
                        replace B_z4 := mv B_z4 bb
                        replace B_z5 := mv B_z5 bb
                        replace L := Lib.hid (PL.below L.out bb)
                        replace M := Lib.hid (PL.below M.out bb)
                        replace HB := nx HB bb
                        clear bb
                        go_upto_region 15 with (fail)
                        generalize w17.alloc (.cells #[.int .i64 (x_q0L * 64), .int .i64 (y_q0L * 64), .int .i64 ((x_q0L * 64) + 64), .int .i64 ((y_q0L * 64) + 64)] 45) = WN14x504 at *
                        have e0q0L : WN14x504.cell? ⟨g_L, o_L + k * 2, none⟩ = some (.int .i64 x_q0L) := (PL.el L.out HLq0L.out HPq0L.out).1
                        have e1q0L : WN14x504.cell? ⟨g_L, o_L + k * 2 + 1, none⟩ = some (.int .i64 y_q0L) := (PL.el L.out HLq0L.out HPq0L.out).2
                        go_wp2_with fail
                        refine (H15.out _).mono ?_
                        clear e0q0L e1q0L
                        rintro e w18 ⟨rfl, bb⟩
                        replace bb := nextw (w0 := WN14x504) (by exact sm) bb
                        replace B_z0 := mv B_z0 bb
                        replace B_z1 := mv B_z1 bb
                        replace B_z2 := mv B_z2 bb
                        replace B_z3 := mv B_z3 bb
                        replace B_z4 := mv B_z4 bb
                        replace B_z5 := mv B_z5 bb
                        replace B_z6 := mv B_z6 bb
                        replace L := Lib.hid (PL.below L.out bb)
                        replace M := Lib.hid (PL.below M.out bb)
                        replace HB := nx HB bb
                        clear bb
                        have e0q0L : w18.cell? ⟨g_L, o_L + k * 2, none⟩ = some (.int .i64 x_q0L) := (PL.el L.out HLq0L.out HPq0L.out).1
                        have e1q0L : w18.cell? ⟨g_L, o_L + k * 2 + 1, none⟩ = some (.int .i64 y_q0L) := (PL.el L.out HLq0L.out HPq0L.out).2
                        go_wp2_with fail
                        refine (H16.out _).mono ?_
                        clear e0q0L e1q0L
                        rintro e w19 ⟨rfl, bb⟩
                        replace bb := nextw (w0 := w18) (by exact sm) bb
                        replace B_z0 := mv B_z0 bb
                        replace B_z1 := mv B_z1 bb
                        replace B_z2 := mv B_z2 bb
                        replace B_z3 := mv B_z3 bb
                        replace B_z4 := mv B_z4 bb
                        replace B_z5 := mv B_z5 bb
                        replace B_z6 := mv B_z6 bb
                        replace L := Lib.hid (PL.below L.out bb)
                        replace M := Lib.hid (PL.below M.out bb)
                        replace HB := nx HB bb
                        clear bb
                        obtain ⟨c0z1, c1z1⟩ := cells2 B_z1
                        obtain ⟨c0z6, c1z6, c2z6, c3z6⟩ := cells4 B_z6
                        go_upto_region 17 with (fail)
                        clear c0z1 c1z1 c0z6 c1z6 c2z6 c3z6
                        have e0q0L : w19.cell? ⟨g_L, o_L + k * 2, none⟩ = some (.int .i64 x_q0L) := (PL.el L.out HLq0L.out HPq0L.out).1
                        have e1q0L : w19.cell? ⟨g_L, o_L + k * 2 + 1, none⟩ = some (.int .i64 y_q0L) := (PL.el L.out HLq0L.out HPq0L.out).2
                        obtain ⟨c0z4, c1z4⟩ := cells2 B_z4
                        have od8 : (x_q0L == O0) = true := decide_eq_true dd8.out
                        have od9 : (y_q0L == O1) = false := decide_eq_false dd9
                        have ob8 : (x_q0L != O0) = false := by rw [bne, od8]; rfl
                        have ob9 : (y_q0L != O1) = true := by rw [bne, od9]; rfl
                        go_quiet (fail)
                        clear e0q0L e1q0L c0z4 c1z4
                        have bb : Below w19.heap.size w19 (w19.drewN nq) := bel_drewN (Below.refl _ _) _
                        generalize w19.drewN nq = w20q at *
                        replace B_z0 := mv B_z0 bb
                        replace B_z1 := mv B_z1 bb
                        replace B_z2 := mv B_z2 bb
                        replace B_z3 := mv B_z3 bb
                        replace B_z4 := mv B_z4 bb
                        replace B_z5 := mv B_z5 bb
                        replace B_z6 := mv B_z6 bb
                        replace L := Lib.hid (PL.below L.out bb)
                        replace M := Lib.hid (PL.below M.out bb)
                        replace HB := nx HB bb
                        clear bb
                        go_wp2_with fail
                        go_roundw
                        case rel => exact ⟨k + 1, by omega, by go_num, (by rw [HFB.out, (Bool.eq_false_iff.2 dd7), decide_eq_false (show ¬ (x_q0L, y_q0L) = (O0, O1) from fun h => by injection h with h1 h2; exact dd9 h2)]; rfl), L, M, B_z0, B_z1, B_z2, B_z3, B_z4, B_z5, HB⟩
                        case measure => simp only [intOf]; omega
                    · skip
                      have H17 := Lib.hid (fun w => Square_m x_q0L y_q0L dd1 dd2 w)
                      have H18 := Lib.hid (fun w => Size_is x_q0L 16384 (by omega) w)
                      have H19 := Lib.hid (fun w => Size_is y_q0L 16384 (by omega) w)
                      have e0q0L : wr.cell? ⟨g_L, o_L + k * 2, none⟩ = some (.int .i64 x_q0L) := (PL.el L.out HLq0L.out HPq0L.out).1
                      have e1q0L : wr.cell? ⟨g_L, o_L + k * 2 + 1, none⟩ = some (.int .i64 y_q0L) := (PL.el L.out HLq0L.out HPq0L.out).2
                      go_wp2_with fail
                      refine (H17.out _).mono ?_
                      clear e0q0L e1q0L
                      rintro e w21 ⟨rfl, bb⟩
                      replace bb := nextw (w0 := wr) (by exact sm) bb
                      replace B_z0 := mv B_z0 bb
                      replace B_z1 := mv B_z1 bb
                      replace B_z2 := mv B_z2 bb
                      replace B_z3 := mv B_z3 bb
                      replace B_z4 := mv B_z4 bb
                      replace B_z5 := mv B_z5 bb
                      replace L := Lib.hid (PL.below L.out bb)
                      replace M := Lib.hid (PL.below M.out bb)
                      replace HB := nx HB bb
                      clear bb
                      have ltL_z6L : hi_L ≤ w21.heap.size := L.out.top
                      have ltL_z6M : hi_M ≤ w21.heap.size := M.out.top
                      have lt_z6z0 := B_z0.out.lt
                      have lt_z6z1 := B_z1.out.lt
                      have lt_z6z2 := B_z2.out.lt
                      have lt_z6z3 := B_z3.out.lt
                      have lt_z6z4 := B_z4.out.lt
                      have lt_z6z5 := B_z5.out.lt
                      obtain ⟨bb, B_z6⟩ := box1 w21 45 #[.int .i64 (x_q0L * 64), .int .i64 (y_q0L * 64), .int .i64 ((x_q0L * 64) + 64), .int .i64 ((y_q0L * 64) + 64)]
                      replace bb := bb.out
                      replace B_z0 := mv B_z0 bb
                      replace B_z1 := mv B_z1 bb
                      replace B_z2 := mv B_z2 bb
                      replace B_z3 := mv B_z3 bb
                      replace B_z4 := mv B_z4 bb
                      replace B_z5 := mv B_z5 bb
                      replace L := Lib.hid (PL.below L.out bb)
                      replace M := Lib.hid (PL.below M.out bb)
                      replace HB := nx HB bb
                      clear bb
                      go_upto_region 15 with (fail)
                      generalize w21.alloc (.cells #[.int .i64 (x_q0L * 64), .int .i64 (y_q0L * 64), .int .i64 ((x_q0L * 64) + 64), .int .i64 ((y_q0L * 64) + 64)] 45) = WN14x613 at *
                      have e0q0L : WN14x613.cell? ⟨g_L, o_L + k * 2, none⟩ = some (.int .i64 x_q0L) := (PL.el L.out HLq0L.out HPq0L.out).1
                      have e1q0L : WN14x613.cell? ⟨g_L, o_L + k * 2 + 1, none⟩ = some (.int .i64 y_q0L) := (PL.el L.out HLq0L.out HPq0L.out).2
                      go_wp2_with fail
                      refine (H18.out _).mono ?_
                      clear e0q0L e1q0L
                      rintro e w22 ⟨rfl, bb⟩
                      replace bb := nextw (w0 := WN14x613) (by exact sm) bb
                      replace B_z0 := mv B_z0 bb
                      replace B_z1 := mv B_z1 bb
                      replace B_z2 := mv B_z2 bb
                      replace B_z3 := mv B_z3 bb
                      replace B_z4 := mv B_z4 bb
                      replace B_z5 := mv B_z5 bb
                      replace B_z6 := mv B_z6 bb
                      replace L := Lib.hid (PL.below L.out bb)
                      replace M := Lib.hid (PL.below M.out bb)
                      replace HB := nx HB bb
                      clear bb
                      have e0q0L : w22.cell? ⟨g_L, o_L + k * 2, none⟩ = some (.int .i64 x_q0L) := (PL.el L.out HLq0L.out HPq0L.out).1
                      have e1q0L : w22.cell? ⟨g_L, o_L + k * 2 + 1, none⟩ = some (.int .i64 y_q0L) := (PL.el L.out HLq0L.out HPq0L.out).2
                      go_wp2_with fail
                      refine (H19.out _).mono ?_
                      clear e0q0L e1q0L
                      rintro e w23 ⟨rfl, bb⟩
                      replace bb := nextw (w0 := w22) (by exact sm) bb
                      replace B_z0 := mv B_z0 bb
                      replace B_z1 := mv B_z1 bb
                      replace B_z2 := mv B_z2 bb
                      replace B_z3 := mv B_z3 bb
                      replace B_z4 := mv B_z4 bb
                      replace B_z5 := mv B_z5 bb
                      replace B_z6 := mv B_z6 bb
                      replace L := Lib.hid (PL.below L.out bb)
                      replace M := Lib.hid (PL.below M.out bb)
                      replace HB := nx HB bb
                      clear bb
                      obtain ⟨c0z1, c1z1⟩ := cells2 B_z1
                      obtain ⟨c0z6, c1z6, c2z6, c3z6⟩ := cells4 B_z6
                      go_upto_region 17 with (fail)
                      clear c0z1 c1z1 c0z6 c1z6 c2z6 c3z6
                      have e0q0L : w23.cell? ⟨g_L, o_L + k * 2, none⟩ = some (.int .i64 x_q0L) := (PL.el L.out HLq0L.out HPq0L.out).1
                      have e1q0L : w23.cell? ⟨g_L, o_L + k * 2 + 1, none⟩ = some (.int .i64 y_q0L) := (PL.el L.out HLq0L.out HPq0L.out).2
                      obtain ⟨c0z4, c1z4⟩ := cells2 B_z4
                      have od8 : (x_q0L == O0) = false := decide_eq_false dd8
                      have ob8 : (x_q0L != O0) = true := by rw [bne, od8]; rfl
                      go_quiet (fail)
                      clear e0q0L e1q0L c0z4 c1z4
                      have bb : Below w23.heap.size w23 (w23.drewN nq) := bel_drewN (Below.refl _ _) _
                      generalize w23.drewN nq = w24q at *
                      replace B_z0 := mv B_z0 bb
                      replace B_z1 := mv B_z1 bb
                      replace B_z2 := mv B_z2 bb
                      replace B_z3 := mv B_z3 bb
                      replace B_z4 := mv B_z4 bb
                      replace B_z5 := mv B_z5 bb
                      replace B_z6 := mv B_z6 bb
                      replace L := Lib.hid (PL.below L.out bb)
                      replace M := Lib.hid (PL.below M.out bb)
                      replace HB := nx HB bb
                      clear bb
                      go_wp2_with fail
                      go_roundw
                      case rel => exact ⟨k + 1, by omega, by go_num, (by rw [HFB.out, (Bool.eq_false_iff.2 dd7), decide_eq_false (show ¬ (x_q0L, y_q0L) = (O0, O1) from fun h => by injection h with h1 h2; exact dd8 h1)]; rfl), L, M, B_z0, B_z1, B_z2, B_z3, B_z4, B_z5, HB⟩
                      case measure => simp only [intOf]; omega
        · skip
          by_cases dd3 : FB = true
          · skip
            have H20 := Lib.hid (fun w => Square_w2 x_q0L y_q0L dd1 dd2 w)
            have H21 := Lib.hid (fun w => Size_is x_q0L 16384 (by omega) w)
            have H22 := Lib.hid (fun w => Size_is y_q0L 16384 (by omega) w)
            have e0q0L : wr.cell? ⟨g_L, o_L + k * 2, none⟩ = some (.int .i64 x_q0L) := (PL.el L.out HLq0L.out HPq0L.out).1
            have e1q0L : wr.cell? ⟨g_L, o_L + k * 2 + 1, none⟩ = some (.int .i64 y_q0L) := (PL.el L.out HLq0L.out HPq0L.out).2
            go_wp2_with fail
            refine (H20.out _).mono ?_
            clear e0q0L e1q0L
            rintro e w25 ⟨rfl, bb⟩
            replace bb := nextw (w0 := wr) (by exact sm) bb
            replace B_z0 := mv B_z0 bb
            replace B_z1 := mv B_z1 bb
            replace B_z2 := mv B_z2 bb
            replace B_z3 := mv B_z3 bb
            replace B_z4 := mv B_z4 bb
            replace B_z5 := mv B_z5 bb
            replace L := Lib.hid (PL.below L.out bb)
            replace M := Lib.hid (PL.below M.out bb)
            replace HB := nx HB bb
            clear bb
            have ltL_z6L : hi_L ≤ w25.heap.size := L.out.top
            have ltL_z6M : hi_M ≤ w25.heap.size := M.out.top
            have lt_z6z0 := B_z0.out.lt
            have lt_z6z1 := B_z1.out.lt
            have lt_z6z2 := B_z2.out.lt
            have lt_z6z3 := B_z3.out.lt
            have lt_z6z4 := B_z4.out.lt
            have lt_z6z5 := B_z5.out.lt
            obtain ⟨bb, B_z6⟩ := box1 w25 45 #[.int .i64 0, .int .i64 0, .int .i64 0, .int .i64 0]
            replace bb := bb.out
            replace B_z0 := mv B_z0 bb
            replace B_z1 := mv B_z1 bb
            replace B_z2 := mv B_z2 bb
            replace B_z3 := mv B_z3 bb
            replace B_z4 := mv B_z4 bb
            replace B_z5 := mv B_z5 bb
            replace L := Lib.hid (PL.below L.out bb)
            replace M := Lib.hid (PL.below M.out bb)
            replace HB := nx HB bb
            clear bb
            go_upto_region 15 with (fail)
            generalize w25.alloc (.cells #[.int .i64 0, .int .i64 0, .int .i64 0, .int .i64 0] 45) = WN14x722 at *
            have e0q0L : WN14x722.cell? ⟨g_L, o_L + k * 2, none⟩ = some (.int .i64 x_q0L) := (PL.el L.out HLq0L.out HPq0L.out).1
            have e1q0L : WN14x722.cell? ⟨g_L, o_L + k * 2 + 1, none⟩ = some (.int .i64 y_q0L) := (PL.el L.out HLq0L.out HPq0L.out).2
            go_wp2_with fail
            refine (H21.out _).mono ?_
            clear e0q0L e1q0L
            rintro e w26 ⟨rfl, bb⟩
            replace bb := nextw (w0 := WN14x722) (by exact sm) bb
            replace B_z0 := mv B_z0 bb
            replace B_z1 := mv B_z1 bb
            replace B_z2 := mv B_z2 bb
            replace B_z3 := mv B_z3 bb
            replace B_z4 := mv B_z4 bb
            replace B_z5 := mv B_z5 bb
            replace B_z6 := mv B_z6 bb
            replace L := Lib.hid (PL.below L.out bb)
            replace M := Lib.hid (PL.below M.out bb)
            replace HB := nx HB bb
            clear bb
            have e0q0L : w26.cell? ⟨g_L, o_L + k * 2, none⟩ = some (.int .i64 x_q0L) := (PL.el L.out HLq0L.out HPq0L.out).1
            have e1q0L : w26.cell? ⟨g_L, o_L + k * 2 + 1, none⟩ = some (.int .i64 y_q0L) := (PL.el L.out HLq0L.out HPq0L.out).2
            go_wp2_with fail
            refine (H22.out _).mono ?_
            clear e0q0L e1q0L
            rintro e w27 ⟨rfl, bb⟩
            replace bb := nextw (w0 := w26) (by exact sm) bb
            replace B_z0 := mv B_z0 bb
            replace B_z1 := mv B_z1 bb
            replace B_z2 := mv B_z2 bb
            replace B_z3 := mv B_z3 bb
            replace B_z4 := mv B_z4 bb
            replace B_z5 := mv B_z5 bb
            replace B_z6 := mv B_z6 bb
            replace L := Lib.hid (PL.below L.out bb)
            replace M := Lib.hid (PL.below M.out bb)
            replace HB := nx HB bb
            clear bb
            go_upto_region 17 with (fail)
            go_quiet (fail)
            have bb : Below w27.heap.size w27 (w27.drewN nq) := bel_drewN (Below.refl _ _) _
            generalize w27.drewN nq = w28q at *
            replace B_z0 := mv B_z0 bb
            replace B_z1 := mv B_z1 bb
            replace B_z2 := mv B_z2 bb
            replace B_z3 := mv B_z3 bb
            replace B_z4 := mv B_z4 bb
            replace B_z5 := mv B_z5 bb
            replace B_z6 := mv B_z6 bb
            replace L := Lib.hid (PL.below L.out bb)
            replace M := Lib.hid (PL.below M.out bb)
            replace HB := nx HB bb
            clear bb
            go_wp2_with fail
            go_roundw
            case rel => exact ⟨k + 1, by omega, by go_num, (by rw [HFB.out, dd3]; rfl), L, M, B_z0, B_z1, B_z2, B_z3, B_z4, B_z5, HB⟩
            case measure => simp only [intOf]; omega
          · skip
            by_cases dd4 : x_q0L = O0
            · skip
              by_cases dd5 : y_q0L = O1
              · skip
                have H23 := Lib.hid (fun w => Square_w2 x_q0L y_q0L dd1 dd2 w)
                have H24 := Lib.hid (fun w => Size_is x_q0L 16384 (by omega) w)
                have H25 := Lib.hid (fun w => Size_is y_q0L 16384 (by omega) w)
                replace dd4 := Lib.hid dd4
                replace dd5 := Lib.hid dd5
                have e0q0L : wr.cell? ⟨g_L, o_L + k * 2, none⟩ = some (.int .i64 x_q0L) := (PL.el L.out HLq0L.out HPq0L.out).1
                have e1q0L : wr.cell? ⟨g_L, o_L + k * 2 + 1, none⟩ = some (.int .i64 y_q0L) := (PL.el L.out HLq0L.out HPq0L.out).2
                go_wp2_with fail
                refine (H23.out _).mono ?_
                clear e0q0L e1q0L
                rintro e w29 ⟨rfl, bb⟩
                replace bb := nextw (w0 := wr) (by exact sm) bb
                replace B_z0 := mv B_z0 bb
                replace B_z1 := mv B_z1 bb
                replace B_z2 := mv B_z2 bb
                replace B_z3 := mv B_z3 bb
                replace B_z4 := mv B_z4 bb
                replace B_z5 := mv B_z5 bb
                replace L := Lib.hid (PL.below L.out bb)
                replace M := Lib.hid (PL.below M.out bb)
                replace HB := nx HB bb
                clear bb
                have ltL_z6L : hi_L ≤ w29.heap.size := L.out.top
                have ltL_z6M : hi_M ≤ w29.heap.size := M.out.top
                have lt_z6z0 := B_z0.out.lt
                have lt_z6z1 := B_z1.out.lt
                have lt_z6z2 := B_z2.out.lt
                have lt_z6z3 := B_z3.out.lt
                have lt_z6z4 := B_z4.out.lt
                have lt_z6z5 := B_z5.out.lt
                obtain ⟨bb, B_z6⟩ := box1 w29 45 #[.int .i64 0, .int .i64 0, .int .i64 0, .int .i64 0]
                replace bb := bb.out
                replace B_z0 := mv B_z0 bb
                replace B_z1 := mv B_z1 bb
                replace B_z2 := mv B_z2 bb
                replace B_z3 := mv B_z3 bb
                replace B_z4 := mv B_z4 bb
                replace B_z5 := mv B_z5 bb
                replace L := Lib.hid (PL.below L.out bb)
                replace M := Lib.hid (PL.below M.out bb)
                replace HB := nx HB bb
                clear bb
                go_upto_region 15 with (fail)
                generalize w29.alloc (.cells #[.int .i64 0, .int .i64 0, .int .i64 0, .int .i64 0] 45) = WN14x826 at *
                have e0q0L : WN14x826.cell? ⟨g_L, o_L + k * 2, none⟩ = some (.int .i64 x_q0L) := (PL.el L.out HLq0L.out HPq0L.out).1
                have e1q0L : WN14x826.cell? ⟨g_L, o_L + k * 2 + 1, none⟩ = some (.int .i64 y_q0L) := (PL.el L.out HLq0L.out HPq0L.out).2
                go_wp2_with fail
                refine (H24.out _).mono ?_
                clear e0q0L e1q0L
                rintro e w30 ⟨rfl, bb⟩
                replace bb := nextw (w0 := WN14x826) (by exact sm) bb
                replace B_z0 := mv B_z0 bb
                replace B_z1 := mv B_z1 bb
                replace B_z2 := mv B_z2 bb
                replace B_z3 := mv B_z3 bb
                replace B_z4 := mv B_z4 bb
                replace B_z5 := mv B_z5 bb
                replace B_z6 := mv B_z6 bb
                replace L := Lib.hid (PL.below L.out bb)
                replace M := Lib.hid (PL.below M.out bb)
                replace HB := nx HB bb
                clear bb
                have e0q0L : w30.cell? ⟨g_L, o_L + k * 2, none⟩ = some (.int .i64 x_q0L) := (PL.el L.out HLq0L.out HPq0L.out).1
                have e1q0L : w30.cell? ⟨g_L, o_L + k * 2 + 1, none⟩ = some (.int .i64 y_q0L) := (PL.el L.out HLq0L.out HPq0L.out).2
                go_wp2_with fail
                refine (H25.out _).mono ?_
                clear e0q0L e1q0L
                rintro e w31 ⟨rfl, bb⟩
                replace bb := nextw (w0 := w30) (by exact sm) bb
                replace B_z0 := mv B_z0 bb
                replace B_z1 := mv B_z1 bb
                replace B_z2 := mv B_z2 bb
                replace B_z3 := mv B_z3 bb
                replace B_z4 := mv B_z4 bb
                replace B_z5 := mv B_z5 bb
                replace B_z6 := mv B_z6 bb
                replace L := Lib.hid (PL.below L.out bb)
                replace M := Lib.hid (PL.below M.out bb)
                replace HB := nx HB bb
                clear bb
                go_upto_region 17 with (fail)
                have e0q0L : w31.cell? ⟨g_L, o_L + k * 2, none⟩ = some (.int .i64 x_q0L) := (PL.el L.out HLq0L.out HPq0L.out).1
                have e1q0L : w31.cell? ⟨g_L, o_L + k * 2 + 1, none⟩ = some (.int .i64 y_q0L) := (PL.el L.out HLq0L.out HPq0L.out).2
                obtain ⟨c0z4, c1z4⟩ := cells2 B_z4
                have od4 : (x_q0L == O0) = true := decide_eq_true dd4.out
                have od5 : (y_q0L == O1) = true := decide_eq_true dd5.out
                have ob4 : (x_q0L != O0) = false := by rw [bne, od4]; rfl
                have ob5 : (y_q0L != O1) = false := by rw [bne, od5]; rfl
                go_quiet (fail)
                clear e0q0L e1q0L c0z4 c1z4
                have bb : Below w31.heap.size w31 (w31.drewN nq) := bel_drewN (Below.refl _ _) _
                generalize w31.drewN nq = w32q at *
                replace B_z0 := mv B_z0 bb
                replace B_z1 := mv B_z1 bb
                replace B_z2 := mv B_z2 bb
                replace B_z3 := mv B_z3 bb
                replace B_z4 := mv B_z4 bb
                replace B_z5 := mv B_z5 bb
                replace B_z6 := mv B_z6 bb
                replace L := Lib.hid (PL.below L.out bb)
                replace M := Lib.hid (PL.below M.out bb)
                replace HB := nx HB bb
                clear bb
                go_wp2_with fail
                go_roundw
                case rel => exact ⟨k + 1, by omega, by go_num, (by rw [HFB.out, (Bool.eq_false_iff.2 dd3), decide_eq_true (show (x_q0L, y_q0L) = (O0, O1) from by rw [dd4.out, dd5.out])]; rfl), L, M, B_z0, B_z1, B_z2, B_z3, B_z4, B_z5, HB⟩
                case measure => simp only [intOf]; omega
              · skip
                have H26 := Lib.hid (fun w => Square_w2 x_q0L y_q0L dd1 dd2 w)
                have H27 := Lib.hid (fun w => Size_is x_q0L 16384 (by omega) w)
                have H28 := Lib.hid (fun w => Size_is y_q0L 16384 (by omega) w)
                replace dd4 := Lib.hid dd4
                have e0q0L : wr.cell? ⟨g_L, o_L + k * 2, none⟩ = some (.int .i64 x_q0L) := (PL.el L.out HLq0L.out HPq0L.out).1
                have e1q0L : wr.cell? ⟨g_L, o_L + k * 2 + 1, none⟩ = some (.int .i64 y_q0L) := (PL.el L.out HLq0L.out HPq0L.out).2
                go_wp2_with fail
                refine (H26.out _).mono ?_
                clear e0q0L e1q0L
                rintro e w33 ⟨rfl, bb⟩
                replace bb := nextw (w0 := wr) (by exact sm) bb
                replace B_z0 := mv B_z0 bb
                replace B_z1 := mv B_z1 bb
                replace B_z2 := mv B_z2 bb
                replace B_z3 := mv B_z3 bb
                replace B_z4 := mv B_z4 bb
                replace B_z5 := mv B_z5 bb
                replace L := Lib.hid (PL.below L.out bb)
                replace M := Lib.hid (PL.below M.out bb)
                replace HB := nx HB bb
                clear bb
                have ltL_z6L : hi_L ≤ w33.heap.size := L.out.top
                have ltL_z6M : hi_M ≤ w33.heap.size := M.out.top
                have lt_z6z0 := B_z0.out.lt
                have lt_z6z1 := B_z1.out.lt
                have lt_z6z2 := B_z2.out.lt
                have lt_z6z3 := B_z3.out.lt
                have lt_z6z4 := B_z4.out.lt
                have lt_z6z5 := B_z5.out.lt
                obtain ⟨bb, B_z6⟩ := box1 w33 45 #[.int .i64 0, .int .i64 0, .int .i64 0, .int .i64 0]
                replace bb := bb.out
                replace B_z0 := mv B_z0 bb
                replace B_z1 := mv B_z1 bb
                replace B_z2 := mv B_z2 bb
                replace B_z3 := mv B_z3 bb
                replace B_z4 := mv B_z4 bb
                replace B_z5 := mv B_z5 bb
                replace L := Lib.hid (PL.below L.out bb)
                replace M := Lib.hid (PL.below M.out bb)
                replace HB := nx HB bb
                clear bb
                go_upto_region 15 with (fail)
                generalize w33.alloc (.cells #[.int .i64 0, .int .i64 0, .int .i64 0, .int .i64 0] 45) = WN14x933 at *
                have e0q0L : WN14x933.cell? ⟨g_L, o_L + k * 2, none⟩ = some (.int .i64 x_q0L) := (PL.el L.out HLq0L.out HPq0L.out).1
                have e1q0L : WN14x933.cell? ⟨g_L, o_L + k * 2 + 1, none⟩ = some (.int .i64 y_q0L) := (PL.el L.out HLq0L.out HPq0L.out).2
                go_wp2_with fail
                refine (H27.out _).mono ?_
                clear e0q0L e1q0L
                rintro e w34 ⟨rfl, bb⟩
                replace bb := nextw (w0 := WN14x933) (by exact sm) bb
                replace B_z0 := mv B_z0 bb
                replace B_z1 := mv B_z1 bb
                replace B_z2 := mv B_z2 bb
                replace B_z3 := mv B_z3 bb
                replace B_z4 := mv B_z4 bb
                replace B_z5 := mv B_z5 bb
                replace B_z6 := mv B_z6 bb
                replace L := Lib.hid (PL.below L.out bb)
                replace M := Lib.hid (PL.below M.out bb)
                replace HB := nx HB bb
                clear bb
                have e0q0L : w34.cell? ⟨g_L, o_L + k * 2, none⟩ = some (.int .i64 x_q0L) := (PL.el L.out HLq0L.out HPq0L.out).1
                have e1q0L : w34.cell? ⟨g_L, o_L + k * 2 + 1, none⟩ = some (.int .i64 y_q0L) := (PL.el L.out HLq0L.out HPq0L.out).2
                go_wp2_with fail
                refine (H28.out _).mono ?_
                clear e0q0L e1q0L
                rintro e w35 ⟨rfl, bb⟩
                replace bb := nextw (w0 := w34) (by exact sm) bb
                replace B_z0 := mv B_z0 bb
                replace B_z1 := mv B_z1 bb
                replace B_z2 := mv B_z2 bb
                replace B_z3 := mv B_z3 bb
                replace B_z4 := mv B_z4 bb
                replace B_z5 := mv B_z5 bb
                replace B_z6 := mv B_z6 bb
                replace L := Lib.hid (PL.below L.out bb)
                replace M := Lib.hid (PL.below M.out bb)
                replace HB := nx HB bb
                clear bb
                go_upto_region 17 with (fail)
                have e0q0L : w35.cell? ⟨g_L, o_L + k * 2, none⟩ = some (.int .i64 x_q0L) := (PL.el L.out HLq0L.out HPq0L.out).1
                have e1q0L : w35.cell? ⟨g_L, o_L + k * 2 + 1, none⟩ = some (.int .i64 y_q0L) := (PL.el L.out HLq0L.out HPq0L.out).2
                obtain ⟨c0z4, c1z4⟩ := cells2 B_z4
                have od4 : (x_q0L == O0) = true := decide_eq_true dd4.out
                have od5 : (y_q0L == O1) = false := decide_eq_false dd5
                have ob4 : (x_q0L != O0) = false := by rw [bne, od4]; rfl
                have ob5 : (y_q0L != O1) = true := by rw [bne, od5]; rfl
                go_quiet (fail)
                clear e0q0L e1q0L c0z4 c1z4
                have bb : Below w35.heap.size w35 (w35.drewN nq) := bel_drewN (Below.refl _ _) _
                generalize w35.drewN nq = w36q at *
                replace B_z0 := mv B_z0 bb
                replace B_z1 := mv B_z1 bb
                replace B_z2 := mv B_z2 bb
                replace B_z3 := mv B_z3 bb
                replace B_z4 := mv B_z4 bb
                replace B_z5 := mv B_z5 bb
                replace B_z6 := mv B_z6 bb
                replace L := Lib.hid (PL.below L.out bb)
                replace M := Lib.hid (PL.below M.out bb)
                replace HB := nx HB bb
                clear bb
                go_wp2_with fail
                go_roundw
                case rel => exact ⟨k + 1, by omega, by go_num, (by rw [HFB.out, (Bool.eq_false_iff.2 dd3), decide_eq_false (show ¬ (x_q0L, y_q0L) = (O0, O1) from fun h => by injection h with h1 h2; exact dd5 h2)]; rfl), L, M, B_z0, B_z1, B_z2, B_z3, B_z4, B_z5, HB⟩
                case measure => simp only [intOf]; omega
            · skip
              have H29 := Lib.hid (fun w => Square_w2 x_q0L y_q0L dd1 dd2 w)
              have H30 := Lib.hid (fun w => Size_is x_q0L 16384 (by omega) w)
              have H31 := Lib.hid (fun w => Size_is y_q0L 16384 (by omega) w)
              have e0q0L : wr.cell? ⟨g_L, o_L + k * 2, none⟩ = some (.int .i64 x_q0L) := (PL.el L.out HLq0L.out HPq0L.out).1
              have e1q0L : wr.cell? ⟨g_L, o_L + k * 2 + 1, none⟩ = some (.int .i64 y_q0L) := (PL.el L.out HLq0L.out HPq0L.out).2
              go_wp2_with fail
              refine (H29.out _).mono ?_
              clear e0q0L e1q0L
              rintro e w37 ⟨rfl, bb⟩
              replace bb := nextw (w0 := wr) (by exact sm) bb
              replace B_z0 := mv B_z0 bb
              replace B_z1 := mv B_z1 bb
              replace B_z2 := mv B_z2 bb
              replace B_z3 := mv B_z3 bb
              replace B_z4 := mv B_z4 bb
              replace B_z5 := mv B_z5 bb
              replace L := Lib.hid (PL.below L.out bb)
              replace M := Lib.hid (PL.below M.out bb)
              replace HB := nx HB bb
              clear bb
              have ltL_z6L : hi_L ≤ w37.heap.size := L.out.top
              have ltL_z6M : hi_M ≤ w37.heap.size := M.out.top
              have lt_z6z0 := B_z0.out.lt
              have lt_z6z1 := B_z1.out.lt
              have lt_z6z2 := B_z2.out.lt
              have lt_z6z3 := B_z3.out.lt
              have lt_z6z4 := B_z4.out.lt
              have lt_z6z5 := B_z5.out.lt
              obtain ⟨bb, B_z6⟩ := box1 w37 45 #[.int .i64 0, .int .i64 0, .int .i64 0, .int .i64 0]
              replace bb := bb.out
              replace B_z0 := mv B_z0 bb
              replace B_z1 := mv B_z1 bb
              replace B_z2 := mv B_z2 bb
              replace B_z3 := mv B_z3 bb
              replace B_z4 := mv B_z4 bb
              replace B_z5 := mv B_z5 bb
              replace L := Lib.hid (PL.below L.out bb)
              replace M := Lib.hid (PL.below M.out bb)
              replace HB := nx HB bb
              clear bb
              go_upto_region 15 with (fail)
              generalize w37.alloc (.cells #[.int .i64 0, .int .i64 0, .int .i64 0, .int .i64 0] 45) = WN14x1039 at *
              have e0q0L : WN14x1039.cell? ⟨g_L, o_L + k * 2, none⟩ = some (.int .i64 x_q0L) := (PL.el L.out HLq0L.out HPq0L.out).1
              have e1q0L : WN14x1039.cell? ⟨g_L, o_L + k * 2 + 1, none⟩ = some (.int .i64 y_q0L) := (PL.el L.out HLq0L.out HPq0L.out).2
              go_wp2_with fail
              refine (H30.out _).mono ?_
              clear e0q0L e1q0L
              rintro e w38 ⟨rfl, bb⟩
              replace bb := nextw (w0 := WN14x1039) (by exact sm) bb
              replace B_z0 := mv B_z0 bb
              replace B_z1 := mv B_z1 bb
              replace B_z2 := mv B_z2 bb
              replace B_z3 := mv B_z3 bb
              replace B_z4 := mv B_z4 bb
              replace B_z5 := mv B_z5 bb
              replace B_z6 := mv B_z6 bb
              replace L := Lib.hid (PL.below L.out bb)
              replace M := Lib.hid (PL.below M.out bb)
              replace HB := nx HB bb
              clear bb
              have e0q0L : w38.cell? ⟨g_L, o_L + k * 2, none⟩ = some (.int .i64 x_q0L) := (PL.el L.out HLq0L.out HPq0L.out).1
              have e1q0L : w38.cell? ⟨g_L, o_L + k * 2 + 1, none⟩ = some (.int .i64 y_q0L) := (PL.el L.out HLq0L.out HPq0L.out).2
              go_wp2_with fail
              refine (H31.out _).mono ?_
              clear e0q0L e1q0L
              rintro e w39 ⟨rfl, bb⟩
              replace bb := nextw (w0 := w38) (by exact sm) bb
              replace B_z0 := mv B_z0 bb
              replace B_z1 := mv B_z1 bb
              replace B_z2 := mv B_z2 bb
              replace B_z3 := mv B_z3 bb
              replace B_z4 := mv B_z4 bb
              replace B_z5 := mv B_z5 bb
              replace B_z6 := mv B_z6 bb
              replace L := Lib.hid (PL.below L.out bb)
              replace M := Lib.hid (PL.below M.out bb)
              replace HB := nx HB bb
              clear bb
              go_upto_region 17 with (fail)
              have e0q0L : w39.cell? ⟨g_L, o_L + k * 2, none⟩ = some (.int .i64 x_q0L) := (PL.el L.out HLq0L.out HPq0L.out).1
              have e1q0L : w39.cell? ⟨g_L, o_L + k * 2 + 1, none⟩ = some (.int .i64 y_q0L) := (PL.el L.out HLq0L.out HPq0L.out).2
              obtain ⟨c0z4, c1z4⟩ := cells2 B_z4
              have od4 : (x_q0L == O0) = false := decide_eq_false dd4
              have ob4 : (x_q0L != O0) = true := by rw [bne, od4]; rfl
              go_quiet (fail)
              clear e0q0L e1q0L c0z4 c1z4
              have bb : Below w39.heap.size w39 (w39.drewN nq) := bel_drewN (Below.refl _ _) _
              generalize w39.drewN nq = w40q at *
              replace B_z0 := mv B_z0 bb
              replace B_z1 := mv B_z1 bb
              replace B_z2 := mv B_z2 bb
              replace B_z3 := mv B_z3 bb
              replace B_z4 := mv B_z4 bb
              replace B_z5 := mv B_z5 bb
              replace B_z6 := mv B_z6 bb
              replace L := Lib.hid (PL.below L.out bb)
              replace M := Lib.hid (PL.below M.out bb)
              replace HB := nx HB bb
              clear bb
              go_wp2_with fail
              go_roundw
              case rel => exact ⟨k + 1, by omega, by go_num, (by rw [HFB.out, (Bool.eq_false_iff.2 dd3), decide_eq_false (show ¬ (x_q0L, y_q0L) = (O0, O1) from fun h => by injection h with h1 h2; exact dd4 h1)]; rfl), L, M, B_z0, B_z1, B_z2, B_z3, B_z4, B_z5, HB⟩
              case measure => simp only [intOf]; omega
      · skip
        by_cases dd2 : FB = true
        · skip
          have H32 := Lib.hid (fun w => Square_w1 x_q0L y_q0L dd1 w)
          have H33 := Lib.hid (fun w => Size_is x_q0L 16384 (by omega) w)
          have e0q0L : wr.cell? ⟨g_L, o_L + k * 2, none⟩ = some (.int .i64 x_q0L) := (PL.el L.out HLq0L.out HPq0L.out).1
          have e1q0L : wr.cell? ⟨g_L, o_L + k * 2 + 1, none⟩ = some (.int .i64 y_q0L) := (PL.el L.out HLq0L.out HPq0L.out).2
          go_wp2_with fail
          refine (H32.out _).mono ?_
          clear e0q0L e1q0L
          rintro e w41 ⟨rfl, bb⟩
          replace bb := nextw (w0 := wr) (by exact sm) bb
          replace B_z0 := mv B_z0 bb
          replace B_z1 := mv B_z1 bb
          replace B_z2 := mv B_z2 bb
          replace B_z3 := mv B_z3 bb
          replace B_z4 := mv B_z4 bb
          replace B_z5 := mv B_z5 bb
          replace L := Lib.hid (PL.below L.out bb)
          replace M := Lib.hid (PL.below M.out bb)
          replace HB := nx HB bb
          clear bb
          have ltL_z6L : hi_L ≤ w41.heap.size := L.out.top
          have ltL_z6M : hi_M ≤ w41.heap.size := M.out.top
          have lt_z6z0 := B_z0.out.lt
          have lt_z6z1 := B_z1.out.lt
          have lt_z6z2 := B_z2.out.lt
          have lt_z6z3 := B_z3.out.lt
          have lt_z6z4 := B_z4.out.lt
          have lt_z6z5 := B_z5.out.lt
          obtain ⟨bb, B_z6⟩ := box1 w41 45 #[.int .i64 0, .int .i64 0, .int .i64 0, .int .i64 0]
          replace bb := bb.out
          replace B_z0 := mv B_z0 bb
          replace B_z1 := mv B_z1 bb
          replace B_z2 := mv B_z2 bb
          replace B_z3 := mv B_z3 bb
          replace B_z4 := mv B_z4 bb
          replace B_z5 := mv B_z5 bb
          replace L := Lib.hid (PL.below L.out bb)
          replace M := Lib.hid (PL.below M.out bb)
          replace HB := nx HB bb
          clear bb
          go_upto_region 15 with (fail)
          generalize w41.alloc (.cells #[.int .i64 0, .int .i64 0, .int .i64 0, .int .i64 0] 45) = WN14x1144 at *
          have e0q0L : WN14x1144.cell? ⟨g_L, o_L + k * 2, none⟩ = some (.int .i64 x_q0L) := (PL.el L.out HLq0L.out HPq0L.out).1
          have e1q0L : WN14x1144.cell? ⟨g_L, o_L + k * 2 + 1, none⟩ = some (.int .i64 y_q0L) := (PL.el L.out HLq0L.out HPq0L.out).2
          go_wp2_with fail
          refine (H33.out _).mono ?_
          clear e0q0L e1q0L
          rintro e w42 ⟨rfl, bb⟩
          replace bb := nextw (w0 := WN14x1144) (by exact sm) bb
          replace B_z0 := mv B_z0 bb
          replace B_z1 := mv B_z1 bb
          replace B_z2 := mv B_z2 bb
          replace B_z3 := mv B_z3 bb
          replace B_z4 := mv B_z4 bb
          replace B_z5 := mv B_z5 bb
          replace B_z6 := mv B_z6 bb
          replace L := Lib.hid (PL.below L.out bb)
          replace M := Lib.hid (PL.below M.out bb)
          replace HB := nx HB bb
          clear bb
          go_upto_region 17 with (fail)
          go_quiet (fail)
          have bb : Below w42.heap.size w42 (w42.drewN nq) := bel_drewN (Below.refl _ _) _
          generalize w42.drewN nq = w43q at *
          replace B_z0 := mv B_z0 bb
          replace B_z1 := mv B_z1 bb
          replace B_z2 := mv B_z2 bb
          replace B_z3 := mv B_z3 bb
          replace B_z4 := mv B_z4 bb
          replace B_z5 := mv B_z5 bb
          replace B_z6 := mv B_z6 bb
          replace L := Lib.hid (PL.below L.out bb)
          replace M := Lib.hid (PL.below M.out bb)
          replace HB := nx HB bb
          clear bb
          go_wp2_with fail
          go_roundw
          case rel => exact ⟨k + 1, by omega, by go_num, (by rw [HFB.out, dd2]; rfl), L, M, B_z0, B_z1, B_z2, B_z3, B_z4, B_z5, HB⟩
          case measure => simp only [intOf]; omega
        · skip
          by_cases dd3 : x_q0L = O0
          · skip
            by_cases dd4 : y_q0L = O1
            · skip
              have H34 := Lib.hid (fun w => Square_w1 x_q0L y_q0L dd1 w)
              have H35 := Lib.hid (fun w => Size_is x_q0L 16384 (by omega) w)
              replace dd3 := Lib.hid dd3
              replace dd4 := Lib.hid dd4
              have e0q0L : wr.cell? ⟨g_L, o_L + k * 2, none⟩ = some (.int .i64 x_q0L) := (PL.el L.out HLq0L.out HPq0L.out).1
              have e1q0L : wr.cell? ⟨g_L, o_L + k * 2 + 1, none⟩ = some (.int .i64 y_q0L) := (PL.el L.out HLq0L.out HPq0L.out).2
              go_wp2_with fail
              refine (H34.out _).mono ?_
              clear e0q0L e1q0L
              rintro e w44 ⟨rfl, bb⟩
              replace bb := nextw (w0 := wr) (by exact sm) bb
              replace B_z0 := mv B_z0 bb
              replace B_z1 := mv B_z1 bb
              replace B_z2 := mv B_z2 bb
              replace B_z3 := mv B_z3 bb
              replace B_z4 := mv B_z4 bb
              replace B_z5 := mv B_z5 bb
              replace L := Lib.hid (PL.below L.out bb)
              replace M := Lib.hid (PL.below M.out bb)
              replace HB := nx HB bb
              clear bb
              have ltL_z6L : hi_L ≤ w44.heap.size := L.out.top
              have ltL_z6M : hi_M ≤ w44.heap.size := M.out.top
              have lt_z6z0 := B_z0.out.lt
              have lt_z6z1 := B_z1.out.lt
              have lt_z6z2 := B_z2.out.lt
              have lt_z6z3 := B_z3.out.lt
              have lt_z6z4 := B_z4.out.lt
              have lt_z6z5 := B_z5.out.lt
              obtain ⟨bb, B_z6⟩ := box1 w44 45 #[.int .i64 0, .int .i64 0, .int .i64 0, .int .i64 0]
              replace bb := bb.out
              replace B_z0 := mv B_z0 bb
              replace B_z1 := mv B_z1 bb
              replace B_z2 := mv B_z2 bb
              replace B_z3 := mv B_z3 bb
              replace B_z4 := mv B_z4 bb
              replace B_z5 := mv B_z5 bb
              replace L := Lib.hid (PL.below L.out bb)
              replace M := Lib.hid (PL.below M.out bb)
              replace HB := nx HB bb
              clear bb
              go_upto_region 15 with (fail)
              generalize w44.alloc (.cells #[.int .i64 0, .int .i64 0, .int .i64 0, .int .i64 0] 45) = WN14x1229 at *
              have e0q0L : WN14x1229.cell? ⟨g_L, o_L + k * 2, none⟩ = some (.int .i64 x_q0L) := (PL.el L.out HLq0L.out HPq0L.out).1
              have e1q0L : WN14x1229.cell? ⟨g_L, o_L + k * 2 + 1, none⟩ = some (.int .i64 y_q0L) := (PL.el L.out HLq0L.out HPq0L.out).2
              go_wp2_with fail
              refine (H35.out _).mono ?_
              clear e0q0L e1q0L
              rintro e w45 ⟨rfl, bb⟩
              replace bb := nextw (w0 := WN14x1229) (by exact sm) bb
              replace B_z0 := mv B_z0 bb
              replace B_z1 := mv B_z1 bb
              replace B_z2 := mv B_z2 bb
              replace B_z3 := mv B_z3 bb
              replace B_z4 := mv B_z4 bb
              replace B_z5 := mv B_z5 bb
              replace B_z6 := mv B_z6 bb
              replace L := Lib.hid (PL.below L.out bb)
              replace M := Lib.hid (PL.below M.out bb)
              replace HB := nx HB bb
              clear bb
              go_upto_region 17 with (fail)
              have e0q0L : w45.cell? ⟨g_L, o_L + k * 2, none⟩ = some (.int .i64 x_q0L) := (PL.el L.out HLq0L.out HPq0L.out).1
              have e1q0L : w45.cell? ⟨g_L, o_L + k * 2 + 1, none⟩ = some (.int .i64 y_q0L) := (PL.el L.out HLq0L.out HPq0L.out).2
              obtain ⟨c0z4, c1z4⟩ := cells2 B_z4
              have od3 : (x_q0L == O0) = true := decide_eq_true dd3.out
              have od4 : (y_q0L == O1) = true := decide_eq_true dd4.out
              have ob3 : (x_q0L != O0) = false := by rw [bne, od3]; rfl
              have ob4 : (y_q0L != O1) = false := by rw [bne, od4]; rfl
              go_quiet (fail)
              clear e0q0L e1q0L c0z4 c1z4
              have bb : Below w45.heap.size w45 (w45.drewN nq) := bel_drewN (Below.refl _ _) _
              generalize w45.drewN nq = w46q at *
              replace B_z0 := mv B_z0 bb
              replace B_z1 := mv B_z1 bb
              replace B_z2 := mv B_z2 bb
              replace B_z3 := mv B_z3 bb
              replace B_z4 := mv B_z4 bb
              replace B_z5 := mv B_z5 bb
              replace B_z6 := mv B_z6 bb
              replace L := Lib.hid (PL.below L.out bb)
              replace M := Lib.hid (PL.below M.out bb)
              replace HB := nx HB bb
              clear bb
              go_wp2_with fail
              go_roundw
              case rel => exact ⟨k + 1, by omega, by go_num, (by rw [HFB.out, (Bool.eq_false_iff.2 dd2), decide_eq_true (show (x_q0L, y_q0L) = (O0, O1) from by rw [dd3.out, dd4.out])]; rfl), L, M, B_z0, B_z1, B_z2, B_z3, B_z4, B_z5, HB⟩
              case measure => simp only [intOf]; omega
            · skip
              have H36 := Lib.hid (fun w => Square_w1 x_q0L y_q0L dd1 w)
              have H37 := Lib.hid (fun w => Size_is x_q0L 16384 (by omega) w)
              replace dd3 := Lib.hid dd3
              have e0q0L : wr.cell? ⟨g_L, o_L + k * 2, none⟩ = some (.int .i64 x_q0L) := (PL.el L.out HLq0L.out HPq0L.out).1
              have e1q0L : wr.cell? ⟨g_L, o_L + k * 2 + 1, none⟩ = some (.int .i64 y_q0L) := (PL.el L.out HLq0L.out HPq0L.out).2
              go_wp2_with fail
              refine (H36.out _).mono ?_
              clear e0q0L e1q0L
              rintro e w47 ⟨rfl, bb⟩
              replace bb := nextw (w0 := wr) (by exact sm) bb
              replace B_z0 := mv B_z0 bb
              replace B_z1 := mv B_z1 bb
              replace B_z2 := mv B_z2 bb
              replace B_z3 := mv B_z3 bb
              replace B_z4 := mv B_z4 bb
              replace B_z5 := mv B_z5 bb
              replace L := Lib.hid (PL.below L.out bb)
              replace M := Lib.hid (PL.below M.out bb)
              replace HB := nx HB bb
              clear bb
              have ltL_z6L : hi_L ≤ w47.heap.size := L.out.top
              have ltL_z6M : hi_M ≤ w47.heap.size := M.out.top
              have lt_z6z0 := B_z0.out.lt
              have lt_z6z1 := B_z1.out.lt
              have lt_z6z2 := B_z2.out.lt
              have lt_z6z3 := B_z3.out.lt
              have lt_z6z4 := B_z4.out.lt
              have lt_z6z5 := B_z5.out.lt
              obtain ⟨bb, B_z6⟩ := box1 w47 45 #[.int .i64 0, .int .i64 0, .int .i64 0, .int .i64 0]
              replace bb := bb.out
              replace B_z0 := mv B_z0 bb
              replace B_z1 := mv B_z1 bb
              replace B_z2 := mv B_z2 bb
              replace B_z3 := mv B_z3 bb
              replace B_z4 := mv B_z4 bb
              replace B_z5 := mv B_z5 bb
              replace L := Lib.hid (PL.below L.out bb)
              replace M := Lib.hid (PL.below M.out bb)
              replace HB := nx HB bb
              clear bb
              go_upto_region 15 with (fail)
              generalize w47.alloc (.cells #[.int .i64 0, .int .i64 0, .int .i64 0, .int .i64 0] 45) = WN14x1317 at *
              have e0q0L : WN14x1317.cell? ⟨g_L, o_L + k * 2, none⟩ = some (.int .i64 x_q0L) := (PL.el L.out HLq0L.out HPq0L.out).1
              have e1q0L : WN14x1317.cell? ⟨g_L, o_L + k * 2 + 1, none⟩ = some (.int .i64 y_q0L) := (PL.el L.out HLq0L.out HPq0L.out).2
              go_wp2_with fail
              refine (H37.out _).mono ?_
              clear e0q0L e1q0L
              rintro e w48 ⟨rfl, bb⟩
              replace bb := nextw (w0 := WN14x1317) (by exact sm) bb
              replace B_z0 := mv B_z0 bb
              replace B_z1 := mv B_z1 bb
              replace B_z2 := mv B_z2 bb
              replace B_z3 := mv B_z3 bb
              replace B_z4 := mv B_z4 bb
              replace B_z5 := mv B_z5 bb
              replace B_z6 := mv B_z6 bb
              replace L := Lib.hid (PL.below L.out bb)
              replace M := Lib.hid (PL.below M.out bb)
              replace HB := nx HB bb
              clear bb
              go_upto_region 17 with (fail)
              have e0q0L : w48.cell? ⟨g_L, o_L + k * 2, none⟩ = some (.int .i64 x_q0L) := (PL.el L.out HLq0L.out HPq0L.out).1
              have e1q0L : w48.cell? ⟨g_L, o_L + k * 2 + 1, none⟩ = some (.int .i64 y_q0L) := (PL.el L.out HLq0L.out HPq0L.out).2
              obtain ⟨c0z4, c1z4⟩ := cells2 B_z4
              have od3 : (x_q0L == O0) = true := decide_eq_true dd3.out
              have od4 : (y_q0L == O1) = false := decide_eq_false dd4
              have ob3 : (x_q0L != O0) = false := by rw [bne, od3]; rfl
              have ob4 : (y_q0L != O1) = true := by rw [bne, od4]; rfl
              go_quiet (fail)
              clear e0q0L e1q0L c0z4 c1z4
              have bb : Below w48.heap.size w48 (w48.drewN nq) := bel_drewN (Below.refl _ _) _
              generalize w48.drewN nq = w49q at *
              replace B_z0 := mv B_z0 bb
              replace B_z1 := mv B_z1 bb
              replace B_z2 := mv B_z2 bb
              replace B_z3 := mv B_z3 bb
              replace B_z4 := mv B_z4 bb
              replace B_z5 := mv B_z5 bb
              replace B_z6 := mv B_z6 bb
              replace L := Lib.hid (PL.below L.out bb)
              replace M := Lib.hid (PL.below M.out bb)
              replace HB := nx HB bb
              clear bb
              go_wp2_with fail
              go_roundw
              case rel => exact ⟨k + 1, by omega, by go_num, (by rw [HFB.out, (Bool.eq_false_iff.2 dd2), decide_eq_false (show ¬ (x_q0L, y_q0L) = (O0, O1) from fun h => by injection h with h1 h2; exact dd4 h2)]; rfl), L, M, B_z0, B_z1, B_z2, B_z3, B_z4, B_z5, HB⟩
              case measure => simp only [intOf]; omega
          · skip
            have H38 := Lib.hid (fun w => Square_w1 x_q0L y_q0L dd1 w)
            have H39 := Lib.hid (fun w => Size_is x_q0L 16384 (by omega) w)
            have e0q0L : wr.cell? ⟨g_L, o_L + k * 2, none⟩ = some (.int .i64 x_q0L) := (PL.el L.out HLq0L.out HPq0L.out).1
            have e1q0L : wr.cell? ⟨g_L, o_L + k * 2 + 1, none⟩ = some (.int .i64 y_q0L) := (PL.el L.out HLq0L.out HPq0L.out).2
            go_wp2_with fail
            refine (H38.out _).mono ?_
            clear e0q0L e1q0L
            rintro e w50 ⟨rfl, bb⟩
            replace bb := nextw (w0 := wr) (by exact sm) bb
            replace B_z0 := mv B_z0 bb
            replace B_z1 := mv B_z1 bb
            replace B_z2 := mv B_z2 bb
            replace B_z3 := mv B_z3 bb
            replace B_z4 := mv B_z4 bb
            replace B_z5 := mv B_z5 bb
            replace L := Lib.hid (PL.below L.out bb)
            replace M := Lib.hid (PL.below M.out bb)
            replace HB := nx HB bb
            clear bb
            have ltL_z6L : hi_L ≤ w50.heap.size := L.out.top
            have ltL_z6M : hi_M ≤ w50.heap.size := M.out.top
            have lt_z6z0 := B_z0.out.lt
            have lt_z6z1 := B_z1.out.lt
            have lt_z6z2 := B_z2.out.lt
            have lt_z6z3 := B_z3.out.lt
            have lt_z6z4 := B_z4.out.lt
            have lt_z6z5 := B_z5.out.lt
            obtain ⟨bb, B_z6⟩ := box1 w50 45 #[.int .i64 0, .int .i64 0, .int .i64 0, .int .i64 0]
            replace bb := bb.out
            replace B_z0 := mv B_z0 bb
            replace B_z1 := mv B_z1 bb
            replace B_z2 := mv B_z2 bb
            replace B_z3 := mv B_z3 bb
            replace B_z4 := mv B_z4 bb
            replace B_z5 := mv B_z5 bb
            replace L := Lib.hid (PL.below L.out bb)
            replace M := Lib.hid (PL.below M.out bb)
            replace HB := nx HB bb
            clear bb
            go_upto_region 15 with (fail)
            generalize w50.alloc (.cells #[.int .i64 0, .int .i64 0, .int .i64 0, .int .i64 0] 45) = WN14x1404 at *
            have e0q0L : WN14x1404.cell? ⟨g_L, o_L + k * 2, none⟩ = some (.int .i64 x_q0L) := (PL.el L.out HLq0L.out HPq0L.out).1
            have e1q0L : WN14x1404.cell? ⟨g_L, o_L + k * 2 + 1, none⟩ = some (.int .i64 y_q0L) := (PL.el L.out HLq0L.out HPq0L.out).2
            go_wp2_with fail
            refine (H39.out _).mono ?_
            clear e0q0L e1q0L
            rintro e w51 ⟨rfl, bb⟩
            replace bb := nextw (w0 := WN14x1404) (by exact sm) bb
            replace B_z0 := mv B_z0 bb
            replace B_z1 := mv B_z1 bb
            replace B_z2 := mv B_z2 bb
            replace B_z3 := mv B_z3 bb
            replace B_z4 := mv B_z4 bb
            replace B_z5 := mv B_z5 bb
            replace B_z6 := mv B_z6 bb
            replace L := Lib.hid (PL.below L.out bb)
            replace M := Lib.hid (PL.below M.out bb)
            replace HB := nx HB bb
            clear bb
            go_upto_region 17 with (fail)
            have e0q0L : w51.cell? ⟨g_L, o_L + k * 2, none⟩ = some (.int .i64 x_q0L) := (PL.el L.out HLq0L.out HPq0L.out).1
            have e1q0L : w51.cell? ⟨g_L, o_L + k * 2 + 1, none⟩ = some (.int .i64 y_q0L) := (PL.el L.out HLq0L.out HPq0L.out).2
            obtain ⟨c0z4, c1z4⟩ := cells2 B_z4
            have od3 : (x_q0L == O0) = false := decide_eq_false dd3
            have ob3 : (x_q0L != O0) = true := by rw [bne, od3]; rfl
            go_quiet (fail)
            clear e0q0L e1q0L c0z4 c1z4
            have bb : Below w51.heap.size w51 (w51.drewN nq) := bel_drewN (Below.refl _ _) _
            generalize w51.drewN nq = w52q at *
            replace B_z0 := mv B_z0 bb
            replace B_z1 := mv B_z1 bb
            replace B_z2 := mv B_z2 bb
            replace B_z3 := mv B_z3 bb
            replace B_z4 := mv B_z4 bb
            replace B_z5 := mv B_z5 bb
            replace B_z6 := mv B_z6 bb
            replace L := Lib.hid (PL.below L.out bb)
            replace M := Lib.hid (PL.below M.out bb)
            replace HB := nx HB bb
            clear bb
            go_wp2_with fail
            go_roundw
            case rel => exact ⟨k + 1, by omega, by go_num, (by rw [HFB.out, (Bool.eq_false_iff.2 dd2), decide_eq_false (show ¬ (x_q0L, y_q0L) = (O0, O1) from fun h => by injection h with h1 h2; exact dd3 h1)]; rfl), L, M, B_z0, B_z1, B_z2, B_z3, B_z4, B_z5, HB⟩
            case measure => simp only [intOf]; omega
    · skip
      have hkn : N = k := by omega
      subst hkn
      go_wp2
      go_ret
      exact ⟨rb HFIN.out, nextw HB.out (by exact sm)⟩

set_option maxRecDepth 100000 in
set_option maxHeartbeats 4000000 in
theorem LSquares_no (a b p q : Int)  (h : ¬ (Wi p 1048576 ∧ Wi q 1048576)) (w : World) :
    Calls Try.prog 6 #[.agg #[.int .i64 a, .int .i64 b], .agg #[.int .i64 p, .int .i64 q]] w fun e w' => e = .returned (.bool true) ∧ Below w.heap.size w w' := by
  obtain ⟨S0, S1, S2, S3, SB, hsq, hsr⟩ := sq_both a b
  have HSQ := Lib.hid hsq
  have HSR := Lib.hid hsr
  clear hsq hsr
  obtain ⟨LL, hLL⟩ : ∃ l, ceV p q p q = l := ⟨_, rfl⟩
  have HAL := Lib.hid (fun w => Around_is p q w)
  have HAM := Lib.hid (fun w => RAround_is p q w)
  have hLb : LL.length ≤ 1000000 := by rw [← hLL]; exact Nat.le_trans (ceV_len _ _ _ _) (by decide)
  rw [hLL] at HAL HAM
  have HLL := Lib.hid hLL
  obtain ⟨N, hN⟩ : ∃ N, LL.length = N := ⟨_, rfl⟩
  rw [hN] at HAL HAM
  have hNb : N ≤ 1000000 := by omega
  replace hLb := Lib.hid hLb
  have HN := Lib.hid hN
  have HOF := Lib.hid (fun w => Of_w1 p q h w)
  have HOR := Lib.hid (fun w => ROf_w1 p q h w)
  have hN0 : N ≤ 0 := by rw [← hN, ← hLL, ceV_nil (ceE_1 (fun g => h (okq_pt.1 g))) (by decide)]; exact Nat.le_refl _
  clear hLL hN
  have H0 := Lib.hid (fun w => awake_is w)
  have H1 := Lib.hid (fun w => (HSQ.out w))
  have H2 := Lib.hid (fun w => (HSR.out w))
  have H3 := Lib.hid (fun w => (HOF.out w))
  have H4 := Lib.hid (fun w => (HOR.out w))
  have H5 := Lib.hid (fun w => (HAL.out w))
  have H6 := Lib.hid (fun w => (HAM.out w))
  obtain ⟨HB, B_z0, B_z1⟩ := box2 w 37 #[.int .i64 a, .int .i64 b] 43 #[.int .i64 p, .int .i64 q]
  go_enter Try.func6, Try.ntmps6
  go_upto_region 1 with (fail)
  generalize (w.alloc (.cells #[.int .i64 a, .int .i64 b] 37)).alloc (.cells #[.int .i64 p, .int .i64 q] 43) = W0 at *
  go_wp2_with fail
  refine (H0.out _).mono ?_
  rintro e w1 ⟨rfl, bb⟩
  replace bb := nextw (w0 := W0) (by exact sm) bb
  replace B_z0 := mv B_z0 bb
  replace B_z1 := mv B_z1 bb
  replace HB := nx HB bb
  clear bb
  obtain ⟨c0z0, c1z0⟩ := cells2 B_z0
  go_wp2_with fail
  refine (H1.out _).mono ?_
  clear c0z0 c1z0
  rintro e w2 ⟨rfl, bb⟩
  replace bb := nextw (w0 := w1) (by exact sm) bb
  replace B_z0 := mv B_z0 bb
  replace B_z1 := mv B_z1 bb
  replace HB := nx HB bb
  clear bb
  have lt_z2z0 := B_z0.out.lt
  have lt_z2z1 := B_z1.out.lt
  obtain ⟨bb, B_z2⟩ := box1 w2 45 #[.int .i64 S0, .int .i64 S1, .int .i64 S2, .int .i64 S3]
  replace bb := bb.out
  replace B_z0 := mv B_z0 bb
  replace B_z1 := mv B_z1 bb
  replace HB := nx HB bb
  clear bb
  go_upto_region 4 with (fail)
  generalize w2.alloc (.cells #[.int .i64 S0, .int .i64 S1, .int .i64 S2, .int .i64 S3] 45) = WN3x48 at *
  obtain ⟨c0z0, c1z0⟩ := cells2 B_z0
  go_wp2_with fail
  refine (H2.out _).mono ?_
  clear c0z0 c1z0
  rintro e w3 ⟨rfl, bb⟩
  replace bb := nextw (w0 := WN3x48) (by exact sm) bb
  replace B_z0 := mv B_z0 bb
  replace B_z1 := mv B_z1 bb
  replace B_z2 := mv B_z2 bb
  replace HB := nx HB bb
  clear bb
  have lt_z3z0 := B_z0.out.lt
  have lt_z3z1 := B_z1.out.lt
  have lt_z3z2 := B_z2.out.lt
  obtain ⟨bb, B_z3⟩ := box1 w3 45 #[.int .i64 S0, .int .i64 S1, .int .i64 S2, .int .i64 S3]
  replace bb := bb.out
  replace B_z0 := mv B_z0 bb
  replace B_z1 := mv B_z1 bb
  replace B_z2 := mv B_z2 bb
  replace HB := nx HB bb
  clear bb
  go_upto_region 5 with (fail)
  generalize w3.alloc (.cells #[.int .i64 S0, .int .i64 S1, .int .i64 S2, .int .i64 S3] 45) = WN4x69 at *
  obtain ⟨c0z1, c1z1⟩ := cells2 B_z1
  go_wp2_with fail
  refine (H3.out _).mono ?_
  clear c0z1 c1z1
  rintro e w4 ⟨rfl, bb⟩
  replace bb := nextw (w0 := WN4x69) (by exact sm) bb
  replace B_z0 := mv B_z0 bb
  replace B_z1 := mv B_z1 bb
  replace B_z2 := mv B_z2 bb
  replace B_z3 := mv B_z3 bb
  replace HB := nx HB bb
  clear bb
  have lt_z4z0 := B_z0.out.lt
  have lt_z4z1 := B_z1.out.lt
  have lt_z4z2 := B_z2.out.lt
  have lt_z4z3 := B_z3.out.lt
  obtain ⟨bb, B_z4⟩ := box1 w4 37 #[.int .i64 0, .int .i64 0]
  replace bb := bb.out
  replace B_z0 := mv B_z0 bb
  replace B_z1 := mv B_z1 bb
  replace B_z2 := mv B_z2 bb
  replace B_z3 := mv B_z3 bb
  replace HB := nx HB bb
  clear bb
  go_upto_region 6 with (fail)
  generalize w4.alloc (.cells #[.int .i64 0, .int .i64 0] 37) = WN5x93 at *
  obtain ⟨c0z1, c1z1⟩ := cells2 B_z1
  go_wp2_with fail
  refine (H4.out _).mono ?_
  clear c0z1 c1z1
  rintro e w5 ⟨rfl, bb⟩
  replace bb := nextw (w0 := WN5x93) (by exact sm) bb
  replace B_z0 := mv B_z0 bb
  replace B_z1 := mv B_z1 bb
  replace B_z2 := mv B_z2 bb
  replace B_z3 := mv B_z3 bb
  replace B_z4 := mv B_z4 bb
  replace HB := nx HB bb
  clear bb
  have lt_z5z0 := B_z0.out.lt
  have lt_z5z1 := B_z1.out.lt
  have lt_z5z2 := B_z2.out.lt
  have lt_z5z3 := B_z3.out.lt
  have lt_z5z4 := B_z4.out.lt
  obtain ⟨bb, B_z5⟩ := box1 w5 37 #[.int .i64 0, .int .i64 0]
  replace bb := bb.out
  replace B_z0 := mv B_z0 bb
  replace B_z1 := mv B_z1 bb
  replace B_z2 := mv B_z2 bb
  replace B_z3 := mv B_z3 bb
  replace B_z4 := mv B_z4 bb
  replace HB := nx HB bb
  clear bb
  go_upto_region 7 with (fail)
  generalize w5.alloc (.cells #[.int .i64 0, .int .i64 0] 37) = WN6x120 at *
  obtain ⟨c0z1, c1z1⟩ := cells2 B_z1
  have sp_z0_L : Hid (w.heap.size < WN6x120.heap.size) := B_z0.out.lt
  have sp_z1_L : Hid (w.heap.size + 1 < WN6x120.heap.size) := B_z1.out.lt
  have sp_z2_L : Hid (w2.heap.size < WN6x120.heap.size) := B_z2.out.lt
  have sp_z3_L : Hid (w3.heap.size < WN6x120.heap.size) := B_z3.out.lt
  have sp_z4_L : Hid (w4.heap.size < WN6x120.heap.size) := B_z4.out.lt
  have sp_z5_L : Hid (w5.heap.size < WN6x120.heap.size) := B_z5.out.lt
  have lw_L : Hid (w.heap.size ≤ WN6x120.heap.size) := HB.out.size
  go_wp2_with fail
  refine (H5.out _).mono ?_
  clear c0z1 c1z1
  rintro e w6 ⟨AL, cL, rfl, L, bb⟩
  replace bb := nextw (w0 := WN6x120) (by exact sm) bb
  replace B_z0 := mv B_z0 bb
  replace B_z1 := mv B_z1 bb
  replace B_z2 := mv B_z2 bb
  replace B_z3 := mv B_z3 bb
  replace B_z4 := mv B_z4 bb
  replace B_z5 := mv B_z5 bb
  replace HB := nx HB bb
  clear bb
  replace L := Lib.hid L
  obtain ⟨lo_L, hi_L, hlo_L, hhi_L, L⟩ : ∃ lo hi, WN6x120.heap.size ≤ lo ∧ hi ≤ w6.heap.size ∧ Hid (PL w6 lo hi AL N cL LL) := ⟨_, _, Nat.le_refl _, Nat.le_refl _, L⟩
  have hb_z0_L : w.heap.size < lo_L := by have := sp_z0_L.out; omega
  have hb_z1_L : w.heap.size + 1 < lo_L := by have := sp_z1_L.out; omega
  have hb_z2_L : w2.heap.size < lo_L := by have := sp_z2_L.out; omega
  have hb_z3_L : w3.heap.size < lo_L := by have := sp_z3_L.out; omega
  have hb_z4_L : w4.heap.size < lo_L := by have := sp_z4_L.out; omega
  have hb_z5_L : w5.heap.size < lo_L := by have := sp_z5_L.out; omega
  have hw_L : w.heap.size ≤ lo_L := by have := lw_L.out; omega
  obtain ⟨c0z2, c1z2, c2z2, c3z2⟩ := cells4 B_z2
  obtain ⟨c0z3, c1z3, c2z3, c3z3⟩ := cells4 B_z3
  obtain ⟨c0z4, c1z4⟩ := cells2 B_z4
  obtain ⟨c0z5, c1z5⟩ := cells2 B_z5
  obtain ⟨c0z1, c1z1⟩ := cells2 B_z1
  have sp_z0_M : Hid (w.heap.size < w6.heap.size) := B_z0.out.lt
  have sp_z1_M : Hid (w.heap.size + 1 < w6.heap.size) := B_z1.out.lt
  have sp_z2_M : Hid (w2.heap.size < w6.heap.size) := B_z2.out.lt
  have sp_z3_M : Hid (w3.heap.size < w6.heap.size) := B_z3.out.lt
  have sp_z4_M : Hid (w4.heap.size < w6.heap.size) := B_z4.out.lt
  have sp_z5_M : Hid (w5.heap.size < w6.heap.size) := B_z5.out.lt
  have lw_M : Hid (w.heap.size ≤ w6.heap.size) := HB.out.size
  go_wp2_with fail
  refine (H6.out _).mono ?_
  clear c0z2 c1z2 c2z2 c3z2 c0z3 c1z3 c2z3 c3z3 c0z4 c1z4 c0z5 c1z5 c0z1 c1z1
  rintro e w7 ⟨AM, cM, rfl, M, bb⟩
  replace bb := nextw (w0 := w6) (by exact sm) bb
  replace B_z0 := mv B_z0 bb
  replace B_z1 := mv B_z1 bb
  replace B_z2 := mv B_z2 bb
  replace B_z3 := mv B_z3 bb
  replace B_z4 := mv B_z4 bb
  replace B_z5 := mv B_z5 bb
  replace L := Lib.hid (PL.below L.out bb)
  replace HB := nx HB bb
  clear bb
  replace M := Lib.hid M
  obtain ⟨lo_M, hi_M, hlo_M, hhi_M, M⟩ : ∃ lo hi, w6.heap.size ≤ lo ∧ hi ≤ w7.heap.size ∧ Hid (PL w7 lo hi AM N cM LL) := ⟨_, _, Nat.le_refl _, Nat.le_refl _, M⟩
  have hb_z0_M : w.heap.size < lo_M := by have := sp_z0_M.out; omega
  have hb_z1_M : w.heap.size + 1 < lo_M := by have := sp_z1_M.out; omega
  have hb_z2_M : w2.heap.size < lo_M := by have := sp_z2_M.out; omega
  have hb_z3_M : w3.heap.size < lo_M := by have := sp_z3_M.out; omega
  have hb_z4_M : w4.heap.size < lo_M := by have := sp_z4_M.out; omega
  have hb_z5_M : w5.heap.size < lo_M := by have := sp_z5_M.out; omega
  have hw_M : w.heap.size ≤ lo_M := by have := lw_M.out; omega
  go_wp2_with fail
  refine (same_cells LL hLb.out _ _ _ _ _ _ HN.out HN.out _ (PL.below L.out (by exact sm)) (PL.below M.out (by exact sm))).mono ?_
  rintro e w8 ⟨rfl, bb⟩
  replace bb := nextw (w0 := w7) (by exact sm) bb
  replace B_z0 := mv B_z0 bb
  replace B_z1 := mv B_z1 bb
  replace B_z2 := mv B_z2 bb
  replace B_z3 := mv B_z3 bb
  replace B_z4 := mv B_z4 bb
  replace B_z5 := mv B_z5 bb
  replace L := Lib.hid (PL.below L.out bb)
  replace M := Lib.hid (PL.below M.out bb)
  replace HB := nx HB bb
  clear bb
  go_wp2_with fail
  go_loopw [14, 15] (fun a0 kk wx => ∃ (k : Nat), k ≤ N ∧ kk = .int .i64 k ∧ a0 = (.bool true) ∧ Hid (PL wx lo_L hi_L AL N cL LL) ∧ Hid (PL wx lo_M hi_M AM N cM LL) ∧ Hid (Bx wx (w.heap.size) 37 #[.int .i64 a, .int .i64 b]) ∧ Hid (Bx wx (w.heap.size + 1) 43 #[.int .i64 p, .int .i64 q]) ∧ Hid (Bx wx (w2.heap.size) 45 #[.int .i64 S0, .int .i64 S1, .int .i64 S2, .int .i64 S3]) ∧ Hid (Bx wx (w3.heap.size) 45 #[.int .i64 S0, .int .i64 S1, .int .i64 S2, .int .i64 S3]) ∧ Hid (Bx wx (w4.heap.size) 37 #[.int .i64 0, .int .i64 0]) ∧ Hid (Bx wx (w5.heap.size) 37 #[.int .i64 0, .int .i64 0]) ∧ Hid (Below w.heap.size w wx)) (fun _ kk _ => N - (intOf kk).toNat)
  case atStart => exact ⟨0, by omega, rfl, rfl, L, M, B_z0, B_z1, B_z2, B_z3, B_z4, B_z5, HB⟩
  case round =>
    clear L M B_z0 B_z1 B_z2 B_z3 B_z4 B_z5 HB
    obtain ⟨k, hk, rfl, rfl, L, M, B_z0, B_z1, B_z2, B_z3, B_z4, B_z5, HB⟩ := hrel
    by_cases hlt : k < N
    · skip
      exfalso; omega
    · skip
      have hkn : N = k := by omega
      subst hkn
      go_wp2
      go_ret
      exact ⟨rfl, nextw HB.out (by exact sm)⟩

theorem LSquares_any (a b p q : Int) (w : World) : Calls Try.prog 6 #[.agg #[.int .i64 a, .int .i64 b], .agg #[.int .i64 p, .int .i64 q]] w fun e w' => e = .returned (.bool true) ∧ Below w.heap.size w w' := by
  by_cases h : Wi p 1048576 ∧ Wi q 1048576
  · exact LSquares_yes a b p q h w
  · exact LSquares_no a b p q h w
end Go.Proofs.Ytkhcogfajihecaa
