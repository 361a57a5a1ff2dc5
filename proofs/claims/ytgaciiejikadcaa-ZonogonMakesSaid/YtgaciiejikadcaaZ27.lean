/- the law ZonogonMakes. -/
import Derived.Test.YtgaciiejikadcaaZ26
import Derived.Test.YtgaciiejikadcaaZ23
set_option linter.unusedVariables false
set_option linter.unusedSimpArgs false
namespace Go.Proofs.Ytgaciiejikadcaa
open Go Go.RowKit Hd

def RO (x0 y0 x1 y1 : Int) : Prop := OkR x0 y0 x1 y1 ∧ x1 - x0 ≤ 65536 ∧ y1 - y0 ≤ 65536
def SO (a b c d : Int) : Prop := (Wi a 2097152 ∧ Wi b 2097152) ∧ (Wi c 2097152 ∧ Wi d 2097152) ∧ (Wi (c - a) 65536 ∧ Wi (d - b) 65536)
instance (x0 y0 x1 y1 : Int) : Decidable (RO x0 y0 x1 y1) := by unfold RO; infer_instance
instance (a b c d : Int) : Decidable (SO a b c d) := by unfold SO; infer_instance
theorem wi_neg {a c : Int} (h : Wi (c - a) 65536) : Wi (a - c) 65536 := ⟨by have := h.2; omega, by have := h.1; omega⟩
theorem can2 (p q : P2) (hp : Bd 65536 p) (hq : Bd 65536 q) : (canL [p, q]).length ≤ 2 := by
  have h := (canL_all (l := [p, q]) (M := 65536) (by intro x hx; simp at hx; rcases hx with rfl | rfl; exact hp; exact hq) (by decide)).2
  simpa using h
theorem can1 (p : P2) (hp : Bd 65536 p) : (canL [p]).length ≤ 1 := by
  have h := (canL_all (l := [p]) (M := 65536) (by intro x hx; simp at hx; subst hx; exact hp) (by decide)).2
  simpa using h
theorem ro_len {x0 y0 x1 y1 : Int} (h : RO x0 y0 x1 y1) : (canL [(x1 - x0, 0), (0, y1 - y0)]).length ≤ 100000 := by
  obtain ⟨⟨⟨ra, rb⟩, ⟨rc, rd⟩, ⟨re, rf⟩, ⟨rg, rh⟩, ri, rj⟩, h2, h3⟩ := h
  exact Nat.le_trans (can2 _ _ ⟨⟨by simp only; omega, by simp only; omega⟩, ⟨by simp only; omega, by simp only; omega⟩⟩ ⟨⟨by simp only; omega, by simp only; omega⟩, ⟨by simp only; omega, by simp only; omega⟩⟩) (by decide)
theorem so_len {a b c d : Int} (h : SO a b c d) : (canL [(c - a, d - b)]).length ≤ 100000 := Nat.le_trans (can1 _ ⟨h.2.2.1, h.2.2.2⟩) (by decide)

theorem ORy (x0 y0 x1 y1 : Int) (h : RO x0 y0 x1 y1) (w : World) :
    Calls Try.prog 27 #[.agg #[.int .i64 x0, .int .i64 y0, .int .i64 x1, .int .i64 y1]] w fun e w' => ∃ AA cc, e = .returned (.tuple #[.agg #[.int .i64 (x0 + x1), .int .i64 (y0 + y1), .slice AA (canL [(x1 - x0, 0), (0, y1 - y0)]).length cc], .int .i64 0]) ∧ PL w' w.heap.size w'.heap.size AA (canL [(x1 - x0, 0), (0, y1 - y0)]).length cc (canL [(x1 - x0, 0), (0, y1 - y0)]) ∧ Below w.heap.size w w' := OfRect_w3 x0 y0 x1 y1 h.1 h.2.1 h.2.2 w

theorem RORy (x0 y0 x1 y1 : Int) (h : RO x0 y0 x1 y1) (w : World) :
    Calls Try.prog 28 #[.agg #[.int .i64 x0, .int .i64 y0, .int .i64 x1, .int .i64 y1]] w fun e w' => ∃ AA cc, e = .returned (.tuple #[.agg #[.int .i64 (x0 + x1), .int .i64 (y0 + y1), .slice AA (canL [(x1 - x0, 0), (0, y1 - y0)]).length cc], .int .i64 0]) ∧ PL w' w.heap.size w'.heap.size AA (canL [(x1 - x0, 0), (0, y1 - y0)]).length cc (canL [(x1 - x0, 0), (0, y1 - y0)]) ∧ Below w.heap.size w w' := ROfRect_w3 x0 y0 x1 y1 h.1 h.2.1 h.2.2 w

theorem ORn (x0 y0 x1 y1 : Int) (h : ¬ RO x0 y0 x1 y1) (w : World) :
    Calls Try.prog 27 #[.agg #[.int .i64 x0, .int .i64 y0, .int .i64 x1, .int .i64 y1]] w fun e w' => e = .returned (.tuple #[.agg #[.int .i64 0, .int .i64 0, .slice none 0 0], .int .i64 1]) ∧ Below w.heap.size w w' := by
  by_cases h1 : OkR x0 y0 x1 y1
  · by_cases h2 : x1 - x0 ≤ 65536
    · have h3 : 65536 < y1 - y0 := by
        apply Decidable.byContradiction; intro h3; exact h ⟨h1, h2, by omega⟩
      exact OfRect_w2 x0 y0 x1 y1 h1 h2 h3 w
    · exact OfRect_w0 x0 y0 x1 y1 h1 (by omega) w
  · exact OfRect_w1 x0 y0 x1 y1 h1 w

theorem RORn (x0 y0 x1 y1 : Int) (h : ¬ RO x0 y0 x1 y1) (w : World) :
    Calls Try.prog 28 #[.agg #[.int .i64 x0, .int .i64 y0, .int .i64 x1, .int .i64 y1]] w fun e w' => e = .returned (.tuple #[.agg #[.int .i64 0, .int .i64 0, .slice none 0 0], .int .i64 1]) ∧ Below w.heap.size w w' := by
  by_cases h1 : OkR x0 y0 x1 y1
  · by_cases h2 : x1 - x0 ≤ 65536
    · have h3 : 65536 < y1 - y0 := by
        apply Decidable.byContradiction; intro h3; exact h ⟨h1, h2, by omega⟩
      exact ROfRect_w2 x0 y0 x1 y1 h1 h2 h3 w
    · exact ROfRect_w0 x0 y0 x1 y1 h1 (by omega) w
  · exact ROfRect_w1 x0 y0 x1 y1 h1 w

theorem OSy (a b c d : Int) (h : SO a b c d) (w : World) :
    Calls Try.prog 29 #[.agg #[.int .i64 a, .int .i64 b], .agg #[.int .i64 c, .int .i64 d]] w fun e w' => ∃ AA cc, e = .returned (.tuple #[.agg #[.int .i64 (a + c), .int .i64 (b + d), .slice AA (canL [(c - a, d - b)]).length cc], .int .i64 0]) ∧ PL w' w.heap.size w'.heap.size AA (canL [(c - a, d - b)]).length cc (canL [(c - a, d - b)]) ∧ Below w.heap.size w w' := OfSeg_w0 a b c d h.1 h.2.1 h.2.2 w

theorem ROSy (a b c d : Int) (h : SO a b c d) (w : World) :
    Calls Try.prog 30 #[.agg #[.int .i64 a, .int .i64 b], .agg #[.int .i64 c, .int .i64 d]] w fun e w' => ∃ AA cc, e = .returned (.tuple #[.agg #[.int .i64 (a + c), .int .i64 (b + d), .slice AA (canL [(c - a, d - b)]).length cc], .int .i64 0]) ∧ PL w' w.heap.size w'.heap.size AA (canL [(c - a, d - b)]).length cc (canL [(c - a, d - b)]) ∧ Below w.heap.size w w' := ROfSeg_w0 a b c d h.1.1 h.1.2 h.2.1.1 h.2.1.2 (wi_neg h.2.2.1) (wi_neg h.2.2.2) w

theorem OSn (a b c d : Int) (h : ¬ SO a b c d) (w : World) :
    Calls Try.prog 29 #[.agg #[.int .i64 a, .int .i64 b], .agg #[.int .i64 c, .int .i64 d]] w fun e w' => e = .returned (.tuple #[.agg #[.int .i64 0, .int .i64 0, .slice none 0 0], .int .i64 1]) ∧ Below w.heap.size w w' := by
  by_cases h1 : Wi a 2097152 ∧ Wi b 2097152
  · by_cases h2 : Wi c 2097152 ∧ Wi d 2097152
    · exact OfSeg_w3 a b c d h1 h2 (fun h3 => h ⟨h1, h2, h3⟩) w
    · exact OfSeg_w2 a b c d h1 h2 w
  · exact OfSeg_w1 a b c d h1 w

theorem ROSn (a b c d : Int) (h : ¬ SO a b c d) (w : World) :
    Calls Try.prog 30 #[.agg #[.int .i64 a, .int .i64 b], .agg #[.int .i64 c, .int .i64 d]] w fun e w' => e = .returned (.tuple #[.agg #[.int .i64 0, .int .i64 0, .slice none 0 0], .int .i64 1]) ∧ Below w.heap.size w w' := by
  by_cases h1 : Wi a 2097152
  · by_cases h2 : Wi b 2097152
    · by_cases h3 : Wi c 2097152
      · by_cases h4 : Wi d 2097152
        · by_cases h5 : Wi (a - c) 65536
          · exact ROfSeg_w6 a b c d h1 h2 h3 h4 h5 (fun h6 => h ⟨⟨h1, h2⟩, ⟨h3, h4⟩, wi_neg h5, wi_neg h6⟩) w
          · exact ROfSeg_w5 a b c d h1 h2 h3 h4 h5 w
        · exact ROfSeg_w4 a b c d h1 h2 h3 h4 w
      · exact ROfSeg_w3 a b c d h1 h2 h3 w
    · exact ROfSeg_w2 a b c d h1 h2 w
  · exact ROfSeg_w1 a b c d h1 w

theorem zonSame (w : World) (x y : Int) (l : List P2) {A1 A2 : Option Addr} {c1 c2 lo hi lo2 hi2 : Nat} (hn : l.length ≤ 100000) (L : PL w lo hi A1 l.length c1 l) (L2 : PL w lo2 hi2 A2 l.length c2 l) :
    Calls Try.prog 21 #[.agg #[.int .i64 x, .int .i64 y, .slice A1 l.length c1], .agg #[.int .i64 x, .int .i64 y, .slice A2 l.length c2]] w fun e w' => e = .returned (.bool true) ∧ Below w.heap.size w w' := by
  have h := Zonogons_any x y x y A1 l.length c1 l A2 l.length c2 l hn hn w L L2
  simp only [ZonogonsV, if_true, decide_true] at h
  exact h
theorem zonNil (w : World) :
    Calls Try.prog 21 #[.agg #[.int .i64 0, .int .i64 0, .slice none 0 0], .agg #[.int .i64 0, .int .i64 0, .slice none 0 0]] w fun e w' => e = .returned (.bool true) ∧ Below w.heap.size w w' := by
  have P : PL w 0 w.heap.size none 0 0 [] := ⟨rfl, Nat.le_refl _, Nat.le_refl _, fun h => absurd rfl h⟩
  have h := Zonogons_any 0 0 0 0 none 0 0 [] none 0 0 [] (by decide) (by decide) w P P
  simp only [ZonogonsV, if_true, decide_true] at h
  exact h

set_option maxRecDepth 100000 in
set_option maxHeartbeats 4000000 in
theorem Makes_w0 (x0 y0 x1 y1 a b c d : Int)   (dd0 : RO x0 y0 x1 y1) (dd1 : SO a b c d) (w : World) :
    Calls Try.prog 4 #[.agg #[.int .i64 x0, .int .i64 y0, .int .i64 x1, .int .i64 y1], .agg #[.int .i64 a, .int .i64 b], .agg #[.int .i64 c, .int .i64 d]] w fun e w' => e = .returned (.bool true) ∧ Below w.heap.size w w' := by
  have H0 := Lib.hid (fun w => awake_w0 w)
  have HRL := Lib.hid (ro_len dd0)
  have HSL := Lib.hid (so_len dd1)
  obtain ⟨HB, B_z0, B_z1, B_z2⟩ := box3 w 31 #[.int .i64 x0, .int .i64 y0, .int .i64 x1, .int .i64 y1] 39 #[.int .i64 a, .int .i64 b] 39 #[.int .i64 c, .int .i64 d]
  go_enter Try.func4, Try.ntmps4
  go_upto_region 1 with (fail)
  generalize ((w.alloc (.cells #[.int .i64 x0, .int .i64 y0, .int .i64 x1, .int .i64 y1] 31)).alloc (.cells #[.int .i64 a, .int .i64 b] 39)).alloc (.cells #[.int .i64 c, .int .i64 d] 39) = W0 at *
  go_wp2_with fail
  refine (H0.out _).mono ?_
  rintro e w1 ⟨rfl, bb⟩
  replace bb := nextw (w0 := W0) (by exact sm) bb
  replace B_z0 := mv B_z0 bb
  replace B_z1 := mv B_z1 bb
  replace B_z2 := mv B_z2 bb
  replace HB := nx HB bb
  clear bb
  obtain ⟨c0z0, c1z0, c2z0, c3z0⟩ := cells4 B_z0
  have sp_z0_LC1 : Hid (w.heap.size < w1.heap.size) := B_z0.out.lt
  have sp_z1_LC1 : Hid (w.heap.size + 1 < w1.heap.size) := B_z1.out.lt
  have sp_z2_LC1 : Hid (w.heap.size + 1 + 1 < w1.heap.size) := B_z2.out.lt
  have lw_LC1 : Hid (w.heap.size ≤ w1.heap.size) := HB.out.size
  go_wp2_with fail
  refine (ORy x0 y0 x1 y1 dd0 _).mono ?_
  clear c0z0 c1z0 c2z0 c3z0
  rintro e w2 ⟨AC1, cC1, rfl, LC1, bb⟩
  replace bb := nextw (w0 := w1) (by exact sm) bb
  replace B_z0 := mv B_z0 bb
  replace B_z1 := mv B_z1 bb
  replace B_z2 := mv B_z2 bb
  replace HB := nx HB bb
  clear bb
  replace LC1 := Lib.hid LC1
  have lt_z3z0 := B_z0.out.lt
  have lt_z3z1 := B_z1.out.lt
  have lt_z3z2 := B_z2.out.lt
  obtain ⟨bb, B_z3⟩ := box1 w2 24 #[.int .i64 (x0 + x1), .int .i64 (y0 + y1), .slice AC1 ((canL ([(x1 - x0, 0), (0, y1 - y0)])).length) cC1]
  replace bb := bb.out
  replace B_z0 := mv B_z0 bb
  replace B_z1 := mv B_z1 bb
  replace B_z2 := mv B_z2 bb
  replace LC1 := Lib.hid (PL.below LC1.out bb)
  replace HB := nx HB bb
  clear bb
  go_upto_region 4 with (fail)
  generalize w2.alloc (.cells #[.int .i64 (x0 + x1), .int .i64 (y0 + y1), .slice AC1 ((canL ([(x1 - x0, 0), (0, y1 - y0)])).length) cC1] 24) = WN2 at *
  obtain ⟨c0z0, c1z0, c2z0, c3z0⟩ := cells4 B_z0
  have sp_z0_LC2 : Hid (w.heap.size < WN2.heap.size) := B_z0.out.lt
  have sp_z1_LC2 : Hid (w.heap.size + 1 < WN2.heap.size) := B_z1.out.lt
  have sp_z2_LC2 : Hid (w.heap.size + 1 + 1 < WN2.heap.size) := B_z2.out.lt
  have sp_z3_LC2 : Hid (w2.heap.size < WN2.heap.size) := B_z3.out.lt
  have lw_LC2 : Hid (w.heap.size ≤ WN2.heap.size) := HB.out.size
  go_wp2_with fail
  refine (RORy x0 y0 x1 y1 dd0 _).mono ?_
  clear c0z0 c1z0 c2z0 c3z0
  rintro e w3 ⟨AC2, cC2, rfl, LC2, bb⟩
  replace bb := nextw (w0 := WN2) (by exact sm) bb
  replace B_z0 := mv B_z0 bb
  replace B_z1 := mv B_z1 bb
  replace B_z2 := mv B_z2 bb
  replace B_z3 := mv B_z3 bb
  replace LC1 := Lib.hid (PL.below LC1.out bb)
  replace HB := nx HB bb
  clear bb
  replace LC2 := Lib.hid LC2
  have lt_z4z0 := B_z0.out.lt
  have lt_z4z1 := B_z1.out.lt
  have lt_z4z2 := B_z2.out.lt
  have lt_z4z3 := B_z3.out.lt
  obtain ⟨bb, B_z4⟩ := box1 w3 24 #[.int .i64 (x0 + x1), .int .i64 (y0 + y1), .slice AC2 ((canL ([(x1 - x0, 0), (0, y1 - y0)])).length) cC2]
  replace bb := bb.out
  replace B_z0 := mv B_z0 bb
  replace B_z1 := mv B_z1 bb
  replace B_z2 := mv B_z2 bb
  replace B_z3 := mv B_z3 bb
  replace LC1 := Lib.hid (PL.below LC1.out bb)
  replace LC2 := Lib.hid (PL.below LC2.out bb)
  replace HB := nx HB bb
  clear bb
  go_upto_region 5 with (fail)
  generalize w3.alloc (.cells #[.int .i64 (x0 + x1), .int .i64 (y0 + y1), .slice AC2 ((canL ([(x1 - x0, 0), (0, y1 - y0)])).length) cC2] 24) = WN3 at *
  obtain ⟨c0z1, c1z1⟩ := cells2 B_z1
  obtain ⟨c0z2, c1z2⟩ := cells2 B_z2
  have sp_z0_LC3 : Hid (w.heap.size < WN3.heap.size) := B_z0.out.lt
  have sp_z1_LC3 : Hid (w.heap.size + 1 < WN3.heap.size) := B_z1.out.lt
  have sp_z2_LC3 : Hid (w.heap.size + 1 + 1 < WN3.heap.size) := B_z2.out.lt
  have sp_z3_LC3 : Hid (w2.heap.size < WN3.heap.size) := B_z3.out.lt
  have sp_z4_LC3 : Hid (w3.heap.size < WN3.heap.size) := B_z4.out.lt
  have lw_LC3 : Hid (w.heap.size ≤ WN3.heap.size) := HB.out.size
  go_wp2_with fail
  refine (OSy a b c d dd1 _).mono ?_
  clear c0z1 c1z1 c0z2 c1z2
  rintro e w4 ⟨AC3, cC3, rfl, LC3, bb⟩
  replace bb := nextw (w0 := WN3) (by exact sm) bb
  replace B_z0 := mv B_z0 bb
  replace B_z1 := mv B_z1 bb
  replace B_z2 := mv B_z2 bb
  replace B_z3 := mv B_z3 bb
  replace B_z4 := mv B_z4 bb
  replace LC1 := Lib.hid (PL.below LC1.out bb)
  replace LC2 := Lib.hid (PL.below LC2.out bb)
  replace HB := nx HB bb
  clear bb
  replace LC3 := Lib.hid LC3
  have lt_z5z0 := B_z0.out.lt
  have lt_z5z1 := B_z1.out.lt
  have lt_z5z2 := B_z2.out.lt
  have lt_z5z3 := B_z3.out.lt
  have lt_z5z4 := B_z4.out.lt
  obtain ⟨bb, B_z5⟩ := box1 w4 24 #[.int .i64 (a + c), .int .i64 (b + d), .slice AC3 ((canL ([(c - a, d - b)])).length) cC3]
  replace bb := bb.out
  replace B_z0 := mv B_z0 bb
  replace B_z1 := mv B_z1 bb
  replace B_z2 := mv B_z2 bb
  replace B_z3 := mv B_z3 bb
  replace B_z4 := mv B_z4 bb
  replace LC1 := Lib.hid (PL.below LC1.out bb)
  replace LC2 := Lib.hid (PL.below LC2.out bb)
  replace LC3 := Lib.hid (PL.below LC3.out bb)
  replace HB := nx HB bb
  clear bb
  go_upto_region 6 with (fail)
  generalize w4.alloc (.cells #[.int .i64 (a + c), .int .i64 (b + d), .slice AC3 ((canL ([(c - a, d - b)])).length) cC3] 24) = WN4 at *
  obtain ⟨c0z1, c1z1⟩ := cells2 B_z1
  obtain ⟨c0z2, c1z2⟩ := cells2 B_z2
  have sp_z0_LC4 : Hid (w.heap.size < WN4.heap.size) := B_z0.out.lt
  have sp_z1_LC4 : Hid (w.heap.size + 1 < WN4.heap.size) := B_z1.out.lt
  have sp_z2_LC4 : Hid (w.heap.size + 1 + 1 < WN4.heap.size) := B_z2.out.lt
  have sp_z3_LC4 : Hid (w2.heap.size < WN4.heap.size) := B_z3.out.lt
  have sp_z4_LC4 : Hid (w3.heap.size < WN4.heap.size) := B_z4.out.lt
  have sp_z5_LC4 : Hid (w4.heap.size < WN4.heap.size) := B_z5.out.lt
  have lw_LC4 : Hid (w.heap.size ≤ WN4.heap.size) := HB.out.size
  go_wp2_with fail
  refine (ROSy a b c d dd1 _).mono ?_
  clear c0z1 c1z1 c0z2 c1z2
  rintro e w5 ⟨AC4, cC4, rfl, LC4, bb⟩
  replace bb := nextw (w0 := WN4) (by exact sm) bb
  replace B_z0 := mv B_z0 bb
  replace B_z1 := mv B_z1 bb
  replace B_z2 := mv B_z2 bb
  replace B_z3 := mv B_z3 bb
  replace B_z4 := mv B_z4 bb
  replace B_z5 := mv B_z5 bb
  replace LC1 := Lib.hid (PL.below LC1.out bb)
  replace LC2 := Lib.hid (PL.below LC2.out bb)
  replace LC3 := Lib.hid (PL.below LC3.out bb)
  replace HB := nx HB bb
  clear bb
  replace LC4 := Lib.hid LC4
  have lt_z6z0 := B_z0.out.lt
  have lt_z6z1 := B_z1.out.lt
  have lt_z6z2 := B_z2.out.lt
  have lt_z6z3 := B_z3.out.lt
  have lt_z6z4 := B_z4.out.lt
  have lt_z6z5 := B_z5.out.lt
  obtain ⟨bb, B_z6⟩ := box1 w5 24 #[.int .i64 (a + c), .int .i64 (b + d), .slice AC4 ((canL ([(c - a, d - b)])).length) cC4]
  replace bb := bb.out
  replace B_z0 := mv B_z0 bb
  replace B_z1 := mv B_z1 bb
  replace B_z2 := mv B_z2 bb
  replace B_z3 := mv B_z3 bb
  replace B_z4 := mv B_z4 bb
  replace B_z5 := mv B_z5 bb
  replace LC1 := Lib.hid (PL.below LC1.out bb)
  replace LC2 := Lib.hid (PL.below LC2.out bb)
  replace LC3 := Lib.hid (PL.below LC3.out bb)
  replace LC4 := Lib.hid (PL.below LC4.out bb)
  replace HB := nx HB bb
  clear bb
  go_upto_region 7 with (fail)
  generalize w5.alloc (.cells #[.int .i64 (a + c), .int .i64 (b + d), .slice AC4 ((canL ([(c - a, d - b)])).length) cC4] 24) = WN5 at *
  obtain ⟨c0z3, c1z3, c2z3⟩ := cells3 B_z3
  obtain ⟨c0z4, c1z4, c2z4⟩ := cells3 B_z4
  go_wp2_with fail
  refine (zonSame _ (x0 + x1) (y0 + y1) (canL ([(x1 - x0, 0), (0, y1 - y0)])) HRL.out (PL.below LC1.out (by exact sm)) (PL.below LC2.out (by exact sm))).mono ?_
  clear c0z3 c1z3 c2z3 c0z4 c1z4 c2z4
  rintro e w6 ⟨rfl, bb⟩
  replace bb := nextw (w0 := WN5) (by exact sm) bb
  replace B_z0 := mv B_z0 bb
  replace B_z1 := mv B_z1 bb
  replace B_z2 := mv B_z2 bb
  replace B_z3 := mv B_z3 bb
  replace B_z4 := mv B_z4 bb
  replace B_z5 := mv B_z5 bb
  replace B_z6 := mv B_z6 bb
  replace LC1 := Lib.hid (PL.below LC1.out bb)
  replace LC2 := Lib.hid (PL.below LC2.out bb)
  replace LC3 := Lib.hid (PL.below LC3.out bb)
  replace LC4 := Lib.hid (PL.below LC4.out bb)
  replace HB := nx HB bb
  clear bb
  obtain ⟨c0z5, c1z5, c2z5⟩ := cells3 B_z5
  obtain ⟨c0z6, c1z6, c2z6⟩ := cells3 B_z6
  go_wp2_with fail
  refine (zonSame _ (a + c) (b + d) (canL ([(c - a, d - b)])) HSL.out (PL.below LC3.out (by exact sm)) (PL.below LC4.out (by exact sm))).mono ?_
  clear c0z5 c1z5 c2z5 c0z6 c1z6 c2z6
  rintro e w7 ⟨rfl, bb⟩
  replace bb := nextw (w0 := w6) (by exact sm) bb
  replace B_z0 := mv B_z0 bb
  replace B_z1 := mv B_z1 bb
  replace B_z2 := mv B_z2 bb
  replace B_z3 := mv B_z3 bb
  replace B_z4 := mv B_z4 bb
  replace B_z5 := mv B_z5 bb
  replace B_z6 := mv B_z6 bb
  replace LC1 := Lib.hid (PL.below LC1.out bb)
  replace LC2 := Lib.hid (PL.below LC2.out bb)
  replace LC3 := Lib.hid (PL.below LC3.out bb)
  replace LC4 := Lib.hid (PL.below LC4.out bb)
  replace HB := nx HB bb
  clear bb
  go_wp2
  go_ret
  exact ⟨(by first | rfl | exact rbt (by omega) | exact rbf (by omega)), nextw HB.out (by exact sm)⟩

set_option maxRecDepth 100000 in
set_option maxHeartbeats 4000000 in
theorem Makes_w1 (x0 y0 x1 y1 a b c d : Int)   (dd0 : ¬ (RO x0 y0 x1 y1)) (dd1 : SO a b c d) (w : World) :
    Calls Try.prog 4 #[.agg #[.int .i64 x0, .int .i64 y0, .int .i64 x1, .int .i64 y1], .agg #[.int .i64 a, .int .i64 b], .agg #[.int .i64 c, .int .i64 d]] w fun e w' => e = .returned (.bool true) ∧ Below w.heap.size w w' := by
  have H0 := Lib.hid (fun w => awake_w0 w)
  have H1 := Lib.hid (fun w => ORn x0 y0 x1 y1 dd0 w)
  have H2 := Lib.hid (fun w => RORn x0 y0 x1 y1 dd0 w)
  have HSL := Lib.hid (so_len dd1)
  obtain ⟨HB, B_z0, B_z1, B_z2⟩ := box3 w 31 #[.int .i64 x0, .int .i64 y0, .int .i64 x1, .int .i64 y1] 39 #[.int .i64 a, .int .i64 b] 39 #[.int .i64 c, .int .i64 d]
  go_enter Try.func4, Try.ntmps4
  go_upto_region 1 with (fail)
  generalize ((w.alloc (.cells #[.int .i64 x0, .int .i64 y0, .int .i64 x1, .int .i64 y1] 31)).alloc (.cells #[.int .i64 a, .int .i64 b] 39)).alloc (.cells #[.int .i64 c, .int .i64 d] 39) = W0 at *
  go_wp2_with fail
  refine (H0.out _).mono ?_
  rintro e w1 ⟨rfl, bb⟩
  replace bb := nextw (w0 := W0) (by exact sm) bb
  replace B_z0 := mv B_z0 bb
  replace B_z1 := mv B_z1 bb
  replace B_z2 := mv B_z2 bb
  replace HB := nx HB bb
  clear bb
  obtain ⟨c0z0, c1z0, c2z0, c3z0⟩ := cells4 B_z0
  go_wp2_with fail
  refine (H1.out _).mono ?_
  clear c0z0 c1z0 c2z0 c3z0
  rintro e w2 ⟨rfl, bb⟩
  replace bb := nextw (w0 := w1) (by exact sm) bb
  replace B_z0 := mv B_z0 bb
  replace B_z1 := mv B_z1 bb
  replace B_z2 := mv B_z2 bb
  replace HB := nx HB bb
  clear bb
  have lt_z3z0 := B_z0.out.lt
  have lt_z3z1 := B_z1.out.lt
  have lt_z3z2 := B_z2.out.lt
  obtain ⟨bb, B_z3⟩ := box1 w2 24 #[.int .i64 0, .int .i64 0, .slice none 0 0]
  replace bb := bb.out
  replace B_z0 := mv B_z0 bb
  replace B_z1 := mv B_z1 bb
  replace B_z2 := mv B_z2 bb
  replace HB := nx HB bb
  clear bb
  go_upto_region 4 with (fail)
  generalize w2.alloc (.cells #[.int .i64 0, .int .i64 0, .slice none 0 0] 24) = WN2 at *
  obtain ⟨c0z0, c1z0, c2z0, c3z0⟩ := cells4 B_z0
  go_wp2_with fail
  refine (H2.out _).mono ?_
  clear c0z0 c1z0 c2z0 c3z0
  rintro e w3 ⟨rfl, bb⟩
  replace bb := nextw (w0 := WN2) (by exact sm) bb
  replace B_z0 := mv B_z0 bb
  replace B_z1 := mv B_z1 bb
  replace B_z2 := mv B_z2 bb
  replace B_z3 := mv B_z3 bb
  replace HB := nx HB bb
  clear bb
  have lt_z4z0 := B_z0.out.lt
  have lt_z4z1 := B_z1.out.lt
  have lt_z4z2 := B_z2.out.lt
  have lt_z4z3 := B_z3.out.lt
  obtain ⟨bb, B_z4⟩ := box1 w3 24 #[.int .i64 0, .int .i64 0, .slice none 0 0]
  replace bb := bb.out
  replace B_z0 := mv B_z0 bb
  replace B_z1 := mv B_z1 bb
  replace B_z2 := mv B_z2 bb
  replace B_z3 := mv B_z3 bb
  replace HB := nx HB bb
  clear bb
  go_upto_region 5 with (fail)
  generalize w3.alloc (.cells #[.int .i64 0, .int .i64 0, .slice none 0 0] 24) = WN3 at *
  obtain ⟨c0z1, c1z1⟩ := cells2 B_z1
  obtain ⟨c0z2, c1z2⟩ := cells2 B_z2
  have sp_z0_LC3 : Hid (w.heap.size < WN3.heap.size) := B_z0.out.lt
  have sp_z1_LC3 : Hid (w.heap.size + 1 < WN3.heap.size) := B_z1.out.lt
  have sp_z2_LC3 : Hid (w.heap.size + 1 + 1 < WN3.heap.size) := B_z2.out.lt
  have sp_z3_LC3 : Hid (w2.heap.size < WN3.heap.size) := B_z3.out.lt
  have sp_z4_LC3 : Hid (w3.heap.size < WN3.heap.size) := B_z4.out.lt
  have lw_LC3 : Hid (w.heap.size ≤ WN3.heap.size) := HB.out.size
  go_wp2_with fail
  refine (OSy a b c d dd1 _).mono ?_
  clear c0z1 c1z1 c0z2 c1z2
  rintro e w4 ⟨AC3, cC3, rfl, LC3, bb⟩
  replace bb := nextw (w0 := WN3) (by exact sm) bb
  replace B_z0 := mv B_z0 bb
  replace B_z1 := mv B_z1 bb
  replace B_z2 := mv B_z2 bb
  replace B_z3 := mv B_z3 bb
  replace B_z4 := mv B_z4 bb
  replace HB := nx HB bb
  clear bb
  replace LC3 := Lib.hid LC3
  have lt_z5z0 := B_z0.out.lt
  have lt_z5z1 := B_z1.out.lt
  have lt_z5z2 := B_z2.out.lt
  have lt_z5z3 := B_z3.out.lt
  have lt_z5z4 := B_z4.out.lt
  obtain ⟨bb, B_z5⟩ := box1 w4 24 #[.int .i64 (a + c), .int .i64 (b + d), .slice AC3 ((canL ([(c - a, d - b)])).length) cC3]
  replace bb := bb.out
  replace B_z0 := mv B_z0 bb
  replace B_z1 := mv B_z1 bb
  replace B_z2 := mv B_z2 bb
  replace B_z3 := mv B_z3 bb
  replace B_z4 := mv B_z4 bb
  replace LC3 := Lib.hid (PL.below LC3.out bb)
  replace HB := nx HB bb
  clear bb
  go_upto_region 6 with (fail)
  generalize w4.alloc (.cells #[.int .i64 (a + c), .int .i64 (b + d), .slice AC3 ((canL ([(c - a, d - b)])).length) cC3] 24) = WN4 at *
  obtain ⟨c0z1, c1z1⟩ := cells2 B_z1
  obtain ⟨c0z2, c1z2⟩ := cells2 B_z2
  have sp_z0_LC4 : Hid (w.heap.size < WN4.heap.size) := B_z0.out.lt
  have sp_z1_LC4 : Hid (w.heap.size + 1 < WN4.heap.size) := B_z1.out.lt
  have sp_z2_LC4 : Hid (w.heap.size + 1 + 1 < WN4.heap.size) := B_z2.out.lt
  have sp_z3_LC4 : Hid (w2.heap.size < WN4.heap.size) := B_z3.out.lt
  have sp_z4_LC4 : Hid (w3.heap.size < WN4.heap.size) := B_z4.out.lt
  have sp_z5_LC4 : Hid (w4.heap.size < WN4.heap.size) := B_z5.out.lt
  have lw_LC4 : Hid (w.heap.size ≤ WN4.heap.size) := HB.out.size
  go_wp2_with fail
  refine (ROSy a b c d dd1 _).mono ?_
  clear c0z1 c1z1 c0z2 c1z2
  rintro e w5 ⟨AC4, cC4, rfl, LC4, bb⟩
  replace bb := nextw (w0 := WN4) (by exact sm) bb
  replace B_z0 := mv B_z0 bb
  replace B_z1 := mv B_z1 bb
  replace B_z2 := mv B_z2 bb
  replace B_z3 := mv B_z3 bb
  replace B_z4 := mv B_z4 bb
  replace B_z5 := mv B_z5 bb
  replace LC3 := Lib.hid (PL.below LC3.out bb)
  replace HB := nx HB bb
  clear bb
  replace LC4 := Lib.hid LC4
  have lt_z6z0 := B_z0.out.lt
  have lt_z6z1 := B_z1.out.lt
  have lt_z6z2 := B_z2.out.lt
  have lt_z6z3 := B_z3.out.lt
  have lt_z6z4 := B_z4.out.lt
  have lt_z6z5 := B_z5.out.lt
  obtain ⟨bb, B_z6⟩ := box1 w5 24 #[.int .i64 (a + c), .int .i64 (b + d), .slice AC4 ((canL ([(c - a, d - b)])).length) cC4]
  replace bb := bb.out
  replace B_z0 := mv B_z0 bb
  replace B_z1 := mv B_z1 bb
  replace B_z2 := mv B_z2 bb
  replace B_z3 := mv B_z3 bb
  replace B_z4 := mv B_z4 bb
  replace B_z5 := mv B_z5 bb
  replace LC3 := Lib.hid (PL.below LC3.out bb)
  replace LC4 := Lib.hid (PL.below LC4.out bb)
  replace HB := nx HB bb
  clear bb
  go_upto_region 7 with (fail)
  generalize w5.alloc (.cells #[.int .i64 (a + c), .int .i64 (b + d), .slice AC4 ((canL ([(c - a, d - b)])).length) cC4] 24) = WN5 at *
  obtain ⟨c0z3, c1z3, c2z3⟩ := cells3 B_z3
  obtain ⟨c0z4, c1z4, c2z4⟩ := cells3 B_z4
  go_wp2_with fail
  refine (zonNil _).mono ?_
  clear c0z3 c1z3 c2z3 c0z4 c1z4 c2z4
  rintro e w6 ⟨rfl, bb⟩
  replace bb := nextw (w0 := WN5) (by exact sm) bb
  replace B_z0 := mv B_z0 bb
  replace B_z1 := mv B_z1 bb
  replace B_z2 := mv B_z2 bb
  replace B_z3 := mv B_z3 bb
  replace B_z4 := mv B_z4 bb
  replace B_z5 := mv B_z5 bb
  replace B_z6 := mv B_z6 bb
  replace LC3 := Lib.hid (PL.below LC3.out bb)
  replace LC4 := Lib.hid (PL.below LC4.out bb)
  replace HB := nx HB bb
  clear bb
  obtain ⟨c0z5, c1z5, c2z5⟩ := cells3 B_z5
  obtain ⟨c0z6, c1z6, c2z6⟩ := cells3 B_z6
  go_wp2_with fail
  refine (zonSame _ (a + c) (b + d) (canL ([(c - a, d - b)])) HSL.out (PL.below LC3.out (by exact sm)) (PL.below LC4.out (by exact sm))).mono ?_
  clear c0z5 c1z5 c2z5 c0z6 c1z6 c2z6
  rintro e w7 ⟨rfl, bb⟩
  replace bb := nextw (w0 := w6) (by exact sm) bb
  replace B_z0 := mv B_z0 bb
  replace B_z1 := mv B_z1 bb
  replace B_z2 := mv B_z2 bb
  replace B_z3 := mv B_z3 bb
  replace B_z4 := mv B_z4 bb
  replace B_z5 := mv B_z5 bb
  replace B_z6 := mv B_z6 bb
  replace LC3 := Lib.hid (PL.below LC3.out bb)
  replace LC4 := Lib.hid (PL.below LC4.out bb)
  replace HB := nx HB bb
  clear bb
  go_wp2
  go_ret
  exact ⟨(by first | rfl | exact rbt (by omega) | exact rbf (by omega)), nextw HB.out (by exact sm)⟩

set_option maxRecDepth 100000 in
set_option maxHeartbeats 4000000 in
theorem Makes_w2 (x0 y0 x1 y1 a b c d : Int)   (dd0 : ¬ (RO x0 y0 x1 y1)) (dd1 : ¬ (SO a b c d)) (w : World) :
    Calls Try.prog 4 #[.agg #[.int .i64 x0, .int .i64 y0, .int .i64 x1, .int .i64 y1], .agg #[.int .i64 a, .int .i64 b], .agg #[.int .i64 c, .int .i64 d]] w fun e w' => e = .returned (.bool true) ∧ Below w.heap.size w w' := by
  have H0 := Lib.hid (fun w => awake_w0 w)
  have H1 := Lib.hid (fun w => ORn x0 y0 x1 y1 dd0 w)
  have H2 := Lib.hid (fun w => RORn x0 y0 x1 y1 dd0 w)
  have H3 := Lib.hid (fun w => OSn a b c d dd1 w)
  have H4 := Lib.hid (fun w => ROSn a b c d dd1 w)
  obtain ⟨HB, B_z0, B_z1, B_z2⟩ := box3 w 31 #[.int .i64 x0, .int .i64 y0, .int .i64 x1, .int .i64 y1] 39 #[.int .i64 a, .int .i64 b] 39 #[.int .i64 c, .int .i64 d]
  go_enter Try.func4, Try.ntmps4
  go_upto_region 1 with (fail)
  generalize ((w.alloc (.cells #[.int .i64 x0, .int .i64 y0, .int .i64 x1, .int .i64 y1] 31)).alloc (.cells #[.int .i64 a, .int .i64 b] 39)).alloc (.cells #[.int .i64 c, .int .i64 d] 39) = W0 at *
  go_wp2_with fail
  refine (H0.out _).mono ?_
  rintro e w1 ⟨rfl, bb⟩
  replace bb := nextw (w0 := W0) (by exact sm) bb
  replace B_z0 := mv B_z0 bb
  replace B_z1 := mv B_z1 bb
  replace B_z2 := mv B_z2 bb
  replace HB := nx HB bb
  clear bb
  obtain ⟨c0z0, c1z0, c2z0, c3z0⟩ := cells4 B_z0
  go_wp2_with fail
  refine (H1.out _).mono ?_
  clear c0z0 c1z0 c2z0 c3z0
  rintro e w2 ⟨rfl, bb⟩
  replace bb := nextw (w0 := w1) (by exact sm) bb
  replace B_z0 := mv B_z0 bb
  replace B_z1 := mv B_z1 bb
  replace B_z2 := mv B_z2 bb
  replace HB := nx HB bb
  clear bb
  have lt_z3z0 := B_z0.out.lt
  have lt_z3z1 := B_z1.out.lt
  have lt_z3z2 := B_z2.out.lt
  obtain ⟨bb, B_z3⟩ := box1 w2 24 #[.int .i64 0, .int .i64 0, .slice none 0 0]
  replace bb := bb.out
  replace B_z0 := mv B_z0 bb
  replace B_z1 := mv B_z1 bb
  replace B_z2 := mv B_z2 bb
  replace HB := nx HB bb
  clear bb
  go_upto_region 4 with (fail)
  generalize w2.alloc (.cells #[.int .i64 0, .int .i64 0, .slice none 0 0] 24) = WN2 at *
  obtain ⟨c0z0, c1z0, c2z0, c3z0⟩ := cells4 B_z0
  go_wp2_with fail
  refine (H2.out _).mono ?_
  clear c0z0 c1z0 c2z0 c3z0
  rintro e w3 ⟨rfl, bb⟩
  replace bb := nextw (w0 := WN2) (by exact sm) bb
  replace B_z0 := mv B_z0 bb
  replace B_z1 := mv B_z1 bb
  replace B_z2 := mv B_z2 bb
  replace B_z3 := mv B_z3 bb
  replace HB := nx HB bb
  clear bb
  have lt_z4z0 := B_z0.out.lt
  have lt_z4z1 := B_z1.out.lt
  have lt_z4z2 := B_z2.out.lt
  have lt_z4z3 := B_z3.out.lt
  obtain ⟨bb, B_z4⟩ := box1 w3 24 #[.int .i64 0, .int .i64 0, .slice none 0 0]
  replace bb := bb.out
  replace B_z0 := mv B_z0 bb
  replace B_z1 := mv B_z1 bb
  replace B_z2 := mv B_z2 bb
  replace B_z3 := mv B_z3 bb
  replace HB := nx HB bb
  clear bb
  go_upto_region 5 with (fail)
  generalize w3.alloc (.cells #[.int .i64 0, .int .i64 0, .slice none 0 0] 24) = WN3 at *
  obtain ⟨c0z1, c1z1⟩ := cells2 B_z1
  obtain ⟨c0z2, c1z2⟩ := cells2 B_z2
  go_wp2_with fail
  refine (H3.out _).mono ?_
  clear c0z1 c1z1 c0z2 c1z2
  rintro e w4 ⟨rfl, bb⟩
  replace bb := nextw (w0 := WN3) (by exact sm) bb
  replace B_z0 := mv B_z0 bb
  replace B_z1 := mv B_z1 bb
  replace B_z2 := mv B_z2 bb
  replace B_z3 := mv B_z3 bb
  replace B_z4 := mv B_z4 bb
  replace HB := nx HB bb
  clear bb
  have lt_z5z0 := B_z0.out.lt
  have lt_z5z1 := B_z1.out.lt
  have lt_z5z2 := B_z2.out.lt
  have lt_z5z3 := B_z3.out.lt
  have lt_z5z4 := B_z4.out.lt
  obtain ⟨bb, B_z5⟩ := box1 w4 24 #[.int .i64 0, .int .i64 0, .slice none 0 0]
  replace bb := bb.out
  replace B_z0 := mv B_z0 bb
  replace B_z1 := mv B_z1 bb
  replace B_z2 := mv B_z2 bb
  replace B_z3 := mv B_z3 bb
  replace B_z4 := mv B_z4 bb
  replace HB := nx HB bb
  clear bb
  go_upto_region 6 with (fail)
  generalize w4.alloc (.cells #[.int .i64 0, .int .i64 0, .slice none 0 0] 24) = WN4 at *
  obtain ⟨c0z1, c1z1⟩ := cells2 B_z1
  obtain ⟨c0z2, c1z2⟩ := cells2 B_z2
  go_wp2_with fail
  refine (H4.out _).mono ?_
  clear c0z1 c1z1 c0z2 c1z2
  rintro e w5 ⟨rfl, bb⟩
  replace bb := nextw (w0 := WN4) (by exact sm) bb
  replace B_z0 := mv B_z0 bb
  replace B_z1 := mv B_z1 bb
  replace B_z2 := mv B_z2 bb
  replace B_z3 := mv B_z3 bb
  replace B_z4 := mv B_z4 bb
  replace B_z5 := mv B_z5 bb
  replace HB := nx HB bb
  clear bb
  have lt_z6z0 := B_z0.out.lt
  have lt_z6z1 := B_z1.out.lt
  have lt_z6z2 := B_z2.out.lt
  have lt_z6z3 := B_z3.out.lt
  have lt_z6z4 := B_z4.out.lt
  have lt_z6z5 := B_z5.out.lt
  obtain ⟨bb, B_z6⟩ := box1 w5 24 #[.int .i64 0, .int .i64 0, .slice none 0 0]
  replace bb := bb.out
  replace B_z0 := mv B_z0 bb
  replace B_z1 := mv B_z1 bb
  replace B_z2 := mv B_z2 bb
  replace B_z3 := mv B_z3 bb
  replace B_z4 := mv B_z4 bb
  replace B_z5 := mv B_z5 bb
  replace HB := nx HB bb
  clear bb
  go_upto_region 7 with (fail)
  generalize w5.alloc (.cells #[.int .i64 0, .int .i64 0, .slice none 0 0] 24) = WN5 at *
  obtain ⟨c0z3, c1z3, c2z3⟩ := cells3 B_z3
  obtain ⟨c0z4, c1z4, c2z4⟩ := cells3 B_z4
  go_wp2_with fail
  refine (zonNil _).mono ?_
  clear c0z3 c1z3 c2z3 c0z4 c1z4 c2z4
  rintro e w6 ⟨rfl, bb⟩
  replace bb := nextw (w0 := WN5) (by exact sm) bb
  replace B_z0 := mv B_z0 bb
  replace B_z1 := mv B_z1 bb
  replace B_z2 := mv B_z2 bb
  replace B_z3 := mv B_z3 bb
  replace B_z4 := mv B_z4 bb
  replace B_z5 := mv B_z5 bb
  replace B_z6 := mv B_z6 bb
  replace HB := nx HB bb
  clear bb
  obtain ⟨c0z5, c1z5, c2z5⟩ := cells3 B_z5
  obtain ⟨c0z6, c1z6, c2z6⟩ := cells3 B_z6
  go_wp2_with fail
  refine (zonNil _).mono ?_
  clear c0z5 c1z5 c2z5 c0z6 c1z6 c2z6
  rintro e w7 ⟨rfl, bb⟩
  replace bb := nextw (w0 := w6) (by exact sm) bb
  replace B_z0 := mv B_z0 bb
  replace B_z1 := mv B_z1 bb
  replace B_z2 := mv B_z2 bb
  replace B_z3 := mv B_z3 bb
  replace B_z4 := mv B_z4 bb
  replace B_z5 := mv B_z5 bb
  replace B_z6 := mv B_z6 bb
  replace HB := nx HB bb
  clear bb
  go_wp2
  go_ret
  exact ⟨(by first | rfl | exact rbt (by omega) | exact rbf (by omega)), nextw HB.out (by exact sm)⟩

set_option maxRecDepth 100000 in
set_option maxHeartbeats 4000000 in
theorem Makes_w3 (x0 y0 x1 y1 a b c d : Int)   (dd0 : RO x0 y0 x1 y1) (dd1 : ¬ (SO a b c d)) (w : World) :
    Calls Try.prog 4 #[.agg #[.int .i64 x0, .int .i64 y0, .int .i64 x1, .int .i64 y1], .agg #[.int .i64 a, .int .i64 b], .agg #[.int .i64 c, .int .i64 d]] w fun e w' => e = .returned (.bool true) ∧ Below w.heap.size w w' := by
  have H0 := Lib.hid (fun w => awake_w0 w)
  have H3 := Lib.hid (fun w => OSn a b c d dd1 w)
  have H4 := Lib.hid (fun w => ROSn a b c d dd1 w)
  have HRL := Lib.hid (ro_len dd0)
  obtain ⟨HB, B_z0, B_z1, B_z2⟩ := box3 w 31 #[.int .i64 x0, .int .i64 y0, .int .i64 x1, .int .i64 y1] 39 #[.int .i64 a, .int .i64 b] 39 #[.int .i64 c, .int .i64 d]
  go_enter Try.func4, Try.ntmps4
  go_upto_region 1 with (fail)
  generalize ((w.alloc (.cells #[.int .i64 x0, .int .i64 y0, .int .i64 x1, .int .i64 y1] 31)).alloc (.cells #[.int .i64 a, .int .i64 b] 39)).alloc (.cells #[.int .i64 c, .int .i64 d] 39) = W0 at *
  go_wp2_with fail
  refine (H0.out _).mono ?_
  rintro e w1 ⟨rfl, bb⟩
  replace bb := nextw (w0 := W0) (by exact sm) bb
  replace B_z0 := mv B_z0 bb
  replace B_z1 := mv B_z1 bb
  replace B_z2 := mv B_z2 bb
  replace HB := nx HB bb
  clear bb
  obtain ⟨c0z0, c1z0, c2z0, c3z0⟩ := cells4 B_z0
  have sp_z0_LC1 : Hid (w.heap.size < w1.heap.size) := B_z0.out.lt
  have sp_z1_LC1 : Hid (w.heap.size + 1 < w1.heap.size) := B_z1.out.lt
  have sp_z2_LC1 : Hid (w.heap.size + 1 + 1 < w1.heap.size) := B_z2.out.lt
  have lw_LC1 : Hid (w.heap.size ≤ w1.heap.size) := HB.out.size
  go_wp2_with fail
  refine (ORy x0 y0 x1 y1 dd0 _).mono ?_
  clear c0z0 c1z0 c2z0 c3z0
  rintro e w2 ⟨AC1, cC1, rfl, LC1, bb⟩
  replace bb := nextw (w0 := w1) (by exact sm) bb
  replace B_z0 := mv B_z0 bb
  replace B_z1 := mv B_z1 bb
  replace B_z2 := mv B_z2 bb
  replace HB := nx HB bb
  clear bb
  replace LC1 := Lib.hid LC1
  have lt_z3z0 := B_z0.out.lt
  have lt_z3z1 := B_z1.out.lt
  have lt_z3z2 := B_z2.out.lt
  obtain ⟨bb, B_z3⟩ := box1 w2 24 #[.int .i64 (x0 + x1), .int .i64 (y0 + y1), .slice AC1 ((canL ([(x1 - x0, 0), (0, y1 - y0)])).length) cC1]
  replace bb := bb.out
  replace B_z0 := mv B_z0 bb
  replace B_z1 := mv B_z1 bb
  replace B_z2 := mv B_z2 bb
  replace LC1 := Lib.hid (PL.below LC1.out bb)
  replace HB := nx HB bb
  clear bb
  go_upto_region 4 with (fail)
  generalize w2.alloc (.cells #[.int .i64 (x0 + x1), .int .i64 (y0 + y1), .slice AC1 ((canL ([(x1 - x0, 0), (0, y1 - y0)])).length) cC1] 24) = WN2 at *
  obtain ⟨c0z0, c1z0, c2z0, c3z0⟩ := cells4 B_z0
  have sp_z0_LC2 : Hid (w.heap.size < WN2.heap.size) := B_z0.out.lt
  have sp_z1_LC2 : Hid (w.heap.size + 1 < WN2.heap.size) := B_z1.out.lt
  have sp_z2_LC2 : Hid (w.heap.size + 1 + 1 < WN2.heap.size) := B_z2.out.lt
  have sp_z3_LC2 : Hid (w2.heap.size < WN2.heap.size) := B_z3.out.lt
  have lw_LC2 : Hid (w.heap.size ≤ WN2.heap.size) := HB.out.size
  go_wp2_with fail
  refine (RORy x0 y0 x1 y1 dd0 _).mono ?_
  clear c0z0 c1z0 c2z0 c3z0
  rintro e w3 ⟨AC2, cC2, rfl, LC2, bb⟩
  replace bb := nextw (w0 := WN2) (by exact sm) bb
  replace B_z0 := mv B_z0 bb
  replace B_z1 := mv B_z1 bb
  replace B_z2 := mv B_z2 bb
  replace B_z3 := mv B_z3 bb
  replace LC1 := Lib.hid (PL.below LC1.out bb)
  replace HB := nx HB bb
  clear bb
  replace LC2 := Lib.hid LC2
  have lt_z4z0 := B_z0.out.lt
  have lt_z4z1 := B_z1.out.lt
  have lt_z4z2 := B_z2.out.lt
  have lt_z4z3 := B_z3.out.lt
  obtain ⟨bb, B_z4⟩ := box1 w3 24 #[.int .i64 (x0 + x1), .int .i64 (y0 + y1), .slice AC2 ((canL ([(x1 - x0, 0), (0, y1 - y0)])).length) cC2]
  replace bb := bb.out
  replace B_z0 := mv B_z0 bb
  replace B_z1 := mv B_z1 bb
  replace B_z2 := mv B_z2 bb
  replace B_z3 := mv B_z3 bb
  replace LC1 := Lib.hid (PL.below LC1.out bb)
  replace LC2 := Lib.hid (PL.below LC2.out bb)
  replace HB := nx HB bb
  clear bb
  go_upto_region 5 with (fail)
  generalize w3.alloc (.cells #[.int .i64 (x0 + x1), .int .i64 (y0 + y1), .slice AC2 ((canL ([(x1 - x0, 0), (0, y1 - y0)])).length) cC2] 24) = WN3 at *
  obtain ⟨c0z1, c1z1⟩ := cells2 B_z1
  obtain ⟨c0z2, c1z2⟩ := cells2 B_z2
  go_wp2_with fail
  refine (H3.out _).mono ?_
  clear c0z1 c1z1 c0z2 c1z2
  rintro e w4 ⟨rfl, bb⟩
  replace bb := nextw (w0 := WN3) (by exact sm) bb
  replace B_z0 := mv B_z0 bb
  replace B_z1 := mv B_z1 bb
  replace B_z2 := mv B_z2 bb
  replace B_z3 := mv B_z3 bb
  replace B_z4 := mv B_z4 bb
  replace LC1 := Lib.hid (PL.below LC1.out bb)
  replace LC2 := Lib.hid (PL.below LC2.out bb)
  replace HB := nx HB bb
  clear bb
  have lt_z5z0 := B_z0.out.lt
  have lt_z5z1 := B_z1.out.lt
  have lt_z5z2 := B_z2.out.lt
  have lt_z5z3 := B_z3.out.lt
  have lt_z5z4 := B_z4.out.lt
  obtain ⟨bb, B_z5⟩ := box1 w4 24 #[.int .i64 0, .int .i64 0, .slice none 0 0]
  replace bb := bb.out
  replace B_z0 := mv B_z0 bb
  replace B_z1 := mv B_z1 bb
  replace B_z2 := mv B_z2 bb
  replace B_z3 := mv B_z3 bb
  replace B_z4 := mv B_z4 bb
  replace LC1 := Lib.hid (PL.below LC1.out bb)
  replace LC2 := Lib.hid (PL.below LC2.out bb)
  replace HB := nx HB bb
  clear bb
  go_upto_region 6 with (fail)
  generalize w4.alloc (.cells #[.int .i64 0, .int .i64 0, .slice none 0 0] 24) = WN4 at *
  obtain ⟨c0z1, c1z1⟩ := cells2 B_z1
  obtain ⟨c0z2, c1z2⟩ := cells2 B_z2
  go_wp2_with fail
  refine (H4.out _).mono ?_
  clear c0z1 c1z1 c0z2 c1z2
  rintro e w5 ⟨rfl, bb⟩
  replace bb := nextw (w0 := WN4) (by exact sm) bb
  replace B_z0 := mv B_z0 bb
  replace B_z1 := mv B_z1 bb
  replace B_z2 := mv B_z2 bb
  replace B_z3 := mv B_z3 bb
  replace B_z4 := mv B_z4 bb
  replace B_z5 := mv B_z5 bb
  replace LC1 := Lib.hid (PL.below LC1.out bb)
  replace LC2 := Lib.hid (PL.below LC2.out bb)
  replace HB := nx HB bb
  clear bb
  have lt_z6z0 := B_z0.out.lt
  have lt_z6z1 := B_z1.out.lt
  have lt_z6z2 := B_z2.out.lt
  have lt_z6z3 := B_z3.out.lt
  have lt_z6z4 := B_z4.out.lt
  have lt_z6z5 := B_z5.out.lt
  obtain ⟨bb, B_z6⟩ := box1 w5 24 #[.int .i64 0, .int .i64 0, .slice none 0 0]
  replace bb := bb.out
  replace B_z0 := mv B_z0 bb
  replace B_z1 := mv B_z1 bb
  replace B_z2 := mv B_z2 bb
  replace B_z3 := mv B_z3 bb
  replace B_z4 := mv B_z4 bb
  replace B_z5 := mv B_z5 bb
  replace LC1 := Lib.hid (PL.below LC1.out bb)
  replace LC2 := Lib.hid (PL.below LC2.out bb)
  replace HB := nx HB bb
  clear bb
  go_upto_region 7 with (fail)
  generalize w5.alloc (.cells #[.int .i64 0, .int .i64 0, .slice none 0 0] 24) = WN5 at *
  obtain ⟨c0z3, c1z3, c2z3⟩ := cells3 B_z3
  obtain ⟨c0z4, c1z4, c2z4⟩ := cells3 B_z4
  go_wp2_with fail
  refine (zonSame _ (x0 + x1) (y0 + y1) (canL ([(x1 - x0, 0), (0, y1 - y0)])) HRL.out (PL.below LC1.out (by exact sm)) (PL.below LC2.out (by exact sm))).mono ?_
  clear c0z3 c1z3 c2z3 c0z4 c1z4 c2z4
  rintro e w6 ⟨rfl, bb⟩
  replace bb := nextw (w0 := WN5) (by exact sm) bb
  replace B_z0 := mv B_z0 bb
  replace B_z1 := mv B_z1 bb
  replace B_z2 := mv B_z2 bb
  replace B_z3 := mv B_z3 bb
  replace B_z4 := mv B_z4 bb
  replace B_z5 := mv B_z5 bb
  replace B_z6 := mv B_z6 bb
  replace LC1 := Lib.hid (PL.below LC1.out bb)
  replace LC2 := Lib.hid (PL.below LC2.out bb)
  replace HB := nx HB bb
  clear bb
  obtain ⟨c0z5, c1z5, c2z5⟩ := cells3 B_z5
  obtain ⟨c0z6, c1z6, c2z6⟩ := cells3 B_z6
  go_wp2_with fail
  refine (zonNil _).mono ?_
  clear c0z5 c1z5 c2z5 c0z6 c1z6 c2z6
  rintro e w7 ⟨rfl, bb⟩
  replace bb := nextw (w0 := w6) (by exact sm) bb
  replace B_z0 := mv B_z0 bb
  replace B_z1 := mv B_z1 bb
  replace B_z2 := mv B_z2 bb
  replace B_z3 := mv B_z3 bb
  replace B_z4 := mv B_z4 bb
  replace B_z5 := mv B_z5 bb
  replace B_z6 := mv B_z6 bb
  replace LC1 := Lib.hid (PL.below LC1.out bb)
  replace LC2 := Lib.hid (PL.below LC2.out bb)
  replace HB := nx HB bb
  clear bb
  go_wp2
  go_ret
  exact ⟨(by first | rfl | exact rbt (by omega) | exact rbf (by omega)), nextw HB.out (by exact sm)⟩

theorem Makes_any (x0 y0 x1 y1 a b c d : Int) (w : World) :
    Calls Try.prog 4 #[.agg #[.int .i64 x0, .int .i64 y0, .int .i64 x1, .int .i64 y1], .agg #[.int .i64 a, .int .i64 b], .agg #[.int .i64 c, .int .i64 d]] w fun e w' => e = .returned (.bool true) ∧ Below w.heap.size w w' := by
  by_cases h1 : RO x0 y0 x1 y1
  · by_cases h2 : SO a b c d
    · exact Makes_w0 x0 y0 x1 y1 a b c d h1 h2 w
    · exact Makes_w3 x0 y0 x1 y1 a b c d h1 h2 w
  · by_cases h2 : SO a b c d
    · exact Makes_w1 x0 y0 x1 y1 a b c d h1 h2 w
    · exact Makes_w2 x0 y0 x1 y1 a b c d h1 h2 w
end Go.Proofs.Ytgaciiejikadcaa
