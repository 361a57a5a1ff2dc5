/- the reference's Norm, Corners, Has, rect. -/
import Derived.Test.YtpjbkadhmjlpfaaZ34
import Derived.Test.YtpjbkadhmjlpfaaZ32
import Derived.Test.YtpjbkadhmjlpfaaZ26
set_option linter.unusedVariables false
set_option linter.unusedSimpArgs false
namespace Go.Proofs.Ytpjbkadhmjlpfaa
open Go Go.RowKit Hd

theorem RValid_yes {x y : Int} {A : Option Addr} {n c : Nat} {l : List P2} (h : OkZ x y l) (hn : n ≤ 1000000) (w : World) {lo hi : Nat} (L : PL w lo hi A n c l) :
    Calls Try.prog 20 #[.agg #[.int .i64 x, .int .i64 y, .slice A n c]] w fun e w' => e = .returned (.bool true) ∧ Below w.heap.size w w' := by
  have h2 := RValid_is x y A n c l hn w L
  rw [decide_eq_true h] at h2
  exact h2
theorem RValid_no {x y : Int} {A : Option Addr} {n c : Nat} {l : List P2} (h : ¬ OkZ x y l) (hn : n ≤ 1000000) (w : World) {lo hi : Nat} (L : PL w lo hi A n c l) :
    Calls Try.prog 20 #[.agg #[.int .i64 x, .int .i64 y, .slice A n c]] w fun e w' => e = .returned (.bool false) ∧ Below w.heap.size w w' := by
  have h2 := RValid_is x y A n c l hn w L
  rw [decide_eq_false h] at h2
  exact h2
theorem corn_all {x y : Int} {C : List P2} {M S : Int} (hx : Wi x M) (hy : Wi y M) (h : SB C S) : ∀ p ∈ cornL (x, y) C, Wi p.1 (M + S) ∧ Wi p.2 (M + S) := by
  intro p hp
  obtain ⟨i, hi, e⟩ := getD_of hp
  have hl := corn_len (x, y) C
  rw [corn_get (x, y) C i (by omega)] at e
  rw [← e]
  exact cor_bd (z := (x, y)) ⟨hx, hy⟩ h i (by omega)
theorem corn_in {x y : Int} {C : List P2} (hx : Wi x 16777216) (hy : Wi y 16777216) (h : SB C 16777216) : ∀ p ∈ cornL (x, y) C, Wi p.1 67108864 ∧ Wi p.2 67108864 := fun p hp => by
  obtain ⟨⟨a, b⟩, c, d⟩ := corn_all hx hy h p hp
  exact ⟨⟨by omega, by omega⟩, by omega, by omega⟩
theorem corn_16 (z : P2) {C : List P2} (h : C.length ≤ 40) : (cornL z C).length ≤ 1000 := by rw [corn_len]; omega
theorem wi_up {n a b : Int} (h : Wi n a) (hb : a ≤ b) : Wi n b := ⟨by have := h.1; omega, by have := h.2; omega⟩
theorem okz_x {x y : Int} {l : List P2} (h : OkZ x y l) : Wi x 16777216 := wi_up h.1 (by decide)
theorem okz_y {x y : Int} {l : List P2} (h : OkZ x y l) : Wi y 16777216 := wi_up h.2.1 (by decide)
theorem okz_s {x y : Int} {l : List P2} (h : OkZ x y l) : SB l 16777216 := (okz_sb h).mono (by decide)
theorem okz_cs {x y : Int} {l : List P2} (h : OkZ x y l) : SB (canL l) 16777216 := (okz_s h).can
theorem okz_cl {x y : Int} {l : List P2} (h : OkZ x y l) : (canL l).length ≤ 16 := Nat.le_trans (can_len l _ (okz_s h)) h.2.2.1
theorem SB.app {l m : List P2} {S T : Int} (h : SB l S) (k : SB m T) : SB (l ++ m) (S + T) := by
  have e1 := spr_append l m (1, 0)
  have e2 := spr_append l m (0, 1)
  dsimp only at e1 e2
  exact ⟨by have := h.1; have := k.1; omega, by have := h.2; have := k.2; omega⟩
theorem rect_sb {x0 y0 x1 y1 : Int} (h : OkR x0 y0 x1 y1) : SB [(x1 - x0, 0), (0, y1 - y0)] 4194304 := by
  obtain ⟨⟨ra, rb⟩, ⟨rc, rd⟩, ⟨re, rf⟩, ⟨rg, rh⟩, ri, rj⟩ := h
  have e1 : spr [(x1 - x0, 0), (0, y1 - y0)] 1 0 = mg (x1 - x0) := by simp [spr, dt, mg]
  have e2 : spr [(x1 - x0, 0), (0, y1 - y0)] 0 1 = mg (y1 - y0) := by simp [spr, dt, mg]
  have m1 := mg_cs (x1 - x0)
  have m2 := mg_cs (y1 - y0)
  exact ⟨by rw [e1]; omega, by rw [e2]; omega⟩
theorem sb_mem {l : List P2} {S : Int} (h : SB l S) : ∀ p ∈ l, Wi p.1 S ∧ Wi p.2 S := fun p hp => h.mem hp

set_option maxRecDepth 100000 in
set_option maxHeartbeats 4000000 in
theorem RNorm_w0 (x y : Int) (A : Option Addr) (n c : Nat) (l : List P2)  (hn : n ≤ 200) (dd0 : OkZ x y l) (w : World) {lo_L hi_L : Nat} (L : PL w lo_L hi_L A n c l) :
    Calls Try.prog 16 #[.agg #[.int .i64 x, .int .i64 y, .slice A n c]] w fun e w' => ∃ AC1 cC1, e = .returned (.tuple #[.agg #[.int .i64 x, .int .i64 y, .slice AC1 ((canL l).length) cC1], .int .i64 0]) ∧ PL w' w.heap.size w'.heap.size AC1 ((canL l).length) cC1 (canL l) ∧ Below w.heap.size w w' := by
  replace L := Lib.hid L
  have dd0x1 := dd0.1.1
  have dd0x2 := dd0.1.2
  have dd0y1 := dd0.2.1.1
  have dd0y2 := dd0.2.1.2
  obtain ⟨HB, B_z0, B_z1⟩ := box2 w 24 #[.int .i64 x, .int .i64 y, .slice A n c] 24 #[.int .i64 0, .int .i64 0, .slice none 0 0]
  replace L := Lib.hid (PL.below L.out HB.out)
  go_enter Try.func16, Try.ntmps16
  go_upto_region 1 with (fail)
  generalize (w.alloc (.cells #[.int .i64 x, .int .i64 y, .slice A n c] 24)).alloc (.cells #[.int .i64 0, .int .i64 0, .slice none 0 0] 24) = W0 at *
  obtain ⟨c0z0, c1z0, c2z0⟩ := cells3 B_z0
  go_wp2_with fail
  refine (RValid_yes dd0 (by omega) _ (PL.below L.out (by exact sm))).mono ?_
  clear c0z0 c1z0 c2z0
  rintro e w1 ⟨rfl, bb⟩
  replace bb := nextw (w0 := W0) (by exact sm) bb
  replace B_z0 := mv B_z0 bb
  replace B_z1 := mv B_z1 bb
  replace L := Lib.hid (PL.below L.out bb)
  replace HB := nx HB bb
  clear bb
  obtain ⟨c0z0, c1z0, c2z0⟩ := cells3 B_z0
  have sp_z0_LC1 : Hid (w.heap.size < w1.heap.size) := B_z0.out.lt
  have sp_z1_LC1 : Hid (w.heap.size + 1 < w1.heap.size) := B_z1.out.lt
  have lw_LC1 : Hid (w.heap.size ≤ w1.heap.size) := HB.out.size
  go_wp2_with fail
  refine (canon_sb x y _ _ _ l (by first | omega | decide) (okz_s dd0) _ (PL.below L.out (by exact sm))).mono ?_
  clear c0z0 c1z0 c2z0
  rintro e w2 ⟨AC1, cC1, rfl, LC1, bb⟩
  replace bb := nextw (w0 := w1) (by exact sm) bb
  replace B_z0 := mv B_z0 bb
  replace B_z1 := mv B_z1 bb
  replace L := Lib.hid (PL.below L.out bb)
  replace HB := nx HB bb
  clear bb
  replace LC1 := Lib.hid LC1
  obtain ⟨s0, s1, s2⟩ := cells3 (stor3 B_z1 (.int .i64 x) (.int .i64 y) (.slice AC1 ((canL l).length) cC1))
  have HF := stb3 HB (y := w.heap.size + 1) (by omega) 0 (.int .i64 x) 1 (.int .i64 y) 2 (.slice AC1 ((canL l).length) cC1)
  obtain ⟨c0z1, c1z1, c2z1⟩ := cells3 B_z1
  obtain ⟨f0z1, f1z1, f2z1⟩ := froz3 B_z1
  go_wp2_with fail
  exact bodyPost_ret (v := .tuple #[.agg #[.int .i64 x, .int .i64 y, .slice AC1 ((canL l).length) cC1], .int .i64 0]) (by simp [results, Try.results16, go_sem, s0, s1, s2]) rfl ⟨AC1, cC1, rfl, PL.outw (PL.below (PL.set (PL.set (PL.set LC1.out (Or.inl sp_z1_LC1.out) 0 (.int .i64 x)) (Or.inl sp_z1_LC1.out) 1 (.int .i64 y)) (Or.inl sp_z1_LC1.out) 2 (.slice AC1 ((canL l).length) cC1)) (by exact sm)) lw_LC1.out, nextw HF.out (by exact sm)⟩

set_option maxRecDepth 100000 in
set_option maxHeartbeats 4000000 in
theorem RNorm_w1 (x y : Int) (A : Option Addr) (n c : Nat) (l : List P2)  (hn : n ≤ 200) (dd0 : ¬ (OkZ x y l)) (w : World) {lo_L hi_L : Nat} (L : PL w lo_L hi_L A n c l) :
    Calls Try.prog 16 #[.agg #[.int .i64 x, .int .i64 y, .slice A n c]] w fun e w' => e = .returned (.tuple #[.agg #[.int .i64 0, .int .i64 0, .slice none 0 0], .int .i64 1]) ∧ Below w.heap.size w w' := by
  replace L := Lib.hid L
  obtain ⟨HB, B_z0, B_z1⟩ := box2 w 24 #[.int .i64 x, .int .i64 y, .slice A n c] 24 #[.int .i64 0, .int .i64 0, .slice none 0 0]
  replace L := Lib.hid (PL.below L.out HB.out)
  go_enter Try.func16, Try.ntmps16
  go_upto_region 1 with (fail)
  generalize (w.alloc (.cells #[.int .i64 x, .int .i64 y, .slice A n c] 24)).alloc (.cells #[.int .i64 0, .int .i64 0, .slice none 0 0] 24) = W0 at *
  obtain ⟨c0z0, c1z0, c2z0⟩ := cells3 B_z0
  go_wp2_with fail
  refine (RValid_no dd0 (by omega) _ (PL.below L.out (by exact sm))).mono ?_
  clear c0z0 c1z0 c2z0
  rintro e w1 ⟨rfl, bb⟩
  replace bb := nextw (w0 := W0) (by exact sm) bb
  replace B_z0 := mv B_z0 bb
  replace B_z1 := mv B_z1 bb
  replace L := Lib.hid (PL.below L.out bb)
  replace HB := nx HB bb
  clear bb
  obtain ⟨s0, s1, s2⟩ := cells3 (stor3 B_z1 (.int .i64 0) (.int .i64 0) (.slice none 0 0))
  have HF := stb3 HB (y := w.heap.size + 1) (by omega) 0 (.int .i64 0) 1 (.int .i64 0) 2 (.slice none 0 0)
  obtain ⟨c0z1, c1z1, c2z1⟩ := cells3 B_z1
  obtain ⟨f0z1, f1z1, f2z1⟩ := froz3 B_z1
  go_wp2_with fail
  exact bodyPost_ret (v := .tuple #[.agg #[.int .i64 0, .int .i64 0, .slice none 0 0], .int .i64 1]) (by simp [results, Try.results16, go_sem, s0, s1, s2]) rfl ⟨rfl, nextw HF.out (by exact sm)⟩

set_option maxRecDepth 100000 in
set_option maxHeartbeats 4000000 in
theorem RCorners_w0 (x y : Int) (A : Option Addr) (n c : Nat) (l : List P2)  (hn : n ≤ 200) (dd0 : OkZ x y l) (w : World) {lo_L hi_L : Nat} (L : PL w lo_L hi_L A n c l) :
    Calls Try.prog 26 #[.agg #[.int .i64 x, .int .i64 y, .slice A n c]] w fun e w' => ∃ AC2 cC2, e = .returned (.slice AC2 ((cornL (x, y) (canL l)).length) cC2) ∧ PL w' w.heap.size w'.heap.size AC2 ((cornL (x, y) (canL l)).length) cC2 (cornL (x, y) (canL l)) ∧ Below w.heap.size w w' := by
  replace L := Lib.hid L
  have dd0x1 := dd0.1.1
  have dd0x2 := dd0.1.2
  have dd0y1 := dd0.2.1.1
  have dd0y2 := dd0.2.1.2
  obtain ⟨HB, B_z0⟩ := box1 w 24 #[.int .i64 x, .int .i64 y, .slice A n c]
  replace L := Lib.hid (PL.below L.out HB.out)
  go_enter Try.func26, Try.ntmps26
  go_upto_region 1 with (fail)
  generalize w.alloc (.cells #[.int .i64 x, .int .i64 y, .slice A n c] 24) = W0 at *
  obtain ⟨c0z0, c1z0, c2z0⟩ := cells3 B_z0
  go_wp2_with fail
  refine (RValid_yes dd0 (by omega) _ (PL.below L.out (by exact sm))).mono ?_
  clear c0z0 c1z0 c2z0
  rintro e w1 ⟨rfl, bb⟩
  replace bb := nextw (w0 := W0) (by exact sm) bb
  replace B_z0 := mv B_z0 bb
  replace L := Lib.hid (PL.below L.out bb)
  replace HB := nx HB bb
  clear bb
  obtain ⟨c0z0, c1z0, c2z0⟩ := cells3 B_z0
  have sp_z0_LC1 : Hid (w.heap.size < w1.heap.size) := B_z0.out.lt
  have lw_LC1 : Hid (w.heap.size ≤ w1.heap.size) := HB.out.size
  go_wp2_with fail
  refine (canon_sb x y _ _ _ l (by first | omega | decide) (okz_s dd0) _ (PL.below L.out (by exact sm))).mono ?_
  clear c0z0 c1z0 c2z0
  rintro e w2 ⟨AC1, cC1, rfl, LC1, bb⟩
  replace bb := nextw (w0 := w1) (by exact sm) bb
  replace B_z0 := mv B_z0 bb
  replace L := Lib.hid (PL.below L.out bb)
  replace HB := nx HB bb
  clear bb
  replace LC1 := Lib.hid LC1
  have sp_z0_LC2 : Hid (w.heap.size < w2.heap.size) := B_z0.out.lt
  have lw_LC2 : Hid (w.heap.size ≤ w2.heap.size) := HB.out.size
  go_wp2_with fail
  refine (RCorn_is x y _ _ _ (canL l) (Nat.le_trans (okz_cl dd0) (by decide)) (okz_x dd0) (okz_y dd0) (okz_cs dd0) _ (PL.below LC1.out (by exact sm))).mono ?_
  rintro e w3 ⟨AC2, cC2, rfl, LC2, bb⟩
  replace bb := nextw (w0 := w2) (by exact sm) bb
  replace B_z0 := mv B_z0 bb
  replace L := Lib.hid (PL.below L.out bb)
  replace LC1 := Lib.hid (PL.below LC1.out bb)
  replace HB := nx HB bb
  clear bb
  replace LC2 := Lib.hid LC2
  go_wp2
  go_ret
  exact ⟨AC2, cC2, (by first | rfl | exact rbt (by omega) | exact rbf (by omega)), PL.outw (PL.below LC2.out (by exact sm)) lw_LC2.out, nextw HB.out (by exact sm)⟩

set_option maxRecDepth 100000 in
set_option maxHeartbeats 4000000 in
theorem RCorners_w1 (x y : Int) (A : Option Addr) (n c : Nat) (l : List P2)  (hn : n ≤ 200) (dd0 : ¬ (OkZ x y l)) (w : World) {lo_L hi_L : Nat} (L : PL w lo_L hi_L A n c l) :
    Calls Try.prog 26 #[.agg #[.int .i64 x, .int .i64 y, .slice A n c]] w fun e w' => e = .returned (.slice none 0 0) ∧ Below w.heap.size w w' := by
  replace L := Lib.hid L
  obtain ⟨HB, B_z0⟩ := box1 w 24 #[.int .i64 x, .int .i64 y, .slice A n c]
  replace L := Lib.hid (PL.below L.out HB.out)
  go_enter Try.func26, Try.ntmps26
  go_upto_region 1 with (fail)
  generalize w.alloc (.cells #[.int .i64 x, .int .i64 y, .slice A n c] 24) = W0 at *
  obtain ⟨c0z0, c1z0, c2z0⟩ := cells3 B_z0
  go_wp2_with fail
  refine (RValid_no dd0 (by omega) _ (PL.below L.out (by exact sm))).mono ?_
  clear c0z0 c1z0 c2z0
  rintro e w1 ⟨rfl, bb⟩
  replace bb := nextw (w0 := W0) (by exact sm) bb
  replace B_z0 := mv B_z0 bb
  replace L := Lib.hid (PL.below L.out bb)
  replace HB := nx HB bb
  clear bb
  go_wp2
  go_ret
  exact ⟨(by first | rfl | exact rbt (by omega) | exact rbf (by omega)), nextw HB.out (by exact sm)⟩

set_option maxRecDepth 100000 in
set_option maxHeartbeats 4000000 in
theorem RHas_w0 (x y p q : Int) (A : Option Addr) (n c : Nat) (l : List P2)  (hn : n ≤ 200) (dd0 : OkZ x y l) (dd1 : Wi p 16777216) (dd2 : Wi q 16777216) (w : World) {lo_L hi_L : Nat} (L : PL w lo_L hi_L A n c l) :
    Calls Try.prog 36 #[.agg #[.int .i64 x, .int .i64 y, .slice A n c], .int .i64 p, .int .i64 q] w fun e w' => e = .returned (.bool (decide (inL (cornL (x, y) (canL l)) (p, q)))) ∧ Below w.heap.size w w' := by
  replace L := Lib.hid L
  have H1 := Lib.hid (fun w => Rwithin_is p 16777216 (by omega) w)
  have H2 := Lib.hid (fun w => Rwithin_is q 16777216 (by omega) w)
  have dd0x1 := dd0.1.1
  have dd0x2 := dd0.1.2
  have dd0y1 := dd0.2.1.1
  have dd0y2 := dd0.2.1.2
  have dd1x1 := dd1.1
  have dd1x2 := dd1.2
  have dd2x1 := dd2.1
  have dd2x2 := dd2.2
  obtain ⟨HB, B_z0⟩ := box1 w 24 #[.int .i64 x, .int .i64 y, .slice A n c]
  replace L := Lib.hid (PL.below L.out HB.out)
  go_enter Try.func36, Try.ntmps36
  go_upto_region 1 with (fail)
  generalize w.alloc (.cells #[.int .i64 x, .int .i64 y, .slice A n c] 24) = W0 at *
  obtain ⟨c0z0, c1z0, c2z0⟩ := cells3 B_z0
  go_wp2_with fail
  refine (RValid_yes dd0 (by omega) _ (PL.below L.out (by exact sm))).mono ?_
  clear c0z0 c1z0 c2z0
  rintro e w1 ⟨rfl, bb⟩
  replace bb := nextw (w0 := W0) (by exact sm) bb
  replace B_z0 := mv B_z0 bb
  replace L := Lib.hid (PL.below L.out bb)
  replace HB := nx HB bb
  clear bb
  go_wp2_with fail
  refine (H1.out _).mono ?_
  rintro e w2 ⟨rfl, bb⟩
  replace bb := nextw (w0 := w1) (by exact sm) bb
  replace B_z0 := mv B_z0 bb
  replace L := Lib.hid (PL.below L.out bb)
  replace HB := nx HB bb
  clear bb
  go_wp2_with fail
  refine (H2.out _).mono ?_
  rintro e w3 ⟨rfl, bb⟩
  replace bb := nextw (w0 := w2) (by exact sm) bb
  replace B_z0 := mv B_z0 bb
  replace L := Lib.hid (PL.below L.out bb)
  replace HB := nx HB bb
  clear bb
  obtain ⟨c0z0, c1z0, c2z0⟩ := cells3 B_z0
  have sp_z0_LC3 : Hid (w.heap.size < w3.heap.size) := B_z0.out.lt
  have lw_LC3 : Hid (w.heap.size ≤ w3.heap.size) := HB.out.size
  go_wp2_with fail
  refine (canon_sb x y _ _ _ l (by first | omega | decide) (okz_s dd0) _ (PL.below L.out (by exact sm))).mono ?_
  clear c0z0 c1z0 c2z0
  rintro e w4 ⟨AC3, cC3, rfl, LC3, bb⟩
  replace bb := nextw (w0 := w3) (by exact sm) bb
  replace B_z0 := mv B_z0 bb
  replace L := Lib.hid (PL.below L.out bb)
  replace HB := nx HB bb
  clear bb
  replace LC3 := Lib.hid LC3
  have sp_z0_LC4 : Hid (w.heap.size < w4.heap.size) := B_z0.out.lt
  have lw_LC4 : Hid (w.heap.size ≤ w4.heap.size) := HB.out.size
  go_wp2_with fail
  refine (RCorn_is x y _ _ _ (canL l) (Nat.le_trans (okz_cl dd0) (by decide)) (okz_x dd0) (okz_y dd0) (okz_cs dd0) _ (PL.below LC3.out (by exact sm))).mono ?_
  rintro e w5 ⟨AC4, cC4, rfl, LC4, bb⟩
  replace bb := nextw (w0 := w4) (by exact sm) bb
  replace B_z0 := mv B_z0 bb
  replace L := Lib.hid (PL.below L.out bb)
  replace LC3 := Lib.hid (PL.below LC3.out bb)
  replace HB := nx HB bb
  clear bb
  replace LC4 := Lib.hid LC4
  go_wp2_with fail
  refine (Rin_is p q _ _ _ (cornL (x, y) (canL l)) (corn_16 _ (Nat.le_trans (okz_cl dd0) (by decide))) (corn_in (okz_x dd0) (okz_y dd0) (okz_cs dd0)) ⟨⟨by omega, by omega⟩, by omega, by omega⟩ _ (PL.below LC4.out (by exact sm))).mono ?_
  rintro e w6 ⟨rfl, bb⟩
  replace bb := nextw (w0 := w5) (by exact sm) bb
  replace B_z0 := mv B_z0 bb
  replace L := Lib.hid (PL.below L.out bb)
  replace LC3 := Lib.hid (PL.below LC3.out bb)
  replace LC4 := Lib.hid (PL.below LC4.out bb)
  replace HB := nx HB bb
  clear bb
  go_wp2
  go_ret
  exact ⟨(by first | rfl | exact rbt (by omega) | exact rbf (by omega)), nextw HB.out (by exact sm)⟩

set_option maxRecDepth 100000 in
set_option maxHeartbeats 4000000 in
theorem RHas_w1 (x y p q : Int) (A : Option Addr) (n c : Nat) (l : List P2)  (hn : n ≤ 200) (dd0 : ¬ (OkZ x y l)) (w : World) {lo_L hi_L : Nat} (L : PL w lo_L hi_L A n c l) :
    Calls Try.prog 36 #[.agg #[.int .i64 x, .int .i64 y, .slice A n c], .int .i64 p, .int .i64 q] w fun e w' => e = .returned (.bool false) ∧ Below w.heap.size w w' := by
  replace L := Lib.hid L
  obtain ⟨HB, B_z0⟩ := box1 w 24 #[.int .i64 x, .int .i64 y, .slice A n c]
  replace L := Lib.hid (PL.below L.out HB.out)
  go_enter Try.func36, Try.ntmps36
  go_upto_region 1 with (fail)
  generalize w.alloc (.cells #[.int .i64 x, .int .i64 y, .slice A n c] 24) = W0 at *
  obtain ⟨c0z0, c1z0, c2z0⟩ := cells3 B_z0
  go_wp2_with fail
  refine (RValid_no dd0 (by omega) _ (PL.below L.out (by exact sm))).mono ?_
  clear c0z0 c1z0 c2z0
  rintro e w1 ⟨rfl, bb⟩
  replace bb := nextw (w0 := W0) (by exact sm) bb
  replace B_z0 := mv B_z0 bb
  replace L := Lib.hid (PL.below L.out bb)
  replace HB := nx HB bb
  clear bb
  go_wp2
  go_ret
  exact ⟨(by first | rfl | exact rbt (by omega) | exact rbf (by omega)), nextw HB.out (by exact sm)⟩

set_option maxRecDepth 100000 in
set_option maxHeartbeats 4000000 in
theorem RHas_w2 (x y p q : Int) (A : Option Addr) (n c : Nat) (l : List P2)  (hn : n ≤ 200) (dd0 : OkZ x y l) (dd1 : ¬ (Wi p 16777216)) (w : World) {lo_L hi_L : Nat} (L : PL w lo_L hi_L A n c l) :
    Calls Try.prog 36 #[.agg #[.int .i64 x, .int .i64 y, .slice A n c], .int .i64 p, .int .i64 q] w fun e w' => e = .returned (.bool false) ∧ Below w.heap.size w w' := by
  replace L := Lib.hid L
  have H1 := Lib.hid (fun w => Rwithin_is p 16777216 (by omega) w)
  have dd0x1 := dd0.1.1
  have dd0x2 := dd0.1.2
  have dd0y1 := dd0.2.1.1
  have dd0y2 := dd0.2.1.2
  obtain ⟨HB, B_z0⟩ := box1 w 24 #[.int .i64 x, .int .i64 y, .slice A n c]
  replace L := Lib.hid (PL.below L.out HB.out)
  go_enter Try.func36, Try.ntmps36
  go_upto_region 1 with (fail)
  generalize w.alloc (.cells #[.int .i64 x, .int .i64 y, .slice A n c] 24) = W0 at *
  obtain ⟨c0z0, c1z0, c2z0⟩ := cells3 B_z0
  go_wp2_with fail
  refine (RValid_yes dd0 (by omega) _ (PL.below L.out (by exact sm))).mono ?_
  clear c0z0 c1z0 c2z0
  rintro e w1 ⟨rfl, bb⟩
  replace bb := nextw (w0 := W0) (by exact sm) bb
  replace B_z0 := mv B_z0 bb
  replace L := Lib.hid (PL.below L.out bb)
  replace HB := nx HB bb
  clear bb
  go_wp2_with fail
  refine (H1.out _).mono ?_
  rintro e w2 ⟨rfl, bb⟩
  replace bb := nextw (w0 := w1) (by exact sm) bb
  replace B_z0 := mv B_z0 bb
  replace L := Lib.hid (PL.below L.out bb)
  replace HB := nx HB bb
  clear bb
  go_wp2
  go_ret
  exact ⟨(by first | rfl | exact rbt (by omega) | exact rbf (by omega)), nextw HB.out (by exact sm)⟩

set_option maxRecDepth 100000 in
set_option maxHeartbeats 4000000 in
theorem RHas_w3 (x y p q : Int) (A : Option Addr) (n c : Nat) (l : List P2)  (hn : n ≤ 200) (dd0 : OkZ x y l) (dd1 : Wi p 16777216) (dd2 : ¬ (Wi q 16777216)) (w : World) {lo_L hi_L : Nat} (L : PL w lo_L hi_L A n c l) :
    Calls Try.prog 36 #[.agg #[.int .i64 x, .int .i64 y, .slice A n c], .int .i64 p, .int .i64 q] w fun e w' => e = .returned (.bool false) ∧ Below w.heap.size w w' := by
  replace L := Lib.hid L
  have H1 := Lib.hid (fun w => Rwithin_is p 16777216 (by omega) w)
  have H2 := Lib.hid (fun w => Rwithin_is q 16777216 (by omega) w)
  have dd0x1 := dd0.1.1
  have dd0x2 := dd0.1.2
  have dd0y1 := dd0.2.1.1
  have dd0y2 := dd0.2.1.2
  have dd1x1 := dd1.1
  have dd1x2 := dd1.2
  obtain ⟨HB, B_z0⟩ := box1 w 24 #[.int .i64 x, .int .i64 y, .slice A n c]
  replace L := Lib.hid (PL.below L.out HB.out)
  go_enter Try.func36, Try.ntmps36
  go_upto_region 1 with (fail)
  generalize w.alloc (.cells #[.int .i64 x, .int .i64 y, .slice A n c] 24) = W0 at *
  obtain ⟨c0z0, c1z0, c2z0⟩ := cells3 B_z0
  go_wp2_with fail
  refine (RValid_yes dd0 (by omega) _ (PL.below L.out (by exact sm))).mono ?_
  clear c0z0 c1z0 c2z0
  rintro e w1 ⟨rfl, bb⟩
  replace bb := nextw (w0 := W0) (by exact sm) bb
  replace B_z0 := mv B_z0 bb
  replace L := Lib.hid (PL.below L.out bb)
  replace HB := nx HB bb
  clear bb
  go_wp2_with fail
  refine (H1.out _).mono ?_
  rintro e w2 ⟨rfl, bb⟩
  replace bb := nextw (w0 := w1) (by exact sm) bb
  replace B_z0 := mv B_z0 bb
  replace L := Lib.hid (PL.below L.out bb)
  replace HB := nx HB bb
  clear bb
  go_wp2_with fail
  refine (H2.out _).mono ?_
  rintro e w3 ⟨rfl, bb⟩
  replace bb := nextw (w0 := w2) (by exact sm) bb
  replace B_z0 := mv B_z0 bb
  replace L := Lib.hid (PL.below L.out bb)
  replace HB := nx HB bb
  clear bb
  go_wp2
  go_ret
  exact ⟨(by first | rfl | exact rbt (by omega) | exact rbf (by omega)), nextw HB.out (by exact sm)⟩

set_option maxRecDepth 100000 in
set_option maxHeartbeats 4000000 in
theorem RrectW_w0 (x0 y0 x1 y1 : Int)  (hr : OkR x0 y0 x1 y1)  (w : World) :
    Calls Try.prog 59 #[.agg #[.int .i64 x0, .int .i64 y0, .int .i64 x1, .int .i64 y1]] w fun e w' => ∃ AC0 cC0, e = .returned (.agg #[.int .i64 (x0 + x1), .int .i64 (y0 + y1), .slice AC0 ((canL ([((x1 - x0), 0), (0, (y1 - y0))])).length) cC0]) ∧ PL w' w.heap.size w'.heap.size AC0 ((canL ([((x1 - x0), 0), (0, (y1 - y0))])).length) cC0 (canL ([((x1 - x0), 0), (0, (y1 - y0))])) ∧ Below w.heap.size w w' := by
  obtain ⟨⟨ra, rb⟩, ⟨rc, rd⟩, ⟨re, rf⟩, ⟨rg, rh⟩, ri, rj⟩ := (id hr : OkR x0 y0 x1 y1)
  obtain ⟨HB, B_z0, B_z1⟩ := box2 w 31 #[.int .i64 x0, .int .i64 y0, .int .i64 x1, .int .i64 y1] 24 #[.int .i64 0, .int .i64 0, .slice none 0 0]
  go_enter Try.func59, Try.ntmps59
  go_upto_region 1 with (fail)
  generalize (w.alloc (.cells #[.int .i64 x0, .int .i64 y0, .int .i64 x1, .int .i64 y1] 31)).alloc (.cells #[.int .i64 0, .int .i64 0, .slice none 0 0] 24) = W0 at *
  obtain ⟨c0z0, c1z0, c2z0, c3z0⟩ := cells4 B_z0
  have lt_z2z0 := B_z0.out.lt
  have lt_z2z1 := B_z1.out.lt
  obtain ⟨bb, B_z2⟩ := box1 W0 39 #[.int .i64 (x1 - x0), .int .i64 0, .int .i64 0, .int .i64 (y1 - y0)]
  replace bb := bb.out
  replace B_z0 := mv B_z0 bb
  replace B_z1 := mv B_z1 bb
  replace HB := nx HB bb
  clear bb
  go_wp2_with fail
  clear c0z0 c1z0 c2z0 c3z0
  generalize W0.alloc (.cells #[.int .i64 (x1 - x0), .int .i64 0, .int .i64 0, .int .i64 (y1 - y0)] 39) = WA1x6 at *
  have sp_z0_LC0 : Hid (w.heap.size < WA1x6.heap.size) := B_z0.out.lt
  have sp_z1_LC0 : Hid (w.heap.size + 1 < WA1x6.heap.size) := B_z1.out.lt
  have sp_z2_LC0 : Hid (W0.heap.size < WA1x6.heap.size) := B_z2.out.lt
  have lw_LC0 : Hid (w.heap.size ≤ WA1x6.heap.size) := HB.out.size
  refine (canon_sb (x0 + x1) (y0 + y1) _ _ _ ([((x1 - x0), 0), (0, (y1 - y0))]) (by first | omega | decide) ((rect_sb hr).mono (by decide)) _ (PL.below (pl_2 B_z2.out) (by exact sm))).mono ?_
  rintro e w1 ⟨AC0, cC0, rfl, LC0, bb⟩
  replace bb := nextw (w0 := WA1x6) (by exact sm) bb
  replace B_z0 := mv B_z0 bb
  replace B_z1 := mv B_z1 bb
  replace B_z2 := mv B_z2 bb
  replace HB := nx HB bb
  clear bb
  replace LC0 := Lib.hid LC0
  obtain ⟨s0, s1, s2⟩ := cells3 (stor3 B_z1 (.int .i64 (x0 + x1)) (.int .i64 (y0 + y1)) (.slice AC0 ((canL ([((x1 - x0), 0), (0, (y1 - y0))])).length) cC0))
  have HF := stb3 HB (y := w.heap.size + 1) (by omega) 0 (.int .i64 (x0 + x1)) 1 (.int .i64 (y0 + y1)) 2 (.slice AC0 ((canL ([((x1 - x0), 0), (0, (y1 - y0))])).length) cC0)
  obtain ⟨c0z1, c1z1, c2z1⟩ := cells3 B_z1
  obtain ⟨f0z1, f1z1, f2z1⟩ := froz3 B_z1
  go_wp2_with fail
  exact bodyPost_ret (v := .agg #[.int .i64 (x0 + x1), .int .i64 (y0 + y1), .slice AC0 ((canL ([((x1 - x0), 0), (0, (y1 - y0))])).length) cC0]) (by simp [results, Try.results59, go_sem, s0, s1, s2]) rfl ⟨AC0, cC0, rfl, PL.outw (PL.below (PL.set (PL.set (PL.set LC0.out (Or.inl sp_z1_LC0.out) 0 (.int .i64 (x0 + x1))) (Or.inl sp_z1_LC0.out) 1 (.int .i64 (y0 + y1))) (Or.inl sp_z1_LC0.out) 2 (.slice AC0 ((canL ([((x1 - x0), 0), (0, (y1 - y0))])).length) cC0)) (by exact sm)) lw_LC0.out, nextw HF.out (by exact sm)⟩
end Go.Proofs.Ytpjbkadhmjlpfaa
