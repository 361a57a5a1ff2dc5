/- the reference's Bounds, Sum, Apart. -/
import Derived.Test.YtpjbkadhmjlpfaaZ39
set_option linter.unusedVariables false
set_option linter.unusedSimpArgs false
namespace Go.Proofs.Ytpjbkadhmjlpfaa
open Go Go.RowKit Hd

theorem sup_small (x y : Int) (l : List P2) (a b : Int) (h : (a = -1 ∧ b = 0) ∨ (a = 0 ∧ b = -1) ∨ (a = 1 ∧ b = 0) ∨ (a = 0 ∧ b = 1)) : Wi (supX x y l a b) 16777216 := by
  unfold supX
  split
  · rename_i hz
    obtain ⟨s1, s2⟩ := okz_sb hz.1
    obtain ⟨⟨x1, x2⟩, ⟨y1, y2⟩, -⟩ := hz.1
    have n1 := spr_nn l (1, 0)
    have n2 := spr_nn l (0, 1)
    rw [← sp1] at n1
    rw [← sp2] at n2
    have e1 := spr_neg l (1, 0)
    have e2 := spr_neg l (0, 1)
    simp only [Int.neg_zero] at e1 e2
    unfold dt
    rcases h with ⟨rfl, rfl⟩ | ⟨rfl, rfl⟩ | ⟨rfl, rfl⟩ | ⟨rfl, rfl⟩
    · rw [e1]; exact ⟨by omega, by omega⟩
    · rw [e2]; exact ⟨by omega, by omega⟩
    · exact ⟨by omega, by omega⟩
    · exact ⟨by omega, by omega⟩
  · exact ⟨by omega, by omega⟩

set_option maxRecDepth 100000 in
set_option maxHeartbeats 4000000 in
theorem RBounds_w1 (x y : Int) (A : Option Addr) (n c : Nat) (l : List P2)  (hn : n ≤ 50) (dd0 : ¬ (OkZ x y l)) (w : World) {lo_L hi_L : Nat} (L : PL w lo_L hi_L A n c l) :
    Calls Try.prog 18 #[.agg #[.int .i64 x, .int .i64 y, .slice A n c]] w fun e w' => e = .returned (.tuple #[.agg #[.int .i64 0, .int .i64 0, .int .i64 0, .int .i64 0], .int .i64 1]) ∧ Below w.heap.size w w' := by
  replace L := Lib.hid L
  obtain ⟨HB, B_z0, B_z1⟩ := box2 w 24 #[.int .i64 x, .int .i64 y, .slice A n c] 31 #[.int .i64 0, .int .i64 0, .int .i64 0, .int .i64 0]
  replace L := Lib.hid (PL.below L.out HB.out)
  go_enter Try.func18, Try.ntmps18
  go_upto_region 1 with (fail)
  generalize (w.alloc (.cells #[.int .i64 x, .int .i64 y, .slice A n c] 24)).alloc (.cells #[.int .i64 0, .int .i64 0, .int .i64 0, .int .i64 0] 31) = W0 at *
  obtain ⟨c0z0, c1z0, c2z0⟩ := cells3 B_z0
  go_wp2_with fail
  refine (RValid_no dd0 (by omega) _ (PL.below L.out (by exact sm))).mono ?_
  clear c0z0 c1z0 c2z0
  rintro e w1 ⟨rfl, bb⟩
  replace bb := nextw (w0 := W0) (by exact sm) bb
  replace B_z0 := mv B_z0 bb
  replace B_z1 := mv B_z1 bb
  replace L := Lib.hid (PL.below L.out bb)
  replace HB := nx HB bb
  clear bb
  obtain ⟨s0, s1, s2, s3⟩ := cells4 (stor4 B_z1 (.int .i64 0) (.int .i64 0) (.int .i64 0) (.int .i64 0))
  have HF := stb4 HB (y := w.heap.size + 1) (by omega) 0 (.int .i64 0) 1 (.int .i64 0) 2 (.int .i64 0) 3 (.int .i64 0)
  obtain ⟨c0z1, c1z1, c2z1, c3z1⟩ := cells4 B_z1
  obtain ⟨f0z1, f1z1, f2z1, f3z1⟩ := froz4 B_z1
  go_wp2_with fail
  exact bodyPost_ret (v := .tuple #[.agg #[.int .i64 0, .int .i64 0, .int .i64 0, .int .i64 0], .int .i64 1]) (by simp [results, Try.results18, go_sem, s0, s1, s2, s3]) rfl ⟨rfl, nextw HF.out (by exact sm)⟩

set_option maxRecDepth 100000 in
set_option maxHeartbeats 4000000 in
theorem RBounds_yes (x y : Int) (A : Option Addr) (n c : Nat) (l : List P2) (hn : n ≤ 50) (hz : OkZ x y l) (w : World) {lo_L hi_L : Nat} (L : PL w lo_L hi_L A n c l) :
    Calls Try.prog 18 #[.agg #[.int .i64 x, .int .i64 y, .slice A n c]] w fun e w' => e = .returned (.tuple #[.agg #[.int .i64 (-(supX x y l (-1) 0)), .int .i64 (-(supX x y l 0 (-1))), .int .i64 (supX x y l 1 0), .int .i64 (supX x y l 0 1)], .int .i64 0]) ∧ Below w.heap.size w w' := by
  have sb0 : Wi (supX x y l (-1) 0) 16777216 := sup_small x y l (-1) 0 (by decide)
  have sb1 : Wi (supX x y l 0 (-1)) 16777216 := sup_small x y l 0 (-1) (by decide)
  have sb2 : Wi (supX x y l 1 0) 16777216 := sup_small x y l 1 0 (by decide)
  have sb3 : Wi (supX x y l 0 1) 16777216 := sup_small x y l 0 1 (by decide)
  obtain ⟨sb0a, sb0b⟩ := sb0
  obtain ⟨sb1a, sb1b⟩ := sb1
  obtain ⟨sb2a, sb2b⟩ := sb2
  obtain ⟨sb3a, sb3b⟩ := sb3
  have HR0 := Lib.hid (fun (w : World) (lo hi : Nat) (M : PL w lo hi A n c l) => RSup_is x y (-1) 0 A n c l (by omega) w M)
  generalize supX x y l (-1) 0 = S0 at *
  have HR1 := Lib.hid (fun (w : World) (lo hi : Nat) (M : PL w lo hi A n c l) => RSup_is x y 0 (-1) A n c l (by omega) w M)
  generalize supX x y l 0 (-1) = S1 at *
  have HR2 := Lib.hid (fun (w : World) (lo hi : Nat) (M : PL w lo hi A n c l) => RSup_is x y 1 0 A n c l (by omega) w M)
  generalize supX x y l 1 0 = S2 at *
  have HR3 := Lib.hid (fun (w : World) (lo hi : Nat) (M : PL w lo hi A n c l) => RSup_is x y 0 1 A n c l (by omega) w M)
  generalize supX x y l 0 1 = S3 at *
  have e0 : IntKind.i64.wrap (-S0) = -S0 := by rw [IntKind.wrap_i64]; omega
  have e1 : IntKind.i64.wrap (-S1) = -S1 := by rw [IntKind.wrap_i64]; omega
  replace L := Lib.hid L
  obtain ⟨HB, B_z0, B_z1⟩ := box2 w 24 #[.int .i64 x, .int .i64 y, .slice A n c] 31 #[.int .i64 0, .int .i64 0, .int .i64 0, .int .i64 0]
  replace L := plm L HB.out
  go_enter Try.func18, Try.ntmps18
  go_upto_region 1 with (fail)
  generalize (w.alloc (.cells #[.int .i64 x, .int .i64 y, .slice A n c] 24)).alloc (.cells #[.int .i64 0, .int .i64 0, .int .i64 0, .int .i64 0] 31) = W0 at *
  obtain ⟨c0z0, c1z0, c2z0⟩ := cells3 B_z0
  go_wp2_with fail
  refine (RValid_yes hz (by omega) _ (PL.below L.out (by exact sm))).mono ?_
  clear c0z0 c1z0 c2z0
  rintro e w1 ⟨rfl, bb⟩
  replace bb := nextw (w0 := W0) (by exact sm) bb
  replace B_z0 := mv B_z0 bb
  replace B_z1 := mv B_z1 bb
  replace L := Lib.hid (PL.below L.out bb)
  replace HB := nx HB bb
  clear bb
  go_upto_region 3 with (fail)
  obtain ⟨c0z0, c1z0, c2z0⟩ := cells3 B_z0
  have tk1x0 : True := trivial
  go_region_held3 (fun w' => w'.cell? ⟨w.heap.size, 0, none⟩ = some (.int .i64 x) ∧ w'.cell? ⟨w.heap.size, 1, none⟩ = some (.int .i64 y) ∧ w'.cell? ⟨w.heap.size, 2, none⟩ = some (.slice A n c)) (((try dsimp only); (repeat' apply And.intro) <;> (first | (with_reducible assumption) | ((repeat (first | (with_reducible refine Eq.trans (cell_drew1 _ _) ?_) | (with_reducible refine Eq.trans (cell_far (by omega) _ _ _) ?_) | (with_reducible refine Eq.trans (World.cell?_alloc_lt _ _ _ (by first | (dsimp only; omega) | (simp only [World.size_alloc, World.size_setCell]; omega))) ?_))); with_reducible assumption) | assumption | go_keep)))
    (first
      | (clear tk1x0; go_at_call 35; refine (HR0.out _ _ _ (PL.below L.out (by exact sm))).mono ?_; rintro e w2 ⟨rfl, bb⟩; replace bb := nextw (w0 := w1) (by exact sm) bb; replace B_z0 := mv B_z0 bb; replace B_z1 := mv B_z1 bb; replace L := Lib.hid (PL.below L.out bb); replace HB := nx HB bb; clear bb c0z0 c1z0 c2z0; have c0z1 : w2.cell? ⟨w.heap.size + 1, 0, none⟩ = some (.int .i64 0) := B_z1.out.cell 0 rfl; have c1z1 : w2.cell? ⟨w.heap.size + 1, 1, none⟩ = some (.int .i64 0) := B_z1.out.cell 1 rfl; have c2z1 : w2.cell? ⟨w.heap.size + 1, 2, none⟩ = some (.int .i64 0) := B_z1.out.cell 2 rfl; have c3z1 : w2.cell? ⟨w.heap.size + 1, 3, none⟩ = some (.int .i64 0) := B_z1.out.cell 3 rfl; have f0z1 : w2.frozen? ⟨w.heap.size + 1, 0, none⟩ = false := B_z1.out.frozen 0; have f1z1 : w2.frozen? ⟨w.heap.size + 1, 1, none⟩ = false := B_z1.out.frozen 1; have f2z1 : w2.frozen? ⟨w.heap.size + 1, 2, none⟩ = false := B_z1.out.frozen 2; have f3z1 : w2.frozen? ⟨w.heap.size + 1, 3, none⟩ = false := B_z1.out.frozen 3; have c0z0 : w2.cell? ⟨w.heap.size, 0, none⟩ = some (.int .i64 x) := B_z0.out.cell 0 rfl; have c1z0 : w2.cell? ⟨w.heap.size, 1, none⟩ = some (.int .i64 y) := B_z0.out.cell 1 rfl; have c2z0 : w2.cell? ⟨w.heap.size, 2, none⟩ = some (.slice A n c) := B_z0.out.cell 2 rfl; have tk1x1 : True := trivial)
      | (clear tk1x1; go_at_call 35; refine (HR1.out _ _ _ (PL.below L.out (by exact sm))).mono ?_; rintro e w3 ⟨rfl, bb⟩; replace bb := nextw (w0 := w2) (by exact sm) bb; replace B_z0 := mv B_z0 bb; replace B_z1 := mv B_z1 bb; replace L := Lib.hid (PL.below L.out bb); replace HB := nx HB bb; clear bb c0z0 c1z0 c2z0; have c0z1 : w3.cell? ⟨w.heap.size + 1, 0, none⟩ = some (.int .i64 0) := B_z1.out.cell 0 rfl; have c1z1 : w3.cell? ⟨w.heap.size + 1, 1, none⟩ = some (.int .i64 0) := B_z1.out.cell 1 rfl; have c2z1 : w3.cell? ⟨w.heap.size + 1, 2, none⟩ = some (.int .i64 0) := B_z1.out.cell 2 rfl; have c3z1 : w3.cell? ⟨w.heap.size + 1, 3, none⟩ = some (.int .i64 0) := B_z1.out.cell 3 rfl; have f0z1 : w3.frozen? ⟨w.heap.size + 1, 0, none⟩ = false := B_z1.out.frozen 0; have f1z1 : w3.frozen? ⟨w.heap.size + 1, 1, none⟩ = false := B_z1.out.frozen 1; have f2z1 : w3.frozen? ⟨w.heap.size + 1, 2, none⟩ = false := B_z1.out.frozen 2; have f3z1 : w3.frozen? ⟨w.heap.size + 1, 3, none⟩ = false := B_z1.out.frozen 3; have c0z0 : w3.cell? ⟨w.heap.size, 0, none⟩ = some (.int .i64 x) := B_z0.out.cell 0 rfl; have c1z0 : w3.cell? ⟨w.heap.size, 1, none⟩ = some (.int .i64 y) := B_z0.out.cell 1 rfl; have c2z0 : w3.cell? ⟨w.heap.size, 2, none⟩ = some (.slice A n c) := B_z0.out.cell 2 rfl; have tk1x2 : True := trivial)
      | (clear tk1x2; go_at_call 35; refine (HR2.out _ _ _ (PL.below L.out (by exact sm))).mono ?_; rintro e w4 ⟨rfl, bb⟩; replace bb := nextw (w0 := w3) (by exact sm) bb; replace B_z0 := mv B_z0 bb; replace B_z1 := mv B_z1 bb; replace L := Lib.hid (PL.below L.out bb); replace HB := nx HB bb; clear bb c0z0 c1z0 c2z0; have c0z1 : w4.cell? ⟨w.heap.size + 1, 0, none⟩ = some (.int .i64 0) := B_z1.out.cell 0 rfl; have c1z1 : w4.cell? ⟨w.heap.size + 1, 1, none⟩ = some (.int .i64 0) := B_z1.out.cell 1 rfl; have c2z1 : w4.cell? ⟨w.heap.size + 1, 2, none⟩ = some (.int .i64 0) := B_z1.out.cell 2 rfl; have c3z1 : w4.cell? ⟨w.heap.size + 1, 3, none⟩ = some (.int .i64 0) := B_z1.out.cell 3 rfl; have f0z1 : w4.frozen? ⟨w.heap.size + 1, 0, none⟩ = false := B_z1.out.frozen 0; have f1z1 : w4.frozen? ⟨w.heap.size + 1, 1, none⟩ = false := B_z1.out.frozen 1; have f2z1 : w4.frozen? ⟨w.heap.size + 1, 2, none⟩ = false := B_z1.out.frozen 2; have f3z1 : w4.frozen? ⟨w.heap.size + 1, 3, none⟩ = false := B_z1.out.frozen 3; have c0z0 : w4.cell? ⟨w.heap.size, 0, none⟩ = some (.int .i64 x) := B_z0.out.cell 0 rfl; have c1z0 : w4.cell? ⟨w.heap.size, 1, none⟩ = some (.int .i64 y) := B_z0.out.cell 1 rfl; have c2z0 : w4.cell? ⟨w.heap.size, 2, none⟩ = some (.slice A n c) := B_z0.out.cell 2 rfl; have tk1x3 : True := trivial)
      | (clear tk1x3; go_at_call 35; refine (HR3.out _ _ _ (PL.below L.out (by exact sm))).mono ?_; rintro e w5 ⟨rfl, bb⟩; replace bb := nextw (w0 := w4) (by exact sm) bb; replace B_z0 := mv B_z0 bb; replace B_z1 := mv B_z1 bb; replace L := Lib.hid (PL.below L.out bb); replace HB := nx HB bb; clear bb c0z0 c1z0 c2z0; have c0z1 : w5.cell? ⟨w.heap.size + 1, 0, none⟩ = some (.int .i64 0) := B_z1.out.cell 0 rfl; have c1z1 : w5.cell? ⟨w.heap.size + 1, 1, none⟩ = some (.int .i64 0) := B_z1.out.cell 1 rfl; have c2z1 : w5.cell? ⟨w.heap.size + 1, 2, none⟩ = some (.int .i64 0) := B_z1.out.cell 2 rfl; have c3z1 : w5.cell? ⟨w.heap.size + 1, 3, none⟩ = some (.int .i64 0) := B_z1.out.cell 3 rfl; have f0z1 : w5.frozen? ⟨w.heap.size + 1, 0, none⟩ = false := B_z1.out.frozen 0; have f1z1 : w5.frozen? ⟨w.heap.size + 1, 1, none⟩ = false := B_z1.out.frozen 1; have f2z1 : w5.frozen? ⟨w.heap.size + 1, 2, none⟩ = false := B_z1.out.frozen 2; have f3z1 : w5.frozen? ⟨w.heap.size + 1, 3, none⟩ = false := B_z1.out.frozen 3; have c0z0 : w5.cell? ⟨w.heap.size, 0, none⟩ = some (.int .i64 x) := B_z0.out.cell 0 rfl; have c1z0 : w5.cell? ⟨w.heap.size, 1, none⟩ = some (.int .i64 y) := B_z0.out.cell 1 rfl; have c2z0 : w5.cell? ⟨w.heap.size, 2, none⟩ = some (.slice A n c) := B_z0.out.cell 2 rfl; have tk1x4 : True := trivial))
  clear c0z0 c1z0 c2z0
  obtain ⟨s0, s1, s2, s3⟩ := cells4 (stor4 B_z1 (.int .i64 (-S0)) (.int .i64 (-S1)) (.int .i64 S2) (.int .i64 S3))
  have HF := stb4 HB (y := w.heap.size + 1) (by omega) 0 (.int .i64 (-S0)) 1 (.int .i64 (-S1)) 2 (.int .i64 S2) 3 (.int .i64 S3)
  obtain ⟨c0z1, c1z1, c2z1, c3z1⟩ := cells4 B_z1
  obtain ⟨f0z1, f1z1, f2z1, f3z1⟩ := froz4 B_z1
  go_wp2_with fail
  exact bodyPost_ret (v := .tuple #[.agg #[.int .i64 (-S0), .int .i64 (-S1), .int .i64 S2, .int .i64 S3], .int .i64 0]) (by simp [results, Try.results18, go_sem, s0, s1, s2, s3]) rfl ⟨rfl, nextw HF.out (by exact sm)⟩

set_option maxRecDepth 100000 in
set_option maxHeartbeats 4000000 in
theorem RSum_w0 (x y u v : Int) (A : Option Addr) (n c : Nat) (l : List P2) (A2 : Option Addr) (n2 c2 : Nat) (l2 : List P2)  (hn : n ≤ 50) (hn2 : n2 ≤ 50) (dd0 : OkZ x y l) (dd1 : OkZ u v l2) (dd2 : OkZ (x + u) (y + v) (canL (l ++ l2))) (w : World) {lo_L hi_L : Nat} (L : PL w lo_L hi_L A n c l) {lo_L2 hi_L2 : Nat} (L2 : PL w lo_L2 hi_L2 A2 n2 c2 l2) :
    Calls Try.prog 32 #[.agg #[.int .i64 x, .int .i64 y, .slice A n c], .agg #[.int .i64 u, .int .i64 v, .slice A2 n2 c2]] w fun e w' => ∃ AC2 cC2, e = .returned (.tuple #[.agg #[.int .i64 (x + u), .int .i64 (y + v), .slice AC2 ((canL (l ++ l2)).length) cC2], .int .i64 0]) ∧ PL w' w.heap.size w'.heap.size AC2 ((canL (l ++ l2)).length) cC2 (canL (l ++ l2)) ∧ Below w.heap.size w w' := by
  replace L := Lib.hid L
  replace L2 := Lib.hid L2
  have dd0x1 := dd0.1.1
  have dd0x2 := dd0.1.2
  have dd0y1 := dd0.2.1.1
  have dd0y2 := dd0.2.1.2
  have dd1x1 := dd1.1.1
  have dd1x2 := dd1.1.2
  have dd1y1 := dd1.2.1.1
  have dd1y2 := dd1.2.1.2
  have dd2x1 := dd2.1.1
  have dd2x2 := dd2.1.2
  have dd2y1 := dd2.2.1.1
  have dd2y2 := dd2.2.1.2
  have hsl : (canL (l ++ l2)).length ≤ 200 := by have h1 := can_len (l ++ l2) _ ((okz_sb dd0).app (okz_sb dd1)); have h2 := okz_len dd0; have h3 := okz_len dd1; rw [List.length_append] at h1; omega
  obtain ⟨HB, B_z0, B_z1, B_z2⟩ := box3 w 24 #[.int .i64 x, .int .i64 y, .slice A n c] 24 #[.int .i64 u, .int .i64 v, .slice A2 n2 c2] 24 #[.int .i64 0, .int .i64 0, .slice none 0 0]
  replace L := Lib.hid (PL.below L.out HB.out)
  replace L2 := Lib.hid (PL.below L2.out HB.out)
  go_enter Try.func32, Try.ntmps32
  go_upto_region 1 with (fail)
  generalize ((w.alloc (.cells #[.int .i64 x, .int .i64 y, .slice A n c] 24)).alloc (.cells #[.int .i64 u, .int .i64 v, .slice A2 n2 c2] 24)).alloc (.cells #[.int .i64 0, .int .i64 0, .slice none 0 0] 24) = W0 at *
  obtain ⟨c0z0, c1z0, c2z0⟩ := cells3 B_z0
  go_wp2_with fail
  refine (RValid_yes dd0 (by omega) _ (PL.below L.out (by exact sm))).mono ?_
  clear c0z0 c1z0 c2z0
  rintro e w1 ⟨rfl, bb⟩
  replace bb := nextw (w0 := W0) (by exact sm) bb
  replace B_z0 := mv B_z0 bb
  replace B_z1 := mv B_z1 bb
  replace B_z2 := mv B_z2 bb
  replace L := Lib.hid (PL.below L.out bb)
  replace L2 := Lib.hid (PL.below L2.out bb)
  replace HB := nx HB bb
  clear bb
  obtain ⟨c0z1, c1z1, c2z1⟩ := cells3 B_z1
  go_wp2_with fail
  refine (RValid_yes dd1 (by omega) _ (PL.below L2.out (by exact sm))).mono ?_
  clear c0z1 c1z1 c2z1
  rintro e w2 ⟨rfl, bb⟩
  replace bb := nextw (w0 := w1) (by exact sm) bb
  replace B_z0 := mv B_z0 bb
  replace B_z1 := mv B_z1 bb
  replace B_z2 := mv B_z2 bb
  replace L := Lib.hid (PL.below L.out bb)
  replace L2 := Lib.hid (PL.below L2.out bb)
  replace HB := nx HB bb
  clear bb
  obtain ⟨c0z0, c1z0, c2z0⟩ := cells3 B_z0
  obtain ⟨c0z1, c1z1, c2z1⟩ := cells3 B_z1
  have sp_z0_LC2 : Hid (w.heap.size < w2.heap.size) := B_z0.out.lt
  have sp_z1_LC2 : Hid (w.heap.size + 1 < w2.heap.size) := B_z1.out.lt
  have sp_z2_LC2 : Hid (w.heap.size + 1 + 1 < w2.heap.size) := B_z2.out.lt
  have lw_LC2 : Hid (w.heap.size ≤ w2.heap.size) := HB.out.size
  go_wp2_with fail
  refine (Rplus_is x y _ _ _ l u v _ _ _ l2 (by have := okz_len dd0; have := L.out.len; omega) (by have := okz_len dd1; have := L2.out.len; omega) (okz_x dd0) (okz_y dd0) (okz_x dd1) (okz_y dd1) (((okz_sb dd0).app (okz_sb dd1)).mono (by decide)) _ (PL.below L.out (by exact sm)) (PL.below L2.out (by exact sm))).mono ?_
  clear c0z0 c1z0 c2z0 c0z1 c1z1 c2z1
  rintro e w3 ⟨AC2, cC2, rfl, LC2, bb⟩
  replace bb := nextw (w0 := w2) (by exact sm) bb
  replace B_z0 := mv B_z0 bb
  replace B_z1 := mv B_z1 bb
  replace B_z2 := mv B_z2 bb
  replace L := Lib.hid (PL.below L.out bb)
  replace L2 := Lib.hid (PL.below L2.out bb)
  replace HB := nx HB bb
  clear bb
  replace LC2 := Lib.hid LC2
  have lt_z3z0 := B_z0.out.lt
  have lt_z3z1 := B_z1.out.lt
  have lt_z3z2 := B_z2.out.lt
  obtain ⟨bb, B_z3⟩ := box1 w3 24 #[.int .i64 (x + u), .int .i64 (y + v), .slice AC2 ((canL (l ++ l2)).length) cC2]
  replace bb := bb.out
  replace B_z0 := mv B_z0 bb
  replace B_z1 := mv B_z1 bb
  replace B_z2 := mv B_z2 bb
  replace L := Lib.hid (PL.below L.out bb)
  replace L2 := Lib.hid (PL.below L2.out bb)
  replace LC2 := Lib.hid (PL.below LC2.out bb)
  replace HB := nx HB bb
  clear bb
  go_upto_region 4 with (fail)
  generalize w3.alloc (.cells #[.int .i64 (x + u), .int .i64 (y + v), .slice AC2 ((canL (l ++ l2)).length) cC2] 24) = WN2 at *
  obtain ⟨c0z3, c1z3, c2z3⟩ := cells3 B_z3
  go_wp2_with fail
  refine (RValid_yes dd2 (by omega) _ (PL.below LC2.out (by exact sm))).mono ?_
  clear c0z3 c1z3 c2z3
  rintro e w4 ⟨rfl, bb⟩
  replace bb := nextw (w0 := WN2) (by exact sm) bb
  replace B_z0 := mv B_z0 bb
  replace B_z1 := mv B_z1 bb
  replace B_z2 := mv B_z2 bb
  replace B_z3 := mv B_z3 bb
  replace L := Lib.hid (PL.below L.out bb)
  replace L2 := Lib.hid (PL.below L2.out bb)
  replace LC2 := Lib.hid (PL.below LC2.out bb)
  replace HB := nx HB bb
  clear bb
  obtain ⟨c0z3, c1z3, c2z3⟩ := cells3 B_z3
  obtain ⟨s0, s1, s2⟩ := cells3 (stor3 B_z2 (.int .i64 (x + u)) (.int .i64 (y + v)) (.slice AC2 ((canL (l ++ l2)).length) cC2))
  have HF := stb3 HB (y := w.heap.size + 1 + 1) (by omega) 0 (.int .i64 (x + u)) 1 (.int .i64 (y + v)) 2 (.slice AC2 ((canL (l ++ l2)).length) cC2)
  obtain ⟨c0z2, c1z2, c2z2⟩ := cells3 B_z2
  obtain ⟨f0z2, f1z2, f2z2⟩ := froz3 B_z2
  go_wp2_with fail
  exact bodyPost_ret (v := .tuple #[.agg #[.int .i64 (x + u), .int .i64 (y + v), .slice AC2 ((canL (l ++ l2)).length) cC2], .int .i64 0]) (by simp [results, Try.results32, go_sem, s0, s1, s2]) rfl ⟨AC2, cC2, rfl, PL.outw (PL.below (PL.set (PL.set (PL.set LC2.out (Or.inl sp_z2_LC2.out) 0 (.int .i64 (x + u))) (Or.inl sp_z2_LC2.out) 1 (.int .i64 (y + v))) (Or.inl sp_z2_LC2.out) 2 (.slice AC2 ((canL (l ++ l2)).length) cC2)) (by exact sm)) lw_LC2.out, nextw HF.out (by exact sm)⟩

set_option maxRecDepth 100000 in
set_option maxHeartbeats 4000000 in
theorem RSum_w1 (x y u v : Int) (A : Option Addr) (n c : Nat) (l : List P2) (A2 : Option Addr) (n2 c2 : Nat) (l2 : List P2)  (hn : n ≤ 50) (hn2 : n2 ≤ 50) (dd0 : ¬ (OkZ x y l)) (w : World) {lo_L hi_L : Nat} (L : PL w lo_L hi_L A n c l) {lo_L2 hi_L2 : Nat} (L2 : PL w lo_L2 hi_L2 A2 n2 c2 l2) :
    Calls Try.prog 32 #[.agg #[.int .i64 x, .int .i64 y, .slice A n c], .agg #[.int .i64 u, .int .i64 v, .slice A2 n2 c2]] w fun e w' => e = .returned (.tuple #[.agg #[.int .i64 0, .int .i64 0, .slice none 0 0], .int .i64 1]) ∧ Below w.heap.size w w' := by
  replace L := Lib.hid L
  replace L2 := Lib.hid L2
  obtain ⟨HB, B_z0, B_z1, B_z2⟩ := box3 w 24 #[.int .i64 x, .int .i64 y, .slice A n c] 24 #[.int .i64 u, .int .i64 v, .slice A2 n2 c2] 24 #[.int .i64 0, .int .i64 0, .slice none 0 0]
  replace L := Lib.hid (PL.below L.out HB.out)
  replace L2 := Lib.hid (PL.below L2.out HB.out)
  go_enter Try.func32, Try.ntmps32
  go_upto_region 1 with (fail)
  generalize ((w.alloc (.cells #[.int .i64 x, .int .i64 y, .slice A n c] 24)).alloc (.cells #[.int .i64 u, .int .i64 v, .slice A2 n2 c2] 24)).alloc (.cells #[.int .i64 0, .int .i64 0, .slice none 0 0] 24) = W0 at *
  obtain ⟨c0z0, c1z0, c2z0⟩ := cells3 B_z0
  go_wp2_with fail
  refine (RValid_no dd0 (by omega) _ (PL.below L.out (by exact sm))).mono ?_
  clear c0z0 c1z0 c2z0
  rintro e w1 ⟨rfl, bb⟩
  replace bb := nextw (w0 := W0) (by exact sm) bb
  replace B_z0 := mv B_z0 bb
  replace B_z1 := mv B_z1 bb
  replace B_z2 := mv B_z2 bb
  replace L := Lib.hid (PL.below L.out bb)
  replace L2 := Lib.hid (PL.below L2.out bb)
  replace HB := nx HB bb
  clear bb
  obtain ⟨s0, s1, s2⟩ := cells3 (stor3 B_z2 (.int .i64 0) (.int .i64 0) (.slice none 0 0))
  have HF := stb3 HB (y := w.heap.size + 1 + 1) (by omega) 0 (.int .i64 0) 1 (.int .i64 0) 2 (.slice none 0 0)
  obtain ⟨c0z2, c1z2, c2z2⟩ := cells3 B_z2
  obtain ⟨f0z2, f1z2, f2z2⟩ := froz3 B_z2
  go_wp2_with fail
  exact bodyPost_ret (v := .tuple #[.agg #[.int .i64 0, .int .i64 0, .slice none 0 0], .int .i64 1]) (by simp [results, Try.results32, go_sem, s0, s1, s2]) rfl ⟨rfl, nextw HF.out (by exact sm)⟩

set_option maxRecDepth 100000 in
set_option maxHeartbeats 4000000 in
theorem RSum_w2 (x y u v : Int) (A : Option Addr) (n c : Nat) (l : List P2) (A2 : Option Addr) (n2 c2 : Nat) (l2 : List P2)  (hn : n ≤ 50) (hn2 : n2 ≤ 50) (dd0 : OkZ x y l) (dd1 : ¬ (OkZ u v l2)) (w : World) {lo_L hi_L : Nat} (L : PL w lo_L hi_L A n c l) {lo_L2 hi_L2 : Nat} (L2 : PL w lo_L2 hi_L2 A2 n2 c2 l2) :
    Calls Try.prog 32 #[.agg #[.int .i64 x, .int .i64 y, .slice A n c], .agg #[.int .i64 u, .int .i64 v, .slice A2 n2 c2]] w fun e w' => e = .returned (.tuple #[.agg #[.int .i64 0, .int .i64 0, .slice none 0 0], .int .i64 1]) ∧ Below w.heap.size w w' := by
  replace L := Lib.hid L
  replace L2 := Lib.hid L2
  have dd0x1 := dd0.1.1
  have dd0x2 := dd0.1.2
  have dd0y1 := dd0.2.1.1
  have dd0y2 := dd0.2.1.2
  obtain ⟨HB, B_z0, B_z1, B_z2⟩ := box3 w 24 #[.int .i64 x, .int .i64 y, .slice A n c] 24 #[.int .i64 u, .int .i64 v, .slice A2 n2 c2] 24 #[.int .i64 0, .int .i64 0, .slice none 0 0]
  replace L := Lib.hid (PL.below L.out HB.out)
  replace L2 := Lib.hid (PL.below L2.out HB.out)
  go_enter Try.func32, Try.ntmps32
  go_upto_region 1 with (fail)
  generalize ((w.alloc (.cells #[.int .i64 x, .int .i64 y, .slice A n c] 24)).alloc (.cells #[.int .i64 u, .int .i64 v, .slice A2 n2 c2] 24)).alloc (.cells #[.int .i64 0, .int .i64 0, .slice none 0 0] 24) = W0 at *
  obtain ⟨c0z0, c1z0, c2z0⟩ := cells3 B_z0
  go_wp2_with fail
  refine (RValid_yes dd0 (by omega) _ (PL.below L.out (by exact sm))).mono ?_
  clear c0z0 c1z0 c2z0
  rintro e w1 ⟨rfl, bb⟩
  replace bb := nextw (w0 := W0) (by exact sm) bb
  replace B_z0 := mv B_z0 bb
  replace B_z1 := mv B_z1 bb
  replace B_z2 := mv B_z2 bb
  replace L := Lib.hid (PL.below L.out bb)
  replace L2 := Lib.hid (PL.below L2.out bb)
  replace HB := nx HB bb
  clear bb
  obtain ⟨c0z1, c1z1, c2z1⟩ := cells3 B_z1
  go_wp2_with fail
  refine (RValid_no dd1 (by omega) _ (PL.below L2.out (by exact sm))).mono ?_
  clear c0z1 c1z1 c2z1
  rintro e w2 ⟨rfl, bb⟩
  replace bb := nextw (w0 := w1) (by exact sm) bb
  replace B_z0 := mv B_z0 bb
  replace B_z1 := mv B_z1 bb
  replace B_z2 := mv B_z2 bb
  replace L := Lib.hid (PL.below L.out bb)
  replace L2 := Lib.hid (PL.below L2.out bb)
  replace HB := nx HB bb
  clear bb
  obtain ⟨s0, s1, s2⟩ := cells3 (stor3 B_z2 (.int .i64 0) (.int .i64 0) (.slice none 0 0))
  have HF := stb3 HB (y := w.heap.size + 1 + 1) (by omega) 0 (.int .i64 0) 1 (.int .i64 0) 2 (.slice none 0 0)
  obtain ⟨c0z2, c1z2, c2z2⟩ := cells3 B_z2
  obtain ⟨f0z2, f1z2, f2z2⟩ := froz3 B_z2
  go_wp2_with fail
  exact bodyPost_ret (v := .tuple #[.agg #[.int .i64 0, .int .i64 0, .slice none 0 0], .int .i64 1]) (by simp [results, Try.results32, go_sem, s0, s1, s2]) rfl ⟨rfl, nextw HF.out (by exact sm)⟩

set_option maxRecDepth 100000 in
set_option maxHeartbeats 4000000 in
theorem RSum_w3 (x y u v : Int) (A : Option Addr) (n c : Nat) (l : List P2) (A2 : Option Addr) (n2 c2 : Nat) (l2 : List P2)  (hn : n ≤ 50) (hn2 : n2 ≤ 50) (dd0 : OkZ x y l) (dd1 : OkZ u v l2) (dd2 : ¬ (OkZ (x + u) (y + v) (canL (l ++ l2)))) (w : World) {lo_L hi_L : Nat} (L : PL w lo_L hi_L A n c l) {lo_L2 hi_L2 : Nat} (L2 : PL w lo_L2 hi_L2 A2 n2 c2 l2) :
    Calls Try.prog 32 #[.agg #[.int .i64 x, .int .i64 y, .slice A n c], .agg #[.int .i64 u, .int .i64 v, .slice A2 n2 c2]] w fun e w' => e = .returned (.tuple #[.agg #[.int .i64 0, .int .i64 0, .slice none 0 0], .int .i64 6]) ∧ Below w.heap.size w w' := by
  replace L := Lib.hid L
  replace L2 := Lib.hid L2
  have dd0x1 := dd0.1.1
  have dd0x2 := dd0.1.2
  have dd0y1 := dd0.2.1.1
  have dd0y2 := dd0.2.1.2
  have dd1x1 := dd1.1.1
  have dd1x2 := dd1.1.2
  have dd1y1 := dd1.2.1.1
  have dd1y2 := dd1.2.1.2
  have hsl : (canL (l ++ l2)).length ≤ 200 := by have h1 := can_len (l ++ l2) _ ((okz_sb dd0).app (okz_sb dd1)); have h2 := okz_len dd0; have h3 := okz_len dd1; rw [List.length_append] at h1; omega
  obtain ⟨HB, B_z0, B_z1, B_z2⟩ := box3 w 24 #[.int .i64 x, .int .i64 y, .slice A n c] 24 #[.int .i64 u, .int .i64 v, .slice A2 n2 c2] 24 #[.int .i64 0, .int .i64 0, .slice none 0 0]
  replace L := Lib.hid (PL.below L.out HB.out)
  replace L2 := Lib.hid (PL.below L2.out HB.out)
  go_enter Try.func32, Try.ntmps32
  go_upto_region 1 with (fail)
  generalize ((w.alloc (.cells #[.int .i64 x, .int .i64 y, .slice A n c] 24)).alloc (.cells #[.int .i64 u, .int .i64 v, .slice A2 n2 c2] 24)).alloc (.cells #[.int .i64 0, .int .i64 0, .slice none 0 0] 24) = W0 at *
  obtain ⟨c0z0, c1z0, c2z0⟩ := cells3 B_z0
  go_wp2_with fail
  refine (RValid_yes dd0 (by omega) _ (PL.below L.out (by exact sm))).mono ?_
  clear c0z0 c1z0 c2z0
  rintro e w1 ⟨rfl, bb⟩
  replace bb := nextw (w0 := W0) (by exact sm) bb
  replace B_z0 := mv B_z0 bb
  replace B_z1 := mv B_z1 bb
  replace B_z2 := mv B_z2 bb
  replace L := Lib.hid (PL.below L.out bb)
  replace L2 := Lib.hid (PL.below L2.out bb)
  replace HB := nx HB bb
  clear bb
  obtain ⟨c0z1, c1z1, c2z1⟩ := cells3 B_z1
  go_wp2_with fail
  refine (RValid_yes dd1 (by omega) _ (PL.below L2.out (by exact sm))).mono ?_
  clear c0z1 c1z1 c2z1
  rintro e w2 ⟨rfl, bb⟩
  replace bb := nextw (w0 := w1) (by exact sm) bb
  replace B_z0 := mv B_z0 bb
  replace B_z1 := mv B_z1 bb
  replace B_z2 := mv B_z2 bb
  replace L := Lib.hid (PL.below L.out bb)
  replace L2 := Lib.hid (PL.below L2.out bb)
  replace HB := nx HB bb
  clear bb
  obtain ⟨c0z0, c1z0, c2z0⟩ := cells3 B_z0
  obtain ⟨c0z1, c1z1, c2z1⟩ := cells3 B_z1
  have sp_z0_LC2 : Hid (w.heap.size < w2.heap.size) := B_z0.out.lt
  have sp_z1_LC2 : Hid (w.heap.size + 1 < w2.heap.size) := B_z1.out.lt
  have sp_z2_LC2 : Hid (w.heap.size + 1 + 1 < w2.heap.size) := B_z2.out.lt
  have lw_LC2 : Hid (w.heap.size ≤ w2.heap.size) := HB.out.size
  go_wp2_with fail
  refine (Rplus_is x y _ _ _ l u v _ _ _ l2 (by have := okz_len dd0; have := L.out.len; omega) (by have := okz_len dd1; have := L2.out.len; omega) (okz_x dd0) (okz_y dd0) (okz_x dd1) (okz_y dd1) (((okz_sb dd0).app (okz_sb dd1)).mono (by decide)) _ (PL.below L.out (by exact sm)) (PL.below L2.out (by exact sm))).mono ?_
  clear c0z0 c1z0 c2z0 c0z1 c1z1 c2z1
  rintro e w3 ⟨AC2, cC2, rfl, LC2, bb⟩
  replace bb := nextw (w0 := w2) (by exact sm) bb
  replace B_z0 := mv B_z0 bb
  replace B_z1 := mv B_z1 bb
  replace B_z2 := mv B_z2 bb
  replace L := Lib.hid (PL.below L.out bb)
  replace L2 := Lib.hid (PL.below L2.out bb)
  replace HB := nx HB bb
  clear bb
  replace LC2 := Lib.hid LC2
  have lt_z3z0 := B_z0.out.lt
  have lt_z3z1 := B_z1.out.lt
  have lt_z3z2 := B_z2.out.lt
  obtain ⟨bb, B_z3⟩ := box1 w3 24 #[.int .i64 (x + u), .int .i64 (y + v), .slice AC2 ((canL (l ++ l2)).length) cC2]
  replace bb := bb.out
  replace B_z0 := mv B_z0 bb
  replace B_z1 := mv B_z1 bb
  replace B_z2 := mv B_z2 bb
  replace L := Lib.hid (PL.below L.out bb)
  replace L2 := Lib.hid (PL.below L2.out bb)
  replace LC2 := Lib.hid (PL.below LC2.out bb)
  replace HB := nx HB bb
  clear bb
  go_upto_region 4 with (fail)
  generalize w3.alloc (.cells #[.int .i64 (x + u), .int .i64 (y + v), .slice AC2 ((canL (l ++ l2)).length) cC2] 24) = WN2 at *
  obtain ⟨c0z3, c1z3, c2z3⟩ := cells3 B_z3
  go_wp2_with fail
  refine (RValid_no dd2 (by omega) _ (PL.below LC2.out (by exact sm))).mono ?_
  clear c0z3 c1z3 c2z3
  rintro e w4 ⟨rfl, bb⟩
  replace bb := nextw (w0 := WN2) (by exact sm) bb
  replace B_z0 := mv B_z0 bb
  replace B_z1 := mv B_z1 bb
  replace B_z2 := mv B_z2 bb
  replace B_z3 := mv B_z3 bb
  replace L := Lib.hid (PL.below L.out bb)
  replace L2 := Lib.hid (PL.below L2.out bb)
  replace LC2 := Lib.hid (PL.below LC2.out bb)
  replace HB := nx HB bb
  clear bb
  obtain ⟨s0, s1, s2⟩ := cells3 (stor3 B_z2 (.int .i64 0) (.int .i64 0) (.slice none 0 0))
  have HF := stb3 HB (y := w.heap.size + 1 + 1) (by omega) 0 (.int .i64 0) 1 (.int .i64 0) 2 (.slice none 0 0)
  obtain ⟨c0z2, c1z2, c2z2⟩ := cells3 B_z2
  obtain ⟨f0z2, f1z2, f2z2⟩ := froz3 B_z2
  go_wp2_with fail
  exact bodyPost_ret (v := .tuple #[.agg #[.int .i64 0, .int .i64 0, .slice none 0 0], .int .i64 6]) (by simp [results, Try.results32, go_sem, s0, s1, s2]) rfl ⟨rfl, nextw HF.out (by exact sm)⟩

theorem okr_neg {x0 y0 x1 y1 : Int} (h : OkR x0 y0 x1 y1) : OkR (-x1) (-y1) (-x0) (-y0) := by
  obtain ⟨⟨ra, rb⟩, ⟨rc, rd⟩, ⟨re, rf⟩, ⟨rg, rh⟩, ri, rj⟩ := h
  exact ⟨⟨by omega, by omega⟩, ⟨by omega, by omega⟩, ⟨by omega, by omega⟩, ⟨by omega, by omega⟩, by omega, by omega⟩

set_option maxRecDepth 100000 in
set_option maxHeartbeats 4000000 in
theorem RApart_w0 (x y x0 y0 x1 y1 : Int) (A : Option Addr) (n c : Nat) (l : List P2)  (hn : n ≤ 50) (cR : List P2) (RX RY : Int) (hcR : canL [(-x0 - -x1, 0), (0, -y0 - -y1)] = cR) (hRX : -x1 + -x0 = RX) (hRY : -y1 + -y0 = RY) (dd0 : OkZ x y l) (dd1 : OkR x0 y0 x1 y1) (w : World) {lo_L hi_L : Nat} (L : PL w lo_L hi_L A n c l) :
    Calls Try.prog 41 #[.agg #[.int .i64 x, .int .i64 y, .slice A n c], .agg #[.int .i64 x0, .int .i64 y0, .int .i64 x1, .int .i64 y1]] w fun e w' => e = .returned (.bool (!decide (inL (cornL ((x + RX), (y + RY)) (canL (l ++ cR))) (0, 0)))) ∧ Below w.heap.size w w' := by
  replace L := Lib.hid L
  have H1 := Lib.hid (fun w => ordered_is x0 y0 x1 y1 w)
  have HRC := Lib.hid (fun (w : World) => RrectW_w0 (-x1) (-y1) (-x0) (-y0) (okr_neg dd1) w)
  rw [hcR, hRX, hRY] at HRC
  have hrl : cR.length ≤ 2 := by rw [← hcR]; exact (can_len _ _ (rect_sb (okr_neg dd1)))
  have HSR : Hid (SB cR 4194304) := by rw [← hcR]; exact (rect_sb (okr_neg dd1)).can
  have HSL : Hid (SB (l ++ cR) 16777216) := ((okz_sb dd0).app HSR.out).mono (by decide)
  have hal : (canL (l ++ cR)).length ≤ 18 := by have h1 := can_len (l ++ cR) _ HSL.out; have h3 := okz_len dd0; rw [List.length_append] at h1; omega
  obtain ⟨⟨Ra, Rb⟩, ⟨Rc, Rd⟩, ⟨Re, Rf⟩, ⟨Rg, Rh⟩, Ri, Rj⟩ := (id dd1 : OkR x0 y0 x1 y1)
  have hrx1 : -4194304 ≤ RX := by omega
  have hrx2 : RX ≤ 4194304 := by omega
  have hry1 : -4194304 ≤ RY := by omega
  have hry2 : RY ≤ 4194304 := by omega
  clear hcR hRX hRY
  have dd0x1 := dd0.1.1
  have dd0x2 := dd0.1.2
  have dd0y1 := dd0.2.1.1
  have dd0y2 := dd0.2.1.2
  obtain ⟨⟨dd1a, dd1b⟩, ⟨dd1c, dd1d⟩, ⟨dd1e, dd1f⟩, ⟨dd1g, dd1h⟩, dd1i, dd1j⟩ := (id dd1 : OkR x0 y0 x1 y1)
  obtain ⟨HB, B_z0, B_z1⟩ := box2 w 24 #[.int .i64 x, .int .i64 y, .slice A n c] 31 #[.int .i64 x0, .int .i64 y0, .int .i64 x1, .int .i64 y1]
  replace L := Lib.hid (PL.below L.out HB.out)
  go_enter Try.func41, Try.ntmps41
  go_upto_region 1 with (fail)
  generalize (w.alloc (.cells #[.int .i64 x, .int .i64 y, .slice A n c] 24)).alloc (.cells #[.int .i64 x0, .int .i64 y0, .int .i64 x1, .int .i64 y1] 31) = W0 at *
  obtain ⟨c0z0, c1z0, c2z0⟩ := cells3 B_z0
  go_wp2_with fail
  refine (RValid_yes dd0 (by omega) _ (PL.below L.out (by exact sm))).mono ?_
  clear c0z0 c1z0 c2z0
  rintro e w1 ⟨rfl, bb⟩
  replace bb := nextw (w0 := W0) (by exact sm) bb
  replace B_z0 := mv B_z0 bb
  replace B_z1 := mv B_z1 bb
  replace L := Lib.hid (PL.below L.out bb)
  replace HB := nx HB bb
  clear bb
  obtain ⟨c0z1, c1z1, c2z1, c3z1⟩ := cells4 B_z1
  go_wp2_with fail
  refine (H1.out _).mono ?_
  clear c0z1 c1z1 c2z1 c3z1
  rintro e w2 ⟨rfl, bb⟩
  replace bb := nextw (w0 := w1) (by exact sm) bb
  replace B_z0 := mv B_z0 bb
  replace B_z1 := mv B_z1 bb
  replace L := Lib.hid (PL.below L.out bb)
  replace HB := nx HB bb
  clear bb
  obtain ⟨c0z1, c1z1, c2z1, c3z1⟩ := cells4 B_z1
  have sp_z0_LC2 : Hid (w.heap.size < w2.heap.size) := B_z0.out.lt
  have sp_z1_LC2 : Hid (w.heap.size + 1 < w2.heap.size) := B_z1.out.lt
  have lw_LC2 : Hid (w.heap.size ≤ w2.heap.size) := HB.out.size
  go_wp2_with fail
  refine (HRC.out _).mono ?_
  clear c0z1 c1z1 c2z1 c3z1
  rintro e w3 ⟨AC2, cC2, rfl, LC2, bb⟩
  replace bb := nextw (w0 := w2) (by exact sm) bb
  replace B_z0 := mv B_z0 bb
  replace B_z1 := mv B_z1 bb
  replace L := Lib.hid (PL.below L.out bb)
  replace HB := nx HB bb
  clear bb
  replace LC2 := Lib.hid LC2
  have lt_z2z0 := B_z0.out.lt
  have lt_z2z1 := B_z1.out.lt
  obtain ⟨bb, B_z2⟩ := box1 w3 24 #[.int .i64 RX, .int .i64 RY, .slice AC2 ((cR).length) cC2]
  replace bb := bb.out
  replace B_z0 := mv B_z0 bb
  replace B_z1 := mv B_z1 bb
  replace L := Lib.hid (PL.below L.out bb)
  replace LC2 := Lib.hid (PL.below LC2.out bb)
  replace HB := nx HB bb
  clear bb
  go_upto_region 4 with (fail)
  generalize w3.alloc (.cells #[.int .i64 RX, .int .i64 RY, .slice AC2 ((cR).length) cC2] 24) = WN2 at *
  obtain ⟨c0z0, c1z0, c2z0⟩ := cells3 B_z0
  obtain ⟨c0z2, c1z2, c2z2⟩ := cells3 B_z2
  have sp_z0_LC3 : Hid (w.heap.size < WN2.heap.size) := B_z0.out.lt
  have sp_z1_LC3 : Hid (w.heap.size + 1 < WN2.heap.size) := B_z1.out.lt
  have sp_z2_LC3 : Hid (w3.heap.size < WN2.heap.size) := B_z2.out.lt
  have lw_LC3 : Hid (w.heap.size ≤ WN2.heap.size) := HB.out.size
  go_wp2_with fail
  refine (Rplus_is x y _ _ _ l RX RY _ _ _ cR (by have := okz_len dd0; have := L.out.len; omega) (by omega) (okz_x dd0) (okz_y dd0) ⟨by omega, by omega⟩ ⟨by omega, by omega⟩ HSL.out _ (PL.below L.out (by exact sm)) (PL.below LC2.out (by exact sm))).mono ?_
  clear c0z0 c1z0 c2z0 c0z2 c1z2 c2z2
  rintro e w4 ⟨AC3, cC3, rfl, LC3, bb⟩
  replace bb := nextw (w0 := WN2) (by exact sm) bb
  replace B_z0 := mv B_z0 bb
  replace B_z1 := mv B_z1 bb
  replace B_z2 := mv B_z2 bb
  replace L := Lib.hid (PL.below L.out bb)
  replace LC2 := Lib.hid (PL.below LC2.out bb)
  replace HB := nx HB bb
  clear bb
  replace LC3 := Lib.hid LC3
  have sp_z0_LC4 : Hid (w.heap.size < w4.heap.size) := B_z0.out.lt
  have sp_z1_LC4 : Hid (w.heap.size + 1 < w4.heap.size) := B_z1.out.lt
  have sp_z2_LC4 : Hid (w3.heap.size < w4.heap.size) := B_z2.out.lt
  have lw_LC4 : Hid (w.heap.size ≤ w4.heap.size) := HB.out.size
  go_wp2_with fail
  refine (RCorn_is (x + RX) (y + RY) _ _ _ (canL (l ++ cR)) (by omega) ⟨by omega, by omega⟩ ⟨by omega, by omega⟩ HSL.out.can _ (PL.below LC3.out (by exact sm))).mono ?_
  rintro e w5 ⟨AC4, cC4, rfl, LC4, bb⟩
  replace bb := nextw (w0 := w4) (by exact sm) bb
  replace B_z0 := mv B_z0 bb
  replace B_z1 := mv B_z1 bb
  replace B_z2 := mv B_z2 bb
  replace L := Lib.hid (PL.below L.out bb)
  replace LC2 := Lib.hid (PL.below LC2.out bb)
  replace LC3 := Lib.hid (PL.below LC3.out bb)
  replace HB := nx HB bb
  clear bb
  replace LC4 := Lib.hid LC4
  go_wp2_with fail
  refine (Rin_is 0 0 _ _ _ (cornL ((x + RX), (y + RY)) (canL (l ++ cR))) (corn_16 _ (by omega)) (corn_in ⟨by omega, by omega⟩ ⟨by omega, by omega⟩ HSL.out.can) ⟨⟨by omega, by omega⟩, by omega, by omega⟩ _ (PL.below LC4.out (by exact sm))).mono ?_
  rintro e w6 ⟨rfl, bb⟩
  replace bb := nextw (w0 := w5) (by exact sm) bb
  replace B_z0 := mv B_z0 bb
  replace B_z1 := mv B_z1 bb
  replace B_z2 := mv B_z2 bb
  replace L := Lib.hid (PL.below L.out bb)
  replace LC2 := Lib.hid (PL.below LC2.out bb)
  replace LC3 := Lib.hid (PL.below LC3.out bb)
  replace LC4 := Lib.hid (PL.below LC4.out bb)
  replace HB := nx HB bb
  clear bb
  go_wp2
  go_ret
  exact ⟨(by first | rfl | exact rbt (by omega) | exact rbf (by omega)), nextw HB.out (by exact sm)⟩

set_option maxRecDepth 100000 in
set_option maxHeartbeats 4000000 in
theorem RApart_w1 (x y x0 y0 x1 y1 : Int) (A : Option Addr) (n c : Nat) (l : List P2)  (hn : n ≤ 50) (cR : List P2) (RX RY : Int) (hcR : canL [(-x0 - -x1, 0), (0, -y0 - -y1)] = cR) (hRX : -x1 + -x0 = RX) (hRY : -y1 + -y0 = RY) (dd0 : ¬ (OkZ x y l)) (w : World) {lo_L hi_L : Nat} (L : PL w lo_L hi_L A n c l) :
    Calls Try.prog 41 #[.agg #[.int .i64 x, .int .i64 y, .slice A n c], .agg #[.int .i64 x0, .int .i64 y0, .int .i64 x1, .int .i64 y1]] w fun e w' => e = .returned (.bool false) ∧ Below w.heap.size w w' := by
  replace L := Lib.hid L
  obtain ⟨HB, B_z0, B_z1⟩ := box2 w 24 #[.int .i64 x, .int .i64 y, .slice A n c] 31 #[.int .i64 x0, .int .i64 y0, .int .i64 x1, .int .i64 y1]
  replace L := Lib.hid (PL.below L.out HB.out)
  go_enter Try.func41, Try.ntmps41
  go_upto_region 1 with (fail)
  generalize (w.alloc (.cells #[.int .i64 x, .int .i64 y, .slice A n c] 24)).alloc (.cells #[.int .i64 x0, .int .i64 y0, .int .i64 x1, .int .i64 y1] 31) = W0 at *
  obtain ⟨c0z0, c1z0, c2z0⟩ := cells3 B_z0
  go_wp2_with fail
  refine (RValid_no dd0 (by omega) _ (PL.below L.out (by exact sm))).mono ?_
  clear c0z0 c1z0 c2z0
  rintro e w1 ⟨rfl, bb⟩
  replace bb := nextw (w0 := W0) (by exact sm) bb
  replace B_z0 := mv B_z0 bb
  replace B_z1 := mv B_z1 bb
  replace L := Lib.hid (PL.below L.out bb)
  replace HB := nx HB bb
  clear bb
  go_wp2
  go_ret
  exact ⟨(by first | rfl | exact rbt (by omega) | exact rbf (by omega)), nextw HB.out (by exact sm)⟩

set_option maxRecDepth 100000 in
set_option maxHeartbeats 4000000 in
theorem RApart_w2 (x y x0 y0 x1 y1 : Int) (A : Option Addr) (n c : Nat) (l : List P2)  (hn : n ≤ 50) (cR : List P2) (RX RY : Int) (hcR : canL [(-x0 - -x1, 0), (0, -y0 - -y1)] = cR) (hRX : -x1 + -x0 = RX) (hRY : -y1 + -y0 = RY) (dd0 : OkZ x y l) (dd1 : ¬ (OkR x0 y0 x1 y1)) (w : World) {lo_L hi_L : Nat} (L : PL w lo_L hi_L A n c l) :
    Calls Try.prog 41 #[.agg #[.int .i64 x, .int .i64 y, .slice A n c], .agg #[.int .i64 x0, .int .i64 y0, .int .i64 x1, .int .i64 y1]] w fun e w' => e = .returned (.bool false) ∧ Below w.heap.size w w' := by
  replace L := Lib.hid L
  have H1 := Lib.hid (fun w => ordered_is x0 y0 x1 y1 w)
  have dd0x1 := dd0.1.1
  have dd0x2 := dd0.1.2
  have dd0y1 := dd0.2.1.1
  have dd0y2 := dd0.2.1.2
  obtain ⟨HB, B_z0, B_z1⟩ := box2 w 24 #[.int .i64 x, .int .i64 y, .slice A n c] 31 #[.int .i64 x0, .int .i64 y0, .int .i64 x1, .int .i64 y1]
  replace L := Lib.hid (PL.below L.out HB.out)
  go_enter Try.func41, Try.ntmps41
  go_upto_region 1 with (fail)
  generalize (w.alloc (.cells #[.int .i64 x, .int .i64 y, .slice A n c] 24)).alloc (.cells #[.int .i64 x0, .int .i64 y0, .int .i64 x1, .int .i64 y1] 31) = W0 at *
  obtain ⟨c0z0, c1z0, c2z0⟩ := cells3 B_z0
  go_wp2_with fail
  refine (RValid_yes dd0 (by omega) _ (PL.below L.out (by exact sm))).mono ?_
  clear c0z0 c1z0 c2z0
  rintro e w1 ⟨rfl, bb⟩
  replace bb := nextw (w0 := W0) (by exact sm) bb
  replace B_z0 := mv B_z0 bb
  replace B_z1 := mv B_z1 bb
  replace L := Lib.hid (PL.below L.out bb)
  replace HB := nx HB bb
  clear bb
  obtain ⟨c0z1, c1z1, c2z1, c3z1⟩ := cells4 B_z1
  go_wp2_with fail
  refine (H1.out _).mono ?_
  clear c0z1 c1z1 c2z1 c3z1
  rintro e w2 ⟨rfl, bb⟩
  replace bb := nextw (w0 := w1) (by exact sm) bb
  replace B_z0 := mv B_z0 bb
  replace B_z1 := mv B_z1 bb
  replace L := Lib.hid (PL.below L.out bb)
  replace HB := nx HB bb
  clear bb
  go_wp2
  go_ret
  exact ⟨(by first | rfl | exact rbt (by omega) | exact rbf (by omega)), nextw HB.out (by exact sm)⟩
end Go.Proofs.Ytpjbkadhmjlpfaa
