/- zonogon.Same. -/
import Derived.Test.YtpjbkadhmjlpfaaZ13
set_option linter.unusedVariables false
set_option linter.unusedSimpArgs false
namespace Go.Proofs.Ytpjbkadhmjlpfaa
open Go Go.RowKit Hd

theorem field_gens (x y : Int) (A : Option Addr) (n c : Nat) (w : World) : (Instr.field 24 (.agg #[.int .i64 x, .int .i64 y, .slice A n c]) 2).run Try.prog w = .ok (.slice A n c) w := by kernel_rfl

set_option maxRecDepth 100000 in
set_option maxHeartbeats 4000000 in
theorem SameA_w0 (x y : Int) (A : Option Addr) (n c : Nat) (l : List P2) (A2 : Option Addr) (n2 c2 : Nat) (l2 : List P2)  (hn : n ≤ 1000) (hn2 : n2 ≤ 1000) (dd0 : OkZ x y l) (dd1 : OkZ x y l2) (w : World) {lo_L hi_L : Nat} (L : PL w lo_L hi_L A n c l) {lo_L2 hi_L2 : Nat} (L2 : PL w lo_L2 hi_L2 A2 n2 c2 l2) :
    Calls Try.prog 38 #[.agg #[.int .i64 x, .int .i64 y, .slice A n c], .agg #[.int .i64 x, .int .i64 y, .slice A2 n2 c2]] w fun e w' => e = .returned (.bool (decide ((canL l) = (canL l2)))) ∧ Below w.heap.size w w' := by
  have hfd := field_gens
  replace L := Lib.hid L
  replace L2 := Lib.hid L2
  have HCA : Hid ((canL l).length ≤ 100000) := by have q1 := okz_len dd0; have q2 := (canL_all (okz_bd dd0) (by decide)).2; unfold Hid; omega
  have HCB : Hid ((canL l2).length ≤ 100000) := by have q1 := okz_len dd1; have q2 := (canL_all (okz_bd dd1) (by decide)).2; unfold Hid; omega
  obtain ⟨HB, B_z0, B_z1⟩ := box2 w 24 #[.int .i64 x, .int .i64 y, .slice A n c] 24 #[.int .i64 x, .int .i64 y, .slice A2 n2 c2]
  replace L := Lib.hid (PL.below L.out HB.out)
  replace L2 := Lib.hid (PL.below L2.out HB.out)
  go_enter Try.func38, Try.ntmps38
  go_upto_region 1 with (fail)
  generalize (w.alloc (.cells #[.int .i64 x, .int .i64 y, .slice A n c] 24)).alloc (.cells #[.int .i64 x, .int .i64 y, .slice A2 n2 c2] 24) = W0 at *
  obtain ⟨c0z0, c1z0, c2z0⟩ := cells3 B_z0
  go_wp2_with fail
  refine (Valid_yes dd0 (by omega) _ (PL.below L.out (by exact sm))).mono ?_
  clear c0z0 c1z0 c2z0
  rintro e w1 ⟨rfl, bb⟩
  replace bb := nextw (w0 := W0) (by exact sm) bb
  replace B_z0 := mv B_z0 bb
  replace B_z1 := mv B_z1 bb
  replace L := Lib.hid (PL.below L.out bb)
  replace L2 := Lib.hid (PL.below L2.out bb)
  replace HB := nx HB bb
  clear bb
  obtain ⟨c0z1, c1z1, c2z1⟩ := cells3 B_z1
  go_wp2_with fail
  refine (Valid_yes dd1 (by omega) _ (PL.below L2.out (by exact sm))).mono ?_
  clear c0z1 c1z1 c2z1
  rintro e w2 ⟨rfl, bb⟩
  replace bb := nextw (w0 := w1) (by exact sm) bb
  replace B_z0 := mv B_z0 bb
  replace B_z1 := mv B_z1 bb
  replace L := Lib.hid (PL.below L.out bb)
  replace L2 := Lib.hid (PL.below L2.out bb)
  replace HB := nx HB bb
  clear bb
  obtain ⟨c0z0, c1z0, c2z0⟩ := cells3 B_z0
  obtain ⟨c0z1, c1z1, c2z1⟩ := cells3 B_z1
  go_upto_region 3 with (fail)
  clear c0z0 c1z0 c2z0 c0z1 c1z1 c2z1
  have sp_z0_LC2 : Hid (w.heap.size < w2.heap.size) := B_z0.out.lt
  have sp_z1_LC2 : Hid (w.heap.size + 1 < w2.heap.size) := B_z1.out.lt
  have lw_LC2 : Hid (w.heap.size ≤ w2.heap.size) := HB.out.size
  have sp_z0_LC3 : Hid (w.heap.size < w2.heap.size) := B_z0.out.lt
  have sp_z1_LC3 : Hid (w.heap.size + 1 < w2.heap.size) := B_z1.out.lt
  have lw_LC3 : Hid (w.heap.size ≤ w2.heap.size) := HB.out.size
  obtain ⟨c0z0, c1z0, c2z0⟩ := cells3 B_z0
  obtain ⟨c0z1, c1z1, c2z1⟩ := cells3 B_z1
  have tk1x0 : True := trivial
  go_region_held3 (fun w' => w'.cell? ⟨w.heap.size, 0, none⟩ = some (.int .i64 x) ∧ w'.cell? ⟨w.heap.size, 1, none⟩ = some (.int .i64 y) ∧ w'.cell? ⟨w.heap.size, 2, none⟩ = some (.slice A n c) ∧ w'.cell? ⟨w.heap.size + 1, 0, none⟩ = some (.int .i64 x) ∧ w'.cell? ⟨w.heap.size + 1, 1, none⟩ = some (.int .i64 y) ∧ w'.cell? ⟨w.heap.size + 1, 2, none⟩ = some (.slice A2 n2 c2)) (((try dsimp only); (repeat' apply And.intro) <;> (first | (with_reducible assumption) | ((repeat (first | (with_reducible refine Eq.trans (cell_drew1 _ _) ?_) | (with_reducible refine Eq.trans (cell_far (by omega) _ _ _) ?_) | (with_reducible refine Eq.trans (World.cell?_alloc_lt _ _ _ (by first | (dsimp only; omega) | (simp only [World.size_alloc, World.size_setCell]; omega))) ?_))); with_reducible assumption) | assumption | go_keep)))
    (first
      | (clear tk1x0; go_at_call 44; refine (canonical_is x y _ _ _ l (by first | omega | decide) (okz_bd dd0) _ (PL.below L.out (by exact sm))).mono ?_; rintro e w3 ⟨AC2, cC2, rfl, LC2, bb⟩; replace bb := nextw (w0 := w2) (by exact sm) bb; replace B_z0 := mv B_z0 bb; replace B_z1 := mv B_z1 bb; replace L := Lib.hid (PL.below L.out bb); replace L2 := Lib.hid (PL.below L2.out bb); replace HB := nx HB bb; clear bb c0z0 c1z0 c2z0 c0z1 c1z1 c2z1; replace LC2 := Lib.hid LC2; have c0z0 : w3.cell? ⟨w.heap.size, 0, none⟩ = some (.int .i64 x) := B_z0.out.cell 0 rfl; have c1z0 : w3.cell? ⟨w.heap.size, 1, none⟩ = some (.int .i64 y) := B_z0.out.cell 1 rfl; have c2z0 : w3.cell? ⟨w.heap.size, 2, none⟩ = some (.slice A n c) := B_z0.out.cell 2 rfl; have c0z1 : w3.cell? ⟨w.heap.size + 1, 0, none⟩ = some (.int .i64 x) := B_z1.out.cell 0 rfl; have c1z1 : w3.cell? ⟨w.heap.size + 1, 1, none⟩ = some (.int .i64 y) := B_z1.out.cell 1 rfl; have c2z1 : w3.cell? ⟨w.heap.size + 1, 2, none⟩ = some (.slice A2 n2 c2) := B_z1.out.cell 2 rfl; have tk1x1 : True := trivial)
      | (clear tk1x1; go_at_call 44; refine (canonical_is x y _ _ _ l2 (by first | omega | decide) (okz_bd dd1) _ (PL.below L2.out (by exact sm))).mono ?_; rintro e w4 ⟨AC3, cC3, rfl, LC3, bb⟩; replace bb := nextw (w0 := w3) (by exact sm) bb; replace B_z0 := mv B_z0 bb; replace B_z1 := mv B_z1 bb; replace L := Lib.hid (PL.below L.out bb); replace L2 := Lib.hid (PL.below L2.out bb); replace LC2 := Lib.hid (PL.below LC2.out bb); replace HB := nx HB bb; clear bb c0z0 c1z0 c2z0 c0z1 c1z1 c2z1; replace LC3 := Lib.hid LC3; have c0z0 : w4.cell? ⟨w.heap.size, 0, none⟩ = some (.int .i64 x) := B_z0.out.cell 0 rfl; have c1z0 : w4.cell? ⟨w.heap.size, 1, none⟩ = some (.int .i64 y) := B_z0.out.cell 1 rfl; have c2z0 : w4.cell? ⟨w.heap.size, 2, none⟩ = some (.slice A n c) := B_z0.out.cell 2 rfl; have c0z1 : w4.cell? ⟨w.heap.size + 1, 0, none⟩ = some (.int .i64 x) := B_z1.out.cell 0 rfl; have c1z1 : w4.cell? ⟨w.heap.size + 1, 1, none⟩ = some (.int .i64 y) := B_z1.out.cell 1 rfl; have c2z1 : w4.cell? ⟨w.heap.size + 1, 2, none⟩ = some (.slice A2 n2 c2) := B_z1.out.cell 2 rfl; have tk1x2 : True := trivial)
      | (clear tk1x2; go_at_call 66; refine (Equal_is _ _ _ (canL l) _ _ _ (canL l2) HCA.out HCB.out _ (PL.below LC2.out (by exact sm)) (PL.below LC3.out (by exact sm))).mono ?_; rintro e w5 ⟨rfl, bb⟩; replace bb := nextw (w0 := w4) (by exact sm) bb; replace B_z0 := mv B_z0 bb; replace B_z1 := mv B_z1 bb; replace L := Lib.hid (PL.below L.out bb); replace L2 := Lib.hid (PL.below L2.out bb); replace LC2 := Lib.hid (PL.below LC2.out bb); replace LC3 := Lib.hid (PL.below LC3.out bb); replace HB := nx HB bb; clear bb c0z0 c1z0 c2z0 c0z1 c1z1 c2z1; have c0z0 : w5.cell? ⟨w.heap.size, 0, none⟩ = some (.int .i64 x) := B_z0.out.cell 0 rfl; have c1z0 : w5.cell? ⟨w.heap.size, 1, none⟩ = some (.int .i64 y) := B_z0.out.cell 1 rfl; have c2z0 : w5.cell? ⟨w.heap.size, 2, none⟩ = some (.slice A n c) := B_z0.out.cell 2 rfl; have c0z1 : w5.cell? ⟨w.heap.size + 1, 0, none⟩ = some (.int .i64 x) := B_z1.out.cell 0 rfl; have c1z1 : w5.cell? ⟨w.heap.size + 1, 1, none⟩ = some (.int .i64 y) := B_z1.out.cell 1 rfl; have c2z1 : w5.cell? ⟨w.heap.size + 1, 2, none⟩ = some (.slice A2 n2 c2) := B_z1.out.cell 2 rfl; have tk1x3 : True := trivial))
  clear c0z0 c1z0 c2z0 c0z1 c1z1 c2z1
  go_wp2
  go_ret
  exact ⟨(by first | rfl | exact rbt (by omega) | exact rbf (by omega)), nextw HB.out (by exact sm)⟩

set_option maxRecDepth 100000 in
set_option maxHeartbeats 4000000 in
theorem SameB_w3 (x y v : Int) (A : Option Addr) (n c : Nat) (l : List P2) (A2 : Option Addr) (n2 c2 : Nat) (l2 : List P2)  (hn : n ≤ 1000) (hn2 : n2 ≤ 1000) (dd0 : OkZ x y l) (dd1 : OkZ x v l2) (dd2 : ¬ (y = v)) (w : World) {lo_L hi_L : Nat} (L : PL w lo_L hi_L A n c l) {lo_L2 hi_L2 : Nat} (L2 : PL w lo_L2 hi_L2 A2 n2 c2 l2) :
    Calls Try.prog 38 #[.agg #[.int .i64 x, .int .i64 y, .slice A n c], .agg #[.int .i64 x, .int .i64 v, .slice A2 n2 c2]] w fun e w' => e = .returned (.bool false) ∧ Below w.heap.size w w' := by
  have hfd := field_gens
  replace L := Lib.hid L
  replace L2 := Lib.hid L2
  have HCA : Hid ((canL l).length ≤ 100000) := by have q1 := okz_len dd0; have q2 := (canL_all (okz_bd dd0) (by decide)).2; unfold Hid; omega
  have HCB : Hid ((canL l2).length ≤ 100000) := by have q1 := okz_len dd1; have q2 := (canL_all (okz_bd dd1) (by decide)).2; unfold Hid; omega
  obtain ⟨HB, B_z0, B_z1⟩ := box2 w 24 #[.int .i64 x, .int .i64 y, .slice A n c] 24 #[.int .i64 x, .int .i64 v, .slice A2 n2 c2]
  replace L := Lib.hid (PL.below L.out HB.out)
  replace L2 := Lib.hid (PL.below L2.out HB.out)
  go_enter Try.func38, Try.ntmps38
  go_upto_region 1 with (fail)
  generalize (w.alloc (.cells #[.int .i64 x, .int .i64 y, .slice A n c] 24)).alloc (.cells #[.int .i64 x, .int .i64 v, .slice A2 n2 c2] 24) = W0 at *
  obtain ⟨c0z0, c1z0, c2z0⟩ := cells3 B_z0
  go_wp2_with fail
  refine (Valid_yes dd0 (by omega) _ (PL.below L.out (by exact sm))).mono ?_
  clear c0z0 c1z0 c2z0
  rintro e w1 ⟨rfl, bb⟩
  replace bb := nextw (w0 := W0) (by exact sm) bb
  replace B_z0 := mv B_z0 bb
  replace B_z1 := mv B_z1 bb
  replace L := Lib.hid (PL.below L.out bb)
  replace L2 := Lib.hid (PL.below L2.out bb)
  replace HB := nx HB bb
  clear bb
  obtain ⟨c0z1, c1z1, c2z1⟩ := cells3 B_z1
  go_wp2_with fail
  refine (Valid_yes dd1 (by omega) _ (PL.below L2.out (by exact sm))).mono ?_
  clear c0z1 c1z1 c2z1
  rintro e w2 ⟨rfl, bb⟩
  replace bb := nextw (w0 := w1) (by exact sm) bb
  replace B_z0 := mv B_z0 bb
  replace B_z1 := mv B_z1 bb
  replace L := Lib.hid (PL.below L.out bb)
  replace L2 := Lib.hid (PL.below L2.out bb)
  replace HB := nx HB bb
  clear bb
  obtain ⟨c0z0, c1z0, c2z0⟩ := cells3 B_z0
  obtain ⟨c0z1, c1z1, c2z1⟩ := cells3 B_z1
  go_wp2
  go_ret
  exact ⟨(by first | rfl | exact rbt (by omega) | exact rbf (by omega)), nextw HB.out (by exact sm)⟩

set_option maxRecDepth 100000 in
set_option maxHeartbeats 4000000 in
theorem SameC_w3 (x y u v : Int) (A : Option Addr) (n c : Nat) (l : List P2) (A2 : Option Addr) (n2 c2 : Nat) (l2 : List P2)  (hn : n ≤ 1000) (hn2 : n2 ≤ 1000) (dd0 : OkZ x y l) (dd1 : OkZ u v l2) (dd2 : ¬ (x = u)) (w : World) {lo_L hi_L : Nat} (L : PL w lo_L hi_L A n c l) {lo_L2 hi_L2 : Nat} (L2 : PL w lo_L2 hi_L2 A2 n2 c2 l2) :
    Calls Try.prog 38 #[.agg #[.int .i64 x, .int .i64 y, .slice A n c], .agg #[.int .i64 u, .int .i64 v, .slice A2 n2 c2]] w fun e w' => e = .returned (.bool false) ∧ Below w.heap.size w w' := by
  have hfd := field_gens
  replace L := Lib.hid L
  replace L2 := Lib.hid L2
  have HCA : Hid ((canL l).length ≤ 100000) := by have q1 := okz_len dd0; have q2 := (canL_all (okz_bd dd0) (by decide)).2; unfold Hid; omega
  have HCB : Hid ((canL l2).length ≤ 100000) := by have q1 := okz_len dd1; have q2 := (canL_all (okz_bd dd1) (by decide)).2; unfold Hid; omega
  obtain ⟨HB, B_z0, B_z1⟩ := box2 w 24 #[.int .i64 x, .int .i64 y, .slice A n c] 24 #[.int .i64 u, .int .i64 v, .slice A2 n2 c2]
  replace L := Lib.hid (PL.below L.out HB.out)
  replace L2 := Lib.hid (PL.below L2.out HB.out)
  go_enter Try.func38, Try.ntmps38
  go_upto_region 1 with (fail)
  generalize (w.alloc (.cells #[.int .i64 x, .int .i64 y, .slice A n c] 24)).alloc (.cells #[.int .i64 u, .int .i64 v, .slice A2 n2 c2] 24) = W0 at *
  obtain ⟨c0z0, c1z0, c2z0⟩ := cells3 B_z0
  go_wp2_with fail
  refine (Valid_yes dd0 (by omega) _ (PL.below L.out (by exact sm))).mono ?_
  clear c0z0 c1z0 c2z0
  rintro e w1 ⟨rfl, bb⟩
  replace bb := nextw (w0 := W0) (by exact sm) bb
  replace B_z0 := mv B_z0 bb
  replace B_z1 := mv B_z1 bb
  replace L := Lib.hid (PL.below L.out bb)
  replace L2 := Lib.hid (PL.below L2.out bb)
  replace HB := nx HB bb
  clear bb
  obtain ⟨c0z1, c1z1, c2z1⟩ := cells3 B_z1
  go_wp2_with fail
  refine (Valid_yes dd1 (by omega) _ (PL.below L2.out (by exact sm))).mono ?_
  clear c0z1 c1z1 c2z1
  rintro e w2 ⟨rfl, bb⟩
  replace bb := nextw (w0 := w1) (by exact sm) bb
  replace B_z0 := mv B_z0 bb
  replace B_z1 := mv B_z1 bb
  replace L := Lib.hid (PL.below L.out bb)
  replace L2 := Lib.hid (PL.below L2.out bb)
  replace HB := nx HB bb
  clear bb
  obtain ⟨c0z0, c1z0, c2z0⟩ := cells3 B_z0
  obtain ⟨c0z1, c1z1, c2z1⟩ := cells3 B_z1
  go_wp2
  go_ret
  exact ⟨(by first | rfl | exact rbt (by omega) | exact rbf (by omega)), nextw HB.out (by exact sm)⟩

set_option maxRecDepth 100000 in
set_option maxHeartbeats 4000000 in
theorem SameD_w1 (x y u v : Int) (A : Option Addr) (n c : Nat) (l : List P2) (A2 : Option Addr) (n2 c2 : Nat) (l2 : List P2)  (hn : n ≤ 1000) (hn2 : n2 ≤ 1000) (dd0 : ¬ (OkZ x y l)) (w : World) {lo_L hi_L : Nat} (L : PL w lo_L hi_L A n c l) {lo_L2 hi_L2 : Nat} (L2 : PL w lo_L2 hi_L2 A2 n2 c2 l2) :
    Calls Try.prog 38 #[.agg #[.int .i64 x, .int .i64 y, .slice A n c], .agg #[.int .i64 u, .int .i64 v, .slice A2 n2 c2]] w fun e w' => e = .returned (.bool false) ∧ Below w.heap.size w w' := by
  have hfd := field_gens
  replace L := Lib.hid L
  replace L2 := Lib.hid L2
  obtain ⟨HB, B_z0, B_z1⟩ := box2 w 24 #[.int .i64 x, .int .i64 y, .slice A n c] 24 #[.int .i64 u, .int .i64 v, .slice A2 n2 c2]
  replace L := Lib.hid (PL.below L.out HB.out)
  replace L2 := Lib.hid (PL.below L2.out HB.out)
  go_enter Try.func38, Try.ntmps38
  go_upto_region 1 with (fail)
  generalize (w.alloc (.cells #[.int .i64 x, .int .i64 y, .slice A n c] 24)).alloc (.cells #[.int .i64 u, .int .i64 v, .slice A2 n2 c2] 24) = W0 at *
  obtain ⟨c0z0, c1z0, c2z0⟩ := cells3 B_z0
  go_wp2_with fail
  refine (Valid_no dd0 (by omega) _ (PL.below L.out (by exact sm))).mono ?_
  clear c0z0 c1z0 c2z0
  rintro e w1 ⟨rfl, bb⟩
  replace bb := nextw (w0 := W0) (by exact sm) bb
  replace B_z0 := mv B_z0 bb
  replace B_z1 := mv B_z1 bb
  replace L := Lib.hid (PL.below L.out bb)
  replace L2 := Lib.hid (PL.below L2.out bb)
  replace HB := nx HB bb
  clear bb
  go_wp2
  go_ret
  exact ⟨(by first | rfl | exact rbt (by omega) | exact rbf (by omega)), nextw HB.out (by exact sm)⟩

set_option maxRecDepth 100000 in
set_option maxHeartbeats 4000000 in
theorem SameD_w2 (x y u v : Int) (A : Option Addr) (n c : Nat) (l : List P2) (A2 : Option Addr) (n2 c2 : Nat) (l2 : List P2)  (hn : n ≤ 1000) (hn2 : n2 ≤ 1000) (dd0 : OkZ x y l) (dd1 : ¬ (OkZ u v l2)) (w : World) {lo_L hi_L : Nat} (L : PL w lo_L hi_L A n c l) {lo_L2 hi_L2 : Nat} (L2 : PL w lo_L2 hi_L2 A2 n2 c2 l2) :
    Calls Try.prog 38 #[.agg #[.int .i64 x, .int .i64 y, .slice A n c], .agg #[.int .i64 u, .int .i64 v, .slice A2 n2 c2]] w fun e w' => e = .returned (.bool false) ∧ Below w.heap.size w w' := by
  have hfd := field_gens
  replace L := Lib.hid L
  replace L2 := Lib.hid L2
  have HCA : Hid ((canL l).length ≤ 100000) := by have q1 := okz_len dd0; have q2 := (canL_all (okz_bd dd0) (by decide)).2; unfold Hid; omega
  obtain ⟨HB, B_z0, B_z1⟩ := box2 w 24 #[.int .i64 x, .int .i64 y, .slice A n c] 24 #[.int .i64 u, .int .i64 v, .slice A2 n2 c2]
  replace L := Lib.hid (PL.below L.out HB.out)
  replace L2 := Lib.hid (PL.below L2.out HB.out)
  go_enter Try.func38, Try.ntmps38
  go_upto_region 1 with (fail)
  generalize (w.alloc (.cells #[.int .i64 x, .int .i64 y, .slice A n c] 24)).alloc (.cells #[.int .i64 u, .int .i64 v, .slice A2 n2 c2] 24) = W0 at *
  obtain ⟨c0z0, c1z0, c2z0⟩ := cells3 B_z0
  go_wp2_with fail
  refine (Valid_yes dd0 (by omega) _ (PL.below L.out (by exact sm))).mono ?_
  clear c0z0 c1z0 c2z0
  rintro e w1 ⟨rfl, bb⟩
  replace bb := nextw (w0 := W0) (by exact sm) bb
  replace B_z0 := mv B_z0 bb
  replace B_z1 := mv B_z1 bb
  replace L := Lib.hid (PL.below L.out bb)
  replace L2 := Lib.hid (PL.below L2.out bb)
  replace HB := nx HB bb
  clear bb
  obtain ⟨c0z1, c1z1, c2z1⟩ := cells3 B_z1
  go_wp2_with fail
  refine (Valid_no dd1 (by omega) _ (PL.below L2.out (by exact sm))).mono ?_
  clear c0z1 c1z1 c2z1
  rintro e w2 ⟨rfl, bb⟩
  replace bb := nextw (w0 := w1) (by exact sm) bb
  replace B_z0 := mv B_z0 bb
  replace B_z1 := mv B_z1 bb
  replace L := Lib.hid (PL.below L.out bb)
  replace L2 := Lib.hid (PL.below L2.out bb)
  replace HB := nx HB bb
  clear bb
  go_wp2
  go_ret
  exact ⟨(by first | rfl | exact rbt (by omega) | exact rbf (by omega)), nextw HB.out (by exact sm)⟩

theorem Same_is (x y : Int) (A : Option Addr) (n c : Nat) (l : List P2) (u v : Int) (A2 : Option Addr) (n2 c2 : Nat) (l2 : List P2) (hn : n ≤ 1000) (hn2 : n2 ≤ 1000) (w : World) {lo hi lo2 hi2 : Nat} (L : PL w lo hi A n c l) (L2 : PL w lo2 hi2 A2 n2 c2 l2) :
    Calls Try.prog 38 #[.agg #[.int .i64 x, .int .i64 y, .slice A n c], .agg #[.int .i64 u, .int .i64 v, .slice A2 n2 c2]] w fun e w' => e = .returned (.bool (decide ((OkZ x y l ∧ OkZ u v l2) ∧ x = u ∧ y = v ∧ canL l = canL l2))) ∧ Below w.heap.size w w' := by
  by_cases h1 : OkZ x y l
  · by_cases h2 : OkZ u v l2
    · by_cases h3 : x = u
      · subst h3
        by_cases h4 : y = v
        · subst h4
          have h := SameA_w0 x y A n c l A2 n2 c2 l2 hn hn2 h1 h2 w L L2
          refine h.mono fun e w' ⟨he, hb⟩ => ⟨?_, hb⟩
          rw [he]
          refine congrArg (fun b => Ending.returned (.bool b)) (decide_eq_decide.mpr ?_)
          exact ⟨fun h => ⟨⟨h1, h2⟩, rfl, rfl, h⟩, fun h => h.2.2.2⟩
        · rw [decide_eq_false (fun h => h4 h.2.2.1)]
          exact SameB_w3 x y v A n c l A2 n2 c2 l2 hn hn2 h1 h2 h4 w L L2
      · rw [decide_eq_false (fun h => h3 h.2.1)]
        exact SameC_w3 x y u v A n c l A2 n2 c2 l2 hn hn2 h1 h2 h3 w L L2
    · rw [decide_eq_false (fun h => h2 h.1.2)]
      exact SameD_w2 x y u v A n c l A2 n2 c2 l2 hn hn2 h1 h2 w L L2
  · rw [decide_eq_false (fun h => h1 h.1.1)]
    exact SameD_w1 x y u v A n c l A2 n2 c2 l2 hn hn2 h1 w L L2
end Go.Proofs.Ytpjbkadhmjlpfaa
