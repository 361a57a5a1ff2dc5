/- the law's within. -/
import Derived.Test.YtkhcogfajihecaaY23
import Derived.Test.YtkhcogfajihecaaYM5
set_option linter.unusedVariables false
set_option linter.unusedSimpArgs false
namespace Go.Proofs.Ytkhcogfajihecaa
open Go Go.RowKit Hd

set_option maxRecDepth 100000 in
set_option maxHeartbeats 4000000 in
theorem Before_w0 (a b c d : Int)   (dd0 : b < d) (w : World) :
    Calls Try.prog 83 #[.agg #[.int .i64 a, .int .i64 b], .agg #[.int .i64 c, .int .i64 d]] w fun e w' => e = .returned (.bool true) ∧ Below w.heap.size w w' := by
  obtain ⟨HB, B_z0, B_z1⟩ := box2 w 37 #[.int .i64 a, .int .i64 b] 37 #[.int .i64 c, .int .i64 d]
  go_enter Try.func83, Try.ntmps83
  go_upto_region 1 with (fail)
  generalize (w.alloc (.cells #[.int .i64 a, .int .i64 b] 37)).alloc (.cells #[.int .i64 c, .int .i64 d] 37) = W0 at *
  obtain ⟨c0z0, c1z0⟩ := cells2 B_z0
  obtain ⟨c0z1, c1z1⟩ := cells2 B_z1
  go_wp2
  go_ret
  exact ⟨(by first | rfl | exact rbt (by omega) | exact rbf (by omega)), nextw HB.out (by exact sm)⟩

set_option maxRecDepth 100000 in
set_option maxHeartbeats 4000000 in
theorem Before_w1 (a b c d : Int)   (dd0 : d ≤ b) (dd1 : b = d) (w : World) :
    Calls Try.prog 83 #[.agg #[.int .i64 a, .int .i64 b], .agg #[.int .i64 c, .int .i64 d]] w fun e w' => e = .returned (.bool (decide (a < c))) ∧ Below w.heap.size w w' := by
  replace dd1 := Lib.hid dd1
  obtain ⟨HB, B_z0, B_z1⟩ := box2 w 37 #[.int .i64 a, .int .i64 b] 37 #[.int .i64 c, .int .i64 d]
  go_enter Try.func83, Try.ntmps83
  go_upto_region 1 with (fail)
  generalize (w.alloc (.cells #[.int .i64 a, .int .i64 b] 37)).alloc (.cells #[.int .i64 c, .int .i64 d] 37) = W0 at *
  have ddo1 := dd1.out
  obtain ⟨c0z0, c1z0⟩ := cells2 B_z0
  obtain ⟨c0z1, c1z1⟩ := cells2 B_z1
  go_wp2
  go_ret
  exact ⟨(by first | rfl | exact rbt (by omega) | exact rbf (by omega)), nextw HB.out (by exact sm)⟩

set_option maxRecDepth 100000 in
set_option maxHeartbeats 4000000 in
theorem Before_w2 (a b c d : Int)   (dd0 : d ≤ b) (dd1 : ¬ (b = d)) (w : World) :
    Calls Try.prog 83 #[.agg #[.int .i64 a, .int .i64 b], .agg #[.int .i64 c, .int .i64 d]] w fun e w' => e = .returned (.bool false) ∧ Below w.heap.size w w' := by
  obtain ⟨HB, B_z0, B_z1⟩ := box2 w 37 #[.int .i64 a, .int .i64 b] 37 #[.int .i64 c, .int .i64 d]
  go_enter Try.func83, Try.ntmps83
  go_upto_region 1 with (fail)
  generalize (w.alloc (.cells #[.int .i64 a, .int .i64 b] 37)).alloc (.cells #[.int .i64 c, .int .i64 d] 37) = W0 at *
  obtain ⟨c0z0, c1z0⟩ := cells2 B_z0
  obtain ⟨c0z1, c1z1⟩ := cells2 B_z1
  go_wp2
  go_ret
  exact ⟨(by first | rfl | exact rbt (by omega) | exact rbf (by omega)), nextw HB.out (by exact sm)⟩

def BeforeV (a b c d : Int) : Value := if b < d then .bool true else if b = d then .bool (decide (a < c)) else .bool false
theorem Before_any (a b c d : Int)  (w : World) :
    Calls Try.prog 83 #[.agg #[.int .i64 a, .int .i64 b], .agg #[.int .i64 c, .int .i64 d]] w fun e w' => e = .returned (BeforeV a b c d) ∧ Below w.heap.size w w' := by
  unfold BeforeV
  by_cases dd0 : b < d
  · rw [if_pos dd0]
    exact Before_w0 a b c d    dd0 w 
  · rw [if_neg dd0]
    by_cases dd1 : b = d
    · rw [if_pos dd1]
      exact Before_w1 a b c d    (by omega) dd1 w 
    · rw [if_neg dd1]
      exact Before_w2 a b c d    (by omega) dd1 w 

theorem Before_is (a b c d : Int)  (w : World) : Calls Try.prog 83 #[.agg #[.int .i64 a, .int .i64 b], .agg #[.int .i64 c, .int .i64 d]] w fun e w' => e = .returned (.bool (decide (ltC (a, b) (c, d)))) ∧ Below w.heap.size w w' := by
  rw [← show BeforeV a b c d = .bool (decide (ltC (a, b) (c, d))) from (by unfold BeforeV; (repeat' split) <;> (refine congrArg Value.bool ?_; rw [Bool.eq_iff_iff, decide_eq_true_iff]; (try simp only [decide_eq_true_iff, Bool.false_eq_true, false_iff, true_iff]); (try unfold ltC); (try dsimp only); omega))]; exact Before_any a b c d  w

theorem Before_yes (a b c d : Int) (h : ltC (a, b) (c, d)) (w : World) : Calls Try.prog 83 #[.agg #[.int .i64 a, .int .i64 b], .agg #[.int .i64 c, .int .i64 d]] w fun e w' => e = .returned (.bool true) ∧ Below w.heap.size w w' := by
  have k := Before_is a b c d w
  rw [decide_eq_true h] at k
  exact k
theorem Before_no (a b c d : Int) (h : ¬ ltC (a, b) (c, d)) (w : World) : Calls Try.prog 83 #[.agg #[.int .i64 a, .int .i64 b], .agg #[.int .i64 c, .int .i64 d]] w fun e w' => e = .returned (.bool false) ∧ Below w.heap.size w w' := by
  have k := Before_is a b c d w
  rw [decide_eq_false h] at k
  exact k

set_option maxRecDepth 100000 in
set_option maxHeartbeats 4000000 in
theorem within_yes (A : Option Addr) (n c : Nat) (l : List P2) (A2 : Option Addr) (n2 c2 : Nat) (l2 : List P2)  (hn : n ≤ 1000000) (hn2 : n2 ≤ 1000000) (hs1 : SrC l) (hs2 : SrC l2) (hsub : ∀ c ∈ l, c ∈ l2) (w : World) {lo_L hi_L : Nat} (L : PL w lo_L hi_L A n c l) {lo_L2 hi_L2 : Nat} (L2 : PL w lo_L2 hi_L2 A2 n2 c2 l2) :
    Calls Try.prog 45 #[.slice A n c, .slice A2 n2 c2] w fun e w' => e = .returned (.bool true) ∧ Below w.heap.size w w' := by
  have hiL_L : hi_L ≤ w.heap.size := L.top
  replace L := Lib.hid L
  have hiL_L2 : hi_L2 ≤ w.heap.size := L2.top
  replace L2 := Lib.hid L2
  have hnl1 : n ≤ l.length := by have := L.out.len; omega
  have hnl2 : l.length ≤ n := by have := L.out.len; omega
  have hnm1 : n2 ≤ l2.length := by have := L2.out.len; omega
  have hnm2 : l2.length ≤ n2 := by have := L2.out.len; omega
  have HB := Lib.hid (Below.refl w.heap.size w)
  go_enter Try.func45, Try.ntmps45
  go_upto_region 1 with (fail)
  go_wp2_with fail
  go_loopw [5, 6] (fun a0 kk wx => ∃ (k : Nat), k ≤ n ∧ kk = .int .i64 k ∧ a0 = (.int .i64 ((posC l l2 k : Nat) : Int)) ∧ Hid (PL wx lo_L hi_L A n c l) ∧ Hid (PL wx lo_L2 hi_L2 A2 n2 c2 l2) ∧ Hid (Below w.heap.size w wx)) (fun _ kk _ => n - (intOf kk).toNat)
  case atStart => exact ⟨0, by omega, rfl, rfl, L, L2, HB⟩
  case round =>
    clear L L2 HB
    obtain ⟨k, hk, rfl, rfl, L, L2, HB⟩ := hrel
    by_cases hlt : k < n
    · skip
      obtain ⟨hq1, hq2⟩ := pos_at hsub (i := k) (by omega)
      have hmo := pos_mono hs1 hs2 hsub (i := k) (by omega)
      have HPL := Lib.hid (fun j (hj : j < posC l l2 (k + 1)) => pos_lt hs2 hsub (i := k) (j := j) (by omega) hj)
      obtain ⟨PQ, hPQ⟩ : ∃ q, posC l l2 (k + 1) = q := ⟨_, rfl⟩
      obtain ⟨PK, hPK⟩ : ∃ q, posC l l2 k = q := ⟨_, rfl⟩
      rw [hPQ] at hq1 hq2 hmo HPL
      rw [hPK] at hmo ⊢
      have HPQ := Lib.hid hPQ
      have HPK := Lib.hid hPK
      replace hq2 := Lib.hid hq2
      clear hPQ hPK
      have hPn : PQ < n2 := by omega
      go_wp2_with fail
      go_loopw [5] (fun  kk wx => ∃ (j : Nat), j ≤ (PQ - PK) ∧ kk = .int .i64 (((PK : Nat) : Int) + ((j : Nat) : Int)) ∧ Hid (PL wx lo_L hi_L A n c l) ∧ Hid (PL wx lo_L2 hi_L2 A2 n2 c2 l2) ∧ Hid (Below w.heap.size w wx)) (fun  kk _ => (PQ - (intOf kk).toNat))
      case atStart => exact ⟨0, by omega, congrArg (Value.int .i64) (by omega), L, L2, HB⟩
      case round =>
        clear L L2 HB
        obtain ⟨j, hkj, rfl, L, L2, HB⟩ := hrel
        by_cases hltj : j < (PQ - PK)
        · skip
          obtain ⟨JJ, hJJ⟩ : ∃ q, PK + j = q := ⟨_, rfl⟩
          have hJn : JJ < n2 := by omega
          have hJz : ((PK : Nat) : Int) + ((j : Nat) : Int) = ((JJ : Nat) : Int) := by omega
          rw [hJz] at ⊢
          have HJJ := Lib.hid hJJ
          have HJZ := Lib.hid hJz
          clear hJz
          have hJa : PK + j ≤ JJ := by omega
          have hJb : JJ ≤ PK + j := by omega
          clear hJJ
          have hlq0L2 : JJ < n2 := by omega
          obtain ⟨g_L2, o_L2, eA_L2, -, -, -⟩ := L2.out.elem hlq0L2
          subst eA_L2
          obtain ⟨⟨x_q0L2, y_q0L2⟩, hpq0L2⟩ : ∃ q, l2.getD JJ z2 = q := ⟨_, rfl⟩
          have HPq0L2 := Lib.hid hpq0L2
          have HLq0L2 := Lib.hid hlq0L2
          have hmq0L2 : (x_q0L2, y_q0L2) ∈ l2 := by rw [← hpq0L2]; exact getD_mem (by have := L2.out.len; omega)
          clear hpq0L2 hlq0L2
          have hlq1L : k < n := by omega
          obtain ⟨g_L, o_L, eA_L, -, -, -⟩ := L.out.elem hlq1L
          subst eA_L
          obtain ⟨⟨x_q1L, y_q1L⟩, hpq1L⟩ : ∃ q, l.getD k z2 = q := ⟨_, rfl⟩
          have HPq1L := Lib.hid hpq1L
          have HLq1L := Lib.hid hlq1L
          have hmq1L : (x_q1L, y_q1L) ∈ l := by rw [← hpq1L]; exact getD_mem (by have := L.out.len; omega)
          clear hpq1L hlq1L
          have HLT : Hid (ltC (l2.getD JJ z2) (l.getD k z2)) := Lib.hid (HPL.out JJ (by omega))
          have H0 := Lib.hid (fun w => Before_yes x_q0L2 y_q0L2 x_q1L y_q1L (by have h := HLT.out; rw [HPq0L2.out, HPq1L.out] at h; exact h) w)
          go_upto_region 5 with (fail)
          have e0q0L2 : wr.cell? ⟨g_L2, o_L2 + JJ * 2, none⟩ = some (.int .i64 x_q0L2) := (PL.el L2.out HLq0L2.out HPq0L2.out).1
          have e1q0L2 : wr.cell? ⟨g_L2, o_L2 + JJ * 2 + 1, none⟩ = some (.int .i64 y_q0L2) := (PL.el L2.out HLq0L2.out HPq0L2.out).2
          have e0q1L : wr.cell? ⟨g_L, o_L + k * 2, none⟩ = some (.int .i64 x_q1L) := (PL.el L.out HLq1L.out HPq1L.out).1
          have e1q1L : wr.cell? ⟨g_L, o_L + k * 2 + 1, none⟩ = some (.int .i64 y_q1L) := (PL.el L.out HLq1L.out HPq1L.out).2
          have tk1x0 : True := trivial
          go_region_held3 (fun w' => w'.cell? ⟨g_L2, o_L2 + JJ * 2, none⟩ = some (.int .i64 x_q0L2) ∧ w'.cell? ⟨g_L2, o_L2 + JJ * 2 + 1, none⟩ = some (.int .i64 y_q0L2) ∧ w'.cell? ⟨g_L, o_L + k * 2, none⟩ = some (.int .i64 x_q1L) ∧ w'.cell? ⟨g_L, o_L + k * 2 + 1, none⟩ = some (.int .i64 y_q1L)) (((try dsimp only); (repeat' apply And.intro) <;> (first | (with_reducible assumption) | ((repeat (first | (with_reducible refine Eq.trans (cell_drew1 _ _) ?_) | (with_reducible refine Eq.trans (cell_far (by omega) _ _ _) ?_) | (with_reducible refine Eq.trans (World.cell?_alloc_lt _ _ _ (by first | (dsimp only; omega) | (simp only [World.size_alloc, World.size_setCell]; omega))) ?_))); with_reducible assumption) | assumption | go_keep)))
    (first
      | (clear tk1x0; go_at_call 83; refine (H0.out _).mono ?_; rintro e w1 ⟨rfl, bb⟩; replace bb := nextw (w0 := wr) (by exact sm) bb; replace L := Lib.hid (PL.below L.out bb); replace L2 := Lib.hid (PL.below L2.out bb); replace HB := nx HB bb; clear bb e0q0L2 e1q0L2 e0q1L e1q1L; have e0q0L2 : w1.cell? ⟨g_L2, o_L2 + JJ * 2, none⟩ = some (.int .i64 x_q0L2) := (PL.el L2.out HLq0L2.out HPq0L2.out).1; have e1q0L2 : w1.cell? ⟨g_L2, o_L2 + JJ * 2 + 1, none⟩ = some (.int .i64 y_q0L2) := (PL.el L2.out HLq0L2.out HPq0L2.out).2; have e0q1L : w1.cell? ⟨g_L, o_L + k * 2, none⟩ = some (.int .i64 x_q1L) := (PL.el L.out HLq1L.out HPq1L.out).1; have e1q1L : w1.cell? ⟨g_L, o_L + k * 2 + 1, none⟩ = some (.int .i64 y_q1L) := (PL.el L.out HLq1L.out HPq1L.out).2; have tk1x1 : True := trivial))
          clear e0q0L2 e1q0L2 e0q1L e1q1L
          go_wp2_with fail
          go_roundw
          case rel => exact ⟨j + 1, by omega, congrArg (Value.int .i64) (by have := HJJ.out; omega), L, L2, HB⟩
          case measure => simp only [intOf]; have := HJJ.out; omega
        · skip
          have hkn : (PQ - PK) = j := by omega
          subst hkn
          have hJz : ((PK : Nat) : Int) + ((PQ - PK : Nat) : Int) = ((PQ : Nat) : Int) := by omega
          rw [hJz] at ⊢
          clear hJz
          have hlq0L2 : PQ < n2 := by omega
          obtain ⟨g_L2, o_L2, eA_L2, -, -, -⟩ := L2.out.elem hlq0L2
          subst eA_L2
          obtain ⟨⟨x_q0L2, y_q0L2⟩, hpq0L2⟩ : ∃ q, l2.getD PQ z2 = q := ⟨_, rfl⟩
          have HPq0L2 := Lib.hid hpq0L2
          have HLq0L2 := Lib.hid hlq0L2
          have hmq0L2 : (x_q0L2, y_q0L2) ∈ l2 := by rw [← hpq0L2]; exact getD_mem (by have := L2.out.len; omega)
          clear hpq0L2 hlq0L2
          have hlq1L : k < n := by omega
          obtain ⟨g_L, o_L, eA_L, -, -, -⟩ := L.out.elem hlq1L
          subst eA_L
          obtain ⟨⟨x_q1L, y_q1L⟩, hpq1L⟩ : ∃ q, l.getD k z2 = q := ⟨_, rfl⟩
          have HPq1L := Lib.hid hpq1L
          have HLq1L := Lib.hid hlq1L
          have hmq1L : (x_q1L, y_q1L) ∈ l := by rw [← hpq1L]; exact getD_mem (by have := L.out.len; omega)
          clear hpq1L hlq1L
          have HLT : Hid (¬ ltC (l2.getD PQ z2) (l.getD k z2)) := Lib.hid (by rw [hq2.out]; exact ltC.irr)
          have hxy : x_q0L2 = x_q1L ∧ y_q0L2 = y_q1L := by have h := hq2.out; rw [HPq0L2.out, HPq1L.out] at h; injection h with h1 h2; exact ⟨h1, h2⟩
          have HXY := Lib.hid hxy
          clear hxy
          have odx : (x_q0L2 == x_q1L) = true := decide_eq_true HXY.out.1
          have ody : (y_q0L2 == y_q1L) = true := decide_eq_true HXY.out.2
          have obx : (x_q0L2 != x_q1L) = false := by rw [bne, odx]; rfl
          have oby : (y_q0L2 != y_q1L) = false := by rw [bne, ody]; rfl
          have H1 := Lib.hid (fun w => Before_no x_q0L2 y_q0L2 x_q1L y_q1L (by have h := HLT.out; rw [HPq0L2.out, HPq1L.out] at h; exact h) w)
          go_upto_region 5 with (fail)
          have e0q0L2 : wr.cell? ⟨g_L2, o_L2 + PQ * 2, none⟩ = some (.int .i64 x_q0L2) := (PL.el L2.out HLq0L2.out HPq0L2.out).1
          have e1q0L2 : wr.cell? ⟨g_L2, o_L2 + PQ * 2 + 1, none⟩ = some (.int .i64 y_q0L2) := (PL.el L2.out HLq0L2.out HPq0L2.out).2
          have e0q1L : wr.cell? ⟨g_L, o_L + k * 2, none⟩ = some (.int .i64 x_q1L) := (PL.el L.out HLq1L.out HPq1L.out).1
          have e1q1L : wr.cell? ⟨g_L, o_L + k * 2 + 1, none⟩ = some (.int .i64 y_q1L) := (PL.el L.out HLq1L.out HPq1L.out).2
          have tk2x0 : True := trivial
          go_region_held3 (fun w' => w'.cell? ⟨g_L2, o_L2 + PQ * 2, none⟩ = some (.int .i64 x_q0L2) ∧ w'.cell? ⟨g_L2, o_L2 + PQ * 2 + 1, none⟩ = some (.int .i64 y_q0L2) ∧ w'.cell? ⟨g_L, o_L + k * 2, none⟩ = some (.int .i64 x_q1L) ∧ w'.cell? ⟨g_L, o_L + k * 2 + 1, none⟩ = some (.int .i64 y_q1L)) (((try dsimp only); (repeat' apply And.intro) <;> (first | (with_reducible assumption) | ((repeat (first | (with_reducible refine Eq.trans (cell_drew1 _ _) ?_) | (with_reducible refine Eq.trans (cell_far (by omega) _ _ _) ?_) | (with_reducible refine Eq.trans (World.cell?_alloc_lt _ _ _ (by first | (dsimp only; omega) | (simp only [World.size_alloc, World.size_setCell]; omega))) ?_))); with_reducible assumption) | assumption | go_keep)))
    (first
      | (clear tk2x0; go_at_call 83; refine (H1.out _).mono ?_; rintro e w2 ⟨rfl, bb⟩; replace bb := nextw (w0 := wr) (by exact sm) bb; replace L := Lib.hid (PL.below L.out bb); replace L2 := Lib.hid (PL.below L2.out bb); replace HB := nx HB bb; clear bb e0q0L2 e1q0L2 e0q1L e1q1L; have e0q0L2 : w2.cell? ⟨g_L2, o_L2 + PQ * 2, none⟩ = some (.int .i64 x_q0L2) := (PL.el L2.out HLq0L2.out HPq0L2.out).1; have e1q0L2 : w2.cell? ⟨g_L2, o_L2 + PQ * 2 + 1, none⟩ = some (.int .i64 y_q0L2) := (PL.el L2.out HLq0L2.out HPq0L2.out).2; have e0q1L : w2.cell? ⟨g_L, o_L + k * 2, none⟩ = some (.int .i64 x_q1L) := (PL.el L.out HLq1L.out HPq1L.out).1; have e1q1L : w2.cell? ⟨g_L, o_L + k * 2 + 1, none⟩ = some (.int .i64 y_q1L) := (PL.el L.out HLq1L.out HPq1L.out).2; have tk2x1 : True := trivial))
          clear e0q0L2 e1q0L2 e0q1L e1q1L
          go_upto_region 7 with (fail)
          have e0q0L2 : w2.cell? ⟨g_L2, o_L2 + PQ * 2, none⟩ = some (.int .i64 x_q0L2) := (PL.el L2.out HLq0L2.out HPq0L2.out).1
          have e1q0L2 : w2.cell? ⟨g_L2, o_L2 + PQ * 2 + 1, none⟩ = some (.int .i64 y_q0L2) := (PL.el L2.out HLq0L2.out HPq0L2.out).2
          have e0q1L : w2.cell? ⟨g_L, o_L + k * 2, none⟩ = some (.int .i64 x_q1L) := (PL.el L.out HLq1L.out HPq1L.out).1
          have e1q1L : w2.cell? ⟨g_L, o_L + k * 2 + 1, none⟩ = some (.int .i64 y_q1L) := (PL.el L.out HLq1L.out HPq1L.out).2
          go_quiet (fail)
          clear e0q0L2 e1q0L2 e0q1L e1q1L
          have bb : Below w2.heap.size w2 (w2.drewN nq) := bel_drewN (Below.refl _ _) _
          generalize w2.drewN nq = w3q at *
          replace L := Lib.hid (PL.below L.out bb)
          replace L2 := Lib.hid (PL.below L2.out bb)
          replace HB := nx HB bb
          clear bb
          go_wp2_with fail
          go_roundw
          case rel => exact ⟨k + 1, by omega, by go_num, (by rw [HPQ.out]), L, L2, HB⟩
          case measure => simp only [intOf]; omega
    · skip
      have hkn : n = k := by omega
      subst hkn
      go_wp2
      go_ret
      exact ⟨rfl, nextw HB.out (by exact sm)⟩
end Go.Proofs.Ytkhcogfajihecaa
