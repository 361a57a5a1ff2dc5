/- the law PlanMerges. -/
import Derived.Test.YtkhcogfajihecaaY29
import Derived.Test.YtkhcogfajihecaaY30
set_option linter.unusedVariables false
set_option linter.unusedSimpArgs false
namespace Go.Proofs.Ytkhcogfajihecaa
open Go Go.RowKit Hd

section
variable {p q u v : Int} {l l2 : List Int}
theorem al_comm : AlP u v l2 p q l ↔ AlP p q l u v l2 := ⟨fun h => ⟨h.2.1, h.1, h.2.2.1.symm, h.2.2.2.symm⟩, fun h => ⟨h.2.1, h.1, h.2.2.1.symm, h.2.2.2.symm⟩⟩
theorem conf_comm {i : Nat} : conf l2 l i ↔ conf l l2 i := ⟨fun h => ⟨h.2.1, h.1, fun g => h.2.2 g.symm⟩, fun h => ⟨h.2.1, h.1, fun g => h.2.2 g.symm⟩⟩
theorem mgE_comm : mgE u v l2 p q l = mgE p q l u v l2 := by
  unfold mgE
  by_cases a : AlP p q l u v l2
  · have hl := al_len a
    rw [if_pos (al_comm.2 a), if_pos a]
    by_cases b : ∀ i, i < l.length → ¬ conf l l2 i
    · rw [if_pos b, if_pos (fun i hi g => b i (by omega) (conf_comm.1 g))]
    · rw [if_neg b, if_neg (fun c => b (fun i hi g => c i (by omega) (conf_comm.2 g)))]
  · rw [if_neg (fun g => a (al_comm.1 g)), if_neg a]
theorem mgX_comm1 : mgX u v l2 p q l u = mgX p q l u v l2 p := by
  by_cases h : mgE p q l u v l2 = 0
  · rw [mgX_0 h, mgX_0 (mgE_comm.trans h)]
    exact (mgE_al h).1.2.2.1.symm
  · rw [mgX_1 h, mgX_1 (fun g => h (mgE_comm.symm.trans g))]
theorem mgX_comm2 : mgX u v l2 p q l v = mgX p q l u v l2 q := by
  by_cases h : mgE p q l u v l2 = 0
  · rw [mgX_0 h, mgX_0 (mgE_comm.trans h)]
    exact (mgE_al h).1.2.2.2.symm
  · rw [mgX_1 h, mgX_1 (fun g => h (mgE_comm.symm.trans g))]
theorem mgV_comm : mgV u v l2 p q l = mgV p q l u v l2 := by
  by_cases h : mgE p q l u v l2 = 0
  · rw [mgV_0 h, mgV_0 (mgE_comm.trans h)]
    obtain ⟨ha, hc⟩ := mgE_al h
    have hl := al_len ha
    refine ext_getD (by rw [mgK_len, mgK_len]; omega) (fun i hi => ?_)
    rw [mgK_len] at hi
    rw [mg_at i hi, mg_at i (by omega)]
    have := hc i (by omega)
    unfold conf at this
    (repeat' split) <;> omega
  · rw [mgV_1 h, mgV_1 (fun g => h (mgE_comm.symm.trans g))]
end
theorem RMerge_nm (p q u v : Int) (A : Option Addr) (n c : Nat) (l : List Int) (A2 : Option Addr) (n2 c2 : Nat) (l2 : List Int) (hn : n ≤ 1000000) (hn2 : n2 ≤ 1000000) {E XP XQ : Int} {N : Nat} {M : List Int} (hE : mgE p q l u v l2 = E) (hP : mgX p q l u v l2 p = XP) (hQ : mgX p q l u v l2 q = XQ) (hM : mgV p q l u v l2 = M) (hN : M.length = N) (w : World) {lo hi lo2 hi2 : Nat} (L : KB w lo hi A n c l) (L2 : KB w lo2 hi2 A2 n2 c2 l2) : Calls Try.prog 47 #[.agg #[.int .i64 p, .int .i64 q, .slice A n c], .agg #[.int .i64 u, .int .i64 v, .slice A2 n2 c2]] w fun e w' => ∃ A c, e = .returned (.tuple #[.agg #[.int .i64 XP, .int .i64 XQ, .slice A N c], .int .i64 E]) ∧ KB w' w.heap.size w'.heap.size A N c M ∧ Below w.heap.size w w' := by
  subst hN hM hE hP hQ
  exact RMerge_is p q u v A n c l A2 n2 c2 l2 hn hn2 w L L2

theorem RBelow_yes (p q u v : Int) (A : Option Addr) (n c : Nat) (l : List Int) (A2 : Option Addr) (n2 c2 : Nat) (l2 : List Int) (hn : n ≤ 1000000) (hn2 : n2 ≤ 1000000) (h : BelP p q l u v l2) (w : World) {lo hi lo2 hi2 : Nat} (L : KB w lo hi A n c l) (L2 : KB w lo2 hi2 A2 n2 c2 l2) : Calls Try.prog 49 #[.agg #[.int .i64 p, .int .i64 q, .slice A n c], .agg #[.int .i64 u, .int .i64 v, .slice A2 n2 c2]] w fun e w' => e = .returned (.bool true) ∧ Below w.heap.size w w' := by
  have k := RBelow_is p q u v A n c l A2 n2 c2 l2 hn hn2 w L L2
  rw [decide_eq_true h] at k
  exact k

theorem RBelow_no (p q u v : Int) (A : Option Addr) (n c : Nat) (l : List Int) (A2 : Option Addr) (n2 c2 : Nat) (l2 : List Int) (hn : n ≤ 1000000) (hn2 : n2 ≤ 1000000) (h : ¬ BelP p q l u v l2) (w : World) {lo hi lo2 hi2 : Nat} (L : KB w lo hi A n c l) (L2 : KB w lo2 hi2 A2 n2 c2 l2) : Calls Try.prog 49 #[.agg #[.int .i64 p, .int .i64 q, .slice A n c], .agg #[.int .i64 u, .int .i64 v, .slice A2 n2 c2]] w fun e w' => e = .returned (.bool false) ∧ Below w.heap.size w w' := by
  have k := RBelow_is p q u v A n c l A2 n2 c2 l2 hn hn2 w L L2
  rw [decide_eq_false h] at k
  exact k

set_option maxRecDepth 100000 in
set_option maxHeartbeats 4000000 in
theorem LMerges_f0 (p q u v : Int) (A : Option Addr) (n c : Nat) (l : List Int) (A2 : Option Addr) (n2 c2 : Nat) (l2 : List Int) (h0 : ¬ (((n) : Nat) : Int) ≤ 5000) (w : World) {lo hi lo2 hi2 : Nat} (L : KB w lo hi A n c l) (L2 : KB w lo2 hi2 A2 n2 c2 l2) :
    Calls Try.prog 11 #[.agg #[.int .i64 p, .int .i64 q, .slice A n c], .agg #[.int .i64 u, .int .i64 v, .slice A2 n2 c2]] w fun e w' => e = .returned (.bool true) ∧ Below w.heap.size w w' := by
  replace h0 := Lib.hid h0
  replace L := Lib.hid L
  replace L2 := Lib.hid L2
  obtain ⟨HB, B_z0, B_z1⟩ := box2 w 24 #[.int .i64 p, .int .i64 q, .slice A n c] 24 #[.int .i64 u, .int .i64 v, .slice A2 n2 c2]
  replace L := Lib.hid (KB.below L.out HB.out)
  replace L2 := Lib.hid (KB.below L2.out HB.out)
  go_enter Try.func11, Try.ntmps11
  go_wp2_with fail
  generalize (w.alloc (.cells #[.int .i64 p, .int .i64 q, .slice A n c] 24)).alloc (.cells #[.int .i64 u, .int .i64 v, .slice A2 n2 c2] 24) = W0 at *
  go_wp2_with fail
  refine (awake_is _).mono ?_
  rintro e w1 ⟨rfl, bb⟩
  replace bb := nextw (w0 := W0) (by exact sm) bb
  replace B_z0 := mv B_z0 bb
  replace B_z1 := mv B_z1 bb
  replace L := Lib.hid (KB.below L.out bb)
  replace L2 := Lib.hid (KB.below L2.out bb)
  replace HB := nx HB bb
  clear bb
  obtain ⟨c0z0, c1z0, c2z0⟩ := cells3 B_z0
  go_wp2_with fail
  refine (few_no p q A n c l (Int.not_le.2 h0.out) _ (KB.below L.out (by exact sm))).mono ?_
  clear c0z0 c1z0 c2z0
  rintro e w2 ⟨rfl, bb⟩
  replace bb := nextw (w0 := w1) (by exact sm) bb
  replace B_z0 := mv B_z0 bb
  replace B_z1 := mv B_z1 bb
  replace L := Lib.hid (KB.below L.out bb)
  replace L2 := Lib.hid (KB.below L2.out bb)
  replace HB := nx HB bb
  clear bb
  go_wp2_with fail
  refine (awake_is _).mono ?_
  rintro e w3 ⟨rfl, bb⟩
  replace bb := nextw (w0 := w2) (by exact sm) bb
  replace B_z0 := mv B_z0 bb
  replace B_z1 := mv B_z1 bb
  replace L := Lib.hid (KB.below L.out bb)
  replace L2 := Lib.hid (KB.below L2.out bb)
  replace HB := nx HB bb
  clear bb
  go_wp2
  go_ret
  exact ⟨rfl, nextw HB.out (by exact sm)⟩

set_option maxRecDepth 100000 in
set_option maxHeartbeats 4000000 in
theorem LMerges_f1 (p q u v : Int) (A : Option Addr) (n c : Nat) (l : List Int) (A2 : Option Addr) (n2 c2 : Nat) (l2 : List Int) (h0 : (((n) : Nat) : Int) ≤ 5000) (h1 : ¬ (((n2) : Nat) : Int) ≤ 5000) (w : World) {lo hi lo2 hi2 : Nat} (L : KB w lo hi A n c l) (L2 : KB w lo2 hi2 A2 n2 c2 l2) :
    Calls Try.prog 11 #[.agg #[.int .i64 p, .int .i64 q, .slice A n c], .agg #[.int .i64 u, .int .i64 v, .slice A2 n2 c2]] w fun e w' => e = .returned (.bool true) ∧ Below w.heap.size w w' := by
  replace h0 := Lib.hid h0
  replace h1 := Lib.hid h1
  replace L := Lib.hid L
  replace L2 := Lib.hid L2
  obtain ⟨HB, B_z0, B_z1⟩ := box2 w 24 #[.int .i64 p, .int .i64 q, .slice A n c] 24 #[.int .i64 u, .int .i64 v, .slice A2 n2 c2]
  replace L := Lib.hid (KB.below L.out HB.out)
  replace L2 := Lib.hid (KB.below L2.out HB.out)
  go_enter Try.func11, Try.ntmps11
  go_wp2_with fail
  generalize (w.alloc (.cells #[.int .i64 p, .int .i64 q, .slice A n c] 24)).alloc (.cells #[.int .i64 u, .int .i64 v, .slice A2 n2 c2] 24) = W0 at *
  go_wp2_with fail
  refine (awake_is _).mono ?_
  rintro e w1 ⟨rfl, bb⟩
  replace bb := nextw (w0 := W0) (by exact sm) bb
  replace B_z0 := mv B_z0 bb
  replace B_z1 := mv B_z1 bb
  replace L := Lib.hid (KB.below L.out bb)
  replace L2 := Lib.hid (KB.below L2.out bb)
  replace HB := nx HB bb
  clear bb
  obtain ⟨c0z0, c1z0, c2z0⟩ := cells3 B_z0
  go_wp2_with fail
  refine (few_yes p q A n c l h0.out _ (KB.below L.out (by exact sm))).mono ?_
  clear c0z0 c1z0 c2z0
  rintro e w2 ⟨rfl, bb⟩
  replace bb := nextw (w0 := w1) (by exact sm) bb
  replace B_z0 := mv B_z0 bb
  replace B_z1 := mv B_z1 bb
  replace L := Lib.hid (KB.below L.out bb)
  replace L2 := Lib.hid (KB.below L2.out bb)
  replace HB := nx HB bb
  clear bb
  obtain ⟨c0z1, c1z1, c2z1⟩ := cells3 B_z1
  go_wp2_with fail
  refine (few_no u v A2 n2 c2 l2 (Int.not_le.2 h1.out) _ (KB.below L2.out (by exact sm))).mono ?_
  clear c0z1 c1z1 c2z1
  rintro e w3 ⟨rfl, bb⟩
  replace bb := nextw (w0 := w2) (by exact sm) bb
  replace B_z0 := mv B_z0 bb
  replace B_z1 := mv B_z1 bb
  replace L := Lib.hid (KB.below L.out bb)
  replace L2 := Lib.hid (KB.below L2.out bb)
  replace HB := nx HB bb
  clear bb
  go_wp2_with fail
  refine (awake_is _).mono ?_
  rintro e w4 ⟨rfl, bb⟩
  replace bb := nextw (w0 := w3) (by exact sm) bb
  replace B_z0 := mv B_z0 bb
  replace B_z1 := mv B_z1 bb
  replace L := Lib.hid (KB.below L.out bb)
  replace L2 := Lib.hid (KB.below L2.out bb)
  replace HB := nx HB bb
  clear bb
  go_wp2
  go_ret
  exact ⟨rfl, nextw HB.out (by exact sm)⟩

set_option maxRecDepth 100000 in
set_option maxHeartbeats 4000000 in
theorem LMerges_yes (p q u v : Int) (A : Option Addr) (n c : Nat) (l : List Int) (A2 : Option Addr) (n2 c2 : Nat) (l2 : List Int) (h0 : ((n : Nat) : Int) ≤ 5000) (h1 : ((n2 : Nat) : Int) ≤ 5000) (g : BelP p q l u v l2) (w : World) {lo hi lo2 hi2 : Nat} (L : KB w lo hi A n c l) (L2 : KB w lo2 hi2 A2 n2 c2 l2) :
    Calls Try.prog 11 #[.agg #[.int .i64 p, .int .i64 q, .slice A n c], .agg #[.int .i64 u, .int .i64 v, .slice A2 n2 c2]] w fun e w' => e = .returned (.bool true) ∧ Below w.heap.size w w' := by
  have b0 : n ≤ 1000000 := by omega
  have b1 : n2 ≤ 1000000 := by omega
  obtain ⟨E, hE⟩ : ∃ e, mgE p q l u v l2 = e := ⟨_, rfl⟩
  obtain ⟨XP, hXP⟩ : ∃ e, mgX p q l u v l2 p = e := ⟨_, rfl⟩
  obtain ⟨XQ, hXQ⟩ : ∃ e, mgX p q l u v l2 q = e := ⟨_, rfl⟩
  obtain ⟨M, hM⟩ : ∃ e, mgV p q l u v l2 = e := ⟨_, rfl⟩
  obtain ⟨N, hN⟩ : ∃ e, M.length = e := ⟨_, rfl⟩
  have HE := Lib.hid hE
  have HXP := Lib.hid hXP
  have HXQ := Lib.hid hXQ
  have HM := Lib.hid hM
  have HN := Lib.hid hN
  have HE2 := Lib.hid (mgE_comm.trans hE)
  have HXP2 := Lib.hid (mgX_comm1.trans hXP)
  have HXQ2 := Lib.hid (mgX_comm2.trans hXQ)
  have HM2 := Lib.hid (mgV_comm.trans hM)
  clear hE hXP hXQ hM hN
  replace h0 := Lib.hid h0
  replace h1 := Lib.hid h1
  replace g := Lib.hid g
  replace L := Lib.hid L
  replace L2 := Lib.hid L2
  obtain ⟨HB, B_z0, B_z1⟩ := box2 w 24 #[.int .i64 p, .int .i64 q, .slice A n c] 24 #[.int .i64 u, .int .i64 v, .slice A2 n2 c2]
  replace L := Lib.hid (KB.below L.out HB.out)
  replace L2 := Lib.hid (KB.below L2.out HB.out)
  go_enter Try.func11, Try.ntmps11
  go_wp2_with fail
  generalize (w.alloc (.cells #[.int .i64 p, .int .i64 q, .slice A n c] 24)).alloc (.cells #[.int .i64 u, .int .i64 v, .slice A2 n2 c2] 24) = W0 at *
  go_wp2_with fail
  refine (awake_is _).mono ?_
  rintro e w1 ⟨rfl, bb⟩
  replace bb := nextw (w0 := W0) (by exact sm) bb
  replace B_z0 := mv B_z0 bb
  replace B_z1 := mv B_z1 bb
  replace L := Lib.hid (KB.below L.out bb)
  replace L2 := Lib.hid (KB.below L2.out bb)
  replace HB := nx HB bb
  clear bb
  obtain ⟨c0z0, c1z0, c2z0⟩ := cells3 B_z0
  go_wp2_with fail
  refine (few_yes p q A n c l h0.out _ (KB.below L.out (by exact sm))).mono ?_
  clear c0z0 c1z0 c2z0
  rintro e w2 ⟨rfl, bb⟩
  replace bb := nextw (w0 := w1) (by exact sm) bb
  replace B_z0 := mv B_z0 bb
  replace B_z1 := mv B_z1 bb
  replace L := Lib.hid (KB.below L.out bb)
  replace L2 := Lib.hid (KB.below L2.out bb)
  replace HB := nx HB bb
  clear bb
  obtain ⟨c0z1, c1z1, c2z1⟩ := cells3 B_z1
  go_wp2_with fail
  refine (few_yes u v A2 n2 c2 l2 h1.out _ (KB.below L2.out (by exact sm))).mono ?_
  clear c0z1 c1z1 c2z1
  rintro e w3 ⟨rfl, bb⟩
  replace bb := nextw (w0 := w2) (by exact sm) bb
  replace B_z0 := mv B_z0 bb
  replace B_z1 := mv B_z1 bb
  replace L := Lib.hid (KB.below L.out bb)
  replace L2 := Lib.hid (KB.below L2.out bb)
  replace HB := nx HB bb
  clear bb
  obtain ⟨c0z0, c1z0, c2z0⟩ := cells3 B_z0
  obtain ⟨c0z1, c1z1, c2z1⟩ := cells3 B_z1
  go_wp2_with fail
  refine (Merge_nm p q u v A n c l A2 n2 c2 l2 b0 b1 HE.out HXP.out HXQ.out HM.out HN.out _ (KB.below L.out (by exact sm)) (KB.below L2.out (by exact sm))).mono ?_
  clear c0z0 c1z0 c2z0 c0z1 c1z1 c2z1
  rintro e w4 ⟨A5, c5, rfl, L5, bb⟩
  replace bb := nextw (w0 := w3) (by exact sm) bb
  replace B_z0 := mv B_z0 bb
  replace B_z1 := mv B_z1 bb
  replace L := Lib.hid (KB.below L.out bb)
  replace L2 := Lib.hid (KB.below L2.out bb)
  replace HB := nx HB bb
  clear bb
  replace L5 := Lib.hid L5
  have lt_z3z0 := B_z0.out.lt
  have lt_z3z1 := B_z1.out.lt
  obtain ⟨bb, B_z3⟩ := box1 w4 24 #[.int .i64 XP, .int .i64 XQ, .slice A5 N c5]
  replace bb := bb.out
  replace B_z0 := mv B_z0 bb
  replace B_z1 := mv B_z1 bb
  replace L := Lib.hid (KB.below L.out bb)
  replace L2 := Lib.hid (KB.below L2.out bb)
  replace L5 := Lib.hid (KB.below L5.out bb)
  replace HB := nx HB bb
  clear bb
  go_upto_region 4 with (fail)
  generalize w4.alloc (.cells #[.int .i64 XP, .int .i64 XQ, .slice A5 N c5] 24) = WA at *
  obtain ⟨c0z0, c1z0, c2z0⟩ := cells3 B_z0
  obtain ⟨c0z1, c1z1, c2z1⟩ := cells3 B_z1
  go_wp2_with fail
  refine (Merge_nm u v p q A2 n2 c2 l2 A n c l b1 b0 HE2.out HXP2.out HXQ2.out HM2.out HN.out _ (KB.below L2.out (by exact sm)) (KB.below L.out (by exact sm))).mono ?_
  clear c0z0 c1z0 c2z0 c0z1 c1z1 c2z1
  rintro e w5 ⟨A6, c6, rfl, L6, bb⟩
  replace bb := nextw (w0 := WA) (by exact sm) bb
  replace B_z0 := mv B_z0 bb
  replace B_z1 := mv B_z1 bb
  replace B_z3 := mv B_z3 bb
  replace L := Lib.hid (KB.below L.out bb)
  replace L2 := Lib.hid (KB.below L2.out bb)
  replace L5 := Lib.hid (KB.below L5.out bb)
  replace HB := nx HB bb
  clear bb
  replace L6 := Lib.hid L6
  have lt_z4z0 := B_z0.out.lt
  have lt_z4z1 := B_z1.out.lt
  have lt_z4z3 := B_z3.out.lt
  obtain ⟨bb, B_z4⟩ := box1 w5 24 #[.int .i64 XP, .int .i64 XQ, .slice A6 N c6]
  replace bb := bb.out
  replace B_z0 := mv B_z0 bb
  replace B_z1 := mv B_z1 bb
  replace B_z3 := mv B_z3 bb
  replace L := Lib.hid (KB.below L.out bb)
  replace L2 := Lib.hid (KB.below L2.out bb)
  replace L5 := Lib.hid (KB.below L5.out bb)
  replace L6 := Lib.hid (KB.below L6.out bb)
  replace HB := nx HB bb
  clear bb
  go_upto_region 5 with (fail)
  generalize w5.alloc (.cells #[.int .i64 XP, .int .i64 XQ, .slice A6 N c6] 24) = WB at *
  obtain ⟨c0z0, c1z0, c2z0⟩ := cells3 B_z0
  obtain ⟨c0z1, c1z1, c2z1⟩ := cells3 B_z1
  go_wp2_with fail
  refine (RMerge_nm p q u v A n c l A2 n2 c2 l2 b0 b1 HE.out HXP.out HXQ.out HM.out HN.out _ (KB.below L.out (by exact sm)) (KB.below L2.out (by exact sm))).mono ?_
  clear c0z0 c1z0 c2z0 c0z1 c1z1 c2z1
  rintro e w6 ⟨A7, c7, rfl, L7, bb⟩
  replace bb := nextw (w0 := WB) (by exact sm) bb
  replace B_z0 := mv B_z0 bb
  replace B_z1 := mv B_z1 bb
  replace B_z3 := mv B_z3 bb
  replace B_z4 := mv B_z4 bb
  replace L := Lib.hid (KB.below L.out bb)
  replace L2 := Lib.hid (KB.below L2.out bb)
  replace L5 := Lib.hid (KB.below L5.out bb)
  replace L6 := Lib.hid (KB.below L6.out bb)
  replace HB := nx HB bb
  clear bb
  replace L7 := Lib.hid L7
  have lt_z5z0 := B_z0.out.lt
  have lt_z5z1 := B_z1.out.lt
  have lt_z5z3 := B_z3.out.lt
  have lt_z5z4 := B_z4.out.lt
  obtain ⟨bb, B_z5⟩ := box1 w6 24 #[.int .i64 XP, .int .i64 XQ, .slice A7 N c7]
  replace bb := bb.out
  replace B_z0 := mv B_z0 bb
  replace B_z1 := mv B_z1 bb
  replace B_z3 := mv B_z3 bb
  replace B_z4 := mv B_z4 bb
  replace L := Lib.hid (KB.below L.out bb)
  replace L2 := Lib.hid (KB.below L2.out bb)
  replace L5 := Lib.hid (KB.below L5.out bb)
  replace L6 := Lib.hid (KB.below L6.out bb)
  replace L7 := Lib.hid (KB.below L7.out bb)
  replace HB := nx HB bb
  clear bb
  go_upto_region 6 with (fail)
  generalize w6.alloc (.cells #[.int .i64 XP, .int .i64 XQ, .slice A7 N c7] 24) = WD at *
  have hEE : (E == E) = true := beq_self_eq_true E
  obtain ⟨c0z0, c1z0, c2z0⟩ := cells3 B_z0
  obtain ⟨c0z1, c1z1, c2z1⟩ := cells3 B_z1
  obtain ⟨c0z3, c1z3, c2z3⟩ := cells3 B_z3
  obtain ⟨c0z4, c1z4, c2z4⟩ := cells3 B_z4
  obtain ⟨c0z5, c1z5, c2z5⟩ := cells3 B_z5
  have tk1x0 : True := trivial
  go_region_held3 (fun w' => w'.cell? ⟨w.heap.size, 0, none⟩ = some (.int .i64 p) ∧ w'.cell? ⟨w.heap.size, 1, none⟩ = some (.int .i64 q) ∧ w'.cell? ⟨w.heap.size, 2, none⟩ = some (.slice A n c) ∧ w'.cell? ⟨w.heap.size + 1, 0, none⟩ = some (.int .i64 u) ∧ w'.cell? ⟨w.heap.size + 1, 1, none⟩ = some (.int .i64 v) ∧ w'.cell? ⟨w.heap.size + 1, 2, none⟩ = some (.slice A2 n2 c2) ∧ w'.cell? ⟨w4.heap.size, 0, none⟩ = some (.int .i64 XP) ∧ w'.cell? ⟨w4.heap.size, 1, none⟩ = some (.int .i64 XQ) ∧ w'.cell? ⟨w4.heap.size, 2, none⟩ = some (.slice A5 N c5) ∧ w'.cell? ⟨w5.heap.size, 0, none⟩ = some (.int .i64 XP) ∧ w'.cell? ⟨w5.heap.size, 1, none⟩ = some (.int .i64 XQ) ∧ w'.cell? ⟨w5.heap.size, 2, none⟩ = some (.slice A6 N c6) ∧ w'.cell? ⟨w6.heap.size, 0, none⟩ = some (.int .i64 XP) ∧ w'.cell? ⟨w6.heap.size, 1, none⟩ = some (.int .i64 XQ) ∧ w'.cell? ⟨w6.heap.size, 2, none⟩ = some (.slice A7 N c7)) (((try dsimp only); (repeat' apply And.intro) <;> (first | (with_reducible assumption) | ((repeat (first | (with_reducible refine Eq.trans (cell_drew1 _ _) ?_) | (with_reducible refine Eq.trans (cell_far (by omega) _ _ _) ?_) | (with_reducible refine Eq.trans (World.cell?_alloc_lt _ _ _ (by first | (dsimp only; omega) | (simp only [World.size_alloc, World.size_setCell]; omega))) ?_))); with_reducible assumption) | assumption | go_keep)))
    (first
      | (clear tk1x0; go_at_call 19; refine (Plans_same XP XQ A5 N c5 A7 N c7 M _ (KB.below L5.out (by exact sm)) (KB.below L7.out (by exact sm))).mono ?_; rintro e w7 ⟨rfl, bb⟩; replace bb := nextw (w0 := WD) (by exact sm) bb; replace B_z0 := mv B_z0 bb; replace B_z1 := mv B_z1 bb; replace B_z3 := mv B_z3 bb; replace B_z4 := mv B_z4 bb; replace B_z5 := mv B_z5 bb; replace L := Lib.hid (KB.below L.out bb); replace L2 := Lib.hid (KB.below L2.out bb); replace L5 := Lib.hid (KB.below L5.out bb); replace L6 := Lib.hid (KB.below L6.out bb); replace L7 := Lib.hid (KB.below L7.out bb); replace HB := nx HB bb; clear bb c0z0 c1z0 c2z0 c0z1 c1z1 c2z1 c0z3 c1z3 c2z3 c0z4 c1z4 c2z4 c0z5 c1z5 c2z5; have c0z0 : w7.cell? ⟨w.heap.size, 0, none⟩ = some (.int .i64 p) := B_z0.out.cell 0 rfl; have c1z0 : w7.cell? ⟨w.heap.size, 1, none⟩ = some (.int .i64 q) := B_z0.out.cell 1 rfl; have c2z0 : w7.cell? ⟨w.heap.size, 2, none⟩ = some (.slice A n c) := B_z0.out.cell 2 rfl; have c0z1 : w7.cell? ⟨w.heap.size + 1, 0, none⟩ = some (.int .i64 u) := B_z1.out.cell 0 rfl; have c1z1 : w7.cell? ⟨w.heap.size + 1, 1, none⟩ = some (.int .i64 v) := B_z1.out.cell 1 rfl; have c2z1 : w7.cell? ⟨w.heap.size + 1, 2, none⟩ = some (.slice A2 n2 c2) := B_z1.out.cell 2 rfl; have c0z3 : w7.cell? ⟨w4.heap.size, 0, none⟩ = some (.int .i64 XP) := B_z3.out.cell 0 rfl; have c1z3 : w7.cell? ⟨w4.heap.size, 1, none⟩ = some (.int .i64 XQ) := B_z3.out.cell 1 rfl; have c2z3 : w7.cell? ⟨w4.heap.size, 2, none⟩ = some (.slice A5 N c5) := B_z3.out.cell 2 rfl; have c0z4 : w7.cell? ⟨w5.heap.size, 0, none⟩ = some (.int .i64 XP) := B_z4.out.cell 0 rfl; have c1z4 : w7.cell? ⟨w5.heap.size, 1, none⟩ = some (.int .i64 XQ) := B_z4.out.cell 1 rfl; have c2z4 : w7.cell? ⟨w5.heap.size, 2, none⟩ = some (.slice A6 N c6) := B_z4.out.cell 2 rfl; have c0z5 : w7.cell? ⟨w6.heap.size, 0, none⟩ = some (.int .i64 XP) := B_z5.out.cell 0 rfl; have c1z5 : w7.cell? ⟨w6.heap.size, 1, none⟩ = some (.int .i64 XQ) := B_z5.out.cell 1 rfl; have c2z5 : w7.cell? ⟨w6.heap.size, 2, none⟩ = some (.slice A7 N c7) := B_z5.out.cell 2 rfl; have tk1x1 : True := trivial)
      | (clear tk1x1; go_at_call 19; refine (Plans_same XP XQ A6 N c6 A7 N c7 M _ (KB.below L6.out (by exact sm)) (KB.below L7.out (by exact sm))).mono ?_; rintro e w8 ⟨rfl, bb⟩; replace bb := nextw (w0 := w7) (by exact sm) bb; replace B_z0 := mv B_z0 bb; replace B_z1 := mv B_z1 bb; replace B_z3 := mv B_z3 bb; replace B_z4 := mv B_z4 bb; replace B_z5 := mv B_z5 bb; replace L := Lib.hid (KB.below L.out bb); replace L2 := Lib.hid (KB.below L2.out bb); replace L5 := Lib.hid (KB.below L5.out bb); replace L6 := Lib.hid (KB.below L6.out bb); replace L7 := Lib.hid (KB.below L7.out bb); replace HB := nx HB bb; clear bb c0z0 c1z0 c2z0 c0z1 c1z1 c2z1 c0z3 c1z3 c2z3 c0z4 c1z4 c2z4 c0z5 c1z5 c2z5; have c0z0 : w8.cell? ⟨w.heap.size, 0, none⟩ = some (.int .i64 p) := B_z0.out.cell 0 rfl; have c1z0 : w8.cell? ⟨w.heap.size, 1, none⟩ = some (.int .i64 q) := B_z0.out.cell 1 rfl; have c2z0 : w8.cell? ⟨w.heap.size, 2, none⟩ = some (.slice A n c) := B_z0.out.cell 2 rfl; have c0z1 : w8.cell? ⟨w.heap.size + 1, 0, none⟩ = some (.int .i64 u) := B_z1.out.cell 0 rfl; have c1z1 : w8.cell? ⟨w.heap.size + 1, 1, none⟩ = some (.int .i64 v) := B_z1.out.cell 1 rfl; have c2z1 : w8.cell? ⟨w.heap.size + 1, 2, none⟩ = some (.slice A2 n2 c2) := B_z1.out.cell 2 rfl; have c0z3 : w8.cell? ⟨w4.heap.size, 0, none⟩ = some (.int .i64 XP) := B_z3.out.cell 0 rfl; have c1z3 : w8.cell? ⟨w4.heap.size, 1, none⟩ = some (.int .i64 XQ) := B_z3.out.cell 1 rfl; have c2z3 : w8.cell? ⟨w4.heap.size, 2, none⟩ = some (.slice A5 N c5) := B_z3.out.cell 2 rfl; have c0z4 : w8.cell? ⟨w5.heap.size, 0, none⟩ = some (.int .i64 XP) := B_z4.out.cell 0 rfl; have c1z4 : w8.cell? ⟨w5.heap.size, 1, none⟩ = some (.int .i64 XQ) := B_z4.out.cell 1 rfl; have c2z4 : w8.cell? ⟨w5.heap.size, 2, none⟩ = some (.slice A6 N c6) := B_z4.out.cell 2 rfl; have c0z5 : w8.cell? ⟨w6.heap.size, 0, none⟩ = some (.int .i64 XP) := B_z5.out.cell 0 rfl; have c1z5 : w8.cell? ⟨w6.heap.size, 1, none⟩ = some (.int .i64 XQ) := B_z5.out.cell 1 rfl; have c2z5 : w8.cell? ⟨w6.heap.size, 2, none⟩ = some (.slice A7 N c7) := B_z5.out.cell 2 rfl; have tk1x2 : True := trivial)
      | (clear tk1x2; go_at_call 48; refine (Below_yes p q u v A n c l A2 n2 c2 l2 b0 b1 g.out _ (KB.below L.out (by exact sm)) (KB.below L2.out (by exact sm))).mono ?_; rintro e w9 ⟨rfl, bb⟩; replace bb := nextw (w0 := w8) (by exact sm) bb; replace B_z0 := mv B_z0 bb; replace B_z1 := mv B_z1 bb; replace B_z3 := mv B_z3 bb; replace B_z4 := mv B_z4 bb; replace B_z5 := mv B_z5 bb; replace L := Lib.hid (KB.below L.out bb); replace L2 := Lib.hid (KB.below L2.out bb); replace L5 := Lib.hid (KB.below L5.out bb); replace L6 := Lib.hid (KB.below L6.out bb); replace L7 := Lib.hid (KB.below L7.out bb); replace HB := nx HB bb; clear bb c0z0 c1z0 c2z0 c0z1 c1z1 c2z1 c0z3 c1z3 c2z3 c0z4 c1z4 c2z4 c0z5 c1z5 c2z5; have c0z0 : w9.cell? ⟨w.heap.size, 0, none⟩ = some (.int .i64 p) := B_z0.out.cell 0 rfl; have c1z0 : w9.cell? ⟨w.heap.size, 1, none⟩ = some (.int .i64 q) := B_z0.out.cell 1 rfl; have c2z0 : w9.cell? ⟨w.heap.size, 2, none⟩ = some (.slice A n c) := B_z0.out.cell 2 rfl; have c0z1 : w9.cell? ⟨w.heap.size + 1, 0, none⟩ = some (.int .i64 u) := B_z1.out.cell 0 rfl; have c1z1 : w9.cell? ⟨w.heap.size + 1, 1, none⟩ = some (.int .i64 v) := B_z1.out.cell 1 rfl; have c2z1 : w9.cell? ⟨w.heap.size + 1, 2, none⟩ = some (.slice A2 n2 c2) := B_z1.out.cell 2 rfl; have c0z3 : w9.cell? ⟨w4.heap.size, 0, none⟩ = some (.int .i64 XP) := B_z3.out.cell 0 rfl; have c1z3 : w9.cell? ⟨w4.heap.size, 1, none⟩ = some (.int .i64 XQ) := B_z3.out.cell 1 rfl; have c2z3 : w9.cell? ⟨w4.heap.size, 2, none⟩ = some (.slice A5 N c5) := B_z3.out.cell 2 rfl; have c0z4 : w9.cell? ⟨w5.heap.size, 0, none⟩ = some (.int .i64 XP) := B_z4.out.cell 0 rfl; have c1z4 : w9.cell? ⟨w5.heap.size, 1, none⟩ = some (.int .i64 XQ) := B_z4.out.cell 1 rfl; have c2z4 : w9.cell? ⟨w5.heap.size, 2, none⟩ = some (.slice A6 N c6) := B_z4.out.cell 2 rfl; have c0z5 : w9.cell? ⟨w6.heap.size, 0, none⟩ = some (.int .i64 XP) := B_z5.out.cell 0 rfl; have c1z5 : w9.cell? ⟨w6.heap.size, 1, none⟩ = some (.int .i64 XQ) := B_z5.out.cell 1 rfl; have c2z5 : w9.cell? ⟨w6.heap.size, 2, none⟩ = some (.slice A7 N c7) := B_z5.out.cell 2 rfl; have tk1x3 : True := trivial)
      | (clear tk1x3; go_at_call 49; refine (RBelow_yes p q u v A n c l A2 n2 c2 l2 b0 b1 g.out _ (KB.below L.out (by exact sm)) (KB.below L2.out (by exact sm))).mono ?_; rintro e w10 ⟨rfl, bb⟩; replace bb := nextw (w0 := w9) (by exact sm) bb; replace B_z0 := mv B_z0 bb; replace B_z1 := mv B_z1 bb; replace B_z3 := mv B_z3 bb; replace B_z4 := mv B_z4 bb; replace B_z5 := mv B_z5 bb; replace L := Lib.hid (KB.below L.out bb); replace L2 := Lib.hid (KB.below L2.out bb); replace L5 := Lib.hid (KB.below L5.out bb); replace L6 := Lib.hid (KB.below L6.out bb); replace L7 := Lib.hid (KB.below L7.out bb); replace HB := nx HB bb; clear bb c0z0 c1z0 c2z0 c0z1 c1z1 c2z1 c0z3 c1z3 c2z3 c0z4 c1z4 c2z4 c0z5 c1z5 c2z5; have c0z0 : w10.cell? ⟨w.heap.size, 0, none⟩ = some (.int .i64 p) := B_z0.out.cell 0 rfl; have c1z0 : w10.cell? ⟨w.heap.size, 1, none⟩ = some (.int .i64 q) := B_z0.out.cell 1 rfl; have c2z0 : w10.cell? ⟨w.heap.size, 2, none⟩ = some (.slice A n c) := B_z0.out.cell 2 rfl; have c0z1 : w10.cell? ⟨w.heap.size + 1, 0, none⟩ = some (.int .i64 u) := B_z1.out.cell 0 rfl; have c1z1 : w10.cell? ⟨w.heap.size + 1, 1, none⟩ = some (.int .i64 v) := B_z1.out.cell 1 rfl; have c2z1 : w10.cell? ⟨w.heap.size + 1, 2, none⟩ = some (.slice A2 n2 c2) := B_z1.out.cell 2 rfl; have c0z3 : w10.cell? ⟨w4.heap.size, 0, none⟩ = some (.int .i64 XP) := B_z3.out.cell 0 rfl; have c1z3 : w10.cell? ⟨w4.heap.size, 1, none⟩ = some (.int .i64 XQ) := B_z3.out.cell 1 rfl; have c2z3 : w10.cell? ⟨w4.heap.size, 2, none⟩ = some (.slice A5 N c5) := B_z3.out.cell 2 rfl; have c0z4 : w10.cell? ⟨w5.heap.size, 0, none⟩ = some (.int .i64 XP) := B_z4.out.cell 0 rfl; have c1z4 : w10.cell? ⟨w5.heap.size, 1, none⟩ = some (.int .i64 XQ) := B_z4.out.cell 1 rfl; have c2z4 : w10.cell? ⟨w5.heap.size, 2, none⟩ = some (.slice A6 N c6) := B_z4.out.cell 2 rfl; have c0z5 : w10.cell? ⟨w6.heap.size, 0, none⟩ = some (.int .i64 XP) := B_z5.out.cell 0 rfl; have c1z5 : w10.cell? ⟨w6.heap.size, 1, none⟩ = some (.int .i64 XQ) := B_z5.out.cell 1 rfl; have c2z5 : w10.cell? ⟨w6.heap.size, 2, none⟩ = some (.slice A7 N c7) := B_z5.out.cell 2 rfl; have tk1x4 : True := trivial))
  go_wp2
  go_ret
  exact ⟨rfl, nextw HB.out (by exact sm)⟩

set_option maxRecDepth 100000 in
set_option maxHeartbeats 4000000 in
theorem LMerges_no (p q u v : Int) (A : Option Addr) (n c : Nat) (l : List Int) (A2 : Option Addr) (n2 c2 : Nat) (l2 : List Int) (h0 : ((n : Nat) : Int) ≤ 5000) (h1 : ((n2 : Nat) : Int) ≤ 5000) (g : ¬ BelP p q l u v l2) (w : World) {lo hi lo2 hi2 : Nat} (L : KB w lo hi A n c l) (L2 : KB w lo2 hi2 A2 n2 c2 l2) :
    Calls Try.prog 11 #[.agg #[.int .i64 p, .int .i64 q, .slice A n c], .agg #[.int .i64 u, .int .i64 v, .slice A2 n2 c2]] w fun e w' => e = .returned (.bool true) ∧ Below w.heap.size w w' := by
  have b0 : n ≤ 1000000 := by omega
  have b1 : n2 ≤ 1000000 := by omega
  obtain ⟨E, hE⟩ : ∃ e, mgE p q l u v l2 = e := ⟨_, rfl⟩
  obtain ⟨XP, hXP⟩ : ∃ e, mgX p q l u v l2 p = e := ⟨_, rfl⟩
  obtain ⟨XQ, hXQ⟩ : ∃ e, mgX p q l u v l2 q = e := ⟨_, rfl⟩
  obtain ⟨M, hM⟩ : ∃ e, mgV p q l u v l2 = e := ⟨_, rfl⟩
  obtain ⟨N, hN⟩ : ∃ e, M.length = e := ⟨_, rfl⟩
  have HE := Lib.hid hE
  have HXP := Lib.hid hXP
  have HXQ := Lib.hid hXQ
  have HM := Lib.hid hM
  have HN := Lib.hid hN
  have HE2 := Lib.hid (mgE_comm.trans hE)
  have HXP2 := Lib.hid (mgX_comm1.trans hXP)
  have HXQ2 := Lib.hid (mgX_comm2.trans hXQ)
  have HM2 := Lib.hid (mgV_comm.trans hM)
  clear hE hXP hXQ hM hN
  replace h0 := Lib.hid h0
  replace h1 := Lib.hid h1
  replace g := Lib.hid g
  replace L := Lib.hid L
  replace L2 := Lib.hid L2
  obtain ⟨HB, B_z0, B_z1⟩ := box2 w 24 #[.int .i64 p, .int .i64 q, .slice A n c] 24 #[.int .i64 u, .int .i64 v, .slice A2 n2 c2]
  replace L := Lib.hid (KB.below L.out HB.out)
  replace L2 := Lib.hid (KB.below L2.out HB.out)
  go_enter Try.func11, Try.ntmps11
  go_wp2_with fail
  generalize (w.alloc (.cells #[.int .i64 p, .int .i64 q, .slice A n c] 24)).alloc (.cells #[.int .i64 u, .int .i64 v, .slice A2 n2 c2] 24) = W0 at *
  go_wp2_with fail
  refine (awake_is _).mono ?_
  rintro e w1 ⟨rfl, bb⟩
  replace bb := nextw (w0 := W0) (by exact sm) bb
  replace B_z0 := mv B_z0 bb
  replace B_z1 := mv B_z1 bb
  replace L := Lib.hid (KB.below L.out bb)
  replace L2 := Lib.hid (KB.below L2.out bb)
  replace HB := nx HB bb
  clear bb
  obtain ⟨c0z0, c1z0, c2z0⟩ := cells3 B_z0
  go_wp2_with fail
  refine (few_yes p q A n c l h0.out _ (KB.below L.out (by exact sm))).mono ?_
  clear c0z0 c1z0 c2z0
  rintro e w2 ⟨rfl, bb⟩
  replace bb := nextw (w0 := w1) (by exact sm) bb
  replace B_z0 := mv B_z0 bb
  replace B_z1 := mv B_z1 bb
  replace L := Lib.hid (KB.below L.out bb)
  replace L2 := Lib.hid (KB.below L2.out bb)
  replace HB := nx HB bb
  clear bb
  obtain ⟨c0z1, c1z1, c2z1⟩ := cells3 B_z1
  go_wp2_with fail
  refine (few_yes u v A2 n2 c2 l2 h1.out _ (KB.below L2.out (by exact sm))).mono ?_
  clear c0z1 c1z1 c2z1
  rintro e w3 ⟨rfl, bb⟩
  replace bb := nextw (w0 := w2) (by exact sm) bb
  replace B_z0 := mv B_z0 bb
  replace B_z1 := mv B_z1 bb
  replace L := Lib.hid (KB.below L.out bb)
  replace L2 := Lib.hid (KB.below L2.out bb)
  replace HB := nx HB bb
  clear bb
  obtain ⟨c0z0, c1z0, c2z0⟩ := cells3 B_z0
  obtain ⟨c0z1, c1z1, c2z1⟩ := cells3 B_z1
  go_wp2_with fail
  refine (Merge_nm p q u v A n c l A2 n2 c2 l2 b0 b1 HE.out HXP.out HXQ.out HM.out HN.out _ (KB.below L.out (by exact sm)) (KB.below L2.out (by exact sm))).mono ?_
  clear c0z0 c1z0 c2z0 c0z1 c1z1 c2z1
  rintro e w4 ⟨A5, c5, rfl, L5, bb⟩
  replace bb := nextw (w0 := w3) (by exact sm) bb
  replace B_z0 := mv B_z0 bb
  replace B_z1 := mv B_z1 bb
  replace L := Lib.hid (KB.below L.out bb)
  replace L2 := Lib.hid (KB.below L2.out bb)
  replace HB := nx HB bb
  clear bb
  replace L5 := Lib.hid L5
  have lt_z3z0 := B_z0.out.lt
  have lt_z3z1 := B_z1.out.lt
  obtain ⟨bb, B_z3⟩ := box1 w4 24 #[.int .i64 XP, .int .i64 XQ, .slice A5 N c5]
  replace bb := bb.out
  replace B_z0 := mv B_z0 bb
  replace B_z1 := mv B_z1 bb
  replace L := Lib.hid (KB.below L.out bb)
  replace L2 := Lib.hid (KB.below L2.out bb)
  replace L5 := Lib.hid (KB.below L5.out bb)
  replace HB := nx HB bb
  clear bb
  go_upto_region 4 with (fail)
  generalize w4.alloc (.cells #[.int .i64 XP, .int .i64 XQ, .slice A5 N c5] 24) = WA at *
  obtain ⟨c0z0, c1z0, c2z0⟩ := cells3 B_z0
  obtain ⟨c0z1, c1z1, c2z1⟩ := cells3 B_z1
  go_wp2_with fail
  refine (Merge_nm u v p q A2 n2 c2 l2 A n c l b1 b0 HE2.out HXP2.out HXQ2.out HM2.out HN.out _ (KB.below L2.out (by exact sm)) (KB.below L.out (by exact sm))).mono ?_
  clear c0z0 c1z0 c2z0 c0z1 c1z1 c2z1
  rintro e w5 ⟨A6, c6, rfl, L6, bb⟩
  replace bb := nextw (w0 := WA) (by exact sm) bb
  replace B_z0 := mv B_z0 bb
  replace B_z1 := mv B_z1 bb
  replace B_z3 := mv B_z3 bb
  replace L := Lib.hid (KB.below L.out bb)
  replace L2 := Lib.hid (KB.below L2.out bb)
  replace L5 := Lib.hid (KB.below L5.out bb)
  replace HB := nx HB bb
  clear bb
  replace L6 := Lib.hid L6
  have lt_z4z0 := B_z0.out.lt
  have lt_z4z1 := B_z1.out.lt
  have lt_z4z3 := B_z3.out.lt
  obtain ⟨bb, B_z4⟩ := box1 w5 24 #[.int .i64 XP, .int .i64 XQ, .slice A6 N c6]
  replace bb := bb.out
  replace B_z0 := mv B_z0 bb
  replace B_z1 := mv B_z1 bb
  replace B_z3 := mv B_z3 bb
  replace L := Lib.hid (KB.below L.out bb)
  replace L2 := Lib.hid (KB.below L2.out bb)
  replace L5 := Lib.hid (KB.below L5.out bb)
  replace L6 := Lib.hid (KB.below L6.out bb)
  replace HB := nx HB bb
  clear bb
  go_upto_region 5 with (fail)
  generalize w5.alloc (.cells #[.int .i64 XP, .int .i64 XQ, .slice A6 N c6] 24) = WB at *
  obtain ⟨c0z0, c1z0, c2z0⟩ := cells3 B_z0
  obtain ⟨c0z1, c1z1, c2z1⟩ := cells3 B_z1
  go_wp2_with fail
  refine (RMerge_nm p q u v A n c l A2 n2 c2 l2 b0 b1 HE.out HXP.out HXQ.out HM.out HN.out _ (KB.below L.out (by exact sm)) (KB.below L2.out (by exact sm))).mono ?_
  clear c0z0 c1z0 c2z0 c0z1 c1z1 c2z1
  rintro e w6 ⟨A7, c7, rfl, L7, bb⟩
  replace bb := nextw (w0 := WB) (by exact sm) bb
  replace B_z0 := mv B_z0 bb
  replace B_z1 := mv B_z1 bb
  replace B_z3 := mv B_z3 bb
  replace B_z4 := mv B_z4 bb
  replace L := Lib.hid (KB.below L.out bb)
  replace L2 := Lib.hid (KB.below L2.out bb)
  replace L5 := Lib.hid (KB.below L5.out bb)
  replace L6 := Lib.hid (KB.below L6.out bb)
  replace HB := nx HB bb
  clear bb
  replace L7 := Lib.hid L7
  have lt_z5z0 := B_z0.out.lt
  have lt_z5z1 := B_z1.out.lt
  have lt_z5z3 := B_z3.out.lt
  have lt_z5z4 := B_z4.out.lt
  obtain ⟨bb, B_z5⟩ := box1 w6 24 #[.int .i64 XP, .int .i64 XQ, .slice A7 N c7]
  replace bb := bb.out
  replace B_z0 := mv B_z0 bb
  replace B_z1 := mv B_z1 bb
  replace B_z3 := mv B_z3 bb
  replace B_z4 := mv B_z4 bb
  replace L := Lib.hid (KB.below L.out bb)
  replace L2 := Lib.hid (KB.below L2.out bb)
  replace L5 := Lib.hid (KB.below L5.out bb)
  replace L6 := Lib.hid (KB.below L6.out bb)
  replace L7 := Lib.hid (KB.below L7.out bb)
  replace HB := nx HB bb
  clear bb
  go_upto_region 6 with (fail)
  generalize w6.alloc (.cells #[.int .i64 XP, .int .i64 XQ, .slice A7 N c7] 24) = WD at *
  have hEE : (E == E) = true := beq_self_eq_true E
  obtain ⟨c0z0, c1z0, c2z0⟩ := cells3 B_z0
  obtain ⟨c0z1, c1z1, c2z1⟩ := cells3 B_z1
  obtain ⟨c0z3, c1z3, c2z3⟩ := cells3 B_z3
  obtain ⟨c0z4, c1z4, c2z4⟩ := cells3 B_z4
  obtain ⟨c0z5, c1z5, c2z5⟩ := cells3 B_z5
  have tk1x0 : True := trivial
  go_region_held3 (fun w' => w'.cell? ⟨w.heap.size, 0, none⟩ = some (.int .i64 p) ∧ w'.cell? ⟨w.heap.size, 1, none⟩ = some (.int .i64 q) ∧ w'.cell? ⟨w.heap.size, 2, none⟩ = some (.slice A n c) ∧ w'.cell? ⟨w.heap.size + 1, 0, none⟩ = some (.int .i64 u) ∧ w'.cell? ⟨w.heap.size + 1, 1, none⟩ = some (.int .i64 v) ∧ w'.cell? ⟨w.heap.size + 1, 2, none⟩ = some (.slice A2 n2 c2) ∧ w'.cell? ⟨w4.heap.size, 0, none⟩ = some (.int .i64 XP) ∧ w'.cell? ⟨w4.heap.size, 1, none⟩ = some (.int .i64 XQ) ∧ w'.cell? ⟨w4.heap.size, 2, none⟩ = some (.slice A5 N c5) ∧ w'.cell? ⟨w5.heap.size, 0, none⟩ = some (.int .i64 XP) ∧ w'.cell? ⟨w5.heap.size, 1, none⟩ = some (.int .i64 XQ) ∧ w'.cell? ⟨w5.heap.size, 2, none⟩ = some (.slice A6 N c6) ∧ w'.cell? ⟨w6.heap.size, 0, none⟩ = some (.int .i64 XP) ∧ w'.cell? ⟨w6.heap.size, 1, none⟩ = some (.int .i64 XQ) ∧ w'.cell? ⟨w6.heap.size, 2, none⟩ = some (.slice A7 N c7)) (((try dsimp only); (repeat' apply And.intro) <;> (first | (with_reducible assumption) | ((repeat (first | (with_reducible refine Eq.trans (cell_drew1 _ _) ?_) | (with_reducible refine Eq.trans (cell_far (by omega) _ _ _) ?_) | (with_reducible refine Eq.trans (World.cell?_alloc_lt _ _ _ (by first | (dsimp only; omega) | (simp only [World.size_alloc, World.size_setCell]; omega))) ?_))); with_reducible assumption) | assumption | go_keep)))
    (first
      | (clear tk1x0; go_at_call 19; refine (Plans_same XP XQ A5 N c5 A7 N c7 M _ (KB.below L5.out (by exact sm)) (KB.below L7.out (by exact sm))).mono ?_; rintro e w7 ⟨rfl, bb⟩; replace bb := nextw (w0 := WD) (by exact sm) bb; replace B_z0 := mv B_z0 bb; replace B_z1 := mv B_z1 bb; replace B_z3 := mv B_z3 bb; replace B_z4 := mv B_z4 bb; replace B_z5 := mv B_z5 bb; replace L := Lib.hid (KB.below L.out bb); replace L2 := Lib.hid (KB.below L2.out bb); replace L5 := Lib.hid (KB.below L5.out bb); replace L6 := Lib.hid (KB.below L6.out bb); replace L7 := Lib.hid (KB.below L7.out bb); replace HB := nx HB bb; clear bb c0z0 c1z0 c2z0 c0z1 c1z1 c2z1 c0z3 c1z3 c2z3 c0z4 c1z4 c2z4 c0z5 c1z5 c2z5; have c0z0 : w7.cell? ⟨w.heap.size, 0, none⟩ = some (.int .i64 p) := B_z0.out.cell 0 rfl; have c1z0 : w7.cell? ⟨w.heap.size, 1, none⟩ = some (.int .i64 q) := B_z0.out.cell 1 rfl; have c2z0 : w7.cell? ⟨w.heap.size, 2, none⟩ = some (.slice A n c) := B_z0.out.cell 2 rfl; have c0z1 : w7.cell? ⟨w.heap.size + 1, 0, none⟩ = some (.int .i64 u) := B_z1.out.cell 0 rfl; have c1z1 : w7.cell? ⟨w.heap.size + 1, 1, none⟩ = some (.int .i64 v) := B_z1.out.cell 1 rfl; have c2z1 : w7.cell? ⟨w.heap.size + 1, 2, none⟩ = some (.slice A2 n2 c2) := B_z1.out.cell 2 rfl; have c0z3 : w7.cell? ⟨w4.heap.size, 0, none⟩ = some (.int .i64 XP) := B_z3.out.cell 0 rfl; have c1z3 : w7.cell? ⟨w4.heap.size, 1, none⟩ = some (.int .i64 XQ) := B_z3.out.cell 1 rfl; have c2z3 : w7.cell? ⟨w4.heap.size, 2, none⟩ = some (.slice A5 N c5) := B_z3.out.cell 2 rfl; have c0z4 : w7.cell? ⟨w5.heap.size, 0, none⟩ = some (.int .i64 XP) := B_z4.out.cell 0 rfl; have c1z4 : w7.cell? ⟨w5.heap.size, 1, none⟩ = some (.int .i64 XQ) := B_z4.out.cell 1 rfl; have c2z4 : w7.cell? ⟨w5.heap.size, 2, none⟩ = some (.slice A6 N c6) := B_z4.out.cell 2 rfl; have c0z5 : w7.cell? ⟨w6.heap.size, 0, none⟩ = some (.int .i64 XP) := B_z5.out.cell 0 rfl; have c1z5 : w7.cell? ⟨w6.heap.size, 1, none⟩ = some (.int .i64 XQ) := B_z5.out.cell 1 rfl; have c2z5 : w7.cell? ⟨w6.heap.size, 2, none⟩ = some (.slice A7 N c7) := B_z5.out.cell 2 rfl; have tk1x1 : True := trivial)
      | (clear tk1x1; go_at_call 19; refine (Plans_same XP XQ A6 N c6 A7 N c7 M _ (KB.below L6.out (by exact sm)) (KB.below L7.out (by exact sm))).mono ?_; rintro e w8 ⟨rfl, bb⟩; replace bb := nextw (w0 := w7) (by exact sm) bb; replace B_z0 := mv B_z0 bb; replace B_z1 := mv B_z1 bb; replace B_z3 := mv B_z3 bb; replace B_z4 := mv B_z4 bb; replace B_z5 := mv B_z5 bb; replace L := Lib.hid (KB.below L.out bb); replace L2 := Lib.hid (KB.below L2.out bb); replace L5 := Lib.hid (KB.below L5.out bb); replace L6 := Lib.hid (KB.below L6.out bb); replace L7 := Lib.hid (KB.below L7.out bb); replace HB := nx HB bb; clear bb c0z0 c1z0 c2z0 c0z1 c1z1 c2z1 c0z3 c1z3 c2z3 c0z4 c1z4 c2z4 c0z5 c1z5 c2z5; have c0z0 : w8.cell? ⟨w.heap.size, 0, none⟩ = some (.int .i64 p) := B_z0.out.cell 0 rfl; have c1z0 : w8.cell? ⟨w.heap.size, 1, none⟩ = some (.int .i64 q) := B_z0.out.cell 1 rfl; have c2z0 : w8.cell? ⟨w.heap.size, 2, none⟩ = some (.slice A n c) := B_z0.out.cell 2 rfl; have c0z1 : w8.cell? ⟨w.heap.size + 1, 0, none⟩ = some (.int .i64 u) := B_z1.out.cell 0 rfl; have c1z1 : w8.cell? ⟨w.heap.size + 1, 1, none⟩ = some (.int .i64 v) := B_z1.out.cell 1 rfl; have c2z1 : w8.cell? ⟨w.heap.size + 1, 2, none⟩ = some (.slice A2 n2 c2) := B_z1.out.cell 2 rfl; have c0z3 : w8.cell? ⟨w4.heap.size, 0, none⟩ = some (.int .i64 XP) := B_z3.out.cell 0 rfl; have c1z3 : w8.cell? ⟨w4.heap.size, 1, none⟩ = some (.int .i64 XQ) := B_z3.out.cell 1 rfl; have c2z3 : w8.cell? ⟨w4.heap.size, 2, none⟩ = some (.slice A5 N c5) := B_z3.out.cell 2 rfl; have c0z4 : w8.cell? ⟨w5.heap.size, 0, none⟩ = some (.int .i64 XP) := B_z4.out.cell 0 rfl; have c1z4 : w8.cell? ⟨w5.heap.size, 1, none⟩ = some (.int .i64 XQ) := B_z4.out.cell 1 rfl; have c2z4 : w8.cell? ⟨w5.heap.size, 2, none⟩ = some (.slice A6 N c6) := B_z4.out.cell 2 rfl; have c0z5 : w8.cell? ⟨w6.heap.size, 0, none⟩ = some (.int .i64 XP) := B_z5.out.cell 0 rfl; have c1z5 : w8.cell? ⟨w6.heap.size, 1, none⟩ = some (.int .i64 XQ) := B_z5.out.cell 1 rfl; have c2z5 : w8.cell? ⟨w6.heap.size, 2, none⟩ = some (.slice A7 N c7) := B_z5.out.cell 2 rfl; have tk1x2 : True := trivial)
      | (clear tk1x2; go_at_call 48; refine (Below_no p q u v A n c l A2 n2 c2 l2 b0 b1 g.out _ (KB.below L.out (by exact sm)) (KB.below L2.out (by exact sm))).mono ?_; rintro e w9 ⟨rfl, bb⟩; replace bb := nextw (w0 := w8) (by exact sm) bb; replace B_z0 := mv B_z0 bb; replace B_z1 := mv B_z1 bb; replace B_z3 := mv B_z3 bb; replace B_z4 := mv B_z4 bb; replace B_z5 := mv B_z5 bb; replace L := Lib.hid (KB.below L.out bb); replace L2 := Lib.hid (KB.below L2.out bb); replace L5 := Lib.hid (KB.below L5.out bb); replace L6 := Lib.hid (KB.below L6.out bb); replace L7 := Lib.hid (KB.below L7.out bb); replace HB := nx HB bb; clear bb c0z0 c1z0 c2z0 c0z1 c1z1 c2z1 c0z3 c1z3 c2z3 c0z4 c1z4 c2z4 c0z5 c1z5 c2z5; have c0z0 : w9.cell? ⟨w.heap.size, 0, none⟩ = some (.int .i64 p) := B_z0.out.cell 0 rfl; have c1z0 : w9.cell? ⟨w.heap.size, 1, none⟩ = some (.int .i64 q) := B_z0.out.cell 1 rfl; have c2z0 : w9.cell? ⟨w.heap.size, 2, none⟩ = some (.slice A n c) := B_z0.out.cell 2 rfl; have c0z1 : w9.cell? ⟨w.heap.size + 1, 0, none⟩ = some (.int .i64 u) := B_z1.out.cell 0 rfl; have c1z1 : w9.cell? ⟨w.heap.size + 1, 1, none⟩ = some (.int .i64 v) := B_z1.out.cell 1 rfl; have c2z1 : w9.cell? ⟨w.heap.size + 1, 2, none⟩ = some (.slice A2 n2 c2) := B_z1.out.cell 2 rfl; have c0z3 : w9.cell? ⟨w4.heap.size, 0, none⟩ = some (.int .i64 XP) := B_z3.out.cell 0 rfl; have c1z3 : w9.cell? ⟨w4.heap.size, 1, none⟩ = some (.int .i64 XQ) := B_z3.out.cell 1 rfl; have c2z3 : w9.cell? ⟨w4.heap.size, 2, none⟩ = some (.slice A5 N c5) := B_z3.out.cell 2 rfl; have c0z4 : w9.cell? ⟨w5.heap.size, 0, none⟩ = some (.int .i64 XP) := B_z4.out.cell 0 rfl; have c1z4 : w9.cell? ⟨w5.heap.size, 1, none⟩ = some (.int .i64 XQ) := B_z4.out.cell 1 rfl; have c2z4 : w9.cell? ⟨w5.heap.size, 2, none⟩ = some (.slice A6 N c6) := B_z4.out.cell 2 rfl; have c0z5 : w9.cell? ⟨w6.heap.size, 0, none⟩ = some (.int .i64 XP) := B_z5.out.cell 0 rfl; have c1z5 : w9.cell? ⟨w6.heap.size, 1, none⟩ = some (.int .i64 XQ) := B_z5.out.cell 1 rfl; have c2z5 : w9.cell? ⟨w6.heap.size, 2, none⟩ = some (.slice A7 N c7) := B_z5.out.cell 2 rfl; have tk1x3 : True := trivial)
      | (clear tk1x3; go_at_call 49; refine (RBelow_no p q u v A n c l A2 n2 c2 l2 b0 b1 g.out _ (KB.below L.out (by exact sm)) (KB.below L2.out (by exact sm))).mono ?_; rintro e w10 ⟨rfl, bb⟩; replace bb := nextw (w0 := w9) (by exact sm) bb; replace B_z0 := mv B_z0 bb; replace B_z1 := mv B_z1 bb; replace B_z3 := mv B_z3 bb; replace B_z4 := mv B_z4 bb; replace B_z5 := mv B_z5 bb; replace L := Lib.hid (KB.below L.out bb); replace L2 := Lib.hid (KB.below L2.out bb); replace L5 := Lib.hid (KB.below L5.out bb); replace L6 := Lib.hid (KB.below L6.out bb); replace L7 := Lib.hid (KB.below L7.out bb); replace HB := nx HB bb; clear bb c0z0 c1z0 c2z0 c0z1 c1z1 c2z1 c0z3 c1z3 c2z3 c0z4 c1z4 c2z4 c0z5 c1z5 c2z5; have c0z0 : w10.cell? ⟨w.heap.size, 0, none⟩ = some (.int .i64 p) := B_z0.out.cell 0 rfl; have c1z0 : w10.cell? ⟨w.heap.size, 1, none⟩ = some (.int .i64 q) := B_z0.out.cell 1 rfl; have c2z0 : w10.cell? ⟨w.heap.size, 2, none⟩ = some (.slice A n c) := B_z0.out.cell 2 rfl; have c0z1 : w10.cell? ⟨w.heap.size + 1, 0, none⟩ = some (.int .i64 u) := B_z1.out.cell 0 rfl; have c1z1 : w10.cell? ⟨w.heap.size + 1, 1, none⟩ = some (.int .i64 v) := B_z1.out.cell 1 rfl; have c2z1 : w10.cell? ⟨w.heap.size + 1, 2, none⟩ = some (.slice A2 n2 c2) := B_z1.out.cell 2 rfl; have c0z3 : w10.cell? ⟨w4.heap.size, 0, none⟩ = some (.int .i64 XP) := B_z3.out.cell 0 rfl; have c1z3 : w10.cell? ⟨w4.heap.size, 1, none⟩ = some (.int .i64 XQ) := B_z3.out.cell 1 rfl; have c2z3 : w10.cell? ⟨w4.heap.size, 2, none⟩ = some (.slice A5 N c5) := B_z3.out.cell 2 rfl; have c0z4 : w10.cell? ⟨w5.heap.size, 0, none⟩ = some (.int .i64 XP) := B_z4.out.cell 0 rfl; have c1z4 : w10.cell? ⟨w5.heap.size, 1, none⟩ = some (.int .i64 XQ) := B_z4.out.cell 1 rfl; have c2z4 : w10.cell? ⟨w5.heap.size, 2, none⟩ = some (.slice A6 N c6) := B_z4.out.cell 2 rfl; have c0z5 : w10.cell? ⟨w6.heap.size, 0, none⟩ = some (.int .i64 XP) := B_z5.out.cell 0 rfl; have c1z5 : w10.cell? ⟨w6.heap.size, 1, none⟩ = some (.int .i64 XQ) := B_z5.out.cell 1 rfl; have c2z5 : w10.cell? ⟨w6.heap.size, 2, none⟩ = some (.slice A7 N c7) := B_z5.out.cell 2 rfl; have tk1x4 : True := trivial))
  go_wp2
  go_ret
  exact ⟨rfl, nextw HB.out (by exact sm)⟩

theorem LMerges_any (p q u v : Int) (A : Option Addr) (n c : Nat) (l : List Int) (A2 : Option Addr) (n2 c2 : Nat) (l2 : List Int) (w : World) {lo hi lo2 hi2 : Nat} (L : KB w lo hi A n c l) (L2 : KB w lo2 hi2 A2 n2 c2 l2) : Calls Try.prog 11 #[.agg #[.int .i64 p, .int .i64 q, .slice A n c], .agg #[.int .i64 u, .int .i64 v, .slice A2 n2 c2]] w fun e w' => e = .returned (.bool true) ∧ Below w.heap.size w w' := by
  by_cases h0 : ((n : Nat) : Int) ≤ 5000
  · by_cases h1 : ((n2 : Nat) : Int) ≤ 5000
    · by_cases g : BelP p q l u v l2
      · exact LMerges_yes p q u v A n c l A2 n2 c2 l2 h0 h1 g w L L2
      · exact LMerges_no p q u v A n c l A2 n2 c2 l2 h0 h1 g w L L2
    · exact LMerges_f1 p q u v A n c l A2 n2 c2 l2 h0 h1 w L L2
  · exact LMerges_f0 p q u v A n c l A2 n2 c2 l2 h0 w L L2
end Go.Proofs.Ytkhcogfajihecaa
