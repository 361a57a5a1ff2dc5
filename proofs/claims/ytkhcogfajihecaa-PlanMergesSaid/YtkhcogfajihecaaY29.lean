/- the law PlanLeast. -/
import Derived.Test.YtkhcogfajihecaaYM6
set_option linter.unusedVariables false
set_option linter.unusedSimpArgs false
namespace Go.Proofs.Ytkhcogfajihecaa
open Go Go.RowKit Hd

theorem few_yes (p q : Int) (A : Option Addr) (n c : Nat) (l : List Int) (h : ((n : Nat) : Int) ≤ 5000) (w : World) {lo hi : Nat} (L : KB w lo hi A n c l) : Calls Try.prog 14 #[.agg #[.int .i64 p, .int .i64 q, .slice A n c]] w fun e w' => e = .returned (.bool true) ∧ Below w.heap.size w w' := by
  have k := few_w0 p q A n c l w L
  rw [decide_eq_true h] at k
  exact k
theorem few_no (p q : Int) (A : Option Addr) (n c : Nat) (l : List Int) (h : ¬ ((n : Nat) : Int) ≤ 5000) (w : World) {lo hi : Nat} (L : KB w lo hi A n c l) : Calls Try.prog 14 #[.agg #[.int .i64 p, .int .i64 q, .slice A n c]] w fun e w' => e = .returned (.bool false) ∧ Below w.heap.size w w' := by
  have k := few_w0 p q A n c l w L
  rw [decide_eq_false h] at k
  exact k
theorem Below_yes (p q u v : Int) (A : Option Addr) (n c : Nat) (l : List Int) (A2 : Option Addr) (n2 c2 : Nat) (l2 : List Int) (hn : n ≤ 1000000) (hn2 : n2 ≤ 1000000) (h : BelP p q l u v l2) (w : World) {lo hi lo2 hi2 : Nat} (L : KB w lo hi A n c l) (L2 : KB w lo2 hi2 A2 n2 c2 l2) : Calls Try.prog 48 #[.agg #[.int .i64 p, .int .i64 q, .slice A n c], .agg #[.int .i64 u, .int .i64 v, .slice A2 n2 c2]] w fun e w' => e = .returned (.bool true) ∧ Below w.heap.size w w' := by
  have k := Below_is p q u v A n c l A2 n2 c2 l2 hn hn2 w L L2
  rw [decide_eq_true h] at k
  exact k
theorem Below_no (p q u v : Int) (A : Option Addr) (n c : Nat) (l : List Int) (A2 : Option Addr) (n2 c2 : Nat) (l2 : List Int) (hn : n ≤ 1000000) (hn2 : n2 ≤ 1000000) (h : ¬ BelP p q l u v l2) (w : World) {lo hi lo2 hi2 : Nat} (L : KB w lo hi A n c l) (L2 : KB w lo2 hi2 A2 n2 c2 l2) : Calls Try.prog 48 #[.agg #[.int .i64 p, .int .i64 q, .slice A n c], .agg #[.int .i64 u, .int .i64 v, .slice A2 n2 c2]] w fun e w' => e = .returned (.bool false) ∧ Below w.heap.size w w' := by
  have k := Below_is p q u v A n c l A2 n2 c2 l2 hn hn2 w L L2
  rw [decide_eq_false h] at k
  exact k
theorem Merge_ok (p q u v : Int) (A : Option Addr) (n c : Nat) (l : List Int) (A2 : Option Addr) (n2 c2 : Nat) (l2 : List Int) (hn : n ≤ 1000000) (hn2 : n2 ≤ 1000000) {N : Nat} {M : List Int} (h : mgE p q l u v l2 = 0) (hM : mgK l l2 l.length = M) (hN : M.length = N) (w : World) {lo hi lo2 hi2 : Nat} (L : KB w lo hi A n c l) (L2 : KB w lo2 hi2 A2 n2 c2 l2) : Calls Try.prog 46 #[.agg #[.int .i64 p, .int .i64 q, .slice A n c], .agg #[.int .i64 u, .int .i64 v, .slice A2 n2 c2]] w fun e w' => ∃ A c, e = .returned (.tuple #[.agg #[.int .i64 p, .int .i64 q, .slice A N c], .int .i64 0]) ∧ KB w' w.heap.size w'.heap.size A N c M ∧ Below w.heap.size w w' := by
  subst hN hM
  have k := Merge_is p q u v A n c l A2 n2 c2 l2 hn hn2 w L L2
  rw [mgV_0 h, mgX_0 h, mgX_0 h, h] at k
  exact k
theorem Merge_bad (p q u v : Int) (A : Option Addr) (n c : Nat) (l : List Int) (A2 : Option Addr) (n2 c2 : Nat) (l2 : List Int) (hn : n ≤ 1000000) (hn2 : n2 ≤ 1000000) (h : mgE p q l u v l2 ≠ 0) (w : World) {lo hi lo2 hi2 : Nat} (L : KB w lo hi A n c l) (L2 : KB w lo2 hi2 A2 n2 c2 l2) : Calls Try.prog 46 #[.agg #[.int .i64 p, .int .i64 q, .slice A n c], .agg #[.int .i64 u, .int .i64 v, .slice A2 n2 c2]] w fun e w' => ∃ (E : Int) (A : Option Addr) (c : Nat), E ≠ 0 ∧ e = .returned (.tuple #[.agg #[.int .i64 0, .int .i64 0, .slice A 0 c], .int .i64 E]) ∧ Below w.heap.size w w' := by
  have k := Merge_is p q u v A n c l A2 n2 c2 l2 hn hn2 w L L2
  rw [mgV_1 h, mgX_1 h, mgX_1 h] at k
  exact k.mono fun e w' hh => by obtain ⟨A, c, h1, h2, h3⟩ := hh; exact ⟨_, A, c, h, h1, h3⟩
theorem Merge_nm (p q u v : Int) (A : Option Addr) (n c : Nat) (l : List Int) (A2 : Option Addr) (n2 c2 : Nat) (l2 : List Int) (hn : n ≤ 1000000) (hn2 : n2 ≤ 1000000) {E XP XQ : Int} {N : Nat} {M : List Int} (hE : mgE p q l u v l2 = E) (hP : mgX p q l u v l2 p = XP) (hQ : mgX p q l u v l2 q = XQ) (hM : mgV p q l u v l2 = M) (hN : M.length = N) (w : World) {lo hi lo2 hi2 : Nat} (L : KB w lo hi A n c l) (L2 : KB w lo2 hi2 A2 n2 c2 l2) : Calls Try.prog 46 #[.agg #[.int .i64 p, .int .i64 q, .slice A n c], .agg #[.int .i64 u, .int .i64 v, .slice A2 n2 c2]] w fun e w' => ∃ A c, e = .returned (.tuple #[.agg #[.int .i64 XP, .int .i64 XQ, .slice A N c], .int .i64 E]) ∧ KB w' w.heap.size w'.heap.size A N c M ∧ Below w.heap.size w w' := by
  subst hN hM hE hP hQ
  exact Merge_is p q u v A n c l A2 n2 c2 l2 hn hn2 w L L2

set_option maxRecDepth 100000 in
set_option maxHeartbeats 4000000 in
theorem LLeast_f0 (p q u v s t : Int) (A : Option Addr) (n c : Nat) (l : List Int) (A2 : Option Addr) (n2 c2 : Nat) (l2 : List Int) (A3 : Option Addr) (n3 c3 : Nat) (l3 : List Int) (h0 : ¬ ((n : Nat) : Int) ≤ 5000) (w : World) {lo hi lo2 hi2 lo3 hi3 : Nat} (L : KB w lo hi A n c l) (L2 : KB w lo2 hi2 A2 n2 c2 l2) (L3 : KB w lo3 hi3 A3 n3 c3 l3) :
    Calls Try.prog 12 #[.agg #[.int .i64 p, .int .i64 q, .slice A n c], .agg #[.int .i64 u, .int .i64 v, .slice A2 n2 c2], .agg #[.int .i64 s, .int .i64 t, .slice A3 n3 c3]] w fun e w' => e = .returned (.bool true) ∧ Below w.heap.size w w' := by
  replace h0 := Lib.hid h0
  replace L := Lib.hid L
  replace L2 := Lib.hid L2
  replace L3 := Lib.hid L3
  obtain ⟨HB, B_z0, B_z1, B_z2⟩ := box3 w 24 #[.int .i64 p, .int .i64 q, .slice A n c] 24 #[.int .i64 u, .int .i64 v, .slice A2 n2 c2] 24 #[.int .i64 s, .int .i64 t, .slice A3 n3 c3]
  replace L := Lib.hid (KB.below L.out HB.out)
  replace L2 := Lib.hid (KB.below L2.out HB.out)
  replace L3 := Lib.hid (KB.below L3.out HB.out)
  go_enter Try.func12, Try.ntmps12
  go_wp2_with fail
  generalize ((w.alloc (.cells #[.int .i64 p, .int .i64 q, .slice A n c] 24)).alloc (.cells #[.int .i64 u, .int .i64 v, .slice A2 n2 c2] 24)).alloc (.cells #[.int .i64 s, .int .i64 t, .slice A3 n3 c3] 24) = W0 at *
  go_wp2_with fail
  refine (awake_is _).mono ?_
  rintro e w1 ⟨rfl, bb⟩
  replace bb := nextw (w0 := W0) (by exact sm) bb
  replace B_z0 := mv B_z0 bb
  replace B_z1 := mv B_z1 bb
  replace B_z2 := mv B_z2 bb
  replace L := Lib.hid (KB.below L.out bb)
  replace L2 := Lib.hid (KB.below L2.out bb)
  replace L3 := Lib.hid (KB.below L3.out bb)
  replace HB := nx HB bb
  clear bb
  obtain ⟨c0z0, c1z0, c2z0⟩ := cells3 B_z0
  go_wp2_with fail
  refine (few_no p q A n c l (Int.not_le.2 h0.out) _ (KB.below L.out (by exact sm))).mono ?_
  clear c0z0 c1z0 c2z0
  rintro e w2 ⟨rfl, bb⟩
  replace bb := nextw (w0 := w1) (by exact sm) bb
  replace B_z0 := mv B_z0 bb
  replace B_z1 := mv B_z1 bb
  replace B_z2 := mv B_z2 bb
  replace L := Lib.hid (KB.below L.out bb)
  replace L2 := Lib.hid (KB.below L2.out bb)
  replace L3 := Lib.hid (KB.below L3.out bb)
  replace HB := nx HB bb
  clear bb
  go_wp2_with fail
  refine (awake_is _).mono ?_
  rintro e w3 ⟨rfl, bb⟩
  replace bb := nextw (w0 := w2) (by exact sm) bb
  replace B_z0 := mv B_z0 bb
  replace B_z1 := mv B_z1 bb
  replace B_z2 := mv B_z2 bb
  replace L := Lib.hid (KB.below L.out bb)
  replace L2 := Lib.hid (KB.below L2.out bb)
  replace L3 := Lib.hid (KB.below L3.out bb)
  replace HB := nx HB bb
  clear bb
  go_wp2
  go_ret
  exact ⟨rfl, nextw HB.out (by exact sm)⟩

set_option maxRecDepth 100000 in
set_option maxHeartbeats 4000000 in
theorem LLeast_f1 (p q u v s t : Int) (A : Option Addr) (n c : Nat) (l : List Int) (A2 : Option Addr) (n2 c2 : Nat) (l2 : List Int) (A3 : Option Addr) (n3 c3 : Nat) (l3 : List Int) (h0 : ((n : Nat) : Int) ≤ 5000) (h1 : ¬ ((n2 : Nat) : Int) ≤ 5000) (w : World) {lo hi lo2 hi2 lo3 hi3 : Nat} (L : KB w lo hi A n c l) (L2 : KB w lo2 hi2 A2 n2 c2 l2) (L3 : KB w lo3 hi3 A3 n3 c3 l3) :
    Calls Try.prog 12 #[.agg #[.int .i64 p, .int .i64 q, .slice A n c], .agg #[.int .i64 u, .int .i64 v, .slice A2 n2 c2], .agg #[.int .i64 s, .int .i64 t, .slice A3 n3 c3]] w fun e w' => e = .returned (.bool true) ∧ Below w.heap.size w w' := by
  replace h0 := Lib.hid h0
  replace h1 := Lib.hid h1
  replace L := Lib.hid L
  replace L2 := Lib.hid L2
  replace L3 := Lib.hid L3
  obtain ⟨HB, B_z0, B_z1, B_z2⟩ := box3 w 24 #[.int .i64 p, .int .i64 q, .slice A n c] 24 #[.int .i64 u, .int .i64 v, .slice A2 n2 c2] 24 #[.int .i64 s, .int .i64 t, .slice A3 n3 c3]
  replace L := Lib.hid (KB.below L.out HB.out)
  replace L2 := Lib.hid (KB.below L2.out HB.out)
  replace L3 := Lib.hid (KB.below L3.out HB.out)
  go_enter Try.func12, Try.ntmps12
  go_wp2_with fail
  generalize ((w.alloc (.cells #[.int .i64 p, .int .i64 q, .slice A n c] 24)).alloc (.cells #[.int .i64 u, .int .i64 v, .slice A2 n2 c2] 24)).alloc (.cells #[.int .i64 s, .int .i64 t, .slice A3 n3 c3] 24) = W0 at *
  go_wp2_with fail
  refine (awake_is _).mono ?_
  rintro e w1 ⟨rfl, bb⟩
  replace bb := nextw (w0 := W0) (by exact sm) bb
  replace B_z0 := mv B_z0 bb
  replace B_z1 := mv B_z1 bb
  replace B_z2 := mv B_z2 bb
  replace L := Lib.hid (KB.below L.out bb)
  replace L2 := Lib.hid (KB.below L2.out bb)
  replace L3 := Lib.hid (KB.below L3.out bb)
  replace HB := nx HB bb
  clear bb
  obtain ⟨c0z0, c1z0, c2z0⟩ := cells3 B_z0
  go_wp2_with fail
  refine (few_yes p q A n c l h0.out _ (KB.below L.out (by exact sm))).mono ?_
  clear c0z0 c1z0 c2z0
  rintro e w2 ⟨rfl, bb⟩
  replace bb := nextw (w0 := w1) (by exact sm) bb
  replace B_z0 := mv B_z0 bb
  replace B_z1 := mv B_z1 bb
  replace B_z2 := mv B_z2 bb
  replace L := Lib.hid (KB.below L.out bb)
  replace L2 := Lib.hid (KB.below L2.out bb)
  replace L3 := Lib.hid (KB.below L3.out bb)
  replace HB := nx HB bb
  clear bb
  obtain ⟨c0z1, c1z1, c2z1⟩ := cells3 B_z1
  go_wp2_with fail
  refine (few_no u v A2 n2 c2 l2 (Int.not_le.2 h1.out) _ (KB.below L2.out (by exact sm))).mono ?_
  clear c0z1 c1z1 c2z1
  rintro e w3 ⟨rfl, bb⟩
  replace bb := nextw (w0 := w2) (by exact sm) bb
  replace B_z0 := mv B_z0 bb
  replace B_z1 := mv B_z1 bb
  replace B_z2 := mv B_z2 bb
  replace L := Lib.hid (KB.below L.out bb)
  replace L2 := Lib.hid (KB.below L2.out bb)
  replace L3 := Lib.hid (KB.below L3.out bb)
  replace HB := nx HB bb
  clear bb
  go_wp2_with fail
  refine (awake_is _).mono ?_
  rintro e w4 ⟨rfl, bb⟩
  replace bb := nextw (w0 := w3) (by exact sm) bb
  replace B_z0 := mv B_z0 bb
  replace B_z1 := mv B_z1 bb
  replace B_z2 := mv B_z2 bb
  replace L := Lib.hid (KB.below L.out bb)
  replace L2 := Lib.hid (KB.below L2.out bb)
  replace L3 := Lib.hid (KB.below L3.out bb)
  replace HB := nx HB bb
  clear bb
  go_wp2
  go_ret
  exact ⟨rfl, nextw HB.out (by exact sm)⟩

set_option maxRecDepth 100000 in
set_option maxHeartbeats 4000000 in
theorem LLeast_f2 (p q u v s t : Int) (A : Option Addr) (n c : Nat) (l : List Int) (A2 : Option Addr) (n2 c2 : Nat) (l2 : List Int) (A3 : Option Addr) (n3 c3 : Nat) (l3 : List Int) (h0 : ((n : Nat) : Int) ≤ 5000) (h1 : ((n2 : Nat) : Int) ≤ 5000) (h2 : ¬ ((n3 : Nat) : Int) ≤ 5000) (w : World) {lo hi lo2 hi2 lo3 hi3 : Nat} (L : KB w lo hi A n c l) (L2 : KB w lo2 hi2 A2 n2 c2 l2) (L3 : KB w lo3 hi3 A3 n3 c3 l3) :
    Calls Try.prog 12 #[.agg #[.int .i64 p, .int .i64 q, .slice A n c], .agg #[.int .i64 u, .int .i64 v, .slice A2 n2 c2], .agg #[.int .i64 s, .int .i64 t, .slice A3 n3 c3]] w fun e w' => e = .returned (.bool true) ∧ Below w.heap.size w w' := by
  replace h0 := Lib.hid h0
  replace h1 := Lib.hid h1
  replace h2 := Lib.hid h2
  replace L := Lib.hid L
  replace L2 := Lib.hid L2
  replace L3 := Lib.hid L3
  obtain ⟨HB, B_z0, B_z1, B_z2⟩ := box3 w 24 #[.int .i64 p, .int .i64 q, .slice A n c] 24 #[.int .i64 u, .int .i64 v, .slice A2 n2 c2] 24 #[.int .i64 s, .int .i64 t, .slice A3 n3 c3]
  replace L := Lib.hid (KB.below L.out HB.out)
  replace L2 := Lib.hid (KB.below L2.out HB.out)
  replace L3 := Lib.hid (KB.below L3.out HB.out)
  go_enter Try.func12, Try.ntmps12
  go_wp2_with fail
  generalize ((w.alloc (.cells #[.int .i64 p, .int .i64 q, .slice A n c] 24)).alloc (.cells #[.int .i64 u, .int .i64 v, .slice A2 n2 c2] 24)).alloc (.cells #[.int .i64 s, .int .i64 t, .slice A3 n3 c3] 24) = W0 at *
  go_wp2_with fail
  refine (awake_is _).mono ?_
  rintro e w1 ⟨rfl, bb⟩
  replace bb := nextw (w0 := W0) (by exact sm) bb
  replace B_z0 := mv B_z0 bb
  replace B_z1 := mv B_z1 bb
  replace B_z2 := mv B_z2 bb
  replace L := Lib.hid (KB.below L.out bb)
  replace L2 := Lib.hid (KB.below L2.out bb)
  replace L3 := Lib.hid (KB.below L3.out bb)
  replace HB := nx HB bb
  clear bb
  obtain ⟨c0z0, c1z0, c2z0⟩ := cells3 B_z0
  go_wp2_with fail
  refine (few_yes p q A n c l h0.out _ (KB.below L.out (by exact sm))).mono ?_
  clear c0z0 c1z0 c2z0
  rintro e w2 ⟨rfl, bb⟩
  replace bb := nextw (w0 := w1) (by exact sm) bb
  replace B_z0 := mv B_z0 bb
  replace B_z1 := mv B_z1 bb
  replace B_z2 := mv B_z2 bb
  replace L := Lib.hid (KB.below L.out bb)
  replace L2 := Lib.hid (KB.below L2.out bb)
  replace L3 := Lib.hid (KB.below L3.out bb)
  replace HB := nx HB bb
  clear bb
  obtain ⟨c0z1, c1z1, c2z1⟩ := cells3 B_z1
  go_wp2_with fail
  refine (few_yes u v A2 n2 c2 l2 h1.out _ (KB.below L2.out (by exact sm))).mono ?_
  clear c0z1 c1z1 c2z1
  rintro e w3 ⟨rfl, bb⟩
  replace bb := nextw (w0 := w2) (by exact sm) bb
  replace B_z0 := mv B_z0 bb
  replace B_z1 := mv B_z1 bb
  replace B_z2 := mv B_z2 bb
  replace L := Lib.hid (KB.below L.out bb)
  replace L2 := Lib.hid (KB.below L2.out bb)
  replace L3 := Lib.hid (KB.below L3.out bb)
  replace HB := nx HB bb
  clear bb
  obtain ⟨c0z2, c1z2, c2z2⟩ := cells3 B_z2
  go_wp2_with fail
  refine (few_no s t A3 n3 c3 l3 (Int.not_le.2 h2.out) _ (KB.below L3.out (by exact sm))).mono ?_
  clear c0z2 c1z2 c2z2
  rintro e w4 ⟨rfl, bb⟩
  replace bb := nextw (w0 := w3) (by exact sm) bb
  replace B_z0 := mv B_z0 bb
  replace B_z1 := mv B_z1 bb
  replace B_z2 := mv B_z2 bb
  replace L := Lib.hid (KB.below L.out bb)
  replace L2 := Lib.hid (KB.below L2.out bb)
  replace L3 := Lib.hid (KB.below L3.out bb)
  replace HB := nx HB bb
  clear bb
  go_wp2_with fail
  refine (awake_is _).mono ?_
  rintro e w5 ⟨rfl, bb⟩
  replace bb := nextw (w0 := w4) (by exact sm) bb
  replace B_z0 := mv B_z0 bb
  replace B_z1 := mv B_z1 bb
  replace B_z2 := mv B_z2 bb
  replace L := Lib.hid (KB.below L.out bb)
  replace L2 := Lib.hid (KB.below L2.out bb)
  replace L3 := Lib.hid (KB.below L3.out bb)
  replace HB := nx HB bb
  clear bb
  go_wp2
  go_ret
  exact ⟨rfl, nextw HB.out (by exact sm)⟩

set_option maxRecDepth 100000 in
set_option maxHeartbeats 4000000 in
theorem LLeast_b0 (p q u v s t : Int) (A : Option Addr) (n c : Nat) (l : List Int) (A2 : Option Addr) (n2 c2 : Nat) (l2 : List Int) (A3 : Option Addr) (n3 c3 : Nat) (l3 : List Int) (h0 : ((n : Nat) : Int) ≤ 5000) (h1 : ((n2 : Nat) : Int) ≤ 5000) (h2 : ((n3 : Nat) : Int) ≤ 5000) (g : mgE p q l u v l2 ≠ 0) (k1 : ¬ BelP p q l s t l3) (w : World) {lo hi lo2 hi2 lo3 hi3 : Nat} (L : KB w lo hi A n c l) (L2 : KB w lo2 hi2 A2 n2 c2 l2) (L3 : KB w lo3 hi3 A3 n3 c3 l3) :
    Calls Try.prog 12 #[.agg #[.int .i64 p, .int .i64 q, .slice A n c], .agg #[.int .i64 u, .int .i64 v, .slice A2 n2 c2], .agg #[.int .i64 s, .int .i64 t, .slice A3 n3 c3]] w fun e w' => e = .returned (.bool true) ∧ Below w.heap.size w w' := by
  have b0 : n ≤ 1000000 := by omega
  have b1 : n2 ≤ 1000000 := by omega
  have b2 : n3 ≤ 1000000 := by omega
  replace h0 := Lib.hid h0
  replace h1 := Lib.hid h1
  replace h2 := Lib.hid h2
  replace g := Lib.hid g
  replace k1 := Lib.hid k1
  replace L := Lib.hid L
  replace L2 := Lib.hid L2
  replace L3 := Lib.hid L3
  obtain ⟨HB, B_z0, B_z1, B_z2⟩ := box3 w 24 #[.int .i64 p, .int .i64 q, .slice A n c] 24 #[.int .i64 u, .int .i64 v, .slice A2 n2 c2] 24 #[.int .i64 s, .int .i64 t, .slice A3 n3 c3]
  replace L := Lib.hid (KB.below L.out HB.out)
  replace L2 := Lib.hid (KB.below L2.out HB.out)
  replace L3 := Lib.hid (KB.below L3.out HB.out)
  go_enter Try.func12, Try.ntmps12
  go_wp2_with fail
  generalize ((w.alloc (.cells #[.int .i64 p, .int .i64 q, .slice A n c] 24)).alloc (.cells #[.int .i64 u, .int .i64 v, .slice A2 n2 c2] 24)).alloc (.cells #[.int .i64 s, .int .i64 t, .slice A3 n3 c3] 24) = W0 at *
  go_wp2_with fail
  refine (awake_is _).mono ?_
  rintro e w1 ⟨rfl, bb⟩
  replace bb := nextw (w0 := W0) (by exact sm) bb
  replace B_z0 := mv B_z0 bb
  replace B_z1 := mv B_z1 bb
  replace B_z2 := mv B_z2 bb
  replace L := Lib.hid (KB.below L.out bb)
  replace L2 := Lib.hid (KB.below L2.out bb)
  replace L3 := Lib.hid (KB.below L3.out bb)
  replace HB := nx HB bb
  clear bb
  obtain ⟨c0z0, c1z0, c2z0⟩ := cells3 B_z0
  go_wp2_with fail
  refine (few_yes p q A n c l h0.out _ (KB.below L.out (by exact sm))).mono ?_
  clear c0z0 c1z0 c2z0
  rintro e w2 ⟨rfl, bb⟩
  replace bb := nextw (w0 := w1) (by exact sm) bb
  replace B_z0 := mv B_z0 bb
  replace B_z1 := mv B_z1 bb
  replace B_z2 := mv B_z2 bb
  replace L := Lib.hid (KB.below L.out bb)
  replace L2 := Lib.hid (KB.below L2.out bb)
  replace L3 := Lib.hid (KB.below L3.out bb)
  replace HB := nx HB bb
  clear bb
  obtain ⟨c0z1, c1z1, c2z1⟩ := cells3 B_z1
  go_wp2_with fail
  refine (few_yes u v A2 n2 c2 l2 h1.out _ (KB.below L2.out (by exact sm))).mono ?_
  clear c0z1 c1z1 c2z1
  rintro e w3 ⟨rfl, bb⟩
  replace bb := nextw (w0 := w2) (by exact sm) bb
  replace B_z0 := mv B_z0 bb
  replace B_z1 := mv B_z1 bb
  replace B_z2 := mv B_z2 bb
  replace L := Lib.hid (KB.below L.out bb)
  replace L2 := Lib.hid (KB.below L2.out bb)
  replace L3 := Lib.hid (KB.below L3.out bb)
  replace HB := nx HB bb
  clear bb
  obtain ⟨c0z2, c1z2, c2z2⟩ := cells3 B_z2
  go_wp2_with fail
  refine (few_yes s t A3 n3 c3 l3 h2.out _ (KB.below L3.out (by exact sm))).mono ?_
  clear c0z2 c1z2 c2z2
  rintro e w4 ⟨rfl, bb⟩
  replace bb := nextw (w0 := w3) (by exact sm) bb
  replace B_z0 := mv B_z0 bb
  replace B_z1 := mv B_z1 bb
  replace B_z2 := mv B_z2 bb
  replace L := Lib.hid (KB.below L.out bb)
  replace L2 := Lib.hid (KB.below L2.out bb)
  replace L3 := Lib.hid (KB.below L3.out bb)
  replace HB := nx HB bb
  clear bb
  obtain ⟨c0z0, c1z0, c2z0⟩ := cells3 B_z0
  obtain ⟨c0z1, c1z1, c2z1⟩ := cells3 B_z1
  go_wp2_with fail
  refine (Merge_bad p q u v A n c l A2 n2 c2 l2 b0 b1 g.out _ (KB.below L.out (by exact sm)) (KB.below L2.out (by exact sm))).mono ?_
  clear c0z0 c1z0 c2z0 c0z1 c1z1 c2z1
  rintro e w5 ⟨E1, AE1, cE1, hE1, rfl, bb⟩
  replace bb := nextw (w0 := w4) (by exact sm) bb
  replace B_z0 := mv B_z0 bb
  replace B_z1 := mv B_z1 bb
  replace B_z2 := mv B_z2 bb
  replace L := Lib.hid (KB.below L.out bb)
  replace L2 := Lib.hid (KB.below L2.out bb)
  replace L3 := Lib.hid (KB.below L3.out bb)
  replace HB := nx HB bb
  clear bb
  have hEb1 : (E1 == 0) = false := decide_eq_false hE1
  have hEc1 : (E1 != 0) = true := by rw [bne, hEb1]; rfl
  replace hE1 := Lib.hid hE1
  have lt_z3z0 := B_z0.out.lt
  have lt_z3z1 := B_z1.out.lt
  have lt_z3z2 := B_z2.out.lt
  obtain ⟨bb, B_z3⟩ := box1 w5 24 #[.int .i64 0, .int .i64 0, .slice AE1 0 cE1]
  replace bb := bb.out
  replace B_z0 := mv B_z0 bb
  replace B_z1 := mv B_z1 bb
  replace B_z2 := mv B_z2 bb
  replace L := Lib.hid (KB.below L.out bb)
  replace L2 := Lib.hid (KB.below L2.out bb)
  replace L3 := Lib.hid (KB.below L3.out bb)
  replace HB := nx HB bb
  clear bb
  go_upto_region 4 with (fail)
  generalize w5.alloc (.cells #[.int .i64 0, .int .i64 0, .slice AE1 0 cE1] 24) = WA at *
  obtain ⟨c0z3, c1z3, c2z3⟩ := cells3 B_z3
  obtain ⟨c0z0, c1z0, c2z0⟩ := cells3 B_z0
  obtain ⟨c0z2, c1z2, c2z2⟩ := cells3 B_z2
  go_wp2_with fail
  refine (Below_no p q s t A n c l A3 n3 c3 l3 b0 b2 k1.out _ (KB.below L.out (by exact sm)) (KB.below L3.out (by exact sm))).mono ?_
  clear c0z3 c1z3 c2z3 c0z0 c1z0 c2z0 c0z2 c1z2 c2z2
  rintro e w6 ⟨rfl, bb⟩
  replace bb := nextw (w0 := WA) (by exact sm) bb
  replace B_z0 := mv B_z0 bb
  replace B_z1 := mv B_z1 bb
  replace B_z2 := mv B_z2 bb
  replace B_z3 := mv B_z3 bb
  replace L := Lib.hid (KB.below L.out bb)
  replace L2 := Lib.hid (KB.below L2.out bb)
  replace L3 := Lib.hid (KB.below L3.out bb)
  replace HB := nx HB bb
  clear bb
  go_wp2
  go_ret
  exact ⟨rfl, nextw HB.out (by exact sm)⟩

set_option maxRecDepth 100000 in
set_option maxHeartbeats 4000000 in
theorem LLeast_b1 (p q u v s t : Int) (A : Option Addr) (n c : Nat) (l : List Int) (A2 : Option Addr) (n2 c2 : Nat) (l2 : List Int) (A3 : Option Addr) (n3 c3 : Nat) (l3 : List Int) (h0 : ((n : Nat) : Int) ≤ 5000) (h1 : ((n2 : Nat) : Int) ≤ 5000) (h2 : ((n3 : Nat) : Int) ≤ 5000) (g : mgE p q l u v l2 ≠ 0) (k1 : BelP p q l s t l3) (w : World) {lo hi lo2 hi2 lo3 hi3 : Nat} (L : KB w lo hi A n c l) (L2 : KB w lo2 hi2 A2 n2 c2 l2) (L3 : KB w lo3 hi3 A3 n3 c3 l3) :
    Calls Try.prog 12 #[.agg #[.int .i64 p, .int .i64 q, .slice A n c], .agg #[.int .i64 u, .int .i64 v, .slice A2 n2 c2], .agg #[.int .i64 s, .int .i64 t, .slice A3 n3 c3]] w fun e w' => e = .returned (.bool true) ∧ Below w.heap.size w w' := by
  have b0 : n ≤ 1000000 := by omega
  have b1 : n2 ≤ 1000000 := by omega
  have b2 : n3 ≤ 1000000 := by omega
  replace h0 := Lib.hid h0
  replace h1 := Lib.hid h1
  replace h2 := Lib.hid h2
  replace g := Lib.hid g
  replace k1 := Lib.hid k1
  have k2 := Lib.hid (fun x => mg_bad g.out k1.out x)
  replace L := Lib.hid L
  replace L2 := Lib.hid L2
  replace L3 := Lib.hid L3
  obtain ⟨HB, B_z0, B_z1, B_z2⟩ := box3 w 24 #[.int .i64 p, .int .i64 q, .slice A n c] 24 #[.int .i64 u, .int .i64 v, .slice A2 n2 c2] 24 #[.int .i64 s, .int .i64 t, .slice A3 n3 c3]
  replace L := Lib.hid (KB.below L.out HB.out)
  replace L2 := Lib.hid (KB.below L2.out HB.out)
  replace L3 := Lib.hid (KB.below L3.out HB.out)
  go_enter Try.func12, Try.ntmps12
  go_wp2_with fail
  generalize ((w.alloc (.cells #[.int .i64 p, .int .i64 q, .slice A n c] 24)).alloc (.cells #[.int .i64 u, .int .i64 v, .slice A2 n2 c2] 24)).alloc (.cells #[.int .i64 s, .int .i64 t, .slice A3 n3 c3] 24) = W0 at *
  go_wp2_with fail
  refine (awake_is _).mono ?_
  rintro e w1 ⟨rfl, bb⟩
  replace bb := nextw (w0 := W0) (by exact sm) bb
  replace B_z0 := mv B_z0 bb
  replace B_z1 := mv B_z1 bb
  replace B_z2 := mv B_z2 bb
  replace L := Lib.hid (KB.below L.out bb)
  replace L2 := Lib.hid (KB.below L2.out bb)
  replace L3 := Lib.hid (KB.below L3.out bb)
  replace HB := nx HB bb
  clear bb
  obtain ⟨c0z0, c1z0, c2z0⟩ := cells3 B_z0
  go_wp2_with fail
  refine (few_yes p q A n c l h0.out _ (KB.below L.out (by exact sm))).mono ?_
  clear c0z0 c1z0 c2z0
  rintro e w2 ⟨rfl, bb⟩
  replace bb := nextw (w0 := w1) (by exact sm) bb
  replace B_z0 := mv B_z0 bb
  replace B_z1 := mv B_z1 bb
  replace B_z2 := mv B_z2 bb
  replace L := Lib.hid (KB.below L.out bb)
  replace L2 := Lib.hid (KB.below L2.out bb)
  replace L3 := Lib.hid (KB.below L3.out bb)
  replace HB := nx HB bb
  clear bb
  obtain ⟨c0z1, c1z1, c2z1⟩ := cells3 B_z1
  go_wp2_with fail
  refine (few_yes u v A2 n2 c2 l2 h1.out _ (KB.below L2.out (by exact sm))).mono ?_
  clear c0z1 c1z1 c2z1
  rintro e w3 ⟨rfl, bb⟩
  replace bb := nextw (w0 := w2) (by exact sm) bb
  replace B_z0 := mv B_z0 bb
  replace B_z1 := mv B_z1 bb
  replace B_z2 := mv B_z2 bb
  replace L := Lib.hid (KB.below L.out bb)
  replace L2 := Lib.hid (KB.below L2.out bb)
  replace L3 := Lib.hid (KB.below L3.out bb)
  replace HB := nx HB bb
  clear bb
  obtain ⟨c0z2, c1z2, c2z2⟩ := cells3 B_z2
  go_wp2_with fail
  refine (few_yes s t A3 n3 c3 l3 h2.out _ (KB.below L3.out (by exact sm))).mono ?_
  clear c0z2 c1z2 c2z2
  rintro e w4 ⟨rfl, bb⟩
  replace bb := nextw (w0 := w3) (by exact sm) bb
  replace B_z0 := mv B_z0 bb
  replace B_z1 := mv B_z1 bb
  replace B_z2 := mv B_z2 bb
  replace L := Lib.hid (KB.below L.out bb)
  replace L2 := Lib.hid (KB.below L2.out bb)
  replace L3 := Lib.hid (KB.below L3.out bb)
  replace HB := nx HB bb
  clear bb
  obtain ⟨c0z0, c1z0, c2z0⟩ := cells3 B_z0
  obtain ⟨c0z1, c1z1, c2z1⟩ := cells3 B_z1
  go_wp2_with fail
  refine (Merge_bad p q u v A n c l A2 n2 c2 l2 b0 b1 g.out _ (KB.below L.out (by exact sm)) (KB.below L2.out (by exact sm))).mono ?_
  clear c0z0 c1z0 c2z0 c0z1 c1z1 c2z1
  rintro e w5 ⟨E1, AE1, cE1, hE1, rfl, bb⟩
  replace bb := nextw (w0 := w4) (by exact sm) bb
  replace B_z0 := mv B_z0 bb
  replace B_z1 := mv B_z1 bb
  replace B_z2 := mv B_z2 bb
  replace L := Lib.hid (KB.below L.out bb)
  replace L2 := Lib.hid (KB.below L2.out bb)
  replace L3 := Lib.hid (KB.below L3.out bb)
  replace HB := nx HB bb
  clear bb
  have hEb1 : (E1 == 0) = false := decide_eq_false hE1
  have hEc1 : (E1 != 0) = true := by rw [bne, hEb1]; rfl
  replace hE1 := Lib.hid hE1
  have lt_z3z0 := B_z0.out.lt
  have lt_z3z1 := B_z1.out.lt
  have lt_z3z2 := B_z2.out.lt
  obtain ⟨bb, B_z3⟩ := box1 w5 24 #[.int .i64 0, .int .i64 0, .slice AE1 0 cE1]
  replace bb := bb.out
  replace B_z0 := mv B_z0 bb
  replace B_z1 := mv B_z1 bb
  replace B_z2 := mv B_z2 bb
  replace L := Lib.hid (KB.below L.out bb)
  replace L2 := Lib.hid (KB.below L2.out bb)
  replace L3 := Lib.hid (KB.below L3.out bb)
  replace HB := nx HB bb
  clear bb
  go_upto_region 4 with (fail)
  generalize w5.alloc (.cells #[.int .i64 0, .int .i64 0, .slice AE1 0 cE1] 24) = WA at *
  obtain ⟨c0z3, c1z3, c2z3⟩ := cells3 B_z3
  obtain ⟨c0z0, c1z0, c2z0⟩ := cells3 B_z0
  obtain ⟨c0z2, c1z2, c2z2⟩ := cells3 B_z2
  go_wp2_with fail
  refine (Below_yes p q s t A n c l A3 n3 c3 l3 b0 b2 k1.out _ (KB.below L.out (by exact sm)) (KB.below L3.out (by exact sm))).mono ?_
  clear c0z3 c1z3 c2z3 c0z0 c1z0 c2z0 c0z2 c1z2 c2z2
  rintro e w6 ⟨rfl, bb⟩
  replace bb := nextw (w0 := WA) (by exact sm) bb
  replace B_z0 := mv B_z0 bb
  replace B_z1 := mv B_z1 bb
  replace B_z2 := mv B_z2 bb
  replace B_z3 := mv B_z3 bb
  replace L := Lib.hid (KB.below L.out bb)
  replace L2 := Lib.hid (KB.below L2.out bb)
  replace L3 := Lib.hid (KB.below L3.out bb)
  replace HB := nx HB bb
  clear bb
  obtain ⟨c0z1, c1z1, c2z1⟩ := cells3 B_z1
  obtain ⟨c0z2, c1z2, c2z2⟩ := cells3 B_z2
  go_wp2_with fail
  refine (Below_no u v s t A2 n2 c2 l2 A3 n3 c3 l3 b1 b2 k2.out _ (KB.below L2.out (by exact sm)) (KB.below L3.out (by exact sm))).mono ?_
  clear c0z1 c1z1 c2z1 c0z2 c1z2 c2z2
  rintro e w7 ⟨rfl, bb⟩
  replace bb := nextw (w0 := w6) (by exact sm) bb
  replace B_z0 := mv B_z0 bb
  replace B_z1 := mv B_z1 bb
  replace B_z2 := mv B_z2 bb
  replace B_z3 := mv B_z3 bb
  replace L := Lib.hid (KB.below L.out bb)
  replace L2 := Lib.hid (KB.below L2.out bb)
  replace L3 := Lib.hid (KB.below L3.out bb)
  replace HB := nx HB bb
  clear bb
  go_wp2
  go_ret
  exact ⟨rfl, nextw HB.out (by exact sm)⟩

set_option maxRecDepth 100000 in
set_option maxHeartbeats 4000000 in
theorem LLeast_n0 (p q u v s t : Int) (A : Option Addr) (n c : Nat) (l : List Int) (A2 : Option Addr) (n2 c2 : Nat) (l2 : List Int) (A3 : Option Addr) (n3 c3 : Nat) (l3 : List Int) (h0 : ((n : Nat) : Int) ≤ 5000) (h1 : ((n2 : Nat) : Int) ≤ 5000) (h2 : ((n3 : Nat) : Int) ≤ 5000) (g : mgE p q l u v l2 = 0) (k1 : ¬ BelP p q l s t l3) (g2 : mgE u v l2 s t l3 ≠ 0) (w : World) {lo hi lo2 hi2 lo3 hi3 : Nat} (L : KB w lo hi A n c l) (L2 : KB w lo2 hi2 A2 n2 c2 l2) (L3 : KB w lo3 hi3 A3 n3 c3 l3) :
    Calls Try.prog 12 #[.agg #[.int .i64 p, .int .i64 q, .slice A n c], .agg #[.int .i64 u, .int .i64 v, .slice A2 n2 c2], .agg #[.int .i64 s, .int .i64 t, .slice A3 n3 c3]] w fun e w' => e = .returned (.bool true) ∧ Below w.heap.size w w' := by
  have b0 : n ≤ 1000000 := by omega
  have b1 : n2 ≤ 1000000 := by omega
  have b2 : n3 ≤ 1000000 := by omega
  replace h0 := Lib.hid h0
  replace h1 := Lib.hid h1
  replace h2 := Lib.hid h2
  have HM1 := Lib.hid (bel_l g)
  have HM2 := Lib.hid (bel_r g)
  have HM3 := Lib.hid (bel_self (okp_mg (mgE_al g).1 l.length))
  have hMl := mgK_len l l2 l.length
  obtain ⟨M, hM⟩ : ∃ M, mgK l l2 l.length = M := ⟨_, rfl⟩
  rw [hM] at HM1 HM2 HM3 hMl
  obtain ⟨NM, hNM⟩ : ∃ N, M.length = N := ⟨_, rfl⟩
  have hln := L.len
  have bM : NM ≤ 1000000 := by omega
  have HMM := Lib.hid hM
  have HNM := Lib.hid hNM
  clear hM hNM hMl hln
  replace g := Lib.hid g
  replace k1 := Lib.hid k1
  replace g2 := Lib.hid g2
  replace L := Lib.hid L
  replace L2 := Lib.hid L2
  replace L3 := Lib.hid L3
  obtain ⟨HB, B_z0, B_z1, B_z2⟩ := box3 w 24 #[.int .i64 p, .int .i64 q, .slice A n c] 24 #[.int .i64 u, .int .i64 v, .slice A2 n2 c2] 24 #[.int .i64 s, .int .i64 t, .slice A3 n3 c3]
  replace L := Lib.hid (KB.below L.out HB.out)
  replace L2 := Lib.hid (KB.below L2.out HB.out)
  replace L3 := Lib.hid (KB.below L3.out HB.out)
  go_enter Try.func12, Try.ntmps12
  go_wp2_with fail
  generalize ((w.alloc (.cells #[.int .i64 p, .int .i64 q, .slice A n c] 24)).alloc (.cells #[.int .i64 u, .int .i64 v, .slice A2 n2 c2] 24)).alloc (.cells #[.int .i64 s, .int .i64 t, .slice A3 n3 c3] 24) = W0 at *
  go_wp2_with fail
  refine (awake_is _).mono ?_
  rintro e w1 ⟨rfl, bb⟩
  replace bb := nextw (w0 := W0) (by exact sm) bb
  replace B_z0 := mv B_z0 bb
  replace B_z1 := mv B_z1 bb
  replace B_z2 := mv B_z2 bb
  replace L := Lib.hid (KB.below L.out bb)
  replace L2 := Lib.hid (KB.below L2.out bb)
  replace L3 := Lib.hid (KB.below L3.out bb)
  replace HB := nx HB bb
  clear bb
  obtain ⟨c0z0, c1z0, c2z0⟩ := cells3 B_z0
  go_wp2_with fail
  refine (few_yes p q A n c l h0.out _ (KB.below L.out (by exact sm))).mono ?_
  clear c0z0 c1z0 c2z0
  rintro e w2 ⟨rfl, bb⟩
  replace bb := nextw (w0 := w1) (by exact sm) bb
  replace B_z0 := mv B_z0 bb
  replace B_z1 := mv B_z1 bb
  replace B_z2 := mv B_z2 bb
  replace L := Lib.hid (KB.below L.out bb)
  replace L2 := Lib.hid (KB.below L2.out bb)
  replace L3 := Lib.hid (KB.below L3.out bb)
  replace HB := nx HB bb
  clear bb
  obtain ⟨c0z1, c1z1, c2z1⟩ := cells3 B_z1
  go_wp2_with fail
  refine (few_yes u v A2 n2 c2 l2 h1.out _ (KB.below L2.out (by exact sm))).mono ?_
  clear c0z1 c1z1 c2z1
  rintro e w3 ⟨rfl, bb⟩
  replace bb := nextw (w0 := w2) (by exact sm) bb
  replace B_z0 := mv B_z0 bb
  replace B_z1 := mv B_z1 bb
  replace B_z2 := mv B_z2 bb
  replace L := Lib.hid (KB.below L.out bb)
  replace L2 := Lib.hid (KB.below L2.out bb)
  replace L3 := Lib.hid (KB.below L3.out bb)
  replace HB := nx HB bb
  clear bb
  obtain ⟨c0z2, c1z2, c2z2⟩ := cells3 B_z2
  go_wp2_with fail
  refine (few_yes s t A3 n3 c3 l3 h2.out _ (KB.below L3.out (by exact sm))).mono ?_
  clear c0z2 c1z2 c2z2
  rintro e w4 ⟨rfl, bb⟩
  replace bb := nextw (w0 := w3) (by exact sm) bb
  replace B_z0 := mv B_z0 bb
  replace B_z1 := mv B_z1 bb
  replace B_z2 := mv B_z2 bb
  replace L := Lib.hid (KB.below L.out bb)
  replace L2 := Lib.hid (KB.below L2.out bb)
  replace L3 := Lib.hid (KB.below L3.out bb)
  replace HB := nx HB bb
  clear bb
  obtain ⟨c0z0, c1z0, c2z0⟩ := cells3 B_z0
  obtain ⟨c0z1, c1z1, c2z1⟩ := cells3 B_z1
  go_wp2_with fail
  refine (Merge_ok p q u v A n c l A2 n2 c2 l2 b0 b1 g.out HMM.out HNM.out _ (KB.below L.out (by exact sm)) (KB.below L2.out (by exact sm))).mono ?_
  clear c0z0 c1z0 c2z0 c0z1 c1z1 c2z1
  rintro e w5 ⟨AM, cM, rfl, LM, bb⟩
  replace bb := nextw (w0 := w4) (by exact sm) bb
  replace B_z0 := mv B_z0 bb
  replace B_z1 := mv B_z1 bb
  replace B_z2 := mv B_z2 bb
  replace L := Lib.hid (KB.below L.out bb)
  replace L2 := Lib.hid (KB.below L2.out bb)
  replace L3 := Lib.hid (KB.below L3.out bb)
  replace HB := nx HB bb
  clear bb
  replace LM := Lib.hid LM
  have lt_z3z0 := B_z0.out.lt
  have lt_z3z1 := B_z1.out.lt
  have lt_z3z2 := B_z2.out.lt
  obtain ⟨bb, B_z3⟩ := box1 w5 24 #[.int .i64 p, .int .i64 q, .slice AM NM cM]
  replace bb := bb.out
  replace B_z0 := mv B_z0 bb
  replace B_z1 := mv B_z1 bb
  replace B_z2 := mv B_z2 bb
  replace L := Lib.hid (KB.below L.out bb)
  replace L2 := Lib.hid (KB.below L2.out bb)
  replace L3 := Lib.hid (KB.below L3.out bb)
  replace LM := Lib.hid (KB.below LM.out bb)
  replace HB := nx HB bb
  clear bb
  go_upto_region 4 with (fail)
  generalize w5.alloc (.cells #[.int .i64 p, .int .i64 q, .slice AM NM cM] 24) = WA at *
  obtain ⟨c0z0, c1z0, c2z0⟩ := cells3 B_z0
  obtain ⟨c0z3, c1z3, c2z3⟩ := cells3 B_z3
  go_wp2_with fail
  refine (Below_yes p q p q A n c l AM NM cM M b0 bM HM1.out _ (KB.below L.out (by exact sm)) (KB.below LM.out (by exact sm))).mono ?_
  clear c0z0 c1z0 c2z0 c0z3 c1z3 c2z3
  rintro e w6 ⟨rfl, bb⟩
  replace bb := nextw (w0 := WA) (by exact sm) bb
  replace B_z0 := mv B_z0 bb
  replace B_z1 := mv B_z1 bb
  replace B_z2 := mv B_z2 bb
  replace B_z3 := mv B_z3 bb
  replace L := Lib.hid (KB.below L.out bb)
  replace L2 := Lib.hid (KB.below L2.out bb)
  replace L3 := Lib.hid (KB.below L3.out bb)
  replace LM := Lib.hid (KB.below LM.out bb)
  replace HB := nx HB bb
  clear bb
  obtain ⟨c0z1, c1z1, c2z1⟩ := cells3 B_z1
  obtain ⟨c0z3, c1z3, c2z3⟩ := cells3 B_z3
  go_wp2_with fail
  refine (Below_yes u v p q A2 n2 c2 l2 AM NM cM M b1 bM HM2.out _ (KB.below L2.out (by exact sm)) (KB.below LM.out (by exact sm))).mono ?_
  clear c0z1 c1z1 c2z1 c0z3 c1z3 c2z3
  rintro e w7 ⟨rfl, bb⟩
  replace bb := nextw (w0 := w6) (by exact sm) bb
  replace B_z0 := mv B_z0 bb
  replace B_z1 := mv B_z1 bb
  replace B_z2 := mv B_z2 bb
  replace B_z3 := mv B_z3 bb
  replace L := Lib.hid (KB.below L.out bb)
  replace L2 := Lib.hid (KB.below L2.out bb)
  replace L3 := Lib.hid (KB.below L3.out bb)
  replace LM := Lib.hid (KB.below LM.out bb)
  replace HB := nx HB bb
  clear bb
  obtain ⟨c0z3, c1z3, c2z3⟩ := cells3 B_z3
  go_wp2_with fail
  refine (Below_yes p q p q AM NM cM M AM NM cM M bM bM HM3.out _ (KB.below LM.out (by exact sm)) (KB.below LM.out (by exact sm))).mono ?_
  clear c0z3 c1z3 c2z3
  rintro e w8 ⟨rfl, bb⟩
  replace bb := nextw (w0 := w7) (by exact sm) bb
  replace B_z0 := mv B_z0 bb
  replace B_z1 := mv B_z1 bb
  replace B_z2 := mv B_z2 bb
  replace B_z3 := mv B_z3 bb
  replace L := Lib.hid (KB.below L.out bb)
  replace L2 := Lib.hid (KB.below L2.out bb)
  replace L3 := Lib.hid (KB.below L3.out bb)
  replace LM := Lib.hid (KB.below LM.out bb)
  replace HB := nx HB bb
  clear bb
  obtain ⟨c0z0, c1z0, c2z0⟩ := cells3 B_z0
  obtain ⟨c0z2, c1z2, c2z2⟩ := cells3 B_z2
  go_wp2_with fail
  refine (Below_no p q s t A n c l A3 n3 c3 l3 b0 b2 k1.out _ (KB.below L.out (by exact sm)) (KB.below L3.out (by exact sm))).mono ?_
  clear c0z0 c1z0 c2z0 c0z2 c1z2 c2z2
  rintro e w9 ⟨rfl, bb⟩
  replace bb := nextw (w0 := w8) (by exact sm) bb
  replace B_z0 := mv B_z0 bb
  replace B_z1 := mv B_z1 bb
  replace B_z2 := mv B_z2 bb
  replace B_z3 := mv B_z3 bb
  replace L := Lib.hid (KB.below L.out bb)
  replace L2 := Lib.hid (KB.below L2.out bb)
  replace L3 := Lib.hid (KB.below L3.out bb)
  replace LM := Lib.hid (KB.below LM.out bb)
  replace HB := nx HB bb
  clear bb
  obtain ⟨c0z1, c1z1, c2z1⟩ := cells3 B_z1
  obtain ⟨c0z2, c1z2, c2z2⟩ := cells3 B_z2
  go_wp2_with fail
  refine (Merge_bad u v s t A2 n2 c2 l2 A3 n3 c3 l3 b1 b2 g2.out _ (KB.below L2.out (by exact sm)) (KB.below L3.out (by exact sm))).mono ?_
  clear c0z1 c1z1 c2z1 c0z2 c1z2 c2z2
  rintro e w10 ⟨E2, AE2, cE2, hE2, rfl, bb⟩
  replace bb := nextw (w0 := w9) (by exact sm) bb
  replace B_z0 := mv B_z0 bb
  replace B_z1 := mv B_z1 bb
  replace B_z2 := mv B_z2 bb
  replace B_z3 := mv B_z3 bb
  replace L := Lib.hid (KB.below L.out bb)
  replace L2 := Lib.hid (KB.below L2.out bb)
  replace L3 := Lib.hid (KB.below L3.out bb)
  replace LM := Lib.hid (KB.below LM.out bb)
  replace HB := nx HB bb
  clear bb
  have hEb2 : (E2 == 0) = false := decide_eq_false hE2
  have hEc2 : (E2 != 0) = true := by rw [bne, hEb2]; rfl
  replace hE2 := Lib.hid hE2
  have lt_z4z0 := B_z0.out.lt
  have lt_z4z1 := B_z1.out.lt
  have lt_z4z2 := B_z2.out.lt
  have lt_z4z3 := B_z3.out.lt
  obtain ⟨bb, B_z4⟩ := box1 w10 24 #[.int .i64 0, .int .i64 0, .slice AE2 0 cE2]
  replace bb := bb.out
  replace B_z0 := mv B_z0 bb
  replace B_z1 := mv B_z1 bb
  replace B_z2 := mv B_z2 bb
  replace B_z3 := mv B_z3 bb
  replace L := Lib.hid (KB.below L.out bb)
  replace L2 := Lib.hid (KB.below L2.out bb)
  replace L3 := Lib.hid (KB.below L3.out bb)
  replace LM := Lib.hid (KB.below LM.out bb)
  replace HB := nx HB bb
  clear bb
  go_upto_region 9 with (fail)
  generalize w10.alloc (.cells #[.int .i64 0, .int .i64 0, .slice AE2 0 cE2] 24) = WB at *
  obtain ⟨c0z4, c1z4, c2z4⟩ := cells3 B_z4
  go_wp2
  go_ret
  exact ⟨rfl, nextw HB.out (by exact sm)⟩

set_option maxRecDepth 100000 in
set_option maxHeartbeats 4000000 in
theorem LLeast_n1 (p q u v s t : Int) (A : Option Addr) (n c : Nat) (l : List Int) (A2 : Option Addr) (n2 c2 : Nat) (l2 : List Int) (A3 : Option Addr) (n3 c3 : Nat) (l3 : List Int) (h0 : ((n : Nat) : Int) ≤ 5000) (h1 : ((n2 : Nat) : Int) ≤ 5000) (h2 : ((n3 : Nat) : Int) ≤ 5000) (g : mgE p q l u v l2 = 0) (k1 : ¬ BelP p q l s t l3) (g2 : mgE u v l2 s t l3 = 0) (w : World) {lo hi lo2 hi2 lo3 hi3 : Nat} (L : KB w lo hi A n c l) (L2 : KB w lo2 hi2 A2 n2 c2 l2) (L3 : KB w lo3 hi3 A3 n3 c3 l3) :
    Calls Try.prog 12 #[.agg #[.int .i64 p, .int .i64 q, .slice A n c], .agg #[.int .i64 u, .int .i64 v, .slice A2 n2 c2], .agg #[.int .i64 s, .int .i64 t, .slice A3 n3 c3]] w fun e w' => e = .returned (.bool true) ∧ Below w.heap.size w w' := by
  have b0 : n ≤ 1000000 := by omega
  have b1 : n2 ≤ 1000000 := by omega
  have b2 : n3 ≤ 1000000 := by omega
  replace h0 := Lib.hid h0
  replace h1 := Lib.hid h1
  replace h2 := Lib.hid h2
  have HM1 := Lib.hid (bel_l g)
  have HM2 := Lib.hid (bel_r g)
  have HM3 := Lib.hid (bel_self (okp_mg (mgE_al g).1 l.length))
  have EA := mg_assoc g g2
  have EX1 := mg_assocX g g2 p
  have EX2 := mg_assocX g g2 q
  have hMl := mgK_len l l2 l.length
  obtain ⟨M, hM⟩ : ∃ M, mgK l l2 l.length = M := ⟨_, rfl⟩
  rw [hM] at HM1 HM2 HM3 hMl EA EX1 EX2
  obtain ⟨NM, hNM⟩ : ∃ N, M.length = N := ⟨_, rfl⟩
  have hln := L.len
  have bM : NM ≤ 1000000 := by omega
  have HMM := Lib.hid hM
  have HNM := Lib.hid hNM
  clear hM hNM hMl hln
  replace g := Lib.hid g
  replace k1 := Lib.hid k1
  replace g2 := Lib.hid g2
  have hQl := mgK_len l2 l3 l2.length
  have hln2 := L2.len
  obtain ⟨Q, hQ⟩ : ∃ Q, mgK l2 l3 l2.length = Q := ⟨_, rfl⟩
  rw [hQ] at EA EX1 EX2 hQl
  obtain ⟨NQ, hNQ⟩ : ∃ N, Q.length = N := ⟨_, rfl⟩
  have bQ : NQ ≤ 1000000 := by omega
  have HQQ := Lib.hid hQ
  have HNQ := Lib.hid hNQ
  clear hQ hNQ hQl hln2
  obtain ⟨E5, hE5⟩ : ∃ e, mgE p q l u v Q = e := ⟨_, rfl⟩
  obtain ⟨XP, hXP⟩ : ∃ e, mgX p q l u v Q p = e := ⟨_, rfl⟩
  obtain ⟨XQ, hXQ⟩ : ∃ e, mgX p q l u v Q q = e := ⟨_, rfl⟩
  obtain ⟨XM, hXM⟩ : ∃ e, mgV p q l u v Q = e := ⟨_, rfl⟩
  obtain ⟨NX, hNX⟩ : ∃ N, XM.length = N := ⟨_, rfl⟩
  rw [hE5, hXM] at EA
  rw [hXP] at EX1
  rw [hXQ] at EX2
  have HE5 := Lib.hid hE5
  have HXP := Lib.hid hXP
  have HXQ := Lib.hid hXQ
  have HXM := Lib.hid hXM
  have HNX := Lib.hid hNX
  have HA1 := Lib.hid EA.1
  have HA2 := Lib.hid EA.2
  have HA3 := Lib.hid EX1
  have HA4 := Lib.hid EX2
  clear hE5 hXP hXQ hXM hNX EA EX1 EX2
  replace L := Lib.hid L
  replace L2 := Lib.hid L2
  replace L3 := Lib.hid L3
  obtain ⟨HB, B_z0, B_z1, B_z2⟩ := box3 w 24 #[.int .i64 p, .int .i64 q, .slice A n c] 24 #[.int .i64 u, .int .i64 v, .slice A2 n2 c2] 24 #[.int .i64 s, .int .i64 t, .slice A3 n3 c3]
  replace L := Lib.hid (KB.below L.out HB.out)
  replace L2 := Lib.hid (KB.below L2.out HB.out)
  replace L3 := Lib.hid (KB.below L3.out HB.out)
  go_enter Try.func12, Try.ntmps12
  go_wp2_with fail
  generalize ((w.alloc (.cells #[.int .i64 p, .int .i64 q, .slice A n c] 24)).alloc (.cells #[.int .i64 u, .int .i64 v, .slice A2 n2 c2] 24)).alloc (.cells #[.int .i64 s, .int .i64 t, .slice A3 n3 c3] 24) = W0 at *
  go_wp2_with fail
  refine (awake_is _).mono ?_
  rintro e w1 ⟨rfl, bb⟩
  replace bb := nextw (w0 := W0) (by exact sm) bb
  replace B_z0 := mv B_z0 bb
  replace B_z1 := mv B_z1 bb
  replace B_z2 := mv B_z2 bb
  replace L := Lib.hid (KB.below L.out bb)
  replace L2 := Lib.hid (KB.below L2.out bb)
  replace L3 := Lib.hid (KB.below L3.out bb)
  replace HB := nx HB bb
  clear bb
  obtain ⟨c0z0, c1z0, c2z0⟩ := cells3 B_z0
  go_wp2_with fail
  refine (few_yes p q A n c l h0.out _ (KB.below L.out (by exact sm))).mono ?_
  clear c0z0 c1z0 c2z0
  rintro e w2 ⟨rfl, bb⟩
  replace bb := nextw (w0 := w1) (by exact sm) bb
  replace B_z0 := mv B_z0 bb
  replace B_z1 := mv B_z1 bb
  replace B_z2 := mv B_z2 bb
  replace L := Lib.hid (KB.below L.out bb)
  replace L2 := Lib.hid (KB.below L2.out bb)
  replace L3 := Lib.hid (KB.below L3.out bb)
  replace HB := nx HB bb
  clear bb
  obtain ⟨c0z1, c1z1, c2z1⟩ := cells3 B_z1
  go_wp2_with fail
  refine (few_yes u v A2 n2 c2 l2 h1.out _ (KB.below L2.out (by exact sm))).mono ?_
  clear c0z1 c1z1 c2z1
  rintro e w3 ⟨rfl, bb⟩
  replace bb := nextw (w0 := w2) (by exact sm) bb
  replace B_z0 := mv B_z0 bb
  replace B_z1 := mv B_z1 bb
  replace B_z2 := mv B_z2 bb
  replace L := Lib.hid (KB.below L.out bb)
  replace L2 := Lib.hid (KB.below L2.out bb)
  replace L3 := Lib.hid (KB.below L3.out bb)
  replace HB := nx HB bb
  clear bb
  obtain ⟨c0z2, c1z2, c2z2⟩ := cells3 B_z2
  go_wp2_with fail
  refine (few_yes s t A3 n3 c3 l3 h2.out _ (KB.below L3.out (by exact sm))).mono ?_
  clear c0z2 c1z2 c2z2
  rintro e w4 ⟨rfl, bb⟩
  replace bb := nextw (w0 := w3) (by exact sm) bb
  replace B_z0 := mv B_z0 bb
  replace B_z1 := mv B_z1 bb
  replace B_z2 := mv B_z2 bb
  replace L := Lib.hid (KB.below L.out bb)
  replace L2 := Lib.hid (KB.below L2.out bb)
  replace L3 := Lib.hid (KB.below L3.out bb)
  replace HB := nx HB bb
  clear bb
  obtain ⟨c0z0, c1z0, c2z0⟩ := cells3 B_z0
  obtain ⟨c0z1, c1z1, c2z1⟩ := cells3 B_z1
  go_wp2_with fail
  refine (Merge_ok p q u v A n c l A2 n2 c2 l2 b0 b1 g.out HMM.out HNM.out _ (KB.below L.out (by exact sm)) (KB.below L2.out (by exact sm))).mono ?_
  clear c0z0 c1z0 c2z0 c0z1 c1z1 c2z1
  rintro e w5 ⟨AM, cM, rfl, LM, bb⟩
  replace bb := nextw (w0 := w4) (by exact sm) bb
  replace B_z0 := mv B_z0 bb
  replace B_z1 := mv B_z1 bb
  replace B_z2 := mv B_z2 bb
  replace L := Lib.hid (KB.below L.out bb)
  replace L2 := Lib.hid (KB.below L2.out bb)
  replace L3 := Lib.hid (KB.below L3.out bb)
  replace HB := nx HB bb
  clear bb
  replace LM := Lib.hid LM
  have lt_z3z0 := B_z0.out.lt
  have lt_z3z1 := B_z1.out.lt
  have lt_z3z2 := B_z2.out.lt
  obtain ⟨bb, B_z3⟩ := box1 w5 24 #[.int .i64 p, .int .i64 q, .slice AM NM cM]
  replace bb := bb.out
  replace B_z0 := mv B_z0 bb
  replace B_z1 := mv B_z1 bb
  replace B_z2 := mv B_z2 bb
  replace L := Lib.hid (KB.below L.out bb)
  replace L2 := Lib.hid (KB.below L2.out bb)
  replace L3 := Lib.hid (KB.below L3.out bb)
  replace LM := Lib.hid (KB.below LM.out bb)
  replace HB := nx HB bb
  clear bb
  go_upto_region 4 with (fail)
  generalize w5.alloc (.cells #[.int .i64 p, .int .i64 q, .slice AM NM cM] 24) = WA at *
  obtain ⟨c0z0, c1z0, c2z0⟩ := cells3 B_z0
  obtain ⟨c0z3, c1z3, c2z3⟩ := cells3 B_z3
  go_wp2_with fail
  refine (Below_yes p q p q A n c l AM NM cM M b0 bM HM1.out _ (KB.below L.out (by exact sm)) (KB.below LM.out (by exact sm))).mono ?_
  clear c0z0 c1z0 c2z0 c0z3 c1z3 c2z3
  rintro e w6 ⟨rfl, bb⟩
  replace bb := nextw (w0 := WA) (by exact sm) bb
  replace B_z0 := mv B_z0 bb
  replace B_z1 := mv B_z1 bb
  replace B_z2 := mv B_z2 bb
  replace B_z3 := mv B_z3 bb
  replace L := Lib.hid (KB.below L.out bb)
  replace L2 := Lib.hid (KB.below L2.out bb)
  replace L3 := Lib.hid (KB.below L3.out bb)
  replace LM := Lib.hid (KB.below LM.out bb)
  replace HB := nx HB bb
  clear bb
  obtain ⟨c0z1, c1z1, c2z1⟩ := cells3 B_z1
  obtain ⟨c0z3, c1z3, c2z3⟩ := cells3 B_z3
  go_wp2_with fail
  refine (Below_yes u v p q A2 n2 c2 l2 AM NM cM M b1 bM HM2.out _ (KB.below L2.out (by exact sm)) (KB.below LM.out (by exact sm))).mono ?_
  clear c0z1 c1z1 c2z1 c0z3 c1z3 c2z3
  rintro e w7 ⟨rfl, bb⟩
  replace bb := nextw (w0 := w6) (by exact sm) bb
  replace B_z0 := mv B_z0 bb
  replace B_z1 := mv B_z1 bb
  replace B_z2 := mv B_z2 bb
  replace B_z3 := mv B_z3 bb
  replace L := Lib.hid (KB.below L.out bb)
  replace L2 := Lib.hid (KB.below L2.out bb)
  replace L3 := Lib.hid (KB.below L3.out bb)
  replace LM := Lib.hid (KB.below LM.out bb)
  replace HB := nx HB bb
  clear bb
  obtain ⟨c0z3, c1z3, c2z3⟩ := cells3 B_z3
  go_wp2_with fail
  refine (Below_yes p q p q AM NM cM M AM NM cM M bM bM HM3.out _ (KB.below LM.out (by exact sm)) (KB.below LM.out (by exact sm))).mono ?_
  clear c0z3 c1z3 c2z3
  rintro e w8 ⟨rfl, bb⟩
  replace bb := nextw (w0 := w7) (by exact sm) bb
  replace B_z0 := mv B_z0 bb
  replace B_z1 := mv B_z1 bb
  replace B_z2 := mv B_z2 bb
  replace B_z3 := mv B_z3 bb
  replace L := Lib.hid (KB.below L.out bb)
  replace L2 := Lib.hid (KB.below L2.out bb)
  replace L3 := Lib.hid (KB.below L3.out bb)
  replace LM := Lib.hid (KB.below LM.out bb)
  replace HB := nx HB bb
  clear bb
  obtain ⟨c0z0, c1z0, c2z0⟩ := cells3 B_z0
  obtain ⟨c0z2, c1z2, c2z2⟩ := cells3 B_z2
  go_wp2_with fail
  refine (Below_no p q s t A n c l A3 n3 c3 l3 b0 b2 k1.out _ (KB.below L.out (by exact sm)) (KB.below L3.out (by exact sm))).mono ?_
  clear c0z0 c1z0 c2z0 c0z2 c1z2 c2z2
  rintro e w9 ⟨rfl, bb⟩
  replace bb := nextw (w0 := w8) (by exact sm) bb
  replace B_z0 := mv B_z0 bb
  replace B_z1 := mv B_z1 bb
  replace B_z2 := mv B_z2 bb
  replace B_z3 := mv B_z3 bb
  replace L := Lib.hid (KB.below L.out bb)
  replace L2 := Lib.hid (KB.below L2.out bb)
  replace L3 := Lib.hid (KB.below L3.out bb)
  replace LM := Lib.hid (KB.below LM.out bb)
  replace HB := nx HB bb
  clear bb
  obtain ⟨c0z1, c1z1, c2z1⟩ := cells3 B_z1
  obtain ⟨c0z2, c1z2, c2z2⟩ := cells3 B_z2
  go_wp2_with fail
  refine (Merge_ok u v s t A2 n2 c2 l2 A3 n3 c3 l3 b1 b2 g2.out HQQ.out HNQ.out _ (KB.below L2.out (by exact sm)) (KB.below L3.out (by exact sm))).mono ?_
  clear c0z1 c1z1 c2z1 c0z2 c1z2 c2z2
  rintro e w10 ⟨AQ, cQ, rfl, LQ, bb⟩
  replace bb := nextw (w0 := w9) (by exact sm) bb
  replace B_z0 := mv B_z0 bb
  replace B_z1 := mv B_z1 bb
  replace B_z2 := mv B_z2 bb
  replace B_z3 := mv B_z3 bb
  replace L := Lib.hid (KB.below L.out bb)
  replace L2 := Lib.hid (KB.below L2.out bb)
  replace L3 := Lib.hid (KB.below L3.out bb)
  replace LM := Lib.hid (KB.below LM.out bb)
  replace HB := nx HB bb
  clear bb
  replace LQ := Lib.hid LQ
  have lt_z4z0 := B_z0.out.lt
  have lt_z4z1 := B_z1.out.lt
  have lt_z4z2 := B_z2.out.lt
  have lt_z4z3 := B_z3.out.lt
  obtain ⟨bb, B_z4⟩ := box1 w10 24 #[.int .i64 u, .int .i64 v, .slice AQ NQ cQ]
  replace bb := bb.out
  replace B_z0 := mv B_z0 bb
  replace B_z1 := mv B_z1 bb
  replace B_z2 := mv B_z2 bb
  replace B_z3 := mv B_z3 bb
  replace L := Lib.hid (KB.below L.out bb)
  replace L2 := Lib.hid (KB.below L2.out bb)
  replace L3 := Lib.hid (KB.below L3.out bb)
  replace LM := Lib.hid (KB.below LM.out bb)
  replace LQ := Lib.hid (KB.below LQ.out bb)
  replace HB := nx HB bb
  clear bb
  go_upto_region 9 with (fail)
  generalize w10.alloc (.cells #[.int .i64 u, .int .i64 v, .slice AQ NQ cQ] 24) = WB at *
  obtain ⟨c0z3, c1z3, c2z3⟩ := cells3 B_z3
  obtain ⟨c0z2, c1z2, c2z2⟩ := cells3 B_z2
  go_wp2_with fail
  refine (Merge_nm p q s t AM NM cM M A3 n3 c3 l3 bM b2 HA1.out HA3.out HA4.out HA2.out HNX.out _ (KB.below LM.out (by exact sm)) (KB.below L3.out (by exact sm))).mono ?_
  clear c0z3 c1z3 c2z3 c0z2 c1z2 c2z2
  rintro e w11 ⟨A5, c5, rfl, L5, bb⟩
  replace bb := nextw (w0 := WB) (by exact sm) bb
  replace B_z0 := mv B_z0 bb
  replace B_z1 := mv B_z1 bb
  replace B_z2 := mv B_z2 bb
  replace B_z3 := mv B_z3 bb
  replace B_z4 := mv B_z4 bb
  replace L := Lib.hid (KB.below L.out bb)
  replace L2 := Lib.hid (KB.below L2.out bb)
  replace L3 := Lib.hid (KB.below L3.out bb)
  replace LM := Lib.hid (KB.below LM.out bb)
  replace LQ := Lib.hid (KB.below LQ.out bb)
  replace HB := nx HB bb
  clear bb
  replace L5 := Lib.hid L5
  have lt_z5z0 := B_z0.out.lt
  have lt_z5z1 := B_z1.out.lt
  have lt_z5z2 := B_z2.out.lt
  have lt_z5z3 := B_z3.out.lt
  have lt_z5z4 := B_z4.out.lt
  obtain ⟨bb, B_z5⟩ := box1 w11 24 #[.int .i64 XP, .int .i64 XQ, .slice A5 NX c5]
  replace bb := bb.out
  replace B_z0 := mv B_z0 bb
  replace B_z1 := mv B_z1 bb
  replace B_z2 := mv B_z2 bb
  replace B_z3 := mv B_z3 bb
  replace B_z4 := mv B_z4 bb
  replace L := Lib.hid (KB.below L.out bb)
  replace L2 := Lib.hid (KB.below L2.out bb)
  replace L3 := Lib.hid (KB.below L3.out bb)
  replace LM := Lib.hid (KB.below LM.out bb)
  replace LQ := Lib.hid (KB.below LQ.out bb)
  replace L5 := Lib.hid (KB.below L5.out bb)
  replace HB := nx HB bb
  clear bb
  go_upto_region 12 with (fail)
  generalize w11.alloc (.cells #[.int .i64 XP, .int .i64 XQ, .slice A5 NX c5] 24) = WD at *
  obtain ⟨c0z0, c1z0, c2z0⟩ := cells3 B_z0
  obtain ⟨c0z4, c1z4, c2z4⟩ := cells3 B_z4
  go_wp2_with fail
  refine (Merge_nm p q u v A n c l AQ NQ cQ Q b0 bQ HE5.out HXP.out HXQ.out HXM.out HNX.out _ (KB.below L.out (by exact sm)) (KB.below LQ.out (by exact sm))).mono ?_
  clear c0z0 c1z0 c2z0 c0z4 c1z4 c2z4
  rintro e w12 ⟨A6, c6, rfl, L6, bb⟩
  replace bb := nextw (w0 := WD) (by exact sm) bb
  replace B_z0 := mv B_z0 bb
  replace B_z1 := mv B_z1 bb
  replace B_z2 := mv B_z2 bb
  replace B_z3 := mv B_z3 bb
  replace B_z4 := mv B_z4 bb
  replace B_z5 := mv B_z5 bb
  replace L := Lib.hid (KB.below L.out bb)
  replace L2 := Lib.hid (KB.below L2.out bb)
  replace L3 := Lib.hid (KB.below L3.out bb)
  replace LM := Lib.hid (KB.below LM.out bb)
  replace LQ := Lib.hid (KB.below LQ.out bb)
  replace L5 := Lib.hid (KB.below L5.out bb)
  replace HB := nx HB bb
  clear bb
  replace L6 := Lib.hid L6
  have lt_z6z0 := B_z0.out.lt
  have lt_z6z1 := B_z1.out.lt
  have lt_z6z2 := B_z2.out.lt
  have lt_z6z3 := B_z3.out.lt
  have lt_z6z4 := B_z4.out.lt
  have lt_z6z5 := B_z5.out.lt
  obtain ⟨bb, B_z6⟩ := box1 w12 24 #[.int .i64 XP, .int .i64 XQ, .slice A6 NX c6]
  replace bb := bb.out
  replace B_z0 := mv B_z0 bb
  replace B_z1 := mv B_z1 bb
  replace B_z2 := mv B_z2 bb
  replace B_z3 := mv B_z3 bb
  replace B_z4 := mv B_z4 bb
  replace B_z5 := mv B_z5 bb
  replace L := Lib.hid (KB.below L.out bb)
  replace L2 := Lib.hid (KB.below L2.out bb)
  replace L3 := Lib.hid (KB.below L3.out bb)
  replace LM := Lib.hid (KB.below LM.out bb)
  replace LQ := Lib.hid (KB.below LQ.out bb)
  replace L5 := Lib.hid (KB.below L5.out bb)
  replace L6 := Lib.hid (KB.below L6.out bb)
  replace HB := nx HB bb
  clear bb
  go_upto_region 13 with (fail)
  generalize w12.alloc (.cells #[.int .i64 XP, .int .i64 XQ, .slice A6 NX c6] 24) = WF at *
  obtain ⟨c0z5, c1z5, c2z5⟩ := cells3 B_z5
  obtain ⟨c0z6, c1z6, c2z6⟩ := cells3 B_z6
  go_wp2_with fail
  refine (Plans_same XP XQ A5 NX c5 A6 NX c6 XM _ (KB.below L5.out (by exact sm)) (KB.below L6.out (by exact sm))).mono ?_
  clear c0z5 c1z5 c2z5 c0z6 c1z6 c2z6
  rintro e w13 ⟨rfl, bb⟩
  replace bb := nextw (w0 := WF) (by exact sm) bb
  replace B_z0 := mv B_z0 bb
  replace B_z1 := mv B_z1 bb
  replace B_z2 := mv B_z2 bb
  replace B_z3 := mv B_z3 bb
  replace B_z4 := mv B_z4 bb
  replace B_z5 := mv B_z5 bb
  replace B_z6 := mv B_z6 bb
  replace L := Lib.hid (KB.below L.out bb)
  replace L2 := Lib.hid (KB.below L2.out bb)
  replace L3 := Lib.hid (KB.below L3.out bb)
  replace LM := Lib.hid (KB.below LM.out bb)
  replace LQ := Lib.hid (KB.below LQ.out bb)
  replace L5 := Lib.hid (KB.below L5.out bb)
  replace L6 := Lib.hid (KB.below L6.out bb)
  replace HB := nx HB bb
  clear bb
  go_wp2
  go_ret
  exact ⟨rfl, nextw HB.out (by exact sm)⟩

set_option maxRecDepth 100000 in
set_option maxHeartbeats 4000000 in
theorem LLeast_yn0 (p q u v s t : Int) (A : Option Addr) (n c : Nat) (l : List Int) (A2 : Option Addr) (n2 c2 : Nat) (l2 : List Int) (A3 : Option Addr) (n3 c3 : Nat) (l3 : List Int) (h0 : ((n : Nat) : Int) ≤ 5000) (h1 : ((n2 : Nat) : Int) ≤ 5000) (h2 : ((n3 : Nat) : Int) ≤ 5000) (g : mgE p q l u v l2 = 0) (k1 : BelP p q l s t l3) (k2 : ¬ BelP u v l2 s t l3) (g2 : mgE u v l2 s t l3 ≠ 0) (w : World) {lo hi lo2 hi2 lo3 hi3 : Nat} (L : KB w lo hi A n c l) (L2 : KB w lo2 hi2 A2 n2 c2 l2) (L3 : KB w lo3 hi3 A3 n3 c3 l3) :
    Calls Try.prog 12 #[.agg #[.int .i64 p, .int .i64 q, .slice A n c], .agg #[.int .i64 u, .int .i64 v, .slice A2 n2 c2], .agg #[.int .i64 s, .int .i64 t, .slice A3 n3 c3]] w fun e w' => e = .returned (.bool true) ∧ Below w.heap.size w w' := by
  have b0 : n ≤ 1000000 := by omega
  have b1 : n2 ≤ 1000000 := by omega
  have b2 : n3 ≤ 1000000 := by omega
  replace h0 := Lib.hid h0
  replace h1 := Lib.hid h1
  replace h2 := Lib.hid h2
  have HM1 := Lib.hid (bel_l g)
  have HM2 := Lib.hid (bel_r g)
  have HM3 := Lib.hid (bel_self (okp_mg (mgE_al g).1 l.length))
  have hMl := mgK_len l l2 l.length
  obtain ⟨M, hM⟩ : ∃ M, mgK l l2 l.length = M := ⟨_, rfl⟩
  rw [hM] at HM1 HM2 HM3 hMl
  obtain ⟨NM, hNM⟩ : ∃ N, M.length = N := ⟨_, rfl⟩
  have hln := L.len
  have bM : NM ≤ 1000000 := by omega
  have HMM := Lib.hid hM
  have HNM := Lib.hid hNM
  clear hM hNM hMl hln
  replace g := Lib.hid g
  replace k1 := Lib.hid k1
  replace k2 := Lib.hid k2
  replace g2 := Lib.hid g2
  replace L := Lib.hid L
  replace L2 := Lib.hid L2
  replace L3 := Lib.hid L3
  obtain ⟨HB, B_z0, B_z1, B_z2⟩ := box3 w 24 #[.int .i64 p, .int .i64 q, .slice A n c] 24 #[.int .i64 u, .int .i64 v, .slice A2 n2 c2] 24 #[.int .i64 s, .int .i64 t, .slice A3 n3 c3]
  replace L := Lib.hid (KB.below L.out HB.out)
  replace L2 := Lib.hid (KB.below L2.out HB.out)
  replace L3 := Lib.hid (KB.below L3.out HB.out)
  go_enter Try.func12, Try.ntmps12
  go_wp2_with fail
  generalize ((w.alloc (.cells #[.int .i64 p, .int .i64 q, .slice A n c] 24)).alloc (.cells #[.int .i64 u, .int .i64 v, .slice A2 n2 c2] 24)).alloc (.cells #[.int .i64 s, .int .i64 t, .slice A3 n3 c3] 24) = W0 at *
  go_wp2_with fail
  refine (awake_is _).mono ?_
  rintro e w1 ⟨rfl, bb⟩
  replace bb := nextw (w0 := W0) (by exact sm) bb
  replace B_z0 := mv B_z0 bb
  replace B_z1 := mv B_z1 bb
  replace B_z2 := mv B_z2 bb
  replace L := Lib.hid (KB.below L.out bb)
  replace L2 := Lib.hid (KB.below L2.out bb)
  replace L3 := Lib.hid (KB.below L3.out bb)
  replace HB := nx HB bb
  clear bb
  obtain ⟨c0z0, c1z0, c2z0⟩ := cells3 B_z0
  go_wp2_with fail
  refine (few_yes p q A n c l h0.out _ (KB.below L.out (by exact sm))).mono ?_
  clear c0z0 c1z0 c2z0
  rintro e w2 ⟨rfl, bb⟩
  replace bb := nextw (w0 := w1) (by exact sm) bb
  replace B_z0 := mv B_z0 bb
  replace B_z1 := mv B_z1 bb
  replace B_z2 := mv B_z2 bb
  replace L := Lib.hid (KB.below L.out bb)
  replace L2 := Lib.hid (KB.below L2.out bb)
  replace L3 := Lib.hid (KB.below L3.out bb)
  replace HB := nx HB bb
  clear bb
  obtain ⟨c0z1, c1z1, c2z1⟩ := cells3 B_z1
  go_wp2_with fail
  refine (few_yes u v A2 n2 c2 l2 h1.out _ (KB.below L2.out (by exact sm))).mono ?_
  clear c0z1 c1z1 c2z1
  rintro e w3 ⟨rfl, bb⟩
  replace bb := nextw (w0 := w2) (by exact sm) bb
  replace B_z0 := mv B_z0 bb
  replace B_z1 := mv B_z1 bb
  replace B_z2 := mv B_z2 bb
  replace L := Lib.hid (KB.below L.out bb)
  replace L2 := Lib.hid (KB.below L2.out bb)
  replace L3 := Lib.hid (KB.below L3.out bb)
  replace HB := nx HB bb
  clear bb
  obtain ⟨c0z2, c1z2, c2z2⟩ := cells3 B_z2
  go_wp2_with fail
  refine (few_yes s t A3 n3 c3 l3 h2.out _ (KB.below L3.out (by exact sm))).mono ?_
  clear c0z2 c1z2 c2z2
  rintro e w4 ⟨rfl, bb⟩
  replace bb := nextw (w0 := w3) (by exact sm) bb
  replace B_z0 := mv B_z0 bb
  replace B_z1 := mv B_z1 bb
  replace B_z2 := mv B_z2 bb
  replace L := Lib.hid (KB.below L.out bb)
  replace L2 := Lib.hid (KB.below L2.out bb)
  replace L3 := Lib.hid (KB.below L3.out bb)
  replace HB := nx HB bb
  clear bb
  obtain ⟨c0z0, c1z0, c2z0⟩ := cells3 B_z0
  obtain ⟨c0z1, c1z1, c2z1⟩ := cells3 B_z1
  go_wp2_with fail
  refine (Merge_ok p q u v A n c l A2 n2 c2 l2 b0 b1 g.out HMM.out HNM.out _ (KB.below L.out (by exact sm)) (KB.below L2.out (by exact sm))).mono ?_
  clear c0z0 c1z0 c2z0 c0z1 c1z1 c2z1
  rintro e w5 ⟨AM, cM, rfl, LM, bb⟩
  replace bb := nextw (w0 := w4) (by exact sm) bb
  replace B_z0 := mv B_z0 bb
  replace B_z1 := mv B_z1 bb
  replace B_z2 := mv B_z2 bb
  replace L := Lib.hid (KB.below L.out bb)
  replace L2 := Lib.hid (KB.below L2.out bb)
  replace L3 := Lib.hid (KB.below L3.out bb)
  replace HB := nx HB bb
  clear bb
  replace LM := Lib.hid LM
  have lt_z3z0 := B_z0.out.lt
  have lt_z3z1 := B_z1.out.lt
  have lt_z3z2 := B_z2.out.lt
  obtain ⟨bb, B_z3⟩ := box1 w5 24 #[.int .i64 p, .int .i64 q, .slice AM NM cM]
  replace bb := bb.out
  replace B_z0 := mv B_z0 bb
  replace B_z1 := mv B_z1 bb
  replace B_z2 := mv B_z2 bb
  replace L := Lib.hid (KB.below L.out bb)
  replace L2 := Lib.hid (KB.below L2.out bb)
  replace L3 := Lib.hid (KB.below L3.out bb)
  replace LM := Lib.hid (KB.below LM.out bb)
  replace HB := nx HB bb
  clear bb
  go_upto_region 4 with (fail)
  generalize w5.alloc (.cells #[.int .i64 p, .int .i64 q, .slice AM NM cM] 24) = WA at *
  obtain ⟨c0z0, c1z0, c2z0⟩ := cells3 B_z0
  obtain ⟨c0z3, c1z3, c2z3⟩ := cells3 B_z3
  go_wp2_with fail
  refine (Below_yes p q p q A n c l AM NM cM M b0 bM HM1.out _ (KB.below L.out (by exact sm)) (KB.below LM.out (by exact sm))).mono ?_
  clear c0z0 c1z0 c2z0 c0z3 c1z3 c2z3
  rintro e w6 ⟨rfl, bb⟩
  replace bb := nextw (w0 := WA) (by exact sm) bb
  replace B_z0 := mv B_z0 bb
  replace B_z1 := mv B_z1 bb
  replace B_z2 := mv B_z2 bb
  replace B_z3 := mv B_z3 bb
  replace L := Lib.hid (KB.below L.out bb)
  replace L2 := Lib.hid (KB.below L2.out bb)
  replace L3 := Lib.hid (KB.below L3.out bb)
  replace LM := Lib.hid (KB.below LM.out bb)
  replace HB := nx HB bb
  clear bb
  obtain ⟨c0z1, c1z1, c2z1⟩ := cells3 B_z1
  obtain ⟨c0z3, c1z3, c2z3⟩ := cells3 B_z3
  go_wp2_with fail
  refine (Below_yes u v p q A2 n2 c2 l2 AM NM cM M b1 bM HM2.out _ (KB.below L2.out (by exact sm)) (KB.below LM.out (by exact sm))).mono ?_
  clear c0z1 c1z1 c2z1 c0z3 c1z3 c2z3
  rintro e w7 ⟨rfl, bb⟩
  replace bb := nextw (w0 := w6) (by exact sm) bb
  replace B_z0 := mv B_z0 bb
  replace B_z1 := mv B_z1 bb
  replace B_z2 := mv B_z2 bb
  replace B_z3 := mv B_z3 bb
  replace L := Lib.hid (KB.below L.out bb)
  replace L2 := Lib.hid (KB.below L2.out bb)
  replace L3 := Lib.hid (KB.below L3.out bb)
  replace LM := Lib.hid (KB.below LM.out bb)
  replace HB := nx HB bb
  clear bb
  obtain ⟨c0z3, c1z3, c2z3⟩ := cells3 B_z3
  go_wp2_with fail
  refine (Below_yes p q p q AM NM cM M AM NM cM M bM bM HM3.out _ (KB.below LM.out (by exact sm)) (KB.below LM.out (by exact sm))).mono ?_
  clear c0z3 c1z3 c2z3
  rintro e w8 ⟨rfl, bb⟩
  replace bb := nextw (w0 := w7) (by exact sm) bb
  replace B_z0 := mv B_z0 bb
  replace B_z1 := mv B_z1 bb
  replace B_z2 := mv B_z2 bb
  replace B_z3 := mv B_z3 bb
  replace L := Lib.hid (KB.below L.out bb)
  replace L2 := Lib.hid (KB.below L2.out bb)
  replace L3 := Lib.hid (KB.below L3.out bb)
  replace LM := Lib.hid (KB.below LM.out bb)
  replace HB := nx HB bb
  clear bb
  obtain ⟨c0z0, c1z0, c2z0⟩ := cells3 B_z0
  obtain ⟨c0z2, c1z2, c2z2⟩ := cells3 B_z2
  go_wp2_with fail
  refine (Below_yes p q s t A n c l A3 n3 c3 l3 b0 b2 k1.out _ (KB.below L.out (by exact sm)) (KB.below L3.out (by exact sm))).mono ?_
  clear c0z0 c1z0 c2z0 c0z2 c1z2 c2z2
  rintro e w9 ⟨rfl, bb⟩
  replace bb := nextw (w0 := w8) (by exact sm) bb
  replace B_z0 := mv B_z0 bb
  replace B_z1 := mv B_z1 bb
  replace B_z2 := mv B_z2 bb
  replace B_z3 := mv B_z3 bb
  replace L := Lib.hid (KB.below L.out bb)
  replace L2 := Lib.hid (KB.below L2.out bb)
  replace L3 := Lib.hid (KB.below L3.out bb)
  replace LM := Lib.hid (KB.below LM.out bb)
  replace HB := nx HB bb
  clear bb
  obtain ⟨c0z1, c1z1, c2z1⟩ := cells3 B_z1
  obtain ⟨c0z2, c1z2, c2z2⟩ := cells3 B_z2
  go_wp2_with fail
  refine (Below_no u v s t A2 n2 c2 l2 A3 n3 c3 l3 b1 b2 k2.out _ (KB.below L2.out (by exact sm)) (KB.below L3.out (by exact sm))).mono ?_
  clear c0z1 c1z1 c2z1 c0z2 c1z2 c2z2
  rintro e w10 ⟨rfl, bb⟩
  replace bb := nextw (w0 := w9) (by exact sm) bb
  replace B_z0 := mv B_z0 bb
  replace B_z1 := mv B_z1 bb
  replace B_z2 := mv B_z2 bb
  replace B_z3 := mv B_z3 bb
  replace L := Lib.hid (KB.below L.out bb)
  replace L2 := Lib.hid (KB.below L2.out bb)
  replace L3 := Lib.hid (KB.below L3.out bb)
  replace LM := Lib.hid (KB.below LM.out bb)
  replace HB := nx HB bb
  clear bb
  obtain ⟨c0z1, c1z1, c2z1⟩ := cells3 B_z1
  obtain ⟨c0z2, c1z2, c2z2⟩ := cells3 B_z2
  go_wp2_with fail
  refine (Merge_bad u v s t A2 n2 c2 l2 A3 n3 c3 l3 b1 b2 g2.out _ (KB.below L2.out (by exact sm)) (KB.below L3.out (by exact sm))).mono ?_
  clear c0z1 c1z1 c2z1 c0z2 c1z2 c2z2
  rintro e w11 ⟨E2, AE2, cE2, hE2, rfl, bb⟩
  replace bb := nextw (w0 := w10) (by exact sm) bb
  replace B_z0 := mv B_z0 bb
  replace B_z1 := mv B_z1 bb
  replace B_z2 := mv B_z2 bb
  replace B_z3 := mv B_z3 bb
  replace L := Lib.hid (KB.below L.out bb)
  replace L2 := Lib.hid (KB.below L2.out bb)
  replace L3 := Lib.hid (KB.below L3.out bb)
  replace LM := Lib.hid (KB.below LM.out bb)
  replace HB := nx HB bb
  clear bb
  have hEb2 : (E2 == 0) = false := decide_eq_false hE2
  have hEc2 : (E2 != 0) = true := by rw [bne, hEb2]; rfl
  replace hE2 := Lib.hid hE2
  have lt_z4z0 := B_z0.out.lt
  have lt_z4z1 := B_z1.out.lt
  have lt_z4z2 := B_z2.out.lt
  have lt_z4z3 := B_z3.out.lt
  obtain ⟨bb, B_z4⟩ := box1 w11 24 #[.int .i64 0, .int .i64 0, .slice AE2 0 cE2]
  replace bb := bb.out
  replace B_z0 := mv B_z0 bb
  replace B_z1 := mv B_z1 bb
  replace B_z2 := mv B_z2 bb
  replace B_z3 := mv B_z3 bb
  replace L := Lib.hid (KB.below L.out bb)
  replace L2 := Lib.hid (KB.below L2.out bb)
  replace L3 := Lib.hid (KB.below L3.out bb)
  replace LM := Lib.hid (KB.below LM.out bb)
  replace HB := nx HB bb
  clear bb
  go_upto_region 9 with (fail)
  generalize w11.alloc (.cells #[.int .i64 0, .int .i64 0, .slice AE2 0 cE2] 24) = WB at *
  obtain ⟨c0z4, c1z4, c2z4⟩ := cells3 B_z4
  go_wp2
  go_ret
  exact ⟨rfl, nextw HB.out (by exact sm)⟩

set_option maxRecDepth 100000 in
set_option maxHeartbeats 4000000 in
theorem LLeast_yn1 (p q u v s t : Int) (A : Option Addr) (n c : Nat) (l : List Int) (A2 : Option Addr) (n2 c2 : Nat) (l2 : List Int) (A3 : Option Addr) (n3 c3 : Nat) (l3 : List Int) (h0 : ((n : Nat) : Int) ≤ 5000) (h1 : ((n2 : Nat) : Int) ≤ 5000) (h2 : ((n3 : Nat) : Int) ≤ 5000) (g : mgE p q l u v l2 = 0) (k1 : BelP p q l s t l3) (k2 : ¬ BelP u v l2 s t l3) (g2 : mgE u v l2 s t l3 = 0) (w : World) {lo hi lo2 hi2 lo3 hi3 : Nat} (L : KB w lo hi A n c l) (L2 : KB w lo2 hi2 A2 n2 c2 l2) (L3 : KB w lo3 hi3 A3 n3 c3 l3) :
    Calls Try.prog 12 #[.agg #[.int .i64 p, .int .i64 q, .slice A n c], .agg #[.int .i64 u, .int .i64 v, .slice A2 n2 c2], .agg #[.int .i64 s, .int .i64 t, .slice A3 n3 c3]] w fun e w' => e = .returned (.bool true) ∧ Below w.heap.size w w' := by
  have b0 : n ≤ 1000000 := by omega
  have b1 : n2 ≤ 1000000 := by omega
  have b2 : n3 ≤ 1000000 := by omega
  replace h0 := Lib.hid h0
  replace h1 := Lib.hid h1
  replace h2 := Lib.hid h2
  have HM1 := Lib.hid (bel_l g)
  have HM2 := Lib.hid (bel_r g)
  have HM3 := Lib.hid (bel_self (okp_mg (mgE_al g).1 l.length))
  have EA := mg_assoc g g2
  have EX1 := mg_assocX g g2 p
  have EX2 := mg_assocX g g2 q
  have hMl := mgK_len l l2 l.length
  obtain ⟨M, hM⟩ : ∃ M, mgK l l2 l.length = M := ⟨_, rfl⟩
  rw [hM] at HM1 HM2 HM3 hMl EA EX1 EX2
  obtain ⟨NM, hNM⟩ : ∃ N, M.length = N := ⟨_, rfl⟩
  have hln := L.len
  have bM : NM ≤ 1000000 := by omega
  have HMM := Lib.hid hM
  have HNM := Lib.hid hNM
  clear hM hNM hMl hln
  replace g := Lib.hid g
  replace k1 := Lib.hid k1
  replace k2 := Lib.hid k2
  replace g2 := Lib.hid g2
  have hQl := mgK_len l2 l3 l2.length
  have hln2 := L2.len
  obtain ⟨Q, hQ⟩ : ∃ Q, mgK l2 l3 l2.length = Q := ⟨_, rfl⟩
  rw [hQ] at EA EX1 EX2 hQl
  obtain ⟨NQ, hNQ⟩ : ∃ N, Q.length = N := ⟨_, rfl⟩
  have bQ : NQ ≤ 1000000 := by omega
  have HQQ := Lib.hid hQ
  have HNQ := Lib.hid hNQ
  clear hQ hNQ hQl hln2
  obtain ⟨E5, hE5⟩ : ∃ e, mgE p q l u v Q = e := ⟨_, rfl⟩
  obtain ⟨XP, hXP⟩ : ∃ e, mgX p q l u v Q p = e := ⟨_, rfl⟩
  obtain ⟨XQ, hXQ⟩ : ∃ e, mgX p q l u v Q q = e := ⟨_, rfl⟩
  obtain ⟨XM, hXM⟩ : ∃ e, mgV p q l u v Q = e := ⟨_, rfl⟩
  obtain ⟨NX, hNX⟩ : ∃ N, XM.length = N := ⟨_, rfl⟩
  rw [hE5, hXM] at EA
  rw [hXP] at EX1
  rw [hXQ] at EX2
  have HE5 := Lib.hid hE5
  have HXP := Lib.hid hXP
  have HXQ := Lib.hid hXQ
  have HXM := Lib.hid hXM
  have HNX := Lib.hid hNX
  have HA1 := Lib.hid EA.1
  have HA2 := Lib.hid EA.2
  have HA3 := Lib.hid EX1
  have HA4 := Lib.hid EX2
  clear hE5 hXP hXQ hXM hNX EA EX1 EX2
  replace L := Lib.hid L
  replace L2 := Lib.hid L2
  replace L3 := Lib.hid L3
  obtain ⟨HB, B_z0, B_z1, B_z2⟩ := box3 w 24 #[.int .i64 p, .int .i64 q, .slice A n c] 24 #[.int .i64 u, .int .i64 v, .slice A2 n2 c2] 24 #[.int .i64 s, .int .i64 t, .slice A3 n3 c3]
  replace L := Lib.hid (KB.below L.out HB.out)
  replace L2 := Lib.hid (KB.below L2.out HB.out)
  replace L3 := Lib.hid (KB.below L3.out HB.out)
  go_enter Try.func12, Try.ntmps12
  go_wp2_with fail
  generalize ((w.alloc (.cells #[.int .i64 p, .int .i64 q, .slice A n c] 24)).alloc (.cells #[.int .i64 u, .int .i64 v, .slice A2 n2 c2] 24)).alloc (.cells #[.int .i64 s, .int .i64 t, .slice A3 n3 c3] 24) = W0 at *
  go_wp2_with fail
  refine (awake_is _).mono ?_
  rintro e w1 ⟨rfl, bb⟩
  replace bb := nextw (w0 := W0) (by exact sm) bb
  replace B_z0 := mv B_z0 bb
  replace B_z1 := mv B_z1 bb
  replace B_z2 := mv B_z2 bb
  replace L := Lib.hid (KB.below L.out bb)
  replace L2 := Lib.hid (KB.below L2.out bb)
  replace L3 := Lib.hid (KB.below L3.out bb)
  replace HB := nx HB bb
  clear bb
  obtain ⟨c0z0, c1z0, c2z0⟩ := cells3 B_z0
  go_wp2_with fail
  refine (few_yes p q A n c l h0.out _ (KB.below L.out (by exact sm))).mono ?_
  clear c0z0 c1z0 c2z0
  rintro e w2 ⟨rfl, bb⟩
  replace bb := nextw (w0 := w1) (by exact sm) bb
  replace B_z0 := mv B_z0 bb
  replace B_z1 := mv B_z1 bb
  replace B_z2 := mv B_z2 bb
  replace L := Lib.hid (KB.below L.out bb)
  replace L2 := Lib.hid (KB.below L2.out bb)
  replace L3 := Lib.hid (KB.below L3.out bb)
  replace HB := nx HB bb
  clear bb
  obtain ⟨c0z1, c1z1, c2z1⟩ := cells3 B_z1
  go_wp2_with fail
  refine (few_yes u v A2 n2 c2 l2 h1.out _ (KB.below L2.out (by exact sm))).mono ?_
  clear c0z1 c1z1 c2z1
  rintro e w3 ⟨rfl, bb⟩
  replace bb := nextw (w0 := w2) (by exact sm) bb
  replace B_z0 := mv B_z0 bb
  replace B_z1 := mv B_z1 bb
  replace B_z2 := mv B_z2 bb
  replace L := Lib.hid (KB.below L.out bb)
  replace L2 := Lib.hid (KB.below L2.out bb)
  replace L3 := Lib.hid (KB.below L3.out bb)
  replace HB := nx HB bb
  clear bb
  obtain ⟨c0z2, c1z2, c2z2⟩ := cells3 B_z2
  go_wp2_with fail
  refine (few_yes s t A3 n3 c3 l3 h2.out _ (KB.below L3.out (by exact sm))).mono ?_
  clear c0z2 c1z2 c2z2
  rintro e w4 ⟨rfl, bb⟩
  replace bb := nextw (w0 := w3) (by exact sm) bb
  replace B_z0 := mv B_z0 bb
  replace B_z1 := mv B_z1 bb
  replace B_z2 := mv B_z2 bb
  replace L := Lib.hid (KB.below L.out bb)
  replace L2 := Lib.hid (KB.below L2.out bb)
  replace L3 := Lib.hid (KB.below L3.out bb)
  replace HB := nx HB bb
  clear bb
  obtain ⟨c0z0, c1z0, c2z0⟩ := cells3 B_z0
  obtain ⟨c0z1, c1z1, c2z1⟩ := cells3 B_z1
  go_wp2_with fail
  refine (Merge_ok p q u v A n c l A2 n2 c2 l2 b0 b1 g.out HMM.out HNM.out _ (KB.below L.out (by exact sm)) (KB.below L2.out (by exact sm))).mono ?_
  clear c0z0 c1z0 c2z0 c0z1 c1z1 c2z1
  rintro e w5 ⟨AM, cM, rfl, LM, bb⟩
  replace bb := nextw (w0 := w4) (by exact sm) bb
  replace B_z0 := mv B_z0 bb
  replace B_z1 := mv B_z1 bb
  replace B_z2 := mv B_z2 bb
  replace L := Lib.hid (KB.below L.out bb)
  replace L2 := Lib.hid (KB.below L2.out bb)
  replace L3 := Lib.hid (KB.below L3.out bb)
  replace HB := nx HB bb
  clear bb
  replace LM := Lib.hid LM
  have lt_z3z0 := B_z0.out.lt
  have lt_z3z1 := B_z1.out.lt
  have lt_z3z2 := B_z2.out.lt
  obtain ⟨bb, B_z3⟩ := box1 w5 24 #[.int .i64 p, .int .i64 q, .slice AM NM cM]
  replace bb := bb.out
  replace B_z0 := mv B_z0 bb
  replace B_z1 := mv B_z1 bb
  replace B_z2 := mv B_z2 bb
  replace L := Lib.hid (KB.below L.out bb)
  replace L2 := Lib.hid (KB.below L2.out bb)
  replace L3 := Lib.hid (KB.below L3.out bb)
  replace LM := Lib.hid (KB.below LM.out bb)
  replace HB := nx HB bb
  clear bb
  go_upto_region 4 with (fail)
  generalize w5.alloc (.cells #[.int .i64 p, .int .i64 q, .slice AM NM cM] 24) = WA at *
  obtain ⟨c0z0, c1z0, c2z0⟩ := cells3 B_z0
  obtain ⟨c0z3, c1z3, c2z3⟩ := cells3 B_z3
  go_wp2_with fail
  refine (Below_yes p q p q A n c l AM NM cM M b0 bM HM1.out _ (KB.below L.out (by exact sm)) (KB.below LM.out (by exact sm))).mono ?_
  clear c0z0 c1z0 c2z0 c0z3 c1z3 c2z3
  rintro e w6 ⟨rfl, bb⟩
  replace bb := nextw (w0 := WA) (by exact sm) bb
  replace B_z0 := mv B_z0 bb
  replace B_z1 := mv B_z1 bb
  replace B_z2 := mv B_z2 bb
  replace B_z3 := mv B_z3 bb
  replace L := Lib.hid (KB.below L.out bb)
  replace L2 := Lib.hid (KB.below L2.out bb)
  replace L3 := Lib.hid (KB.below L3.out bb)
  replace LM := Lib.hid (KB.below LM.out bb)
  replace HB := nx HB bb
  clear bb
  obtain ⟨c0z1, c1z1, c2z1⟩ := cells3 B_z1
  obtain ⟨c0z3, c1z3, c2z3⟩ := cells3 B_z3
  go_wp2_with fail
  refine (Below_yes u v p q A2 n2 c2 l2 AM NM cM M b1 bM HM2.out _ (KB.below L2.out (by exact sm)) (KB.below LM.out (by exact sm))).mono ?_
  clear c0z1 c1z1 c2z1 c0z3 c1z3 c2z3
  rintro e w7 ⟨rfl, bb⟩
  replace bb := nextw (w0 := w6) (by exact sm) bb
  replace B_z0 := mv B_z0 bb
  replace B_z1 := mv B_z1 bb
  replace B_z2 := mv B_z2 bb
  replace B_z3 := mv B_z3 bb
  replace L := Lib.hid (KB.below L.out bb)
  replace L2 := Lib.hid (KB.below L2.out bb)
  replace L3 := Lib.hid (KB.below L3.out bb)
  replace LM := Lib.hid (KB.below LM.out bb)
  replace HB := nx HB bb
  clear bb
  obtain ⟨c0z3, c1z3, c2z3⟩ := cells3 B_z3
  go_wp2_with fail
  refine (Below_yes p q p q AM NM cM M AM NM cM M bM bM HM3.out _ (KB.below LM.out (by exact sm)) (KB.below LM.out (by exact sm))).mono ?_
  clear c0z3 c1z3 c2z3
  rintro e w8 ⟨rfl, bb⟩
  replace bb := nextw (w0 := w7) (by exact sm) bb
  replace B_z0 := mv B_z0 bb
  replace B_z1 := mv B_z1 bb
  replace B_z2 := mv B_z2 bb
  replace B_z3 := mv B_z3 bb
  replace L := Lib.hid (KB.below L.out bb)
  replace L2 := Lib.hid (KB.below L2.out bb)
  replace L3 := Lib.hid (KB.below L3.out bb)
  replace LM := Lib.hid (KB.below LM.out bb)
  replace HB := nx HB bb
  clear bb
  obtain ⟨c0z0, c1z0, c2z0⟩ := cells3 B_z0
  obtain ⟨c0z2, c1z2, c2z2⟩ := cells3 B_z2
  go_wp2_with fail
  refine (Below_yes p q s t A n c l A3 n3 c3 l3 b0 b2 k1.out _ (KB.below L.out (by exact sm)) (KB.below L3.out (by exact sm))).mono ?_
  clear c0z0 c1z0 c2z0 c0z2 c1z2 c2z2
  rintro e w9 ⟨rfl, bb⟩
  replace bb := nextw (w0 := w8) (by exact sm) bb
  replace B_z0 := mv B_z0 bb
  replace B_z1 := mv B_z1 bb
  replace B_z2 := mv B_z2 bb
  replace B_z3 := mv B_z3 bb
  replace L := Lib.hid (KB.below L.out bb)
  replace L2 := Lib.hid (KB.below L2.out bb)
  replace L3 := Lib.hid (KB.below L3.out bb)
  replace LM := Lib.hid (KB.below LM.out bb)
  replace HB := nx HB bb
  clear bb
  obtain ⟨c0z1, c1z1, c2z1⟩ := cells3 B_z1
  obtain ⟨c0z2, c1z2, c2z2⟩ := cells3 B_z2
  go_wp2_with fail
  refine (Below_no u v s t A2 n2 c2 l2 A3 n3 c3 l3 b1 b2 k2.out _ (KB.below L2.out (by exact sm)) (KB.below L3.out (by exact sm))).mono ?_
  clear c0z1 c1z1 c2z1 c0z2 c1z2 c2z2
  rintro e w10 ⟨rfl, bb⟩
  replace bb := nextw (w0 := w9) (by exact sm) bb
  replace B_z0 := mv B_z0 bb
  replace B_z1 := mv B_z1 bb
  replace B_z2 := mv B_z2 bb
  replace B_z3 := mv B_z3 bb
  replace L := Lib.hid (KB.below L.out bb)
  replace L2 := Lib.hid (KB.below L2.out bb)
  replace L3 := Lib.hid (KB.below L3.out bb)
  replace LM := Lib.hid (KB.below LM.out bb)
  replace HB := nx HB bb
  clear bb
  obtain ⟨c0z1, c1z1, c2z1⟩ := cells3 B_z1
  obtain ⟨c0z2, c1z2, c2z2⟩ := cells3 B_z2
  go_wp2_with fail
  refine (Merge_ok u v s t A2 n2 c2 l2 A3 n3 c3 l3 b1 b2 g2.out HQQ.out HNQ.out _ (KB.below L2.out (by exact sm)) (KB.below L3.out (by exact sm))).mono ?_
  clear c0z1 c1z1 c2z1 c0z2 c1z2 c2z2
  rintro e w11 ⟨AQ, cQ, rfl, LQ, bb⟩
  replace bb := nextw (w0 := w10) (by exact sm) bb
  replace B_z0 := mv B_z0 bb
  replace B_z1 := mv B_z1 bb
  replace B_z2 := mv B_z2 bb
  replace B_z3 := mv B_z3 bb
  replace L := Lib.hid (KB.below L.out bb)
  replace L2 := Lib.hid (KB.below L2.out bb)
  replace L3 := Lib.hid (KB.below L3.out bb)
  replace LM := Lib.hid (KB.below LM.out bb)
  replace HB := nx HB bb
  clear bb
  replace LQ := Lib.hid LQ
  have lt_z4z0 := B_z0.out.lt
  have lt_z4z1 := B_z1.out.lt
  have lt_z4z2 := B_z2.out.lt
  have lt_z4z3 := B_z3.out.lt
  obtain ⟨bb, B_z4⟩ := box1 w11 24 #[.int .i64 u, .int .i64 v, .slice AQ NQ cQ]
  replace bb := bb.out
  replace B_z0 := mv B_z0 bb
  replace B_z1 := mv B_z1 bb
  replace B_z2 := mv B_z2 bb
  replace B_z3 := mv B_z3 bb
  replace L := Lib.hid (KB.below L.out bb)
  replace L2 := Lib.hid (KB.below L2.out bb)
  replace L3 := Lib.hid (KB.below L3.out bb)
  replace LM := Lib.hid (KB.below LM.out bb)
  replace LQ := Lib.hid (KB.below LQ.out bb)
  replace HB := nx HB bb
  clear bb
  go_upto_region 9 with (fail)
  generalize w11.alloc (.cells #[.int .i64 u, .int .i64 v, .slice AQ NQ cQ] 24) = WB at *
  obtain ⟨c0z3, c1z3, c2z3⟩ := cells3 B_z3
  obtain ⟨c0z2, c1z2, c2z2⟩ := cells3 B_z2
  go_wp2_with fail
  refine (Merge_nm p q s t AM NM cM M A3 n3 c3 l3 bM b2 HA1.out HA3.out HA4.out HA2.out HNX.out _ (KB.below LM.out (by exact sm)) (KB.below L3.out (by exact sm))).mono ?_
  clear c0z3 c1z3 c2z3 c0z2 c1z2 c2z2
  rintro e w12 ⟨A5, c5, rfl, L5, bb⟩
  replace bb := nextw (w0 := WB) (by exact sm) bb
  replace B_z0 := mv B_z0 bb
  replace B_z1 := mv B_z1 bb
  replace B_z2 := mv B_z2 bb
  replace B_z3 := mv B_z3 bb
  replace B_z4 := mv B_z4 bb
  replace L := Lib.hid (KB.below L.out bb)
  replace L2 := Lib.hid (KB.below L2.out bb)
  replace L3 := Lib.hid (KB.below L3.out bb)
  replace LM := Lib.hid (KB.below LM.out bb)
  replace LQ := Lib.hid (KB.below LQ.out bb)
  replace HB := nx HB bb
  clear bb
  replace L5 := Lib.hid L5
  have lt_z5z0 := B_z0.out.lt
  have lt_z5z1 := B_z1.out.lt
  have lt_z5z2 := B_z2.out.lt
  have lt_z5z3 := B_z3.out.lt
  have lt_z5z4 := B_z4.out.lt
  obtain ⟨bb, B_z5⟩ := box1 w12 24 #[.int .i64 XP, .int .i64 XQ, .slice A5 NX c5]
  replace bb := bb.out
  replace B_z0 := mv B_z0 bb
  replace B_z1 := mv B_z1 bb
  replace B_z2 := mv B_z2 bb
  replace B_z3 := mv B_z3 bb
  replace B_z4 := mv B_z4 bb
  replace L := Lib.hid (KB.below L.out bb)
  replace L2 := Lib.hid (KB.below L2.out bb)
  replace L3 := Lib.hid (KB.below L3.out bb)
  replace LM := Lib.hid (KB.below LM.out bb)
  replace LQ := Lib.hid (KB.below LQ.out bb)
  replace L5 := Lib.hid (KB.below L5.out bb)
  replace HB := nx HB bb
  clear bb
  go_upto_region 12 with (fail)
  generalize w12.alloc (.cells #[.int .i64 XP, .int .i64 XQ, .slice A5 NX c5] 24) = WD at *
  obtain ⟨c0z0, c1z0, c2z0⟩ := cells3 B_z0
  obtain ⟨c0z4, c1z4, c2z4⟩ := cells3 B_z4
  go_wp2_with fail
  refine (Merge_nm p q u v A n c l AQ NQ cQ Q b0 bQ HE5.out HXP.out HXQ.out HXM.out HNX.out _ (KB.below L.out (by exact sm)) (KB.below LQ.out (by exact sm))).mono ?_
  clear c0z0 c1z0 c2z0 c0z4 c1z4 c2z4
  rintro e w13 ⟨A6, c6, rfl, L6, bb⟩
  replace bb := nextw (w0 := WD) (by exact sm) bb
  replace B_z0 := mv B_z0 bb
  replace B_z1 := mv B_z1 bb
  replace B_z2 := mv B_z2 bb
  replace B_z3 := mv B_z3 bb
  replace B_z4 := mv B_z4 bb
  replace B_z5 := mv B_z5 bb
  replace L := Lib.hid (KB.below L.out bb)
  replace L2 := Lib.hid (KB.below L2.out bb)
  replace L3 := Lib.hid (KB.below L3.out bb)
  replace LM := Lib.hid (KB.below LM.out bb)
  replace LQ := Lib.hid (KB.below LQ.out bb)
  replace L5 := Lib.hid (KB.below L5.out bb)
  replace HB := nx HB bb
  clear bb
  replace L6 := Lib.hid L6
  have lt_z6z0 := B_z0.out.lt
  have lt_z6z1 := B_z1.out.lt
  have lt_z6z2 := B_z2.out.lt
  have lt_z6z3 := B_z3.out.lt
  have lt_z6z4 := B_z4.out.lt
  have lt_z6z5 := B_z5.out.lt
  obtain ⟨bb, B_z6⟩ := box1 w13 24 #[.int .i64 XP, .int .i64 XQ, .slice A6 NX c6]
  replace bb := bb.out
  replace B_z0 := mv B_z0 bb
  replace B_z1 := mv B_z1 bb
  replace B_z2 := mv B_z2 bb
  replace B_z3 := mv B_z3 bb
  replace B_z4 := mv B_z4 bb
  replace B_z5 := mv B_z5 bb
  replace L := Lib.hid (KB.below L.out bb)
  replace L2 := Lib.hid (KB.below L2.out bb)
  replace L3 := Lib.hid (KB.below L3.out bb)
  replace LM := Lib.hid (KB.below LM.out bb)
  replace LQ := Lib.hid (KB.below LQ.out bb)
  replace L5 := Lib.hid (KB.below L5.out bb)
  replace L6 := Lib.hid (KB.below L6.out bb)
  replace HB := nx HB bb
  clear bb
  go_upto_region 13 with (fail)
  generalize w13.alloc (.cells #[.int .i64 XP, .int .i64 XQ, .slice A6 NX c6] 24) = WF at *
  obtain ⟨c0z5, c1z5, c2z5⟩ := cells3 B_z5
  obtain ⟨c0z6, c1z6, c2z6⟩ := cells3 B_z6
  go_wp2_with fail
  refine (Plans_same XP XQ A5 NX c5 A6 NX c6 XM _ (KB.below L5.out (by exact sm)) (KB.below L6.out (by exact sm))).mono ?_
  clear c0z5 c1z5 c2z5 c0z6 c1z6 c2z6
  rintro e w14 ⟨rfl, bb⟩
  replace bb := nextw (w0 := WF) (by exact sm) bb
  replace B_z0 := mv B_z0 bb
  replace B_z1 := mv B_z1 bb
  replace B_z2 := mv B_z2 bb
  replace B_z3 := mv B_z3 bb
  replace B_z4 := mv B_z4 bb
  replace B_z5 := mv B_z5 bb
  replace B_z6 := mv B_z6 bb
  replace L := Lib.hid (KB.below L.out bb)
  replace L2 := Lib.hid (KB.below L2.out bb)
  replace L3 := Lib.hid (KB.below L3.out bb)
  replace LM := Lib.hid (KB.below LM.out bb)
  replace LQ := Lib.hid (KB.below LQ.out bb)
  replace L5 := Lib.hid (KB.below L5.out bb)
  replace L6 := Lib.hid (KB.below L6.out bb)
  replace HB := nx HB bb
  clear bb
  go_wp2
  go_ret
  exact ⟨rfl, nextw HB.out (by exact sm)⟩

set_option maxRecDepth 100000 in
set_option maxHeartbeats 4000000 in
theorem LLeast_yy0 (p q u v s t : Int) (A : Option Addr) (n c : Nat) (l : List Int) (A2 : Option Addr) (n2 c2 : Nat) (l2 : List Int) (A3 : Option Addr) (n3 c3 : Nat) (l3 : List Int) (h0 : ((n : Nat) : Int) ≤ 5000) (h1 : ((n2 : Nat) : Int) ≤ 5000) (h2 : ((n3 : Nat) : Int) ≤ 5000) (g : mgE p q l u v l2 = 0) (k1 : BelP p q l s t l3) (k2 : BelP u v l2 s t l3) (g2 : mgE u v l2 s t l3 ≠ 0) (w : World) {lo hi lo2 hi2 lo3 hi3 : Nat} (L : KB w lo hi A n c l) (L2 : KB w lo2 hi2 A2 n2 c2 l2) (L3 : KB w lo3 hi3 A3 n3 c3 l3) :
    Calls Try.prog 12 #[.agg #[.int .i64 p, .int .i64 q, .slice A n c], .agg #[.int .i64 u, .int .i64 v, .slice A2 n2 c2], .agg #[.int .i64 s, .int .i64 t, .slice A3 n3 c3]] w fun e w' => e = .returned (.bool true) ∧ Below w.heap.size w w' := by
  have b0 : n ≤ 1000000 := by omega
  have b1 : n2 ≤ 1000000 := by omega
  have b2 : n3 ≤ 1000000 := by omega
  replace h0 := Lib.hid h0
  replace h1 := Lib.hid h1
  replace h2 := Lib.hid h2
  have HM1 := Lib.hid (bel_l g)
  have HM2 := Lib.hid (bel_r g)
  have HM3 := Lib.hid (bel_self (okp_mg (mgE_al g).1 l.length))
  have HM4 := Lib.hid (bel_lub g k1 k2)
  have hMl := mgK_len l l2 l.length
  obtain ⟨M, hM⟩ : ∃ M, mgK l l2 l.length = M := ⟨_, rfl⟩
  rw [hM] at HM1 HM2 HM3 hMl HM4
  obtain ⟨NM, hNM⟩ : ∃ N, M.length = N := ⟨_, rfl⟩
  have hln := L.len
  have bM : NM ≤ 1000000 := by omega
  have HMM := Lib.hid hM
  have HNM := Lib.hid hNM
  clear hM hNM hMl hln
  replace g := Lib.hid g
  replace k1 := Lib.hid k1
  replace k2 := Lib.hid k2
  replace g2 := Lib.hid g2
  replace L := Lib.hid L
  replace L2 := Lib.hid L2
  replace L3 := Lib.hid L3
  obtain ⟨HB, B_z0, B_z1, B_z2⟩ := box3 w 24 #[.int .i64 p, .int .i64 q, .slice A n c] 24 #[.int .i64 u, .int .i64 v, .slice A2 n2 c2] 24 #[.int .i64 s, .int .i64 t, .slice A3 n3 c3]
  replace L := Lib.hid (KB.below L.out HB.out)
  replace L2 := Lib.hid (KB.below L2.out HB.out)
  replace L3 := Lib.hid (KB.below L3.out HB.out)
  go_enter Try.func12, Try.ntmps12
  go_wp2_with fail
  generalize ((w.alloc (.cells #[.int .i64 p, .int .i64 q, .slice A n c] 24)).alloc (.cells #[.int .i64 u, .int .i64 v, .slice A2 n2 c2] 24)).alloc (.cells #[.int .i64 s, .int .i64 t, .slice A3 n3 c3] 24) = W0 at *
  go_wp2_with fail
  refine (awake_is _).mono ?_
  rintro e w1 ⟨rfl, bb⟩
  replace bb := nextw (w0 := W0) (by exact sm) bb
  replace B_z0 := mv B_z0 bb
  replace B_z1 := mv B_z1 bb
  replace B_z2 := mv B_z2 bb
  replace L := Lib.hid (KB.below L.out bb)
  replace L2 := Lib.hid (KB.below L2.out bb)
  replace L3 := Lib.hid (KB.below L3.out bb)
  replace HB := nx HB bb
  clear bb
  obtain ⟨c0z0, c1z0, c2z0⟩ := cells3 B_z0
  go_wp2_with fail
  refine (few_yes p q A n c l h0.out _ (KB.below L.out (by exact sm))).mono ?_
  clear c0z0 c1z0 c2z0
  rintro e w2 ⟨rfl, bb⟩
  replace bb := nextw (w0 := w1) (by exact sm) bb
  replace B_z0 := mv B_z0 bb
  replace B_z1 := mv B_z1 bb
  replace B_z2 := mv B_z2 bb
  replace L := Lib.hid (KB.below L.out bb)
  replace L2 := Lib.hid (KB.below L2.out bb)
  replace L3 := Lib.hid (KB.below L3.out bb)
  replace HB := nx HB bb
  clear bb
  obtain ⟨c0z1, c1z1, c2z1⟩ := cells3 B_z1
  go_wp2_with fail
  refine (few_yes u v A2 n2 c2 l2 h1.out _ (KB.below L2.out (by exact sm))).mono ?_
  clear c0z1 c1z1 c2z1
  rintro e w3 ⟨rfl, bb⟩
  replace bb := nextw (w0 := w2) (by exact sm) bb
  replace B_z0 := mv B_z0 bb
  replace B_z1 := mv B_z1 bb
  replace B_z2 := mv B_z2 bb
  replace L := Lib.hid (KB.below L.out bb)
  replace L2 := Lib.hid (KB.below L2.out bb)
  replace L3 := Lib.hid (KB.below L3.out bb)
  replace HB := nx HB bb
  clear bb
  obtain ⟨c0z2, c1z2, c2z2⟩ := cells3 B_z2
  go_wp2_with fail
  refine (few_yes s t A3 n3 c3 l3 h2.out _ (KB.below L3.out (by exact sm))).mono ?_
  clear c0z2 c1z2 c2z2
  rintro e w4 ⟨rfl, bb⟩
  replace bb := nextw (w0 := w3) (by exact sm) bb
  replace B_z0 := mv B_z0 bb
  replace B_z1 := mv B_z1 bb
  replace B_z2 := mv B_z2 bb
  replace L := Lib.hid (KB.below L.out bb)
  replace L2 := Lib.hid (KB.below L2.out bb)
  replace L3 := Lib.hid (KB.below L3.out bb)
  replace HB := nx HB bb
  clear bb
  obtain ⟨c0z0, c1z0, c2z0⟩ := cells3 B_z0
  obtain ⟨c0z1, c1z1, c2z1⟩ := cells3 B_z1
  go_wp2_with fail
  refine (Merge_ok p q u v A n c l A2 n2 c2 l2 b0 b1 g.out HMM.out HNM.out _ (KB.below L.out (by exact sm)) (KB.below L2.out (by exact sm))).mono ?_
  clear c0z0 c1z0 c2z0 c0z1 c1z1 c2z1
  rintro e w5 ⟨AM, cM, rfl, LM, bb⟩
  replace bb := nextw (w0 := w4) (by exact sm) bb
  replace B_z0 := mv B_z0 bb
  replace B_z1 := mv B_z1 bb
  replace B_z2 := mv B_z2 bb
  replace L := Lib.hid (KB.below L.out bb)
  replace L2 := Lib.hid (KB.below L2.out bb)
  replace L3 := Lib.hid (KB.below L3.out bb)
  replace HB := nx HB bb
  clear bb
  replace LM := Lib.hid LM
  have lt_z3z0 := B_z0.out.lt
  have lt_z3z1 := B_z1.out.lt
  have lt_z3z2 := B_z2.out.lt
  obtain ⟨bb, B_z3⟩ := box1 w5 24 #[.int .i64 p, .int .i64 q, .slice AM NM cM]
  replace bb := bb.out
  replace B_z0 := mv B_z0 bb
  replace B_z1 := mv B_z1 bb
  replace B_z2 := mv B_z2 bb
  replace L := Lib.hid (KB.below L.out bb)
  replace L2 := Lib.hid (KB.below L2.out bb)
  replace L3 := Lib.hid (KB.below L3.out bb)
  replace LM := Lib.hid (KB.below LM.out bb)
  replace HB := nx HB bb
  clear bb
  go_upto_region 4 with (fail)
  generalize w5.alloc (.cells #[.int .i64 p, .int .i64 q, .slice AM NM cM] 24) = WA at *
  obtain ⟨c0z0, c1z0, c2z0⟩ := cells3 B_z0
  obtain ⟨c0z3, c1z3, c2z3⟩ := cells3 B_z3
  go_wp2_with fail
  refine (Below_yes p q p q A n c l AM NM cM M b0 bM HM1.out _ (KB.below L.out (by exact sm)) (KB.below LM.out (by exact sm))).mono ?_
  clear c0z0 c1z0 c2z0 c0z3 c1z3 c2z3
  rintro e w6 ⟨rfl, bb⟩
  replace bb := nextw (w0 := WA) (by exact sm) bb
  replace B_z0 := mv B_z0 bb
  replace B_z1 := mv B_z1 bb
  replace B_z2 := mv B_z2 bb
  replace B_z3 := mv B_z3 bb
  replace L := Lib.hid (KB.below L.out bb)
  replace L2 := Lib.hid (KB.below L2.out bb)
  replace L3 := Lib.hid (KB.below L3.out bb)
  replace LM := Lib.hid (KB.below LM.out bb)
  replace HB := nx HB bb
  clear bb
  obtain ⟨c0z1, c1z1, c2z1⟩ := cells3 B_z1
  obtain ⟨c0z3, c1z3, c2z3⟩ := cells3 B_z3
  go_wp2_with fail
  refine (Below_yes u v p q A2 n2 c2 l2 AM NM cM M b1 bM HM2.out _ (KB.below L2.out (by exact sm)) (KB.below LM.out (by exact sm))).mono ?_
  clear c0z1 c1z1 c2z1 c0z3 c1z3 c2z3
  rintro e w7 ⟨rfl, bb⟩
  replace bb := nextw (w0 := w6) (by exact sm) bb
  replace B_z0 := mv B_z0 bb
  replace B_z1 := mv B_z1 bb
  replace B_z2 := mv B_z2 bb
  replace B_z3 := mv B_z3 bb
  replace L := Lib.hid (KB.below L.out bb)
  replace L2 := Lib.hid (KB.below L2.out bb)
  replace L3 := Lib.hid (KB.below L3.out bb)
  replace LM := Lib.hid (KB.below LM.out bb)
  replace HB := nx HB bb
  clear bb
  obtain ⟨c0z3, c1z3, c2z3⟩ := cells3 B_z3
  go_wp2_with fail
  refine (Below_yes p q p q AM NM cM M AM NM cM M bM bM HM3.out _ (KB.below LM.out (by exact sm)) (KB.below LM.out (by exact sm))).mono ?_
  clear c0z3 c1z3 c2z3
  rintro e w8 ⟨rfl, bb⟩
  replace bb := nextw (w0 := w7) (by exact sm) bb
  replace B_z0 := mv B_z0 bb
  replace B_z1 := mv B_z1 bb
  replace B_z2 := mv B_z2 bb
  replace B_z3 := mv B_z3 bb
  replace L := Lib.hid (KB.below L.out bb)
  replace L2 := Lib.hid (KB.below L2.out bb)
  replace L3 := Lib.hid (KB.below L3.out bb)
  replace LM := Lib.hid (KB.below LM.out bb)
  replace HB := nx HB bb
  clear bb
  obtain ⟨c0z0, c1z0, c2z0⟩ := cells3 B_z0
  obtain ⟨c0z2, c1z2, c2z2⟩ := cells3 B_z2
  go_wp2_with fail
  refine (Below_yes p q s t A n c l A3 n3 c3 l3 b0 b2 k1.out _ (KB.below L.out (by exact sm)) (KB.below L3.out (by exact sm))).mono ?_
  clear c0z0 c1z0 c2z0 c0z2 c1z2 c2z2
  rintro e w9 ⟨rfl, bb⟩
  replace bb := nextw (w0 := w8) (by exact sm) bb
  replace B_z0 := mv B_z0 bb
  replace B_z1 := mv B_z1 bb
  replace B_z2 := mv B_z2 bb
  replace B_z3 := mv B_z3 bb
  replace L := Lib.hid (KB.below L.out bb)
  replace L2 := Lib.hid (KB.below L2.out bb)
  replace L3 := Lib.hid (KB.below L3.out bb)
  replace LM := Lib.hid (KB.below LM.out bb)
  replace HB := nx HB bb
  clear bb
  obtain ⟨c0z1, c1z1, c2z1⟩ := cells3 B_z1
  obtain ⟨c0z2, c1z2, c2z2⟩ := cells3 B_z2
  go_wp2_with fail
  refine (Below_yes u v s t A2 n2 c2 l2 A3 n3 c3 l3 b1 b2 k2.out _ (KB.below L2.out (by exact sm)) (KB.below L3.out (by exact sm))).mono ?_
  clear c0z1 c1z1 c2z1 c0z2 c1z2 c2z2
  rintro e w10 ⟨rfl, bb⟩
  replace bb := nextw (w0 := w9) (by exact sm) bb
  replace B_z0 := mv B_z0 bb
  replace B_z1 := mv B_z1 bb
  replace B_z2 := mv B_z2 bb
  replace B_z3 := mv B_z3 bb
  replace L := Lib.hid (KB.below L.out bb)
  replace L2 := Lib.hid (KB.below L2.out bb)
  replace L3 := Lib.hid (KB.below L3.out bb)
  replace LM := Lib.hid (KB.below LM.out bb)
  replace HB := nx HB bb
  clear bb
  obtain ⟨c0z3, c1z3, c2z3⟩ := cells3 B_z3
  obtain ⟨c0z2, c1z2, c2z2⟩ := cells3 B_z2
  go_wp2_with fail
  refine (Below_yes p q s t AM NM cM M A3 n3 c3 l3 bM b2 HM4.out _ (KB.below LM.out (by exact sm)) (KB.below L3.out (by exact sm))).mono ?_
  clear c0z3 c1z3 c2z3 c0z2 c1z2 c2z2
  rintro e w11 ⟨rfl, bb⟩
  replace bb := nextw (w0 := w10) (by exact sm) bb
  replace B_z0 := mv B_z0 bb
  replace B_z1 := mv B_z1 bb
  replace B_z2 := mv B_z2 bb
  replace B_z3 := mv B_z3 bb
  replace L := Lib.hid (KB.below L.out bb)
  replace L2 := Lib.hid (KB.below L2.out bb)
  replace L3 := Lib.hid (KB.below L3.out bb)
  replace LM := Lib.hid (KB.below LM.out bb)
  replace HB := nx HB bb
  clear bb
  obtain ⟨c0z1, c1z1, c2z1⟩ := cells3 B_z1
  obtain ⟨c0z2, c1z2, c2z2⟩ := cells3 B_z2
  go_wp2_with fail
  refine (Merge_bad u v s t A2 n2 c2 l2 A3 n3 c3 l3 b1 b2 g2.out _ (KB.below L2.out (by exact sm)) (KB.below L3.out (by exact sm))).mono ?_
  clear c0z1 c1z1 c2z1 c0z2 c1z2 c2z2
  rintro e w12 ⟨E2, AE2, cE2, hE2, rfl, bb⟩
  replace bb := nextw (w0 := w11) (by exact sm) bb
  replace B_z0 := mv B_z0 bb
  replace B_z1 := mv B_z1 bb
  replace B_z2 := mv B_z2 bb
  replace B_z3 := mv B_z3 bb
  replace L := Lib.hid (KB.below L.out bb)
  replace L2 := Lib.hid (KB.below L2.out bb)
  replace L3 := Lib.hid (KB.below L3.out bb)
  replace LM := Lib.hid (KB.below LM.out bb)
  replace HB := nx HB bb
  clear bb
  have hEb2 : (E2 == 0) = false := decide_eq_false hE2
  have hEc2 : (E2 != 0) = true := by rw [bne, hEb2]; rfl
  replace hE2 := Lib.hid hE2
  have lt_z4z0 := B_z0.out.lt
  have lt_z4z1 := B_z1.out.lt
  have lt_z4z2 := B_z2.out.lt
  have lt_z4z3 := B_z3.out.lt
  obtain ⟨bb, B_z4⟩ := box1 w12 24 #[.int .i64 0, .int .i64 0, .slice AE2 0 cE2]
  replace bb := bb.out
  replace B_z0 := mv B_z0 bb
  replace B_z1 := mv B_z1 bb
  replace B_z2 := mv B_z2 bb
  replace B_z3 := mv B_z3 bb
  replace L := Lib.hid (KB.below L.out bb)
  replace L2 := Lib.hid (KB.below L2.out bb)
  replace L3 := Lib.hid (KB.below L3.out bb)
  replace LM := Lib.hid (KB.below LM.out bb)
  replace HB := nx HB bb
  clear bb
  go_upto_region 9 with (fail)
  generalize w12.alloc (.cells #[.int .i64 0, .int .i64 0, .slice AE2 0 cE2] 24) = WB at *
  obtain ⟨c0z4, c1z4, c2z4⟩ := cells3 B_z4
  go_wp2
  go_ret
  exact ⟨rfl, nextw HB.out (by exact sm)⟩

set_option maxRecDepth 100000 in
set_option maxHeartbeats 4000000 in
theorem LLeast_yy1 (p q u v s t : Int) (A : Option Addr) (n c : Nat) (l : List Int) (A2 : Option Addr) (n2 c2 : Nat) (l2 : List Int) (A3 : Option Addr) (n3 c3 : Nat) (l3 : List Int) (h0 : ((n : Nat) : Int) ≤ 5000) (h1 : ((n2 : Nat) : Int) ≤ 5000) (h2 : ((n3 : Nat) : Int) ≤ 5000) (g : mgE p q l u v l2 = 0) (k1 : BelP p q l s t l3) (k2 : BelP u v l2 s t l3) (g2 : mgE u v l2 s t l3 = 0) (w : World) {lo hi lo2 hi2 lo3 hi3 : Nat} (L : KB w lo hi A n c l) (L2 : KB w lo2 hi2 A2 n2 c2 l2) (L3 : KB w lo3 hi3 A3 n3 c3 l3) :
    Calls Try.prog 12 #[.agg #[.int .i64 p, .int .i64 q, .slice A n c], .agg #[.int .i64 u, .int .i64 v, .slice A2 n2 c2], .agg #[.int .i64 s, .int .i64 t, .slice A3 n3 c3]] w fun e w' => e = .returned (.bool true) ∧ Below w.heap.size w w' := by
  have b0 : n ≤ 1000000 := by omega
  have b1 : n2 ≤ 1000000 := by omega
  have b2 : n3 ≤ 1000000 := by omega
  replace h0 := Lib.hid h0
  replace h1 := Lib.hid h1
  replace h2 := Lib.hid h2
  have HM1 := Lib.hid (bel_l g)
  have HM2 := Lib.hid (bel_r g)
  have HM3 := Lib.hid (bel_self (okp_mg (mgE_al g).1 l.length))
  have HM4 := Lib.hid (bel_lub g k1 k2)
  have EA := mg_assoc g g2
  have EX1 := mg_assocX g g2 p
  have EX2 := mg_assocX g g2 q
  have hMl := mgK_len l l2 l.length
  obtain ⟨M, hM⟩ : ∃ M, mgK l l2 l.length = M := ⟨_, rfl⟩
  rw [hM] at HM1 HM2 HM3 hMl HM4 EA EX1 EX2
  obtain ⟨NM, hNM⟩ : ∃ N, M.length = N := ⟨_, rfl⟩
  have hln := L.len
  have bM : NM ≤ 1000000 := by omega
  have HMM := Lib.hid hM
  have HNM := Lib.hid hNM
  clear hM hNM hMl hln
  replace g := Lib.hid g
  replace k1 := Lib.hid k1
  replace k2 := Lib.hid k2
  replace g2 := Lib.hid g2
  have hQl := mgK_len l2 l3 l2.length
  have hln2 := L2.len
  obtain ⟨Q, hQ⟩ : ∃ Q, mgK l2 l3 l2.length = Q := ⟨_, rfl⟩
  rw [hQ] at EA EX1 EX2 hQl
  obtain ⟨NQ, hNQ⟩ : ∃ N, Q.length = N := ⟨_, rfl⟩
  have bQ : NQ ≤ 1000000 := by omega
  have HQQ := Lib.hid hQ
  have HNQ := Lib.hid hNQ
  clear hQ hNQ hQl hln2
  obtain ⟨E5, hE5⟩ : ∃ e, mgE p q l u v Q = e := ⟨_, rfl⟩
  obtain ⟨XP, hXP⟩ : ∃ e, mgX p q l u v Q p = e := ⟨_, rfl⟩
  obtain ⟨XQ, hXQ⟩ : ∃ e, mgX p q l u v Q q = e := ⟨_, rfl⟩
  obtain ⟨XM, hXM⟩ : ∃ e, mgV p q l u v Q = e := ⟨_, rfl⟩
  obtain ⟨NX, hNX⟩ : ∃ N, XM.length = N := ⟨_, rfl⟩
  rw [hE5, hXM] at EA
  rw [hXP] at EX1
  rw [hXQ] at EX2
  have HE5 := Lib.hid hE5
  have HXP := Lib.hid hXP
  have HXQ := Lib.hid hXQ
  have HXM := Lib.hid hXM
  have HNX := Lib.hid hNX
  have HA1 := Lib.hid EA.1
  have HA2 := Lib.hid EA.2
  have HA3 := Lib.hid EX1
  have HA4 := Lib.hid EX2
  clear hE5 hXP hXQ hXM hNX EA EX1 EX2
  replace L := Lib.hid L
  replace L2 := Lib.hid L2
  replace L3 := Lib.hid L3
  obtain ⟨HB, B_z0, B_z1, B_z2⟩ := box3 w 24 #[.int .i64 p, .int .i64 q, .slice A n c] 24 #[.int .i64 u, .int .i64 v, .slice A2 n2 c2] 24 #[.int .i64 s, .int .i64 t, .slice A3 n3 c3]
  replace L := Lib.hid (KB.below L.out HB.out)
  replace L2 := Lib.hid (KB.below L2.out HB.out)
  replace L3 := Lib.hid (KB.below L3.out HB.out)
  go_enter Try.func12, Try.ntmps12
  go_wp2_with fail
  generalize ((w.alloc (.cells #[.int .i64 p, .int .i64 q, .slice A n c] 24)).alloc (.cells #[.int .i64 u, .int .i64 v, .slice A2 n2 c2] 24)).alloc (.cells #[.int .i64 s, .int .i64 t, .slice A3 n3 c3] 24) = W0 at *
  go_wp2_with fail
  refine (awake_is _).mono ?_
  rintro e w1 ⟨rfl, bb⟩
  replace bb := nextw (w0 := W0) (by exact sm) bb
  replace B_z0 := mv B_z0 bb
  replace B_z1 := mv B_z1 bb
  replace B_z2 := mv B_z2 bb
  replace L := Lib.hid (KB.below L.out bb)
  replace L2 := Lib.hid (KB.below L2.out bb)
  replace L3 := Lib.hid (KB.below L3.out bb)
  replace HB := nx HB bb
  clear bb
  obtain ⟨c0z0, c1z0, c2z0⟩ := cells3 B_z0
  go_wp2_with fail
  refine (few_yes p q A n c l h0.out _ (KB.below L.out (by exact sm))).mono ?_
  clear c0z0 c1z0 c2z0
  rintro e w2 ⟨rfl, bb⟩
  replace bb := nextw (w0 := w1) (by exact sm) bb
  replace B_z0 := mv B_z0 bb
  replace B_z1 := mv B_z1 bb
  replace B_z2 := mv B_z2 bb
  replace L := Lib.hid (KB.below L.out bb)
  replace L2 := Lib.hid (KB.below L2.out bb)
  replace L3 := Lib.hid (KB.below L3.out bb)
  replace HB := nx HB bb
  clear bb
  obtain ⟨c0z1, c1z1, c2z1⟩ := cells3 B_z1
  go_wp2_with fail
  refine (few_yes u v A2 n2 c2 l2 h1.out _ (KB.below L2.out (by exact sm))).mono ?_
  clear c0z1 c1z1 c2z1
  rintro e w3 ⟨rfl, bb⟩
  replace bb := nextw (w0 := w2) (by exact sm) bb
  replace B_z0 := mv B_z0 bb
  replace B_z1 := mv B_z1 bb
  replace B_z2 := mv B_z2 bb
  replace L := Lib.hid (KB.below L.out bb)
  replace L2 := Lib.hid (KB.below L2.out bb)
  replace L3 := Lib.hid (KB.below L3.out bb)
  replace HB := nx HB bb
  clear bb
  obtain ⟨c0z2, c1z2, c2z2⟩ := cells3 B_z2
  go_wp2_with fail
  refine (few_yes s t A3 n3 c3 l3 h2.out _ (KB.below L3.out (by exact sm))).mono ?_
  clear c0z2 c1z2 c2z2
  rintro e w4 ⟨rfl, bb⟩
  replace bb := nextw (w0 := w3) (by exact sm) bb
  replace B_z0 := mv B_z0 bb
  replace B_z1 := mv B_z1 bb
  replace B_z2 := mv B_z2 bb
  replace L := Lib.hid (KB.below L.out bb)
  replace L2 := Lib.hid (KB.below L2.out bb)
  replace L3 := Lib.hid (KB.below L3.out bb)
  replace HB := nx HB bb
  clear bb
  obtain ⟨c0z0, c1z0, c2z0⟩ := cells3 B_z0
  obtain ⟨c0z1, c1z1, c2z1⟩ := cells3 B_z1
  go_wp2_with fail
  refine (Merge_ok p q u v A n c l A2 n2 c2 l2 b0 b1 g.out HMM.out HNM.out _ (KB.below L.out (by exact sm)) (KB.below L2.out (by exact sm))).mono ?_
  clear c0z0 c1z0 c2z0 c0z1 c1z1 c2z1
  rintro e w5 ⟨AM, cM, rfl, LM, bb⟩
  replace bb := nextw (w0 := w4) (by exact sm) bb
  replace B_z0 := mv B_z0 bb
  replace B_z1 := mv B_z1 bb
  replace B_z2 := mv B_z2 bb
  replace L := Lib.hid (KB.below L.out bb)
  replace L2 := Lib.hid (KB.below L2.out bb)
  replace L3 := Lib.hid (KB.below L3.out bb)
  replace HB := nx HB bb
  clear bb
  replace LM := Lib.hid LM
  have lt_z3z0 := B_z0.out.lt
  have lt_z3z1 := B_z1.out.lt
  have lt_z3z2 := B_z2.out.lt
  obtain ⟨bb, B_z3⟩ := box1 w5 24 #[.int .i64 p, .int .i64 q, .slice AM NM cM]
  replace bb := bb.out
  replace B_z0 := mv B_z0 bb
  replace B_z1 := mv B_z1 bb
  replace B_z2 := mv B_z2 bb
  replace L := Lib.hid (KB.below L.out bb)
  replace L2 := Lib.hid (KB.below L2.out bb)
  replace L3 := Lib.hid (KB.below L3.out bb)
  replace LM := Lib.hid (KB.below LM.out bb)
  replace HB := nx HB bb
  clear bb
  go_upto_region 4 with (fail)
  generalize w5.alloc (.cells #[.int .i64 p, .int .i64 q, .slice AM NM cM] 24) = WA at *
  obtain ⟨c0z0, c1z0, c2z0⟩ := cells3 B_z0
  obtain ⟨c0z3, c1z3, c2z3⟩ := cells3 B_z3
  go_wp2_with fail
  refine (Below_yes p q p q A n c l AM NM cM M b0 bM HM1.out _ (KB.below L.out (by exact sm)) (KB.below LM.out (by exact sm))).mono ?_
  clear c0z0 c1z0 c2z0 c0z3 c1z3 c2z3
  rintro e w6 ⟨rfl, bb⟩
  replace bb := nextw (w0 := WA) (by exact sm) bb
  replace B_z0 := mv B_z0 bb
  replace B_z1 := mv B_z1 bb
  replace B_z2 := mv B_z2 bb
  replace B_z3 := mv B_z3 bb
  replace L := Lib.hid (KB.below L.out bb)
  replace L2 := Lib.hid (KB.below L2.out bb)
  replace L3 := Lib.hid (KB.below L3.out bb)
  replace LM := Lib.hid (KB.below LM.out bb)
  replace HB := nx HB bb
  clear bb
  obtain ⟨c0z1, c1z1, c2z1⟩ := cells3 B_z1
  obtain ⟨c0z3, c1z3, c2z3⟩ := cells3 B_z3
  go_wp2_with fail
  refine (Below_yes u v p q A2 n2 c2 l2 AM NM cM M b1 bM HM2.out _ (KB.below L2.out (by exact sm)) (KB.below LM.out (by exact sm))).mono ?_
  clear c0z1 c1z1 c2z1 c0z3 c1z3 c2z3
  rintro e w7 ⟨rfl, bb⟩
  replace bb := nextw (w0 := w6) (by exact sm) bb
  replace B_z0 := mv B_z0 bb
  replace B_z1 := mv B_z1 bb
  replace B_z2 := mv B_z2 bb
  replace B_z3 := mv B_z3 bb
  replace L := Lib.hid (KB.below L.out bb)
  replace L2 := Lib.hid (KB.below L2.out bb)
  replace L3 := Lib.hid (KB.below L3.out bb)
  replace LM := Lib.hid (KB.below LM.out bb)
  replace HB := nx HB bb
  clear bb
  obtain ⟨c0z3, c1z3, c2z3⟩ := cells3 B_z3
  go_wp2_with fail
  refine (Below_yes p q p q AM NM cM M AM NM cM M bM bM HM3.out _ (KB.below LM.out (by exact sm)) (KB.below LM.out (by exact sm))).mono ?_
  clear c0z3 c1z3 c2z3
  rintro e w8 ⟨rfl, bb⟩
  replace bb := nextw (w0 := w7) (by exact sm) bb
  replace B_z0 := mv B_z0 bb
  replace B_z1 := mv B_z1 bb
  replace B_z2 := mv B_z2 bb
  replace B_z3 := mv B_z3 bb
  replace L := Lib.hid (KB.below L.out bb)
  replace L2 := Lib.hid (KB.below L2.out bb)
  replace L3 := Lib.hid (KB.below L3.out bb)
  replace LM := Lib.hid (KB.below LM.out bb)
  replace HB := nx HB bb
  clear bb
  obtain ⟨c0z0, c1z0, c2z0⟩ := cells3 B_z0
  obtain ⟨c0z2, c1z2, c2z2⟩ := cells3 B_z2
  go_wp2_with fail
  refine (Below_yes p q s t A n c l A3 n3 c3 l3 b0 b2 k1.out _ (KB.below L.out (by exact sm)) (KB.below L3.out (by exact sm))).mono ?_
  clear c0z0 c1z0 c2z0 c0z2 c1z2 c2z2
  rintro e w9 ⟨rfl, bb⟩
  replace bb := nextw (w0 := w8) (by exact sm) bb
  replace B_z0 := mv B_z0 bb
  replace B_z1 := mv B_z1 bb
  replace B_z2 := mv B_z2 bb
  replace B_z3 := mv B_z3 bb
  replace L := Lib.hid (KB.below L.out bb)
  replace L2 := Lib.hid (KB.below L2.out bb)
  replace L3 := Lib.hid (KB.below L3.out bb)
  replace LM := Lib.hid (KB.below LM.out bb)
  replace HB := nx HB bb
  clear bb
  obtain ⟨c0z1, c1z1, c2z1⟩ := cells3 B_z1
  obtain ⟨c0z2, c1z2, c2z2⟩ := cells3 B_z2
  go_wp2_with fail
  refine (Below_yes u v s t A2 n2 c2 l2 A3 n3 c3 l3 b1 b2 k2.out _ (KB.below L2.out (by exact sm)) (KB.below L3.out (by exact sm))).mono ?_
  clear c0z1 c1z1 c2z1 c0z2 c1z2 c2z2
  rintro e w10 ⟨rfl, bb⟩
  replace bb := nextw (w0 := w9) (by exact sm) bb
  replace B_z0 := mv B_z0 bb
  replace B_z1 := mv B_z1 bb
  replace B_z2 := mv B_z2 bb
  replace B_z3 := mv B_z3 bb
  replace L := Lib.hid (KB.below L.out bb)
  replace L2 := Lib.hid (KB.below L2.out bb)
  replace L3 := Lib.hid (KB.below L3.out bb)
  replace LM := Lib.hid (KB.below LM.out bb)
  replace HB := nx HB bb
  clear bb
  obtain ⟨c0z3, c1z3, c2z3⟩ := cells3 B_z3
  obtain ⟨c0z2, c1z2, c2z2⟩ := cells3 B_z2
  go_wp2_with fail
  refine (Below_yes p q s t AM NM cM M A3 n3 c3 l3 bM b2 HM4.out _ (KB.below LM.out (by exact sm)) (KB.below L3.out (by exact sm))).mono ?_
  clear c0z3 c1z3 c2z3 c0z2 c1z2 c2z2
  rintro e w11 ⟨rfl, bb⟩
  replace bb := nextw (w0 := w10) (by exact sm) bb
  replace B_z0 := mv B_z0 bb
  replace B_z1 := mv B_z1 bb
  replace B_z2 := mv B_z2 bb
  replace B_z3 := mv B_z3 bb
  replace L := Lib.hid (KB.below L.out bb)
  replace L2 := Lib.hid (KB.below L2.out bb)
  replace L3 := Lib.hid (KB.below L3.out bb)
  replace LM := Lib.hid (KB.below LM.out bb)
  replace HB := nx HB bb
  clear bb
  obtain ⟨c0z1, c1z1, c2z1⟩ := cells3 B_z1
  obtain ⟨c0z2, c1z2, c2z2⟩ := cells3 B_z2
  go_wp2_with fail
  refine (Merge_ok u v s t A2 n2 c2 l2 A3 n3 c3 l3 b1 b2 g2.out HQQ.out HNQ.out _ (KB.below L2.out (by exact sm)) (KB.below L3.out (by exact sm))).mono ?_
  clear c0z1 c1z1 c2z1 c0z2 c1z2 c2z2
  rintro e w12 ⟨AQ, cQ, rfl, LQ, bb⟩
  replace bb := nextw (w0 := w11) (by exact sm) bb
  replace B_z0 := mv B_z0 bb
  replace B_z1 := mv B_z1 bb
  replace B_z2 := mv B_z2 bb
  replace B_z3 := mv B_z3 bb
  replace L := Lib.hid (KB.below L.out bb)
  replace L2 := Lib.hid (KB.below L2.out bb)
  replace L3 := Lib.hid (KB.below L3.out bb)
  replace LM := Lib.hid (KB.below LM.out bb)
  replace HB := nx HB bb
  clear bb
  replace LQ := Lib.hid LQ
  have lt_z4z0 := B_z0.out.lt
  have lt_z4z1 := B_z1.out.lt
  have lt_z4z2 := B_z2.out.lt
  have lt_z4z3 := B_z3.out.lt
  obtain ⟨bb, B_z4⟩ := box1 w12 24 #[.int .i64 u, .int .i64 v, .slice AQ NQ cQ]
  replace bb := bb.out
  replace B_z0 := mv B_z0 bb
  replace B_z1 := mv B_z1 bb
  replace B_z2 := mv B_z2 bb
  replace B_z3 := mv B_z3 bb
  replace L := Lib.hid (KB.below L.out bb)
  replace L2 := Lib.hid (KB.below L2.out bb)
  replace L3 := Lib.hid (KB.below L3.out bb)
  replace LM := Lib.hid (KB.below LM.out bb)
  replace LQ := Lib.hid (KB.below LQ.out bb)
  replace HB := nx HB bb
  clear bb
  go_upto_region 9 with (fail)
  generalize w12.alloc (.cells #[.int .i64 u, .int .i64 v, .slice AQ NQ cQ] 24) = WB at *
  obtain ⟨c0z3, c1z3, c2z3⟩ := cells3 B_z3
  obtain ⟨c0z2, c1z2, c2z2⟩ := cells3 B_z2
  go_wp2_with fail
  refine (Merge_nm p q s t AM NM cM M A3 n3 c3 l3 bM b2 HA1.out HA3.out HA4.out HA2.out HNX.out _ (KB.below LM.out (by exact sm)) (KB.below L3.out (by exact sm))).mono ?_
  clear c0z3 c1z3 c2z3 c0z2 c1z2 c2z2
  rintro e w13 ⟨A5, c5, rfl, L5, bb⟩
  replace bb := nextw (w0 := WB) (by exact sm) bb
  replace B_z0 := mv B_z0 bb
  replace B_z1 := mv B_z1 bb
  replace B_z2 := mv B_z2 bb
  replace B_z3 := mv B_z3 bb
  replace B_z4 := mv B_z4 bb
  replace L := Lib.hid (KB.below L.out bb)
  replace L2 := Lib.hid (KB.below L2.out bb)
  replace L3 := Lib.hid (KB.below L3.out bb)
  replace LM := Lib.hid (KB.below LM.out bb)
  replace LQ := Lib.hid (KB.below LQ.out bb)
  replace HB := nx HB bb
  clear bb
  replace L5 := Lib.hid L5
  have lt_z5z0 := B_z0.out.lt
  have lt_z5z1 := B_z1.out.lt
  have lt_z5z2 := B_z2.out.lt
  have lt_z5z3 := B_z3.out.lt
  have lt_z5z4 := B_z4.out.lt
  obtain ⟨bb, B_z5⟩ := box1 w13 24 #[.int .i64 XP, .int .i64 XQ, .slice A5 NX c5]
  replace bb := bb.out
  replace B_z0 := mv B_z0 bb
  replace B_z1 := mv B_z1 bb
  replace B_z2 := mv B_z2 bb
  replace B_z3 := mv B_z3 bb
  replace B_z4 := mv B_z4 bb
  replace L := Lib.hid (KB.below L.out bb)
  replace L2 := Lib.hid (KB.below L2.out bb)
  replace L3 := Lib.hid (KB.below L3.out bb)
  replace LM := Lib.hid (KB.below LM.out bb)
  replace LQ := Lib.hid (KB.below LQ.out bb)
  replace L5 := Lib.hid (KB.below L5.out bb)
  replace HB := nx HB bb
  clear bb
  go_upto_region 12 with (fail)
  generalize w13.alloc (.cells #[.int .i64 XP, .int .i64 XQ, .slice A5 NX c5] 24) = WD at *
  obtain ⟨c0z0, c1z0, c2z0⟩ := cells3 B_z0
  obtain ⟨c0z4, c1z4, c2z4⟩ := cells3 B_z4
  go_wp2_with fail
  refine (Merge_nm p q u v A n c l AQ NQ cQ Q b0 bQ HE5.out HXP.out HXQ.out HXM.out HNX.out _ (KB.below L.out (by exact sm)) (KB.below LQ.out (by exact sm))).mono ?_
  clear c0z0 c1z0 c2z0 c0z4 c1z4 c2z4
  rintro e w14 ⟨A6, c6, rfl, L6, bb⟩
  replace bb := nextw (w0 := WD) (by exact sm) bb
  replace B_z0 := mv B_z0 bb
  replace B_z1 := mv B_z1 bb
  replace B_z2 := mv B_z2 bb
  replace B_z3 := mv B_z3 bb
  replace B_z4 := mv B_z4 bb
  replace B_z5 := mv B_z5 bb
  replace L := Lib.hid (KB.below L.out bb)
  replace L2 := Lib.hid (KB.below L2.out bb)
  replace L3 := Lib.hid (KB.below L3.out bb)
  replace LM := Lib.hid (KB.below LM.out bb)
  replace LQ := Lib.hid (KB.below LQ.out bb)
  replace L5 := Lib.hid (KB.below L5.out bb)
  replace HB := nx HB bb
  clear bb
  replace L6 := Lib.hid L6
  have lt_z6z0 := B_z0.out.lt
  have lt_z6z1 := B_z1.out.lt
  have lt_z6z2 := B_z2.out.lt
  have lt_z6z3 := B_z3.out.lt
  have lt_z6z4 := B_z4.out.lt
  have lt_z6z5 := B_z5.out.lt
  obtain ⟨bb, B_z6⟩ := box1 w14 24 #[.int .i64 XP, .int .i64 XQ, .slice A6 NX c6]
  replace bb := bb.out
  replace B_z0 := mv B_z0 bb
  replace B_z1 := mv B_z1 bb
  replace B_z2 := mv B_z2 bb
  replace B_z3 := mv B_z3 bb
  replace B_z4 := mv B_z4 bb
  replace B_z5 := mv B_z5 bb
  replace L := Lib.hid (KB.below L.out bb)
  replace L2 := Lib.hid (KB.below L2.out bb)
  replace L3 := Lib.hid (KB.below L3.out bb)
  replace LM := Lib.hid (KB.below LM.out bb)
  replace LQ := Lib.hid (KB.below LQ.out bb)
  replace L5 := Lib.hid (KB.below L5.out bb)
  replace L6 := Lib.hid (KB.below L6.out bb)
  replace HB := nx HB bb
  clear bb
  go_upto_region 13 with (fail)
  generalize w14.alloc (.cells #[.int .i64 XP, .int .i64 XQ, .slice A6 NX c6] 24) = WF at *
  obtain ⟨c0z5, c1z5, c2z5⟩ := cells3 B_z5
  obtain ⟨c0z6, c1z6, c2z6⟩ := cells3 B_z6
  go_wp2_with fail
  refine (Plans_same XP XQ A5 NX c5 A6 NX c6 XM _ (KB.below L5.out (by exact sm)) (KB.below L6.out (by exact sm))).mono ?_
  clear c0z5 c1z5 c2z5 c0z6 c1z6 c2z6
  rintro e w15 ⟨rfl, bb⟩
  replace bb := nextw (w0 := WF) (by exact sm) bb
  replace B_z0 := mv B_z0 bb
  replace B_z1 := mv B_z1 bb
  replace B_z2 := mv B_z2 bb
  replace B_z3 := mv B_z3 bb
  replace B_z4 := mv B_z4 bb
  replace B_z5 := mv B_z5 bb
  replace B_z6 := mv B_z6 bb
  replace L := Lib.hid (KB.below L.out bb)
  replace L2 := Lib.hid (KB.below L2.out bb)
  replace L3 := Lib.hid (KB.below L3.out bb)
  replace LM := Lib.hid (KB.below LM.out bb)
  replace LQ := Lib.hid (KB.below LQ.out bb)
  replace L5 := Lib.hid (KB.below L5.out bb)
  replace L6 := Lib.hid (KB.below L6.out bb)
  replace HB := nx HB bb
  clear bb
  go_wp2
  go_ret
  exact ⟨rfl, nextw HB.out (by exact sm)⟩

theorem LLeast_any (p q u v s t : Int) (A : Option Addr) (n c : Nat) (l : List Int) (A2 : Option Addr) (n2 c2 : Nat) (l2 : List Int) (A3 : Option Addr) (n3 c3 : Nat) (l3 : List Int) (w : World) {lo hi lo2 hi2 lo3 hi3 : Nat} (L : KB w lo hi A n c l) (L2 : KB w lo2 hi2 A2 n2 c2 l2) (L3 : KB w lo3 hi3 A3 n3 c3 l3) : Calls Try.prog 12 #[.agg #[.int .i64 p, .int .i64 q, .slice A n c], .agg #[.int .i64 u, .int .i64 v, .slice A2 n2 c2], .agg #[.int .i64 s, .int .i64 t, .slice A3 n3 c3]] w fun e w' => e = .returned (.bool true) ∧ Below w.heap.size w w' := by
  by_cases h0 : ((n : Nat) : Int) ≤ 5000
  · by_cases h1 : ((n2 : Nat) : Int) ≤ 5000
    · by_cases h2 : ((n3 : Nat) : Int) ≤ 5000
      · by_cases g : mgE p q l u v l2 = 0
        · by_cases g2 : mgE u v l2 s t l3 = 0
          · by_cases k1 : BelP p q l s t l3
            · by_cases k2 : BelP u v l2 s t l3
              · exact LLeast_yy1 p q u v s t A n c l A2 n2 c2 l2 A3 n3 c3 l3 h0 h1 h2 g k1 k2 g2 w L L2 L3
              · exact LLeast_yn1 p q u v s t A n c l A2 n2 c2 l2 A3 n3 c3 l3 h0 h1 h2 g k1 k2 g2 w L L2 L3
            · exact LLeast_n1 p q u v s t A n c l A2 n2 c2 l2 A3 n3 c3 l3 h0 h1 h2 g k1 g2 w L L2 L3
          · by_cases k1 : BelP p q l s t l3
            · by_cases k2 : BelP u v l2 s t l3
              · exact LLeast_yy0 p q u v s t A n c l A2 n2 c2 l2 A3 n3 c3 l3 h0 h1 h2 g k1 k2 g2 w L L2 L3
              · exact LLeast_yn0 p q u v s t A n c l A2 n2 c2 l2 A3 n3 c3 l3 h0 h1 h2 g k1 k2 g2 w L L2 L3
            · exact LLeast_n0 p q u v s t A n c l A2 n2 c2 l2 A3 n3 c3 l3 h0 h1 h2 g k1 g2 w L L2 L3
        · by_cases k1 : BelP p q l s t l3
          · exact LLeast_b1 p q u v s t A n c l A2 n2 c2 l2 A3 n3 c3 l3 h0 h1 h2 g k1 w L L2 L3
          · exact LLeast_b0 p q u v s t A n c l A2 n2 c2 l2 A3 n3 c3 l3 h0 h1 h2 g k1 w L L2 L3
      · exact LLeast_f2 p q u v s t A n c l A2 n2 c2 l2 A3 n3 c3 l3 h0 h1 h2 w L L2 L3
    · exact LLeast_f1 p q u v s t A n c l A2 n2 c2 l2 A3 n3 c3 l3 h0 h1 w L L2 L3
  · exact LLeast_f0 p q u v s t A n c l A2 n2 c2 l2 A3 n3 c3 l3 h0 w L L2 L3
end Go.Proofs.Ytkhcogfajihecaa
