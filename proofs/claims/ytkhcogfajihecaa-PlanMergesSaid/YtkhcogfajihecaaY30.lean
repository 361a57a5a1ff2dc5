/- the reference's Merge. -/
import Derived.Test.YtkhcogfajihecaaYM6
import Derived.Test.YtkhcogfajihecaaYRow
set_option linter.unusedVariables false
set_option linter.unusedSimpArgs false
namespace Go.Proofs.Ytkhcogfajihecaa
open Go Go.RowKit Hd

theorem mg_max {l l2 : List Int} {i : Nat} (h : ¬ conf l l2 i) (h1 : 0 ≤ l.getD i 0) (h2 : 0 ≤ l2.getD i 0) (hi : i < l.length) : max (l.getD i 0) (l2.getD i 0) = (mgK l l2 l.length).getD i 0 := by
  rw [mg_at i hi]
  unfold conf at h
  split <;> omega
theorem rv_cast {w : World} {b : Nat} {v : Value} {l m : List Int} (h : Hid (RV w b v l)) (e : l = m) : Hid (RV w b v m) := e ▸ h
theorem RValid_yes (p q : Int) (A : Option Addr) (n c : Nat) (l : List Int) (hn : n ≤ 1000000) (h : OkP p q l) (w : World) {lo hi : Nat} (L : KB w lo hi A n c l) : Calls Try.prog 21 #[.agg #[.int .i64 p, .int .i64 q, .slice A n c]] w fun e w' => e = .returned (.bool true) ∧ Below w.heap.size w w' := by
  have k := RValid_w0 p q A n c l hn w L
  rw [decide_eq_true h] at k
  exact k
theorem RValid_no (p q : Int) (A : Option Addr) (n c : Nat) (l : List Int) (hn : n ≤ 1000000) (h : ¬ OkP p q l) (w : World) {lo hi : Nat} (L : KB w lo hi A n c l) : Calls Try.prog 21 #[.agg #[.int .i64 p, .int .i64 q, .slice A n c]] w fun e w' => e = .returned (.bool false) ∧ Below w.heap.size w w' := by
  have k := RValid_w0 p q A n c l hn w L
  rw [decide_eq_false h] at k
  exact k

set_option maxRecDepth 100000 in
set_option maxHeartbeats 4000000 in
theorem RMerge_1 (p q u v : Int) (A : Option Addr) (n c : Nat) (l : List Int) (A2 : Option Addr) (n2 c2 : Nat) (l2 : List Int) (hn : n ≤ 1000000) (hn2 : n2 ≤ 1000000) (k0 : ¬ OkP p q l) (w : World) {lo hi lo2 hi2 : Nat} (L : KB w lo hi A n c l) (L2 : KB w lo2 hi2 A2 n2 c2 l2) :
    Calls Try.prog 47 #[.agg #[.int .i64 p, .int .i64 q, .slice A n c], .agg #[.int .i64 u, .int .i64 v, .slice A2 n2 c2]] w fun e w' => ∃ A c, e = .returned (.tuple #[.agg #[.int .i64 (mgX p q l u v l2 p), .int .i64 (mgX p q l u v l2 q), .slice A (mgV p q l u v l2).length c], .int .i64 (mgE p q l u v l2)]) ∧ KB w' w.heap.size w'.heap.size A (mgV p q l u v l2).length c (mgV p q l u v l2) ∧ Below w.heap.size w w' := by
  have HV : Hid (mgE p q l u v l2 = 1) := mgE_1 (fun g => k0 g.1)
  have HV1 : Hid (mgV p q l u v l2 = []) := mgV_1 (by rw [HV.out]; decide)
  have HV2 : Hid (mgX p q l u v l2 p = 0) := mgX_1 (by rw [HV.out]; decide)
  have HV3 : Hid (mgX p q l u v l2 q = 0) := mgX_1 (by rw [HV.out]; decide)
  replace k0 := Lib.hid k0
  have hiL := L.top
  have hiL2 := L2.top
  replace L := Lib.hid L
  replace L2 := Lib.hid L2
  obtain ⟨HB, B_z0, B_z1, B_z2⟩ := box3 w 24 #[.int .i64 p, .int .i64 q, .slice A n c] 24 #[.int .i64 u, .int .i64 v, .slice A2 n2 c2] 24 #[.int .i64 0, .int .i64 0, .slice none 0 0]
  replace L := Lib.hid (KB.below L.out HB.out)
  replace L2 := Lib.hid (KB.below L2.out HB.out)
  go_enter Try.func47, Try.ntmps47
  go_wp2_with fail
  generalize ((w.alloc (.cells #[.int .i64 p, .int .i64 q, .slice A n c] 24)).alloc (.cells #[.int .i64 u, .int .i64 v, .slice A2 n2 c2] 24)).alloc (.cells #[.int .i64 0, .int .i64 0, .slice none 0 0] 24) = W0 at *
  obtain ⟨c0z0, c1z0, c2z0⟩ := cells3 B_z0
  go_wp2_with fail
  refine (RValid_no p q A n c l hn k0.out _ (KB.below L.out (by exact sm))).mono ?_
  clear c0z0 c1z0 c2z0
  rintro e w1 ⟨rfl, bb⟩
  replace bb := nextw (w0 := W0) (by exact sm) bb
  replace B_z0 := mv B_z0 bb
  replace B_z1 := mv B_z1 bb
  replace B_z2 := mv B_z2 bb
  replace L := Lib.hid (KB.below L.out bb)
  replace L2 := Lib.hid (KB.below L2.out bb)
  replace HB := nx HB bb
  clear bb
  obtain ⟨s0, s1, s2⟩ := cells3 (stor3 B_z2 (.int .i64 0) (.int .i64 0) (.slice none 0 0))
  have HF := stb3 HB (y := w.heap.size + 1 + 1) (by omega) 0 (.int .i64 0) 1 (.int .i64 0) 2 (.slice none 0 0)
  obtain ⟨c0z2, c1z2, c2z2⟩ := cells3 B_z2
  obtain ⟨f0z2, f1z2, f2z2⟩ := froz3 B_z2
  go_wp2_with fail
  exact bodyPost_ret (v := .tuple #[.agg #[.int .i64 0, .int .i64 0, .slice none 0 0], .int .i64 1]) (by simp [results, Try.results47, go_sem, s0, s1, s2]) rfl ⟨none, 0, (by rw [HV.out, HV1.out, HV2.out, HV3.out]; rfl), (by rw [HV1.out]; exact kb_nil _ _), nextw HF.out (by exact sm)⟩

set_option maxRecDepth 100000 in
set_option maxHeartbeats 4000000 in
theorem RMerge_2 (p q u v : Int) (A : Option Addr) (n c : Nat) (l : List Int) (A2 : Option Addr) (n2 c2 : Nat) (l2 : List Int) (hn : n ≤ 1000000) (hn2 : n2 ≤ 1000000) (k0 : OkP p q l) (k1 : ¬ OkP u v l2) (w : World) {lo hi lo2 hi2 : Nat} (L : KB w lo hi A n c l) (L2 : KB w lo2 hi2 A2 n2 c2 l2) :
    Calls Try.prog 47 #[.agg #[.int .i64 p, .int .i64 q, .slice A n c], .agg #[.int .i64 u, .int .i64 v, .slice A2 n2 c2]] w fun e w' => ∃ A c, e = .returned (.tuple #[.agg #[.int .i64 (mgX p q l u v l2 p), .int .i64 (mgX p q l u v l2 q), .slice A (mgV p q l u v l2).length c], .int .i64 (mgE p q l u v l2)]) ∧ KB w' w.heap.size w'.heap.size A (mgV p q l u v l2).length c (mgV p q l u v l2) ∧ Below w.heap.size w w' := by
  have HV : Hid (mgE p q l u v l2 = 1) := mgE_1 (fun g => k1 g.2.1)
  have HV1 : Hid (mgV p q l u v l2 = []) := mgV_1 (by rw [HV.out]; decide)
  have HV2 : Hid (mgX p q l u v l2 p = 0) := mgX_1 (by rw [HV.out]; decide)
  have HV3 : Hid (mgX p q l u v l2 q = 0) := mgX_1 (by rw [HV.out]; decide)
  replace k0 := Lib.hid k0
  replace k1 := Lib.hid k1
  have hiL := L.top
  have hiL2 := L2.top
  replace L := Lib.hid L
  replace L2 := Lib.hid L2
  obtain ⟨HB, B_z0, B_z1, B_z2⟩ := box3 w 24 #[.int .i64 p, .int .i64 q, .slice A n c] 24 #[.int .i64 u, .int .i64 v, .slice A2 n2 c2] 24 #[.int .i64 0, .int .i64 0, .slice none 0 0]
  replace L := Lib.hid (KB.below L.out HB.out)
  replace L2 := Lib.hid (KB.below L2.out HB.out)
  go_enter Try.func47, Try.ntmps47
  go_wp2_with fail
  generalize ((w.alloc (.cells #[.int .i64 p, .int .i64 q, .slice A n c] 24)).alloc (.cells #[.int .i64 u, .int .i64 v, .slice A2 n2 c2] 24)).alloc (.cells #[.int .i64 0, .int .i64 0, .slice none 0 0] 24) = W0 at *
  obtain ⟨c0z0, c1z0, c2z0⟩ := cells3 B_z0
  go_wp2_with fail
  refine (RValid_yes p q A n c l hn k0.out _ (KB.below L.out (by exact sm))).mono ?_
  clear c0z0 c1z0 c2z0
  rintro e w1 ⟨rfl, bb⟩
  replace bb := nextw (w0 := W0) (by exact sm) bb
  replace B_z0 := mv B_z0 bb
  replace B_z1 := mv B_z1 bb
  replace B_z2 := mv B_z2 bb
  replace L := Lib.hid (KB.below L.out bb)
  replace L2 := Lib.hid (KB.below L2.out bb)
  replace HB := nx HB bb
  clear bb
  obtain ⟨c0z1, c1z1, c2z1⟩ := cells3 B_z1
  go_wp2_with fail
  refine (RValid_no u v A2 n2 c2 l2 hn2 k1.out _ (KB.below L2.out (by exact sm))).mono ?_
  clear c0z1 c1z1 c2z1
  rintro e w2 ⟨rfl, bb⟩
  replace bb := nextw (w0 := w1) (by exact sm) bb
  replace B_z0 := mv B_z0 bb
  replace B_z1 := mv B_z1 bb
  replace B_z2 := mv B_z2 bb
  replace L := Lib.hid (KB.below L.out bb)
  replace L2 := Lib.hid (KB.below L2.out bb)
  replace HB := nx HB bb
  clear bb
  obtain ⟨s0, s1, s2⟩ := cells3 (stor3 B_z2 (.int .i64 0) (.int .i64 0) (.slice none 0 0))
  have HF := stb3 HB (y := w.heap.size + 1 + 1) (by omega) 0 (.int .i64 0) 1 (.int .i64 0) 2 (.slice none 0 0)
  obtain ⟨c0z2, c1z2, c2z2⟩ := cells3 B_z2
  obtain ⟨f0z2, f1z2, f2z2⟩ := froz3 B_z2
  go_wp2_with fail
  exact bodyPost_ret (v := .tuple #[.agg #[.int .i64 0, .int .i64 0, .slice none 0 0], .int .i64 1]) (by simp [results, Try.results47, go_sem, s0, s1, s2]) rfl ⟨none, 0, (by rw [HV.out, HV1.out, HV2.out, HV3.out]; rfl), (by rw [HV1.out]; exact kb_nil _ _), nextw HF.out (by exact sm)⟩

set_option maxRecDepth 100000 in
set_option maxHeartbeats 4000000 in
theorem RMerge_3 (p q u v : Int) (A : Option Addr) (n c : Nat) (l : List Int) (A2 : Option Addr) (n2 c2 : Nat) (l2 : List Int) (hn : n ≤ 1000000) (hn2 : n2 ≤ 1000000) (k0 : OkP p q l) (k1 : OkP u v l2) (k2 : p ≠ u) (w : World) {lo hi lo2 hi2 : Nat} (L : KB w lo hi A n c l) (L2 : KB w lo2 hi2 A2 n2 c2 l2) :
    Calls Try.prog 47 #[.agg #[.int .i64 p, .int .i64 q, .slice A n c], .agg #[.int .i64 u, .int .i64 v, .slice A2 n2 c2]] w fun e w' => ∃ A c, e = .returned (.tuple #[.agg #[.int .i64 (mgX p q l u v l2 p), .int .i64 (mgX p q l u v l2 q), .slice A (mgV p q l u v l2).length c], .int .i64 (mgE p q l u v l2)]) ∧ KB w' w.heap.size w'.heap.size A (mgV p q l u v l2).length c (mgV p q l u v l2) ∧ Below w.heap.size w w' := by
  have HV : Hid (mgE p q l u v l2 = 1) := mgE_1 (fun g => k2 g.2.2.1)
  have HV1 : Hid (mgV p q l u v l2 = []) := mgV_1 (by rw [HV.out]; decide)
  have HV2 : Hid (mgX p q l u v l2 p = 0) := mgX_1 (by rw [HV.out]; decide)
  have HV3 : Hid (mgX p q l u v l2 q = 0) := mgX_1 (by rw [HV.out]; decide)
  replace k0 := Lib.hid k0
  replace k1 := Lib.hid k1
  have hb : (p != u) = true := by rw [bne, show (p == u) = false from decide_eq_false k2]; rfl
  replace k2 := Lib.hid k2
  have hiL := L.top
  have hiL2 := L2.top
  replace L := Lib.hid L
  replace L2 := Lib.hid L2
  obtain ⟨HB, B_z0, B_z1, B_z2⟩ := box3 w 24 #[.int .i64 p, .int .i64 q, .slice A n c] 24 #[.int .i64 u, .int .i64 v, .slice A2 n2 c2] 24 #[.int .i64 0, .int .i64 0, .slice none 0 0]
  replace L := Lib.hid (KB.below L.out HB.out)
  replace L2 := Lib.hid (KB.below L2.out HB.out)
  go_enter Try.func47, Try.ntmps47
  go_wp2_with fail
  generalize ((w.alloc (.cells #[.int .i64 p, .int .i64 q, .slice A n c] 24)).alloc (.cells #[.int .i64 u, .int .i64 v, .slice A2 n2 c2] 24)).alloc (.cells #[.int .i64 0, .int .i64 0, .slice none 0 0] 24) = W0 at *
  obtain ⟨c0z0, c1z0, c2z0⟩ := cells3 B_z0
  go_wp2_with fail
  refine (RValid_yes p q A n c l hn k0.out _ (KB.below L.out (by exact sm))).mono ?_
  clear c0z0 c1z0 c2z0
  rintro e w1 ⟨rfl, bb⟩
  replace bb := nextw (w0 := W0) (by exact sm) bb
  replace B_z0 := mv B_z0 bb
  replace B_z1 := mv B_z1 bb
  replace B_z2 := mv B_z2 bb
  replace L := Lib.hid (KB.below L.out bb)
  replace L2 := Lib.hid (KB.below L2.out bb)
  replace HB := nx HB bb
  clear bb
  obtain ⟨c0z1, c1z1, c2z1⟩ := cells3 B_z1
  go_wp2_with fail
  refine (RValid_yes u v A2 n2 c2 l2 hn2 k1.out _ (KB.below L2.out (by exact sm))).mono ?_
  clear c0z1 c1z1 c2z1
  rintro e w2 ⟨rfl, bb⟩
  replace bb := nextw (w0 := w1) (by exact sm) bb
  replace B_z0 := mv B_z0 bb
  replace B_z1 := mv B_z1 bb
  replace B_z2 := mv B_z2 bb
  replace L := Lib.hid (KB.below L.out bb)
  replace L2 := Lib.hid (KB.below L2.out bb)
  replace HB := nx HB bb
  clear bb
  obtain ⟨c0z0, c1z0, c2z0⟩ := cells3 B_z0
  obtain ⟨c0z1, c1z1, c2z1⟩ := cells3 B_z1
  obtain ⟨s0, s1, s2⟩ := cells3 (stor3 B_z2 (.int .i64 0) (.int .i64 0) (.slice none 0 0))
  have HF := stb3 HB (y := w.heap.size + 1 + 1) (by omega) 0 (.int .i64 0) 1 (.int .i64 0) 2 (.slice none 0 0)
  obtain ⟨c0z2, c1z2, c2z2⟩ := cells3 B_z2
  obtain ⟨f0z2, f1z2, f2z2⟩ := froz3 B_z2
  go_wp2_with fail
  exact bodyPost_ret (v := .tuple #[.agg #[.int .i64 0, .int .i64 0, .slice none 0 0], .int .i64 1]) (by simp [results, Try.results47, go_sem, s0, s1, s2]) rfl ⟨none, 0, (by rw [HV.out, HV1.out, HV2.out, HV3.out]; rfl), (by rw [HV1.out]; exact kb_nil _ _), nextw HF.out (by exact sm)⟩

set_option maxRecDepth 100000 in
set_option maxHeartbeats 4000000 in
theorem RMerge_4 (p q u v : Int) (A : Option Addr) (n c : Nat) (l : List Int) (A2 : Option Addr) (n2 c2 : Nat) (l2 : List Int) (hn : n ≤ 1000000) (hn2 : n2 ≤ 1000000) (k0 : OkP p q l) (k1 : OkP u v l2) (k2 : p = u) (k3 : q ≠ v) (w : World) {lo hi lo2 hi2 : Nat} (L : KB w lo hi A n c l) (L2 : KB w lo2 hi2 A2 n2 c2 l2) :
    Calls Try.prog 47 #[.agg #[.int .i64 p, .int .i64 q, .slice A n c], .agg #[.int .i64 u, .int .i64 v, .slice A2 n2 c2]] w fun e w' => ∃ A c, e = .returned (.tuple #[.agg #[.int .i64 (mgX p q l u v l2 p), .int .i64 (mgX p q l u v l2 q), .slice A (mgV p q l u v l2).length c], .int .i64 (mgE p q l u v l2)]) ∧ KB w' w.heap.size w'.heap.size A (mgV p q l u v l2).length c (mgV p q l u v l2) ∧ Below w.heap.size w w' := by
  have HV : Hid (mgE p q l u v l2 = 1) := mgE_1 (fun g => k3 g.2.2.2)
  have HV1 : Hid (mgV p q l u v l2 = []) := mgV_1 (by rw [HV.out]; decide)
  have HV2 : Hid (mgX p q l u v l2 p = 0) := mgX_1 (by rw [HV.out]; decide)
  have HV3 : Hid (mgX p q l u v l2 q = 0) := mgX_1 (by rw [HV.out]; decide)
  replace k0 := Lib.hid k0
  replace k1 := Lib.hid k1
  have hb : (q != v) = true := by rw [bne, show (q == v) = false from decide_eq_false k3]; rfl
  replace k3 := Lib.hid k3
  subst k2
  have hiL := L.top
  have hiL2 := L2.top
  replace L := Lib.hid L
  replace L2 := Lib.hid L2
  obtain ⟨HB, B_z0, B_z1, B_z2⟩ := box3 w 24 #[.int .i64 p, .int .i64 q, .slice A n c] 24 #[.int .i64 p, .int .i64 v, .slice A2 n2 c2] 24 #[.int .i64 0, .int .i64 0, .slice none 0 0]
  replace L := Lib.hid (KB.below L.out HB.out)
  replace L2 := Lib.hid (KB.below L2.out HB.out)
  go_enter Try.func47, Try.ntmps47
  go_wp2_with fail
  generalize ((w.alloc (.cells #[.int .i64 p, .int .i64 q, .slice A n c] 24)).alloc (.cells #[.int .i64 p, .int .i64 v, .slice A2 n2 c2] 24)).alloc (.cells #[.int .i64 0, .int .i64 0, .slice none 0 0] 24) = W0 at *
  obtain ⟨c0z0, c1z0, c2z0⟩ := cells3 B_z0
  go_wp2_with fail
  refine (RValid_yes p q A n c l hn k0.out _ (KB.below L.out (by exact sm))).mono ?_
  clear c0z0 c1z0 c2z0
  rintro e w1 ⟨rfl, bb⟩
  replace bb := nextw (w0 := W0) (by exact sm) bb
  replace B_z0 := mv B_z0 bb
  replace B_z1 := mv B_z1 bb
  replace B_z2 := mv B_z2 bb
  replace L := Lib.hid (KB.below L.out bb)
  replace L2 := Lib.hid (KB.below L2.out bb)
  replace HB := nx HB bb
  clear bb
  obtain ⟨c0z1, c1z1, c2z1⟩ := cells3 B_z1
  go_wp2_with fail
  refine (RValid_yes p v A2 n2 c2 l2 hn2 k1.out _ (KB.below L2.out (by exact sm))).mono ?_
  clear c0z1 c1z1 c2z1
  rintro e w2 ⟨rfl, bb⟩
  replace bb := nextw (w0 := w1) (by exact sm) bb
  replace B_z0 := mv B_z0 bb
  replace B_z1 := mv B_z1 bb
  replace B_z2 := mv B_z2 bb
  replace L := Lib.hid (KB.below L.out bb)
  replace L2 := Lib.hid (KB.below L2.out bb)
  replace HB := nx HB bb
  clear bb
  obtain ⟨c0z0, c1z0, c2z0⟩ := cells3 B_z0
  obtain ⟨c0z1, c1z1, c2z1⟩ := cells3 B_z1
  obtain ⟨s0, s1, s2⟩ := cells3 (stor3 B_z2 (.int .i64 0) (.int .i64 0) (.slice none 0 0))
  have HF := stb3 HB (y := w.heap.size + 1 + 1) (by omega) 0 (.int .i64 0) 1 (.int .i64 0) 2 (.slice none 0 0)
  obtain ⟨c0z2, c1z2, c2z2⟩ := cells3 B_z2
  obtain ⟨f0z2, f1z2, f2z2⟩ := froz3 B_z2
  go_wp2_with fail
  exact bodyPost_ret (v := .tuple #[.agg #[.int .i64 0, .int .i64 0, .slice none 0 0], .int .i64 1]) (by simp [results, Try.results47, go_sem, s0, s1, s2]) rfl ⟨none, 0, (by rw [HV.out, HV1.out, HV2.out, HV3.out]; rfl), (by rw [HV1.out]; exact kb_nil _ _), nextw HF.out (by exact sm)⟩

set_option maxRecDepth 100000 in
set_option maxHeartbeats 4000000 in
theorem RMerge_yes (p q u v : Int) (A : Option Addr) (n c : Nat) (l : List Int) (A2 : Option Addr) (n2 c2 : Nat) (l2 : List Int) (hn : n ≤ 1000000) (hn2 : n2 ≤ 1000000) (h : AlP p q l u v l2) (w : World) {lo hi lo2 hi2 : Nat} (L : KB w lo hi A n c l) (L2 : KB w lo2 hi2 A2 n2 c2 l2) :
    Calls Try.prog 47 #[.agg #[.int .i64 p, .int .i64 q, .slice A n c], .agg #[.int .i64 u, .int .i64 v, .slice A2 n2 c2]] w fun e w' => ∃ A c, e = .returned (.tuple #[.agg #[.int .i64 (mgX p q l u v l2 p), .int .i64 (mgX p q l u v l2 q), .slice A (mgV p q l u v l2).length c], .int .i64 (mgE p q l u v l2)]) ∧ KB w' w.heap.size w'.heap.size A (mgV p q l u v l2).length c (mgV p q l u v l2) ∧ Below w.heap.size w w' := by
  have hal := al_len h
  have hln := L.len
  have hln2 := L2.len
  have hlb := (okp_len h.1).1
  have hnn : n2 ≤ n := by omega
  have hnn2 : n ≤ n2 := by omega
  have hnl1 : n ≤ l.length := by omega
  have hnl2 : l.length ≤ n := by omega
  have hnm1 : n2 ≤ l2.length := by omega
  have hnm2 : l2.length ≤ n2 := by omega
  have hby := Lib.hid L.byte
  have hby2 := Lib.hid L2.byte
  have k0 := Lib.hid h.1
  have k1 := Lib.hid h.2.1
  obtain ⟨e1, e2⟩ := h.2.2
  subst e1 e2
  replace h := Lib.hid h
  replace hal := Lib.hid hal
  replace hln := Lib.hid hln
  replace hln2 := Lib.hid hln2
  have hiL := L.top
  have hiL2 := L2.top
  replace L := Lib.hid L
  replace L2 := Lib.hid L2
  obtain ⟨HB, B_z0, B_z1, B_z2⟩ := box3 w 24 #[.int .i64 p, .int .i64 q, .slice A n c] 24 #[.int .i64 p, .int .i64 q, .slice A2 n2 c2] 24 #[.int .i64 0, .int .i64 0, .slice none 0 0]
  replace L := Lib.hid (KB.below L.out HB.out)
  replace L2 := Lib.hid (KB.below L2.out HB.out)
  go_enter Try.func47, Try.ntmps47
  go_wp2_with fail
  generalize ((w.alloc (.cells #[.int .i64 p, .int .i64 q, .slice A n c] 24)).alloc (.cells #[.int .i64 p, .int .i64 q, .slice A2 n2 c2] 24)).alloc (.cells #[.int .i64 0, .int .i64 0, .slice none 0 0] 24) = W0 at *
  obtain ⟨c0z0, c1z0, c2z0⟩ := cells3 B_z0
  go_wp2_with fail
  refine (RValid_yes p q A n c l hn k0.out _ (KB.below L.out (by exact sm))).mono ?_
  clear c0z0 c1z0 c2z0
  rintro e w1 ⟨rfl, bb⟩
  replace bb := nextw (w0 := W0) (by exact sm) bb
  replace B_z0 := mv B_z0 bb
  replace B_z1 := mv B_z1 bb
  replace B_z2 := mv B_z2 bb
  replace L := Lib.hid (KB.below L.out bb)
  replace L2 := Lib.hid (KB.below L2.out bb)
  replace HB := nx HB bb
  clear bb
  obtain ⟨c0z1, c1z1, c2z1⟩ := cells3 B_z1
  go_wp2_with fail
  refine (RValid_yes p q A2 n2 c2 l2 hn2 k1.out _ (KB.below L2.out (by exact sm))).mono ?_
  clear c0z1 c1z1 c2z1
  rintro e w2 ⟨rfl, bb⟩
  replace bb := nextw (w0 := w1) (by exact sm) bb
  replace B_z0 := mv B_z0 bb
  replace B_z1 := mv B_z1 bb
  replace B_z2 := mv B_z2 bb
  replace L := Lib.hid (KB.below L.out bb)
  replace L2 := Lib.hid (KB.below L2.out bb)
  replace HB := nx HB bb
  clear bb
  obtain ⟨c0z0, c1z0, c2z0⟩ := cells3 B_z0
  obtain ⟨c0z1, c1z1, c2z1⟩ := cells3 B_z1
  have hz2lt : Hid (w.heap.size + 2 < w2.heap.size) := B_z2.out.lt
  have hzL : Hid (hi ≤ w2.heap.size) := L.out.top
  have hzL2 : Hid (hi2 ≤ w2.heap.size) := L2.out.top
  have lt_z3z0 := B_z0.out.lt
  have lt_z3z1 := B_z1.out.lt
  have lt_z3z2 := B_z2.out.lt
  obtain ⟨bb, B_z3⟩ := box1 w2 24 #[.int .i64 p, .int .i64 q, .slice none 0 0]
  replace bb := bb.out
  replace B_z0 := mv B_z0 bb
  replace B_z1 := mv B_z1 bb
  replace B_z2 := mv B_z2 bb
  replace L := Lib.hid (KB.below L.out bb)
  replace L2 := Lib.hid (KB.below L2.out bb)
  replace HB := nx HB bb
  clear bb
  go_wp2_with fail
  clear c0z0 c1z0 c2z0 c0z1 c1z1 c2z1
  generalize w2.alloc (.cells #[.int .i64 p, .int .i64 q, .slice none 0 0] 24) = WO at *
  have HZ3 : Hid (w.heap.size + 2 < w2.heap.size) := hz2lt
  have HZ4 : Hid (hi ≤ w2.heap.size) := hzL
  have HZ5 : Hid (hi2 ≤ w2.heap.size) := hzL2
  obtain ⟨base, hbase⟩ : ∃ b, WO.heap.size = b := ⟨_, rfl⟩
  have HW : Hid (w.heap.size ≤ base) := by have := HB.out.size; unfold Hid; omega
  have LT_z0 : Hid (w.heap.size < base) := by have := B_z0.out.lt; unfold Hid; omega
  have LT_z1 : Hid (w.heap.size + 1 < base) := by have := B_z1.out.lt; unfold Hid; omega
  have LT_z2 : Hid (w.heap.size + 1 + 1 < base) := by have := B_z2.out.lt; unfold Hid; omega
  have LT_z3 : Hid (w2.heap.size < base) := by have := B_z3.out.lt; unfold Hid; omega
  have TL1 : Hid (hi ≤ base) := by have := L.out.top; unfold Hid; omega
  have TL2 : Hid (hi2 ≤ base) := by have := L2.out.top; unfold Hid; omega
  have HBS : Hid (base ≤ WO.heap.size) := by unfold Hid; omega
  have RVx : Hid (RV WO base (.slice none 0 0) []) := Lib.hid (rv_nil _ _)
  skip
  clear hbase
  go_loopw [7] (fun kk wx => ∃ (k : Nat) (v : Value), k ≤ n ∧ kk = .int .i64 (k : Int) ∧ Hid (∀ j, j < k → ¬ conf l l2 j) ∧ Hid (RV wx base v ((mgK l l2 l.length).take k)) ∧ Hid (base ≤ wx.heap.size) ∧ Hid (KB wx lo hi A n c l) ∧ Hid (KB wx lo2 hi2 A2 n2 c2 l2) ∧ Hid (Bx wx (w.heap.size) 24 #[.int .i64 p, .int .i64 q, .slice A n c]) ∧ Hid (Bx wx (w.heap.size + 1) 24 #[.int .i64 p, .int .i64 q, .slice A2 n2 c2]) ∧ Hid (Bx wx (w.heap.size + 1 + 1) 24 #[.int .i64 0, .int .i64 0, .slice none 0 0]) ∧ Hid (Bx wx (w2.heap.size) 24 #[.int .i64 p, .int .i64 q, v]) ∧ Hid (Below w.heap.size w wx)) (fun kk _ => n - (intOf kk).toNat)
  case atStart => exact ⟨0, .slice none 0 0, by omega, rfl, Lib.hid (fun j hj => absurd hj (Nat.not_lt_zero _)), rv_cast RVx (by simp), HBS, L, L2, B_z0, B_z1, B_z2, B_z3, HB⟩
  case round =>
    clear RVx HBS L L2 B_z0 B_z1 B_z2 B_z3 HB
    obtain ⟨k, v, hk, rfl, HC, RVx, HBS, L, L2, B_z0, B_z1, B_z2, B_z3, HB⟩ := hrel
    by_cases hlt : k < n
    · skip
      obtain ⟨x, hx⟩ : ∃ x, l2.getD k 0 = x := ⟨_, rfl⟩
      obtain ⟨y, hy⟩ : ∃ y, l.getD k 0 = y := ⟨_, rfl⟩
      have hxb := L2.out.mem (i := k) (by omega)
      have hyb := L.out.mem hlt
      rw [hx] at hxb
      rw [hy] at hyb
      obtain ⟨g1, o1, eA1, -, e0⟩ := L.out.elem hlt
      subst eA1
      rw [hy] at e0
      obtain ⟨g2, o2, eA2, -, f0⟩ := L2.out.elem (i := k) (by omega)
      subst eA2
      rw [hx] at f0
      have hkl : k < l.length := by omega
      have hlz : ((k : Nat) : Int) < ((n : Nat) : Int) := by omega
      have hlz2 : ((k : Nat) : Int) < ((n2 : Nat) : Int) := by omega
      have HX := Lib.hid hx
      have HY := Lib.hid hy
      clear hx hy
      have e0k := Lib.hid e0
      have f0k := Lib.hid f0
      obtain ⟨c0z0, c1z0, c2z0⟩ := cells3 B_z0
      obtain ⟨c0z1, c1z1, c2z1⟩ := cells3 B_z1
      go_upto_region 7 with (fail)
      go_quiet (fail)
      clear c0z0 c1z0 c2z0 c0z1 c1z1 c2z1 e0 f0
      have bb : Below wr.heap.size wr (wr.drewN nq) := bel_drewN (Below.refl _ _) _
      generalize wr.drewN nq = w3q at *
      replace B_z0 := mv B_z0 bb
      replace B_z1 := mv B_z1 bb
      replace B_z2 := mv B_z2 bb
      replace B_z3 := mv B_z3 bb
      replace L := Lib.hid (KB.below L.out bb)
      replace L2 := Lib.hid (KB.below L2.out bb)
      replace RVx := Lib.hid (RV.below RVx.out bb)
      replace HBS := Lib.hid (lebel HBS.out bb)
      replace HB := nx HB bb
      clear bb
      have hcs : (x ≠ 0 ∧ y ≠ 0 ∧ y ≠ x) ∨ y = x ∨ (y ≠ x ∧ y = 0) ∨ (y ≠ x ∧ y ≠ 0 ∧ x = 0) := by omega
      obtain ⟨mm, hmm⟩ : ∃ m, max y x = m := ⟨_, rfl⟩
      rcases hcs with ⟨h1, h2, h3⟩ | h3 | ⟨h3, h2⟩ | ⟨h3, h2, h1⟩
      · skip
        have HV : Hid (mgE p q l p q l2 = 11) := mgE_11 h.out hkl ⟨by rw [HX.out]; exact h1, by rw [HY.out]; exact h2, by rw [HX.out, HY.out]; exact h3⟩
        have nyx : (y != x) = true := by rw [bne, show (y == x) = false from decide_eq_false h3]; rfl
        have nyo : (y != 0) = true := by rw [bne, show (y == 0) = false from decide_eq_false h2]; rfl
        have nxo : (x != 0) = true := by rw [bne, show (x == 0) = false from decide_eq_false h1]; rfl
        have HV1 : Hid (mgV p q l p q l2 = []) := mgV_1 (by rw [HV.out]; decide)
        have HV2 : Hid (mgX p q l p q l2 p = 0) := mgX_1 (by rw [HV.out]; decide)
        have HV3 : Hid (mgX p q l p q l2 q = 0) := mgX_1 (by rw [HV.out]; decide)
        obtain ⟨s0, s1, s2⟩ := cells3 (stor3 B_z2 (.int .i64 0) (.int .i64 0) (.slice none 0 0))
        have HF := stb3 HB (y := w.heap.size + 1 + 1) (by omega) 0 (.int .i64 0) 1 (.int .i64 0) 2 (.slice none 0 0)
        obtain ⟨c0z2, c1z2, c2z2⟩ := cells3 B_z2
        obtain ⟨f0z2, f1z2, f2z2⟩ := froz3 B_z2
        go_wp2_with fail
        exact bodyPost_ret (v := .tuple #[.agg #[.int .i64 0, .int .i64 0, .slice none 0 0], .int .i64 11]) (by simp [results, Try.results47, go_sem, s0, s1, s2]) rfl ⟨none, 0, (by rw [HV.out, HV1.out, HV2.out, HV3.out]; rfl), (by rw [HV1.out]; exact kb_nil _ _), nextw HF.out (by exact sm)⟩
      · skip
        have HC2 : Hid (∀ j, j < k + 1 → ¬ conf l l2 j) := Lib.hid (fun j hj => (Nat.lt_succ_iff_lt_or_eq.mp hj).elim (HC.out j) (fun e => by subst e; intro g; unfold conf at g; rw [HX.out, HY.out] at g; omega))
        have HMM : Hid ((mgK l l2 l.length).getD k 0 = mm) := by unfold Hid; rw [← mg_max (HC2.out k (by omega)) (by rw [HY.out]; exact hyb.1) (by rw [HX.out]; exact hxb.1) hkl, HX.out, HY.out]; exact hmm
        have nyx : (y != x) = false := by rw [bne, show (y == x) = true from decide_eq_true h3]; rfl
        replace h3 := Lib.hid h3
        obtain ⟨i0, hi0, hz0, hz1, hz2⟩ := info_parts infoB
        have HI := Lib.hid hi0
        clear hi0
        have HG := Lib.hid (fun wzz (hg : (w3q.alloc (.cells #[.int .u8 mm] 5)).grownBy wzz (Value.ownBlock v)) => grownV RVx.out HBS.out hg)
        have htl : ((mgK l l2 l.length).take k).length = k := by rw [List.length_take, mgK_len]; omega
        obtain ⟨TK, hTK⟩ : ∃ t, (mgK l l2 l.length).take k = t := ⟨_, rfl⟩
        rw [hTK] at RVx htl
        have HTK := Lib.hid hTK
        clear hTK
        have htl2 : TK.length ≤ 1000000 := by omega
        replace htl := Lib.hid htl
        obtain ⟨c0z3, c1z3, c2z3⟩ := cells3 B_z3
        go_wp2_with (at_builtin; refine wpList_append_own _ rfl _ _ 22 rfl base 5 i0 (.int .u8 0) 1 1 Try.underlying22 HI.out hz0 hz1 hz2 rfl (by decide) v TK.length (vb TK) rfl (RVx.out.alloc _) ⟨w3q.heap.size, 0, none⟩ 1 1 (vb [mm]) rfl rfl (new_b w3q _) (vb_one _) (by simp only [maxLen]; omega) (by omega) (by have := HBS.out; simp; omega) ?_; intro v3 w3 hown3 hgrow3 hnil3; have HX3 := Lib.hid hown3; obtain ⟨A3, c3, hv3⟩ := own_sl hown3; subst hv3; have HY3 := Lib.hid (HG.out _ hgrow3); clear hown3 hgrow3 hnil3; refine Hid.out ?_)
        clear c0z3 c1z3 c2z3
        refine Lib.hid ?_
        have RVn : Hid (RV w3 base (.slice A3 (TK.length + 1) c3) (TK ++ [mm])) := by have h := HX3.out; unfold Hid RV; rw [List.length_append, show vb (TK ++ [mm]) = vb TK ++ vb [mm] from List.map_append]; exact h
        replace B_z0 := Lib.hid (Bx.below B_z0.out HY3.out LT_z0.out)
        replace B_z1 := Lib.hid (Bx.below B_z1.out HY3.out LT_z1.out)
        replace B_z2 := Lib.hid (Bx.below B_z2.out HY3.out LT_z2.out)
        replace B_z3 := Lib.hid (Bx.below B_z3.out HY3.out LT_z3.out)
        replace L := Lib.hid (KB.belowB L.out HY3.out TL1.out)
        replace L2 := Lib.hid (KB.belowB L2.out HY3.out TL2.out)
        replace HB := Lib.hid (HB.out.trans (HY3.out.mono HW.out))
        replace HBS := Lib.hid (Nat.le_trans HBS.out HY3.out.size)
        clear HX3 HY3 HG RVx
        obtain ⟨f0z3, f1z3, f2z3⟩ := froz3 B_z3
        obtain ⟨c0z3, c1z3, c2z3⟩ := cells3 B_z3
        have n_z3 : Hid (Bx (w3.setCell ⟨w2.heap.size, 2, none⟩ (.slice A3 (TK.length + 1) c3)) (w2.heap.size) 24 #[.int .i64 p, .int .i64 q, .slice A3 (TK.length + 1) c3]) := Lib.hid (B_z3.out.set 2 (.slice A3 (TK.length + 1) c3))
        have n_z0 := far1 B_z0 (show w.heap.size ≠ w2.heap.size from by have := HZ3.out; omega) 2 (.slice A3 (TK.length + 1) c3)
        have n_z1 := far1 B_z1 (show w.heap.size + 1 ≠ w2.heap.size from by have := HZ3.out; omega) 2 (.slice A3 (TK.length + 1) c3)
        have n_z2 := far1 B_z2 (show w.heap.size + 1 + 1 ≠ w2.heap.size from by have := HZ3.out; omega) 2 (.slice A3 (TK.length + 1) c3)
        have nHB := stb1 HB (y := w2.heap.size) (by have := HZ3.out; omega) 2 (.slice A3 (TK.length + 1) c3)
        have nL := Lib.hid (KB.set L.out (x := w2.heap.size) (Or.inr (by have := HZ4.out; omega)) 2 (.slice A3 (TK.length + 1) c3))
        have nL2 := Lib.hid (KB.set L2.out (x := w2.heap.size) (Or.inr (by have := HZ5.out; omega)) 2 (.slice A3 (TK.length + 1) c3))
        have nRV : Hid (RV (w3.setCell ⟨w2.heap.size, 2, none⟩ (.slice A3 (TK.length + 1) c3)) base (.slice A3 (TK.length + 1) c3) ((mgK l l2 l.length).take (k + 1))) := rv_cast (Lib.hid (RVn.out.farB LT_z3.out 2 (.slice A3 (TK.length + 1) c3))) (by rw [take_snocB _ (show k < (mgK l l2 l.length).length by rw [mgK_len]; exact hkl), HTK.out, HMM.out])
        have nHBS : Hid (base ≤ (w3.setCell ⟨w2.heap.size, 2, none⟩ (.slice A3 (TK.length + 1) c3)).heap.size) := Lib.hid (by have := HBS.out; simpa using this)
        clear RVn HBS L L2 B_z0 B_z1 B_z2 B_z3 HB
        go_wp2_with fail
        clear f0z3 f1z3 f2z3 c0z3 c1z3 c2z3
        go_roundw
        case rel => exact ⟨k + 1, .slice A3 (TK.length + 1) c3, by omega, by go_num, HC2, nRV, nHBS, nL, nL2, n_z0, n_z1, n_z2, n_z3, nHB⟩
        case measure => simp only [intOf]; omega
      · skip
        have HC2 : Hid (∀ j, j < k + 1 → ¬ conf l l2 j) := Lib.hid (fun j hj => (Nat.lt_succ_iff_lt_or_eq.mp hj).elim (HC.out j) (fun e => by subst e; intro g; unfold conf at g; rw [HX.out, HY.out] at g; omega))
        have HMM : Hid ((mgK l l2 l.length).getD k 0 = mm) := by unfold Hid; rw [← mg_max (HC2.out k (by omega)) (by rw [HY.out]; exact hyb.1) (by rw [HX.out]; exact hxb.1) hkl, HX.out, HY.out]; exact hmm
        have nyx : (y != x) = true := by rw [bne, show (y == x) = false from decide_eq_false h3]; rfl
        have nyo : (y != 0) = false := by rw [bne, show (y == 0) = true from decide_eq_true h2]; rfl
        replace h2 := Lib.hid h2
        replace h3 := Lib.hid h3
        obtain ⟨i0, hi0, hz0, hz1, hz2⟩ := info_parts infoB
        have HI := Lib.hid hi0
        clear hi0
        have HG := Lib.hid (fun wzz (hg : (w3q.alloc (.cells #[.int .u8 mm] 5)).grownBy wzz (Value.ownBlock v)) => grownV RVx.out HBS.out hg)
        have htl : ((mgK l l2 l.length).take k).length = k := by rw [List.length_take, mgK_len]; omega
        obtain ⟨TK, hTK⟩ : ∃ t, (mgK l l2 l.length).take k = t := ⟨_, rfl⟩
        rw [hTK] at RVx htl
        have HTK := Lib.hid hTK
        clear hTK
        have htl2 : TK.length ≤ 1000000 := by omega
        replace htl := Lib.hid htl
        obtain ⟨c0z3, c1z3, c2z3⟩ := cells3 B_z3
        go_wp2_with (at_builtin; refine wpList_append_own _ rfl _ _ 22 rfl base 5 i0 (.int .u8 0) 1 1 Try.underlying22 HI.out hz0 hz1 hz2 rfl (by decide) v TK.length (vb TK) rfl (RVx.out.alloc _) ⟨w3q.heap.size, 0, none⟩ 1 1 (vb [mm]) rfl rfl (new_b w3q _) (vb_one _) (by simp only [maxLen]; omega) (by omega) (by have := HBS.out; simp; omega) ?_; intro v3 w3 hown3 hgrow3 hnil3; have HX3 := Lib.hid hown3; obtain ⟨A3, c3, hv3⟩ := own_sl hown3; subst hv3; have HY3 := Lib.hid (HG.out _ hgrow3); clear hown3 hgrow3 hnil3; refine Hid.out ?_)
        clear c0z3 c1z3 c2z3
        refine Lib.hid ?_
        have RVn : Hid (RV w3 base (.slice A3 (TK.length + 1) c3) (TK ++ [mm])) := by have h := HX3.out; unfold Hid RV; rw [List.length_append, show vb (TK ++ [mm]) = vb TK ++ vb [mm] from List.map_append]; exact h
        replace B_z0 := Lib.hid (Bx.below B_z0.out HY3.out LT_z0.out)
        replace B_z1 := Lib.hid (Bx.below B_z1.out HY3.out LT_z1.out)
        replace B_z2 := Lib.hid (Bx.below B_z2.out HY3.out LT_z2.out)
        replace B_z3 := Lib.hid (Bx.below B_z3.out HY3.out LT_z3.out)
        replace L := Lib.hid (KB.belowB L.out HY3.out TL1.out)
        replace L2 := Lib.hid (KB.belowB L2.out HY3.out TL2.out)
        replace HB := Lib.hid (HB.out.trans (HY3.out.mono HW.out))
        replace HBS := Lib.hid (Nat.le_trans HBS.out HY3.out.size)
        clear HX3 HY3 HG RVx
        obtain ⟨f0z3, f1z3, f2z3⟩ := froz3 B_z3
        obtain ⟨c0z3, c1z3, c2z3⟩ := cells3 B_z3
        have n_z3 : Hid (Bx (w3.setCell ⟨w2.heap.size, 2, none⟩ (.slice A3 (TK.length + 1) c3)) (w2.heap.size) 24 #[.int .i64 p, .int .i64 q, .slice A3 (TK.length + 1) c3]) := Lib.hid (B_z3.out.set 2 (.slice A3 (TK.length + 1) c3))
        have n_z0 := far1 B_z0 (show w.heap.size ≠ w2.heap.size from by have := HZ3.out; omega) 2 (.slice A3 (TK.length + 1) c3)
        have n_z1 := far1 B_z1 (show w.heap.size + 1 ≠ w2.heap.size from by have := HZ3.out; omega) 2 (.slice A3 (TK.length + 1) c3)
        have n_z2 := far1 B_z2 (show w.heap.size + 1 + 1 ≠ w2.heap.size from by have := HZ3.out; omega) 2 (.slice A3 (TK.length + 1) c3)
        have nHB := stb1 HB (y := w2.heap.size) (by have := HZ3.out; omega) 2 (.slice A3 (TK.length + 1) c3)
        have nL := Lib.hid (KB.set L.out (x := w2.heap.size) (Or.inr (by have := HZ4.out; omega)) 2 (.slice A3 (TK.length + 1) c3))
        have nL2 := Lib.hid (KB.set L2.out (x := w2.heap.size) (Or.inr (by have := HZ5.out; omega)) 2 (.slice A3 (TK.length + 1) c3))
        have nRV : Hid (RV (w3.setCell ⟨w2.heap.size, 2, none⟩ (.slice A3 (TK.length + 1) c3)) base (.slice A3 (TK.length + 1) c3) ((mgK l l2 l.length).take (k + 1))) := rv_cast (Lib.hid (RVn.out.farB LT_z3.out 2 (.slice A3 (TK.length + 1) c3))) (by rw [take_snocB _ (show k < (mgK l l2 l.length).length by rw [mgK_len]; exact hkl), HTK.out, HMM.out])
        have nHBS : Hid (base ≤ (w3.setCell ⟨w2.heap.size, 2, none⟩ (.slice A3 (TK.length + 1) c3)).heap.size) := Lib.hid (by have := HBS.out; simpa using this)
        clear RVn HBS L L2 B_z0 B_z1 B_z2 B_z3 HB
        go_wp2_with fail
        clear f0z3 f1z3 f2z3 c0z3 c1z3 c2z3
        go_roundw
        case rel => exact ⟨k + 1, .slice A3 (TK.length + 1) c3, by omega, by go_num, HC2, nRV, nHBS, nL, nL2, n_z0, n_z1, n_z2, n_z3, nHB⟩
        case measure => simp only [intOf]; omega
      · skip
        have HC2 : Hid (∀ j, j < k + 1 → ¬ conf l l2 j) := Lib.hid (fun j hj => (Nat.lt_succ_iff_lt_or_eq.mp hj).elim (HC.out j) (fun e => by subst e; intro g; unfold conf at g; rw [HX.out, HY.out] at g; omega))
        have HMM : Hid ((mgK l l2 l.length).getD k 0 = mm) := by unfold Hid; rw [← mg_max (HC2.out k (by omega)) (by rw [HY.out]; exact hyb.1) (by rw [HX.out]; exact hxb.1) hkl, HX.out, HY.out]; exact hmm
        have nyx : (y != x) = true := by rw [bne, show (y == x) = false from decide_eq_false h3]; rfl
        have nyo : (y != 0) = true := by rw [bne, show (y == 0) = false from decide_eq_false h2]; rfl
        have nxo : (x != 0) = false := by rw [bne, show (x == 0) = true from decide_eq_true h1]; rfl
        replace h1 := Lib.hid h1
        replace h2 := Lib.hid h2
        replace h3 := Lib.hid h3
        obtain ⟨i0, hi0, hz0, hz1, hz2⟩ := info_parts infoB
        have HI := Lib.hid hi0
        clear hi0
        have HG := Lib.hid (fun wzz (hg : (w3q.alloc (.cells #[.int .u8 mm] 5)).grownBy wzz (Value.ownBlock v)) => grownV RVx.out HBS.out hg)
        have htl : ((mgK l l2 l.length).take k).length = k := by rw [List.length_take, mgK_len]; omega
        obtain ⟨TK, hTK⟩ : ∃ t, (mgK l l2 l.length).take k = t := ⟨_, rfl⟩
        rw [hTK] at RVx htl
        have HTK := Lib.hid hTK
        clear hTK
        have htl2 : TK.length ≤ 1000000 := by omega
        replace htl := Lib.hid htl
        obtain ⟨c0z3, c1z3, c2z3⟩ := cells3 B_z3
        go_wp2_with (at_builtin; refine wpList_append_own _ rfl _ _ 22 rfl base 5 i0 (.int .u8 0) 1 1 Try.underlying22 HI.out hz0 hz1 hz2 rfl (by decide) v TK.length (vb TK) rfl (RVx.out.alloc _) ⟨w3q.heap.size, 0, none⟩ 1 1 (vb [mm]) rfl rfl (new_b w3q _) (vb_one _) (by simp only [maxLen]; omega) (by omega) (by have := HBS.out; simp; omega) ?_; intro v3 w3 hown3 hgrow3 hnil3; have HX3 := Lib.hid hown3; obtain ⟨A3, c3, hv3⟩ := own_sl hown3; subst hv3; have HY3 := Lib.hid (HG.out _ hgrow3); clear hown3 hgrow3 hnil3; refine Hid.out ?_)
        clear c0z3 c1z3 c2z3
        refine Lib.hid ?_
        have RVn : Hid (RV w3 base (.slice A3 (TK.length + 1) c3) (TK ++ [mm])) := by have h := HX3.out; unfold Hid RV; rw [List.length_append, show vb (TK ++ [mm]) = vb TK ++ vb [mm] from List.map_append]; exact h
        replace B_z0 := Lib.hid (Bx.below B_z0.out HY3.out LT_z0.out)
        replace B_z1 := Lib.hid (Bx.below B_z1.out HY3.out LT_z1.out)
        replace B_z2 := Lib.hid (Bx.below B_z2.out HY3.out LT_z2.out)
        replace B_z3 := Lib.hid (Bx.below B_z3.out HY3.out LT_z3.out)
        replace L := Lib.hid (KB.belowB L.out HY3.out TL1.out)
        replace L2 := Lib.hid (KB.belowB L2.out HY3.out TL2.out)
        replace HB := Lib.hid (HB.out.trans (HY3.out.mono HW.out))
        replace HBS := Lib.hid (Nat.le_trans HBS.out HY3.out.size)
        clear HX3 HY3 HG RVx
        obtain ⟨f0z3, f1z3, f2z3⟩ := froz3 B_z3
        obtain ⟨c0z3, c1z3, c2z3⟩ := cells3 B_z3
        have n_z3 : Hid (Bx (w3.setCell ⟨w2.heap.size, 2, none⟩ (.slice A3 (TK.length + 1) c3)) (w2.heap.size) 24 #[.int .i64 p, .int .i64 q, .slice A3 (TK.length + 1) c3]) := Lib.hid (B_z3.out.set 2 (.slice A3 (TK.length + 1) c3))
        have n_z0 := far1 B_z0 (show w.heap.size ≠ w2.heap.size from by have := HZ3.out; omega) 2 (.slice A3 (TK.length + 1) c3)
        have n_z1 := far1 B_z1 (show w.heap.size + 1 ≠ w2.heap.size from by have := HZ3.out; omega) 2 (.slice A3 (TK.length + 1) c3)
        have n_z2 := far1 B_z2 (show w.heap.size + 1 + 1 ≠ w2.heap.size from by have := HZ3.out; omega) 2 (.slice A3 (TK.length + 1) c3)
        have nHB := stb1 HB (y := w2.heap.size) (by have := HZ3.out; omega) 2 (.slice A3 (TK.length + 1) c3)
        have nL := Lib.hid (KB.set L.out (x := w2.heap.size) (Or.inr (by have := HZ4.out; omega)) 2 (.slice A3 (TK.length + 1) c3))
        have nL2 := Lib.hid (KB.set L2.out (x := w2.heap.size) (Or.inr (by have := HZ5.out; omega)) 2 (.slice A3 (TK.length + 1) c3))
        have nRV : Hid (RV (w3.setCell ⟨w2.heap.size, 2, none⟩ (.slice A3 (TK.length + 1) c3)) base (.slice A3 (TK.length + 1) c3) ((mgK l l2 l.length).take (k + 1))) := rv_cast (Lib.hid (RVn.out.farB LT_z3.out 2 (.slice A3 (TK.length + 1) c3))) (by rw [take_snocB _ (show k < (mgK l l2 l.length).length by rw [mgK_len]; exact hkl), HTK.out, HMM.out])
        have nHBS : Hid (base ≤ (w3.setCell ⟨w2.heap.size, 2, none⟩ (.slice A3 (TK.length + 1) c3)).heap.size) := Lib.hid (by have := HBS.out; simpa using this)
        clear RVn HBS L L2 B_z0 B_z1 B_z2 B_z3 HB
        go_wp2_with fail
        clear f0z3 f1z3 f2z3 c0z3 c1z3 c2z3
        go_roundw
        case rel => exact ⟨k + 1, .slice A3 (TK.length + 1) c3, by omega, by go_num, HC2, nRV, nHBS, nL, nL2, n_z0, n_z1, n_z2, n_z3, nHB⟩
        case measure => simp only [intOf]; omega
    · skip
      have hkn : n = k := by omega
      subst hkn
      have HV : Hid (mgE p q l p q l2 = 0) := mgE_0 h.out (fun i hi => HC.out i (by omega))
      have HV1 : Hid (mgV p q l p q l2 = mgK l l2 l.length) := mgV_0 HV.out
      have HV2 : Hid (mgX p q l p q l2 p = p) := mgX_0 HV.out
      have HV3 : Hid (mgX p q l p q l2 q = q) := mgX_0 HV.out
      have RV1 := rv_cast RVx (List.take_of_length_le (by rw [mgK_len]; omega))
      obtain ⟨AR, cR, e1, kr⟩ := RV1.out.kb (mgK_byte hal.out hby.out hby2.out)
      rw [mgK_len, ← hln.out] at e1
      subst e1
      have KO : Hid (KB wr base wr.heap.size AR n cR (mgK l l2 l.length)) := by rw [mgK_len, ← hln.out] at kr; first | exact kr | (rw [hln.out] at kr; exact kr) | (have e := hln.out; unfold Hid; rw [show mgK l l2 l.length = mgK l l2 n by rw [e]]; exact kr)
      have HVL : Hid ((mgV p q l p q l2).length = n) := by unfold Hid; rw [HV1.out, mgK_len, ← hln.out]
      clear kr RV1 RVx
      obtain ⟨s0, s1, s2⟩ := cells3 (stor3 B_z2 (.int .i64 p) (.int .i64 q) (.slice AR n cR))
      have HF := stb3 HB (y := w.heap.size + 1 + 1) (by omega) 0 (.int .i64 p) 1 (.int .i64 q) 2 (.slice AR n cR)
      obtain ⟨c0z2, c1z2, c2z2⟩ := cells3 B_z2
      obtain ⟨f0z2, f1z2, f2z2⟩ := froz3 B_z2
      obtain ⟨c0z0, c1z0, c2z0⟩ := cells3 B_z0
      obtain ⟨c0z3, c1z3, c2z3⟩ := cells3 B_z3
      go_wp2_with fail
      exact bodyPost_ret (v := .tuple #[.agg #[.int .i64 p, .int .i64 q, .slice AR n cR], .int .i64 0]) (by simp [results, Try.results47, go_sem, s0, s1, s2]) rfl ⟨AR, cR, (by rw [HV.out, HV2.out, HV3.out, HVL.out]), (by rw [HVL.out, HV1.out]; exact KB.outw (KB.below (KB.set (KB.set (KB.set KO.out (Or.inl LT_z2.out) 0 (.int .i64 p)) (Or.inl LT_z2.out) 1 (.int .i64 q)) (Or.inl LT_z2.out) 2 (.slice AR n cR)) (by exact sm)) HW.out), nextw HF.out (by exact sm)⟩

theorem RMerge_is (p q u v : Int) (A : Option Addr) (n c : Nat) (l : List Int) (A2 : Option Addr) (n2 c2 : Nat) (l2 : List Int) (hn : n ≤ 1000000) (hn2 : n2 ≤ 1000000) (w : World) {lo hi lo2 hi2 : Nat} (L : KB w lo hi A n c l) (L2 : KB w lo2 hi2 A2 n2 c2 l2) : Calls Try.prog 47 #[.agg #[.int .i64 p, .int .i64 q, .slice A n c], .agg #[.int .i64 u, .int .i64 v, .slice A2 n2 c2]] w fun e w' => ∃ A c, e = .returned (.tuple #[.agg #[.int .i64 (mgX p q l u v l2 p), .int .i64 (mgX p q l u v l2 q), .slice A (mgV p q l u v l2).length c], .int .i64 (mgE p q l u v l2)]) ∧ KB w' w.heap.size w'.heap.size A (mgV p q l u v l2).length c (mgV p q l u v l2) ∧ Below w.heap.size w w' := by
  by_cases k0 : OkP p q l
  · by_cases k1 : OkP u v l2
    · by_cases k2 : p = u
      · by_cases k3 : q = v
        · exact RMerge_yes p q u v A n c l A2 n2 c2 l2 hn hn2 ⟨k0, k1, k2, k3⟩ w L L2
        · exact RMerge_4 p q u v A n c l A2 n2 c2 l2 hn hn2 k0 k1 k2 k3 w L L2
      · exact RMerge_3 p q u v A n c l A2 n2 c2 l2 hn hn2 k0 k1 k2 w L L2
    · exact RMerge_2 p q u v A n c l A2 n2 c2 l2 hn hn2 k0 k1 w L L2
  · exact RMerge_1 p q u v A n c l A2 n2 c2 l2 hn hn2 k0 w L L2
end Go.Proofs.Ytkhcogfajihecaa
