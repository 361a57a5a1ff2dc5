/- wayfinderbase.Cells; fractions. -/
import Derived.Test.YtkhcogfajihecaaY8
import Derived.Test.YtkhcogfajihecaaYBase
set_option linter.unusedVariables false
set_option linter.unusedSimpArgs false
namespace Go.Proofs.Ytkhcogfajihecaa
open Go Go.RowKit Hd

theorem PL.el {w : World} {lo hi g o n c i : Nat} {l : List P2} {px py : Int} (h : PL w lo hi (some ⟨g, o, none⟩) n c l) (hi' : i < n) (e : l.getD i z2 = (px, py)) : w.cell? ⟨g, o + i * 2, none⟩ = some (.int .i64 px) ∧ w.cell? ⟨g, o + i * 2 + 1, none⟩ = some (.int .i64 py) := by
  obtain ⟨g', o', e1, -, h1, h2⟩ := h.elem hi'
  cases e1
  rw [e] at h1 h2
  exact ⟨h1, h2⟩
set_option maxRecDepth 100000 in
set_option maxHeartbeats 4000000 in
theorem BCells_is (A : Option Addr) (n c : Nat) (l : List P2) (A2 : Option Addr) (n2 c2 : Nat) (l2 : List P2)  (hn : n ≤ 1000000) (hn2 : n2 ≤ 1000000) (w : World) {lo_L hi_L : Nat} (L : PL w lo_L hi_L A n c l) {lo_L2 hi_L2 : Nat} (L2 : PL w lo_L2 hi_L2 A2 n2 c2 l2) :
    Calls Try.prog 36 #[.slice A n c, .slice A2 n2 c2] w fun e w' => e = .returned (.bool (decide (l = l2))) ∧ Below w.heap.size w w' := by
  have hiL_L : hi_L ≤ w.heap.size := L.top
  replace L := Lib.hid L
  have hiL_L2 : hi_L2 ≤ w.heap.size := L2.top
  replace L2 := Lib.hid L2
  by_cases dd0 : ((n : Nat) : Int) = ((n2 : Nat) : Int)
  · skip
    have hle1 : n ≤ n2 := by omega
    have hle2 : n2 ≤ n := by omega
    replace dd0 := Lib.hid dd0
    have HB := Lib.hid (Below.refl w.heap.size w)
    go_enter Try.func36, Try.ntmps36
    go_upto_region 1 with (fail)
    have od0 : (((n : Nat) : Int) == ((n2 : Nat) : Int)) = true := decide_eq_true dd0.out
    have ob0 : (((n : Nat) : Int) != ((n2 : Nat) : Int)) = false := by rw [bne, od0]; rfl
    go_wp2_with fail
    go_loopw [5] (fun  kk wx => ∃ (k : Nat), k ≤ n ∧ kk = .int .i64 k ∧ Hid (l.take k = l2.take k) ∧ Hid (PL wx lo_L hi_L A n c l) ∧ Hid (PL wx lo_L2 hi_L2 A2 n2 c2 l2) ∧ Hid (Below w.heap.size w wx)) (fun  kk _ => n - (intOf kk).toNat)
    case atStart => exact ⟨0, by omega, rfl, Lib.hid (by simp), L, L2, HB⟩
    case round =>
      clear L L2 HB
      obtain ⟨k, hk, rfl, HK, L, L2, HB⟩ := hrel
      by_cases hlt : k < n
      · skip
        have hlq0L : k < n := by omega
        obtain ⟨g_L, o_L, eA_L, -, -, -⟩ := L.out.elem hlq0L
        subst eA_L
        obtain ⟨⟨x_q0L, y_q0L⟩, hpq0L⟩ : ∃ q, l.getD k z2 = q := ⟨_, rfl⟩
        have HPq0L := Lib.hid hpq0L
        have HLq0L := Lib.hid hlq0L
        have hmq0L : (x_q0L, y_q0L) ∈ l := by rw [← hpq0L]; exact getD_mem (by have := L.out.len; omega)
        clear hpq0L hlq0L
        have hlq1L2 : k < n2 := by omega
        obtain ⟨g_L2, o_L2, eA_L2, -, -, -⟩ := L2.out.elem hlq1L2
        subst eA_L2
        obtain ⟨⟨x_q1L2, y_q1L2⟩, hpq1L2⟩ : ∃ q, l2.getD k z2 = q := ⟨_, rfl⟩
        have HPq1L2 := Lib.hid hpq1L2
        have HLq1L2 := Lib.hid hlq1L2
        have hmq1L2 : (x_q1L2, y_q1L2) ∈ l2 := by rw [← hpq1L2]; exact getD_mem (by have := L2.out.len; omega)
        clear hpq1L2 hlq1L2
        by_cases dd2 : x_q0L = x_q1L2
        · skip
          by_cases dd3 : y_q0L = y_q1L2
          · skip
            replace dd2 := Lib.hid dd2
            replace dd3 := Lib.hid dd3
            go_upto_region 6 with (fail)
            have e0q0L : wr.cell? ⟨g_L, o_L + k * 2, none⟩ = some (.int .i64 x_q0L) := (PL.el L.out HLq0L.out HPq0L.out).1
            have e1q0L : wr.cell? ⟨g_L, o_L + k * 2 + 1, none⟩ = some (.int .i64 y_q0L) := (PL.el L.out HLq0L.out HPq0L.out).2
            have e0q1L2 : wr.cell? ⟨g_L2, o_L2 + k * 2, none⟩ = some (.int .i64 x_q1L2) := (PL.el L2.out HLq1L2.out HPq1L2.out).1
            have e1q1L2 : wr.cell? ⟨g_L2, o_L2 + k * 2 + 1, none⟩ = some (.int .i64 y_q1L2) := (PL.el L2.out HLq1L2.out HPq1L2.out).2
            have od2 : (x_q0L == x_q1L2) = true := decide_eq_true dd2.out
            have od3 : (y_q0L == y_q1L2) = true := decide_eq_true dd3.out
            have ob2 : (x_q0L != x_q1L2) = false := by rw [bne, od2]; rfl
            have ob3 : (y_q0L != y_q1L2) = false := by rw [bne, od3]; rfl
            go_quiet (fail)
            clear e0q0L e1q0L e0q1L2 e1q1L2
            have bb : Below wr.heap.size wr (wr.drewN nq) := bel_drewN (Below.refl _ _) _
            generalize wr.drewN nq = w1q at *
            replace L := Lib.hid (PL.below L.out bb)
            replace L2 := Lib.hid (PL.below L2.out bb)
            replace HB := nx HB bb
            clear bb
            have HK2 : Hid (l.take (k + 1) = l2.take (k + 1)) := by unfold Hid; rw [take_snoc l z2 (k := k) (by have := L.out.len; omega), take_snoc l2 z2 (k := k) (by have := L2.out.len; omega), HK.out, HPq0L.out, HPq1L2.out, dd2.out, dd3.out]
            go_wp2_with fail
            go_roundw
            case rel => exact ⟨k + 1, by omega, by go_num, HK2, L, L2, HB⟩
            case measure => simp only [intOf]; omega
          · skip
            replace dd2 := Lib.hid dd2
            go_upto_region 6 with (fail)
            have e0q0L : wr.cell? ⟨g_L, o_L + k * 2, none⟩ = some (.int .i64 x_q0L) := (PL.el L.out HLq0L.out HPq0L.out).1
            have e1q0L : wr.cell? ⟨g_L, o_L + k * 2 + 1, none⟩ = some (.int .i64 y_q0L) := (PL.el L.out HLq0L.out HPq0L.out).2
            have e0q1L2 : wr.cell? ⟨g_L2, o_L2 + k * 2, none⟩ = some (.int .i64 x_q1L2) := (PL.el L2.out HLq1L2.out HPq1L2.out).1
            have e1q1L2 : wr.cell? ⟨g_L2, o_L2 + k * 2 + 1, none⟩ = some (.int .i64 y_q1L2) := (PL.el L2.out HLq1L2.out HPq1L2.out).2
            have od2 : (x_q0L == x_q1L2) = true := decide_eq_true dd2.out
            have od3 : (y_q0L == y_q1L2) = false := decide_eq_false dd3
            have ob2 : (x_q0L != x_q1L2) = false := by rw [bne, od2]; rfl
            have ob3 : (y_q0L != y_q1L2) = true := by rw [bne, od3]; rfl
            go_quiet (fail)
            clear e0q0L e1q0L e0q1L2 e1q1L2
            have bb : Below wr.heap.size wr (wr.drewN nq) := bel_drewN (Below.refl _ _) _
            generalize wr.drewN nq = w2q at *
            replace L := Lib.hid (PL.below L.out bb)
            replace L2 := Lib.hid (PL.below L2.out bb)
            replace HB := nx HB bb
            clear bb
            have HE : Hid (¬ l = l2) := fun h => by have h4 := HPq0L.out; rw [h, HPq1L2.out] at h4; injection h4 with h5 h6; have e0 := dd0.out; have e1 := dd2.out; have e2 := dd3; omega
            go_wp2
            go_ret
            exact ⟨rb (decide_eq_false HE.out).symm, nextw HB.out (by exact sm)⟩
        · skip
          go_upto_region 6 with (fail)
          have e0q0L : wr.cell? ⟨g_L, o_L + k * 2, none⟩ = some (.int .i64 x_q0L) := (PL.el L.out HLq0L.out HPq0L.out).1
          have e1q0L : wr.cell? ⟨g_L, o_L + k * 2 + 1, none⟩ = some (.int .i64 y_q0L) := (PL.el L.out HLq0L.out HPq0L.out).2
          have e0q1L2 : wr.cell? ⟨g_L2, o_L2 + k * 2, none⟩ = some (.int .i64 x_q1L2) := (PL.el L2.out HLq1L2.out HPq1L2.out).1
          have e1q1L2 : wr.cell? ⟨g_L2, o_L2 + k * 2 + 1, none⟩ = some (.int .i64 y_q1L2) := (PL.el L2.out HLq1L2.out HPq1L2.out).2
          have od2 : (x_q0L == x_q1L2) = false := decide_eq_false dd2
          have ob2 : (x_q0L != x_q1L2) = true := by rw [bne, od2]; rfl
          go_quiet (fail)
          clear e0q0L e1q0L e0q1L2 e1q1L2
          have bb : Below wr.heap.size wr (wr.drewN nq) := bel_drewN (Below.refl _ _) _
          generalize wr.drewN nq = w3q at *
          replace L := Lib.hid (PL.below L.out bb)
          replace L2 := Lib.hid (PL.below L2.out bb)
          replace HB := nx HB bb
          clear bb
          have HE : Hid (¬ l = l2) := fun h => by have h4 := HPq0L.out; rw [h, HPq1L2.out] at h4; injection h4 with h5 h6; have e0 := dd0.out; have e1 := dd2; omega
          go_wp2
          go_ret
          exact ⟨rb (decide_eq_false HE.out).symm, nextw HB.out (by exact sm)⟩
      · skip
        have hkn : n = k := by omega
        subst hkn
        have HE : Hid (l = l2) := by have h := HK.out; rw [List.take_of_length_le (by have := L.out.len; omega), List.take_of_length_le (by have := L2.out.len; omega)] at h; exact h
        go_wp2
        go_ret
        exact ⟨rb (decide_eq_true HE.out).symm, nextw HB.out (by exact sm)⟩
  · skip
    have HB := Lib.hid (Below.refl w.heap.size w)
    go_enter Try.func36, Try.ntmps36
    go_upto_region 1 with (fail)
    have od0 : (((n : Nat) : Int) == ((n2 : Nat) : Int)) = false := decide_eq_false dd0
    have ob0 : (((n : Nat) : Int) != ((n2 : Nat) : Int)) = true := by rw [bne, od0]; rfl
    have HE : Hid (¬ l = l2) := fun h => by have := congrArg List.length h; have := L.out.len; have := L2.out.len; have := dd0; omega
    go_wp2
    go_ret
    exact ⟨rb (decide_eq_false HE.out).symm, nextw HB.out (by exact sm)⟩

set_option maxRecDepth 100000 in
set_option maxHeartbeats 4000000 in
theorem less_w0 (a b c d : Int)  (h1 : Wi (a * d) 1152921504606846976) (h2 : Wi (c * b) 1152921504606846976)  (w : World) :
    Calls Try.prog 97 #[.agg #[.int .i64 a, .int .i64 b], .agg #[.int .i64 c, .int .i64 d]] w fun e w' => e = .returned (.bool (decide ((a * d) < (c * b)))) ∧ Below w.heap.size w w' := by
  have h11 := h1.1
  have h12 := h1.2
  have h21 := h2.1
  have h22 := h2.2
  obtain ⟨HB, B_z0, B_z1⟩ := box2 w 99 #[.int .i64 a, .int .i64 b] 99 #[.int .i64 c, .int .i64 d]
  go_enter Try.func97, Try.ntmps97
  go_upto_region 1 with (fail)
  generalize (w.alloc (.cells #[.int .i64 a, .int .i64 b] 99)).alloc (.cells #[.int .i64 c, .int .i64 d] 99) = W0 at *
  obtain ⟨c0z0, c1z0⟩ := cells2 B_z0
  obtain ⟨c0z1, c1z1⟩ := cells2 B_z1
  go_wp2
  go_ret
  exact ⟨(by first | rfl | exact rbt (by omega) | exact rbf (by omega)), nextw HB.out (by exact sm)⟩

def lessV (a b c d : Int) : Value := .bool (decide ((a * d) < (c * b)))
theorem less_any (a b c d : Int) (h1 : Wi (a * d) 1152921504606846976) (h2 : Wi (c * b) 1152921504606846976) (w : World) :
    Calls Try.prog 97 #[.agg #[.int .i64 a, .int .i64 b], .agg #[.int .i64 c, .int .i64 d]] w fun e w' => e = .returned (lessV a b c d) ∧ Below w.heap.size w w' := by
  unfold lessV
  exact less_w0 a b c d   h1 h2  w 

theorem less_is (a b c d : Int) (h1 : Wi (a * d) 1152921504606846976) (h2 : Wi (c * b) 1152921504606846976) (w : World) : Calls Try.prog 97 #[.agg #[.int .i64 a, .int .i64 b], .agg #[.int .i64 c, .int .i64 d]] w fun e w' => e = .returned (.bool (decide (a * d < c * b))) ∧ Below w.heap.size w w' := by
  rw [← show lessV a b c d = .bool (decide (a * d < c * b)) from (by unfold lessV; rfl)]; exact less_any a b c d h1 h2 w

set_option maxRecDepth 100000 in
set_option maxHeartbeats 4000000 in
theorem later_w0 (a b c d : Int)  (h1 : Wi (a * d) 1152921504606846976) (h2 : Wi (c * b) 1152921504606846976) (dd0 : a * d < c * b) (w : World) :
    Calls Try.prog 88 #[.agg #[.int .i64 a, .int .i64 b], .agg #[.int .i64 c, .int .i64 d]] w fun e w' => e = .returned (.agg #[.int .i64 c, .int .i64 d]) ∧ Below w.heap.size w w' := by
  have H0 := Lib.hid (fun w => less_is a b c d h1 h2 w)
  obtain ⟨HB, B_z0, B_z1, B_z2⟩ := box3 w 99 #[.int .i64 a, .int .i64 b] 99 #[.int .i64 c, .int .i64 d] 99 #[.int .i64 0, .int .i64 0]
  go_enter Try.func88, Try.ntmps88
  go_upto_region 1 with (fail)
  generalize ((w.alloc (.cells #[.int .i64 a, .int .i64 b] 99)).alloc (.cells #[.int .i64 c, .int .i64 d] 99)).alloc (.cells #[.int .i64 0, .int .i64 0] 99) = W0 at *
  obtain ⟨c0z0, c1z0⟩ := cells2 B_z0
  obtain ⟨c0z1, c1z1⟩ := cells2 B_z1
  go_wp2_with fail
  refine (H0.out _).mono ?_
  clear c0z0 c1z0 c0z1 c1z1
  rintro e w1 ⟨rfl, bb⟩
  replace bb := nextw (w0 := W0) (by exact sm) bb
  replace B_z0 := mv B_z0 bb
  replace B_z1 := mv B_z1 bb
  replace B_z2 := mv B_z2 bb
  replace HB := nx HB bb
  clear bb
  obtain ⟨c0z1, c1z1⟩ := cells2 B_z1
  obtain ⟨s0, s1⟩ := cells2 (stor2 B_z2 (.int .i64 c) (.int .i64 d))
  have HF := stb2 HB (y := w.heap.size + 1 + 1) (by omega) 0 (.int .i64 c) 1 (.int .i64 d)
  obtain ⟨c0z2, c1z2⟩ := cells2 B_z2
  obtain ⟨f0z2, f1z2⟩ := froz2 B_z2
  go_wp2_with fail
  exact bodyPost_ret (v := .agg #[.int .i64 c, .int .i64 d]) (by simp [results, Try.results88, go_sem, s0, s1]) rfl ⟨rfl, nextw HF.out (by exact sm)⟩

set_option maxRecDepth 100000 in
set_option maxHeartbeats 4000000 in
theorem later_w1 (a b c d : Int)  (h1 : Wi (a * d) 1152921504606846976) (h2 : Wi (c * b) 1152921504606846976) (dd0 : c * b ≤ a * d) (w : World) :
    Calls Try.prog 88 #[.agg #[.int .i64 a, .int .i64 b], .agg #[.int .i64 c, .int .i64 d]] w fun e w' => e = .returned (.agg #[.int .i64 a, .int .i64 b]) ∧ Below w.heap.size w w' := by
  have H0 := Lib.hid (fun w => less_is a b c d h1 h2 w)
  obtain ⟨HB, B_z0, B_z1, B_z2⟩ := box3 w 99 #[.int .i64 a, .int .i64 b] 99 #[.int .i64 c, .int .i64 d] 99 #[.int .i64 0, .int .i64 0]
  go_enter Try.func88, Try.ntmps88
  go_upto_region 1 with (fail)
  generalize ((w.alloc (.cells #[.int .i64 a, .int .i64 b] 99)).alloc (.cells #[.int .i64 c, .int .i64 d] 99)).alloc (.cells #[.int .i64 0, .int .i64 0] 99) = W0 at *
  obtain ⟨c0z0, c1z0⟩ := cells2 B_z0
  obtain ⟨c0z1, c1z1⟩ := cells2 B_z1
  go_wp2_with fail
  refine (H0.out _).mono ?_
  clear c0z0 c1z0 c0z1 c1z1
  rintro e w1 ⟨rfl, bb⟩
  replace bb := nextw (w0 := W0) (by exact sm) bb
  replace B_z0 := mv B_z0 bb
  replace B_z1 := mv B_z1 bb
  replace B_z2 := mv B_z2 bb
  replace HB := nx HB bb
  clear bb
  obtain ⟨c0z0, c1z0⟩ := cells2 B_z0
  obtain ⟨s0, s1⟩ := cells2 (stor2 B_z2 (.int .i64 a) (.int .i64 b))
  have HF := stb2 HB (y := w.heap.size + 1 + 1) (by omega) 0 (.int .i64 a) 1 (.int .i64 b)
  obtain ⟨c0z2, c1z2⟩ := cells2 B_z2
  obtain ⟨f0z2, f1z2⟩ := froz2 B_z2
  go_wp2_with fail
  exact bodyPost_ret (v := .agg #[.int .i64 a, .int .i64 b]) (by simp [results, Try.results88, go_sem, s0, s1]) rfl ⟨rfl, nextw HF.out (by exact sm)⟩

def laterV (a b c d : Int) : Value := if a * d < c * b then .agg #[.int .i64 c, .int .i64 d] else .agg #[.int .i64 a, .int .i64 b]
theorem later_any (a b c d : Int) (h1 : Wi (a * d) 1152921504606846976) (h2 : Wi (c * b) 1152921504606846976) (w : World) :
    Calls Try.prog 88 #[.agg #[.int .i64 a, .int .i64 b], .agg #[.int .i64 c, .int .i64 d]] w fun e w' => e = .returned (laterV a b c d) ∧ Below w.heap.size w w' := by
  unfold laterV
  by_cases dd0 : a * d < c * b
  · rw [if_pos dd0]
    exact later_w0 a b c d   h1 h2 dd0 w 
  · rw [if_neg dd0]
    exact later_w1 a b c d   h1 h2 (by omega) w 

set_option maxRecDepth 100000 in
set_option maxHeartbeats 4000000 in
theorem earlier_w0 (a b c d : Int)  (h1 : Wi (a * d) 1152921504606846976) (h2 : Wi (c * b) 1152921504606846976) (dd0 : c * b < a * d) (w : World) :
    Calls Try.prog 89 #[.agg #[.int .i64 a, .int .i64 b], .agg #[.int .i64 c, .int .i64 d]] w fun e w' => e = .returned (.agg #[.int .i64 c, .int .i64 d]) ∧ Below w.heap.size w w' := by
  have H0 := Lib.hid (fun w => less_is c d a b h2 h1 w)
  obtain ⟨HB, B_z0, B_z1, B_z2⟩ := box3 w 99 #[.int .i64 a, .int .i64 b] 99 #[.int .i64 c, .int .i64 d] 99 #[.int .i64 0, .int .i64 0]
  go_enter Try.func89, Try.ntmps89
  go_upto_region 1 with (fail)
  generalize ((w.alloc (.cells #[.int .i64 a, .int .i64 b] 99)).alloc (.cells #[.int .i64 c, .int .i64 d] 99)).alloc (.cells #[.int .i64 0, .int .i64 0] 99) = W0 at *
  obtain ⟨c0z1, c1z1⟩ := cells2 B_z1
  obtain ⟨c0z0, c1z0⟩ := cells2 B_z0
  go_wp2_with fail
  refine (H0.out _).mono ?_
  clear c0z1 c1z1 c0z0 c1z0
  rintro e w1 ⟨rfl, bb⟩
  replace bb := nextw (w0 := W0) (by exact sm) bb
  replace B_z0 := mv B_z0 bb
  replace B_z1 := mv B_z1 bb
  replace B_z2 := mv B_z2 bb
  replace HB := nx HB bb
  clear bb
  obtain ⟨c0z1, c1z1⟩ := cells2 B_z1
  obtain ⟨s0, s1⟩ := cells2 (stor2 B_z2 (.int .i64 c) (.int .i64 d))
  have HF := stb2 HB (y := w.heap.size + 1 + 1) (by omega) 0 (.int .i64 c) 1 (.int .i64 d)
  obtain ⟨c0z2, c1z2⟩ := cells2 B_z2
  obtain ⟨f0z2, f1z2⟩ := froz2 B_z2
  go_wp2_with fail
  exact bodyPost_ret (v := .agg #[.int .i64 c, .int .i64 d]) (by simp [results, Try.results89, go_sem, s0, s1]) rfl ⟨rfl, nextw HF.out (by exact sm)⟩

set_option maxRecDepth 100000 in
set_option maxHeartbeats 4000000 in
theorem earlier_w1 (a b c d : Int)  (h1 : Wi (a * d) 1152921504606846976) (h2 : Wi (c * b) 1152921504606846976) (dd0 : a * d ≤ c * b) (w : World) :
    Calls Try.prog 89 #[.agg #[.int .i64 a, .int .i64 b], .agg #[.int .i64 c, .int .i64 d]] w fun e w' => e = .returned (.agg #[.int .i64 a, .int .i64 b]) ∧ Below w.heap.size w w' := by
  have H0 := Lib.hid (fun w => less_is c d a b h2 h1 w)
  obtain ⟨HB, B_z0, B_z1, B_z2⟩ := box3 w 99 #[.int .i64 a, .int .i64 b] 99 #[.int .i64 c, .int .i64 d] 99 #[.int .i64 0, .int .i64 0]
  go_enter Try.func89, Try.ntmps89
  go_upto_region 1 with (fail)
  generalize ((w.alloc (.cells #[.int .i64 a, .int .i64 b] 99)).alloc (.cells #[.int .i64 c, .int .i64 d] 99)).alloc (.cells #[.int .i64 0, .int .i64 0] 99) = W0 at *
  obtain ⟨c0z1, c1z1⟩ := cells2 B_z1
  obtain ⟨c0z0, c1z0⟩ := cells2 B_z0
  go_wp2_with fail
  refine (H0.out _).mono ?_
  clear c0z1 c1z1 c0z0 c1z0
  rintro e w1 ⟨rfl, bb⟩
  replace bb := nextw (w0 := W0) (by exact sm) bb
  replace B_z0 := mv B_z0 bb
  replace B_z1 := mv B_z1 bb
  replace B_z2 := mv B_z2 bb
  replace HB := nx HB bb
  clear bb
  obtain ⟨c0z0, c1z0⟩ := cells2 B_z0
  obtain ⟨s0, s1⟩ := cells2 (stor2 B_z2 (.int .i64 a) (.int .i64 b))
  have HF := stb2 HB (y := w.heap.size + 1 + 1) (by omega) 0 (.int .i64 a) 1 (.int .i64 b)
  obtain ⟨c0z2, c1z2⟩ := cells2 B_z2
  obtain ⟨f0z2, f1z2⟩ := froz2 B_z2
  go_wp2_with fail
  exact bodyPost_ret (v := .agg #[.int .i64 a, .int .i64 b]) (by simp [results, Try.results89, go_sem, s0, s1]) rfl ⟨rfl, nextw HF.out (by exact sm)⟩

def earlierV (a b c d : Int) : Value := if c * b < a * d then .agg #[.int .i64 c, .int .i64 d] else .agg #[.int .i64 a, .int .i64 b]
theorem earlier_any (a b c d : Int) (h1 : Wi (a * d) 1152921504606846976) (h2 : Wi (c * b) 1152921504606846976) (w : World) :
    Calls Try.prog 89 #[.agg #[.int .i64 a, .int .i64 b], .agg #[.int .i64 c, .int .i64 d]] w fun e w' => e = .returned (earlierV a b c d) ∧ Below w.heap.size w w' := by
  unfold earlierV
  by_cases dd0 : c * b < a * d
  · rw [if_pos dd0]
    exact earlier_w0 a b c d   h1 h2 dd0 w 
  · rw [if_neg dd0]
    exact earlier_w1 a b c d   h1 h2 (by omega) w 
end Go.Proofs.Ytkhcogfajihecaa
