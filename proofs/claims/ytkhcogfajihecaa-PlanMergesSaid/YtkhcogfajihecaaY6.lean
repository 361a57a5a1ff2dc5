/- the reference's Valid; plan.Count. -/
import Derived.Test.YtkhcogfajihecaaY5
set_option linter.unusedVariables false
set_option linter.unusedSimpArgs false
namespace Go.Proofs.Ytkhcogfajihecaa
open Go Go.RowKit Hd

/-- How many of the first k bytes are v. -/
def cntB (l : List Int) (v : Int) : Nat → Int
  | 0 => 0
  | k + 1 => if l.getD k 0 = v then cntB l v k + 1 else cntB l v k
theorem cntB_bd (l : List Int) (v : Int) (k : Nat) : 0 ≤ cntB l v k ∧ cntB l v k ≤ k := by
  induction k with
  | zero => simp [cntB]
  | succ k ih => unfold cntB; split <;> omega
/-- The number of cells with a value. -/
def cntX (p q : Int) (l : List Int) (v : Int) : Int := if OkP p q l then cntB l v l.length else 0
theorem okp_len {p q : Int} {l : List Int} (h : OkP p q l) : 1 ≤ l.length ∧ l.length ≤ 4096 := by
  obtain ⟨⟨a, b⟩, ⟨c, d⟩, e, _⟩ := h
  have k1 := Int.mul_le_mul b d (by omega) (by omega)
  have k2 := Int.mul_le_mul a c (by omega) (by omega)
  omega

set_option maxRecDepth 100000 in
set_option maxHeartbeats 4000000 in
theorem BPlan_is (p q : Int) (A : Option Addr) (n c : Nat) (l : List Int)  (hn : n ≤ 1000000) (w : World) {lo_L hi_L : Nat} (L : KB w lo_L hi_L A n c l) :
    Calls Try.prog 58 #[.agg #[.int .i64 p, .int .i64 q, .slice A n c]] w fun e w' => e = .returned (.bool (decide (OkP p q l))) ∧ Below w.heap.size w w' := by
  have hiL_L : hi_L ≤ w.heap.size := L.top
  replace L := Lib.hid L
  by_cases dd0 : p < 1
  · skip
    obtain ⟨HB, B_z0⟩ := box1 w 24 #[.int .i64 p, .int .i64 q, .slice A n c]
    replace L := Lib.hid (KB.below L.out HB.out)
    go_enter Try.func58, Try.ntmps58
    go_upto_region 1 with (fail)
    generalize w.alloc (.cells #[.int .i64 p, .int .i64 q, .slice A n c] 24) = W0 at *
    obtain ⟨c0z0, c1z0, c2z0⟩ := cells3 B_z0
    have hlen := Lib.hid L.out.len
    have HN : Hid (¬ OkP p q l) := fun h => by obtain ⟨⟨a1, a2⟩, ⟨a3, a4⟩, a5, -⟩ := h; have := hlen.out; have e0 := dd0; omega
    go_wp2
    go_ret
    exact ⟨rb (decide_eq_false HN.out).symm, nextw HB.out (by exact sm)⟩
  · skip
    replace dd0 : 1 ≤ p := by omega
    by_cases dd1 : 64 < p
    · skip
      obtain ⟨HB, B_z0⟩ := box1 w 24 #[.int .i64 p, .int .i64 q, .slice A n c]
      replace L := Lib.hid (KB.below L.out HB.out)
      go_enter Try.func58, Try.ntmps58
      go_upto_region 1 with (fail)
      generalize w.alloc (.cells #[.int .i64 p, .int .i64 q, .slice A n c] 24) = W0 at *
      obtain ⟨c0z0, c1z0, c2z0⟩ := cells3 B_z0
      have hlen := Lib.hid L.out.len
      have HN : Hid (¬ OkP p q l) := fun h => by obtain ⟨⟨a1, a2⟩, ⟨a3, a4⟩, a5, -⟩ := h; have := hlen.out; have e0 := dd0; have e1 := dd1; omega
      go_wp2
      go_ret
      exact ⟨rb (decide_eq_false HN.out).symm, nextw HB.out (by exact sm)⟩
    · skip
      replace dd1 : p ≤ 64 := by omega
      by_cases dd2 : q < 1
      · skip
        obtain ⟨HB, B_z0⟩ := box1 w 24 #[.int .i64 p, .int .i64 q, .slice A n c]
        replace L := Lib.hid (KB.below L.out HB.out)
        go_enter Try.func58, Try.ntmps58
        go_upto_region 1 with (fail)
        generalize w.alloc (.cells #[.int .i64 p, .int .i64 q, .slice A n c] 24) = W0 at *
        obtain ⟨c0z0, c1z0, c2z0⟩ := cells3 B_z0
        have hlen := Lib.hid L.out.len
        have HN : Hid (¬ OkP p q l) := fun h => by obtain ⟨⟨a1, a2⟩, ⟨a3, a4⟩, a5, -⟩ := h; have := hlen.out; have e0 := dd0; have e1 := dd1; have e2 := dd2; omega
        go_wp2
        go_ret
        exact ⟨rb (decide_eq_false HN.out).symm, nextw HB.out (by exact sm)⟩
      · skip
        replace dd2 : 1 ≤ q := by omega
        by_cases dd3 : 64 < q
        · skip
          obtain ⟨HB, B_z0⟩ := box1 w 24 #[.int .i64 p, .int .i64 q, .slice A n c]
          replace L := Lib.hid (KB.below L.out HB.out)
          go_enter Try.func58, Try.ntmps58
          go_upto_region 1 with (fail)
          generalize w.alloc (.cells #[.int .i64 p, .int .i64 q, .slice A n c] 24) = W0 at *
          obtain ⟨c0z0, c1z0, c2z0⟩ := cells3 B_z0
          have hlen := Lib.hid L.out.len
          have HN : Hid (¬ OkP p q l) := fun h => by obtain ⟨⟨a1, a2⟩, ⟨a3, a4⟩, a5, -⟩ := h; have := hlen.out; have e0 := dd0; have e1 := dd1; have e2 := dd2; have e3 := dd3; omega
          go_wp2
          go_ret
          exact ⟨rb (decide_eq_false HN.out).symm, nextw HB.out (by exact sm)⟩
        · skip
          replace dd3 : q ≤ 64 := by omega
          by_cases dd4 : ((n : Nat) : Int) = (p * q)
          · skip
            have hpq : 1 ≤ p * q ∧ p * q ≤ 4096 := by have k1 := Int.mul_le_mul (show p ≤ 64 by omega) (show q ≤ 64 by omega) (by omega) (by omega); have k2 := Int.mul_le_mul (show 1 ≤ p by omega) (show 1 ≤ q by omega) (by omega) (by omega); omega
            obtain ⟨hpq1, hpq2⟩ := hpq
            replace dd4 := Lib.hid dd4
            obtain ⟨HB, B_z0⟩ := box1 w 24 #[.int .i64 p, .int .i64 q, .slice A n c]
            replace L := Lib.hid (KB.below L.out HB.out)
            go_enter Try.func58, Try.ntmps58
            go_upto_region 1 with (fail)
            generalize w.alloc (.cells #[.int .i64 p, .int .i64 q, .slice A n c] 24) = W0 at *
            have od4 : (((n : Nat) : Int) == (p * q)) = true := decide_eq_true dd4.out
            have ob4 : (((n : Nat) : Int) != (p * q)) = false := by rw [bne, od4]; rfl
            obtain ⟨c0z0, c1z0, c2z0⟩ := cells3 B_z0
            go_wp2_with fail
            clear c0z0 c1z0 c2z0
            go_loopw [3] (fun  kk wx => ∃ (k : Nat), k ≤ n ∧ kk = .int .i64 k ∧ Hid (∀ i, i < k → l.getD i 0 ≤ 2) ∧ Hid (KB wx lo_L hi_L A n c l) ∧ Hid (Bx wx (w.heap.size) 24 #[.int .i64 p, .int .i64 q, .slice A n c]) ∧ Hid (Below w.heap.size w wx)) (fun  kk _ => n - (intOf kk).toNat)
            case atStart => exact ⟨0, by omega, rfl, Lib.hid (fun i hi => absurd hi (Nat.not_lt_zero _)), L, B_z0, HB⟩
            case round =>
              clear L B_z0 HB
              obtain ⟨k, hk, rfl, HV, L, B_z0, HB⟩ := hrel
              by_cases hlt : k < n
              · skip
                have hlq0L : k < n := by omega
                obtain ⟨g_L, o_L, eA_L, -, -⟩ := L.out.elem hlq0L
                subst eA_L
                obtain ⟨x_q0L, hpq0L⟩ : ∃ q, l.getD k 0 = q := ⟨_, rfl⟩
                have HPq0L := Lib.hid hpq0L
                have HLq0L := Lib.hid hlq0L
                have hmq0L : x_q0L ∈ l := by rw [← hpq0L]; exact getB_mem (by have := L.out.len; omega)
                obtain ⟨hblq0L, hbhq0L⟩ := L.out.byte _ hmq0L
                clear hpq0L hlq0L
                by_cases dd6 : 2 < x_q0L
                · skip
                  obtain ⟨c0z0, c1z0, c2z0⟩ := cells3 B_z0
                  have e0q0L : wr.cell? ⟨g_L, o_L + k, none⟩ = some (.int .u8 x_q0L) := KB.el L.out HLq0L.out HPq0L.out
                  have hlen := Lib.hid L.out.len
                  have HN : Hid (¬ OkP p q l) := fun h => by have := h.2.2.2 _ hmq0L; have e0 := dd0; have e1 := dd1; have e2 := dd2; have e3 := dd3; have e5 := dd6; omega
                  go_wp2
                  go_ret
                  exact ⟨rb (decide_eq_false HN.out).symm, nextw HB.out (by exact sm)⟩
                · skip
                  replace dd6 : x_q0L ≤ 2 := by omega
                  obtain ⟨c0z0, c1z0, c2z0⟩ := cells3 B_z0
                  have e0q0L : wr.cell? ⟨g_L, o_L + k, none⟩ = some (.int .u8 x_q0L) := KB.el L.out HLq0L.out HPq0L.out
                  have HV2 : Hid (∀ i, i < k + 1 → l.getD i 0 ≤ 2) := fun i hi => (Nat.lt_succ_iff_lt_or_eq.mp hi).elim (HV.out i) (fun e => by rw [e, HPq0L.out]; have := dd6; omega)
                  go_wp2_with fail
                  clear c0z0 c1z0 c2z0 e0q0L
                  go_roundw
                  case rel => exact ⟨k + 1, by omega, by go_num, HV2, L, B_z0, HB⟩
                  case measure => simp only [intOf]; omega
              · skip
                have hkn : n = k := by omega
                subst hkn
                obtain ⟨c0z0, c1z0, c2z0⟩ := cells3 B_z0
                have hlen := Lib.hid L.out.len
                have HN : Hid (OkP p q l) := ⟨⟨by have e0 := dd0; have e1 := dd1; have e2 := dd2; have e3 := dd3; omega, by have e0 := dd0; have e1 := dd1; have e2 := dd2; have e3 := dd3; omega⟩, ⟨by have e0 := dd0; have e1 := dd1; have e2 := dd2; have e3 := dd3; omega, by have e0 := dd0; have e1 := dd1; have e2 := dd2; have e3 := dd3; omega⟩, by have := hlen.out; have e := dd4.out; rw [← e]; omega, all_getD.2 (fun i hi => HV.out i (by have := hlen.out; omega))⟩
                go_wp2
                go_ret
                exact ⟨rb (decide_eq_true HN.out).symm, nextw HB.out (by exact sm)⟩
          · skip
            have hpq : 1 ≤ p * q ∧ p * q ≤ 4096 := by have k1 := Int.mul_le_mul (show p ≤ 64 by omega) (show q ≤ 64 by omega) (by omega) (by omega); have k2 := Int.mul_le_mul (show 1 ≤ p by omega) (show 1 ≤ q by omega) (by omega) (by omega); omega
            obtain ⟨hpq1, hpq2⟩ := hpq
            obtain ⟨HB, B_z0⟩ := box1 w 24 #[.int .i64 p, .int .i64 q, .slice A n c]
            replace L := Lib.hid (KB.below L.out HB.out)
            go_enter Try.func58, Try.ntmps58
            go_upto_region 1 with (fail)
            generalize w.alloc (.cells #[.int .i64 p, .int .i64 q, .slice A n c] 24) = W0 at *
            have od4 : (((n : Nat) : Int) == (p * q)) = false := decide_eq_false dd4
            have ob4 : (((n : Nat) : Int) != (p * q)) = true := by rw [bne, od4]; rfl
            obtain ⟨c0z0, c1z0, c2z0⟩ := cells3 B_z0
            have hlen := Lib.hid L.out.len
            have HN : Hid (¬ OkP p q l) := fun h => by obtain ⟨⟨a1, a2⟩, ⟨a3, a4⟩, a5, -⟩ := h; have := hlen.out; have e0 := dd0; have e1 := dd1; have e2 := dd2; have e3 := dd3; exact absurd (show ((n : Nat) : Int) = p * q by omega) dd4
            go_wp2
            go_ret
            exact ⟨rb (decide_eq_false HN.out).symm, nextw HB.out (by exact sm)⟩

set_option maxRecDepth 100000 in
set_option maxHeartbeats 4000000 in
theorem RValid_w0 (p q : Int) (A : Option Addr) (n c : Nat) (l : List Int)  (hn : n ≤ 1000000)  (w : World) {lo_L hi_L : Nat} (L : KB w lo_L hi_L A n c l) :
    Calls Try.prog 21 #[.agg #[.int .i64 p, .int .i64 q, .slice A n c]] w fun e w' => e = .returned (.bool (decide (OkP p q l))) ∧ Below w.heap.size w w' := by
  replace L := Lib.hid L
  obtain ⟨HB, B_z0⟩ := box1 w 24 #[.int .i64 p, .int .i64 q, .slice A n c]
  replace L := Lib.hid (KB.below L.out HB.out)
  go_enter Try.func21, Try.ntmps21
  go_upto_region 1 with (fail)
  generalize w.alloc (.cells #[.int .i64 p, .int .i64 q, .slice A n c] 24) = W0 at *
  obtain ⟨c0z0, c1z0, c2z0⟩ := cells3 B_z0
  go_wp2_with fail
  refine (BPlan_is p q A n c l (by omega) _ (KB.below L.out (by exact sm))).mono ?_
  clear c0z0 c1z0 c2z0
  rintro e w1 ⟨rfl, bb⟩
  replace bb := nextw (w0 := W0) (by exact sm) bb
  replace B_z0 := mv B_z0 bb
  replace L := Lib.hid (KB.below L.out bb)
  replace HB := nx HB bb
  clear bb
  go_wp2
  go_ret
  exact ⟨(by first | rfl | exact rbt (by omega) | exact rbf (by omega)), nextw HB.out (by exact sm)⟩

set_option maxRecDepth 100000 in
set_option maxHeartbeats 4000000 in
theorem Count_is (p q v : Int) (A : Option Addr) (n c : Nat) (l : List Int)  (hn : n ≤ 1000000) (w : World) {lo_L hi_L : Nat} (L : KB w lo_L hi_L A n c l) :
    Calls Try.prog 23 #[.agg #[.int .i64 p, .int .i64 q, .slice A n c], .int .u8 v] w fun e w' => e = .returned (.int .i64 (cntX p q l v)) ∧ Below w.heap.size w w' := by
  have hiL_L : hi_L ≤ w.heap.size := L.top
  replace L := Lib.hid L
  by_cases dd0 : OkP p q l
  · skip
    obtain ⟨HB, B_z0⟩ := box1 w 24 #[.int .i64 p, .int .i64 q, .slice A n c]
    replace L := Lib.hid (KB.below L.out HB.out)
    go_enter Try.func23, Try.ntmps23
    go_upto_region 1 with (fail)
    generalize w.alloc (.cells #[.int .i64 p, .int .i64 q, .slice A n c] 24) = W0 at *
    obtain ⟨c0z0, c1z0, c2z0⟩ := cells3 B_z0
    go_wp2_with fail
    refine (Valid_is p q _ _ _ l (by omega) _ (KB.below L.out (by exact sm))).mono ?_
    clear c0z0 c1z0 c2z0
    rintro e w1 ⟨rfl, bb⟩
    replace bb := nextw (w0 := W0) (by exact sm) bb
    replace B_z0 := mv B_z0 bb
    replace L := Lib.hid (KB.below L.out bb)
    replace HB := nx HB bb
    clear bb
    obtain ⟨c0z0, c1z0, c2z0⟩ := cells3 B_z0
    go_wp2_with fail
    clear c0z0 c1z0 c2z0
    go_loopw [5, 14] (fun a0 kk wx => ∃ (k : Nat), k ≤ n ∧ kk = .int .i64 k ∧ a0 = (.int .i64 (cntB l v k)) ∧ Hid (KB wx lo_L hi_L A n c l) ∧ Hid (Bx wx (w.heap.size) 24 #[.int .i64 p, .int .i64 q, .slice A n c]) ∧ Hid (Below w.heap.size w wx)) (fun _ kk _ => n - (intOf kk).toNat)
    case atStart => exact ⟨0, by omega, rfl, rfl, L, B_z0, HB⟩
    case round =>
      clear L B_z0 HB
      obtain ⟨k, hk, rfl, rfl, L, B_z0, HB⟩ := hrel
      by_cases hlt : k < n
      · skip
        have hlq0L : k < n := by omega
        obtain ⟨g_L, o_L, eA_L, -, -⟩ := L.out.elem hlq0L
        subst eA_L
        obtain ⟨x_q0L, hpq0L⟩ : ∃ q, l.getD k 0 = q := ⟨_, rfl⟩
        have HPq0L := Lib.hid hpq0L
        have HLq0L := Lib.hid hlq0L
        have hmq0L : x_q0L ∈ l := by rw [← hpq0L]; exact getB_mem (by have := L.out.len; omega)
        obtain ⟨hblq0L, hbhq0L⟩ := L.out.byte _ hmq0L
        clear hpq0L hlq0L
        obtain ⟨hc1, hc2⟩ := cntB_bd l v k
        have HCS : Hid (cntB l v (k + 1) = if x_q0L = v then cntB l v k + 1 else cntB l v k) := by unfold Hid; rw [← HPq0L.out]; rfl
        generalize cntB l v k = C0 at *
        by_cases dd2 : x_q0L = v
        · skip
          replace dd2 := Lib.hid dd2
          have e0q0L : wr.cell? ⟨g_L, o_L + k, none⟩ = some (.int .u8 x_q0L) := KB.el L.out HLq0L.out HPq0L.out
          go_upto_region 7 with (fail)
          have od2 : (x_q0L == v) = true := decide_eq_true dd2.out
          have ob2 : (x_q0L != v) = false := by rw [bne, od2]; rfl
          go_wp2_with fail
          clear e0q0L
          go_roundw
          case rel => exact ⟨k + 1, by omega, by go_num, by rw [HCS.out, if_pos dd2.out], L, B_z0, HB⟩
          case measure => simp only [intOf]; omega
        · skip
          have e0q0L : wr.cell? ⟨g_L, o_L + k, none⟩ = some (.int .u8 x_q0L) := KB.el L.out HLq0L.out HPq0L.out
          go_upto_region 7 with (fail)
          have od2 : (x_q0L == v) = false := decide_eq_false dd2
          have ob2 : (x_q0L != v) = true := by rw [bne, od2]; rfl
          go_wp2_with fail
          clear e0q0L
          go_roundw
          case rel => exact ⟨k + 1, by omega, by go_num, by rw [HCS.out, if_neg dd2], L, B_z0, HB⟩
          case measure => simp only [intOf]; omega
      · skip
        have hkn : n = k := by omega
        subst hkn
        have HN : Hid (cntB l v n = cntX p q l v) := by unfold Hid cntX; rw [if_pos dd0, ← L.out.len]
        go_wp2
        go_ret
        exact ⟨ret_i HN.out, nextw HB.out (by exact sm)⟩
  · skip
    obtain ⟨HB, B_z0⟩ := box1 w 24 #[.int .i64 p, .int .i64 q, .slice A n c]
    replace L := Lib.hid (KB.below L.out HB.out)
    go_enter Try.func23, Try.ntmps23
    go_upto_region 1 with (fail)
    generalize w.alloc (.cells #[.int .i64 p, .int .i64 q, .slice A n c] 24) = W0 at *
    obtain ⟨c0z0, c1z0, c2z0⟩ := cells3 B_z0
    go_wp2_with fail
    refine (Valid_is p q _ _ _ l (by omega) _ (KB.below L.out (by exact sm))).mono ?_
    clear c0z0 c1z0 c2z0
    rintro e w2 ⟨rfl, bb⟩
    replace bb := nextw (w0 := W0) (by exact sm) bb
    replace B_z0 := mv B_z0 bb
    replace L := Lib.hid (KB.below L.out bb)
    replace HB := nx HB bb
    clear bb
    have HN : Hid (0 = cntX p q l v) := (if_neg dd0).symm
    go_wp2
    go_ret
    exact ⟨ret_i HN.out, nextw HB.out (by exact sm)⟩
end Go.Proofs.Ytkhcogfajihecaa
