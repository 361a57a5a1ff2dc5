/- plan.Below, the reference's Below. -/
import Derived.Test.YtkhcogfajihecaaY6
set_option linter.unusedVariables false
set_option linter.unusedSimpArgs false
namespace Go.Proofs.Ytkhcogfajihecaa
open Go Go.RowKit Hd

/-- Two valid plans of one size. -/
def AlP (p q : Int) (l : List Int) (u v : Int) (l2 : List Int) : Prop := OkP p q l ∧ OkP u v l2 ∧ p = u ∧ q = v
instance (p q : Int) (l : List Int) (u v : Int) (l2 : List Int) : Decidable (AlP p q l u v l2) := inferInstanceAs (Decidable (_ ∧ _ ∧ _ ∧ _))
theorem al_len {p q u v : Int} {l l2 : List Int} (h : AlP p q l u v l2) : l.length = l2.length := by
  obtain ⟨h1, h2, rfl, rfl⟩ := h
  have a := h1.2.2.1
  have b := h2.2.2.1
  omega
/-- The first plan knows no more than the second. -/
def BelP (p q : Int) (l : List Int) (u v : Int) (l2 : List Int) : Prop := AlP p q l u v l2 ∧ ∀ i, i < l.length → l.getD i 0 ≠ 0 → l.getD i 0 = l2.getD i 0
instance (p q : Int) (l : List Int) (u v : Int) (l2 : List Int) : Decidable (BelP p q l u v l2) := by unfold BelP; infer_instance
/-- The value of a cell. -/
def atX (p q : Int) (l : List Int) (a b : Int) : Int := if OkP p q l then if (0 ≤ a ∧ a < p) ∧ (0 ≤ b ∧ b < q) then l.getD (b * p + a).toNat 0 else 2 else 0
theorem at_in {p q a b : Int} {l : List Int} (h : OkP p q l) (h0 : 0 ≤ a) (h1 : a < p) (h2 : 0 ≤ b) (h3 : b < q) : 0 ≤ b * p ∧ b * p + a < l.length ∧ b * p ≤ 4096 := by
  obtain ⟨⟨p1, p2⟩, ⟨q1, q2⟩, e, _⟩ := h
  have k1 := Int.mul_nonneg h2 (show 0 ≤ p by omega)
  have k2 := Int.mul_le_mul_of_nonneg_right (show b ≤ q - 1 by omega) (show 0 ≤ p by omega)
  have k3 := Int.mul_le_mul p2 q2 (by omega) (by omega)
  rw [Int.sub_mul, Int.mul_comm q p] at k2
  exact ⟨k1, by omega, by omega⟩

set_option maxRecDepth 100000 in
set_option maxHeartbeats 4000000 in
theorem alike_is (p q u v : Int) (A : Option Addr) (n c : Nat) (l : List Int) (A2 : Option Addr) (n2 c2 : Nat) (l2 : List Int)  (hn : n ≤ 1000000) (hn2 : n2 ≤ 1000000) (w : World) {lo_L hi_L : Nat} (L : KB w lo_L hi_L A n c l) {lo_L2 hi_L2 : Nat} (L2 : KB w lo_L2 hi_L2 A2 n2 c2 l2) :
    Calls Try.prog 84 #[.agg #[.int .i64 p, .int .i64 q, .slice A n c], .agg #[.int .i64 u, .int .i64 v, .slice A2 n2 c2]] w fun e w' => e = .returned (.bool (decide (AlP p q l u v l2))) ∧ Below w.heap.size w w' := by
  have hiL_L : hi_L ≤ w.heap.size := L.top
  replace L := Lib.hid L
  have hiL_L2 : hi_L2 ≤ w.heap.size := L2.top
  replace L2 := Lib.hid L2
  by_cases dd0 : OkP p q l
  · skip
    by_cases dd1 : OkP u v l2
    · skip
      by_cases dd2 : p = u
      · skip
        replace dd2 := Lib.hid dd2
        obtain ⟨HB, B_z0, B_z1⟩ := box2 w 24 #[.int .i64 p, .int .i64 q, .slice A n c] 24 #[.int .i64 u, .int .i64 v, .slice A2 n2 c2]
        replace L := Lib.hid (KB.below L.out HB.out)
        replace L2 := Lib.hid (KB.below L2.out HB.out)
        go_enter Try.func84, Try.ntmps84
        go_upto_region 1 with (fail)
        generalize (w.alloc (.cells #[.int .i64 p, .int .i64 q, .slice A n c] 24)).alloc (.cells #[.int .i64 u, .int .i64 v, .slice A2 n2 c2] 24) = W0 at *
        have od2 : (p == u) = true := decide_eq_true dd2.out
        have ob2 : (p != u) = false := by rw [bne, od2]; rfl
        obtain ⟨c0z0, c1z0, c2z0⟩ := cells3 B_z0
        go_wp2_with fail
        refine (Valid_is p q _ _ _ l (by omega) _ (KB.below L.out (by exact sm))).mono ?_
        clear c0z0 c1z0 c2z0
        rintro e w1 ⟨rfl, bb⟩
        replace bb := nextw (w0 := W0) (by exact sm) bb
        replace B_z0 := mv B_z0 bb
        replace B_z1 := mv B_z1 bb
        replace L := Lib.hid (KB.below L.out bb)
        replace L2 := Lib.hid (KB.below L2.out bb)
        replace HB := nx HB bb
        clear bb
        obtain ⟨c0z1, c1z1, c2z1⟩ := cells3 B_z1
        go_wp2_with fail
        refine (Valid_is u v _ _ _ l2 (by omega) _ (KB.below L2.out (by exact sm))).mono ?_
        clear c0z1 c1z1 c2z1
        rintro e w2 ⟨rfl, bb⟩
        replace bb := nextw (w0 := w1) (by exact sm) bb
        replace B_z0 := mv B_z0 bb
        replace B_z1 := mv B_z1 bb
        replace L := Lib.hid (KB.below L.out bb)
        replace L2 := Lib.hid (KB.below L2.out bb)
        replace HB := nx HB bb
        clear bb
        obtain ⟨c0z0, c1z0, c2z0⟩ := cells3 B_z0
        obtain ⟨c0z1, c1z1, c2z1⟩ := cells3 B_z1
        have HN : Hid (q = v ↔ AlP p q l u v l2) := ⟨fun h => ⟨dd0, dd1, dd2.out, h⟩, fun h => h.2.2.2⟩
        go_wp2
        go_ret
        exact ⟨rb (decide_eq_decide.2 HN.out), nextw HB.out (by exact sm)⟩
      · skip
        obtain ⟨HB, B_z0, B_z1⟩ := box2 w 24 #[.int .i64 p, .int .i64 q, .slice A n c] 24 #[.int .i64 u, .int .i64 v, .slice A2 n2 c2]
        replace L := Lib.hid (KB.below L.out HB.out)
        replace L2 := Lib.hid (KB.below L2.out HB.out)
        go_enter Try.func84, Try.ntmps84
        go_upto_region 1 with (fail)
        generalize (w.alloc (.cells #[.int .i64 p, .int .i64 q, .slice A n c] 24)).alloc (.cells #[.int .i64 u, .int .i64 v, .slice A2 n2 c2] 24) = W0 at *
        have od2 : (p == u) = false := decide_eq_false dd2
        have ob2 : (p != u) = true := by rw [bne, od2]; rfl
        obtain ⟨c0z0, c1z0, c2z0⟩ := cells3 B_z0
        go_wp2_with fail
        refine (Valid_is p q _ _ _ l (by omega) _ (KB.below L.out (by exact sm))).mono ?_
        clear c0z0 c1z0 c2z0
        rintro e w3 ⟨rfl, bb⟩
        replace bb := nextw (w0 := W0) (by exact sm) bb
        replace B_z0 := mv B_z0 bb
        replace B_z1 := mv B_z1 bb
        replace L := Lib.hid (KB.below L.out bb)
        replace L2 := Lib.hid (KB.below L2.out bb)
        replace HB := nx HB bb
        clear bb
        obtain ⟨c0z1, c1z1, c2z1⟩ := cells3 B_z1
        go_wp2_with fail
        refine (Valid_is u v _ _ _ l2 (by omega) _ (KB.below L2.out (by exact sm))).mono ?_
        clear c0z1 c1z1 c2z1
        rintro e w4 ⟨rfl, bb⟩
        replace bb := nextw (w0 := w3) (by exact sm) bb
        replace B_z0 := mv B_z0 bb
        replace B_z1 := mv B_z1 bb
        replace L := Lib.hid (KB.below L.out bb)
        replace L2 := Lib.hid (KB.below L2.out bb)
        replace HB := nx HB bb
        clear bb
        obtain ⟨c0z0, c1z0, c2z0⟩ := cells3 B_z0
        obtain ⟨c0z1, c1z1, c2z1⟩ := cells3 B_z1
        have HN : Hid (¬ AlP p q l u v l2) := fun h => dd2 h.2.2.1
        go_wp2
        go_ret
        exact ⟨rb (decide_eq_false HN.out).symm, nextw HB.out (by exact sm)⟩
    · skip
      obtain ⟨HB, B_z0, B_z1⟩ := box2 w 24 #[.int .i64 p, .int .i64 q, .slice A n c] 24 #[.int .i64 u, .int .i64 v, .slice A2 n2 c2]
      replace L := Lib.hid (KB.below L.out HB.out)
      replace L2 := Lib.hid (KB.below L2.out HB.out)
      go_enter Try.func84, Try.ntmps84
      go_upto_region 1 with (fail)
      generalize (w.alloc (.cells #[.int .i64 p, .int .i64 q, .slice A n c] 24)).alloc (.cells #[.int .i64 u, .int .i64 v, .slice A2 n2 c2] 24) = W0 at *
      obtain ⟨c0z0, c1z0, c2z0⟩ := cells3 B_z0
      go_wp2_with fail
      refine (Valid_is p q _ _ _ l (by omega) _ (KB.below L.out (by exact sm))).mono ?_
      clear c0z0 c1z0 c2z0
      rintro e w5 ⟨rfl, bb⟩
      replace bb := nextw (w0 := W0) (by exact sm) bb
      replace B_z0 := mv B_z0 bb
      replace B_z1 := mv B_z1 bb
      replace L := Lib.hid (KB.below L.out bb)
      replace L2 := Lib.hid (KB.below L2.out bb)
      replace HB := nx HB bb
      clear bb
      obtain ⟨c0z1, c1z1, c2z1⟩ := cells3 B_z1
      go_wp2_with fail
      refine (Valid_is u v _ _ _ l2 (by omega) _ (KB.below L2.out (by exact sm))).mono ?_
      clear c0z1 c1z1 c2z1
      rintro e w6 ⟨rfl, bb⟩
      replace bb := nextw (w0 := w5) (by exact sm) bb
      replace B_z0 := mv B_z0 bb
      replace B_z1 := mv B_z1 bb
      replace L := Lib.hid (KB.below L.out bb)
      replace L2 := Lib.hid (KB.below L2.out bb)
      replace HB := nx HB bb
      clear bb
      have HN : Hid (¬ AlP p q l u v l2) := fun h => dd1 h.2.1
      go_wp2
      go_ret
      exact ⟨rb (decide_eq_false HN.out).symm, nextw HB.out (by exact sm)⟩
  · skip
    obtain ⟨HB, B_z0, B_z1⟩ := box2 w 24 #[.int .i64 p, .int .i64 q, .slice A n c] 24 #[.int .i64 u, .int .i64 v, .slice A2 n2 c2]
    replace L := Lib.hid (KB.below L.out HB.out)
    replace L2 := Lib.hid (KB.below L2.out HB.out)
    go_enter Try.func84, Try.ntmps84
    go_upto_region 1 with (fail)
    generalize (w.alloc (.cells #[.int .i64 p, .int .i64 q, .slice A n c] 24)).alloc (.cells #[.int .i64 u, .int .i64 v, .slice A2 n2 c2] 24) = W0 at *
    obtain ⟨c0z0, c1z0, c2z0⟩ := cells3 B_z0
    go_wp2_with fail
    refine (Valid_is p q _ _ _ l (by omega) _ (KB.below L.out (by exact sm))).mono ?_
    clear c0z0 c1z0 c2z0
    rintro e w7 ⟨rfl, bb⟩
    replace bb := nextw (w0 := W0) (by exact sm) bb
    replace B_z0 := mv B_z0 bb
    replace B_z1 := mv B_z1 bb
    replace L := Lib.hid (KB.below L.out bb)
    replace L2 := Lib.hid (KB.below L2.out bb)
    replace HB := nx HB bb
    clear bb
    have HN : Hid (¬ AlP p q l u v l2) := fun h => dd0 h.1
    go_wp2
    go_ret
    exact ⟨rb (decide_eq_false HN.out).symm, nextw HB.out (by exact sm)⟩

set_option maxRecDepth 100000 in
set_option maxHeartbeats 4000000 in
theorem Below_is (p q u v : Int) (A : Option Addr) (n c : Nat) (l : List Int) (A2 : Option Addr) (n2 c2 : Nat) (l2 : List Int)  (hn : n ≤ 1000000) (hn2 : n2 ≤ 1000000) (w : World) {lo_L hi_L : Nat} (L : KB w lo_L hi_L A n c l) {lo_L2 hi_L2 : Nat} (L2 : KB w lo_L2 hi_L2 A2 n2 c2 l2) :
    Calls Try.prog 48 #[.agg #[.int .i64 p, .int .i64 q, .slice A n c], .agg #[.int .i64 u, .int .i64 v, .slice A2 n2 c2]] w fun e w' => e = .returned (.bool (decide (BelP p q l u v l2))) ∧ Below w.heap.size w w' := by
  have hiL_L : hi_L ≤ w.heap.size := L.top
  replace L := Lib.hid L
  have hiL_L2 : hi_L2 ≤ w.heap.size := L2.top
  replace L2 := Lib.hid L2
  by_cases dd0 : AlP p q l u v l2
  · skip
    have hll := al_len dd0
    have hle1 : n ≤ n2 := by have := L.out.len; have := L2.out.len; omega
    obtain ⟨HB, B_z0, B_z1⟩ := box2 w 24 #[.int .i64 p, .int .i64 q, .slice A n c] 24 #[.int .i64 u, .int .i64 v, .slice A2 n2 c2]
    replace L := Lib.hid (KB.below L.out HB.out)
    replace L2 := Lib.hid (KB.below L2.out HB.out)
    go_enter Try.func48, Try.ntmps48
    go_upto_region 1 with (fail)
    generalize (w.alloc (.cells #[.int .i64 p, .int .i64 q, .slice A n c] 24)).alloc (.cells #[.int .i64 u, .int .i64 v, .slice A2 n2 c2] 24) = W0 at *
    obtain ⟨c0z0, c1z0, c2z0⟩ := cells3 B_z0
    obtain ⟨c0z1, c1z1, c2z1⟩ := cells3 B_z1
    go_wp2_with fail
    refine (alike_is p q u v A n c l A2 n2 c2 l2 (by omega) (by omega) _ (KB.below L.out (by exact sm)) (KB.below L2.out (by exact sm))).mono ?_
    clear c0z0 c1z0 c2z0 c0z1 c1z1 c2z1
    rintro e w1 ⟨rfl, bb⟩
    replace bb := nextw (w0 := W0) (by exact sm) bb
    replace B_z0 := mv B_z0 bb
    replace B_z1 := mv B_z1 bb
    replace L := Lib.hid (KB.below L.out bb)
    replace L2 := Lib.hid (KB.below L2.out bb)
    replace HB := nx HB bb
    clear bb
    obtain ⟨c0z0, c1z0, c2z0⟩ := cells3 B_z0
    go_wp2_with fail
    clear c0z0 c1z0 c2z0
    go_loopw [14] (fun  kk wx => ∃ (k : Nat), k ≤ n ∧ kk = .int .i64 k ∧ Hid (∀ i, i < k → l.getD i 0 ≠ 0 → l.getD i 0 = l2.getD i 0) ∧ Hid (KB wx lo_L hi_L A n c l) ∧ Hid (KB wx lo_L2 hi_L2 A2 n2 c2 l2) ∧ Hid (Bx wx (w.heap.size) 24 #[.int .i64 p, .int .i64 q, .slice A n c]) ∧ Hid (Bx wx (w.heap.size + 1) 24 #[.int .i64 u, .int .i64 v, .slice A2 n2 c2]) ∧ Hid (Below w.heap.size w wx)) (fun  kk _ => n - (intOf kk).toNat)
    case atStart => exact ⟨0, by omega, rfl, Lib.hid (fun i hi => absurd hi (Nat.not_lt_zero _)), L, L2, B_z0, B_z1, HB⟩
    case round =>
      clear L L2 B_z0 B_z1 HB
      obtain ⟨k, hk, rfl, HI, L, L2, B_z0, B_z1, HB⟩ := hrel
      by_cases hlt : k < n
      · skip
        have hlq0L : k < n := by omega
        obtain ⟨g_L, o_L, eA_L, -, -⟩ := L.out.elem hlq0L
        subst eA_L
        obtain ⟨x_q0L, hpq0L⟩ : ∃ q, l.getD k 0 = q := ⟨_, rfl⟩
        have HPq0L := Lib.hid hpq0L
        have HLq0L := Lib.hid hlq0L
        have hmq0L : x_q0L ∈ l := by rw [← hpq0L]; exact getB_mem (by have := L.out.len; omega)
        obtain ⟨hblq0L, hbhq0L⟩ := L.out.byte _ hmq0L
        clear hpq0L hlq0L
        have hlq1L2 : k < n2 := by omega
        obtain ⟨g_L2, o_L2, eA_L2, -, -⟩ := L2.out.elem hlq1L2
        subst eA_L2
        obtain ⟨x_q1L2, hpq1L2⟩ : ∃ q, l2.getD k 0 = q := ⟨_, rfl⟩
        have HPq1L2 := Lib.hid hpq1L2
        have HLq1L2 := Lib.hid hlq1L2
        have hmq1L2 : x_q1L2 ∈ l2 := by rw [← hpq1L2]; exact getB_mem (by have := L2.out.len; omega)
        obtain ⟨hblq1L2, hbhq1L2⟩ := L2.out.byte _ hmq1L2
        clear hpq1L2 hlq1L2
        by_cases dd2 : x_q0L = 0
        · skip
          replace dd2 := Lib.hid dd2
          have e0q0L : wr.cell? ⟨g_L, o_L + k, none⟩ = some (.int .u8 x_q0L) := KB.el L.out HLq0L.out HPq0L.out
          go_upto_region 6 with (fail)
          have od2 : (x_q0L == 0) = true := decide_eq_true dd2.out
          have ob2 : (x_q0L != 0) = false := by rw [bne, od2]; rfl
          have hpk : l.getD k 0 ≠ 0 → l.getD k 0 = l2.getD k 0 := by rw [HPq0L.out]; intro hne; have e0 := dd2.out; exact absurd e0 hne
          have HI2 : Hid (∀ i, i < k + 1 → l.getD i 0 ≠ 0 → l.getD i 0 = l2.getD i 0) := fun i hi => (Nat.lt_succ_iff_lt_or_eq.mp hi).elim (HI.out i) (fun e => by rw [e]; exact hpk)
          clear hpk
          go_wp2_with fail
          clear e0q0L
          go_roundw
          case rel => exact ⟨k + 1, by omega, by go_num, HI2, L, L2, B_z0, B_z1, HB⟩
          case measure => simp only [intOf]; omega
        · skip
          by_cases dd3 : x_q0L = x_q1L2
          · skip
            replace dd3 := Lib.hid dd3
            have e0q0L : wr.cell? ⟨g_L, o_L + k, none⟩ = some (.int .u8 x_q0L) := KB.el L.out HLq0L.out HPq0L.out
            go_upto_region 6 with (fail)
            have od2 : (x_q0L == 0) = false := decide_eq_false dd2
            have od3 : (x_q0L == x_q1L2) = true := decide_eq_true dd3.out
            have ob2 : (x_q0L != 0) = true := by rw [bne, od2]; rfl
            have ob3 : (x_q0L != x_q1L2) = false := by rw [bne, od3]; rfl
            obtain ⟨c0z1, c1z1, c2z1⟩ := cells3 B_z1
            have e0q1L2 : wr.cell? ⟨g_L2, o_L2 + k, none⟩ = some (.int .u8 x_q1L2) := KB.el L2.out HLq1L2.out HPq1L2.out
            have hpk : l.getD k 0 ≠ 0 → l.getD k 0 = l2.getD k 0 := by rw [HPq0L.out]; intro hne; rw [HPq1L2.out]; have e0 := dd2; have e1 := dd3.out; exact e1
            have HI2 : Hid (∀ i, i < k + 1 → l.getD i 0 ≠ 0 → l.getD i 0 = l2.getD i 0) := fun i hi => (Nat.lt_succ_iff_lt_or_eq.mp hi).elim (HI.out i) (fun e => by rw [e]; exact hpk)
            clear hpk
            go_wp2_with fail
            clear e0q0L c0z1 c1z1 c2z1 e0q1L2
            go_roundw
            case rel => exact ⟨k + 1, by omega, by go_num, HI2, L, L2, B_z0, B_z1, HB⟩
            case measure => simp only [intOf]; omega
          · skip
            have e0q0L : wr.cell? ⟨g_L, o_L + k, none⟩ = some (.int .u8 x_q0L) := KB.el L.out HLq0L.out HPq0L.out
            go_upto_region 6 with (fail)
            have od2 : (x_q0L == 0) = false := decide_eq_false dd2
            have od3 : (x_q0L == x_q1L2) = false := decide_eq_false dd3
            have ob2 : (x_q0L != 0) = true := by rw [bne, od2]; rfl
            have ob3 : (x_q0L != x_q1L2) = true := by rw [bne, od3]; rfl
            obtain ⟨c0z1, c1z1, c2z1⟩ := cells3 B_z1
            have e0q1L2 : wr.cell? ⟨g_L2, o_L2 + k, none⟩ = some (.int .u8 x_q1L2) := KB.el L2.out HLq1L2.out HPq1L2.out
            have HN : Hid (¬ BelP p q l u v l2) := fun h => by have h2 := h.2 k (by have := L.out.len; have := HLq0L.out; omega); rw [HPq0L.out, HPq1L2.out] at h2; exact dd3 (h2 dd2)
            go_wp2
            go_ret
            exact ⟨rb (decide_eq_false HN.out).symm, nextw HB.out (by exact sm)⟩
      · skip
        have hkn : n = k := by omega
        subst hkn
        have HN : Hid (BelP p q l u v l2) := ⟨dd0, fun i hi => HI.out i (by have := L.out.len; omega)⟩
        go_wp2
        go_ret
        exact ⟨rb (decide_eq_true HN.out).symm, nextw HB.out (by exact sm)⟩
  · skip
    obtain ⟨HB, B_z0, B_z1⟩ := box2 w 24 #[.int .i64 p, .int .i64 q, .slice A n c] 24 #[.int .i64 u, .int .i64 v, .slice A2 n2 c2]
    replace L := Lib.hid (KB.below L.out HB.out)
    replace L2 := Lib.hid (KB.below L2.out HB.out)
    go_enter Try.func48, Try.ntmps48
    go_upto_region 1 with (fail)
    generalize (w.alloc (.cells #[.int .i64 p, .int .i64 q, .slice A n c] 24)).alloc (.cells #[.int .i64 u, .int .i64 v, .slice A2 n2 c2] 24) = W0 at *
    obtain ⟨c0z0, c1z0, c2z0⟩ := cells3 B_z0
    obtain ⟨c0z1, c1z1, c2z1⟩ := cells3 B_z1
    go_wp2_with fail
    refine (alike_is p q u v A n c l A2 n2 c2 l2 (by omega) (by omega) _ (KB.below L.out (by exact sm)) (KB.below L2.out (by exact sm))).mono ?_
    clear c0z0 c1z0 c2z0 c0z1 c1z1 c2z1
    rintro e w2 ⟨rfl, bb⟩
    replace bb := nextw (w0 := W0) (by exact sm) bb
    replace B_z0 := mv B_z0 bb
    replace B_z1 := mv B_z1 bb
    replace L := Lib.hid (KB.below L.out bb)
    replace L2 := Lib.hid (KB.below L2.out bb)
    replace HB := nx HB bb
    clear bb
    have HN : Hid (¬ BelP p q l u v l2) := fun h => dd0 h.1
    go_wp2
    go_ret
    exact ⟨rb (decide_eq_false HN.out).symm, nextw HB.out (by exact sm)⟩

set_option maxRecDepth 100000 in
set_option maxHeartbeats 4000000 in
theorem RBelow_is (p q u v : Int) (A : Option Addr) (n c : Nat) (l : List Int) (A2 : Option Addr) (n2 c2 : Nat) (l2 : List Int)  (hn : n ≤ 1000000) (hn2 : n2 ≤ 1000000) (w : World) {lo_L hi_L : Nat} (L : KB w lo_L hi_L A n c l) {lo_L2 hi_L2 : Nat} (L2 : KB w lo_L2 hi_L2 A2 n2 c2 l2) :
    Calls Try.prog 49 #[.agg #[.int .i64 p, .int .i64 q, .slice A n c], .agg #[.int .i64 u, .int .i64 v, .slice A2 n2 c2]] w fun e w' => e = .returned (.bool (decide (BelP p q l u v l2))) ∧ Below w.heap.size w w' := by
  have hiL_L : hi_L ≤ w.heap.size := L.top
  replace L := Lib.hid L
  have hiL_L2 : hi_L2 ≤ w.heap.size := L2.top
  replace L2 := Lib.hid L2
  by_cases dd0 : OkP p q l
  · skip
    by_cases dd1 : OkP u v l2
    · skip
      by_cases dd2 : p = u
      · skip
        by_cases dd3 : q = v
        · skip
          have hal : AlP p q l u v l2 := ⟨dd0, dd1, dd2, dd3⟩
          have hll := al_len hal
          have hle1 : n ≤ n2 := by have := L.out.len; have := L2.out.len; omega
          replace hal := Lib.hid hal
          replace dd2 := Lib.hid dd2
          replace dd3 := Lib.hid dd3
          obtain ⟨HB, B_z0, B_z1⟩ := box2 w 24 #[.int .i64 p, .int .i64 q, .slice A n c] 24 #[.int .i64 u, .int .i64 v, .slice A2 n2 c2]
          replace L := Lib.hid (KB.below L.out HB.out)
          replace L2 := Lib.hid (KB.below L2.out HB.out)
          go_enter Try.func49, Try.ntmps49
          go_upto_region 1 with (fail)
          generalize (w.alloc (.cells #[.int .i64 p, .int .i64 q, .slice A n c] 24)).alloc (.cells #[.int .i64 u, .int .i64 v, .slice A2 n2 c2] 24) = W0 at *
          have od2 : (p == u) = true := decide_eq_true dd2.out
          have od3 : (q == v) = true := decide_eq_true dd3.out
          have ob2 : (p != u) = false := by rw [bne, od2]; rfl
          have ob3 : (q != v) = false := by rw [bne, od3]; rfl
          obtain ⟨c0z0, c1z0, c2z0⟩ := cells3 B_z0
          go_wp2_with fail
          refine (RValid_w0 p q _ _ _ l (by omega) _ (KB.below L.out (by exact sm))).mono ?_
          clear c0z0 c1z0 c2z0
          rintro e w1 ⟨rfl, bb⟩
          replace bb := nextw (w0 := W0) (by exact sm) bb
          replace B_z0 := mv B_z0 bb
          replace B_z1 := mv B_z1 bb
          replace L := Lib.hid (KB.below L.out bb)
          replace L2 := Lib.hid (KB.below L2.out bb)
          replace HB := nx HB bb
          clear bb
          obtain ⟨c0z1, c1z1, c2z1⟩ := cells3 B_z1
          go_wp2_with fail
          refine (RValid_w0 u v _ _ _ l2 (by omega) _ (KB.below L2.out (by exact sm))).mono ?_
          clear c0z1 c1z1 c2z1
          rintro e w2 ⟨rfl, bb⟩
          replace bb := nextw (w0 := w1) (by exact sm) bb
          replace B_z0 := mv B_z0 bb
          replace B_z1 := mv B_z1 bb
          replace L := Lib.hid (KB.below L.out bb)
          replace L2 := Lib.hid (KB.below L2.out bb)
          replace HB := nx HB bb
          clear bb
          obtain ⟨c0z0, c1z0, c2z0⟩ := cells3 B_z0
          obtain ⟨c0z1, c1z1, c2z1⟩ := cells3 B_z1
          go_wp2_with fail
          clear c0z0 c1z0 c2z0 c0z1 c1z1 c2z1
          go_loopw [5] (fun  kk wx => ∃ (k : Nat), k ≤ n ∧ kk = .int .i64 k ∧ Hid (∀ i, i < k → l.getD i 0 ≠ 0 → l.getD i 0 = l2.getD i 0) ∧ Hid (KB wx lo_L hi_L A n c l) ∧ Hid (KB wx lo_L2 hi_L2 A2 n2 c2 l2) ∧ Hid (Bx wx (w.heap.size) 24 #[.int .i64 p, .int .i64 q, .slice A n c]) ∧ Hid (Bx wx (w.heap.size + 1) 24 #[.int .i64 u, .int .i64 v, .slice A2 n2 c2]) ∧ Hid (Below w.heap.size w wx)) (fun  kk _ => n - (intOf kk).toNat)
          case atStart => exact ⟨0, by omega, rfl, Lib.hid (fun i hi => absurd hi (Nat.not_lt_zero _)), L, L2, B_z0, B_z1, HB⟩
          case round =>
            clear L L2 B_z0 B_z1 HB
            obtain ⟨k, hk, rfl, HI, L, L2, B_z0, B_z1, HB⟩ := hrel
            by_cases hlt : k < n
            · skip
              have hlq0L : k < n := by omega
              obtain ⟨g_L, o_L, eA_L, -, -⟩ := L.out.elem hlq0L
              subst eA_L
              obtain ⟨x_q0L, hpq0L⟩ : ∃ q, l.getD k 0 = q := ⟨_, rfl⟩
              have HPq0L := Lib.hid hpq0L
              have HLq0L := Lib.hid hlq0L
              have hmq0L : x_q0L ∈ l := by rw [← hpq0L]; exact getB_mem (by have := L.out.len; omega)
              obtain ⟨hblq0L, hbhq0L⟩ := L.out.byte _ hmq0L
              clear hpq0L hlq0L
              have hlq1L2 : k < n2 := by omega
              obtain ⟨g_L2, o_L2, eA_L2, -, -⟩ := L2.out.elem hlq1L2
              subst eA_L2
              obtain ⟨x_q1L2, hpq1L2⟩ : ∃ q, l2.getD k 0 = q := ⟨_, rfl⟩
              have HPq1L2 := Lib.hid hpq1L2
              have HLq1L2 := Lib.hid hlq1L2
              have hmq1L2 : x_q1L2 ∈ l2 := by rw [← hpq1L2]; exact getB_mem (by have := L2.out.len; omega)
              obtain ⟨hblq1L2, hbhq1L2⟩ := L2.out.byte _ hmq1L2
              clear hpq1L2 hlq1L2
              by_cases dd5 : x_q0L = 0
              · skip
                replace dd5 := Lib.hid dd5
                obtain ⟨c0z0, c1z0, c2z0⟩ := cells3 B_z0
                go_upto_region 6 with (fail)
                clear c0z0 c1z0 c2z0
                obtain ⟨c0z0, c1z0, c2z0⟩ := cells3 B_z0
                have e0q0L : wr.cell? ⟨g_L, o_L + k, none⟩ = some (.int .u8 x_q0L) := KB.el L.out HLq0L.out HPq0L.out
                have od5 : (x_q0L == 0) = true := decide_eq_true dd5.out
                have ob5 : (x_q0L != 0) = false := by rw [bne, od5]; rfl
                go_quiet (fail)
                clear c0z0 c1z0 c2z0 e0q0L
                have bb : Below wr.heap.size wr (wr.drewN nq) := bel_drewN (Below.refl _ _) _
                generalize wr.drewN nq = w3q at *
                replace B_z0 := mv B_z0 bb
                replace B_z1 := mv B_z1 bb
                replace L := Lib.hid (KB.below L.out bb)
                replace L2 := Lib.hid (KB.below L2.out bb)
                replace HB := nx HB bb
                clear bb
                have hpk : l.getD k 0 ≠ 0 → l.getD k 0 = l2.getD k 0 := by rw [HPq0L.out]; intro hne; have e0 := dd5.out; exact absurd e0 hne
                have HI2 : Hid (∀ i, i < k + 1 → l.getD i 0 ≠ 0 → l.getD i 0 = l2.getD i 0) := fun i hi => (Nat.lt_succ_iff_lt_or_eq.mp hi).elim (HI.out i) (fun e => by rw [e]; exact hpk)
                clear hpk
                go_wp2_with fail
                go_roundw
                case rel => exact ⟨k + 1, by omega, by go_num, HI2, L, L2, B_z0, B_z1, HB⟩
                case measure => simp only [intOf]; omega
              · skip
                by_cases dd6 : x_q0L = x_q1L2
                · skip
                  replace dd6 := Lib.hid dd6
                  obtain ⟨c0z0, c1z0, c2z0⟩ := cells3 B_z0
                  go_upto_region 6 with (fail)
                  clear c0z0 c1z0 c2z0
                  obtain ⟨c0z0, c1z0, c2z0⟩ := cells3 B_z0
                  have e0q0L : wr.cell? ⟨g_L, o_L + k, none⟩ = some (.int .u8 x_q0L) := KB.el L.out HLq0L.out HPq0L.out
                  obtain ⟨c0z1, c1z1, c2z1⟩ := cells3 B_z1
                  have e0q1L2 : wr.cell? ⟨g_L2, o_L2 + k, none⟩ = some (.int .u8 x_q1L2) := KB.el L2.out HLq1L2.out HPq1L2.out
                  have od5 : (x_q0L == 0) = false := decide_eq_false dd5
                  have od6 : (x_q0L == x_q1L2) = true := decide_eq_true dd6.out
                  have ob5 : (x_q0L != 0) = true := by rw [bne, od5]; rfl
                  have ob6 : (x_q0L != x_q1L2) = false := by rw [bne, od6]; rfl
                  go_quiet (fail)
                  clear c0z0 c1z0 c2z0 e0q0L c0z1 c1z1 c2z1 e0q1L2
                  have bb : Below wr.heap.size wr (wr.drewN nq) := bel_drewN (Below.refl _ _) _
                  generalize wr.drewN nq = w4q at *
                  replace B_z0 := mv B_z0 bb
                  replace B_z1 := mv B_z1 bb
                  replace L := Lib.hid (KB.below L.out bb)
                  replace L2 := Lib.hid (KB.below L2.out bb)
                  replace HB := nx HB bb
                  clear bb
                  have hpk : l.getD k 0 ≠ 0 → l.getD k 0 = l2.getD k 0 := by rw [HPq0L.out]; intro hne; rw [HPq1L2.out]; have e0 := dd5; have e1 := dd6.out; exact e1
                  have HI2 : Hid (∀ i, i < k + 1 → l.getD i 0 ≠ 0 → l.getD i 0 = l2.getD i 0) := fun i hi => (Nat.lt_succ_iff_lt_or_eq.mp hi).elim (HI.out i) (fun e => by rw [e]; exact hpk)
                  clear hpk
                  go_wp2_with fail
                  go_roundw
                  case rel => exact ⟨k + 1, by omega, by go_num, HI2, L, L2, B_z0, B_z1, HB⟩
                  case measure => simp only [intOf]; omega
                · skip
                  obtain ⟨c0z0, c1z0, c2z0⟩ := cells3 B_z0
                  go_upto_region 6 with (fail)
                  clear c0z0 c1z0 c2z0
                  obtain ⟨c0z0, c1z0, c2z0⟩ := cells3 B_z0
                  have e0q0L : wr.cell? ⟨g_L, o_L + k, none⟩ = some (.int .u8 x_q0L) := KB.el L.out HLq0L.out HPq0L.out
                  obtain ⟨c0z1, c1z1, c2z1⟩ := cells3 B_z1
                  have e0q1L2 : wr.cell? ⟨g_L2, o_L2 + k, none⟩ = some (.int .u8 x_q1L2) := KB.el L2.out HLq1L2.out HPq1L2.out
                  have od5 : (x_q0L == 0) = false := decide_eq_false dd5
                  have od6 : (x_q0L == x_q1L2) = false := decide_eq_false dd6
                  have ob5 : (x_q0L != 0) = true := by rw [bne, od5]; rfl
                  have ob6 : (x_q0L != x_q1L2) = true := by rw [bne, od6]; rfl
                  go_quiet (fail)
                  clear c0z0 c1z0 c2z0 e0q0L c0z1 c1z1 c2z1 e0q1L2
                  have bb : Below wr.heap.size wr (wr.drewN nq) := bel_drewN (Below.refl _ _) _
                  generalize wr.drewN nq = w5q at *
                  replace B_z0 := mv B_z0 bb
                  replace B_z1 := mv B_z1 bb
                  replace L := Lib.hid (KB.below L.out bb)
                  replace L2 := Lib.hid (KB.below L2.out bb)
                  replace HB := nx HB bb
                  clear bb
                  have HN : Hid (¬ BelP p q l u v l2) := fun h => by have h2 := h.2 k (by have := L.out.len; have := HLq0L.out; omega); rw [HPq0L.out, HPq1L2.out] at h2; exact dd6 (h2 dd5)
                  go_wp2
                  go_ret
                  exact ⟨rb (decide_eq_false HN.out).symm, nextw HB.out (by exact sm)⟩
            · skip
              have hkn : n = k := by omega
              subst hkn
              obtain ⟨c0z0, c1z0, c2z0⟩ := cells3 B_z0
              have HN : Hid (BelP p q l u v l2) := ⟨hal.out, fun i hi => HI.out i (by have := L.out.len; omega)⟩
              go_wp2
              go_ret
              exact ⟨rb (decide_eq_true HN.out).symm, nextw HB.out (by exact sm)⟩
        · skip
          replace dd2 := Lib.hid dd2
          obtain ⟨HB, B_z0, B_z1⟩ := box2 w 24 #[.int .i64 p, .int .i64 q, .slice A n c] 24 #[.int .i64 u, .int .i64 v, .slice A2 n2 c2]
          replace L := Lib.hid (KB.below L.out HB.out)
          replace L2 := Lib.hid (KB.below L2.out HB.out)
          go_enter Try.func49, Try.ntmps49
          go_upto_region 1 with (fail)
          generalize (w.alloc (.cells #[.int .i64 p, .int .i64 q, .slice A n c] 24)).alloc (.cells #[.int .i64 u, .int .i64 v, .slice A2 n2 c2] 24) = W0 at *
          have od2 : (p == u) = true := decide_eq_true dd2.out
          have od3 : (q == v) = false := decide_eq_false dd3
          have ob2 : (p != u) = false := by rw [bne, od2]; rfl
          have ob3 : (q != v) = true := by rw [bne, od3]; rfl
          obtain ⟨c0z0, c1z0, c2z0⟩ := cells3 B_z0
          go_wp2_with fail
          refine (RValid_w0 p q _ _ _ l (by omega) _ (KB.below L.out (by exact sm))).mono ?_
          clear c0z0 c1z0 c2z0
          rintro e w6 ⟨rfl, bb⟩
          replace bb := nextw (w0 := W0) (by exact sm) bb
          replace B_z0 := mv B_z0 bb
          replace B_z1 := mv B_z1 bb
          replace L := Lib.hid (KB.below L.out bb)
          replace L2 := Lib.hid (KB.below L2.out bb)
          replace HB := nx HB bb
          clear bb
          obtain ⟨c0z1, c1z1, c2z1⟩ := cells3 B_z1
          go_wp2_with fail
          refine (RValid_w0 u v _ _ _ l2 (by omega) _ (KB.below L2.out (by exact sm))).mono ?_
          clear c0z1 c1z1 c2z1
          rintro e w7 ⟨rfl, bb⟩
          replace bb := nextw (w0 := w6) (by exact sm) bb
          replace B_z0 := mv B_z0 bb
          replace B_z1 := mv B_z1 bb
          replace L := Lib.hid (KB.below L.out bb)
          replace L2 := Lib.hid (KB.below L2.out bb)
          replace HB := nx HB bb
          clear bb
          obtain ⟨c0z0, c1z0, c2z0⟩ := cells3 B_z0
          obtain ⟨c0z1, c1z1, c2z1⟩ := cells3 B_z1
          have HN : Hid (¬ BelP p q l u v l2) := fun h => dd3 h.1.2.2.2
          go_wp2
          go_ret
          exact ⟨rb (decide_eq_false HN.out).symm, nextw HB.out (by exact sm)⟩
      · skip
        obtain ⟨HB, B_z0, B_z1⟩ := box2 w 24 #[.int .i64 p, .int .i64 q, .slice A n c] 24 #[.int .i64 u, .int .i64 v, .slice A2 n2 c2]
        replace L := Lib.hid (KB.below L.out HB.out)
        replace L2 := Lib.hid (KB.below L2.out HB.out)
        go_enter Try.func49, Try.ntmps49
        go_upto_region 1 with (fail)
        generalize (w.alloc (.cells #[.int .i64 p, .int .i64 q, .slice A n c] 24)).alloc (.cells #[.int .i64 u, .int .i64 v, .slice A2 n2 c2] 24) = W0 at *
        have od2 : (p == u) = false := decide_eq_false dd2
        have ob2 : (p != u) = true := by rw [bne, od2]; rfl
        obtain ⟨c0z0, c1z0, c2z0⟩ := cells3 B_z0
        go_wp2_with fail
        refine (RValid_w0 p q _ _ _ l (by omega) _ (KB.below L.out (by exact sm))).mono ?_
        clear c0z0 c1z0 c2z0
        rintro e w8 ⟨rfl, bb⟩
        replace bb := nextw (w0 := W0) (by exact sm) bb
        replace B_z0 := mv B_z0 bb
        replace B_z1 := mv B_z1 bb
        replace L := Lib.hid (KB.below L.out bb)
        replace L2 := Lib.hid (KB.below L2.out bb)
        replace HB := nx HB bb
        clear bb
        obtain ⟨c0z1, c1z1, c2z1⟩ := cells3 B_z1
        go_wp2_with fail
        refine (RValid_w0 u v _ _ _ l2 (by omega) _ (KB.below L2.out (by exact sm))).mono ?_
        clear c0z1 c1z1 c2z1
        rintro e w9 ⟨rfl, bb⟩
        replace bb := nextw (w0 := w8) (by exact sm) bb
        replace B_z0 := mv B_z0 bb
        replace B_z1 := mv B_z1 bb
        replace L := Lib.hid (KB.below L.out bb)
        replace L2 := Lib.hid (KB.below L2.out bb)
        replace HB := nx HB bb
        clear bb
        obtain ⟨c0z0, c1z0, c2z0⟩ := cells3 B_z0
        obtain ⟨c0z1, c1z1, c2z1⟩ := cells3 B_z1
        have HN : Hid (¬ BelP p q l u v l2) := fun h => dd2 h.1.2.2.1
        go_wp2
        go_ret
        exact ⟨rb (decide_eq_false HN.out).symm, nextw HB.out (by exact sm)⟩
    · skip
      obtain ⟨HB, B_z0, B_z1⟩ := box2 w 24 #[.int .i64 p, .int .i64 q, .slice A n c] 24 #[.int .i64 u, .int .i64 v, .slice A2 n2 c2]
      replace L := Lib.hid (KB.below L.out HB.out)
      replace L2 := Lib.hid (KB.below L2.out HB.out)
      go_enter Try.func49, Try.ntmps49
      go_upto_region 1 with (fail)
      generalize (w.alloc (.cells #[.int .i64 p, .int .i64 q, .slice A n c] 24)).alloc (.cells #[.int .i64 u, .int .i64 v, .slice A2 n2 c2] 24) = W0 at *
      obtain ⟨c0z0, c1z0, c2z0⟩ := cells3 B_z0
      go_wp2_with fail
      refine (RValid_w0 p q _ _ _ l (by omega) _ (KB.below L.out (by exact sm))).mono ?_
      clear c0z0 c1z0 c2z0
      rintro e w10 ⟨rfl, bb⟩
      replace bb := nextw (w0 := W0) (by exact sm) bb
      replace B_z0 := mv B_z0 bb
      replace B_z1 := mv B_z1 bb
      replace L := Lib.hid (KB.below L.out bb)
      replace L2 := Lib.hid (KB.below L2.out bb)
      replace HB := nx HB bb
      clear bb
      obtain ⟨c0z1, c1z1, c2z1⟩ := cells3 B_z1
      go_wp2_with fail
      refine (RValid_w0 u v _ _ _ l2 (by omega) _ (KB.below L2.out (by exact sm))).mono ?_
      clear c0z1 c1z1 c2z1
      rintro e w11 ⟨rfl, bb⟩
      replace bb := nextw (w0 := w10) (by exact sm) bb
      replace B_z0 := mv B_z0 bb
      replace B_z1 := mv B_z1 bb
      replace L := Lib.hid (KB.below L.out bb)
      replace L2 := Lib.hid (KB.below L2.out bb)
      replace HB := nx HB bb
      clear bb
      have HN : Hid (¬ BelP p q l u v l2) := fun h => dd1 h.1.2.1
      go_wp2
      go_ret
      exact ⟨rb (decide_eq_false HN.out).symm, nextw HB.out (by exact sm)⟩
  · skip
    obtain ⟨HB, B_z0, B_z1⟩ := box2 w 24 #[.int .i64 p, .int .i64 q, .slice A n c] 24 #[.int .i64 u, .int .i64 v, .slice A2 n2 c2]
    replace L := Lib.hid (KB.below L.out HB.out)
    replace L2 := Lib.hid (KB.below L2.out HB.out)
    go_enter Try.func49, Try.ntmps49
    go_upto_region 1 with (fail)
    generalize (w.alloc (.cells #[.int .i64 p, .int .i64 q, .slice A n c] 24)).alloc (.cells #[.int .i64 u, .int .i64 v, .slice A2 n2 c2] 24) = W0 at *
    obtain ⟨c0z0, c1z0, c2z0⟩ := cells3 B_z0
    go_wp2_with fail
    refine (RValid_w0 p q _ _ _ l (by omega) _ (KB.below L.out (by exact sm))).mono ?_
    clear c0z0 c1z0 c2z0
    rintro e w12 ⟨rfl, bb⟩
    replace bb := nextw (w0 := W0) (by exact sm) bb
    replace B_z0 := mv B_z0 bb
    replace B_z1 := mv B_z1 bb
    replace L := Lib.hid (KB.below L.out bb)
    replace L2 := Lib.hid (KB.below L2.out bb)
    replace HB := nx HB bb
    clear bb
    have HN : Hid (¬ BelP p q l u v l2) := fun h => dd0 h.1.1
    go_wp2
    go_ret
    exact ⟨rb (decide_eq_false HN.out).symm, nextw HB.out (by exact sm)⟩
end Go.Proofs.Ytkhcogfajihecaa
