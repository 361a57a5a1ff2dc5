/- plan.At, the reference's. -/
import Derived.Test.YtkhcogfajihecaaY7
set_option linter.unusedVariables false
set_option linter.unusedSimpArgs false
namespace Go.Proofs.Ytkhcogfajihecaa
open Go Go.RowKit Hd

theorem has_is (p q a b : Int) (A : Option Addr) (n c : Nat) (l : List Int) (w : World) {lo hi : Nat} (L : KB w lo hi A n c l) :
    Calls Try.prog 59 #[.agg #[.int .i64 p, .int .i64 q, .slice A n c], .agg #[.int .i64 a, .int .i64 b]] w fun e w' => e = .returned (.bool (decide ((0 ≤ a ∧ a < p) ∧ (0 ≤ b ∧ b < q)))) ∧ Below w.heap.size w w' := by
  by_cases h0 : 0 ≤ a
  · by_cases h1 : a < p
    · by_cases h2 : 0 ≤ b
      · have r := has_w0 p q a b A n c l h0 h1 h2 w L
        rw [decide_eq_decide.2 (show b < q ↔ (0 ≤ a ∧ a < p) ∧ (0 ≤ b ∧ b < q) from ⟨fun h => ⟨⟨h0, h1⟩, h2, h⟩, fun h => h.2.2⟩)] at r
        exact r
      · rw [decide_eq_false (fun h => h2 h.2.1)]; exact has_w3 p q a b A n c l h0 h1 (by omega) w L
    · rw [decide_eq_false (fun h => h1 h.1.2)]; exact has_w2 p q a b A n c l h0 (by omega) w L
  · rw [decide_eq_false (fun h => h0 h.1.1)]; exact has_w1 p q a b A n c l (by omega) w L

theorem Inside_is (p q a b : Int) (A : Option Addr) (n c : Nat) (l : List Int) (w : World) {lo hi : Nat} (L : KB w lo hi A n c l) :
    Calls Try.prog 61 #[.agg #[.int .i64 p, .int .i64 q, .slice A n c], .agg #[.int .i64 a, .int .i64 b]] w fun e w' => e = .returned (.bool (decide ((0 ≤ a ∧ a < p) ∧ (0 ≤ b ∧ b < q)))) ∧ Below w.heap.size w w' := by
  by_cases h0 : 0 ≤ a
  · by_cases h1 : a < p
    · by_cases h2 : 0 ≤ b
      · have r := Inside_w0 p q a b A n c l h0 h1 h2 w L
        rw [decide_eq_decide.2 (show b < q ↔ (0 ≤ a ∧ a < p) ∧ (0 ≤ b ∧ b < q) from ⟨fun h => ⟨⟨h0, h1⟩, h2, h⟩, fun h => h.2.2⟩)] at r
        exact r
      · rw [decide_eq_false (fun h => h2 h.2.1)]; exact Inside_w3 p q a b A n c l h0 h1 (by omega) w L
    · rw [decide_eq_false (fun h => h1 h.1.2)]; exact Inside_w2 p q a b A n c l h0 (by omega) w L
  · rw [decide_eq_false (fun h => h0 h.1.1)]; exact Inside_w1 p q a b A n c l (by omega) w L

set_option maxRecDepth 100000 in
set_option maxHeartbeats 4000000 in
theorem At_is (p q a b : Int) (A : Option Addr) (n c : Nat) (l : List Int)  (hn : n ≤ 1000000) (w : World) {lo_L hi_L : Nat} (L : KB w lo_L hi_L A n c l) :
    Calls Try.prog 29 #[.agg #[.int .i64 p, .int .i64 q, .slice A n c], .agg #[.int .i64 a, .int .i64 b]] w fun e w' => e = .returned (.int .u8 (atX p q l a b)) ∧ Below w.heap.size w w' := by
  have hiL_L : hi_L ≤ w.heap.size := L.top
  replace L := Lib.hid L
  by_cases dd0 : OkP p q l
  · skip
    by_cases dd1 : (0 ≤ a ∧ a < p) ∧ (0 ≤ b ∧ b < q)
    · skip
      obtain ⟨⟨hi1, hi2⟩, hi3, hi4⟩ := (id dd1 : (0 ≤ a ∧ a < p) ∧ (0 ≤ b ∧ b < q))
      obtain ⟨hat1, hat2, hat3⟩ := at_in dd0 hi1 hi2 hi3 hi4
      have hlen := L.out.len
      have hnz : ((n : Nat) : Int) = (l.length : Int) := by omega
      have hlt2 : b * p + a < ((n : Nat) : Int) := by omega
      have hge2 : 0 ≤ b * p + a := by omega
      have hnn : (b * p + a).toNat < n := by omega
      have hp64 := dd0.1.2
      have hq64 := dd0.2.1.2
      clear hlen hnz
      have hlq0L : (b * p + a).toNat < n := by omega
      obtain ⟨g_L, o_L, eA_L, -, -⟩ := L.out.elem hlq0L
      subst eA_L
      obtain ⟨x_q0L, hpq0L⟩ : ∃ q, l.getD (b * p + a).toNat 0 = q := ⟨_, rfl⟩
      have HPq0L := Lib.hid hpq0L
      have HLq0L := Lib.hid hlq0L
      have hmq0L : x_q0L ∈ l := by rw [← hpq0L]; exact getB_mem (by have := L.out.len; omega)
      obtain ⟨hblq0L, hbhq0L⟩ := L.out.byte _ hmq0L
      clear hpq0L hlq0L
      obtain ⟨HB, B_z0, B_z1⟩ := box2 w 24 #[.int .i64 p, .int .i64 q, .slice (some ⟨g_L, o_L, none⟩) n c] 37 #[.int .i64 a, .int .i64 b]
      replace L := Lib.hid (KB.below L.out HB.out)
      go_enter Try.func29, Try.ntmps29
      go_upto_region 1 with (fail)
      generalize (w.alloc (.cells #[.int .i64 p, .int .i64 q, .slice (some ⟨g_L, o_L, none⟩) n c] 24)).alloc (.cells #[.int .i64 a, .int .i64 b] 37) = W0 at *
      obtain ⟨c0z0, c1z0, c2z0⟩ := cells3 B_z0
      go_wp2_with fail
      refine (Valid_is p q _ _ _ l (by omega) _ (KB.below L.out (by exact sm))).mono ?_
      clear c0z0 c1z0 c2z0
      rintro e w1 ⟨rfl, bb⟩
      replace bb := nextw (w0 := W0) (by exact sm) bb
      replace B_z0 := mv B_z0 bb
      replace B_z1 := mv B_z1 bb
      replace L := Lib.hid (KB.below L.out bb)
      replace HB := nx HB bb
      clear bb
      obtain ⟨c0z0, c1z0, c2z0⟩ := cells3 B_z0
      obtain ⟨c0z1, c1z1⟩ := cells2 B_z1
      go_wp2_with fail
      refine (has_is p q a b (some ⟨g_L, o_L, none⟩) n c l _ (KB.below L.out (by exact sm))).mono ?_
      clear c0z0 c1z0 c2z0 c0z1 c1z1
      rintro e w2 ⟨rfl, bb⟩
      replace bb := nextw (w0 := w1) (by exact sm) bb
      replace B_z0 := mv B_z0 bb
      replace B_z1 := mv B_z1 bb
      replace L := Lib.hid (KB.below L.out bb)
      replace HB := nx HB bb
      clear bb
      obtain ⟨c0z0, c1z0, c2z0⟩ := cells3 B_z0
      obtain ⟨c0z1, c1z1⟩ := cells2 B_z1
      have e0q0L : w2.cell? ⟨g_L, o_L + (b * p + a).toNat, none⟩ = some (.int .u8 x_q0L) := KB.el L.out HLq0L.out HPq0L.out
      have HN : Hid (x_q0L = atX p q l a b) := by unfold Hid atX; rw [if_pos dd0, if_pos dd1]; exact HPq0L.out.symm
      go_wp2
      go_ret
      exact ⟨ret_i HN.out, nextw HB.out (by exact sm)⟩
    · skip
      obtain ⟨HB, B_z0, B_z1⟩ := box2 w 24 #[.int .i64 p, .int .i64 q, .slice A n c] 37 #[.int .i64 a, .int .i64 b]
      replace L := Lib.hid (KB.below L.out HB.out)
      go_enter Try.func29, Try.ntmps29
      go_upto_region 1 with (fail)
      generalize (w.alloc (.cells #[.int .i64 p, .int .i64 q, .slice A n c] 24)).alloc (.cells #[.int .i64 a, .int .i64 b] 37) = W0 at *
      obtain ⟨c0z0, c1z0, c2z0⟩ := cells3 B_z0
      go_wp2_with fail
      refine (Valid_is p q _ _ _ l (by omega) _ (KB.below L.out (by exact sm))).mono ?_
      clear c0z0 c1z0 c2z0
      rintro e w3 ⟨rfl, bb⟩
      replace bb := nextw (w0 := W0) (by exact sm) bb
      replace B_z0 := mv B_z0 bb
      replace B_z1 := mv B_z1 bb
      replace L := Lib.hid (KB.below L.out bb)
      replace HB := nx HB bb
      clear bb
      obtain ⟨c0z0, c1z0, c2z0⟩ := cells3 B_z0
      obtain ⟨c0z1, c1z1⟩ := cells2 B_z1
      go_wp2_with fail
      refine (has_is p q a b A n c l _ (KB.below L.out (by exact sm))).mono ?_
      clear c0z0 c1z0 c2z0 c0z1 c1z1
      rintro e w4 ⟨rfl, bb⟩
      replace bb := nextw (w0 := w3) (by exact sm) bb
      replace B_z0 := mv B_z0 bb
      replace B_z1 := mv B_z1 bb
      replace L := Lib.hid (KB.below L.out bb)
      replace HB := nx HB bb
      clear bb
      have HN : Hid (2 = atX p q l a b) := by unfold Hid atX; rw [if_pos dd0, if_neg dd1]
      go_wp2
      go_ret
      exact ⟨ret_i HN.out, nextw HB.out (by exact sm)⟩
  · skip
    obtain ⟨HB, B_z0, B_z1⟩ := box2 w 24 #[.int .i64 p, .int .i64 q, .slice A n c] 37 #[.int .i64 a, .int .i64 b]
    replace L := Lib.hid (KB.below L.out HB.out)
    go_enter Try.func29, Try.ntmps29
    go_upto_region 1 with (fail)
    generalize (w.alloc (.cells #[.int .i64 p, .int .i64 q, .slice A n c] 24)).alloc (.cells #[.int .i64 a, .int .i64 b] 37) = W0 at *
    obtain ⟨c0z0, c1z0, c2z0⟩ := cells3 B_z0
    go_wp2_with fail
    refine (Valid_is p q _ _ _ l (by omega) _ (KB.below L.out (by exact sm))).mono ?_
    clear c0z0 c1z0 c2z0
    rintro e w5 ⟨rfl, bb⟩
    replace bb := nextw (w0 := W0) (by exact sm) bb
    replace B_z0 := mv B_z0 bb
    replace B_z1 := mv B_z1 bb
    replace L := Lib.hid (KB.below L.out bb)
    replace HB := nx HB bb
    clear bb
    have HN : Hid (0 = atX p q l a b) := (if_neg dd0).symm
    go_wp2
    go_ret
    exact ⟨ret_i HN.out, nextw HB.out (by exact sm)⟩

set_option maxRecDepth 100000 in
set_option maxHeartbeats 4000000 in
theorem BAt_is (p q a b : Int) (A : Option Addr) (n c : Nat) (l : List Int)  (hn : n ≤ 1000000) (hok : OkP p q l) (w : World) {lo_L hi_L : Nat} (L : KB w lo_L hi_L A n c l) :
    Calls Try.prog 62 #[.agg #[.int .i64 p, .int .i64 q, .slice A n c], .agg #[.int .i64 a, .int .i64 b]] w fun e w' => e = .returned (.int .u8 (atX p q l a b)) ∧ Below w.heap.size w w' := by
  have hiL_L : hi_L ≤ w.heap.size := L.top
  replace L := Lib.hid L
  by_cases dd0 : (0 ≤ a ∧ a < p) ∧ (0 ≤ b ∧ b < q)
  · skip
    obtain ⟨⟨hi1, hi2⟩, hi3, hi4⟩ := (id dd0 : (0 ≤ a ∧ a < p) ∧ (0 ≤ b ∧ b < q))
    obtain ⟨hat1, hat2, hat3⟩ := at_in hok hi1 hi2 hi3 hi4
    have hlen := L.out.len
    have hnz : ((n : Nat) : Int) = (l.length : Int) := by omega
    have hlt2 : b * p + a < ((n : Nat) : Int) := by omega
    have hge2 : 0 ≤ b * p + a := by omega
    have hnn : (b * p + a).toNat < n := by omega
    have hp64 := hok.1.2
    have hq64 := hok.2.1.2
    clear hlen hnz
    have hlq0L : (b * p + a).toNat < n := by omega
    obtain ⟨g_L, o_L, eA_L, -, -⟩ := L.out.elem hlq0L
    subst eA_L
    obtain ⟨x_q0L, hpq0L⟩ : ∃ q, l.getD (b * p + a).toNat 0 = q := ⟨_, rfl⟩
    have HPq0L := Lib.hid hpq0L
    have HLq0L := Lib.hid hlq0L
    have hmq0L : x_q0L ∈ l := by rw [← hpq0L]; exact getB_mem (by have := L.out.len; omega)
    obtain ⟨hblq0L, hbhq0L⟩ := L.out.byte _ hmq0L
    clear hpq0L hlq0L
    obtain ⟨HB, B_z0, B_z1⟩ := box2 w 24 #[.int .i64 p, .int .i64 q, .slice (some ⟨g_L, o_L, none⟩) n c] 37 #[.int .i64 a, .int .i64 b]
    replace L := Lib.hid (KB.below L.out HB.out)
    go_enter Try.func62, Try.ntmps62
    go_upto_region 1 with (fail)
    generalize (w.alloc (.cells #[.int .i64 p, .int .i64 q, .slice (some ⟨g_L, o_L, none⟩) n c] 24)).alloc (.cells #[.int .i64 a, .int .i64 b] 37) = W0 at *
    obtain ⟨c0z0, c1z0, c2z0⟩ := cells3 B_z0
    obtain ⟨c0z1, c1z1⟩ := cells2 B_z1
    go_wp2_with fail
    refine (Inside_is p q a b (some ⟨g_L, o_L, none⟩) n c l _ (KB.below L.out (by exact sm))).mono ?_
    clear c0z0 c1z0 c2z0 c0z1 c1z1
    rintro e w1 ⟨rfl, bb⟩
    replace bb := nextw (w0 := W0) (by exact sm) bb
    replace B_z0 := mv B_z0 bb
    replace B_z1 := mv B_z1 bb
    replace L := Lib.hid (KB.below L.out bb)
    replace HB := nx HB bb
    clear bb
    obtain ⟨c0z0, c1z0, c2z0⟩ := cells3 B_z0
    obtain ⟨c0z1, c1z1⟩ := cells2 B_z1
    have e0q0L : w1.cell? ⟨g_L, o_L + (b * p + a).toNat, none⟩ = some (.int .u8 x_q0L) := KB.el L.out HLq0L.out HPq0L.out
    have HN : Hid (x_q0L = atX p q l a b) := by unfold Hid atX; rw [if_pos hok, if_pos dd0]; exact HPq0L.out.symm
    go_wp2
    go_ret
    exact ⟨ret_i HN.out, nextw HB.out (by exact sm)⟩
  · skip
    obtain ⟨HB, B_z0, B_z1⟩ := box2 w 24 #[.int .i64 p, .int .i64 q, .slice A n c] 37 #[.int .i64 a, .int .i64 b]
    replace L := Lib.hid (KB.below L.out HB.out)
    go_enter Try.func62, Try.ntmps62
    go_upto_region 1 with (fail)
    generalize (w.alloc (.cells #[.int .i64 p, .int .i64 q, .slice A n c] 24)).alloc (.cells #[.int .i64 a, .int .i64 b] 37) = W0 at *
    obtain ⟨c0z0, c1z0, c2z0⟩ := cells3 B_z0
    obtain ⟨c0z1, c1z1⟩ := cells2 B_z1
    go_wp2_with fail
    refine (Inside_is p q a b A n c l _ (KB.below L.out (by exact sm))).mono ?_
    clear c0z0 c1z0 c2z0 c0z1 c1z1
    rintro e w2 ⟨rfl, bb⟩
    replace bb := nextw (w0 := W0) (by exact sm) bb
    replace B_z0 := mv B_z0 bb
    replace B_z1 := mv B_z1 bb
    replace L := Lib.hid (KB.below L.out bb)
    replace HB := nx HB bb
    clear bb
    have HN : Hid (2 = atX p q l a b) := by unfold Hid atX; rw [if_pos hok, if_neg dd0]
    go_wp2
    go_ret
    exact ⟨ret_i HN.out, nextw HB.out (by exact sm)⟩
end Go.Proofs.Ytkhcogfajihecaa
