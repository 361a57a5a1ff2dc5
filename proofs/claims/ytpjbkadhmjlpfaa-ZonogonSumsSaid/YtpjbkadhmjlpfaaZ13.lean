/- slices.Equal, Points, Zonogons. -/
import Derived.Test.YtpjbkadhmjlpfaaZ10
set_option linter.unusedVariables false
set_option linter.unusedSimpArgs false
namespace Go.Proofs.Ytpjbkadhmjlpfaa
open Go Go.RowKit Hd

set_option maxRecDepth 100000 in
set_option maxHeartbeats 4000000 in
theorem Equal_is (A : Option Addr) (n c : Nat) (l : List P2) (A2 : Option Addr) (n2 c2 : Nat) (l2 : List P2) (hn : n ≤ 100000) (hn2 : n2 ≤ 100000) (w : World) {lo_L hi_L : Nat} (L : PL w lo_L hi_L A n c l) {lo_L2 hi_L2 : Nat} (L2 : PL w lo_L2 hi_L2 A2 n2 c2 l2) :
    Calls Try.prog 66 #[.slice A n c, .slice A2 n2 c2] w fun e w' => e = .returned (.bool (decide (l = l2))) ∧ Below w.heap.size w w' := by
  by_cases hnn : n = n2
  · skip
    subst hnn
    replace L := Lib.hid L
    replace L2 := Lib.hid L2
    have HB := Lib.hid (Below.refl w.heap.size w)
    go_enter Try.func66, Try.ntmps66
    go_wp2_with fail
    go_loopw [13] (fun  kk wx => ∃ (k : Nat), k ≤ n ∧ kk = .int .i64 k ∧ Hid (l.take k = l2.take k) ∧ Hid (PL wx lo_L hi_L A n c l) ∧ Hid (PL wx lo_L2 hi_L2 A2 n c2 l2) ∧ Hid (Below w.heap.size w wx)) (fun  kk _ => n - (intOf kk).toNat)
    case atStart => exact ⟨0, by omega, rfl, Lib.hid (by simp), L, L2, HB⟩
    case round =>
      clear L L2 HB
      obtain ⟨k, hk, rfl, HK, L, L2, HB⟩ := hrel
      by_cases hlt : k < n
      · skip
        obtain ⟨g, o, eA, hg, e0, e1⟩ := L.out.elem hlt
        have hlen := L.out.len
        have hmem : l.getD k z2 ∈ l := getD_mem (by omega)
        have HT := Lib.hid (take_snoc l z2 (k := k) (by omega))
        subst eA
        obtain ⟨g2, o2, eB, hg2, d0, d1⟩ := L2.out.elem hlt
        have hlen2 := L2.out.len
        have HT2 := Lib.hid (take_snoc l2 z2 (k := k) (by omega))
        have HN := Lib.hid (And.intro hlen hlen2)
        subst eB
        have HLT := Lib.hid hlt
        generalize hp : l.getD k z2 = q at *
        generalize hq : l2.getD k z2 = q2 at *
        obtain ⟨px, py⟩ := q
        obtain ⟨sx, sy⟩ := q2
        have HPQ := Lib.hid (And.intro hp hq)
        dsimp only at e0 e1 d0 d1
        clear hp hq hmem hg hg2 hlen hlen2
        by_cases h1 : px = sx
        · skip
          subst h1
          by_cases h2 : py = sy
          · skip
            subst h2
            go_wp2_with fail
            go_quiet (fail)
            clear e0 e1 d0 d1
            have bb : Below wr.heap.size wr (wr.drewN nq) := bel_drewN (Below.refl _ _) _
            generalize wr.drewN nq = w1q at *
            replace L := Lib.hid (PL.below L.out bb)
            replace L2 := Lib.hid (PL.below L2.out bb)
            skip
            replace HB := nx HB bb
            clear bb
            have HTK : Hid (l.take (k + 1) = l2.take (k + 1)) := by unfold Hid; rw [HT.out, HT2.out, HK.out]
            go_wp2_with fail
            go_roundw
            case rel => exact ⟨k + 1, by omega, by go_num, HTK, L, L2, HB⟩
            case measure => simp only [intOf]; omega
          · skip
            have hb : (py == sy) = false := by simpa using h2
            have HNE := Lib.hid h2
            clear h2
            go_wp2_with fail
            go_quiet (fail)
            clear e0 e1 d0 d1
            have bb : Below wr.heap.size wr (wr.drewN nq) := bel_drewN (Below.refl _ _) _
            generalize wr.drewN nq = w2q at *
            replace L := Lib.hid (PL.below L.out bb)
            replace L2 := Lib.hid (PL.below L2.out bb)
            skip
            replace HB := nx HB bb
            clear bb
            have HF : ¬ (l = l2) := by intro e; have q := HPQ.out; rw [e] at q; obtain ⟨q1, q2⟩ := q; rw [q1] at q2; cases q2; exact HNE.out rfl
            go_wp2
            go_ret
            exact ⟨(rbf HF).symm, HB.out⟩
        · skip
          have hb : (px == sx) = false := by simpa using h1
          have HNE := Lib.hid h1
          clear h1
          go_wp2_with fail
          go_quiet (fail)
          clear e0 e1 d0 d1
          have bb : Below wr.heap.size wr (wr.drewN nq) := bel_drewN (Below.refl _ _) _
          generalize wr.drewN nq = w3q at *
          replace L := Lib.hid (PL.below L.out bb)
          replace L2 := Lib.hid (PL.below L2.out bb)
          skip
          replace HB := nx HB bb
          clear bb
          have HF : ¬ (l = l2) := by intro e; have q := HPQ.out; rw [e] at q; obtain ⟨q1, q2⟩ := q; rw [q1] at q2; cases q2; exact HNE.out rfl
          go_wp2
          go_ret
          exact ⟨(rbf HF).symm, HB.out⟩
      · skip
        obtain rfl : k = n := by omega
        have HF : l = l2 := by have h := HK.out; rw [List.take_of_length_le (by have := L.out.len; omega), List.take_of_length_le (by have := L2.out.len; omega)] at h; exact h
        have HF2 := Lib.hid HF
        clear HF
        go_wp2
        go_ret
        exact ⟨(rbt HF2.out).symm, HB.out⟩
  · skip
    have HF : ¬ (l = l2) := by intro e; have := L.len; have := L2.len; rw [e] at *; omega
    have HF2 := Lib.hid HF
    have hnz : ¬ ((n : Int) = (n2 : Int)) := by omega
    have hnz2 : ((n : Int) == (n2 : Int)) = false := by simpa using hnz
    clear HF L L2 hnn
    go_enter Try.func66, Try.ntmps66
    go_wp2
    go_ret
    exact ⟨(rbf HF2.out).symm, Below.refl _ _⟩

set_option maxRecDepth 100000 in
set_option maxHeartbeats 4000000 in
theorem Points_is (A : Option Addr) (n c : Nat) (l : List P2) (A2 : Option Addr) (n2 c2 : Nat) (l2 : List P2) (hn : n ≤ 100000) (hn2 : n2 ≤ 100000) (w : World) {lo_L hi_L : Nat} (L : PL w lo_L hi_L A n c l) {lo_L2 hi_L2 : Nat} (L2 : PL w lo_L2 hi_L2 A2 n2 c2 l2) :
    Calls Try.prog 24 #[.slice A n c, .slice A2 n2 c2] w fun e w' => e = .returned (.bool (decide (l = l2))) ∧ Below w.heap.size w w' := by
  by_cases hnn : n = n2
  · skip
    subst hnn
    replace L := Lib.hid L
    replace L2 := Lib.hid L2
    have HB := Lib.hid (Below.refl w.heap.size w)
    go_enter Try.func24, Try.ntmps24
    go_wp2_with fail
    go_loopw [5] (fun  kk wx => ∃ (k : Nat), k ≤ n ∧ kk = .int .i64 k ∧ Hid (l.take k = l2.take k) ∧ Hid (PL wx lo_L hi_L A n c l) ∧ Hid (PL wx lo_L2 hi_L2 A2 n c2 l2) ∧ Hid (Below w.heap.size w wx)) (fun  kk _ => n - (intOf kk).toNat)
    case atStart => exact ⟨0, by omega, rfl, Lib.hid (by simp), L, L2, HB⟩
    case round =>
      clear L L2 HB
      obtain ⟨k, hk, rfl, HK, L, L2, HB⟩ := hrel
      by_cases hlt : k < n
      · skip
        obtain ⟨g, o, eA, hg, e0, e1⟩ := L.out.elem hlt
        have hlen := L.out.len
        have hmem : l.getD k z2 ∈ l := getD_mem (by omega)
        have HT := Lib.hid (take_snoc l z2 (k := k) (by omega))
        subst eA
        obtain ⟨g2, o2, eB, hg2, d0, d1⟩ := L2.out.elem hlt
        have hlen2 := L2.out.len
        have HT2 := Lib.hid (take_snoc l2 z2 (k := k) (by omega))
        have HN := Lib.hid (And.intro hlen hlen2)
        subst eB
        have HLT := Lib.hid hlt
        generalize hp : l.getD k z2 = q at *
        generalize hq : l2.getD k z2 = q2 at *
        obtain ⟨px, py⟩ := q
        obtain ⟨sx, sy⟩ := q2
        have HPQ := Lib.hid (And.intro hp hq)
        dsimp only at e0 e1 d0 d1
        clear hp hq hmem hg hg2 hlen hlen2
        by_cases h1 : px = sx
        · skip
          subst h1
          by_cases h2 : py = sy
          · skip
            subst h2
            go_wp2_with fail
            go_quiet (fail)
            clear e0 e1 d0 d1
            have bb : Below wr.heap.size wr (wr.drewN nq) := bel_drewN (Below.refl _ _) _
            generalize wr.drewN nq = w1q at *
            replace L := Lib.hid (PL.below L.out bb)
            replace L2 := Lib.hid (PL.below L2.out bb)
            skip
            replace HB := nx HB bb
            clear bb
            have HTK : Hid (l.take (k + 1) = l2.take (k + 1)) := by unfold Hid; rw [HT.out, HT2.out, HK.out]
            go_wp2_with fail
            go_roundw
            case rel => exact ⟨k + 1, by omega, by go_num, HTK, L, L2, HB⟩
            case measure => simp only [intOf]; omega
          · skip
            have hb : (py == sy) = false := by simpa using h2
            have HNE := Lib.hid h2
            clear h2
            go_wp2_with fail
            go_quiet (fail)
            clear e0 e1 d0 d1
            have bb : Below wr.heap.size wr (wr.drewN nq) := bel_drewN (Below.refl _ _) _
            generalize wr.drewN nq = w2q at *
            replace L := Lib.hid (PL.below L.out bb)
            replace L2 := Lib.hid (PL.below L2.out bb)
            skip
            replace HB := nx HB bb
            clear bb
            have HF : ¬ (l = l2) := by intro e; have q := HPQ.out; rw [e] at q; obtain ⟨q1, q2⟩ := q; rw [q1] at q2; cases q2; exact HNE.out rfl
            go_wp2
            go_ret
            exact ⟨(rbf HF).symm, HB.out⟩
        · skip
          have hb : (px == sx) = false := by simpa using h1
          have HNE := Lib.hid h1
          clear h1
          go_wp2_with fail
          go_quiet (fail)
          clear e0 e1 d0 d1
          have bb : Below wr.heap.size wr (wr.drewN nq) := bel_drewN (Below.refl _ _) _
          generalize wr.drewN nq = w3q at *
          replace L := Lib.hid (PL.below L.out bb)
          replace L2 := Lib.hid (PL.below L2.out bb)
          skip
          replace HB := nx HB bb
          clear bb
          have HF : ¬ (l = l2) := by intro e; have q := HPQ.out; rw [e] at q; obtain ⟨q1, q2⟩ := q; rw [q1] at q2; cases q2; exact HNE.out rfl
          go_wp2
          go_ret
          exact ⟨(rbf HF).symm, HB.out⟩
      · skip
        obtain rfl : k = n := by omega
        have HF : l = l2 := by have h := HK.out; rw [List.take_of_length_le (by have := L.out.len; omega), List.take_of_length_le (by have := L2.out.len; omega)] at h; exact h
        have HF2 := Lib.hid HF
        clear HF
        go_wp2
        go_ret
        exact ⟨(rbt HF2.out).symm, HB.out⟩
  · skip
    have HF : ¬ (l = l2) := by intro e; have := L.len; have := L2.len; rw [e] at *; omega
    have HF2 := Lib.hid HF
    have hnz : ¬ ((n : Int) = (n2 : Int)) := by omega
    have hnz2 : ((n : Int) == (n2 : Int)) = false := by simpa using hnz
    clear HF L L2 hnn
    go_enter Try.func24, Try.ntmps24
    go_wp2
    go_ret
    exact ⟨(rbf HF2.out).symm, Below.refl _ _⟩

set_option maxRecDepth 100000 in
set_option maxHeartbeats 4000000 in
theorem Zonogons_w0 (x y u v : Int) (A : Option Addr) (n c : Nat) (l : List P2) (A2 : Option Addr) (n2 c2 : Nat) (l2 : List P2)  (hn : n ≤ 100000) (hn2 : n2 ≤ 100000) (dd0 : x = u) (dd1 : y = v) (w : World) {lo_L hi_L : Nat} (L : PL w lo_L hi_L A n c l) {lo_L2 hi_L2 : Nat} (L2 : PL w lo_L2 hi_L2 A2 n2 c2 l2) :
    Calls Try.prog 21 #[.agg #[.int .i64 x, .int .i64 y, .slice A n c], .agg #[.int .i64 u, .int .i64 v, .slice A2 n2 c2]] w fun e w' => e = .returned (.bool (decide (l = l2))) ∧ Below w.heap.size w w' := by
  replace L := Lib.hid L
  replace L2 := Lib.hid L2
  replace dd0 := Lib.hid dd0
  replace dd1 := Lib.hid dd1
  obtain ⟨HB, B_z0, B_z1⟩ := box2 w 24 #[.int .i64 x, .int .i64 y, .slice A n c] 24 #[.int .i64 u, .int .i64 v, .slice A2 n2 c2]
  replace L := Lib.hid (PL.below L.out HB.out)
  replace L2 := Lib.hid (PL.below L2.out HB.out)
  go_enter Try.func21, Try.ntmps21
  go_upto_region 1 with (fail)
  generalize (w.alloc (.cells #[.int .i64 x, .int .i64 y, .slice A n c] 24)).alloc (.cells #[.int .i64 u, .int .i64 v, .slice A2 n2 c2] 24) = W0 at *
  have ddo0 := dd0.out
  have ddo1 := dd1.out
  obtain ⟨c0z0, c1z0, c2z0⟩ := cells3 B_z0
  obtain ⟨c0z1, c1z1, c2z1⟩ := cells3 B_z1
  go_wp2_with fail
  refine (Points_is _ _ _ l _ _ _ l2 (by omega) (by omega) _ (PL.below L.out (by exact sm)) (PL.below L2.out (by exact sm))).mono ?_
  clear c0z0 c1z0 c2z0 c0z1 c1z1 c2z1
  rintro e w1 ⟨rfl, bb⟩
  replace bb := nextw (w0 := W0) (by exact sm) bb
  replace B_z0 := mv B_z0 bb
  replace B_z1 := mv B_z1 bb
  replace L := Lib.hid (PL.below L.out bb)
  replace L2 := Lib.hid (PL.below L2.out bb)
  replace HB := nx HB bb
  clear bb
  go_wp2
  go_ret
  exact ⟨(by first | rfl | exact rbt (by omega) | exact rbf (by omega)), nextw HB.out (by exact sm)⟩

set_option maxRecDepth 100000 in
set_option maxHeartbeats 4000000 in
theorem Zonogons_w1 (x y u v : Int) (A : Option Addr) (n c : Nat) (l : List P2) (A2 : Option Addr) (n2 c2 : Nat) (l2 : List P2)  (hn : n ≤ 100000) (hn2 : n2 ≤ 100000) (dd0 : ¬ (x = u)) (w : World) {lo_L hi_L : Nat} (L : PL w lo_L hi_L A n c l) {lo_L2 hi_L2 : Nat} (L2 : PL w lo_L2 hi_L2 A2 n2 c2 l2) :
    Calls Try.prog 21 #[.agg #[.int .i64 x, .int .i64 y, .slice A n c], .agg #[.int .i64 u, .int .i64 v, .slice A2 n2 c2]] w fun e w' => e = .returned (.bool false) ∧ Below w.heap.size w w' := by
  replace L := Lib.hid L
  replace L2 := Lib.hid L2
  obtain ⟨HB, B_z0, B_z1⟩ := box2 w 24 #[.int .i64 x, .int .i64 y, .slice A n c] 24 #[.int .i64 u, .int .i64 v, .slice A2 n2 c2]
  replace L := Lib.hid (PL.below L.out HB.out)
  replace L2 := Lib.hid (PL.below L2.out HB.out)
  go_enter Try.func21, Try.ntmps21
  go_upto_region 1 with (fail)
  generalize (w.alloc (.cells #[.int .i64 x, .int .i64 y, .slice A n c] 24)).alloc (.cells #[.int .i64 u, .int .i64 v, .slice A2 n2 c2] 24) = W0 at *
  obtain ⟨c0z0, c1z0, c2z0⟩ := cells3 B_z0
  obtain ⟨c0z1, c1z1, c2z1⟩ := cells3 B_z1
  go_wp2
  go_ret
  exact ⟨(by first | rfl | exact rbt (by omega) | exact rbf (by omega)), nextw HB.out (by exact sm)⟩

set_option maxRecDepth 100000 in
set_option maxHeartbeats 4000000 in
theorem Zonogons_w2 (x y u v : Int) (A : Option Addr) (n c : Nat) (l : List P2) (A2 : Option Addr) (n2 c2 : Nat) (l2 : List P2)  (hn : n ≤ 100000) (hn2 : n2 ≤ 100000) (dd0 : x = u) (dd1 : ¬ (y = v)) (w : World) {lo_L hi_L : Nat} (L : PL w lo_L hi_L A n c l) {lo_L2 hi_L2 : Nat} (L2 : PL w lo_L2 hi_L2 A2 n2 c2 l2) :
    Calls Try.prog 21 #[.agg #[.int .i64 x, .int .i64 y, .slice A n c], .agg #[.int .i64 u, .int .i64 v, .slice A2 n2 c2]] w fun e w' => e = .returned (.bool false) ∧ Below w.heap.size w w' := by
  replace L := Lib.hid L
  replace L2 := Lib.hid L2
  replace dd0 := Lib.hid dd0
  obtain ⟨HB, B_z0, B_z1⟩ := box2 w 24 #[.int .i64 x, .int .i64 y, .slice A n c] 24 #[.int .i64 u, .int .i64 v, .slice A2 n2 c2]
  replace L := Lib.hid (PL.below L.out HB.out)
  replace L2 := Lib.hid (PL.below L2.out HB.out)
  go_enter Try.func21, Try.ntmps21
  go_upto_region 1 with (fail)
  generalize (w.alloc (.cells #[.int .i64 x, .int .i64 y, .slice A n c] 24)).alloc (.cells #[.int .i64 u, .int .i64 v, .slice A2 n2 c2] 24) = W0 at *
  have ddo0 := dd0.out
  obtain ⟨c0z0, c1z0, c2z0⟩ := cells3 B_z0
  obtain ⟨c0z1, c1z1, c2z1⟩ := cells3 B_z1
  go_wp2
  go_ret
  exact ⟨(by first | rfl | exact rbt (by omega) | exact rbf (by omega)), nextw HB.out (by exact sm)⟩

def ZonogonsV (x y u v : Int) (A : Option Addr) (n c : Nat) (l : List P2) (A2 : Option Addr) (n2 c2 : Nat) (l2 : List P2) : Value := if x = u then if y = v then .bool (decide (l = l2)) else .bool false else .bool false
theorem Zonogons_any (x y u v : Int) (A : Option Addr) (n c : Nat) (l : List P2) (A2 : Option Addr) (n2 c2 : Nat) (l2 : List P2) (hn : n ≤ 100000) (hn2 : n2 ≤ 100000) (w : World) {lo_L hi_L : Nat} (L : PL w lo_L hi_L A n c l) {lo_L2 hi_L2 : Nat} (L2 : PL w lo_L2 hi_L2 A2 n2 c2 l2) :
    Calls Try.prog 21 #[.agg #[.int .i64 x, .int .i64 y, .slice A n c], .agg #[.int .i64 u, .int .i64 v, .slice A2 n2 c2]] w fun e w' => e = .returned (ZonogonsV x y u v A n c l A2 n2 c2 l2) ∧ Below w.heap.size w w' := by
  unfold ZonogonsV
  by_cases dd0 : x = u
  · rw [if_pos dd0]
    by_cases dd1 : y = v
    · rw [if_pos dd1]
      exact Zonogons_w0 x y u v A n c l A2 n2 c2 l2   hn hn2 dd0 dd1 w L L2
    · rw [if_neg dd1]
      exact Zonogons_w2 x y u v A n c l A2 n2 c2 l2   hn hn2 dd0 dd1 w L L2
  · rw [if_neg dd0]
    exact Zonogons_w1 x y u v A n c l A2 n2 c2 l2   hn hn2 dd0 w L L2
end Go.Proofs.Ytpjbkadhmjlpfaa
