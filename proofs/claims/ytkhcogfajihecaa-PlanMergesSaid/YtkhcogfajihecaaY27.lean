/- plan.Merge. -/
import Derived.Test.YtkhcogfajihecaaYOwn
set_option linter.unusedVariables false
set_option linter.unusedSimpArgs false
namespace Go.Proofs.Ytkhcogfajihecaa
open Go Go.RowKit Hd

theorem ext_getD {l m : List Int} (hl : l.length = m.length) (h : ∀ i, i < l.length → l.getD i 0 = m.getD i 0) : l = m := by
  refine List.ext_getElem hl (fun i h1 h2 => ?_)
  have := h i h1
  rw [List.getD_eq_getElem?_getD, List.getD_eq_getElem?_getD, List.getElem?_eq_getElem h1, List.getElem?_eq_getElem h2] at this
  simpa using this
/-- Two plans contradict one another at the cell i. -/
def conf (l l2 : List Int) (i : Nat) : Prop := l2.getD i 0 ≠ 0 ∧ l.getD i 0 ≠ 0 ∧ l.getD i 0 ≠ l2.getD i 0
instance (l l2 : List Int) (i : Nat) : Decidable (conf l l2 i) := inferInstanceAs (Decidable (_ ∧ _ ∧ _))
/-- The cells with the first k of both. -/
def mgK (l l2 : List Int) (k : Nat) : List Int := (List.range l.length).map fun i => if i < k ∧ l2.getD i 0 ≠ 0 then l2.getD i 0 else l.getD i 0
def mgE (p q : Int) (l : List Int) (u v : Int) (l2 : List Int) : Int := if AlP p q l u v l2 then if ∀ i, i < l.length → ¬ conf l l2 i then 0 else 11 else 1
def mgX (p q : Int) (l : List Int) (u v : Int) (l2 : List Int) (x : Int) : Int := if mgE p q l u v l2 = 0 then x else 0
def mgV (p q : Int) (l : List Int) (u v : Int) (l2 : List Int) : List Int := if mgE p q l u v l2 = 0 then mgK l l2 l.length else []
theorem mgK_len (l l2 : List Int) (k : Nat) : (mgK l l2 k).length = l.length := by simp [mgK]
theorem mgK_get {l l2 : List Int} {k i : Nat} (h : i < l.length) : (mgK l l2 k).getD i 0 = if i < k ∧ l2.getD i 0 ≠ 0 then l2.getD i 0 else l.getD i 0 := by
  unfold mgK
  rw [List.getD_eq_getElem?_getD, List.getElem?_map, List.getElem?_range h]
  rfl
theorem mgK_0 (l l2 : List Int) : mgK l l2 0 = l := ext_getD (mgK_len _ _ _) (fun i hi => by
  rw [mgK_len] at hi
  rw [mgK_get hi, if_neg (by omega)])
theorem mgK_skip {l l2 : List Int} {k : Nat} (h : l2.getD k 0 = 0) : mgK l l2 (k + 1) = mgK l l2 k := ext_getD (by rw [mgK_len, mgK_len]) (fun i hi => by
  rw [mgK_len] at hi
  rw [mgK_get hi, mgK_get hi]
  by_cases e : i = k
  · subst e; rw [if_neg (fun g => g.2 h), if_neg (fun g => g.2 h)]
  · by_cases e2 : i < k ∧ l2.getD i 0 ≠ 0
    · rw [if_pos e2, if_pos ⟨by omega, e2.2⟩]
    · rw [if_neg e2, if_neg (fun g => e2 ⟨by omega, g.2⟩)])
theorem getD_set (l : List Int) (i k : Nat) (x : Int) (h : i < l.length) : (l.set k x).getD i 0 = if k = i then x else l.getD i 0 := by
  rw [List.getD_eq_getElem?_getD, List.getD_eq_getElem?_getD, List.getElem?_set]
  by_cases e : k = i
  · subst e; rw [if_pos rfl, if_pos rfl, if_pos h]; rfl
  · rw [if_neg e, if_neg e]
theorem mgK_set {l l2 : List Int} {k : Nat} (hk : k < l.length) (h : l2.getD k 0 ≠ 0) : mgK l l2 (k + 1) = (mgK l l2 k).set k (l2.getD k 0) := ext_getD (by rw [List.length_set, mgK_len, mgK_len]) (fun i hi => by
  rw [mgK_len] at hi
  rw [mgK_get hi, getD_set _ _ _ _ (by rw [mgK_len]; exact hi), mgK_get hi]
  by_cases e : k = i
  · subst e
    rw [if_pos ⟨by omega, h⟩, if_pos rfl]
  · rw [if_neg e]
    by_cases e2 : i < k ∧ l2.getD i 0 ≠ 0
    · rw [if_pos e2, if_pos ⟨by omega, e2.2⟩]
    · rw [if_neg e2, if_neg (fun g => e2 ⟨by omega, g.2⟩)])
theorem mgK_byte {l l2 : List Int} {k : Nat} (hl : l.length = l2.length) (h1 : ∀ b ∈ l, 0 ≤ b ∧ b ≤ 255) (h2 : ∀ b ∈ l2, 0 ≤ b ∧ b ≤ 255) : ∀ b ∈ mgK l l2 k, 0 ≤ b ∧ b ≤ 255 := by
  intro b hb
  unfold mgK at hb
  obtain ⟨i, hi, rfl⟩ := List.mem_map.1 hb
  rw [List.mem_range] at hi
  split
  · exact h2 _ (getB_mem (by omega))
  · exact h1 _ (getB_mem hi)
theorem ownv_cast {w : World} {b g c : Nat} {l m : List Int} (h : Hid (OwnV w b g c l)) (e : l = m) : Hid (OwnV w b g c m) := e ▸ h
theorem mgE_1 {p q u v : Int} {l l2 : List Int} (h : ¬ AlP p q l u v l2) : mgE p q l u v l2 = 1 := if_neg h
theorem mgE_11 {p q u v : Int} {l l2 : List Int} (h : AlP p q l u v l2) {i : Nat} (hi : i < l.length) (hc : conf l l2 i) : mgE p q l u v l2 = 11 := by unfold mgE; rw [if_pos h, if_neg (fun g => g i hi hc)]
theorem mgE_0 {p q u v : Int} {l l2 : List Int} (h : AlP p q l u v l2) (g : ∀ i, i < l.length → ¬ conf l l2 i) : mgE p q l u v l2 = 0 := by unfold mgE; rw [if_pos h, if_pos g]
theorem mgX_0 {p q u v x : Int} {l l2 : List Int} (h : mgE p q l u v l2 = 0) : mgX p q l u v l2 x = x := if_pos h
theorem mgX_1 {p q u v x : Int} {l l2 : List Int} (h : mgE p q l u v l2 ≠ 0) : mgX p q l u v l2 x = 0 := if_neg h
theorem mgV_0 {p q u v : Int} {l l2 : List Int} (h : mgE p q l u v l2 = 0) : mgV p q l u v l2 = mgK l l2 l.length := if_pos h
theorem mgV_1 {p q u v : Int} {l l2 : List Int} (h : mgE p q l u v l2 ≠ 0) : mgV p q l u v l2 = [] := if_neg h
theorem alike_yes (p q u v : Int) (A : Option Addr) (n c : Nat) (l : List Int) (A2 : Option Addr) (n2 c2 : Nat) (l2 : List Int) (hn : n ≤ 1000000) (hn2 : n2 ≤ 1000000) (h0 : AlP p q l u v l2) (w : World) {lo hi lo2 hi2 : Nat} (L : KB w lo hi A n c l) (L2 : KB w lo2 hi2 A2 n2 c2 l2) : Calls Try.prog 84 #[.agg #[.int .i64 p, .int .i64 q, .slice A n c], .agg #[.int .i64 u, .int .i64 v, .slice A2 n2 c2]] w fun e w' => e = .returned (.bool true) ∧ Below w.heap.size w w' := by
  have h := alike_is p q u v A n c l A2 n2 c2 l2 hn hn2 w L L2
  rw [decide_eq_true h0] at h
  exact h
theorem alike_no (p q u v : Int) (A : Option Addr) (n c : Nat) (l : List Int) (A2 : Option Addr) (n2 c2 : Nat) (l2 : List Int) (hn : n ≤ 1000000) (hn2 : n2 ≤ 1000000) (h0 : ¬ AlP p q l u v l2) (w : World) {lo hi lo2 hi2 : Nat} (L : KB w lo hi A n c l) (L2 : KB w lo2 hi2 A2 n2 c2 l2) : Calls Try.prog 84 #[.agg #[.int .i64 p, .int .i64 q, .slice A n c], .agg #[.int .i64 u, .int .i64 v, .slice A2 n2 c2]] w fun e w' => e = .returned (.bool false) ∧ Below w.heap.size w w' := by
  have h := alike_is p q u v A n c l A2 n2 c2 l2 hn hn2 w L L2
  rw [decide_eq_false h0] at h
  exact h

set_option maxRecDepth 100000 in
set_option maxHeartbeats 4000000 in
theorem Merge_no (p q u v : Int) (A : Option Addr) (n c : Nat) (l : List Int) (A2 : Option Addr) (n2 c2 : Nat) (l2 : List Int) (hn : n ≤ 1000000) (hn2 : n2 ≤ 1000000) (h : ¬ AlP p q l u v l2) (w : World) {lo hi lo2 hi2 : Nat} (L : KB w lo hi A n c l) (L2 : KB w lo2 hi2 A2 n2 c2 l2) :
    Calls Try.prog 46 #[.agg #[.int .i64 p, .int .i64 q, .slice A n c], .agg #[.int .i64 u, .int .i64 v, .slice A2 n2 c2]] w fun e w' => ∃ A c, e = .returned (.tuple #[.agg #[.int .i64 (mgX p q l u v l2 p), .int .i64 (mgX p q l u v l2 q), .slice A (mgV p q l u v l2).length c], .int .i64 (mgE p q l u v l2)]) ∧ KB w' w.heap.size w'.heap.size A (mgV p q l u v l2).length c (mgV p q l u v l2) ∧ Below w.heap.size w w' := by
  have HV : Hid (mgE p q l u v l2 = 1) := mgE_1 h
  replace h := Lib.hid h
  have HV1 : Hid (mgV p q l u v l2 = []) := mgV_1 (by rw [HV.out]; decide)
  have HV2 : Hid (mgX p q l u v l2 p = 0) := mgX_1 (by rw [HV.out]; decide)
  have HV3 : Hid (mgX p q l u v l2 q = 0) := mgX_1 (by rw [HV.out]; decide)
  have hiL := L.top
  have hiL2 := L2.top
  replace L := Lib.hid L
  replace L2 := Lib.hid L2
  obtain ⟨HB, B_z0, B_z1, B_z2⟩ := box3 w 24 #[.int .i64 p, .int .i64 q, .slice A n c] 24 #[.int .i64 u, .int .i64 v, .slice A2 n2 c2] 24 #[.int .i64 0, .int .i64 0, .slice none 0 0]
  replace L := Lib.hid (KB.below L.out HB.out)
  replace L2 := Lib.hid (KB.below L2.out HB.out)
  go_enter Try.func46, Try.ntmps46
  go_wp2_with fail
  generalize ((w.alloc (.cells #[.int .i64 p, .int .i64 q, .slice A n c] 24)).alloc (.cells #[.int .i64 u, .int .i64 v, .slice A2 n2 c2] 24)).alloc (.cells #[.int .i64 0, .int .i64 0, .slice none 0 0] 24) = W0 at *
  obtain ⟨c0z0, c1z0, c2z0⟩ := cells3 B_z0
  obtain ⟨c0z1, c1z1, c2z1⟩ := cells3 B_z1
  go_wp2_with fail
  refine (alike_no p q u v A n c l A2 n2 c2 l2 hn hn2 h.out _ (KB.below L.out (by exact sm)) (KB.below L2.out (by exact sm))).mono ?_
  clear c0z0 c1z0 c2z0 c0z1 c1z1 c2z1
  rintro e w1 ⟨rfl, bb⟩
  replace bb := nextw (w0 := W0) (by exact sm) bb
  replace B_z0 := mv B_z0 bb
  replace B_z1 := mv B_z1 bb
  replace B_z2 := mv B_z2 bb
  replace L := Lib.hid (KB.below L.out bb)
  replace L2 := Lib.hid (KB.below L2.out bb)
  replace HB := nx HB bb
  clear bb
  obtain ⟨s0, s1, s2⟩ := cells3 (stor3 B_z2 (.int .i64 0) (.int .i64 0) (.slice none 0 0))
  have HF := stb3 HB (y := w.heap.size + 1 + 1) (by omega) 0 (.int .i64 0) 1 (.int .i64 0) 2 (.slice none 0 0)
  obtain ⟨c0z2, c1z2, c2z2⟩ := cells3 B_z2
  obtain ⟨f0z2, f1z2, f2z2⟩ := froz3 B_z2
  go_wp2_with fail
  exact bodyPost_ret (v := .tuple #[.agg #[.int .i64 0, .int .i64 0, .slice none 0 0], .int .i64 1]) (by simp [results, Try.results46, go_sem, s0, s1, s2]) rfl ⟨none, 0, (by rw [HV.out, HV1.out, HV2.out, HV3.out]; rfl), (by rw [HV1.out]; exact kb_nil _ _), nextw HF.out (by exact sm)⟩

set_option maxRecDepth 100000 in
set_option maxHeartbeats 4000000 in
theorem Merge_yes (p q u v : Int) (A : Option Addr) (n c : Nat) (l : List Int) (A2 : Option Addr) (n2 c2 : Nat) (l2 : List Int) (hn : n ≤ 1000000) (hn2 : n2 ≤ 1000000) (h : AlP p q l u v l2) (w : World) {lo hi lo2 hi2 : Nat} (L : KB w lo hi A n c l) (L2 : KB w lo2 hi2 A2 n2 c2 l2) :
    Calls Try.prog 46 #[.agg #[.int .i64 p, .int .i64 q, .slice A n c], .agg #[.int .i64 u, .int .i64 v, .slice A2 n2 c2]] w fun e w' => ∃ A c, e = .returned (.tuple #[.agg #[.int .i64 (mgX p q l u v l2 p), .int .i64 (mgX p q l u v l2 q), .slice A (mgV p q l u v l2).length c], .int .i64 (mgE p q l u v l2)]) ∧ KB w' w.heap.size w'.heap.size A (mgV p q l u v l2).length c (mgV p q l u v l2) ∧ Below w.heap.size w w' := by
  have hal := al_len h
  have hln := L.len
  have hln2 := L2.len
  have hlb := (okp_len h.1).1
  have hn1 : 1 ≤ n := by omega
  have hnn : n2 ≤ n := by omega
  have hnn2 : n ≤ n2 := by omega
  have hnl1 : n ≤ l.length := by omega
  have hnl2 : l.length ≤ n := by omega
  have hnm1 : n2 ≤ l2.length := by omega
  have hnm2 : l2.length ≤ n2 := by omega
  have hby := Lib.hid L.byte
  have hby2 := Lib.hid L2.byte
  replace h := Lib.hid h
  replace hal := Lib.hid hal
  replace hln := Lib.hid hln
  replace hln2 := Lib.hid hln2
  have hiL := L.top
  have hiL2 := L2.top
  replace L := Lib.hid L
  replace L2 := Lib.hid L2
  obtain ⟨HB, B_z0, B_z1, B_z2⟩ := box3 w 24 #[.int .i64 p, .int .i64 q, .slice A n c] 24 #[.int .i64 u, .int .i64 v, .slice A2 n2 c2] 24 #[.int .i64 0, .int .i64 0, .slice none 0 0]
  replace L := Lib.hid (KB.below L.out HB.out)
  replace L2 := Lib.hid (KB.below L2.out HB.out)
  go_enter Try.func46, Try.ntmps46
  go_wp2_with fail
  generalize ((w.alloc (.cells #[.int .i64 p, .int .i64 q, .slice A n c] 24)).alloc (.cells #[.int .i64 u, .int .i64 v, .slice A2 n2 c2] 24)).alloc (.cells #[.int .i64 0, .int .i64 0, .slice none 0 0] 24) = W0 at *
  obtain ⟨c0z0, c1z0, c2z0⟩ := cells3 B_z0
  obtain ⟨c0z1, c1z1, c2z1⟩ := cells3 B_z1
  go_wp2_with fail
  refine (alike_yes p q u v A n c l A2 n2 c2 l2 hn hn2 h.out _ (KB.below L.out (by exact sm)) (KB.below L2.out (by exact sm))).mono ?_
  clear c0z0 c1z0 c2z0 c0z1 c1z1 c2z1
  rintro e w1 ⟨rfl, bb⟩
  replace bb := nextw (w0 := W0) (by exact sm) bb
  replace B_z0 := mv B_z0 bb
  replace B_z1 := mv B_z1 bb
  replace B_z2 := mv B_z2 bb
  replace L := Lib.hid (KB.below L.out bb)
  replace L2 := Lib.hid (KB.below L2.out bb)
  replace HB := nx HB bb
  clear bb
  obtain ⟨base, hbase⟩ : ∃ b, w1.heap.size = b := ⟨_, rfl⟩
  have HW : Hid (w.heap.size ≤ base) := by have := HB.out.size; unfold Hid; omega
  have LT_z0 : Hid (w.heap.size < base) := by have := B_z0.out.lt; unfold Hid; omega
  have LT_z1 : Hid (w.heap.size + 1 < base) := by have := B_z1.out.lt; unfold Hid; omega
  have LT_z2 : Hid (w.heap.size + 2 < base) := by have := B_z2.out.lt; unfold Hid; omega
  have TL2 : Hid (hi2 ≤ base) := by have := L2.out.top; unfold Hid; omega
  have hbase2 := Lib.hid hbase
  clear hbase
  obtain ⟨c0z0, c1z0, c2z0⟩ := cells3 B_z0
  go_wp2_with fail
  refine (CloneB_is A n c l hn1 hn _ (KB.below L.out (by exact sm))).mono ?_
  clear c0z0 c1z0 c2z0
  rintro e w2 ⟨g6, cp, rfl, OV, bb⟩
  replace bb := nextw (w0 := w1) (by exact sm) bb
  replace B_z0 := mv B_z0 bb
  replace B_z1 := mv B_z1 bb
  replace B_z2 := mv B_z2 bb
  replace L := Lib.hid (KB.below L.out bb)
  replace L2 := Lib.hid (KB.below L2.out bb)
  replace HB := nx HB bb
  clear bb
  rw [hbase2.out] at OV
  have hg6 := OV.row.1
  replace OV := Lib.hid OV
  have HBS : Hid (base ≤ w2.heap.size) := by have h1 := OV.out.lt; unfold Hid; omega
  clear L
  go_upto_region 4 with (fail)
  obtain ⟨c0z1, c1z1, c2z1⟩ := cells3 B_z1
  go_wp2_with fail
  clear c0z1 c1z1 c2z1
  go_loopw [20] (fun kk wx => ∃ k : Nat, k ≤ n2 ∧ kk = .int .i64 (k : Int) ∧ Hid (∀ j, j < k → ¬ conf l l2 j) ∧ Hid (OwnV wx base g6 cp (mgK l l2 k)) ∧ Hid (base ≤ wx.heap.size) ∧ Hid (KB wx lo2 hi2 A2 n2 c2 l2) ∧ Hid (Bx wx (w.heap.size) 24 #[.int .i64 p, .int .i64 q, .slice A n c]) ∧ Hid (Bx wx (w.heap.size + 1) 24 #[.int .i64 u, .int .i64 v, .slice A2 n2 c2]) ∧ Hid (Bx wx (w.heap.size + 1 + 1) 24 #[.int .i64 0, .int .i64 0, .slice none 0 0]) ∧ Hid (Below w.heap.size w wx)) (fun kk _ => n2 - (intOf kk).toNat)
  case atStart => exact ⟨0, by omega, rfl, Lib.hid (fun j hj => absurd hj (Nat.not_lt_zero _)), ownv_cast OV (mgK_0 l l2).symm, HBS, L2, B_z0, B_z1, B_z2, HB⟩
  case round =>
    clear OV HBS L2 B_z0 B_z1 B_z2 HB
    obtain ⟨k, hk, rfl, HC, OV, HBS, L2, B_z0, B_z1, B_z2, HB⟩ := hrel
    by_cases hlt : k < n2
    · skip
      obtain ⟨x, hx⟩ : ∃ x, l2.getD k 0 = x := ⟨_, rfl⟩
      obtain ⟨y, hy⟩ : ∃ y, l.getD k 0 = y := ⟨_, rfl⟩
      obtain ⟨g2, o2, eA2, -, e0⟩ := L2.out.elem hlt
      subst eA2
      rw [hx] at e0
      have hkl : k < l.length := by omega
      have e1 := OV.out.cell (i := k) (by rw [mgK_len]; exact hkl)
      rw [mgK_get hkl, if_neg (by omega), hy] at e1
      have f1 := OV.out.frozen k
      have hlz : ((k : Nat) : Int) < ((n2 : Nat) : Int) := by omega
      have hlz2 : ((k : Nat) : Int) < ((n : Nat) : Int) := by omega
      have HX := Lib.hid hx
      have HY := Lib.hid hy
      clear hx hy
      by_cases hx0 : x = 0
      · skip
        have HC2 : Hid (∀ j, j < k + 1 → ¬ conf l l2 j) := Lib.hid (fun j hj => (Nat.lt_succ_iff_lt_or_eq.mp hj).elim (HC.out j) (fun e => by subst e; exact fun g => g.1 (by rw [HX.out, hx0])))
        have OV2 := ownv_cast OV (mgK_skip (by rw [HX.out, hx0])).symm
        have hxz : (x == 0) = true := decide_eq_true hx0
        replace hx0 := Lib.hid hx0
        go_wp2_with fail
        go_roundw
        case rel => exact ⟨k + 1, by omega, by go_num, HC2, OV2, HBS, L2, B_z0, B_z1, B_z2, HB⟩
        case measure => simp only [intOf]; omega
      · skip
        have hxz : (x == 0) = false := decide_eq_false hx0
        have hyzd : (y = 0 ∨ y = x) ∨ (y ≠ 0 ∧ y ≠ x) := by omega
        rcases hyzd with hyz | ⟨hyz, hyx⟩
        · skip
          have HC2 : Hid (∀ j, j < k + 1 → ¬ conf l l2 j) := Lib.hid (fun j hj => (Nat.lt_succ_iff_lt_or_eq.mp hj).elim (HC.out j) (fun e => by subst e; intro g; have g2 := g.2; rw [HX.out, HY.out] at g2; rcases hyz with h1 | h1; exact g2.1 h1; exact g2.2 h1))
          have OV2 : Hid (OwnV (wr.setCell ⟨g6, k, none⟩ (.int .u8 x)) base g6 cp (mgK l l2 (k + 1))) := ownv_cast (Lib.hid (OV.out.stored k x)) (by rw [mgK_set hkl (by rw [HX.out]; exact hx0), HX.out])
          have nz0 : w.heap.size ≠ g6 := by have := LT_z0.out; omega
          have nz1 : w.heap.size + 1 ≠ g6 := by have := LT_z1.out; omega
          have nz2 : w.heap.size + 2 ≠ g6 := by have := LT_z2.out; omega
          have n_z0 := far1 B_z0 nz0 k (.int .u8 x)
          have n_z1 := far1 B_z1 nz1 k (.int .u8 x)
          have n_z2 := far1 B_z2 nz2 k (.int .u8 x)
          have nHB := stb1 HB (y := g6) (by have := HW.out; omega) k (.int .u8 x)
          have nL2 := Lib.hid (KB.set L2.out (x := g6) (Or.inr (by have := TL2.out; omega)) k (.int .u8 x))
          have nHBS : Hid (base ≤ (wr.setCell ⟨g6, k, none⟩ (.int .u8 x)).heap.size) := Lib.hid (by have := HBS.out; simpa using this)
          clear OV HBS L2 B_z0 B_z1 B_z2 HB
          by_cases hy0 : y = 0
          · skip
            have hyb : (y != 0) = false := by rw [bne, show (y == 0) = true from decide_eq_true hy0]; rfl
            have hya : (y == 0) = true := decide_eq_true hy0
            replace hy0 := Lib.hid hy0
            replace hyz := Lib.hid hyz
            go_wp2_with fail
            go_roundw
            case rel => exact ⟨k + 1, by omega, by go_num, HC2, OV2, nHBS, nL2, n_z0, n_z1, n_z2, nHB⟩
            case measure => simp only [intOf]; omega
          · skip
            have hyx : y = x := by omega
            have hyb : (y != 0) = true := by rw [bne, show (y == 0) = false from decide_eq_false hy0]; rfl
            have hyc : (y != x) = false := by rw [bne, show (y == x) = true from decide_eq_true hyx]; rfl
            have hyd : (y == x) = true := decide_eq_true hyx
            replace hyx := Lib.hid hyx
            replace hyz := Lib.hid hyz
            go_wp2_with fail
            go_roundw
            case rel => exact ⟨k + 1, by omega, by go_num, HC2, OV2, nHBS, nL2, n_z0, n_z1, n_z2, nHB⟩
            case measure => simp only [intOf]; omega
        · skip
          have hyb : (y != 0) = true := by rw [bne, show (y == 0) = false from decide_eq_false hyz]; rfl
          have hyc : (y != x) = true := by rw [bne, show (y == x) = false from decide_eq_false hyx]; rfl
          have HV : Hid (mgE p q l u v l2 = 11) := mgE_11 h.out hkl ⟨by rw [HX.out]; exact hx0, by rw [HY.out]; exact hyz, by rw [HX.out, HY.out]; exact hyx⟩
          have HV1 : Hid (mgV p q l u v l2 = []) := mgV_1 (by rw [HV.out]; decide)
          have HV2 : Hid (mgX p q l u v l2 p = 0) := mgX_1 (by rw [HV.out]; decide)
          have HV3 : Hid (mgX p q l u v l2 q = 0) := mgX_1 (by rw [HV.out]; decide)
          obtain ⟨s0, s1, s2⟩ := cells3 (stor3 B_z2 (.int .i64 0) (.int .i64 0) (.slice none 0 0))
          have HF := stb3 HB (y := w.heap.size + 1 + 1) (by omega) 0 (.int .i64 0) 1 (.int .i64 0) 2 (.slice none 0 0)
          obtain ⟨c0z2, c1z2, c2z2⟩ := cells3 B_z2
          obtain ⟨f0z2, f1z2, f2z2⟩ := froz3 B_z2
          go_wp2_with fail
          exact bodyPost_ret (v := .tuple #[.agg #[.int .i64 0, .int .i64 0, .slice none 0 0], .int .i64 11]) (by simp [results, Try.results46, go_sem, s0, s1, s2]) rfl ⟨none, 0, (by rw [HV.out, HV1.out, HV2.out, HV3.out]; rfl), (by rw [HV1.out]; exact kb_nil _ _), nextw HF.out (by exact sm)⟩
    · skip
      have hkn : n2 = k := by omega
      subst hkn
      have HV : Hid (mgE p q l u v l2 = 0) := mgE_0 h.out (fun i hi => HC.out i (by omega))
      have HV1 : Hid (mgV p q l u v l2 = mgK l l2 n2) := by unfold Hid; rw [mgV_0 HV.out, hal.out, ← hln2.out]
      have HV2 : Hid (mgX p q l u v l2 p = p) := mgX_0 HV.out
      have HV3 : Hid (mgX p q l u v l2 q = q) := mgX_0 HV.out
      have HVL : Hid ((mgV p q l u v l2).length = n) := by unfold Hid; rw [HV1.out, mgK_len, ← hln.out]
      have KO0 := OV.out.kb (mgK_byte hal.out hby.out hby2.out)
      rw [mgK_len, ← hln.out] at KO0
      have KO := Lib.hid KO0
      clear KO0
      obtain ⟨s0, s1, s2⟩ := cells3 (stor3 B_z2 (.int .i64 p) (.int .i64 q) (.slice (some ⟨g6, 0, none⟩) n cp))
      have HF := stb3 HB (y := w.heap.size + 1 + 1) (by omega) 0 (.int .i64 p) 1 (.int .i64 q) 2 (.slice (some ⟨g6, 0, none⟩) n cp)
      obtain ⟨c0z2, c1z2, c2z2⟩ := cells3 B_z2
      obtain ⟨f0z2, f1z2, f2z2⟩ := froz3 B_z2
      obtain ⟨c0z0, c1z0, c2z0⟩ := cells3 B_z0
      go_wp2_with fail
      exact bodyPost_ret (v := .tuple #[.agg #[.int .i64 p, .int .i64 q, .slice (some ⟨g6, 0, none⟩) n cp], .int .i64 0]) (by simp [results, Try.results46, go_sem, s0, s1, s2]) rfl ⟨_, cp, (by rw [HV.out, HV2.out, HV3.out, HVL.out]), (by rw [HVL.out, HV1.out]; exact KB.outw (KB.below (KB.set (KB.set (KB.set KO.out (Or.inl LT_z2.out) 0 (.int .i64 p)) (Or.inl LT_z2.out) 1 (.int .i64 q)) (Or.inl LT_z2.out) 2 (.slice (some ⟨g6, 0, none⟩) n cp)) (by exact sm)) HW.out), nextw HF.out (by exact sm)⟩

theorem Merge_is (p q u v : Int) (A : Option Addr) (n c : Nat) (l : List Int) (A2 : Option Addr) (n2 c2 : Nat) (l2 : List Int) (hn : n ≤ 1000000) (hn2 : n2 ≤ 1000000) (w : World) {lo hi lo2 hi2 : Nat} (L : KB w lo hi A n c l) (L2 : KB w lo2 hi2 A2 n2 c2 l2) : Calls Try.prog 46 #[.agg #[.int .i64 p, .int .i64 q, .slice A n c], .agg #[.int .i64 u, .int .i64 v, .slice A2 n2 c2]] w fun e w' => ∃ A c, e = .returned (.tuple #[.agg #[.int .i64 (mgX p q l u v l2 p), .int .i64 (mgX p q l u v l2 q), .slice A (mgV p q l u v l2).length c], .int .i64 (mgE p q l u v l2)]) ∧ KB w' w.heap.size w'.heap.size A (mgV p q l u v l2).length c (mgV p q l u v l2) ∧ Below w.heap.size w w' := by
  by_cases h : AlP p q l u v l2
  · exact Merge_yes p q u v A n c l A2 n2 c2 l2 hn hn2 h w L L2
  · exact Merge_no p q u v A n c l A2 n2 c2 l2 hn hn2 h w L L2
end Go.Proofs.Ytkhcogfajihecaa
