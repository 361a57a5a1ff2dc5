/- zonogon.Reduce. -/
import Derived.Test.YtpjbkadhmjlpfaaZ20
set_option linter.unusedVariables false
set_option linter.unusedSimpArgs false
namespace Go.Proofs.Ytpjbkadhmjlpfaa
open Go Go.RowKit Hd

theorem lenC_lt (a b : B2) : ltOf lenC a b = decide (mg a.1.1 + mg a.1.2 < mg b.1.1 + mg b.1.2) := by
  unfold ltOf lenC Lib.compareInt
  by_cases h : mg a.1.1 + mg a.1.2 < mg b.1.1 + mg b.1.2
  · simp [h]
  · rw [if_neg h]; split <;> simp_all
theorem lenC_swo : Go.Sort.SWO (ltOf lenC) where
  irrefl x := by rw [lenC_lt]; simp
  trans x y z h1 h2 := by rw [lenC_lt] at *; simp at *; omega
  ntrans x y z h1 h2 := by rw [lenC_lt] at *; simp at *; omega
theorem insB_perm (l : List P2) (h : ∀ p ∈ l, Bd 4194304 p) : (insB l h).Perm l := by
  have hz := bndB_map l h
  have hsz : (bndB l h).length = l.length := by have := congrArg List.length hz; simpa using this
  have hp := (Go.Sort.insertionSort_holds lenC_swo (bndB l h).toArray 0 l.length (Nat.zero_le _) (by simp [hsz])).1
  unfold insB
  generalize Sort.insertionSort (ltOf lenC) (bndB l h).toArray 0 l.length = d' at *
  have h2 := hp.2.2
  have hd : d'.size = l.length := by rw [hp.1]; simp [hsz]
  have e1 : (d'.extract 0 l.length).toList = d'.toList := by simp [← hd]
  have e2 : ((bndB l h).toArray.extract 0 l.length).toList = bndB l h := by simp [← hsz]
  rw [e1, e2] at h2
  have h3 := h2.map Subtype.val
  rwa [hz] at h3
theorem sumM_bd1 {f : P2 → Int} {l : List P2} (h : ∀ p ∈ l, Wi (f p) 1048576) : 0 ≤ sumM f l ∧ sumM f l ≤ l.length * 1048576 := by
  induction l with
  | nil => simp [sumM]
  | cons p t ih =>
    have h1 := ih (fun x hx => h x (List.mem_cons_of_mem _ hx))
    have h2 := mg_le (h p List.mem_cons_self)
    have h3 := mg_nonneg (f p)
    have e : sumM f (p :: t) = mg (f p) + sumM f t := rfl
    rw [e, List.length_cons]
    omega
theorem boxed_at (mz : Int) (A : Option Addr) (n c : Nat) (l : List P2) (m : Nat) (hz : mz = m) (hn : l.length ≤ 19) (hl : ∀ p ∈ l, Bd 4194304 p) (hm0 : 0 < m) (hm : m ≤ l.length) (w : World) {lo hi : Nat} (L : PL w lo hi A n c l) :
    Calls Try.prog 68 #[.slice A n c, .int .i64 mz] w fun e w' => ∃ A' c', e = .returned (.slice A' (boxB (insB l hl) m).length c') ∧ PL w' w.heap.size w'.heap.size A' (boxB (insB l hl) m).length c' (boxB (insB l hl) m) ∧ Below w.heap.size w w' := by
  subst hz
  exact boxed_is A n c l m hn hl hm0 hm w L
theorem canL_bd4 {x y : Int} {l : List P2} (h : OkZ x y l) : ∀ p ∈ canL l, Bd 4194304 p := fun p hp => ((canL_all (okz_bd6 h) (by decide)).1 p hp).mono (by have := okz_len h; omega)
theorem canL_len {x y : Int} {l : List P2} (h : OkZ x y l) : (canL l).length ≤ 16 := Nat.le_trans (canL_all (okz_bd6 h) (by decide)).2 (okz_len h)
theorem boxB_bd {s : List P2} {m : Nat} (h : ∀ p ∈ s, Bd 1048576 p) (hs : s.length ≤ 16) : ∀ p ∈ boxB s m, Bd 16777216 p := by
  intro p hp
  rcases List.mem_append.mp hp with h1 | h1
  · exact (h p (List.mem_of_mem_drop h1)).mono (by decide)
  · have ht : ∀ q ∈ s.take m, Bd 1048576 q := fun q hq => h q (List.mem_of_mem_take hq)
    have hl : ((s.take m).length : Int) ≤ 16 := by rw [List.length_take]; omega
    have b1 := sumM_bd1 (f := (·.1)) (fun q hq => (ht q hq).1)
    have b2 := sumM_bd1 (f := (·.2)) (fun q hq => (ht q hq).2)
    simp at h1
    rcases h1 with rfl | rfl
    · exact ⟨⟨by dsimp only; omega, by dsimp only; omega⟩, by dsimp only; omega, by dsimp only; omega⟩
    · exact ⟨⟨by dsimp only; omega, by dsimp only; omega⟩, by dsimp only; omega, by dsimp only; omega⟩
theorem redB_bd {x y : Int} {l : List P2} (h : OkZ x y l) (m : Nat) : ∀ p ∈ boxB (insB (canL l) (canL_bd4 h)) m, Bd 16777216 p := by
  have hp := insB_perm (canL l) (canL_bd4 h)
  refine boxB_bd (fun p hq => ?_) (by rw [hp.length_eq]; exact canL_len h)
  exact ((canL_all (okz_bd6 h) (by decide)).1 p (hp.mem_iff.mp hq)).mono (by have := okz_len h; omega)
theorem redB_len {x y : Int} {l : List P2} (h : OkZ x y l) (m : Nat) : (boxB (insB (canL l) (canL_bd4 h)) m).length ≤ 18 := by
  have hp := insB_perm (canL l) (canL_bd4 h)
  have h1 := hp.length_eq
  have h2 := canL_len h
  unfold boxB
  rw [List.length_append, List.length_drop]
  simp
  omega
theorem redB_can {x y : Int} {l : List P2} (h : OkZ x y l) (m : Nat) : (canL (boxB (insB (canL l) (canL_bd4 h)) m)).length ≤ 1000 := Nat.le_trans (canL_all (redB_bd h m) (by decide)).2 (by have := redB_len h m; omega)

set_option maxRecDepth 100000 in
set_option maxHeartbeats 4000000 in
theorem Reduce_w0 (x y most : Int) (A : Option Addr) (n c : Nat) (l : List P2)  (hn : n ≤ 1000) (dd0 : OkZ x y l) (dd1 : most < 2) (w : World) {lo_L hi_L : Nat} (L : PL w lo_L hi_L A n c l) :
    Calls Try.prog 42 #[.agg #[.int .i64 x, .int .i64 y, .slice A n c], .int .i64 most] w fun e w' => e = .returned (.tuple #[.agg #[.int .i64 0, .int .i64 0, .slice none 0 0], .int .i64 2]) ∧ Below w.heap.size w w' := by
  replace L := Lib.hid L
  have hcl := canL_len dd0
  obtain ⟨HB, B_z0, B_z1⟩ := box2 w 24 #[.int .i64 x, .int .i64 y, .slice A n c] 24 #[.int .i64 0, .int .i64 0, .slice none 0 0]
  replace L := Lib.hid (PL.below L.out HB.out)
  go_enter Try.func42, Try.ntmps42
  go_upto_region 1 with (fail)
  generalize (w.alloc (.cells #[.int .i64 x, .int .i64 y, .slice A n c] 24)).alloc (.cells #[.int .i64 0, .int .i64 0, .slice none 0 0] 24) = W0 at *
  obtain ⟨c0z0, c1z0, c2z0⟩ := cells3 B_z0
  go_wp2_with fail
  refine (Valid_yes dd0 (by omega) _ (PL.below L.out (by exact sm))).mono ?_
  clear c0z0 c1z0 c2z0
  rintro e w1 ⟨rfl, bb⟩
  replace bb := nextw (w0 := W0) (by exact sm) bb
  replace B_z0 := mv B_z0 bb
  replace B_z1 := mv B_z1 bb
  replace L := Lib.hid (PL.below L.out bb)
  replace HB := nx HB bb
  clear bb
  obtain ⟨s0, s1, s2⟩ := cells3 (stor3 B_z1 (.int .i64 0) (.int .i64 0) (.slice none 0 0))
  have HF := stb3 HB (y := w.heap.size + 1) (by omega) 0 (.int .i64 0) 1 (.int .i64 0) 2 (.slice none 0 0)
  obtain ⟨c0z1, c1z1, c2z1⟩ := cells3 B_z1
  obtain ⟨f0z1, f1z1, f2z1⟩ := froz3 B_z1
  go_wp2_with fail
  exact bodyPost_ret (v := .tuple #[.agg #[.int .i64 0, .int .i64 0, .slice none 0 0], .int .i64 2]) (by simp [results, Try.results42, go_sem, s0, s1, s2]) rfl ⟨rfl, nextw HF.out (by exact sm)⟩

set_option maxRecDepth 100000 in
set_option maxHeartbeats 4000000 in
theorem Reduce_w1 (x y most : Int) (A : Option Addr) (n c : Nat) (l : List P2)  (hn : n ≤ 1000) (dd0 : ¬ (OkZ x y l)) (w : World) {lo_L hi_L : Nat} (L : PL w lo_L hi_L A n c l) :
    Calls Try.prog 42 #[.agg #[.int .i64 x, .int .i64 y, .slice A n c], .int .i64 most] w fun e w' => e = .returned (.tuple #[.agg #[.int .i64 0, .int .i64 0, .slice none 0 0], .int .i64 1]) ∧ Below w.heap.size w w' := by
  replace L := Lib.hid L
  obtain ⟨HB, B_z0, B_z1⟩ := box2 w 24 #[.int .i64 x, .int .i64 y, .slice A n c] 24 #[.int .i64 0, .int .i64 0, .slice none 0 0]
  replace L := Lib.hid (PL.below L.out HB.out)
  go_enter Try.func42, Try.ntmps42
  go_upto_region 1 with (fail)
  generalize (w.alloc (.cells #[.int .i64 x, .int .i64 y, .slice A n c] 24)).alloc (.cells #[.int .i64 0, .int .i64 0, .slice none 0 0] 24) = W0 at *
  obtain ⟨c0z0, c1z0, c2z0⟩ := cells3 B_z0
  go_wp2_with fail
  refine (Valid_no dd0 (by omega) _ (PL.below L.out (by exact sm))).mono ?_
  clear c0z0 c1z0 c2z0
  rintro e w1 ⟨rfl, bb⟩
  replace bb := nextw (w0 := W0) (by exact sm) bb
  replace B_z0 := mv B_z0 bb
  replace B_z1 := mv B_z1 bb
  replace L := Lib.hid (PL.below L.out bb)
  replace HB := nx HB bb
  clear bb
  obtain ⟨s0, s1, s2⟩ := cells3 (stor3 B_z1 (.int .i64 0) (.int .i64 0) (.slice none 0 0))
  have HF := stb3 HB (y := w.heap.size + 1) (by omega) 0 (.int .i64 0) 1 (.int .i64 0) 2 (.slice none 0 0)
  obtain ⟨c0z1, c1z1, c2z1⟩ := cells3 B_z1
  obtain ⟨f0z1, f1z1, f2z1⟩ := froz3 B_z1
  go_wp2_with fail
  exact bodyPost_ret (v := .tuple #[.agg #[.int .i64 0, .int .i64 0, .slice none 0 0], .int .i64 1]) (by simp [results, Try.results42, go_sem, s0, s1, s2]) rfl ⟨rfl, nextw HF.out (by exact sm)⟩

set_option maxRecDepth 100000 in
set_option maxHeartbeats 4000000 in
theorem Reduce_w2 (x y most : Int) (A : Option Addr) (n c : Nat) (l : List P2)  (hn : n ≤ 1000) (dd0 : OkZ x y l) (dd1 : 2 ≤ most) (dd2 : 16 < most) (w : World) {lo_L hi_L : Nat} (L : PL w lo_L hi_L A n c l) :
    Calls Try.prog 42 #[.agg #[.int .i64 x, .int .i64 y, .slice A n c], .int .i64 most] w fun e w' => e = .returned (.tuple #[.agg #[.int .i64 0, .int .i64 0, .slice none 0 0], .int .i64 2]) ∧ Below w.heap.size w w' := by
  replace L := Lib.hid L
  have hcl := canL_len dd0
  obtain ⟨HB, B_z0, B_z1⟩ := box2 w 24 #[.int .i64 x, .int .i64 y, .slice A n c] 24 #[.int .i64 0, .int .i64 0, .slice none 0 0]
  replace L := Lib.hid (PL.below L.out HB.out)
  go_enter Try.func42, Try.ntmps42
  go_upto_region 1 with (fail)
  generalize (w.alloc (.cells #[.int .i64 x, .int .i64 y, .slice A n c] 24)).alloc (.cells #[.int .i64 0, .int .i64 0, .slice none 0 0] 24) = W0 at *
  obtain ⟨c0z0, c1z0, c2z0⟩ := cells3 B_z0
  go_wp2_with fail
  refine (Valid_yes dd0 (by omega) _ (PL.below L.out (by exact sm))).mono ?_
  clear c0z0 c1z0 c2z0
  rintro e w1 ⟨rfl, bb⟩
  replace bb := nextw (w0 := W0) (by exact sm) bb
  replace B_z0 := mv B_z0 bb
  replace B_z1 := mv B_z1 bb
  replace L := Lib.hid (PL.below L.out bb)
  replace HB := nx HB bb
  clear bb
  obtain ⟨s0, s1, s2⟩ := cells3 (stor3 B_z1 (.int .i64 0) (.int .i64 0) (.slice none 0 0))
  have HF := stb3 HB (y := w.heap.size + 1) (by omega) 0 (.int .i64 0) 1 (.int .i64 0) 2 (.slice none 0 0)
  obtain ⟨c0z1, c1z1, c2z1⟩ := cells3 B_z1
  obtain ⟨f0z1, f1z1, f2z1⟩ := froz3 B_z1
  go_wp2_with fail
  exact bodyPost_ret (v := .tuple #[.agg #[.int .i64 0, .int .i64 0, .slice none 0 0], .int .i64 2]) (by simp [results, Try.results42, go_sem, s0, s1, s2]) rfl ⟨rfl, nextw HF.out (by exact sm)⟩

set_option maxRecDepth 100000 in
set_option maxHeartbeats 4000000 in
theorem Reduce_w3 (x y most : Int) (A : Option Addr) (n c : Nat) (l : List P2)  (hn : n ≤ 1000) (dd0 : OkZ x y l) (dd1 : 2 ≤ most) (dd2 : most ≤ 16) (dd3 : most < (((canL l).length : Nat) : Int)) (dd4 : OkZ x y (canL (boxB (insB (canL l) (canL_bd4 dd0)) (((((canL l).length : Nat) : Int) + 2) - most).toNat))) (w : World) {lo_L hi_L : Nat} (L : PL w lo_L hi_L A n c l) :
    Calls Try.prog 42 #[.agg #[.int .i64 x, .int .i64 y, .slice A n c], .int .i64 most] w fun e w' => ∃ AC3 cC3, e = .returned (.tuple #[.agg #[.int .i64 x, .int .i64 y, .slice AC3 ((canL (boxB (insB (canL l) (canL_bd4 dd0)) (((((canL l).length : Nat) : Int) + 2) - most).toNat)).length) cC3], .int .i64 0]) ∧ PL w' w.heap.size w'.heap.size AC3 ((canL (boxB (insB (canL l) (canL_bd4 dd0)) (((((canL l).length : Nat) : Int) + 2) - most).toNat)).length) cC3 (canL (boxB (insB (canL l) (canL_bd4 dd0)) (((((canL l).length : Nat) : Int) + 2) - most).toNat)) ∧ Below w.heap.size w w' := by
  replace L := Lib.hid L
  have hcl := canL_len dd0
  have hbl := redB_len dd0 ((((((canL l).length) : Nat) : Int) + 2 - most).toNat)
  have HLEN := Lib.hid (redB_can dd0 ((((((canL l).length) : Nat) : Int) + 2 - most).toNat))
  obtain ⟨HB, B_z0, B_z1⟩ := box2 w 24 #[.int .i64 x, .int .i64 y, .slice A n c] 24 #[.int .i64 0, .int .i64 0, .slice none 0 0]
  replace L := Lib.hid (PL.below L.out HB.out)
  go_enter Try.func42, Try.ntmps42
  go_upto_region 1 with (fail)
  generalize (w.alloc (.cells #[.int .i64 x, .int .i64 y, .slice A n c] 24)).alloc (.cells #[.int .i64 0, .int .i64 0, .slice none 0 0] 24) = W0 at *
  obtain ⟨c0z0, c1z0, c2z0⟩ := cells3 B_z0
  go_wp2_with fail
  refine (Valid_yes dd0 (by omega) _ (PL.below L.out (by exact sm))).mono ?_
  clear c0z0 c1z0 c2z0
  rintro e w1 ⟨rfl, bb⟩
  replace bb := nextw (w0 := W0) (by exact sm) bb
  replace B_z0 := mv B_z0 bb
  replace B_z1 := mv B_z1 bb
  replace L := Lib.hid (PL.below L.out bb)
  replace HB := nx HB bb
  clear bb
  obtain ⟨c0z0, c1z0, c2z0⟩ := cells3 B_z0
  have sp_z0_LC1 : Hid (w.heap.size < w1.heap.size) := B_z0.out.lt
  have sp_z1_LC1 : Hid (w.heap.size + 1 < w1.heap.size) := B_z1.out.lt
  have lw_LC1 : Hid (w.heap.size ≤ w1.heap.size) := HB.out.size
  go_wp2_with fail
  refine (canonical_is x y _ _ _ l (by first | omega | decide) (okz_bd dd0) _ (PL.below L.out (by exact sm))).mono ?_
  clear c0z0 c1z0 c2z0
  rintro e w2 ⟨AC1, cC1, rfl, LC1, bb⟩
  replace bb := nextw (w0 := w1) (by exact sm) bb
  replace B_z0 := mv B_z0 bb
  replace B_z1 := mv B_z1 bb
  replace L := Lib.hid (PL.below L.out bb)
  replace HB := nx HB bb
  clear bb
  replace LC1 := Lib.hid LC1
  have lt_z2z0 := B_z0.out.lt
  have lt_z2z1 := B_z1.out.lt
  obtain ⟨bb, B_z2⟩ := box1 w2 24 #[.int .i64 x, .int .i64 y, .slice AC1 ((canL l).length) cC1]
  replace bb := bb.out
  replace B_z0 := mv B_z0 bb
  replace B_z1 := mv B_z1 bb
  replace L := Lib.hid (PL.below L.out bb)
  replace LC1 := Lib.hid (PL.below LC1.out bb)
  replace HB := nx HB bb
  clear bb
  go_upto_region 6 with (fail)
  generalize w2.alloc (.cells #[.int .i64 x, .int .i64 y, .slice AC1 ((canL l).length) cC1] 24) = WN3 at *
  obtain ⟨c0z2, c1z2, c2z2⟩ := cells3 B_z2
  have sp_z0_LC2 : Hid (w.heap.size < WN3.heap.size) := B_z0.out.lt
  have sp_z1_LC2 : Hid (w.heap.size + 1 < WN3.heap.size) := B_z1.out.lt
  have sp_z2_LC2 : Hid (w2.heap.size < WN3.heap.size) := B_z2.out.lt
  have lw_LC2 : Hid (w.heap.size ≤ WN3.heap.size) := HB.out.size
  go_wp2_with fail
  refine (boxed_at (((((canL l).length : Nat) : Int) + 2) - most) _ _ _ (canL l) (((((canL l).length : Nat) : Int) + 2) - most).toNat (by omega) (by have := canL_len dd0; omega) (canL_bd4 dd0) (by omega) (by omega) _ (PL.below LC1.out (by exact sm))).mono ?_
  clear c0z2 c1z2 c2z2
  rintro e w3 ⟨AC2, cC2, rfl, LC2, bb⟩
  replace bb := nextw (w0 := WN3) (by exact sm) bb
  replace B_z0 := mv B_z0 bb
  replace B_z1 := mv B_z1 bb
  replace B_z2 := mv B_z2 bb
  replace L := Lib.hid (PL.below L.out bb)
  replace LC1 := Lib.hid (PL.below LC1.out bb)
  replace HB := nx HB bb
  clear bb
  replace LC2 := Lib.hid LC2
  obtain ⟨c0z2, c1z2, c2z2⟩ := cells3 B_z2
  obtain ⟨f0z2, f1z2, f2z2⟩ := froz3 B_z2
  clear L
  clear LC1
  have n_LC2 := Lib.hid ((PL.set LC2.out (Or.inl sp_z2_LC2.out) 2 (.slice AC2 ((boxB (insB (canL l) (canL_bd4 dd0)) (((((canL l).length : Nat) : Int) + 2) - most).toNat).length) cC2)))
  have ne_z0 : Hid ((w.heap.size) ≠ (w2.heap.size)) := by unfold Hid; omega
  have ne_z1 : Hid ((w.heap.size + 1) ≠ (w2.heap.size)) := by unfold Hid; omega
  have n_z2 : Hid (Bx (w3.setCell ⟨w2.heap.size, 2, none⟩ (.slice AC2 ((boxB (insB (canL l) (canL_bd4 dd0)) (((((canL l).length : Nat) : Int) + 2) - most).toNat).length) cC2)) (w2.heap.size) 24 #[.int .i64 x, .int .i64 y, .slice AC2 ((boxB (insB (canL l) (canL_bd4 dd0)) (((((canL l).length : Nat) : Int) + 2) - most).toNat).length) cC2]) := (B_z2.out.set 2 (.slice AC2 ((boxB (insB (canL l) (canL_bd4 dd0)) (((((canL l).length : Nat) : Int) + 2) - most).toNat).length) cC2))
  have n_z0 := far1 B_z0 ne_z0.out 2 (.slice AC2 ((boxB (insB (canL l) (canL_bd4 dd0)) (((((canL l).length : Nat) : Int) + 2) - most).toNat).length) cC2)
  have n_z1 := far1 B_z1 ne_z1.out 2 (.slice AC2 ((boxB (insB (canL l) (canL_bd4 dd0)) (((((canL l).length : Nat) : Int) + 2) - most).toNat).length) cC2)
  have nHB := stb1 HB (y := w2.heap.size) (by omega) 2 (.slice AC2 ((boxB (insB (canL l) (canL_bd4 dd0)) (((((canL l).length : Nat) : Int) + 2) - most).toNat).length) cC2)
  go_upto_region 9 with (fail)
  clear c0z2 c1z2 c2z2 f0z2 f1z2 f2z2
  clear ne_z0 ne_z1
  generalize w3.setCell ⟨w2.heap.size, 2, none⟩ (.slice AC2 ((boxB (insB (canL l) (canL_bd4 dd0)) (((((canL l).length : Nat) : Int) + 2) - most).toNat).length) cC2) = WS6 at *
  clear B_z0
  have B_z0 := n_z0
  clear n_z0
  clear B_z1
  have B_z1 := n_z1
  clear n_z1
  clear B_z2
  have B_z2 := n_z2
  clear n_z2
  clear HB
  have HB := nHB
  clear nHB
  clear LC2
  have LC2 := n_LC2
  clear n_LC2
  obtain ⟨c0z2, c1z2, c2z2⟩ := cells3 B_z2
  have sp_z0_LC3 : Hid (w.heap.size < WS6.heap.size) := B_z0.out.lt
  have sp_z1_LC3 : Hid (w.heap.size + 1 < WS6.heap.size) := B_z1.out.lt
  have sp_z2_LC3 : Hid (w2.heap.size < WS6.heap.size) := B_z2.out.lt
  have lw_LC3 : Hid (w.heap.size ≤ WS6.heap.size) := HB.out.size
  go_wp2_with fail
  refine (canonical_is x y _ _ _ (boxB (insB (canL l) (canL_bd4 dd0)) (((((canL l).length : Nat) : Int) + 2) - most).toNat) (by first | omega | decide) (redB_bd dd0 _) _ (PL.below LC2.out (by exact sm))).mono ?_
  clear c0z2 c1z2 c2z2
  rintro e w4 ⟨AC3, cC3, rfl, LC3, bb⟩
  replace bb := nextw (w0 := WS6) (by exact sm) bb
  replace B_z0 := mv B_z0 bb
  replace B_z1 := mv B_z1 bb
  replace B_z2 := mv B_z2 bb
  replace LC2 := Lib.hid (PL.below LC2.out bb)
  replace HB := nx HB bb
  clear bb
  replace LC3 := Lib.hid LC3
  obtain ⟨c0z2, c1z2, c2z2⟩ := cells3 B_z2
  obtain ⟨f0z2, f1z2, f2z2⟩ := froz3 B_z2
  have n_LC2 := Lib.hid ((PL.set (PL.set (PL.set LC2.out (Or.inl sp_z2_LC2.out) 0 (.int .i64 x)) (Or.inl sp_z2_LC2.out) 1 (.int .i64 y)) (Or.inl sp_z2_LC2.out) 2 (.slice AC3 ((canL (boxB (insB (canL l) (canL_bd4 dd0)) (((((canL l).length : Nat) : Int) + 2) - most).toNat)).length) cC3)))
  have n_LC3 := Lib.hid ((PL.set (PL.set (PL.set LC3.out (Or.inl sp_z2_LC3.out) 0 (.int .i64 x)) (Or.inl sp_z2_LC3.out) 1 (.int .i64 y)) (Or.inl sp_z2_LC3.out) 2 (.slice AC3 ((canL (boxB (insB (canL l) (canL_bd4 dd0)) (((((canL l).length : Nat) : Int) + 2) - most).toNat)).length) cC3)))
  have ne_z0 : Hid ((w.heap.size) ≠ (w2.heap.size)) := by unfold Hid; omega
  have ne_z1 : Hid ((w.heap.size + 1) ≠ (w2.heap.size)) := by unfold Hid; omega
  have n_z2 : Hid (Bx (((w4.setCell ⟨w2.heap.size, 0, none⟩ (.int .i64 x)).setCell ⟨w2.heap.size, 1, none⟩ (.int .i64 y)).setCell ⟨w2.heap.size, 2, none⟩ (.slice AC3 ((canL (boxB (insB (canL l) (canL_bd4 dd0)) (((((canL l).length : Nat) : Int) + 2) - most).toNat)).length) cC3)) (w2.heap.size) 24 #[.int .i64 x, .int .i64 y, .slice AC3 ((canL (boxB (insB (canL l) (canL_bd4 dd0)) (((((canL l).length : Nat) : Int) + 2) - most).toNat)).length) cC3]) := (((B_z2.out.set 0 (.int .i64 x)).set 1 (.int .i64 y)).set 2 (.slice AC3 ((canL (boxB (insB (canL l) (canL_bd4 dd0)) (((((canL l).length : Nat) : Int) + 2) - most).toNat)).length) cC3))
  have n_z0 := far3 B_z0 ne_z0.out 0 (.int .i64 x) 1 (.int .i64 y) 2 (.slice AC3 ((canL (boxB (insB (canL l) (canL_bd4 dd0)) (((((canL l).length : Nat) : Int) + 2) - most).toNat)).length) cC3)
  have n_z1 := far3 B_z1 ne_z1.out 0 (.int .i64 x) 1 (.int .i64 y) 2 (.slice AC3 ((canL (boxB (insB (canL l) (canL_bd4 dd0)) (((((canL l).length : Nat) : Int) + 2) - most).toNat)).length) cC3)
  have nHB := stb3 HB (y := w2.heap.size) (by omega) 0 (.int .i64 x) 1 (.int .i64 y) 2 (.slice AC3 ((canL (boxB (insB (canL l) (canL_bd4 dd0)) (((((canL l).length : Nat) : Int) + 2) - most).toNat)).length) cC3)
  go_upto_region 10 with (fail)
  clear c0z2 c1z2 c2z2 f0z2 f1z2 f2z2
  clear ne_z0 ne_z1
  generalize ((w4.setCell ⟨w2.heap.size, 0, none⟩ (.int .i64 x)).setCell ⟨w2.heap.size, 1, none⟩ (.int .i64 y)).setCell ⟨w2.heap.size, 2, none⟩ (.slice AC3 ((canL (boxB (insB (canL l) (canL_bd4 dd0)) (((((canL l).length : Nat) : Int) + 2) - most).toNat)).length) cC3) = WS7 at *
  clear B_z0
  have B_z0 := n_z0
  clear n_z0
  clear B_z1
  have B_z1 := n_z1
  clear n_z1
  clear B_z2
  have B_z2 := n_z2
  clear n_z2
  clear HB
  have HB := nHB
  clear nHB
  clear LC2
  have LC2 := n_LC2
  clear n_LC2
  clear LC3
  have LC3 := n_LC3
  clear n_LC3
  obtain ⟨c0z2, c1z2, c2z2⟩ := cells3 B_z2
  go_wp2_with fail
  refine (ifValid_w0 x y _ _ _ (canL (boxB (insB (canL l) (canL_bd4 dd0)) (((((canL l).length : Nat) : Int) + 2) - most).toNat)) HLEN.out dd4 _ (PL.below LC3.out (by exact sm))).mono ?_
  clear c0z2 c1z2 c2z2
  rintro e w5 ⟨rfl, bb⟩
  replace bb := nextw (w0 := WS7) (by exact sm) bb
  replace B_z0 := mv B_z0 bb
  replace B_z1 := mv B_z1 bb
  replace B_z2 := mv B_z2 bb
  replace LC2 := Lib.hid (PL.below LC2.out bb)
  replace LC3 := Lib.hid (PL.below LC3.out bb)
  replace HB := nx HB bb
  clear bb
  obtain ⟨s0, s1, s2⟩ := cells3 (stor3 B_z1 (.int .i64 x) (.int .i64 y) (.slice AC3 ((canL (boxB (insB (canL l) (canL_bd4 dd0)) (((((canL l).length : Nat) : Int) + 2) - most).toNat)).length) cC3))
  have HF := stb3 HB (y := w.heap.size + 1) (by omega) 0 (.int .i64 x) 1 (.int .i64 y) 2 (.slice AC3 ((canL (boxB (insB (canL l) (canL_bd4 dd0)) (((((canL l).length : Nat) : Int) + 2) - most).toNat)).length) cC3)
  obtain ⟨c0z1, c1z1, c2z1⟩ := cells3 B_z1
  obtain ⟨f0z1, f1z1, f2z1⟩ := froz3 B_z1
  go_wp2_with fail
  exact bodyPost_ret (v := .tuple #[.agg #[.int .i64 x, .int .i64 y, .slice AC3 ((canL (boxB (insB (canL l) (canL_bd4 dd0)) (((((canL l).length : Nat) : Int) + 2) - most).toNat)).length) cC3], .int .i64 0]) (by simp [results, Try.results42, go_sem, s0, s1, s2]) rfl ⟨AC3, cC3, rfl, PL.outw (PL.below (PL.set (PL.set (PL.set LC3.out (Or.inl sp_z1_LC3.out) 0 (.int .i64 x)) (Or.inl sp_z1_LC3.out) 1 (.int .i64 y)) (Or.inl sp_z1_LC3.out) 2 (.slice AC3 ((canL (boxB (insB (canL l) (canL_bd4 dd0)) (((((canL l).length : Nat) : Int) + 2) - most).toNat)).length) cC3)) (by exact sm)) lw_LC3.out, nextw HF.out (by exact sm)⟩

set_option maxRecDepth 100000 in
set_option maxHeartbeats 4000000 in
theorem Reduce_w4 (x y most : Int) (A : Option Addr) (n c : Nat) (l : List P2)  (hn : n ≤ 1000) (dd0 : OkZ x y l) (dd1 : 2 ≤ most) (dd2 : most ≤ 16) (dd3 : (((canL l).length : Nat) : Int) ≤ most) (dd4 : OkZ x y (canL l)) (w : World) {lo_L hi_L : Nat} (L : PL w lo_L hi_L A n c l) :
    Calls Try.prog 42 #[.agg #[.int .i64 x, .int .i64 y, .slice A n c], .int .i64 most] w fun e w' => ∃ AC1 cC1, e = .returned (.tuple #[.agg #[.int .i64 x, .int .i64 y, .slice AC1 ((canL l).length) cC1], .int .i64 0]) ∧ PL w' w.heap.size w'.heap.size AC1 ((canL l).length) cC1 (canL l) ∧ Below w.heap.size w w' := by
  replace L := Lib.hid L
  have hcl := canL_len dd0
  have HLEN : Hid ((canL l).length ≤ 1000) := by unfold Hid; omega
  obtain ⟨HB, B_z0, B_z1⟩ := box2 w 24 #[.int .i64 x, .int .i64 y, .slice A n c] 24 #[.int .i64 0, .int .i64 0, .slice none 0 0]
  replace L := Lib.hid (PL.below L.out HB.out)
  go_enter Try.func42, Try.ntmps42
  go_upto_region 1 with (fail)
  generalize (w.alloc (.cells #[.int .i64 x, .int .i64 y, .slice A n c] 24)).alloc (.cells #[.int .i64 0, .int .i64 0, .slice none 0 0] 24) = W0 at *
  obtain ⟨c0z0, c1z0, c2z0⟩ := cells3 B_z0
  go_wp2_with fail
  refine (Valid_yes dd0 (by omega) _ (PL.below L.out (by exact sm))).mono ?_
  clear c0z0 c1z0 c2z0
  rintro e w1 ⟨rfl, bb⟩
  replace bb := nextw (w0 := W0) (by exact sm) bb
  replace B_z0 := mv B_z0 bb
  replace B_z1 := mv B_z1 bb
  replace L := Lib.hid (PL.below L.out bb)
  replace HB := nx HB bb
  clear bb
  obtain ⟨c0z0, c1z0, c2z0⟩ := cells3 B_z0
  have sp_z0_LC1 : Hid (w.heap.size < w1.heap.size) := B_z0.out.lt
  have sp_z1_LC1 : Hid (w.heap.size + 1 < w1.heap.size) := B_z1.out.lt
  have lw_LC1 : Hid (w.heap.size ≤ w1.heap.size) := HB.out.size
  go_wp2_with fail
  refine (canonical_is x y _ _ _ l (by first | omega | decide) (okz_bd dd0) _ (PL.below L.out (by exact sm))).mono ?_
  clear c0z0 c1z0 c2z0
  rintro e w2 ⟨AC1, cC1, rfl, LC1, bb⟩
  replace bb := nextw (w0 := w1) (by exact sm) bb
  replace B_z0 := mv B_z0 bb
  replace B_z1 := mv B_z1 bb
  replace L := Lib.hid (PL.below L.out bb)
  replace HB := nx HB bb
  clear bb
  replace LC1 := Lib.hid LC1
  have lt_z2z0 := B_z0.out.lt
  have lt_z2z1 := B_z1.out.lt
  obtain ⟨bb, B_z2⟩ := box1 w2 24 #[.int .i64 x, .int .i64 y, .slice AC1 ((canL l).length) cC1]
  replace bb := bb.out
  replace B_z0 := mv B_z0 bb
  replace B_z1 := mv B_z1 bb
  replace L := Lib.hid (PL.below L.out bb)
  replace LC1 := Lib.hid (PL.below LC1.out bb)
  replace HB := nx HB bb
  clear bb
  go_upto_region 6 with (fail)
  generalize w2.alloc (.cells #[.int .i64 x, .int .i64 y, .slice AC1 ((canL l).length) cC1] 24) = WN3 at *
  obtain ⟨c0z2, c1z2, c2z2⟩ := cells3 B_z2
  go_wp2_with fail
  refine (ifValid_w0 x y _ _ _ (canL l) HLEN.out dd4 _ (PL.below LC1.out (by exact sm))).mono ?_
  clear c0z2 c1z2 c2z2
  rintro e w3 ⟨rfl, bb⟩
  replace bb := nextw (w0 := WN3) (by exact sm) bb
  replace B_z0 := mv B_z0 bb
  replace B_z1 := mv B_z1 bb
  replace B_z2 := mv B_z2 bb
  replace L := Lib.hid (PL.below L.out bb)
  replace LC1 := Lib.hid (PL.below LC1.out bb)
  replace HB := nx HB bb
  clear bb
  obtain ⟨s0, s1, s2⟩ := cells3 (stor3 B_z1 (.int .i64 x) (.int .i64 y) (.slice AC1 ((canL l).length) cC1))
  have HF := stb3 HB (y := w.heap.size + 1) (by omega) 0 (.int .i64 x) 1 (.int .i64 y) 2 (.slice AC1 ((canL l).length) cC1)
  obtain ⟨c0z1, c1z1, c2z1⟩ := cells3 B_z1
  obtain ⟨f0z1, f1z1, f2z1⟩ := froz3 B_z1
  go_wp2_with fail
  exact bodyPost_ret (v := .tuple #[.agg #[.int .i64 x, .int .i64 y, .slice AC1 ((canL l).length) cC1], .int .i64 0]) (by simp [results, Try.results42, go_sem, s0, s1, s2]) rfl ⟨AC1, cC1, rfl, PL.outw (PL.below (PL.set (PL.set (PL.set LC1.out (Or.inl sp_z1_LC1.out) 0 (.int .i64 x)) (Or.inl sp_z1_LC1.out) 1 (.int .i64 y)) (Or.inl sp_z1_LC1.out) 2 (.slice AC1 ((canL l).length) cC1)) (by exact sm)) lw_LC1.out, nextw HF.out (by exact sm)⟩

set_option maxRecDepth 100000 in
set_option maxHeartbeats 4000000 in
theorem Reduce_w5 (x y most : Int) (A : Option Addr) (n c : Nat) (l : List P2)  (hn : n ≤ 1000) (dd0 : OkZ x y l) (dd1 : 2 ≤ most) (dd2 : most ≤ 16) (dd3 : (((canL l).length : Nat) : Int) ≤ most) (dd4 : ¬ (OkZ x y (canL l))) (w : World) {lo_L hi_L : Nat} (L : PL w lo_L hi_L A n c l) :
    Calls Try.prog 42 #[.agg #[.int .i64 x, .int .i64 y, .slice A n c], .int .i64 most] w fun e w' => e = .returned (.tuple #[.agg #[.int .i64 0, .int .i64 0, .slice none 0 0], .int .i64 6]) ∧ Below w.heap.size w w' := by
  replace L := Lib.hid L
  have hcl := canL_len dd0
  have HLEN : Hid ((canL l).length ≤ 1000) := by unfold Hid; omega
  obtain ⟨HB, B_z0, B_z1⟩ := box2 w 24 #[.int .i64 x, .int .i64 y, .slice A n c] 24 #[.int .i64 0, .int .i64 0, .slice none 0 0]
  replace L := Lib.hid (PL.below L.out HB.out)
  go_enter Try.func42, Try.ntmps42
  go_upto_region 1 with (fail)
  generalize (w.alloc (.cells #[.int .i64 x, .int .i64 y, .slice A n c] 24)).alloc (.cells #[.int .i64 0, .int .i64 0, .slice none 0 0] 24) = W0 at *
  obtain ⟨c0z0, c1z0, c2z0⟩ := cells3 B_z0
  go_wp2_with fail
  refine (Valid_yes dd0 (by omega) _ (PL.below L.out (by exact sm))).mono ?_
  clear c0z0 c1z0 c2z0
  rintro e w1 ⟨rfl, bb⟩
  replace bb := nextw (w0 := W0) (by exact sm) bb
  replace B_z0 := mv B_z0 bb
  replace B_z1 := mv B_z1 bb
  replace L := Lib.hid (PL.below L.out bb)
  replace HB := nx HB bb
  clear bb
  obtain ⟨c0z0, c1z0, c2z0⟩ := cells3 B_z0
  have sp_z0_LC1 : Hid (w.heap.size < w1.heap.size) := B_z0.out.lt
  have sp_z1_LC1 : Hid (w.heap.size + 1 < w1.heap.size) := B_z1.out.lt
  have lw_LC1 : Hid (w.heap.size ≤ w1.heap.size) := HB.out.size
  go_wp2_with fail
  refine (canonical_is x y _ _ _ l (by first | omega | decide) (okz_bd dd0) _ (PL.below L.out (by exact sm))).mono ?_
  clear c0z0 c1z0 c2z0
  rintro e w2 ⟨AC1, cC1, rfl, LC1, bb⟩
  replace bb := nextw (w0 := w1) (by exact sm) bb
  replace B_z0 := mv B_z0 bb
  replace B_z1 := mv B_z1 bb
  replace L := Lib.hid (PL.below L.out bb)
  replace HB := nx HB bb
  clear bb
  replace LC1 := Lib.hid LC1
  have lt_z2z0 := B_z0.out.lt
  have lt_z2z1 := B_z1.out.lt
  obtain ⟨bb, B_z2⟩ := box1 w2 24 #[.int .i64 x, .int .i64 y, .slice AC1 ((canL l).length) cC1]
  replace bb := bb.out
  replace B_z0 := mv B_z0 bb
  replace B_z1 := mv B_z1 bb
  replace L := Lib.hid (PL.below L.out bb)
  replace LC1 := Lib.hid (PL.below LC1.out bb)
  replace HB := nx HB bb
  clear bb
  go_upto_region 6 with (fail)
  generalize w2.alloc (.cells #[.int .i64 x, .int .i64 y, .slice AC1 ((canL l).length) cC1] 24) = WN3 at *
  obtain ⟨c0z2, c1z2, c2z2⟩ := cells3 B_z2
  go_wp2_with fail
  refine (ifValid_w1 x y _ _ _ (canL l) HLEN.out dd4 _ (PL.below LC1.out (by exact sm))).mono ?_
  clear c0z2 c1z2 c2z2
  rintro e w3 ⟨rfl, bb⟩
  replace bb := nextw (w0 := WN3) (by exact sm) bb
  replace B_z0 := mv B_z0 bb
  replace B_z1 := mv B_z1 bb
  replace B_z2 := mv B_z2 bb
  replace L := Lib.hid (PL.below L.out bb)
  replace LC1 := Lib.hid (PL.below LC1.out bb)
  replace HB := nx HB bb
  clear bb
  obtain ⟨s0, s1, s2⟩ := cells3 (stor3 B_z1 (.int .i64 0) (.int .i64 0) (.slice none 0 0))
  have HF := stb3 HB (y := w.heap.size + 1) (by omega) 0 (.int .i64 0) 1 (.int .i64 0) 2 (.slice none 0 0)
  obtain ⟨c0z1, c1z1, c2z1⟩ := cells3 B_z1
  obtain ⟨f0z1, f1z1, f2z1⟩ := froz3 B_z1
  go_wp2_with fail
  exact bodyPost_ret (v := .tuple #[.agg #[.int .i64 0, .int .i64 0, .slice none 0 0], .int .i64 6]) (by simp [results, Try.results42, go_sem, s0, s1, s2]) rfl ⟨rfl, nextw HF.out (by exact sm)⟩

set_option maxRecDepth 100000 in
set_option maxHeartbeats 4000000 in
theorem Reduce_w6 (x y most : Int) (A : Option Addr) (n c : Nat) (l : List P2)  (hn : n ≤ 1000) (dd0 : OkZ x y l) (dd1 : 2 ≤ most) (dd2 : most ≤ 16) (dd3 : most < (((canL l).length : Nat) : Int)) (dd4 : ¬ (OkZ x y (canL (boxB (insB (canL l) (canL_bd4 dd0)) (((((canL l).length : Nat) : Int) + 2) - most).toNat)))) (w : World) {lo_L hi_L : Nat} (L : PL w lo_L hi_L A n c l) :
    Calls Try.prog 42 #[.agg #[.int .i64 x, .int .i64 y, .slice A n c], .int .i64 most] w fun e w' => e = .returned (.tuple #[.agg #[.int .i64 0, .int .i64 0, .slice none 0 0], .int .i64 6]) ∧ Below w.heap.size w w' := by
  replace L := Lib.hid L
  have hcl := canL_len dd0
  have hbl := redB_len dd0 ((((((canL l).length) : Nat) : Int) + 2 - most).toNat)
  have HLEN := Lib.hid (redB_can dd0 ((((((canL l).length) : Nat) : Int) + 2 - most).toNat))
  obtain ⟨HB, B_z0, B_z1⟩ := box2 w 24 #[.int .i64 x, .int .i64 y, .slice A n c] 24 #[.int .i64 0, .int .i64 0, .slice none 0 0]
  replace L := Lib.hid (PL.below L.out HB.out)
  go_enter Try.func42, Try.ntmps42
  go_upto_region 1 with (fail)
  generalize (w.alloc (.cells #[.int .i64 x, .int .i64 y, .slice A n c] 24)).alloc (.cells #[.int .i64 0, .int .i64 0, .slice none 0 0] 24) = W0 at *
  obtain ⟨c0z0, c1z0, c2z0⟩ := cells3 B_z0
  go_wp2_with fail
  refine (Valid_yes dd0 (by omega) _ (PL.below L.out (by exact sm))).mono ?_
  clear c0z0 c1z0 c2z0
  rintro e w1 ⟨rfl, bb⟩
  replace bb := nextw (w0 := W0) (by exact sm) bb
  replace B_z0 := mv B_z0 bb
  replace B_z1 := mv B_z1 bb
  replace L := Lib.hid (PL.below L.out bb)
  replace HB := nx HB bb
  clear bb
  obtain ⟨c0z0, c1z0, c2z0⟩ := cells3 B_z0
  have sp_z0_LC1 : Hid (w.heap.size < w1.heap.size) := B_z0.out.lt
  have sp_z1_LC1 : Hid (w.heap.size + 1 < w1.heap.size) := B_z1.out.lt
  have lw_LC1 : Hid (w.heap.size ≤ w1.heap.size) := HB.out.size
  go_wp2_with fail
  refine (canonical_is x y _ _ _ l (by first | omega | decide) (okz_bd dd0) _ (PL.below L.out (by exact sm))).mono ?_
  clear c0z0 c1z0 c2z0
  rintro e w2 ⟨AC1, cC1, rfl, LC1, bb⟩
  replace bb := nextw (w0 := w1) (by exact sm) bb
  replace B_z0 := mv B_z0 bb
  replace B_z1 := mv B_z1 bb
  replace L := Lib.hid (PL.below L.out bb)
  replace HB := nx HB bb
  clear bb
  replace LC1 := Lib.hid LC1
  have lt_z2z0 := B_z0.out.lt
  have lt_z2z1 := B_z1.out.lt
  obtain ⟨bb, B_z2⟩ := box1 w2 24 #[.int .i64 x, .int .i64 y, .slice AC1 ((canL l).length) cC1]
  replace bb := bb.out
  replace B_z0 := mv B_z0 bb
  replace B_z1 := mv B_z1 bb
  replace L := Lib.hid (PL.below L.out bb)
  replace LC1 := Lib.hid (PL.below LC1.out bb)
  replace HB := nx HB bb
  clear bb
  go_upto_region 6 with (fail)
  generalize w2.alloc (.cells #[.int .i64 x, .int .i64 y, .slice AC1 ((canL l).length) cC1] 24) = WN3 at *
  obtain ⟨c0z2, c1z2, c2z2⟩ := cells3 B_z2
  have sp_z0_LC2 : Hid (w.heap.size < WN3.heap.size) := B_z0.out.lt
  have sp_z1_LC2 : Hid (w.heap.size + 1 < WN3.heap.size) := B_z1.out.lt
  have sp_z2_LC2 : Hid (w2.heap.size < WN3.heap.size) := B_z2.out.lt
  have lw_LC2 : Hid (w.heap.size ≤ WN3.heap.size) := HB.out.size
  go_wp2_with fail
  refine (boxed_at (((((canL l).length : Nat) : Int) + 2) - most) _ _ _ (canL l) (((((canL l).length : Nat) : Int) + 2) - most).toNat (by omega) (by have := canL_len dd0; omega) (canL_bd4 dd0) (by omega) (by omega) _ (PL.below LC1.out (by exact sm))).mono ?_
  clear c0z2 c1z2 c2z2
  rintro e w3 ⟨AC2, cC2, rfl, LC2, bb⟩
  replace bb := nextw (w0 := WN3) (by exact sm) bb
  replace B_z0 := mv B_z0 bb
  replace B_z1 := mv B_z1 bb
  replace B_z2 := mv B_z2 bb
  replace L := Lib.hid (PL.below L.out bb)
  replace LC1 := Lib.hid (PL.below LC1.out bb)
  replace HB := nx HB bb
  clear bb
  replace LC2 := Lib.hid LC2
  obtain ⟨c0z2, c1z2, c2z2⟩ := cells3 B_z2
  obtain ⟨f0z2, f1z2, f2z2⟩ := froz3 B_z2
  clear L
  clear LC1
  have n_LC2 := Lib.hid ((PL.set LC2.out (Or.inl sp_z2_LC2.out) 2 (.slice AC2 ((boxB (insB (canL l) (canL_bd4 dd0)) (((((canL l).length : Nat) : Int) + 2) - most).toNat).length) cC2)))
  have ne_z0 : Hid ((w.heap.size) ≠ (w2.heap.size)) := by unfold Hid; omega
  have ne_z1 : Hid ((w.heap.size + 1) ≠ (w2.heap.size)) := by unfold Hid; omega
  have n_z2 : Hid (Bx (w3.setCell ⟨w2.heap.size, 2, none⟩ (.slice AC2 ((boxB (insB (canL l) (canL_bd4 dd0)) (((((canL l).length : Nat) : Int) + 2) - most).toNat).length) cC2)) (w2.heap.size) 24 #[.int .i64 x, .int .i64 y, .slice AC2 ((boxB (insB (canL l) (canL_bd4 dd0)) (((((canL l).length : Nat) : Int) + 2) - most).toNat).length) cC2]) := (B_z2.out.set 2 (.slice AC2 ((boxB (insB (canL l) (canL_bd4 dd0)) (((((canL l).length : Nat) : Int) + 2) - most).toNat).length) cC2))
  have n_z0 := far1 B_z0 ne_z0.out 2 (.slice AC2 ((boxB (insB (canL l) (canL_bd4 dd0)) (((((canL l).length : Nat) : Int) + 2) - most).toNat).length) cC2)
  have n_z1 := far1 B_z1 ne_z1.out 2 (.slice AC2 ((boxB (insB (canL l) (canL_bd4 dd0)) (((((canL l).length : Nat) : Int) + 2) - most).toNat).length) cC2)
  have nHB := stb1 HB (y := w2.heap.size) (by omega) 2 (.slice AC2 ((boxB (insB (canL l) (canL_bd4 dd0)) (((((canL l).length : Nat) : Int) + 2) - most).toNat).length) cC2)
  go_upto_region 9 with (fail)
  clear c0z2 c1z2 c2z2 f0z2 f1z2 f2z2
  clear ne_z0 ne_z1
  generalize w3.setCell ⟨w2.heap.size, 2, none⟩ (.slice AC2 ((boxB (insB (canL l) (canL_bd4 dd0)) (((((canL l).length : Nat) : Int) + 2) - most).toNat).length) cC2) = WS6 at *
  clear B_z0
  have B_z0 := n_z0
  clear n_z0
  clear B_z1
  have B_z1 := n_z1
  clear n_z1
  clear B_z2
  have B_z2 := n_z2
  clear n_z2
  clear HB
  have HB := nHB
  clear nHB
  clear LC2
  have LC2 := n_LC2
  clear n_LC2
  obtain ⟨c0z2, c1z2, c2z2⟩ := cells3 B_z2
  have sp_z0_LC3 : Hid (w.heap.size < WS6.heap.size) := B_z0.out.lt
  have sp_z1_LC3 : Hid (w.heap.size + 1 < WS6.heap.size) := B_z1.out.lt
  have sp_z2_LC3 : Hid (w2.heap.size < WS6.heap.size) := B_z2.out.lt
  have lw_LC3 : Hid (w.heap.size ≤ WS6.heap.size) := HB.out.size
  go_wp2_with fail
  refine (canonical_is x y _ _ _ (boxB (insB (canL l) (canL_bd4 dd0)) (((((canL l).length : Nat) : Int) + 2) - most).toNat) (by first | omega | decide) (redB_bd dd0 _) _ (PL.below LC2.out (by exact sm))).mono ?_
  clear c0z2 c1z2 c2z2
  rintro e w4 ⟨AC3, cC3, rfl, LC3, bb⟩
  replace bb := nextw (w0 := WS6) (by exact sm) bb
  replace B_z0 := mv B_z0 bb
  replace B_z1 := mv B_z1 bb
  replace B_z2 := mv B_z2 bb
  replace LC2 := Lib.hid (PL.below LC2.out bb)
  replace HB := nx HB bb
  clear bb
  replace LC3 := Lib.hid LC3
  obtain ⟨c0z2, c1z2, c2z2⟩ := cells3 B_z2
  obtain ⟨f0z2, f1z2, f2z2⟩ := froz3 B_z2
  have n_LC2 := Lib.hid ((PL.set (PL.set (PL.set LC2.out (Or.inl sp_z2_LC2.out) 0 (.int .i64 x)) (Or.inl sp_z2_LC2.out) 1 (.int .i64 y)) (Or.inl sp_z2_LC2.out) 2 (.slice AC3 ((canL (boxB (insB (canL l) (canL_bd4 dd0)) (((((canL l).length : Nat) : Int) + 2) - most).toNat)).length) cC3)))
  have n_LC3 := Lib.hid ((PL.set (PL.set (PL.set LC3.out (Or.inl sp_z2_LC3.out) 0 (.int .i64 x)) (Or.inl sp_z2_LC3.out) 1 (.int .i64 y)) (Or.inl sp_z2_LC3.out) 2 (.slice AC3 ((canL (boxB (insB (canL l) (canL_bd4 dd0)) (((((canL l).length : Nat) : Int) + 2) - most).toNat)).length) cC3)))
  have ne_z0 : Hid ((w.heap.size) ≠ (w2.heap.size)) := by unfold Hid; omega
  have ne_z1 : Hid ((w.heap.size + 1) ≠ (w2.heap.size)) := by unfold Hid; omega
  have n_z2 : Hid (Bx (((w4.setCell ⟨w2.heap.size, 0, none⟩ (.int .i64 x)).setCell ⟨w2.heap.size, 1, none⟩ (.int .i64 y)).setCell ⟨w2.heap.size, 2, none⟩ (.slice AC3 ((canL (boxB (insB (canL l) (canL_bd4 dd0)) (((((canL l).length : Nat) : Int) + 2) - most).toNat)).length) cC3)) (w2.heap.size) 24 #[.int .i64 x, .int .i64 y, .slice AC3 ((canL (boxB (insB (canL l) (canL_bd4 dd0)) (((((canL l).length : Nat) : Int) + 2) - most).toNat)).length) cC3]) := (((B_z2.out.set 0 (.int .i64 x)).set 1 (.int .i64 y)).set 2 (.slice AC3 ((canL (boxB (insB (canL l) (canL_bd4 dd0)) (((((canL l).length : Nat) : Int) + 2) - most).toNat)).length) cC3))
  have n_z0 := far3 B_z0 ne_z0.out 0 (.int .i64 x) 1 (.int .i64 y) 2 (.slice AC3 ((canL (boxB (insB (canL l) (canL_bd4 dd0)) (((((canL l).length : Nat) : Int) + 2) - most).toNat)).length) cC3)
  have n_z1 := far3 B_z1 ne_z1.out 0 (.int .i64 x) 1 (.int .i64 y) 2 (.slice AC3 ((canL (boxB (insB (canL l) (canL_bd4 dd0)) (((((canL l).length : Nat) : Int) + 2) - most).toNat)).length) cC3)
  have nHB := stb3 HB (y := w2.heap.size) (by omega) 0 (.int .i64 x) 1 (.int .i64 y) 2 (.slice AC3 ((canL (boxB (insB (canL l) (canL_bd4 dd0)) (((((canL l).length : Nat) : Int) + 2) - most).toNat)).length) cC3)
  go_upto_region 10 with (fail)
  clear c0z2 c1z2 c2z2 f0z2 f1z2 f2z2
  clear ne_z0 ne_z1
  generalize ((w4.setCell ⟨w2.heap.size, 0, none⟩ (.int .i64 x)).setCell ⟨w2.heap.size, 1, none⟩ (.int .i64 y)).setCell ⟨w2.heap.size, 2, none⟩ (.slice AC3 ((canL (boxB (insB (canL l) (canL_bd4 dd0)) (((((canL l).length : Nat) : Int) + 2) - most).toNat)).length) cC3) = WS7 at *
  clear B_z0
  have B_z0 := n_z0
  clear n_z0
  clear B_z1
  have B_z1 := n_z1
  clear n_z1
  clear B_z2
  have B_z2 := n_z2
  clear n_z2
  clear HB
  have HB := nHB
  clear nHB
  clear LC2
  have LC2 := n_LC2
  clear n_LC2
  clear LC3
  have LC3 := n_LC3
  clear n_LC3
  obtain ⟨c0z2, c1z2, c2z2⟩ := cells3 B_z2
  go_wp2_with fail
  refine (ifValid_w1 x y _ _ _ (canL (boxB (insB (canL l) (canL_bd4 dd0)) (((((canL l).length : Nat) : Int) + 2) - most).toNat)) HLEN.out dd4 _ (PL.below LC3.out (by exact sm))).mono ?_
  clear c0z2 c1z2 c2z2
  rintro e w5 ⟨rfl, bb⟩
  replace bb := nextw (w0 := WS7) (by exact sm) bb
  replace B_z0 := mv B_z0 bb
  replace B_z1 := mv B_z1 bb
  replace B_z2 := mv B_z2 bb
  replace LC2 := Lib.hid (PL.below LC2.out bb)
  replace LC3 := Lib.hid (PL.below LC3.out bb)
  replace HB := nx HB bb
  clear bb
  obtain ⟨s0, s1, s2⟩ := cells3 (stor3 B_z1 (.int .i64 0) (.int .i64 0) (.slice none 0 0))
  have HF := stb3 HB (y := w.heap.size + 1) (by omega) 0 (.int .i64 0) 1 (.int .i64 0) 2 (.slice none 0 0)
  obtain ⟨c0z1, c1z1, c2z1⟩ := cells3 B_z1
  obtain ⟨f0z1, f1z1, f2z1⟩ := froz3 B_z1
  go_wp2_with fail
  exact bodyPost_ret (v := .tuple #[.agg #[.int .i64 0, .int .i64 0, .slice none 0 0], .int .i64 6]) (by simp [results, Try.results42, go_sem, s0, s1, s2]) rfl ⟨rfl, nextw HF.out (by exact sm)⟩
end Go.Proofs.Ytpjbkadhmjlpfaa
