/- plan.New. -/
import Derived.Test.YtkhcogfajihecaaY15
import Derived.Test.YtkhcogfajihecaaYBld
set_option linter.unusedVariables false
set_option linter.unusedSimpArgs false
namespace Go.Proofs.Ytkhcogfajihecaa
open Go Go.RowKit Hd

theorem kb_one {w : World} {x : Nat} {v : Int} (h : Hid (Bx w x 5 #[.int .u8 v])) (hv : 0 ≤ v ∧ v ≤ 255) {lo : Nat} (hlo : lo ≤ x) : KB w lo w.heap.size (some ⟨x, 0, none⟩) 1 1 [v] :=
  ⟨rfl, Nat.le_refl _, Nat.le_refl _, fun b hb => by simp at hb; subst hb; exact hv, fun _ => ⟨x, 0, rfl, ⟨hlo, h.out.lt⟩, fun i hi => by
    have : i = 0 := by simpa using hi
    subst this; exact h.out.cell 0 rfl⟩⟩
theorem Repeat_n (v : Int) (hv : 0 ≤ v ∧ v ≤ 255) (n : Int) (h1 : 1 ≤ n) (h2 : n ≤ 100000) (A : Option Addr) (c : Nat) (w : World) {lo hi : Nat} (L : KB w lo hi A 1 c [v]) :
    Calls Try.prog 52 #[.slice A 1 c, .int .i64 n] w fun e w' => ∃ A', e = .returned (.slice A' n.toNat n.toNat) ∧ KB w' w.heap.size w'.heap.size A' n.toNat n.toNat (List.replicate n.toNat v) ∧ Below w.heap.size w w' := by
  have e : n = ((n.toNat : Nat) : Int) := by omega
  have h := Repeat_is v hv n.toNat (by omega) (by omega) A c w L
  rw [← e] at h
  exact h
/-- What a new plan's call answers. -/
def newE (p q v : Int) : Int := if (1 ≤ p ∧ p ≤ 64) ∧ (1 ≤ q ∧ q ≤ 64) then if v ≤ 2 then 0 else 1 else 2
def newX (p q v : Int) (x : Int) : Int := if newE p q v = 0 then x else 0
def newL (p q v : Int) : List Int := if newE p q v = 0 then List.replicate (p * q).toNat v else []
theorem newL_0 {p q v : Int} (h : newE p q v = 0) : newL p q v = List.replicate (p * q).toNat v := if_pos h
theorem newX_0 {p q v x : Int} (h : newE p q v = 0) : newX p q v x = x := if_pos h
theorem newL_1 {p q v : Int} (h : newE p q v ≠ 0) : newL p q v = [] := if_neg h
theorem newX_1 {p q v x : Int} (h : newE p q v ≠ 0) : newX p q v x = 0 := if_neg h

theorem isValue_is (v : Int) (w : World) : Calls Try.prog 51 #[.int .u8 v] w fun e w' => e = .returned (.bool (decide (v ≤ 2))) ∧ Below w.heap.size w w' := by
  have HB := Lib.hid (Below.refl w.heap.size w)
  go_enter Try.func51, Try.ntmps51
  go_upto_region 1 with (fail)
  go_wp2
  go_ret
  exact ⟨(by first | rfl | exact rbt (by omega) | exact rbf (by omega)), nextw HB.out (by exact sm)⟩

set_option maxRecDepth 100000 in
set_option maxHeartbeats 4000000 in
theorem New_w1 (p q v : Int) (h0 : ¬ (1 ≤ p ∧ p ≤ 64)) (w : World) :
    Calls Try.prog 15 #[.int .i64 p, .int .i64 q, .int .u8 v] w fun e w' => ∃ A c, e = .returned (.tuple #[.agg #[.int .i64 (newX p q v p), .int .i64 (newX p q v q), .slice A (newL p q v).length c], .int .i64 (newE p q v)]) ∧ KB w' w.heap.size w'.heap.size A (newL p q v).length c (newL p q v) ∧ Below w.heap.size w w' := by
  have HV : Hid (newE p q v = 2) := by unfold Hid newE; rw [if_neg (fun h => h0 h.1)]
  have HV1 : Hid (newL p q v = []) := newL_1 (by rw [HV.out]; decide)
  have HV2 : Hid (newX p q v p = 0) := newX_1 (by rw [HV.out]; decide)
  have HV3 : Hid (newX p q v q = 0) := newX_1 (by rw [HV.out]; decide)
  obtain ⟨HB, B_z0⟩ := box1 w 24 #[.int .i64 0, .int .i64 0, .slice none 0 0]
  go_enter Try.func15, Try.ntmps15
  go_wp2_with fail
  generalize w.alloc (.cells #[.int .i64 0, .int .i64 0, .slice none 0 0] 24) = W0 at *
  go_wp2_with fail
  refine (isSize_is p _).mono ?_
  rintro e w1 ⟨rfl, bb⟩
  replace bb := nextw (w0 := W0) (by exact sm) bb
  replace B_z0 := mv B_z0 bb
  replace HB := nx HB bb
  clear bb
  obtain ⟨s0, s1, s2⟩ := cells3 (stor3 B_z0 (.int .i64 0) (.int .i64 0) (.slice none 0 0))
  have HF := stb3 HB (y := w.heap.size) (by omega) 0 (.int .i64 0) 1 (.int .i64 0) 2 (.slice none 0 0)
  obtain ⟨c0z0, c1z0, c2z0⟩ := cells3 B_z0
  obtain ⟨f0z0, f1z0, f2z0⟩ := froz3 B_z0
  go_wp2_with fail
  exact bodyPost_ret (v := .tuple #[.agg #[.int .i64 0, .int .i64 0, .slice none 0 0], .int .i64 2]) (by simp [results, Try.results15, go_sem, s0, s1, s2]) rfl ⟨none, 0, (by rw [HV.out, HV1.out, HV2.out, HV3.out]; rfl), (by rw [HV1.out]; exact kb_nil _ _), nextw HF.out (by exact sm)⟩

set_option maxRecDepth 100000 in
set_option maxHeartbeats 4000000 in
theorem New_w2 (p q v : Int) (h0 : 1 ≤ p ∧ p ≤ 64) (h1 : ¬ (1 ≤ q ∧ q ≤ 64)) (w : World) :
    Calls Try.prog 15 #[.int .i64 p, .int .i64 q, .int .u8 v] w fun e w' => ∃ A c, e = .returned (.tuple #[.agg #[.int .i64 (newX p q v p), .int .i64 (newX p q v q), .slice A (newL p q v).length c], .int .i64 (newE p q v)]) ∧ KB w' w.heap.size w'.heap.size A (newL p q v).length c (newL p q v) ∧ Below w.heap.size w w' := by
  have HV : Hid (newE p q v = 2) := by unfold Hid newE; rw [if_neg (fun h => h1 h.2)]
  have HV1 : Hid (newL p q v = []) := newL_1 (by rw [HV.out]; decide)
  have HV2 : Hid (newX p q v p = 0) := newX_1 (by rw [HV.out]; decide)
  have HV3 : Hid (newX p q v q = 0) := newX_1 (by rw [HV.out]; decide)
  obtain ⟨HB, B_z0⟩ := box1 w 24 #[.int .i64 0, .int .i64 0, .slice none 0 0]
  go_enter Try.func15, Try.ntmps15
  go_wp2_with fail
  generalize w.alloc (.cells #[.int .i64 0, .int .i64 0, .slice none 0 0] 24) = W0 at *
  go_wp2_with fail
  refine (isSize_is p _).mono ?_
  rintro e w1 ⟨rfl, bb⟩
  replace bb := nextw (w0 := W0) (by exact sm) bb
  replace B_z0 := mv B_z0 bb
  replace HB := nx HB bb
  clear bb
  go_wp2_with fail
  refine (isSize_is q _).mono ?_
  rintro e w2 ⟨rfl, bb⟩
  replace bb := nextw (w0 := w1) (by exact sm) bb
  replace B_z0 := mv B_z0 bb
  replace HB := nx HB bb
  clear bb
  obtain ⟨s0, s1, s2⟩ := cells3 (stor3 B_z0 (.int .i64 0) (.int .i64 0) (.slice none 0 0))
  have HF := stb3 HB (y := w.heap.size) (by omega) 0 (.int .i64 0) 1 (.int .i64 0) 2 (.slice none 0 0)
  obtain ⟨c0z0, c1z0, c2z0⟩ := cells3 B_z0
  obtain ⟨f0z0, f1z0, f2z0⟩ := froz3 B_z0
  go_wp2_with fail
  exact bodyPost_ret (v := .tuple #[.agg #[.int .i64 0, .int .i64 0, .slice none 0 0], .int .i64 2]) (by simp [results, Try.results15, go_sem, s0, s1, s2]) rfl ⟨none, 0, (by rw [HV.out, HV1.out, HV2.out, HV3.out]; rfl), (by rw [HV1.out]; exact kb_nil _ _), nextw HF.out (by exact sm)⟩

set_option maxRecDepth 100000 in
set_option maxHeartbeats 4000000 in
theorem New_w3 (p q v : Int) (h0 : 1 ≤ p ∧ p ≤ 64) (h1 : 1 ≤ q ∧ q ≤ 64) (h2 : ¬ v ≤ 2) (w : World) :
    Calls Try.prog 15 #[.int .i64 p, .int .i64 q, .int .u8 v] w fun e w' => ∃ A c, e = .returned (.tuple #[.agg #[.int .i64 (newX p q v p), .int .i64 (newX p q v q), .slice A (newL p q v).length c], .int .i64 (newE p q v)]) ∧ KB w' w.heap.size w'.heap.size A (newL p q v).length c (newL p q v) ∧ Below w.heap.size w w' := by
  have HIV := Lib.hid (fun w => isValue_is v w)
  rw [decide_eq_false h2] at HIV
  have HV : Hid (newE p q v = 1) := by unfold Hid newE; rw [if_pos ⟨h0, h1⟩, if_neg h2]
  have HV1 : Hid (newL p q v = []) := newL_1 (by rw [HV.out]; decide)
  have HV2 : Hid (newX p q v p = 0) := newX_1 (by rw [HV.out]; decide)
  have HV3 : Hid (newX p q v q = 0) := newX_1 (by rw [HV.out]; decide)
  obtain ⟨HB, B_z0⟩ := box1 w 24 #[.int .i64 0, .int .i64 0, .slice none 0 0]
  go_enter Try.func15, Try.ntmps15
  go_wp2_with fail
  generalize w.alloc (.cells #[.int .i64 0, .int .i64 0, .slice none 0 0] 24) = W0 at *
  go_wp2_with fail
  refine (isSize_is p _).mono ?_
  rintro e w1 ⟨rfl, bb⟩
  replace bb := nextw (w0 := W0) (by exact sm) bb
  replace B_z0 := mv B_z0 bb
  replace HB := nx HB bb
  clear bb
  go_wp2_with fail
  refine (isSize_is q _).mono ?_
  rintro e w2 ⟨rfl, bb⟩
  replace bb := nextw (w0 := w1) (by exact sm) bb
  replace B_z0 := mv B_z0 bb
  replace HB := nx HB bb
  clear bb
  go_wp2_with fail
  refine (HIV.out _).mono ?_
  rintro e w3 ⟨rfl, bb⟩
  replace bb := nextw (w0 := w2) (by exact sm) bb
  replace B_z0 := mv B_z0 bb
  replace HB := nx HB bb
  clear bb
  obtain ⟨s0, s1, s2⟩ := cells3 (stor3 B_z0 (.int .i64 0) (.int .i64 0) (.slice none 0 0))
  have HF := stb3 HB (y := w.heap.size) (by omega) 0 (.int .i64 0) 1 (.int .i64 0) 2 (.slice none 0 0)
  obtain ⟨c0z0, c1z0, c2z0⟩ := cells3 B_z0
  obtain ⟨f0z0, f1z0, f2z0⟩ := froz3 B_z0
  go_wp2_with fail
  exact bodyPost_ret (v := .tuple #[.agg #[.int .i64 0, .int .i64 0, .slice none 0 0], .int .i64 1]) (by simp [results, Try.results15, go_sem, s0, s1, s2]) rfl ⟨none, 0, (by rw [HV.out, HV1.out, HV2.out, HV3.out]; rfl), (by rw [HV1.out]; exact kb_nil _ _), nextw HF.out (by exact sm)⟩

set_option maxRecDepth 100000 in
set_option maxHeartbeats 4000000 in
theorem New_w0 (p q v : Int) (hv0 : 0 ≤ v) (h0 : 1 ≤ p ∧ p ≤ 64) (h1 : 1 ≤ q ∧ q ≤ 64) (h2 : v ≤ 2) (w : World) :
    Calls Try.prog 15 #[.int .i64 p, .int .i64 q, .int .u8 v] w fun e w' => ∃ A c, e = .returned (.tuple #[.agg #[.int .i64 (newX p q v p), .int .i64 (newX p q v q), .slice A (newL p q v).length c], .int .i64 (newE p q v)]) ∧ KB w' w.heap.size w'.heap.size A (newL p q v).length c (newL p q v) ∧ Below w.heap.size w w' := by
  have hpq : 1 ≤ p * q ∧ p * q ≤ 4096 := by have k1 := Int.mul_le_mul h0.2 h1.2 (by omega) (by omega); have k2 := Int.mul_le_mul h0.1 h1.1 (by omega) (by omega); omega
  obtain ⟨hpq1, hpq2⟩ := hpq
  obtain ⟨h00, h01⟩ := id h0
  obtain ⟨h10, h11⟩ := id h1
  have HV : Hid (newE p q v = 0) := by unfold Hid newE; rw [if_pos ⟨h0, h1⟩, if_pos h2]
  have HV1 := Lib.hid (newL_0 HV.out)
  have HV2 := Lib.hid (newX_0 (x := p) HV.out)
  have HV3 := Lib.hid (newX_0 (x := q) HV.out)
  obtain ⟨HB, B_z0⟩ := box1 w 24 #[.int .i64 0, .int .i64 0, .slice none 0 0]
  go_enter Try.func15, Try.ntmps15
  go_wp2_with fail
  generalize w.alloc (.cells #[.int .i64 0, .int .i64 0, .slice none 0 0] 24) = W0 at *
  go_wp2_with fail
  refine (isSize_is p _).mono ?_
  rintro e w1 ⟨rfl, bb⟩
  replace bb := nextw (w0 := W0) (by exact sm) bb
  replace B_z0 := mv B_z0 bb
  replace HB := nx HB bb
  clear bb
  go_wp2_with fail
  refine (isSize_is q _).mono ?_
  rintro e w2 ⟨rfl, bb⟩
  replace bb := nextw (w0 := w1) (by exact sm) bb
  replace B_z0 := mv B_z0 bb
  replace HB := nx HB bb
  clear bb
  go_wp2_with fail
  refine (isValue_is v _).mono ?_
  rintro e w3 ⟨rfl, bb⟩
  replace bb := nextw (w0 := w2) (by exact sm) bb
  replace B_z0 := mv B_z0 bb
  replace HB := nx HB bb
  clear bb
  have lt_z1z0 := B_z0.out.lt
  obtain ⟨bb, B_z1⟩ := box1 w3 5 #[.int .u8 v]
  replace bb := bb.out
  replace B_z0 := mv B_z0 bb
  replace HB := nx HB bb
  clear bb
  go_wp2_with fail
  generalize w3.alloc (.cells #[.int .u8 v] 5) = WA at *
  have KB1 := Lib.hid (kb_one B_z1 ⟨hv0, by omega⟩ (Nat.le_refl _))
  have sp_L : Hid (w.heap.size < WA.heap.size) := B_z0.out.lt
  have lw_L : Hid (w.heap.size ≤ WA.heap.size) := HB.out.size
  refine (Repeat_n v ⟨hv0, by omega⟩ (p * q) hpq1 (by omega) _ _ _ KB1.out).mono ?_
  rintro e w4 ⟨A0, rfl, L, bb⟩
  replace bb := nextw (w0 := WA) (by exact sm) bb
  replace B_z0 := mv B_z0 bb
  replace B_z1 := mv B_z1 bb
  replace HB := nx HB bb
  clear bb
  replace L := Lib.hid L
  have hll : Hid ((newL p q v).length = (p * q).toNat) := by rw [HV1.out]; exact Lib.hid (by simp)
  obtain ⟨s0, s1, s2⟩ := cells3 (stor3 B_z0 (.int .i64 p) (.int .i64 q) (.slice A0 (p * q).toNat (p * q).toNat))
  have HF := stb3 HB (y := w.heap.size) (by omega) 0 (.int .i64 p) 1 (.int .i64 q) 2 (.slice A0 (p * q).toNat (p * q).toNat)
  obtain ⟨c0z0, c1z0, c2z0⟩ := cells3 B_z0
  obtain ⟨f0z0, f1z0, f2z0⟩ := froz3 B_z0
  go_wp2_with fail
  exact bodyPost_ret (v := .tuple #[.agg #[.int .i64 p, .int .i64 q, .slice A0 (p * q).toNat (p * q).toNat], .int .i64 0]) (by simp [results, Try.results15, go_sem, s0, s1, s2]) rfl ⟨A0, (p * q).toNat, (by rw [HV.out, HV2.out, HV3.out, hll.out]), (by rw [hll.out, HV1.out]; exact KB.outw (KB.below (KB.set (KB.set (KB.set L.out (Or.inl sp_L.out) 0 (.int .i64 p)) (Or.inl sp_L.out) 1 (.int .i64 q)) (Or.inl sp_L.out) 2 (.slice A0 (p * q).toNat (p * q).toNat)) (by exact sm)) lw_L.out), nextw HF.out (by exact sm)⟩

theorem New_is (p q v : Int) (hv0 : 0 ≤ v) (w : World) : Calls Try.prog 15 #[.int .i64 p, .int .i64 q, .int .u8 v] w fun e w' => ∃ A c, e = .returned (.tuple #[.agg #[.int .i64 (newX p q v p), .int .i64 (newX p q v q), .slice A (newL p q v).length c], .int .i64 (newE p q v)]) ∧ KB w' w.heap.size w'.heap.size A (newL p q v).length c (newL p q v) ∧ Below w.heap.size w w' := by
  by_cases h0 : 1 ≤ p ∧ p ≤ 64
  · by_cases h1 : 1 ≤ q ∧ q ≤ 64
    · by_cases h2 : v ≤ 2
      · exact New_w0 p q v hv0 h0 h1 h2 w
      · exact New_w3 p q v h0 h1 h2 w
    · exact New_w2 p q v h0 h1 w
  · exact New_w1 p q v h0 w
end Go.Proofs.Ytkhcogfajihecaa
