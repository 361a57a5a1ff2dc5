/- slices.Repeat of one byte. -/
import Derived.Test.YtkhcogfajihecaaY12
import Derived.Test.YtkhcogfajihecaaShelf
import Derived.Laws.CopyOwn
import Derived.Laws.MakeOwn
import Derived.Deep.RegionLaw
set_option linter.unusedSimpArgs false
set_option linter.unusedVariables false
set_option maxRecDepth 100000
namespace Go.Proofs.Ytkhcogfajihecaa
open Go Go.RowKit Hd

/-- The first k of n cells are v, the others 0. -/
def repC (v : Int) (n k : Nat) : List Value := List.replicate k (.int .u8 v) ++ List.replicate (n - k) (.int .u8 0)
theorem repC_len {v : Int} {n k : Nat} (h : k ≤ n) : (repC v n k).length = n := by simp [repC]; omega
theorem repC_get {v : Int} {n k i : Nat} (h : i < k) : (repC v n k)[i]? = some (.int .u8 v) := by
  unfold repC
  rw [List.getElem?_append_left (by simpa using h)]
  simp [h]
theorem repC_splice {v : Int} {n k m : Nat} (h : k + m ≤ n) : splice (repC v n k) k (List.replicate m (.int .u8 v)) = repC v n (k + m) := by
  unfold splice repC
  rw [List.take_append_of_le_length (by simp), List.take_of_length_le (by simp), List.drop_append]
  simp only [List.length_replicate, List.drop_replicate]
  rw [show k - (k + m) = 0 by omega, List.replicate_zero, List.nil_append, show n - k - (k + m - k) = n - (k + m) by omega, ← List.append_assoc, List.replicate_append_replicate]
theorem repC_kb {w : World} {v : Int} {n g : Nat} {t : TypeId} (hg : w.heap[g]? = some (.cells (repC v n n).toArray t (0, 0))) (hv : 0 ≤ v ∧ v ≤ 255) {lo : Nat} (hlo : lo ≤ g) : KB w lo w.heap.size (some ⟨g, 0, none⟩) n n (List.replicate n v) := by
  have hlt : g < w.heap.size := by
    rcases Nat.lt_or_ge g w.heap.size with h | h
    · exact h
    · simp [Array.getElem?_eq_none h] at hg
  refine ⟨by simp, Nat.le_refl _, Nat.le_refl _, fun b hb => by rw [List.eq_of_mem_replicate hb]; exact hv, fun _ => ⟨g, 0, rfl, ⟨hlo, hlt⟩, fun i hi => ?_⟩⟩
  rw [List.length_replicate] at hi
  simp only [World.cell?, hg]
  have := repC_get (v := v) (n := n) hi
  simp only [Nat.zero_add, List.getElem?_toArray, this]
  simp [List.getD, hi]
theorem made_repC (v : Int) (n : Nat) : (madeCells #[Value.int .u8 0] (n * 1)).toList = repC v n 0 := by
  unfold madeCells repC
  simp [Nat.mod_one, List.map_const']
theorem infoB : (Try.prog.info? 5).map (fun i => (i.zero, i.size, i.bytes)) = some (some (.int .u8 0), 1, 1) := by kernel_rfl
set_option maxHeartbeats 4000000 in
theorem Repeat_is (v : Int) (hv : 0 ≤ v ∧ v ≤ 255) (m : Nat) (hm1 : 1 ≤ m) (hm : m ≤ 100000) (A : Option Addr) (c : Nat) (w : World) {lo hi : Nat} (L : KB w lo hi A 1 c [v]) :
    Calls Try.prog 52 #[.slice A 1 c, .int .i64 m] w fun e w' => ∃ A', e = .returned (.slice A' m m) ∧ KB w' w.heap.size w'.heap.size A' m m (List.replicate m v) ∧ Below w.heap.size w w' := by
  have hb0 := Try.bits_Mul 1 m (by decide) (by omega)
  have e1 : 1 * m / 18446744073709551616 = 0 := by omega
  have e2 : 1 * m % 18446744073709551616 = m := by omega
  rw [e1, e2] at hb0
  replace hb0 := Lib.hid hb0
  clear e1 e2
  obtain ⟨g, o, rfl, hgo, hc0⟩ := L.elem (i := 0) (by decide)
  have hcx : w.cell? ⟨g, o, none⟩ = some (.int .u8 v) := by simpa using hc0
  clear hc0
  have hgl : g < w.heap.size := Nat.lt_of_lt_of_le hgo.2 L.top
  go_enter Try.func52, Try.ntmps52
  go_wp2_with fail
  refine (hb0.out _).mono ?_
  rintro e w1 ⟨rfl, rfl⟩
  go_wp2_with fail
  obtain ⟨i0, hi0, hz0, hz1, hz2⟩ := info_parts infoB
  have hmk := run_makeSlice (P := Try.prog) w1 22 5 i0 (.int .u8 0) Try.underlying22 hi0 hz0 .i64 .i64 (m : Int) (m : Int) (by omega) (Int.le_refl _) (by rw [hz1]; simp; omega) (by rw [hz2]; omega) (by omega)
  rw [hz1] at hmk
  simp only [Int.toNat_natCast] at hmk
  rw [hmk]
  clear hmk
  simp only [Result.andThen]
  rw [Oper.upon_value]
  have HB : Below w1.heap.size w1 (w1.alloc (.cells (madeCells (Value.int .u8 0).cells (m * 1)) 5)) := (Below.refl _ _).alloc (Nat.le_refl _) _
  have HG : Hid ((w1.alloc (.cells (madeCells (Value.int .u8 0).cells (m * 1)) 5)).heap[w1.heap.size]? = some (.cells (repC v m 0).toArray 5 (0, 0))) := by
    unfold Hid
    rw [heap_alloc_new, ← made_repC v m]
    rfl
  have L2 := KB.below L HB
  have hcx2 : (w1.alloc (.cells (madeCells (Value.int .u8 0).cells (m * 1)) 5)).cell? ⟨g, o, none⟩ = some (.int .u8 v) := (HB.cell (p := ⟨g, o, none⟩) hgl).trans hcx
  generalize w1.alloc (.cells (madeCells (Value.int .u8 0).cells (m * 1)) 5) = W2 at *
  have hsB : (Try.prog.info? 5).map (·.size) = some 1 := by kernel_rfl
  replace HB := Lib.hid HB
  have hsrc : ∀ (j : Nat) (u : Value), [Value.int .u8 v][j]? = some u → W2.cell? ((⟨g, o, none⟩ : Addr).add j) = some u := fun j u hj => by
    match j, hj with
    | 0, hj => simp at hj; subst hj; simpa [Addr.add] using hcx2
  have hone : ∀ u ∈ [Value.int .u8 v], u.oneCell' = true := fun u hu => by simp at hu; subst hu; rfl
  have hmin : [Value.int .u8 v].length = Nat.min 1 m := by simp [Nat.min_def]; omega
  have hfit : 0 + [Value.int .u8 v].length ≤ (repC v m 0).length := by rw [repC_len (by omega)]; simpa using hm1
  go_wp2_with (refine wpList_copy_splice (o := ⟨some 33, _, _, _, _, _⟩) rfl (.tmp 31) (.tmp 32) _ _ rfl 5 Try.underlying22 hsB (some ⟨w1.heap.size, 0, none⟩) (some ⟨g, o, none⟩) m m 1 c rfl rfl w1.heap.size 0 (repC v m 0) 5 HG.out [.int .u8 v] hmin (fun _ => ⟨rfl, _, rfl, hsrc⟩) hfit hone w1.heap.size w1 HB.out (Nat.le_refl _) ?_; intro w3 hg3 hb3)
  have hs3 := repC_splice (v := v) (n := m) (k := 0) (m := 1) (by omega)
  rw [show List.replicate 1 (Value.int .u8 v) = [.int .u8 v] from rfl] at hs3
  rw [hs3] at hg3
  clear hs3 HG HB
  replace hb3 := Lib.hid hb3
  go_wp2_with fail
  go_loopw [8] (fun kk wx => ∃ k : Nat, 1 ≤ k ∧ k ≤ m ∧ kk = .int .i64 (k : Int) ∧ Hid (wx.heap[w1.heap.size]? = some (.cells (repC v m k).toArray 5 (0, 0))) ∧ Hid (Below w1.heap.size w1 wx)) (fun kk _ => m - (intOf kk).toNat)
  case atStart => exact ⟨1, by omega, by omega, rfl, hg3, hb3⟩
  case round =>
    clear hg3 hb3
    obtain ⟨k, hk1, hk, rfl, HG, HB⟩ := hrel
    by_cases hlt : k < m
    · have hlz : ((k : Nat) : Int) < ((m : Nat) : Int) := by omega
      obtain ⟨q, hq⟩ : ∃ q, Nat.min k (m - k) = q := ⟨_, rfl⟩
      have hq0 : q ≤ m - k ∧ q ≤ k ∧ 1 ≤ q := by have h1 : min k (m - k) = q := hq; omega
      obtain ⟨hq1, hq2, hq3⟩ := hq0
      have s1 := Lib.hid (repC_splice (v := v) (n := m) (k := k) (m := q) (by omega))
      have s2 : Hid ((List.replicate q (Value.int .u8 v)).length = Nat.min k (m - k)) := Lib.hid (by rw [hq]; simp)
      have s3 : Hid (∀ (j : Nat) (u : Value), (List.replicate q (Value.int .u8 v))[j]? = some u → wr.cell? ((⟨w1.heap.size, 0, none⟩ : Addr).add j) = some u) := Lib.hid (fun j u hj => by
        rw [List.getElem?_replicate] at hj
        split at hj
        · rename_i hjq
          have e := repC_get (v := v) (n := m) (k := k) (i := j) (by omega)
          have ea : (⟨w1.heap.size, 0, none⟩ : Addr).add j = ⟨w1.heap.size, j, none⟩ := by unfold Addr.add; split <;> simp_all
          rw [ea]
          simp only [World.cell?, HG.out, List.getElem?_toArray, e]
          simpa using hj
        · cases hj)
      have s4 : Hid (k + (List.replicate q (Value.int .u8 v)).length ≤ (repC v m k).length) := Lib.hid (by rw [repC_len hk]; simp; omega)
      have s5 : Hid (∀ u ∈ List.replicate q (Value.int .u8 v), u.oneCell' = true) := Lib.hid (fun u hu => by rw [List.eq_of_mem_replicate hu]; rfl)
      have hkm : ¬ ((k : Nat) : Int) = ((m : Nat) : Int) := by omega
      have hmk : m - k ≠ 0 := by omega
      have hmk2 : k ≠ m := by omega
      have hkn : ¬ m = k := by omega
      go_upto_region 9 with (fail)
      go_region_law (refine step_copy_splice rfl (.tmp 41) (.tmp 44) 22 22 rfl 5 Try.underlying22 hsB (some ⟨w1.heap.size, k, none⟩) (some ⟨w1.heap.size, 0, none⟩) (m - k) (m - k) k m (by simp [Act.eval, Act.put, hmk, hmk2, hkn]) (by simp [Act.eval, Act.put]) w1.heap.size k (repC v m k) 5 HG.out (List.replicate q (Value.int .u8 v)) s2.out (fun _ => ⟨rfl, _, rfl, s3.out⟩) s4.out s5.out w1.heap.size w1 (nextw HB.out (by exact sm)) (Nat.le_refl _) ?_; intro w4 hg4 hb4)
      rw [s1.out] at hg4
      clear HG HB
      have ew : IntKind.i64.wrap ((k : Int) + (q : Int)) = ((k + q : Nat) : Int) := by rw [IntKind.wrap_i64]; omega
      have hl : (List.replicate q (Value.int .u8 v)).length = q := by simp
      try rw [hl]
      simp only [Act.put, Act.eval, List.setIfInBounds_toArray, List.set_cons_zero, List.set_cons_succ, List.getElem_toArray, List.getElem_cons_zero, List.getElem_cons_succ]
      go_simp
      go_wp2_with fail
      go_roundw
      case rel => exact ⟨k + q, by omega, by omega, congrArg (Value.int .i64) (by omega), hg4, Lib.hid hb4⟩
      case measure => simp only [intOf]; omega
    · have hkm : m = k := by omega
      subst hkm
      have KBR := repC_kb HG.out hv (Nat.le_refl w1.heap.size)
      replace KBR := Lib.hid KBR
      go_wp2
      go_ret
      exact ⟨_, rfl, KB.outw (KB.below KBR.out (by exact sm)) (Nat.le_refl _), nextw HB.out (by exact sm)⟩
end Go.Proofs.Ytkhcogfajihecaa
