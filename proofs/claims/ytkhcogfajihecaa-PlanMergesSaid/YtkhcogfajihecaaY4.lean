/- the greatest byte. -/
import Derived.Test.YtkhcogfajihecaaY2
import Derived.Test.YtkhcogfajihecaaYBytes
set_option linter.unusedVariables false
set_option linter.unusedSimpArgs false
namespace Go.Proofs.Ytkhcogfajihecaa
open Go Go.RowKit Hd

theorem ret_i {k : IntKind} {a b : Int} (h : a = b) : Ending.returned (.int k a) = .returned (.int k b) := by rw [h]
theorem rb {b c : Bool} (h : b = c) : Ending.returned (.bool b) = .returned (.bool c) := by rw [h]
theorem sm_dr (w : World) : Below w.heap.size w w.drew := ⟨rfl, rfl, rfl, Nat.le_refl _, fun _ _ => rfl⟩
/-- The greatest of the first bytes. -/
def mxb (l : List Int) : Nat → Int
  | 0 => l.getD 0 0
  | k + 1 => if mxb l k < l.getD (k + 1) 0 then l.getD (k + 1) 0 else mxb l k
theorem mxb_le {l : List Int} {m : Int} (k : Nat) : mxb l k ≤ m ↔ ∀ i, i < k + 1 → l.getD i 0 ≤ m := by
  induction k with
  | zero => exact ⟨fun h i hi => by have : i = 0 := by omega
                                    subst this; exact h, fun h => h 0 (by omega)⟩
  | succ k ih =>
    have e : mxb l (k + 1) = if mxb l k < l.getD (k + 1) 0 then l.getD (k + 1) 0 else mxb l k := rfl
    constructor
    · intro h i hi
      rw [e] at h
      rcases Nat.lt_or_ge i (k + 1) with h1 | h1
      · refine ih.1 ?_ i h1
        split at h <;> omega
      · have : i = k + 1 := by omega
        subst this
        split at h <;> omega
    · intro h
      have h1 := ih.2 (fun i hi => h i (by omega))
      have h2 := h (k + 1) (by omega)
      rw [e]
      split <;> omega
theorem all_getD {l : List Int} {P : Int → Prop} : (∀ b ∈ l, P b) ↔ ∀ i, i < l.length → P (l.getD i 0) := by
  constructor
  · intro h i hi; exact h _ (getB_mem hi)
  · intro h b hb
    obtain ⟨i, hi, e⟩ := List.mem_iff_getElem.mp hb
    have := h i hi
    rw [List.getD_eq_getElem?_getD, List.getElem?_eq_getElem hi] at this
    simp only [Option.getD_some] at this
    rw [e] at this
    exact this
theorem mxb_bd {l : List Int} (h : ∀ b ∈ l, 0 ≤ b ∧ b ≤ 255) (k : Nat) (hk : k < l.length) : 0 ≤ mxb l k ∧ mxb l k ≤ 255 := by
  induction k with
  | zero => exact h _ (getB_mem hk)
  | succ k ih =>
    have h1 := ih (by omega)
    have h2 := h _ (getB_mem hk)
    unfold mxb
    split
    · exact h2
    · exact h1
/-- A valid plan. -/
def OkP (p q : Int) (l : List Int) : Prop := (1 ≤ p ∧ p ≤ 64) ∧ (1 ≤ q ∧ q ≤ 64) ∧ (l.length : Int) = p * q ∧ ∀ b ∈ l, b ≤ 2
instance (p q : Int) (l : List Int) : Decidable (OkP p q l) := inferInstanceAs (Decidable (_ ∧ _ ∧ _ ∧ _))

set_option maxRecDepth 100000 in
set_option maxHeartbeats 4000000 in
theorem Max_is (A : Option Addr) (n c : Nat) (l : List Int)  (hn0 : 0 < n) (hn : n ≤ 1000000) (w : World) {lo_L hi_L : Nat} (L : KB w lo_L hi_L A n c l) :
    Calls Try.prog 57 #[.slice A n c] w fun e w' => e = .returned (.int .u8 (mxb l (n - 1))) ∧ Below w.heap.size w w' := by
  have hiL_L : hi_L ≤ w.heap.size := L.top
  replace L := Lib.hid L
  have hn1 : ¬ (((n : Nat) : Int) < 1) := by omega
  have hlq0L : 0 < n := by omega
  obtain ⟨g_L, o_L, eA_L, -, -⟩ := L.out.elem hlq0L
  subst eA_L
  obtain ⟨x_q0L, hpq0L⟩ : ∃ q, l.getD 0 0 = q := ⟨_, rfl⟩
  have HPq0L := Lib.hid hpq0L
  have HLq0L := Lib.hid hlq0L
  have hmq0L : x_q0L ∈ l := by rw [← hpq0L]; exact getB_mem (by have := L.out.len; omega)
  obtain ⟨hblq0L, hbhq0L⟩ := L.out.byte _ hmq0L
  clear hpq0L hlq0L
  have HB := Lib.hid (Below.refl w.heap.size w)
  go_enter Try.func57, Try.ntmps57
  go_upto_region 1 with (fail)
  have e0q0L : w.cell? ⟨g_L, o_L, none⟩ = some (.int .u8 x_q0L) := by have h := KB.el L.out HLq0L.out HPq0L.out; simpa using h
  go_wp2_with fail
  clear e0q0L
  go_loopw [3, 4] (fun a0 kk wx => ∃ (k : Nat), k ≤ (n - 1) ∧ kk = .int .i64 (((k : Nat) : Int) + 1) ∧ a0 = (.int .u8 (mxb l k)) ∧ Hid (KB wx lo_L hi_L (some ⟨g_L, o_L, none⟩) n c l) ∧ Hid (Below w.heap.size w wx)) (fun _ kk _ => n - (intOf kk).toNat)
  case atStart => exact ⟨0, by omega, rfl, (by rw [show mxb l 0 = x_q0L from HPq0L.out]), L, HB⟩
  case round =>
    clear L HB
    obtain ⟨k, hk, rfl, rfl, L, HB⟩ := hrel
    by_cases hlt : k < (n - 1)
    · skip
      have hlq1L : (k + 1) < n := by omega
      obtain ⟨x_q1L, hpq1L⟩ : ∃ q, l.getD (k + 1) 0 = q := ⟨_, rfl⟩
      have HPq1L := Lib.hid hpq1L
      have HLq1L := Lib.hid hlq1L
      have hmq1L : x_q1L ∈ l := by rw [← hpq1L]; exact getB_mem (by have := L.out.len; omega)
      obtain ⟨hblq1L, hbhq1L⟩ := L.out.byte _ hmq1L
      clear hpq1L hlq1L
      have hgz : ((k : Nat) : Int) + 1 < ((n : Nat) : Int) := by omega
      obtain ⟨hmb1, hmb2⟩ := mxb_bd L.out.byte k (by have := L.out.len; omega)
      have HMX : Hid (mxb l (k + 1) = if mxb l k < x_q1L then x_q1L else mxb l k) := by unfold Hid; rw [← HPq1L.out]; rfl
      generalize mxb l k = M0 at *
      obtain ⟨MX0, mx0⟩ : ∃ m, (if M0 < x_q1L then x_q1L else M0) = m := ⟨_, rfl⟩
      replace mx0 := Lib.hid mx0
      have mxo0 := mx0.out
      have e0q1L : wr.cell? ⟨g_L, o_L + (k + 1), none⟩ = some (.int .u8 x_q1L) := KB.el L.out HLq1L.out HPq1L.out
      have HFM : Hid (max M0 x_q1L = mxb l (k + 1)) := by unfold Hid; rw [HMX.out, Int.max_def]; split <;> split <;> omega
      have HFN : Hid (MX0 = mxb l (k + 1)) := by rw [HMX.out]; exact mx0.out.symm
      go_wp2_with fail
      clear e0q1L
      go_roundw
      case rel => exact ⟨k + 1, by omega, congrArg (Value.int .i64) (by omega), by first | rw [HFM.out] | rw [HFN.out], L, HB⟩
      case measure => simp only [intOf]; omega
    · skip
      have hkn : (n - 1) = k := by omega
      subst hkn
      have hgz : ¬ (((n - 1 : Nat) : Int) + 1 < ((n : Nat) : Int)) := by omega
      go_wp2
      go_ret
      exact ⟨rfl, nextw HB.out (by exact sm)⟩
end Go.Proofs.Ytkhcogfajihecaa
