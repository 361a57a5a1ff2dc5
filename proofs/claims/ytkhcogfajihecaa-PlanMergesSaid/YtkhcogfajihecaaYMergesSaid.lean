/- PlanMerges, whatever the two plans: the law of the program answers true, and the arguments read as they did. -/
import Derived.Test.YtkhcogfajihecaaYKit
import Derived.Test.YtkhcogfajihecaaYArg
import Derived.Test.YtkhcogfajihecaaY31

set_option linter.unusedVariables false
set_option linter.unusedSimpArgs false

namespace Go.Proofs.Ytkhcogfajihecaa.planMerges
open Go Go.ChangeShapes Go.WideShapes Go.ChangeAt Go.RowKit

set_option maxRecDepth 100000 in
theorem params_fine : ∀ t ∈ Try.f11.params.toList, Try.prog.readableRec t = true ∧ t < Try.prog.types.size := by
  rw [Try.params11]
  intro t ht
  simp only [List.mem_cons, List.not_mem_nil, or_false] at ht
  rcases ht with rfl | rfl
  all_goals exact ⟨by kernel_rfl, of_decide_eq_true (by kernel_rfl)⟩

set_option maxRecDepth 100000 in
theorem lifted (os : Os) (started : os.Started) (H : Type) (enc : TypeId × Value → H) :
    ReturnsInHanded {} Try.checked os 11 .any (Rows.planMergesSpec.pre6 enc Try.prog Try.f11 Rows.planMergesRow.domain false) (Rows.planMergesSpec.post enc Try.prog Try.f11 false true false false) := by
  refine returnsInHanded_of_change (C := Try.checked) own started (by kernel_rfl) Try.func11
    (ChangeSpec.witness6 (enc := enc) (C := Try.checked) false ⟨#[], #[.agg #[.int .i64 0, .int .i64 0, .slice none 0 0], .agg #[.int .i64 0, .int .i64 0, .slice none 0 0]], []⟩ 8 (by kernel_rfl) (by kernel_rfl) (by kernel_rfl) (by kernel_rfl)) ?_
  intro W base args ds gs before hval0 hW hcnd _
  have hval : ∀ (j : Nat) t v, Try.f11.params[j]? = some t → args[j]? = some v → Value.okWide Try.prog W .any base t v := hval0
  have hW' := hW
  obtain ⟨p, q, hA0, hV, rfl, hfz, hnd⟩ := hW
  have hA : DataW.TrodAll enc Try.prog W 0 (fun _ => true) true Try.f11.params.toList args.toList ds p := hA0
  rw [Try.params11] at hA hval
  obtain ⟨v0, vs0, d0, ds0, p0, q0, hargs, rfl, rfl, t0, r0⟩ := trodAll_cons hA
  obtain ⟨v1, vs1, d1, ds1, p1, q1, rfl, rfl, rfl, t1, r1⟩ := trodAll_cons r0
  obtain ⟨rfl, rfl, rfl⟩ := trodAll_nil r1
  obtain rfl : args = #[v0, v1] := by cases args; simp_all
  obtain ⟨rfl, rfl⟩ := trodVars_none hV
  have hsp : ∀ (d : List (DataW H)), d = [d0, d1] ++ [] → (Rows.planMergesSpec.fn H d).results = [.lit (.bool true)] ∧ (Rows.planMergesSpec.fn H d).args = [d0, d1] ∧ (Rows.planMergesSpec.fn H d).vars = [] := fun d hd => by subst hd; exact ⟨rfl, rfl, rfl⟩
  have HSP := hsp _ rfl
  clear hsp hA0 hval0
  obtain ⟨x0, y0, A0, m0, c0, l0, rfl, L0⟩ := open_B (hval 0 24 v0 rfl rfl) t0
  obtain ⟨x1, y1, A1, m1, c1, l1, rfl, L1⟩ := open_B (hval 1 24 v1 rfl rfl) t1
  refine (LMerges_any x0 y0 x1 y1 A0 m0 c0 l0 A1 m1 c1 l1 W L0 L1).mono fun e W' ⟨he, hb⟩ => ?_
  subst he
  exact ⟨_, rfl, law_post (fun t ht => params_fine t ht) rfl rfl hW' HSP hb⟩

theorem over : Rows.planMergesRow.holds Try.pinned (OpenSpec.ofChange Rows.planMergesSpec) :=
  OpenClaim.holds_of_wide 11 Try.f11 rfl rfl rfl rfl rfl rfl rfl ⟨rfl, rfl, rfl, rfl, rfl⟩ rfl rfl rfl rfl rfl (by kernel_rfl) Try.func11 (by kernel_rfl)
    (of_decide_eq_true (by kernel_rfl)) (by unfold Func.isWrapper; first | (rw [if_pos (by decide +kernel)]; kernel_rfl) | (rw [if_neg (by decide +kernel)]; exact ⟨rfl, rfl⟩))
    (fun os started H enc _ => lifted os started H enc)

theorem proved : Rows.PlanMergesSaid := over
end Go.Proofs.Ytkhcogfajihecaa.planMerges
