/- HeadingMeets, whatever the arcs and the mark: the law of the program answers true, and the arguments read as they did. -/
import Derived.Test.YtincejndchdcdaaHKit
import Derived.Test.YtincejndchdcdaaHMeets

set_option linter.unusedVariables false
set_option linter.unusedSimpArgs false

namespace Go.Proofs.Ytincejndchdcdaa.headingMeets
open Go Go.ChangeShapes Go.WideShapes Go.ChangeAt Go.RowKit Hd

set_option maxRecDepth 100000 in
theorem params_fine : ∀ t ∈ Try.f12.params.toList, Try.prog.readableRec t = true ∧ t < Try.prog.types.size := by
  rw [Try.params12]
  intro t ht
  simp only [List.mem_cons, List.not_mem_nil, or_false] at ht
  rcases ht with rfl | rfl | rfl
  all_goals exact ⟨by kernel_rfl, of_decide_eq_true (by kernel_rfl)⟩

set_option maxRecDepth 100000 in
theorem lifted (os : Os) (started : os.Started) (H : Type) (enc : TypeId × Value → H) :
    ReturnsInHanded {} Try.checked os 12 .any (Rows.headingMeetsSpec.pre6 enc Try.prog Try.f12 Rows.headingMeetsRow.domain false) (Rows.headingMeetsSpec.post enc Try.prog Try.f12 false true false false) := by
  refine returnsInHanded_of_change (C := Try.checked) own started (by kernel_rfl) Try.func12
    (ChangeSpec.witness6 (enc := enc) (C := Try.checked) false ⟨#[], #[.agg #[.int .i64 0, .int .i64 0], .agg #[.int .i64 0, .int .i64 0], .int .u8 0], []⟩ 8 (by kernel_rfl) (by kernel_rfl) (by kernel_rfl) (by kernel_rfl)) ?_
  intro W base args ds gs before hval0 hW hcnd _
  have hval : ∀ (j : Nat) t v, Try.f12.params[j]? = some t → args[j]? = some v → Value.okWide Try.prog W .any base t v := hval0
  have hW' := hW
  obtain ⟨p, q, hA0, hV, rfl, hfz, hnd⟩ := hW
  have hA : DataW.TrodAll enc Try.prog W 0 (fun _ => true) true Try.f12.params.toList args.toList ds p := hA0
  rw [Try.params12] at hA hval
  obtain ⟨v0, vs0, d0, ds0, p0, q0, hargs, rfl, rfl, h0, r0⟩ := trodAll_cons hA
  obtain ⟨v1, vs1, d1, ds1, p1, q1, rfl, rfl, rfl, h1, r1⟩ := trodAll_cons r0
  obtain ⟨v2, vs2, d2, ds2, p2, q2, rfl, rfl, rfl, h2, r2⟩ := trodAll_cons r1
  obtain ⟨rfl, rfl, rfl⟩ := trodAll_nil r2
  obtain rfl : args = #[v0, v1, v2] := by cases args; simp_all
  obtain ⟨rfl, rfl⟩ := trodVars_none hV
  have hsp : ∀ (d : List (DataW H)), d = [d0, d1, d2] ++ [] → (Rows.headingMeetsSpec.fn H d).results = [.lit (.bool true)] ∧ (Rows.headingMeetsSpec.fn H d).args = [d0, d1, d2] ∧ (Rows.headingMeetsSpec.fn H d).vars = [] := fun d hd => by subst hd; exact ⟨rfl, rfl, rfl⟩
  have HSP := hsp _ rfl
  clear hsp hA0 hval0
  obtain ⟨f0, c0, rfl, wf0, wc0⟩ := open_arc (hval 0 43 v0 rfl rfl) h0
  obtain ⟨f1, c1, rfl, wf1, wc1⟩ := open_arc (hval 1 43 v1 rfl rfl) h1
  obtain ⟨a2, rfl, -, -, w2⟩ := open_int Try.underlying5 (hval 2 5 v2 rfl rfl) h2
  refine (Meets_any f0 c0 f1 c1 a2 (u8_of w2).1 (u8_of w2).2 W).mono fun e W' ⟨he, hb⟩ => ?_
  subst he
  exact ⟨_, rfl, law_post (fun t ht => params_fine t ht) rfl rfl hW' HSP hb⟩

theorem over : Rows.headingMeetsRow.holds Try.pinned (OpenSpec.ofChange Rows.headingMeetsSpec) :=
  OpenClaim.holds_of_wide 12 Try.f12 rfl rfl rfl rfl rfl rfl rfl ⟨rfl, rfl, rfl, rfl, rfl⟩ rfl rfl rfl rfl rfl (by kernel_rfl) Try.func12 (by kernel_rfl)
    (of_decide_eq_true (by kernel_rfl)) (by unfold Func.isWrapper; first | (rw [if_pos (by decide +kernel)]; kernel_rfl) | (rw [if_neg (by decide +kernel)]; exact ⟨rfl, rfl⟩))
    (fun os started H enc _ => lifted os started H enc)

theorem proved : Rows.HeadingMeetsSaid := over
end Go.Proofs.Ytincejndchdcdaa.headingMeets
