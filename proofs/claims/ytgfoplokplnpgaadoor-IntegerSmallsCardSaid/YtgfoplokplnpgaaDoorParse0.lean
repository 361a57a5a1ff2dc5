/- Parse at "-0". -/
import Derived.Test.YtgfoplokplnpgaaDoorLaid
namespace Go.Proofs.YtgfoplokplnpgaaDoor
open Go Go.RowKit Num

set_option maxRecDepth 100000 in
set_option maxHeartbeats 2000000 in
theorem decimal_zero (w : World) :
    Calls Tryd.prog 63 #[.string ⟨#[48]⟩] w fun e w' => e = .returned (.bool true) ∧ w = w' := by
  go_enter Tryd.func63, Tryd.ntmps63
  go_wp2
  go_loop [18] (fun v => v = .int .i64 0 ∨ v = .int .i64 1) (fun v => 1 - (intOf v).toNat)
  case atStart => exact Or.inl rfl
  case round =>
    rcases hrel with rfl | rfl
    · go_wp2
      go_round
      case rel => exact Or.inr (by go_num)
      case measure => simp only [intOf]; omega
    · go_wp2
      go_ret
      exact ⟨rfl, rfl⟩

set_option maxRecDepth 100000 in
set_option maxHeartbeats 2000000 in
theorem Parse_minus_zero (w : World) :
    Calls Tryd.prog 32 #[.string ⟨#[45, 48]⟩] w fun e w' => e = .returned (.tuple #[.agg #[.bool false, .slice none 0 0], .int .i64 3]) ∧ Below w.heap.size w w' := by
  have bR := Box.new w false (.slice none 0 0)
  have cR0 := bR.c0
  have cR1 := bR.c1
  have fR0 := bR.f0
  have fR1 := bR.f1
  have hb0 : Below w.heap.size w (w.alloc (.cells #[.bool false, .slice none 0 0] 24)) := (Below.refl w.heap.size w).alloc (Nat.le_refl _) _
  have hc : Calls Tryd.prog 62 #[.string ⟨#[45, 48]⟩, .string ⟨#[45]⟩] (w.alloc (.cells #[.bool false, .slice none 0 0] 24)) fun e w' => e = .returned (.tuple #[.string ⟨#[48]⟩, .bool true]) ∧ w.alloc (.cells #[.bool false, .slice none 0 0] 24) = w' := by
    refine (Tryd.strings_CutPrefix ⟨#[45, 48]⟩ ⟨#[45]⟩ _).mono ?_
    intro e w' h
    exact ⟨h.1.trans (by rfl), h.2.symm⟩
  go_enter Tryd.func32, Tryd.ntmps32
  go_wp2_with (first
    | (go_at_call 62; refine hc.mono ?_; rintro e w1 ⟨rfl, rfl⟩)
    | (go_at_call 63; refine (decimal_zero _).mono ?_; rintro e w1 ⟨rfl, rfl⟩))
  exact bodyPost_ret (v := .tuple #[.agg #[.bool false, .slice none 0 0], .int .i64 3]) (by simp [results, Tryd.results32, go_sem, cR0, cR1]) rfl ⟨rfl, hb0⟩
end Go.Proofs.YtgfoplokplnpgaaDoor
