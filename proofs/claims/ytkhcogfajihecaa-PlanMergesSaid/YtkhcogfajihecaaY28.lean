/- wayfinderbase.Plans, few. -/
import Derived.Test.YtkhcogfajihecaaYPl
set_option linter.unusedVariables false
set_option linter.unusedSimpArgs false
namespace Go.Proofs.Ytkhcogfajihecaa
open Go Go.RowKit Hd

set_option maxRecDepth 100000 in
set_option maxHeartbeats 4000000 in
theorem Plans_same (p q : Int) (A : Option Addr) (n c : Nat) (A2 : Option Addr) (n2 c2 : Nat) (l : List Int) (w : World) {lo hi lo2 hi2 : Nat} (L : KB w lo hi A n c l) (L2 : KB w lo2 hi2 A2 n2 c2 l) :
    Calls Try.prog 19 #[.agg #[.int .i64 p, .int .i64 q, .slice A n c], .agg #[.int .i64 p, .int .i64 q, .slice A2 n2 c2]] w fun e w' => e = .returned (.bool true) ∧ Below w.heap.size w w' := by
  replace L := Lib.hid L
  replace L2 := Lib.hid L2
  obtain ⟨HB, B_z0, B_z1⟩ := box2 w 24 #[.int .i64 p, .int .i64 q, .slice A n c] 24 #[.int .i64 p, .int .i64 q, .slice A2 n2 c2]
  replace L := Lib.hid (KB.below L.out HB.out)
  replace L2 := Lib.hid (KB.below L2.out HB.out)
  go_enter Try.func19, Try.ntmps19
  go_wp2_with fail
  generalize (w.alloc (.cells #[.int .i64 p, .int .i64 q, .slice A n c] 24)).alloc (.cells #[.int .i64 p, .int .i64 q, .slice A2 n2 c2] 24) = W0 at *
  obtain ⟨c0z0, c1z0, c2z0⟩ := cells3 B_z0
  obtain ⟨c0z1, c1z1, c2z1⟩ := cells3 B_z1
  go_wp2_with fail
  rw [conv_bytes (KB.below L.out (by exact sm))]
  simp only [Result.andThen]
  rw [Oper.upon_value]
  go_wp2_with fail
  rw [conv_bytes (KB.below L2.out (by exact sm))]
  simp only [Result.andThen]
  rw [Oper.upon_value]
  go_wp2
  go_ret
  exact ⟨rfl, nextw HB.out (by exact sm)⟩

set_option maxRecDepth 100000 in
set_option maxHeartbeats 4000000 in
theorem few_w0 (p q : Int) (A : Option Addr) (n c : Nat) (l : List Int)    (w : World) {lo_L hi_L : Nat} (L : KB w lo_L hi_L A n c l) :
    Calls Try.prog 14 #[.agg #[.int .i64 p, .int .i64 q, .slice A n c]] w fun e w' => e = .returned (.bool (decide (((n : Nat) : Int) ≤ 5000))) ∧ Below w.heap.size w w' := by
  replace L := Lib.hid L
  obtain ⟨HB, B_z0⟩ := box1 w 24 #[.int .i64 p, .int .i64 q, .slice A n c]
  replace L := Lib.hid (KB.below L.out HB.out)
  go_enter Try.func14, Try.ntmps14
  go_upto_region 1 with (fail)
  generalize w.alloc (.cells #[.int .i64 p, .int .i64 q, .slice A n c] 24) = W0 at *
  obtain ⟨c0z0, c1z0, c2z0⟩ := cells3 B_z0
  go_wp2
  go_ret
  exact ⟨(by first | rfl | exact rbt (by omega) | exact rbf (by omega)), nextw HB.out (by exact sm)⟩
end Go.Proofs.Ytkhcogfajihecaa
