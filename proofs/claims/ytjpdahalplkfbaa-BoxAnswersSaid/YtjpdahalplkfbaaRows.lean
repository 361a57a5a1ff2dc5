/-
  No cell of these rows narrows 'for every input' (looked for: loops, veiled, ifaces, maps, wideKeys, modest, calm, conditions, laid).
  DERIVED. THE GIVEN ROWS OF THIS SEAT. 9 by the template 'for every input the law returns true; each argument reads behind the call as it read before'; 0 by the template 'total and deterministic' (their statements: YtjpdahalplkfbaaTotals.lean).
  GIVEN WITH THE SEED: the statements are not yours to turn. If you find one false, say at which input.
  Laid BY PROGRAM, IN A SANDBOX (cutbox-rows.mjs): the forced cells as the released guide's own fill.sh prints them over the translation 9e9febad359eb1d1… (all of the seat's roots in one cut). By AI agents, Wed Nov 11 2026. No macro, syntax, notation, axiom, sorry.
-/
import Derived.Test.YtjpdahalplkfbaaChecked
import GoSem.Claim
import GoSem.ClaimJoined
import GoSem.ClaimMapViews
import Derived.JoinedTies
import Derived.KernelRfl
namespace Go.Proofs.Ytjpdahalplkfbaa
/- THE CELL 'sum', in the pinned program and in every row, IS THE sha256 OF THE DUMP (.gsa) THAT YtjpdahalplkfbaaProg.lean LOADS. Nothing in Lean hashes anything: it is a label: what it is worth is what the hold of that sum in a sandbox is worth. -/
noncomputable def Try.pinned : Pinned := { name := "ytjpdahalplkfbaa", sum := "9e9febad359eb1d1dc7407b9fb01f982828d0c29dc406c4e260a94aee180b262", checked := Try.checked }
namespace Rows
def none {H : Type} : Left H := { results := [], args := [] }

/-- 'wayfinderlaw06.BoxAnswers': WHATEVER THE INPUT: true; the input reads as it did. -/
def boxAnswersSpec : ChangeSpec := { name := "boxAnswers", fn := fun _ => fun
  | [d1, d2, d3] => { results := [.lit (.bool true)], args := [d1, d2, d3] }
  | _ => none }
def boxAnswersRow : OpenClaim := { program := "ytjpdahalplkfbaa", sum := "9e9febad359eb1d1dc7407b9fb01f982828d0c29dc406c4e260a94aee180b262", func := "wayfinder/wayfinderlaw06.BoxAnswers", spec := "boxAnswers", apart := false }
def BoxAnswersSaid : Prop := boxAnswersRow.holds Try.pinned (OpenSpec.ofChange boxAnswersSpec)

/-- ITS FALSE NEIGHBOUR: 'it returns false'. Refute it at one input. -/
def boxAnswersWrong : ChangeSpec := { name := "boxAnswers", fn := fun _ => fun
  | [d1, d2, d3] => { results := [.lit (.bool false)], args := [d1, d2, d3] }
  | _ => none }
def BoxAnswersWrongFalsely : Prop := boxAnswersRow.holds Try.pinned (OpenSpec.ofChange boxAnswersWrong)

/-- 'wayfinderlaw06.BoxSplits': WHATEVER THE INPUT: true; the input reads as it did. -/
def boxSplitsSpec : ChangeSpec := { name := "boxSplits", fn := fun _ => fun
  | [d] => { results := [.lit (.bool true)], args := [d] }
  | _ => none }
def boxSplitsRow : OpenClaim := { program := "ytjpdahalplkfbaa", sum := "9e9febad359eb1d1dc7407b9fb01f982828d0c29dc406c4e260a94aee180b262", func := "wayfinder/wayfinderlaw06.BoxSplits", spec := "boxSplits", apart := false }
def BoxSplitsSaid : Prop := boxSplitsRow.holds Try.pinned (OpenSpec.ofChange boxSplitsSpec)

/-- ITS FALSE NEIGHBOUR: 'it returns false'. Refute it at one input. -/
def boxSplitsWrong : ChangeSpec := { name := "boxSplits", fn := fun _ => fun
  | [d] => { results := [.lit (.bool false)], args := [d] }
  | _ => none }
def BoxSplitsWrongFalsely : Prop := boxSplitsRow.holds Try.pinned (OpenSpec.ofChange boxSplitsWrong)

/-- 'wayfinderlaw06.BoxMoves': WHATEVER THE INPUT: true; the input reads as it did. -/
def boxMovesSpec : ChangeSpec := { name := "boxMoves", fn := fun _ => fun
  | [d1, d2] => { results := [.lit (.bool true)], args := [d1, d2] }
  | _ => none }
def boxMovesRow : OpenClaim := { program := "ytjpdahalplkfbaa", sum := "9e9febad359eb1d1dc7407b9fb01f982828d0c29dc406c4e260a94aee180b262", func := "wayfinder/wayfinderlaw06.BoxMoves", spec := "boxMoves", apart := false }
def BoxMovesSaid : Prop := boxMovesRow.holds Try.pinned (OpenSpec.ofChange boxMovesSpec)

/-- ITS FALSE NEIGHBOUR: 'it returns false'. Refute it at one input. -/
def boxMovesWrong : ChangeSpec := { name := "boxMoves", fn := fun _ => fun
  | [d1, d2] => { results := [.lit (.bool false)], args := [d1, d2] }
  | _ => none }
def BoxMovesWrongFalsely : Prop := boxMovesRow.holds Try.pinned (OpenSpec.ofChange boxMovesWrong)

/-- 'wayfinderlaw06.BoxCompacts': WHATEVER THE INPUT: true; the input reads as it did. -/
def boxCompactsSpec : ChangeSpec := { name := "boxCompacts", fn := fun _ => fun
  | [d1, d2, d3] => { results := [.lit (.bool true)], args := [d1, d2, d3] }
  | _ => none }
def boxCompactsRow : OpenClaim := { program := "ytjpdahalplkfbaa", sum := "9e9febad359eb1d1dc7407b9fb01f982828d0c29dc406c4e260a94aee180b262", func := "wayfinder/wayfinderlaw06.BoxCompacts", spec := "boxCompacts", unfollowed := true, recurses := true, apart := false }
def BoxCompactsSaid : Prop := boxCompactsRow.holds Try.pinned (OpenSpec.ofChange boxCompactsSpec)

/-- ITS FALSE NEIGHBOUR: 'it returns false'. Refute it at one input. -/
def boxCompactsWrong : ChangeSpec := { name := "boxCompacts", fn := fun _ => fun
  | [d1, d2, d3] => { results := [.lit (.bool false)], args := [d1, d2, d3] }
  | _ => none }
def BoxCompactsWrongFalsely : Prop := boxCompactsRow.holds Try.pinned (OpenSpec.ofChange boxCompactsWrong)

/-- 'wayfinderlaw06.BoxHalves': WHATEVER THE INPUT: true; the input reads as it did. -/
def boxHalvesSpec : ChangeSpec := { name := "boxHalves", fn := fun _ => fun
  | [d1, d2] => { results := [.lit (.bool true)], args := [d1, d2] }
  | _ => none }
def boxHalvesRow : OpenClaim := { program := "ytjpdahalplkfbaa", sum := "9e9febad359eb1d1dc7407b9fb01f982828d0c29dc406c4e260a94aee180b262", func := "wayfinder/wayfinderlaw06.BoxHalves", spec := "boxHalves", apart := false }
def BoxHalvesSaid : Prop := boxHalvesRow.holds Try.pinned (OpenSpec.ofChange boxHalvesSpec)

/-- ITS FALSE NEIGHBOUR: 'it returns false'. Refute it at one input. -/
def boxHalvesWrong : ChangeSpec := { name := "boxHalves", fn := fun _ => fun
  | [d1, d2] => { results := [.lit (.bool false)], args := [d1, d2] }
  | _ => none }
def BoxHalvesWrongFalsely : Prop := boxHalvesRow.holds Try.pinned (OpenSpec.ofChange boxHalvesWrong)

/-- 'wayfinderlaw06.BoxHulls': WHATEVER THE INPUT: true; the input reads as it did. -/
def boxHullsSpec : ChangeSpec := { name := "boxHulls", fn := fun _ => fun
  | [d1, d2, d3] => { results := [.lit (.bool true)], args := [d1, d2, d3] }
  | _ => none }
def boxHullsRow : OpenClaim := { program := "ytjpdahalplkfbaa", sum := "9e9febad359eb1d1dc7407b9fb01f982828d0c29dc406c4e260a94aee180b262", func := "wayfinder/wayfinderlaw06.BoxHulls", spec := "boxHulls", apart := false }
def BoxHullsSaid : Prop := boxHullsRow.holds Try.pinned (OpenSpec.ofChange boxHullsSpec)

/-- ITS FALSE NEIGHBOUR: 'it returns false'. Refute it at one input. -/
def boxHullsWrong : ChangeSpec := { name := "boxHulls", fn := fun _ => fun
  | [d1, d2, d3] => { results := [.lit (.bool false)], args := [d1, d2, d3] }
  | _ => none }
def BoxHullsWrongFalsely : Prop := boxHullsRow.holds Try.pinned (OpenSpec.ofChange boxHullsWrong)

/-- 'wayfinderlaw06.BoxMeets': WHATEVER THE INPUT: true; the input reads as it did. -/
def boxMeetsSpec : ChangeSpec := { name := "boxMeets", fn := fun _ => fun
  | [d1, d2, d3] => { results := [.lit (.bool true)], args := [d1, d2, d3] }
  | _ => none }
def boxMeetsRow : OpenClaim := { program := "ytjpdahalplkfbaa", sum := "9e9febad359eb1d1dc7407b9fb01f982828d0c29dc406c4e260a94aee180b262", func := "wayfinder/wayfinderlaw06.BoxMeets", spec := "boxMeets", apart := false }
def BoxMeetsSaid : Prop := boxMeetsRow.holds Try.pinned (OpenSpec.ofChange boxMeetsSpec)

/-- ITS FALSE NEIGHBOUR: 'it returns false'. Refute it at one input. -/
def boxMeetsWrong : ChangeSpec := { name := "boxMeets", fn := fun _ => fun
  | [d1, d2, d3] => { results := [.lit (.bool false)], args := [d1, d2, d3] }
  | _ => none }
def BoxMeetsWrongFalsely : Prop := boxMeetsRow.holds Try.pinned (OpenSpec.ofChange boxMeetsWrong)

/-- 'wayfinderlaw06.BoxCovers': WHATEVER THE INPUT: true; the input reads as it did. -/
def boxCoversSpec : ChangeSpec := { name := "boxCovers", fn := fun _ => fun
  | [d1, d2, d3] => { results := [.lit (.bool true)], args := [d1, d2, d3] }
  | _ => none }
def boxCoversRow : OpenClaim := { program := "ytjpdahalplkfbaa", sum := "9e9febad359eb1d1dc7407b9fb01f982828d0c29dc406c4e260a94aee180b262", func := "wayfinder/wayfinderlaw06.BoxCovers", spec := "boxCovers", unfollowed := true, recurses := true, apart := false }
def BoxCoversSaid : Prop := boxCoversRow.holds Try.pinned (OpenSpec.ofChange boxCoversSpec)

/-- ITS FALSE NEIGHBOUR: 'it returns false'. Refute it at one input. -/
def boxCoversWrong : ChangeSpec := { name := "boxCovers", fn := fun _ => fun
  | [d1, d2, d3] => { results := [.lit (.bool false)], args := [d1, d2, d3] }
  | _ => none }
def BoxCoversWrongFalsely : Prop := boxCoversRow.holds Try.pinned (OpenSpec.ofChange boxCoversWrong)

/-- 'wayfinderlaw06.BoxMoved': WHATEVER THE INPUT: true; the input reads as it did. -/
def boxMovedSpec : ChangeSpec := { name := "boxMoved", fn := fun _ => fun
  | [d1, d2, d3] => { results := [.lit (.bool true)], args := [d1, d2, d3] }
  | _ => none }
def boxMovedRow : OpenClaim := { program := "ytjpdahalplkfbaa", sum := "9e9febad359eb1d1dc7407b9fb01f982828d0c29dc406c4e260a94aee180b262", func := "wayfinder/wayfinderlaw06.BoxMoved", spec := "boxMoved", apart := false }
def BoxMovedSaid : Prop := boxMovedRow.holds Try.pinned (OpenSpec.ofChange boxMovedSpec)

/-- ITS FALSE NEIGHBOUR: 'it returns false'. Refute it at one input. -/
def boxMovedWrong : ChangeSpec := { name := "boxMoved", fn := fun _ => fun
  | [d1, d2, d3] => { results := [.lit (.bool false)], args := [d1, d2, d3] }
  | _ => none }
def BoxMovedWrongFalsely : Prop := boxMovedRow.holds Try.pinned (OpenSpec.ofChange boxMovedWrong)

/- THE SECOND FORM. 'bulk': how many values and letters a reading holds, each counted each time it is reached (what is shared counts as often as it is met; a slice's spare places count too). A statement '..UptoSaid' is the law's where the arguments, and the package variables that the reading takes, are together of bulk at most 1048576: NARROWER than '..Said'. Prove '..Said' where nothing that the law and all that it calls make is longer than what came in: it says more and counts as full. Else prove '..UptoSaid'. A law counts once. -/
mutual
def uptoBulk {H : Type} : DataW H → Nat
  | .lit (.string bytes) => bytes.length + 1
  | .lit _ => 1
  | .nil => 1
  | .ptr d => uptoBulk d + 1
  | .slice elems spare => uptoBulkAll elems + uptoBulkAll spare + 1
  | .agg parts => uptoBulkAll parts + 1
  | .iface _ d => uptoBulk d + 1
  | .map entries => uptoBulkEntries entries + 1
  | .held _ => 1
def uptoBulkAll {H : Type} : List (DataW H) → Nat
  | [] => 0
  | d :: r => uptoBulk d + uptoBulkAll r
def uptoBulkEntries {H : Type} : List (Lit × DataW H) → Nat
  | [] => 0
  | x :: r => uptoBulkEntry x + uptoBulkEntries r
def uptoBulkEntry {H : Type} : Lit × DataW H → Nat
  | (.string bytes, d) => bytes.length + uptoBulk d + 1
  | (_, d) => uptoBulk d + 1
 end
def uptoSmall : (H : Type) → List (DataW H) → Bool := fun _ ds => decide (uptoBulkAll ds ≤ 1048576)
def OpenSpec.upto (s : _root_.Go.ChangeSpec) : _root_.Go.OpenSpec := { _root_.Go.OpenSpec.ofChange s with cond := some uptoSmall }

/-- 'wayfinderlaw06.BoxAnswers', WHERE WHAT IT READS IS OF BULK AT MOST 1048576: true; the input reads as it did. -/
def boxAnswersUptoRow : OpenClaim := { program := "ytjpdahalplkfbaa", sum := "9e9febad359eb1d1dc7407b9fb01f982828d0c29dc406c4e260a94aee180b262", func := "wayfinder/wayfinderlaw06.BoxAnswers", spec := "boxAnswers", apart := false, narrowed := true }
def BoxAnswersUptoSaid : Prop := boxAnswersUptoRow.holds Try.pinned (OpenSpec.upto boxAnswersSpec)

/-- 'wayfinderlaw06.BoxSplits', WHERE WHAT IT READS IS OF BULK AT MOST 1048576: true; the input reads as it did. -/
def boxSplitsUptoRow : OpenClaim := { program := "ytjpdahalplkfbaa", sum := "9e9febad359eb1d1dc7407b9fb01f982828d0c29dc406c4e260a94aee180b262", func := "wayfinder/wayfinderlaw06.BoxSplits", spec := "boxSplits", apart := false, narrowed := true }
def BoxSplitsUptoSaid : Prop := boxSplitsUptoRow.holds Try.pinned (OpenSpec.upto boxSplitsSpec)

/-- 'wayfinderlaw06.BoxMoves', WHERE WHAT IT READS IS OF BULK AT MOST 1048576: true; the input reads as it did. -/
def boxMovesUptoRow : OpenClaim := { program := "ytjpdahalplkfbaa", sum := "9e9febad359eb1d1dc7407b9fb01f982828d0c29dc406c4e260a94aee180b262", func := "wayfinder/wayfinderlaw06.BoxMoves", spec := "boxMoves", apart := false, narrowed := true }
def BoxMovesUptoSaid : Prop := boxMovesUptoRow.holds Try.pinned (OpenSpec.upto boxMovesSpec)

/-- 'wayfinderlaw06.BoxCompacts', WHERE WHAT IT READS IS OF BULK AT MOST 1048576: true; the input reads as it did. -/
def boxCompactsUptoRow : OpenClaim := { program := "ytjpdahalplkfbaa", sum := "9e9febad359eb1d1dc7407b9fb01f982828d0c29dc406c4e260a94aee180b262", func := "wayfinder/wayfinderlaw06.BoxCompacts", spec := "boxCompacts", unfollowed := true, recurses := true, apart := false, narrowed := true }
def BoxCompactsUptoSaid : Prop := boxCompactsUptoRow.holds Try.pinned (OpenSpec.upto boxCompactsSpec)

/-- 'wayfinderlaw06.BoxHalves', WHERE WHAT IT READS IS OF BULK AT MOST 1048576: true; the input reads as it did. -/
def boxHalvesUptoRow : OpenClaim := { program := "ytjpdahalplkfbaa", sum := "9e9febad359eb1d1dc7407b9fb01f982828d0c29dc406c4e260a94aee180b262", func := "wayfinder/wayfinderlaw06.BoxHalves", spec := "boxHalves", apart := false, narrowed := true }
def BoxHalvesUptoSaid : Prop := boxHalvesUptoRow.holds Try.pinned (OpenSpec.upto boxHalvesSpec)

/-- 'wayfinderlaw06.BoxHulls', WHERE WHAT IT READS IS OF BULK AT MOST 1048576: true; the input reads as it did. -/
def boxHullsUptoRow : OpenClaim := { program := "ytjpdahalplkfbaa", sum := "9e9febad359eb1d1dc7407b9fb01f982828d0c29dc406c4e260a94aee180b262", func := "wayfinder/wayfinderlaw06.BoxHulls", spec := "boxHulls", apart := false, narrowed := true }
def BoxHullsUptoSaid : Prop := boxHullsUptoRow.holds Try.pinned (OpenSpec.upto boxHullsSpec)

/-- 'wayfinderlaw06.BoxMeets', WHERE WHAT IT READS IS OF BULK AT MOST 1048576: true; the input reads as it did. -/
def boxMeetsUptoRow : OpenClaim := { program := "ytjpdahalplkfbaa", sum := "9e9febad359eb1d1dc7407b9fb01f982828d0c29dc406c4e260a94aee180b262", func := "wayfinder/wayfinderlaw06.BoxMeets", spec := "boxMeets", apart := false, narrowed := true }
def BoxMeetsUptoSaid : Prop := boxMeetsUptoRow.holds Try.pinned (OpenSpec.upto boxMeetsSpec)

/-- 'wayfinderlaw06.BoxCovers', WHERE WHAT IT READS IS OF BULK AT MOST 1048576: true; the input reads as it did. -/
def boxCoversUptoRow : OpenClaim := { program := "ytjpdahalplkfbaa", sum := "9e9febad359eb1d1dc7407b9fb01f982828d0c29dc406c4e260a94aee180b262", func := "wayfinder/wayfinderlaw06.BoxCovers", spec := "boxCovers", unfollowed := true, recurses := true, apart := false, narrowed := true }
def BoxCoversUptoSaid : Prop := boxCoversUptoRow.holds Try.pinned (OpenSpec.upto boxCoversSpec)

/-- 'wayfinderlaw06.BoxMoved', WHERE WHAT IT READS IS OF BULK AT MOST 1048576: true; the input reads as it did. -/
def boxMovedUptoRow : OpenClaim := { program := "ytjpdahalplkfbaa", sum := "9e9febad359eb1d1dc7407b9fb01f982828d0c29dc406c4e260a94aee180b262", func := "wayfinder/wayfinderlaw06.BoxMoved", spec := "boxMoved", apart := false, narrowed := true }
def BoxMovedUptoSaid : Prop := boxMovedUptoRow.holds Try.pinned (OpenSpec.upto boxMovedSpec)

end Rows
end Go.Proofs.Ytjpdahalplkfbaa
