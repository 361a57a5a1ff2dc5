/-
  No cell of these rows narrows 'for every input' (looked for: loops, veiled, ifaces, maps, wideKeys, modest, calm, conditions, laid).
  DERIVED. THE GIVEN ROWS OF THIS SEAT. 10 by the template 'for every input the law returns true; each argument reads behind the call as it read before'; 0 by the template 'total and deterministic' (their statements: YtincejndchdcdaaTotals.lean).
  GIVEN WITH THE SEED: the statements are not yours to turn. If you find one false, say at which input.
  Laid BY PROGRAM, IN A SANDBOX (cutbox-rows.mjs): the forced cells as the released guide's own fill.sh prints them over the translation ec44d0cef723e01a… (all of the seat's roots in one cut). By AI agents, Wed Nov 11 2026. No macro, syntax, notation, axiom, sorry.
-/
import Derived.Test.YtincejndchdcdaaChecked
import GoSem.Claim
import GoSem.ClaimJoined
import GoSem.ClaimMapViews
import Derived.JoinedTies
import Derived.KernelRfl
namespace Go.Proofs.Ytincejndchdcdaa
/- THE CELL 'sum', in the pinned program and in every row, IS THE sha256 OF THE DUMP (.gsa) THAT YtincejndchdcdaaProg.lean LOADS. Nothing in Lean hashes anything: it is a label: what it is worth is what the hold of that sum in a sandbox is worth. -/
noncomputable def Try.pinned : Pinned := { name := "ytincejndchdcdaa", sum := "ec44d0cef723e01a787ab341194275e9c35635e5102732ab58bda254ea76da19", checked := Try.checked }
namespace Rows
def none {H : Type} : Left H := { results := [], args := [] }

/-- 'wayfinderlaw04.HeadingMatchesReference': WHATEVER THE INPUT: true; the input reads as it did. -/
def headingMatchesReferenceSpec : ChangeSpec := { name := "headingMatchesReference", fn := fun _ => fun
  | [d1, d2] => { results := [.lit (.bool true)], args := [d1, d2] }
  | _ => none }
def headingMatchesReferenceRow : OpenClaim := { program := "ytincejndchdcdaa", sum := "ec44d0cef723e01a787ab341194275e9c35635e5102732ab58bda254ea76da19", func := "wayfinder/wayfinderlaw04.HeadingMatchesReference", spec := "headingMatchesReference", apart := false }
def HeadingMatchesReferenceSaid : Prop := headingMatchesReferenceRow.holds Try.pinned (OpenSpec.ofChange headingMatchesReferenceSpec)

/-- ITS FALSE NEIGHBOUR: 'it returns false'. Refute it at one input. -/
def headingMatchesReferenceWrong : ChangeSpec := { name := "headingMatchesReference", fn := fun _ => fun
  | [d1, d2] => { results := [.lit (.bool false)], args := [d1, d2] }
  | _ => none }
def HeadingMatchesReferenceWrongFalsely : Prop := headingMatchesReferenceRow.holds Try.pinned (OpenSpec.ofChange headingMatchesReferenceWrong)

/-- 'wayfinderlaw04.HeadingRises': WHATEVER THE INPUT: true; the input reads as it did. -/
def headingRisesSpec : ChangeSpec := { name := "headingRises", fn := fun _ => fun
  | [d1, d2] => { results := [.lit (.bool true)], args := [d1, d2] }
  | _ => none }
def headingRisesRow : OpenClaim := { program := "ytincejndchdcdaa", sum := "ec44d0cef723e01a787ab341194275e9c35635e5102732ab58bda254ea76da19", func := "wayfinder/wayfinderlaw04.HeadingRises", spec := "headingRises", apart := false }
def HeadingRisesSaid : Prop := headingRisesRow.holds Try.pinned (OpenSpec.ofChange headingRisesSpec)

/-- ITS FALSE NEIGHBOUR: 'it returns false'. Refute it at one input. -/
def headingRisesWrong : ChangeSpec := { name := "headingRises", fn := fun _ => fun
  | [d1, d2] => { results := [.lit (.bool false)], args := [d1, d2] }
  | _ => none }
def HeadingRisesWrongFalsely : Prop := headingRisesRow.holds Try.pinned (OpenSpec.ofChange headingRisesWrong)

/-- 'wayfinderlaw04.HeadingVectors': WHATEVER THE INPUT: true; the input reads as it did. -/
def headingVectorsSpec : ChangeSpec := { name := "headingVectors", fn := fun _ => fun
  | [d1, d2] => { results := [.lit (.bool true)], args := [d1, d2] }
  | _ => none }
def headingVectorsRow : OpenClaim := { program := "ytincejndchdcdaa", sum := "ec44d0cef723e01a787ab341194275e9c35635e5102732ab58bda254ea76da19", func := "wayfinder/wayfinderlaw04.HeadingVectors", spec := "headingVectors", apart := false }
def HeadingVectorsSaid : Prop := headingVectorsRow.holds Try.pinned (OpenSpec.ofChange headingVectorsSpec)

/-- ITS FALSE NEIGHBOUR: 'it returns false'. Refute it at one input. -/
def headingVectorsWrong : ChangeSpec := { name := "headingVectors", fn := fun _ => fun
  | [d1, d2] => { results := [.lit (.bool false)], args := [d1, d2] }
  | _ => none }
def HeadingVectorsWrongFalsely : Prop := headingVectorsRow.holds Try.pinned (OpenSpec.ofChange headingVectorsWrong)

/-- 'wayfinderlaw04.HeadingTurns': WHATEVER THE INPUT: true; the input reads as it did. -/
def headingTurnsSpec : ChangeSpec := { name := "headingTurns", fn := fun _ => fun
  | [d1, d2, d3] => { results := [.lit (.bool true)], args := [d1, d2, d3] }
  | _ => none }
def headingTurnsRow : OpenClaim := { program := "ytincejndchdcdaa", sum := "ec44d0cef723e01a787ab341194275e9c35635e5102732ab58bda254ea76da19", func := "wayfinder/wayfinderlaw04.HeadingTurns", spec := "headingTurns", apart := false }
def HeadingTurnsSaid : Prop := headingTurnsRow.holds Try.pinned (OpenSpec.ofChange headingTurnsSpec)

/-- ITS FALSE NEIGHBOUR: 'it returns false'. Refute it at one input. -/
def headingTurnsWrong : ChangeSpec := { name := "headingTurns", fn := fun _ => fun
  | [d1, d2, d3] => { results := [.lit (.bool false)], args := [d1, d2, d3] }
  | _ => none }
def HeadingTurnsWrongFalsely : Prop := headingTurnsRow.holds Try.pinned (OpenSpec.ofChange headingTurnsWrong)

/-- 'wayfinderlaw04.HeadingCompares': WHATEVER THE INPUT: true; the input reads as it did. -/
def headingComparesSpec : ChangeSpec := { name := "headingCompares", fn := fun _ => fun
  | [d1, d2, d3] => { results := [.lit (.bool true)], args := [d1, d2, d3] }
  | _ => none }
def headingComparesRow : OpenClaim := { program := "ytincejndchdcdaa", sum := "ec44d0cef723e01a787ab341194275e9c35635e5102732ab58bda254ea76da19", func := "wayfinder/wayfinderlaw04.HeadingCompares", spec := "headingCompares", apart := false }
def HeadingComparesSaid : Prop := headingComparesRow.holds Try.pinned (OpenSpec.ofChange headingComparesSpec)

/-- ITS FALSE NEIGHBOUR: 'it returns false'. Refute it at one input. -/
def headingComparesWrong : ChangeSpec := { name := "headingCompares", fn := fun _ => fun
  | [d1, d2, d3] => { results := [.lit (.bool false)], args := [d1, d2, d3] }
  | _ => none }
def HeadingComparesWrongFalsely : Prop := headingComparesRow.holds Try.pinned (OpenSpec.ofChange headingComparesWrong)

/-- 'wayfinderlaw04.HeadingFloors': WHATEVER THE INPUT: true; the input reads as it did. -/
def headingFloorsSpec : ChangeSpec := { name := "headingFloors", fn := fun _ => fun
  | [d] => { results := [.lit (.bool true)], args := [d] }
  | _ => none }
def headingFloorsRow : OpenClaim := { program := "ytincejndchdcdaa", sum := "ec44d0cef723e01a787ab341194275e9c35635e5102732ab58bda254ea76da19", func := "wayfinder/wayfinderlaw04.HeadingFloors", spec := "headingFloors", apart := false }
def HeadingFloorsSaid : Prop := headingFloorsRow.holds Try.pinned (OpenSpec.ofChange headingFloorsSpec)

/-- ITS FALSE NEIGHBOUR: 'it returns false'. Refute it at one input. -/
def headingFloorsWrong : ChangeSpec := { name := "headingFloors", fn := fun _ => fun
  | [d] => { results := [.lit (.bool false)], args := [d] }
  | _ => none }
def HeadingFloorsWrongFalsely : Prop := headingFloorsRow.holds Try.pinned (OpenSpec.ofChange headingFloorsWrong)

/-- 'wayfinderlaw04.HeadingArcs': WHATEVER THE INPUT: true; the input reads as it did. -/
def headingArcsSpec : ChangeSpec := { name := "headingArcs", fn := fun _ => fun
  | [d1, d2] => { results := [.lit (.bool true)], args := [d1, d2] }
  | _ => none }
def headingArcsRow : OpenClaim := { program := "ytincejndchdcdaa", sum := "ec44d0cef723e01a787ab341194275e9c35635e5102732ab58bda254ea76da19", func := "wayfinder/wayfinderlaw04.HeadingArcs", spec := "headingArcs", apart := false }
def HeadingArcsSaid : Prop := headingArcsRow.holds Try.pinned (OpenSpec.ofChange headingArcsSpec)

/-- ITS FALSE NEIGHBOUR: 'it returns false'. Refute it at one input. -/
def headingArcsWrong : ChangeSpec := { name := "headingArcs", fn := fun _ => fun
  | [d1, d2] => { results := [.lit (.bool false)], args := [d1, d2] }
  | _ => none }
def HeadingArcsWrongFalsely : Prop := headingArcsRow.holds Try.pinned (OpenSpec.ofChange headingArcsWrong)

/-- 'wayfinderlaw04.HeadingMoves': WHATEVER THE INPUT: true; the input reads as it did. -/
def headingMovesSpec : ChangeSpec := { name := "headingMoves", fn := fun _ => fun
  | [d1, d2, d3] => { results := [.lit (.bool true)], args := [d1, d2, d3] }
  | _ => none }
def headingMovesRow : OpenClaim := { program := "ytincejndchdcdaa", sum := "ec44d0cef723e01a787ab341194275e9c35635e5102732ab58bda254ea76da19", func := "wayfinder/wayfinderlaw04.HeadingMoves", spec := "headingMoves", apart := false }
def HeadingMovesSaid : Prop := headingMovesRow.holds Try.pinned (OpenSpec.ofChange headingMovesSpec)

/-- ITS FALSE NEIGHBOUR: 'it returns false'. Refute it at one input. -/
def headingMovesWrong : ChangeSpec := { name := "headingMoves", fn := fun _ => fun
  | [d1, d2, d3] => { results := [.lit (.bool false)], args := [d1, d2, d3] }
  | _ => none }
def HeadingMovesWrongFalsely : Prop := headingMovesRow.holds Try.pinned (OpenSpec.ofChange headingMovesWrong)

/-- 'wayfinderlaw04.HeadingHulls': WHATEVER THE INPUT: true; the input reads as it did. -/
def headingHullsSpec : ChangeSpec := { name := "headingHulls", fn := fun _ => fun
  | [d1, d2, d3] => { results := [.lit (.bool true)], args := [d1, d2, d3] }
  | _ => none }
def headingHullsRow : OpenClaim := { program := "ytincejndchdcdaa", sum := "ec44d0cef723e01a787ab341194275e9c35635e5102732ab58bda254ea76da19", func := "wayfinder/wayfinderlaw04.HeadingHulls", spec := "headingHulls", apart := false }
def HeadingHullsSaid : Prop := headingHullsRow.holds Try.pinned (OpenSpec.ofChange headingHullsSpec)

/-- ITS FALSE NEIGHBOUR: 'it returns false'. Refute it at one input. -/
def headingHullsWrong : ChangeSpec := { name := "headingHulls", fn := fun _ => fun
  | [d1, d2, d3] => { results := [.lit (.bool false)], args := [d1, d2, d3] }
  | _ => none }
def HeadingHullsWrongFalsely : Prop := headingHullsRow.holds Try.pinned (OpenSpec.ofChange headingHullsWrong)

/-- 'wayfinderlaw04.HeadingMeets': WHATEVER THE INPUT: true; the input reads as it did. -/
def headingMeetsSpec : ChangeSpec := { name := "headingMeets", fn := fun _ => fun
  | [d1, d2, d3] => { results := [.lit (.bool true)], args := [d1, d2, d3] }
  | _ => none }
def headingMeetsRow : OpenClaim := { program := "ytincejndchdcdaa", sum := "ec44d0cef723e01a787ab341194275e9c35635e5102732ab58bda254ea76da19", func := "wayfinder/wayfinderlaw04.HeadingMeets", spec := "headingMeets", apart := false }
def HeadingMeetsSaid : Prop := headingMeetsRow.holds Try.pinned (OpenSpec.ofChange headingMeetsSpec)

/-- ITS FALSE NEIGHBOUR: 'it returns false'. Refute it at one input. -/
def headingMeetsWrong : ChangeSpec := { name := "headingMeets", fn := fun _ => fun
  | [d1, d2, d3] => { results := [.lit (.bool false)], args := [d1, d2, d3] }
  | _ => none }
def HeadingMeetsWrongFalsely : Prop := headingMeetsRow.holds Try.pinned (OpenSpec.ofChange headingMeetsWrong)

/- THE SECOND FORM. 'bulk': how many values and letters a reading holds, each counted each time it is reached (what is shared counts as often as it is met; a slice's spare places count too). A statement '..UptoSaid' is the law's where the arguments, and the package variables that the reading takes, are together of bulk at most 1048576: NARROWER than '..Said'. Prove '..Said' where nothing that the law and all that it calls make is longer than what came in: it says more and counts as full. Else prove '..UptoSaid'. A law counts once. -/
mutual
def uptoBulk {H : Type} : DataW H → Nat
  | .lit (.string bytes) => bytes.length + 1
  | .lit _ => 1
  | .nil => 1
  | .ptr d => uptoBulk d + 1
  | .slice elems spare => uptoBulkAll elems + uptoBulkAll spare + 1
  | .agg parts => uptoBulkAll parts + 1
  | .iface _ d => uptoBulk d + 1
  | .map entries => uptoBulkEntries entries + 1
  | .held _ => 1
def uptoBulkAll {H : Type} : List (DataW H) → Nat
  | [] => 0
  | d :: r => uptoBulk d + uptoBulkAll r
def uptoBulkEntries {H : Type} : List (Lit × DataW H) → Nat
  | [] => 0
  | x :: r => uptoBulkEntry x + uptoBulkEntries r
def uptoBulkEntry {H : Type} : Lit × DataW H → Nat
  | (.string bytes, d) => bytes.length + uptoBulk d + 1
  | (_, d) => uptoBulk d + 1
 end
def uptoSmall : (H : Type) → List (DataW H) → Bool := fun _ ds => decide (uptoBulkAll ds ≤ 1048576)
def OpenSpec.upto (s : _root_.Go.ChangeSpec) : _root_.Go.OpenSpec := { _root_.Go.OpenSpec.ofChange s with cond := some uptoSmall }

/-- 'wayfinderlaw04.HeadingMatchesReference', WHERE WHAT IT READS IS OF BULK AT MOST 1048576: true; the input reads as it did. -/
def headingMatchesReferenceUptoRow : OpenClaim := { program := "ytincejndchdcdaa", sum := "ec44d0cef723e01a787ab341194275e9c35635e5102732ab58bda254ea76da19", func := "wayfinder/wayfinderlaw04.HeadingMatchesReference", spec := "headingMatchesReference", apart := false, narrowed := true }
def HeadingMatchesReferenceUptoSaid : Prop := headingMatchesReferenceUptoRow.holds Try.pinned (OpenSpec.upto headingMatchesReferenceSpec)

/-- 'wayfinderlaw04.HeadingRises', WHERE WHAT IT READS IS OF BULK AT MOST 1048576: true; the input reads as it did. -/
def headingRisesUptoRow : OpenClaim := { program := "ytincejndchdcdaa", sum := "ec44d0cef723e01a787ab341194275e9c35635e5102732ab58bda254ea76da19", func := "wayfinder/wayfinderlaw04.HeadingRises", spec := "headingRises", apart := false, narrowed := true }
def HeadingRisesUptoSaid : Prop := headingRisesUptoRow.holds Try.pinned (OpenSpec.upto headingRisesSpec)

/-- 'wayfinderlaw04.HeadingVectors', WHERE WHAT IT READS IS OF BULK AT MOST 1048576: true; the input reads as it did. -/
def headingVectorsUptoRow : OpenClaim := { program := "ytincejndchdcdaa", sum := "ec44d0cef723e01a787ab341194275e9c35635e5102732ab58bda254ea76da19", func := "wayfinder/wayfinderlaw04.HeadingVectors", spec := "headingVectors", apart := false, narrowed := true }
def HeadingVectorsUptoSaid : Prop := headingVectorsUptoRow.holds Try.pinned (OpenSpec.upto headingVectorsSpec)

/-- 'wayfinderlaw04.HeadingTurns', WHERE WHAT IT READS IS OF BULK AT MOST 1048576: true; the input reads as it did. -/
def headingTurnsUptoRow : OpenClaim := { program := "ytincejndchdcdaa", sum := "ec44d0cef723e01a787ab341194275e9c35635e5102732ab58bda254ea76da19", func := "wayfinder/wayfinderlaw04.HeadingTurns", spec := "headingTurns", apart := false, narrowed := true }
def HeadingTurnsUptoSaid : Prop := headingTurnsUptoRow.holds Try.pinned (OpenSpec.upto headingTurnsSpec)

/-- 'wayfinderlaw04.HeadingCompares', WHERE WHAT IT READS IS OF BULK AT MOST 1048576: true; the input reads as it did. -/
def headingComparesUptoRow : OpenClaim := { program := "ytincejndchdcdaa", sum := "ec44d0cef723e01a787ab341194275e9c35635e5102732ab58bda254ea76da19", func := "wayfinder/wayfinderlaw04.HeadingCompares", spec := "headingCompares", apart := false, narrowed := true }
def HeadingComparesUptoSaid : Prop := headingComparesUptoRow.holds Try.pinned (OpenSpec.upto headingComparesSpec)

/-- 'wayfinderlaw04.HeadingFloors', WHERE WHAT IT READS IS OF BULK AT MOST 1048576: true; the input reads as it did. -/
def headingFloorsUptoRow : OpenClaim := { program := "ytincejndchdcdaa", sum := "ec44d0cef723e01a787ab341194275e9c35635e5102732ab58bda254ea76da19", func := "wayfinder/wayfinderlaw04.HeadingFloors", spec := "headingFloors", apart := false, narrowed := true }
def HeadingFloorsUptoSaid : Prop := headingFloorsUptoRow.holds Try.pinned (OpenSpec.upto headingFloorsSpec)

/-- 'wayfinderlaw04.HeadingArcs', WHERE WHAT IT READS IS OF BULK AT MOST 1048576: true; the input reads as it did. -/
def headingArcsUptoRow : OpenClaim := { program := "ytincejndchdcdaa", sum := "ec44d0cef723e01a787ab341194275e9c35635e5102732ab58bda254ea76da19", func := "wayfinder/wayfinderlaw04.HeadingArcs", spec := "headingArcs", apart := false, narrowed := true }
def HeadingArcsUptoSaid : Prop := headingArcsUptoRow.holds Try.pinned (OpenSpec.upto headingArcsSpec)

/-- 'wayfinderlaw04.HeadingMoves', WHERE WHAT IT READS IS OF BULK AT MOST 1048576: true; the input reads as it did. -/
def headingMovesUptoRow : OpenClaim := { program := "ytincejndchdcdaa", sum := "ec44d0cef723e01a787ab341194275e9c35635e5102732ab58bda254ea76da19", func := "wayfinder/wayfinderlaw04.HeadingMoves", spec := "headingMoves", apart := false, narrowed := true }
def HeadingMovesUptoSaid : Prop := headingMovesUptoRow.holds Try.pinned (OpenSpec.upto headingMovesSpec)

/-- 'wayfinderlaw04.HeadingHulls', WHERE WHAT IT READS IS OF BULK AT MOST 1048576: true; the input reads as it did. -/
def headingHullsUptoRow : OpenClaim := { program := "ytincejndchdcdaa", sum := "ec44d0cef723e01a787ab341194275e9c35635e5102732ab58bda254ea76da19", func := "wayfinder/wayfinderlaw04.HeadingHulls", spec := "headingHulls", apart := false, narrowed := true }
def HeadingHullsUptoSaid : Prop := headingHullsUptoRow.holds Try.pinned (OpenSpec.upto headingHullsSpec)

/-- 'wayfinderlaw04.HeadingMeets', WHERE WHAT IT READS IS OF BULK AT MOST 1048576: true; the input reads as it did. -/
def headingMeetsUptoRow : OpenClaim := { program := "ytincejndchdcdaa", sum := "ec44d0cef723e01a787ab341194275e9c35635e5102732ab58bda254ea76da19", func := "wayfinder/wayfinderlaw04.HeadingMeets", spec := "headingMeets", apart := false, narrowed := true }
def HeadingMeetsUptoSaid : Prop := headingMeetsUptoRow.holds Try.pinned (OpenSpec.upto headingMeetsSpec)

end Rows
end Go.Proofs.Ytincejndchdcdaa
