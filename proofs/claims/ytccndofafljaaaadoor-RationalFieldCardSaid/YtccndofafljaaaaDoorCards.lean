/-
  DERIVED. GIVEN WITH THE SEED: THE CARDS: each row of YtccndofafljaaaaDoorRows.lean that lists a variable, with what it lists TIED to the program's text (the seventh form; the later family's looks); each row that meets fmt, with fmt's text TOLD by the authors' own Lean function (tested against real Go, not proved from fmt's source: count such statements apart). THE CARD IS WHAT COUNTS. Prove the row's statement (the work); the ties are given (YtccndofafljaaaaDoorTie.lean); close each card by the builder's one call (the guide's Derived/Test/ToyasCard.lean, 'card_holds'). Laid BY PROGRAM, IN A SANDBOX (cutbox-door.mjs). By AI agents, Wed Nov 11 2026. No macro, syntax, notation, axiom, sorry.
-/
import Derived.Test.YtccndofafljaaaaDoorRows
import GoSem.ClaimSeven
namespace Go.Proofs.YtccndofafljaaaaDoor
namespace Rows

/-- THE TIED CARD OF 'wayfinderlaw01.IntegerForms'. -/
def integerFormsCard : Claim7 := { stood := { row := integerFormsRow, standIns := [], harness := (true, "c0c7581296e513f945ea607bac2f286d24829db6645c1d3f56b780073092aa4b"), looks := false }, kinds := [], alts := [], laidByText := true, laidKinds := [.data, .data, .data], laidTests := true, laidLooks := .later }
def IntegerFormsCardSaid : Prop := Claim7.holds Tryd.pinned (.plain (OpenSpec.ofChange integerFormsSpec)) integerFormsCard

/-- THE TIED CARD OF 'wayfinderlaw02.RationalField'. -/
def rationalFieldCard : Claim7 := { stood := { row := rationalFieldRow, standIns := [], harness := (true, "c0c7581296e513f945ea607bac2f286d24829db6645c1d3f56b780073092aa4b"), looks := false }, kinds := [], alts := [], laidByText := true, laidKinds := [.data, .data, .data], laidTests := true, laidLooks := .later }
def RationalFieldCardSaid : Prop := Claim7.holds Tryd.pinned (.plain (OpenSpec.ofChange rationalFieldSpec)) rationalFieldCard

/-- THE TIED CARD OF 'wayfinderlaw02.RationalEncloses'. -/
def rationalEnclosesCard : Claim7 := { stood := { row := rationalEnclosesRow, standIns := [], harness := (true, "c0c7581296e513f945ea607bac2f286d24829db6645c1d3f56b780073092aa4b"), looks := false }, kinds := [], alts := [], laidByText := true, laidKinds := [.data, .data, .data], laidTests := true, laidLooks := .later }
def RationalEnclosesCardSaid : Prop := Claim7.holds Tryd.pinned (.plain (OpenSpec.ofChange rationalEnclosesSpec)) rationalEnclosesCard

/-- THE SECOND FORM's CARD OF 'wayfinderlaw01.IntegerForms'. -/
def integerFormsUptoCard : Claim7 := { stood := { row := integerFormsUptoRow, standIns := [], harness := (true, "c0c7581296e513f945ea607bac2f286d24829db6645c1d3f56b780073092aa4b"), looks := false }, kinds := [], alts := [], laidByText := true, laidKinds := [.data, .data, .data], laidTests := true, laidLooks := .later }
def IntegerFormsUptoCardSaid : Prop := Claim7.holds Tryd.pinned (.plain (OpenSpec.upto integerFormsSpec)) integerFormsUptoCard

/-- THE SECOND FORM's CARD OF 'wayfinderlaw02.RationalField'. -/
def rationalFieldUptoCard : Claim7 := { stood := { row := rationalFieldUptoRow, standIns := [], harness := (true, "c0c7581296e513f945ea607bac2f286d24829db6645c1d3f56b780073092aa4b"), looks := false }, kinds := [], alts := [], laidByText := true, laidKinds := [.data, .data, .data], laidTests := true, laidLooks := .later }
def RationalFieldUptoCardSaid : Prop := Claim7.holds Tryd.pinned (.plain (OpenSpec.upto rationalFieldSpec)) rationalFieldUptoCard

/-- THE SECOND FORM's CARD OF 'wayfinderlaw02.RationalEncloses'. -/
def rationalEnclosesUptoCard : Claim7 := { stood := { row := rationalEnclosesUptoRow, standIns := [], harness := (true, "c0c7581296e513f945ea607bac2f286d24829db6645c1d3f56b780073092aa4b"), looks := false }, kinds := [], alts := [], laidByText := true, laidKinds := [.data, .data, .data], laidTests := true, laidLooks := .later }
def RationalEnclosesUptoCardSaid : Prop := Claim7.holds Tryd.pinned (.plain (OpenSpec.upto rationalEnclosesSpec)) rationalEnclosesUptoCard
end Rows
end Go.Proofs.YtccndofafljaaaaDoor
