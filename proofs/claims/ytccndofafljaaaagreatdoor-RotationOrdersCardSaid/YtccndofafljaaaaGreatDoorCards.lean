/-
  DERIVED. GIVEN WITH THE SEED: THE CARDS: each row of YtccndofafljaaaaGreatDoorRows.lean that lists a variable, with what it lists TIED to the program's text (the seventh form; the later family's looks); each row that meets fmt, with fmt's text TOLD by the authors' own Lean function (tested against real Go, not proved from fmt's source: count such statements apart). THE CARD IS WHAT COUNTS. Prove the row's statement (the work); the ties are given (YtccndofafljaaaaGreatDoorTie.lean); close each card by the builder's one call (the guide's Derived/Test/ToyasCard.lean, 'card_holds'). Laid BY PROGRAM, IN A SANDBOX (cutbox-door.mjs). By AI agents, Wed Nov 11 2026. No macro, syntax, notation, axiom, sorry.
-/
import Derived.Test.YtccndofafljaaaaGreatDoorRows
import GoSem.ClaimSeven
namespace Go.Proofs.YtccndofafljaaaaGreatDoor
namespace Rows

/-- THE TIED CARD OF 'wayfinderlaw03.RotationGroup'. -/
def rotationGroupCard : Claim7 := { stood := { row := rotationGroupRow, standIns := [], harness := (true, "6a2c32da0c8ab805c6cf6aba67fd45430295c8ae0117739d16ce5326715ff5f3"), looks := false }, kinds := [], alts := [], laidByText := true, laidKinds := [.data, .data, .data], laidTests := true, laidLooks := .later }
def RotationGroupCardSaid : Prop := Claim7.holds Tryz.pinned (.plain (OpenSpec.ofChange rotationGroupSpec)) rotationGroupCard

/-- THE TIED CARD OF 'wayfinderlaw03.RotationCircle'. -/
def rotationCircleCard : Claim7 := { stood := { row := rotationCircleRow, standIns := [], harness := (true, "6a2c32da0c8ab805c6cf6aba67fd45430295c8ae0117739d16ce5326715ff5f3"), looks := false }, kinds := [], alts := [], laidByText := true, laidKinds := [.data, .data, .data], laidTests := true, laidLooks := .later }
def RotationCircleCardSaid : Prop := Claim7.holds Tryz.pinned (.plain (OpenSpec.ofChange rotationCircleSpec)) rotationCircleCard

/-- THE TIED CARD OF 'wayfinderlaw03.RotationActs'. -/
def rotationActsCard : Claim7 := { stood := { row := rotationActsRow, standIns := [], harness := (true, "6a2c32da0c8ab805c6cf6aba67fd45430295c8ae0117739d16ce5326715ff5f3"), looks := false }, kinds := [], alts := [], laidByText := true, laidKinds := [.data, .data, .data], laidTests := true, laidLooks := .later }
def RotationActsCardSaid : Prop := Claim7.holds Tryz.pinned (.plain (OpenSpec.ofChange rotationActsSpec)) rotationActsCard

/-- THE TIED CARD OF 'wayfinderlaw03.RotationRigid'. -/
def rotationRigidCard : Claim7 := { stood := { row := rotationRigidRow, standIns := [], harness := (true, "6a2c32da0c8ab805c6cf6aba67fd45430295c8ae0117739d16ce5326715ff5f3"), looks := false }, kinds := [], alts := [], laidByText := true, laidKinds := [.data, .data, .data], laidTests := true, laidLooks := .later }
def RotationRigidCardSaid : Prop := Claim7.holds Tryz.pinned (.plain (OpenSpec.ofChange rotationRigidSpec)) rotationRigidCard

/-- THE TIED CARD OF 'wayfinderlaw03.RotationMarks'. -/
def rotationMarksCard : Claim7 := { stood := { row := rotationMarksRow, standIns := [], harness := (true, "6a2c32da0c8ab805c6cf6aba67fd45430295c8ae0117739d16ce5326715ff5f3"), looks := false }, kinds := [], alts := [], laidByText := true, laidKinds := [.data, .data, .data], laidTests := true, laidLooks := .later }
def RotationMarksCardSaid : Prop := Claim7.holds Tryz.pinned (.plain (OpenSpec.ofChange rotationMarksSpec)) rotationMarksCard

/-- THE TIED CARD OF 'wayfinderlaw03.RotationOrders'. -/
def rotationOrdersCard : Claim7 := { stood := { row := rotationOrdersRow, standIns := [], harness := (true, "6a2c32da0c8ab805c6cf6aba67fd45430295c8ae0117739d16ce5326715ff5f3"), looks := false }, kinds := [], alts := [], laidByText := true, laidKinds := [.data, .data, .data], laidTests := true, laidLooks := .later }
def RotationOrdersCardSaid : Prop := Claim7.holds Tryz.pinned (.plain (OpenSpec.ofChange rotationOrdersSpec)) rotationOrdersCard

/-- THE TIED CARD OF 'wayfinderlaw03.RotationAdds'. -/
def rotationAddsCard : Claim7 := { stood := { row := rotationAddsRow, standIns := [], harness := (true, "6a2c32da0c8ab805c6cf6aba67fd45430295c8ae0117739d16ce5326715ff5f3"), looks := false }, kinds := [], alts := [], laidByText := true, laidKinds := [.data, .data, .data], laidTests := true, laidLooks := .later }
def RotationAddsCardSaid : Prop := Claim7.holds Tryz.pinned (.plain (OpenSpec.ofChange rotationAddsSpec)) rotationAddsCard

/-- THE SECOND FORM's CARD OF 'wayfinderlaw03.RotationGroup'. -/
def rotationGroupUptoCard : Claim7 := { stood := { row := rotationGroupUptoRow, standIns := [], harness := (true, "6a2c32da0c8ab805c6cf6aba67fd45430295c8ae0117739d16ce5326715ff5f3"), looks := false }, kinds := [], alts := [], laidByText := true, laidKinds := [.data, .data, .data], laidTests := true, laidLooks := .later }
def RotationGroupUptoCardSaid : Prop := Claim7.holds Tryz.pinned (.plain (OpenSpec.upto rotationGroupSpec)) rotationGroupUptoCard

/-- THE SECOND FORM's CARD OF 'wayfinderlaw03.RotationCircle'. -/
def rotationCircleUptoCard : Claim7 := { stood := { row := rotationCircleUptoRow, standIns := [], harness := (true, "6a2c32da0c8ab805c6cf6aba67fd45430295c8ae0117739d16ce5326715ff5f3"), looks := false }, kinds := [], alts := [], laidByText := true, laidKinds := [.data, .data, .data], laidTests := true, laidLooks := .later }
def RotationCircleUptoCardSaid : Prop := Claim7.holds Tryz.pinned (.plain (OpenSpec.upto rotationCircleSpec)) rotationCircleUptoCard

/-- THE SECOND FORM's CARD OF 'wayfinderlaw03.RotationActs'. -/
def rotationActsUptoCard : Claim7 := { stood := { row := rotationActsUptoRow, standIns := [], harness := (true, "6a2c32da0c8ab805c6cf6aba67fd45430295c8ae0117739d16ce5326715ff5f3"), looks := false }, kinds := [], alts := [], laidByText := true, laidKinds := [.data, .data, .data], laidTests := true, laidLooks := .later }
def RotationActsUptoCardSaid : Prop := Claim7.holds Tryz.pinned (.plain (OpenSpec.upto rotationActsSpec)) rotationActsUptoCard

/-- THE SECOND FORM's CARD OF 'wayfinderlaw03.RotationRigid'. -/
def rotationRigidUptoCard : Claim7 := { stood := { row := rotationRigidUptoRow, standIns := [], harness := (true, "6a2c32da0c8ab805c6cf6aba67fd45430295c8ae0117739d16ce5326715ff5f3"), looks := false }, kinds := [], alts := [], laidByText := true, laidKinds := [.data, .data, .data], laidTests := true, laidLooks := .later }
def RotationRigidUptoCardSaid : Prop := Claim7.holds Tryz.pinned (.plain (OpenSpec.upto rotationRigidSpec)) rotationRigidUptoCard

/-- THE SECOND FORM's CARD OF 'wayfinderlaw03.RotationMarks'. -/
def rotationMarksUptoCard : Claim7 := { stood := { row := rotationMarksUptoRow, standIns := [], harness := (true, "6a2c32da0c8ab805c6cf6aba67fd45430295c8ae0117739d16ce5326715ff5f3"), looks := false }, kinds := [], alts := [], laidByText := true, laidKinds := [.data, .data, .data], laidTests := true, laidLooks := .later }
def RotationMarksUptoCardSaid : Prop := Claim7.holds Tryz.pinned (.plain (OpenSpec.upto rotationMarksSpec)) rotationMarksUptoCard

/-- THE SECOND FORM's CARD OF 'wayfinderlaw03.RotationOrders'. -/
def rotationOrdersUptoCard : Claim7 := { stood := { row := rotationOrdersUptoRow, standIns := [], harness := (true, "6a2c32da0c8ab805c6cf6aba67fd45430295c8ae0117739d16ce5326715ff5f3"), looks := false }, kinds := [], alts := [], laidByText := true, laidKinds := [.data, .data, .data], laidTests := true, laidLooks := .later }
def RotationOrdersUptoCardSaid : Prop := Claim7.holds Tryz.pinned (.plain (OpenSpec.upto rotationOrdersSpec)) rotationOrdersUptoCard

/-- THE SECOND FORM's CARD OF 'wayfinderlaw03.RotationAdds'. -/
def rotationAddsUptoCard : Claim7 := { stood := { row := rotationAddsUptoRow, standIns := [], harness := (true, "6a2c32da0c8ab805c6cf6aba67fd45430295c8ae0117739d16ce5326715ff5f3"), looks := false }, kinds := [], alts := [], laidByText := true, laidKinds := [.data, .data, .data], laidTests := true, laidLooks := .later }
def RotationAddsUptoCardSaid : Prop := Claim7.holds Tryz.pinned (.plain (OpenSpec.upto rotationAddsSpec)) rotationAddsUptoCard
end Rows
end Go.Proofs.YtccndofafljaaaaGreatDoor
