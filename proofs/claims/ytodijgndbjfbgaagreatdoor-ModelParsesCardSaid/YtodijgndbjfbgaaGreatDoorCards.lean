/-
  DERIVED. GIVEN WITH THE SEED: THE CARDS: each row of YtodijgndbjfbgaaGreatDoorRows.lean that lists a variable, with what it lists TIED to the program's text (the seventh form; the later family's looks); each row that meets fmt, with fmt's text TOLD by the authors' own Lean function (tested against real Go, not proved from fmt's source: count such statements apart). THE CARD IS WHAT COUNTS. Prove the row's statement (the work); the ties are given (YtodijgndbjfbgaaGreatDoorTie.lean); close each card by the builder's one call (the guide's Derived/Test/ToyasCard.lean, 'card_holds'). Laid BY PROGRAM, IN A SANDBOX (cutbox-door.mjs). By AI agents, Wed Nov 11 2026. No macro, syntax, notation, axiom, sorry.
-/
import Derived.Test.YtodijgndbjfbgaaGreatDoorRows
import GoSem.ClaimSeven
namespace Go.Proofs.YtodijgndbjfbgaaGreatDoor
namespace Rows

/-- THE TIED CARD OF 'sortilegelaw06.ModelParses'. -/
def modelParsesCard : Claim7 := { stood := { row := modelParsesRow, standIns := [], harness := (true, "db104ed5baee3bc108b67400830df0b3ee49f13a6b8eeeb277d5a314933b45bb"), looks := true }, kinds := [], alts := [], laidByText := true, laidKinds := [.data, .data, .data, .handle, .sentinel, .sentinel], laidTests := true, laidLooks := .later }
def ModelParsesCardSaid : Prop := Claim7.holds Tryz.pinned (.plain (OpenSpec.ofChange modelParsesSpec)) modelParsesCard

/-- THE TIED CARD OF 'sortilegelaw06.ModelBack'. -/
def modelBackCard : Claim7 := { stood := { row := modelBackRow, standIns := [], harness := (true, "db104ed5baee3bc108b67400830df0b3ee49f13a6b8eeeb277d5a314933b45bb"), looks := true }, kinds := [], alts := [], laidByText := true, laidKinds := [.data, .data, .data, .handle, .sentinel, .sentinel], laidTests := true, laidLooks := .later }
def ModelBackCardSaid : Prop := Claim7.holds Tryz.pinned (.plain (OpenSpec.ofChange modelBackSpec)) modelBackCard

/-- THE TIED CARD OF 'sortilegelaw06.ModelBlanks'. -/
def modelBlanksCard : Claim7 := { stood := { row := modelBlanksRow, standIns := [], harness := (true, "db104ed5baee3bc108b67400830df0b3ee49f13a6b8eeeb277d5a314933b45bb"), looks := true }, kinds := [], alts := [], laidByText := true, laidKinds := [.data, .data, .data, .handle, .sentinel, .sentinel], laidTests := true, laidLooks := .later }
def ModelBlanksCardSaid : Prop := Claim7.holds Tryz.pinned (.plain (OpenSpec.ofChange modelBlanksSpec)) modelBlanksCard

/-- THE SECOND FORM's CARD OF 'sortilegelaw06.ModelParses'. -/
def modelParsesUptoCard : Claim7 := { stood := { row := modelParsesUptoRow, standIns := [], harness := (true, "db104ed5baee3bc108b67400830df0b3ee49f13a6b8eeeb277d5a314933b45bb"), looks := true }, kinds := [], alts := [], laidByText := true, laidKinds := [.data, .data, .data, .handle, .sentinel, .sentinel], laidTests := true, laidLooks := .later }
def ModelParsesUptoCardSaid : Prop := Claim7.holds Tryz.pinned (.plain (OpenSpec.upto modelParsesSpec)) modelParsesUptoCard

/-- THE SECOND FORM's CARD OF 'sortilegelaw06.ModelBack'. -/
def modelBackUptoCard : Claim7 := { stood := { row := modelBackUptoRow, standIns := [], harness := (true, "db104ed5baee3bc108b67400830df0b3ee49f13a6b8eeeb277d5a314933b45bb"), looks := true }, kinds := [], alts := [], laidByText := true, laidKinds := [.data, .data, .data, .handle, .sentinel, .sentinel], laidTests := true, laidLooks := .later }
def ModelBackUptoCardSaid : Prop := Claim7.holds Tryz.pinned (.plain (OpenSpec.upto modelBackSpec)) modelBackUptoCard

/-- THE SECOND FORM's CARD OF 'sortilegelaw06.ModelBlanks'. -/
def modelBlanksUptoCard : Claim7 := { stood := { row := modelBlanksUptoRow, standIns := [], harness := (true, "db104ed5baee3bc108b67400830df0b3ee49f13a6b8eeeb277d5a314933b45bb"), looks := true }, kinds := [], alts := [], laidByText := true, laidKinds := [.data, .data, .data, .handle, .sentinel, .sentinel], laidTests := true, laidLooks := .later }
def ModelBlanksUptoCardSaid : Prop := Claim7.holds Tryz.pinned (.plain (OpenSpec.upto modelBlanksSpec)) modelBlanksUptoCard
end Rows
end Go.Proofs.YtodijgndbjfbgaaGreatDoor
