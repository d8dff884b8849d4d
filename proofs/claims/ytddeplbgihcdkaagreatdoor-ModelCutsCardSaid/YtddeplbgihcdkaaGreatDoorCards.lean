/-
  DERIVED. GIVEN WITH THE SEED: THE CARDS: each row of YtddeplbgihcdkaaGreatDoorRows.lean that lists a variable, with what it lists TIED to the program's text (the seventh form; the later family's looks); each row that meets fmt, with fmt's text TOLD by the authors' own Lean function (tested against real Go, not proved from fmt's source: count such statements apart). THE CARD IS WHAT COUNTS. Prove the row's statement (the work); the ties are given (YtddeplbgihcdkaaGreatDoorTie.lean); close each card by the builder's one call (the guide's Derived/Test/ToyasCard.lean, 'card_holds'). Laid BY PROGRAM, IN A SANDBOX (cutbox-door.mjs). By AI agents, Wed Nov 11 2026. No macro, syntax, notation, axiom, sorry.
-/
import Derived.Test.YtddeplbgihcdkaaGreatDoorRows
import GoSem.ClaimSeven
namespace Go.Proofs.YtddeplbgihcdkaaGreatDoor
namespace Rows

/-- THE TIED CARD OF 'sortilegelaw07.PropParses'. -/
def propParsesCard : Claim7 := { stood := { row := propParsesRow, standIns := [], harness := (true, "bf412530fa625ad7091a2372ea9c015bc910283c72cfa2cf81a40ab916fdd795"), looks := true }, kinds := [], alts := [], laidByText := true, laidKinds := [.data, .data, .data, .handle, .sentinel, .sentinel], laidTests := true, laidLooks := .later }
def PropParsesCardSaid : Prop := Claim7.holds Tryz.pinned (.plain (OpenSpec.ofChange propParsesSpec)) propParsesCard

/-- THE TIED CARD OF 'sortilegelaw07.PropAsks'. -/
def propAsksCard : Claim7 := { stood := { row := propAsksRow, standIns := [], harness := (true, "bf412530fa625ad7091a2372ea9c015bc910283c72cfa2cf81a40ab916fdd795"), looks := true }, kinds := [], alts := [], laidByText := true, laidKinds := [.data, .data, .data, .handle, .sentinel, .sentinel], laidTests := true, laidLooks := .later }
def PropAsksCardSaid : Prop := Claim7.holds Tryz.pinned (.plain (OpenSpec.ofChange propAsksSpec)) propAsksCard

/-- THE TIED CARD OF 'sortilegelaw07.PropBack'. -/
def propBackCard : Claim7 := { stood := { row := propBackRow, standIns := [], harness := (true, "bf412530fa625ad7091a2372ea9c015bc910283c72cfa2cf81a40ab916fdd795"), looks := true }, kinds := [], alts := [], laidByText := true, laidKinds := [.data, .data, .data, .handle, .sentinel, .sentinel], laidTests := true, laidLooks := .later }
def PropBackCardSaid : Prop := Claim7.holds Tryz.pinned (.plain (OpenSpec.ofChange propBackSpec)) propBackCard

/-- THE TIED CARD OF 'sortilegelaw07.PropParens'. -/
def propParensCard : Claim7 := { stood := { row := propParensRow, standIns := [], harness := (true, "bf412530fa625ad7091a2372ea9c015bc910283c72cfa2cf81a40ab916fdd795"), looks := true }, kinds := [], alts := [], laidByText := true, laidKinds := [.data, .data, .data, .handle, .sentinel, .sentinel], laidTests := true, laidLooks := .later }
def PropParensCardSaid : Prop := Claim7.holds Tryz.pinned (.plain (OpenSpec.ofChange propParensSpec)) propParensCard

/-- THE TIED CARD OF 'sortilegelaw05.ExprSame'. -/
def exprSameCard : Claim7 := { stood := { row := exprSameRow, standIns := [], harness := (true, "bf412530fa625ad7091a2372ea9c015bc910283c72cfa2cf81a40ab916fdd795"), looks := true }, kinds := [], alts := [], laidByText := true, laidKinds := [.data, .data, .data, .handle, .sentinel, .sentinel], laidTests := true, laidLooks := .later }
def ExprSameCardSaid : Prop := Claim7.holds Tryz.pinned (.plain (OpenSpec.ofChange exprSameSpec)) exprSameCard

/-- THE TIED CARD OF 'sortilegelaw05.ExprParses'. -/
def exprParsesCard : Claim7 := { stood := { row := exprParsesRow, standIns := [], harness := (true, "bf412530fa625ad7091a2372ea9c015bc910283c72cfa2cf81a40ab916fdd795"), looks := true }, kinds := [], alts := [], laidByText := true, laidKinds := [.data, .data, .data, .handle, .sentinel, .sentinel], laidTests := true, laidLooks := .later }
def ExprParsesCardSaid : Prop := Claim7.holds Tryz.pinned (.plain (OpenSpec.ofChange exprParsesSpec)) exprParsesCard

/-- THE TIED CARD OF 'sortilegelaw06.ModelCuts'. -/
def modelCutsCard : Claim7 := { stood := { row := modelCutsRow, standIns := [], harness := (true, "bf412530fa625ad7091a2372ea9c015bc910283c72cfa2cf81a40ab916fdd795"), looks := true }, kinds := [], alts := [], laidByText := true, laidKinds := [.data, .data, .data, .handle, .sentinel, .sentinel], laidTests := true, laidLooks := .later }
def ModelCutsCardSaid : Prop := Claim7.holds Tryz.pinned (.plain (OpenSpec.ofChange modelCutsSpec)) modelCutsCard

/-- THE TIED CARD OF 'sortilegelaw06.ModelBlanks'. -/
def modelBlanksCard : Claim7 := { stood := { row := modelBlanksRow, standIns := [], harness := (true, "bf412530fa625ad7091a2372ea9c015bc910283c72cfa2cf81a40ab916fdd795"), looks := true }, kinds := [], alts := [], laidByText := true, laidKinds := [.data, .data, .data, .handle, .sentinel, .sentinel], laidTests := true, laidLooks := .later }
def ModelBlanksCardSaid : Prop := Claim7.holds Tryz.pinned (.plain (OpenSpec.ofChange modelBlanksSpec)) modelBlanksCard

/-- THE TIED CARD OF 'sortilegelaw06.ModelBack'. -/
def modelBackCard : Claim7 := { stood := { row := modelBackRow, standIns := [], harness := (true, "bf412530fa625ad7091a2372ea9c015bc910283c72cfa2cf81a40ab916fdd795"), looks := true }, kinds := [], alts := [], laidByText := true, laidKinds := [.data, .data, .data, .handle, .sentinel, .sentinel], laidTests := true, laidLooks := .later }
def ModelBackCardSaid : Prop := Claim7.holds Tryz.pinned (.plain (OpenSpec.ofChange modelBackSpec)) modelBackCard

/-- THE TIED CARD OF 'sortilegelaw06.ModelParses'. -/
def modelParsesCard : Claim7 := { stood := { row := modelParsesRow, standIns := [], harness := (true, "bf412530fa625ad7091a2372ea9c015bc910283c72cfa2cf81a40ab916fdd795"), looks := true }, kinds := [], alts := [], laidByText := true, laidKinds := [.data, .data, .data, .handle, .sentinel, .sentinel], laidTests := true, laidLooks := .later }
def ModelParsesCardSaid : Prop := Claim7.holds Tryz.pinned (.plain (OpenSpec.ofChange modelParsesSpec)) modelParsesCard

/-- THE SECOND FORM's CARD OF 'sortilegelaw07.PropParses'. -/
def propParsesUptoCard : Claim7 := { stood := { row := propParsesUptoRow, standIns := [], harness := (true, "bf412530fa625ad7091a2372ea9c015bc910283c72cfa2cf81a40ab916fdd795"), looks := true }, kinds := [], alts := [], laidByText := true, laidKinds := [.data, .data, .data, .handle, .sentinel, .sentinel], laidTests := true, laidLooks := .later }
def PropParsesUptoCardSaid : Prop := Claim7.holds Tryz.pinned (.plain (OpenSpec.upto propParsesSpec)) propParsesUptoCard

/-- THE SECOND FORM's CARD OF 'sortilegelaw07.PropAsks'. -/
def propAsksUptoCard : Claim7 := { stood := { row := propAsksUptoRow, standIns := [], harness := (true, "bf412530fa625ad7091a2372ea9c015bc910283c72cfa2cf81a40ab916fdd795"), looks := true }, kinds := [], alts := [], laidByText := true, laidKinds := [.data, .data, .data, .handle, .sentinel, .sentinel], laidTests := true, laidLooks := .later }
def PropAsksUptoCardSaid : Prop := Claim7.holds Tryz.pinned (.plain (OpenSpec.upto propAsksSpec)) propAsksUptoCard

/-- THE SECOND FORM's CARD OF 'sortilegelaw07.PropBack'. -/
def propBackUptoCard : Claim7 := { stood := { row := propBackUptoRow, standIns := [], harness := (true, "bf412530fa625ad7091a2372ea9c015bc910283c72cfa2cf81a40ab916fdd795"), looks := true }, kinds := [], alts := [], laidByText := true, laidKinds := [.data, .data, .data, .handle, .sentinel, .sentinel], laidTests := true, laidLooks := .later }
def PropBackUptoCardSaid : Prop := Claim7.holds Tryz.pinned (.plain (OpenSpec.upto propBackSpec)) propBackUptoCard

/-- THE SECOND FORM's CARD OF 'sortilegelaw07.PropParens'. -/
def propParensUptoCard : Claim7 := { stood := { row := propParensUptoRow, standIns := [], harness := (true, "bf412530fa625ad7091a2372ea9c015bc910283c72cfa2cf81a40ab916fdd795"), looks := true }, kinds := [], alts := [], laidByText := true, laidKinds := [.data, .data, .data, .handle, .sentinel, .sentinel], laidTests := true, laidLooks := .later }
def PropParensUptoCardSaid : Prop := Claim7.holds Tryz.pinned (.plain (OpenSpec.upto propParensSpec)) propParensUptoCard

/-- THE SECOND FORM's CARD OF 'sortilegelaw05.ExprSame'. -/
def exprSameUptoCard : Claim7 := { stood := { row := exprSameUptoRow, standIns := [], harness := (true, "bf412530fa625ad7091a2372ea9c015bc910283c72cfa2cf81a40ab916fdd795"), looks := true }, kinds := [], alts := [], laidByText := true, laidKinds := [.data, .data, .data, .handle, .sentinel, .sentinel], laidTests := true, laidLooks := .later }
def ExprSameUptoCardSaid : Prop := Claim7.holds Tryz.pinned (.plain (OpenSpec.upto exprSameSpec)) exprSameUptoCard

/-- THE SECOND FORM's CARD OF 'sortilegelaw05.ExprParses'. -/
def exprParsesUptoCard : Claim7 := { stood := { row := exprParsesUptoRow, standIns := [], harness := (true, "bf412530fa625ad7091a2372ea9c015bc910283c72cfa2cf81a40ab916fdd795"), looks := true }, kinds := [], alts := [], laidByText := true, laidKinds := [.data, .data, .data, .handle, .sentinel, .sentinel], laidTests := true, laidLooks := .later }
def ExprParsesUptoCardSaid : Prop := Claim7.holds Tryz.pinned (.plain (OpenSpec.upto exprParsesSpec)) exprParsesUptoCard

/-- THE SECOND FORM's CARD OF 'sortilegelaw06.ModelCuts'. -/
def modelCutsUptoCard : Claim7 := { stood := { row := modelCutsUptoRow, standIns := [], harness := (true, "bf412530fa625ad7091a2372ea9c015bc910283c72cfa2cf81a40ab916fdd795"), looks := true }, kinds := [], alts := [], laidByText := true, laidKinds := [.data, .data, .data, .handle, .sentinel, .sentinel], laidTests := true, laidLooks := .later }
def ModelCutsUptoCardSaid : Prop := Claim7.holds Tryz.pinned (.plain (OpenSpec.upto modelCutsSpec)) modelCutsUptoCard

/-- THE SECOND FORM's CARD OF 'sortilegelaw06.ModelBlanks'. -/
def modelBlanksUptoCard : Claim7 := { stood := { row := modelBlanksUptoRow, standIns := [], harness := (true, "bf412530fa625ad7091a2372ea9c015bc910283c72cfa2cf81a40ab916fdd795"), looks := true }, kinds := [], alts := [], laidByText := true, laidKinds := [.data, .data, .data, .handle, .sentinel, .sentinel], laidTests := true, laidLooks := .later }
def ModelBlanksUptoCardSaid : Prop := Claim7.holds Tryz.pinned (.plain (OpenSpec.upto modelBlanksSpec)) modelBlanksUptoCard

/-- THE SECOND FORM's CARD OF 'sortilegelaw06.ModelBack'. -/
def modelBackUptoCard : Claim7 := { stood := { row := modelBackUptoRow, standIns := [], harness := (true, "bf412530fa625ad7091a2372ea9c015bc910283c72cfa2cf81a40ab916fdd795"), looks := true }, kinds := [], alts := [], laidByText := true, laidKinds := [.data, .data, .data, .handle, .sentinel, .sentinel], laidTests := true, laidLooks := .later }
def ModelBackUptoCardSaid : Prop := Claim7.holds Tryz.pinned (.plain (OpenSpec.upto modelBackSpec)) modelBackUptoCard

/-- THE SECOND FORM's CARD OF 'sortilegelaw06.ModelParses'. -/
def modelParsesUptoCard : Claim7 := { stood := { row := modelParsesUptoRow, standIns := [], harness := (true, "bf412530fa625ad7091a2372ea9c015bc910283c72cfa2cf81a40ab916fdd795"), looks := true }, kinds := [], alts := [], laidByText := true, laidKinds := [.data, .data, .data, .handle, .sentinel, .sentinel], laidTests := true, laidLooks := .later }
def ModelParsesUptoCardSaid : Prop := Claim7.holds Tryz.pinned (.plain (OpenSpec.upto modelParsesSpec)) modelParsesUptoCard
end Rows
end Go.Proofs.YtddeplbgihcdkaaGreatDoor
