/-
  DERIVED. GIVEN WITH THE SEED: THE CARDS: each row of YtgplpomekplfbaaGreatDoorRows.lean that lists a variable, with what it lists TIED to the program's text (the seventh form; the later family's looks); each row that meets fmt, with fmt's text TOLD by the authors' own Lean function (tested against real Go, not proved from fmt's source: count such statements apart). THE CARD IS WHAT COUNTS. Prove the row's statement (the work); the ties are given (YtgplpomekplfbaaGreatDoorTie.lean); close each card by the builder's one call (the guide's Derived/Test/ToyasCard.lean, 'card_holds'). Laid BY PROGRAM, IN A SANDBOX (cutbox-door.mjs). By AI agents, Wed Nov 11 2026. No macro, syntax, notation, axiom, sorry.
-/
import Derived.Test.YtgplpomekplfbaaGreatDoorRows
import GoSem.ClaimSeven
namespace Go.Proofs.YtgplpomekplfbaaGreatDoor
namespace Rows

/-- THE TIED CARD OF 'sortilegelaw06.ModelBack'. -/
def modelBackCard : Claim7 := { stood := { row := modelBackRow, standIns := [], harness := (true, "bf3845971e1fcd77cb88e9afd4a2eadd1f3811054ed23e287a276b05203dc15d"), looks := true }, kinds := [], alts := [], laidByText := true, laidKinds := [.data, .data, .data, .handle, .sentinel, .sentinel], laidTests := true, laidLooks := .later }
def ModelBackCardSaid : Prop := Claim7.holds Tryz.pinned (.plain (OpenSpec.ofChange modelBackSpec)) modelBackCard

/-- THE TIED CARD OF 'sortilegelaw06.ModelBlanks'. -/
def modelBlanksCard : Claim7 := { stood := { row := modelBlanksRow, standIns := [], harness := (true, "bf3845971e1fcd77cb88e9afd4a2eadd1f3811054ed23e287a276b05203dc15d"), looks := true }, kinds := [], alts := [], laidByText := true, laidKinds := [.data, .data, .data, .handle, .sentinel, .sentinel], laidTests := true, laidLooks := .later }
def ModelBlanksCardSaid : Prop := Claim7.holds Tryz.pinned (.plain (OpenSpec.ofChange modelBlanksSpec)) modelBlanksCard

/-- THE TIED CARD OF 'sortilegelaw07.PropBack'. -/
def propBackCard : Claim7 := { stood := { row := propBackRow, standIns := [], harness := (true, "bf3845971e1fcd77cb88e9afd4a2eadd1f3811054ed23e287a276b05203dc15d"), looks := true }, kinds := [], alts := [], laidByText := true, laidKinds := [.data, .data, .data, .handle, .sentinel, .sentinel], laidTests := true, laidLooks := .later }
def PropBackCardSaid : Prop := Claim7.holds Tryz.pinned (.plain (OpenSpec.ofChange propBackSpec)) propBackCard

/-- THE TIED CARD OF 'sortilegelaw07.PropParens'. -/
def propParensCard : Claim7 := { stood := { row := propParensRow, standIns := [], harness := (true, "bf3845971e1fcd77cb88e9afd4a2eadd1f3811054ed23e287a276b05203dc15d"), looks := true }, kinds := [], alts := [], laidByText := true, laidKinds := [.data, .data, .data, .handle, .sentinel, .sentinel], laidTests := true, laidLooks := .later }
def PropParensCardSaid : Prop := Claim7.holds Tryz.pinned (.plain (OpenSpec.ofChange propParensSpec)) propParensCard

/-- THE SECOND FORM's CARD OF 'sortilegelaw06.ModelBack'. -/
def modelBackUptoCard : Claim7 := { stood := { row := modelBackUptoRow, standIns := [], harness := (true, "bf3845971e1fcd77cb88e9afd4a2eadd1f3811054ed23e287a276b05203dc15d"), looks := true }, kinds := [], alts := [], laidByText := true, laidKinds := [.data, .data, .data, .handle, .sentinel, .sentinel], laidTests := true, laidLooks := .later }
def ModelBackUptoCardSaid : Prop := Claim7.holds Tryz.pinned (.plain (OpenSpec.upto modelBackSpec)) modelBackUptoCard

/-- THE SECOND FORM's CARD OF 'sortilegelaw06.ModelBlanks'. -/
def modelBlanksUptoCard : Claim7 := { stood := { row := modelBlanksUptoRow, standIns := [], harness := (true, "bf3845971e1fcd77cb88e9afd4a2eadd1f3811054ed23e287a276b05203dc15d"), looks := true }, kinds := [], alts := [], laidByText := true, laidKinds := [.data, .data, .data, .handle, .sentinel, .sentinel], laidTests := true, laidLooks := .later }
def ModelBlanksUptoCardSaid : Prop := Claim7.holds Tryz.pinned (.plain (OpenSpec.upto modelBlanksSpec)) modelBlanksUptoCard

/-- THE SECOND FORM's CARD OF 'sortilegelaw07.PropBack'. -/
def propBackUptoCard : Claim7 := { stood := { row := propBackUptoRow, standIns := [], harness := (true, "bf3845971e1fcd77cb88e9afd4a2eadd1f3811054ed23e287a276b05203dc15d"), looks := true }, kinds := [], alts := [], laidByText := true, laidKinds := [.data, .data, .data, .handle, .sentinel, .sentinel], laidTests := true, laidLooks := .later }
def PropBackUptoCardSaid : Prop := Claim7.holds Tryz.pinned (.plain (OpenSpec.upto propBackSpec)) propBackUptoCard

/-- THE SECOND FORM's CARD OF 'sortilegelaw07.PropParens'. -/
def propParensUptoCard : Claim7 := { stood := { row := propParensUptoRow, standIns := [], harness := (true, "bf3845971e1fcd77cb88e9afd4a2eadd1f3811054ed23e287a276b05203dc15d"), looks := true }, kinds := [], alts := [], laidByText := true, laidKinds := [.data, .data, .data, .handle, .sentinel, .sentinel], laidTests := true, laidLooks := .later }
def PropParensUptoCardSaid : Prop := Claim7.holds Tryz.pinned (.plain (OpenSpec.upto propParensSpec)) propParensUptoCard
end Rows
end Go.Proofs.YtgplpomekplfbaaGreatDoor
