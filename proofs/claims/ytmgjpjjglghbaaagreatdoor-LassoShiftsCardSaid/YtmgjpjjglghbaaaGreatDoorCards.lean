/-
  DERIVED. GIVEN WITH THE SEED: THE CARDS: each row of YtmgjpjjglghbaaaGreatDoorRows.lean that lists a variable, with what it lists TIED to the program's text (the seventh form; the later family's looks); each row that meets fmt, with fmt's text TOLD by the authors' own Lean function (tested against real Go, not proved from fmt's source: count such statements apart). THE CARD IS WHAT COUNTS. Prove the row's statement (the work); the ties are given (YtmgjpjjglghbaaaGreatDoorTie.lean); close each card by the builder's one call (the guide's Derived/Test/ToyasCard.lean, 'card_holds'). Laid BY PROGRAM, IN A SANDBOX (cutbox-door.mjs). By AI agents, Wed Nov 11 2026. No macro, syntax, notation, axiom, sorry.
-/
import Derived.Test.YtmgjpjjglghbaaaGreatDoorRows
import GoSem.ClaimSeven
namespace Go.Proofs.YtmgjpjjglghbaaaGreatDoor
namespace Rows

/-- THE TIED CARD OF 'sortilegelaw14.LassoHolds'. -/
def lassoHoldsCard : Claim7 := { stood := { row := lassoHoldsRow, standIns := [], harness := (true, "7675a7f6fdd696d67549ed8fe54f697681ebf786b5c97bf70d4f4cb88397d6a8"), looks := true }, kinds := [], alts := [], laidByText := true, laidKinds := [.data, .data, .data, .handle, .sentinel, .sentinel], laidTests := true, laidLooks := .later }
def LassoHoldsCardSaid : Prop := Claim7.holds Tryz.pinned (.plain (OpenSpec.ofChange lassoHoldsSpec)) lassoHoldsCard

/-- THE TIED CARD OF 'sortilegelaw14.LassoShifts'. -/
def lassoShiftsCard : Claim7 := { stood := { row := lassoShiftsRow, standIns := [], harness := (true, "7675a7f6fdd696d67549ed8fe54f697681ebf786b5c97bf70d4f4cb88397d6a8"), looks := true }, kinds := [], alts := [], laidByText := true, laidKinds := [.data, .data, .data, .handle, .sentinel, .sentinel], laidTests := true, laidLooks := .later }
def LassoShiftsCardSaid : Prop := Claim7.holds Tryz.pinned (.plain (OpenSpec.ofChange lassoShiftsSpec)) lassoShiftsCard

/-- THE TIED CARD OF 'sortilegelaw14.LassoTurns'. -/
def lassoTurnsCard : Claim7 := { stood := { row := lassoTurnsRow, standIns := [], harness := (true, "7675a7f6fdd696d67549ed8fe54f697681ebf786b5c97bf70d4f4cb88397d6a8"), looks := true }, kinds := [], alts := [], laidByText := true, laidKinds := [.data, .data, .data, .handle, .sentinel, .sentinel], laidTests := true, laidLooks := .later }
def LassoTurnsCardSaid : Prop := Claim7.holds Tryz.pinned (.plain (OpenSpec.ofChange lassoTurnsSpec)) lassoTurnsCard

/-- THE TIED CARD OF 'sortilegelaw14.LassoSteps'. -/
def lassoStepsCard : Claim7 := { stood := { row := lassoStepsRow, standIns := [], harness := (true, "7675a7f6fdd696d67549ed8fe54f697681ebf786b5c97bf70d4f4cb88397d6a8"), looks := true }, kinds := [], alts := [], laidByText := true, laidKinds := [.data, .data, .data, .handle, .sentinel, .sentinel], laidTests := true, laidLooks := .later }
def LassoStepsCardSaid : Prop := Claim7.holds Tryz.pinned (.plain (OpenSpec.ofChange lassoStepsSpec)) lassoStepsCard

/-- THE TIED CARD OF 'sortilegelaw15.NnfTells'. -/
def nnfTellsCard : Claim7 := { stood := { row := nnfTellsRow, standIns := [], harness := (true, "7675a7f6fdd696d67549ed8fe54f697681ebf786b5c97bf70d4f4cb88397d6a8"), looks := true }, kinds := [], alts := [], laidByText := true, laidKinds := [.data, .data, .data, .handle, .sentinel, .sentinel], laidTests := true, laidLooks := .later }
def NnfTellsCardSaid : Prop := Claim7.holds Tryz.pinned (.plain (OpenSpec.ofChange nnfTellsSpec)) nnfTellsCard

/-- THE TIED CARD OF 'sortilegelaw15.NnfWorth'. -/
def nnfWorthCard : Claim7 := { stood := { row := nnfWorthRow, standIns := [], harness := (true, "7675a7f6fdd696d67549ed8fe54f697681ebf786b5c97bf70d4f4cb88397d6a8"), looks := true }, kinds := [], alts := [], laidByText := true, laidKinds := [.data, .data, .data, .handle, .sentinel, .sentinel], laidTests := true, laidLooks := .later }
def NnfWorthCardSaid : Prop := Claim7.holds Tryz.pinned (.plain (OpenSpec.ofChange nnfWorthSpec)) nnfWorthCard

/-- THE TIED CARD OF 'sortilegelaw15.NnfOdd'. -/
def nnfOddCard : Claim7 := { stood := { row := nnfOddRow, standIns := [], harness := (true, "7675a7f6fdd696d67549ed8fe54f697681ebf786b5c97bf70d4f4cb88397d6a8"), looks := true }, kinds := [], alts := [], laidByText := true, laidKinds := [.data, .data, .data, .handle, .sentinel, .sentinel], laidTests := true, laidLooks := .later }
def NnfOddCardSaid : Prop := Claim7.holds Tryz.pinned (.plain (OpenSpec.ofChange nnfOddSpec)) nnfOddCard

/-- THE TIED CARD OF 'sortilegelaw15.NnfTwice'. -/
def nnfTwiceCard : Claim7 := { stood := { row := nnfTwiceRow, standIns := [], harness := (true, "7675a7f6fdd696d67549ed8fe54f697681ebf786b5c97bf70d4f4cb88397d6a8"), looks := true }, kinds := [], alts := [], laidByText := true, laidKinds := [.data, .data, .data, .handle, .sentinel, .sentinel], laidTests := true, laidLooks := .later }
def NnfTwiceCardSaid : Prop := Claim7.holds Tryz.pinned (.plain (OpenSpec.ofChange nnfTwiceSpec)) nnfTwiceCard

/-- THE SECOND FORM's CARD OF 'sortilegelaw14.LassoHolds'. -/
def lassoHoldsUptoCard : Claim7 := { stood := { row := lassoHoldsUptoRow, standIns := [], harness := (true, "7675a7f6fdd696d67549ed8fe54f697681ebf786b5c97bf70d4f4cb88397d6a8"), looks := true }, kinds := [], alts := [], laidByText := true, laidKinds := [.data, .data, .data, .handle, .sentinel, .sentinel], laidTests := true, laidLooks := .later }
def LassoHoldsUptoCardSaid : Prop := Claim7.holds Tryz.pinned (.plain (OpenSpec.upto lassoHoldsSpec)) lassoHoldsUptoCard

/-- THE SECOND FORM's CARD OF 'sortilegelaw14.LassoShifts'. -/
def lassoShiftsUptoCard : Claim7 := { stood := { row := lassoShiftsUptoRow, standIns := [], harness := (true, "7675a7f6fdd696d67549ed8fe54f697681ebf786b5c97bf70d4f4cb88397d6a8"), looks := true }, kinds := [], alts := [], laidByText := true, laidKinds := [.data, .data, .data, .handle, .sentinel, .sentinel], laidTests := true, laidLooks := .later }
def LassoShiftsUptoCardSaid : Prop := Claim7.holds Tryz.pinned (.plain (OpenSpec.upto lassoShiftsSpec)) lassoShiftsUptoCard

/-- THE SECOND FORM's CARD OF 'sortilegelaw14.LassoTurns'. -/
def lassoTurnsUptoCard : Claim7 := { stood := { row := lassoTurnsUptoRow, standIns := [], harness := (true, "7675a7f6fdd696d67549ed8fe54f697681ebf786b5c97bf70d4f4cb88397d6a8"), looks := true }, kinds := [], alts := [], laidByText := true, laidKinds := [.data, .data, .data, .handle, .sentinel, .sentinel], laidTests := true, laidLooks := .later }
def LassoTurnsUptoCardSaid : Prop := Claim7.holds Tryz.pinned (.plain (OpenSpec.upto lassoTurnsSpec)) lassoTurnsUptoCard

/-- THE SECOND FORM's CARD OF 'sortilegelaw14.LassoSteps'. -/
def lassoStepsUptoCard : Claim7 := { stood := { row := lassoStepsUptoRow, standIns := [], harness := (true, "7675a7f6fdd696d67549ed8fe54f697681ebf786b5c97bf70d4f4cb88397d6a8"), looks := true }, kinds := [], alts := [], laidByText := true, laidKinds := [.data, .data, .data, .handle, .sentinel, .sentinel], laidTests := true, laidLooks := .later }
def LassoStepsUptoCardSaid : Prop := Claim7.holds Tryz.pinned (.plain (OpenSpec.upto lassoStepsSpec)) lassoStepsUptoCard

/-- THE SECOND FORM's CARD OF 'sortilegelaw15.NnfTells'. -/
def nnfTellsUptoCard : Claim7 := { stood := { row := nnfTellsUptoRow, standIns := [], harness := (true, "7675a7f6fdd696d67549ed8fe54f697681ebf786b5c97bf70d4f4cb88397d6a8"), looks := true }, kinds := [], alts := [], laidByText := true, laidKinds := [.data, .data, .data, .handle, .sentinel, .sentinel], laidTests := true, laidLooks := .later }
def NnfTellsUptoCardSaid : Prop := Claim7.holds Tryz.pinned (.plain (OpenSpec.upto nnfTellsSpec)) nnfTellsUptoCard

/-- THE SECOND FORM's CARD OF 'sortilegelaw15.NnfWorth'. -/
def nnfWorthUptoCard : Claim7 := { stood := { row := nnfWorthUptoRow, standIns := [], harness := (true, "7675a7f6fdd696d67549ed8fe54f697681ebf786b5c97bf70d4f4cb88397d6a8"), looks := true }, kinds := [], alts := [], laidByText := true, laidKinds := [.data, .data, .data, .handle, .sentinel, .sentinel], laidTests := true, laidLooks := .later }
def NnfWorthUptoCardSaid : Prop := Claim7.holds Tryz.pinned (.plain (OpenSpec.upto nnfWorthSpec)) nnfWorthUptoCard

/-- THE SECOND FORM's CARD OF 'sortilegelaw15.NnfOdd'. -/
def nnfOddUptoCard : Claim7 := { stood := { row := nnfOddUptoRow, standIns := [], harness := (true, "7675a7f6fdd696d67549ed8fe54f697681ebf786b5c97bf70d4f4cb88397d6a8"), looks := true }, kinds := [], alts := [], laidByText := true, laidKinds := [.data, .data, .data, .handle, .sentinel, .sentinel], laidTests := true, laidLooks := .later }
def NnfOddUptoCardSaid : Prop := Claim7.holds Tryz.pinned (.plain (OpenSpec.upto nnfOddSpec)) nnfOddUptoCard

/-- THE SECOND FORM's CARD OF 'sortilegelaw15.NnfTwice'. -/
def nnfTwiceUptoCard : Claim7 := { stood := { row := nnfTwiceUptoRow, standIns := [], harness := (true, "7675a7f6fdd696d67549ed8fe54f697681ebf786b5c97bf70d4f4cb88397d6a8"), looks := true }, kinds := [], alts := [], laidByText := true, laidKinds := [.data, .data, .data, .handle, .sentinel, .sentinel], laidTests := true, laidLooks := .later }
def NnfTwiceUptoCardSaid : Prop := Claim7.holds Tryz.pinned (.plain (OpenSpec.upto nnfTwiceSpec)) nnfTwiceUptoCard
end Rows
end Go.Proofs.YtmgjpjjglghbaaaGreatDoor
