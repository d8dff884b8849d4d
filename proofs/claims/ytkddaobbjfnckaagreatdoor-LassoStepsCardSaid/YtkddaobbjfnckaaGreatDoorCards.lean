/-
  DERIVED. GIVEN WITH THE SEED: THE CARDS: each row of YtkddaobbjfnckaaGreatDoorRows.lean that lists a variable, with what it lists TIED to the program's text (the seventh form; the later family's looks); each row that meets fmt, with fmt's text TOLD by the authors' own Lean function (tested against real Go, not proved from fmt's source: count such statements apart). THE CARD IS WHAT COUNTS. Prove the row's statement (the work); the ties are given (YtkddaobbjfnckaaGreatDoorTie.lean); close each card by the builder's one call (the guide's Derived/Test/ToyasCard.lean, 'card_holds'). Laid BY PROGRAM, IN A SANDBOX (cutbox-door.mjs). By AI agents, Wed Nov 11 2026. No macro, syntax, notation, axiom, sorry.
-/
import Derived.Test.YtkddaobbjfnckaaGreatDoorRows
import GoSem.ClaimSeven
namespace Go.Proofs.YtkddaobbjfnckaaGreatDoor
namespace Rows

/-- THE TIED CARD OF 'sortilegelaw14.LassoHolds'. -/
def lassoHoldsCard : Claim7 := { stood := { row := lassoHoldsRow, standIns := [], harness := (true, "decec7de31495eb9f358c0b51dee6ef9584cac352c846cd394736ec98563e92a"), looks := true }, kinds := [], alts := [], laidByText := true, laidKinds := [.data, .data, .data, .handle, .sentinel, .sentinel], laidTests := true, laidLooks := .later }
def LassoHoldsCardSaid : Prop := Claim7.holds Tryz.pinned (.plain (OpenSpec.ofChange lassoHoldsSpec)) lassoHoldsCard

/-- THE TIED CARD OF 'sortilegelaw14.LassoShifts'. -/
def lassoShiftsCard : Claim7 := { stood := { row := lassoShiftsRow, standIns := [], harness := (true, "decec7de31495eb9f358c0b51dee6ef9584cac352c846cd394736ec98563e92a"), looks := true }, kinds := [], alts := [], laidByText := true, laidKinds := [.data, .data, .data, .handle, .sentinel, .sentinel], laidTests := true, laidLooks := .later }
def LassoShiftsCardSaid : Prop := Claim7.holds Tryz.pinned (.plain (OpenSpec.ofChange lassoShiftsSpec)) lassoShiftsCard

/-- THE TIED CARD OF 'sortilegelaw14.LassoLetters'. -/
def lassoLettersCard : Claim7 := { stood := { row := lassoLettersRow, standIns := [], harness := (true, "decec7de31495eb9f358c0b51dee6ef9584cac352c846cd394736ec98563e92a"), looks := true }, kinds := [], alts := [], laidByText := true, laidKinds := [.data, .data, .data, .handle, .sentinel, .sentinel], laidTests := true, laidLooks := .later }
def LassoLettersCardSaid : Prop := Claim7.holds Tryz.pinned (.plain (OpenSpec.ofChange lassoLettersSpec)) lassoLettersCard

/-- THE TIED CARD OF 'sortilegelaw14.LassoTurns'. -/
def lassoTurnsCard : Claim7 := { stood := { row := lassoTurnsRow, standIns := [], harness := (true, "decec7de31495eb9f358c0b51dee6ef9584cac352c846cd394736ec98563e92a"), looks := true }, kinds := [], alts := [], laidByText := true, laidKinds := [.data, .data, .data, .handle, .sentinel, .sentinel], laidTests := true, laidLooks := .later }
def LassoTurnsCardSaid : Prop := Claim7.holds Tryz.pinned (.plain (OpenSpec.ofChange lassoTurnsSpec)) lassoTurnsCard

/-- THE TIED CARD OF 'sortilegelaw14.LassoSteps'. -/
def lassoStepsCard : Claim7 := { stood := { row := lassoStepsRow, standIns := [], harness := (true, "decec7de31495eb9f358c0b51dee6ef9584cac352c846cd394736ec98563e92a"), looks := true }, kinds := [], alts := [], laidByText := true, laidKinds := [.data, .data, .data, .handle, .sentinel, .sentinel], laidTests := true, laidLooks := .later }
def LassoStepsCardSaid : Prop := Claim7.holds Tryz.pinned (.plain (OpenSpec.ofChange lassoStepsSpec)) lassoStepsCard

/-- THE SECOND FORM's CARD OF 'sortilegelaw14.LassoHolds'. -/
def lassoHoldsUptoCard : Claim7 := { stood := { row := lassoHoldsUptoRow, standIns := [], harness := (true, "decec7de31495eb9f358c0b51dee6ef9584cac352c846cd394736ec98563e92a"), looks := true }, kinds := [], alts := [], laidByText := true, laidKinds := [.data, .data, .data, .handle, .sentinel, .sentinel], laidTests := true, laidLooks := .later }
def LassoHoldsUptoCardSaid : Prop := Claim7.holds Tryz.pinned (.plain (OpenSpec.upto lassoHoldsSpec)) lassoHoldsUptoCard

/-- THE SECOND FORM's CARD OF 'sortilegelaw14.LassoShifts'. -/
def lassoShiftsUptoCard : Claim7 := { stood := { row := lassoShiftsUptoRow, standIns := [], harness := (true, "decec7de31495eb9f358c0b51dee6ef9584cac352c846cd394736ec98563e92a"), looks := true }, kinds := [], alts := [], laidByText := true, laidKinds := [.data, .data, .data, .handle, .sentinel, .sentinel], laidTests := true, laidLooks := .later }
def LassoShiftsUptoCardSaid : Prop := Claim7.holds Tryz.pinned (.plain (OpenSpec.upto lassoShiftsSpec)) lassoShiftsUptoCard

/-- THE SECOND FORM's CARD OF 'sortilegelaw14.LassoLetters'. -/
def lassoLettersUptoCard : Claim7 := { stood := { row := lassoLettersUptoRow, standIns := [], harness := (true, "decec7de31495eb9f358c0b51dee6ef9584cac352c846cd394736ec98563e92a"), looks := true }, kinds := [], alts := [], laidByText := true, laidKinds := [.data, .data, .data, .handle, .sentinel, .sentinel], laidTests := true, laidLooks := .later }
def LassoLettersUptoCardSaid : Prop := Claim7.holds Tryz.pinned (.plain (OpenSpec.upto lassoLettersSpec)) lassoLettersUptoCard

/-- THE SECOND FORM's CARD OF 'sortilegelaw14.LassoTurns'. -/
def lassoTurnsUptoCard : Claim7 := { stood := { row := lassoTurnsUptoRow, standIns := [], harness := (true, "decec7de31495eb9f358c0b51dee6ef9584cac352c846cd394736ec98563e92a"), looks := true }, kinds := [], alts := [], laidByText := true, laidKinds := [.data, .data, .data, .handle, .sentinel, .sentinel], laidTests := true, laidLooks := .later }
def LassoTurnsUptoCardSaid : Prop := Claim7.holds Tryz.pinned (.plain (OpenSpec.upto lassoTurnsSpec)) lassoTurnsUptoCard

/-- THE SECOND FORM's CARD OF 'sortilegelaw14.LassoSteps'. -/
def lassoStepsUptoCard : Claim7 := { stood := { row := lassoStepsUptoRow, standIns := [], harness := (true, "decec7de31495eb9f358c0b51dee6ef9584cac352c846cd394736ec98563e92a"), looks := true }, kinds := [], alts := [], laidByText := true, laidKinds := [.data, .data, .data, .handle, .sentinel, .sentinel], laidTests := true, laidLooks := .later }
def LassoStepsUptoCardSaid : Prop := Claim7.holds Tryz.pinned (.plain (OpenSpec.upto lassoStepsSpec)) lassoStepsUptoCard
end Rows
end Go.Proofs.YtkddaobbjfnckaaGreatDoor
