/-
  DERIVED. GIVEN WITH THE SEED: THE CARDS: each row of YtjhicgllofjpoaaGreatDoorRows.lean that lists a variable, with what it lists TIED to the program's text (the seventh form; the later family's looks); each row that meets fmt, with fmt's text TOLD by the authors' own Lean function (tested against real Go, not proved from fmt's source: count such statements apart). THE CARD IS WHAT COUNTS. Prove the row's statement (the work); the ties are given (YtjhicgllofjpoaaGreatDoorTie.lean); close each card by the builder's one call (the guide's Derived/Test/ToyasCard.lean, 'card_holds'). Laid BY PROGRAM, IN A SANDBOX (cutbox-door.mjs). By AI agents, Wed Nov 11 2026. No macro, syntax, notation, axiom, sorry.
-/
import Derived.Test.YtjhicgllofjpoaaGreatDoorRows
import GoSem.ClaimSeven
namespace Go.Proofs.YtjhicgllofjpoaaGreatDoor
namespace Rows

/-- THE TIED CARD OF 'sortilegelaw07.PropParses'. -/
def propParsesCard : Claim7 := { stood := { row := propParsesRow, standIns := [], harness := (true, "4b3ee174b64e0acfa7d6e4dc0b6c3a2aec4f74dee1d33e6eb36ca2508ddfbe2a"), looks := true }, kinds := [], alts := [], laidByText := true, laidKinds := [.data, .data, .data, .handle, .sentinel, .sentinel], laidTests := true, laidLooks := .later }
def PropParsesCardSaid : Prop := Claim7.holds Tryz.pinned (.plain (OpenSpec.ofChange propParsesSpec)) propParsesCard

/-- THE TIED CARD OF 'sortilegelaw07.PropAsks'. -/
def propAsksCard : Claim7 := { stood := { row := propAsksRow, standIns := [], harness := (true, "4b3ee174b64e0acfa7d6e4dc0b6c3a2aec4f74dee1d33e6eb36ca2508ddfbe2a"), looks := true }, kinds := [], alts := [], laidByText := true, laidKinds := [.data, .data, .data, .handle, .sentinel, .sentinel], laidTests := true, laidLooks := .later }
def PropAsksCardSaid : Prop := Claim7.holds Tryz.pinned (.plain (OpenSpec.ofChange propAsksSpec)) propAsksCard

/-- THE TIED CARD OF 'sortilegelaw07.PropBack'. -/
def propBackCard : Claim7 := { stood := { row := propBackRow, standIns := [], harness := (true, "4b3ee174b64e0acfa7d6e4dc0b6c3a2aec4f74dee1d33e6eb36ca2508ddfbe2a"), looks := true }, kinds := [], alts := [], laidByText := true, laidKinds := [.data, .data, .data, .handle, .sentinel, .sentinel], laidTests := true, laidLooks := .later }
def PropBackCardSaid : Prop := Claim7.holds Tryz.pinned (.plain (OpenSpec.ofChange propBackSpec)) propBackCard

/-- THE SECOND FORM's CARD OF 'sortilegelaw07.PropParses'. -/
def propParsesUptoCard : Claim7 := { stood := { row := propParsesUptoRow, standIns := [], harness := (true, "4b3ee174b64e0acfa7d6e4dc0b6c3a2aec4f74dee1d33e6eb36ca2508ddfbe2a"), looks := true }, kinds := [], alts := [], laidByText := true, laidKinds := [.data, .data, .data, .handle, .sentinel, .sentinel], laidTests := true, laidLooks := .later }
def PropParsesUptoCardSaid : Prop := Claim7.holds Tryz.pinned (.plain (OpenSpec.upto propParsesSpec)) propParsesUptoCard

/-- THE SECOND FORM's CARD OF 'sortilegelaw07.PropAsks'. -/
def propAsksUptoCard : Claim7 := { stood := { row := propAsksUptoRow, standIns := [], harness := (true, "4b3ee174b64e0acfa7d6e4dc0b6c3a2aec4f74dee1d33e6eb36ca2508ddfbe2a"), looks := true }, kinds := [], alts := [], laidByText := true, laidKinds := [.data, .data, .data, .handle, .sentinel, .sentinel], laidTests := true, laidLooks := .later }
def PropAsksUptoCardSaid : Prop := Claim7.holds Tryz.pinned (.plain (OpenSpec.upto propAsksSpec)) propAsksUptoCard

/-- THE SECOND FORM's CARD OF 'sortilegelaw07.PropBack'. -/
def propBackUptoCard : Claim7 := { stood := { row := propBackUptoRow, standIns := [], harness := (true, "4b3ee174b64e0acfa7d6e4dc0b6c3a2aec4f74dee1d33e6eb36ca2508ddfbe2a"), looks := true }, kinds := [], alts := [], laidByText := true, laidKinds := [.data, .data, .data, .handle, .sentinel, .sentinel], laidTests := true, laidLooks := .later }
def PropBackUptoCardSaid : Prop := Claim7.holds Tryz.pinned (.plain (OpenSpec.upto propBackSpec)) propBackUptoCard
end Rows
end Go.Proofs.YtjhicgllofjpoaaGreatDoor
