/-
  DERIVED. GIVEN WITH THE SEED: THE CARDS: each row of YtkgjpimapfmeoaaDoorRows.lean that lists a variable, with what it lists TIED to the program's text (the seventh form; the later family's looks); each row that meets fmt, with fmt's text TOLD by the authors' own Lean function (tested against real Go, not proved from fmt's source: count such statements apart). THE CARD IS WHAT COUNTS. Prove the row's statement (the work); the ties are given (YtkgjpimapfmeoaaDoorTie.lean); close each card by the builder's one call (the guide's Derived/Test/ToyasCard.lean, 'card_holds'). Laid BY PROGRAM, IN A SANDBOX (cutbox-door.mjs). By AI agents, Wed Nov 11 2026. No macro, syntax, notation, axiom, sorry.
-/
import Derived.Test.YtkgjpimapfmeoaaDoorRows
import GoSem.ClaimSeven
namespace Go.Proofs.YtkgjpimapfmeoaaDoor
namespace Rows

/-- THE TIED CARD OF 'sortilegelaw11.MdpTells'. -/
def mdpTellsCard : Claim7 := { stood := { row := mdpTellsRow, standIns := [], harness := (true, "d0fe1cda72c9f31ab1f5d177330fa4dc1089bb2975688554afafc992438663ca"), looks := true }, kinds := [], alts := [], laidByText := true, laidKinds := [.handle], laidTests := true, laidLooks := .later }
def MdpTellsCardSaid : Prop := Claim7.holds Tryd.pinned (.plain (OpenSpec.ofChange mdpTellsSpec)) mdpTellsCard

/-- THE TIED CARD OF 'sortilegelaw11.MdpAlike'. -/
def mdpAlikeCard : Claim7 := { stood := { row := mdpAlikeRow, standIns := [], harness := (true, "d0fe1cda72c9f31ab1f5d177330fa4dc1089bb2975688554afafc992438663ca"), looks := true }, kinds := [], alts := [], laidByText := true, laidKinds := [.handle], laidTests := true, laidLooks := .later }
def MdpAlikeCardSaid : Prop := Claim7.holds Tryd.pinned (.plain (OpenSpec.ofChange mdpAlikeSpec)) mdpAlikeCard

/-- THE TIED CARD OF 'sortilegelaw11.MdpGrows'. -/
def mdpGrowsCard : Claim7 := { stood := { row := mdpGrowsRow, standIns := [], harness := (true, "d0fe1cda72c9f31ab1f5d177330fa4dc1089bb2975688554afafc992438663ca"), looks := true }, kinds := [], alts := [], laidByText := true, laidKinds := [.handle], laidTests := true, laidLooks := .later }
def MdpGrowsCardSaid : Prop := Claim7.holds Tryd.pinned (.plain (OpenSpec.ofChange mdpGrowsSpec)) mdpGrowsCard

/-- THE SECOND FORM's CARD OF 'sortilegelaw11.MdpTells'. -/
def mdpTellsUptoCard : Claim7 := { stood := { row := mdpTellsUptoRow, standIns := [], harness := (true, "d0fe1cda72c9f31ab1f5d177330fa4dc1089bb2975688554afafc992438663ca"), looks := true }, kinds := [], alts := [], laidByText := true, laidKinds := [.handle], laidTests := true, laidLooks := .later }
def MdpTellsUptoCardSaid : Prop := Claim7.holds Tryd.pinned (.plain (OpenSpec.upto mdpTellsSpec)) mdpTellsUptoCard

/-- THE SECOND FORM's CARD OF 'sortilegelaw11.MdpAlike'. -/
def mdpAlikeUptoCard : Claim7 := { stood := { row := mdpAlikeUptoRow, standIns := [], harness := (true, "d0fe1cda72c9f31ab1f5d177330fa4dc1089bb2975688554afafc992438663ca"), looks := true }, kinds := [], alts := [], laidByText := true, laidKinds := [.handle], laidTests := true, laidLooks := .later }
def MdpAlikeUptoCardSaid : Prop := Claim7.holds Tryd.pinned (.plain (OpenSpec.upto mdpAlikeSpec)) mdpAlikeUptoCard

/-- THE SECOND FORM's CARD OF 'sortilegelaw11.MdpGrows'. -/
def mdpGrowsUptoCard : Claim7 := { stood := { row := mdpGrowsUptoRow, standIns := [], harness := (true, "d0fe1cda72c9f31ab1f5d177330fa4dc1089bb2975688554afafc992438663ca"), looks := true }, kinds := [], alts := [], laidByText := true, laidKinds := [.handle], laidTests := true, laidLooks := .later }
def MdpGrowsUptoCardSaid : Prop := Claim7.holds Tryd.pinned (.plain (OpenSpec.upto mdpGrowsSpec)) mdpGrowsUptoCard
end Rows
end Go.Proofs.YtkgjpimapfmeoaaDoor
