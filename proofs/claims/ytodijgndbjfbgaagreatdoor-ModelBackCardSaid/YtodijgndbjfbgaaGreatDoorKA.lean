/-
  The chapter's example, walked.
-/
import Derived.Test.YtodijgndbjfbgaaGreatDoorWF
import Derived.Test.YtodijgndbjfbgaaGreatDoorXC
import Derived.Test.YtodijgndbjfbgaaGreatDoorQQ
namespace Go.Proofs.YtodijgndbjfbgaaGreatDoor
open Go.RowKit Go.Sort

/-- What every law's call finds in memory. -/
structure GlobT (w : World) : Prop where
  s : GlobS w
  t : Tabs w
theorem GlobT.below {w w' : World} (h : GlobT w) (hb : Below w.heap.size w w') : GlobT w' := ⟨h.s.below hb, tabs_on h.t hb⟩
def exE : Ex := .bin [38] (.un [33] (.bin [61] (.leaf opName [120] 0 1) (.leaf opNum [] 1 5) 1) 0)
      (.bin [60] (.bin [42] (.un opNeg (.bin [43] (.leaf opName [121] 0 11) (.leaf opNum [] 2 15) 10) 9) (.leaf opNum [] 3 20) 9) (.leaf opName [122] 0 24) 9) 0
def exT : List UInt8 := [33, 120, 32, 61, 32, 49, 32, 38, 32, 45, 40, 121, 32, 43, 32, 50, 41, 32, 42, 32, 51, 32, 60, 32, 122]
theorem exE_ok : Ok exE := (parse_good (by decide) ex_one).1
theorem exE_show : shw exE = exT := ex_show
theorem bytes_of (l : List UInt8) : (⟨l.toArray⟩ : ByteArray).toList = l := by rw [ByteArray.toList_eq]
end Go.Proofs.YtodijgndbjfbgaaGreatDoor
