/-
  An atom, what has a sign ahead, minus and negation: walked.
-/
import Derived.Test.YtkddaobbjfnckaaGreatDoorWB
namespace Go.Proofs.YtkddaobbjfnckaaGreatDoor
open Go.RowKit

end Go.Proofs.YtkddaobbjfnckaaGreatDoor
