/-
  An atom, what has a sign ahead, minus and negation: walked.
-/
import Derived.Test.YtjhicgllofjpoaaGreatDoorWB
namespace Go.Proofs.YtjhicgllofjpoaaGreatDoor
open Go.RowKit

end Go.Proofs.YtjhicgllofjpoaaGreatDoor
