/-
  An atom, what has a sign ahead, minus and negation: walked.
-/
import Derived.Test.YtmgjpjjglghbaaaGreatDoorWB
namespace Go.Proofs.YtmgjpjjglghbaaaGreatDoor
open Go.RowKit

end Go.Proofs.YtmgjpjjglghbaaaGreatDoor
