/-
  Nothing of the shelf besides.
-/
import Derived.Test.YtjhicgllofjpoaaGreatDoorH1
namespace Go.Proofs
end Go.Proofs
