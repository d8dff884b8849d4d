/-
  What the cards of the texts take besides.
-/
import Derived.Test.YtfemddchaihokaaDoorP1
import Derived.ChangeMaps5
namespace Go.Proofs.YtfemddchaihokaaDoor
open Go.ChangeShapes Go.WideShapes Go.ChangeAt Go.RowKit
theorem maxLen_eq : maxLen = 9223372036854775807 := rfl
end Go.Proofs.YtfemddchaihokaaDoor
