/-
  A variable, walked.
-/
import Derived.Test.YtddeplbgihcdkaaGreatDoorGe1
import Derived.Test.YtddeplbgihcdkaaGreatDoorGe2
import Derived.Test.YtddeplbgihcdkaaGreatDoorGe3
import Derived.Test.YtddeplbgihcdkaaGreatDoorGe4
import Derived.Deep.AppendLies
namespace Go.Proofs.YtddeplbgihcdkaaGreatDoor
open Go.RowKit

section
variable {xb rb b D : Nat} {st : St}
theorem mvar_any (w : World) (h : MRd w xb rb b D st) : Calls Tryz.prog 216 #[.pointer (some ⟨xb, 0, none⟩)] w (VmP xb rb b D (st.vrbl D) w) := by
  cases hi : isT (st.name.2.want [58]).hd wBool with
  | true =>
    cases hi2 : isT ((st.name.2.want [58]).vals D).2.hd wInit with
    | true => exact mvar_1 w h hi hi2
    | false => exact mvar_2 w h hi hi2
  | false =>
    cases hi2 : isT ((st.name.2.want [58]).vals D).2.hd wInit with
    | true => exact mvar_3 w h hi hi2
    | false => exact mvar_4 w h hi hi2
end
end Go.Proofs.YtddeplbgihcdkaaGreatDoor
