/-
  What the rows' list of package variables gives to a walk, and a world in which it holds.
-/
import Derived.Test.YtfemddchaihokaaDoorRows
import Derived.Test.YtfemddchaihokaaDoorL4
import Derived.ProofKit
import Derived.OpenShut
import Derived.LaidHandle
import Derived.Deep.DeepHandedRow
import Derived.Lib.LaidTab
import Derived.Stop.LaidErr
import Derived.Carry
namespace Go.Proofs.YtfemddchaihokaaDoor
open Go.ChangeShapes Go.WideShapes Go.ChangeAt Go.RowKit

theorem own : ownKnob Tryd.prog.godebug = none := by kernel_rfl
theorem gErr : Tryd.prog.globalNamed "errors.errorType" = some 0 := by kernel_rfl
theorem gRng : Tryd.prog.globalNamed "strconv.ErrRange" = some 2 := by kernel_rfl
theorem gRngType : (Tryd.prog.globals[2]?).map (·.type) = some 25 := by kernel_rfl
theorem rtypeNum : (Tryd.prog.cutTypes.find? (·.1 == "internal/reflectlite.rtype")).map (·.2) = some 96 := by kernel_rfl
theorem typesSize : Tryd.prog.types.size = 166 := by kernel_rfl
theorem oneRow : ((List.range 166).filter fun t => Tryd.prog.rowNamed t [101, 114, 114, 111, 114]) = [25] := by kernel_rfl
theorem cellsErr : Tryd.prog.cellsOf 122 = 1 := by kernel_rfl
theorem cellsStr : Tryd.prog.cellsOf 9 = 1 := by kernel_rfl
/-- The list that every row of this seat bears. -/
def LaidL : List (String × DataW Unit) := Rows.scanTellsRow.laid
def ifName : DataW Unit → String
  | .iface n _ => n
  | _ => "none"
def errNm : String := ifName Rows.laid_strconv_ErrRange
theorem star : "*" ++ "errors.errorString" = errNm := by decide
theorem rowErr (u : TypeId) (h : Tryd.prog.typeName? 3 u = some errNm) : u = 120 :=
  typeName_ptr_named (nm := "errors.errorString") (by rw [star]; kernel_rfl) (by kernel_rfl) (by decide) u (by rw [star]; exact h)
theorem glob_of_laid {W : World} (h : laidMetH Tryd.prog LaidL W) : GlobS W := by
  have h' : laidMet Tryd.prog (LaidL.filter fun x => x.2.handleName?.isNone) W ∧ handlesMet Tryd.prog (LaidL.filter fun x => x.2.handleName?.isSome) W := h
  refine ⟨⟨?_⟩, ?_⟩
  · obtain ⟨name, u, ty, e1, e2, e3, e4, e5⟩ := h'.2 ("errors.errorType", Rows.laid_errors_errorType) (List.mem_singleton.2 rfl)
    have en : name = [101, 114, 114, 111, 114] := (Option.some.inj e1).symm
    subst en
    obtain rfl := Option.some.inj (rtypeNum.symm.trans e2)
    have hm : ty ∈ (List.range 166).filter fun t => Tryd.prog.rowNamed t [101, 114, 114, 111, 114] := List.mem_filter.2 ⟨List.mem_range.2 (by rw [← typesSize]; exact e3), e4⟩
    rw [oneRow] at hm
    obtain rfl := List.mem_singleton.1 hm
    have hh : typeHandle Tryd.prog 25 = .pointer (some ⟨6, 25, none⟩) := by kernel_rfl
    rw [hh] at e5
    simpa using World.var?_cell gErr e5 0
  · have h3 : laidMet Tryd.prog [("strconv.ErrRange", Rows.laid_strconv_ErrRange), ("strconv.ErrSyntax", Rows.laid_strconv_ErrSyntax)] W := h'.1.tail.tail.tail
    obtain ⟨a0, s0, hv0, _, _, _⟩ := laid_sentinel (nm := errNm) h3 gRng gRngType Tryd.underlying25 rowErr Tryd.underlying120 Tryd.underlying122 rfl rfl Tryd.underlying9 cellsErr cellsStr
    exact ⟨_, _, by simpa using World.var?_cell gRng hv0 0⟩

def litV : DataW Unit → Value
  | .lit (.int k n) => .int k n
  | _ => .nilIface
def tabV : DataW Unit → Array Value
  | .agg l => (l.map litV).toArray
  | _ => #[]
def txtV : DataW Unit → Value
  | .iface _ (.ptr (.agg [.lit (.string l)])) => .string ⟨l.toArray⟩
  | _ => .nilIface
/-- So many blocks has the settled world. -/
noncomputable def low : Nat := (World.holding Tryd.prog default ⟨#[], #[], []⟩).heap.size
def put (v : Array Value) : Obj → Obj
  | .cells _ t frozen => .cells v t frozen
  | o => o
/-- A world in which the list holds. -/
noncomputable def laidWorld (os : Os) : World :=
  let w0 := World.holding Tryd.prog os ⟨#[.cells #[txtV Rows.laid_strconv_ErrRange] 122, .cells #[txtV Rows.laid_strconv_ErrSyntax] 122], #[], []⟩
  { w0 with heap := (((((w0.heap.modify 0 (put #[.iface 96 (.agg #[.pointer (some ⟨6, 25, none⟩)])])).modify 2 (put #[.iface 120 (.pointer (some ⟨low, 0, none⟩))])).modify 1 (put #[.iface 120 (.pointer (some ⟨low + 1, 0, none⟩))])).modify 3 (put (tabV Rows.laid_internal_strconv_uint64pow10))).modify 4 (put (tabV Rows.laid_math_bits_deBruijn32tab))).modify 5 (put (tabV Rows.laid_math_bits_deBruijn64tab)) }
theorem laid_met (os : Os) (args : Array Value) : laidMetH Tryd.prog LaidL ((laidWorld os).forCall (fun _ _ => 0) ⟨#[], args, []⟩).memory :=
  laidMetH_of_parts (laidMet_of_run' 8 (by kernel_rfl) (by kernel_rfl)) (by kernel_rfl)
end Go.Proofs.YtfemddchaihokaaDoor
