/-
  errors.As of an error At a place: at a target of the kind Errno, and at a target of the kind *At; of an error of the kind Errno at a target of the kind *At.
-/
import Derived.Test.YtfemddchaihokaaDoorE2
namespace Go.Proofs.YtfemddchaihokaaDoor
open Go.RowKit Go.Extern.Stop Go.Stop Go.Extern

theorem typeOfAt (v : Value) (w : World) : (ReflectliteType.typeOf #[.iface 60 v]).run Tryd.prog w = .ok (.iface 96 (.agg #[.pointer (some ⟨6, 60, none⟩)])) w := by kernel_rfl
theorem assignAtErrno (w : World) : (ReflectliteType.relation "AssignableTo" ReflectliteType.assignableTo #[.agg #[.pointer (some ⟨6, 60, none⟩)], .iface 96 (.agg #[.pointer (some ⟨6, 55, none⟩)])]).run Tryd.prog w = .ok (.bool false) w := by kernel_rfl
theorem assignAtAt (w : World) : (ReflectliteType.relation "AssignableTo" ReflectliteType.assignableTo #[.agg #[.pointer (some ⟨6, 60, none⟩)], .iface 96 (.agg #[.pointer (some ⟨6, 60, none⟩)])]).run Tryd.prog w = .ok (.bool true) w := by kernel_rfl
theorem assignErrnoAt (w : World) : (ReflectliteType.relation "AssignableTo" ReflectliteType.assignableTo #[.agg #[.pointer (some ⟨6, 55, none⟩)], .iface 96 (.agg #[.pointer (some ⟨6, 60, none⟩)])]).run Tryd.prog w = .ok (.bool false) w := by kernel_rfl
theorem methodUnwrap (p : Value) (w : World) : (Go.method 266 60 p "Unwrap").run Tryd.prog w = .ok (97, p) w := by kernel_rfl

theorem atNoAs (v : Value) (x : TypeId) (w : World) : (Instr.typeAssert (.iface 60 v) x 101 true).run Tryd.prog w = .ok (.tuple #[.nilIface, .bool false]) w :=
  run_typeAssert_lacksB Tryd.underlying101 (by kernel_rfl) (by kernel_rfl) v x w
theorem atUnwraps (v : Value) (x : TypeId) (w : World) : (Instr.typeAssert (.iface 60 v) x 104 true).run Tryd.prog w = .ok (.tuple #[.iface 60 v, .bool true]) w :=
  run_typeAssert_hasB Tryd.underlying104 (by kernel_rfl) v x w
theorem erNoAs (v : Value) (x : TypeId) (w : World) : (Instr.typeAssert (.iface 55 v) x 101 true).run Tryd.prog w = .ok (.tuple #[.nilIface, .bool false]) w :=
  run_typeAssert_lacksB Tryd.underlying101 (by kernel_rfl) (by kernel_rfl) v x w
theorem erNoUnwrap (v : Value) (x : TypeId) (w : World) : (Instr.typeAssert (.iface 55 v) x 104 true).run Tryd.prog w = .ok (.tuple #[.nilIface, .bool false]) w :=
  run_typeAssert_lacksB Tryd.underlying104 (by kernel_rfl) (by kernel_rfl) v x w
theorem erNoUnwraps (v : Value) (x : TypeId) (w : World) : (Instr.typeAssert (.iface 55 v) x 105 true).run Tryd.prog w = .ok (.tuple #[.nilIface, .bool false]) w :=
  run_typeAssert_lacksB Tryd.underlying105 (by kernel_rfl) (by kernel_rfl) v x w

theorem unwrap_at (b : Nat) (e : Value) (w : World) (hc : w.cell? ⟨b, 1, none⟩ = some e) : Calls Tryd.prog 97 #[.pointer (some ⟨b, 0, none⟩)] w fun ev w' => ev = .returned e ∧ w = w' := by
  go_enter Tryd.func97, Tryd.ntmps97
  go_wp2
  go_ret
  exact ⟨rfl, rfl⟩
end Go.Proofs.YtfemddchaihokaaDoor
