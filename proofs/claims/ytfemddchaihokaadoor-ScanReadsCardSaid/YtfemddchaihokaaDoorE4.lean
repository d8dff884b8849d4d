/-
  errors.as, the inner one, at an error At a place and at one of the kind Errno.
-/
import Derived.Test.YtfemddchaihokaaDoorE3
namespace Go.Proofs.YtfemddchaihokaaDoor
open Go.RowKit Go.Extern.Stop Go.Stop Go.Extern

set_option maxHeartbeats 4000000 in
/-- An error At a place, the target of the kind Errno. -/
theorem asin_at (b : Nat) (n : Int) (t va : Addr) (tg old : Value) (w : World) (hc : w.cell? ⟨b, 1, none⟩ = some (.iface 55 (.int .i64 n))) (hva : w.cell? va = some (.pointer (some t))) (ht0 : w.cell? t = some old) (hf0 : w.frozen? t = false) :
    Calls Tryd.prog 47 #[.iface 60 (.pointer (some ⟨b, 0, none⟩)), tg, .agg #[.pointer (some ⟨6, 67, none⟩), .pointer (some va), .int .u64 150], .iface 96 (.agg #[.pointer (some ⟨6, 55, none⟩)])] w fun ev w' =>
      ev = .returned (.bool true) ∧ w' = ((w.alloc (.cells #[.pointer (some ⟨6, 67, none⟩), .pointer (some va), .int .u64 150] 84)).alloc (.cells #[.int .i64 n] 55)).setCell t (.int .i64 n) := by
  have h10 := @run_callFunc_extern Tryd.prog 51 _ ReflectliteType.typeOf Tryd.func51 (by kernel_rfl) (by kernel_rfl) (by kernel_rfl) (by kernel_rfl)
  have h35 := @run_callFunc_extern Tryd.prog 102 _ (ReflectliteType.relation "AssignableTo" ReflectliteType.assignableTo) Tryd.func102 (by kernel_rfl) (by kernel_rfl) (by kernel_rfl) (by kernel_rfl)
  have h6 := @run_callFunc_extern Tryd.prog 44 _ (fun args => ReflectliteValue.unpack (args.getD 0 (.tuple #[]))) Tryd.func44 (by kernel_rfl) (by kernel_rfl) (by kernel_rfl) (by kernel_rfl)
  have h11 := @run_callFunc_extern Tryd.prog 52 _ (ReflectliteValue.method (ReflectliteValue.valueError "reflectlite.Value.Elem" 0) ReflectliteValue.elem) Tryd.func52 (by kernel_rfl) (by kernel_rfl) (by kernel_rfl) (by kernel_rfl)
  have h12 := @run_callFunc_extern Tryd.prog 53 _ ReflectliteValue.set Tryd.func53 (by kernel_rfl) (by kernel_rfl) (by kernel_rfl) (by kernel_rfl)
  have tO := typeOf56
  have tA := typeOfAt
  have mA := methodAssignableTo
  have mU := methodUnwrap
  have a25 := assignable56
  have aAE := assignAtErrno
  have v25 := valueOf56
  have x1 := atNoAs
  have x2 := atUnwraps
  have hbl : b < w.heap.size := World.block_lt_of_cell? w _ hc
  have hvl : va.block < w.heap.size := World.block_lt_of_cell? w _ hva
  have htl : t.block < w.heap.size := World.block_lt_of_cell? w _ ht0
  have HU := Lib.hid (unwrap_at b (.iface 55 (.int .i64 n)) (w.alloc (.cells #[.pointer (some ⟨6, 67, none⟩), .pointer (some va), .int .u64 150] 84)) (by rw [World.cell?_alloc_lt _ _ _ hbl]; exact hc))
  have el := elemV58 va t (w.alloc (.cells #[.pointer (some ⟨6, 67, none⟩), .pointer (some va), .int .u64 150] 84)) (by rw [World.cell?_alloc_lt _ _ va hvl]; exact hva)
  have st := set56 t ⟨w.heap.size + 1, 0, none⟩ n old ((w.alloc (.cells #[.pointer (some ⟨6, 67, none⟩), .pointer (some va), .int .u64 150] 84)).alloc (.cells #[.int .i64 n] 55))
    (by rw [World.cell?_alloc_at _ _ _ _ (by simp)]; rfl)
    (by rw [World.cell?_alloc_lt _ _ t (by simp; omega), World.cell?_alloc_lt _ _ t htl]; exact ht0)
    (by rw [World.frozen?_alloc_old _ _ t (by simp; omega), World.frozen?_alloc_old _ _ t (Nat.ne_of_lt htl)]; exact hf0)
  clear hc hva ht0 hf0
  go_enter Tryd.func47, Tryd.ntmps47
  go_wp2_with fail
  refine wp_loop_rounds 2 ?_
  rw [rounds_succ]
  go_wp2_with fail
  with_reducible refine (HU.out).mono ?_
  rintro e w' ⟨rfl, rfl⟩
  go_wp2_with fail
  rw [rounds_succ]
  go_wp2
  go_ret
  exact ⟨rfl, rfl⟩
end Go.Proofs.YtfemddchaihokaaDoor
