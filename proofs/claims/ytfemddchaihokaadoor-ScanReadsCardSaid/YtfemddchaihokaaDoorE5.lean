/-
  errors.as, the inner one, where the target is of the kind *At.
-/
import Derived.Test.YtfemddchaihokaaDoorE3
namespace Go.Proofs.YtfemddchaihokaaDoor
open Go.RowKit Go.Extern.Stop Go.Stop Go.Extern

theorem valueOfAt (p : Addr) (w : World) : (ReflectliteValue.unpack (.iface 60 (.pointer (some p)))).run Tryd.prog w
    = .ok (.agg #[.pointer (some ⟨6, 60, none⟩), .pointer (some ⟨w.heap.size, 0, none⟩), .int .u64 150]) (w.alloc (.cells #[.pointer (some p)] 60)) := by kernel_rfl
theorem partsAtpp (a : Addr) (w : World) : (ReflectliteValue.parts (.agg #[.pointer (some ⟨6, 68, none⟩), .pointer (some a), .int .u64 150])).run Tryd.prog w = .ok (some (68, a, 150)) w := by kernel_rfl
theorem elemOfAtpp (w : World) : (Rtype.elem? 68).run Tryd.prog w = .ok (some 60) w := by kernel_rfl
theorem mkAt (p : Addr) (w : World) : (ReflectliteValue.mk 60 p ReflectliteValue.flagAddr).run Tryd.prog w = .ok (.agg #[.pointer (some ⟨6, 60, none⟩), .pointer (some p), .int .u64 406]) w := by kernel_rfl
theorem elemVAt (a p : Addr) (W : World) (ha : W.cell? a = some (.pointer (some p))) :
    (ReflectliteValue.method (ReflectliteValue.valueError "reflectlite.Value.Elem" 0) ReflectliteValue.elem #[.agg #[.pointer (some ⟨6, 68, none⟩), .pointer (some a), .int .u64 150]]).run Tryd.prog W
      = .ok (.agg #[.pointer (some ⟨6, 60, none⟩), .pointer (some p), .int .u64 406]) W := by
  change Sem.run Tryd.prog (Bind.bind (ReflectliteValue.parts (.agg #[.pointer (some ⟨6, 68, none⟩), .pointer (some a), .int .u64 150])) _) W = _
  simp only [Sem.run_bind, partsAtpp, Result.andThen]
  simp [ReflectliteValue.elem, loadVar, isAgg, underlying, Tryd.underlying68, ha, Result.andThen, elemOfAtpp, mkAt]
theorem partsAtA (a : Addr) (w : World) : (ReflectliteValue.parts (.agg #[.pointer (some ⟨6, 60, none⟩), .pointer (some a), .int .u64 406])).run Tryd.prog w = .ok (some (60, a, 406)) w := by kernel_rfl
theorem partsAt (a : Addr) (w : World) : (ReflectliteValue.parts (.agg #[.pointer (some ⟨6, 60, none⟩), .pointer (some a), .int .u64 150])).run Tryd.prog w = .ok (some (60, a, 150)) w := by kernel_rfl
theorem directAt (w : World) : (Rtype.directlyAssignable 60 60).run Tryd.prog w = .ok true w := by kernel_rfl
theorem setAt (ta c p : Addr) (old : Value) (W : World) (hb : W.cell? c = some (.pointer (some p))) (ht : W.cell? ta = some old) (hf : W.frozen? ta = false) :
    (ReflectliteValue.set #[.agg #[.pointer (some ⟨6, 60, none⟩), .pointer (some ta), .int .u64 406], .agg #[.pointer (some ⟨6, 60, none⟩), .pointer (some c), .int .u64 150]]).run Tryd.prog W
      = .ok (.tuple #[]) (W.setCell ta (.pointer (some p))) := by
  change Sem.run Tryd.prog (Bind.bind (ReflectliteValue.parts (.agg #[.pointer (some ⟨6, 60, none⟩), .pointer (some ta), .int .u64 406])) fun _ => Bind.bind (ReflectliteValue.parts (.agg #[.pointer (some ⟨6, 60, none⟩), .pointer (some c), .int .u64 150])) _) W = _
  simp only [Sem.run_bind, partsAtA, partsAt, Result.andThen]
  simp [ReflectliteValue.flagAddr, loadVar, isAgg, underlying, Tryd.underlying60, hb, Result.andThen, directAt, storeVar, Value.cells, storeCells, Addr.add]
  rw [run_store Tryd.prog W ta _ _ (by rfl)]
  simp [ht, hf]

set_option maxHeartbeats 4000000 in
theorem asin_place (p t va : Addr) (tg old : Value) (w : World) (hva : w.cell? va = some (.pointer (some t))) (ht0 : w.cell? t = some old) (hf0 : w.frozen? t = false) :
    Calls Tryd.prog 47 #[.iface 60 (.pointer (some p)), tg, .agg #[.pointer (some ⟨6, 68, none⟩), .pointer (some va), .int .u64 150], .iface 96 (.agg #[.pointer (some ⟨6, 60, none⟩)])] w fun ev w' =>
      ev = .returned (.bool true) ∧ w' = ((w.alloc (.cells #[.pointer (some ⟨6, 68, none⟩), .pointer (some va), .int .u64 150] 84)).alloc (.cells #[.pointer (some p)] 60)).setCell t (.pointer (some p)) := by
  have h10 := @run_callFunc_extern Tryd.prog 51 _ ReflectliteType.typeOf Tryd.func51 (by kernel_rfl) (by kernel_rfl) (by kernel_rfl) (by kernel_rfl)
  have h35 := @run_callFunc_extern Tryd.prog 102 _ (ReflectliteType.relation "AssignableTo" ReflectliteType.assignableTo) Tryd.func102 (by kernel_rfl) (by kernel_rfl) (by kernel_rfl) (by kernel_rfl)
  have h6 := @run_callFunc_extern Tryd.prog 44 _ (fun args => ReflectliteValue.unpack (args.getD 0 (.tuple #[]))) Tryd.func44 (by kernel_rfl) (by kernel_rfl) (by kernel_rfl) (by kernel_rfl)
  have h11 := @run_callFunc_extern Tryd.prog 52 _ (ReflectliteValue.method (ReflectliteValue.valueError "reflectlite.Value.Elem" 0) ReflectliteValue.elem) Tryd.func52 (by kernel_rfl) (by kernel_rfl) (by kernel_rfl) (by kernel_rfl)
  have h12 := @run_callFunc_extern Tryd.prog 53 _ ReflectliteValue.set Tryd.func53 (by kernel_rfl) (by kernel_rfl) (by kernel_rfl) (by kernel_rfl)
  have tA := typeOfAt
  have mA := methodAssignableTo
  have aAA := assignAtAt
  have vA := valueOfAt
  have hvl : va.block < w.heap.size := World.block_lt_of_cell? w _ hva
  have htl : t.block < w.heap.size := World.block_lt_of_cell? w _ ht0
  have el := elemVAt va t (w.alloc (.cells #[.pointer (some ⟨6, 68, none⟩), .pointer (some va), .int .u64 150] 84)) (by rw [World.cell?_alloc_lt _ _ va hvl]; exact hva)
  have st := setAt t ⟨w.heap.size + 1, 0, none⟩ p old ((w.alloc (.cells #[.pointer (some ⟨6, 68, none⟩), .pointer (some va), .int .u64 150] 84)).alloc (.cells #[.pointer (some p)] 60))
    (by rw [World.cell?_alloc_at _ _ _ _ (by simp)]; rfl)
    (by rw [World.cell?_alloc_lt _ _ t (by simp; omega), World.cell?_alloc_lt _ _ t htl]; exact ht0)
    (by rw [World.frozen?_alloc_old _ _ t (by simp; omega), World.frozen?_alloc_old _ _ t (Nat.ne_of_lt htl)]; exact hf0)
  clear hva ht0 hf0
  go_enter Tryd.func47, Tryd.ntmps47
  go_wp2_with fail
  refine wp_loop_rounds 1 ?_
  rw [rounds_succ]
  go_wp2
  go_ret
  exact ⟨rfl, rfl⟩

set_option maxHeartbeats 4000000 in
theorem asin_none (n : Int) (va : Addr) (tg : Value) (w : World) :
    Calls Tryd.prog 47 #[.iface 55 (.int .i64 n), tg, .agg #[.pointer (some ⟨6, 68, none⟩), .pointer (some va), .int .u64 150], .iface 96 (.agg #[.pointer (some ⟨6, 60, none⟩)])] w fun ev w' =>
      ev = .returned (.bool false) ∧ w' = w.alloc (.cells #[.pointer (some ⟨6, 68, none⟩), .pointer (some va), .int .u64 150] 84) := by
  have h10 := @run_callFunc_extern Tryd.prog 51 _ ReflectliteType.typeOf Tryd.func51 (by kernel_rfl) (by kernel_rfl) (by kernel_rfl) (by kernel_rfl)
  have h35 := @run_callFunc_extern Tryd.prog 102 _ (ReflectliteType.relation "AssignableTo" ReflectliteType.assignableTo) Tryd.func102 (by kernel_rfl) (by kernel_rfl) (by kernel_rfl) (by kernel_rfl)
  have tO := typeOf56
  have mA := methodAssignableTo
  have aEA := assignErrnoAt
  have x1 := erNoAs
  have x2 := erNoUnwrap
  have x3 := erNoUnwraps
  go_enter Tryd.func47, Tryd.ntmps47
  go_wp2_with fail
  refine wp_loop_rounds 1 ?_
  rw [rounds_succ]
  go_wp2
  go_ret
  exact ⟨rfl, rfl⟩
end Go.Proofs.YtfemddchaihokaaDoor
