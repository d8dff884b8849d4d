/-
  errors.As of an error At a place: at a target of the kind Errno, and at a target of the kind *At; of an error of the kind Errno at a target of the kind *At. errors.as, the inner one, at an error At a place and at one of the kind Errno. errors.as, the inner one, where the target is of the kind *At. errors.As, the outer one: what the inner one tells is told on; so Num and Pos of every error that the program makes. Num and Pos of every error that the program makes.
-/
import Derived.Test.YtodijgndbjfbgaaGreatDoorA0
namespace Go.Proofs.YtodijgndbjfbgaaGreatDoor
section
open Go.RowKit Go.Extern.Stop Go.Stop Go.Extern

theorem typeOfAt (v : Value) (w : World) : (ReflectliteType.typeOf #[.iface 101 v]).run Tryz.prog w = .ok (.iface 173 (.agg #[.pointer (some ⟨7, 101, none⟩)])) w := by kernel_rfl
theorem assignAtErrno (w : World) : (ReflectliteType.relation "AssignableTo" ReflectliteType.assignableTo #[.agg #[.pointer (some ⟨7, 101, none⟩)], .iface 173 (.agg #[.pointer (some ⟨7, 61, none⟩)])]).run Tryz.prog w = .ok (.bool false) w := by kernel_rfl
theorem assignAtAt (w : World) : (ReflectliteType.relation "AssignableTo" ReflectliteType.assignableTo #[.agg #[.pointer (some ⟨7, 101, none⟩)], .iface 173 (.agg #[.pointer (some ⟨7, 101, none⟩)])]).run Tryz.prog w = .ok (.bool true) w := by kernel_rfl
theorem assignErrnoAt (w : World) : (ReflectliteType.relation "AssignableTo" ReflectliteType.assignableTo #[.agg #[.pointer (some ⟨7, 61, none⟩)], .iface 173 (.agg #[.pointer (some ⟨7, 101, none⟩)])]).run Tryz.prog w = .ok (.bool false) w := by kernel_rfl
theorem methodUnwrap (p : Value) (w : World) : (Go.method 400 101 p "Unwrap").run Tryz.prog w = .ok (207, p) w := by kernel_rfl

theorem atNoAs (v : Value) (x : TypeId) (w : World) : (Instr.typeAssert (.iface 101 v) x 178 true).run Tryz.prog w = .ok (.tuple #[.nilIface, .bool false]) w :=
  run_typeAssert_lacksB Tryz.underlying178 (by kernel_rfl) (by kernel_rfl) v x w
theorem atUnwraps (v : Value) (x : TypeId) (w : World) : (Instr.typeAssert (.iface 101 v) x 181 true).run Tryz.prog w = .ok (.tuple #[.iface 101 v, .bool true]) w :=
  run_typeAssert_hasB Tryz.underlying181 (by kernel_rfl) v x w
theorem erNoAs (v : Value) (x : TypeId) (w : World) : (Instr.typeAssert (.iface 61 v) x 178 true).run Tryz.prog w = .ok (.tuple #[.nilIface, .bool false]) w :=
  run_typeAssert_lacksB Tryz.underlying178 (by kernel_rfl) (by kernel_rfl) v x w
theorem erNoUnwrap (v : Value) (x : TypeId) (w : World) : (Instr.typeAssert (.iface 61 v) x 181 true).run Tryz.prog w = .ok (.tuple #[.nilIface, .bool false]) w :=
  run_typeAssert_lacksB Tryz.underlying181 (by kernel_rfl) (by kernel_rfl) v x w
theorem erNoUnwraps (v : Value) (x : TypeId) (w : World) : (Instr.typeAssert (.iface 61 v) x 183 true).run Tryz.prog w = .ok (.tuple #[.nilIface, .bool false]) w :=
  run_typeAssert_lacksB Tryz.underlying183 (by kernel_rfl) (by kernel_rfl) v x w

theorem unwrap_at (b : Nat) (e : Value) (w : World) (hc : w.cell? ⟨b, 1, none⟩ = some e) : Calls Tryz.prog 207 #[.pointer (some ⟨b, 0, none⟩)] w fun ev w' => ev = .returned e ∧ w = w' := by
  go_enter Tryz.func207, Tryz.ntmps207
  go_wp2
  go_ret
  exact ⟨rfl, rfl⟩
end
section
open Go.RowKit Go.Extern.Stop Go.Stop Go.Extern

set_option maxHeartbeats 4000000 in
/-- An error At a place, the target of the kind Errno. -/
theorem asin_at (b : Nat) (n : Int) (t va : Addr) (tg old : Value) (w : World) (hc : w.cell? ⟨b, 1, none⟩ = some (.iface 61 (.int .i64 n))) (hva : w.cell? va = some (.pointer (some t))) (ht0 : w.cell? t = some old) (hf0 : w.frozen? t = false) :
    Calls Tryz.prog 55 #[.iface 101 (.pointer (some ⟨b, 0, none⟩)), tg, .agg #[.pointer (some ⟨7, 100, none⟩), .pointer (some va), .int .u64 150], .iface 173 (.agg #[.pointer (some ⟨7, 61, none⟩)])] w fun ev w' =>
      ev = .returned (.bool true) ∧ w' = ((w.alloc (.cells #[.pointer (some ⟨7, 100, none⟩), .pointer (some va), .int .u64 150] 139)).alloc (.cells #[.int .i64 n] 61)).setCell t (.int .i64 n) := by
  have h10 := @run_callFunc_extern Tryz.prog 86 _ ReflectliteType.typeOf Tryz.func86 (by kernel_rfl) (by kernel_rfl) (by kernel_rfl) (by kernel_rfl)
  have h35 := @run_callFunc_extern Tryz.prog 212 _ (ReflectliteType.relation "AssignableTo" ReflectliteType.assignableTo) Tryz.func212 (by kernel_rfl) (by kernel_rfl) (by kernel_rfl) (by kernel_rfl)
  have h6 := @run_callFunc_extern Tryz.prog 52 _ (fun args => ReflectliteValue.unpack (args.getD 0 (.tuple #[]))) Tryz.func52 (by kernel_rfl) (by kernel_rfl) (by kernel_rfl) (by kernel_rfl)
  have h11 := @run_callFunc_extern Tryz.prog 87 _ (ReflectliteValue.method (ReflectliteValue.valueError "reflectlite.Value.Elem" 0) ReflectliteValue.elem) Tryz.func87 (by kernel_rfl) (by kernel_rfl) (by kernel_rfl) (by kernel_rfl)
  have h12 := @run_callFunc_extern Tryz.prog 88 _ ReflectliteValue.set Tryz.func88 (by kernel_rfl) (by kernel_rfl) (by kernel_rfl) (by kernel_rfl)
  have tO := typeOf56
  have tA := typeOfAt
  have mA := methodAssignableTo
  have mU := methodUnwrap
  have a25 := assignable56
  have aAE := assignAtErrno
  have v25 := valueOf56
  have x1 := atNoAs
  have x2 := atUnwraps
  have hbl : b < w.heap.size := World.block_lt_of_cell? w _ hc
  have hvl : va.block < w.heap.size := World.block_lt_of_cell? w _ hva
  have htl : t.block < w.heap.size := World.block_lt_of_cell? w _ ht0
  have HU := Lib.hid (unwrap_at b (.iface 61 (.int .i64 n)) (w.alloc (.cells #[.pointer (some ⟨7, 100, none⟩), .pointer (some va), .int .u64 150] 139)) (by rw [World.cell?_alloc_lt _ _ _ hbl]; exact hc))
  have el := elemV58 va t (w.alloc (.cells #[.pointer (some ⟨7, 100, none⟩), .pointer (some va), .int .u64 150] 139)) (by rw [World.cell?_alloc_lt _ _ va hvl]; exact hva)
  have st := set56 t ⟨w.heap.size + 1, 0, none⟩ n old ((w.alloc (.cells #[.pointer (some ⟨7, 100, none⟩), .pointer (some va), .int .u64 150] 139)).alloc (.cells #[.int .i64 n] 61))
    (by rw [World.cell?_alloc_at _ _ _ _ (by simp)]; rfl)
    (by rw [World.cell?_alloc_lt _ _ t (by simp; omega), World.cell?_alloc_lt _ _ t htl]; exact ht0)
    (by rw [World.frozen?_alloc_old _ _ t (by simp; omega), World.frozen?_alloc_old _ _ t (Nat.ne_of_lt htl)]; exact hf0)
  clear hc hva ht0 hf0
  go_enter Tryz.func55, Tryz.ntmps55
  go_wp2_with fail
  refine wp_loop_rounds 2 ?_
  rw [rounds_succ]
  go_wp2_with fail
  with_reducible refine (HU.out).mono ?_
  rintro e w' ⟨rfl, rfl⟩
  go_wp2_with fail
  rw [rounds_succ]
  go_wp2
  go_ret
  exact ⟨rfl, rfl⟩
end
section
open Go.RowKit Go.Extern.Stop Go.Stop Go.Extern

theorem valueOfAt (p : Addr) (w : World) : (ReflectliteValue.unpack (.iface 101 (.pointer (some p)))).run Tryz.prog w
    = .ok (.agg #[.pointer (some ⟨7, 101, none⟩), .pointer (some ⟨w.heap.size, 0, none⟩), .int .u64 150]) (w.alloc (.cells #[.pointer (some p)] 101)) := by kernel_rfl
theorem partsAtpp (a : Addr) (w : World) : (ReflectliteValue.parts (.agg #[.pointer (some ⟨7, 102, none⟩), .pointer (some a), .int .u64 150])).run Tryz.prog w = .ok (some (102, a, 150)) w := by kernel_rfl
theorem elemOfAtpp (w : World) : (Rtype.elem? 102).run Tryz.prog w = .ok (some 101) w := by kernel_rfl
theorem mkAt (p : Addr) (w : World) : (ReflectliteValue.mk 101 p ReflectliteValue.flagAddr).run Tryz.prog w = .ok (.agg #[.pointer (some ⟨7, 101, none⟩), .pointer (some p), .int .u64 406]) w := by kernel_rfl
theorem elemVAt (a p : Addr) (W : World) (ha : W.cell? a = some (.pointer (some p))) :
    (ReflectliteValue.method (ReflectliteValue.valueError "reflectlite.Value.Elem" 0) ReflectliteValue.elem #[.agg #[.pointer (some ⟨7, 102, none⟩), .pointer (some a), .int .u64 150]]).run Tryz.prog W
      = .ok (.agg #[.pointer (some ⟨7, 101, none⟩), .pointer (some p), .int .u64 406]) W := by
  change Sem.run Tryz.prog (Bind.bind (ReflectliteValue.parts (.agg #[.pointer (some ⟨7, 102, none⟩), .pointer (some a), .int .u64 150])) _) W = _
  simp only [Sem.run_bind, partsAtpp, Result.andThen]
  simp [ReflectliteValue.elem, loadVar, isAgg, underlying, Tryz.underlying102, ha, Result.andThen, elemOfAtpp, mkAt]
theorem partsAtA (a : Addr) (w : World) : (ReflectliteValue.parts (.agg #[.pointer (some ⟨7, 101, none⟩), .pointer (some a), .int .u64 406])).run Tryz.prog w = .ok (some (101, a, 406)) w := by kernel_rfl
theorem partsAt (a : Addr) (w : World) : (ReflectliteValue.parts (.agg #[.pointer (some ⟨7, 101, none⟩), .pointer (some a), .int .u64 150])).run Tryz.prog w = .ok (some (101, a, 150)) w := by kernel_rfl
theorem directAt (w : World) : (Rtype.directlyAssignable 101 101).run Tryz.prog w = .ok true w := by kernel_rfl
theorem setAt (ta c p : Addr) (old : Value) (W : World) (hb : W.cell? c = some (.pointer (some p))) (ht : W.cell? ta = some old) (hf : W.frozen? ta = false) :
    (ReflectliteValue.set #[.agg #[.pointer (some ⟨7, 101, none⟩), .pointer (some ta), .int .u64 406], .agg #[.pointer (some ⟨7, 101, none⟩), .pointer (some c), .int .u64 150]]).run Tryz.prog W
      = .ok (.tuple #[]) (W.setCell ta (.pointer (some p))) := by
  change Sem.run Tryz.prog (Bind.bind (ReflectliteValue.parts (.agg #[.pointer (some ⟨7, 101, none⟩), .pointer (some ta), .int .u64 406])) fun _ => Bind.bind (ReflectliteValue.parts (.agg #[.pointer (some ⟨7, 101, none⟩), .pointer (some c), .int .u64 150])) _) W = _
  simp only [Sem.run_bind, partsAtA, partsAt, Result.andThen]
  simp [ReflectliteValue.flagAddr, loadVar, isAgg, underlying, Tryz.underlying101, hb, Result.andThen, directAt, storeVar, Value.cells, storeCells, Addr.add]
  rw [run_store Tryz.prog W ta _ _ (by rfl)]
  simp [ht, hf]

set_option maxHeartbeats 4000000 in
theorem asin_place (p t va : Addr) (tg old : Value) (w : World) (hva : w.cell? va = some (.pointer (some t))) (ht0 : w.cell? t = some old) (hf0 : w.frozen? t = false) :
    Calls Tryz.prog 55 #[.iface 101 (.pointer (some p)), tg, .agg #[.pointer (some ⟨7, 102, none⟩), .pointer (some va), .int .u64 150], .iface 173 (.agg #[.pointer (some ⟨7, 101, none⟩)])] w fun ev w' =>
      ev = .returned (.bool true) ∧ w' = ((w.alloc (.cells #[.pointer (some ⟨7, 102, none⟩), .pointer (some va), .int .u64 150] 139)).alloc (.cells #[.pointer (some p)] 101)).setCell t (.pointer (some p)) := by
  have h10 := @run_callFunc_extern Tryz.prog 86 _ ReflectliteType.typeOf Tryz.func86 (by kernel_rfl) (by kernel_rfl) (by kernel_rfl) (by kernel_rfl)
  have h35 := @run_callFunc_extern Tryz.prog 212 _ (ReflectliteType.relation "AssignableTo" ReflectliteType.assignableTo) Tryz.func212 (by kernel_rfl) (by kernel_rfl) (by kernel_rfl) (by kernel_rfl)
  have h6 := @run_callFunc_extern Tryz.prog 52 _ (fun args => ReflectliteValue.unpack (args.getD 0 (.tuple #[]))) Tryz.func52 (by kernel_rfl) (by kernel_rfl) (by kernel_rfl) (by kernel_rfl)
  have h11 := @run_callFunc_extern Tryz.prog 87 _ (ReflectliteValue.method (ReflectliteValue.valueError "reflectlite.Value.Elem" 0) ReflectliteValue.elem) Tryz.func87 (by kernel_rfl) (by kernel_rfl) (by kernel_rfl) (by kernel_rfl)
  have h12 := @run_callFunc_extern Tryz.prog 88 _ ReflectliteValue.set Tryz.func88 (by kernel_rfl) (by kernel_rfl) (by kernel_rfl) (by kernel_rfl)
  have tA := typeOfAt
  have mA := methodAssignableTo
  have aAA := assignAtAt
  have vA := valueOfAt
  have hvl : va.block < w.heap.size := World.block_lt_of_cell? w _ hva
  have htl : t.block < w.heap.size := World.block_lt_of_cell? w _ ht0
  have el := elemVAt va t (w.alloc (.cells #[.pointer (some ⟨7, 102, none⟩), .pointer (some va), .int .u64 150] 139)) (by rw [World.cell?_alloc_lt _ _ va hvl]; exact hva)
  have st := setAt t ⟨w.heap.size + 1, 0, none⟩ p old ((w.alloc (.cells #[.pointer (some ⟨7, 102, none⟩), .pointer (some va), .int .u64 150] 139)).alloc (.cells #[.pointer (some p)] 101))
    (by rw [World.cell?_alloc_at _ _ _ _ (by simp)]; rfl)
    (by rw [World.cell?_alloc_lt _ _ t (by simp; omega), World.cell?_alloc_lt _ _ t htl]; exact ht0)
    (by rw [World.frozen?_alloc_old _ _ t (by simp; omega), World.frozen?_alloc_old _ _ t (Nat.ne_of_lt htl)]; exact hf0)
  clear hva ht0 hf0
  go_enter Tryz.func55, Tryz.ntmps55
  go_wp2_with fail
  refine wp_loop_rounds 1 ?_
  rw [rounds_succ]
  go_wp2
  go_ret
  exact ⟨rfl, rfl⟩

set_option maxHeartbeats 4000000 in
theorem asin_none (n : Int) (va : Addr) (tg : Value) (w : World) :
    Calls Tryz.prog 55 #[.iface 61 (.int .i64 n), tg, .agg #[.pointer (some ⟨7, 102, none⟩), .pointer (some va), .int .u64 150], .iface 173 (.agg #[.pointer (some ⟨7, 101, none⟩)])] w fun ev w' =>
      ev = .returned (.bool false) ∧ w' = w.alloc (.cells #[.pointer (some ⟨7, 102, none⟩), .pointer (some va), .int .u64 150] 139) := by
  have h10 := @run_callFunc_extern Tryz.prog 86 _ ReflectliteType.typeOf Tryz.func86 (by kernel_rfl) (by kernel_rfl) (by kernel_rfl) (by kernel_rfl)
  have h35 := @run_callFunc_extern Tryz.prog 212 _ (ReflectliteType.relation "AssignableTo" ReflectliteType.assignableTo) Tryz.func212 (by kernel_rfl) (by kernel_rfl) (by kernel_rfl) (by kernel_rfl)
  have tO := typeOf56
  have mA := methodAssignableTo
  have aEA := assignErrnoAt
  have x1 := erNoAs
  have x2 := erNoUnwrap
  have x3 := erNoUnwraps
  go_enter Tryz.func55, Tryz.ntmps55
  go_wp2_with fail
  refine wp_loop_rounds 1 ?_
  rw [rounds_succ]
  go_wp2
  go_ret
  exact ⟨rfl, rfl⟩
end
section
open Go.RowKit Go.Extern.Stop Go.Stop Go.Extern

theorem typePP (a : Addr) (w : World) : (ReflectliteValue.methodAny (ReflectliteValue.valueError "reflectlite.Value.Type" 0) (fun t _ _ _ => ReflectliteType.toType t) #[.agg #[.pointer (some ⟨7, 102, none⟩), .pointer (some a), .int .u64 150]]).run Tryz.prog w
    = .ok (.iface 173 (.agg #[.pointer (some ⟨7, 102, none⟩)])) w := by kernel_rfl
theorem valueOfPP (t : Addr) (w : World) : (ReflectliteValue.unpack (.iface 102 (.pointer (some t)))).run Tryz.prog w
    = .ok (.agg #[.pointer (some ⟨7, 102, none⟩), .pointer (some ⟨w.heap.size, 0, none⟩), .int .u64 150]) (w.alloc (.cells #[.pointer (some t)] 102)) := by kernel_rfl
theorem kindPP (w : World) : ((ReflectliteType.abiMethod fun t => (fun a : Nat => Value.int IntKind.u8 (a : Int)) <$> Rtype.kind t) #[.pointer (some ⟨7, 102, none⟩)]).run Tryz.prog w = .ok (.int .u8 22) w := by kernel_rfl
theorem kindAt (w : World) : ((ReflectliteType.abiMethod fun t => (fun a : Nat => Value.int IntKind.u8 (a : Int)) <$> Rtype.kind t) #[.pointer (some ⟨7, 101, none⟩)]).run Tryz.prog w = .ok (.int .u8 22) w := by kernel_rfl
theorem isNilPP (a p : Addr) (W : World) (ha : W.cell? a = some (.pointer (some p))) :
    (ReflectliteValue.method (ReflectliteValue.valueError "reflectlite.Value.IsNil" 0) ReflectliteValue.isNil #[.agg #[.pointer (some ⟨7, 102, none⟩), .pointer (some a), .int .u64 150]]).run Tryz.prog W = .ok (.bool false) W := by
  change Sem.run Tryz.prog (Bind.bind (ReflectliteValue.parts (.agg #[.pointer (some ⟨7, 102, none⟩), .pointer (some a), .int .u64 150])) _) W = _
  simp only [Sem.run_bind, partsAtpp, Result.andThen]
  simp [ReflectliteValue.isNil, loadVar, isAgg, underlying, Tryz.underlying102, ha, Result.andThen]
theorem elemPP (w : World) : (ReflectliteType.method ReflectliteType.elem #[.agg #[.pointer (some ⟨7, 102, none⟩)]]).run Tryz.prog w = .ok (.iface 173 (.agg #[.pointer (some ⟨7, 101, none⟩)])) w := by kernel_rfl
theorem implementsAt (w : World) : (ReflectliteType.relation "Implements" ReflectliteType.implements_ #[.agg #[.pointer (some ⟨7, 101, none⟩)], .iface 173 (.agg #[.pointer (some ⟨7, 28, none⟩)])]).run Tryz.prog w = .ok (.bool true) w := by kernel_rfl

set_option maxHeartbeats 4000000 in
theorem as_errno (T : TypeId) (v : Value) (t : Addr) (r : Bool) (R : World → Prop) (w : World) (hg : w.cell? ⟨0, 0, none⟩ = some (.iface 173 (.agg #[.pointer (some ⟨7, 28, none⟩)])))
    (hin : Calls Tryz.prog 55 #[.iface T v, .iface 100 (.pointer (some t)), .agg #[.pointer (some ⟨7, 100, none⟩), .pointer (some ⟨w.heap.size, 0, none⟩), .int .u64 150], .iface 173 (.agg #[.pointer (some ⟨7, 61, none⟩)])]
      ((w.alloc (.cells #[.pointer (some t)] 100)).alloc (.cells #[.pointer (some ⟨7, 100, none⟩), .pointer (some ⟨w.heap.size, 0, none⟩), .int .u64 150] 139)) fun ev w' => ev = .returned (.bool r) ∧ R w') :
    Calls Tryz.prog 27 #[.iface T v, .iface 100 (.pointer (some t))] w fun ev w' => ev = .returned (.bool r) ∧ R w' := by
  have h6 := @run_callFunc_extern Tryz.prog 52 _ (fun args => ReflectliteValue.unpack (args.getD 0 (.tuple #[]))) Tryz.func52 (by kernel_rfl) (by kernel_rfl) (by kernel_rfl) (by kernel_rfl)
  have h7 := @run_callFunc_extern Tryz.prog 53 _ (ReflectliteValue.methodAny (ReflectliteValue.valueError "reflectlite.Value.Type" 0) (fun t _ _ _ => ReflectliteType.toType t)) Tryz.func53 (by kernel_rfl) (by kernel_rfl) (by kernel_rfl) (by kernel_rfl)
  have h8 := @run_callFunc_extern Tryz.prog 54 _ (ReflectliteValue.method (ReflectliteValue.valueError "reflectlite.Value.IsNil" 0) ReflectliteValue.isNil) Tryz.func54 (by kernel_rfl) (by kernel_rfl) (by kernel_rfl) (by kernel_rfl)
  have h27 := @run_callFunc_extern Tryz.prog 202 _ (ReflectliteType.abiMethod fun t => do pure (.int .u8 (← Rtype.kind t))) Tryz.func202 (by kernel_rfl) (by kernel_rfl) (by kernel_rfl) (by kernel_rfl)
  have h37 := @run_callFunc_extern Tryz.prog 214 _ (ReflectliteType.method ReflectliteType.elem) Tryz.func214 (by kernel_rfl) (by kernel_rfl) (by kernel_rfl) (by kernel_rfl)
  have h38 := @run_callFunc_extern Tryz.prog 215 _ (ReflectliteType.relation "Implements" ReflectliteType.implements_) Tryz.func215 (by kernel_rfl) (by kernel_rfl) (by kernel_rfl) (by kernel_rfl)
  have f6 := valueOf58
  have f7 := type58
  have mK := methodKind
  have mE := methodElem
  have mI := methodImplements
  have k27 := kind58
  have k25 := kind56
  have e27 := elem58
  have i25 := implements56
  have n8 := isNil58 ⟨w.heap.size, 0, none⟩ t ((w.alloc (.cells #[.pointer (some t)] 100)).alloc (.cells #[.pointer (some ⟨7, 100, none⟩), .pointer (some ⟨w.heap.size, 0, none⟩), .int .u64 150] 139)) (by simp)
  have hlt : 0 < w.heap.size := World.block_lt_of_cell? w _ hg
  have hg2 : ((w.alloc (.cells #[.pointer (some t)] 100)).alloc (.cells #[.pointer (some ⟨7, 100, none⟩), .pointer (some ⟨w.heap.size, 0, none⟩), .int .u64 150] 139)).cell? ⟨0, 0, none⟩ = some (.iface 173 (.agg #[.pointer (some ⟨7, 28, none⟩)])) := by
    rw [World.cell?_alloc_lt _ _ ⟨0, 0, none⟩ (by simp), World.cell?_alloc_lt _ _ ⟨0, 0, none⟩ hlt]; exact hg
  have HIN := Lib.hid hin
  clear hin hg
  go_enter Tryz.func27, Tryz.ntmps27
  go_wp2_with (first | (go_at_call 55; fail) | (go_at_call 55; (with_reducible refine (HIN.out).mono ?_); rintro e w' ⟨rfl, hR⟩) | go_in)
  go_ret
  exact ⟨rfl, hR⟩

set_option maxHeartbeats 4000000 in
theorem as_place (T : TypeId) (v : Value) (t : Addr) (r : Bool) (R : World → Prop) (w : World) (hg : w.cell? ⟨0, 0, none⟩ = some (.iface 173 (.agg #[.pointer (some ⟨7, 28, none⟩)])))
    (hin : Calls Tryz.prog 55 #[.iface T v, .iface 102 (.pointer (some t)), .agg #[.pointer (some ⟨7, 102, none⟩), .pointer (some ⟨w.heap.size, 0, none⟩), .int .u64 150], .iface 173 (.agg #[.pointer (some ⟨7, 101, none⟩)])]
      ((w.alloc (.cells #[.pointer (some t)] 102)).alloc (.cells #[.pointer (some ⟨7, 102, none⟩), .pointer (some ⟨w.heap.size, 0, none⟩), .int .u64 150] 139)) fun ev w' => ev = .returned (.bool r) ∧ R w') :
    Calls Tryz.prog 27 #[.iface T v, .iface 102 (.pointer (some t))] w fun ev w' => ev = .returned (.bool r) ∧ R w' := by
  have h6 := @run_callFunc_extern Tryz.prog 52 _ (fun args => ReflectliteValue.unpack (args.getD 0 (.tuple #[]))) Tryz.func52 (by kernel_rfl) (by kernel_rfl) (by kernel_rfl) (by kernel_rfl)
  have h7 := @run_callFunc_extern Tryz.prog 53 _ (ReflectliteValue.methodAny (ReflectliteValue.valueError "reflectlite.Value.Type" 0) (fun t _ _ _ => ReflectliteType.toType t)) Tryz.func53 (by kernel_rfl) (by kernel_rfl) (by kernel_rfl) (by kernel_rfl)
  have h8 := @run_callFunc_extern Tryz.prog 54 _ (ReflectliteValue.method (ReflectliteValue.valueError "reflectlite.Value.IsNil" 0) ReflectliteValue.isNil) Tryz.func54 (by kernel_rfl) (by kernel_rfl) (by kernel_rfl) (by kernel_rfl)
  have h27 := @run_callFunc_extern Tryz.prog 202 _ (ReflectliteType.abiMethod fun t => do pure (.int .u8 (← Rtype.kind t))) Tryz.func202 (by kernel_rfl) (by kernel_rfl) (by kernel_rfl) (by kernel_rfl)
  have h37 := @run_callFunc_extern Tryz.prog 214 _ (ReflectliteType.method ReflectliteType.elem) Tryz.func214 (by kernel_rfl) (by kernel_rfl) (by kernel_rfl) (by kernel_rfl)
  have h38 := @run_callFunc_extern Tryz.prog 215 _ (ReflectliteType.relation "Implements" ReflectliteType.implements_) Tryz.func215 (by kernel_rfl) (by kernel_rfl) (by kernel_rfl) (by kernel_rfl)
  have f6 := valueOfPP
  have f7 := typePP
  have mK := methodKind
  have mE := methodElem
  have mI := methodImplements
  have k27 := kindPP
  have k25 := kindAt
  have e27 := elemPP
  have i25 := implementsAt
  have n8 := isNilPP ⟨w.heap.size, 0, none⟩ t ((w.alloc (.cells #[.pointer (some t)] 102)).alloc (.cells #[.pointer (some ⟨7, 102, none⟩), .pointer (some ⟨w.heap.size, 0, none⟩), .int .u64 150] 139)) (by simp)
  have hlt : 0 < w.heap.size := World.block_lt_of_cell? w _ hg
  have hg2 : ((w.alloc (.cells #[.pointer (some t)] 102)).alloc (.cells #[.pointer (some ⟨7, 102, none⟩), .pointer (some ⟨w.heap.size, 0, none⟩), .int .u64 150] 139)).cell? ⟨0, 0, none⟩ = some (.iface 173 (.agg #[.pointer (some ⟨7, 28, none⟩)])) := by
    rw [World.cell?_alloc_lt _ _ ⟨0, 0, none⟩ (by simp), World.cell?_alloc_lt _ _ ⟨0, 0, none⟩ hlt]; exact hg
  have HIN := Lib.hid hin
  clear hin hg
  go_enter Tryz.func27, Tryz.ntmps27
  go_wp2_with (first | (go_at_call 55; fail) | (go_at_call 55; (with_reducible refine (HIN.out).mono ?_); rintro e w' ⟨rfl, hR⟩) | go_in)
  go_ret
  exact ⟨rfl, hR⟩
end
section
open Go.RowKit

/-- An error at a place, in memory. -/
structure AtE (w : World) (b : Nat) (p n : Int) : Prop where
  pos : w.cell? ⟨b, 0, none⟩ = some (.int .i64 p)
  err : w.cell? ⟨b, 1, none⟩ = some (.iface 61 (.int .i64 n))
  typ : ∃ cs, w.heap[b]? = some (.cells cs 104 (0, 0))
theorem AtE.lt {w : World} {b : Nat} {p n : Int} (h : AtE w b p n) : b < w.heap.size := World.block_lt_of_cell? w _ h.pos
theorem AtE.below {w w' : World} {b : Nat} {p n : Int} (h : AtE w b p n) (hb : Below w.heap.size w w') : AtE w' b p n :=
  ⟨(hb.cell (p := ⟨b, 0, none⟩) h.lt).trans h.pos, (hb.cell (p := ⟨b, 1, none⟩) h.lt).trans h.err, h.typ.imp fun _ q => (hb.block b h.lt).trans q⟩

set_option maxHeartbeats 1000000 in
theorem num_at (b : Nat) (p n : Int) (w : World) (hG : Glob w) (hA : AtE w b p n) : Calls Tryz.prog 9 #[.iface 101 (.pointer (some ⟨b, 0, none⟩))] w fun e w' => e = .returned (.int .i64 n) ∧ Below w.heap.size w w' := by
  have hlt := hA.lt
  have hb0 : Below w.heap.size w (w.alloc (.cells #[.int .i64 0] 61)) := (Below.refl _ _).alloc (Nat.le_refl _) _
  have hc := (hA.below hb0).err
  have H := Lib.hid (as_errno 101 (.pointer (some ⟨b, 0, none⟩)) ⟨w.heap.size, 0, none⟩ true _ (w.alloc (.cells #[.int .i64 0] 61)) (hG.below hb0).err
    (asin_at b n ⟨w.heap.size, 0, none⟩ ⟨(w.alloc (.cells #[.int .i64 0] 61)).heap.size, 0, none⟩ (.iface 100 (.pointer (some ⟨w.heap.size, 0, none⟩))) (.int .i64 0) _
      (by rw [World.cell?_alloc_lt _ _ _ (by simp; omega), World.cell?_alloc_lt _ _ _ (by simp; omega)]; exact hc)
      (by rw [World.cell?_alloc_lt _ _ _ (by simp)]; simp)
      (by rw [World.cell?_alloc_lt _ _ _ (by simp; omega), World.cell?_alloc_lt _ _ _ (by simp)]; simp)
      (by rw [World.frozen?_alloc_old _ _ _ (by simp; omega), World.frozen?_alloc_old _ _ _ (by simp)]; simp)))
  clear hb0 hc hA hG
  go_enter Tryz.func9, Tryz.ntmps9
  go_wp2_with fail
  with_reducible refine (H.out).mono ?_
  rintro e w' ⟨rfl, rfl⟩
  go_wp2
  go_ret
  refine ⟨rfl, ?_⟩
  exact (((((Below.refl _ _).alloc (Nat.le_refl _) _).alloc (by simp) _).alloc (by simp; omega) _).alloc (by simp; omega) _).alloc (by simp; omega) _

set_option maxHeartbeats 1000000 in
theorem pos_at (b : Nat) (p n : Int) (w : World) (hG : Glob w) (hA : AtE w b p n) : Calls Tryz.prog 10 #[.iface 101 (.pointer (some ⟨b, 0, none⟩))] w fun e w' => e = .returned (.int .i64 p) ∧ Below w.heap.size w w' := by
  have hlt := hA.lt
  have hb0 : Below w.heap.size w (w.alloc (.cells #[.pointer none] 101)) := (Below.refl _ _).alloc (Nat.le_refl _) _
  have hc := hA.pos
  have H := Lib.hid (as_place 101 (.pointer (some ⟨b, 0, none⟩)) ⟨w.heap.size, 0, none⟩ true _ (w.alloc (.cells #[.pointer none] 101)) (hG.below hb0).err
    (asin_place ⟨b, 0, none⟩ ⟨w.heap.size, 0, none⟩ ⟨(w.alloc (.cells #[.pointer none] 101)).heap.size, 0, none⟩ (.iface 102 (.pointer (some ⟨w.heap.size, 0, none⟩))) (.pointer none) _
      (by rw [World.cell?_alloc_lt _ _ _ (by simp)]; simp)
      (by rw [World.cell?_alloc_lt _ _ _ (by simp; omega), World.cell?_alloc_lt _ _ _ (by simp)]; simp)
      (by rw [World.frozen?_alloc_old _ _ _ (by simp; omega), World.frozen?_alloc_old _ _ _ (by simp)]; simp)))
  have HA := Lib.hid hA
  clear hb0 hA hG hc
  go_enter Tryz.func10, Tryz.ntmps10
  go_wp2_with fail
  with_reducible refine (H.out).mono ?_
  rintro e w' ⟨rfl, hw⟩
  have hb : Below w.heap.size w w' := by
    rw [hw]
    exact ((((((Below.refl _ _).alloc (Nat.le_refl _) _).alloc (by simp) _).alloc (by simp; omega) _).alloc (by simp; omega) _).alloc (by simp; omega) _).setCell (by simp) _
  have h1 : w'.cell? ⟨w.heap.size, 0, none⟩ = some (.pointer (some ⟨b, 0, none⟩)) := by
    rw [hw]
    refine World.cell?_setCell_same _ _ _ (u := .pointer none) ?_
    rw [World.cell?_alloc_lt _ _ _ (by simp; omega), World.cell?_alloc_lt _ _ _ (by simp; omega), World.cell?_alloc_lt _ _ _ (by simp; omega), World.cell?_alloc_lt _ _ _ (by simp)]; simp
  have h2 := (HA.out.below hb).pos
  have HB := Lib.hid hb
  clear hw hb
  go_wp2
  go_ret
  exact ⟨rfl, HB.out⟩

set_option maxHeartbeats 1000000 in
theorem pos_errno (n : Int) (w : World) (hG : Glob w) : Calls Tryz.prog 10 #[.iface 61 (.int .i64 n)] w fun e w' => e = .returned (.int .i64 (-1)) ∧ Below w.heap.size w w' := by
  have hb0 : Below w.heap.size w (w.alloc (.cells #[.pointer none] 101)) := (Below.refl _ _).alloc (Nat.le_refl _) _
  have H := Lib.hid (as_place 61 (.int .i64 n) ⟨w.heap.size, 0, none⟩ false _ (w.alloc (.cells #[.pointer none] 101)) (hG.below hb0).err
    (asin_none n ⟨(w.alloc (.cells #[.pointer none] 101)).heap.size, 0, none⟩ (.iface 102 (.pointer (some ⟨w.heap.size, 0, none⟩))) _))
  clear hb0 hG
  go_enter Tryz.func10, Tryz.ntmps10
  go_wp2_with fail
  with_reducible refine (H.out).mono ?_
  rintro e w' ⟨rfl, rfl⟩
  go_wp2
  go_ret
  refine ⟨rfl, ?_⟩
  exact ((((Below.refl _ _).alloc (Nat.le_refl _) _).alloc (by simp) _).alloc (by simp; omega) _).alloc (by simp; omega) _

theorem pos_nil (w : World) : Calls Tryz.prog 10 #[.nilIface] w fun e w' => e = .returned (.int .i64 (-1)) ∧ Below w.heap.size w w' := by
  go_enter Tryz.func10, Tryz.ntmps10
  go_wp2
  go_ret
  exact ⟨rfl, (Below.refl _ _).alloc (Nat.le_refl _) _⟩
end
end Go.Proofs.YtodijgndbjfbgaaGreatDoor
