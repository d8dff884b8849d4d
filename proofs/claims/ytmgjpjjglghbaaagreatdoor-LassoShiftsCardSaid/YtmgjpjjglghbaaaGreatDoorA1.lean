/-
  errors.As of an error At a place: at a target of the kind Errno, and at a target of the kind *At; of an error of the kind Errno at a target of the kind *At. errors.as, the inner one, at an error At a place and at one of the kind Errno. errors.as, the inner one, where the target is of the kind *At. errors.As, the outer one: what the inner one tells is told on; so Num and Pos of every error that the program makes. Num and Pos of every error that the program makes.
-/
import Derived.Test.YtmgjpjjglghbaaaGreatDoorA0
namespace Go.Proofs.YtmgjpjjglghbaaaGreatDoor
section
open Go.RowKit Go.Extern.Stop Go.Stop Go.Extern

theorem typeOfAt (v : Value) (w : World) : (ReflectliteType.typeOf #[.iface 190 v]).run Tryz.prog w = .ok (.iface 163 (.agg #[.pointer (some ⟨6, 190, none⟩)])) w := by kernel_rfl
theorem assignAtErrno (w : World) : (ReflectliteType.relation "AssignableTo" ReflectliteType.assignableTo #[.agg #[.pointer (some ⟨6, 190, none⟩)], .iface 163 (.agg #[.pointer (some ⟨6, 78, none⟩)])]).run Tryz.prog w = .ok (.bool false) w := by kernel_rfl
theorem assignAtAt (w : World) : (ReflectliteType.relation "AssignableTo" ReflectliteType.assignableTo #[.agg #[.pointer (some ⟨6, 190, none⟩)], .iface 163 (.agg #[.pointer (some ⟨6, 190, none⟩)])]).run Tryz.prog w = .ok (.bool true) w := by kernel_rfl
theorem assignErrnoAt (w : World) : (ReflectliteType.relation "AssignableTo" ReflectliteType.assignableTo #[.agg #[.pointer (some ⟨6, 78, none⟩)], .iface 163 (.agg #[.pointer (some ⟨6, 190, none⟩)])]).run Tryz.prog w = .ok (.bool false) w := by kernel_rfl
theorem methodUnwrap (p : Value) (w : World) : (Go.method 387 190 p "Unwrap").run Tryz.prog w = .ok (238, p) w := by kernel_rfl

theorem atNoAs (v : Value) (x : TypeId) (w : World) : (Instr.typeAssert (.iface 190 v) x 168 true).run Tryz.prog w = .ok (.tuple #[.nilIface, .bool false]) w :=
  run_typeAssert_lacksB Tryz.underlying168 (by kernel_rfl) (by kernel_rfl) v x w
theorem atUnwraps (v : Value) (x : TypeId) (w : World) : (Instr.typeAssert (.iface 190 v) x 171 true).run Tryz.prog w = .ok (.tuple #[.iface 190 v, .bool true]) w :=
  run_typeAssert_hasB Tryz.underlying171 (by kernel_rfl) v x w
theorem erNoAs (v : Value) (x : TypeId) (w : World) : (Instr.typeAssert (.iface 78 v) x 168 true).run Tryz.prog w = .ok (.tuple #[.nilIface, .bool false]) w :=
  run_typeAssert_lacksB Tryz.underlying168 (by kernel_rfl) (by kernel_rfl) v x w
theorem erNoUnwrap (v : Value) (x : TypeId) (w : World) : (Instr.typeAssert (.iface 78 v) x 171 true).run Tryz.prog w = .ok (.tuple #[.nilIface, .bool false]) w :=
  run_typeAssert_lacksB Tryz.underlying171 (by kernel_rfl) (by kernel_rfl) v x w
theorem erNoUnwraps (v : Value) (x : TypeId) (w : World) : (Instr.typeAssert (.iface 78 v) x 173 true).run Tryz.prog w = .ok (.tuple #[.nilIface, .bool false]) w :=
  run_typeAssert_lacksB Tryz.underlying173 (by kernel_rfl) (by kernel_rfl) v x w

theorem unwrap_at (b : Nat) (e : Value) (w : World) (hc : w.cell? ⟨b, 1, none⟩ = some e) : Calls Tryz.prog 238 #[.pointer (some ⟨b, 0, none⟩)] w fun ev w' => ev = .returned e ∧ w = w' := by
  go_enter Tryz.func238, Tryz.ntmps238
  go_wp2
  go_ret
  exact ⟨rfl, rfl⟩
end
section
open Go.RowKit Go.Extern.Stop Go.Stop Go.Extern

set_option maxHeartbeats 4000000 in
/-- An error At a place, the target of the kind Errno. -/
theorem asin_at (b : Nat) (n : Int) (t va : Addr) (tg old : Value) (w : World) (hc : w.cell? ⟨b, 1, none⟩ = some (.iface 78 (.int .i64 n))) (hva : w.cell? va = some (.pointer (some t))) (ht0 : w.cell? t = some old) (hf0 : w.frozen? t = false) :
    Calls Tryz.prog 89 #[.iface 190 (.pointer (some ⟨b, 0, none⟩)), tg, .agg #[.pointer (some ⟨6, 88, none⟩), .pointer (some va), .int .u64 150], .iface 163 (.agg #[.pointer (some ⟨6, 78, none⟩)])] w fun ev w' =>
      ev = .returned (.bool true) ∧ w' = ((w.alloc (.cells #[.pointer (some ⟨6, 88, none⟩), .pointer (some va), .int .u64 150] 125)).alloc (.cells #[.int .i64 n] 78)).setCell t (.int .i64 n) := by
  have h10 := @run_callFunc_extern Tryz.prog 117 _ ReflectliteType.typeOf Tryz.func117 (by kernel_rfl) (by kernel_rfl) (by kernel_rfl) (by kernel_rfl)
  have h35 := @run_callFunc_extern Tryz.prog 227 _ (ReflectliteType.relation "AssignableTo" ReflectliteType.assignableTo) Tryz.func227 (by kernel_rfl) (by kernel_rfl) (by kernel_rfl) (by kernel_rfl)
  have h6 := @run_callFunc_extern Tryz.prog 86 _ (fun args => ReflectliteValue.unpack (args.getD 0 (.tuple #[]))) Tryz.func86 (by kernel_rfl) (by kernel_rfl) (by kernel_rfl) (by kernel_rfl)
  have h11 := @run_callFunc_extern Tryz.prog 118 _ (ReflectliteValue.method (ReflectliteValue.valueError "reflectlite.Value.Elem" 0) ReflectliteValue.elem) Tryz.func118 (by kernel_rfl) (by kernel_rfl) (by kernel_rfl) (by kernel_rfl)
  have h12 := @run_callFunc_extern Tryz.prog 119 _ ReflectliteValue.set Tryz.func119 (by kernel_rfl) (by kernel_rfl) (by kernel_rfl) (by kernel_rfl)
  have tO := typeOf56
  have tA := typeOfAt
  have mA := methodAssignableTo
  have mU := methodUnwrap
  have a25 := assignable56
  have aAE := assignAtErrno
  have v25 := valueOf56
  have x1 := atNoAs
  have x2 := atUnwraps
  have hbl : b < w.heap.size := World.block_lt_of_cell? w _ hc
  have hvl : va.block < w.heap.size := World.block_lt_of_cell? w _ hva
  have htl : t.block < w.heap.size := World.block_lt_of_cell? w _ ht0
  have HU := Lib.hid (unwrap_at b (.iface 78 (.int .i64 n)) (w.alloc (.cells #[.pointer (some ⟨6, 88, none⟩), .pointer (some va), .int .u64 150] 125)) (by rw [World.cell?_alloc_lt _ _ _ hbl]; exact hc))
  have el := elemV58 va t (w.alloc (.cells #[.pointer (some ⟨6, 88, none⟩), .pointer (some va), .int .u64 150] 125)) (by rw [World.cell?_alloc_lt _ _ va hvl]; exact hva)
  have st := set56 t ⟨w.heap.size + 1, 0, none⟩ n old ((w.alloc (.cells #[.pointer (some ⟨6, 88, none⟩), .pointer (some va), .int .u64 150] 125)).alloc (.cells #[.int .i64 n] 78))
    (by rw [World.cell?_alloc_at _ _ _ _ (by simp)]; rfl)
    (by rw [World.cell?_alloc_lt _ _ t (by simp; omega), World.cell?_alloc_lt _ _ t htl]; exact ht0)
    (by rw [World.frozen?_alloc_old _ _ t (by simp; omega), World.frozen?_alloc_old _ _ t (Nat.ne_of_lt htl)]; exact hf0)
  clear hc hva ht0 hf0
  go_enter Tryz.func89, Tryz.ntmps89
  go_wp2_with fail
  refine wp_loop_rounds 2 ?_
  rw [rounds_succ]
  go_wp2_with fail
  with_reducible refine (HU.out).mono ?_
  rintro e w' ⟨rfl, rfl⟩
  go_wp2_with fail
  rw [rounds_succ]
  go_wp2
  go_ret
  exact ⟨rfl, rfl⟩
end
section
open Go.RowKit Go.Extern.Stop Go.Stop Go.Extern

theorem valueOfAt (p : Addr) (w : World) : (ReflectliteValue.unpack (.iface 190 (.pointer (some p)))).run Tryz.prog w
    = .ok (.agg #[.pointer (some ⟨6, 190, none⟩), .pointer (some ⟨w.heap.size, 0, none⟩), .int .u64 150]) (w.alloc (.cells #[.pointer (some p)] 190)) := by kernel_rfl
theorem mkAt (p : Addr) (w : World) : (ReflectliteValue.mk 190 p ReflectliteValue.flagAddr).run Tryz.prog w = .ok (.agg #[.pointer (some ⟨6, 190, none⟩), .pointer (some p), .int .u64 406]) w := by kernel_rfl
theorem partsAtA (a : Addr) (w : World) : (ReflectliteValue.parts (.agg #[.pointer (some ⟨6, 190, none⟩), .pointer (some a), .int .u64 406])).run Tryz.prog w = .ok (some (190, a, 406)) w := by kernel_rfl
theorem partsAt (a : Addr) (w : World) : (ReflectliteValue.parts (.agg #[.pointer (some ⟨6, 190, none⟩), .pointer (some a), .int .u64 150])).run Tryz.prog w = .ok (some (190, a, 150)) w := by kernel_rfl
theorem directAt (w : World) : (Rtype.directlyAssignable 190 190).run Tryz.prog w = .ok true w := by kernel_rfl
theorem setAt (ta c p : Addr) (old : Value) (W : World) (hb : W.cell? c = some (.pointer (some p))) (ht : W.cell? ta = some old) (hf : W.frozen? ta = false) :
    (ReflectliteValue.set #[.agg #[.pointer (some ⟨6, 190, none⟩), .pointer (some ta), .int .u64 406], .agg #[.pointer (some ⟨6, 190, none⟩), .pointer (some c), .int .u64 150]]).run Tryz.prog W
      = .ok (.tuple #[]) (W.setCell ta (.pointer (some p))) := by
  change Sem.run Tryz.prog (Bind.bind (ReflectliteValue.parts (.agg #[.pointer (some ⟨6, 190, none⟩), .pointer (some ta), .int .u64 406])) fun _ => Bind.bind (ReflectliteValue.parts (.agg #[.pointer (some ⟨6, 190, none⟩), .pointer (some c), .int .u64 150])) _) W = _
  simp only [Sem.run_bind, partsAtA, partsAt, Result.andThen]
  simp [ReflectliteValue.flagAddr, loadVar, isAgg, underlying, Tryz.underlying190, hb, Result.andThen, directAt, storeVar, Value.cells, storeCells, Addr.add]
  rw [run_store Tryz.prog W ta _ _ (by rfl)]
  simp [ht, hf]

end
section
open Go.RowKit Go.Extern.Stop Go.Stop Go.Extern

theorem kindAt (w : World) : ((ReflectliteType.abiMethod fun t => (fun a : Nat => Value.int IntKind.u8 (a : Int)) <$> Rtype.kind t) #[.pointer (some ⟨6, 190, none⟩)]).run Tryz.prog w = .ok (.int .u8 22) w := by kernel_rfl
theorem implementsAt (w : World) : (ReflectliteType.relation "Implements" ReflectliteType.implements_ #[.agg #[.pointer (some ⟨6, 190, none⟩)], .iface 163 (.agg #[.pointer (some ⟨6, 29, none⟩)])]).run Tryz.prog w = .ok (.bool true) w := by kernel_rfl

set_option maxHeartbeats 4000000 in
theorem as_errno (T : TypeId) (v : Value) (t : Addr) (r : Bool) (R : World → Prop) (w : World) (hg : w.cell? ⟨0, 0, none⟩ = some (.iface 163 (.agg #[.pointer (some ⟨6, 29, none⟩)])))
    (hin : Calls Tryz.prog 89 #[.iface T v, .iface 88 (.pointer (some t)), .agg #[.pointer (some ⟨6, 88, none⟩), .pointer (some ⟨w.heap.size, 0, none⟩), .int .u64 150], .iface 163 (.agg #[.pointer (some ⟨6, 78, none⟩)])]
      ((w.alloc (.cells #[.pointer (some t)] 88)).alloc (.cells #[.pointer (some ⟨6, 88, none⟩), .pointer (some ⟨w.heap.size, 0, none⟩), .int .u64 150] 125)) fun ev w' => ev = .returned (.bool r) ∧ R w') :
    Calls Tryz.prog 50 #[.iface T v, .iface 88 (.pointer (some t))] w fun ev w' => ev = .returned (.bool r) ∧ R w' := by
  have h6 := @run_callFunc_extern Tryz.prog 86 _ (fun args => ReflectliteValue.unpack (args.getD 0 (.tuple #[]))) Tryz.func86 (by kernel_rfl) (by kernel_rfl) (by kernel_rfl) (by kernel_rfl)
  have h7 := @run_callFunc_extern Tryz.prog 87 _ (ReflectliteValue.methodAny (ReflectliteValue.valueError "reflectlite.Value.Type" 0) (fun t _ _ _ => ReflectliteType.toType t)) Tryz.func87 (by kernel_rfl) (by kernel_rfl) (by kernel_rfl) (by kernel_rfl)
  have h8 := @run_callFunc_extern Tryz.prog 88 _ (ReflectliteValue.method (ReflectliteValue.valueError "reflectlite.Value.IsNil" 0) ReflectliteValue.isNil) Tryz.func88 (by kernel_rfl) (by kernel_rfl) (by kernel_rfl) (by kernel_rfl)
  have h27 := @run_callFunc_extern Tryz.prog 219 _ (ReflectliteType.abiMethod fun t => do pure (.int .u8 (← Rtype.kind t))) Tryz.func219 (by kernel_rfl) (by kernel_rfl) (by kernel_rfl) (by kernel_rfl)
  have h37 := @run_callFunc_extern Tryz.prog 229 _ (ReflectliteType.method ReflectliteType.elem) Tryz.func229 (by kernel_rfl) (by kernel_rfl) (by kernel_rfl) (by kernel_rfl)
  have h38 := @run_callFunc_extern Tryz.prog 230 _ (ReflectliteType.relation "Implements" ReflectliteType.implements_) Tryz.func230 (by kernel_rfl) (by kernel_rfl) (by kernel_rfl) (by kernel_rfl)
  have f6 := valueOf58
  have f7 := type58
  have mK := methodKind
  have mE := methodElem
  have mI := methodImplements
  have k27 := kind58
  have k25 := kind56
  have e27 := elem58
  have i25 := implements56
  have n8 := isNil58 ⟨w.heap.size, 0, none⟩ t ((w.alloc (.cells #[.pointer (some t)] 88)).alloc (.cells #[.pointer (some ⟨6, 88, none⟩), .pointer (some ⟨w.heap.size, 0, none⟩), .int .u64 150] 125)) (by simp)
  have hlt : 0 < w.heap.size := World.block_lt_of_cell? w _ hg
  have hg2 : ((w.alloc (.cells #[.pointer (some t)] 88)).alloc (.cells #[.pointer (some ⟨6, 88, none⟩), .pointer (some ⟨w.heap.size, 0, none⟩), .int .u64 150] 125)).cell? ⟨0, 0, none⟩ = some (.iface 163 (.agg #[.pointer (some ⟨6, 29, none⟩)])) := by
    rw [World.cell?_alloc_lt _ _ ⟨0, 0, none⟩ (by simp), World.cell?_alloc_lt _ _ ⟨0, 0, none⟩ hlt]; exact hg
  have HIN := Lib.hid hin
  clear hin hg
  go_enter Tryz.func50, Tryz.ntmps50
  go_wp2_with (first | (go_at_call 89; fail) | (go_at_call 89; (with_reducible refine (HIN.out).mono ?_); rintro e w' ⟨rfl, hR⟩) | go_in)
  go_ret
  exact ⟨rfl, hR⟩

end
section
open Go.RowKit

/-- An error at a place, in memory. -/
structure AtE (w : World) (b : Nat) (p n : Int) : Prop where
  pos : w.cell? ⟨b, 0, none⟩ = some (.int .i64 p)
  err : w.cell? ⟨b, 1, none⟩ = some (.iface 78 (.int .i64 n))
  typ : ∃ cs, w.heap[b]? = some (.cells cs 192 (0, 0))
theorem AtE.lt {w : World} {b : Nat} {p n : Int} (h : AtE w b p n) : b < w.heap.size := World.block_lt_of_cell? w _ h.pos
theorem AtE.below {w w' : World} {b : Nat} {p n : Int} (h : AtE w b p n) (hb : Below w.heap.size w w') : AtE w' b p n :=
  ⟨(hb.cell (p := ⟨b, 0, none⟩) h.lt).trans h.pos, (hb.cell (p := ⟨b, 1, none⟩) h.lt).trans h.err, h.typ.imp fun _ q => (hb.block b h.lt).trans q⟩

set_option maxHeartbeats 1000000 in
theorem num_at (b : Nat) (p n : Int) (w : World) (hG : Glob w) (hA : AtE w b p n) : Calls Tryz.prog 18 #[.iface 190 (.pointer (some ⟨b, 0, none⟩))] w fun e w' => e = .returned (.int .i64 n) ∧ Below w.heap.size w w' := by
  have hlt := hA.lt
  have hb0 : Below w.heap.size w (w.alloc (.cells #[.int .i64 0] 78)) := (Below.refl _ _).alloc (Nat.le_refl _) _
  have hc := (hA.below hb0).err
  have H := Lib.hid (as_errno 190 (.pointer (some ⟨b, 0, none⟩)) ⟨w.heap.size, 0, none⟩ true _ (w.alloc (.cells #[.int .i64 0] 78)) (hG.below hb0).err
    (asin_at b n ⟨w.heap.size, 0, none⟩ ⟨(w.alloc (.cells #[.int .i64 0] 78)).heap.size, 0, none⟩ (.iface 88 (.pointer (some ⟨w.heap.size, 0, none⟩))) (.int .i64 0) _
      (by rw [World.cell?_alloc_lt _ _ _ (by simp; omega), World.cell?_alloc_lt _ _ _ (by simp; omega)]; exact hc)
      (by rw [World.cell?_alloc_lt _ _ _ (by simp)]; simp)
      (by rw [World.cell?_alloc_lt _ _ _ (by simp; omega), World.cell?_alloc_lt _ _ _ (by simp)]; simp)
      (by rw [World.frozen?_alloc_old _ _ _ (by simp; omega), World.frozen?_alloc_old _ _ _ (by simp)]; simp)))
  clear hb0 hc hA hG
  go_enter Tryz.func18, Tryz.ntmps18
  go_wp2_with fail
  with_reducible refine (H.out).mono ?_
  rintro e w' ⟨rfl, rfl⟩
  go_wp2
  go_ret
  refine ⟨rfl, ?_⟩
  exact (((((Below.refl _ _).alloc (Nat.le_refl _) _).alloc (by simp) _).alloc (by simp; omega) _).alloc (by simp; omega) _).alloc (by simp; omega) _

end
end Go.Proofs.YtmgjpjjglghbaaaGreatDoor
