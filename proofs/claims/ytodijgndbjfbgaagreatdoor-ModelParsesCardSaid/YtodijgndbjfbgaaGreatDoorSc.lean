import Derived.Test.YtodijgndbjfbgaaGreatDoorSb
namespace Go.Proofs.YtodijgndbjfbgaaGreatDoor
set_option maxHeartbeats 16000000
set_option maxRecDepth 100000
section
open Go.RowKit Go.Extern.Stop Go.Stop Go.Extern
theorem LM(v:Value)(w:World):(ReflectliteType.typeOf #[.iface 101 v]).run Tryz.prog w= .ok (.iface 173 (.agg #[.pointer (some ⟨7,101,none⟩)])) w:=by kernel_rfl
theorem Je(w:World):(ReflectliteType.relation "AssignableTo" ReflectliteType.assignableTo #[.agg #[.pointer (some ⟨7,101,none⟩)],.iface 173 (.agg #[.pointer (some ⟨7,61,none⟩)])]).run Tryz.prog w= .ok (.bool false) w:=by kernel_rfl
theorem Mf(w:World):(ReflectliteType.relation "AssignableTo" ReflectliteType.assignableTo #[.agg #[.pointer (some ⟨7,101,none⟩)],.iface 173 (.agg #[.pointer (some ⟨7,101,none⟩)])]).run Tryz.prog w= .ok (.bool true) w:=by kernel_rfl
theorem Jl(w:World):(ReflectliteType.relation "AssignableTo" ReflectliteType.assignableTo #[.agg #[.pointer (some ⟨7,61,none⟩)],.iface 173 (.agg #[.pointer (some ⟨7,101,none⟩)])]).run Tryz.prog w= .ok (.bool false) w:=by kernel_rfl
theorem Ke(p:Value)(w:World):(Go.method 400 101 p "Unwrap").run Tryz.prog w= .ok (207,p) w:=by kernel_rfl
theorem Wy(v:Value)(x:TypeId)(w:World):(Instr.typeAssert (.iface 101 v) x 178 true).run Tryz.prog w= .ok (.tuple #[.nilIface,.bool false]) w:=
 run_typeAssert_lacksB Tryz.underlying178 (by kernel_rfl) (by kernel_rfl) v x w
theorem Pn(v:Value)(x:TypeId)(w:World):(Instr.typeAssert (.iface 101 v) x 181 true).run Tryz.prog w= .ok (.tuple #[.iface 101 v,.bool true]) w:=
 run_typeAssert_hasB Tryz.underlying181 (by kernel_rfl) v x w
theorem Wi(v:Value)(x:TypeId)(w:World):(Instr.typeAssert (.iface 61 v) x 178 true).run Tryz.prog w= .ok (.tuple #[.nilIface,.bool false]) w:=
 run_typeAssert_lacksB Tryz.underlying178 (by kernel_rfl) (by kernel_rfl) v x w
theorem Mx(v:Value)(x:TypeId)(w:World):(Instr.typeAssert (.iface 61 v) x 181 true).run Tryz.prog w= .ok (.tuple #[.nilIface,.bool false]) w:=
 run_typeAssert_lacksB Tryz.underlying181 (by kernel_rfl) (by kernel_rfl) v x w
theorem LZ(v:Value)(x:TypeId)(w:World):(Instr.typeAssert (.iface 61 v) x 183 true).run Tryz.prog w= .ok (.tuple #[.nilIface,.bool false]) w:=
 run_typeAssert_lacksB Tryz.underlying183 (by kernel_rfl) (by kernel_rfl) v x w
theorem Om(b:Nat)(e:Value)(w:World)(hc:w.cell? ⟨b,1,none⟩=some e):Calls Tryz.prog 207 #[.pointer (some ⟨b,0,none⟩)] w fun ev w'=>ev= .returned e/\w=w':=by go_enter Tryz.func207,Tryz.ntmps207;go_wp2;go_ret;exact⟨rfl,rfl⟩
end
section
open Go.RowKit Go.Extern.Stop Go.Stop Go.Extern
theorem T8(b:Nat)(n:Int)(t va:Addr)(tg old:Value)(w:World)(hc:w.cell? ⟨b,1,none⟩=some (.iface 61 (.int .i64 n)))(hva:w.cell? va=some (.pointer (some t)))(ht0:w.cell? t=some old)(hf0:w.frozen? t=false):
 Calls Tryz.prog 55 #[.iface 101 (.pointer (some ⟨b,0,none⟩)),tg,.agg #[.pointer (some ⟨7,100,none⟩),.pointer (some va),.int .u64 150],.iface 173 (.agg #[.pointer (some ⟨7,61,none⟩)])] w fun ev w'=>
  ev= .returned (.bool true)/\w'=((w.alloc (.cells #[.pointer (some ⟨7,100,none⟩),.pointer (some va),.int .u64 150] 139)).alloc (.cells #[.int .i64 n] 61)).setCell t (.int .i64 n):=by
 have j:= @run_callFunc_extern Tryz.prog 86 _ ReflectliteType.typeOf Tryz.func86 (by kernel_rfl) (by kernel_rfl) (by kernel_rfl) (by kernel_rfl);have m:= @run_callFunc_extern Tryz.prog 212 _ (ReflectliteType.relation "AssignableTo" ReflectliteType.assignableTo) Tryz.func212 (by kernel_rfl) (by kernel_rfl) (by kernel_rfl) (by kernel_rfl);have q:= @run_callFunc_extern Tryz.prog 52 _ (fun a=>ReflectliteValue.unpack (a.getD 0 (.tuple #[]))) Tryz.func52 (by kernel_rfl) (by kernel_rfl) (by kernel_rfl) (by kernel_rfl);have k:= @run_callFunc_extern Tryz.prog 87 _ (ReflectliteValue.method (ReflectliteValue.valueError "reflectlite.Value.Elem" 0) ReflectliteValue.elem) Tryz.func87 (by kernel_rfl) (by kernel_rfl) (by kernel_rfl) (by kernel_rfl);have l:= @run_callFunc_extern Tryz.prog 88 _ ReflectliteValue.set Tryz.func88 (by kernel_rfl) (by kernel_rfl) (by kernel_rfl) (by kernel_rfl);have x:=JW;have v:=LM;have r:=CP;have s:=Ke;have h:=G3;have i:=Je;have o:=Jv;have y:=Wy;have z:=Pn;have d:b<w.heap.size:=World.block_lt_of_cell? w _ hc;have f:va.block<w.heap.size:=World.block_lt_of_cell? w _ hva;have c:t.block<w.heap.size:=World.block_lt_of_cell? w _ ht0;have g:=zz (Om b (.iface 61 (.int .i64 n)) (w.alloc (.cells #[.pointer (some ⟨7,100,none⟩),.pointer (some va),.int .u64 150] 139)) (by rw[World.cell?_alloc_lt _ _ _ d];exact hc));have p:=OL va t (w.alloc (.cells #[.pointer (some ⟨7,100,none⟩),.pointer (some va),.int .u64 150] 139)) (by rw[World.cell?_alloc_lt _ _ va f];exact hva)
 have u:=VG t ⟨w.heap.size+1,0,none⟩ n old ((w.alloc (.cells #[.pointer (some ⟨7,100,none⟩),.pointer (some va),.int .u64 150] 139)).alloc (.cells #[.int .i64 n] 61))
  (by rw[World.cell?_alloc_at _ _ _ _ (by simp)];rfl)
  (by rw[World.cell?_alloc_lt _ _ t (by simp;omega),World.cell?_alloc_lt _ _ t c];exact ht0)
  (by rw[World.frozen?_alloc_old _ _ t (by simp;omega),World.frozen?_alloc_old _ _ t (Nat.ne_of_lt c)];exact hf0)
 clear hc hva ht0 hf0;go_enter Tryz.func55,Tryz.ntmps55;go_wp2_with fail;refine wp_loop_rounds 2 ?_;rw[rounds_succ];go_wp2_with fail;(with_reducible refine(g.out).mono ?_);rintro e w' ⟨rfl,rfl⟩
 go_wp2_with fail;rw[rounds_succ];go_wp2;go_ret;exact⟨rfl,rfl⟩
end
section
open Go.RowKit Go.Extern.Stop Go.Stop Go.Extern
theorem Pj(p:Addr)(w:World):(ReflectliteValue.unpack (.iface 101 (.pointer (some p)))).run Tryz.prog w
 = .ok (.agg #[.pointer (some ⟨7,101,none⟩),.pointer (some ⟨w.heap.size,0,none⟩),.int .u64 150]) (w.alloc (.cells #[.pointer (some p)] 101)):=by kernel_rfl
theorem KH(a:Addr)(w:World):(ReflectliteValue.parts (.agg #[.pointer (some ⟨7,102,none⟩),.pointer (some a),.int .u64 150])).run Tryz.prog w= .ok (some (102,a,150)) w:=by kernel_rfl
theorem Nc(w:World):(Rtype.elem? 102).run Tryz.prog w= .ok (some 101) w:=by kernel_rfl
theorem Ya(p:Addr)(w:World):(ReflectliteValue.mk 101 p ReflectliteValue.flagAddr).run Tryz.prog w= .ok (.agg #[.pointer (some ⟨7,101,none⟩),.pointer (some p),.int .u64 406]) w:=by kernel_rfl
theorem S4(a p:Addr)(W:World)(ha:W.cell? a=some (.pointer (some p))):
 (ReflectliteValue.method (ReflectliteValue.valueError "reflectlite.Value.Elem" 0) ReflectliteValue.elem #[.agg #[.pointer (some ⟨7,102,none⟩),.pointer (some a),.int .u64 150]]).run Tryz.prog W
   = .ok (.agg #[.pointer (some ⟨7,101,none⟩),.pointer (some p),.int .u64 406]) W:=by
 change Sem.run Tryz.prog (Bind.bind (ReflectliteValue.parts (.agg #[.pointer (some ⟨7,102,none⟩),.pointer (some a),.int .u64 150])) _) W=_;simp only[Sem.run_bind,KH,Result.andThen];simp[ReflectliteValue.elem,loadVar,isAgg,underlying,Tryz.underlying102,ha,Result.andThen,Nc,Ya]
theorem QJ(a:Addr)(w:World):(ReflectliteValue.parts (.agg #[.pointer (some ⟨7,101,none⟩),.pointer (some a),.int .u64 406])).run Tryz.prog w= .ok (some (101,a,406)) w:=by kernel_rfl
theorem Tx(a:Addr)(w:World):(ReflectliteValue.parts (.agg #[.pointer (some ⟨7,101,none⟩),.pointer (some a),.int .u64 150])).run Tryz.prog w= .ok (some (101,a,150)) w:=by kernel_rfl
theorem RU(w:World):(Rtype.directlyAssignable 101 101).run Tryz.prog w= .ok true w:=by kernel_rfl
theorem XU(ta c p:Addr)(old:Value)(W:World)(hb:W.cell? c=some (.pointer (some p)))(ht:W.cell? ta=some old)(hf:W.frozen? ta=false):
 (ReflectliteValue.set #[.agg #[.pointer (some ⟨7,101,none⟩),.pointer (some ta),.int .u64 406],.agg #[.pointer (some ⟨7,101,none⟩),.pointer (some c),.int .u64 150]]).run Tryz.prog W
   = .ok (.tuple #[]) (W.setCell ta (.pointer (some p))):=by
 change Sem.run Tryz.prog (Bind.bind (ReflectliteValue.parts (.agg #[.pointer (some ⟨7,101,none⟩),.pointer (some ta),.int .u64 406])) fun _=>Bind.bind (ReflectliteValue.parts (.agg #[.pointer (some ⟨7,101,none⟩),.pointer (some c),.int .u64 150])) _) W=_;simp only[Sem.run_bind,QJ,Tx,Result.andThen];simp[ReflectliteValue.flagAddr,loadVar,isAgg,underlying,Tryz.underlying101,hb,Result.andThen,RU,storeVar,Value.cells,storeCells,Addr.add];rw[run_store Tryz.prog W ta _ _ (by rfl)];simp[ht,hf]
theorem MO(p t va:Addr)(tg old:Value)(w:World)(hva:w.cell? va=some (.pointer (some t)))(ht0:w.cell? t=some old)(hf0:w.frozen? t=false):
 Calls Tryz.prog 55 #[.iface 101 (.pointer (some p)),tg,.agg #[.pointer (some ⟨7,102,none⟩),.pointer (some va),.int .u64 150],.iface 173 (.agg #[.pointer (some ⟨7,101,none⟩)])] w fun ev w'=>
  ev= .returned (.bool true)/\w'=((w.alloc (.cells #[.pointer (some ⟨7,102,none⟩),.pointer (some va),.int .u64 150] 139)).alloc (.cells #[.pointer (some p)] 101)).setCell t (.pointer (some p)):=by
 have e:= @run_callFunc_extern Tryz.prog 86 _ ReflectliteType.typeOf Tryz.func86 (by kernel_rfl) (by kernel_rfl) (by kernel_rfl) (by kernel_rfl);have h:= @run_callFunc_extern Tryz.prog 212 _ (ReflectliteType.relation "AssignableTo" ReflectliteType.assignableTo) Tryz.func212 (by kernel_rfl) (by kernel_rfl) (by kernel_rfl) (by kernel_rfl);have j:= @run_callFunc_extern Tryz.prog 52 _ (fun a=>ReflectliteValue.unpack (a.getD 0 (.tuple #[]))) Tryz.func52 (by kernel_rfl) (by kernel_rfl) (by kernel_rfl) (by kernel_rfl);have f:= @run_callFunc_extern Tryz.prog 87 _ (ReflectliteValue.method (ReflectliteValue.valueError "reflectlite.Value.Elem" 0) ReflectliteValue.elem) Tryz.func87 (by kernel_rfl) (by kernel_rfl) (by kernel_rfl) (by kernel_rfl);have g:= @run_callFunc_extern Tryz.prog 88 _ ReflectliteValue.set Tryz.func88 (by kernel_rfl) (by kernel_rfl) (by kernel_rfl) (by kernel_rfl);have m:=LM;have k:=CP;have d:=Mf;have n:=Pj;have c:va.block<w.heap.size:=World.block_lt_of_cell? w _ hva;have b:t.block<w.heap.size:=World.block_lt_of_cell? w _ ht0;have i:=S4 va t (w.alloc (.cells #[.pointer (some ⟨7,102,none⟩),.pointer (some va),.int .u64 150] 139)) (by rw[World.cell?_alloc_lt _ _ va c];exact hva)
 have l:=XU t ⟨w.heap.size+1,0,none⟩ p old ((w.alloc (.cells #[.pointer (some ⟨7,102,none⟩),.pointer (some va),.int .u64 150] 139)).alloc (.cells #[.pointer (some p)] 101))
  (by rw[World.cell?_alloc_at _ _ _ _ (by simp)];rfl)
  (by rw[World.cell?_alloc_lt _ _ t (by simp;omega),World.cell?_alloc_lt _ _ t b];exact ht0)
  (by rw[World.frozen?_alloc_old _ _ t (by simp;omega),World.frozen?_alloc_old _ _ t (Nat.ne_of_lt b)];exact hf0)
 clear hva ht0 hf0;go_enter Tryz.func55,Tryz.ntmps55;go_wp2_with fail;refine wp_loop_rounds 1 ?_;rw[rounds_succ];go_wp2;go_ret;exact⟨rfl,rfl⟩
theorem On(n:Int)(va:Addr)(tg:Value)(w:World):
 Calls Tryz.prog 55 #[.iface 61 (.int .i64 n),tg,.agg #[.pointer (some ⟨7,102,none⟩),.pointer (some va),.int .u64 150],.iface 173 (.agg #[.pointer (some ⟨7,101,none⟩)])] w fun ev w'=>
  ev= .returned (.bool false)/\w'=w.alloc (.cells #[.pointer (some ⟨7,102,none⟩),.pointer (some va),.int .u64 150] 139):=by
 have b:= @run_callFunc_extern Tryz.prog 86 _ ReflectliteType.typeOf Tryz.func86 (by kernel_rfl) (by kernel_rfl) (by kernel_rfl) (by kernel_rfl);have c:= @run_callFunc_extern Tryz.prog 212 _ (ReflectliteType.relation "AssignableTo" ReflectliteType.assignableTo) Tryz.func212 (by kernel_rfl) (by kernel_rfl) (by kernel_rfl) (by kernel_rfl);have e:=JW;have d:=CP;have a:=Jl;have f:=Wi;have g:=Mx;have h:=LZ;go_enter Tryz.func55,Tryz.ntmps55;go_wp2_with fail;refine wp_loop_rounds 1 ?_;rw[rounds_succ];go_wp2;go_ret;exact⟨rfl,rfl⟩
end
section
open Go.RowKit Go.Extern.Stop Go.Stop Go.Extern
theorem Vo(a:Addr)(w:World):(ReflectliteValue.methodAny (ReflectliteValue.valueError "reflectlite.Value.Type" 0) (fun t _ _ _=>ReflectliteType.toType t) #[.agg #[.pointer (some ⟨7,102,none⟩),.pointer (some a),.int .u64 150]]).run Tryz.prog w
 = .ok (.iface 173 (.agg #[.pointer (some ⟨7,102,none⟩)])) w:=by kernel_rfl
theorem Pp(t:Addr)(w:World):(ReflectliteValue.unpack (.iface 102 (.pointer (some t)))).run Tryz.prog w
 = .ok (.agg #[.pointer (some ⟨7,102,none⟩),.pointer (some ⟨w.heap.size,0,none⟩),.int .u64 150]) (w.alloc (.cells #[.pointer (some t)] 102)):=by kernel_rfl
theorem Wx(w:World):((ReflectliteType.abiMethod fun t=>(fun a:Nat=>Value.int IntKind.u8 (a:Int))<$>Rtype.kind t) #[.pointer (some ⟨7,102,none⟩)]).run Tryz.prog w= .ok (.int .u8 22) w:=by kernel_rfl
theorem V2(w:World):((ReflectliteType.abiMethod fun t=>(fun a:Nat=>Value.int IntKind.u8 (a:Int))<$>Rtype.kind t) #[.pointer (some ⟨7,101,none⟩)]).run Tryz.prog w= .ok (.int .u8 22) w:=by kernel_rfl
theorem TP(a p:Addr)(W:World)(ha:W.cell? a=some (.pointer (some p))):
 (ReflectliteValue.method (ReflectliteValue.valueError "reflectlite.Value.IsNil" 0) ReflectliteValue.isNil #[.agg #[.pointer (some ⟨7,102,none⟩),.pointer (some a),.int .u64 150]]).run Tryz.prog W= .ok (.bool false) W:=by
 change Sem.run Tryz.prog (Bind.bind (ReflectliteValue.parts (.agg #[.pointer (some ⟨7,102,none⟩),.pointer (some a),.int .u64 150])) _) W=_;simp only[Sem.run_bind,KH,Result.andThen];simp[ReflectliteValue.isNil,loadVar,isAgg,underlying,Tryz.underlying102,ha,Result.andThen]
theorem Wr(w:World):(ReflectliteType.method ReflectliteType.elem #[.agg #[.pointer (some ⟨7,102,none⟩)]]).run Tryz.prog w= .ok (.iface 173 (.agg #[.pointer (some ⟨7,101,none⟩)])) w:=by kernel_rfl
theorem KX(w:World):(ReflectliteType.relation "Implements" ReflectliteType.implements_ #[.agg #[.pointer (some ⟨7,101,none⟩)],.iface 173 (.agg #[.pointer (some ⟨7,28,none⟩)])]).run Tryz.prog w= .ok (.bool true) w:=by kernel_rfl
theorem Sl(T:TypeId)(v:Value)(t:Addr)(r:Bool)(R:World->Prop)(w:World)(hg:w.cell? ⟨0,0,none⟩=some (.iface 173 (.agg #[.pointer (some ⟨7,28,none⟩)])))
 (hin:Calls Tryz.prog 55 #[.iface T v,.iface 100 (.pointer (some t)),.agg #[.pointer (some ⟨7,100,none⟩),.pointer (some ⟨w.heap.size,0,none⟩),.int .u64 150],.iface 173 (.agg #[.pointer (some ⟨7,61,none⟩)])]
   ((w.alloc (.cells #[.pointer (some t)] 100)).alloc (.cells #[.pointer (some ⟨7,100,none⟩),.pointer (some ⟨w.heap.size,0,none⟩),.int .u64 150] 139)) fun ev w'=>ev= .returned (.bool r)/\R w'):
 Calls Tryz.prog 27 #[.iface T v,.iface 100 (.pointer (some t))] w fun ev w'=>ev= .returned (.bool r)/\R w':=by
 have p:= @run_callFunc_extern Tryz.prog 52 _ (fun a=>ReflectliteValue.unpack (a.getD 0 (.tuple #[]))) Tryz.func52 (by kernel_rfl) (by kernel_rfl) (by kernel_rfl) (by kernel_rfl);have q:= @run_callFunc_extern Tryz.prog 53 _ (ReflectliteValue.methodAny (ReflectliteValue.valueError "reflectlite.Value.Type" 0) (fun t _ _ _=>ReflectliteType.toType t)) Tryz.func53 (by kernel_rfl) (by kernel_rfl) (by kernel_rfl) (by kernel_rfl);have s:= @run_callFunc_extern Tryz.prog 54 _ (ReflectliteValue.method (ReflectliteValue.valueError "reflectlite.Value.IsNil" 0) ReflectliteValue.isNil) Tryz.func54 (by kernel_rfl) (by kernel_rfl) (by kernel_rfl) (by kernel_rfl);have f:= @run_callFunc_extern Tryz.prog 202 _ (ReflectliteType.abiMethod fun t=>do pure (.int .u8 (<- Rtype.kind t))) Tryz.func202 (by kernel_rfl) (by kernel_rfl) (by kernel_rfl) (by kernel_rfl);have g:= @run_callFunc_extern Tryz.prog 214 _ (ReflectliteType.method ReflectliteType.elem) Tryz.func214 (by kernel_rfl) (by kernel_rfl) (by kernel_rfl) (by kernel_rfl);have h:= @run_callFunc_extern Tryz.prog 215 _ (ReflectliteType.relation "Implements" ReflectliteType.implements_) Tryz.func215 (by kernel_rfl) (by kernel_rfl) (by kernel_rfl) (by kernel_rfl);have n:=J6;have o:=RS;have y:=Gg;have u:=GX;have x:=DY;have m:=R0;have l:=ST;have d:=Qj;have k:=Gu;have z:=Nn ⟨w.heap.size,0,none⟩ t ((w.alloc (.cells #[.pointer (some t)] 100)).alloc (.cells #[.pointer (some ⟨7,100,none⟩),.pointer (some ⟨w.heap.size,0,none⟩),.int .u64 150] 139)) (by simp);have c:0<w.heap.size:=World.block_lt_of_cell? w _ hg;have j:((w.alloc (.cells #[.pointer (some t)] 100)).alloc (.cells #[.pointer (some ⟨7,100,none⟩),.pointer (some ⟨w.heap.size,0,none⟩),.int .u64 150] 139)).cell? ⟨0,0,none⟩=some (.iface 173 (.agg #[.pointer (some ⟨7,28,none⟩)])):=(by rw[World.cell?_alloc_lt _ _ ⟨0,0,none⟩ (by simp),World.cell?_alloc_lt _ _ ⟨0,0,none⟩ c];exact hg);have b:=zz hin;clear hin hg;go_enter Tryz.func27,Tryz.ntmps27;go_wp2_with (first | (go_at_call 55;fail) | (go_at_call 55;(with_reducible refine(b.out).mono ?_);rintro e w' ⟨rfl,i⟩) | go_in);go_ret;exact⟨rfl,i⟩
theorem LO(T:TypeId)(v:Value)(t:Addr)(r:Bool)(R:World->Prop)(w:World)(hg:w.cell? ⟨0,0,none⟩=some (.iface 173 (.agg #[.pointer (some ⟨7,28,none⟩)])))
 (hin:Calls Tryz.prog 55 #[.iface T v,.iface 102 (.pointer (some t)),.agg #[.pointer (some ⟨7,102,none⟩),.pointer (some ⟨w.heap.size,0,none⟩),.int .u64 150],.iface 173 (.agg #[.pointer (some ⟨7,101,none⟩)])]
   ((w.alloc (.cells #[.pointer (some t)] 102)).alloc (.cells #[.pointer (some ⟨7,102,none⟩),.pointer (some ⟨w.heap.size,0,none⟩),.int .u64 150] 139)) fun ev w'=>ev= .returned (.bool r)/\R w'):
 Calls Tryz.prog 27 #[.iface T v,.iface 102 (.pointer (some t))] w fun ev w'=>ev= .returned (.bool r)/\R w':=by
 have p:= @run_callFunc_extern Tryz.prog 52 _ (fun a=>ReflectliteValue.unpack (a.getD 0 (.tuple #[]))) Tryz.func52 (by kernel_rfl) (by kernel_rfl) (by kernel_rfl) (by kernel_rfl);have q:= @run_callFunc_extern Tryz.prog 53 _ (ReflectliteValue.methodAny (ReflectliteValue.valueError "reflectlite.Value.Type" 0) (fun t _ _ _=>ReflectliteType.toType t)) Tryz.func53 (by kernel_rfl) (by kernel_rfl) (by kernel_rfl) (by kernel_rfl);have s:= @run_callFunc_extern Tryz.prog 54 _ (ReflectliteValue.method (ReflectliteValue.valueError "reflectlite.Value.IsNil" 0) ReflectliteValue.isNil) Tryz.func54 (by kernel_rfl) (by kernel_rfl) (by kernel_rfl) (by kernel_rfl);have f:= @run_callFunc_extern Tryz.prog 202 _ (ReflectliteType.abiMethod fun t=>do pure (.int .u8 (<- Rtype.kind t))) Tryz.func202 (by kernel_rfl) (by kernel_rfl) (by kernel_rfl) (by kernel_rfl);have g:= @run_callFunc_extern Tryz.prog 214 _ (ReflectliteType.method ReflectliteType.elem) Tryz.func214 (by kernel_rfl) (by kernel_rfl) (by kernel_rfl) (by kernel_rfl);have h:= @run_callFunc_extern Tryz.prog 215 _ (ReflectliteType.relation "Implements" ReflectliteType.implements_) Tryz.func215 (by kernel_rfl) (by kernel_rfl) (by kernel_rfl) (by kernel_rfl);have n:=Pp;have o:=Vo;have y:=Gg;have u:=GX;have x:=DY;have m:=Wx;have l:=V2;have d:=Wr;have k:=KX;have z:=TP ⟨w.heap.size,0,none⟩ t ((w.alloc (.cells #[.pointer (some t)] 102)).alloc (.cells #[.pointer (some ⟨7,102,none⟩),.pointer (some ⟨w.heap.size,0,none⟩),.int .u64 150] 139)) (by simp);have c:0<w.heap.size:=World.block_lt_of_cell? w _ hg;have j:((w.alloc (.cells #[.pointer (some t)] 102)).alloc (.cells #[.pointer (some ⟨7,102,none⟩),.pointer (some ⟨w.heap.size,0,none⟩),.int .u64 150] 139)).cell? ⟨0,0,none⟩=some (.iface 173 (.agg #[.pointer (some ⟨7,28,none⟩)])):=(by rw[World.cell?_alloc_lt _ _ ⟨0,0,none⟩ (by simp),World.cell?_alloc_lt _ _ ⟨0,0,none⟩ c];exact hg);have b:=zz hin;clear hin hg;go_enter Tryz.func27,Tryz.ntmps27;go_wp2_with (first | (go_at_call 55;fail) | (go_at_call 55;(with_reducible refine(b.out).mono ?_);rintro e w' ⟨rfl,i⟩) | go_in);go_ret;exact⟨rfl,i⟩
end
section
open Go.RowKit
structure EC(w:World)(b:Nat)(p n:Int):Prop where
 pos:w.cell? ⟨b,0,none⟩=some (.int .i64 p)
 err:w.cell? ⟨b,1,none⟩=some (.iface 61 (.int .i64 n))
 typ:∃cs,w.heap[b]?=some (.cells cs 104 (0,0))
theorem EC.lt{w:World}{b:Nat}{p n:Int}(h:EC w b p n):b<w.heap.size:=World.block_lt_of_cell? w _ h.pos
theorem EC.below{w w':World}{b:Nat}{p n:Int}(h:EC w b p n)(hb:Below w.heap.size w w'):EC w' b p n:=
 ⟨(hb.cell (p:=⟨b,0,none⟩) h.lt).trans h.pos,(hb.cell (p:=⟨b,1,none⟩) h.lt).trans h.err,h.typ.imp fun _ q=>(hb.block b h.lt).trans q⟩
theorem Sm(b:Nat)(p n:Int)(w:World)(hG:Ll w)(hA:EC w b p n):Calls Tryz.prog 9 #[.iface 101 (.pointer (some ⟨b,0,none⟩))] w fun e w'=>e= .returned (.int .i64 n)/\Below w.heap.size w w':=by
 have d:=hA.lt;have a:Below w.heap.size w (w.alloc (.cells #[.int .i64 0] 61)):=(Below.refl _ _).alloc (Nat.le_refl _) _;have c:=(hA.below a).err
 have H:=zz (Sl 101 (.pointer (some ⟨b,0,none⟩)) ⟨w.heap.size,0,none⟩ true _ (w.alloc (.cells #[.int .i64 0] 61)) (hG.below a).err
  (T8 b n ⟨w.heap.size,0,none⟩ ⟨(w.alloc (.cells #[.int .i64 0] 61)).heap.size,0,none⟩ (.iface 100 (.pointer (some ⟨w.heap.size,0,none⟩))) (.int .i64 0) _
    (by rw[World.cell?_alloc_lt _ _ _ (by simp;omega),World.cell?_alloc_lt _ _ _ (by simp;omega)];exact c)
    (by rw[World.cell?_alloc_lt _ _ _ (by simp)];simp)
    (by rw[World.cell?_alloc_lt _ _ _ (by simp;omega),World.cell?_alloc_lt _ _ _ (by simp)];simp)
    (by rw[World.frozen?_alloc_old _ _ _ (by simp;omega),World.frozen?_alloc_old _ _ _ (by simp)];simp)))
 clear a c hA hG;go_enter Tryz.func9,Tryz.ntmps9;go_wp2_with fail;(with_reducible refine(H.out).mono ?_);rintro e w' ⟨rfl,rfl⟩
 go_wp2;go_ret;refine⟨rfl,?_⟩;exact(((((Below.refl _ _).alloc (Nat.le_refl _) _).alloc (by simp) _).alloc (by simp;omega) _).alloc (by simp;omega) _).alloc (by simp;omega) _
theorem WN(b:Nat)(p n:Int)(w:World)(hG:Ll w)(hA:EC w b p n):Calls Tryz.prog 10 #[.iface 101 (.pointer (some ⟨b,0,none⟩))] w fun e w'=>e= .returned (.int .i64 p)/\Below w.heap.size w w':=by
 have i:=hA.lt;have a:Below w.heap.size w (w.alloc (.cells #[.pointer none] 101)):=(Below.refl _ _).alloc (Nat.le_refl _) _;have h:=hA.pos
 have H:=zz (LO 101 (.pointer (some ⟨b,0,none⟩)) ⟨w.heap.size,0,none⟩ true _ (w.alloc (.cells #[.pointer none] 101)) (hG.below a).err
  (MO ⟨b,0,none⟩ ⟨w.heap.size,0,none⟩ ⟨(w.alloc (.cells #[.pointer none] 101)).heap.size,0,none⟩ (.iface 102 (.pointer (some ⟨w.heap.size,0,none⟩))) (.pointer none) _
    (by rw[World.cell?_alloc_lt _ _ _ (by simp)];simp)
    (by rw[World.cell?_alloc_lt _ _ _ (by simp;omega),World.cell?_alloc_lt _ _ _ (by simp)];simp)
    (by rw[World.frozen?_alloc_old _ _ _ (by simp;omega),World.frozen?_alloc_old _ _ _ (by simp)];simp)))
 have f:=zz hA;clear a hA hG h;go_enter Tryz.func10,Tryz.ntmps10;go_wp2_with fail;(with_reducible refine(H.out).mono ?_);rintro e w' ⟨rfl,d⟩
 have c:Below w.heap.size w w':=(by rw[d];exact((((((Below.refl _ _).alloc (Nat.le_refl _) _).alloc (by simp) _).alloc (by simp;omega) _).alloc (by simp;omega) _).alloc (by simp;omega) _).setCell (by simp) _);have j:w'.cell? ⟨w.heap.size,0,none⟩=some (.pointer (some ⟨b,0,none⟩)):=(by rw[d];refine World.cell?_setCell_same _ _ _ (u:=.pointer none) ?_;rw[World.cell?_alloc_lt _ _ _ (by simp;omega),World.cell?_alloc_lt _ _ _ (by simp;omega),World.cell?_alloc_lt _ _ _ (by simp;omega),World.cell?_alloc_lt _ _ _ (by simp)];simp);have k:=(f.out.below c).pos;have g:=zz c;clear d c;go_wp2;go_ret;exact⟨rfl,g.out⟩
theorem PE(n:Int)(w:World)(hG:Ll w):Calls Tryz.prog 10 #[.iface 61 (.int .i64 n)] w fun e w'=>e= .returned (.int .i64 (-1))/\Below w.heap.size w w':=by
 have a:Below w.heap.size w (w.alloc (.cells #[.pointer none] 101)):=(Below.refl _ _).alloc (Nat.le_refl _) _
 have H:=zz (LO 61 (.int .i64 n) ⟨w.heap.size,0,none⟩ false _ (w.alloc (.cells #[.pointer none] 101)) (hG.below a).err
  (On n ⟨(w.alloc (.cells #[.pointer none] 101)).heap.size,0,none⟩ (.iface 102 (.pointer (some ⟨w.heap.size,0,none⟩))) _))
 clear a hG;go_enter Tryz.func10,Tryz.ntmps10;go_wp2_with fail;(with_reducible refine(H.out).mono ?_);rintro e w' ⟨rfl,rfl⟩
 go_wp2;go_ret;refine⟨rfl,?_⟩;exact((((Below.refl _ _).alloc (Nat.le_refl _) _).alloc (by simp) _).alloc (by simp;omega) _).alloc (by simp;omega) _
theorem U5(w:World):Calls Tryz.prog 10 #[.nilIface] w fun e w'=>e= .returned (.int .i64 (-1))/\Below w.heap.size w w':=by go_enter Tryz.func10,Tryz.ntmps10;go_wp2;go_ret;exact⟨rfl,(Below.refl _ _).alloc (Nat.le_refl _) _⟩
end
end Go.Proofs.YtodijgndbjfbgaaGreatDoor
