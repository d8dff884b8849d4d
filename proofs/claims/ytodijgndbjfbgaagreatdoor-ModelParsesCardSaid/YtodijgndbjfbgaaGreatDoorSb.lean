import Derived.Test.YtodijgndbjfbgaaGreatDoorProg
import Derived.WalkKit
import Derived.WalkSpells
import Derived.WalkLawsBesides
import Derived.Deep.QuietTactic
import Derived.BigQuiet
import Derived.Lib.Hide
import Derived.Deep.Draws
import Derived.Deep.OwnRows
import Derived.Below
import Derived.Laws.OwnMore
import Derived.LaidEql
import Derived.Stop.Asserts
import Derived.RowKitTokens
import Derived.Test.YtodijgndbjfbgaaGreatDoorSa
import Derived.IntWalk
namespace Go.Proofs.YtodijgndbjfbgaaGreatDoor
theorem zz{p:Prop}(h:p):Go.RowKit.Hid p:=h
set_option maxHeartbeats 16000000
set_option maxRecDepth 100000
section
section
open Go.RowKit
theorem AW{k:IntKind}{a b:Int}(h:a=b):Ending.returned (.int k a)= .returned (.int k b):=by rw[h]
theorem BD{B:Nat}{a w:World}(h:Below B a w)(n:Nat):Below B a (w.drewN n):=⟨h.os,h.tape,h.output,h.size,h.block⟩
end
section
open Go.RowKit Go.Extern.Stop Go.Stop Go.Extern
theorem J6(t:Addr)(w:World):(ReflectliteValue.unpack (.iface 100 (.pointer (some t)))).run Tryz.prog w
 = .ok (.agg #[.pointer (some ⟨7,100,none⟩),.pointer (some ⟨w.heap.size,0,none⟩),.int .u64 150]) (w.alloc (.cells #[.pointer (some t)] 100)):=by kernel_rfl
theorem RS(a:Addr)(w:World):(ReflectliteValue.methodAny (ReflectliteValue.valueError "reflectlite.Value.Type" 0) (fun t _ _ _=>ReflectliteType.toType t) #[.agg #[.pointer (some ⟨7,100,none⟩),.pointer (some a),.int .u64 150]]).run Tryz.prog w
 = .ok (.iface 173 (.agg #[.pointer (some ⟨7,100,none⟩)])) w:=by kernel_rfl
theorem Gg(h:Value)(w:World):(Go.method 400 173 (.agg #[h]) "Kind").run Tryz.prog w= .ok (202,h) w:=by kernel_rfl
theorem R0(w:World):((ReflectliteType.abiMethod fun t=>(fun a:Nat=>Value.int IntKind.u8 (a:Int))<$>Rtype.kind t) #[.pointer (some ⟨7,100,none⟩)]).run Tryz.prog w= .ok (.int .u8 22) w:=by kernel_rfl
theorem ST(w:World):((ReflectliteType.abiMethod fun t=>(fun a:Nat=>Value.int IntKind.u8 (a:Int))<$>Rtype.kind t) #[.pointer (some ⟨7,61,none⟩)]).run Tryz.prog w= .ok (.int .u8 2) w:=by kernel_rfl
theorem OR(a:Addr)(w:World):(ReflectliteValue.parts (.agg #[.pointer (some ⟨7,100,none⟩),.pointer (some a),.int .u64 150])).run Tryz.prog w= .ok (some (100,a,150)) w:=by kernel_rfl
theorem Nn(a p:Addr)(W:World)(ha:W.cell? a=some (.pointer (some p))):
 (ReflectliteValue.method (ReflectliteValue.valueError "reflectlite.Value.IsNil" 0) ReflectliteValue.isNil #[.agg #[.pointer (some ⟨7,100,none⟩),.pointer (some a),.int .u64 150]]).run Tryz.prog W= .ok (.bool false) W:=by
 change Sem.run Tryz.prog (Bind.bind (ReflectliteValue.parts (.agg #[.pointer (some ⟨7,100,none⟩),.pointer (some a),.int .u64 150])) _) W=_;simp only[Sem.run_bind,OR,Result.andThen];simp[ReflectliteValue.isNil,loadVar,isAgg,underlying,Tryz.underlying100,ha,Result.andThen]
theorem GX(h:Value)(w:World):(Go.method 400 173 (.agg #[h]) "Elem").run Tryz.prog w= .ok (214,.agg #[h]) w:=by kernel_rfl
theorem DY(h:Value)(w:World):(Go.method 400 173 (.agg #[h]) "Implements").run Tryz.prog w= .ok (215,.agg #[h]) w:=by kernel_rfl
theorem CP(h:Value)(w:World):(Go.method 400 173 (.agg #[h]) "AssignableTo").run Tryz.prog w= .ok (212,.agg #[h]) w:=by kernel_rfl
theorem Qj(w:World):(ReflectliteType.method ReflectliteType.elem #[.agg #[.pointer (some ⟨7,100,none⟩)]]).run Tryz.prog w= .ok (.iface 173 (.agg #[.pointer (some ⟨7,61,none⟩)])) w:=by kernel_rfl
theorem Gu(w:World):(ReflectliteType.relation "Implements" ReflectliteType.implements_ #[.agg #[.pointer (some ⟨7,61,none⟩)],.iface 173 (.agg #[.pointer (some ⟨7,28,none⟩)])]).run Tryz.prog w= .ok (.bool true) w:=by kernel_rfl
theorem JW(v:Value)(w:World):(ReflectliteType.typeOf #[.iface 61 v]).run Tryz.prog w= .ok (.iface 173 (.agg #[.pointer (some ⟨7,61,none⟩)])) w:=by kernel_rfl
theorem G3(w:World):(ReflectliteType.relation "AssignableTo" ReflectliteType.assignableTo #[.agg #[.pointer (some ⟨7,61,none⟩)],.iface 173 (.agg #[.pointer (some ⟨7,61,none⟩)])]).run Tryz.prog w= .ok (.bool true) w:=by kernel_rfl
theorem Jv(n:Int)(w:World):(ReflectliteValue.unpack (.iface 61 (.int .i64 n))).run Tryz.prog w
 = .ok (.agg #[.pointer (some ⟨7,61,none⟩),.pointer (some ⟨w.heap.size,0,none⟩),.int .u64 130]) (w.alloc (.cells #[.int .i64 n] 61)):=by kernel_rfl
theorem RR(w:World):(Rtype.elem? 100).run Tryz.prog w= .ok (some 61) w:=by kernel_rfl
theorem YQ(p:Addr)(w:World):(ReflectliteValue.mk 61 p ReflectliteValue.flagAddr).run Tryz.prog w= .ok (.agg #[.pointer (some ⟨7,61,none⟩),.pointer (some p),.int .u64 386]) w:=by kernel_rfl
theorem OL(a p:Addr)(W:World)(ha:W.cell? a=some (.pointer (some p))):
 (ReflectliteValue.method (ReflectliteValue.valueError "reflectlite.Value.Elem" 0) ReflectliteValue.elem #[.agg #[.pointer (some ⟨7,100,none⟩),.pointer (some a),.int .u64 150]]).run Tryz.prog W
   = .ok (.agg #[.pointer (some ⟨7,61,none⟩),.pointer (some p),.int .u64 386]) W:=by
 change Sem.run Tryz.prog (Bind.bind (ReflectliteValue.parts (.agg #[.pointer (some ⟨7,100,none⟩),.pointer (some a),.int .u64 150])) _) W=_;simp only[Sem.run_bind,OR,Result.andThen];simp[ReflectliteValue.elem,loadVar,isAgg,underlying,Tryz.underlying100,ha,Result.andThen,RR,YQ]
theorem RX(a:Addr)(w:World):(ReflectliteValue.parts (.agg #[.pointer (some ⟨7,61,none⟩),.pointer (some a),.int .u64 386])).run Tryz.prog w= .ok (some (61,a,386)) w:=by kernel_rfl
theorem U3(a:Addr)(w:World):(ReflectliteValue.parts (.agg #[.pointer (some ⟨7,61,none⟩),.pointer (some a),.int .u64 130])).run Tryz.prog w= .ok (some (61,a,130)) w:=by kernel_rfl
theorem Sh(w:World):(Rtype.directlyAssignable 61 61).run Tryz.prog w= .ok true w:=by kernel_rfl
theorem VG(ta b:Addr)(n:Int)(old:Value)(W:World)(hb:W.cell? b=some (.int .i64 n))(ht:W.cell? ta=some old)(hf:W.frozen? ta=false):
 (ReflectliteValue.set #[.agg #[.pointer (some ⟨7,61,none⟩),.pointer (some ta),.int .u64 386],.agg #[.pointer (some ⟨7,61,none⟩),.pointer (some b),.int .u64 130]]).run Tryz.prog W
   = .ok (.tuple #[]) (W.setCell ta (.int .i64 n)):=by
 change Sem.run Tryz.prog (Bind.bind (ReflectliteValue.parts (.agg #[.pointer (some ⟨7,61,none⟩),.pointer (some ta),.int .u64 386])) fun _=>Bind.bind (ReflectliteValue.parts (.agg #[.pointer (some ⟨7,61,none⟩),.pointer (some b),.int .u64 130])) _) W=_;simp only[Sem.run_bind,RX,U3,Result.andThen];simp[ReflectliteValue.flagAddr,loadVar,isAgg,underlying,Tryz.underlying61,hb,Result.andThen,Sh,storeVar,Value.cells,storeCells,Addr.add];rw[run_store Tryz.prog W ta _ _ (by rfl)];simp[ht,hf]
theorem WB(n:Int)(t:Addr)(old:Value)(w:World)(hg:w.cell? ⟨0,0,none⟩=some (.iface 173 (.agg #[.pointer (some ⟨7,28,none⟩)])))(ht0:w.cell? t=some old)(hf0:w.frozen? t=false):
 Calls Tryz.prog 27 #[.iface 61 (.int .i64 n),.iface 100 (.pointer (some t))] w fun ev w'=>ev= .returned (.bool true)/\w'=((((w.alloc (.cells #[.pointer (some t)] 100)).alloc (.cells #[.pointer (some ⟨7,100,none⟩),.pointer (some ⟨w.heap.size,0,none⟩),.int .u64 150] 139)).alloc (.cells #[.pointer (some ⟨7,100,none⟩),.pointer (some ⟨w.heap.size,0,none⟩),.int .u64 150] 139)).alloc (.cells #[.int .i64 n] 61)).setCell t (.int .i64 n):=by
 have z:= @run_callFunc_extern Tryz.prog 52 _ (fun a=>ReflectliteValue.unpack (a.getD 0 (.tuple #[]))) Tryz.func52 (by kernel_rfl) (by kernel_rfl) (by kernel_rfl) (by kernel_rfl);have A:= @run_callFunc_extern Tryz.prog 53 _ (ReflectliteValue.methodAny (ReflectliteValue.valueError "reflectlite.Value.Type" 0) (fun t _ _ _=>ReflectliteType.toType t)) Tryz.func53 (by kernel_rfl) (by kernel_rfl) (by kernel_rfl) (by kernel_rfl);have B:= @run_callFunc_extern Tryz.prog 54 _ (ReflectliteValue.method (ReflectliteValue.valueError "reflectlite.Value.IsNil" 0) ReflectliteValue.isNil) Tryz.func54 (by kernel_rfl) (by kernel_rfl) (by kernel_rfl) (by kernel_rfl);have k:= @run_callFunc_extern Tryz.prog 202 _ (ReflectliteType.abiMethod fun t=>do pure (.int .u8 (<- Rtype.kind t))) Tryz.func202 (by kernel_rfl) (by kernel_rfl) (by kernel_rfl) (by kernel_rfl);have m:= @run_callFunc_extern Tryz.prog 214 _ (ReflectliteType.method ReflectliteType.elem) Tryz.func214 (by kernel_rfl) (by kernel_rfl) (by kernel_rfl) (by kernel_rfl);have o:= @run_callFunc_extern Tryz.prog 215 _ (ReflectliteType.relation "Implements" ReflectliteType.implements_) Tryz.func215 (by kernel_rfl) (by kernel_rfl) (by kernel_rfl) (by kernel_rfl);have g:= @run_callFunc_extern Tryz.prog 86 _ ReflectliteType.typeOf Tryz.func86 (by kernel_rfl) (by kernel_rfl) (by kernel_rfl) (by kernel_rfl);have l:= @run_callFunc_extern Tryz.prog 212 _ (ReflectliteType.relation "AssignableTo" ReflectliteType.assignableTo) Tryz.func212 (by kernel_rfl) (by kernel_rfl) (by kernel_rfl) (by kernel_rfl);have i:= @run_callFunc_extern Tryz.prog 87 _ (ReflectliteValue.method (ReflectliteValue.valueError "reflectlite.Value.Elem" 0) ReflectliteValue.elem) Tryz.func87 (by kernel_rfl) (by kernel_rfl) (by kernel_rfl) (by kernel_rfl);have j:= @run_callFunc_extern Tryz.prog 88 _ ReflectliteValue.set Tryz.func88 (by kernel_rfl) (by kernel_rfl) (by kernel_rfl) (by kernel_rfl);have I:=JW;have C:=CP;have d:=G3;have u:=Jv;have x:=J6;have y:=RS;have F:=Gg;have D:=GX;have E:=DY;have s:=R0;have r:=ST;have e:=Qj;have q:=Gu;have G:=Nn ⟨w.heap.size,0,none⟩ t ((w.alloc (.cells #[.pointer (some t)] 100)).alloc (.cells #[.pointer (some ⟨7,100,none⟩),.pointer (some ⟨w.heap.size,0,none⟩),.int .u64 150] 139)) (by simp);have c:0<w.heap.size:=by
  rcases Nat.eq_zero_or_pos w.heap.size with f | h
  · simp[World.cell?,f]at hg
  · exact h
 have p:((w.alloc (.cells #[.pointer (some t)] 100)).alloc (.cells #[.pointer (some ⟨7,100,none⟩),.pointer (some ⟨w.heap.size,0,none⟩),.int .u64 150] 139)).cell? ⟨0,0,none⟩=some (.iface 173 (.agg #[.pointer (some ⟨7,28,none⟩)])):=(by rw[World.cell?_alloc_lt _ _ ⟨0,0,none⟩ (by simp),World.cell?_alloc_lt _ _ ⟨0,0,none⟩ c];exact hg);have b:t.block<w.heap.size:=by
  rcases Nat.lt_or_ge t.block w.heap.size with h | h
  · exact h
  · simp[World.cell?,Array.getElem?_eq_none h]at ht0
 have v:=OL ⟨w.heap.size,0,none⟩ t (((w.alloc (.cells #[.pointer (some t)] 100)).alloc (.cells #[.pointer (some ⟨7,100,none⟩),.pointer (some ⟨w.heap.size,0,none⟩),.int .u64 150] 139)).alloc (.cells #[.pointer (some ⟨7,100,none⟩),.pointer (some ⟨w.heap.size,0,none⟩),.int .u64 150] 139)) (by rw[World.cell?_alloc_lt _ _ ⟨w.heap.size,0,none⟩ (by simp;omega)];simp)
 have H:=VG t ⟨w.heap.size+1+1+1,0,none⟩ n old ((((w.alloc (.cells #[.pointer (some t)] 100)).alloc (.cells #[.pointer (some ⟨7,100,none⟩),.pointer (some ⟨w.heap.size,0,none⟩),.int .u64 150] 139)).alloc (.cells #[.pointer (some ⟨7,100,none⟩),.pointer (some ⟨w.heap.size,0,none⟩),.int .u64 150] 139)).alloc (.cells #[.int .i64 n] 61))
  (by rw[World.cell?_alloc_at _ _ _ _ (by simp)];rfl)
  (by rw[World.cell?_alloc_lt _ _ t (by simp;omega),World.cell?_alloc_lt _ _ t (by simp;omega),World.cell?_alloc_lt _ _ t (by simp;omega),World.cell?_alloc_lt _ _ t b];exact ht0)
  (by rw[World.frozen?_alloc_old _ _ t (by simp;omega),World.frozen?_alloc_old _ _ t (by simp;omega),World.frozen?_alloc_old _ _ t (by simp;omega),World.frozen?_alloc_old _ _ t (Nat.ne_of_lt b)];exact hf0)
 go_enter Tryz.func27,Tryz.ntmps27;go_wp2;refine wp_loop_rounds 1 ?_;rw[rounds_succ];go_wp2;go_ret;exact⟨rfl,rfl⟩
end
section
open Go.RowKit
structure Ll(w:World):Prop where
 err:w.cell? ⟨0,0,none⟩=some (.iface 173 (.agg #[.pointer (some ⟨7,28,none⟩)]))
theorem Ll.below{w w':World}(h:Ll w)(hb:Below w.heap.size w w'):Ll w':=
 ⟨(hb.cell (p:=⟨0,0,none⟩) (World.block_lt_of_cell? w _ h.err)).trans h.err⟩
theorem UZ(w:World):Calls Tryz.prog 9 #[.nilIface] w fun e w'=>e= .returned (.int .i64 0)/\w'=w:=by go_enter Tryz.func9,Tryz.ntmps9;go_wp2;go_ret;exact⟨rfl,rfl⟩
theorem O9(n:Int)(w:World)(hG:Ll w):Calls Tryz.prog 9 #[.iface 61 (.int .i64 n)] w fun e w'=>e= .returned (.int .i64 n)/\Below w.heap.size w w':=by have d:=hG.err;clear hG;have f:0<w.heap.size:=World.block_lt_of_cell? w _ d;have b:(w.alloc (.cells #[.int .i64 0] 61)).cell? ⟨0,0,none⟩=some (.iface 173 (.agg #[.pointer (some ⟨7,28,none⟩)])):=(by rw[World.cell?_alloc_lt _ _ ⟨0,0,none⟩ f];exact d);have c:(w.alloc (.cells #[.int .i64 0] 61)).cell? ⟨w.heap.size,0,none⟩=some (.int .i64 0):=(by simp);have a:(w.alloc (.cells #[.int .i64 0] 61)).frozen? ⟨w.heap.size,0,none⟩=false:=(by simp);have h:=zz b;have i:=zz c;have g:=zz a;clear d b c a;go_enter Tryz.func9,Tryz.ntmps9;go_wp2_with fail;refine(WB n _ (.int .i64 0) _ h.out i.out g.out).mono ?_;rintro e w' ⟨rfl,rfl⟩;go_wp2;go_ret;refine⟨rfl,?_⟩;exact(((((Below.refl _ _).alloc (Nat.le_refl _) _).alloc (by simp) _).alloc (by simp;omega) _).alloc (by simp;omega) _).alloc (by simp;omega) _
end
end
section
section
open Go.RowKit
theorem Oz(c:UInt8)(w:World):Calls Tryz.prog 65 #[.int .u8 c.toNat] w fun e w'=>e= .returned (.bool (BU c))/\w=w':=by
 have k:=c.toNat_lt;by_cases a:c.toNat=32
 · have e:BU c=true:=(by simp[BU,a]);rw[e,a];go_enter Tryz.func65,Tryz.ntmps65;go_wp2;go_ret;exact⟨rfl,rfl⟩
 by_cases b:c.toNat=9
 · have e:BU c=true:=(by simp[BU,b]);rw[e,b];go_enter Tryz.func65,Tryz.ntmps65;go_wp2;go_ret;exact⟨rfl,rfl⟩
 by_cases d:c.toNat=10
 · have e:BU c=true:=(by simp[BU,d]);rw[e,d];go_enter Tryz.func65,Tryz.ntmps65;go_wp2;go_ret;exact⟨rfl,rfl⟩
 by_cases f:c.toNat=13
 · have e:BU c=true:=(by simp[BU,f]);rw[e,f];go_enter Tryz.func65,Tryz.ntmps65;go_wp2;go_ret;exact⟨rfl,rfl⟩
 have e:BU c=false:=(by simp[BU,a,b,d,f]);rw[e];generalize c.toNat=n at*;have g:((n:Int)==32)=false:=(by simp;omega);have h:((n:Int)==9)=false:=(by simp;omega);have i:((n:Int)==10)=false:=(by simp;omega);have j:((n:Int)==13)=false:=(by simp;omega);clear e;go_enter Tryz.func65,Tryz.ntmps65;go_wp2;go_ret;exact⟨rfl,rfl⟩
theorem Q9(c:UInt8)(w:World):Calls Tryz.prog 68 #[.int .u8 c.toNat] w fun e w'=>e= .returned (.bool (BF c))/\w=w':=by
 by_cases h:c.toNat=10
 · have e:BF c=false:=(by simp[BF,h]);rw[e,h];go_enter Tryz.func68,Tryz.ntmps68;go_wp2;go_ret;exact⟨rfl,rfl⟩
 · have e:BF c=true:=(by simp[BF,h]);rw[e];generalize c.toNat=n at*;have g:((n:Int) != 10)=true:=(by simp;omega);clear e;go_enter Tryz.func68,Tryz.ntmps68;go_wp2;go_ret;exact⟨rfl,rfl⟩
def Ez(n:Int):Value:=
 if 48<=n/\n<=57 then .tuple #[.int .i64 2,.bool true]
 else if(97<=n/\n<=122)∨(65<=n/\n<=90)∨n=95 then .tuple #[.int .i64 1,.bool true]
 else if n=34 then .tuple #[.int .i64 3,.bool false]else .tuple #[.int .i64 4,.bool false]
def YH(n:Int)(w:World)(e:Ending)(w':World):Prop:=e= .returned (Ez n)/\w=w'
theorem GT(n:Int)(w:World):Calls Tryz.prog 69 #[.int .u8 n] w (YH n w):=by
 by_cases h:48<=n
 · by_cases i:n<=57
   · go_enter Tryz.func69,Tryz.ntmps69;go_wp2;go_ret2;refine⟨?_,rfl⟩;unfold Ez;rw[if_pos (by omega)];rfl
   · by_cases j:97<=n
     · by_cases k:n<=122
       · have a:decide (n<=57)=false:=(by simp;omega);go_enter Tryz.func69,Tryz.ntmps69;go_wp2;go_ret2;refine⟨?_,rfl⟩;unfold Ez;rw[if_neg (by omega),if_pos (by omega)];rfl
       · have a:decide (n<=57)=false:=(by simp;omega);have b:decide (n<=122)=false:=(by simp;omega);have c:decide (n<=90)=false:=(by simp;omega);have d:(n==95)=false:=(by simp;omega);have e:(n==34)=false:=(by simp;omega);have o:65<=n:=(by omega);go_enter Tryz.func69,Tryz.ntmps69;go_wp2;go_ret2;refine⟨?_,rfl⟩;unfold Ez;rw[if_neg (by omega),if_neg (by omega),if_neg (by omega)];rfl
     · by_cases l:65<=n
       · by_cases m:n<=90
         · have a:decide (n<=57)=false:=(by simp;omega);have b:decide (97<=n)=false:=(by simp;omega);go_enter Tryz.func69,Tryz.ntmps69;go_wp2;go_ret2;refine⟨?_,rfl⟩;unfold Ez;rw[if_neg (by omega),if_pos (by omega)];rfl
         · by_cases f:n=95
           · subst f;go_enter Tryz.func69,Tryz.ntmps69;go_wp2;go_ret2;refine⟨?_,rfl⟩;unfold Ez;rw[if_neg (by omega),if_pos (by omega)];rfl
           · have a:decide (n<=57)=false:=(by simp;omega);have b:decide (97<=n)=false:=(by simp;omega);have c:decide (n<=90)=false:=(by simp;omega);have d:(n==95)=false:=(by simp;omega);have e:(n==34)=false:=(by simp;omega);go_enter Tryz.func69,Tryz.ntmps69;go_wp2;go_ret2;refine⟨?_,rfl⟩;unfold Ez;rw[if_neg (by omega),if_neg (by omega),if_neg (by omega)];rfl
       · have a:decide (n<=57)=false:=(by simp;omega);have b:decide (97<=n)=false:=(by simp;omega);have c:decide (65<=n)=false:=(by simp;omega);have d:(n==95)=false:=(by simp;omega);have e:(n==34)=false:=(by simp;omega);go_enter Tryz.func69,Tryz.ntmps69;go_wp2;go_ret2;refine⟨?_,rfl⟩;unfold Ez;rw[if_neg (by omega),if_neg (by omega),if_neg (by omega)];rfl
 · by_cases g:n=34
   · subst g;go_enter Tryz.func69,Tryz.ntmps69;go_wp2;go_ret2;refine⟨?_,rfl⟩;unfold Ez;rw[if_neg (by omega),if_neg (by omega),if_pos (by omega)];rfl
   · have a:decide (48<=n)=false:=(by simp;omega);have b:decide (97<=n)=false:=(by simp;omega);have c:decide (65<=n)=false:=(by simp;omega);have d:(n==95)=false:=(by simp;omega);have e:(n==34)=false:=(by simp;omega);go_enter Tryz.func69,Tryz.ntmps69;go_wp2;go_ret2;refine⟨?_,rfl⟩;unfold Ez;rw[if_neg (by omega),if_neg (by omega),if_neg (by omega)];rfl
theorem Ge{c:UInt8}(h:AD c=true):Ez c.toNat= .tuple #[.int .i64 2,.bool true]:=by simp only[AD,Bool.and_eq_true,decide_eq_true_eq]at h;unfold Ez;rw[if_pos (by omega)]
theorem Fw{c:UInt8}(h:AZ c=true):Ez c.toNat= .tuple #[.int .i64 1,.bool true]:=by simp only[AZ,Bool.or_eq_true,Bool.and_eq_true,decide_eq_true_eq,beq_iff_eq]at h;unfold Ez;rw[if_neg (by omega),if_pos (by omega)]
theorem GV{c:UInt8}(h:CD c=true):Ez c.toNat= .tuple #[.int .i64 3,.bool false]:=by simp only[CD,beq_iff_eq]at h;unfold Ez;rw[if_neg (by omega),if_neg (by omega),if_pos (by omega)]
theorem H9{c:UInt8}(hd:AD c=false)(hl:AZ c=false)(h:CD c=false):Ez c.toNat= .tuple #[.int .i64 4,.bool false]:=by simp only[AD,Bool.and_eq_false_iff,decide_eq_false_iff_not]at hd;simp only[AZ,Bool.or_eq_false_iff,Bool.and_eq_false_iff,decide_eq_false_iff_not,beq_eq_false_iff_ne]at hl;simp only[CD,beq_eq_false_iff_ne]at h;unfold Ez;rw[if_neg (by omega),if_neg (by omega),if_neg (by omega)]
theorem Ft{c:UInt8}(h:CD c=true):AD c=false/\AZ c=false:=by simp only[CD,beq_iff_eq]at h;simp[AD,AZ,h]
def Xd(c:UInt8)(w:World)(e:Ending)(w':World):Prop:=e= .returned (.bool (Aw c))/\w=w'
theorem Q2(c:UInt8)(w:World):Calls Tryz.prog 70 #[.int .u8 c.toNat] w (Xd c w):=by
 have H:=zz (GT c.toNat w);by_cases hd:AD c=true
 · have f:=zz (Ge hd);have d:=zz (show Aw c=true by simp[Aw,hd]);clear hd;generalize(c.toNat:Int)=n at*;go_enter Tryz.func70,Tryz.ntmps70;go_wp2_with fail;(with_reducible refine(H.out).mono ?_);rintro e j ⟨rfl,rfl⟩
   rw[f.out];go_wp2;go_ret;exact⟨by rw[d.out];rfl,rfl⟩
 · have a:AD c=false:=(by simpa using hd);by_cases g:AZ c=true
   · have f:=zz (Fw g);have d:=zz (show Aw c=true by simp[Aw,g]);clear hd a g;generalize(c.toNat:Int)=n at*;go_enter Tryz.func70,Tryz.ntmps70;go_wp2_with fail;(with_reducible refine(H.out).mono ?_);rintro e j ⟨rfl,rfl⟩
     rw[f.out];go_wp2;go_ret;exact⟨by rw[d.out];rfl,rfl⟩
   · have b:AZ c=false:=(by simpa using g);have d:=zz (show Aw c=false by simp[Aw,b,a]);have h:∃k:Int,Ez c.toNat= .tuple #[.int .i64 k,.bool false]:=by
      by_cases i:CD c=true
      · exact⟨3,GV i⟩
      · exact⟨4,H9 a b (by simpa using i)⟩
     obtain⟨k,h⟩:=h;have f:=zz h;clear hd a g b h;generalize(c.toNat:Int)=n at*;go_enter Tryz.func70,Tryz.ntmps70;go_wp2_with fail;(with_reducible refine(H.out).mono ?_);rintro e j ⟨rfl,rfl⟩
     rw[f.out];go_wp2;go_ret;exact⟨by rw[d.out];rfl,rfl⟩
def XT(c:UInt8)(w:World)(e:Ending)(w':World):Prop:=e= .returned (.bool (AD c))/\w=w'
theorem Ry(c:UInt8)(w:World):Calls Tryz.prog 71 #[.int .u8 c.toNat] w (XT c w):=by
 have H:=zz (GT c.toNat w);by_cases hd:AD c=true
 · have g:=zz (Ge hd);have f:=zz hd;clear hd;generalize(c.toNat:Int)=n at*;go_enter Tryz.func71,Tryz.ntmps71;go_wp2_with fail;(with_reducible refine(H.out).mono ?_);rintro e l ⟨rfl,rfl⟩
   rw[g.out];go_wp2;go_ret;exact⟨by rw[f.out];rfl,rfl⟩
 · have a:AD c=false:=(by simpa using hd);have d:∃(k:Int) (b:Bool),Ez c.toNat= .tuple #[.int .i64 k,.bool b]/\(k==2)=false:=by
    by_cases h:AZ c=true
    · exact⟨1,true,Fw h,rfl⟩
    · by_cases i:CD c=true
      · exact⟨3,false,GV i,rfl⟩
      · exact⟨4,false,H9 a (by simpa using h) (by simpa using i),rfl⟩
   obtain⟨k,b,d,j⟩:=d;have g:=zz d;have f:=zz a;clear hd a d;generalize(c.toNat:Int)=n at*;go_enter Tryz.func71,Tryz.ntmps71;go_wp2_with fail;(with_reducible refine(H.out).mono ?_);rintro e l ⟨rfl,rfl⟩
   rw[g.out];go_wp2;go_ret;exact⟨by rw[f.out];rfl,rfl⟩
def YG(c:UInt8)(w:World)(e:Ending)(w':World):Prop:=e= .returned (.bool (AK c))/\w=w'
theorem UD(c:UInt8)(w:World):Calls Tryz.prog 100 #[.int .u8 c.toNat] w (YG c w):=by
 obtain⟨n,a⟩:∃n:Int,n=c.toNat:=⟨_,rfl⟩;by_cases e:32<=n
 · by_cases f:n<=126
   · by_cases d:n=34
     · have b:=zz (show AK c=false by simp[AK];omega);rw[<- a,d];clear e f a d;go_enter Tryz.func100,Tryz.ntmps100;go_wp2;go_ret;exact⟨by rw[b.out];rfl,rfl⟩
     · have b:=zz (show AK c=true by simp[AK];omega);have g:(n != 34)=true:=(by simp;omega);rw[<- a];clear a d;go_enter Tryz.func100,Tryz.ntmps100;go_wp2;go_ret;exact⟨by rw[b.out];rfl,rfl⟩
   · have b:=zz (show AK c=false by simp[AK];omega);have g:decide (n<=126)=false:=(by simp;omega);rw[<- a];clear a;go_enter Tryz.func100,Tryz.ntmps100;go_wp2;go_ret;exact⟨by rw[b.out];rfl,rfl⟩
 · have b:=zz (show AK c=false by simp[AK];omega);have g:decide (32<=n)=false:=(by simp;omega);rw[<- a];clear a;go_enter Tryz.func100,Tryz.ntmps100;go_wp2;go_ret;exact⟨by rw[b.out];rfl,rfl⟩
end
section
open Go.RowKit
def Tj(f:FuncId)(p:UInt8->Bool):Prop:=∀(c:UInt8) (w:World),Calls Tryz.prog f #[.int .u8 c.toNat] w fun e w'=>e= .returned (.bool (p c))/\w=w'
theorem PO:Tj 68 BF:=Q9
theorem Ow:Tj 70 Aw:=Q2
theorem PH:Tj 71 AD:=Ry
theorem RB:Tj 100 AK:=UD
theorem Iv{p:UInt8->Bool}{l:List UInt8}{k:Nat}(hk:k<l.length)(hb:k<=cnt p l)(h:p l[k]=true):k+1<=cnt p l:=by
 induction l generalizing k with
 | nil=>simp at hk
 | cons c r b=>
   cases k with
   | zero=>rw[An r (by simpa using h)];omega
   | succ k=>
     by_cases a:p c=true
     · rw[An r a]at hb ⊢;have:=b (k:=k) (by simpa using hk) (by omega) (by simpa using h);omega
     · rw[DT r (by simpa using a)]at hb;omega
theorem Fj{p:UInt8->Bool}{l:List UInt8}{k:Nat}(hk:k<l.length)(hb:k<=cnt p l)(h:p l[k]=false):k=cnt p l:=by
 induction l generalizing k with
 | nil=>simp at hk
 | cons c r b=>
   cases k with
   | zero=>rw[DT r (by simpa using h)]
   | succ k=>
     by_cases a:p c=true
     · rw[An r a]at hb ⊢;have:=b (k:=k) (by simpa using hk) (by omega) (by simpa using h);omega
     · rw[DT r (by simpa using a)]at hb;omega
theorem NS(s:ByteArray)(w:World)(hs:s.size<=65536):
 Calls Tryz.prog 67 #[.string s,.func (.func 68) #[] #[]] w fun e w'=>e= .returned (.int .i64 (cnt BF s.data.toList))/\w=w':=by
 have j:=Cx BF s.data.toList;have b:s.data.toList.length=s.size:=(by simp);rw[b]at j;have n:=zz b;clear b;have m:=zz PO;go_enter Tryz.func67,Tryz.ntmps67;go_wp2;go_loop [5] (fun i=>∃k:Nat,k<=cnt BF s.data.toList/\i= .int .i64 k) (fun i=>s.size - (intOf i).toNat);(case atStart=>exact⟨0,Nat.zero_le _,rfl⟩);case round=>
  obtain⟨k,l,rfl⟩:=hrel;by_cases a:k<s.size
  · have d:k<s.data.toList.length:=(by rw[n.out];exact a);have H:=zz (m.out (s[k]'a) w);cases c:BF (s[k]'a)with
    | true=>
      have f:k+1<=cnt BF s.data.toList:=Iv d l c;rw[c]at H;clear c d;go_wp2_with ((with_reducible refine(H.out).mono ?_);rintro e w' ⟨rfl,rfl⟩)
      go_round
      (case rel=>exact⟨k+1,f,by go_num⟩);case measure=>simp[intOf];omega
    | false=>have f:k=cnt BF s.data.toList:=Fj d l c;rw[c]at H;clear c d;have h:=zz f;clear f;go_wp2_with ((with_reducible refine(H.out).mono ?_);rintro e w' ⟨rfl,rfl⟩);go_ret;exact⟨AW (by rw[<- h.out]),rfl⟩
  · have h:=zz (show k=cnt BF s.data.toList by omega);have g:decide (k<s.size)=false:=(by simpa using a);go_wp2;go_ret;exact⟨AW (by rw[<- h.out]),rfl⟩
theorem Nb(s:ByteArray)(w:World)(hs:s.size<=65536):
 Calls Tryz.prog 67 #[.string s,.func (.func 70) #[] #[]] w fun e w'=>e= .returned (.int .i64 (cnt Aw s.data.toList))/\w=w':=by
 have j:=Cx Aw s.data.toList;have b:s.data.toList.length=s.size:=(by simp);rw[b]at j;have n:=zz b;clear b;have m:=zz Ow;go_enter Tryz.func67,Tryz.ntmps67;go_wp2;go_loop [5] (fun i=>∃k:Nat,k<=cnt Aw s.data.toList/\i= .int .i64 k) (fun i=>s.size - (intOf i).toNat);(case atStart=>exact⟨0,Nat.zero_le _,rfl⟩);case round=>
  obtain⟨k,l,rfl⟩:=hrel;by_cases a:k<s.size
  · have d:k<s.data.toList.length:=(by rw[n.out];exact a);have H:=zz (m.out (s[k]'a) w);cases c:Aw (s[k]'a)with
    | true=>
      have f:k+1<=cnt Aw s.data.toList:=Iv d l c;rw[c]at H;clear c d;go_wp2_with ((with_reducible refine(H.out).mono ?_);rintro e w' ⟨rfl,rfl⟩)
      go_round
      (case rel=>exact⟨k+1,f,by go_num⟩);case measure=>simp[intOf];omega
    | false=>have f:k=cnt Aw s.data.toList:=Fj d l c;rw[c]at H;clear c d;have h:=zz f;clear f;go_wp2_with ((with_reducible refine(H.out).mono ?_);rintro e w' ⟨rfl,rfl⟩);go_ret;exact⟨AW (by rw[<- h.out]),rfl⟩
  · have h:=zz (show k=cnt Aw s.data.toList by omega);have g:decide (k<s.size)=false:=(by simpa using a);go_wp2;go_ret;exact⟨AW (by rw[<- h.out]),rfl⟩
theorem Mc(s:ByteArray)(w:World)(hs:s.size<=65536):
 Calls Tryz.prog 67 #[.string s,.func (.func 71) #[] #[]] w fun e w'=>e= .returned (.int .i64 (cnt AD s.data.toList))/\w=w':=by
 have j:=Cx AD s.data.toList;have b:s.data.toList.length=s.size:=(by simp);rw[b]at j;have n:=zz b;clear b;have m:=zz PH;go_enter Tryz.func67,Tryz.ntmps67;go_wp2;go_loop [5] (fun i=>∃k:Nat,k<=cnt AD s.data.toList/\i= .int .i64 k) (fun i=>s.size - (intOf i).toNat);(case atStart=>exact⟨0,Nat.zero_le _,rfl⟩);case round=>
  obtain⟨k,l,rfl⟩:=hrel;by_cases a:k<s.size
  · have d:k<s.data.toList.length:=(by rw[n.out];exact a);have H:=zz (m.out (s[k]'a) w);cases c:AD (s[k]'a)with
    | true=>
      have f:k+1<=cnt AD s.data.toList:=Iv d l c;rw[c]at H;clear c d;go_wp2_with ((with_reducible refine(H.out).mono ?_);rintro e w' ⟨rfl,rfl⟩)
      go_round
      (case rel=>exact⟨k+1,f,by go_num⟩);case measure=>simp[intOf];omega
    | false=>have f:k=cnt AD s.data.toList:=Fj d l c;rw[c]at H;clear c d;have h:=zz f;clear f;go_wp2_with ((with_reducible refine(H.out).mono ?_);rintro e w' ⟨rfl,rfl⟩);go_ret;exact⟨AW (by rw[<- h.out]),rfl⟩
  · have h:=zz (show k=cnt AD s.data.toList by omega);have g:decide (k<s.size)=false:=(by simpa using a);go_wp2;go_ret;exact⟨AW (by rw[<- h.out]),rfl⟩
theorem Ph(s:ByteArray)(w:World)(hs:s.size<=65536):
 Calls Tryz.prog 67 #[.string s,.func (.func 100) #[] #[]] w fun e w'=>e= .returned (.int .i64 (cnt AK s.data.toList))/\w=w':=by
 have j:=Cx AK s.data.toList;have b:s.data.toList.length=s.size:=(by simp);rw[b]at j;have n:=zz b;clear b;have m:=zz RB;go_enter Tryz.func67,Tryz.ntmps67;go_wp2;go_loop [5] (fun i=>∃k:Nat,k<=cnt AK s.data.toList/\i= .int .i64 k) (fun i=>s.size - (intOf i).toNat);(case atStart=>exact⟨0,Nat.zero_le _,rfl⟩);case round=>
  obtain⟨k,l,rfl⟩:=hrel;by_cases a:k<s.size
  · have d:k<s.data.toList.length:=(by rw[n.out];exact a);have H:=zz (m.out (s[k]'a) w);cases c:AK (s[k]'a)with
    | true=>
      have f:k+1<=cnt AK s.data.toList:=Iv d l c;rw[c]at H;clear c d;go_wp2_with ((with_reducible refine(H.out).mono ?_);rintro e w' ⟨rfl,rfl⟩)
      go_round
      (case rel=>exact⟨k+1,f,by go_num⟩);case measure=>simp[intOf];omega
    | false=>have f:k=cnt AK s.data.toList:=Fj d l c;rw[c]at H;clear c d;have h:=zz f;clear f;go_wp2_with ((with_reducible refine(H.out).mono ?_);rintro e w' ⟨rfl,rfl⟩);go_ret;exact⟨AW (by rw[<- h.out]),rfl⟩
  · have h:=zz (show k=cnt AK s.data.toList by omega);have g:decide (k<s.size)=false:=(by simpa using a);go_wp2;go_ret;exact⟨AW (by rw[<- h.out]),rfl⟩
end
section
open Go.RowKit
theorem AU(s:ByteArray):s.data.toList.length=s.size:=by simp
theorem Bv(s:ByteArray)(a b:Nat):(s.extract a b).data.toList=(s.data.toList.drop a).take (b - a):=by simp[ByteArray.data_extract,List.extract_eq_take_drop]
theorem Gx(s:ByteArray)(a:Nat):(s.extract a s.size).data.toList=s.data.toList.drop a:=by rw[Bv,List.take_of_length_le (by simp)]
def FO(l:List UInt8):Bool:=l.take 2==[47,47]
theorem ND(s:ByteArray)(w:World):Calls Tryz.prog 66 #[.string s,.string ⟨#[47,47]⟩] w fun e w'=>e= .returned (.bool (FO s.data.toList))/\w=w':=by
 by_cases h:2<=s.size
 · have HS:=zz (show((s.extract 0 2).toList==[47,47])=FO s.data.toList by rw[ByteArray.toList_eq,Bv];rfl);go_enter Tryz.func66,Tryz.ntmps66;go_wp2;go_ret;exact⟨by rw[<- HS.out];rfl,rfl⟩
 · have HS:=zz (show FO s.data.toList=false by
    unfold FO;rw[beq_eq_false_iff_ne];intro a;have:=congrArg List.length a;simp at this
    omega)
   have g:decide (2<=s.size)=false:=(by simpa using h);go_enter Tryz.func66,Tryz.ntmps66;go_wp2;go_ret;exact⟨by rw[HS.out];rfl,rfl⟩
theorem PD{l:List UInt8}{i:Nat}(h:FO (l.drop i)=true):∃h:i+1<l.length,l[i].toNat=47/\l[i+1].toNat=47:=by unfold FO at h;have a:(l.drop i).take 2=[47,47]:=(by simpa using h);have c:=congrArg List.length a;simp at c;have b:i+1<l.length:=(by omega);rw[Ae l i (by omega),Ae l (i+1) b]at a;simp only[List.take_succ_cons,List.cons.injEq]at a;exact⟨b,by rw[a.1];rfl,by rw[a.2.1];rfl⟩
theorem R1{l:List UInt8}{i:Nat}(h:FO (l.drop i)=false):¬∃h:i+1<l.length,l[i].toNat=47/\l[i+1].toNat=47:=by rintro⟨c,d,e⟩;unfold FO at h;rw[Ae l i (by omega),Ae l (i+1) c]at h;have a:l[i]=47:=UInt8.toNat_inj.1 d;have b:l[i+1]=47:=UInt8.toNat_inj.1 e;rw[a,b]at h;simp at h
theorem J2(s:ByteArray)(at0:Nat)(w:World)(hs:s.size<=65536)(hat:at0<=s.size):
 Calls Tryz.prog 41 #[.string s,.int .i64 at0] w fun e w'=>e= .returned (.int .i64 ((at0+AB false (s.data.toList.drop at0):Nat):Int))/\w=w':=by
 have o:=zz (AU s);go_enter Tryz.func41,Tryz.ntmps41;go_wp2;go_loop [1] (fun i=>∃k:Nat,k<=s.size/\Hid (k+AB false (s.data.toList.drop k)=at0+AB false (s.data.toList.drop at0))/\i= .int .i64 k) (fun i=>s.size - (intOf i).toNat);(case atStart=>exact⟨at0,hat,zz rfl,rfl⟩);case round=>
  obtain⟨k,u,j,rfl⟩:=hrel;by_cases a:k<s.size
  · have H:=zz (Oz (s[k]'a) w);cases f:BU (s[k]'a)with
    | true=>
      have c:=zz (Iz (l:=s.data.toList) (i:=k) (by rw[o.out];exact a) f);rw[f]at H;clear f;go_wp2_with ((with_reducible refine(H.out).mono ?_);rintro e w' ⟨rfl,rfl⟩)
      go_round
      (case rel=>exact⟨k+1,by omega,zz (by have h:=j.out;have d:=c.out;omega),by go_num⟩);case measure=>simp[intOf];omega
    | false=>
      rw[f]at H;have n:=zz (ND (s.extract k s.size) w);cases b:FO (s.extract k s.size).data.toList with
      | true=>
        rw[b]at n;rw[Gx]at b;obtain⟨h,d,q⟩:=PD b;have c:=zz (IH h d q);have t:cnt BF (s.data.toList.drop k)+k<=s.size:=(by have:=Cx BF (s.data.toList.drop k);rw[List.length_drop,o.out]at this;omega);have r:0<cnt BF (s.data.toList.drop k):=(by rw[Ae _ k (by omega),An _ (by unfold BF;rw[d];rfl)];omega);have HC:=zz (NS (s.extract k s.size) w (by simp only[ByteArray.size_extract];omega));rw[Gx]at HC;clear f b h d q;generalize cnt BF (s.data.toList.drop k)=m at*
        go_wp2_with (first
         | ((with_reducible refine(H.out).mono ?_);rintro e w' ⟨rfl,rfl⟩)
         | ((with_reducible refine(n.out).mono ?_);rintro e w' ⟨rfl,rfl⟩)
         | ((with_reducible refine(HC.out).mono ?_);rintro e w' ⟨rfl,rfl⟩))
        go_round
        (case rel=>exact⟨k+m,by omega,zz (by have h:=j.out;have d:=c.out;omega),by go_num⟩);case measure=>simp[intOf];omega
      | false=>
        rw[b]at n;rw[Gx]at b;have c:=zz (EZ (l:=s.data.toList) (i:=k) (by rw[o.out];exact a) f (fun p=>R1 b ⟨p.2.1,p.1,p.2.2⟩));clear f b
        go_wp2_with (first
         | ((with_reducible refine(H.out).mono ?_);rintro e w' ⟨rfl,rfl⟩)
         | ((with_reducible refine(n.out).mono ?_);rintro e w' ⟨rfl,rfl⟩))
        go_ret;exact⟨AW (by have h:=j.out;have d:=c.out;omega),rfl⟩
  · have c:=zz (show AB false (s.data.toList.drop k)=0 by rw[List.drop_eq_nil_of_le (by rw[o.out];omega)];rfl);have g:decide (k<s.size)=false:=(by simpa using a);go_wp2;go_ret;exact⟨AW (by have h:=j.out;have d:=c.out;omega),rfl⟩
end
end
end Go.Proofs.YtodijgndbjfbgaaGreatDoor
