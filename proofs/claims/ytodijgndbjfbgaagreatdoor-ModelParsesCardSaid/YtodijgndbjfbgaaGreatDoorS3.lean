import Derived.Test.YtodijgndbjfbgaaGreatDoorRows
import Derived.Test.YtodijgndbjfbgaaGreatDoorSp
import Derived.Test.YtodijgndbjfbgaaGreatDoorSr
import Derived.ProofKit
import Derived.OpenShut
import Derived.LaidHandle
import Derived.Deep.DeepHandedRow
import Derived.Lib.LaidTab
import Derived.Stop.LaidErr
import Derived.Carry
import Derived.Deep.Slices
import Derived.ChangeMaps5
namespace Go.Proofs.YtodijgndbjfbgaaGreatDoor
set_option maxHeartbeats 16000000
set_option maxRecDepth 100000
section
open Go.ChangeShapes Go.WideShapes Go.ChangeAt Go.RowKit
theorem own:ownKnob Tryz.prog.godebug=none:=by kernel_rfl
theorem YM:Tryz.prog.globalNamed "errors.errorType"=some 0:=by kernel_rfl
theorem Xr:Tryz.prog.globalNamed "strconv.ErrRange"=some 3:=by kernel_rfl
theorem QP:(Tryz.prog.globals[3]?).map (·.type)=some 28:=by kernel_rfl
theorem Si:(Tryz.prog.cutTypes.find? (·.1== "internal/reflectlite.rtype")).map (·.2)=some 173:=by kernel_rfl
theorem P9:Tryz.prog.types.size=300:=by kernel_rfl
theorem XA:((List.range 300).filter fun t=>Tryz.prog.rowNamed t [101,114,114,111,114])=[28]:=by kernel_rfl
theorem QG:Tryz.prog.cellsOf 259=1:=by kernel_rfl
theorem Sd:Tryz.prog.cellsOf 9=1:=by kernel_rfl
def Iu:List (String×DataW Unit):=Rows.modelBlanksRow.laid
def XB:DataW Unit->String
 | .iface n _=>n
 | _=> "none"
def SO:String:=XB Rows.laid_strconv_ErrRange
theorem Xu: "*"++ "errors.errorString"=SO:=by decide
theorem Vp(u:TypeId)(h:Tryz.prog.typeName? 3 u=some SO):u=257:=
 typeName_ptr_named (nm:= "errors.errorString") (by rw[Xu];kernel_rfl) (by kernel_rfl) (by decide) u (by rw[Xu];exact h)
theorem Kc{W:World}(h:laidMetH Tryz.prog Iu W):B0 W:=by
 have c:laidMet Tryz.prog (Iu.filter fun x=>x.2.handleName?.isNone) W/\handlesMet Tryz.prog (Iu.filter fun x=>x.2.handleName?.isSome) W:=h;refine⟨⟨?_⟩,?_⟩
 · obtain⟨name,u,m,e,f,g,i,b⟩:=c.2 ("errors.errorType",Rows.laid_errors_errorType) (List.mem_singleton.2 rfl);have j:name=[101,114,114,111,114]:=(Option.some.inj e).symm;subst j;obtain rfl:=Option.some.inj (Si.symm.trans f);have d:m∈(List.range 300).filter fun t=>Tryz.prog.rowNamed t [101,114,114,111,114]:=List.mem_filter.2 ⟨List.mem_range.2 (by rw[<- P9];exact g),i⟩;rw[XA]at d;obtain rfl:=List.mem_singleton.1 d;have l:typeHandle Tryz.prog 28= .pointer (some ⟨7,28,none⟩):=(by kernel_rfl);rw[l]at b;simpa using World.var?_cell YM b 0
 · have k:laidMet Tryz.prog [("strconv.ErrRange",Rows.laid_strconv_ErrRange),("strconv.ErrSyntax",Rows.laid_strconv_ErrSyntax)] W:=c.1.tail.tail.tail;obtain⟨n,o,a,_,_,_⟩:=laid_sentinel (nm:=SO) k Xr QP Tryz.underlying28 Vp Tryz.underlying257 Tryz.underlying259 rfl rfl Tryz.underlying9 QG Sd;exact⟨_,_,by simpa using World.var?_cell Xr a 0⟩
theorem YW:Tryz.prog.globalNamed "internal/strconv.uint64pow10"=some 4:=by kernel_rfl
theorem SR:(Tryz.prog.globals[4]?).map (·.type)=some 253:=by kernel_rfl
theorem WU:Tryz.prog.cellsOf 149=1:=by kernel_rfl
theorem Q6:Tryz.prog.cellsOf 253=20:=by kernel_rfl
theorem globT_of_laid{W:World}(h:laidMetH Tryz.prog Iu W):Dt W:=by refine⟨Kc h,?_⟩;have a:laidMet Tryz.prog (Iu.filter fun x=>x.2.handleName?.isNone) W/\handlesMet Tryz.prog (Iu.filter fun x=>x.2.handleName?.isSome) W:=h;have b:laidMet Tryz.prog (("internal/strconv.uint64pow10",Lib.tabData .u64 Lib.pow10Tab)::[("strconv.ErrRange",Rows.laid_strconv_ErrRange),("strconv.ErrSyntax",Rows.laid_strconv_ErrSyntax)]) W:=a.1.tail.tail;exact Lib.tabIs_of_head YW SR Tryz.underlying253 Tryz.underlying149 WU Q6 b
def YS:DataW Unit->Value
 | .lit (.int k n)=>.int k n
 | _=>.nilIface
def Vj:DataW Unit->Array Value
 | .agg l=>(l.map YS).toArray
 | _=> #[]
def Xc:DataW Unit->Value
 | .iface _ (.ptr (.agg [.lit (.string l)]))=>.string ⟨l.toArray⟩
 | _=>.nilIface
noncomputable def low:Nat:=(World.holding Tryz.prog default ⟨#[],#[],[]⟩).heap.size
def put(v:Array Value):Obj->Obj
 | .cells _ t frozen=>.cells v t frozen
 | o=>o
noncomputable def laidWorld(os:Os):World:=
 let w0:=World.holding Tryz.prog os ⟨#[.cells #[Xc Rows.laid_strconv_ErrRange] 259,.cells #[Xc Rows.laid_strconv_ErrSyntax] 259],#[],[]⟩
 {w0 with heap:=(((((w0.heap.modify 0 (put #[.iface 173 (.agg #[.pointer (some ⟨7,28,none⟩)])])).modify 3 (put #[.iface 257 (.pointer (some ⟨low,0,none⟩))])).modify 2 (put #[.iface 257 (.pointer (some ⟨low+1,0,none⟩))])).modify 4 (put (Vj Rows.laid_internal_strconv_uint64pow10))).modify 5 (put (Vj Rows.laid_math_bits_deBruijn32tab))).modify 6 (put (Vj Rows.laid_math_bits_deBruijn64tab))}
theorem laid_met(os:Os)(args:Array Value):laidMetH Tryz.prog Iu ((laidWorld os).forCall (fun _ _=>0) ⟨#[],args,[]⟩).memory:=
 laidMetH_of_parts (laidMet_of_run' 8 (by kernel_rfl) (by kernel_rfl)) (by kernel_rfl)
end
section
open Go.ChangeShapes Go.WideShapes Go.ChangeAt Go.RowKit
theorem S2:laidOutB Tryz.prog=true:=by kernel_rfl
theorem GM{H:Type}{enc:TypeId×Value->H}{W W':World}(hb:Below W.heap.size W W'):∀{ts:List TypeId} {vs:List Value} {ds:List (DataW H)} {p:List MemPlace},
 DataW.TrodAll enc Tryz.prog W 0 (fun _=>true) true ts vs ds p->(∀x∈p,x.block<W.heap.size)->(∀t∈ts,Tryz.prog.readableRec t=true/\t<Tryz.prog.types.size)->
 DataW.TrodAll enc Tryz.prog W' 0 (fun b=>decide (b<W.heap.size)) true ts vs ds p
 | [],vs,ds,p,h,_,_=>by cases vs<;>cases ds<;>simp_all [DataW.TrodAll]
 | t::ts,vs,ds,p,h,hlt,hts=>by
   obtain⟨v,vs',d,ds',p1,q1,rfl,rfl,rfl,h1,h2⟩:=trodAll_cons h;have e:=hts t List.mem_cons_self
   exact trodAll_cons_mk (Below.trod S2 e.1 e.2 h1 hb (fun x c=>hlt x (List.mem_append_left _ c)))
    (GM hb h2 (fun x c=>hlt x (List.mem_append_right _ c)) (fun f a=>hts f (List.mem_cons_of_mem _ a)))
theorem law_post{H:Type}{enc:TypeId×Value->H}{f:Func}{s:ChangeSpec}{W W':World}{args:Array Value}{ds:List (DataW H)}{p:List MemPlace}
 (hW:DataW.Whole enc Tryz.prog f.params.toList s.vars false W args.toList ds [] p) (hA:DataW.TrodAll enc Tryz.prog W 0 (fun _=>true) true f.params.toList args.toList ds p)
 (hts:∀t∈f.params.toList,Tryz.prog.readableRec t=true/\t<Tryz.prog.types.size) (hr:f.resultTypes= #[4]) (hv:s.vars=[])
 (hfn:s.fn H (ds++[])={results:=[.lit (.bool true)],args:=ds}) (hb:Below W.heap.size W W'):s.post enc Tryz.prog f false true false false W args (.bool true) W':=by
 have a:∀x∈p,x.block<W.heap.size:=fun x b=>hW.lt x b;refine⟨ds,[],p,[],p,[],hW,?_,?_,?_,hb.frame _,fun h=>by cases h⟩
 · rw[hfn,hr];exact trodAll_mk1 (shut_bool Tryz.underlying4 true)
 · rw[hfn];exact GM hb hA a hts
 · rw[hfn,hv];rfl
end
section
open Go.ChangeShapes Go.WideShapes Go.ChangeAt Go.RowKit
theorem reach_le{s:ByteArray}(h:s.data.toList.length<=reachBytes):s.size<=140737488355328:=by have e:s.data.toList.length=s.size:=(by simp);have a:reachBytes<=140737488355328:=(by decide);omega
end
end Go.Proofs.YtodijgndbjfbgaaGreatDoor
