import Derived.Test.YtmgjpjjglghbaaaGreatDoorRows
import Derived.Test.YtmgjpjjglghbaaaGreatDoore8
import Derived.ProofKit
import Derived.OpenShut
import Derived.LaidHandle
import Derived.Deep.DeepHandedRow
import Derived.Lib.LaidTab
import Derived.Stop.LaidErr
import Derived.Carry
import Derived.Deep.Slices
import Derived.ChangeMaps5
import Derived.Deep.Fields
import Derived.ChangeSame
import Derived.SizedLaws
namespace Go.Proofs.YtmgjpjjglghbaaaGreatDoor
set_option maxHeartbeats 16000000
set_option maxRecDepth 100000
section
open Go.ChangeShapes Go.WideShapes Go.ChangeAt Go.RowKit
theorem own:ownKnob Tryz.prog.godebug=none:=by kernel_rfl
theorem gErr:Tryz.prog.globalNamed "errors.errorType"=some 0:=by kernel_rfl
theorem gRng:Tryz.prog.globalNamed "strconv.ErrRange"=some 2:=by kernel_rfl
theorem gRngType:(Tryz.prog.globals[2]?).map (·.type)=some 29:=by kernel_rfl
theorem rtypeNum:(Tryz.prog.cutTypes.find? (·.1== "internal/reflectlite.rtype")).map (·.2)=some 163:=by kernel_rfl
theorem typesSize:Tryz.prog.types.size=287:=by kernel_rfl
theorem oneRow:((List.range 287).filter fun t=>Tryz.prog.rowNamed t [101,114,114,111,114])=[29]:=by kernel_rfl
theorem cellsErr:Tryz.prog.cellsOf 247=1:=by kernel_rfl
theorem cellsStr:Tryz.prog.cellsOf 9=1:=by kernel_rfl
def LaidL:List (String×DataW Unit):=Rows.nnfTwiceRow.laid
def ifName:DataW Unit->String
 | .iface n _=>n
 | _=> "none"
def errNm:String:=ifName Rows.laid_strconv_ErrRange
theorem star: "*"++ "errors.errorString"=errNm:=by decide
theorem rowErr(u:TypeId)(h:Tryz.prog.typeName? 3 u=some errNm):u=245:=
 typeName_ptr_named (nm:= "errors.errorString") (by rw[star];kernel_rfl) (by kernel_rfl) (by decide) u (by rw[star];exact h)
theorem glob_of_laid{W:World}(h:laidMetH Tryz.prog LaidL W):GlobS W:=by
 have h':laidMet Tryz.prog (LaidL.filter fun x=>x.2.handleName?.isNone) W/\handlesMet Tryz.prog (LaidL.filter fun x=>x.2.handleName?.isSome) W:=h
 refine⟨⟨?_⟩,?_⟩
 · obtain⟨name,u,ty,e1,e2,e3,e4,e5⟩:=h'.2 ("errors.errorType",Rows.laid_errors_errorType) (List.mem_singleton.2 rfl)
   have en:name=[101,114,114,111,114]:=(Option.some.inj e1).symm
   subst en
   obtain rfl:=Option.some.inj (rtypeNum.symm.trans e2)
   have hm:ty∈(List.range 287).filter fun t=>Tryz.prog.rowNamed t [101,114,114,111,114]:=List.mem_filter.2 ⟨List.mem_range.2 (by rw[<- typesSize];exact e3),e4⟩
   rw[oneRow]at hm
   obtain rfl:=List.mem_singleton.1 hm
   have hh:typeHandle Tryz.prog 29= .pointer (some ⟨6,29,none⟩):=by kernel_rfl
   rw[hh]at e5
   simpa using World.var?_cell gErr e5 0
 · have h3:laidMet Tryz.prog [("strconv.ErrRange",Rows.laid_strconv_ErrRange),("strconv.ErrSyntax",Rows.laid_strconv_ErrSyntax)] W:=h'.1.tail.tail.tail
   obtain⟨a0,s0,hv0,_,_,_⟩:=laid_sentinel (nm:=errNm) h3 gRng gRngType Tryz.underlying29 rowErr Tryz.underlying245 Tryz.underlying247 rfl rfl Tryz.underlying9 cellsErr cellsStr
   exact⟨_,_,by simpa using World.var?_cell gRng hv0 0⟩
def litV:DataW Unit->Value
 | .lit (.int k n)=>.int k n
 | _=>.nilIface
def tabV:DataW Unit->Array Value
 | .agg l=>(l.map litV).toArray
 | _=> #[]
def txtV:DataW Unit->Value
 | .iface _ (.ptr (.agg [.lit (.string l)]))=>.string ⟨l.toArray⟩
 | _=>.nilIface
noncomputable def low:Nat:=(World.holding Tryz.prog default ⟨#[],#[],[]⟩).heap.size
def put(v:Array Value):Obj->Obj
 | .cells _ t frozen=>.cells v t frozen
 | o=>o
noncomputable def laidWorld(os:Os):World:=
 let w0:=World.holding Tryz.prog os ⟨#[.cells #[txtV Rows.laid_strconv_ErrRange] 247,.cells #[txtV Rows.laid_strconv_ErrSyntax] 247],#[],[]⟩
 {w0 with heap:=(((((w0.heap.modify 0 (put #[.iface 163 (.agg #[.pointer (some ⟨6,29,none⟩)])])).modify 2 (put #[.iface 245 (.pointer (some ⟨low,0,none⟩))])).modify 1 (put #[.iface 245 (.pointer (some ⟨low+1,0,none⟩))])).modify 3 (put (tabV Rows.laid_internal_strconv_uint64pow10))).modify 4 (put (tabV Rows.laid_math_bits_deBruijn32tab))).modify 5 (put (tabV Rows.laid_math_bits_deBruijn64tab))}
theorem laid_met(os:Os)(args:Array Value):laidMetH Tryz.prog LaidL ((laidWorld os).forCall (fun _ _=>0) ⟨#[],args,[]⟩).memory:=
 laidMetH_of_parts (laidMet_of_run' 8 (by kernel_rfl) (by kernel_rfl)) (by kernel_rfl)
end
section
open Go.ChangeShapes Go.WideShapes Go.ChangeAt Go.RowKit
theorem laidOut:laidOutB Tryz.prog=true:=by kernel_rfl
theorem trodAll_below{H:Type}{enc:TypeId×Value->H}{W W':World}(hb:Below W.heap.size W W'):∀{ts:List TypeId} {vs:List Value} {ds:List (DataW H)} {p:List MemPlace},
 DataW.TrodAll enc Tryz.prog W 0 (fun _=>true) true ts vs ds p->(∀x∈p,x.block<W.heap.size)->(∀t∈ts,Tryz.prog.readableRec t=true/\t<Tryz.prog.types.size)->
 DataW.TrodAll enc Tryz.prog W' 0 (fun b=>decide (b<W.heap.size)) true ts vs ds p
 | [],vs,ds,p,h,_,_=>by
   cases vs<;>cases ds<;>simp_all [DataW.TrodAll]
 | t::ts,vs,ds,p,h,hlt,hts=>by
   obtain⟨v,vs',d,ds',p1,q1,rfl,rfl,rfl,h1,h2⟩:=trodAll_cons h
   have ht:=hts t List.mem_cons_self
   exact trodAll_cons_mk (Below.trod laidOut ht.1 ht.2 h1 hb (fun x hx=>hlt x (List.mem_append_left _ hx)))
    (trodAll_below hb h2 (fun x hx=>hlt x (List.mem_append_right _ hx)) (fun t' ht'=>hts t' (List.mem_cons_of_mem _ ht')))
theorem law_post{H:Type}{enc:TypeId×Value->H}{f:Func}{s:ChangeSpec}{W W':World}{args:Array Value}{ds:List (DataW H)}{p:List MemPlace}
 (hW:DataW.Whole enc Tryz.prog f.params.toList s.vars false W args.toList ds [] p) (hA:DataW.TrodAll enc Tryz.prog W 0 (fun _=>true) true f.params.toList args.toList ds p)
 (hts:∀t∈f.params.toList,Tryz.prog.readableRec t=true/\t<Tryz.prog.types.size) (hr:f.resultTypes= #[4]) (hv:s.vars=[])
 (hfn:s.fn H (ds++[])={results:=[.lit (.bool true)],args:=ds}) (hb:Below W.heap.size W W'):s.post enc Tryz.prog f false true false false W args (.bool true) W':=by
 have hlt:∀x∈p,x.block<W.heap.size:=fun x hx=>hW.lt x hx
 refine⟨ds,[],p,[],p,[],hW,?_,?_,?_,hb.frame _,fun h=>by cases h⟩
 · rw[hfn,hr];exact trodAll_mk1 (shut_bool Tryz.underlying4 true)
 · rw[hfn];exact trodAll_below hb hA hlt hts
 · rw[hfn,hv];rfl
theorem spot_none{W:World}{a:Addr}{v:Value}(h:W.cell? a=some v):a.spot=none:=by
 unfold World.cell? at h
 split at h
 · split at h
   · cases h
   · rename_i hs;simpa using hs
 · cases h
theorem add_eq(a:Addr)(hs:a.spot=none)(k:Nat):a.add k=⟨a.block,a.off+k,none⟩:=by
 obtain⟨ab,ao,sp⟩:=a
 simp only at hs
 subst hs
 by_cases h0:k=0<;>simp[Addr.add,h0]
theorem u8_wf{n:Int}(h:(Lit.int .u8 n).wf=true):0<=n/\n<=255:=by
 have e1:IntKind.min .u8=0:=by decide
 have e2:IntKind.max .u8=255:=by decide
 simp only[Lit.wf,Bool.and_eq_true,decide_eq_true_eq]at h
 omega
end
section
open Go.ChangeShapes Go.WideShapes Go.ChangeAt Go.RowKit
theorem reach_le{s:ByteArray}(h:s.data.toList.length<=reachBytes):s.size<=140737488355328:=by
 have e:s.data.toList.length=s.size:=by simp
 have e2:reachBytes<=140737488355328:=by decide
 omega
end
end Go.Proofs.YtmgjpjjglghbaaaGreatDoor
