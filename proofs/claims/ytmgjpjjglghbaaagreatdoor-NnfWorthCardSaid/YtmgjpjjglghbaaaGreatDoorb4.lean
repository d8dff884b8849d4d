import Derived.Test.YtmgjpjjglghbaaaGreatDoora9
import Derived.Deep.LoopGhost
import Derived.IntWalk
import Derived.Test.YtmgjpjjglghbaaaGreatDoorH2
import Derived.Lib.AppendStr
import Derived.Lib.AppendIntMem
import Derived.Deep.AppendLies
import Derived.Deep.RegionLaw
import Derived.RegionTactic
import Derived.BigRegion
import Derived.Test.YtmgjpjjglghbaaaGreatDoora6
import Derived.Laws.BytesArg
import Derived.Test.YtmgjpjjglghbaaaGreatDoorb1
import Derived.Test.YtmgjpjjglghbaaaGreatDoorb3
import Derived.Test.YtmgjpjjglghbaaaGreatDoorb0
namespace Go.Proofs.YtmgjpjjglghbaaaGreatDoor
set_option maxHeartbeats 16000000
set_option maxRecDepth 100000
section
section
open Go.RowKit
theorem ret_bool{a b:Bool}(h:a=b):Ending.returned (.bool a)= .returned (.bool b):=by rw[h]
end
section
open Go.RowKit Go.Sort
structure Txt(B:Nat)(w:World)(v:Value)(l:List UInt8):Prop where
 own:w.ownsRow B 5 1 v l.length (Lib.byteCells l)
 low:B<=w.heap.size
def Lies(w:World)(v v':Value):Prop:=v'.ownBlock=v.ownBlock∨∃g,v'.ownBlock=some g/\w.heap.size<=g
def TellP(B:Nat)(l t:List UInt8)(w:World)(v:Value)(e:Ending)(w':World):Prop:=∃v',e= .returned v'/\Txt B w' v' (l++t)/\w.grownBy w' v.ownBlock/\Lies w v v'
section
variable {B:Nat} {w w1 w2:World} {v v1 v2:Value} {l:List UInt8}
theorem Lies.refl(w:World)(v:Value):Lies w v v:=.inl rfl
theorem Lies.trans(h1:Lies w v v1)(hz:w.heap.size<=w1.heap.size)(h2:Lies w1 v1 v2):Lies w v v2:=by
 rcases h2 with h2 | ⟨g,h2,h3⟩
 · rcases h1 with h1 | ⟨g,h1,h4⟩
   · exact .inl (h2.trans h1)
   · exact .inr ⟨g,h2.trans h1,h4⟩
 · exact .inr ⟨g,h2,by omega⟩
theorem grow_trans(h1:w.grownBy w1 v.ownBlock)(hl:Lies w v v1)(h2:w1.grownBy w2 v1.ownBlock):w.grownBy w2 v.ownBlock:=by
 refine⟨h2.os.trans h1.os,h2.tape.trans h1.tape,h2.output.trans h1.output,Nat.le_trans h1.size h2.size,fun k hk hn=>?_⟩
 refine(h2.block k (by have:=h1.size;omega) ?_).trans (h1.block k hk hn)
 intro e
 rcases hl with hl | ⟨g,hl,hg⟩
 · exact hn (e.trans hl)
 · rw[hl]at e
   injection e with e
   omega
theorem grow_below(h:Below w.heap.size w w1)(r:Option Nat):w.grownBy w1 r:=⟨h.os,h.tape,h.output,h.size,fun i hi _=>h.block i hi⟩
theorem Txt.below(h:Txt B w v l)(hb:Below w.heap.size w w1):Txt B w1 v l:=⟨owns_below h.own hb,Nat.le_trans h.low hb.size⟩
theorem Txt.other(h:Txt B w v l){k:Nat}{cs:Array Value}{e:TypeId}(hk:w.heap[k]?=some (.cells cs e (0,0)))(he:e≠5):some k≠v.ownBlock:=by
 intro e1
 rcases h.own.2 with⟨rfl,_⟩ | ⟨g,cap,cur,rfl,_,hh,_⟩
 · cases e1
 · have:k=g:=by simpa[Value.ownBlock]using e1
   subst this
   rw[hk]at hh
   injection hh with hh
   injection hh with _ hh
   exact he hh
theorem Txt.keep(h:Txt B w v l)(hg:w.grownBy w1 v.ownBlock){k:Nat}{cs:Array Value}{e:TypeId}(hk:w.heap[k]?=some (.cells cs e (0,0)))(he:e≠5):w1.heap[k]?=some (.cells cs e (0,0)):=
 (hg.block k (blk_lt hk) (h.other hk he)).trans hk
end
theorem infoB:(Tryz.prog.info? 5).map (fun i=>(i.zero,i.size,i.bytes))=some (some (.int .u8 0),1,1):=by kernel_rfl
theorem run_str_at{B:Nat}{w:World}{v:Value}{l:List UInt8}(h:Txt B w v l)(s:ByteArray)(hb:l.length+s.size<=1000000000)(ty:TypeId):
 ∃v' w',(Builtin.append_ #[50,9] ty #[v,.string s]).run Tryz.prog w= .ok v' w'/\Txt B w' v' (l++s.data.toList)/\w.grownBy w' v.ownBlock/\Lies w v v':=by
 obtain⟨i0,hi0,hz⟩:=Option.map_eq_some_iff.1 infoB
 simp only[Prod.mk.injEq]at hz
 obtain⟨hz0,hz1,hz2⟩:=hz
 obtain⟨v',w',hr,ho,hg,h4⟩:=Lib.run_append_own_string (P:=Tryz.prog) w B 50 9 ty 5 i0 Tryz.underlying50 Tryz.underlying9 hi0 hz0 hz1 hz2 v l.length _ h.own s (by unfold maxLen;omega) (by omega) h.low
 refine⟨v',w',hr,⟨?_,Nat.le_trans h.low hg.size⟩,hg,?_⟩
 · have e1:(l++s.data.toList).length=l.length+s.size:=by simp
   have e2:Lib.byteCells (l++s.data.toList)=Lib.byteCells l++Lib.strCells s:=by simp[Lib.byteCells,Lib.strCells]
   rw[e1,e2]
   exact ho
 · rcases h.own.2 with⟨rfl,h0⟩ | ⟨g,cap,cur,rfl,hbg,hgg,hnc,hcm,hcs,htake⟩
   · by_cases hm:s.size=0
     · rw[h4.2 ⟨rfl,hm⟩];exact .inl rfl
     · have hr2:=run_append_nil_string (P:=Tryz.prog) w 50 9 ty 5 i0 (.int .u8 0) Tryz.underlying50 Tryz.underlying9 hi0 hz0 s (by omega) (by omega) (by rw[hz2];omega)
       rw[hr]at hr2
       injection hr2 with e1 _
       subst e1
       exact .inr ⟨w.heap.size,rfl,Nat.le_refl _⟩
   · by_cases hroom:l.length+s.size<=cap
     · have hr2:=Lib.run_append_room_string (P:=Tryz.prog) w 50 9 ty 5 i0 Tryz.underlying50 Tryz.underlying9 hi0 hz1 g l.length cap cur hgg s hroom (by simp only[Nat.mul_one]at hcs;omega)
       rw[hr]at hr2
       injection hr2 with e1 _
       subst e1
       exact .inl rfl
     · have hr2:=Lib.run_append_grow_string (P:=Tryz.prog) w 50 9 ty 5 i0 (.int .u8 0) Tryz.underlying50 Tryz.underlying9 hi0 hz0 ⟨g,0,none⟩ l.length cap (Lib.byteCells l) (by rw[hz1,Lib.byteCells_length,Nat.mul_one]) (h.own.cells (g:=g) rfl) s (by omega) (by omega) (by rw[hz2];exact growslice_fits (by omega) (by omega))
       rw[hr]at hr2
       injection hr2 with e1 _
       subst e1
       exact .inr ⟨w.heap.size,rfl,Nat.le_refl _⟩
theorem wpList_str{ops:Array Oper}{rest:List Oper}{o:Oper}{a:Act}{Q:Exit->Act->World->Prop}(w:World)(hgd:o.guard=none)(sl x:Operand)
 (ho:o.op= .call {callee:=.builtin .append,args:= #[sl,x],argTypes:= #[50,9]}) {B:Nat} {v:Value} {l:List UInt8} (hs:a.eval sl=v) (h:Txt B w v l) (s:ByteArray) (hx:a.eval x= .string s) (hb:l.length+s.size<=1000000000)
 (k:∀v' w',Txt B w' v' (l++s.data.toList)->w.grownBy w' v.ownBlock->Lies w v v'->wpList Tryz.prog ops Q rest (a.put o.dst v') w'):wpList Tryz.prog ops Q (o::rest) a w:=by
 refine wpList_plain hgd fun K hK=>?_
 obtain⟨v',w',hr,h2,h3,h4⟩:=run_str_at h s hb o.type
 unfold Oper.wp execOp
 simp only[ho,resolve,invoke,builtin,Sem.run_bind,Sem.run_pure,Result.andThen_ok,List.map_toArray,List.map_cons,List.map_nil,hs,hx,hr]
 exact hK _ _ (k v' w' h2 h3 h4)
end
end
section
open Go.RowKit Go.Sort
theorem Txt.alloc{B:Nat}{w:World}{v:Value}{l:List UInt8}(h:Txt B w v l)(o:Obj):Txt B (w.alloc o) v l:=h.below ((Below.refl _ _).alloc (Nat.le_refl _) _)
theorem one_new{W:World}{g:Nat}{u:Value}{e:TypeId}(h:W.heap[g]?=some (.cells #[u] e (0,0))):∀(j:Nat) (x:Value),[u][j]?=some x->W.cell? ((⟨g,0,none⟩:Addr).add j)=some x:=by
 intro j x hj
 match j,hj with
 | 0,hj=>simp at hj;subst hj;simpa[Addr.add]using(rd_cell h 0).trans rfl
theorem step_byte{ops:Array Oper}{o:Oper}{a:Act}{K:Act->World->Prop}{Q:Exit->Act->World->Prop}{E:Prop}(W:World)(hgd:o.guard=none)(s x:Operand)
 (ho:o.op= .call {callee:=.builtin .append,args:= #[s,x],argTypes:= #[50,50]}) {B:Nat} {v:Value} {l:List UInt8} (hs:a.eval s=v) (ht:Txt B W v l) (g:Nat) (hx:a.eval x= .slice (some ⟨g,0,none⟩) 1 1) (c:UInt8)
 (hg:W.heap[g]?=some (.cells #[.int .u8 (c.toNat:Int)] 5 (0,0))) (hl:l.length+1<=1000000000)
 (k:∀g1 cap1 w',Txt B w' (.slice (some ⟨g1,0,none⟩) (l.length+1) cap1) (l++[c])->W.grownBy w' v.ownBlock->(v.ownBlock=some g1∨g1=W.heap.size)->K (a.put o.dst (.slice (some ⟨g1,0,none⟩) (l.length+1) cap1)) w'):
 if Region.wanted o (yielded ops a.tmps)=true then Oper.wp Tryz.prog o a W K Q else E:=by
 obtain⟨i0,hi0,hz⟩:=Option.map_eq_some_iff.1 infoB
 simp only[Prod.mk.injEq]at hz
 obtain⟨hz0,hz1,hz2⟩:=hz
 refine step_append_lies W hgd s x 50 ho B 5 i0 (.int .u8 0) 1 1 Tryz.underlying50 hi0 hz0 hz1 hz2 rfl (by decide) v l.length (Lib.byteCells l) hs ht.own ⟨g,0,none⟩ 1 1 [.int .u8 (c.toNat:Int)] hx rfl (one_new hg) (by intro u hu;simp at hu;subst hu;rfl) (by omega) (by unfold maxLen;omega) (by omega) ht.low W.heap.size rfl ?_
 intro g1 cap1 w1 ho1 hg1 hat hlt
 refine k g1 cap1 w1 ⟨?_,Nat.le_trans ht.low hg1.size⟩ hg1 hat
 have e2:Lib.byteCells (l++[c])=Lib.byteCells l++[.int .u8 (c.toNat:Int)]:=by simp[Lib.byteCells]
 rw[e2,List.length_append]
 exact ho1
theorem heapN{w:World}{k:Nat}(hk:k=w.heap.size)(o:Obj):(w.alloc o).heap[k]?=some o:=by subst hk;exact heap_alloc_new w o
theorem slice_ne{k g n c:Nat}(h:k≠g):some k≠(Value.slice (some ⟨g,0,none⟩) n c).ownBlock:=fun e=>h (by simpa[Value.ownBlock]using e)
theorem heapA{w:World}{k:Nat}(hk:k=w.heap.size)(o:Obj):(w.alloc o).drew.heap[k]?=some o:=by subst hk;exact heap_alloc_new w o
theorem heapB{w:World}{k:Nat}(hk:k=w.heap.size)(o o2:Obj):((w.alloc o).alloc o2).drew.heap[k]?=some o:=by
 subst hk
 exact(Below.heap_alloc (w.alloc o) o2 _ (by simp)).trans (heap_alloc_new w o)
theorem Txt.drew{B:Nat}{w:World}{v:Value}{l:List UInt8}(h:Txt B w v l):Txt B w.drew v l:=h.below (Below.refl _ _).drew
theorem lies_of{w W:World}{v:Value}{g n cap:Nat}(hz:w.heap.size<=W.heap.size)(h:v.ownBlock=some g∨g=W.heap.size):Lies w v (.slice (some ⟨g,0,none⟩) n cap):=by
 rcases h with h | h
 · exact .inl h.symm
 · exact .inr ⟨g,rfl,by omega⟩
theorem txt_lt{B:Nat}{w:World}{g n cap:Nat}{l:List UInt8}(h:Txt B w (.slice (some ⟨g,0,none⟩) n cap) l):g<w.heap.size:=(h.own.lt g rfl).2
theorem own_ne{B:Nat}{w:World}{v:Value}{l:List UInt8}(h:Txt B w v l){k:Nat}(hk:w.heap.size<=k):some k≠v.ownBlock:=by
 intro e
 have:=(h.own.lt k e.symm).2
 omega
theorem kne{B:Nat}{w W:World}{v:Value}{l:List UInt8}(h:Txt B w v l){k g:Nat}(hat:v.ownBlock=some g∨g=W.heap.size)(h1:k<W.heap.size)(h2:w.heap.size<=k):k≠g:=by
 rcases hat with hat | hat
 · have:=(h.own.lt g hat).2
   omega
 · omega
theorem txt_len{B n:Nat}{w:World}{g cap:Nat}{l:List UInt8}(h:Txt B w (.slice (some ⟨g,0,none⟩) n cap) l){m:Nat}(hm:n=m):Txt B w (.slice (some ⟨g,0,none⟩) m cap) l:=by subst hm;exact h
end
section
section
open Go.RowKit Go.Sort
theorem sign_cell{w:World}{gs:Nat}{ss:List (List UInt8)}(h:w.heap[gs]?=some (.cells (ss.map strV).toArray 9 (0,0))){k:Nat}(hk:k<ss.length):w.cell? ⟨gs,k,none⟩=some (.string ⟨(ss.getD k []).toArray⟩):=by
 rw[rd_cell h]
 simp[hk,strV]
end
section
open Go.RowKit Go.Sort
theorem grow_drew{w w1:World}{r:Option Nat}(h:w.grownBy w1 r):w.grownBy w1.drew r:=⟨h.os,h.tape,h.output,h.size,h.block⟩
theorem nums_bytes(l:List UInt8):strOfNums (l.map fun b=>(b.toNat:Int))=⟨l.toArray⟩:=by
 unfold strOfNums
 congr 2
 rw[List.map_map]
 conv=>rhs;rw[<- List.map_id l]
 apply List.map_congr_left
 intro b _
 simp
theorem txt_string{B g n cap:Nat}{w:World}{l:List UInt8}(h:Txt B w (.slice (some ⟨g,0,none⟩) n cap) l)(hn:n=l.length):(convert 50 9 (.slice (some ⟨g,0,none⟩) n cap)).run Tryz.prog w= .ok (.string ⟨l.toArray⟩) w:=by
 rw[<- nums_bytes]
 refine run_convert_bytes_arg w 50 5 Tryz.underlying50 Tryz.underlying5 g 0 n cap (l.map fun b=>(b.toNat:Int)) (by rw[List.length_map,hn]) ?_ 9 Tryz.underlying9
 intro i hi
 have hi':i<l.length:=by omega
 have:=h.own.cells (g:=g) rfl i (.int .u8 (l[i].toNat:Int)) (by simp[Lib.byteCells,hi'])
 rw[Lib.add_plain]at this
 rw[this]
 simp[hi']
end
end
section
section
open Go.RowKit
theorem pk_le(x:List UInt8):pk x<=5:=by
 unfold pk
 repeat' split
 all_goals omega
def LoF(k:Nat)(w:World)(e:Ending)(w':World):Prop:=e= .returned (.int .i64 (k:Int))/\w=w'
theorem ploosest_any(s:ByteArray)(p:Nat)(hp:p<=1)(w:World):Calls Tryz.prog 124 #[.string s,.int .i64 (p:Int)] w (LoF (loP (pk s.data.toList) p) w):=by
 have hr:=pk_le s.data.toList
 have H:=Lib.hid (fun W:World=>prank_any s W)
 unfold PkP at H
 generalize pk s.data.toList=r at*
 by_cases p0:p=0
 · subst p0
   clear hp
   by_cases h0:r=0
   · subst h0
     clear hr
     go_enter Tryz.func124,Tryz.ntmps124
     go_wp2_with fail
     with_reducible refine(H.out _).mono ?_
     rintro e w' ⟨rfl,rfl⟩
     go_wp2
     go_ret
     exact⟨rfl,rfl⟩
   by_cases h1:r=1
   · subst h1
     clear hr h0
     go_enter Tryz.func124,Tryz.ntmps124
     go_wp2_with fail
     with_reducible refine(H.out _).mono ?_
     rintro e w' ⟨rfl,rfl⟩
     go_wp2
     go_ret
     exact⟨rfl,rfl⟩
   by_cases h2:r=2
   · subst h2
     clear hr h0 h1
     go_enter Tryz.func124,Tryz.ntmps124
     go_wp2_with fail
     with_reducible refine(H.out _).mono ?_
     rintro e w' ⟨rfl,rfl⟩
     go_wp2
     go_ret
     exact⟨rfl,rfl⟩
   by_cases h3:r=3
   · subst h3
     clear hr h0 h1 h2
     go_enter Tryz.func124,Tryz.ntmps124
     go_wp2_with fail
     with_reducible refine(H.out _).mono ?_
     rintro e w' ⟨rfl,rfl⟩
     go_wp2
     go_ret
     exact⟨rfl,rfl⟩
   by_cases h4:r=4
   · subst h4
     clear hr h0 h1 h2 h3
     go_enter Tryz.func124,Tryz.ntmps124
     go_wp2_with fail
     with_reducible refine(H.out _).mono ?_
     rintro e w' ⟨rfl,rfl⟩
     go_wp2
     go_ret
     exact⟨rfl,rfl⟩
   obtain rfl:r=5:=by omega
   clear hr h0 h1 h2 h3 h4
   go_enter Tryz.func124,Tryz.ntmps124
   go_wp2_with fail
   with_reducible refine(H.out _).mono ?_
   rintro e w' ⟨rfl,rfl⟩
   go_wp2
   go_ret
   exact⟨rfl,rfl⟩
 obtain rfl:p=1:=by omega
 clear hp p0
 by_cases h0:r=0
 · subst h0
   clear hr
   go_enter Tryz.func124,Tryz.ntmps124
   go_wp2_with fail
   with_reducible refine(H.out _).mono ?_
   rintro e w' ⟨rfl,rfl⟩
   go_wp2
   go_ret
   exact⟨rfl,rfl⟩
 by_cases h1:r=1
 · subst h1
   clear hr h0
   go_enter Tryz.func124,Tryz.ntmps124
   go_wp2_with fail
   with_reducible refine(H.out _).mono ?_
   rintro e w' ⟨rfl,rfl⟩
   go_wp2
   go_ret
   exact⟨rfl,rfl⟩
 by_cases h2:r=2
 · subst h2
   clear hr h0 h1
   go_enter Tryz.func124,Tryz.ntmps124
   go_wp2_with fail
   with_reducible refine(H.out _).mono ?_
   rintro e w' ⟨rfl,rfl⟩
   go_wp2
   go_ret
   exact⟨rfl,rfl⟩
 by_cases h3:r=3
 · subst h3
   clear hr h0 h1 h2
   go_enter Tryz.func124,Tryz.ntmps124
   go_wp2_with fail
   with_reducible refine(H.out _).mono ?_
   rintro e w' ⟨rfl,rfl⟩
   go_wp2
   go_ret
   exact⟨rfl,rfl⟩
 by_cases h4:r=4
 · subst h4
   clear hr h0 h1 h2 h3
   go_enter Tryz.func124,Tryz.ntmps124
   go_wp2_with fail
   with_reducible refine(H.out _).mono ?_
   rintro e w' ⟨rfl,rfl⟩
   go_wp2
   go_ret
   exact⟨rfl,rfl⟩
 obtain rfl:r=5:=by omega
 clear hr h0 h1 h2 h3 h4
 go_enter Tryz.func124,Tryz.ntmps124
 go_wp2_with fail
 with_reducible refine(H.out _).mono ?_
 rintro e w' ⟨rfl,rfl⟩
 go_wp2
 go_ret
 exact⟨rfl,rfl⟩
def sgF(op:List UInt8):List (List UInt8):=if op=[33]then[[33]]else if op=[88]∨op=[70]∨op=[71]then[op++[32]]else[[],32::op++[32]]
def SgF(l:List (List UInt8))(w:World)(e:Ending)(w':World):Prop:=∃g,e= .returned (.slice (some ⟨g,0,none⟩) l.length l.length)/\w.heap.size<=g/\w'.heap[g]?=some (.cells (l.map strV).toArray 9 (0,0))/\Below w.heap.size w w'
theorem str_app(s:ByteArray)(l:List UInt8):s++(⟨l.toArray⟩:ByteArray)=⟨(s.data.toList++l).toArray⟩:=by
 apply ByteArray.ext
 simp
theorem app_str(s:ByteArray)(l:List UInt8):(⟨l.toArray⟩:ByteArray)++s=⟨(l++s.data.toList).toArray⟩:=by
 apply ByteArray.ext
 simp
theorem psigns_any(s:ByteArray)(hs:s.size<=65536)(w:World):Calls Tryz.prog 122 #[.string s] w (SgF (sgF s.data.toList) w):=by
 rw[<- ByteArray.toList_eq]
 by_cases h0:s.toList=[33]
 · have e:sgF s.toList=[[33]]:=by rw[h0];rfl
   rw[e]
   have g0:(s.toList==[33])=true:=by rw[h0];rfl
   have g1:(s.toList==[88])=false:=by rw[h0];rfl
   have g2:(s.toList==[70])=false:=by rw[h0];rfl
   have g3:(s.toList==[71])=false:=by rw[h0];rfl
   clear e h0
   go_enter Tryz.func122,Tryz.ntmps122
   go_wp2
   go_ret
   exact⟨w.heap.size,rfl,Nat.le_refl _,heap_alloc_new w _,(Below.refl _ _).alloc (Nat.le_refl _) _⟩
 by_cases h1:s.toList=[88]
 · have e:sgF s.toList=[[88,32]]:=by rw[h1];rfl
   rw[e]
   have g0:(s.toList==[33])=false:=by rw[h1];rfl
   have g1:(s.toList==[88])=true:=by rw[h1];rfl
   have g2:(s.toList==[70])=false:=by rw[h1];rfl
   have g3:(s.toList==[71])=false:=by rw[h1];rfl
   have HE:=Lib.hid (show s++(⟨#[32]⟩:ByteArray)=⟨#[88,32]⟩ by rw[show(⟨#[32]⟩:ByteArray)=⟨[32].toArray⟩from rfl,str_app,<- ByteArray.toList_eq,h1];rfl)
   clear e h0 h1
   go_enter Tryz.func122,Tryz.ntmps122
   go_wp2
   go_ret
   exact⟨w.heap.size,rfl,Nat.le_refl _,(by rw[HE.out];exact heap_alloc_new w _),(Below.refl _ _).alloc (Nat.le_refl _) _⟩
 by_cases h2:s.toList=[70]
 · have e:sgF s.toList=[[70,32]]:=by rw[h2];rfl
   rw[e]
   have g0:(s.toList==[33])=false:=by rw[h2];rfl
   have g1:(s.toList==[88])=false:=by rw[h2];rfl
   have g2:(s.toList==[70])=true:=by rw[h2];rfl
   have g3:(s.toList==[71])=false:=by rw[h2];rfl
   have HE:=Lib.hid (show s++(⟨#[32]⟩:ByteArray)=⟨#[70,32]⟩ by rw[show(⟨#[32]⟩:ByteArray)=⟨[32].toArray⟩from rfl,str_app,<- ByteArray.toList_eq,h2];rfl)
   clear e h0 h1 h2
   go_enter Tryz.func122,Tryz.ntmps122
   go_wp2
   go_ret
   exact⟨w.heap.size,rfl,Nat.le_refl _,(by rw[HE.out];exact heap_alloc_new w _),(Below.refl _ _).alloc (Nat.le_refl _) _⟩
 by_cases h3:s.toList=[71]
 · have e:sgF s.toList=[[71,32]]:=by rw[h3];rfl
   rw[e]
   have g0:(s.toList==[33])=false:=by rw[h3];rfl
   have g1:(s.toList==[88])=false:=by rw[h3];rfl
   have g2:(s.toList==[70])=false:=by rw[h3];rfl
   have g3:(s.toList==[71])=true:=by rw[h3];rfl
   have HE:=Lib.hid (show s++(⟨#[32]⟩:ByteArray)=⟨#[71,32]⟩ by rw[show(⟨#[32]⟩:ByteArray)=⟨[32].toArray⟩from rfl,str_app,<- ByteArray.toList_eq,h3];rfl)
   clear e h0 h1 h2 h3
   go_enter Tryz.func122,Tryz.ntmps122
   go_wp2
   go_ret
   exact⟨w.heap.size,rfl,Nat.le_refl _,(by rw[HE.out];exact heap_alloc_new w _),(Below.refl _ _).alloc (Nat.le_refl _) _⟩
 have e:sgF s.toList=[[],32::s.toList++[32]]:=by simp[sgF,h0,h1,h2,h3]
 rw[e]
 have g0:(s.toList==[33])=false:=by rw[beq_eq_false_iff_ne];exact h0
 have g1:(s.toList==[88])=false:=by rw[beq_eq_false_iff_ne];exact h1
 have g2:(s.toList==[70])=false:=by rw[beq_eq_false_iff_ne];exact h2
 have g3:(s.toList==[71])=false:=by rw[beq_eq_false_iff_ne];exact h3
 have HE:=Lib.hid (show(⟨#[32]⟩:ByteArray)++s++(⟨#[32]⟩:ByteArray)=⟨(32::s.toList++[32]).toArray⟩ by
  rw[show(⟨#[32]⟩:ByteArray)=⟨[32].toArray⟩from rfl,app_str,str_app,ByteArray.toList_eq];simp)
 clear e h0 h1 h2 h3
 go_enter Tryz.func122,Tryz.ntmps122
 go_wp2
 go_ret
 exact⟨w.heap.size,rfl,Nat.le_refl _,(by rw[HE.out];exact heap_alloc_new w _),(Below.refl _ _).alloc (Nat.le_refl _) _⟩
def atF(x:Fo):List UInt8:=if x.op=opLab then 34::(x.nm++[34])else x.op
theorem patomtext_any{x:Fo}{c:List Value}{S:Nat->Prop}(w:World)(h:FS w 27 S x c)(hz:x.nm.length<=65536):Calls Tryz.prog 121 #[.agg c.toArray] w fun e w'=>e= .returned (.string ⟨(atF x).toArray⟩)/\Below w.heap.size w w':=by
 obtain⟨A,cap,rfl,_⟩:=h.view
 have hs:(⟨x.nm.toArray⟩:ByteArray).size<=65536:=by show x.nm.toArray.size<=65536;simpa using hz
 have HB:=Lib.hid (show Below w.heap.size w (w.alloc (.cells #[.string ⟨x.op.toArray⟩,.string ⟨x.nm.toArray⟩,.slice A x.kids.length cap,.int .i64 (x.pos:Int)] 27))from(Below.refl _ _).alloc (Nat.le_refl _) _)
 change Calls Tryz.prog 121 #[.agg #[.string ⟨x.op.toArray⟩,.string ⟨x.nm.toArray⟩,.slice A x.kids.length cap,.int .i64 (x.pos:Int)]] w _
 have g0:((⟨x.op.toArray⟩:ByteArray).toList==[108,97,98,101,108])=decide (x.op=opLab):=by
  rw[ByteArray.toList_eq]
  show(x.op.toArray.toList==opLab)=_
  simp[Bool.beq_eq_decide_eq]
 by_cases ho:x.op=opLab
 · rw[decide_eq_true ho]at g0
   have HE:=Lib.hid (show(⟨#[34]⟩:ByteArray)++⟨x.nm.toArray⟩++(⟨#[34]⟩:ByteArray)=⟨(atF x).toArray⟩ by
    rw[show(⟨#[34]⟩:ByteArray)=⟨[34].toArray⟩from rfl,app_str,str_app];simp[atF,ho])
   clear ho h
   obtain⟨o,hoo⟩:∃o,o=(⟨x.op.toArray⟩:ByteArray):=⟨_,rfl⟩
   obtain⟨nm,hnm⟩:∃nm,nm=(⟨x.nm.toArray⟩:ByteArray):=⟨_,rfl⟩
   rw[<- hoo,<- hnm]at HB ⊢
   rw[<- hoo]at g0
   rw[<- hnm]at HE hs
   clear hoo hnm
   go_enter Tryz.func121,Tryz.ntmps121
   go_wp2
   go_ret
   exact⟨by show Ending.returned (.string ((⟨#[34]⟩:ByteArray)++nm++(⟨#[34]⟩:ByteArray)))=_;rw[HE.out],HB.out⟩
 · rw[decide_eq_false ho]at g0
   have HE:=Lib.hid (show(⟨x.op.toArray⟩:ByteArray)=⟨(atF x).toArray⟩ by simp[atF,ho])
   clear ho h
   obtain⟨o,hoo⟩:∃o,o=(⟨x.op.toArray⟩:ByteArray):=⟨_,rfl⟩
   rw[<- hoo]at HB HE g0 ⊢
   clear hoo
   go_enter Tryz.func121,Tryz.ntmps121
   go_wp2
   go_ret
   exact⟨by show Ending.returned (.string o)=_;rw[HE.out],HB.out⟩
end
section
open Go.RowKit Go.Sort
theorem FS.keepT{w w':World}{e:TypeId}{S:Nat->Prop}(hk:∀(k:Nat) (cs:Array Value),w.heap[k]?=some (.cells cs e (0,0))->w'.heap[k]?=some (.cells cs e (0,0))):∀{x:Fo} {c:List Value},FS w e S x c->FS w' e S x c
 | .leaf _ _ _,_,h=>h
 | .un _ _ _,_,⟨g,cap,ca,h1,⟨a1,cs,a2,a3⟩,h3⟩=>⟨g,cap,ca,h1,⟨a1,cs,hk _ _ a2,a3⟩,FS.keepT hk h3⟩
 | .bin _ _ _ _,_,⟨g,cap,ca,cb,h1,⟨a1,cs,a2,a3⟩,h3,h4⟩=>⟨g,cap,ca,cb,h1,⟨a1,cs,hk _ _ a2,a3⟩,FS.keepT hk h3,FS.keepT hk h4⟩
theorem FS.text{B:Nat}{w w1:World}{v:Value}{l:List UInt8}{S:Nat->Prop}{x:Fo}{c:List Value}(h:FS w 27 S x c)(ht:Txt B w v l)(hg:w.grownBy w1 v.ownBlock):FS w1 27 S x c:=
 h.keepT fun k cs hk=>ht.keep hg hk (by decide)
def B4(w:World)(b:Nat)(c0 c1 c2 c3:Value):Prop:=Bx w b 27 [c0,c1,c2,c3]
section
variable {w w1:World} {b:Nat} {c0 c1 c2 c3:Value}
theorem bx4(h:Bx w b 27 [c0,c1,c2,c3]):B4 w b c0 c1 c2 c3:=h
theorem B4.c4(h:B4 w b c0 c1 c2 c3):w.cell? ⟨b,0,none⟩=some c0/\w.cell? ⟨b,1,none⟩=some c1/\w.cell? ⟨b,2,none⟩=some c2/\w.cell? ⟨b,3,none⟩=some c3:=⟨Bx.cell h 0,Bx.cell h 1,Bx.cell h 2,Bx.cell h 3⟩
theorem B4.lt(h:B4 w b c0 c1 c2 c3):b<w.heap.size:=Bx.lt h
theorem FBx.text{B:Nat}{v:Value}{l:List UInt8}(h:B4 w b c0 c1 c2 c3)(ht:Txt B w v l)(hg:w.grownBy w1 v.ownBlock):B4 w1 b c0 c1 c2 c3:=ht.keep hg h (by decide)
theorem B4.below(h:B4 w b c0 c1 c2 c3)(hb:Below w.heap.size w w1):B4 w1 b c0 c1 c2 c3:=Bx.below h hb
theorem B4.alloc(h:B4 w b c0 c1 c2 c3)(o:Obj):B4 (w.alloc o) b c0 c1 c2 c3:=Bx.alloc h o
theorem B4.drew(h:B4 w b c0 c1 c2 c3):B4 w.drew b c0 c1 c2 c3:=Bx.below h (Below.refl _ _).drew
end
def TCF(x:Fo):Prop:=∀(B:Nat) (w:World) (v:Value) (l:List UInt8) (S:Nat->Prop) (c:List Value),Txt B w v l->FS w 27 S x c->l.length+(tlF x).length<=1000000->Calls Tryz.prog 90 #[v,.agg c.toArray] w (TellP B l (tlF x) w v)
theorem fkid_plain{x:Fo}(ih:TCF x){B:Nat}{w:World}{v:Value}{l:List UInt8}{S:Nat->Prop}{o nm:ByteArray}{p:Int}{A:Option Addr}{ll cap:Nat}(ht:Txt B w v l)(hH:FS w 27 S x (FV.c ⟨o,nm,A,ll,cap,p⟩))(hl:l.length+(tlF x).length<=1000000)(r:Nat)(hr:r<=pk x.op):
 Calls Tryz.prog 123 #[v,.agg #[.string o,.string nm,.slice A ll cap,.int .i64 p],.int .i64 (r:Int)] w (TellP B l (tlF x) w v):=by
 have ho:o.data.toList=x.op:=by rw[show o=⟨x.op.toArray⟩from hH.opn]
 have H1:=Lib.hid (prank_any o)
 unfold PkP at H1
 rw[ho]at H1
 have hba:Below w.heap.size w (w.alloc (.cells #[.string o,.string nm,.slice A ll cap,.int .i64 p] 27)):=(Below.refl _ _).alloc (Nat.le_refl _) _
 have H2:=Lib.hid (ih B _ v l S _ (ht.below hba) (hH.below hba) hl)
 have HBA:=Lib.hid hba
 have g1:decide ((r:Int)<=(pk x.op:Int))=true:=by simp;omega
 have g2:decide (r<=pk x.op)=true:=by simpa using hr
 clear ih ht hH hl hr ho hba
 go_enter Tryz.func123,Tryz.ntmps123
 go_wp2_with fail
 with_reducible refine(H1.out _).mono ?_
 rintro e w' ⟨rfl,rfl⟩
 go_wp2_with fail
 refine(H2.out).mono ?_
 rintro e w1 ⟨v',rfl,h1,h2,h3⟩
 have H3:=Lib.hid h1
 have H4:=Lib.hid h2
 have H5:=Lib.hid h3
 clear h1 h2 h3
 go_wp2
 go_ret
 exact⟨v',rfl,H3.out,grow_trans (v1:=v) (grow_below HBA.out _) (Lies.refl _ _) H4.out,(Lies.refl w v).trans HBA.out.size H5.out⟩
theorem fkid_par{x:Fo}(ih:TCF x){B:Nat}{w:World}{v:Value}{l:List UInt8}{S:Nat->Prop}{o nm:ByteArray}{p:Int}{A:Option Addr}{ll cap:Nat}(ht:Txt B w v l)(hH:FS w 27 S x (FV.c ⟨o,nm,A,ll,cap,p⟩))(hl:l.length+1+(tlF x).length+1<=1000000)(r:Nat)(hr:pk x.op<r):
 Calls Tryz.prog 123 #[v,.agg #[.string o,.string nm,.slice A ll cap,.int .i64 p],.int .i64 (r:Int)] w (TellP B l (40::tlF x++[41]) w v):=by
 obtain⟨i0,hi0,hz⟩:=Option.map_eq_some_iff.1 infoB
 simp only[Prod.mk.injEq]at hz
 obtain⟨hz0,hz1,hz2⟩:=hz
 have HI:=Lib.hid hi0
 have HZ0:=Lib.hid hz0
 have HZ1:=Lib.hid hz1
 have HZ2:=Lib.hid hz2
 have ho:o.data.toList=x.op:=by rw[show o=⟨x.op.toArray⟩from hH.opn]
 have H1:=Lib.hid (prank_any o)
 unfold PkP at H1
 rw[ho]at H1
 have hba:Below w.heap.size w (w.alloc (.cells #[.string o,.string nm,.slice A ll cap,.int .i64 p] 27)):=(Below.refl _ _).alloc (Nat.le_refl _) _
 have hB0:=bx4 (Bx.new w 27 [.string o,.string nm,.slice A ll cap,.int .i64 p])
 have ht0:=ht.below hba
 have hH0:=hH.below hba
 have HBA:=Lib.hid hba
 have HIH:=Lib.hid ih
 have g1:decide ((r:Int)<=(pk x.op:Int))=false:=by simp;omega
 have g2:decide (r<=pk x.op)=false:=by simp;omega
 clear ih ht hH hr ho hba hi0 hz0 hz1 hz2
 go_enter Tryz.func123,Tryz.ntmps123
 go_wp2_with fail
 with_reducible refine(H1.out _).mono ?_
 rintro e w' ⟨rfl,rfl⟩
 go_wp2_with fail
 generalize w.alloc (.cells #[.string o,.string nm,.slice A ll cap,.int .i64 p] 27)=W at*
 obtain⟨b0,b1,b2,b3⟩:=hB0.c4
 have hbz:=hB0.lt
 have HB0:=Lib.hid hB0
 have HT0:=Lib.hid ht0
 have HH0:=Lib.hid hH0
 clear hB0 ht0 hH0
 go_region_law (first
  | (refine step_byte (B:=B) (l:=l) (v:=v) _ rfl (.tmp 15) (.tmp 16) rfl ?_ ?_ (W.heap.size) ?_ 40 ?_ ?_ ?_
     · simp[Act.eval]
     · exact((HT0.out).alloc _).drew
     · simp[Act.eval]
     · exact heapA rfl _
     · omega
     intro g1 cap1 w1 ht1 hg1 hat1
     obtain⟨b0,b1,b2,b3⟩:=(FBx.text (((HB0.out).alloc _).drew) (((HT0.out).alloc _).drew) hg1).c4
     have HH1:=Lib.hid (FS.text (((HH0.out).alloc _).drew) (((HT0.out).alloc _).drew) hg1)
     have HGA:=Lib.hid (grow_trans (v1:=v) (grow_below ((HBA.out.alloc (Nat.le_of_lt hbz) _).drew) _) (Lies.refl _ _) hg1)
     have HLA:=Lib.hid (show Lies w v (.slice (some ⟨g1,0,none⟩) (l.length+1) cap1)from lies_of ((HBA.out.alloc (Nat.le_of_lt hbz) _).drew).size hat1)
     have hz1:w.heap.size<w1.heap.size:=(FBx.text (((HB0.out).alloc _).drew) (((HT0.out).alloc _).drew) hg1).lt
     have hg1l:g1<w1.heap.size:=txt_lt ht1
     have HT1:=Lib.hid ht1
     clear ht1 hg1 hat1)
  | (refine step_byte (B:=B) (l:=l) (v:=v) _ rfl (.tmp 15) (.tmp 16) rfl ?_ ?_ (W.heap.size) ?_ 40 ?_ ?_ ?_
     · simp[Act.eval]
     · exact(((HT0.out).alloc _).alloc _).drew
     · simp[Act.eval]
     · exact heapB rfl (.cells #[.int .u8 40] 5) (.cells #[.int .u8 41] 5)
     · omega
     intro g1 cap1 w1 ht1 hg1 hat1
     obtain⟨b0,b1,b2,b3⟩:=(FBx.text ((((HB0.out).alloc _).alloc _).drew) ((((HT0.out).alloc _).alloc _).drew) hg1).c4
     have HH1:=Lib.hid (FS.text ((((HH0.out).alloc _).alloc _).drew) ((((HT0.out).alloc _).alloc _).drew) hg1)
     have HGA:=Lib.hid (grow_trans (v1:=v) (grow_below (((HBA.out.alloc (Nat.le_of_lt hbz) _).alloc (by simp;omega) _).drew) _) (Lies.refl _ _) hg1)
     have HLA:=Lib.hid (show Lies w v (.slice (some ⟨g1,0,none⟩) (l.length+1) cap1)from lies_of (((HBA.out.alloc (Nat.le_of_lt hbz) _).alloc (by simp;omega) _).drew).size hat1)
     have hz1:w.heap.size<w1.heap.size:=(FBx.text ((((HB0.out).alloc _).alloc _).drew) ((((HT0.out).alloc _).alloc _).drew) hg1).lt
     have hg1l:g1<w1.heap.size:=txt_lt ht1
     have H41:=Lib.hid (show w1.heap[W.heap.size+1]?=some (.cells #[.int .u8 41] 5)from(hg1.block (W.heap.size+1) (by first | (simp;done) | (simp;omega)) (own_ne HT0.out (by omega))).trans (heapA (by simp) _))
     have HNE:=Lib.hid (show W.heap.size+1≠g1 from kne HT0.out hat1 (by first | (simp;done) | (simp;omega)) (by omega))
     have HT1:=Lib.hid ht1
     clear ht1 hg1 hat1)
  | (refine step_byte (B:=B) (l:=l) (v:=v) _ rfl (.tmp 15) (.tmp 16) rfl ?_ ?_ (W.heap.size+1) ?_ 40 ?_ ?_ ?_
     · simp[Act.eval]
     · exact(((HT0.out).alloc _).alloc _).drew
     · simp[Act.eval]
     · exact heapA (by simp) _
     · omega
     intro g1 cap1 w1 ht1 hg1 hat1
     obtain⟨b0,b1,b2,b3⟩:=(FBx.text ((((HB0.out).alloc _).alloc _).drew) ((((HT0.out).alloc _).alloc _).drew) hg1).c4
     have HH1:=Lib.hid (FS.text ((((HH0.out).alloc _).alloc _).drew) ((((HT0.out).alloc _).alloc _).drew) hg1)
     have HGA:=Lib.hid (grow_trans (v1:=v) (grow_below (((HBA.out.alloc (Nat.le_of_lt hbz) _).alloc (by simp;omega) _).drew) _) (Lies.refl _ _) hg1)
     have HLA:=Lib.hid (show Lies w v (.slice (some ⟨g1,0,none⟩) (l.length+1) cap1)from lies_of (((HBA.out.alloc (Nat.le_of_lt hbz) _).alloc (by simp;omega) _).drew).size hat1)
     have hz1:w.heap.size<w1.heap.size:=(FBx.text ((((HB0.out).alloc _).alloc _).drew) ((((HT0.out).alloc _).alloc _).drew) hg1).lt
     have hg1l:g1<w1.heap.size:=txt_lt ht1
     have H41:=Lib.hid (show w1.heap[W.heap.size]?=some (.cells #[.int .u8 41] 5)from(hg1.block (W.heap.size) (by first | (simp;done) | (simp;omega)) (own_ne HT0.out (by omega))).trans (heapB rfl (.cells #[.int .u8 41] 5) (.cells #[.int .u8 40] 5)))
     have HNE:=Lib.hid (show W.heap.size≠g1 from kne HT0.out hat1 (by first | (simp;done) | (simp;omega)) (by omega))
     have HT1:=Lib.hid ht1
     clear ht1 hg1 hat1)
  | (go_simp
     go_at_call 90
     refine(HIH.out B w1 _ _ _ (FV.c ⟨o,nm,A,ll,cap,p⟩) HT1.out HH1.out (by simp;omega)).mono ?_
     rintro e w2 ⟨v2,rfl,ht2,hg2,hl2⟩
     have HT2:=Lib.hid ht2
     have HGB:=Lib.hid (grow_trans HGA.out HLA.out hg2)
     have HLB:=Lib.hid (Lies.trans HLA.out HGA.out.size hl2)
     have hz2:w.heap.size<w2.heap.size:=by have:=hg2.size;omega
     (try have H42:=Lib.hid ((hg2.block _ (blk_lt H41.out) (slice_ne HNE.out)).trans H41.out))
     clear ht2 hg2 hl2)
  | (go_simp
     go_at_call 90
     refine(HIH.out B (w1.alloc (.cells #[.int .u8 41] 5)) _ _ _ (FV.c ⟨o,nm,A,ll,cap,p⟩) (HT1.out.alloc _) (HH1.out.alloc _) (by simp;omega)).mono ?_
     rintro e w2 ⟨v2,rfl,ht2,hg2,hl2⟩
     have HT2:=Lib.hid ht2
     have HG1':=Lib.hid (grow_trans HGA.out HLA.out (grow_below ((Below.refl _ _).alloc (Nat.le_refl _) (.cells #[.int .u8 41] 5)) _))
     have HGB:=Lib.hid (grow_trans HG1'.out HLA.out hg2)
     have HLB:=Lib.hid (Lies.trans HLA.out HG1'.out.size hl2)
     have hz2:w.heap.size<w2.heap.size:=by have:=hg2.size;simp at this;omega
     have H42:=Lib.hid (show w2.heap[w1.heap.size]?=some (.cells #[.int .u8 41] 5)from(hg2.block w1.heap.size (by simp) (slice_ne (by omega))).trans (heapN rfl _))
     clear ht2 hg2 hl2)
  | (refine step_byte (B:=B) (l:=l++[40]++tlF x) (v:=v2) _ rfl (.tmp 19) (.tmp 20) rfl ?_ ?_ (W.heap.size) ?_ 41 ?_ ?_ ?_
     · simp[Act.eval]
     · exact HT2.out
     · simp[Act.eval]
     · exact H42.out
     · (simp;omega)
     intro g3 cap3 w3 ht3 hg3 hat3
     have HT3:=Lib.hid ht3
     have HGC:=Lib.hid (grow_trans HGB.out HLB.out hg3)
     have HLC:=Lib.hid (show Lies w v (.slice (some ⟨g3,0,none⟩) ((l++[40]++tlF x).length+1) cap3)from Lies.trans HLB.out HGB.out.size (lies_of (Nat.le_refl _) hat3))
     clear ht3 hg3 hat3)
  | (refine step_byte (B:=B) (l:=l++[40]++tlF x) (v:=v2) _ rfl (.tmp 19) (.tmp 20) rfl ?_ ?_ (W.heap.size+1) ?_ 41 ?_ ?_ ?_
     · simp[Act.eval]
     · exact HT2.out
     · simp[Act.eval]
     · exact H42.out
     · (simp;omega)
     intro g3 cap3 w3 ht3 hg3 hat3
     have HT3:=Lib.hid ht3
     have HGC:=Lib.hid (grow_trans HGB.out HLB.out hg3)
     have HLC:=Lib.hid (show Lies w v (.slice (some ⟨g3,0,none⟩) ((l++[40]++tlF x).length+1) cap3)from Lies.trans HLB.out HGB.out.size (lies_of (Nat.le_refl _) hat3))
     clear ht3 hg3 hat3)
  | (refine step_byte (B:=B) (l:=l++[40]++tlF x) (v:=v2) _ rfl (.tmp 19) (.tmp 20) rfl ?_ ?_ (w1.heap.size) ?_ 41 ?_ ?_ ?_
     · simp[Act.eval]
     · exact HT2.out
     · simp[Act.eval]
     · exact H42.out
     · (simp;omega)
     intro g3 cap3 w3 ht3 hg3 hat3
     have HT3:=Lib.hid ht3
     have HGC:=Lib.hid (grow_trans HGB.out HLB.out hg3)
     have HLC:=Lib.hid (show Lies w v (.slice (some ⟨g3,0,none⟩) ((l++[40]++tlF x).length+1) cap3)from Lies.trans HLB.out HGB.out.size (lies_of (Nat.le_refl _) hat3))
     clear ht3 hg3 hat3)
  | (refine step_byte (B:=B) (l:=l++[40]++tlF x) (v:=v2) _ rfl (.tmp 19) (.tmp 20) rfl ?_ ?_ (w2.heap.size) ?_ 41 ?_ ?_ ?_
     · simp[Act.eval]
     · exact HT2.out.alloc _
     · simp[Act.eval]
     · exact heapN rfl _
     · (simp;omega)
     intro g3 cap3 w3 ht3 hg3 hat3
     have HT3:=Lib.hid ht3
     have HGC:=Lib.hid (grow_trans (grow_trans HGB.out HLB.out (grow_below ((Below.refl _ _).alloc (Nat.le_refl _) (.cells #[.int .u8 41] 5)) _)) HLB.out hg3)
     have HLC:=Lib.hid (show Lies w v (.slice (some ⟨g3,0,none⟩) ((l++[40]++tlF x).length+1) cap3)from Lies.trans HLB.out HGB.out.size (lies_of (by simp) hat3))
     clear ht3 hg3 hat3))
 all_goals
  go_wp2
  go_ret
  refine⟨_,rfl,?_,HGC.out,HLC.out⟩
  have e1:l++(40::(tlF x++[41]))=l++[40]++tlF x++[41]:=by simp
  rw[e1]
  exact txt_len HT3.out (by simp)
end
section
open Go.RowKit Go.Sort
theorem fkid_any{x:Fo}(ih:TCF x){B:Nat}{w:World}{v:Value}{l:List UInt8}{S:Nat->Prop}{o nm:ByteArray}{p:Int}{A:Option Addr}{ll cap:Nat}(ht:Txt B w v l)(hH:FS w 27 S x (FV.c ⟨o,nm,A,ll,cap,p⟩))(r:Nat)(hl:l.length+(parX (decide (pk x.op<r)) (tlF x)).length<=1000000):
 Calls Tryz.prog 123 #[v,.agg #[.string o,.string nm,.slice A ll cap,.int .i64 p],.int .i64 (r:Int)] w (TellP B l (parX (decide (pk x.op<r)) (tlF x)) w v):=by
 by_cases hr:pk x.op<r
 · rw[decide_eq_true hr]at hl ⊢
   exact fkid_par ih ht hH (by simp[parX]at hl;omega) r hr
 · rw[decide_eq_false hr]at hl ⊢
   exact fkid_plain ih ht hH (by simp[parX]at hl;omega) r (by omega)
def segF(op:List UInt8)(ks:List Fo)(i:Nat):List UInt8:=(sgF op).getD i []++(match ks[i]? with | some k=>parX (decide (pk k.op<loP (pk op) i)) (tlF k) | none=>[])
def preF(op:List UInt8)(ks:List Fo):Nat->List UInt8
 | 0=>[]
 | k+1=>preF op ks k++segF op ks k
theorem preF_le(op:List UInt8)(ks:List Fo){j k:Nat}(h:j<=k):(preF op ks j).length<=(preF op ks k).length:=by
 induction k with
 | zero=>have:j=0:=by omega
         subst this;exact Nat.le_refl _
 | succ k ih=>
   by_cases he:j=k+1
   · subst he;exact Nat.le_refl _
   · have:=ih (by omega)
     simp only[preF,List.length_append]
     omega
structure KdF(x:Fo):Prop where
 len:(sgF x.op).length=x.kids.length
 all:tlF x=preF x.op x.kids x.kids.length
 rank:pk x.op<5
 op:x.op.length<=2
theorem pk_len{x:List UInt8}(h:pk x<5):x.length<=2:=by
 unfold pk at h
 repeat' split at h
 all_goals (first | (rename_i hc;rcases hc with rfl | rfl | rfl | rfl<;>simp;done) | (rename_i hc;rcases hc with rfl | rfl | rfl<;>simp;done) | (rename_i hc;subst hc;simp;done) | omega)
theorem pk_four{x:List UInt8}(h:pk x=4):x=[33]∨x=[88]∨x=[70]∨x=[71]:=by
 unfold pk at h
 repeat' split at h
 all_goals (first | omega | assumption)
theorem fkids_two{x:Fo}(h:KdF x):x.kids.length<=2:=by cases x<;>simp[Fo.kids]
theorem kdf_un{op:List UInt8}{a:Fo}{p:Nat}(h:pk op=4):KdF (.un op a p):=by
 rcases pk_four h with rfl | rfl | rfl | rfl
 · exact⟨rfl,by simp[tlF,preF,segF,Fo.op,Fo.kids,sgF,loP,h],by simp only[Fo.op];omega,by simp[Fo.op]⟩
 · exact⟨rfl,by simp[tlF,preF,segF,Fo.op,Fo.kids,sgF,loP,h],by simp only[Fo.op];omega,by simp[Fo.op]⟩
 · exact⟨rfl,by simp[tlF,preF,segF,Fo.op,Fo.kids,sgF,loP,h],by simp only[Fo.op];omega,by simp[Fo.op]⟩
 · exact⟨rfl,by simp[tlF,preF,segF,Fo.op,Fo.kids,sgF,loP,h],by simp only[Fo.op];omega,by simp[Fo.op]⟩
theorem kdf_bin{op:List UInt8}{a b:Fo}{p:Nat}(h:pk op<4):KdF (.bin op a b p):=by
 have n1:op≠[33]:=fun e=>by rw[e]at h;exact absurd h (by decide)
 have n2:op≠[88]:=fun e=>by rw[e]at h;exact absurd h (by decide)
 have n3:op≠[70]:=fun e=>by rw[e]at h;exact absurd h (by decide)
 have n4:op≠[71]:=fun e=>by rw[e]at h;exact absurd h (by decide)
 have e1:sgF op=[[],32::op++[32]]:=by simp[sgF,n1,n2,n3,n4]
 refine⟨by simp[Fo.op,Fo.kids,e1],?_,by simp only[Fo.op];omega,pk_len (by simp only[Fo.op];omega)⟩
 simp[tlF,preF,segF,Fo.op,Fo.kids,e1]
theorem ftell_leaf(op nm:List UInt8)(p:Nat)(h:OkF (.leaf op nm p)):TCF (.leaf op nm p):=by
 intro B w v l S c ht hH hl
 have hnm:nm.length<=65536:=by rcases h with h | h;exact h.2;rw[h.2];simp
 have hr:pk op=5:=by rcases h with⟨h,_⟩ | ⟨h | h,_⟩<;>rw[h]<;>decide
 have hat:atF (.leaf op nm p)=tlF (.leaf op nm p):=rfl
 obtain rfl:c=[strV op,strV nm,.slice none 0 0,.int .i64 (p:Int)]:=hH
 have H1:=Lib.hid (prank_any ⟨op.toArray⟩)
 unfold PkP at H1
 have e1:pk (⟨op.toArray⟩:ByteArray).data.toList=5:=hr
 rw[e1]at H1
 have hba:Below w.heap.size w (w.alloc (.cells #[.string ⟨op.toArray⟩,.string ⟨nm.toArray⟩,.slice none 0 0,.int .i64 (p:Int)] 27)):=(Below.refl _ _).alloc (Nat.le_refl _) _
 have H2:=Lib.hid (patomtext_any (x:=.leaf op nm p) (S:=S) (w.alloc (.cells #[.string ⟨op.toArray⟩,.string ⟨nm.toArray⟩,.slice none 0 0,.int .i64 (p:Int)] 27)) (show FS _ 27 S (.leaf op nm p) [strV op,strV nm,.slice none 0 0,.int .i64 (p:Int)]from rfl) hnm)
 rw[hat]at H2
 have HT:=Lib.hid ht
 have HBA:=Lib.hid hba
 change Calls Tryz.prog 90 #[v,.agg #[.string ⟨op.toArray⟩,.string ⟨nm.toArray⟩,.slice none 0 0,.int .i64 (p:Int)]] w _
 generalize tlF (.leaf op nm p)=tt at*
 have hl2:l.length+(⟨tt.toArray⟩:ByteArray).size<=1000000000:=by show l.length+tt.toArray.size<=_;simp;omega
 clear ht hl hba hr e1 hat h hnm
 go_enter Tryz.func90,Tryz.ntmps90
 go_wp2_with fail
 with_reducible refine(H1.out _).mono ?_
 rintro e w' ⟨rfl,rfl⟩
 go_wp2_with fail
 refine(H2.out).mono ?_
 rintro e w1 ⟨rfl,hb1⟩
 have HB1:=Lib.hid (HBA.out.trans (hb1.mono HBA.out.size))
 have HT1:=Lib.hid (HT.out.below HB1.out)
 clear hb1
 go_wp2_with (at_builtin;refine wpList_str _ rfl _ _ rfl rfl HT1.out _ rfl hl2 ?_;intro v' w' h1 h2 h3)
 go_ret
 exact⟨v',rfl,h1,grow_trans (v1:=v) (grow_below HB1.out _) (Lies.refl _ _) h2,(Lies.refl w v).trans HB1.out.size h3⟩
def TlRelF(B:Nat)(x:Fo)(S:Nat->Prop)(l:List UInt8)(w:World)(v:Value)(gs:Nat)(o nm:ByteArray)(A:Option Addr)(cap:Nat)(p:Int)(t i:Value)(wr:World):Prop:=
 ∃k:Nat,i= .int .i64 (k:Int)/\k<=x.kids.length/\Txt B wr t (l++preF x.op x.kids k)/\w.grownBy wr v.ownBlock/\Lies w v t/\B4 wr w.heap.size (.string o) (.string nm) (.slice A x.kids.length cap) (.int .i64 p)/\wr.heap[gs]?=some (.cells ((sgF x.op).map strV).toArray 9 (0,0))/\FS wr 27 S x (FV.c ⟨o,nm,A,x.kids.length,cap,p⟩)
theorem ftell_kids{x:Fo}(hk:KdF x)(ih:∀k∈x.kids,TCF k):TCF x:=by
 intro B w v l S c ht hH hl
 obtain⟨A,cap,rfl,hkr0⟩:=hH.view
 clear hkr0
 have hr9:=hk.rank
 have g3:((pk x.op:Int)==5)=false:=by rw[beq_eq_false_iff_ne];omega
 have H1:=Lib.hid (prank_any ⟨x.op.toArray⟩)
 unfold PkP at H1
 have e1:pk (⟨x.op.toArray⟩:ByteArray).data.toList=pk x.op:=rfl
 rw[e1]at H1
 have hsz:(⟨x.op.toArray⟩:ByteArray).size<=65536:=by show x.op.toArray.size<=_;have:=hk.op;simp;omega
 have H2:=Lib.hid (psigns_any ⟨x.op.toArray⟩ hsz)
 have H3:=Lib.hid (ploosest_any ⟨x.op.toArray⟩)
 have hba:Below w.heap.size w (w.alloc (.cells #[.string ⟨x.op.toArray⟩,.string ⟨x.nm.toArray⟩,.slice A x.kids.length cap,.int .i64 (x.pos:Int)] 27)):=(Below.refl _ _).alloc (Nat.le_refl _) _
 have HBA:=Lib.hid hba
 have HBX:=Lib.hid (bx4 (Bx.new w 27 [.string ⟨x.op.toArray⟩,.string ⟨x.nm.toArray⟩,.slice A x.kids.length cap,.int .i64 (x.pos:Int)]))
 have HT:=Lib.hid ht
 have HH:=Lib.hid hH
 have HKD:=Lib.hid hk
 have HIH:=Lib.hid ih
 have HN:=Lib.hid (fkids_three x)
 change Calls Tryz.prog 90 #[v,.agg #[.string ⟨x.op.toArray⟩,.string ⟨x.nm.toArray⟩,.slice A x.kids.length cap,.int .i64 (x.pos:Int)]] w _
 rw[hk.all]at hl ⊢
 clear ht hH hba hr9 e1 hk ih hsz
 have e2:(⟨x.op.toArray⟩:ByteArray).data.toList=x.op:=rfl
 rw[e2]at H2 H3
 clear e2
 generalize(⟨x.op.toArray⟩:ByteArray)=o at*
 generalize(⟨x.nm.toArray⟩:ByteArray)=nm at*
 generalize(x.pos:Int)=p at*
 obtain⟨N,hN⟩:∃N,N=x.kids.length:=⟨_,rfl⟩
 have HNN:=Lib.hid hN
 have hN3:N<=3:=by rw[hN];exact HN.out
 have hlen:(sgF x.op).length=N:=by rw[hN];exact HKD.out.len
 have HLEN:=Lib.hid hlen
 rw[<- hN]at hl HBX HBA HH ⊢
 clear hN hlen
 go_enter Tryz.func90,Tryz.ntmps90
 go_wp2_with fail
 with_reducible refine(H1.out _).mono ?_
 rintro e w' ⟨rfl,rfl⟩
 go_wp2_with fail
 refine(H2.out _).mono ?_
 rintro e w1 ⟨gs,rfl,hgs,hgh,hb1⟩
 have HB1:=Lib.hid (HBA.out.trans (hb1.mono HBA.out.size))
 have HBX1:=Lib.hid (HBX.out.below hb1)
 have HGS:=Lib.hid hgh
 rw[HLEN.out]
 clear hgs hgh hb1
 have HT1:=Lib.hid (HT.out.below HB1.out)
 have HH1:=Lib.hid (HH.out.below HB1.out)
 go_wp2
 go_loopw [0,19] (fun t i wr=>TlRelF B x S l w v gs o nm A cap p t i wr) (fun _ i _=>N - (intOf i).toNat)
 case atStart=>exact⟨0,rfl,Nat.zero_le _,by rw[preF,List.append_nil];exact HT1.out,grow_below HB1.out _,Lies.refl _ _,by rw[<- HNN.out];exact HBX1.out,HGS.out,by rw[<- HNN.out];exact HH1.out⟩
 case round=>
  obtain⟨k,rfl,hkn,ht,hg,hli,hbx,hsg,hh⟩:=hrel
  rw[<- HNN.out]at hkn hbx hh
  by_cases hlt:k<N
  · have c4:decide ((k:Int)<(N:Int))=true:=by simp;omega
    have c5:decide (k<N)=true:=by simpa using hlt
    have cs:=sign_cell hsg (by rw[HLEN.out];exact hlt)
    have kk:k<x.kids.length:=by rw[<- HNN.out];exact hlt
    have hseg:segF x.op x.kids k=(sgF x.op).getD k []++parX (decide (pk x.kids[k].op<loP (pk x.op) k)) (tlF x.kids[k]):=by
     unfold segF;rw[List.getElem?_eq_getElem kk]
    have hpl:(preF x.op x.kids (k+1)).length<=(preF x.op x.kids N).length:=preF_le _ _ (by omega)
    have hln:l.length+(preF x.op x.kids k).length+((sgF x.op).getD k []).length+(parX (decide (pk x.kids[k].op<loP (pk x.op) k)) (tlF x.kids[k])).length<=1000000:=by
     rw[preF,List.length_append,hseg,List.length_append]at hpl
     omega
    obtain⟨sgk,hsgk⟩:∃s,s=(sgF x.op).getD k []:=⟨_,rfl⟩
    rw[<- hsgk]at cs hln hseg
    have HSEG:=Lib.hid hseg
    have hl1:(l++preF x.op x.kids k).length+(⟨sgk.toArray⟩:ByteArray).size<=1000000000:=by
     show _+sgk.toArray.size<=_
     simp;omega
    obtain⟨b0,b1,b2,b3⟩:=hbx.c4
    have hbl:=hbx.lt
    have HT2:=Lib.hid ht
    have HG2:=Lib.hid hg
    have HL2:=Lib.hid hli
    have HBX2:=Lib.hid hbx
    have HSG2:=Lib.hid hsg
    have HH2:=Lib.hid hh
    have HLN:=Lib.hid hln
    have HK2:=Lib.hid (HIH.out _ (List.getElem_mem kk))
    clear ht hg hli hbx hsg hh hln hseg hsgk hpl
    clear b0 b1 b2 b3
    go_wp2_with (at_builtin;refine wpList_str _ rfl _ _ rfl rfl HT2.out _ rfl hl1 ?_;intro v3 w3 h1 h2 h3;obtain⟨b0,b1,b2,b3⟩:=(FBx.text HBX2.out HT2.out h2).c4;have hbl3:=(FBx.text HBX2.out HT2.out h2).lt)
    obtain⟨g,⟨o',nm',P',l',cp',p'⟩,rfl,hg',hH',a0,a1,a2,a3⟩:=(HH2.out.text HT2.out h2).kr.1 k kk
    have HT3:=Lib.hid h1
    have HG3:=Lib.hid (grow_trans HG2.out HL2.out h2)
    have HL3:=Lib.hid (HL2.out.trans HG2.out.size h3)
    have HBX3:=Lib.hid (FBx.text HBX2.out HT2.out h2)
    have HSG3:=Lib.hid (HT2.out.keep h2 HSG2.out (by decide))
    have HH3:=Lib.hid (HH2.out.text HT2.out h2)
    have HKH3:=Lib.hid hH'
    have hk2:k<=1:=by have:=fkids_two HKD.out;rw[<- HNN.out]at this;omega
    clear h1 h2 h3 hH'
    go_region_law (first
     | (go_simp
        go_at_call 124
        refine(H3.out k hk2 _).mono ?_
        rintro e w' ⟨rfl,rfl⟩)
     | (go_simp
        go_at_call 123
        refine(fkid_any HK2.out HT3.out.drew HKH3.out.drew (loP (pk x.op) k) (by have:=HLN.out;simp at this ⊢;omega)).mono ?_
        rintro e w4 ⟨v4,rfl,h4,h5,h6⟩
        have HT4:=Lib.hid h4
        have HG4:=Lib.hid h5
        have HL4:=Lib.hid h6
        clear h4 h5 h6))
    all_goals
     have hpre:l++preF x.op x.kids (k+1)=l++preF x.op x.kids k++(⟨sgk.toArray⟩:ByteArray).data.toList++parX (decide (pk x.kids[k].op<loP (pk x.op) k)) (tlF x.kids[k]):=by
      rw[preF,HSEG.out];simp
     have HRL:Hid (TlRelF B x S l w v gs o nm (some ⟨g,0,none⟩) cap p v4 (.int .i64 ((k:Int)+1)) w4):=
      Lib.hid ⟨k+1,by go_num,by rw[<- HNN.out];omega,by rw[hpre];exact HT4.out,grow_trans (grow_drew HG3.out) HL3.out HG4.out,HL3.out.trans (grow_drew HG3.out).size HL4.out,by rw[<- HNN.out];exact FBx.text HBX3.out.drew HT3.out.drew HG4.out,HT3.out.drew.keep HG4.out HSG3.out (by decide),by rw[<- HNN.out];exact HH3.out.drew.text HT3.out.drew HG4.out⟩
     clear hpre
     go_wp2
     go_roundw
     case rel=>exact HRL.out
     case measure=>simp[intOf];omega
  · have c4:decide ((k:Int)<(N:Int))=false:=by simp;omega
    have c5:decide (k<N)=false:=by simpa using hlt
    have hkN:k=N:=by omega
    subst hkN
    have HT2:=Lib.hid ht
    have HG2:=Lib.hid hg
    have HL2:=Lib.hid hli
    clear ht hg hli hbx hsg hh
    go_wp2
    go_ret
    exact⟨_,rfl,HT2.out,HG2.out,HL2.out⟩
theorem ftell_any:∀x:Fo,OkF x->TCF x
 | .leaf op nm p,h=>ftell_leaf op nm p h
 | .un op a p,h=>ftell_kids (kdf_un h.1) (by simp only[Fo.kids,List.mem_singleton];rintro x rfl;exact ftell_any x h.2)
 | .bin op a b p,h=>ftell_kids (kdf_bin h.1) (by
     have h1:=ftell_any a h.2.1
     have h2:=ftell_any b h.2.2
     simp only[Fo.kids,List.mem_cons,List.not_mem_nil,or_false]
     rintro x (rfl | rfl)<;>assumption)
theorem tlF_pos:∀x:Fo,OkF x->0<(tlF x).length
 | .leaf op nm p,h=>by
   rcases h with⟨rfl,_⟩ | ⟨rfl | rfl,_⟩<;>simp[tlF,opLab,opTrue,opFalse]
 | .un op a p,h=>by rcases pk_four h.1 with rfl | rfl | rfl | rfl<;>simp[tlF]
 | .bin op a b p,_=>by simp[tlF];omega
theorem fprint_any{x:Fo}(hx:OkF x){S:Nat->Prop}{o nm:ByteArray}{p:Int}{A:Option Addr}{ll cap:Nat}(w:World)(hH:FS w 27 S x (FV.c ⟨o,nm,A,ll,cap,p⟩))(hl:(tlF x).length<=1000000):
 Calls Tryz.prog 52 #[.agg #[.string o,.string nm,.slice A ll cap,.int .i64 p]] w fun e w'=>e= .returned (.string ⟨(tlF x).toArray⟩)/\Below w.heap.size w w':=by
 have hba:Below w.heap.size w (w.alloc (.cells #[.string o,.string nm,.slice A ll cap,.int .i64 p] 27)):=(Below.refl _ _).alloc (Nat.le_refl _) _
 have H:=Lib.hid (ftell_any x hx w.heap.size _ (.slice none 0 0) [] S _ ⟨World.ownsRow_nil _ _ _ _,hba.size⟩ (hH.below hba) (by simpa using hl))
 have HBA:=Lib.hid hba
 have HP:=Lib.hid (tlF_pos x hx)
 clear hH hba hx
 go_enter Tryz.func52,Tryz.ntmps52
 go_wp2_with fail
 refine(H.out).mono ?_
 rintro e w1 ⟨v',rfl,h1,h2,h3⟩
 rw[List.nil_append]at h1
 obtain⟨g,cap',rfl,_⟩:=h1.own.form HP.out
 have HS1:=Lib.hid (txt_string h1 rfl)
 have HB1:=Lib.hid (HBA.out.trans ((show Below w.heap.size _ _ from(Below.refl _ _).grown h2 HBA.out.size (fun k hk=>by cases hk))))
 clear h1 h2 h3
 generalize(tlF x).length=N at*
 have hcv:=HS1.out
 go_wp2
 go_ret
 exact⟨rfl,HB1.out⟩
end
end
end Go.Proofs.YtmgjpjjglghbaaaGreatDoor
