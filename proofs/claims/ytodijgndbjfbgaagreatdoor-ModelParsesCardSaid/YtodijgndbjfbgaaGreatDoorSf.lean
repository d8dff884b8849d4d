import Derived.Test.YtodijgndbjfbgaaGreatDoorSe
import Derived.Deep.LoopGhost
import Derived.IntWalk
import Derived.Test.YtodijgndbjfbgaaGreatDoorH2
import Derived.Lib.AppendStr
import Derived.Lib.AppendIntMem
import Derived.Deep.AppendLies
import Derived.Deep.RegionLaw
import Derived.RegionTactic
import Derived.BigRegion
import Derived.Test.YtodijgndbjfbgaaGreatDoorSa
import Derived.Laws.BytesArg
namespace Go.Proofs.YtodijgndbjfbgaaGreatDoor
set_option maxHeartbeats 16000000
set_option maxRecDepth 100000
section
section
open Go.RowKit
def Ex.kids:Ex->List Ex
 | .leaf _ _ _ _=>[]
 | .un _ a _=>[a]
 | .bin _ a b _=>[a,b]
 | .cond a b c _=>[a,b,c]
def Ex.nm:Ex->List UInt8
 | .leaf _ nm _ _=>nm
 | _=>[]
def Ex.num:Ex->Nat
 | .leaf _ _ n _=>n
 | _=>0
def KR(w:World)(e:TypeId)(S:Nat->Prop)(A:Option Addr)(ks:List Ex):Prop:=
 ∀i (h:i<ks.length),∃g o nm n B l cap p,A=some ⟨g,0,none⟩/\g<w.heap.size/\HS w e S ks[i] (BM o nm n B l cap p)/\w.cell? ⟨g,i*5,none⟩=some (.string o)/\w.cell? ⟨g,i*5+1,none⟩=some (.string nm)/\w.cell? ⟨g,i*5+2,none⟩=some (.int .i64 n)/\w.cell? ⟨g,i*5+3,none⟩=some (.slice B l cap)/\w.cell? ⟨g,i*5+4,none⟩=some (.int .i64 p)
section
variable {w w':World} {e:TypeId} {S:Nat->Prop}
theorem Hp{g:Nat}{xs:List Value}(h:LP w e S g xs){k:Ex}{c:List Value}{i:Nat}(hk:HS w e S k c)(hx:∀j,j<5->xs[i*5+j]?=c[j]?):∃g' o nm n B l cap p,(some ⟨g,0,none⟩:Option Addr)=some ⟨g',0,none⟩/\g'<w.heap.size/\HS w e S k (BM o nm n B l cap p)/\w.cell? ⟨g',i*5,none⟩=some (.string o)/\w.cell? ⟨g',i*5+1,none⟩=some (.string nm)/\w.cell? ⟨g',i*5+2,none⟩=some (.int .i64 n)/\w.cell? ⟨g',i*5+3,none⟩=some (.slice B l cap)/\w.cell? ⟨g',i*5+4,none⟩=some (.int .i64 p):=by obtain⟨nm,n,B,l,cap,rfl⟩:=hk.form;have b:g<w.heap.size:=(by obtain⟨_,d,a,_⟩:=h;exact BB a);exact⟨g,_,nm,n,B,l,cap,_,rfl,b,hk,h.cell ((hx 0 (by omega)).trans rfl),h.cell ((hx 1 (by omega)).trans rfl),h.cell ((hx 2 (by omega)).trans rfl),h.cell ((hx 3 (by omega)).trans rfl),h.cell ((hx 4 (by omega)).trans rfl)⟩
theorem HS.len5{x:Ex}{c:List Value}(h:HS w e S x c):c.length=5:=by obtain⟨_,_,_,_,_,rfl⟩:=h.form;rfl
theorem Ka{a b:List Value}(ha:a.length=5)(j:Nat):(a++b)[5+j]?=b[j]?:=by rw[List.getElem?_append_right (by omega),ha];congr 1;omega
theorem HS.view:∀{x:Ex} {c:List Value},HS w e S x c->∃A cap,c=BM ⟨x.op.toArray⟩ ⟨x.nm.toArray⟩ (x.num:Int) A x.kids.length cap (x.pos:Int)/\KR w e S A x.kids
 | .leaf _ _ _ _,_,h=>⟨none,0,h,fun i hi=>absurd hi (by simp[Ex.kids])⟩
 | .un _ a _,_,⟨g,cap,ca,h1,h2,h3⟩=>by
   refine⟨_,cap,h1,fun i hi=>?_⟩
   match i,hi with
   | 0,_=>exact Hp h2 h3 (fun j hj=>by simp)
 | .bin _ a b _,_,⟨g,cap,ca,cb,h1,h2,h3,h4⟩=>by
   have l1:=h3.len5;refine⟨_,cap,h1,fun i hi=>?_⟩
   match i,hi with
   | 0,_=>exact Hp h2 h3 (fun j hj=>by rw[Nat.zero_mul,Nat.zero_add,List.getElem?_append_left (by omega)])
   | 1,_=>exact Hp h2 h4 (fun j hj=>by rw[Nat.one_mul,Ka l1])
 | .cond a b d _,_,⟨g,cap,ca,cb,cd,h1,h2,h3,h4,h5⟩=>by
   have l1:=h3.len5;have f:=h4.len5;refine⟨_,cap,h1,fun i hi=>?_⟩
   match i,hi with
   | 0,_=>exact Hp h2 h3 (fun j hj=>by rw[Nat.zero_mul,Nat.zero_add,List.getElem?_append_left (by omega)])
   | 1,_=>exact Hp h2 h4 (fun j hj=>by rw[Nat.one_mul,Ka l1,List.getElem?_append_left (by omega)])
   | 2,_=>exact Hp h2 h5 (fun j hj=>by rw[show 2*5+j=5+(5+j) by omega,Ka l1,Ka f])
theorem KR.below{A:Option Addr}{ks:List Ex}(h:KR w e S A ks)(hb:Below w.heap.size w w'):KR w' e S A ks:=by intro i q;obtain⟨g,o,nm,n,B,l,b,p,k,a,m,c0,c,d,f,j⟩:=h i q;exact⟨g,o,nm,n,B,l,b,p,k,by have:=hb.size;omega,m.below hb,(hb.cell (p:=⟨g,i*5,none⟩) a).trans c0,(hb.cell (p:=⟨g,i*5+1,none⟩) a).trans c,(hb.cell (p:=⟨g,i*5+2,none⟩) a).trans d,(hb.cell (p:=⟨g,i*5+3,none⟩) a).trans f,(hb.cell (p:=⟨g,i*5+4,none⟩) a).trans j⟩
end
theorem Bh{a b:Bool}(h:a=b):Ending.returned (.bool a)= .returned (.bool b):=by rw[h]
theorem Gc(x:Ex):x.kids.length<=3:=by cases x<;>simp[Ex.kids]
end
section
open Go.RowKit
def Y5(k:Nat)(w:World)(e:Ending)(w':World):Prop:=e= .returned (.int .i64 (k:Int))/\w=w'
theorem Li(s:ByteArray)(p:Nat)(hp:p<=2)(w:World):Calls Tryz.prog 138 #[.string s,.int .i64 (p:Int)] w (Y5 (lo (rk s.data.toList) p) w):=by
 have c:=RN s.data.toList;have H:=zz (fun W:World=>Cj s W);unfold WY at H;generalize rk s.data.toList=r at*;by_cases i:r=4
 · subst i;have b:=zz (show(4:Int)=(lo 4 p:Int) by simp[lo]);clear c;go_enter Tryz.func138,Tryz.ntmps138;go_wp2_with fail;(with_reducible refine(H.out _).mono ?_);rintro e a ⟨rfl,rfl⟩
   go_wp2;go_ret;exact⟨AW (b.out),rfl⟩
 by_cases k:r=8
 · subst k;have b:=zz (show(8:Int)=(lo 8 p:Int) by simp[lo]);clear c;go_enter Tryz.func138,Tryz.ntmps138;go_wp2_with fail;(with_reducible refine(H.out _).mono ?_);rintro e a ⟨rfl,rfl⟩
   go_wp2;go_ret;exact⟨AW (b.out),rfl⟩
 by_cases j:r=5
 · subst j;have b:=zz (show(6:Int)=(lo 5 p:Int) by simp[lo]);clear c;go_enter Tryz.func138,Tryz.ntmps138;go_wp2_with fail;(with_reducible refine(H.out _).mono ?_);rintro e a ⟨rfl,rfl⟩
   go_wp2;go_ret;exact⟨AW (b.out),rfl⟩
 by_cases g:r=0
 · subst g;clear c;by_cases d:p=0
   · subst d;clear hp;go_enter Tryz.func138,Tryz.ntmps138;go_wp2_with fail;(with_reducible refine(H.out _).mono ?_);rintro e a ⟨rfl,rfl⟩
     go_wp2;go_ret;exact⟨AW (rfl),rfl⟩
   by_cases f:p=1
   · subst f;clear hp;go_enter Tryz.func138,Tryz.ntmps138;go_wp2_with fail;(with_reducible refine(H.out _).mono ?_);rintro e a ⟨rfl,rfl⟩
     go_wp2;go_ret;exact⟨AW (rfl),rfl⟩
   obtain rfl:p=2:=(by omega);clear hp d f;go_enter Tryz.func138,Tryz.ntmps138;go_wp2_with fail;(with_reducible refine(H.out _).mono ?_);rintro e a ⟨rfl,rfl⟩
   go_wp2;go_ret;exact⟨AW (rfl),rfl⟩
 by_cases h:r=1
 · subst h;clear c;by_cases d:p=0
   · subst d;clear hp;go_enter Tryz.func138,Tryz.ntmps138;go_wp2_with fail;(with_reducible refine(H.out _).mono ?_);rintro e a ⟨rfl,rfl⟩
     go_wp2;go_ret;exact⟨AW (rfl),rfl⟩
   by_cases f:p=1
   · subst f;clear hp;go_enter Tryz.func138,Tryz.ntmps138;go_wp2_with fail;(with_reducible refine(H.out _).mono ?_);rintro e a ⟨rfl,rfl⟩
     go_wp2;go_ret;exact⟨AW (rfl),rfl⟩
   obtain rfl:p=2:=(by omega);clear hp d f;go_enter Tryz.func138,Tryz.ntmps138;go_wp2_with fail;(with_reducible refine(H.out _).mono ?_);rintro e a ⟨rfl,rfl⟩
   go_wp2;go_ret;exact⟨AW (rfl),rfl⟩
 have b:=zz (show((r:Int)+(p:Int))=(lo r p:Int) by simp[lo,i,k,j,g,h]);have n:((r:Int)==4)=false:=(by rw[beq_eq_false_iff_ne];omega);have q:((r:Int)==8)=false:=(by rw[beq_eq_false_iff_ne];omega);have o:((r:Int)==5)=false:=(by rw[beq_eq_false_iff_ne];omega);have l:((r:Int)==0)=false:=(by rw[beq_eq_false_iff_ne];omega);have m:((r:Int)==1)=false:=(by rw[beq_eq_false_iff_ne];omega);clear i k j g h;go_enter Tryz.func138,Tryz.ntmps138;go_wp2_with fail;(with_reducible refine(H.out _).mono ?_);rintro e a ⟨rfl,rfl⟩
 go_wp2;go_ret;exact⟨AW (b.out),rfl⟩
def Ca(op:List UInt8):List (List UInt8):=if rk op=0 then[[],[32,63,32],[32,58,32]]else if rk op=4 then[[33]]else if rk op=8 then[[45]]else[[],32::op++[32]]
def Y9(l:List (List UInt8))(w:World)(e:Ending)(w':World):Prop:=∃g,e= .returned (.slice (some ⟨g,0,none⟩) l.length l.length)/\w.heap.size<=g/\w'.heap[g]?=some (.cells (l.map Bm).toArray 9 (0,0))/\Below w.heap.size w w'
theorem O7(s:ByteArray)(hs:s.size<=65536)(w:World):Calls Tryz.prog 136 #[.string s] w (Y9 (Ca s.data.toList) w):=by
 have H:=zz (fun W:World=>Cj s W);unfold WY at H;by_cases a:rk s.data.toList=0
 · have e:Ca s.data.toList=[[],[32,63,32],[32,58,32]]:=(by simp[Ca,a]);rw[e];rw[a]at H;clear e a;go_enter Tryz.func136,Tryz.ntmps136;go_wp2_with fail;(with_reducible refine(H.out _).mono ?_);rintro e d ⟨rfl,rfl⟩
   go_wp2;go_ret;exact⟨w.heap.size,rfl,Nat.le_refl _,heap_alloc_new w _,(Below.refl _ _).alloc (Nat.le_refl _) _⟩
 by_cases b:rk s.data.toList=4
 · have e:Ca s.data.toList=[[33]]:=(by simp[Ca,b]);rw[e];rw[b]at H;clear e b a;go_enter Tryz.func136,Tryz.ntmps136;go_wp2_with fail;(with_reducible refine(H.out _).mono ?_);rintro e d ⟨rfl,rfl⟩
   go_wp2;go_ret;exact⟨w.heap.size,rfl,Nat.le_refl _,heap_alloc_new w _,(Below.refl _ _).alloc (Nat.le_refl _) _⟩
 by_cases c:rk s.data.toList=8
 · have e:Ca s.data.toList=[[45]]:=(by simp[Ca,c]);rw[e];rw[c]at H;clear e c a b;go_enter Tryz.func136,Tryz.ntmps136;go_wp2_with fail;(with_reducible refine(H.out _).mono ?_);rintro e d ⟨rfl,rfl⟩
   go_wp2;go_ret;exact⟨w.heap.size,rfl,Nat.le_refl _,heap_alloc_new w _,(Below.refl _ _).alloc (Nat.le_refl _) _⟩
 have e:Ca s.data.toList=[[],32::s.data.toList++[32]]:=(by simp[Ca,a,b,c]);rw[e];have f:=zz (show Value.string (⟨#[32]⟩++s++⟨#[32]⟩)=Bm (32::(s.data.toList++[32]))from Bw (by simp));clear e;generalize rk s.data.toList=r at*;have g:((r:Int)==0)=false:=(by rw[beq_eq_false_iff_ne];omega);have h:((r:Int)==4)=false:=(by rw[beq_eq_false_iff_ne];omega);have i:((r:Int)==8)=false:=(by rw[beq_eq_false_iff_ne];omega);clear a b c;go_enter Tryz.func136,Tryz.ntmps136;go_wp2_with fail;(with_reducible refine(H.out _).mono ?_);rintro e d ⟨rfl,rfl⟩
 go_wp2;go_ret;refine⟨w.heap.size,rfl,Nat.le_refl _,?_,(Below.refl _ _).alloc (Nat.le_refl _) _⟩;rw[List.map_cons,List.map_cons,<- f.out];exact heap_alloc_new w _
end
section
open Go.RowKit Go.Sort
structure El(B:Nat)(w:World)(v:Value)(l:List UInt8):Prop where
 own:w.ownsRow B 5 1 v l.length (Lib.byteCells l)
 low:B<=w.heap.size
def CR(w:World)(v v':Value):Prop:=v'.ownBlock=v.ownBlock∨∃g,v'.ownBlock=some g/\w.heap.size<=g
def Dj(w:World):Prop:=Lib.TabIs Tryz.prog w "internal/strconv.uint64pow10" .u64 Lib.pow10Tab
def Gm(B:Nat)(l t:List UInt8)(w:World)(v:Value)(e:Ending)(w':World):Prop:=∃v',e= .returned v'/\El B w' v' (l++t)/\w.grownBy w' v.ownBlock/\CR w v v'
section
variable {B:Nat} {w w1 w2:World} {v v1 v2:Value} {l:List UInt8}
theorem CR.refl(w:World)(v:Value):CR w v v:=.inl rfl
theorem CR.trans(h1:CR w v v1)(hz:w.heap.size<=w1.heap.size)(h2:CR w1 v1 v2):CR w v v2:=by
 rcases h2 with h2 | ⟨g,h2,b⟩
 · rcases h1 with h1 | ⟨g,h1,a⟩
   · exact .inl (h2.trans h1)
   · exact .inr ⟨g,h2.trans h1,a⟩
 · exact .inr ⟨g,h2,by omega⟩
theorem Ak(h1:w.grownBy w1 v.ownBlock)(hl:CR w v v1)(h2:w1.grownBy w2 v1.ownBlock):w.grownBy w2 v.ownBlock:=by
 refine⟨h2.os.trans h1.os,h2.tape.trans h1.tape,h2.output.trans h1.output,Nat.le_trans h1.size h2.size,fun k b a=>?_⟩;refine(h2.block k (by have:=h1.size;omega) ?_).trans (h1.block k b a);intro e;rcases hl with hl | ⟨g,hl,c⟩
 · exact a (e.trans hl)
 · rw[hl]at e;injection e with e
   omega
theorem Bo(h:Below w.heap.size w w1)(r:Option Nat):w.grownBy w1 r:=⟨h.os,h.tape,h.output,h.size,fun i a _=>h.block i a⟩
theorem El.below(h:El B w v l)(hb:Below w.heap.size w w1):El B w1 v l:=⟨BW h.own hb,Nat.le_trans h.low hb.size⟩
theorem El.bel(h:El B w v l)(hg:w.grownBy w1 v.ownBlock):Below B w w1:=
 (Below.refl B w).grown hg h.low (fun k a=>(h.own.lt k a).1)
theorem El.other(h:El B w v l){k:Nat}{cs:Array Value}{e:TypeId}(hk:w.heap[k]?=some (.cells cs e (0,0)))(he:e≠5):some k≠v.ownBlock:=by
 intro b;rcases h.own.2 with⟨rfl,_⟩ | ⟨g,c,d,rfl,_,a,_⟩
 · cases b
 · have:k=g:=(by simpa[Value.ownBlock]using b);subst this;rw[hk]at a;injection a with a
   injection a with _ a
   exact he a
theorem El.keep(h:El B w v l)(hg:w.grownBy w1 v.ownBlock){k:Nat}{cs:Array Value}{e:TypeId}(hk:w.heap[k]?=some (.cells cs e (0,0)))(he:e≠5):w1.heap[k]?=some (.cells cs e (0,0)):=
 (hg.block k (BB hk) (h.other hk he)).trans hk
theorem AV(ht:Dj w)(hg:Below w.heap.size w w1):Dj w1:=Lib.tabBelow_of_tabIs ht w1 hg
end
theorem N0:(Tryz.prog.info? 5).map (fun i=>(i.zero,i.size,i.bytes))=some (some (.int .u8 0),1,1):=by kernel_rfl
theorem Ms{B:Nat}{w:World}{v:Value}{l:List UInt8}(h:El B w v l)(s:ByteArray)(hb:l.length+s.size<=1000000000)(ty:TypeId):
 ∃v' w',(Builtin.append_ #[150,9] ty #[v,.string s]).run Tryz.prog w= .ok v' w'/\El B w' v' (l++s.data.toList)/\w.grownBy w' v.ownBlock/\CR w v v':=by
 obtain⟨m,b,t⟩:=Option.map_eq_some_iff.1 N0;simp only[Prod.mk.injEq]at t;obtain⟨f,i,j⟩:=t;obtain⟨v',w',k,D,r,x⟩:=Lib.run_append_own_string (P:=Tryz.prog) w B 150 9 ty 5 m Tryz.underlying150 Tryz.underlying9 b f i j v l.length _ h.own s (by unfold maxLen;omega) (by omega) h.low;refine⟨v',w',k,⟨?_,Nat.le_trans h.low r.size⟩,r,?_⟩
 · have d:(l++s.data.toList).length=l.length+s.size:=(by simp);have u:Lib.byteCells (l++s.data.toList)=Lib.byteCells l++Lib.strCells s:=(by simp[Lib.byteCells,Lib.strCells]);rw[d,u];exact D
 · rcases h.own.2 with⟨rfl,E⟩ | ⟨g,c,n,rfl,y,p,C,z,o,q⟩
   · by_cases A:s.size=0
     · rw[x.2 ⟨rfl,A⟩];exact .inl rfl
     · have a:=run_append_nil_string (P:=Tryz.prog) w 150 9 ty 5 m (.int .u8 0) Tryz.underlying150 Tryz.underlying9 b f s (by omega) (by omega) (by rw[j];omega);rw[k]at a;injection a with d _
       subst d;exact .inr ⟨w.heap.size,rfl,Nat.le_refl _⟩
   · by_cases e:l.length+s.size<=c
     · have a:=Lib.run_append_room_string (P:=Tryz.prog) w 150 9 ty 5 m Tryz.underlying150 Tryz.underlying9 b i g l.length c n p s e (by simp only[Nat.mul_one]at o;omega);rw[k]at a;injection a with d _
       subst d;exact .inl rfl
     · have a:=Lib.run_append_grow_string (P:=Tryz.prog) w 150 9 ty 5 m (.int .u8 0) Tryz.underlying150 Tryz.underlying9 b f ⟨g,0,none⟩ l.length c (Lib.byteCells l) (by rw[i,Lib.byteCells_length,Nat.mul_one]) (h.own.cells (g:=g) rfl) s (by omega) (by omega) (by rw[j];exact growslice_fits (by omega) (by omega));rw[k]at a;injection a with d _
       subst d;exact .inr ⟨w.heap.size,rfl,Nat.le_refl _⟩
theorem FZ{ops:Array Oper}{rest:List Oper}{o:Oper}{a:Act}{Q:Exit->Act->World->Prop}(w:World)(hgd:o.guard=none)(sl x:Operand)
 (ho:o.op= .call {callee:=.builtin .append,args:= #[sl,x],argTypes:= #[150,9]}) {B:Nat} {v:Value} {l:List UInt8} (hs:a.eval sl=v) (h:El B w v l) (s:ByteArray) (hx:a.eval x= .string s) (hb:l.length+s.size<=1000000000)
 (k:∀v' w',El B w' v' (l++s.data.toList)->w.grownBy w' v.ownBlock->CR w v v'->wpList Tryz.prog ops Q rest (a.put o.dst v') w'):wpList Tryz.prog ops Q (o::rest) a w:=by
 refine wpList_plain hgd fun K e=>?_;obtain⟨v',w',f,b,c,d⟩:=Ms h s hb o.type;unfold Oper.wp execOp;simp only[ho,resolve,invoke,builtin,Sem.run_bind,Sem.run_pure,Result.andThen_ok,List.map_toArray,List.map_cons,List.map_nil,hs,hx,f];exact e _ _ (k v' w' b c d)
theorem Jk{B n:Nat}{w:World}{v:Value}{l:List UInt8}(h:El B w v l)(hn:n<100)(hb:l.length<=1000000):Calls Tryz.prog 162 #[v,.int .u64 (n:Int),.int .i64 10] w (Gm B l (CJ n) w v):=by
 have H:=zz (fun W:World=>Tryz.internal_strconv_small n hn W);have o:(Lib.decDigits n).length<=2:=by
  rw[Lib.decDigits_length];by_cases a:n<10
  · rw[Lib.nDigits_small a];omega
  · rw[Lib.nDigits_big a,Lib.nDigits_small (by omega)];omega
 have m:decide ((n:Int)<100)=true:=(by simp;omega);have g:(0:Int)<=(n:Int):=(by omega);have i:(n:Int)<100:=(by omega);have b:=zz h;clear h;go_enter Tryz.func162,Tryz.ntmps162
 go_wp2_with (first
  | ((with_reducible refine(H.out _).mono ?_);rintro e k ⟨rfl,rfl⟩)
  | (at_builtin;refine FZ _ rfl _ _ rfl rfl b.out _ rfl (by show l.length+(Lib.decDigits n).toArray.size<=_;simp;omega) ?_;intro j k c d f))
 go_ret;exact⟨j,rfl,c,d,f⟩
theorem Xt:Tryz.prog.arrayLen 235=24:=by kernel_rfl
theorem MB{B n:Nat}{w:World}{v:Value}{l:List UInt8}(h:El B w v l)(hT:Dj w)(hn:100<=n)(hn2:n<9223372036854775808)(hb:l.length<=1000000):Calls Tryz.prog 162 #[v,.int .u64 (n:Int),.int .i64 10] w (Gm B l (CJ n) w v):=by
 obtain⟨i0,r,O⟩:=Option.map_eq_some_iff.1 N0;simp only[Prod.mk.injEq]at O;obtain⟨u,x,y⟩:=O;have ac:Lib.nDigits n<=20:=(by have:=Lib.numDigits_eq n (by omega) (by omega);split at this<;>omega);have ad:∀W,(Instr.sliceAt 235 (.pointer (some ⟨w.heap.size,0,none⟩)) none (some (.int .i64 (Lib.nDigits n:Int))) none).run Tryz.prog W= .ok (.slice (some ⟨w.heap.size,0,none⟩) (Lib.nDigits n) 24) W:=fun W=>(by rw[run_sliceAt_array_h W 235 ⟨w.heap.size,0,none⟩ (by kernel_rfl) .i64 (Lib.nDigits n:Int) (by omega) (by rw[Xt];omega)];go_simp);have i:=Lib.holds_zero0 w 235 (Lib.nDigits n) (by omega);have d:=Tryz.internal_strconv_formatBase10 w.heap.size 0 24 n (Array.replicate (Lib.nDigits n) 0) (w.alloc (.cells Lib.zeros24 235)) i (by rw[Array.size_replicate];exact Lib.lt_pow_nDigits n) (by omega) (by rw[Array.size_replicate];omega);rw[Array.size_replicate]at d;have P:=zz (fun(W:World) (hW:Below w.heap.size w W)=>Tryz.internal_strconv_numDigits n (by omega) (by omega) W (AV hT hW));have Q:=zz d;have D:=zz i;have E:=zz h;have S:=zz r;have F:=zz u;have G:=zz x;have H:=zz y;have g1:decide ((n:Int)<100)=false:=(by simp;omega);have q:Below w.heap.size w (w.alloc (.cells Lib.zeros24 235)):=(Below.refl _ _).alloc (Nat.le_refl _) _;have C:=zz q;have ab:(0:Int)<=(n:Int):=(by omega);clear d i h hT r u x y q;go_enter Tryz.func162,Tryz.ntmps162;go_wp2_with fail;refine(P.out _ C.out).mono ?_;rintro e w' ⟨rfl,rfl⟩;go_wp2_with fail;refine Q.out.mono ?_;rintro e w' ⟨rfl,k,v',o,rfl,z⟩;have a:∀j A,(Lib.byteCells (CJ n))[j]?=some A->((putRow (fun(b:UInt8)=>Value.int .u8 (b.toNat:Int)) (w.alloc (.cells Lib.zeros24 235)) w.heap.size 0 o).drewN k).cell? ((⟨w.heap.size,0,none⟩:Addr).add j)=some A:=by
  intro j A I;have f:j<(Lib.decDigits n).length:=by
   have Z:=(List.getElem?_eq_some_iff.1 I).1
   rwa [Lib.byteCells_length]at Z
  have Y:(Lib.byteCells (CJ n))[j]?=some (Value.int .u8 ((Lib.decDigits n)[j].toNat:Int)):=(by simp[Lib.byteCells,CJ,f]);rw[Y]at I;rw[<- Option.some.inj I,Lib.row_is_numeral z j f,Lib.add_plain,World.cell?_drewN];exact cell?_putRow (fun(b:UInt8)=>Value.int .u8 (b.toNat:Int)) _ w.heap.size 0 _ o D.out (by rw[z.size,Array.size_replicate]) j (by rw[z.size];rw[Lib.decDigits_length]at f;exact f)
 obtain⟨os,K⟩:=Lib.fin_at w (.cells Lib.zeros24 235) o k 0;have c:Below w.heap.size w ((putRow (fun(b:UInt8)=>Value.int .u8 (b.toNat:Int)) (w.alloc (.cells Lib.zeros24 235)) w.heap.size 0 o).drewN k):=(by rw[K];exact Lib.below_grow w.heap.size w (Nat.le_refl _) k os);generalize(putRow (fun(b:UInt8)=>Value.int .u8 (b.toNat:Int)) (w.alloc (.cells Lib.zeros24 235)) w.heap.size 0 o).drewN k=W2 at a c ⊢;have HC:=zz a;have m:=zz c;have t:=c.size;clear K a c z;go_wp2_with (at_builtin;refine wpList_append_lies _ rfl _ _ 150 rfl B 5 i0 (.int .u8 0) 1 1 Tryz.underlying150 S.out F.out G.out H.out rfl (by decide) _ _ _ rfl (E.out.below m.out).own ⟨w.heap.size,0,none⟩ (Lib.nDigits n) 24 (Lib.byteCells (CJ n)) rfl ?c0 HC.out ?c2 ?c3 ?c4 ?c5 ?c6 W2.heap.size rfl ?_);(case c0=>rw[Lib.byteCells_length,CJ,Lib.decDigits_length,Nat.mul_one]);case c2=>intro A s;simp only[Lib.byteCells,List.mem_map]at s;obtain⟨b,_,rfl⟩:=s;rfl
 (case c3=>exact Lib.nDigits_pos n);case c4=>unfold maxLen;omega
 (case c5=>omega);case c6=>exact Nat.le_trans E.out.low t
 intro g U w3 N M p aa;have T:=zz N;have J:=zz M;have R:=zz p;clear N M p;go_wp2;go_ret;have V:(l++CJ n).length=l.length+Lib.nDigits n:=(by rw[List.length_append,CJ,Lib.decDigits_length]);have X:Lib.byteCells (l++CJ n)=Lib.byteCells l++Lib.byteCells (CJ n):=(by simp[Lib.byteCells]);refine⟨_,rfl,⟨?_,Nat.le_trans E.out.low (Nat.le_trans t J.out.size)⟩,?_,?_⟩
 · rw[V,X];exact T.out
 · exact Ak (v1:=v) (Bo m.out _) (CR.refl _ _) J.out
 · rcases R.out with L | L
   · exact .inl L.symm
   · exact .inr ⟨g,rfl,by omega⟩
theorem Lx{B n:Nat}{w:World}{v:Value}{l:List UInt8}(h:El B w v l)(hT:Dj w)(hn2:n<9223372036854775808)(hb:l.length<=1000000):Calls Tryz.prog 162 #[v,.int .u64 (n:Int),.int .i64 10] w (Gm B l (CJ n) w v):=by
 by_cases a:n<100
 · exact Jk h a hb
 · exact MB h hT (by omega) hn2 hb
theorem NP{B n:Nat}{w:World}{v:Value}{l:List UInt8}(h:El B w v l)(hT:Dj w)(hn2:n<9223372036854775808)(hb:l.length<=1000000):Calls Tryz.prog 134 #[v,.int .i64 (n:Int),.int .i64 10] w (Gm B l (CJ n) w v):=by have H:=zz (Lx h hT hn2 hb);have k:decide ((n:Int)<0)=false:=(by simp);have g:(0:Int)<=(n:Int):=(by omega);have i:(n:Int)<9223372036854775808:=(by omega);clear h hT;have d:Calls Tryz.prog 149 #[v,.int .i64 (n:Int),.int .i64 10] w (Gm B l (CJ n) w v):=(by go_enter Tryz.func149,Tryz.ntmps149;go_wp2_with fail;refine(H.out).mono ?_;intro e j a;obtain⟨c,rfl,a⟩:=a;have b:=zz a;clear a;go_wp2;go_ret;exact⟨c,rfl,b.out⟩);have f:=zz d;clear d;go_enter Tryz.func134,Tryz.ntmps134;go_wp2_with fail;refine(f.out).mono ?_;intro e j a;obtain⟨c,rfl,a⟩:=a;have b:=zz a;clear a;go_wp2;go_ret;exact⟨c,rfl,b.out⟩
end
end
section
open Go.RowKit Go.Sort
theorem HS.keepT{w w':World}{e:TypeId}{S:Nat->Prop}(hk:∀(k:Nat) (cs:Array Value),w.heap[k]?=some (.cells cs e (0,0))->w'.heap[k]?=some (.cells cs e (0,0))):∀{x:Ex} {c:List Value},HS w e S x c->HS w' e S x c
 | .leaf _ _ _ _,_,h=>h
 | .un _ _ _,_,⟨g,cap,ca,h1,⟨a1,cs,a2,a3⟩,h3⟩=>⟨g,cap,ca,h1,⟨a1,cs,hk _ _ a2,a3⟩,HS.keepT hk h3⟩
 | .bin _ _ _ _,_,⟨g,cap,ca,cb,h1,⟨a1,cs,a2,a3⟩,h3,h4⟩=>⟨g,cap,ca,cb,h1,⟨a1,cs,hk _ _ a2,a3⟩,HS.keepT hk h3,HS.keepT hk h4⟩
 | .cond _ _ _ _,_,⟨g,cap,ca,cb,cd,h1,⟨a1,cs,a2,a3⟩,h3,h4,h5⟩=>⟨g,cap,ca,cb,cd,h1,⟨a1,cs,hk _ _ a2,a3⟩,HS.keepT hk h3,HS.keepT hk h4,HS.keepT hk h5⟩
theorem HS.text{B:Nat}{w w1:World}{v:Value}{l:List UInt8}{S:Nat->Prop}{x:Ex}{c:List Value}(h:HS w 57 S x c)(ht:El B w v l)(hg:w.grownBy w1 v.ownBlock):HS w1 57 S x c:=
 h.keepT fun k b a=>ht.keep hg a (by decide)
theorem Ai.text{B b:Nat}{w w1:World}{v c0 c1 c2 c3 c4:Value}{l:List UInt8}(h:Ai w b c0 c1 c2 c3 c4)(ht:El B w v l)(hg:w.grownBy w1 v.ownBlock):Ai w1 b c0 c1 c2 c3 c4:=ht.keep hg h (by decide)
theorem O3{B:Nat}{w w1:World}{v:Value}{l:List UInt8}(hT:Lib.TabBelow Tryz.prog B w "internal/strconv.uint64pow10" .u64 Lib.pow10Tab)(ht:El B w v l)(hg:w.grownBy w1 v.ownBlock):Lib.TabBelow Tryz.prog B w1 "internal/strconv.uint64pow10" .u64 Lib.pow10Tab:=hT.on (ht.bel hg)
def Jb(B:Nat)(w:World):Prop:=Lib.TabBelow Tryz.prog B w "internal/strconv.uint64pow10" .u64 Lib.pow10Tab
theorem Jb.now{B:Nat}{w:World}(h:Jb B w):Dj w:=h.here
theorem Jb.text{B:Nat}{w w1:World}{v:Value}{l:List UInt8}(h:Jb B w)(ht:El B w v l)(hg:w.grownBy w1 v.ownBlock):Jb B w1:=O3 h ht hg
theorem Jb.below{B:Nat}{w w1:World}(h:Jb B w)(hB:B<=w.heap.size)(hb:Below w.heap.size w w1):Jb B w1:=Lib.TabBelow.on h (hb.mono hB)
theorem HS.opn{w:World}{e:TypeId}{S:Nat->Prop}{x:Ex}{o nm:ByteArray}{n:Int}{A:Option Addr}{l cap:Nat}{p:Int}(h:HS w e S x (BM o nm n A l cap p)):o=⟨x.op.toArray⟩:=by obtain⟨_,_,_,_,_,a⟩:=h.form;simp only[BM,List.cons.injEq,Value.string.injEq]at a;exact a.1
theorem El.alloc{B:Nat}{w:World}{v:Value}{l:List UInt8}(h:El B w v l)(o:Obj):El B (w.alloc o) v l:=h.below ((Below.refl _ _).alloc (Nat.le_refl _) _)
def TC(x:Ex):Prop:=∀(B:Nat) (w:World) (v:Value) (l:List UInt8) (S:Nat->Prop) (c:List Value),El B w v l->HS w 57 S x c->Jb B w->l.length+(AR x).length<=1000000->Calls Tryz.prog 117 #[v,.agg c.toArray] w (Gm B l (AR x) w v)
theorem Po{x:Ex}(ih:TC x){B:Nat}{w:World}{v:Value}{l:List UInt8}{S:Nat->Prop}{o nm:ByteArray}{n p:Int}{A:Option Addr}{ll cap:Nat}(ht:El B w v l)(hH:HS w 57 S x (BM o nm n A ll cap p))(hT:Jb B w)(hl:l.length+(AR x).length<=1000000)(r:Nat)(hr:r<=rk x.op):
 Calls Tryz.prog 137 #[v,.agg #[.string o,.string nm,.int .i64 n,.slice A ll cap,.int .i64 p],.int .i64 (r:Int)] w (Gm B l (AR x) w v):=by
 have h:o.data.toList=x.op:=(by rw[hH.opn]);have c:=zz (Cj o);unfold WY at c;rw[h]at c;have a:Below w.heap.size w (w.alloc (.cells #[.string o,.string nm,.int .i64 n,.slice A ll cap,.int .i64 p] 57)):=(Below.refl _ _).alloc (Nat.le_refl _) _;have i:=zz (ih B _ v l S _ (ht.below a) (hH.below a) (hT.below ht.low a) hl);have b:=zz a;have s:decide ((r:Int)<=(rk x.op:Int))=true:=(by simp;omega);have t:decide (r<=rk x.op)=true:=(by simpa using hr);clear ih ht hH hT hl hr h a;go_enter Tryz.func137,Tryz.ntmps137;go_wp2_with fail;(with_reducible refine(c.out _).mono ?_);rintro e u ⟨rfl,rfl⟩
 go_wp2_with fail;refine(i.out).mono ?_;rintro e y ⟨q,rfl,d,f,g⟩;have j:=zz d;have k:=zz f;have m:=zz g;clear d f g;go_wp2;go_ret;exact⟨q,rfl,j.out,Ak (v1:=v) (Bo b.out _) (CR.refl _ _) k.out,(CR.refl w v).trans b.out.size m.out⟩
theorem Uz{W:World}{g:Nat}{u:Value}{e:TypeId}(h:W.heap[g]?=some (.cells #[u] e (0,0))):∀(j:Nat) (x:Value),[u][j]?=some x->W.cell? ((⟨g,0,none⟩:Addr).add j)=some x:=by
 intro j x a
 match j,a with
 | 0,a=>simp at a;subst a;simpa[Addr.add]using(AL h 0).trans rfl
theorem Dd{ops:Array Oper}{o:Oper}{a:Act}{K:Act->World->Prop}{Q:Exit->Act->World->Prop}{E:Prop}(W:World)(hgd:o.guard=none)(s x:Operand)
 (ho:o.op= .call {callee:=.builtin .append,args:= #[s,x],argTypes:= #[150,150]}) {B:Nat} {v:Value} {l:List UInt8} (hs:a.eval s=v) (ht:El B W v l) (g:Nat) (hx:a.eval x= .slice (some ⟨g,0,none⟩) 1 1) (c:UInt8)
 (hg:W.heap[g]?=some (.cells #[.int .u8 (c.toNat:Int)] 5 (0,0))) (hl:l.length+1<=1000000000)
 (k:∀g1 cap1 w',El B w' (.slice (some ⟨g1,0,none⟩) (l.length+1) cap1) (l++[c])->W.grownBy w' v.ownBlock->(v.ownBlock=some g1∨g1=W.heap.size)->K (a.put o.dst (.slice (some ⟨g1,0,none⟩) (l.length+1) cap1)) w'):
 if Region.wanted o (yielded ops a.tmps)=true then Oper.wp Tryz.prog o a W K Q else E:=by
 obtain⟨r,e,n⟩:=Option.map_eq_some_iff.1 N0;simp only[Prod.mk.injEq]at n;obtain⟨h,i,j⟩:=n;refine step_append_lies W hgd s x 150 ho B 5 r (.int .u8 0) 1 1 Tryz.underlying150 e h i j rfl (by decide) v l.length (Lib.byteCells l) hs ht.own ⟨g,0,none⟩ 1 1 [.int .u8 (c.toNat:Int)] hx rfl (Uz hg) (by intro u m;simp at m;subst m;rfl) (by omega) (by unfold maxLen;omega) (by omega) ht.low W.heap.size rfl ?_;intro g1 cap1 t f b d q;refine k g1 cap1 t ⟨?_,Nat.le_trans ht.low b.size⟩ b d;have p:Lib.byteCells (l++[c])=Lib.byteCells l++[.int .u8 (c.toNat:Int)]:=(by simp[Lib.byteCells]);rw[p,List.length_append];exact f
theorem Bz{w:World}{k:Nat}(hk:k=w.heap.size)(o:Obj):(w.alloc o).heap[k]?=some o:=by subst hk;exact heap_alloc_new w o
theorem LI{k g n c:Nat}(h:k≠g):some k≠(Value.slice (some ⟨g,0,none⟩) n c).ownBlock:=fun e=>h (by simpa[Value.ownBlock]using e)
theorem Qi{w:World}{k:Nat}(hk:k=w.heap.size)(o:Obj):(w.alloc o).drew.heap[k]?=some o:=by subst hk;exact heap_alloc_new w o
theorem VP{w:World}{k:Nat}(hk:k=w.heap.size)(o o2:Obj):((w.alloc o).alloc o2).drew.heap[k]?=some o:=by subst hk;exact(Below.heap_alloc (w.alloc o) o2 _ (by simp)).trans (heap_alloc_new w o)
theorem El.drew{B:Nat}{w:World}{v:Value}{l:List UInt8}(h:El B w v l):El B w.drew v l:=h.below (Below.refl _ _).drew
theorem Ai.drew{w:World}{b:Nat}{c0 c1 c2 c3 c4:Value}(h:Ai w b c0 c1 c2 c3 c4):Ai w.drew b c0 c1 c2 c3 c4:=h.below (Below.refl _ _).drew
theorem HS.drew{w:World}{e:TypeId}{S:Nat->Prop}{x:Ex}{c:List Value}(h:HS w e S x c):HS w.drew e S x c:=h.below (Below.refl _ _).drew
theorem Jb.allocT{B:Nat}{w:World}(h:Jb B w)(hB:B<=w.heap.size)(o:Obj):Jb B (w.alloc o):=h.below hB ((Below.refl _ _).alloc (Nat.le_refl _) _)
theorem Jb.drew{B:Nat}{w:World}(h:Jb B w):Jb B w.drew:=Lib.TabBelow.on h (Below.refl _ _).drew
theorem FK{w W:World}{v:Value}{g n cap:Nat}(hz:w.heap.size<=W.heap.size)(h:v.ownBlock=some g∨g=W.heap.size):CR w v (.slice (some ⟨g,0,none⟩) n cap):=by
 rcases h with h | h
 · exact .inl h.symm
 · exact .inr ⟨g,rfl,by omega⟩
theorem NZ{B:Nat}{w:World}{g n cap:Nat}{l:List UInt8}(h:El B w (.slice (some ⟨g,0,none⟩) n cap) l):g<w.heap.size:=(h.own.lt g rfl).2
theorem Q1{B:Nat}{w:World}{v:Value}{l:List UInt8}(h:El B w v l){k:Nat}(hk:w.heap.size<=k):some k≠v.ownBlock:=by intro e;have:=(h.own.lt k e.symm).2;omega
theorem Yl{B:Nat}{w W:World}{v:Value}{l:List UInt8}(h:El B w v l){k g:Nat}(hat:v.ownBlock=some g∨g=W.heap.size)(h1:k<W.heap.size)(h2:w.heap.size<=k):k≠g:=by
 rcases hat with hat | hat
 · have:=(h.own.lt g hat).2;omega
 · omega
theorem Tw{B n:Nat}{w:World}{g cap:Nat}{l:List UInt8}(h:El B w (.slice (some ⟨g,0,none⟩) n cap) l){m:Nat}(hm:n=m):El B w (.slice (some ⟨g,0,none⟩) m cap) l:=by subst hm;exact h
theorem Sy{x:Ex}(ih:TC x){B:Nat}{w:World}{v:Value}{l:List UInt8}{S:Nat->Prop}{o nm:ByteArray}{n p:Int}{A:Option Addr}{ll cap:Nat}(ht:El B w v l)(hH:HS w 57 S x (BM o nm n A ll cap p))(hT:Jb B w)(hl:l.length+1+(AR x).length+1<=1000000)(r:Nat)(hr:rk x.op<r):
 Calls Tryz.prog 137 #[v,.agg #[.string o,.string nm,.int .i64 n,.slice A ll cap,.int .i64 p],.int .i64 (r:Int)] w (Gm B l (40::AR x++[41]) w v):=by
 obtain⟨i0,ae,hz⟩:=Option.map_eq_some_iff.1 N0;simp only[Prod.mk.injEq]at hz;obtain⟨ag,L,T⟩:=hz;have HI:=zz ae;have ah:=zz ag;have ai:=zz L;have aj:=zz T;have ho:o.data.toList=x.op:=(by rw[hH.opn]);have H1:=zz (Cj o);unfold WY at H1;rw[ho]at H1;have I:Below w.heap.size w (w.alloc (.cells #[.string o,.string nm,.int .i64 n,.slice A ll cap,.int .i64 p] 57)):=(Below.refl _ _).alloc (Nat.le_refl _) _;have R:=Ai.new w (.string o) (.string nm) (.int .i64 n) (.slice A ll cap) (.int .i64 p);have af:=ht.below I;have ac:=hH.below I;have ad:=hT.below ht.low I;have z:=zz I;have aa:=zz ih;have H:decide ((r:Int)<=(rk x.op:Int))=false:=(by simp;omega);have g2:decide (r<=rk x.op)=false:=(by simp;omega);clear ih ht hH hT hr ho I ae ag L T;go_enter Tryz.func137,Tryz.ntmps137;go_wp2_with fail;(with_reducible refine(H1.out _).mono ?_);rintro e w' ⟨rfl,rfl⟩
 go_wp2_with fail;generalize w.alloc (.cells #[.string o,.string nm,.int .i64 n,.slice A ll cap,.int .i64 p] 57)=W at*;obtain⟨b0,b1,b2,b3,b4⟩:=R.cells;have C:=R.lt;have y:=zz R;have a:=zz af;have Y:=zz ac;have G:=zz ad;clear R af ac ad
 go_region_law (first
  | (refine Dd (B:=B) (l:=l) (v:=v) _ rfl (.tmp 15) (.tmp 16) rfl ?_ ?_ (W.heap.size) ?_ 40 ?_ ?_ ?_
     · simp[Act.eval]
     · exact((a.out).alloc _).drew
     · simp[Act.eval]
     · exact Qi rfl _
     · omega
     intro H q t h b d;obtain⟨b0,b1,b2,b3,b4⟩:=(Ai.text (((y.out).alloc _).drew) (((a.out).alloc _).drew) b).cells;have O:=zz (HS.text (((Y.out).alloc _).drew) (((a.out).alloc _).drew) b);have u:=zz (Jb.text (((G.out).allocT a.out.low _).drew) (((a.out).alloc _).drew) b);have D:=zz (Ak (v1:=v) (Bo ((z.out.alloc (Nat.le_of_lt C) _).drew) _) (CR.refl _ _) b);have s:=zz (show CR w v (.slice (some ⟨H,0,none⟩) (l.length+1) q)from FK ((z.out.alloc (Nat.le_of_lt C) _).drew).size d);have L:w.heap.size<t.heap.size:=(Ai.text (((y.out).alloc _).drew) (((a.out).alloc _).drew) b).lt;have V:H<t.heap.size:=NZ h;have E:=zz h
     clear h b d)
  | (refine Dd (B:=B) (l:=l) (v:=v) _ rfl (.tmp 15) (.tmp 16) rfl ?_ ?_ (W.heap.size) ?_ 40 ?_ ?_ ?_
     · simp[Act.eval]
     · exact(((a.out).alloc _).alloc _).drew
     · simp[Act.eval]
     · exact VP rfl (.cells #[.int .u8 40] 5) (.cells #[.int .u8 41] 5)
     · omega
     intro H q t h b d;obtain⟨b0,b1,b2,b3,b4⟩:=(Ai.text ((((y.out).alloc _).alloc _).drew) ((((a.out).alloc _).alloc _).drew) b).cells;have O:=zz (HS.text ((((Y.out).alloc _).alloc _).drew) ((((a.out).alloc _).alloc _).drew) b);have u:=zz (Jb.text (((G.out.allocT a.out.low _).allocT (by have:=a.out.low;simp;omega) _).drew) ((((a.out).alloc _).alloc _).drew) b);have D:=zz (Ak (v1:=v) (Bo (((z.out.alloc (Nat.le_of_lt C) _).alloc (by simp;omega) _).drew) _) (CR.refl _ _) b);have s:=zz (show CR w v (.slice (some ⟨H,0,none⟩) (l.length+1) q)from FK (((z.out.alloc (Nat.le_of_lt C) _).alloc (by simp;omega) _).drew).size d);have L:w.heap.size<t.heap.size:=(Ai.text ((((y.out).alloc _).alloc _).drew) ((((a.out).alloc _).alloc _).drew) b).lt;have V:H<t.heap.size:=NZ h;have X:=zz (show t.heap[W.heap.size+1]?=some (.cells #[.int .u8 41] 5)from(b.block (W.heap.size+1) (by first | (simp;done) | (simp;omega)) (Q1 a.out (by omega))).trans (Qi (by simp) _));have ab:=zz (show W.heap.size+1≠H from Yl a.out d (by first | (simp;done) | (simp;omega)) (by omega));have E:=zz h
     clear h b d)
  | (refine Dd (B:=B) (l:=l) (v:=v) _ rfl (.tmp 15) (.tmp 16) rfl ?_ ?_ (W.heap.size+1) ?_ 40 ?_ ?_ ?_
     · simp[Act.eval]
     · exact(((a.out).alloc _).alloc _).drew
     · simp[Act.eval]
     · exact Qi (by simp) _
     · omega
     intro H q t h b d;obtain⟨b0,b1,b2,b3,b4⟩:=(Ai.text ((((y.out).alloc _).alloc _).drew) ((((a.out).alloc _).alloc _).drew) b).cells;have O:=zz (HS.text ((((Y.out).alloc _).alloc _).drew) ((((a.out).alloc _).alloc _).drew) b);have u:=zz (Jb.text (((G.out.allocT a.out.low _).allocT (by have:=a.out.low;simp;omega) _).drew) ((((a.out).alloc _).alloc _).drew) b);have D:=zz (Ak (v1:=v) (Bo (((z.out.alloc (Nat.le_of_lt C) _).alloc (by simp;omega) _).drew) _) (CR.refl _ _) b);have s:=zz (show CR w v (.slice (some ⟨H,0,none⟩) (l.length+1) q)from FK (((z.out.alloc (Nat.le_of_lt C) _).alloc (by simp;omega) _).drew).size d);have L:w.heap.size<t.heap.size:=(Ai.text ((((y.out).alloc _).alloc _).drew) ((((a.out).alloc _).alloc _).drew) b).lt;have V:H<t.heap.size:=NZ h;have X:=zz (show t.heap[W.heap.size]?=some (.cells #[.int .u8 41] 5)from(b.block (W.heap.size) (by first | (simp;done) | (simp;omega)) (Q1 a.out (by omega))).trans (VP rfl (.cells #[.int .u8 41] 5) (.cells #[.int .u8 40] 5)));have ab:=zz (show W.heap.size≠H from Yl a.out d (by first | (simp;done) | (simp;omega)) (by omega));have E:=zz h
     clear h b d)
  | (go_simp
     go_at_call 117;refine(aa.out B t _ _ _ (BM o nm n A ll cap p) E.out O.out u.out (by simp;omega)).mono ?_;rintro e w2 ⟨v2,rfl,K,m,J⟩;have F:=zz K;have k:=zz (Ak D.out s.out m);have j:=zz (CR.trans s.out D.out.size J);have T:w.heap.size<w2.heap.size:=by have:=m.size;omega
     (try have M:=zz ((m.block _ (BB X.out) (LI ab.out)).trans X.out))
     clear K m J)
  | (go_simp
     go_at_call 117;refine(aa.out B (t.alloc (.cells #[.int .u8 41] 5)) _ _ _ (BM o nm n A ll cap p) (E.out.alloc _) (O.out.alloc _) (u.out.allocT E.out.low _) (by simp;omega)).mono ?_;rintro e w2 ⟨v2,rfl,K,m,J⟩;have F:=zz K;have U:=zz (Ak D.out s.out (Bo ((Below.refl _ _).alloc (Nat.le_refl _) (.cells #[.int .u8 41] 5)) _));have k:=zz (Ak U.out s.out m);have j:=zz (CR.trans s.out U.out.size J);have T:w.heap.size<w2.heap.size:=(by have:=m.size;simp at this;omega);have M:=zz (show w2.heap[t.heap.size]?=some (.cells #[.int .u8 41] 5)from(m.block t.heap.size (by simp) (LI (by omega))).trans (Bz rfl _))
     clear K m J)
  | (refine Dd (B:=B) (l:=l++[40]++AR x) (v:=v2) _ rfl (.tmp 19) (.tmp 20) rfl ?_ ?_ (W.heap.size) ?_ 41 ?_ ?_ ?_
     · simp[Act.eval]
     · exact F.out
     · simp[Act.eval]
     · exact M.out
     · (simp;omega)
     intro Z f w3 i g c;have Q:=zz i;have N:=zz (Ak k.out j.out g);have P:=zz (show CR w v (.slice (some ⟨Z,0,none⟩) ((l++[40]++AR x).length+1) f)from CR.trans j.out k.out.size (FK (Nat.le_refl _) c))
     clear i g c)
  | (refine Dd (B:=B) (l:=l++[40]++AR x) (v:=v2) _ rfl (.tmp 19) (.tmp 20) rfl ?_ ?_ (W.heap.size+1) ?_ 41 ?_ ?_ ?_
     · simp[Act.eval]
     · exact F.out
     · simp[Act.eval]
     · exact M.out
     · (simp;omega)
     intro Z f w3 i g c;have Q:=zz i;have N:=zz (Ak k.out j.out g);have P:=zz (show CR w v (.slice (some ⟨Z,0,none⟩) ((l++[40]++AR x).length+1) f)from CR.trans j.out k.out.size (FK (Nat.le_refl _) c))
     clear i g c)
  | (refine Dd (B:=B) (l:=l++[40]++AR x) (v:=v2) _ rfl (.tmp 19) (.tmp 20) rfl ?_ ?_ (t.heap.size) ?_ 41 ?_ ?_ ?_
     · simp[Act.eval]
     · exact F.out
     · simp[Act.eval]
     · exact M.out
     · (simp;omega)
     intro Z f w3 i g c;have Q:=zz i;have N:=zz (Ak k.out j.out g);have P:=zz (show CR w v (.slice (some ⟨Z,0,none⟩) ((l++[40]++AR x).length+1) f)from CR.trans j.out k.out.size (FK (Nat.le_refl _) c))
     clear i g c)
  | (refine Dd (B:=B) (l:=l++[40]++AR x) (v:=v2) _ rfl (.tmp 19) (.tmp 20) rfl ?_ ?_ (w2.heap.size) ?_ 41 ?_ ?_ ?_
     · simp[Act.eval]
     · exact F.out.alloc _
     · simp[Act.eval]
     · exact Bz rfl _
     · (simp;omega)
     intro Z f w3 i g c;have Q:=zz i;have N:=zz (Ak (Ak k.out j.out (Bo ((Below.refl _ _).alloc (Nat.le_refl _) (.cells #[.int .u8 41] 5)) _)) j.out g);have P:=zz (show CR w v (.slice (some ⟨Z,0,none⟩) ((l++[40]++AR x).length+1) f)from CR.trans j.out k.out.size (FK (by simp) c))
     clear i g c))
 all_goals
  go_wp2;go_ret;refine⟨_,rfl,?_,N.out,P.out⟩;have e1:l++(40::(AR x++[41]))=l++[40]++AR x++[41]:=(by simp);rw[e1];exact Tw Q.out (by simp)
end
section
section
open Go.RowKit Go.Sort
theorem S0{x:Ex}(ih:TC x){B:Nat}{w:World}{v:Value}{l:List UInt8}{S:Nat->Prop}{o nm:ByteArray}{n p:Int}{A:Option Addr}{ll cap:Nat}(ht:El B w v l)(hH:HS w 57 S x (BM o nm n A ll cap p))(hT:Jb B w)(r:Nat)(hl:l.length+(BQ (decide (rk x.op<r)) (AR x)).length<=1000000):
 Calls Tryz.prog 137 #[v,.agg #[.string o,.string nm,.int .i64 n,.slice A ll cap,.int .i64 p],.int .i64 (r:Int)] w (Gm B l (BQ (decide (rk x.op<r)) (AR x)) w v):=by
 by_cases a:rk x.op<r
 · rw[decide_eq_true a]at hl ⊢;exact Sy ih ht hH hT (by simp[BQ]at hl;omega) r a
 · rw[decide_eq_false a]at hl ⊢;exact Po ih ht hH hT (by simp[BQ]at hl;omega) r (by omega)
def Mq(op:List UInt8)(ks:List Ex)(i:Nat):List UInt8:=(Ca op).getD i []++(match ks[i]? with | some k=>BQ (decide (rk k.op<lo (rk op) i)) (AR k) | none=>[])
def FU(op:List UInt8)(ks:List Ex):Nat->List UInt8
 | 0=>[]
 | k+1=>FU op ks k++Mq op ks k
theorem T6(op:List UInt8)(ks:List Ex){j k:Nat}(h:j<=k):(FU op ks j).length<=(FU op ks k).length:=by
 induction k with
 | zero=>have:j=0:=by omega
         subst this;exact Nat.le_refl _
 | succ k b=>
   by_cases a:j=k+1
   · subst a;exact Nat.le_refl _
   · have:=b (by omega);simp only[FU,List.length_append];omega
structure Kd(x:Ex):Prop where
 len:(Ca x.op).length=x.kids.length
 all:AR x=FU x.op x.kids x.kids.length
 rank:rk x.op<9
 op:x.op.length<=3
 sgn:∀i,((Ca x.op).getD i []).length<=5
theorem FV{x:List UInt8}(h:rk x<9):x.length<=3:=by
 unfold rk at h
 repeat' split at h
 all_goals (first | (simp_all;done) | skip)
 · rename_i hc;simp only[PZ,Bool.or_eq_true,beq_iff_eq]at hc;rcases hc with((((rfl | rfl) | rfl) | rfl) | rfl) | rfl<;>simp
 · rename_i hc;rcases hc with rfl | rfl<;>simp
theorem If{op:List UInt8}(h:op.length<=3)(i:Nat):((Ca op).getD i []).length<=5:=by
 unfold Ca;split
 · match i with
   | 0=>simp
   | 1=>simp
   | 2=>simp
   | i+3=>simp
 · split
   · match i with
     | 0=>simp
     | i+1=>simp
   · split
     · match i with
       | 0=>simp
       | i+1=>simp
     · match i with
       | 0=>simp
       | 1=>simp;omega
       | i+2=>simp
theorem Xl{op:List UInt8}{a:Ex}{p:Nat}(h:op=[33]∨op=C0):Kd (.un op a p):=by
 rcases h with rfl | rfl
 · refine⟨rfl,?_,(show rk [33]<9 by decide),(show[(33:UInt8)].length<=3 by decide),If (show[(33:UInt8)].length<=3 by decide)⟩;have b:Ca [33]=[[33]]:=rfl;have c:rk [33]=4:=rfl;simp[AR,FU,Mq,Ex.op,Ex.kids,b,c,lo,C0]
 · refine⟨rfl,?_,(show rk C0<9 by decide),(show C0.length<=3 by decide),If (show C0.length<=3 by decide)⟩;have b:Ca C0=[[45]]:=rfl;have c:rk C0=8:=rfl;simp[AR,FU,Mq,Ex.op,Ex.kids,b,c,lo]
theorem Wk{op:List UInt8}{a b:Ex}{p:Nat}(h:rk op=1∨rk op=2∨rk op=3∨rk op=5∨rk op=6∨rk op=7):Kd (.bin op a b p):=by have c:Ca op=[[],32::op++[32]]:=(by unfold Ca;rw[if_neg (by omega),if_neg (by omega),if_neg (by omega)]);refine⟨by simp[Ex.op,Ex.kids,c],?_,by simp only[Ex.op];omega,FV (by simp only[Ex.op];omega),If (FV (by simp only[Ex.op];omega))⟩;simp[AR,FU,Mq,Ex.op,Ex.kids,c]
theorem TL{a b c:Ex}{p:Nat}:Kd (.cond a b c p):=by have d:Ca [63]=[[],[32,63,32],[32,58,32]]:=rfl;have e:rk [63]=0:=rfl;refine⟨rfl,?_,(show rk [63]<9 by decide),(show[(63:UInt8)].length<=3 by decide),If (show[(63:UInt8)].length<=3 by decide)⟩;simp[AR,FU,Mq,Ex.op,Ex.kids,d,e,lo,BQ]
theorem SS(n p:Nat)(hn:n<9223372036854775808):TC (.leaf Bk [] n p):=by intro B w v l S c d r i s;obtain rfl:c=_:=r;have a:Below w.heap.size w (w.alloc (.cells #[.string ⟨#[110,117,109]⟩,.string ⟨#[]⟩,.int .i64 (n:Int),.slice none 0 0,.int .i64 (p:Int)] 57)):=(Below.refl _ _).alloc (Nat.le_refl _) _;have k:=zz (NP (n:=n) (d.below a) (i.below d.low a).now hn (by omega));have b:=zz a;have j:AR (.leaf Bk [] n p)=CJ n:=rfl;rw[j];change Calls Tryz.prog 117 #[v,.agg #[.string ⟨#[110,117,109]⟩,.string ⟨#[]⟩,.int .i64 (n:Int),.slice none 0 0,.int .i64 (p:Int)]] w _;clear d i s a j;go_enter Tryz.func117,Tryz.ntmps117;go_wp2_with fail;refine(k.out).mono ?_;rintro e u ⟨t,rfl,f,g,h⟩;have m:=zz f;have o:=zz g;have q:=zz h;clear f g h;go_wp2;go_ret;exact⟨t,rfl,m.out,Ak (v1:=v) (Bo b.out _) (CR.refl _ _) o.out,(CR.refl w v).trans b.out.size q.out⟩
theorem PF(nm:List UInt8)(p:Nat):TC (.leaf BA nm 0 p):=by intro B w v l S c g m n e;obtain rfl:c=_:=m;have a:Below w.heap.size w (w.alloc (.cells #[.string ⟨#[110,97,109,101]⟩,.string ⟨nm.toArray⟩,.int .i64 0,.slice none 0 0,.int .i64 (p:Int)] 57)):=(Below.refl _ _).alloc (Nat.le_refl _) _;have h:=zz (g.below a);have b:=zz a;have f:AR (.leaf BA nm 0 p)=nm:=(by simp[AR,BA,Bk]);rw[f]at e ⊢;change Calls Tryz.prog 117 #[v,.agg #[.string ⟨#[110,97,109,101]⟩,.string ⟨nm.toArray⟩,.int .i64 0,.slice none 0 0,.int .i64 (p:Int)]] w _;have d:l.length+(⟨nm.toArray⟩:ByteArray).size<=1000000000:=(by show l.length+nm.toArray.size<=_;simp;omega);clear g n e a f;go_enter Tryz.func117,Tryz.ntmps117;go_wp2_with (at_builtin;refine FZ _ rfl _ _ rfl rfl h.out _ rfl d ?_;intro o q i j k);go_ret;exact⟨o,rfl,i,Ak (v1:=v) (Bo b.out _) (CR.refl _ _) j,(CR.refl w v).trans b.out.size k⟩
theorem Oq(op:List UInt8)(p:Nat)(ho:op=Au∨op=Bu):TC (.leaf op [] 0 p):=by
 intro B w v l S c r x y n;obtain rfl:c=_:=x;have q:AR (.leaf op [] 0 p)=op:=by rcases ho with rfl | rfl<;>rfl
 rw[q]at n ⊢;have o:rk op=9:=by rcases ho with rfl | rfl<;>rfl
 have f:op≠Bk:=by rcases ho with rfl | rfl<;>decide
 have g:op≠BA:=by rcases ho with rfl | rfl<;>decide
 have d:op.length<=5:=by rcases ho with rfl | rfl<;>decide
 have h:=zz (Cj ⟨op.toArray⟩);unfold WY at h;have k:rk (⟨op.toArray⟩:ByteArray).data.toList=9:=o;rw[k]at h;have a:Below w.heap.size w (w.alloc (.cells #[.string ⟨op.toArray⟩,.string ⟨#[]⟩,.int .i64 0,.slice none 0 0,.int .i64 (p:Int)] 57)):=(Below.refl _ _).alloc (Nat.le_refl _) _;have s:=zz (r.below a);have b:=zz a;change Calls Tryz.prog 117 #[v,.agg #[.string ⟨op.toArray⟩,.string ⟨#[]⟩,.int .i64 0,.slice none 0 0,.int .i64 (p:Int)]] w _;have j:l.length+(⟨op.toArray⟩:ByteArray).size<=1000000000:=(by show l.length+op.toArray.size<=_;simp;omega);have C:((⟨op.toArray⟩:ByteArray).toList==[110,117,109])=false:=(by rw[ByteArray.toList_eq];simpa[Bk]using f);have D:((⟨op.toArray⟩:ByteArray).toList==[110,97,109,101])=false:=(by rw[ByteArray.toList_eq];simpa[BA]using g);have i:=zz (show(⟨op.toArray⟩:ByteArray).data.toList=op from rfl);clear r y n a q ho f g d o k;generalize(⟨op.toArray⟩:ByteArray)=ob at*;go_enter Tryz.func117,Tryz.ntmps117
 go_wp2_with (first
  | ((with_reducible refine(h.out _).mono ?_);rintro e A ⟨rfl,rfl⟩)
  | (at_builtin;refine FZ _ rfl _ _ rfl rfl s.out _ rfl j ?_;intro z A m t u))
 go_ret;rw[i.out]at m;exact⟨z,rfl,m,Ak (v1:=v) (Bo b.out _) (CR.refl _ _) t,(CR.refl w v).trans b.out.size u⟩
def VA(B:Nat)(x:Ex)(S:Nat->Prop)(l:List UInt8)(w:World)(v:Value)(gs:Nat)(o nm:ByteArray)(n:Int)(A:Option Addr)(cap:Nat)(p:Int)(t i:Value)(wr:World):Prop:=
 ∃k:Nat,i= .int .i64 (k:Int)/\k<=x.kids.length/\El B wr t (l++FU x.op x.kids k)/\w.grownBy wr v.ownBlock/\CR w v t/\Ai wr w.heap.size (.string o) (.string nm) (.int .i64 n) (.slice A x.kids.length cap) (.int .i64 p)/\wr.heap[gs]?=some (.cells ((Ca x.op).map Bm).toArray 9 (0,0))/\HS wr 57 S x (BM o nm n A x.kids.length cap p)/\Jb B wr
theorem HS.kr{w:World}{S:Nat->Prop}{A:Option Addr}{x:Ex}{o nm:ByteArray}{n:Int}{cap ll:Nat}{p:Int}(h:HS w 57 S x (BM o nm n A ll cap p)):KR w 57 S A x.kids:=by obtain⟨d,a,b,c⟩:=h.view;simp only[BM,List.cons.injEq,Value.slice.injEq]at b;rw[b.2.2.2.1.1];exact c
theorem J8{w:World}{gs:Nat}{ss:List (List UInt8)}(h:w.heap[gs]?=some (.cells (ss.map Bm).toArray 9 (0,0))){k:Nat}(hk:k<ss.length):w.cell? ⟨gs,k,none⟩=some (.string ⟨(ss.getD k []).toArray⟩):=by rw[AL h];simp[hk,Bm]
end
section
open Go.RowKit Go.Sort
theorem KB{w w1:World}{r:Option Nat}(h:w.grownBy w1 r):w.grownBy w1.drew r:=⟨h.os,h.tape,h.output,h.size,h.block⟩
theorem Hj{x:Ex}(hk:Kd x)(ih:∀k∈x.kids,TC k):TC x:=by
 intro B w v l S c P hH hT hl;obtain⟨A,q,rfl,ai⟩:=hH.view;clear ai;have r:=hk.rank;have aj:x.op≠Bk:=fun e=>(by rw[e]at r;exact absurd r (by decide));have ak:x.op≠BA:=fun e=>(by rw[e]at r;exact absurd r (by decide));have g1:((⟨x.op.toArray⟩:ByteArray).toList==[110,117,109])=false:=(by rw[ByteArray.toList_eq];simpa[Bk]using aj);have g2:((⟨x.op.toArray⟩:ByteArray).toList==[110,97,109,101])=false:=(by rw[ByteArray.toList_eq];simpa[BA]using ak);have g3:((rk x.op:Int)==9)=false:=(by rw[beq_eq_false_iff_ne];omega);have H1:=zz (Cj ⟨x.op.toArray⟩);unfold WY at H1;have e1:rk (⟨x.op.toArray⟩:ByteArray).data.toList=rk x.op:=rfl;rw[e1]at H1;have am:(⟨x.op.toArray⟩:ByteArray).size<=65536:=(by show x.op.toArray.size<=_;have:=hk.op;simp;omega);have H2:=zz (O7 ⟨x.op.toArray⟩ am);have H3:=zz (Li ⟨x.op.toArray⟩);have ag:Below w.heap.size w (w.alloc (.cells #[.string ⟨x.op.toArray⟩,.string ⟨x.nm.toArray⟩,.int .i64 (x.num:Int),.slice A x.kids.length q,.int .i64 (x.pos:Int)] 57)):=(Below.refl _ _).alloc (Nat.le_refl _) _;have L:=zz ag;have T:=zz (Ai.new w (.string ⟨x.op.toArray⟩) (.string ⟨x.nm.toArray⟩) (.int .i64 (x.num:Int)) (.slice A x.kids.length q) (.int .i64 (x.pos:Int)));have HT:=zz P;have HH:=zz hH;have aA:=zz hT;have au:=zz hk;have aq:=zz ih;have HN:=zz (Gc x);change Calls Tryz.prog 117 #[v,.agg #[.string ⟨x.op.toArray⟩,.string ⟨x.nm.toArray⟩,.int .i64 (x.num:Int),.slice A x.kids.length q,.int .i64 (x.pos:Int)]] w _;rw[hk.all]at hl ⊢;clear P hH hT ag aj ak r e1 hk ih am;have e2:(⟨x.op.toArray⟩:ByteArray).data.toList=x.op:=rfl;rw[e2]at H2 H3;clear e2;generalize(⟨x.op.toArray⟩:ByteArray)=o at*;generalize(⟨x.nm.toArray⟩:ByteArray)=nm at*;generalize(x.num:Int)=n at*;generalize(x.pos:Int)=p at*;obtain⟨N,hN⟩:∃N,N=x.kids.length:=⟨_,rfl⟩;have b:=zz hN;have aI:N<=3:=(by rw[hN];exact HN.out);have I:(Ca x.op).length=N:=(by rw[hN];exact au.out.len);have G:=zz I;rw[<- hN]at hl T L HH ⊢;clear hN I;go_enter Tryz.func117,Tryz.ntmps117;go_wp2_with fail;(with_reducible refine(H1.out _).mono ?_);rintro e w' ⟨rfl,rfl⟩
 go_wp2_with fail;refine(H2.out _).mono ?_;rintro e w1 ⟨gs,rfl,aB,ah,M⟩;have u:=zz (L.out.trans (M.mono L.out.size));have U:=zz (T.out.below M);have an:=zz ah;rw[G.out];clear aB ah M;have ay:=zz (HT.out.below u.out);have ao:=zz (HH.out.below u.out);have ad:=zz (aA.out.below HT.out.low u.out);go_wp2;go_loopw [0,33] (fun t i wr=>VA B x S l w v gs o nm n A q p t i wr) (fun _ i _=>N - (intOf i).toNat);(case atStart=>exact⟨0,rfl,Nat.zero_le _,by rw[FU,List.append_nil];exact ay.out,Bo u.out _,CR.refl _ _,by rw[<- b.out];exact U.out,an.out,by rw[<- b.out];exact ao.out,ad.out⟩);case round=>
  obtain⟨k,rfl,aE,P,hg,D,f,F,hh,Q⟩:=hrel;rw[<- b.out]at aE f hh;by_cases E:k<N
  · have c4:decide ((k:Int)<(N:Int))=true:=(by simp;omega);have c5:decide (k<N)=true:=(by simpa using E);have cs:=J8 F (by rw[G.out];exact E);have kk:k<x.kids.length:=(by rw[<- b.out];exact E);have d:Mq x.op x.kids k=(Ca x.op).getD k []++BQ (decide (rk x.kids[k].op<lo (rk x.op) k)) (AR x.kids[k]):=(by unfold Mq;rw[List.getElem?_eq_getElem kk]);have al:(FU x.op x.kids (k+1)).length<=(FU x.op x.kids N).length:=T6 _ _ (by omega);have O:l.length+(FU x.op x.kids k).length+((Ca x.op).getD k []).length+(BQ (decide (rk x.kids[k].op<lo (rk x.op) k)) (AR x.kids[k])).length<=1000000:=(by rw[FU,List.length_append,d,List.length_append]at al;omega);obtain⟨R,K⟩:∃s,s=(Ca x.op).getD k []:=⟨_,rfl⟩;rw[<- K]at cs O d;have aa:=zz d;have aF:(l++FU x.op x.kids k).length+(⟨R.toArray⟩:ByteArray).size<=1000000000:=(by show _+R.toArray.size<=_;simp;omega);obtain⟨b0,b1,b2,b3,b4⟩:=f.cells;have aJ:=f.lt;have a:=zz P;have y:=zz hg;have z:=zz D;have h:=zz f;have ab:=zz F;have X:=zz hh;have ae:=zz Q;have aw:=zz O;have ar:=zz (aq.out _ (List.getElem_mem kk));clear P hg D f F hh Q O d K al;clear b0 b1 b2 b3 b4;go_wp2_with (at_builtin;refine FZ _ rfl _ _ rfl rfl a.out _ rfl aF ?_;intro v3 w3 h1 C h3;obtain⟨b0,b1,b2,b3,b4⟩:=(h.out.text a.out C).cells;have aG:=(h.out.text a.out C).lt);obtain⟨g,o',aL,m',P',l',aH,p',rfl,aK,af,a0,a1,a2,a3,a4⟩:=(X.out.text a.out C).kr k kk;have m:=zz h1;have W:=zz (Ak y.out z.out C);have Z:=zz (z.out.trans y.out.size h3);have V:=zz (h.out.text a.out C);have ac:=zz (a.out.keep C ab.out (by decide));have ap:=zz (X.out.text a.out C);have H:=zz (ae.out.text a.out C);have Y:=zz af;have aC:k<=2:=(by omega);clear h1 C h3 af
    go_region_law (first
     | (go_simp
        go_at_call 138;refine(H3.out k aC _).mono ?_
        rintro e w' ⟨rfl,rfl⟩)
     | (go_simp
        go_at_call 137;refine(S0 ar.out m.out.drew Y.out.drew H.out.drew (lo (rk x.op) k) (by have:=aw.out;simp at this ⊢;omega)).mono ?_;rintro e w4 ⟨v4,rfl,h4,h5,h6⟩;have az:=zz h4;have j:=zz h5;have av:=zz h6
        clear h4 h5 h6))
    all_goals
     have J:l++FU x.op x.kids (k+1)=l++FU x.op x.kids k++(⟨R.toArray⟩:ByteArray).data.toList++BQ (decide (rk x.kids[k].op<lo (rk x.op) k)) (AR x.kids[k]):=(by rw[FU,aa.out];simp);have ax:Hid (VA B x S l w v gs o nm n (some ⟨g,0,none⟩) q p v4 (.int .i64 ((k:Int)+1)) w4):=
      zz ⟨k+1,by go_num,by rw[<- b.out];omega,by rw[J];exact az.out,Ak (KB W.out) Z.out j.out,Z.out.trans (KB W.out).size av.out,by rw[<- b.out];exact V.out.drew.text m.out.drew j.out,m.out.drew.keep j.out ac.out (by decide),by rw[<- b.out];exact ap.out.drew.text m.out.drew j.out,H.out.drew.text m.out.drew j.out⟩
     clear J;go_wp2;go_roundw;(case rel=>exact ax.out);case measure=>simp[intOf];omega
  · have c4:decide ((k:Int)<(N:Int))=false:=(by simp;omega);have c5:decide (k<N)=false:=(by simpa using E);have aD:k=N:=(by omega);subst aD;have a:=zz P;have y:=zz hg;have z:=zz D;clear P hg D f F hh Q;go_wp2;go_ret;exact⟨_,rfl,a.out,y.out,z.out⟩
theorem EO:∀x:Ex,Ok x->TC x
 | .leaf op nm n p,h=>by
   rcases h with⟨rfl,rfl,h⟩ | ⟨rfl,rfl,_⟩ | ⟨h,rfl,rfl⟩
   · exact SS n p h
   · exact PF nm p
   · exact Oq op p h
 | .un op a p,h=>Hj (Xl h.1) (by simp only[Ex.kids,List.mem_singleton];rintro x rfl;exact EO x h.2)
 | .bin op a b p,h=>Hj (Wk h.1) (by
     have h1:=EO a h.2.1;have h2:=EO b h.2.2;simp only[Ex.kids,List.mem_cons,List.not_mem_nil,or_false]
     rintro x (rfl | rfl)<;>assumption)
 | .cond a b c p,h=>Hj TL (by
     have h1:=EO a h.1;have h2:=EO b h.2.1;have h3:=EO c h.2.2;simp only[Ex.kids,List.mem_cons,List.not_mem_nil,or_false]
     rintro x (rfl | rfl | rfl)<;>assumption)
theorem UU(n:Nat):0<(CJ n).length:=by unfold CJ;rw[Lib.decDigits_length];exact Lib.nDigits_pos n
theorem N4:∀x:Ex,Ok x->0<(AR x).length
 | .leaf op nm n p,h=>by
   rcases h with⟨rfl,rfl,h⟩ | ⟨rfl,rfl,⟨⟨c,r,h,_⟩,_⟩,_⟩ | ⟨h,rfl,rfl⟩
   · exact UU n
   · subst h;simp[AR,BA,Bk]
   · rcases h with rfl | rfl<;>simp[AR,Au,Bu,Bk,BA]
 | .un op a p,_=>by simp[AR]
 | .bin op a b p,_=>by simp[AR];omega
 | .cond a b c p,_=>by simp[AR];omega
theorem JB(l:List UInt8):strOfNums (l.map fun b=>(b.toNat:Int))=⟨l.toArray⟩:=by
 unfold strOfNums
 congr 2
 rw[List.map_map]
 conv=>rhs;rw[<- List.map_id l]
 apply List.map_congr_left;intro b _;simp
theorem Mr{B g n cap:Nat}{w:World}{l:List UInt8}(h:El B w (.slice (some ⟨g,0,none⟩) n cap) l)(hn:n=l.length):(convert 150 9 (.slice (some ⟨g,0,none⟩) n cap)).run Tryz.prog w= .ok (.string ⟨l.toArray⟩) w:=by rw[<- JB];refine run_convert_bytes_arg w 150 5 Tryz.underlying150 Tryz.underlying5 g 0 n cap (l.map fun b=>(b.toNat:Int)) (by rw[List.length_map,hn]) ?_ 9 Tryz.underlying9;intro i c;have a:i<l.length:=(by omega);have:=h.own.cells (g:=g) rfl i (.int .u8 (l[i].toNat:Int)) (by simp[Lib.byteCells,a]);rw[Lib.add_plain]at this;rw[this];simp[a]
theorem O4{x:Ex}(hx:Ok x){S:Nat->Prop}{o nm:ByteArray}{n p:Int}{A:Option Addr}{ll cap:Nat}(w:World)(hH:HS w 57 S x (BM o nm n A ll cap p))(hT:Dj w)(hl:(AR x).length<=1000000):
 Calls Tryz.prog 94 #[.agg #[.string o,.string nm,.int .i64 n,.slice A ll cap,.int .i64 p]] w fun e w'=>e= .returned (.string ⟨(AR x).toArray⟩)/\Below w.heap.size w w':=by
 have a:Below w.heap.size w (w.alloc (.cells #[.string o,.string nm,.int .i64 n,.slice A ll cap,.int .i64 p] 57)):=(Below.refl _ _).alloc (Nat.le_refl _) _;have H:=zz (EO x hx w.heap.size _ (.slice none 0 0) [] S _ ⟨World.ownsRow_nil _ _ _ _,a.size⟩ (hH.below a) ((Lib.tabBelow_of_tabIs hT).on a) (by simpa using hl));have b:=zz a;have j:=zz (N4 x hx);clear hH hT a hx;go_enter Tryz.func94,Tryz.ntmps94;go_wp2_with fail;refine(H.out).mono ?_;rintro e s ⟨r,rfl,c,i,l⟩;rw[List.nil_append]at c;obtain⟨g,h,rfl,_⟩:=c.own.form j.out;have f:=zz (Mr c rfl);have d:=zz (b.out.trans ((show Below w.heap.size _ _ from(Below.refl _ _).grown i b.out.size (fun k q=>by cases q))));clear c i l;generalize(AR x).length=N at*;have m:=f.out;go_wp2;go_ret;exact⟨rfl,d.out⟩
end
end
end Go.Proofs.YtodijgndbjfbgaaGreatDoor
