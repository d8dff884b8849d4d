import Derived.Test.YtodijgndbjfbgaaGreatDoorSa
import Derived.Test.YtodijgndbjfbgaaGreatDoorSf
import Derived.Laws.BytesArg
import Derived.Deep.RegionLaw
import Derived.Deep.AppendLies
import Derived.RegionTactic
namespace Go.Proofs.YtodijgndbjfbgaaGreatDoor
set_option maxHeartbeats 16000000
set_option maxRecDepth 100000
section
def Jf:Nat->List (List UInt8)
 | 0=>[[63]]
 | 1=>[[61,62]]
 | 2=>[[124]]
 | 3=>[[38]]
 | 4=>[[33]]
 | 5=>[[61],[33,61],[60],[60,61],[62],[62,61]]
 | 6=>[[43],[45]]
 | 7=>[[42]]
 | 8=>[[110,101,103]]
 | _=>[]
theorem Qk(x:List UInt8)(k:Nat)(hk:k<9):x∈Jf k↔rk x=k:=by
 constructor
 · intro h;have:k=0∨k=1∨k=2∨k=3∨k=4∨k=5∨k=6∨k=7∨k=8:=by omega
   rcases this with rfl | rfl | rfl | rfl | rfl | rfl | rfl | rfl | rfl<;>
    (simp only[Jf,List.mem_cons,List.not_mem_nil,or_false]at h)<;>
    (repeat' (rcases h with rfl | h))<;>(first | (subst h;decide) | decide)
 · intro h;unfold rk at h;split at h
   · subst h;rename_i e;subst e;decide
   split at h
   · subst h;rename_i e;subst e;decide
   split at h
   · subst h;rename_i e;subst e;decide
   split at h
   · subst h;rename_i e;subst e;decide
   split at h
   · subst h;rename_i e;subst e;decide
   split at h
   · subst h;rename_i e;simp only[PZ,Bool.or_eq_true,beq_iff_eq]at e;rcases e with((((rfl | rfl) | rfl) | rfl) | rfl) | rfl<;>decide
   split at h
   · subst h;rename_i e;rcases e with rfl | rfl<;>decide
   split at h
   · subst h;rename_i e;subst e;decide
   split at h
   · subst h;rename_i e;subst e;decide
   omega
theorem V8{n:Nat}(h:n<10)(t:List UInt8):UInt8.ofNat (48+n)::t=CJ n++t:=by rw[J0 h];rfl
theorem W8{n:Nat}(h:¬n<10)(t:List UInt8):CJ (n / 10)++UInt8.ofNat (48+n % 10)::t=CJ n++t:=by have e:CJ n=CJ (n / 10)++[UInt8.ofNat (48+n % 10)]:=(by unfold CJ;rw[Lib.decDigits,dif_neg h]);rw[e,List.append_assoc];rfl
def Il:Ex->List UInt8
 | .leaf op nm n p=>40::(op++32::(nm++32::(CJ n++32::(CJ p++[41]))))
 | .un op a p=>40::(op++32::32::(CJ 0++32::(CJ p++(Il a++[41]))))
 | .bin op a b p=>40::(op++32::32::(CJ 0++32::(CJ p++(Il a++(Il b++[41])))))
 | .cond a b c p=>40::([63]++32::32::(CJ 0++32::(CJ p++(Il a++(Il b++(Il c++[41]))))))
end
section
open Go.RowKit Go.Sort
def VF(x:List UInt8)(l:List (List UInt8))(i:Value):Prop:=∃k:Nat,i= .int .i64 (k:Int)/\k<=l.length/\x∉l.take k
def VR(b:Bool)(w:World)(e:Ending)(w':World):Prop:=e= .returned (.bool b)/\w=w'
theorem FX(s:ByteArray)(l:List (List UInt8))(g cap:Nat)(w:World)(h:w.heap[g]?=some (.cells (l.map Bm).toArray 9 (0,0)))(hl:l.length<=100):Calls Tryz.prog 114 #[.string s,.slice (some ⟨g,0,none⟩) l.length cap] w (VR (decide (s.data.toList∈l)) w):=by
 obtain⟨n,o⟩:∃n,n=l.length:=⟨_,rfl⟩;have HC:=zz (fun(k:Nat) (q:k<n)=>J8 h (k:=k) (by omega));have m:=zz o;rw[<- o]at hl ⊢;clear h o;go_enter Tryz.func114,Tryz.ntmps114;go_wp2;go_loop [5] (fun i=>VF s.data.toList l i) (fun i=>n - (intOf i).toNat);(case atStart=>exact⟨0,rfl,Nat.zero_le _,by simp⟩);case round=>
  obtain⟨k,rfl,q,d⟩:=hrel;rw[<- m.out]at q;by_cases a:k<n
  · have u:decide ((k:Int)<(n:Int))=true:=(by simp;omega);have v:decide (k<n)=true:=(by simpa using a);have x:=HC.out k a;have j:k<l.length:=(by rw[<- m.out];exact a);obtain⟨p,b⟩:∃p:ByteArray,p=⟨(l.getD k []).toArray⟩:=⟨_,rfl⟩;rw[<- b]at x;have r:(p.toList==s.toList)=decide (l[k]=s.data.toList):=(by rw[b,ByteArray.toList_eq,ByteArray.toList_eq];simp[Bool.beq_eq_decide_eq,List.getElem?_eq_getElem j]);have t:=zz (show l.take (k+1)=l.take k++[l[k]]from List.take_succ_eq_append_getElem j);by_cases c:l[k]=s.data.toList
    · rw[decide_eq_true c]at r;have f:=zz (show s.data.toList∈l by rw[<- c];exact List.getElem_mem j);clear c d b HC;go_wp2;go_ret;exact⟨Bh (decide_eq_true f.out).symm,rfl⟩
    · rw[decide_eq_false c]at r;have f:=zz (show VF s.data.toList l (.int .i64 ((k:Int)+1))from⟨k+1,by go_num,j,by rw[t.out];simp only[List.mem_append,List.mem_singleton,not_or];exact⟨d,fun e=>c e.symm⟩⟩);clear c d b;go_wp2
      go_round
      (case rel=>exact f.out);case measure=>simp[intOf];omega
  · have u:decide ((k:Int)<(n:Int))=false:=(by simp;omega);have v:decide (k<n)=false:=(by simpa using a);have f:=zz (show s.data.toList∉l by rw[List.take_of_length_le (by rw[<- m.out];omega)]at d;exact d);clear d;go_wp2;go_ret;exact⟨Bh (decide_eq_false f.out).symm,rfl⟩
def Yy(w:World)(L:Nat):Prop:=∀j,j<9->∃g,w.cell? ⟨L,j,none⟩=some (.slice (some ⟨g,0,none⟩) (Jf j).length (Jf j).length)/\w.heap[g]?=some (.cells ((Jf j).map Bm).toArray 9 (0,0))
theorem DN{w:World}{k:Nat}{o:Obj}(h:w.heap[k]?=some o)(o':Obj):(w.alloc o').heap[k]?=some o:=(Below.heap_alloc w o' k (BB h)).trans h
def XS(x:List UInt8)(L:Nat)(w:World)(i:Value)(wr:World):Prop:=∃k:Nat,i= .int .i64 (k:Int)/\k<=9/\k<=rk x/\Yy wr L/\Below w.heap.size w wr
def ZB(k:Nat)(w:World)(e:Ending)(w':World):Prop:=e= .returned (.int .i64 (k:Int))/\Below w.heap.size w w'
theorem Bl(s:ByteArray)(w:World):Calls Tryz.prog 89 #[.string s] w (ZB (rk s.data.toList) w):=by
 have m:=zz (RN s.data.toList);have a:=zz (fun(k:Nat) (o:k<9)=>Qk s.data.toList k o);go_enter Tryz.func89,Tryz.ntmps89;go_wp2;go_loopw [4] (fun i wr=>XS s.data.toList (w.heap.size+9) w i wr) (fun i _=>9 - (intOf i).toNat);case atStart=>
  refine⟨0,rfl,by omega,Nat.zero_le _,?_,?_⟩
  · intro j v;have:j=0∨j=1∨j=2∨j=3∨j=4∨j=5∨j=6∨j=7∨j=8:=(by omega);rcases this with rfl | rfl | rfl | rfl | rfl | rfl | rfl | rfl | rfl
    · exact⟨w.heap.size,(AL (Bz (by simp) _) 0).trans rfl,by repeat (first | exact Bz (by simp) _ | refine DN ?_ _)⟩
    · exact⟨w.heap.size+1,(AL (Bz (by simp) _) 1).trans rfl,by repeat (first | exact Bz (by simp) _ | refine DN ?_ _)⟩
    · exact⟨w.heap.size+2,(AL (Bz (by simp) _) 2).trans rfl,by repeat (first | exact Bz (by simp) _ | refine DN ?_ _)⟩
    · exact⟨w.heap.size+3,(AL (Bz (by simp) _) 3).trans rfl,by repeat (first | exact Bz (by simp) _ | refine DN ?_ _)⟩
    · exact⟨w.heap.size+4,(AL (Bz (by simp) _) 4).trans rfl,by repeat (first | exact Bz (by simp) _ | refine DN ?_ _)⟩
    · exact⟨w.heap.size+5,(AL (Bz (by simp) _) 5).trans rfl,by repeat (first | exact Bz (by simp) _ | refine DN ?_ _)⟩
    · exact⟨w.heap.size+6,(AL (Bz (by simp) _) 6).trans rfl,by repeat (first | exact Bz (by simp) _ | refine DN ?_ _)⟩
    · exact⟨w.heap.size+7,(AL (Bz (by simp) _) 7).trans rfl,by repeat (first | exact Bz (by simp) _ | refine DN ?_ _)⟩
    · exact⟨w.heap.size+8,(AL (Bz (by simp) _) 8).trans rfl,by repeat (first | exact Bz (by simp) _ | refine DN ?_ _)⟩
  · repeat (first | exact Below.refl _ _ | refine Below.alloc ?_ (by simp;try omega) _)
 case round=>
  obtain⟨k,rfl,o,r,f,h⟩:=hrel;by_cases b:k<9
  · have q:decide ((k:Int)<9)=true:=(by simp;omega);obtain⟨g,u,n⟩:=f k b
    have H:=zz (FX s (Jf k) g (Jf k).length wr n (by
     have:k=0∨k=1∨k=2∨k=3∨k=4∨k=5∨k=6∨k=7∨k=8:=by omega
     rcases this with rfl | rfl | rfl | rfl | rfl | rfl | rfl | rfl | rfl<;>decide))
    have p:=zz f;have l:=zz h;generalize(Jf k).length=nk at*;by_cases c:s.data.toList∈Jf k
    · rw[decide_eq_true c]at H;have d:=zz ((a.out k b).1 c);clear c f h n;go_wp2_with fail;(with_reducible refine(H.out).mono ?_);rintro e t ⟨rfl,rfl⟩
      go_wp2;go_ret;exact⟨AW (by rw[d.out]),l.out⟩
    · rw[decide_eq_false c]at H;have d:=zz (show k≠rk s.data.toList from fun e=>c ((a.out k b).2 e.symm));clear c f h n;go_wp2_with fail;(with_reducible refine(H.out).mono ?_);rintro e t ⟨rfl,rfl⟩
      go_wp2;go_roundw;(case rel=>exact⟨k+1,by go_num,by omega,by have:=d.out;omega,p.out,l.out⟩);case measure=>simp[intOf];omega
  · have q:decide ((k:Int)<9)=false:=(by simp;omega);have d:=zz (show rk s.data.toList=9 by have:=m.out;omega);have l:=zz h;clear f h;go_wp2;go_ret;exact⟨AW (by rw[d.out];rfl),l.out⟩
end
section
open Go.RowKit Go.Sort
theorem NL(w:World)(c:UInt8):(convert 150 9 (.slice (some ⟨w.heap.size,0,none⟩) 1 1)).run Tryz.prog (w.alloc (.cells #[.int .u8 (c.toNat:Int)] 5))= .ok (.string ⟨#[c]⟩) (w.alloc (.cells #[.int .u8 (c.toNat:Int)] 5)):=by have h:=JB [c];simp only[List.map_cons,List.map_nil]at h;have e:(⟨[c].toArray⟩:ByteArray)=⟨#[c]⟩:=rfl;rw[<- e,<- h];refine run_convert_bytes_arg _ 150 5 Tryz.underlying150 Tryz.underlying5 w.heap.size 0 1 1 [(c.toNat:Int)] rfl ?_ 9 Tryz.underlying9;intro i a;obtain rfl:i=0:=(by omega);exact(AL (heap_alloc_new w _) 0).trans rfl
theorem Qn{s:ByteArray}{l:List UInt8}(h:s.data.toList=l):Ending.returned (.string s)= .returned (Bm l):=by rw[Bw h]
def VX(n:Nat)(w:World)(s u:Value)(wr:World):Prop:=∃(m:Nat) (t:List UInt8),u= .int .u64 (m:Int)/\s= .string ⟨t.toArray⟩/\CJ m++t=CJ n/\m<=n/\Below w.heap.size w wr
def Sn(l:List UInt8)(w:World)(e:Ending)(w':World):Prop:=e= .returned (Bm l)/\Below w.heap.size w w'
theorem Hb{n:Nat}(hn:n<9223372036854775808):(CJ n).length<=20:=by
 unfold CJ;rw[Lib.decDigits_length];by_cases h:n=0
 · subst h;rw[Lib.nDigits_small (by omega)];omega
 · have:=Lib.numDigits_eq n (by omega) (by omega);split at this<;>omega
theorem FJ(n:Nat)(hn:n<9223372036854775808)(w:World):Calls Tryz.prog 30 #[.int .i64 (n:Int)] w (Sn (CJ n) w):=by
 have d:=zz (Hb hn);have k:IntKind.u64.wrap (n:Int)=(n:Int):=(by rw[IntKind.wrap_u64];omega);have p:decide ((n:Int)<0)=false:=(by simp);go_enter Tryz.func30,Tryz.ntmps30;go_wp2;go_loopw [3,5] (fun s u wr=>VX n w s u wr) (fun _ u _=>(intOf u).toNat);(case atStart=>exact⟨n,[],rfl,rfl,by simp,Nat.le_refl _,Below.refl _ _⟩);case round=>
  obtain⟨m,t,rfl,rfl,i,q,h⟩:=hrel;have f:=zz i;have b:=zz h;clear i h;have o:t.length<=20:=(by have:=congrArg List.length f.out;rw[List.length_append]at this;have:=d.out;omega);obtain⟨c,g⟩:∃c:UInt8,c=UInt8.ofNat (48+m % 10):=⟨_,rfl⟩;have r:IntKind.u8.wrap (48+(m:Int) % 10)=(c.toNat:Int):=(by rw[g,IntKind.wrap_u8];simp);have l:=NL wr c;have HC:=zz g;clear g;by_cases a:m<10
  · have j:((m:Int) / 10==0)=true:=(by rw[beq_iff_eq];omega);have e:=zz (show c::t=CJ n by rw[HC.out,show m % 10=m from Nat.mod_eq_of_lt a,V8 a,f.out]);clear a;go_wp2;go_ret;exact⟨Qn (by simpa using e.out),b.out.alloc b.out.size _⟩
  · have j:((m:Int) / 10==0)=false:=by rw[beq_eq_false_iff_ne];omega
    have e:=zz (show VX n w (.string (⟨#[c]⟩++⟨t.toArray⟩)) (.int .u64 ((m:Int) / 10)) (wr.alloc (.cells #[.int .u8 (c.toNat:Int)] 5))from
     ⟨m / 10,c::t,by rw[show((m:Int) / 10)=((m / 10:Nat):Int) by omega],by rw[show((⟨#[c]⟩:ByteArray)++⟨t.toArray⟩)=⟨(c::t).toArray⟩ by apply ByteArray.ext;simp],by rw[HC.out,W8 a,f.out],by have:m / 10<=m:=Nat.div_le_self _ _;omega,b.out.alloc b.out.size _⟩)
    go_wp2;go_roundw;(case rel=>exact e.out);case measure=>(have:0<m:=by omega);(have:m / 10<m:=Nat.div_lt_self this (by omega));simp[intOf];omega
end
section
open Go.RowKit Go.Sort
def KL(w:World)(e:TypeId)(S:Nat->Prop):List Ex->List Value->Prop
 | [],cs=>cs=[]
 | x::r,cs=>∃c c',cs=c++c'/\HS w e S x c/\KL w e S r c'
section
variable {w w':World} {e:TypeId} {S T:Nat->Prop}
theorem KL.snoc:∀{r:List Ex} {cs:List Value} {x:Ex} {c:List Value},KL w e S r cs->HS w e S x c->KL w e S (r++[x]) (cs++c)
 | [],_,x,c,h,hx=>by rw[show _=[]from h];exact⟨c,[],by simp,hx,rfl⟩
 | _::_,_,_,_,⟨c0,c',h1,h2,h3⟩,hx=>⟨c0,c'++_,by rw[h1,List.append_assoc],h2,h3.snoc hx⟩
theorem KL.keep(hk:∀k,S k->k<w.heap.size->w'.heap[k]?=w.heap[k]?):∀{r:List Ex} {cs:List Value},KL w e S r cs->KL w' e S r cs
 | [],_,h=>h
 | _::_,_,⟨c0,c',h1,h2,h3⟩=>⟨c0,c',h1,h2.keep hk,h3.keep hk⟩
theorem KL.wide(hb:∀k,k<w.heap.size->S k->T k):∀{r:List Ex} {cs:List Value},KL w e S r cs->KL w e T r cs
 | [],_,h=>h
 | _::_,_,⟨c0,c',h1,h2,h3⟩=>⟨c0,c',h1,h2.wide hb,h3.wide hb⟩
def KO(lo:Nat)(v:Value)(j:Nat):Prop:=lo<=j/\some j≠v.ownBlock
theorem OQ{o nm:ByteArray}{n:Int}{A:Option Addr}{l cap:Nat}{p:Int}:∀u∈BM o nm n A l cap p,u.oneCell'=true:=by intro u a;simp only[BM,List.mem_cons,List.not_mem_nil,or_false]at a;rcases a with rfl | rfl | rfl | rfl | rfl<;>rfl
theorem MX{lo g n cap:Nat}{cs:List Value}(h:w.ownsRow lo e 5 (.slice (some ⟨g,0,none⟩) n cap) n cs):LP w e (fun j=>lo<=j) g cs:=by
 rcases h.2 with⟨a,_⟩ | ⟨b,m,c,a,i,d,_⟩
 · cases a
 · have:b=g:=by
    injection a with a
    injection a with a
    injection a with a
    exact a.symm
   subst this;refine⟨i,c,d,fun j u l=>?_⟩;have:=h.cells (g:=b) rfl j u l;have f:(⟨b,0,none⟩:Addr).add j=⟨b,j,none⟩:=(by unfold Addr.add;by_cases k:j=0<;>simp[k]);rw[f,AL d]at this;exact this
theorem HS.mk:∀{x:Ex} {lo:Nat} {A:Option Addr} {n cap:Nat} {cs:List Value},n=x.kids.length->(n=0->A=none/\cap=0)->w.ownsRow lo e 5 (.slice A n cap) n cs->KL w e (fun j=>lo<=j) x.kids cs->HS w e (fun j=>lo<=j) x (BM ⟨x.op.toArray⟩ ⟨x.nm.toArray⟩ (x.num:Int) A n cap (x.pos:Int))
 | .leaf op nm m p,lo,A,n,cap,cs,hn,h0,_,_=>by obtain⟨rfl,rfl⟩:=h0 hn;have:n=0:=hn;subst this;rfl
 | .un op a p,lo,A,n,cap,cs,hn,h0,ho,⟨c,c',h1,h2,h3⟩=>by
   have hn:n=1:=hn;subst hn;obtain⟨g,f,k⟩:=Eu ho (by omega);injection k with i
   subst i;have h:=MX ho;rw[h1,show c'=[]from h3,List.append_nil]at h;exact⟨g,cap,c,rfl,h,h2⟩
 | .bin op a b p,lo,A,n,cap,cs,hn,h0,ho,⟨c,c',h1,h2,c2,c3,h3,h4,h5⟩=>by
   have hn:n=2:=hn;subst hn;obtain⟨g,f,k⟩:=Eu ho (by omega);injection k with i
   subst i;have h:=MX ho;rw[h1,h3,show c3=[]from h5,List.append_nil]at h;exact⟨g,cap,c,c2,rfl,h,h2,h4⟩
 | .cond a b d p,lo,A,n,cap,cs,hn,h0,ho,⟨c,c',h1,h2,c2,c3,h3,h4,c4,c5,h5,h6,h7⟩=>by
   have hn:n=3:=hn;subst hn;obtain⟨g,f,k⟩:=Eu ho (by omega);injection k with i
   subst i;have h:=MX ho;rw[h1,h3,h5,show c5=[]from h7,List.append_nil]at h;exact⟨g,cap,c,c2,c4,rfl,h,h2,h4,h6⟩
end
theorem GD{w:World}{k:Nat}{o:Obj}(h:w.heap[k]?=some o)(o':Obj):(w.alloc o').heap[k]?=some o:=(Below.heap_alloc w o' k (BB h)).trans h
theorem XW:(Tryz.prog.info? 81).map (fun i=>(i.zero,i.size,i.bytes))=some (some (.agg #[.string ⟨#[]⟩,.string ⟨#[]⟩,.int .i64 0,.slice none 0 0,.int .i64 0]),5,72):=by kernel_rfl
theorem Uf{w:World}{lo k:Nat}{e:TypeId}{sz n:Nat}{v:Value}{cs:List Value}(h:w.ownsRow lo e sz v n cs)(hk:k<lo):some k≠v.ownBlock:=by intro a;have:=(h.lt k a.symm).1;omega
def Y4(x:Ex)(w:World)(e:Ending)(w':World):Prop:=∃o nm n A l cap p,e= .returned (.agg #[.string o,.string nm,.int .i64 n,.slice A l cap,.int .i64 p])/\HC w' 81 w.heap.size w'.heap.size x (BM o nm n A l cap p)/\Below w.heap.size w w'
def YY(x:Ex):Prop:=∀(w:World) (S:Nat->Prop) (c:List Value),HS w 57 S x c->Calls Tryz.prog 32 #[.agg c.toArray] w (Y4 x w)
def Az(w:World)(b:Nat)(c0 c1 c2 c3 c4:Value):Prop:=w.heap[b]?=some (.cells #[c0,c1,c2,c3,c4] 81 (0,0))
section
variable {w w':World} {b:Nat} {c0 c1 c2 c3 c4:Value}
theorem Az.lt(h:Az w b c0 c1 c2 c3 c4):b<w.heap.size:=BB h
theorem Az.below(h:Az w b c0 c1 c2 c3 c4)(hb:Below w.heap.size w w'):Az w' b c0 c1 c2 c3 c4:=(hb.block b h.lt).trans h
theorem Az.cells(h:Az w b c0 c1 c2 c3 c4):w.cell? ⟨b,0,none⟩=some c0/\w.cell? ⟨b,1,none⟩=some c1/\w.cell? ⟨b,2,none⟩=some c2/\w.cell? ⟨b,3,none⟩=some c3/\w.cell? ⟨b,4,none⟩=some c4:=
 ⟨(AL h 0).trans rfl,(AL h 1).trans rfl,(AL h 2).trans rfl,(AL h 3).trans rfl,(AL h 4).trans rfl⟩
theorem Az.frozen(h:Az w b c0 c1 c2 c3 c4)(i:Nat):w.frozen? ⟨b,i,none⟩=false:=Bf h i
theorem Az.set3(h:Az w b c0 c1 c2 c3 c4)(u:Value):Az (w.setCell ⟨b,3,none⟩ u) b c0 c1 c2 u c4:=by have:=A7 (i:=3) h u;simpa[Az]using this
theorem Az.set5(h:Az w b c0 c1 c2 c3 c4)(x0 x1 x2 x3 x4:Value):Az (((((w.setCell ⟨b,0,none⟩ x0).setCell ⟨b,1,none⟩ x1).setCell ⟨b,2,none⟩ x2).setCell ⟨b,3,none⟩ x3).setCell ⟨b,4,none⟩ x4) b x0 x1 x2 x3 x4:=by have a:=A7 (i:=0) h x0;have c:=A7 (i:=1) a x1;have d:=A7 (i:=2) c x2;have e:=A7 (i:=3) d x3;have f:=A7 (i:=4) e x4;simpa[Az]using f
end
def VQ(x:Ex)(S:Nat->Prop)(w:World)(A0:Option Addr)(N cap0:Nat)(o nm:ByteArray)(m p:Int)(i:Value)(wr:World):Prop:=
 ∃(k:Nat) (A:Option Addr) (cap:Nat) (cs:List Value),i= .int .i64 (k:Int)/\k<=N/\(k=0->A=none/\cap=0)/\Az wr (w.heap.size+1+1) (.string o) (.string nm) (.int .i64 m) (.slice A k cap) (.int .i64 p)/\
  wr.ownsRow (w.heap.size+1+1+1) 81 5 (.slice A k cap) k cs/\KL wr 81 (KO (w.heap.size+1+1+1) (.slice A k cap)) (x.kids.take k) cs/\
  Ai wr w.heap.size (.string o) (.string nm) (.int .i64 m) (.slice A0 N cap0) (.int .i64 p)/\Az wr (w.heap.size+1) (.string ⟨#[]⟩) (.string ⟨#[]⟩) (.int .i64 0) (.slice none 0 0) (.int .i64 0)/\HS wr 57 S x (BM o nm m A0 N cap0 p)/\Below w.heap.size w wr
theorem TU{x:Ex}{S:Nat->Prop}{w wr w4 w5:World}{A0:Option Addr}{N cap0:Nat}{o nm:ByteArray}{m p:Int}{k:Nat}{A:Option Addr}{cap:Nat}{cs:List Value}{o4 nm4:ByteArray}{n4 p4:Int}{A4:Option Addr}{l4 cap4 g5 cap5:Nat}{ob:Obj}{v:Int}(hv:v=(k:Int)+1)
 (kk:k<x.kids.length) (hN:k<N) (hb:Below w.heap.size w wr) (hb4:Below wr.heap.size wr w4) (hC:HS w4 81 (Rg wr.heap.size w4.heap.size) x.kids[k] (BM o4 nm4 n4 A4 l4 cap4 p4))
 (hO:wr.ownsRow (w.heap.size+1+1+1) 81 5 (.slice A k cap) k cs) (hO5:w5.ownsRow (w.heap.size+1+1+1) 81 5 (.slice (some ⟨g5,0,none⟩) (k+1) cap5) (k+1) (cs++BM o4 nm4 n4 A4 l4 cap4 p4))
 (hg:(w4.alloc ob).grownBy w5 (Value.slice A k cap).ownBlock) (hat:(Value.slice A k cap).ownBlock=some g5∨g5=w4.heap.size+1) (hK:KL wr 81 (KO (w.heap.size+1+1+1) (.slice A k cap)) (x.kids.take k) cs)
 (h1:Ai wr w.heap.size (.string o) (.string nm) (.int .i64 m) (.slice A0 N cap0) (.int .i64 p)) (h2:Az wr (w.heap.size+1) (.string ⟨#[]⟩) (.string ⟨#[]⟩) (.int .i64 0) (.slice none 0 0) (.int .i64 0)) (hh:HS wr 57 S x (BM o nm m A0 N cap0 p))
 (h3:Az wr (w.heap.size+1+1) (.string o) (.string nm) (.int .i64 m) (.slice A k cap) (.int .i64 p)) (h35:Az w5 (w.heap.size+1+1) (.string o) (.string nm) (.int .i64 m) (.slice A k cap) (.int .i64 p)):
 VQ x S w A0 N cap0 o nm m p (.int .i64 v) (w5.setCell ⟨w.heap.size+1+1,3,none⟩ (.slice (some ⟨g5,0,none⟩) (k+1) cap5)):=by
 have E:=hb.size;have q:=h1.lt;have r:=h2.lt;have z:=h3.lt;have B:=hb4.size;have C:w4.heap.size+1<=w5.heap.size:=(by have:=hg.size;simp at this;omega);have c:∀j,(Value.slice A k cap).ownBlock=some j->w.heap.size+1+1+1<=j/\j<wr.heap.size:=fun j a=>hO.lt j a;have t:∀j,j<w4.heap.size->some j≠(Value.slice A k cap).ownBlock->j≠w.heap.size+1+1->(w5.setCell ⟨w.heap.size+1+1,3,none⟩ (.slice (some ⟨g5,0,none⟩) (k+1) cap5)).heap[j]?=w4.heap[j]?:=fun j h1 h2 h3=>
  (Below.heap_setCell w5 ⟨w.heap.size+1+1,3,none⟩ _ j h3).trans ((hg.block j (by simp;omega) h2).trans (Below.heap_alloc w4 ob j h1))
 have f:∀j,j<wr.heap.size->some j≠(Value.slice A k cap).ownBlock->j≠w.heap.size+1+1->(w5.setCell ⟨w.heap.size+1+1,3,none⟩ (.slice (some ⟨g5,0,none⟩) (k+1) cap5)).heap[j]?=wr.heap[j]?:=fun j h1 h2 h3=>
  (t j (by omega) h2 h3).trans (hb4.block j h1)
 have b:∀j,j<w.heap.size+1+1+1->some j≠(Value.slice A k cap).ownBlock:=fun j a e=>(by have:=(c j e.symm).1;omega);subst hv;refine⟨k+1,some ⟨g5,0,none⟩,cap5,cs++BM o4 nm4 n4 A4 l4 cap4 p4,by go_num,hN,fun h=>absurd h (by omega),h35.set3 _,?_,?_,(f _ q (b _ (by omega)) (by omega)).trans h1,(f _ r (b _ (by omega)) (by omega)).trans h2,?_,?_⟩
 · refine hO5.kept (row:=some (w.heap.size+1+1)) (w':=w5.setCell ⟨w.heap.size+1+1,3,none⟩ (.slice (some ⟨g5,0,none⟩) (k+1) cap5)) ⟨rfl,rfl,rfl,by simp,fun k _ i=>Below.heap_setCell w5 ⟨w.heap.size+1+1,3,none⟩ _ k (fun e=>i (by rw[e]))⟩ (.inr ?_);intro e;have:=(hO5.lt g5 rfl).1;have:g5=w.heap.size+1+1:=(by simpa[Value.ownBlock]using e);omega
 · have l:∀j,j<wr.heap.size->some j≠(Value.slice A k cap).ownBlock->some j≠(Value.slice (some ⟨g5,0,none⟩) (k+1) cap5).ownBlock:=fun j a i e=>by
    have e:j=g5:=(by simpa[Value.ownBlock]using e);rcases hat with h | h
    · exact i (by rw[h,e])
    · omega
   rw[List.take_succ_eq_append_getElem kk];refine KL.snoc (((hK.wide (T:=fun j=>KO (w.heap.size+1+1+1) (.slice A k cap) j/\some j≠(Value.slice (some ⟨g5,0,none⟩) (k+1) cap5).ownBlock) (fun j g a=>⟨a,l j g a.2⟩)).keep (fun j a g=>f j g a.1.2 (by have:=a.1.1;omega))).wide (fun j _ a=>⟨a.1.1,a.2⟩)) ?_;refine(hC.keep (fun j a g=>t j g (fun e=>by have:=(c j e.symm).2;unfold Rg at a;omega) (by unfold Rg at a;omega))).wide (fun j _ a=>⟨by unfold Rg at a;omega,fun e=>?_⟩);have e:j=g5:=(by simpa[Value.ownBlock]using e);unfold Rg at a;rcases hat with h | h
   · have:=(c g5 h).2;omega
   · omega
 · refine hh.keepT fun j u a=>(f j (BB a) (fun e=>?_) (fun e=>?_)).trans a
   · rcases hO.2 with⟨n,_⟩ | ⟨y,D,s,n,F,d,_⟩
     · rw[n]at e;cases e
     · rw[n]at e;have e:j=y:=(by simpa[Value.ownBlock]using e);subst e;rw[a]at d;injection d with d
       injection d with _ d
       exact absurd d (by decide)
   · subst e;have h3:wr.heap[w.heap.size+1+1]?=_:=h3;rw[a]at h3;injection h3 with h3
     injection h3 with _ h3
     exact absurd h3 (by decide)
 · exact⟨hg.os.trans (hb4.os.trans hb.os),hg.tape.trans (hb4.tape.trans hb.tape),hg.output.trans (hb4.output.trans hb.output),by simp;omega,fun j a=>(f j (by omega) (b j (by omega)) (by omega)).trans (hb.block j a)⟩
theorem Nj{x:Ex}(ih:∀k∈x.kids,YY k):YY x:=by
 intro w S c Y;obtain⟨A0,y,rfl,_⟩:=Y.view;obtain⟨i0,Q,hz⟩:=Option.map_eq_some_iff.1 XW;simp only[Prod.mk.injEq]at hz;obtain⟨T,U,V⟩:=hz;have HI:=zz Q;have ah:=zz T;have ai:=zz U;have aj:=zz V;have ae:=zz ih;have ak:=Gc x;have q:=zz (fun(W:World) (lo:Nat) (A:Option Addr) (d:Nat) (cs:List Value) (h0:x.kids.length=0->A=none/\d=0) (ho:W.ownsRow lo 81 5 (.slice A x.kids.length d) x.kids.length cs) (hk:KL W 81 (fun j=>lo<=j) x.kids cs)=>HS.mk (x:=x) rfl h0 ho hk);change Calls Tryz.prog 32 #[.agg #[.string ⟨x.op.toArray⟩,.string ⟨x.nm.toArray⟩,.int .i64 (x.num:Int),.slice A0 x.kids.length y,.int .i64 (x.pos:Int)]] w _;obtain⟨N,hN⟩:∃N,N=x.kids.length:=⟨_,rfl⟩;have HN:=zz hN;rw[<- hN]at Y ak q ⊢;have HH:=zz Y;clear Q T U V ih Y hN;generalize(⟨x.op.toArray⟩:ByteArray)=o at*;generalize(⟨x.nm.toArray⟩:ByteArray)=nm at*;generalize(x.num:Int)=m at*;generalize(x.pos:Int)=p at*;go_enter Tryz.func32,Tryz.ntmps32;go_wp2;go_loopw [4] (fun i wr=>VQ x S w A0 N y o nm m p i wr) (fun i _=>N - (intOf i).toNat);(case atStart=>refine⟨0,none,0,[],rfl,Nat.zero_le _,fun _=>⟨rfl,rfl⟩,Bz (by simp) _,World.ownsRow_nil _ _ _ _,rfl,GD (GD (Bz rfl _) _) _,GD (Bz (by simp) _) _,((HH.out.alloc _).alloc _).alloc _,(((Below.refl _ _).alloc (Nat.le_refl _) _).alloc (by simp) _).alloc (by simp;omega) _⟩);case round=>
  obtain⟨k,A,d,cs,rfl,hk,D,f,Z,K,l,a,hh,hb⟩:=hrel;by_cases u:k<N
  · have c4:decide ((k:Int)<(N:Int))=true:=(by simp;omega);have c5:decide (k<N)=true:=(by simpa using u);have kk:k<x.kids.length:=(by rw[<- HN.out];exact u);obtain⟨g,o',av,m',P',l',ar,p',rfl,au,J,a0,a1,a2,a3,a4⟩:=hh.kr k kk;have HC:=zz (ae.out _ (List.getElem_mem kk) wr.drew S _ J.drew);obtain⟨b0,b1,b2,b3,b4⟩:=l.cells;obtain⟨d0,d1,d2,d3,d4⟩:=f.cells;have f3:=f.frozen 3;have M:=l.lt;have O:=f.lt;have n:=zz f;have HO:=zz Z;have HK:=zz K;have aa:=zz l;have B:=zz a;have ad:=zz hh;have X:=zz hb;clear f Z K l a hh hb J D;go_wp2_with fail
    go_region_law (first
     | (go_simp
        go_at_call 32;refine(HC.out).mono ?_;rintro e w4 ⟨o4,E,n4,A4,l4,r,p4,rfl,I,P⟩;have b:Below wr.heap.size wr w4:=(Below.refl wr.heap.size wr).drew.trans P;have ab:=zz I;have t:=zz b;have G:=zz (n.out.below b);obtain⟨d0,d1,d2,d3,d4⟩:=(n.out.below b).cells;have f3:=(n.out.below b).frozen 3;have al:=(n.out.below b).lt
        clear I P b)
     | (refine step_append_lies (w4.alloc (.cells #[.string o4,.string E,.int .i64 n4,.slice A4 l4 r,.int .i64 p4] 81)) rfl (.tmp 22) (.tmp 29) 79 rfl (w.heap.size+1+1+1) 81 i0 (.agg #[.string ⟨#[]⟩,.string ⟨#[]⟩,.int .i64 0,.slice none 0 0,.int .i64 0]) 5 72 Tryz.underlying79 HI.out ah.out ai.out aj.out rfl (by decide) (.slice A k d) k cs ?_ ?_ ⟨w4.heap.size,0,none⟩ 1 1 (BM o4 E n4 A4 l4 r p4) ?_ rfl ?_ ?_ (by omega) (by unfold maxLen;omega) (by omega) ?_ (w4.heap.size+1) (by simp) ?_
        · simp[Act.eval]
        · exact BW HO.out (t.out.alloc t.out.size _)
        · simp[Act.eval]
        · exact Go.World.news_of_block (cs:= #[.string o4,.string E,.int .i64 n4,.slice A4 l4 r,.int .i64 p4]) (Bz rfl _)
        · exact OQ
        · have:=X.out.size;have:=t.out.size;simp;omega
        intro g5 ao w5 R C z aq;have s:Az w5 (w.heap.size+1+1) (.string o) (.string nm) (.int .i64 m) (.slice A k d) (.int .i64 p):=(C.block (w.heap.size+1+1) (by simp;omega) (Uf HO.out (by omega))).trans (GD G.out _);obtain⟨d0,d1,d2,d3,d4⟩:=s.cells;have f3:=s.frozen 3;have am:=s.lt;have H:=zz s;have ac:=zz C;have af:=zz R;have F:=zz z
        clear s C R z))
    all_goals
     have ag:=zz (TU (v:=(k:Int)+1) rfl kk u X.out t.out ab.out HO.out af.out ac.out F.out HK.out aa.out B.out ad.out n.out H.out);go_wp2;go_roundw;(case rel=>exact ag.out);case measure=>simp[intOf];omega
  · have c4:decide ((k:Int)<(N:Int))=false:=(by simp;omega);have c5:decide (k<N)=false:=(by simpa using u);have an:k=N:=(by omega);subst an;obtain⟨b0,b1,b2,b3,b4⟩:=l.cells;obtain⟨d0,d1,d2,d3,d4⟩:=f.cells;obtain⟨e0,e1,e2,e3,e4⟩:=a.cells;have z0:=a.frozen 0;have z1:=a.frozen 1;have z2:=a.frozen 2;have z3:=a.frozen 3;have z4:=a.frozen 4;have M:=l.lt;have ap:=a.lt;have O:=f.lt;have L:KL wr 81 (fun j=>w.heap.size+1+1+1<=j) x.kids cs:=(by have h1:x.kids.take k=x.kids:=List.take_of_length_le (by rw[<- HN.out];omega);rw[h1]at K;exact K.wide (fun j _ hj=>hj.1));have HF:=zz (q.out wr _ A d cs D Z L);have B:=zz a;have X:=zz hb;clear f Z K l a hh hb D L q;go_wp2;obtain⟨y0,y1,y2,y3,y4⟩:=(B.out.set5 (.string o) (.string nm) (.int .i64 m) (.slice A k d) (.int .i64 p)).cells;refine bodyPost_ret (v:=.agg #[.string o,.string nm,.int .i64 m,.slice A k d,.int .i64 p]) (by simp[results,Tryz.results32,go_sem,y0,y1,y2,y3,y4]) rfl ⟨o,nm,m,A,k,d,p,rfl,?_,?_⟩
    · exact(HF.out.far5S (by omega) _ _ _ _ _).wide (fun j hj h=>⟨by omega,hj⟩)
    · exact((Fr.of (rb:=w.heap.size) X.out).set5 (by omega) _ _ _ _ _).below (by omega)
theorem FP:∀x:Ex,YY x
 | .leaf _ _ _ _=>Nj (by simp[Ex.kids])
 | .un _ a _=>Nj (by simp only[Ex.kids,List.mem_singleton];rintro x rfl;exact FP x)
 | .bin _ a b _=>Nj (by
     have h1:=FP a;have h2:=FP b;simp only[Ex.kids,List.mem_cons,List.not_mem_nil,or_false]
     rintro x (rfl | rfl)<;>assumption)
 | .cond a b c _=>Nj (by
     have h1:=FP a;have h2:=FP b;have h3:=FP c;simp only[Ex.kids,List.mem_cons,List.not_mem_nil,or_false]
     rintro x (rfl | rfl | rfl)<;>assumption)
end
section
open Go.RowKit
structure DR(w:World)(pb D:Nat)(us:List AH)(c:Nat)(q:Int):Prop where
 blk:∃(ts:List AH) (k g cap:Nat),us=ts.drop k/\k<ts.length/\ts.length<=65537/\w.heap[pb]?=some (.cells #[.slice (some ⟨g,0,none⟩) ts.length cap,.int .i64 (k:Int),.int .i64 (D:Int),.int .i64 (c:Int),.int .i64 q] 74 (0,0))/\w.ownsRow 0 76 3 (.slice (some ⟨g,0,none⟩) ts.length cap) ts.length (CI ts)
 fine:Fine us
 dep:D<=64
section
variable {w w':World} {pb D:Nat} {us:List AH} {c:Nat} {q:Int}
theorem DR.lt(h:DR w pb D us c q):pb<w.heap.size:=by obtain⟨_,_,_,_,_,_,_,a,_⟩:=h.blk;exact BB a
theorem DR.below(h:DR w pb D us c q)(hb:Below w.heap.size w w'):DR w' pb D us c q:=by have j:=h.lt;obtain⟨l,k,g,a,b,d,e,f,i⟩:=h.blk;exact⟨⟨l,k,g,a,b,d,e,(hb.block pb j).trans f,BW i hb⟩,h.fine,h.dep⟩
theorem DR.alloc(h:DR w pb D us c q)(o:Obj):DR (w.alloc o) pb D us c q:=h.below ((Below.refl _ _).alloc (Nat.le_refl _) _)
theorem DR.set{b i:Nat}(h:DR w pb D us c q){cs:Array Value}{e:TypeId}(hb:w.heap[b]?=some (.cells cs e (0,0)))(h1:e≠74)(h2:e≠76)(u:Value):DR (w.setCell ⟨b,i,none⟩ u) pb D us c q:=by
 obtain⟨x,k,g,f,s,t,v,m,n⟩:=h.blk;have l:pb≠b:=by
  rintro rfl;rw[m]at hb;injection hb with hb
  injection hb with _ hb
  exact h1 hb.symm
 have p:g≠b:=by
  rintro rfl;rcases n.2 with⟨a,_⟩ | ⟨y,_,o,a,_,d,_⟩
  · cases a
  · injection a with a
    injection a with a
    injection a with a
    subst a;rw[hb]at d;injection d with d
    injection d with _ d
    exact h2 d
 have j:w.grownBy (w.setCell ⟨b,i,none⟩ u) (some b):=⟨rfl,rfl,rfl,by simp,fun k _ r=>Below.heap_setCell w ⟨b,i,none⟩ u k (fun e=>r (by rw[e]))⟩;refine⟨⟨x,k,g,f,s,t,v,(Below.heap_setCell w ⟨b,i,none⟩ u pb l).trans m,n.kept j (.inr ?_)⟩,h.fine,h.dep⟩;intro e;exact p (by simpa[Value.ownBlock]using e)
theorem DR.set5(h:DR w pb D us c q){b:Nat}{e:TypeId}{c0 c1 c2 c3 c4:Value}(hb:w.heap[b]?=some (.cells #[c0,c1,c2,c3,c4] e (0,0)))(h1:e≠74)(h2:e≠76)(x0 x1 x2 x3 x4:Value):DR (((((w.setCell ⟨b,0,none⟩ x0).setCell ⟨b,1,none⟩ x1).setCell ⟨b,2,none⟩ x2).setCell ⟨b,3,none⟩ x3).setCell ⟨b,4,none⟩ x4) pb D us c q:=by have a:=A7 (i:=0) hb x0;have d:=A7 (i:=1) a x1;have f:=A7 (i:=2) d x2;have g:=A7 (i:=3) f x3;exact((((h.set hb h1 h2 x0).set a h1 h2 x1).set d h1 h2 x2).set f h1 h2 x3).set g h1 h2 x4
theorem DR.view(h:DR w pb D us c q):∃(k g n cap:Nat),w.heap[pb]?=some (.cells #[.slice (some ⟨g,0,none⟩) n cap,.int .i64 (k:Int),.int .i64 (D:Int),.int .i64 (c:Int),.int .i64 q] 74 (0,0))/\k<n/\n<=65537/\w.cell? ⟨g,k*3,none⟩=some (.int .i64 (hd us).kind)/\w.cell? ⟨g,k*3+1,none⟩=some (.string ⟨(hd us).text.toArray⟩)/\w.cell? ⟨g,k*3+2,none⟩=some (.int .i64 (hd us).pos)/\g<w.heap.size/\g≠pb:=by
 obtain⟨i,k,g,cap,p,d,r,f,e⟩:=h.blk;have o:i[k]?=some (hd us):=(by rw[p,List.drop_eq_getElem_cons d,List.getElem?_eq_getElem d];rfl);obtain⟨c0,j,l⟩:=KA e o;refine⟨k,g,i.length,cap,f,d,r,c0,j,l,(e.lt g rfl).2,?_⟩;rintro rfl;rcases e.2 with⟨a,_⟩ | ⟨s,_,m,a,_,b,_⟩
 · cases a
 · injection a with a
   injection a with a
   injection a with a
   subst a;rw[f]at b;injection b with b
   injection b with _ b
   exact absurd b (by decide)
theorem DR.cells(h:DR w pb D us c q):w.cell? ⟨pb,2,none⟩=some (.int .i64 (D:Int))/\w.cell? ⟨pb,3,none⟩=some (.int .i64 (c:Int))/\w.cell? ⟨pb,4,none⟩=some (.int .i64 q)/\(∀i,w.frozen? ⟨pb,i,none⟩=false):=by obtain⟨_,_,_,_,_,_,_,a,_⟩:=h.blk;exact⟨(AL a 2).trans rfl,(AL a 3).trans rfl,(AL a 4).trans rfl,Bf a⟩
theorem DR.own(h:DR w pb D us c q)(i:Nat)(u:Value):∃(ts:List AH) (k g cap:Nat),us=ts.drop k/\k<ts.length/\ts.length<=65537/\w.heap[pb]?=some (.cells #[.slice (some ⟨g,0,none⟩) ts.length cap,.int .i64 (k:Int),.int .i64 (D:Int),.int .i64 (c:Int),.int .i64 q] 74 (0,0))/\(w.setCell ⟨pb,i,none⟩ u).ownsRow 0 76 3 (.slice (some ⟨g,0,none⟩) ts.length cap) ts.length (CI ts):=by
 obtain⟨_,_,_,_,_,_,_,_,_,_,_,_⟩:=h.view;obtain⟨ts,k,g,cap,p,r,s,f,j⟩:=h.blk;refine⟨ts,k,g,cap,p,r,s,f,j.1,?_⟩;rcases j.2 with h | ⟨d,l,b,o,m,a,n⟩
 · exact .inl h
 · refine .inr ⟨d,l,b,o,m,(Below.heap_setCell w ⟨pb,i,none⟩ u d (fun e=>?_)).trans a,n⟩;have e:d=pb:=e;subst e;rw[f]at a;injection a with a
   injection a with _ a
   exact absurd a (by decide)
theorem DR.tail(h:DR w pb D us c q)(h0:(hd us).kind≠0):∃k:Nat,w.cell? ⟨pb,1,none⟩=some (.int .i64 (k:Int))/\k<=65537/\DR (w.setCell ⟨pb,1,none⟩ (.int .i64 ((k:Int)+1))) pb D us.tail c q:=by
 obtain⟨r,b,t,f,v,x,y,m,z⟩:=h.blk;obtain⟨n,k,g,d,j,s,o,a,p⟩:=h.own 1 (.int .i64 ((b:Int)+1));have e:b=k:=by
  have a:=a;rw[m]at a;injection a with a
  injection a with a
  simp at a;have:=a.2;omega
 subst e;have l:=h.fine.more h0;have e:b+1<n.length:=(by have:=l.2;rw[j,List.tail_drop]at this;apply Classical.byContradiction;intro u;exact this (List.drop_eq_nil_of_le (by omega)));refine⟨b,(AL m 1).trans rfl,by omega,⟨n,b+1,g,d,by rw[j,List.tail_drop],e,o,?_,p⟩,l.1,h.dep⟩;have:=A7 (i:=1) a (.int .i64 ((b:Int)+1));simpa using this
theorem DR.setErr(h:DR w pb D us c q)(c':Nat):DR (w.setCell ⟨pb,3,none⟩ (.int .i64 (c':Int))) pb D us c' q:=by obtain⟨l,k,g,a,b,d,e,f,j⟩:=h.own 3 (.int .i64 (c':Int));refine⟨⟨l,k,g,a,b,d,e,?_,j⟩,h.fine,h.dep⟩;have:=A7 (i:=3) f (.int .i64 (c':Int));simpa using this
theorem DR.setPos(h:DR w pb D us c q)(q':Int):DR (w.setCell ⟨pb,4,none⟩ (.int .i64 q')) pb D us c q':=by obtain⟨l,k,g,a,b,d,e,f,j⟩:=h.own 4 (.int .i64 q');refine⟨⟨l,k,g,a,b,d,e,?_,j⟩,h.fine,h.dep⟩;have:=A7 (i:=4) f (.int .i64 q');simpa using this
end
def DS(w:World)(pb D:Nat):St->Prop
 | .good us=>DR w pb D us 0 (-1)
 | .bad c q=>c≠0/\∃us,DR w pb D us c (q:Int)
def Nl:St->Nat
 | .good _=>0
 | .bad c _=>c
section
variable {w w':World} {pb D:Nat} {st:St}
theorem DS.any(h:DS w pb D st):∃us q,DR w pb D us (Nl st) q:=by
 cases st with
 | good us=>exact⟨us, -1,h⟩
 | bad c q=>obtain⟨_,us,h⟩:=h;exact⟨us,_,h⟩
theorem DS.lt(h:DS w pb D st):pb<w.heap.size:=by obtain⟨_,_,h⟩:=h.any;exact h.lt
theorem DS.below(h:DS w pb D st)(hb:Below w.heap.size w w'):DS w' pb D st:=by
 cases st with
 | good a=>exact DR.below h hb
 | bad c q=>obtain⟨b,a,h⟩:=h;exact⟨b,a,h.below hb⟩
theorem DS.alloc(h:DS w pb D st)(o:Obj):DS (w.alloc o) pb D st:=h.below ((Below.refl _ _).alloc (Nat.le_refl _) _)
theorem DS.set5(h:DS w pb D st){b:Nat}{e:TypeId}{c0 c1 c2 c3 c4:Value}(hb:w.heap[b]?=some (.cells #[c0,c1,c2,c3,c4] e (0,0)))(h1:e≠74)(h2:e≠76)(x0 x1 x2 x3 x4:Value):DS (((((w.setCell ⟨b,0,none⟩ x0).setCell ⟨b,1,none⟩ x1).setCell ⟨b,2,none⟩ x2).setCell ⟨b,3,none⟩ x3).setCell ⟨b,4,none⟩ x4) pb D st:=by
 cases st with
 | good a=>exact DR.set5 h hb h1 h2 _ _ _ _ _
 | bad c q=>obtain⟨d,a,h⟩:=h;exact⟨d,a,h.set5 hb h1 h2 _ _ _ _ _⟩
theorem DS.cells(h:DS w pb D st):w.cell? ⟨pb,2,none⟩=some (.int .i64 (D:Int))/\w.cell? ⟨pb,3,none⟩=some (.int .i64 (Nl st:Int))/\(∀i,w.frozen? ⟨pb,i,none⟩=false):=by obtain⟨_,_,h⟩:=h.any;obtain⟨a,b,_,c⟩:=h.cells;exact⟨a,b,c⟩
end
def DP(pb D:Nat)(res:Option Ex×St)(w:World)(e:Ending)(w':World):Prop:=
 ∃o nm n A l cap p,e= .returned (.agg #[.string o,.string nm,.int .i64 n,.slice A l cap,.int .i64 p])/\Fr w.heap.size pb w w'/\DS w' pb D res.2/\∀x,res.1=some x->HC w' 81 w.heap.size w'.heap.size x (BM o nm n A l cap p)
def ES:Value:=.agg #[.string ⟨#[]⟩,.string ⟨#[]⟩,.int .i64 0,.slice none 0 0,.int .i64 0]
theorem Ii(a b c:Value)(w:World):(Instr.field 76 (.agg #[a,b,c]) 2).run Tryz.prog w= .ok c w:=by kernel_rfl
theorem Nt(a b c:Value)(w:World):(Instr.field 76 (.agg #[a,b,c]) 1).run Tryz.prog w= .ok b w:=by kernel_rfl
theorem KV(a b c:Value)(w:World):(Instr.field 76 (.agg #[a,b,c]) 0).run Tryz.prog w= .ok a w:=by kernel_rfl
theorem BS{w:World}{pb D:Nat}{us:List AH}{c:Nat}{q:Int}(h:DR w pb D us c q):Calls Tryz.prog 19 #[.pointer (some ⟨pb,0,none⟩)] w fun e w'=>e= .returned (.agg #[.int .i64 (hd us).kind,.string ⟨(hd us).text.toArray⟩,.int .i64 (hd us).pos])/\Below w.heap.size w w':=by
 have r:=h.lt;obtain⟨k,g,n,d,a,m,o,c0,j,l,p,b⟩:=h.view;have f:=AL a 0;have i:=AL a 1;simp only[List.getElem?_toArray,List.getElem?_cons_zero,List.getElem?_cons_succ]at f i;have s:(0:Int)<=(k:Int):=(by omega);have t:(k:Int)<(n:Int):=(by omega);clear a h b;generalize(⟨(hd us).text.toArray⟩:ByteArray)=tb at*;generalize((hd us).kind:Int)=kd at*;generalize((hd us).pos:Int)=ps at*;go_enter Tryz.func19,Tryz.ntmps19;go_wp2
 go_region
 go_wp2;exact bodyPost_ret (v:=.agg #[.int .i64 kd,.string tb,.int .i64 ps]) (by simp[results,Tryz.results19,go_sem]) rfl ⟨rfl,((Below.refl _ _).alloc (Nat.le_refl _) _).drew⟩
theorem CY{w:World}{pb D:Nat}{us:List AH}{c:Nat}{q:Int}(h:DR w pb D us c q)(x:ByteArray):Calls Tryz.prog 23 #[.pointer (some ⟨pb,0,none⟩),.string x] w fun e w'=>e= .returned (.bool (AG (hd us) x.data.toList))/\Below w.heap.size w w':=by
 have H:=zz (BS h);obtain⟨t,j⟩:∃t,t=hd us:=⟨_,rfl⟩;rw[<- j]at H ⊢;have g:=zz (show(t.text==x.toList)=(t.text==x.data.toList) by rw[ByteArray.toList_eq]);unfold AG;clear h j;by_cases d:t.kind=1
 · have a:(t.kind==1 || t.kind==4)=true:=(by simp[d]);rw[a,Bool.true_and];have i:((t.kind:Int)==1)=true:=(by simp[d]);clear a d;go_enter Tryz.func23,Tryz.ntmps23;go_wp2_with fail;(with_reducible refine(H.out).mono ?_);rintro e k ⟨rfl,b⟩
   go_wp2;go_ret;exact⟨by rw[<- g.out];rfl,b.alloc b.size _⟩
 by_cases f:t.kind=4
 · have a:(t.kind==1 || t.kind==4)=true:=(by simp[f]);rw[a,Bool.true_and];have i:((t.kind:Int)==1)=false:=(by simp[f]);have l:((t.kind:Int)==4)=true:=(by simp[f]);clear a d f;go_enter Tryz.func23,Tryz.ntmps23;go_wp2_with fail;(with_reducible refine(H.out).mono ?_);rintro e k ⟨rfl,b⟩
   go_wp2;go_ret;exact⟨by rw[<- g.out];rfl,b.alloc b.size _⟩
 · have a:(t.kind==1 || t.kind==4)=false:=(by simp[d,f]);rw[a,Bool.false_and];have i:((t.kind:Int)==1)=false:=(by rw[beq_eq_false_iff_ne];omega);have l:((t.kind:Int)==4)=false:=(by rw[beq_eq_false_iff_ne];omega);clear a d f;go_enter Tryz.func23,Tryz.ntmps23;go_wp2_with fail;(with_reducible refine(H.out).mono ?_);rintro e k ⟨rfl,b⟩
   go_wp2;go_ret;exact⟨rfl,b.alloc b.size _⟩
theorem Fr.boxR{B pb b:Nat}{a w:World}(h:Fr B pb a w)(hb:B<=b)(x0 x1 x2 x3 x4:Value):Fr B pb a (((((w.setCell ⟨b,0,none⟩ x0).setCell ⟨b,1,none⟩ x1).setCell ⟨b,2,none⟩ x2).setCell ⟨b,3,none⟩ x3).setCell ⟨b,4,none⟩ x4):=h.set5 hb _ _ _ _ _
theorem Az.new(w:World)(c0 c1 c2 c3 c4:Value):Az (w.alloc (.cells #[c0,c1,c2,c3,c4] 81)) w.heap.size c0 c1 c2 c3 c4:=heap_alloc_new w _
theorem Az.alloc{w:World}{b:Nat}{c0 c1 c2 c3 c4:Value}(h:Az w b c0 c1 c2 c3 c4)(o:Obj):Az (w.alloc o) b c0 c1 c2 c3 c4:=h.below ((Below.refl _ _).alloc (Nat.le_refl _) _)
theorem Az.far{w:World}{b:Nat}{c0 c1 c2 c3 c4:Value}(h:Az w b c0 c1 c2 c3 c4){p:Addr}(hp:b≠p.block)(u:Value):Az (w.setCell p u) b c0 c1 c2 c3 c4:=(Below.heap_setCell w p u b hp).trans h
theorem Az.fr{w w':World}{b pb:Nat}{c0 c1 c2 c3 c4:Value}(h:Az w b c0 c1 c2 c3 c4)(hf:Fr w.heap.size pb w w')(hn:b≠pb):Az w' b c0 c1 c2 c3 c4:=(hf.block b h.lt hn).trans h
theorem Cn{w:World}{pb D:Nat}{st:St}(h:DS w pb D st)(c:Nat)(hc:c≠0)(z:Int)(hz:z=(c:Int)):Calls Tryz.prog 26 #[.pointer (some ⟨pb,0,none⟩),.int .i64 z] w fun e w'=>e= .returned ES/\Fr w.heap.size pb w w'/\DS w' pb D (st.fail c):=by
 subst hz;unfold ES;have R:=h.lt;cases st with
 | bad c0 S=>
   obtain⟨t,f,h⟩:=h;obtain⟨A,B,C,i⟩:=h.cells;have Q:((c0:Int)==0)=false:=(by rw[beq_eq_false_iff_ne];omega);have x:=zz (Az.new w (.string ⟨#[]⟩) (.string ⟨#[]⟩) (.int .i64 0) (.slice none 0 0) (.int .i64 0));have k:=zz h;clear h;go_enter Tryz.func26,Tryz.ntmps26;go_wp2;obtain⟨l,m,n,o,q⟩:=x.out.cells;refine bodyPost_ret (v:=.agg #[.string ⟨#[]⟩,.string ⟨#[]⟩,.int .i64 0,.slice none 0 0,.int .i64 0]) (by simp[results,Tryz.results26,go_sem,l,m,n,o,q]) rfl ⟨rfl,?_,t,f,?_⟩
   · exact(Fr.refl _ _ _).alloc (Nat.le_refl _) _
   · exact k.out.alloc _
 | good f=>
   have h:DR w pb D f 0 (-1):=h;obtain⟨A,B,C,i⟩:=h.cells;have E:=i 3;have F:=i 4;clear i;have x:=zz (Az.new w (.string ⟨#[]⟩) (.string ⟨#[]⟩) (.int .i64 0) (.slice none 0 0) (.int .i64 0));have k:=zz h;clear h;go_enter Tryz.func26,Tryz.ntmps26;go_wp2_with fail;refine AA (P:=fun W=>DR W pb D f c (-1)/\Az W w.heap.size (.string ⟨#[]⟩) (.string ⟨#[]⟩) (.int .i64 0) (.slice none 0 0) (.int .i64 0)/\Fr w.heap.size pb w W) ⟨(k.out.setErr c).alloc _,Bz (by simp) _,((Fr.refl _ _ _).setCell (p:=⟨pb,3,none⟩) (.inr rfl) _).alloc (by simp) _⟩ ?_;rintro W ⟨r,y,s⟩;refine(BS r).mono ?_;rintro e T ⟨rfl,d⟩;have b:=zz (r.below d);have a:=zz (y.below d);have j:=zz (s.onB s.size d);have F:=b.out.cells.2.2.2 4;have O:=b.out.cells.2.2.1;have I:=b.out.lt;have H:=Ii;obtain⟨J,K,L,M,N⟩:=a.out.cells;have U:=a.out.frozen 0;have V:=a.out.frozen 1;have X:=a.out.frozen 2;have Y:=a.out.frozen 3;have Z:=a.out.frozen 4;have G:=a.out.lt;have u:w.heap.size≠pb:=(by omega);clear r y s d E;go_wp2;have g:=a.out.far (p:=⟨pb,4,none⟩) u (.int .i64 ((hd f).pos:Int));obtain⟨l,m,n,o,q⟩:=(g.set5 (.string ⟨#[]⟩) (.string ⟨#[]⟩) (.int .i64 0) (.slice none 0 0) (.int .i64 0)).cells;refine bodyPost_ret (v:=.agg #[.string ⟨#[]⟩,.string ⟨#[]⟩,.int .i64 0,.slice none 0 0,.int .i64 0]) (by simp[results,Tryz.results26,go_sem,l,m,n,o,q]) rfl ⟨rfl,?_,hc,f,?_⟩
   · exact(j.out.setCell (p:=⟨pb,4,none⟩) (.inr rfl) _).boxR (Nat.le_refl _) _ _ _ _ _
   · exact(b.out.setPos _).set5 g (by decide) (by decide) _ _ _ _ _
theorem AS{w:World}{pb D:Nat}{st:St}(h:DS w pb D st)(x:ByteArray):Calls Tryz.prog 18 #[.pointer (some ⟨pb,0,none⟩),.string x] w fun e w'=>e= .returned (.tuple #[])/\Fr w.heap.size pb w w'/\DS w' pb D (st.want x.data.toList):=by
 have I:=h.lt;cases st with
 | bad c0 J=>have HS:=zz h;obtain⟨A,b,h⟩:=h;obtain⟨u,y,z,o⟩:=h.cells;have G:((c0:Int) != 0)=true:=(by rw[bne_iff_ne];omega);clear h;go_enter Tryz.func18,Tryz.ntmps18;go_wp2;exact bodyPost_ret (v:=.tuple #[]) (results_none rfl _ _ _) rfl ⟨rfl,Fr.refl _ _ _,HS.out⟩
 | good b=>
   have h:DR w pb D b 0 (-1):=h;obtain⟨u,y,z,o⟩:=h.cells;have H:=zz (CY h x);have i:=zz h;cases d:AG (hd b) x.data.toList with
   | false=>rw[d]at H;have n:=zz (show(St.good b).want x.data.toList=(St.good b).fail 20 by unfold St.want;rw[show(St.good b).hd=hd b from rfl,d];rfl);clear h d o;go_enter Tryz.func18,Tryz.ntmps18;go_wp2_with fail;refine(H.out).mono ?_;rintro e r ⟨rfl,a⟩;have j:=zz (show DS r pb D (.good b)from i.out.below a);have c:=zz (Fr.of (rb:=pb) a);clear a;go_wp2_with fail;refine(Cn j.out 20 (by decide) 20 rfl).mono ?_;rintro e K ⟨rfl,g,f⟩;have l:=zz f;have m:=zz (c.out.on c.out.size g);unfold ES;clear g f;go_wp2;exact bodyPost_ret (v:=.tuple #[]) (results_none rfl _ _ _) rfl ⟨rfl,m.out,by rw[n.out];exact l.out⟩
   | true=>rw[d]at H;have n:=zz (show(St.good b).want x.data.toList= .good b.tail by unfold St.want;rw[show(St.good b).hd=hd b from rfl,d];rfl);have s:=zz (AC d);clear h d o;go_enter Tryz.func18,Tryz.ntmps18;go_wp2_with fail;refine(H.out).mono ?_;rintro e r ⟨rfl,a⟩;obtain⟨k,B,C,q⟩:=(i.out.below a).tail s.out;have F:=(i.out.below a).cells.2.2.2 1;have E:=(i.out.below a).lt;have t:=zz q;have c:=zz (Fr.of (rb:=pb) a);clear a q;go_wp2;go_end0;exact⟨rfl,c.out.setCell (p:=⟨pb,1,none⟩) (.inr rfl) _,by rw[n.out];exact t.out⟩
end
end Go.Proofs.YtodijgndbjfbgaaGreatDoor
