import Derived.Lib.ParseIntB
import Derived.Lib.ItoaNum
namespace Go.Proofs.YtodijgndbjfbgaaGreatDoor
set_option maxHeartbeats 16000000
set_option maxRecDepth 100000
section
section
def BU(c:UInt8):Bool:=c.toNat==32 || c.toNat==9 || c.toNat==10 || c.toNat==13
def AD(c:UInt8):Bool:=decide (48<=c.toNat)&&decide (c.toNat<=57)
def AZ(c:UInt8):Bool:=c.toNat==95 || (decide (65<=c.toNat)&&decide (c.toNat<=90)) || (decide (97<=c.toNat)&&decide (c.toNat<=122))
def Aw(c:UInt8):Bool:=AZ c || AD c
def AK(c:UInt8):Bool:=decide (32<=c.toNat)&&decide (c.toNat<=126)&&c.toNat != 34
def BF(c:UInt8):Bool:=c.toNat != 10
def CD(c:UInt8):Bool:=c.toNat==34
def cnt(p:UInt8->Bool)(l:List UInt8):Nat:=(l.takeWhile p).length
def AB:Bool->List UInt8->Nat
 | _,[]=>0
 | true,c::l=>if c.toNat=10 then 1+AB false l else 1+AB true l
 | false,c::l=>if BU c then 1+AB false l else if c.toNat=47/\l.head?.map (·.toNat)=some 47 then 1+AB true l else 0
def AX(l:List UInt8):Nat:=l.foldl (fun n c=>n*10+(c.toNat - 48)) 0
def IN:List UInt8->Bool
 | a::b::_=>(a.toNat==45&&b.toNat==62) || (a.toNat==60&&b.toNat==61) || (a.toNat==62&&b.toNat==61) || (a.toNat==33&&b.toNat==61) || (a.toNat==61&&b.toNat==62) || (a.toNat==46&&b.toNat==46)
 | _=>false
def DU(c:UInt8):Bool:=[91,93,40,41,58,59,44,43,45,42,38,124,33,61,60,62,63,39].contains c.toNat
def Al:List UInt8->Nat
 | []=>0
 | c::r=>if IN (c::r)then 2 else if DU c then 1 else 0
def Cw(r:List UInt8):Nat:=if cnt AK r=0∨32<cnt AK r∨(r[cnt AK r]?).map (·.toNat)≠some 34 then 0 else cnt AK r+2
def AO:List UInt8->Nat×Nat×Nat
 | []=>(0,0,20)
 | c::r=>
   if AD c then(2,cnt AD (c::r),if AX ((c::r).takeWhile AD)<9223372036854775808 then 0 else 10)
   else if AZ c then(1,cnt Aw (c::r),0)
   else if CD c then(3,Cw r,if Cw r=0 then 20 else 0)
   else(4,Al (c::r),if Al (c::r)=0 then 20 else 0)
structure AH where
 kind:Nat
 text:List UInt8
 pos:Nat
 deriving DecidableEq
def B8(k:Nat)(l:List UInt8):List UInt8:=if k=3 then(l.drop 1).take (l.length - 2)else l
inductive MI where
 | ok (ts:List AH)
 | error (x:Nat×Nat)
 deriving DecidableEq
def Dq(a:List AH):MI->MI
 | .ok ts=>.ok (a++ts)
 | .error x=>.error x
def Fu:Nat->List UInt8->Nat->MI
 | 0,_,_=>.error (0,0)
 | f+1,r,p=>
   if r.drop (AB false r)=[]then .ok [⟨0,[],p+AB false r⟩]
   else if(AO (r.drop (AB false r))).2.2=0 then
    Dq [⟨(AO (r.drop (AB false r))).1,B8 (AO (r.drop (AB false r))).1 ((r.drop (AB false r)).take (AO (r.drop (AB false r))).2.1),p+AB false r⟩]
     (Fu f ((r.drop (AB false r)).drop (AO (r.drop (AB false r))).2.1) (p+AB false r+(AO (r.drop (AB false r))).2.1))
   else .error ((AO (r.drop (AB false r))).2.2,p+AB false r)
def CE(l:List UInt8):MI:=Fu (l.length+1) l 0
def B9(l:List UInt8)(i:Nat):MI:=Fu (l.length - i+1) (l.drop i) i
theorem K9(r:MI):Dq [] r=r:=by cases r<;>rfl
theorem Jo(a b:List AH)(r:MI):Dq a (Dq b r)=Dq (a++b) r:=by cases r<;>simp[Dq]
theorem Cx(p:UInt8->Bool)(l:List UInt8):cnt p l<=l.length:=by unfold cnt;exact(List.takeWhile_sublist p).length_le
theorem An{p:UInt8->Bool}{c:UInt8}(r:List UInt8)(h:p c=true):cnt p (c::r)=cnt p r+1:=by unfold cnt;rw[List.takeWhile_cons,if_pos h];rfl
theorem DT{p:UInt8->Bool}{c:UInt8}(r:List UInt8)(h:p c=false):cnt p (c::r)=0:=by unfold cnt;rw[List.takeWhile_cons,if_neg (by simp[h])];rfl
theorem Em(p:UInt8->Bool)(l:List UInt8):l.take (cnt p l)=l.takeWhile p:=by
 induction l with
 | nil=>rfl
 | cons c r a=>
   by_cases h:p c=true
   · rw[An r h,List.takeWhile_cons,if_pos h,List.take_succ_cons,a]
   · rw[DT r (by simpa using h),List.takeWhile_cons,if_neg h];rfl
theorem CU:∀(b:Bool) (l:List UInt8),AB b l<=l.length
 | b,[]=>by cases b<;>simp[AB]
 | true,c::l=>by have h1:=CU false l;have a:=CU true l;simp only[AB,List.length_cons];split<;>omega
 | false,c::l=>by
   have h1:=CU false l;have a:=CU true l;simp only[AB,List.length_cons];split
   · omega
   · split<;>omega
theorem Lp(l:List UInt8):AB true l=cnt BF l+AB false (l.drop (cnt BF l)):=by
 induction l with
 | nil=>rfl
 | cons c r b=>
   by_cases h:c.toNat=10
   · have a:BF c=false:=(by simp[BF,h]);rw[DT r a];simp[AB,h,BU]
   · have a:BF c=true:=(by simp[BF,h]);rw[An r a,AB,if_neg h,b,List.drop_succ_cons];omega
theorem CT:∀(b:Bool) (l:List UInt8),AB false (l.drop (AB b l))=0
 | b,[]=>by cases b<;>rfl
 | true,c::l=>by
   have h1:=CT false l;have a:=CT true l;simp only[AB];split
   · rw[Nat.add_comm,List.drop_succ_cons];exact h1
   · rw[Nat.add_comm,List.drop_succ_cons];exact a
 | false,c::l=>by
   have h1:=CT false l;have a:=CT true l;by_cases d:BU c=true
   · rw[AB,if_pos d,Nat.add_comm,List.drop_succ_cons];exact h1
   · by_cases f:c.toNat=47/\l.head?.map (·.toNat)=some 47
     · rw[AB,if_neg d,if_pos f,Nat.add_comm,List.drop_succ_cons];exact a
     · have e:AB false (c::l)=0:=(by rw[AB,if_neg d,if_neg f]);rw[e,List.drop_zero,e]
theorem FI(l:List UInt8)(i:Nat):AB false (l.drop (i+AB false (l.drop i)))=0:=by rw[<- List.drop_drop];exact CT false (l.drop i)
theorem L6(l:List UInt8):Al l<=l.length:=by
 cases l with
 | nil=>simp[Al]
 | cons c r=>
   cases r with
   | nil=>by_cases h:DU c=true<;>simp[Al,IN,h]
   | cons d r=>simp only[Al,List.length_cons];split<;>(try split)<;>omega
theorem N5(r:List UInt8):Cw r<=r.length+1:=by
 unfold Cw;split
 · omega
 · rename_i h;have a:(r[cnt AK r]?).map (·.toNat)=some 34:=(by apply Classical.byContradiction;intro b;exact h (.inr (.inr b)));have:cnt AK r<r.length:=(by apply Classical.byContradiction;intro b;rw[List.getElem?_eq_none (by omega)]at a;simp at a);omega
theorem G1(l:List UInt8):(AO l).2.1<=l.length:=by
 cases l with
 | nil=>simp[AO]
 | cons c r=>
   have a:=Cx AD (c::r);have b:=Cx Aw (c::r);have d:=N5 r;have e:=L6 (c::r);simp only[List.length_cons]at*;simp only[AO];split
   · exact a
   · split
     · exact b
     · split
       · simpa using d
       · exact e
theorem Eo(l:List UInt8)(h0:l≠[])(h:(AO l).2.2=0):0<(AO l).2.1:=by
 cases l with
 | nil=>exact absurd rfl h0
 | cons c r=>
   simp only[AO]at h ⊢;split
   · rename_i hd;have:=An r hd;simp only;omega
   · rename_i hd;rw[if_neg hd]at h;split
     · rename_i hl;have:Aw c=true:=(by simp[Aw,hl]);have:=An r this;simp only;omega
     · rename_i hl;rw[if_neg hl]at h;split
       · rename_i hq;rw[if_pos hq]at h;simp only at h ⊢;split at h
         · cases h
         · omega
       · rename_i hq;rw[if_neg hq]at h;simp only at h ⊢;split at h
         · cases h
         · omega
theorem Ga:∀(f g:Nat) (r:List UInt8) (p:Nat),r.length<f->r.length<g->Fu f r p=Fu g r p
 | 0,_,_,_,h,_=>by omega
 | _,0,_,_,_,h=>by omega
 | f+1,g+1,r,p,hf,hg=>by
   unfold Fu;by_cases h0:r.drop (AB false r)=[]
   · rw[if_pos h0,if_pos h0]
   · rw[if_neg h0,if_neg h0];by_cases h1:(AO (r.drop (AB false r))).2.2=0
     · rw[if_pos h1,if_pos h1];have hp:=Eo _ h0 h1;have a:0<(r.drop (AB false r)).length:=List.length_pos_iff.2 h0;have hd:((r.drop (AB false r)).drop (AO (r.drop (AB false r))).2.1).length<r.length:=(by simp only[List.length_drop]at a ⊢;omega);rw[Ga f g _ _ (by omega) (by omega)]
     · rw[if_neg h1,if_neg h1]
theorem ON(l:List UInt8):CE l=B9 l 0:=by simp[CE,B9]
def Lu(l:List UInt8)(i:Nat):MI:=
 if l.drop i=[]then .ok [⟨0,[],l.length⟩]
 else if(AO (l.drop i)).2.2=0 then Dq [⟨(AO (l.drop i)).1,B8 (AO (l.drop i)).1 ((l.drop i).take (AO (l.drop i)).2.1),i⟩] (B9 l (i+(AO (l.drop i)).2.1))
 else .error ((AO (l.drop i)).2.2,i)
theorem Hz(l:List UInt8)(i:Nat)(hi:i<=l.length):B9 l i=Lu l (i+AB false (l.drop i)):=by
 have c:=CU false (l.drop i);simp only[List.length_drop]at c;unfold B9;rw[Fu];unfold Lu;rw[List.drop_drop];by_cases a:l.drop (i+AB false (l.drop i))=[]
 · rw[if_pos a,if_pos a];have:l.length<=i+AB false (l.drop i):=(by simpa using a);have e:i+AB false (l.drop i)=l.length:=(by omega);rw[e]
 · rw[if_neg a,if_neg a];by_cases b:(AO (l.drop (i+AB false (l.drop i)))).2.2=0
   · rw[if_pos b,if_pos b];have g:=Eo _ a b;have d:0<(l.drop (i+AB false (l.drop i))).length:=List.length_pos_iff.2 a;have f:=G1 (l.drop (i+AB false (l.drop i)));simp only[List.length_drop]at d f;rw[List.drop_drop];unfold B9;rw[Ga (l.length - i) (l.length - (i+AB false (l.drop i)+(AO (l.drop (i+AB false (l.drop i)))).2.1)+1) _ _ (by simp only[List.length_drop];omega) (by simp only[List.length_drop];omega)]
   · rw[if_neg b,if_neg b]
theorem Ae(l:List UInt8)(i:Nat)(h:i<l.length):l.drop i=l[i]::l.drop (i+1):=List.drop_eq_getElem_cons h
theorem Iz{l:List UInt8}{i:Nat}(h:i<l.length)(hb:BU l[i]=true):AB false (l.drop i)=1+AB false (l.drop (i+1)):=by rw[Ae l i h];simp[AB,hb]
theorem IH{l:List UInt8}{i:Nat}(h:i+1<l.length)(h1:l[i].toNat=47)(h2:l[i+1].toNat=47):
 AB false (l.drop i)=cnt BF (l.drop i)+AB false (l.drop (i+cnt BF (l.drop i))):=by
 have b:BU l[i]=false:=(by simp[BU,h1]);have a:BF l[i]=true:=(by simp[BF,h1]);have e:=Ae l i (by omega);have hd:l.drop (i+cnt BF (l.drop i))=(l.drop (i+1)).drop (cnt BF (l.drop (i+1))):=by
  rw[List.drop_drop,e,An _ a]
  congr 1
  omega
 rw[hd]
 conv=>lhs;rw[e]
 rw[AB,if_neg (by simp[b]),if_pos ⟨h1,by rw[Ae l (i+1) h,List.head?_cons];exact congrArg some h2⟩,Lp];rw[e,An _ a];omega
theorem EZ{l:List UInt8}{i:Nat}(h:i<l.length)(hb:BU l[i]=false)(hc:¬(l[i].toNat=47/\∃h':i+1<l.length,l[i+1].toNat=47)):AB false (l.drop i)=0:=by
 rw[Ae l i h,AB,if_neg (by simp[hb]),if_neg];rintro⟨c,a⟩;refine hc ⟨c,?_⟩;by_cases b:i+1<l.length
 · refine⟨b,?_⟩;rw[Ae l (i+1) b,List.head?_cons]at a;exact Option.some.inj a
 · rw[List.drop_eq_nil_of_le (by omega)]at a;simp at a
theorem FN{l:List UInt8}{i b:Nat}(hi:i+b<=l.length)(h:AB false (l.drop i)=b+AB false (l.drop (i+b))):B9 l i=B9 l (i+b):=by
 rw[Hz l i (by omega),Hz l (i+b) hi,h]
 congr 1
 omega
theorem G0{l:List UInt8}{i:Nat}(hi:i<=l.length)(h:AB false (l.drop i)=0):B9 l i=Lu l i:=by rw[Hz l i hi,h];rfl
theorem QN(l:List UInt8):Lu l l.length= .ok [⟨0,[],l.length⟩]:=by simp[Lu]
theorem Mv(l:List UInt8):AB false (l.drop l.length)=0:=by simp[AB]
theorem D9{l:List UInt8}{i:Nat}(h:i<l.length):l.drop i≠[]:=by simpa using h
end
section
def C9(n:Nat)(l:List UInt8):Nat:=l.foldl (fun n c=>n*10+(c.toNat - 48)) n
theorem GY(l:List UInt8):AX l=C9 0 l:=rfl
theorem Gd(n:Nat)(c:UInt8)(l:List UInt8):C9 n (c::l)=C9 (n*10+(c.toNat - 48)) l:=by unfold C9;rw[List.foldl_cons]
theorem LT(l:List UInt8):∀n:Nat,n<=C9 n l:=by
 induction l with
 | nil=>intro n;exact Nat.le_refl _
 | cons c l a=>intro n;have h:=a (n*10+(c.toNat - 48));rw[Gd];omega
theorem NR(n:Nat)(l:List UInt8)(c:UInt8):C9 n (l++[c])=C9 n l*10+(c.toNat - 48):=by simp[C9]
theorem GQ(M:Nat)(hM:M<18446744073709551616):∀(l:List UInt8) (acc:Nat),acc<=M->(∀c∈l,AD c=true)->
 Lib.parseUintM M acc l=if C9 acc l<=M then .ok (C9 acc l)else .range
 | [],acc,h,_=>by have e:C9 acc []=acc:=rfl;rw[Lib.parseUintM,e,if_pos h]
 | c::l,acc,h,hd=>by
   have d:=hd c List.mem_cons_self;simp only[AD,Bool.and_eq_true,decide_eq_true_eq]at d;have f:=LT l (acc*10+(c.toNat - 48));rw[Lib.parseUintM,if_pos d,Gd];by_cases a:1844674407370955162<=acc
   · rw[if_pos a,if_neg (by omega)]
   · rw[if_neg a];by_cases b:M<acc*10+(c.toNat - 48)
     · rw[if_pos b,if_neg (by omega)]
     · rw[if_neg b,GQ M hM l _ (by omega) (fun x g=>hd x (List.mem_cons_of_mem _ g))]
theorem Kl(l:List UInt8)(h0:l≠[])(hd:∀c∈l,AD c=true):
 Lib.parseIntB 64 l=if AX l<9223372036854775808 then .ok (AX l:Int)else .range:=by
 cases l with
 | nil=>exact absurd rfl h0
 | cons c r=>
   have f:=hd c List.mem_cons_self;simp only[AD,Bool.and_eq_true,decide_eq_true_eq]at f;have d:¬(c.toNat=43∨c.toNat=45):=(by omega);have e:¬c.toNat=45:=(by omega);simp only[Lib.parseIntB];rw[if_neg d,Lib.parseUintB,if_neg (by simp),GQ _ (by decide) (c::r) 0 (by decide) hd,<- GY];generalize AX (c::r)=v;by_cases a:v<=2 ^ 64 - 1
   · rw[if_pos a];simp only[e,not_false_eq_true,true_and,false_and,if_false];by_cases b:v<9223372036854775808
     · rw[if_pos b,if_neg (by omega)]
     · rw[if_neg b,if_pos (by omega)]
   · rw[if_neg a,if_neg (by omega)]
theorem FE(l:List UInt8):∀c∈l.takeWhile AD,AD c=true:=by
 intro c a;induction l with
 | nil=>simp at a
 | cons d r b=>
   by_cases h:AD d=true
   · rw[List.takeWhile_cons,if_pos h]at a;rcases List.mem_cons.1 a with rfl | a
     · exact h
     · exact b a
   · rw[List.takeWhile_cons,if_neg h]at a;simp at a
end
section
def XD(f:Nat)(r:List UInt8)(q:Nat):MI:=
 if r=[]then .ok [⟨0,[],q⟩]
 else if(AO r).2.2=0 then Dq [⟨(AO r).1,B8 (AO r).1 (r.take (AO r).2.1),q⟩] (Fu f (r.drop (AO r).2.1) (q+(AO r).2.1))
 else .error ((AO r).2.2,q)
theorem Pt(f:Nat)(r:List UInt8)(p:Nat):Fu (f+1) r p=XD f (r.drop (AB false r)) (p+AB false r):=by rw[Fu,XD]
def LQ(r:List UInt8)(p:Nat):MI:=Fu (r.length+1) r p
theorem NO(r:List UInt8)(p:Nat):LQ r p=
 if r.drop (AB false r)=[]then .ok [⟨0,[],p+r.length⟩]
 else if(AO (r.drop (AB false r))).2.2=0 then Dq [⟨(AO (r.drop (AB false r))).1,B8 (AO (r.drop (AB false r))).1 ((r.drop (AB false r)).take (AO (r.drop (AB false r))).2.1),p+AB false r⟩]
  (LQ ((r.drop (AB false r)).drop (AO (r.drop (AB false r))).2.1) (p+AB false r+(AO (r.drop (AB false r))).2.1))
 else .error ((AO (r.drop (AB false r))).2.2,p+AB false r):=by
 have d:=CU false r;unfold LQ;rw[Pt,XD];by_cases a:r.drop (AB false r)=[]
 · rw[if_pos a,if_pos a];have:r.length<=AB false r:=(by simpa using a);rw[show AB false r=r.length by omega]
 · rw[if_neg a,if_neg a];by_cases b:(AO (r.drop (AB false r))).2.2=0
   · rw[if_pos b,if_pos b];have e:=Eo _ a b;have c:0<(r.drop (AB false r)).length:=List.length_pos_iff.2 a;rw[List.length_drop]at c;rw[Ga r.length _ _ _ (by simp only[List.length_drop];omega) (Nat.lt_succ_self _)]
   · rw[if_neg b,if_neg b]
end
section
def K3(t:AH):List UInt8:=if t.kind=3 then 34::t.text++[34]else t.text
def ZQ(l:List UInt8):Nat->List AH->Prop
 | _,[]=>False
 | i,[t]=>t.kind=0/\t.text=[]/\i<=t.pos/\t.pos=l.length
 | i,t::u::us=>i<=t.pos/\t.pos<l.length/\(∃n,AO (l.drop t.pos)=(t.kind,n,0)/\t.text=B8 t.kind ((l.drop t.pos).take n)/\ZQ l (t.pos+n) (u::us))/\AB false (l.drop t.pos)=0
theorem Nm(l:List UInt8):∀(n:Nat) (r:List UInt8) (p:Nat) (ts:List AH),r.length<=n->l.drop p=r->p<=l.length->LQ r p= .ok ts->ZQ l p ts
 | n,r,p,ts,hn,hr,hpl,h=>by
   have hb:=CU false r;have j:r.length=l.length - p:=(by rw[<- hr,List.length_drop]);rw[NO]at h;by_cases b:r.drop (AB false r)=[]
   · rw[if_pos b]at h;obtain rfl:=MI.ok.inj h;exact⟨rfl,rfl,by simp only;omega,by simp only;omega⟩
   · rw[if_neg b]at h;by_cases c:(AO (r.drop (AB false r))).2.2=0
     · rw[if_pos c]at h;have k:=Eo _ b c;have i:=G1 (r.drop (AB false r));have g:0<(r.drop (AB false r)).length:=List.length_pos_iff.2 b;rw[List.length_drop]at g i;have a:r.drop (AB false r)=l.drop (p+AB false r):=(by rw[<- hr,List.drop_drop]);cases d:LQ ((r.drop (AB false r)).drop (AO (r.drop (AB false r))).2.1) (p+AB false r+(AO (r.drop (AB false r))).2.1)with
       | error y=>rw[d]at h;cases h
       | ok e=>
         rw[d]at h;obtain rfl:=MI.ok.inj h;cases n with
         | zero=>omega
         | succ n=>
           have f:=Nm l n _ _ e (by simp only[List.length_drop];omega) (by rw[a,List.drop_drop]) (by omega) d;cases e with
           | nil=>exact absurd f (by simp[ZQ])
           | cons u e=>
             refine⟨by simp only;omega,by simp only;omega,⟨(AO (r.drop (AB false r))).2.1,?_,?_,f⟩,?_⟩
             · show AO (l.drop (p+AB false r))=_;rw[<- a];rw[<- c]
             · show B8 _ _=B8 _ ((l.drop (p+AB false r)).take _);rw[<- a]
             · show AB false (l.drop (p+AB false r))=0;rw[<- a];exact CT false r
     · rw[if_neg c]at h;cases h
theorem GC{l:List UInt8}{ts:List AH}(h:CE l= .ok ts):ZQ l 0 ts:=Nm l l.length l 0 ts (Nat.le_refl _) rfl (Nat.zero_le _) h
theorem GR{r:List UInt8}{k n:Nat}(h0:r≠[])(h:AO r=(k,n,0)):(k=1∨k=2∨k=3∨k=4)/\0<n/\n<=r.length:=by
 have b:=Eo r h0 (by rw[h]);have a:=G1 r;rw[h]at b a;refine⟨?_,b,a⟩;cases r with
 | nil=>exact absurd rfl h0
 | cons c r=>
   simp only[AO]at h;split at h
   · injection h with h _;omega
   · split at h
     · injection h with h _;omega
     · split at h
       · injection h with h _;omega
       · injection h with h _;omega
theorem Sx{r:List UInt8}{k n:Nat}(h0:r≠[])(h:AO r=(k,n,0))(p:Nat):K3 ⟨k,B8 k (r.take n),p⟩=r.take n:=by
 unfold K3;by_cases e:k=3
 · subst e;simp only[if_true];cases r with
   | nil=>exact absurd rfl h0
   | cons c r=>
     simp only[AO]at h;split at h
     · injection h with h _;cases h
     · split at h
       · injection h with h _;cases h
       · split at h
         · rename_i hd hl hq;injection h with _ h
           injection h with g i
           split at i
           · cases i
           · rename_i hz;have l:c=34:=(by have:c.toNat=34:=(by simpa[CD]using hq);exact UInt8.toNat_inj.1 this);subst l;unfold Cw at g hz;split at hz
             · exact absurd rfl hz
             · rename_i hno;rw[if_neg hno]at g;have d:(r[cnt AK r]?).map (·.toNat)=some 34:=(by apply Classical.byContradiction;intro j;exact hno (.inr (.inr j)));have b:cnt AK r<r.length:=(by apply Classical.byContradiction;intro j;rw[List.getElem?_eq_none (by omega)]at d;simp at d);rw[List.getElem?_eq_getElem b]at d;have f:r[cnt AK r]=34:=UInt8.toNat_inj.1 (by simpa using d);have m:(34::r).take n=34::(r.take (cnt AK r)++[34]):=(by rw[<- g,show cnt AK r+2=(cnt AK r+1)+1 by omega,List.take_succ_cons,List.take_succ_eq_append_getElem b,f]);rw[m];unfold B8;rw[if_pos rfl,List.drop_succ_cons,List.drop_zero];have a:(34::(r.take (cnt AK r)++[34])).length - 2=(r.take (cnt AK r)).length:=(by simp);rw[a,List.take_left];rfl
         · injection h with h _;cases h
 · rw[if_neg e];unfold B8;rw[if_neg e]
theorem Hc(p:UInt8->Bool)(l:List UInt8):∀c∈l.takeWhile p,p c=true:=by
 intro c a;induction l with
 | nil=>simp at a
 | cons d r b=>
   by_cases h:p d=true
   · rw[List.takeWhile_cons,if_pos h]at a;rcases List.mem_cons.1 a with rfl | a
     · exact h
     · exact b a
   · rw[List.takeWhile_cons,if_neg h]at a;simp at a
end
section
theorem KG{l:List UInt8}{t:AH}{n:Nat}(hl:t.pos<l.length)(hm:AO (l.drop t.pos)=(t.kind,n,0))(ht:t.text=B8 t.kind ((l.drop t.pos).take n)):K3 t=(l.drop t.pos).take n/\(K3 t).length=n:=by have a:=D9 hl;have b:=Sx a hm t.pos;rw[<- ht]at b;have c:=GR a hm;have e:K3 t=(l.drop t.pos).take n:=b;refine⟨e,?_⟩;rw[e,List.length_take];omega
end
section
theorem La{l:List UInt8}:∀{ts:List AH} {i:Nat},ZQ l i ts->∀t∈ts,t.text.length<=l.length/\(t.kind=2->t.text≠[]/\(∀c∈t.text,AD c=true)/\AX t.text<9223372036854775808)
 | [],_,h,_,_=>by simp[ZQ]at h
 | [t],_,h,u,hu=>by obtain⟨h1,h2,_,_⟩:=h;obtain rfl:=List.mem_singleton.1 hu;exact⟨by rw[h2];exact Nat.zero_le _,fun f=>by omega⟩
 | t::v::us,_,h,u,hu=>by
   obtain⟨_,h2,⟨n,a,e,k⟩,_⟩:=h;rcases List.mem_cons.1 hu with rfl | hu
   · obtain⟨q,j⟩:=KG h2 a e;have f:=GR (D9 h2) a;rw[List.length_drop]at f;have m:u.text.length<=(K3 u).length:=by
      unfold K3;split
      · simp;omega
      · exact Nat.le_refl _
     refine⟨by omega,fun d=>?_⟩;rw[d]at a e;have b:u.text=(l.drop u.pos).take n:=e;rw[Ae l u.pos h2]at a b;simp only[AO]at a;split at a
     · rename_i hd;injection a with _ a
       injection a with o g
       rw[<- o,Em]at b;rw[b];refine⟨?_,Hc AD _,?_⟩
       · rw[List.takeWhile_cons,if_pos hd];simp
       · apply Classical.byContradiction;intro p;rw[if_neg p]at g;cases g
     · split at a
       · injection a with a _;cases a
       · split at a
         · injection a with a _;cases a
         · injection a with a _;cases a
   · exact La k u hu
end
end
section
section
inductive Ex where
 | leaf (op nm:List UInt8) (n:Nat) (p:Nat)
 | un (op:List UInt8) (a:Ex) (p:Nat)
 | bin (op:List UInt8) (a b:Ex) (p:Nat)
 | cond (a b c:Ex) (p:Nat)
 deriving DecidableEq
def Ex.op:Ex->List UInt8
 | .leaf op _ _ _=>op
 | .un op _ _=>op
 | .bin op _ _ _=>op
 | .cond _ _ _ _=>[63]
def Ex.pos:Ex->Nat
 | .leaf _ _ _ p=>p
 | .un _ _ p=>p
 | .bin _ _ _ p=>p
 | .cond _ _ _ p=>p
def Ex.move(q:Nat):Ex->Ex
 | .leaf op nm n _=>.leaf op nm n q
 | .un op a _=>.un op a q
 | .bin op a b _=>.bin op a b q
 | .cond a b c _=>.cond a b c q
def Ex.size:Ex->Nat
 | .leaf _ _ _ _=>1
 | .un _ a _=>a.size+1
 | .bin _ a b _=>a.size+b.size+1
 | .cond a b c _=>a.size+b.size+c.size+1
def PZ(x:List UInt8):Bool:=x==[61] || x==[33,61] || x==[60] || x==[60,61] || x==[62] || x==[62,61]
def rk(x:List UInt8):Nat:=
 if x=[63]then 0 else if x=[61,62]then 1 else if x=[124]then 2 else if x=[38]then 3 else if x=[33]then 4
 else if PZ x then 5 else if x=[43]∨x=[45]then 6 else if x=[42]then 7 else if x=[110,101,103]then 8 else 9
def AG(t:AH)(x:List UInt8):Bool:=(t.kind==1 || t.kind==4)&&t.text==x
def sg(k:Nat)(t:AH):Bool:=t.kind==4&&rk t.text==k
def hd(us:List AH):AH:=us.headD ⟨0,[],0⟩
inductive PR where
 | ok (e:Ex) (r:List AH)
 | er (c p:Nat)
 deriving DecidableEq
structure Dp where
 c:List AH->PR
 i:List AH->PR
 n:List AH->PR
 m:List AH->PR
def Bk:List UInt8:=[110,117,109]
def BA:List UInt8:=[110,97,109,101]
def Au:List UInt8:=[116,114,117,101]
def Bu:List UInt8:=[102,97,108,115,101]
def C0:List UInt8:=[110,101,103]
def Cr(x:List UInt8)(p:Nat):Ex:=if x=Au∨x=Bu then .leaf x [] 0 p else .leaf BA x 0 p
def Bc(p:Nat):PR->PR
 | .er c q=>.er c q
 | .ok e r=>if AG (hd r) [41]then .ok (e.move p) r.tail else .er 20 (hd r).pos
def Bj(d:Dp)(us:List AH):PR:=
 if AG (hd us) [40]then Bc (hd us).pos (d.c us.tail)
 else if(hd us).kind=1 then .ok (Cr (hd us).text (hd us).pos) us.tail
 else if(hd us).kind=2 then .ok (.leaf Bk [] (AX (hd us).text) (hd us).pos) us.tail
 else .er 20 (hd us).pos
def FD(op:List UInt8)(p:Nat):PR->PR
 | .er c q=>.er c q
 | .ok e r=>.ok (.un op e p) r
def DX(op:List UInt8)(a:Ex):PR->PR
 | .er c q=>.er c q
 | .ok b r=>.ok (.bin op a b a.pos) r
def Ah(d:Dp)(us:List AH):PR:=if AG (hd us) [45]then FD C0 (hd us).pos (d.m us.tail)else Bj d us
def BZ(k:Nat)(rd:List AH->PR):Nat->Ex->List AH->PR
 | 0,e,us=>.ok e us
 | f+1,e,us=>
   if sg k (hd us)then
    match DX (hd us).text e (rd us.tail)with
    | .er c p=>.er c p
    | .ok e' r=>BZ k rd f e' r
   else .ok e us
def KP(k:Nat)(rd:List AH->PR):PR->PR
 | .er c p=>.er c p
 | .ok e r=>BZ k rd r.length e r
def Ar(k:Nat)(rd:List AH->PR)(us:List AH):PR:=KP k rd (rd us)
def EY(d:Dp):List AH->PR:=Ar 7 (Ah d)
def Cu(d:Dp):List AH->PR:=Ar 6 (EY d)
def Fd(d:Dp):PR->PR
 | .er c p=>.er c p
 | .ok a r=>if sg 5 (hd r)then DX (hd r).text a (Cu d r.tail)else .ok a r
def BC(d:Dp)(us:List AH):PR:=Fd d (Cu d us)
def Ch(d:Dp)(us:List AH):PR:=if AG (hd us) [33]then FD [33] (hd us).pos (d.n us.tail)else BC d us
def Eb(d:Dp):List AH->PR:=Ar 3 (Ch d)
def CK(d:Dp):List AH->PR:=Ar 2 (Eb d)
def Fm(d:Dp):PR->PR
 | .er c p=>.er c p
 | .ok a r=>if AG (hd r) [61,62]then DX [61,62] a (d.i r.tail)else .ok a r
def Am(d:Dp)(us:List AH):PR:=Fm d (CK d us)
def OJ(a b:Ex):PR->PR
 | .er c p=>.er c p
 | .ok c r=>.ok (.cond a b c a.pos) r
def It(d:Dp)(a:Ex):PR->PR
 | .er c p=>.er c p
 | .ok b r=>if AG (hd r) [58]then OJ a b (d.c r.tail)else .er 20 (hd r).pos
def G9(d:Dp):PR->PR
 | .er c p=>.er c p
 | .ok a r=>if AG (hd r) [63]then It d a (d.c r.tail)else .ok a r
def Bd(d:Dp)(us:List AH):PR:=G9 d (Am d us)
def GN(us:List AH):PR:=.er 21 (hd us).pos
def dp:Nat->Dp
 | 0=>⟨GN,GN,GN,GN⟩
 | l+1=>⟨Bd (dp l),Am (dp l),Ch (dp l),Ah (dp l)⟩
def lo(k place:Nat):Nat:=if k=4∨k=8 then k else if k=5 then 6 else if k=0∨k=1 then k+1 - min place 1 else k+place
def BQ(b:Bool)(l:List UInt8):List UInt8:=if b then 40::l++[41]else l
def CJ(n:Nat):List UInt8:=Lib.decDigits n
theorem J0{n:Nat}(h:n<10):CJ n=[UInt8.ofNat (48+n)]:=by unfold CJ;rw[Lib.decDigits,dif_pos h]
def AR:Ex->List UInt8
 | .leaf op nm n _=>if op=Bk then CJ n else if op=BA then nm else op
 | .un op a _=>(if op=C0 then 45 else 33)::BQ (decide (rk a.op<rk op)) (AR a)
 | .bin op a b _=>BQ (decide (rk a.op<lo (rk op) 0)) (AR a)++(32::op++32::BQ (decide (rk b.op<lo (rk op) 1)) (AR b))
 | .cond a b c _=>BQ (decide (rk a.op<1)) (AR a)++(32::63::32::(AR b++(32::58::32::AR c)))
def Fine:List AH->Prop
 | []=>False
 | [t]=>t.kind=0/\t.text=[]
 | t::u::us=>t.kind≠0/\t.text.length<=65536/\(t.kind=1->∃c r,t.text=c::r/\AZ c=true/\∀x∈t.text,Aw x=true)/\
    (t.kind=2->t.text≠[]/\(∀c∈t.text,AD c=true)/\AX t.text<9223372036854775808)/\Fine (u::us)
theorem Fine.ne{us:List AH}(h:Fine us):us≠[]:=by rintro rfl;exact h
theorem Fine.more{us:List AH}(h:Fine us)(h0:(hd us).kind≠0):Fine us.tail/\us.tail≠[]:=by
 match us,h with
 | [t],h=>exact absurd h.1 h0
 | t::u::r,h=>exact⟨h.2.2.2.2,by simp⟩
theorem Fine.name{us:List AH}(h:Fine us)(h1:(hd us).kind=1):∃c r,(hd us).text=c::r/\AZ c=true/\∀x∈(hd us).text,Aw x=true:=by
 match us,h with
 | [t],h=>have:=h.1;simp[hd]at h1;omega
 | t::u::r,h=>exact h.2.2.1 h1
theorem Fine.numb{us:List AH}(h:Fine us)(h1:(hd us).kind=2):(hd us).text≠[]/\(∀c∈(hd us).text,AD c=true)/\AX (hd us).text<9223372036854775808:=by
 match us,h with
 | [t],h=>have:=h.1;simp[hd]at h1;omega
 | t::u::r,h=>exact h.2.2.2.1 h1
theorem Fine.len{us:List AH}(h:Fine us):(hd us).text.length<=65536:=by
 match us,h with
 | [t],h=>simp[hd,h.2]
 | t::u::r,h=>exact h.2.1
theorem AC{t:AH}{x:List UInt8}(h:AG t x=true):t.kind≠0:=by intro a;simp[AG,a]at h
theorem Dm{t:AH}{k:Nat}(h:sg k t=true):t.kind=4/\rk t.text=k:=by simpa[sg]using h
theorem Ao{t:AH}{x:List UInt8}(h:AG t x=true):t.text=x:=by simp[AG]at h;exact h.2
end
section
def De(F:List AH->PR):Prop:=∀us x r,F us= .ok x r->r.length<=us.length/\(Fine us->Fine r)
structure Ku(d:Dp):Prop where
 c:De d.c
 i:De d.i
 n:De d.n
 m:De d.m
theorem Cy(us:List AH):us.tail.length<=us.length:=by simp
theorem NN:hd []=⟨0,[],0⟩:=rfl
theorem Xg{k:Nat}{us:List AH}(h:sg k (hd us)=true):us.tail.length+1=us.length:=by
 cases us with
 | nil=>simp[NN,sg]at h
 | cons t r=>rfl
theorem Aj{op:List UInt8}{a x:Ex}{res:PR}{r:List AH}(h:DX op a res= .ok x r):∃b,res= .ok b r/\x= .bin op a b a.pos:=by
 cases res with
 | er c p=>simp[DX]at h
 | ok b d=>simp[DX]at h;exact⟨b,by rw[h.2],h.1.symm⟩
theorem Cm{op:List UInt8}{p:Nat}{x:Ex}{res:PR}{r:List AH}(h:FD op p res= .ok x r):∃b,res= .ok b r/\x= .un op b p:=by
 cases res with
 | er c p=>simp[FD]at h
 | ok b a=>simp[FD]at h;exact⟨b,by rw[h.2],h.1.symm⟩
theorem EG{p:Nat}{x:Ex}{res:PR}{r:List AH}(h:Bc p res= .ok x r):∃b r',res= .ok b r'/\AG (hd r') [41]=true/\x=b.move p/\r=r'.tail:=by
 cases res with
 | er c p=>simp[Bc]at h
 | ok b r'=>
   simp only[Bc]at h;split at h
   · rename_i hi;injection h with a d
     exact⟨b,r',rfl,hi,a.symm,d.symm⟩
   · cases h
theorem Qt{d:Dp}(hd':De d.c):De (Bj d):=by
 intro g x r h;unfold Bj at h;split at h
 · rename_i hi;obtain⟨b,j,f,a,_,rfl⟩:=EG h;obtain⟨k,i⟩:=hd' _ _ _ f;have:=Cy g;have:=Cy j;exact⟨by omega,fun e=>((i (e.more (AC hi)).1).more (AC a)).1⟩
 · split at h
   · rename_i _ f;injection h with _ a
     subst a;exact⟨Cy g,fun e=>(e.more (by omega)).1⟩
   · split at h
     · rename_i _ _ f;injection h with _ a
       subst a;exact⟨Cy g,fun e=>(e.more (by omega)).1⟩
     · cases h
theorem OO{us:List AH}{op s:List UInt8}{p:Nat}{F:List AH->PR}(hF:De F)(hi:AG (hd us) s=true){x:Ex}{r:List AH}(h:FD op p (F us.tail)= .ok x r):r.length<=us.length/\(Fine us->Fine r):=by obtain⟨b,a,_⟩:=Cm h;obtain⟨e,c⟩:=hF _ _ _ a;have:=Cy us;exact⟨by omega,fun d=>c (d.more (AC hi)).1⟩
theorem PN{d:Dp}(hs:Ku d):De (Ah d):=by
 intro a x r h;unfold Ah at h;split at h
 · rename_i hi;exact OO hs.m hi h
 · exact Qt hs.c a x r h
theorem Is{k:Nat}{F:List AH->PR}(hF:De F):∀(f:Nat) (e:Ex) (us:List AH) (x:Ex) (r:List AH),BZ k F f e us= .ok x r->r.length<=us.length/\(Fine us->Fine r)
 | 0,e,us,x,r,h=>by
   injection h with _ h
   subst h;exact⟨Nat.le_refl _,id⟩
 | f+1,e,us,x,r,h=>by
   rw[BZ]at h;split at h
   · rename_i hs;split at h
     · cases h
     · rename_i e' r' hj;obtain⟨b,h1,_⟩:=Aj hj;obtain⟨g,a⟩:=hF _ _ _ h1;obtain⟨i,c⟩:=Is hF f e' r' x r h;have:=Cy us;exact⟨by omega,fun d=>c (a (d.more (by have:=(Dm hs).1;omega)).1)⟩
   · injection h with _ h
     subst h;exact⟨Nat.le_refl _,id⟩
theorem F6{k:Nat}{F:List AH->PR}(hF:De F):De (Ar k F):=by
 intro g x r h;unfold Ar at h;cases a:F g with
 | er c p=>rw[a]at h;cases h
 | ok e l=>rw[a]at h;obtain⟨i,b⟩:=hF _ _ _ a;obtain⟨j,d⟩:=Is hF _ _ _ _ _ h;exact⟨by omega,fun f=>d (b f)⟩
theorem IB{k:Nat}{F:List AH->PR}(hF:De F):∀(f g:Nat) (e:Ex) (us:List AH),us.length<=f->us.length<=g->BZ k F f e us=BZ k F g e us
 | f,g,e,[],_,_=>by cases f<;>cases g<;>simp[BZ,NN,sg]
 | 0,_,_,t::r,h,_=>by simp at h
 | _,0,_,t::r,_,h=>by simp at h
 | f+1,g+1,e,t::r,hf,hg=>by
   rw[BZ,BZ];split
   · cases hj:DX (hd (t::r)).text e (F (t::r).tail)with
     | er c p=>rfl
     | ok e' r'=>obtain⟨b,h1,_⟩:=Aj hj;obtain⟨a,_⟩:=hF _ _ _ h1;simp only[List.length_cons,List.tail_cons]at*;exact IB hF f g e' r' (by omega) (by omega)
   · rfl
theorem Gb{k:Nat}{F:List AH->PR}{e:Ex}{r:List AH}(hs:sg k (hd r)=false):BZ k F r.length e r= .ok e r:=by
 cases r with
 | nil=>rfl
 | cons t r=>simp[BZ,hs]
theorem LL{k:Nat}{F:List AH->PR}{e:Ex}{r:List AH}{c p:Nat}(hs:sg k (hd r)=true)(h:F r.tail= .er c p):BZ k F r.length e r= .er c p:=by
 cases r with
 | nil=>simp[NN,sg]at hs
 | cons t r=>simp[BZ,hs,DX]at h ⊢;rw[h]
theorem JD{k:Nat}{F:List AH->PR}(hF:De F){e b:Ex}{r r':List AH}(hs:sg k (hd r)=true)(h:F r.tail= .ok b r'):BZ k F r.length e r=BZ k F r'.length (.bin (hd r).text e b e.pos) r'/\r'.length<r.length:=by obtain⟨a,_⟩:=hF _ _ _ h;have c:=Xg hs;refine⟨?_,by omega⟩;rw[<- IB hF r.tail.length r'.length _ r' a (Nat.le_refl _),<- c,BZ,if_pos hs,h];rfl
theorem SN{d:Dp}(hF:De (Cu d)):De (BC d):=by
 intro m x r h;unfold BC at h;cases e:Cu d m with
 | er c p=>rw[e]at h;cases h
 | ok a l=>
   rw[e]at h;obtain⟨g,f⟩:=hF _ _ _ e;simp only[Fd]at h;split at h
   · rename_i hs;obtain⟨b,i,_⟩:=Aj h;obtain⟨n,j⟩:=hF _ _ _ i;have:=Cy l;exact⟨by omega,fun k=>j ((f k).more (by have:=(Dm hs).1;omega)).1⟩
   · injection h with _ h
     subst h;exact⟨g,f⟩
theorem TM{d:Dp}(hs:Ku d)(hF:De (BC d)):De (Ch d):=by
 intro a x r h;unfold Ch at h;split at h
 · rename_i hi;exact OO hs.n hi h
 · exact hF a x r h
theorem Rn{d:Dp}(hs:Ku d)(hF:De (CK d)):De (Am d):=by
 intro n x r h;unfold Am at h;cases e:CK d n with
 | er c p=>rw[e]at h;cases h
 | ok a m=>
   rw[e]at h;obtain⟨g,f⟩:=hF _ _ _ e;simp only[Fm]at h;split at h
   · rename_i hi;obtain⟨b,j,_⟩:=Aj h;obtain⟨o,k⟩:=hs.i _ _ _ j;have:=Cy m;exact⟨by omega,fun l=>k ((f l).more (AC hi)).1⟩
   · injection h with _ h
     subst h;exact⟨g,f⟩
theorem Dv{d:Dp}{x:Ex}{us r:List AH}(h:Bd d us= .ok x r):∃a r1,Am d us= .ok a r1/\((AG (hd r1) [63]=false/\x=a/\r=r1)∨(AG (hd r1) [63]=true/\∃b r2,d.c r1.tail= .ok b r2/\AG (hd r2) [58]=true/\∃c,d.c r2.tail= .ok c r/\x= .cond a b c a.pos)):=by
 unfold Bd at h;cases g:Am d us with
 | er c p=>rw[g]at h;cases h
 | ok a r1=>
   rw[g]at h;refine⟨a,r1,rfl,?_⟩;simp only[G9]at h;split at h
   · rename_i hi;refine .inr ⟨hi,?_⟩;cases i:d.c r1.tail with
     | er c p=>rw[i]at h;cases h
     | ok b r2=>
       rw[i]at h;simp only[It]at h;split at h
       · rename_i hi2;refine⟨b,r2,rfl,hi2,?_⟩;cases j:d.c r2.tail with
         | er c p=>rw[j]at h;cases h
         | ok c k=>
           rw[j]at h;injection h with e f
           subst f;exact⟨c,rfl,e.symm⟩
       · cases h
   · rename_i hi;injection h with e f
     exact .inl ⟨by simpa using hi,e.symm,f.symm⟩
theorem RJ{d:Dp}(hs:Ku d)(hF:De (Am d)):De (Bd d):=by
 intro v x r h;obtain⟨a,q,i,j⟩:=Dv h;obtain⟨k,g⟩:=hF _ _ _ i;rcases j with⟨_,_,rfl⟩ | ⟨p,b,s,l,f,c,m,_⟩
 · exact⟨k,g⟩
 · obtain⟨t,n⟩:=hs.c _ _ _ l;obtain⟨u,e⟩:=hs.c _ _ _ m;have:=Cy q;have:=Cy s;exact⟨by omega,fun o=>e ((n ((g o).more (AC p)).1).more (AC f)).1⟩
structure XZ(d:Dp):Prop where
 m:De (Ah d)
 p:De (EY d)
 s:De (Cu d)
 r:De (BC d)
 n:De (Ch d)
 a:De (Eb d)
 o:De (CK d)
 i:De (Am d)
 c:De (Bd d)
theorem IP{d:Dp}(hs:Ku d):XZ d:=by have m:=PN hs;have p:De (EY d):=F6 m;have s:De (Cu d):=F6 p;have r:=SN s;have n:=TM hs r;have a:De (Eb d):=F6 n;have o:De (CK d):=F6 a;have i:=Rn hs o;exact⟨m,p,s,r,n,a,o,i,RJ hs i⟩
theorem G7:De GN:=by intro a x r h;cases h
theorem GW:∀l,Ku (dp l)
 | 0=>⟨G7,G7,G7,G7⟩
 | l+1=>by have h:=IP (GW l);exact⟨h.c,h.i,h.n,h.m⟩
theorem R2(l:Nat):XZ (dp l):=IP (GW l)
end
section
theorem PG{r:List UInt8}{n:Nat}(h0:r≠[])(h:AO r=(1,n,0)):∃c s,r.take n=c::s/\AZ c=true/\∀x∈r.take n,Aw x=true:=by
 cases r with
 | nil=>exact absurd rfl h0
 | cons c s=>
   simp only[AO]at h;split at h
   · injection h with h _;cases h
   · split at h
     · rename_i hl;injection h with _ h
       injection h with b _
       rw[<- b,Em];have a:Aw c=true:=(by simp[Aw,hl]);refine⟨c,s.takeWhile Aw,by rw[List.takeWhile_cons,if_pos a],hl,Hc Aw _⟩
     · split at h
       · injection h with h _;cases h
       · injection h with h _;cases h
theorem G5{l:List UInt8}(hl:l.length<=65536):∀{ts:List AH} {i:Nat},ZQ l i ts->Fine ts
 | [],_,h=>h.elim
 | [t],_,h=>⟨h.1,h.2.1⟩
 | t::u::us,i,h=>by have hn:=La h t (by simp);obtain⟨_,c,⟨n,a,d,f⟩,_⟩:=h;have g:=GR (D9 c) a;refine⟨by omega,by omega,fun e=>?_,hn.2,G5 hl f⟩;rw[e]at a d;have b:t.text=(l.drop t.pos).take n:=d;rw[b];exact PG (D9 c) a
theorem Hv{l:List UInt8}{ts:List AH}(hl:l.length<=65536)(h:CE l= .ok ts):Fine ts:=G5 hl (GC h)
end
section
def QZ(l:List UInt8):Prop:=(∃c r,l=c::r/\AZ c=true)/\∀x∈l,Aw x=true
def Ok:Ex->Prop
 | .leaf op nm n _=>(op=Bk/\nm=[]/\n<9223372036854775808)∨(op=BA/\n=0/\QZ nm/\nm≠Au/\nm≠Bu)∨((op=Au∨op=Bu)/\nm=[]/\n=0)
 | .un op a _=>(op=[33]∨op=C0)/\Ok a
 | .bin op a b _=>(rk op=1∨rk op=2∨rk op=3∨rk op=5∨rk op=6∨rk op=7)/\Ok a/\Ok b
 | .cond a b c _=>Ok a/\Ok b/\Ok c
def nd:Ex->Nat
 | .leaf _ _ _ _=>0
 | .un op a _=>1+(if rk a.op<rk op then 1+nd a else nd a)
 | .bin op a b _=>
   if rk op=1 then max (if rk a.op<2 then 1+nd a else nd a) (1+(if rk b.op<1 then 1+nd b else nd b))
   else max (if rk a.op<lo (rk op) 0 then 1+nd a else nd a) (if rk b.op<lo (rk op) 1 then 1+nd b else nd b)
 | .cond a b c _=>max (if rk a.op<1 then 1+nd a else nd a) (1+max (nd b) (nd c))
def nk(k:Nat)(e:Ex):Nat:=if rk e.op<k then 1+nd e else nd e
theorem GG{j k:Nat}(h:j<=k)(e:Ex):nk j e<=nk k e:=by unfold nk;split<;>split<;>omega
theorem Yk(k:Nat)(e:Ex):nd e<=nk k e:=by unfold nk;split<;>omega
theorem Xw(k:Nat)(e:Ex):nk k e<=1+nd e:=by unfold nk;split<;>omega
theorem TS(q:Nat)(e:Ex):nd (e.move q)=nd e:=by cases e<;>rfl
theorem U6(q:Nat)(e:Ex):(e.move q).op=e.op:=by cases e<;>rfl
theorem UQ(q:Nat){e:Ex}(h:Ok e):Ok (e.move q):=by cases e<;>exact h
theorem TW(q k:Nat)(e:Ex):nk k (e.move q)=nk k e:=by unfold nk;rw[TS,U6]
theorem Rh:rk C0=8:=by decide
theorem QV:rk [33]=4:=by decide
theorem NH:rk [61,62]=1:=by decide
theorem Hs{k:Nat}{e:Ex}(h:k<=rk e.op):nk k e=nd e:=by unfold nk;rw[if_neg (by omega)]
theorem VV(op:List UInt8)(a:Ex)(p:Nat):nd (.un op a p)=1+nk (rk op) a:=rfl
theorem WQ{op:List UInt8}(h:rk op=1)(a b:Ex)(p:Nat):nd (.bin op a b p)=max (nk 2 a) (1+nk 1 b):=by unfold nd nk;rw[if_pos h]
theorem Vl{op:List UInt8}(h:rk op=5)(a b:Ex)(p:Nat):nd (.bin op a b p)=max (nk 6 a) (nk 6 b):=by unfold nd nk;rw[if_neg (by omega),h];rfl
theorem T5(a b c:Ex)(p:Nat):nd (.cond a b c p)=max (nk 1 a) (1+max (nd b) (nd c)):=rfl
def Rd(k lv:Nat)(F:List AH->PR):Prop:=∀us e r,Fine us->F us= .ok e r->Ok e/\nk k e<=lv
structure Vq(d:Dp)(lv:Nat):Prop where
 c:∀us e r,Fine us->d.c us= .ok e r->Ok e/\1+nd e<=lv
 i:∀us e r,Fine us->d.i us= .ok e r->Ok e/\1+nk 1 e<=lv
 n:∀us e r,Fine us->d.n us= .ok e r->Ok e/\1+nk 4 e<=lv
 m:∀us e r,Fine us->d.m us= .ok e r->Ok e/\1+nk 8 e<=lv
theorem Tt{us:List AH}(h:Fine us)(h1:(hd us).kind=1):Ok (Cr (hd us).text (hd us).pos)/\nk 9 (Cr (hd us).text (hd us).pos)=0:=by
 obtain⟨c,r,d,f,g⟩:=h.name h1;unfold Cr;split
 · rename_i a;refine⟨.inr (.inr ⟨a,rfl,rfl⟩),?_⟩;have:rk (hd us).text=9:=by rcases a with a | a<;>rw[a]<;>decide
   simp[nk,Ex.op,this,nd]
 · rename_i a;have b:¬(hd us).text=Au/\¬(hd us).text=Bu:=⟨fun e=>a (.inl e),fun e=>a (.inr e)⟩;refine⟨.inr (.inl ⟨rfl,rfl,⟨⟨c,r,d,f⟩,g⟩,b.1,b.2⟩),?_⟩;have:rk BA=9:=(by decide);simp[nk,Ex.op,this,nd]
theorem Tv{d:Dp}{lv:Nat}(hd4:Vq d lv):Rd 9 lv (Bj d):=by
 intro o e r i h;unfold Bj at h;split at h
 · rename_i hi;obtain⟨b,n,a,f,rfl,rfl⟩:=EG h;obtain⟨g,j⟩:=hd4.c _ _ _ (i.more (AC hi)).1 a;refine⟨UQ _ g,?_⟩;rw[TW];have:=Xw 9 b;omega
 · split at h
   · rename_i _ a;injection h with f _
     subst f;obtain⟨g,j⟩:=Tt i a;exact⟨g,by omega⟩
   · split at h
     · rename_i _ _ a;injection h with f _
       subst f;obtain⟨l,m,k⟩:=i.numb a;refine⟨.inl ⟨rfl,rfl,k⟩,?_⟩;have:rk Bk=9:=(by decide);simp[nk,Ex.op,this,nd]
     · cases h
theorem SY{d:Dp}{lv:Nat}(hd4:Vq d lv):Rd 8 lv (Ah d):=by
 intro i e r f h;unfold Ah at h;split at h
 · rename_i hi;obtain⟨b,g,rfl⟩:=Cm h;obtain⟨a,c⟩:=hd4.m _ _ _ (f.more (AC hi)).1 g;refine⟨⟨.inr rfl,a⟩,?_⟩;rw[Hs (by rw[Ex.op,Rh];omega),VV,Rh];exact c
 · obtain⟨a,c⟩:=Tv hd4 i e r f h;exact⟨a,Nat.le_trans (GG (by omega) e) c⟩
def Xz(k:Nat):Prop:=k=2∨k=3∨k=6∨k=7
theorem QU{k:Nat}(hk:Xz k){op:List UInt8}(h:rk op=k)(a b:Ex)(p:Nat):nd (.bin op a b p)=max (nk k a) (nk (k+1) b):=by unfold nd nk;rcases hk with rfl | rfl | rfl | rfl<;>simp[h,lo]
theorem Ju{k lv:Nat}(hk:Xz k){F:List AH->PR}(hS:De F)(hF:Rd (k+1) lv F):∀(f:Nat) (e:Ex) (us:List AH) (x:Ex) (r:List AH),Fine us->Ok e->nk k e<=lv->BZ k F f e us= .ok x r->Ok x/\nk k x<=lv
 | 0,e,us,x,r,_,h1,h2,h=>by
   injection h with h _
   subst h;exact⟨h1,h2⟩
 | f+1,e,us,x,r,hf,h1,h2,h=>by
   rw[BZ]at h;split at h
   · rename_i hs;split at h
     · cases h
     · rename_i e' r' hj;obtain⟨b,h3,rfl⟩:=Aj hj;have c:=(hf.more (by have:=(Dm hs).1;omega)).1;obtain⟨g,i⟩:=hF _ _ _ c h3;have a:=(Dm hs).2;have d:Ok (.bin (hd us).text e b e.pos):=⟨by rw[a];unfold Xz at hk;omega,h1,g⟩;refine Ju hk hS hF f _ r' x r ((hS _ _ _ h3).2 c) d ?_ h;rw[Hs (by rw[Ex.op,a];omega),QU hk a];omega
   · injection h with h _
     subst h;exact⟨h1,h2⟩
theorem Ha{k lv:Nat}(hk:Xz k){F:List AH->PR}(hS:De F)(hF:Rd (k+1) lv F):Rd k lv (Ar k F):=by
 intro g x r b h;unfold Ar at h;cases a:F g with
 | er c p=>rw[a]at h;cases h
 | ok e i=>rw[a]at h;obtain⟨d,f⟩:=hF _ _ _ b a;exact Ju hk hS hF _ _ _ _ _ ((hS _ _ _ a).2 b) d (Nat.le_trans (GG (by omega) e) f) h
theorem Uu{d:Dp}{lv:Nat}(hS:De (Cu d))(hF:Rd 6 lv (Cu d)):Rd 5 lv (BC d):=by
 intro n x r j h;unfold BC at h;cases f:Cu d n with
 | er c p=>rw[f]at h;cases h
 | ok a q=>
   rw[f]at h;obtain⟨i,k⟩:=hF _ _ _ j f;have g:=(hS _ _ _ f).2 j;simp only[Fd]at h;split at h
   · rename_i hs;obtain⟨b,l,rfl⟩:=Aj h;obtain⟨m,o⟩:=hF _ _ _ (g.more (by have:=(Dm hs).1;omega)).1 l;have e:=(Dm hs).2;refine⟨⟨by omega,i,m⟩,?_⟩;rw[Hs (by rw[Ex.op,e];omega),Vl e];omega
   · injection h with h _
     subst h;exact⟨i,Nat.le_trans (GG (by omega) a) k⟩
theorem Wd{d:Dp}{lv:Nat}(hd4:Vq d lv)(hF:Rd 5 lv (BC d)):Rd 4 lv (Ch d):=by
 intro i e r f h;unfold Ch at h;split at h
 · rename_i hi;obtain⟨b,g,rfl⟩:=Cm h;obtain⟨a,c⟩:=hd4.n _ _ _ (f.more (AC hi)).1 g;refine⟨⟨.inl rfl,a⟩,?_⟩;rw[Hs (by rw[Ex.op,QV];omega),VV,QV];exact c
 · obtain⟨a,c⟩:=hF i e r f h;exact⟨a,Nat.le_trans (GG (by omega) e) c⟩
theorem Ui{d:Dp}{lv:Nat}(hd4:Vq d lv)(hS:De (CK d))(hF:Rd 2 lv (CK d)):Rd 1 lv (Am d):=by
 intro n x r j h;unfold Am at h;cases e:CK d n with
 | er c p=>rw[e]at h;cases h
 | ok a q=>
   rw[e]at h;obtain⟨g,k⟩:=hF _ _ _ j e;have f:=(hS _ _ _ e).2 j;simp only[Fm]at h;split at h
   · rename_i hi;obtain⟨b,l,rfl⟩:=Aj h;obtain⟨m,o⟩:=hd4.i _ _ _ (f.more (AC hi)).1 l;refine⟨⟨by rw[NH];omega,g,m⟩,?_⟩;rw[Hs (by rw[Ex.op,NH];omega),WQ NH];omega
   · injection h with h _
     subst h;exact⟨g,Nat.le_trans (GG (by omega) a) k⟩
theorem Td{d:Dp}{lv:Nat}(hd4:Vq d lv)(hs4:Ku d)(hS:De (Am d))(hF:Rd 1 lv (Am d)):Rd 0 lv (Bd d):=by
 intro z x r m h;obtain⟨a,w,j,o⟩:=Dv h;obtain⟨k,p⟩:=hF _ _ _ m j;have f:=(hS _ _ _ j).2 m;rcases o with⟨_,rfl,rfl⟩ | ⟨u,b,y,l,i,c,q,rfl⟩
 · exact⟨k,Nat.le_trans (GG (by omega) x) p⟩
 · have e:=(f.more (AC u)).1;obtain⟨s,v⟩:=hd4.c _ _ _ e l;have g:=((hs4.c _ _ _ l).2 e);obtain⟨t,n⟩:=hd4.c _ _ _ (g.more (AC i)).1 q;refine⟨⟨k,s,t⟩,?_⟩;rw[Hs (Nat.zero_le _),T5];omega
structure Yn(d:Dp)(lv:Nat):Prop where
 m:Rd 8 lv (Ah d)
 n:Rd 4 lv (Ch d)
 i:Rd 1 lv (Am d)
 c:Rd 0 lv (Bd d)
theorem WT{d:Dp}{lv:Nat}(hd4:Vq d lv)(hs4:Ku d):Yn d lv:=by have s:=IP hs4;have m:=SY hd4;have p:Rd 7 lv (EY d):=Ha (.inr (.inr (.inr rfl))) s.m m;have b:Rd 6 lv (Cu d):=Ha (.inr (.inr (.inl rfl))) s.p p;have r:=Uu s.s b;have n:=Wd hd4 r;have a:Rd 3 lv (Eb d):=Ha (.inr (.inl rfl)) s.n n;have o:Rd 2 lv (CK d):=Ha (.inl rfl) s.a a;have i:=Ui hd4 s.o o;exact⟨m,n,i,Td hd4 hs4 s.i i⟩
theorem VD:∀l,Vq (dp l) l
 | 0=>⟨(fun _ _ _ _ h=>nomatch h),(fun _ _ _ _ h=>nomatch h),(fun _ _ _ _ h=>nomatch h),(fun _ _ _ _ h=>nomatch h)⟩
 | l+1=>by
   have h:=WT (VD l) (GW l);refine⟨fun f e r d b=>?_,fun f e r d b=>?_,fun f e r d b=>?_,fun f e r d b=>?_⟩
   · obtain⟨a,g⟩:=h.c f e r d b;have j:nk 0 e=nd e:=(by simp[nk]);exact⟨a,by omega⟩
   · obtain⟨a,g⟩:=h.i f e r d b;exact⟨a,by omega⟩
   · obtain⟨a,g⟩:=h.n f e r d b;exact⟨a,by omega⟩
   · obtain⟨a,g⟩:=h.m f e r d b;exact⟨a,by omega⟩
end
end
section
abbrev X7:=Nat×List UInt8
def X0(b:Bool)(l:List X7):List X7:=if b then(4,[40])::(l++[(4,[41])])else l
def tk:Ex->List X7
 | .leaf op nm n _=>if op=Bk then[(2,CJ n)]else if op=BA then[(1,nm)]else[(1,op)]
 | .un op a _=>(4,if op=C0 then[45]else[33])::X0 (decide (rk a.op<rk op)) (tk a)
 | .bin op a b _=>X0 (decide (rk a.op<lo (rk op) 0)) (tk a)++(4,op)::X0 (decide (rk b.op<lo (rk op) 1)) (tk b)
 | .cond a b c _=>X0 (decide (rk a.op<1)) (tk a)++(4,[63])::(tk b++(4,[58])::tk c)
theorem RN(x:List UInt8):rk x<=9:=by unfold rk;repeat' split
                                     all_goals omega
theorem RT(l:List UInt8)(c:UInt8):AX (l++[c])=AX l*10+(c.toNat - 48):=by simp[AX]
theorem Wz{x:List UInt8}(h:rk x=1):x=[61,62]:=by
 unfold rk at h;split at h
 · omega
 · split at h
   · assumption
   · repeat' split at h
     all_goals omega
end
section
theorem RL:∀(n:Nat) (l:List UInt8),l.length=n->(∀c∈l,AD c=true)->AX l<10 ^ l.length
 | 0,l,h,_=>by have:l=[]:=List.length_eq_zero_iff.1 h;subst this;decide
 | n+1,l,h,ha=>by have a:l≠[]:=(by intro e;subst e;cases h);obtain⟨m,c,rfl⟩:∃m c,l=m++[c]:=⟨l.dropLast,l.getLast a,(List.dropLast_concat_getLast a).symm⟩;have f:m.length=n:=(by simpa using h);have g:=RL n m f (fun d hd=>ha d (List.mem_append_left _ hd));have b:=ha c (by simp);simp only[AD,Bool.and_eq_true,decide_eq_true_eq]at b;rw[RT,List.length_append,List.length_singleton,Nat.pow_succ];omega
theorem Np:∀(k n:Nat),n<10 ^ (k+1)->(CJ n).length<=k+1
 | 0,n,h=>by rw[J0 (by omega)];simp
 | k+1,n,h=>by
   unfold CJ;rw[Lib.decDigits];split
   · simp
   · have:=Np k (n / 10) (by rw[Nat.pow_succ]at h;omega);unfold CJ at this;simp only[List.length_append,List.length_singleton];omega
theorem N2{l:List UInt8}(h0:l≠[])(ha:∀c∈l,AD c=true):(CJ (AX l)).length<=l.length:=by have a:=RL l.length l rfl ha;have d:l.length≠0:=(by intro e;exact h0 (List.length_eq_zero_iff.1 e));obtain⟨k,b⟩:∃k,l.length=k+1:=⟨l.length - 1,by omega⟩;rw[b]at a ⊢;exact Np k _ a
def BP(us:List AH):Nat:=(us.map fun t=>t.text.length).sum
theorem C3{us:List AH}(h:us≠[]):BP us=(hd us).text.length+BP us.tail:=by
 cases us with
 | nil=>exact absurd rfl h
 | cons t r=>simp[BP,hd]
theorem Cf{us:List AH}(h:(hd us).kind≠0):us≠[]:=by rintro rfl;exact h rfl
theorem Ij(b:Bool)(l:List UInt8):(BQ b l).length<=l.length+2:=by cases b<;>simp[BQ]
def Sz(F:List AH->PR):Prop:=∀us e r,Fine us->F us= .ok e r->(AR e).length+2+5*BP r<=5*BP us
structure XP(d:Dp):Prop where
 c:Sz d.c
 i:Sz d.i
 n:Sz d.n
 m:Sz d.m
theorem SU(q:Nat)(e:Ex):AR (e.move q)=AR e:=by cases e<;>rfl
theorem Mi{op:List UInt8}{a b:Ex}{p:Nat}:(AR (.bin op a b p)).length<=(AR a).length+(AR b).length+op.length+6:=by have c:=Ij (decide (rk a.op<lo (rk op) 0)) (AR a);have d:=Ij (decide (rk b.op<lo (rk op) 1)) (AR b);rw[AR];simp only[List.length_append,List.length_cons,List.cons_append];omega
theorem Xf{op:List UInt8}{a:Ex}{p:Nat}:(AR (.un op a p)).length<=(AR a).length+3:=by have b:=Ij (decide (rk a.op<rk op)) (AR a);rw[AR];simp only[List.length_cons];omega
theorem U7{d:Dp}(h4:XP d):Sz (Bj d):=by
 intro a e r i h;unfold Bj at h;split at h
 · rename_i hi;obtain⟨b,y,f,g,rfl,rfl⟩:=EG h;have j:=h4.c _ _ _ (i.more (AC hi)).1 f;have n:=C3 (Cf (AC hi));have o:=C3 (Cf (AC g));rw[SU];omega
 · split at h
   · rename_i _ f;injection h with g j
     subst g j;obtain⟨c,s,u,w,x⟩:=i.name f;have n:=C3 i.ne;have o:1<=(hd a).text.length:=(by rw[u];simp);have q:(AR (Cr (hd a).text (hd a).pos)).length<=(hd a).text.length:=by
      unfold Cr;split
      · rename_i k;have m:¬(hd a).text=Bk:=by rcases k with e | e<;>rw[e]<;>decide
        have v:¬(hd a).text=BA:=by rcases k with e | e<;>rw[e]<;>decide
        simp[AR,m,v]
      · have l:¬BA=Bk:=(by decide);simp[AR,l]
     omega
   · split at h
     · rename_i _ _ f;injection h with g j
       subst g j;obtain⟨p,m,_⟩:=i.numb f;have n:=C3 i.ne;have o:1<=(hd a).text.length:=by
        cases k:(hd a).text with
        | nil=>exact absurd k p
        | cons c s=>simp
       have q:=N2 p m;have t:AR (.leaf Bk [] (AX (hd a).text) (hd a).pos)=CJ (AX (hd a).text):=(by simp[AR]);rw[t];omega
     · cases h
theorem Qg{us:List AH}{op x:List UInt8}{p:Nat}{F:List AH->PR}(hF:Sz F)(hf:Fine us)(hi:AG (hd us) x=true)(hx:1<=x.length){e:Ex}{r:List AH}(h:FD op p (F us.tail)= .ok e r):(AR e).length+2+5*BP r<=5*BP us:=by obtain⟨b,d,rfl⟩:=Cm h;have g:=hF _ _ _ (hf.more (AC hi)).1 d;have c:=C3 (Cf (AC hi));rw[Ao hi]at c;have f:=Xf (op:=op) (a:=b) (p:=p);omega
theorem RE{d:Dp}(h4:XP d):Sz (Ah d):=by
 intro b e r a h;unfold Ah at h;split at h
 · rename_i hi;exact Qg h4.m a hi (by decide) h
 · exact U7 h4 b e r a h
theorem Sj{k:Nat}(hk:k<8){t:AH}(h:sg k t=true):1<=t.text.length:=by
 have:=(Dm h).2;cases a:t.text with
 | nil=>rw[a]at this;have:rk []=9:=by decide
        omega
 | cons c r=>simp
theorem J5{k:Nat}(hk:k<8){F:List AH->PR}(hS:De F)(hF:Sz F):∀(f:Nat) (e:Ex) (us:List AH) (x:Ex) (r:List AH),Fine us->BZ k F f e us= .ok x r->(AR x).length+5*BP r<=(AR e).length+5*BP us
 | 0,e,us,x,r,_,h=>by
   injection h with h1 h2
   subst h1 h2;exact Nat.le_refl _
 | f+1,e,us,x,r,hf,h=>by
   rw[BZ]at h;split at h
   · rename_i hs;split at h
     · cases h
     · rename_i e' r' hj;obtain⟨b,h3,rfl⟩:=Aj hj;have d:(hd us).kind≠0:=(by have:=(Dm hs).1;omega);have c:=(hf.more d).1;have l:=hF _ _ _ c h3;have m:=J5 hk hS hF f _ r' x r ((hS _ _ _ h3).2 c) h;have g:=C3 (Cf d);have i:=Mi (op:=(hd us).text) (a:=e) (b:=b) (p:=e.pos);have j:=Sj hk hs;omega
   · injection h with h1 h2
     subst h1 h2;exact Nat.le_refl _
theorem Gz{k:Nat}(hk:k<8){F:List AH->PR}(hS:De F)(hF:Sz F):Sz (Ar k F):=by
 intro d x r b h;unfold Ar at h;cases a:F d with
 | er c p=>rw[a]at h;cases h
 | ok e i=>rw[a]at h;have f:=hF _ _ _ b a;have g:=J5 hk hS hF _ _ _ _ _ ((hS _ _ _ a).2 b) h;omega
theorem To{d:Dp}(hS:De (Cu d))(hF:Sz (Cu d)):Sz (BC d):=by
 intro n x r i h;unfold BC at h;cases e:Cu d n with
 | er c p=>rw[e]at h;cases h
 | ok a j=>
   rw[e]at h;have l:=hF _ _ _ i e;have g:=(hS _ _ _ e).2 i;simp only[Fd]at h;split at h
   · rename_i hs;obtain⟨b,m,rfl⟩:=Aj h;have f:(hd j).kind≠0:=(by have:=(Dm hs).1;omega);have t:=hF _ _ _ (g.more f).1 m;have o:=C3 (Cf f);have q:=Mi (op:=(hd j).text) (a:=a) (b:=b) (p:=a.pos);have s:=Sj (by decide) hs;omega
   · injection h with e k
     subst e k;exact l
theorem Vc{d:Dp}(h4:XP d)(hF:Sz (BC d)):Sz (Ch d):=by
 intro b e r a h;unfold Ch at h;split at h
 · rename_i hi;exact Qg h4.n a hi (by decide) h
 · exact hF b e r a h
theorem UA{d:Dp}(h4:XP d)(hS:De (CK d))(hF:Sz (CK d)):Sz (Am d):=by
 intro o x r j h;unfold Am at h;cases e:CK d o with
 | er c p=>rw[e]at h;cases h
 | ok a s=>
   rw[e]at h;have m:=hF _ _ _ j e;have f:=(hS _ _ _ e).2 j;simp only[Fm]at h;split at h
   · rename_i hi;obtain⟨b,n,rfl⟩:=Aj h;have q:=h4.i _ _ _ (f.more (AC hi)).1 n;have g:=C3 (Cf (AC hi));rw[Ao hi]at g;have k:=Mi (op:=[61,62]) (a:=a) (b:=b) (p:=a.pos);simp only[List.length_cons,List.length_nil]at g k;omega
   · injection h with e l
     subst e l;exact m
theorem Sr{d:Dp}(h4:XP d)(hs4:Ku d)(hS:De (Am d))(hF:Sz (Am d)):Sz (Bd d):=by
 intro z x r o h;obtain⟨a,w,m,p⟩:=Dv h;have q:=hF _ _ _ o m;have g:=(hS _ _ _ m).2 o;rcases p with⟨_,rfl,rfl⟩ | ⟨j,b,y,n,e,c,s,rfl⟩
 · exact q
 · have f:=(g.more (AC j)).1;have u:=h4.c _ _ _ f n;have i:=((hs4.c _ _ _ n).2 f);have v:=h4.c _ _ _ (i.more (AC e)).1 s;have k:=C3 (Cf (AC j));have l:=C3 (Cf (AC e));rw[Ao j]at k;rw[Ao e]at l;have t:=Ij (decide (rk a.op<1)) (AR a);rw[AR];simp only[List.length_append,List.length_cons,List.length_nil]at k l ⊢;omega
theorem VY:∀l,XP (dp l)
 | 0=>⟨(fun _ _ _ _ h=>nomatch h),(fun _ _ _ _ h=>nomatch h),(fun _ _ _ _ h=>nomatch h),(fun _ _ _ _ h=>nomatch h)⟩
 | l+1=>by have h4:=VY l;have s:=R2 l;have m:=RE h4;have p:Sz (EY (dp l)):=Gz (by decide) s.m m;have b:Sz (Cu (dp l)):=Gz (by decide) s.p p;have r:=To s.s b;have n:=Vc h4 r;have a:Sz (Eb (dp l)):=Gz (by decide) s.n n;have o:Sz (CK (dp l)):=Gz (by decide) s.a a;have i:=UA h4 s.o o;exact⟨Sr h4 (GW l) s.i i,i,n,m⟩
theorem OA{l:List UInt8}:∀{ts:List AH} {i:Nat},ZQ l i ts->BP ts+i<=l.length
 | [],_,h=>by simp[ZQ]at h
 | [t],i,h=>by obtain⟨h1,h2,h3,h4⟩:=h;simp[BP,h2];omega
 | t::v::us,i,h=>by
   obtain⟨h1,h2,⟨n,c,d,b⟩,_⟩:=h;obtain⟨f,a⟩:=KG h2 c d;have j:=OA b;have e:BP (t::v::us)=t.text.length+BP (v::us):=C3 (us:=t::v::us) (by simp);have g:t.text.length<=(K3 t).length:=by
    unfold K3;split
    · simp;omega
    · exact Nat.le_refl _
   omega
end
section
structure Ad where
 nm:List UInt8
 x:Option Ex
 pos:Nat
structure B7 where
 nm:List UInt8
 isB:Bool
 low:Option Ex
 high:Option Ex
 ini:Option Ex
 has:Bool
 pos:Nat
structure Fe where
 wt:Nat
 sets:List Ad
 pos:Nat
structure Cp where
 act:List UInt8
 guard:Option Ex
 brs:List Fe
 pos:Nat
structure Ct where
 nm:List UInt8
 vars:List B7
 cmds:List Cp
 pos:Nat
structure AP where
 consts:List Ad
 formulas:List Ad
 labels:List Ad
 mods:List Ct
inductive St where
 | good (us:List AH)
 | bad (c p:Nat)
def St.hd:St->AH
 | .good us=>Go.Proofs.YtodijgndbjfbgaaGreatDoor.hd us
 | .bad _ _=>⟨0,[],0⟩
def St.tl:St->St
 | .good us=>.good us.tail
 | .bad c p=>.bad c p
def St.fail(c:Nat):St->St
 | .good us=>.bad c (Go.Proofs.YtodijgndbjfbgaaGreatDoor.hd us).pos
 | .bad c' p=>.bad c' p
def St.len:St->Nat
 | .good us=>us.length
 | .bad _ _=>0
def St.Fine:St->Prop
 | .good us=>Go.Proofs.YtodijgndbjfbgaaGreatDoor.Fine us
 | .bad _ _=>True
def St.want(x:List UInt8)(st:St):St:=if AG st.hd x then st.tl else st.fail 20
def D6:List UInt8:=[109,100,112]
def AN:List UInt8:=[99,111,110,115,116]
def AE:List UInt8:=[102,111,114,109,117,108,97]
def BI:List UInt8:=[108,97,98,101,108]
def A8:List UInt8:=[109,111,100,117,108,101]
def DG:List UInt8:=[101,110,100,109,111,100,117,108,101]
def D5:List UInt8:=[98,111,111,108]
def CA:List UInt8:=[105,110,105,116]
def Eh(x:List UInt8):Bool:=x==D6 || x==AN || x==AE || x==BI || x==A8 || x==DG || x==D5 || x==CA || x==Au || x==Bu
def CG(t:AH):Bool:=t.kind==1&&!Eh t.text
def St.name(st:St):(List UInt8×Nat)×St:=if CG st.hd then((st.hd.text,st.hd.pos),st.tl)else(([],0),st.fail 20)
def St.text(st:St):(List UInt8×Nat)×St:=if st.hd.kind=3 then((st.hd.text,st.hd.pos),st.tl)else(([],0),st.fail 20)
def BJ:PR->Option Ex×St
 | .ok e r=>(some e,.good r)
 | .er c p=>(none,.bad c p)
def St.expr(D:Nat):St->Option Ex×St
 | .good us=>BJ ((dp D).c us)
 | .bad c p=>(none,.bad c p)
def St.mean(D:Nat)(st:St):Option Ex×St:=(((st.want [61]).expr D).1,((st.want [61]).expr D).2.want [59])
def St.defn(D:Nat)(st:St):Ad×St:=(⟨st.name.1.1,(st.name.2.mean D).1,st.name.1.2⟩,(st.name.2.mean D).2)
def St.labl(D:Nat)(st:St):Ad×St:=(⟨st.text.1.1,(st.text.2.mean D).1,st.text.1.2⟩,(st.text.2.mean D).2)
def St.low(D:Nat)(st:St):Option Ex×St:=(st.want [91]).expr D
def St.high(D:Nat)(st:St):Option Ex×St:=((st.low D).2.want [46,46]).expr D
def St.bnds(D:Nat)(st:St):(Option Ex×Option Ex)×St:=(((st.low D).1,(st.high D).1),(st.high D).2.want [93])
def St.vals(D:Nat)(st:St):(Bool×Option Ex×Option Ex)×St:=if AG st.hd D5 then((true,none,none),st.tl)else((false,(st.bnds D).1),(st.bnds D).2)
def St.init(D:Nat)(st:St):(Option Ex×Bool)×St:=if AG st.hd CA then(((st.tl.expr D).1,true),(st.tl.expr D).2)else((none,false),st)
def St.vrbl(D:Nat)(st:St):B7×St:=
 (⟨st.name.1.1,((st.name.2.want [58]).vals D).1.1,((st.name.2.want [58]).vals D).1.2.1,((st.name.2.want [58]).vals D).1.2.2,(((st.name.2.want [58]).vals D).2.init D).1.1,(((st.name.2.want [58]).vals D).2.init D).1.2,st.name.1.2⟩,(((st.name.2.want [58]).vals D).2.init D).2.want [59])
def DJ{α:Type}(p:AH->Bool)(rd:St->α×St):Nat->St->List α×St
 | 0,st=>([],st)
 | f+1,st=>if p st.hd then((rd st).1::(DJ p rd f (rd st).2).1,(DJ p rd f (rd st).2).2)else([],st)
def St.list{α:Type}(p:AH->Bool)(rd:St->α×St)(st:St):List α×St:=DJ p rd st.len st
def St.sett(D:Nat)(st:St):Ad×St:=
 (⟨(st.want [40]).name.1.1,((((st.want [40]).name.2.want [39]).want [61]).expr D).1,(st.want [40]).name.1.2⟩,((((st.want [40]).name.2.want [39]).want [61]).expr D).2.want [41])
def St.wght(st:St):Nat×St:=
 if st.hd.kind=2 then(AX st.hd.text,if AX st.hd.text=0 then .bad 33 st.hd.pos else st.tl.want [58])else(1,st)
def St.sets(D:Nat)(st:St):List Ad×St:=
 if AG st.hd Au then([],st.tl)else((st.sett D).1::((st.sett D).2.list (fun t=>AG t [38]) (fun s=>s.tl.sett D)).1,((st.sett D).2.list (fun t=>AG t [38]) (fun s=>s.tl.sett D)).2)
def St.brch(D:Nat)(st:St):Fe×St:=(⟨st.wght.1,(st.wght.2.sets D).1,st.hd.pos⟩,(st.wght.2.sets D).2)
def St.actn(st:St):List UInt8×St:=if AG st.hd [93]then([],st)else(st.name.1.1,st.name.2)
def St.guard(D:Nat)(st:St):Option Ex×St:=((st.want [91]).actn.2.want [93]).expr D
def St.brchs(D:Nat)(st:St):List Fe×St:=((st.brch D).1::((st.brch D).2.list (fun t=>AG t [43]) (fun s=>s.tl.brch D)).1,((st.brch D).2.list (fun t=>AG t [43]) (fun s=>s.tl.brch D)).2)
def St.cmnd(D:Nat)(st:St):Cp×St:=
 (⟨(st.want [91]).actn.1,(st.guard D).1,(((st.guard D).2.want [45,62]).brchs D).1,st.hd.pos⟩,(((st.guard D).2.want [45,62]).brchs D).2.want [59])
def St.vrbls(D:Nat)(st:St):List B7×St:=st.name.2.list CG (St.vrbl D)
def St.cmnds(D:Nat)(st:St):List Cp×St:=(st.vrbls D).2.list (fun t=>AG t [91]) (St.cmnd D)
def St.modl(D:Nat)(st:St):Ct×St:=(⟨st.name.1.1,(st.vrbls D).1,(st.cmnds D).1,st.name.1.2⟩,(st.cmnds D).2.want DG)
def Co(D:Nat)(st:St):List Ad×St:=st.list (fun t=>AG t AN) (fun s=>s.tl.defn D)
def Db(D:Nat)(st:St):List Ad×St:=st.list (fun t=>AG t AE) (fun s=>s.tl.defn D)
def Da(D:Nat)(st:St):List Ad×St:=st.list (fun t=>AG t BI) (fun s=>s.tl.labl D)
def Ek(D:Nat)(st:St):List Ct×St:=st.list (fun t=>AG t A8) (fun s=>s.tl.modl D)
def St.items(D:Nat)(m:AP)(st:St):AP×St:=
 if AG st.hd AN then({m with consts:=m.consts++(Co D st).1},(Co D st).2)
 else if AG st.hd AE then({m with formulas:=m.formulas++(Db D st).1},(Db D st).2)
 else if AG st.hd BI then({m with labels:=m.labels++(Da D st).1},(Da D st).2)
 else if AG st.hd A8 then({m with mods:=m.mods++(Ek D st).1},(Ek D st).2)
 else(m,st.fail 20)
def GI(D:Nat):Nat->AP->St->AP×St
 | 0,m,st=>(m,st)
 | f+1,m,st=>if st.hd.kind=0 then(m,st)else GI D f (st.items D m).1 (st.items D m).2
def St.mdlOn(D:Nat)(m:AP)(st:St):AP×St:=GI D st.len m st
def EQ:AP:=⟨[],[],[],[]⟩
def St.mdl(D:Nat)(st:St):AP×St:=(st.want D6).mdlOn D EQ
inductive MP where
 | ok (m:AP)
 | er (c p:Nat)
def Qh:AP×St->MP
 | (m,.good _)=>.ok m
 | (_,.bad c p)=>.er c p
def Bp(D:Nat)(l:List UInt8):MP:=
 match CE l with
 | .error x=>.er x.1 x.2
 | .ok ts=>Qh (St.mdl D (.good ts))
def Le(a b:St):Prop:=a.len<=b.len/\(b.Fine->a.Fine)
theorem Le.refl(a:St):Le a a:=⟨Nat.le_refl _,id⟩
theorem Le.trans{a b c:St}(h:Le a b)(k:Le b c):Le a c:=⟨Nat.le_trans h.1 k.1,fun d=>h.2 (k.2 d)⟩
theorem H8{st:St}(h:st.hd.kind≠0):∃us,st= .good us/\us≠[]:=by
 cases st with
 | bad c p=>exact absurd rfl h
 | good us=>exact⟨us,rfl,by rintro rfl;exact h rfl⟩
theorem Ds{st:St}(h:st.hd.kind≠0):Le st.tl st/\st.tl.len<st.len:=by obtain⟨c,rfl,b⟩:=H8 h;have d:0<c.length:=List.length_pos_iff.2 b;refine⟨⟨by simp[St.tl,St.len],fun a=>(Go.Proofs.YtodijgndbjfbgaaGreatDoor.Fine.more a h).1⟩,by simp[St.tl,St.len];omega⟩
theorem Gv{c:Nat}(st:St):Le (st.fail c) st:=by
 cases st with
 | bad c p=>exact Le.refl _
 | good a=>exact⟨Nat.zero_le _,fun _=>trivial⟩
theorem Bt(x:List UInt8)(st:St):Le (st.want x) st:=by
 unfold St.want;split
 · next h=>exact(Ds (AC h)).1
 · exact Gv st
theorem FH{t:AH}(h:CG t=true):t.kind=1/\Eh t.text=false:=by simpa[CG]using h
theorem GA(st:St):Le st.name.2 st:=by
 unfold St.name;split
 · next h=>exact(Ds (by rw[(FH h).1];decide)).1
 · exact Gv st
theorem Ub{st:St}(h:CG st.hd=true):st.name.2.len<st.len:=by unfold St.name;rw[if_pos h];exact(Ds (by rw[(FH h).1];decide)).2
theorem Ts(st:St):Le st.text.2 st:=by
 unfold St.text;split
 · next h=>exact(Ds (by rw[h];decide)).1
 · exact Gv st
theorem F4(D:Nat)(st:St):Le (st.expr D).2 st:=by
 cases st with
 | bad c p=>exact Le.refl _
 | good a=>
   have e:(St.good a).expr D=BJ ((dp D).c a):=rfl;rw[e];cases h:(dp D).c a with
   | er c p=>exact⟨Nat.zero_le _,fun _=>trivial⟩
   | ok e r=>have:=(GW D).c a e r h;exact⟨this.1,this.2⟩
theorem OM(D:Nat)(st:St):Le (st.mean D).2 st:=(Bt _ _).trans ((F4 D _).trans (Bt _ _))
theorem F1(D:Nat)(st:St):Le (st.defn D).2 st:=(OM D _).trans (GA _)
theorem IW(D:Nat)(st:St):Le (st.labl D).2 st:=(OM D _).trans (Ts _)
theorem Ty(D:Nat)(st:St):Le (st.bnds D).2 st:=(Bt _ _).trans ((F4 D _).trans ((Bt _ _).trans ((F4 D _).trans (Bt _ _))))
theorem S1(D:Nat)(st:St):Le (st.vals D).2 st:=by
 unfold St.vals;split
 · next h=>exact(Ds (AC h)).1
 · exact Ty D st
theorem Up(D:Nat)(st:St):Le (st.init D).2 st:=by
 unfold St.init;split
 · next h=>exact(F4 D _).trans (Ds (AC h)).1
 · exact Le.refl _
theorem Lg(D:Nat)(st:St):Le (st.vrbl D).2 st.name.2:=(Bt _ _).trans ((Up D _).trans ((S1 D _).trans (Bt _ _)))
theorem Tp(D:Nat)(st:St):Le (st.vrbl D).2 st:=(Lg D st).trans (GA _)
theorem OH(D:Nat){st:St}(h:CG st.hd=true):(st.vrbl D).2.len<st.len:=Nat.lt_of_le_of_lt (Lg D st).1 (Ub h)
section
variable {α:Type} {p:AH->Bool} {rd:St->α×St}
def H6(p:AH->Bool)(rd:St->α×St):Prop:=∀st,p st.hd=true->(rd st).2.len<st.len/\(st.Fine->(rd st).2.Fine)
theorem I4(hd:H6 p rd):∀(f g:Nat) (st:St),st.len<=f->st.len<=g->DJ p rd f st=DJ p rd g st
 | 0,0,st,_,_=>rfl
 | 0,g+1,st,h,_=>by
   simp only[DJ];split
   · next hp=>have:=(hd st hp).1;omega
   · rfl
 | f+1,0,st,_,h=>by
   simp only[DJ];split
   · next hp=>have:=(hd st hp).1;omega
   · rfl
 | f+1,g+1,st,h1,h2=>by
   simp only[DJ];split
   · next hp=>have:=(hd st hp).1;rw[I4 hd f g _ (by omega) (by omega)]
   · rfl
theorem C4(hd:H6 p rd){st:St}(h:p st.hd=true):st.list p rd=((rd st).1::((rd st).2.list p rd).1,((rd st).2.list p rd).2):=by
 have a:=(hd st h).1;unfold St.list;cases b:st.len with
 | zero=>omega
 | succ n=>rw[show DJ p rd (n+1) st=((rd st).1::(DJ p rd n (rd st).2).1,(DJ p rd n (rd st).2).2) by simp only[DJ,h,if_true]];rw[I4 hd n (rd st).2.len _ (by omega) (Nat.le_refl _)]
theorem Aq{st:St}(h:p st.hd=false):st.list p rd=([],st):=by
 unfold St.list;cases st.len with
 | zero=>rfl
 | succ n=>simp[DJ,h]
theorem LW(hd:H6 p rd):∀(f:Nat) (st:St),Le (DJ p rd f st).2 st
 | 0,st=>Le.refl _
 | f+1,st=>by
   simp only[DJ];split
   · next hp=>have:=hd st hp;exact(LW hd f _).trans ⟨by omega,this.2⟩
   · exact Le.refl _
theorem ED(hd:H6 p rd)(st:St):Le (st.list p rd).2 st:=LW hd _ st
end
theorem Ef{α:Type}{x:List UInt8}{rd:St->α×St}(h:∀st,Le (rd st).2 st):H6 (fun t=>AG t x) (fun s=>rd s.tl):=by intro st b;have:=Ds (AC b);exact⟨Nat.lt_of_le_of_lt (h _).1 this.2,fun a=>(h _).2 (this.1.2 a)⟩
theorem Gj(D:Nat)(st:St):Le (st.sett D).2 st:=(Bt _ _).trans ((F4 D _).trans ((Bt _ _).trans ((Bt _ _).trans ((GA _).trans (Bt _ _)))))
theorem Es(D:Nat):H6 (fun t=>AG t [38]) (fun s=>s.tl.sett D):=Ef (Gj D)
theorem OE(st:St):Le st.wght.2 st:=by
 unfold St.wght;split
 · next h=>
   dsimp only;split
   · exact⟨Nat.zero_le _,fun _=>trivial⟩
   · exact(Bt _ _).trans (Ds (by rw[h];decide)).1
 · exact Le.refl _
theorem Ud(D:Nat)(st:St):Le (st.sets D).2 st:=by
 unfold St.sets;split
 · next h=>exact(Ds (AC h)).1
 · exact(ED (Es D) _).trans (Gj D st)
theorem Iq(D:Nat)(st:St):Le (st.brch D).2 st:=(Ud D _).trans (OE _)
theorem Er(D:Nat):H6 (fun t=>AG t [43]) (fun s=>s.tl.brch D):=Ef (Iq D)
theorem Tu(st:St):Le st.actn.2 st:=by
 unfold St.actn;split
 · exact Le.refl _
 · exact GA _
theorem RW(D:Nat)(st:St):Le (st.brchs D).2 st:=(ED (Er D) _).trans (Iq D st)
theorem LE(D:Nat)(st:St):Le (st.cmnd D).2 (st.want [91]):=(Bt _ _).trans ((RW D _).trans ((Bt _ _).trans ((F4 D _).trans ((Bt _ _).trans (Tu _)))))
theorem UJ(D:Nat)(st:St):Le (st.cmnd D).2 st:=(LE D st).trans (Bt _ _)
theorem Ux{x:List UInt8}{st:St}(h:AG st.hd x=true):(st.want x).len<st.len:=by unfold St.want;rw[if_pos h];exact(Ds (AC h)).2
theorem FB(D:Nat):H6 CG (St.vrbl D):=fun _ h=>⟨OH D h,(Tp D _).2⟩
theorem EL(D:Nat):H6 (fun t=>AG t [91]) (St.cmnd D):=fun a h=>⟨Nat.lt_of_le_of_lt (LE D a).1 (Ux h),(UJ D _).2⟩
theorem Rz(D:Nat)(st:St):Le (st.vrbls D).2 st:=(ED (FB D) _).trans (GA _)
theorem Rw(D:Nat)(st:St):Le (st.cmnds D).2 st:=(ED (EL D) _).trans (Rz D st)
theorem Ia(D:Nat)(st:St):Le (st.modl D).2 st:=(Bt _ _).trans (Rw D st)
theorem C1(D:Nat)(x:List UInt8):H6 (fun t=>AG t x) (fun s=>s.tl.defn D):=Ef (F1 D)
theorem Fn(D:Nat)(x:List UInt8):H6 (fun t=>AG t x) (fun s=>s.tl.labl D):=Ef (IW D)
theorem Fv(D:Nat)(x:List UInt8):H6 (fun t=>AG t x) (fun s=>s.tl.modl D):=Ef (Ia D)
theorem IX{α:Type}{p:AH->Bool}{rd:St->α×St}(hd:H6 p rd){st:St}(h:p st.hd=true):(st.list p rd).2.len<st.len:=by rw[C4 hd h];exact Nat.lt_of_le_of_lt (ED hd _).1 (hd st h).1
theorem Fq(D:Nat)(m:AP){st:St}(h0:st.hd.kind≠0):Le (st.items D m).2 st/\(st.items D m).2.len<st.len:=by
 unfold St.items;split
 · next h=>exact⟨ED (C1 D _) st,IX (C1 D _) h⟩
 · split
   · next h=>exact⟨ED (C1 D _) st,IX (C1 D _) h⟩
   · split
     · next h=>exact⟨ED (Fn D _) st,IX (Fn D _) h⟩
     · split
       · next h=>exact⟨ED (Fv D _) st,IX (Fv D _) h⟩
       · obtain⟨a,rfl,b⟩:=H8 h0;exact⟨Gv (c:=20) (St.good a),show 0<a.length from List.length_pos_iff.2 b⟩
theorem KF(D:Nat):∀(f g:Nat) (m:AP) (st:St),st.len<=f->st.len<=g->GI D f m st=GI D g m st
 | 0,0,m,st,_,_=>rfl
 | 0,g+1,m,st,h,_=>by
   simp only[GI];split
   · rfl
   · next h0=>have:=(Fq D m h0).2;omega
 | f+1,0,m,st,_,h=>by
   simp only[GI];split
   · rfl
   · next h0=>have:=(Fq D m h0).2;omega
 | f+1,g+1,m,st,h1,h2=>by
   simp only[GI];split
   · rfl
   · next h0=>have:=(Fq D m h0).2;exact KF D f g _ _ (by omega) (by omega)
theorem EP(D:Nat){m:AP}{st:St}(h0:st.hd.kind≠0):st.mdlOn D m=(st.items D m).2.mdlOn D (st.items D m).1:=by
 have a:=(Fq D m h0).2;unfold St.mdlOn;cases b:st.len with
 | zero=>omega
 | succ n=>rw[show GI D (n+1) m st=GI D n (st.items D m).1 (st.items D m).2 by simp only[GI,h0,if_false]];exact KF D _ _ _ _ (by omega) (Nat.le_refl _)
theorem F0(D:Nat){m:AP}{st:St}(h0:st.hd.kind=0):st.mdlOn D m=(m,st):=by
 unfold St.mdlOn;cases st.len with
 | zero=>rfl
 | succ n=>simp[GI,h0]
end
section
section
theorem Lo(D:Nat)(m:AP){st:St}(h:AG st.hd AN=true):st.mdlOn D m=(st.tl.defn D).2.mdlOn D {m with consts:=m.consts++[(st.tl.defn D).1]}:=by
 rw[EP D (AC h)];have e:st.items D m=({m with consts:=m.consts++(Co D st).1},(Co D st).2):=(by unfold St.items;rw[if_pos h]);rw[e];have f:Co D st=((st.tl.defn D).1::(Co D (st.tl.defn D).2).1,(Co D (st.tl.defn D).2).2):=C4 (C1 D AN) h;rw[f];cases d:AG (st.tl.defn D).2.hd AN with
 | true=>rw[EP D (AC d)];have b:∀a,(st.tl.defn D).2.items D a=({a with consts:=a.consts++(Co D (st.tl.defn D).2).1},(Co D (st.tl.defn D).2).2):=fun a=>(by unfold St.items;rw[if_pos d]);rw[b];simp
 | false=>have c:Co D (st.tl.defn D).2=([],(st.tl.defn D).2):=Aq d;rw[c]
theorem Lv(D:Nat)(m:AP){st:St}(h0:AG st.hd AN=false)(h:AG st.hd AE=true):st.mdlOn D m=(st.tl.defn D).2.mdlOn D {m with formulas:=m.formulas++[(st.tl.defn D).1]}:=by
 rw[EP D (AC h)];have f:st.items D m=({m with formulas:=m.formulas++(Db D st).1},(Db D st).2):=(by unfold St.items;rw[if_neg (by simp[h0]),if_pos h]);rw[f];have g:Db D st=((st.tl.defn D).1::(Db D (st.tl.defn D).2).1,(Db D (st.tl.defn D).2).2):=C4 (C1 D AE) h;rw[g];cases a:AG (st.tl.defn D).2.hd AE with
 | true=>
   have e:AG (st.tl.defn D).2.hd AN=false:=by
    cases i:AG (st.tl.defn D).2.hd AN with
    | false=>rfl
    | true=>exact absurd ((Ao i).symm.trans (Ao a)) (by decide)
   rw[EP D (AC a)];have c:∀b,(st.tl.defn D).2.items D b=({b with formulas:=b.formulas++(Db D (st.tl.defn D).2).1},(Db D (st.tl.defn D).2).2):=fun b=>(by unfold St.items;rw[if_neg (by simp[e]),if_pos a]);rw[c];simp
 | false=>have d:Db D (st.tl.defn D).2=([],(st.tl.defn D).2):=Aq a;rw[d]
theorem LR(D:Nat)(m:AP){st:St}(h0:AG st.hd AN=false)(h1:AG st.hd AE=false)(h:AG st.hd BI=true):st.mdlOn D m=(st.tl.labl D).2.mdlOn D {m with labels:=m.labels++[(st.tl.labl D).1]}:=by
 rw[EP D (AC h)];have f:st.items D m=({m with labels:=m.labels++(Da D st).1},(Da D st).2):=(by unfold St.items;rw[if_neg (by simp[h0]),if_neg (by simp[h1]),if_pos h]);rw[f];have g:Da D st=((st.tl.labl D).1::(Da D (st.tl.labl D).2).1,(Da D (st.tl.labl D).2).2):=C4 (Fn D BI) h;rw[g];cases a:AG (st.tl.labl D).2.hd BI with
 | true=>
   have e:∀x,x≠BI->AG (st.tl.labl D).2.hd x=false:=fun x i=>by
    cases j:AG (st.tl.labl D).2.hd x with
    | false=>rfl
    | true=>exact absurd ((Ao j).symm.trans (Ao a)) i
   rw[EP D (AC a)];have c:∀b,(st.tl.labl D).2.items D b=({b with labels:=b.labels++(Da D (st.tl.labl D).2).1},(Da D (st.tl.labl D).2).2):=fun b=>(by unfold St.items;rw[if_neg (by simp[e AN (by decide)]),if_neg (by simp[e AE (by decide)]),if_pos a]);rw[c];simp
 | false=>have d:Da D (st.tl.labl D).2=([],(st.tl.labl D).2):=Aq a;rw[d]
theorem MF(D:Nat)(m:AP){st:St}(h0:AG st.hd AN=false)(h1:AG st.hd AE=false)(h2:AG st.hd BI=false)(h:AG st.hd A8=true):st.mdlOn D m=(st.tl.modl D).2.mdlOn D {m with mods:=m.mods++[(st.tl.modl D).1]}:=by
 rw[EP D (AC h)];have f:st.items D m=({m with mods:=m.mods++(Ek D st).1},(Ek D st).2):=(by unfold St.items;rw[if_neg (by simp[h0]),if_neg (by simp[h1]),if_neg (by simp[h2]),if_pos h]);rw[f];have g:Ek D st=((st.tl.modl D).1::(Ek D (st.tl.modl D).2).1,(Ek D (st.tl.modl D).2).2):=C4 (Fv D A8) h;rw[g];cases a:AG (st.tl.modl D).2.hd A8 with
 | true=>
   have c:∀x,x≠A8->AG (st.tl.modl D).2.hd x=false:=fun x i=>by
    cases j:AG (st.tl.modl D).2.hd x with
    | false=>rfl
    | true=>exact absurd ((Ao j).symm.trans (Ao a)) i
   rw[EP D (AC a)];have d:∀b,(st.tl.modl D).2.items D b=({b with mods:=b.mods++(Ek D (st.tl.modl D).2).1},(Ek D (st.tl.modl D).2).2):=fun b=>(by unfold St.items;rw[if_neg (by simp[c AN (by decide)]),if_neg (by simp[c AE (by decide)]),if_neg (by simp[c BI (by decide)]),if_pos a]);rw[d];simp
 | false=>have e:Ek D (st.tl.modl D).2=([],(st.tl.modl D).2):=Aq a;rw[e]
theorem G8(D:Nat)(m:AP)(c p:Nat):(St.bad c p).mdlOn D m=(m,.bad c p):=F0 D rfl
theorem RF(D:Nat)(m:AP){st:St}(hk:st.hd.kind≠0)(h0:AG st.hd AN=false)(h1:AG st.hd AE=false)(h2:AG st.hd BI=false)(h3:AG st.hd A8=false):∃c p,st.mdlOn D m=(m,.bad c p):=by rw[EP D hk];have a:st.items D m=(m,st.fail 20):=(by unfold St.items;rw[if_neg (by simp[h0]),if_neg (by simp[h1]),if_neg (by simp[h2]),if_neg (by simp[h3])]);rw[a];obtain⟨b,rfl,_⟩:=H8 hk;exact⟨20,(hd b).pos,G8 D m _ _⟩
end
end
section
section
def D7:Option Ex->List UInt8
 | some e=>AR e
 | none=>[]
def AF(b:List UInt8):List (List UInt8)->List UInt8
 | []=>[]
 | [x]=>x
 | x::y::r=>x++b++AF b (y::r)
def AY(w:List UInt8)(d:Ad):List UInt8:=w++32::(d.nm++([32,61,32]++(D7 d.x++[59,10])))
def BY(d:Ad):List UInt8:=BI++32::(34::d.nm++34::([32,61,32]++(D7 d.x++[59,10])))
def CS(v:B7):List UInt8:=if v.isB then D5 else 91::(D7 v.low++([46,46]++(D7 v.high++[93])))
def Ap(v:B7):List UInt8:=[32,32]++(v.nm++([32,58,32]++(CS v++((if v.has then 32::(CA++32::D7 v.ini)else[])++[59,10]))))
def Ax(d:Ad):List UInt8:=40::(d.nm++([39,32,61,32]++(D7 d.x++[41])))
def Bs(b:Fe):List UInt8:=CJ b.wt++([32,58,32]++(if b.sets=[]then Au else AF [32,38,32] (b.sets.map Ax)))
def BO(c:Cp):List UInt8:=[32,32,91]++(c.act++([93,32]++(D7 c.guard++([32,45,62,32]++(AF [32,43,32] (c.brs.map Bs)++[59,10])))))
def BR(m:Ct):List UInt8:=A8++32::(m.nm++10::((m.vars.map Ap).flatten++((m.cmds.map BO).flatten++(DG++[10]))))
def Gs(m:AP):List UInt8:=D6++10::((m.consts.map (AY AN)).flatten++((m.formulas.map (AY AE)).flatten++((m.labels.map BY).flatten++(m.mods.map BR).flatten)))
end
end
section
def TQ(Q:AH->Prop)(us:List AH):Prop:=∀t∈us,Q t
theorem C2{Q:AH->Prop}{us:List AH}(h:TQ Q us):TQ Q us.tail:=fun t a=>h t (List.mem_of_mem_tail a)
def Jj(Q:AH->Prop)(F:List AH->PR):Prop:=∀us e r,TQ Q us->F us= .ok e r->TQ Q r
structure XL(Q:AH->Prop)(d:Dp):Prop where
 c:Jj Q d.c
 i:Jj Q d.i
 n:Jj Q d.n
 m:Jj Q d.m
section
variable {Q:AH->Prop}
theorem Tc{d:Dp}(h:XL Q d):Jj Q (Bj d):=by
 intro k e r i a;unfold Bj at a;split at a
 · obtain⟨b,j,f,_,rfl,rfl⟩:=EG a;exact C2 (h.c _ _ _ (C2 i) f)
 · split at a
   · injection a with f g
     subst f g;exact C2 i
   · split at a
     · injection a with f g
       subst f g;exact C2 i
     · cases a
theorem Ra{d:Dp}(h:XL Q d):Jj Q (Ah d):=by
 intro g e r c a;unfold Ah at a;split at a
 · obtain⟨b,f,rfl⟩:=Cm a;exact h.m _ _ _ (C2 c) f
 · exact Tc h g e r c a
theorem Jy{k:Nat}{F:List AH->PR}(hF:Jj Q F):∀(f:Nat) (e:Ex) (us:List AH) (x:Ex) (r:List AH),TQ Q us->BZ k F f e us= .ok x r->TQ Q r
 | 0,e,us,x,r,h1,h=>by
   injection h with h h'
   subst h h';exact h1
 | f+1,e,us,x,r,h1,h=>by
   rw[BZ]at h;split at h
   · split at h
     · cases h
     · rename_i e' r' hj;obtain⟨b,h3,rfl⟩:=Aj hj;exact Jy hF f _ r' x r (hF _ _ _ (C2 h1) h3) h
   · injection h with h h'
     subst h h';exact h1
theorem Gq{k:Nat}{F:List AH->PR}(hF:Jj Q F):Jj Q (Ar k F):=by
 intro d x r b h;unfold Ar at h;cases a:F d with
 | er c p=>rw[a]at h;cases h
 | ok e f=>rw[a]at h;exact Jy hF _ _ _ _ _ (hF _ _ _ b a) h
theorem Sw{d:Dp}(hF:Jj Q (Cu d)):Jj Q (BC d):=by
 intro k x r j h;unfold BC at h;cases e:Cu d k with
 | er c p=>rw[e]at h;cases h
 | ok a l=>
   rw[e]at h;have f:=hF _ _ _ j e;simp only[Fd]at h;split at h
   · obtain⟨b,i,rfl⟩:=Aj h;exact hF _ _ _ (C2 f) i
   · injection h with h g
     subst h g;exact f
theorem WL{d:Dp}(h4:XL Q d)(hF:Jj Q (BC d)):Jj Q (Ch d):=by
 intro g e r c a;unfold Ch at a;split at a
 · obtain⟨b,f,rfl⟩:=Cm a;exact h4.n _ _ _ (C2 c) f
 · exact hF g e r c a
theorem Uv{d:Dp}(h4:XL Q d)(hF:Jj Q (CK d)):Jj Q (Am d):=by
 intro l x r k h;unfold Am at h;cases e:CK d l with
 | er c p=>rw[e]at h;cases h
 | ok a m=>
   rw[e]at h;have f:=hF _ _ _ k e;simp only[Fm]at h;split at h
   · obtain⟨b,j,rfl⟩:=Aj h;exact h4.i _ _ _ (C2 f) j
   · injection h with h g
     subst h g;exact f
theorem Uy{d:Dp}(h4:XL Q d)(hF:Jj Q (Am d)):Jj Q (Bd d):=by
 intro n x r k h;obtain⟨a,l,f,g⟩:=Dv h;have e:=hF _ _ _ k f;rcases g with⟨_,rfl,rfl⟩ | ⟨_,b,m,i,_,c,j,rfl⟩
 · exact e
 · exact h4.c _ _ _ (C2 (h4.c _ _ _ (C2 e) i)) j
theorem VW:∀l,XL Q (dp l)
 | 0=>⟨(fun _ _ _ _ h=>nomatch h),(fun _ _ _ _ h=>nomatch h),(fun _ _ _ _ h=>nomatch h),(fun _ _ _ _ h=>nomatch h)⟩
 | l+1=>by have h:=VW l;have m:=Ra h;have p:Jj Q (EY (dp l)):=Gq m;have s:Jj Q (Cu (dp l)):=Gq p;have n:=WL h (Sw s);have a:Jj Q (Eb (dp l)):=Gq n;have o:Jj Q (CK (dp l)):=Gq a;have i:=Uv h o;exact⟨Uy h i,i,n,m⟩
end
def So(l:List UInt8):Prop:=0<l.length/\l.length<=32/\∀x∈l,AK x=true
def Yj(t:AH):Prop:=t.kind=3->So t.text
def FL:St->Prop
 | .good us=>Fine us/\TQ Yj us
 | .bad _ _=>True
theorem K4(c:Nat)(st:St):FL (st.fail c):=by cases st<;>trivial
theorem EN{st:St}(h:FL st)(h0:st.hd.kind≠0):FL st.tl:=by obtain⟨b,rfl,a⟩:=H8 h0;exact⟨(Go.Proofs.YtodijgndbjfbgaaGreatDoor.Fine.more h.1 h0).1,C2 h.2⟩
theorem Af(x:List UInt8){st:St}(h:FL st):FL (st.want x):=by
 unfold St.want;split
 · next g=>exact EN h (AC g)
 · exact K4 _ _
theorem EE{st:St}(h:FL st):FL st.name.2:=by
 unfold St.name;split
 · next g=>exact EN h (by rw[(FH g).1];decide)
 · exact K4 _ _
theorem No{st:St}(h:FL st):FL st.text.2:=by
 unfold St.text;split
 · next g=>exact EN h (by rw[g];decide)
 · exact K4 _ _
theorem FC(D:Nat){st:St}(h:FL st):FL (st.expr D).2:=by
 cases st with
 | bad c p=>trivial
 | good a=>
   have e:(St.good a).expr D=BJ ((dp D).c a):=rfl;rw[e];cases b:(dp D).c a with
   | er c p=>trivial
   | ok x r=>exact⟨((GW D).c a x r b).2 h.1,(VW D).c a x r h.2 b⟩
theorem N6(D:Nat){st:St}(h:FL st):FL (st.mean D).2:=Af _ (FC D (Af _ h))
theorem OI(D:Nat){st:St}(h:FL st):FL (st.defn D).2:=N6 D (EE h)
theorem Uo(D:Nat){st:St}(h:FL st):FL (st.labl D).2:=N6 D (No h)
theorem Uq(D:Nat){st:St}(h:FL st):FL (st.bnds D).2:=Af _ (FC D (Af _ (FC D (Af _ h))))
theorem Nw(D:Nat){st:St}(h:FL st):FL (st.vals D).2:=by
 unfold St.vals;split
 · next g=>exact EN h (AC g)
 · exact Uq D h
theorem UL(D:Nat){st:St}(h:FL st):FL (st.init D).2:=by
 unfold St.init;split
 · next g=>exact FC D (EN h (AC g))
 · exact h
theorem OP(D:Nat){st:St}(h:FL st):FL (st.vrbl D).2:=Af _ (UL D (Nw D (Af _ (EE h))))
theorem Ib{α:Type}{p:AH->Bool}{rd:St->α×St}(hd:H6 p rd)(hr:∀st,FL st->p st.hd=true->FL (rd st).2):∀(n:Nat) (st:St),st.len<=n->FL st->FL (st.list p rd).2:=by
 intro n;induction n with
 | zero=>
   intro st b h;cases a:p st.hd with
   | false=>rw[Aq a];exact h
   | true=>have:=(hd st a).1;omega
 | succ n c=>
   intro st b h;cases a:p st.hd with
   | false=>rw[Aq a];exact h
   | true=>rw[C4 hd a];exact c _ (by have:=(hd st a).1;omega) (hr st h a)
theorem IQ(D:Nat){st:St}(h:FL st):FL (st.sett D).2:=Af _ (FC D (Af _ (Af _ (EE (Af _ h)))))
theorem Tz(D:Nat){st:St}(h:FL st):FL (st.list (fun t=>AG t [38]) (fun s=>s.tl.sett D)).2:=Ib (Es D) (fun _ h g=>IQ D (EN h (AC g))) _ st (Nat.le_refl _) h
theorem OD{st:St}(h:FL st):FL st.wght.2:=by
 unfold St.wght;split
 · next g=>
   dsimp only;split
   · trivial
   · exact Af _ (EN h (by rw[g];decide))
 · exact h
theorem TI(D:Nat){st:St}(h:FL st):FL (st.sets D).2:=by
 unfold St.sets;split
 · next g=>exact EN h (AC g)
 · exact Tz D (IQ D h)
theorem IS(D:Nat){st:St}(h:FL st):FL (st.brch D).2:=TI D (OD h)
theorem Wl(D:Nat){st:St}(h:FL st):FL (st.list (fun t=>AG t [43]) (fun s=>s.tl.brch D)).2:=Ib (Er D) (fun _ h g=>IS D (EN h (AC g))) _ st (Nat.le_refl _) h
theorem Nq{st:St}(h:FL st):FL st.actn.2:=by
 unfold St.actn;split
 · exact h
 · exact EE h
theorem Ls(D:Nat){st:St}(h:FL st):FL (st.guard D).2:=FC D (Af _ (Nq (Af _ h)))
theorem Qy(D:Nat){st:St}(h:FL st):FL (st.brchs D).2:=Wl D (IS D h)
theorem N1(D:Nat){st:St}(h:FL st):FL (st.cmnd D).2:=Af _ (Qy D (Af _ (Ls D h)))
theorem Wp(D:Nat){st:St}(h:FL st):FL (st.list CG (St.vrbl D)).2:=Ib (FB D) (fun _ h _=>OP D h) _ st (Nat.le_refl _) h
theorem Wf(D:Nat){st:St}(h:FL st):FL (st.list (fun t=>AG t [91]) (St.cmnd D)).2:=Ib (EL D) (fun _ h _=>N1 D h) _ st (Nat.le_refl _) h
theorem LN(D:Nat){st:St}(h:FL st):FL (st.vrbls D).2:=Wp D (EE h)
theorem Qp(D:Nat){st:St}(h:FL st):FL (st.cmnds D).2:=Wf D (LN D h)
theorem S7(D:Nat){st:St}(h:FL st):FL (st.modl D).2:=Af _ (Qp D h)
def XI(l:List UInt8):Prop:=QZ l/\Eh l=false
def J3(D:Nat)(x:Option Ex):Prop:=∃e,x=some e/\Ok e/\1+nd e<=D
def S8(D:Nat)(d:Ad):Prop:=XI d.nm/\J3 D d.x
def WF(D:Nat)(d:Ad):Prop:=So d.nm/\J3 D d.x
structure Xm(D:Nat)(v:B7):Prop where
 nm:XI v.nm
 vl:(v.isB=true/\v.low=none/\v.high=none)∨(v.isB=false/\J3 D v.low/\J3 D v.high)
 ini:(v.has=true/\J3 D v.ini)∨(v.has=false/\v.ini=none)
structure XJ(D:Nat)(b:Fe):Prop where
 wt:0<b.wt/\b.wt<9223372036854775808
 ss:∀s∈b.sets,S8 D s
structure Xo(D:Nat)(c:Cp):Prop where
 ac:c.act=[]∨XI c.act
 gd:J3 D c.guard
 ne:c.brs≠[]
 bs:∀b∈c.brs,XJ D b
structure UB(D:Nat)(m:Ct):Prop where
 nm:XI m.nm
 vs:∀v∈m.vars,Xm D v
 cs:∀c∈m.cmds,Xo D c
structure WA(D:Nat)(m:AP):Prop where
 cs:∀d∈m.consts,S8 D d
 fs:∀d∈m.formulas,S8 D d
 ls:∀d∈m.labels,WF D d
 ms:∀d∈m.mods,UB D d
theorem K1{c:Nat}{st:St}{r:List AH}(h:st.fail c= .good r):False:=by cases st<;>cases h
theorem DZ{st:St}{r:List AH}(h0:st.hd.kind≠0)(h:st.tl= .good r):∃us,st= .good us/\BP us=st.hd.text.length+BP r:=by
 obtain⟨us,rfl,a⟩:=H8 h0;injection h with h
 exact⟨us,rfl,by rw[C3 a,h];rfl⟩
theorem CX{x:List UInt8}{st:St}{r:List AH}(h:st.want x= .good r):∃us,st= .good us/\BP us=x.length+BP r:=by
 unfold St.want at h;split at h
 · next g=>obtain⟨us,a,b⟩:=DZ (AC g) h;exact⟨us,a,by rw[b,Ao g]⟩
 · exact(K1 h).elim
theorem Ks{l:List UInt8}(h:QZ l):1<=l.length:=by obtain⟨⟨c,r,rfl,_⟩,_⟩:=h;simp
theorem JN{st:St}{r:List AH}(hF:FL st)(h:st.name.2= .good r):∃us,st= .good us/\XI st.name.1.1/\BP us=st.name.1.1.length+BP r:=by
 unfold St.name at h ⊢;split at h
 · next g=>rw[if_pos g];have a:=FH g;obtain⟨us,rfl,b⟩:=DZ (by rw[a.1];decide) h;obtain⟨c,s,d,e,f⟩:=Go.Proofs.YtodijgndbjfbgaaGreatDoor.Fine.name hF.1 a.1;exact⟨us,rfl,⟨⟨⟨c,s,d,e⟩,f⟩,a.2⟩,b⟩
 · exact(K1 h).elim
theorem Wn{st:St}{r:List AH}(hF:FL st)(h:st.text.2= .good r):∃us,st= .good us/\So st.text.1.1/\BP us=st.text.1.1.length+BP r:=by
 unfold St.text at h ⊢;split at h
 · next g=>
   rw[if_pos g];have a:st.hd.kind≠0:=(by rw[g];decide);obtain⟨us,rfl,b⟩:=DZ a h;have c:us≠[]:=(by rintro rfl;exact a rfl);refine⟨us,rfl,hF.2 (St.good us).hd ?_ g,b⟩;cases us with
   | nil=>exact absurd rfl c
   | cons t s=>exact List.mem_cons_self
 · exact(K1 h).elim
theorem Hy{D:Nat}{st:St}{r:List AH}(hF:FL st)(h:(st.expr D).2= .good r):∃us,st= .good us/\J3 D (st.expr D).1/\(D7 (st.expr D).1).length+2+5*BP r<=5*BP us:=by
 cases st with
 | bad c p=>cases h
 | good us=>
   have e:(St.good us).expr D=BJ ((dp D).c us):=rfl;rw[e]at h ⊢;cases a:(dp D).c us with
   | er c p=>rw[a]at h;cases h
   | ok x d=>
     rw[a]at h;injection h with h
     subst h;have b:=(VD D).c us x d hF.1 a;exact⟨us,rfl,⟨x,rfl,b.1,by have:=b.2;omega⟩,(VY D).c us x d hF.1 a⟩
theorem QQ{D:Nat}{st:St}{r:List AH}(hF:FL st)(h:(st.mean D).2= .good r):∃us,st= .good us/\J3 D (st.mean D).1/\(D7 (st.mean D).1).length+12+5*BP r<=5*BP us:=by obtain⟨j,a,e⟩:=CX (st:=((st.want [61]).expr D).2) h;obtain⟨k,b,d,i⟩:=Hy (Af _ hF) a;obtain⟨g,c,f⟩:=CX b;refine⟨g,c,d,?_⟩;have:(st.mean D).1=((st.want [61]).expr D).1:=rfl;rw[this];simp only[List.length_cons,List.length_nil]at e f;omega
theorem Q0{D:Nat}{st:St}{r:List AH}(hF:FL st)(h:(st.defn D).2= .good r):∃us,st= .good us/\S8 D (st.defn D).1/\(st.defn D).1.nm.length+(D7 (st.defn D).1.x).length+16+5*BP r<=5*BP us:=by obtain⟨k,d,f,i⟩:=QQ (EE hF) h;obtain⟨g,e,a,j⟩:=JN hF d;refine⟨g,e,⟨a,f⟩,?_⟩;have b:(st.defn D).1.nm=st.name.1.1:=rfl;have c:(st.defn D).1.x=(st.name.2.mean D).1:=rfl;have:=Ks a.1;rw[b,c];omega
theorem WW{D:Nat}{st:St}{r:List AH}(hF:FL st)(h:(st.labl D).2= .good r):∃us,st= .good us/\WF D (st.labl D).1/\(st.labl D).1.nm.length+(D7 (st.labl D).1.x).length+16+5*BP r<=5*BP us:=by obtain⟨k,d,f,i⟩:=QQ (No hF) h;obtain⟨g,e,a,j⟩:=Wn hF d;refine⟨g,e,⟨a,f⟩,?_⟩;have b:(st.labl D).1.nm=st.text.1.1:=rfl;have c:(st.labl D).1.x=(st.text.2.mean D).1:=rfl;have:=a.1;rw[b,c];omega
theorem WZ{D:Nat}{st:St}{r:List AH}(hF:FL st)(h:(st.bnds D).2= .good r):∃us,st= .good us/\(J3 D (st.bnds D).1.1/\J3 D (st.bnds D).1.2)/\(D7 (st.bnds D).1.1).length+(D7 (st.bnds D).1.2).length+24+5*BP r<=5*BP us:=by obtain⟨s,d,l⟩:=CX (st:=(st.high D).2) h;have a:FL (st.low D).2:=FC D (Af _ hF);obtain⟨t,e,j,p⟩:=Hy (st:=(st.low D).2.want [46,46]) (Af _ a) d;obtain⟨u,f,m⟩:=CX e;obtain⟨v,g,k,q⟩:=Hy (st:=st.want [91]) (Af _ hF) f;obtain⟨o,i,n⟩:=CX g;refine⟨o,i,⟨k,j⟩,?_⟩;have b:(st.bnds D).1.1=((st.want [91]).expr D).1:=rfl;have c:(st.bnds D).1.2=(((st.low D).2.want [46,46]).expr D).1:=rfl;rw[b,c];simp only[List.length_cons,List.length_nil]at l m n;omega
theorem WX{D:Nat}{st:St}{r:List AH}(hF:FL st)(h:(st.vals D).2= .good r):∃us,st= .good us/\(((st.vals D).1.1=true/\(st.vals D).1.2.1=none/\(st.vals D).1.2.2=none)∨((st.vals D).1.1=false/\J3 D (st.vals D).1.2.1/\J3 D (st.vals D).1.2.2))/\(D7 (st.vals D).1.2.1).length+(D7 (st.vals D).1.2.2).length+4+5*BP r<=5*BP us:=by
 unfold St.vals at h ⊢;split at h
 · next g=>rw[if_pos g];obtain⟨us,b,a⟩:=DZ (AC g) h;rw[Ao g]at a;have:D5.length=4:=rfl;exact⟨us,b,.inl ⟨rfl,rfl,rfl⟩,by simp only[D7,List.length_nil];omega⟩
 · next g=>rw[if_neg g];obtain⟨us,b,a,c⟩:=WZ hF h;exact⟨us,b,.inr ⟨rfl,a.1,a.2⟩,by dsimp only;omega⟩
theorem Wu{D:Nat}{st:St}{r:List AH}(hF:FL st)(h:(st.init D).2= .good r):∃us,st= .good us/\(((st.init D).1.2=true/\J3 D (st.init D).1.1)∨((st.init D).1.2=false/\(st.init D).1.1=none))/\(if(st.init D).1.2 then 6 else 0)+(D7 (st.init D).1.1).length+5*BP r<=5*BP us:=by
 unfold St.init at h ⊢;split at h
 · next g=>rw[if_pos g];obtain⟨f,a,c,e⟩:=Hy (EN hF (AC g)) h;obtain⟨us,b,d⟩:=DZ (AC g) a;rw[Ao g]at d;have:CA.length=4:=rfl;refine⟨us,b,.inl ⟨rfl,c⟩,?_⟩;dsimp only;rw[if_pos rfl];omega
 · next g=>rw[if_neg g];exact⟨r,h,.inr ⟨rfl,rfl⟩,by simp[D7]⟩
theorem Pw(v:B7):(Ap v).length<=v.nm.length+(D7 v.low).length+(D7 v.high).length+(D7 v.ini).length+(if v.has then 6 else 0)+11:=by
 unfold Ap CS;have c:D5.length=4:=rfl;have d:CA.length=4:=rfl;by_cases a:v.isB=true<;>by_cases b:v.has=true
 · simp only[if_pos a,if_pos b,List.length_append,List.length_cons,List.length_nil];omega
 · simp only[if_pos a,if_neg b,List.length_append,List.length_cons,List.length_nil];omega
 · simp only[if_neg a,if_pos b,List.length_append,List.length_cons,List.length_nil];omega
 · simp only[if_neg a,if_neg b,List.length_append,List.length_cons,List.length_nil];omega
theorem Vg{D:Nat}{st:St}{r:List AH}(hF:FL st)(h:(st.vrbl D).2= .good r):∃us,st= .good us/\Xm D (st.vrbl D).1/\(Ap (st.vrbl D).1).length+5*BP r<=5*BP us:=by obtain⟨x,i,q⟩:=CX (st:=(((st.name.2.want [58]).vals D).2.init D).2) h;have a:=Af [58] (EE hF);obtain⟨y,j,o,u⟩:=Wu (Nw D a) i;obtain⟨z,k,p,v⟩:=WX a j;obtain⟨A,l,s⟩:=CX k;obtain⟨t,m,b,w⟩:=JN hF l;refine⟨t,m,⟨b,p,o⟩,?_⟩;have n:=Pw (st.vrbl D).1;have c:(st.vrbl D).1.nm=st.name.1.1:=rfl;have d:(st.vrbl D).1.low=((st.name.2.want [58]).vals D).1.2.1:=rfl;have e:(st.vrbl D).1.high=((st.name.2.want [58]).vals D).1.2.2:=rfl;have f:(st.vrbl D).1.ini=(((st.name.2.want [58]).vals D).2.init D).1.1:=rfl;have g:(st.vrbl D).1.has=(((st.name.2.want [58]).vals D).2.init D).1.2:=rfl;rw[c,d,e,f,g]at n;have:=Ks b.1;simp only[List.length_cons,List.length_nil]at q s;omega
theorem Kx{α:Type}{p:AH->Bool}{rd:St->α×St}{P:α->Prop}{ln:α->Nat}(hd:H6 p rd)(hr:∀st,FL st->p st.hd=true->FL (rd st).2/\∀r,(rd st).2= .good r->∃us,st= .good us/\P (rd st).1/\ln (rd st).1+5*BP r<=5*BP us):
 ∀(n:Nat) (st:St) (r:List AH),st.len<=n->FL st->(st.list p rd).2= .good r->∃us,st= .good us/\(∀a∈(st.list p rd).1,P a)/\((st.list p rd).1.map ln).sum+5*BP r<=5*BP us:=by
 intro n;induction n with
 | zero=>
   intro st r i d h;cases c:p st.hd with
   | false=>rw[Aq c]at h ⊢;exact⟨r,h,fun a b=>absurd b (by simp),by simp⟩
   | true=>have:=(hd st c).1;omega
 | succ n j=>
   intro st r i d h;cases c:p st.hd with
   | false=>rw[Aq c]at h ⊢;exact⟨r,h,fun a b=>absurd b (by simp),by simp⟩
   | true=>
     rw[C4 hd c]at h ⊢;obtain⟨e,k⟩:=hr st d c;obtain⟨o,f,l,q⟩:=j _ r (by have:=(hd st c).1;omega) e h;obtain⟨us,g,m,s⟩:=k o f;refine⟨us,g,fun a b=>?_,?_⟩
     · rcases List.mem_cons.1 b with rfl | b
       · exact m
       · exact l a b
     · rw[List.map_cons,List.sum_cons];omega
theorem Sg{D:Nat}{st:St}{r:List AH}(hF:FL st)(h:(st.sett D).2= .good r):∃us,st= .good us/\S8 D (st.sett D).1/\(Ax (st.sett D).1).length+20+5*BP r<=5*BP us:=by obtain⟨u,e,m⟩:=CX (st:=((((st.want [40]).name.2.want [39]).want [61]).expr D).2) h;have a:=EE (Af [40] hF);obtain⟨v,f,l,s⟩:=Hy (Af [61] (Af [39] a)) e;obtain⟨w,g,n⟩:=CX f;obtain⟨y,i,o⟩:=CX g;obtain⟨z,j,b,t⟩:=JN (Af [40] hF) i;obtain⟨q,k,p⟩:=CX j;refine⟨q,k,⟨b,l⟩,?_⟩;have c:(st.sett D).1.nm=(st.want [40]).name.1.1:=rfl;have d:(st.sett D).1.x=((((st.want [40]).name.2.want [39]).want [61]).expr D).1:=rfl;have:=Ks b.1;unfold Ax;rw[c,d];simp only[List.length_append,List.length_cons,List.length_nil]at m n o p ⊢;omega
theorem Ix(b:List UInt8):∀l:List (List UInt8),(AF b l).length<=(l.map fun x=>x.length+b.length).sum
 | []=>Nat.zero_le _
 | [x]=>by simp[AF]
 | x::y::r=>by have ih:=Ix b (y::r);rw[AF,List.length_append,List.length_append,List.map_cons,List.sum_cons];omega
theorem Ng{α:Type}{f g:α->Nat}(h:∀a,f a<=g a):∀l:List α,(l.map f).sum<=(l.map g).sum
 | []=>Nat.le_refl _
 | a::l=>by have h1:=Ng h l;have b:=h a;simp only[List.map_cons,List.sum_cons];omega
def EI(l:List Ad):List UInt8:=if l=[]then Au else AF [32,38,32] (l.map Ax)
theorem L0{d:Ad}{l:List Ad}:(EI (d::l)).length<=(Ax d).length+3+(l.map fun d=>(Ax d).length+3).sum:=by unfold EI;rw[if_neg (by simp)];have:=Ix [32,38,32] ((d::l).map Ax);rw[List.map_map]at this;simp only[List.map_cons,List.sum_cons]at this ⊢;exact this
theorem Vw{D:Nat}{st:St}{r:List AH}(hF:FL st)(h:(st.sets D).2= .good r):∃us,st= .good us/\(∀s∈(st.sets D).1,S8 D s)/\(EI (st.sets D).1).length+10+5*BP r<=5*BP us:=by
 unfold St.sets at h ⊢;split at h
 · next g=>rw[if_pos g];obtain⟨us,b,c⟩:=DZ (AC g) h;rw[Ao g]at c;have:Au.length=4:=rfl;exact⟨us,b,fun s a=>absurd a (by simp),by simp only[EI,if_pos];omega⟩
 · next g=>
   rw[if_neg g]
   obtain⟨w,b,m,q⟩:=Kx (P:=S8 D) (ln:=fun d=>(Ax d).length+3) (Es D) (fun st hF e=>⟨IQ D (EN hF (AC e)),fun r k=>by
    obtain⟨u,f,i,o⟩:=Sg (EN hF (AC e)) k;obtain⟨us,j,p⟩:=DZ (AC e) f
    exact⟨us,j,i,by omega⟩⟩) _ _ _ (Nat.le_refl _) (IQ D hF) h
   obtain⟨us,c,n,v⟩:=Sg hF b;refine⟨us,c,fun s a=>?_,?_⟩
   · rcases List.mem_cons.1 a with rfl | a
     · exact n
     · exact m s a
   · dsimp only;have:=L0 (d:=(st.sett D).1) (l:=((st.sett D).2.list (fun t=>AG t [38]) (fun s=>s.tl.sett D)).1);omega
theorem Vr{st:St}{r:List AH}(hF:FL st)(h:st.wght.2= .good r):∃us,st= .good us/\(0<st.wght.1/\st.wght.1<9223372036854775808)/\(CJ st.wght.1).length+5*BP r<=5*BP us+1:=by
 unfold St.wght at h ⊢;split at h
 · next g=>
   rw[if_pos g];dsimp only at h ⊢;split at h
   · cases h
   · next hv=>obtain⟨k,b,j⟩:=CX h;have a:st.hd.kind≠0:=(by rw[g];decide);obtain⟨us,rfl,i⟩:=DZ a b;obtain⟨c,d,f⟩:=Go.Proofs.YtodijgndbjfbgaaGreatDoor.Fine.numb hF.1 g;have:=N2 c d;have e:(St.good us).hd.text=(hd us).text:=rfl;rw[e]at i hv ⊢;exact⟨us,rfl,⟨by omega,f⟩,by omega⟩
 · next g=>
   rw[if_neg g]
   exact⟨r,h,⟨Nat.one_pos,by show(1:Nat)<_;omega⟩,by have:(CJ 1).length=1:=by decide +kernel
                                                     dsimp only;omega⟩
theorem SJ{D:Nat}{st:St}{r:List AH}(hF:FL st)(h:(st.brch D).2= .good r):∃us,st= .good us/\XJ D (st.brch D).1/\(Bs (st.brch D).1).length+5+5*BP r<=5*BP us:=by obtain⟨j,a,c,g⟩:=Vw (OD hF) h;obtain⟨f,b,d,i⟩:=Vr hF a;refine⟨f,b,⟨d,c⟩,?_⟩;have e:Bs (st.brch D).1=CJ st.wght.1++([32,58,32]++EI (st.wght.2.sets D).1):=rfl;rw[e];simp only[List.length_append,List.length_cons,List.length_nil];omega
theorem Nf{b:Fe}{l:List Fe}:(AF [32,43,32] ((b::l).map Bs)).length<=(Bs b).length+3+(l.map fun b=>(Bs b).length+3).sum:=by have:=Ix [32,43,32] ((b::l).map Bs);rw[List.map_map]at this;simp only[List.map_cons,List.sum_cons]at this ⊢;exact this
theorem UK{D:Nat}{st:St}{r:List AH}(hF:FL st)(h:(st.brchs D).2= .good r):∃us,st= .good us/\((st.brchs D).1≠[]/\∀b∈(st.brchs D).1,XJ D b)/\(AF [32,43,32] ((st.brchs D).1.map Bs)).length+5*BP r<=5*BP us:=by
 obtain⟨w,i,m,q⟩:=Kx (P:=XJ D) (ln:=fun b=>(Bs b).length+3) (Er D) (fun st hF c=>⟨IS D (EN hF (AC c)),fun r k=>by
  obtain⟨u,d,f,o⟩:=SJ (EN hF (AC c)) k;obtain⟨us,g,p⟩:=DZ (AC c) d
  exact⟨us,g,f,by omega⟩⟩) _ _ _ (Nat.le_refl _) (IS D hF) h
 obtain⟨us,j,n,v⟩:=SJ hF i;refine⟨us,j,⟨by unfold St.brchs;simp,fun b a=>?_⟩,?_⟩
 · rcases List.mem_cons.1 a with rfl | a
   · exact n
   · exact m b a
 · have e:(st.brchs D).1=(st.brch D).1::((st.brch D).2.list (fun t=>AG t [43]) (fun s=>s.tl.brch D)).1:=rfl;rw[e];have:=Nf (b:=(st.brch D).1) (l:=((st.brch D).2.list (fun t=>AG t [43]) (fun s=>s.tl.brch D)).1);omega
theorem V3{st:St}{r:List AH}(hF:FL st)(h:st.actn.2= .good r):∃us,st= .good us/\(st.actn.1=[]∨XI st.actn.1)/\st.actn.1.length+BP r=BP us:=by
 unfold St.actn at h ⊢;split at h
 · next g=>rw[if_pos g];exact⟨r,h,.inl rfl,by simp⟩
 · next g=>rw[if_neg g];obtain⟨us,a,b,c⟩:=JN hF h;exact⟨us,a,.inr b,by dsimp only;omega⟩
theorem Ve{D:Nat}{st:St}{r:List AH}(hF:FL st)(h:(st.cmnd D).2= .good r):∃us,st= .good us/\Xo D (st.cmnd D).1/\(BO (st.cmnd D).1).length+5*BP r<=5*BP us:=by obtain⟨w,c,n⟩:=CX (st:=(((st.guard D).2.want [45,62]).brchs D).2) h;have a:=Ls D hF;obtain⟨x,d,b,t⟩:=UK (Af [45,62] a) c;obtain⟨y,f,o⟩:=CX d;obtain⟨z,g,l,u⟩:=Hy (st:=(st.want [91]).actn.2.want [93]) (Af _ (Nq (Af _ hF))) f;obtain⟨A,i,p⟩:=CX g;obtain⟨B,j,m,v⟩:=V3 (Af [91] hF) i;obtain⟨s,k,q⟩:=CX j;refine⟨s,k,⟨m,l,b.1,b.2⟩,?_⟩;have e:BO (st.cmnd D).1=[32,32,91]++((st.want [91]).actn.1++([93,32]++(D7 (((st.want [91]).actn.2.want [93]).expr D).1++([32,45,62,32]++(AF [32,43,32] ((((st.guard D).2.want [45,62]).brchs D).1.map Bs)++[59,10]))))):=rfl;rw[e];simp only[List.length_append,List.length_cons,List.length_nil]at n o p q ⊢;omega
theorem I6{α:Type}(f:α->List UInt8):∀l:List α,((l.map f).flatten).length=(l.map fun a=>(f a).length).sum
 | []=>rfl
 | a::l=>by simp[I6 f l]
theorem WP{D:Nat}{st:St}{r:List AH}(hF:FL st)(h:(st.modl D).2= .good r):∃us,st= .good us/\UB D (st.modl D).1/\(BR (st.modl D).1).length+5*BP r<=5*BP us+30:=by obtain⟨z,g,x⟩:=CX (st:=(st.cmnds D).2) h;obtain⟨A,i,l,n⟩:=Kx (P:=Xo D) (ln:=fun c=>(BO c).length) (EL D) (fun st hF _=>⟨N1 D hF,fun r a=>Ve hF a⟩) _ _ _ (Nat.le_refl _) (LN D hF) g;obtain⟨B,j,m,o⟩:=Kx (P:=Xm D) (ln:=fun v=>(Ap v).length) (FB D) (fun st hF _=>⟨OP D hF,fun r a=>Vg hF a⟩) _ _ _ (Nat.le_refl _) (EE hF) i;obtain⟨p,k,b,y⟩:=JN hF j;refine⟨p,k,⟨b,m,l⟩,?_⟩;have e:BR (st.modl D).1=A8++32::(st.name.1.1++10::(((st.vrbls D).1.map Ap).flatten++(((st.cmnds D).1.map BO).flatten++(DG++[10])))):=rfl;rw[e];have q:A8.length=6:=rfl;have s:DG.length=9:=rfl;have u:=I6 Ap (st.vrbls D).1;have w:=I6 BO (st.cmnds D).1;have d:(st.vrbls D).1=(st.name.2.list CG (St.vrbl D)).1:=rfl;have f:(st.cmnds D).1=((st.vrbls D).2.list (fun t=>AG t [91]) (St.cmnd D)).1:=rfl;have:=Ks b.1;rw[<- d]at o;rw[<- f]at n;simp only[List.length_append,List.length_cons,List.length_nil];omega
theorem Gk{α:Type}{P:α->Prop}{l:List α}{a:α}(h:∀x∈l,P x)(ha:P a):∀x∈l++[a],P x:=fun x c=>by
 rcases List.mem_append.1 c with b | b
 · exact h x b
 · rw[List.mem_singleton.1 b];exact ha
theorem Xn(D:Nat):∀(n:Nat) (st:St) (m m':AP) (r:List AH),st.len<=n->FL st->WA D m->st.mdlOn D m=(m',.good r)->WA D m'/\∃us,st= .good us/\(Gs m').length+5*BP r<=(Gs m).length+5*BP us:=by
 intro n;induction n with
 | zero=>
   intro st m m' r J I a h;have f:st.hd.kind=0:=by
    cases st with
    | bad c p=>rfl
    | good us=>
      cases us with
      | nil=>rfl
      | cons t s=>simp[St.len]at J
   rw[F0 D f]at h;injection h with z A
   subst z A;exact⟨a,r,rfl,Nat.le_refl _⟩
 | succ n w=>
   intro st m m' r J I a h;by_cases f:st.hd.kind=0
   · rw[F0 D f]at h;injection h with z A
     subst z A;exact⟨a,r,rfl,Nat.le_refl _⟩
   · have L:=(Ds f).2;have d:=EN I f;cases q:AG st.hd AN with
     | true=>
       rw[Lo D m q]at h;have g:=(F1 D st.tl).1;cases hd:(st.tl.defn D).2 with
       | bad c p=>rw[hd,G8]at h;cases h
       | good E=>
         obtain⟨F,j,k,C⟩:=Q0 d hd;obtain⟨us,l,o⟩:=DZ f j;obtain⟨i,G,b,B⟩:=w _ {m with consts:=m.consts++[(st.tl.defn D).1]} _ _ (by omega) (OI D d) ⟨Gk a.cs k,a.fs,a.ls,a.ms⟩ h;rw[hd]at b;injection b with b
         subst b;refine⟨i,us,l,?_⟩;have e:(Gs {m with consts:=m.consts++[(st.tl.defn D).1]}).length=(Gs m).length+(AY AN (st.tl.defn D).1).length:=(by simp only[Gs,List.map_append,List.map_cons,List.map_nil,List.flatten_append,List.flatten_cons,List.flatten_nil,List.length_append,List.length_cons,List.append_nil];omega);have H:(AY AN (st.tl.defn D).1).length=(st.tl.defn D).1.nm.length+(D7 (st.tl.defn D).1.x).length+11:=(by have:AN.length=5:=rfl;simp only[AY,List.length_append,List.length_cons,List.length_nil];omega);rw[Ao q]at o;have:AN.length=5:=rfl;omega
     | false=>
       cases u:AG st.hd AE with
       | true=>
         rw[Lv D m q u]at h;have g:=(F1 D st.tl).1;cases hd:(st.tl.defn D).2 with
         | bad c p=>rw[hd,G8]at h;cases h
         | good E=>
           obtain⟨F,j,k,C⟩:=Q0 d hd;obtain⟨us,l,o⟩:=DZ f j;obtain⟨i,G,b,B⟩:=w _ {m with formulas:=m.formulas++[(st.tl.defn D).1]} _ _ (by omega) (OI D d) ⟨a.cs,Gk a.fs k,a.ls,a.ms⟩ h;rw[hd]at b;injection b with b
           subst b;refine⟨i,us,l,?_⟩;have e:(Gs {m with formulas:=m.formulas++[(st.tl.defn D).1]}).length=(Gs m).length+(AY AE (st.tl.defn D).1).length:=(by simp only[Gs,List.map_append,List.map_cons,List.map_nil,List.flatten_append,List.flatten_cons,List.flatten_nil,List.length_append,List.length_cons,List.append_nil];omega);have H:(AY AE (st.tl.defn D).1).length=(st.tl.defn D).1.nm.length+(D7 (st.tl.defn D).1.x).length+13:=(by have:AE.length=7:=rfl;simp only[AY,List.length_append,List.length_cons,List.length_nil];omega);rw[Ao u]at o;have:AE.length=7:=rfl;omega
       | false=>
         cases v:AG st.hd BI with
         | true=>
           rw[LR D m q u v]at h;have g:=(IW D st.tl).1;cases hd:(st.tl.labl D).2 with
           | bad c p=>rw[hd,G8]at h;cases h
           | good E=>
             obtain⟨F,j,k,C⟩:=WW d hd;obtain⟨us,l,o⟩:=DZ f j;obtain⟨i,G,b,B⟩:=w _ {m with labels:=m.labels++[(st.tl.labl D).1]} _ _ (by omega) (Uo D d) ⟨a.cs,a.fs,Gk a.ls k,a.ms⟩ h;rw[hd]at b;injection b with b
             subst b;refine⟨i,us,l,?_⟩;have e:(Gs {m with labels:=m.labels++[(st.tl.labl D).1]}).length=(Gs m).length+(BY (st.tl.labl D).1).length:=(by simp only[Gs,List.map_append,List.map_cons,List.map_nil,List.flatten_append,List.flatten_cons,List.flatten_nil,List.length_append,List.length_cons,List.append_nil];omega);have H:(BY (st.tl.labl D).1).length=(st.tl.labl D).1.nm.length+(D7 (st.tl.labl D).1.x).length+13:=(by have:BI.length=5:=rfl;simp only[BY,List.length_append,List.length_cons,List.length_nil];omega);rw[Ao v]at o;have:BI.length=5:=rfl;omega
         | false=>
           cases y:AG st.hd A8 with
           | true=>
             rw[MF D m q u v y]at h;have g:=(Ia D st.tl).1;cases hd:(st.tl.modl D).2 with
             | bad c p=>rw[hd,G8]at h;cases h
             | good E=>
               obtain⟨F,j,k,C⟩:=WP d hd;obtain⟨us,l,o⟩:=DZ f j;obtain⟨i,G,b,B⟩:=w _ {m with mods:=m.mods++[(st.tl.modl D).1]} _ _ (by omega) (S7 D d) ⟨a.cs,a.fs,a.ls,Gk a.ms k⟩ h;rw[hd]at b;injection b with b
               subst b;refine⟨i,us,l,?_⟩;have e:(Gs {m with mods:=m.mods++[(st.tl.modl D).1]}).length=(Gs m).length+(BR (st.tl.modl D).1).length:=(by simp only[Gs,List.map_append,List.map_cons,List.map_nil,List.flatten_append,List.flatten_cons,List.flatten_nil,List.length_append,List.length_cons,List.append_nil];omega);rw[Ao y]at o;have:A8.length=6:=rfl;omega
           | false=>obtain⟨c,p,K⟩:=RF D m f q u v y;rw[K]at h;cases h
theorem Ss{r:List UInt8}{n:Nat}(h0:r≠[])(h:AO r=(3,n,0)):So (B8 3 (r.take n)):=by
 cases r with
 | nil=>exact absurd rfl h0
 | cons c s=>
   simp only[AO]at h;split at h
   · injection h with h _;cases h
   · split at h
     · injection h with h _;cases h
     · split at h
       · next hq=>
         injection h with _ h
         injection h with b d
         by_cases a:Cw s=0
         · rw[if_pos a]at d;cases d
         · have k:=a;unfold Cw at a b;split at a
           · exact absurd rfl a
           · next hc=>
             rw[if_neg hc]at b;subst b;have i:=Cx AK s;have e:B8 3 ((c::s).take (cnt AK s+2))=s.takeWhile AK:=by
              unfold B8;rw[if_pos rfl,<- Em];have j:cnt AK s+1<=s.length:=(by have:=N5 s;unfold Cw at this;rw[if_neg hc]at this;omega);have g:(c::s).take (cnt AK s+2)=c::s.take (cnt AK s+1):=rfl;rw[g,List.drop_succ_cons,List.drop_zero,List.length_cons,List.length_take,List.take_take]
              congr 1
              omega
             rw[e];have f:(s.takeWhile AK).length=cnt AK s:=rfl;exact⟨by omega,by omega,Hc AK _⟩
       · injection h with h _;cases h
theorem MD{l:List UInt8}:∀{ts:List AH} {i:Nat},ZQ l i ts->TQ Yj ts
 | [],_,h=>h.elim
 | [t],_,h=>fun t' ht' h3=>by rw[List.mem_singleton]at ht';subst ht';have:=h.1;omega
 | t::u::us,i,h=>fun t' ht' h3=>by
   obtain⟨_,c,⟨n,a,b,d⟩,_⟩:=h;rcases List.mem_cons.1 ht' with rfl | e
   · rw[h3]at a b;rw[b];exact Ss (D9 c) a
   · exact MD d t' e h3
theorem Pc{D:Nat}{l:List UInt8}{m:AP}(hl:l.length<=65536)(h:Bp D l= .ok m):WA D m/\(Gs m).length<=5*l.length:=by
 unfold Bp at h;cases a:CE l with
 | error x=>rw[a]at h;cases h
 | ok g=>
   rw[a]at h;simp only at h;cases f:St.mdl D (.good g)with
   | mk m' st=>
     rw[f]at h;cases st with
     | bad c p=>cases h
     | good r=>
       injection h with h
       subst h;have i:FL (.good g):=⟨Hv hl a,MD (GC a)⟩;have j:WA D EQ:=⟨fun d hd=>absurd hd (by simp[EQ]),fun d hd=>absurd hd (by simp[EQ]),fun d hd=>absurd hd (by simp[EQ]),fun d hd=>absurd hd (by simp[EQ])⟩;obtain⟨k,v,n,s⟩:=Xn D _ _ EQ m' r (Nat.le_refl _) (Af D6 i) j f;obtain⟨u,b,t⟩:=CX n;injection b with b
       subst b;have q:=OA (GC a);have e:(Gs EQ).length=4:=rfl;have o:D6.length=3:=rfl;exact⟨k,by omega⟩
end
end Go.Proofs.YtodijgndbjfbgaaGreatDoor
