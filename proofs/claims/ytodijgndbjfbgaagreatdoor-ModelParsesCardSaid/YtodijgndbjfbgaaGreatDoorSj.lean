import Derived.Test.YtodijgndbjfbgaaGreatDoorSd
import Derived.Laws.StructEq
namespace Go.Proofs.YtodijgndbjfbgaaGreatDoor
set_option maxHeartbeats 16000000
set_option maxRecDepth 100000
section
section
open Go.RowKit
def WV(c:UInt8)(w:World)(e:Ending)(w':World):Prop:=e= .returned (.bool (AZ c))/\w=w'
theorem JO(c:UInt8)(w:World):Calls Tryz.prog 47 #[.int .u8 c.toNat] w (WV c w):=by
 obtain⟨n,g⟩:∃n:Int,n=c.toNat:=⟨_,rfl⟩;have d:(n=95∨65<=n/\n<=90∨97<=n/\n<=122)->AZ c=true:=fun h=>(by simp only[AZ,Bool.or_eq_true,Bool.and_eq_true,decide_eq_true_eq,beq_iff_eq];omega);have b:¬(n=95∨65<=n/\n<=90∨97<=n/\n<=122)->AZ c=false:=fun h=>(by simp only[AZ,Bool.or_eq_false_iff,Bool.and_eq_false_iff,decide_eq_false_iff_not,beq_eq_false_iff_ne];omega);rw[<- g];clear g;by_cases e:n=95
 · have a:=zz (d (.inl e));subst e;clear d b;go_enter Tryz.func47,Tryz.ntmps47;go_wp2;go_ret;exact⟨by rw[a.out];rfl,rfl⟩
 have m:(n==95)=false:=(by rw[beq_eq_false_iff_ne];exact e);by_cases j:65<=n
 · by_cases f:n<=90
   · have a:=zz (d (by omega));clear d b e;go_enter Tryz.func47,Tryz.ntmps47;go_wp2;go_ret;exact⟨by rw[a.out];rfl,rfl⟩
   · have p:decide (n<=90)=false:=(by simp;omega);by_cases k:97<=n
     · by_cases l:n<=122
       · have a:=zz (d (by omega));clear d b e f;go_enter Tryz.func47,Tryz.ntmps47;go_wp2;go_ret;exact⟨by rw[a.out];rfl,rfl⟩
       · have q:decide (n<=122)=false:=(by simp;omega);have a:=zz (b (by omega));clear d b e f l;go_enter Tryz.func47,Tryz.ntmps47;go_wp2;go_ret;exact⟨by rw[a.out];rfl,rfl⟩
     · have i:decide (97<=n)=false:=(by simp;omega);have a:=zz (b (by omega));clear d b e f k;go_enter Tryz.func47,Tryz.ntmps47;go_wp2;go_ret;exact⟨by rw[a.out];rfl,rfl⟩
 · have o:decide (65<=n)=false:=(by simp;omega);have i:decide (97<=n)=false:=(by simp;omega);have a:=zz (b (by omega));clear d b e j;go_enter Tryz.func47,Tryz.ntmps47;go_wp2;go_ret;exact⟨by rw[a.out];rfl,rfl⟩
def UF(c:UInt8)(w:World)(e:Ending)(w':World):Prop:=e= .returned (.bool (AD c))/\w=w'
theorem Gf(c:UInt8)(w:World):Calls Tryz.prog 48 #[.int .u8 c.toNat] w (UF c w):=by
 obtain⟨n,e⟩:∃n:Int,n=c.toNat:=⟨_,rfl⟩;have d:(48<=n/\n<=57)->AD c=true:=fun h=>(by simp only[AD,Bool.and_eq_true,decide_eq_true_eq];omega);have b:¬(48<=n/\n<=57)->AD c=false:=fun h=>(by simp only[AD,Bool.and_eq_false_iff,decide_eq_false_iff_not];omega);rw[<- e];clear e;by_cases f:48<=n
 · by_cases g:n<=57
   · have a:=zz (d (by omega));clear d b;go_enter Tryz.func48,Tryz.ntmps48;go_wp2;go_ret;exact⟨by rw[a.out];rfl,rfl⟩
   · have j:decide (n<=57)=false:=(by simp;omega);have a:=zz (b (by omega));clear d b g;go_enter Tryz.func48,Tryz.ntmps48;go_wp2;go_ret;exact⟨by rw[a.out];rfl,rfl⟩
 · have i:decide (48<=n)=false:=(by simp;omega);have a:=zz (b (by omega));clear d b f;go_enter Tryz.func48,Tryz.ntmps48;go_wp2;go_ret;exact⟨by rw[a.out];rfl,rfl⟩
def Hr(l:List UInt8):Value:=if AX l<9223372036854775808 then .tuple #[.int .i64 (AX l),.bool true]else .tuple #[.int .i64 0,.bool false]
def Wc(l:List UInt8)(w:World)(e:Ending)(w':World):Prop:=e= .returned (Hr l)/\w=w'
def XC(l:List UInt8)(n i:Value):Prop:=∃(a:Int) (k:Nat),n= .int .u64 a/\i= .int .i64 (k:Int)/\k<=l.length/\0<=a/\a<11529215046068469770/\a=C9 0 (l.take k)
theorem PU(l:List UInt8)(k:Nat)(h:k<l.length):l.take (k+1)=l.take k++[l[k]]:=by rw[List.take_succ_eq_append_getElem h]
theorem Nd(l:List UInt8)(k:Nat):C9 0 l=C9 (C9 0 (l.take k)) (l.drop k):=by
 conv=>lhs;rw[<- List.take_append_drop k l]
 unfold C9;rw[List.foldl_append]
theorem Fz(s:ByteArray)(w:World)(hs:s.size<=65536)(hd:∀c∈s.data.toList,AD c=true):Calls Tryz.prog 49 #[.string s] w (Wc s.data.toList w):=by
 have t:=zz (AU s);have B:=zz hd;clear hd;go_enter Tryz.func49,Tryz.ntmps49;go_wp2;go_loop [4,5] (fun n i=>XC s.data.toList n i) (fun _ i=>s.size - (intOf i).toNat);(case atStart=>exact⟨0,0,rfl,rfl,Nat.zero_le _,by omega,by omega,rfl⟩);case round=>
  obtain⟨a,k,rfl,rfl,G,C,D,d⟩:=hrel;rw[t.out]at G;by_cases b:k<s.size
  · have r:k<s.data.toList.length:=(by rw[t.out];exact b);have e:=B.out _ (List.getElem_mem r);have y:s[k]'b=s.data.toList[k]:=rfl;have j:=Nd s.data.toList k;rw[Ae _ k r,Gd]at j;have f:=LT (s.data.toList.drop (k+1)) (C9 0 (s.data.toList.take k)*10+(s.data.toList[k].toNat - 48));have h:C9 0 (s.data.toList.take (k+1))=C9 0 (s.data.toList.take k)*10+(s.data.toList[k].toNat - 48):=(by rw[PU _ k r,NR]);rw[<- j]at f;simp only[AD,Bool.and_eq_true,decide_eq_true_eq]at e;rw[<- y]at e f h;by_cases q:1152921504606846976<=a
    · have m:=zz (show Hr s.data.toList= .tuple #[.int .i64 0,.bool false] by
       unfold Hr;rw[if_neg];rw[GY];omega)
      clear d j f h e r y;go_wp2;go_ret2;exact⟨by rw[m.out];rfl,rfl⟩
    · have x:=zz (show a*10+((s[k]'b).toNat - 48:Int)=C9 0 (s.data.toList.take (k+1)) by rw[h,d];omega);have z:=e.1;have A:=e.2;have g:decide (1152921504606846976<=a)=false:=(by simp;omega);clear d j f h e r y;have E:(48:Int)<=(s[k]'b).toNat:=(by omega);have F:((s[k]'b).toNat:Int)<=57:=(by omega);have p:a*10+((s[k]'b).toNat - 48:Int)<11529215046068469770:=(by omega);have o:0<=a*10+((s[k]'b).toNat - 48:Int):=(by omega);have v:=zz p;have u:=zz o;clear p o z A;go_wp2
      go_round
      (case rel=>exact⟨_,k+1,rfl,by go_num,by rw[t.out];omega,u.out,v.out,x.out⟩);case measure=>simp[intOf];omega
  · have l:s.data.toList.take k=s.data.toList:=List.take_of_length_le (by rw[t.out];omega);rw[l,<- GY]at d;have g:decide (k<s.size)=false:=(by simpa using b);by_cases q:9223372036854775808<=a
    · have m:=zz (show Hr s.data.toList= .tuple #[.int .i64 0,.bool false] by
       unfold Hr;rw[if_neg (by omega)])
      clear d l;go_wp2;go_ret2;exact⟨by rw[m.out];rfl,rfl⟩
    · have m:=zz (show Hr s.data.toList= .tuple #[.int .i64 a,.bool true] by
       unfold Hr;rw[if_pos (by omega),d])
      have H:decide (9223372036854775808<=a)=false:=(by simp;omega);clear d l;go_wp2;go_ret2;exact⟨by rw[m.out];rfl,rfl⟩
end
section
open Go.RowKit
def SG:List (List UInt8):=[[45,62],[60,61],[62,61],[33,61],[61,62],[46,46],[91],[93],[40],[41],[58],[59],[44],[43],[45],[42],[38],[124],[33],[61],[60],[62],[63],[39]]
def YR:Array Value:= #[.string ⟨#[45,62]⟩,.string ⟨#[60,61]⟩,.string ⟨#[62,61]⟩,.string ⟨#[33,61]⟩,.string ⟨#[61,62]⟩,.string ⟨#[46,46]⟩,.string ⟨#[91]⟩,.string ⟨#[93]⟩,.string ⟨#[40]⟩,.string ⟨#[41]⟩,.string ⟨#[58]⟩,.string ⟨#[59]⟩,.string ⟨#[44]⟩,.string ⟨#[43]⟩,.string ⟨#[45]⟩,.string ⟨#[42]⟩,.string ⟨#[38]⟩,.string ⟨#[124]⟩,.string ⟨#[33]⟩,.string ⟨#[61]⟩,.string ⟨#[60]⟩,.string ⟨#[62]⟩,.string ⟨#[63]⟩,.string ⟨#[39]⟩]
theorem TY(k:Nat)(hk:k<24):YR[k]?=some (.string ⟨(SG.getD k []).toArray⟩):=by
 match k,hk with
 | 0,_=>rfl
 | 1,_=>rfl
 | 2,_=>rfl
 | 3,_=>rfl
 | 4,_=>rfl
 | 5,_=>rfl
 | 6,_=>rfl
 | 7,_=>rfl
 | 8,_=>rfl
 | 9,_=>rfl
 | 10,_=>rfl
 | 11,_=>rfl
 | 12,_=>rfl
 | 13,_=>rfl
 | 14,_=>rfl
 | 15,_=>rfl
 | 16,_=>rfl
 | 17,_=>rfl
 | 18,_=>rfl
 | 19,_=>rfl
 | 20,_=>rfl
 | 21,_=>rfl
 | 22,_=>rfl
 | 23,_=>rfl
 | n+24,h=>exact absurd h (by omega)
theorem N7(k:Nat)(hk:k<24):1<=(SG.getD k []).length/\(SG.getD k []).length<=2:=by
 match k,hk with
 | 0,_=>exact⟨by decide,by decide⟩
 | 1,_=>exact⟨by decide,by decide⟩
 | 2,_=>exact⟨by decide,by decide⟩
 | 3,_=>exact⟨by decide,by decide⟩
 | 4,_=>exact⟨by decide,by decide⟩
 | 5,_=>exact⟨by decide,by decide⟩
 | 6,_=>exact⟨by decide,by decide⟩
 | 7,_=>exact⟨by decide,by decide⟩
 | 8,_=>exact⟨by decide,by decide⟩
 | 9,_=>exact⟨by decide,by decide⟩
 | 10,_=>exact⟨by decide,by decide⟩
 | 11,_=>exact⟨by decide,by decide⟩
 | 12,_=>exact⟨by decide,by decide⟩
 | 13,_=>exact⟨by decide,by decide⟩
 | 14,_=>exact⟨by decide,by decide⟩
 | 15,_=>exact⟨by decide,by decide⟩
 | 16,_=>exact⟨by decide,by decide⟩
 | 17,_=>exact⟨by decide,by decide⟩
 | 18,_=>exact⟨by decide,by decide⟩
 | 19,_=>exact⟨by decide,by decide⟩
 | 20,_=>exact⟨by decide,by decide⟩
 | 21,_=>exact⟨by decide,by decide⟩
 | 22,_=>exact⟨by decide,by decide⟩
 | 23,_=>exact⟨by decide,by decide⟩
 | n+24,h=>exact absurd h (by omega)
def CV(r:List UInt8)(k:Nat):Bool:=r.take (SG.getD k []).length==SG.getD k []
theorem U0{r:List UInt8}{k:Nat}(hk:k<6)(h:CV r k=true):IN r=true:=by
 rw[Hk];unfold CV at h
 match k,hk with
 | 0,_=>simp only[SG,List.getD_cons_zero,List.length_cons,List.length_nil,Nat.zero_add,Nat.reduceAdd]at h;simp[h]
 | 1,_=>simp only[SG,List.getD_cons_zero,List.getD_cons_succ,List.length_cons,List.length_nil,Nat.zero_add,Nat.reduceAdd]at h;simp[h]
 | 2,_=>simp only[SG,List.getD_cons_zero,List.getD_cons_succ,List.length_cons,List.length_nil,Nat.zero_add,Nat.reduceAdd]at h;simp[h]
 | 3,_=>simp only[SG,List.getD_cons_zero,List.getD_cons_succ,List.length_cons,List.length_nil,Nat.zero_add,Nat.reduceAdd]at h;simp[h]
 | 4,_=>simp only[SG,List.getD_cons_zero,List.getD_cons_succ,List.length_cons,List.length_nil,Nat.zero_add,Nat.reduceAdd]at h;simp[h]
 | 5,_=>simp only[SG,List.getD_cons_zero,List.getD_cons_succ,List.length_cons,List.length_nil,Nat.zero_add,Nat.reduceAdd]at h;simp[h]
theorem Rp{r:List UInt8}(h:∀j,j<6->CV r j=false):IN r=false:=by rw[Hk];have a:=h 0 (by omega);have b:=h 1 (by omega);have c:=h 2 (by omega);have d:=h 3 (by omega);have e:=h 4 (by omega);have f:=h 5 (by omega);simp only[CV,SG,List.getD_cons_zero,List.getD_cons_succ,List.length_cons,List.length_nil,Nat.zero_add,Nat.reduceAdd]at a b c d e f;rw[a,b,c,d,e,f];rfl
theorem Tl{r:List UInt8}{k:Nat}(h6:6<=k)(hk:k<24)(h:CV r k=true):∃c r',r=c::r'/\DU c=true/\SG.getD k []=[c]:=by
 cases r with
 | nil=>
   unfold CV at h;have:=N7 k hk;cases d:SG.getD k []with
   | nil=>rw[d]at this;simp at this
   | cons a b=>rw[d]at h;simp at h
 | cons c r'=>
   refine⟨c,r',rfl,?_⟩;unfold CV at h
   match k,h6,hk with
   | 6,_,_=>simp[SG]at h;subst h;exact⟨by decide,rfl⟩
   | 7,_,_=>simp[SG]at h;subst h;exact⟨by decide,rfl⟩
   | 8,_,_=>simp[SG]at h;subst h;exact⟨by decide,rfl⟩
   | 9,_,_=>simp[SG]at h;subst h;exact⟨by decide,rfl⟩
   | 10,_,_=>simp[SG]at h;subst h;exact⟨by decide,rfl⟩
   | 11,_,_=>simp[SG]at h;subst h;exact⟨by decide,rfl⟩
   | 12,_,_=>simp[SG]at h;subst h;exact⟨by decide,rfl⟩
   | 13,_,_=>simp[SG]at h;subst h;exact⟨by decide,rfl⟩
   | 14,_,_=>simp[SG]at h;subst h;exact⟨by decide,rfl⟩
   | 15,_,_=>simp[SG]at h;subst h;exact⟨by decide,rfl⟩
   | 16,_,_=>simp[SG]at h;subst h;exact⟨by decide,rfl⟩
   | 17,_,_=>simp[SG]at h;subst h;exact⟨by decide,rfl⟩
   | 18,_,_=>simp[SG]at h;subst h;exact⟨by decide,rfl⟩
   | 19,_,_=>simp[SG]at h;subst h;exact⟨by decide,rfl⟩
   | 20,_,_=>simp[SG]at h;subst h;exact⟨by decide,rfl⟩
   | 21,_,_=>simp[SG]at h;subst h;exact⟨by decide,rfl⟩
   | 22,_,_=>simp[SG]at h;subst h;exact⟨by decide,rfl⟩
   | 23,_,_=>simp[SG]at h;subst h;exact⟨by decide,rfl⟩
   | n+24,_,h=>exact absurd h (by omega)
theorem V1{r:List UInt8}{c:UInt8}(h:∀j,6<=j->j<24->CV (c::r) j=false):DU c=false:=by
 cases b:DU c with
 | false=>rfl
 | true=>
   simp only[DU,List.contains_iff_mem,List.mem_cons,List.not_mem_nil,or_false]at b;rcases b with a | a | a | a | a | a | a | a | a | a | a | a | a | a | a | a | a | a
   · have e:c=91:=UInt8.toNat_inj.1 a;subst e;have:=h 6 (by omega) (by omega);simp[CV,SG]at this
   · have e:c=93:=UInt8.toNat_inj.1 a;subst e;have:=h 7 (by omega) (by omega);simp[CV,SG]at this
   · have e:c=40:=UInt8.toNat_inj.1 a;subst e;have:=h 8 (by omega) (by omega);simp[CV,SG]at this
   · have e:c=41:=UInt8.toNat_inj.1 a;subst e;have:=h 9 (by omega) (by omega);simp[CV,SG]at this
   · have e:c=58:=UInt8.toNat_inj.1 a;subst e;have:=h 10 (by omega) (by omega);simp[CV,SG]at this
   · have e:c=59:=UInt8.toNat_inj.1 a;subst e;have:=h 11 (by omega) (by omega);simp[CV,SG]at this
   · have e:c=44:=UInt8.toNat_inj.1 a;subst e;have:=h 12 (by omega) (by omega);simp[CV,SG]at this
   · have e:c=43:=UInt8.toNat_inj.1 a;subst e;have:=h 13 (by omega) (by omega);simp[CV,SG]at this
   · have e:c=45:=UInt8.toNat_inj.1 a;subst e;have:=h 14 (by omega) (by omega);simp[CV,SG]at this
   · have e:c=42:=UInt8.toNat_inj.1 a;subst e;have:=h 15 (by omega) (by omega);simp[CV,SG]at this
   · have e:c=38:=UInt8.toNat_inj.1 a;subst e;have:=h 16 (by omega) (by omega);simp[CV,SG]at this
   · have e:c=124:=UInt8.toNat_inj.1 a;subst e;have:=h 17 (by omega) (by omega);simp[CV,SG]at this
   · have e:c=33:=UInt8.toNat_inj.1 a;subst e;have:=h 18 (by omega) (by omega);simp[CV,SG]at this
   · have e:c=61:=UInt8.toNat_inj.1 a;subst e;have:=h 19 (by omega) (by omega);simp[CV,SG]at this
   · have e:c=60:=UInt8.toNat_inj.1 a;subst e;have:=h 20 (by omega) (by omega);simp[CV,SG]at this
   · have e:c=62:=UInt8.toNat_inj.1 a;subst e;have:=h 21 (by omega) (by omega);simp[CV,SG]at this
   · have e:c=63:=UInt8.toNat_inj.1 a;subst e;have:=h 22 (by omega) (by omega);simp[CV,SG]at this
   · have e:c=39:=UInt8.toNat_inj.1 a;subst e;have:=h 23 (by omega) (by omega);simp[CV,SG]at this
theorem Wo{r:List UInt8}{k:Nat}(hk:k<24)(h:CV r k=true)(hno:∀j,j<k->CV r j=false):Al r=(SG.getD k []).length/\r.take (Al r)=SG.getD k []:=by
 have g:r.take (SG.getD k []).length=SG.getD k []:=(by unfold CV at h;simpa using h);by_cases d:k<6
 · have a:=U0 d h;have f:(SG.getD k []).length=2:=by
    match k,d with
    | 0,_=>rfl
    | 1,_=>rfl
    | 2,_=>rfl
    | 3,_=>rfl
    | 4,_=>rfl
    | 5,_=>rfl
   have e:Al r=2:=by
    cases r with
    | nil=>cases a
    | cons c b=>simp[Al,a]
   rw[e];rw[f]at g;exact⟨f.symm,g⟩
 · obtain⟨c,b,rfl,i,l⟩:=Tl (by omega) hk h;have a:=Rp (r:=c::b) (fun j m=>hno j (by omega));have e:Al (c::b)=1:=(by simp[Al,a,i]);rw[e,l];exact⟨rfl,rfl⟩
theorem Tn{r:List UInt8}(hno:∀j,j<24->CV r j=false):Al r=0:=by
 cases r with
 | nil=>rfl
 | cons c b=>have e:=Rp (r:=c::b) (fun j a=>hno j (by omega));have d:=V1 (r:=b) (c:=c) (fun j _ a=>hno j a);simp[Al,e,d]
end
section
open Go.RowKit
def U2(s:ByteArray)(at0:Nat)(w:World)(i:Value)(wr:World):Prop:=∃(k n:Nat),i= .int .i64 (k:Int)/\k<=24/\(∀j,j<k->CV (s.data.toList.drop at0) j=false)/\wr=(w.alloc (.cells YR 9)).drewN n
def VT(s:ByteArray)(at0:Nat)(w:World)(e:Ending)(w':World):Prop:=e= .returned (.string ⟨((s.data.toList.drop at0).take (Al (s.data.toList.drop at0))).toArray⟩)/\Below w.heap.size w w'
theorem Q4(w:World)(k:Nat)(hk:k<24):(w.alloc (.cells YR 9)).cell? ⟨w.heap.size,k,none⟩=some (.string ⟨(SG.getD k []).toArray⟩):=by rw[World.cell?_alloc_at _ _ _ _ rfl];exact TY k hk
theorem O1(s:ByteArray)(at0:Nat)(w:World)(hs:s.size<=65536)(hat:at0<s.size):Calls Tryz.prog 50 #[.string s,.int .i64 at0] w (VT s at0 w):=by
 have E:=zz (AU s);go_enter Tryz.func50,Tryz.ntmps50;go_wp2;go_loopw [6] (fun i wr=>U2 s at0 w i wr) (fun i _=>24 - (intOf i).toNat);(case atStart=>exact⟨0,0,rfl,by omega,fun j B=>by omega,rfl⟩);case round=>
  obtain⟨k,n,rfl,I,o,rfl⟩:=hrel;have d:=zz o;clear o;by_cases l:k<24
  · have F:=Q4 w k l;obtain⟨x,p⟩:∃x:ByteArray,x=⟨(SG.getD k []).toArray⟩:=⟨_,rfl⟩;rw[<- p]at F;have f:x.size=(SG.getD k []).length:=(by rw[p];simp[ByteArray.size]);have q:x.toList=SG.getD k []:=(by rw[p,ByteArray.toList_eq]);have H:=N7 k l;rw[<- f]at H;have b:¬at0+x.size<=s.size->CV (s.data.toList.drop at0) k=false:=(by intro A;unfold CV;rw[beq_eq_false_iff_ne];intro G;have:=congrArg List.length G;rw[List.length_take,List.length_drop,E.out,<- f]at this;omega);have a:CV (s.data.toList.drop at0) k=((s.extract at0 (at0+x.size)).toList==x.toList):=by unfold CV;rw[ByteArray.toList_eq,Bv,Nat.add_sub_cancel_left,q,f]
    have e:=zz (show CV (s.data.toList.drop at0) k=true->Value.string x= .string ⟨((s.data.toList.drop at0).take (Al (s.data.toList.drop at0))).toArray⟩from fun h=>by
     rw[(Wo l h d.out).2,p])
    clear p f q;have J:(k:Int)<24:=(by omega);have K:(0:Int)<=k:=(by omega);have L:decide ((k:Int)<24)=true:=(by simp;omega);have v:IntKind.i64.wrap ((at0:Int)+(x.size:Int))=(at0:Int)+x.size:=IntWalk.i64_in _ (by omega);have y:0<=(at0:Int)+x.size:=(by omega);have z:((at0:Int)+x.size).toNat=at0+x.size:=(by omega);by_cases A:at0+x.size<=s.size
    · have r:decide ((at0:Int)+x.size<=s.size)=true:=(by simp;omega);cases m:CV (s.data.toList.drop at0) k with
      | true=>rw[m]at a;have D:=zz (e.out m);have c:=a.symm;clear a b m e;go_wp2_with fail;go_quiet (fail);clear v y z r c;go_wp2;go_ret;exact⟨by rw[<- D.out];rfl,BD ((Below.refl _ _).alloc (Nat.le_refl _) _) _⟩
      | false=>
        rw[m]at a;have c:=a.symm;have t:=zz m;clear a b m e;go_wp2_with fail;go_quiet (fail);clear v y z r c;go_wp2;go_roundw;case rel=>
         refine⟨k+1,n+nq,by go_num,by omega,fun j B=>?_,rfl⟩;by_cases g:j=k
         · rw[g];exact t.out
         · exact d.out j (by omega)
        case measure=>simp[intOf];omega
    · have r:decide ((at0:Int)+x.size<=s.size)=false:=(by simp;omega);have t:=zz (b A);clear a b e;go_wp2_with fail;go_quiet (fail);clear v y z r;go_wp2;go_roundw;case rel=>
       refine⟨k+1,n+nq,by go_num,by omega,fun j B=>?_,rfl⟩;by_cases g:j=k
       · rw[g];exact t.out
       · exact d.out j (by omega)
      case measure=>simp[intOf];omega
  · have u:k=24:=(by omega);subst u;have C:=zz (Tn d.out);go_wp2;go_ret;exact⟨by rw[C.out];rfl,BD ((Below.refl _ _).alloc (Nat.le_refl _) _) _⟩
end
section
open Go.RowKit
theorem V9:(Tryz.prog.info? 76).map (fun i=>(i.zero,i.size,i.bytes))=some (some (.agg #[.int .i64 0,.string ⟨#[]⟩,.int .i64 0]),3,32):=by kernel_rfl
def QO(l:List UInt8)(w0:World)(v i:Value)(wr:World):Prop:=
 ∃(acc:List AH) (k:Nat),i= .int .i64 (k:Int)/\k<=l.length/\CE l=Dq acc (B9 l k)/\acc.length<=k/\wr.ownsRow w0.heap.size 76 3 v acc.length (CI acc)/\Below w0.heap.size w0 wr
def YZ(r:MI)(w:World)(e:Ending)(w':World):Prop:=
 (∃ts v,r= .ok ts/\e= .returned (.tuple #[v,.int .i64 0,.int .i64 (-1)])/\0<ts.length/\ts.length<=65537/\w'.ownsRow w.heap.size 76 3 v ts.length (CI ts)/\Below w.heap.size w w')∨
 (∃x p:Nat,r= .error (x,p)/\e= .returned (.tuple #[.slice none 0 0,.int .i64 x,.int .i64 p])/\x≠0/\Below w.heap.size w w')
theorem P6{l:List UInt8}{acc:List AH}{k:Nat}(hk:k<l.length)(hb:BU l[k]=true)(ht:CE l=Dq acc (B9 l k)):CE l=Dq acc (B9 l (k+1)):=by rw[ht,FN (b:=1) (by omega) (Iz hk hb)]
theorem Se{l:List UInt8}{acc:List AH}{k:Nat}(hk:k+1<l.length)(h1:l[k].toNat=47)(h2:l[k+1].toNat=47)(ht:CE l=Dq acc (B9 l k)):CE l=Dq acc (B9 l (k+cnt BF (l.drop k))):=by have:=Cx BF (l.drop k);rw[List.length_drop]at this;rw[ht,FN (by omega) (IH hk h1 h2)]
theorem NQ{l:List UInt8}{acc:List AH}{k:Nat}(hk:k<l.length)(hb:AB false (l.drop k)=0)(ht:CE l=Dq acc (B9 l k)){kd n x:Nat}(hm:AO (l.drop k)=(kd,n,x))(hx:x≠0):CE l= .error (x,k):=by have h:=Ri hk hb ht (by rw[hm];exact hx);rw[hm]at h;exact h
theorem K2{l:List UInt8}{acc:List AH}{k:Nat}(hk:k<l.length)(hb:AB false (l.drop k)=0)(ht:CE l=Dq acc (B9 l k)){kd n:Nat}(hm:AO (l.drop k)=(kd,n,0)):
 CE l=Dq (acc++[⟨kd,B8 kd ((l.drop k).take n),k⟩]) (B9 l (k+n)):=by
 rw[ht,G0 (by omega) hb,Lu,if_neg (D9 hk),hm,if_pos rfl,Jo]
theorem MW{l:List UInt8}{k:Nat}(hk:k<l.length)(h:AD l[k]=true):AO (l.drop k)=(2,cnt AD (l.drop k),if AX ((l.drop k).takeWhile AD)<9223372036854775808 then 0 else 10):=by rw[Ae l k hk];simp only[AO];rw[if_pos h]
theorem LS{l:List UInt8}{k:Nat}(hk:k<l.length)(hd:AD l[k]=false)(h:AZ l[k]=true):AO (l.drop k)=(1,cnt Aw (l.drop k),0):=by rw[Ae l k hk];simp only[AO];rw[if_neg (by simp[hd]),if_pos h]
theorem NT{l:List UInt8}{k:Nat}(hk:k<l.length)(h:CD l[k]=true):AO (l.drop k)=(3,Cw (l.drop (k+1)),if Cw (l.drop (k+1))=0 then 20 else 0):=by obtain⟨hd,a⟩:=Ft h;rw[Ae l k hk];simp only[AO];rw[if_neg (by simp[hd]),if_neg (by simp[a]),if_pos h]
theorem Oh{l:List UInt8}{k:Nat}(hk:k<l.length)(hd:AD l[k]=false)(hl:AZ l[k]=false)(h:CD l[k]=false):AO (l.drop k)=(4,Al (l.drop k),if Al (l.drop k)=0 then 20 else 0):=by rw[Ae l k hk];simp only[AO];rw[if_neg (by simp[hd]),if_neg (by simp[hl]),if_neg (by simp[h])]
theorem Kg{c:UInt8}(h:AZ c=true):AD c=false:=by simp only[AZ,Bool.or_eq_true,Bool.and_eq_true,decide_eq_true_eq,beq_iff_eq]at h;simp only[AD,Bool.and_eq_false_iff,decide_eq_false_iff_not];omega
theorem Ik{p:UInt8->Bool}{l:List UInt8}{k m:Nat}(hk:m<l.length)(hkm:k<=m)(hb:m - k<=cnt p (l.drop k))(h:p l[m]=true):m+1 - k<=cnt p (l.drop k):=by have:=Iv (p:=p) (l:=l.drop k) (k:=m - k) (by rw[List.length_drop];omega) hb (by rw[List.getElem_drop];simpa[Nat.add_sub_cancel' hkm]using h);omega
theorem F2{p:UInt8->Bool}{l:List UInt8}{k m:Nat}(hk:m<l.length)(hkm:k<=m)(hb:m - k<=cnt p (l.drop k))(h:p l[m]=false):m=k+cnt p (l.drop k):=by have:=Fj (p:=p) (l:=l.drop k) (k:=m - k) (by rw[List.length_drop];omega) hb (by rw[List.getElem_drop];simpa[Nat.add_sub_cancel' hkm]using h);omega
theorem Gy{p:UInt8->Bool}{l:List UInt8}{k m:Nat}(hk:l.length<=m)(hkm:k<=m)(hml:m<=l.length)(hb:m - k<=cnt p (l.drop k)):m=k+cnt p (l.drop k):=by have:=Cx p (l.drop k);rw[List.length_drop]at this;omega
end
end
section
open Go.RowKit
theorem Dh(W:World)(e:TypeId)(x y z:Value):∀(j:Nat) (u:Value),[x,y,z][j]?=some u->(W.alloc (.cells #[x,y,z] e)).cell? ((⟨W.heap.size,0,none⟩:Addr).add j)=some u:=by
 intro j u a
 match j,a with
 | 0,a=>simp at a;subst a;simp[Addr.add]
 | 1,a=>simp at a;subst a;simp[Addr.add]
 | 2,a=>simp at a;subst a;simp[Addr.add]
theorem FW(a c:Int)(x:ByteArray):∀u∈[Value.int .i64 a,.string x,.int .i64 c],u.oneCell'=true:=by intro u b;simp at b;rcases b with rfl | rfl | rfl<;>rfl
theorem GE{l:List UInt8}{w0 w3:World}{acc:List AH}{k n:Nat}{v3:Value}{kd:Nat}{tx:List UInt8}(ht:CE l=Dq (acc++[⟨kd,tx,k⟩]) (B9 l (k+n)))(hn:0<n)(hkn:k+n<=l.length)(hacc:acc.length<=k){x:ByteArray}(hx:x.data.toList=tx)
 (ho:w3.ownsRow w0.heap.size 76 3 v3 (acc.length+1) (CI acc++[.int .i64 (kd:Int),.string x,.int .i64 (k:Int)])) (hb:Below w0.heap.size w0 w3):QO l w0 v3 (.int .i64 ((k+n:Nat):Int)) w3:=by
 refine⟨acc++[⟨kd,tx,k⟩],k+n,rfl,hkn,ht,by simp;omega,?_,hb⟩;rw[EU,List.length_append];unfold Ly;rw[<- hx,<- Bw rfl];exact ho
theorem IF(s:ByteArray)(w:World)(hs:s.size<=65536):Calls Tryz.prog 17 #[.string s] w (YZ (CE s.data.toList) w):=by
 have G:=zz (AU s);obtain⟨i0,aY,hz⟩:=Option.map_eq_some_iff.1 V9;simp only[Prod.mk.injEq]at hz;obtain⟨a2,a3,N⟩:=hz;have az:=zz a2;have aA:=zz a3;have aB:=zz N;have HI:=zz aY;have a6:decide (65536<(s.size:Int))=false:=(by simp;omega);clear a2 a3 N aY;go_enter Tryz.func17,Tryz.ntmps17;go_wp2_with fail;clear a6;go_loopw [5,6] (fun v i wr=>QO s.data.toList w v i wr) (fun _ i _=>s.size - (intOf i).toNat);(case atStart=>exact⟨[],0,rfl,Nat.zero_le _,by rw[ON,K9],Nat.zero_le _,World.ownsRow_nil _ _ _ _,Below.refl _ _⟩);case round=>
  obtain⟨acc,k,rfl,hk,F,al,aO,aW⟩:=hrel;rw[G.out]at hk;have C:=zz aO;have q:=zz aW;clear aO aW;by_cases j:k<s.size
  · have u:k<s.data.toList.length:=(by rw[G.out];exact j);have t:s.data.toList[k]=s[k]'j:=rfl;by_cases S:BU (s[k]'j)=true
    · have HT:=zz (P6 u S F);clear F u t;by_cases b1:(s[k]'j).toNat=32
      · have g1:(((s[k]'j).toNat:Int)==32)=true:=(by rw[b1];rfl);clear b1 S;go_wp2_with fail;go_roundw;(case rel=>exact⟨acc,k+1,by go_num,by rw[G.out];omega,HT.out,by omega,C.out,q.out⟩);case measure=>simp[intOf];omega
      have g1:(((s[k]'j).toNat:Int)==32)=false:=A9 b1;by_cases b2:(s[k]'j).toNat=9
      · have g2:(((s[k]'j).toNat:Int)==9)=true:=(by rw[b2];rfl);clear b1 b2 S;go_wp2_with fail;go_roundw;(case rel=>exact⟨acc,k+1,by go_num,by rw[G.out];omega,HT.out,by omega,C.out,q.out⟩);case measure=>simp[intOf];omega
      have g2:(((s[k]'j).toNat:Int)==9)=false:=A9 b2;by_cases b3:(s[k]'j).toNat=10
      · have g3:(((s[k]'j).toNat:Int)==10)=true:=(by rw[b3];rfl);clear b1 b2 b3 S;go_wp2_with fail;go_roundw;(case rel=>exact⟨acc,k+1,by go_num,by rw[G.out];omega,HT.out,by omega,C.out,q.out⟩);case measure=>simp[intOf];omega
      have g3:(((s[k]'j).toNat:Int)==10)=false:=A9 b3;have b4:(s[k]'j).toNat=13:=(by simp only[BU,Bool.or_eq_true,beq_iff_eq]at S;omega);have g4:(((s[k]'j).toNat:Int)==13)=true:=(by rw[b4];rfl);clear b1 b2 b3 b4 S;go_wp2_with fail;go_roundw;(case rel=>exact⟨acc,k+1,by go_num,by rw[G.out];omega,HT.out,by omega,C.out,q.out⟩);case measure=>simp[intOf];omega
    · have B:BU (s[k]'j)=false:=(by simpa using S);have g1:(((s[k]'j).toNat:Int)==32)=false:=A9 (fun h=>by simp[BU,h]at B);have g2:(((s[k]'j).toNat:Int)==9)=false:=A9 (fun h=>by simp[BU,h]at B);have g3:(((s[k]'j).toNat:Int)==10)=false:=A9 (fun h=>by simp[BU,h]at B);have g4:(((s[k]'j).toNat:Int)==13)=false:=A9 (fun h=>by simp[BU,h]at B);have af:(s[k]'j).toNat≠47->AB false (s.data.toList.drop k)=0:=fun h=>EZ u B (fun hx=>h hx.1);have I:=fun W:World=>JO (s[k]'j) W;have T:=fun W:World=>Gf (s[k]'j) W;unfold WV at I;unfold UF at T;by_cases L:AZ (s[k]'j)=true
      · as_aux_lemma=>
         have a1:Aw (s[k]'j)=true:=(by simp[Aw,L]);have ag:=K2 u (af (by intro h;simp[AZ,h]at L)) F (LS u (Kg L) L);rw[show B8 1 ((s.data.toList.drop k).take (cnt Aw (s.data.toList.drop k)))=(s.data.toList.drop k).take (cnt Aw (s.data.toList.drop k))from rfl]at ag;have aH:0<cnt Aw (s.data.toList.drop k):=(by rw[Ae _ k u,An _ (by rw[t];exact a1)];omega);have aC:=Cx Aw (s.data.toList.drop k);rw[List.length_drop,G.out]at aC;have g5:(((s[k]'j).toNat:Int)==47)=false:=A9 (fun h=>by simp[AZ,h]at L);rw[L]at I;have HA:=zz I;have aj:=zz ag;have Y:=zz aH;clear I T ag aH af S B L a1 F t u;go_wp2_with fail;(with_reducible refine(HA.out wr).mono ?_);rintro e w' ⟨rfl,rfl⟩
         go_wp2_with fail;go_loop [8] (fun i=>∃m:Nat,k<=m/\m<=s.size/\Hid (m - k<=cnt Aw (s.data.toList.drop k))/\i= .int .i64 m) (fun i=>s.size - (intOf i).toNat);(case atStart=>exact⟨k,Nat.le_refl _,by omega,zz (by omega),rfl⟩);case round=>
          obtain⟨m,U,aQ,HM,rfl⟩:=hrel;by_cases c:m<s.size
          · have z:m<s.data.toList.length:=(by rw[G.out];exact c);have ak:=JO (s[m]'c) wr;have M:=Gf (s[m]'c) wr;unfold WV at ak;unfold UF at M;have y:=Ik (p:=Aw) z U HM.out;have A:=F2 (p:=Aw) z U HM.out;have E:s.data.toList[m]=s[m]'c:=rfl;rw[E]at y A;cases ax:AZ (s[m]'c)with
            | true=>
              have ao:=zz (y (by simp[Aw,ax]));rw[ax]at ak;have aJ:=zz ak;clear ak M y A E ax z;go_wp2_with fail;(with_reducible refine(aJ.out).mono ?_);rintro e w' ⟨rfl,rfl⟩
              go_wp2_with fail
              go_round
              (case rel=>exact⟨m+1,by omega,by omega,ao,by go_num⟩);case measure=>simp[intOf];omega
            | false=>
              cases ac:AD (s[m]'c)with
              | true=>
                have ao:=zz (y (by simp[Aw,ac]));rw[ax]at ak;rw[ac]at M;have aJ:=zz ak;have ar:=zz M;clear ak M y A E ax ac z;go_wp2_with fail;(with_reducible refine(aJ.out).mono ?_);rintro e w' ⟨rfl,rfl⟩
                go_wp2_with fail;(with_reducible refine(ar.out).mono ?_);rintro e w' ⟨rfl,rfl⟩
                go_wp2_with fail
                go_round
                (case rel=>exact⟨m+1,by omega,by omega,ao,by go_num⟩);case measure=>simp[intOf];omega
              | false=>
                have D:=zz (A (by simp[Aw,ax,ac]));rw[ax]at ak;rw[ac]at M;have aJ:=zz ak;have ar:=zz M;clear ak M y A E ax ac z;go_wp2_with fail;(with_reducible refine(aJ.out).mono ?_);rintro e w' ⟨rfl,rfl⟩
                go_wp2_with fail;(with_reducible refine(ar.out).mono ?_);rintro e w' ⟨rfl,rfl⟩
                have N:w.heap.size<=wr.heap.size:=q.out.size;go_wp2_with (at_builtin;refine wpList_append_own _ rfl _ _ 69 rfl w.heap.size 76 i0 (.agg #[.int .i64 0,.string ⟨#[]⟩,.int .i64 0]) 3 32 Tryz.underlying69 HI.out az.out aA.out aB.out rfl (by decide) _ _ _ rfl (C.out.alloc _) ⟨wr.heap.size,0,none⟩ 1 1 [.int .i64 1,.string (s.extract k m),.int .i64 k] rfl rfl (Dh _ _ _ _ _) (FW _ _ _) (by unfold maxLen;omega) (by omega) (by simp;omega) ?_);intro v3 w3 o f _;have X:=zz ((q.out.alloc N _).grown f (by simp;omega) (fun g hg=>D8 C.out g hg));have Z:=zz o;clear o f;go_wp2_with fail;go_roundw;(case rel=>have e:=D.out;rw[e];exact GE aj.out Y.out (by rw[G.out];omega) al (by rw[Bv,e,Nat.add_sub_cancel_left]) Z.out X.out);case measure=>have e:=D.out;have:=Y.out;simp[intOf];omega
          · have D:=zz (Gy (p:=Aw) (by rw[G.out];omega) U (by rw[G.out];omega) HM.out);have g:decide (m<s.size)=false:=(by simpa using c);have N:w.heap.size<=wr.heap.size:=q.out.size;go_wp2_with (at_builtin;refine wpList_append_own _ rfl _ _ 69 rfl w.heap.size 76 i0 (.agg #[.int .i64 0,.string ⟨#[]⟩,.int .i64 0]) 3 32 Tryz.underlying69 HI.out az.out aA.out aB.out rfl (by decide) _ _ _ rfl (C.out.alloc _) ⟨wr.heap.size,0,none⟩ 1 1 [.int .i64 1,.string (s.extract k m),.int .i64 k] rfl rfl (Dh _ _ _ _ _) (FW _ _ _) (by unfold maxLen;omega) (by omega) (by simp;omega) ?_);intro v3 w3 o f _;have X:=zz ((q.out.alloc N _).grown f (by simp;omega) (fun g hg=>D8 C.out g hg));have Z:=zz o;clear o f;go_wp2_with fail;go_roundw;(case rel=>have e:=D.out;rw[e];exact GE aj.out Y.out (by rw[G.out];omega) al (by rw[Bv,e,Nat.add_sub_cancel_left]) Z.out X.out);case measure=>have e:=D.out;have:=Y.out;simp[intOf];omega
      by_cases ab:AD (s[k]'j)=true
      · as_aux_lemma=>
         have aX:AZ (s[k]'j)=false:=(by simpa using L);have hm:=MW u ab
         have J:(AX ((s.data.toList.drop k).takeWhile AD)<9223372036854775808->CE s.data.toList=Dq (acc++[⟨2,B8 2 ((s.data.toList.drop k).take (cnt AD (s.data.toList.drop k))),k⟩]) (B9 s.data.toList (k+cnt AD (s.data.toList.drop k))))/\
          (¬AX ((s.data.toList.drop k).takeWhile AD)<9223372036854775808->CE s.data.toList= .error (10,k)):=by
          have Q:=af (by intro h;simp[AD,h]at ab);refine⟨fun h=>?_,fun h=>?_⟩
          · rw[if_pos h]at hm;exact K2 u Q F hm
          · rw[if_neg h]at hm;exact NQ u Q F hm (by decide)
         have aa:=zz J;have aH:0<cnt AD (s.data.toList.drop k):=(by rw[Ae _ k u,An _ (by rw[t];exact ab)];omega);have aC:=Cx AD (s.data.toList.drop k);rw[List.length_drop,G.out]at aC;have g5:(((s[k]'j).toNat:Int)==47)=false:=A9 (fun h=>by simp[AD,h]at ab);rw[aX]at I;rw[ab]at T;have HA:=zz I;have HF:=zz T;have Y:=zz aH;clear I T J aH af S B L ab aX F t u hm;go_wp2_with fail;(with_reducible refine(HA.out wr).mono ?_);rintro e w' ⟨rfl,rfl⟩
         go_wp2_with fail;(with_reducible refine(HF.out wr).mono ?_);rintro e w' ⟨rfl,rfl⟩
         go_wp2_with fail;go_loop [8] (fun i=>∃m:Nat,k<=m/\m<=s.size/\Hid (m - k<=cnt AD (s.data.toList.drop k))/\i= .int .i64 m) (fun i=>s.size - (intOf i).toNat);(case atStart=>exact⟨k,Nat.le_refl _,by omega,zz (by omega),rfl⟩);case round=>
          obtain⟨m,U,aQ,HM,rfl⟩:=hrel;by_cases c:m<s.size
          · have z:m<s.data.toList.length:=(by rw[G.out];exact c);have M:=Gf (s[m]'c) wr;unfold UF at M;have y:=Ik (p:=AD) z U HM.out;have A:=F2 (p:=AD) z U HM.out;have E:s.data.toList[m]=s[m]'c:=rfl;rw[E]at y A;cases ac:AD (s[m]'c)with
            | true=>
              have ao:=zz (y ac);rw[ac]at M;have ar:=zz M;clear M y A E ac z;go_wp2_with fail;(with_reducible refine(ar.out).mono ?_);rintro e w' ⟨rfl,rfl⟩
              go_wp2_with fail
              go_round
              (case rel=>exact⟨m+1,by omega,by omega,ao,by go_num⟩);case measure=>simp[intOf];omega
            | false=>
              have D:=zz (A ac);rw[ac]at M;have ar:=zz M;clear M y A E ac z;have V:=D.out;have hx:(s.extract k m).data.toList=(s.data.toList.drop k).takeWhile AD:=(by rw[Bv,V,Nat.add_sub_cancel_left,Em]);have K:=Fz (s.extract k m) wr (by simp only[ByteArray.size_extract];omega) (by rw[hx];exact FE _);rw[hx]at K;unfold Wc Hr at K;clear V hx;by_cases hv:AX ((s.data.toList.drop k).takeWhile AD)<9223372036854775808
              · rw[if_pos hv]at K;have ay:=zz K;have ag:=aa.out.1 hv;rw[show B8 2 ((s.data.toList.drop k).take (cnt AD (s.data.toList.drop k)))=(s.data.toList.drop k).take (cnt AD (s.data.toList.drop k))from rfl]at ag;have aj:=zz ag;clear K hv ag aa;go_wp2_with fail;(with_reducible refine(ar.out).mono ?_);rintro e w' ⟨rfl,rfl⟩
                go_wp2_with fail;(with_reducible refine(ay.out).mono ?_);rintro e w' ⟨rfl,rfl⟩
                have N:w.heap.size<=wr.heap.size:=q.out.size;go_wp2_with (at_builtin;refine wpList_append_own _ rfl _ _ 69 rfl w.heap.size 76 i0 (.agg #[.int .i64 0,.string ⟨#[]⟩,.int .i64 0]) 3 32 Tryz.underlying69 HI.out az.out aA.out aB.out rfl (by decide) _ _ _ rfl (C.out.alloc _) ⟨wr.heap.size,0,none⟩ 1 1 [.int .i64 2,.string (s.extract k m),.int .i64 k] rfl rfl (Dh _ _ _ _ _) (FW _ _ _) (by unfold maxLen;omega) (by omega) (by simp;omega) ?_);intro v3 w3 o f _;have X:=zz ((q.out.alloc N _).grown f (by simp;omega) (fun g hg=>D8 C.out g hg));have Z:=zz o;clear o f;go_wp2_with fail;go_roundw;(case rel=>have e:=D.out;rw[e];exact GE aj.out Y.out (by rw[G.out];omega) al (by rw[Bv,e,Nat.add_sub_cancel_left]) Z.out X.out);case measure=>have e:=D.out;have:=Y.out;simp[intOf];omega
              · rw[if_neg hv]at K;have ay:=zz K;have H:=zz (aa.out.2 hv);clear K hv aa;go_wp2_with fail;(with_reducible refine(ar.out).mono ?_);rintro e w' ⟨rfl,rfl⟩
                go_wp2_with fail;(with_reducible refine(ay.out).mono ?_);rintro e w' ⟨rfl,rfl⟩
                go_wp2;go_ret3;exact .inr ⟨10,k,H.out,rfl,by decide,q.out⟩
          · have D:=zz (Gy (p:=AD) (by rw[G.out];omega) U (by rw[G.out];omega) HM.out);have g:decide (m<s.size)=false:=(by simpa using c);have V:=D.out;have hx:(s.extract k m).data.toList=(s.data.toList.drop k).takeWhile AD:=(by rw[Bv,V,Nat.add_sub_cancel_left,Em]);have K:=Fz (s.extract k m) wr (by simp only[ByteArray.size_extract];omega) (by rw[hx];exact FE _);rw[hx]at K;unfold Wc Hr at K;clear V hx;by_cases hv:AX ((s.data.toList.drop k).takeWhile AD)<9223372036854775808
            · rw[if_pos hv]at K;have ay:=zz K;have ag:=aa.out.1 hv;rw[show B8 2 ((s.data.toList.drop k).take (cnt AD (s.data.toList.drop k)))=(s.data.toList.drop k).take (cnt AD (s.data.toList.drop k))from rfl]at ag;have aj:=zz ag;clear K hv ag aa;go_wp2_with fail;(with_reducible refine(ay.out).mono ?_);rintro e w' ⟨rfl,rfl⟩
              have N:w.heap.size<=wr.heap.size:=q.out.size;go_wp2_with (at_builtin;refine wpList_append_own _ rfl _ _ 69 rfl w.heap.size 76 i0 (.agg #[.int .i64 0,.string ⟨#[]⟩,.int .i64 0]) 3 32 Tryz.underlying69 HI.out az.out aA.out aB.out rfl (by decide) _ _ _ rfl (C.out.alloc _) ⟨wr.heap.size,0,none⟩ 1 1 [.int .i64 2,.string (s.extract k m),.int .i64 k] rfl rfl (Dh _ _ _ _ _) (FW _ _ _) (by unfold maxLen;omega) (by omega) (by simp;omega) ?_);intro v3 w3 o f _;have X:=zz ((q.out.alloc N _).grown f (by simp;omega) (fun g hg=>D8 C.out g hg));have Z:=zz o;clear o f;go_wp2_with fail;go_roundw;(case rel=>have e:=D.out;rw[e];exact GE aj.out Y.out (by rw[G.out];omega) al (by rw[Bv,e,Nat.add_sub_cancel_left]) Z.out X.out);case measure=>have e:=D.out;have:=Y.out;simp[intOf];omega
            · rw[if_neg hv]at K;have ay:=zz K;have H:=zz (aa.out.2 hv);clear K hv aa;go_wp2_with fail;(with_reducible refine(ay.out).mono ?_);rintro e w' ⟨rfl,rfl⟩
              go_wp2;go_ret3;exact .inr ⟨10,k,H.out,rfl,by decide,q.out⟩
      by_cases ah:CD (s[k]'j)=true
      · as_aux_lemma=>
         obtain⟨O,P⟩:=Ft ah;have hm:=NT u ah;have Q:=af (by intro h;simp[CD,h]at ah)
         have J:(Cw (s.data.toList.drop (k+1))≠0->CE s.data.toList=Dq (acc++[⟨3,B8 3 ((s.data.toList.drop k).take (Cw (s.data.toList.drop (k+1)))),k⟩]) (B9 s.data.toList (k+Cw (s.data.toList.drop (k+1)))))/\
          (Cw (s.data.toList.drop (k+1))=0->CE s.data.toList= .error (20,k)):=by
          refine⟨fun h=>?_,fun h=>?_⟩
          · rw[if_neg h]at hm;exact K2 u Q F hm
          · rw[if_pos h]at hm;exact NQ u Q F hm (by decide)
         have aa:=zz J;have aC:=Cx AK (s.data.toList.drop (k+1));rw[List.length_drop,G.out]at aC;have hq:(s[k]'j).toNat=34:=(by simpa[CD]using ah);have g5:(((s[k]'j).toNat:Int)==47)=false:=A9 (n:=47) (by omega);have g6:(((s[k]'j).toNat:Int)==34)=true:=(by rw[hq];rfl);rw[P]at I;rw[O]at T;have HA:=zz I;have HF:=zz T;have aU:=zz (show Cw (s.data.toList.drop (k+1))=if cnt AK (s.data.toList.drop (k+1))=0∨32<cnt AK (s.data.toList.drop (k+1))∨((s.data.toList.drop (k+1))[cnt AK (s.data.toList.drop (k+1))]?).map (·.toNat)≠some 34 then 0 else cnt AK (s.data.toList.drop (k+1))+2 from rfl);clear I T J af S B L ab O P ah hq F t u hm Q;go_wp2_with fail;(with_reducible refine(HA.out wr).mono ?_);rintro e w' ⟨rfl,rfl⟩
         go_wp2_with fail;(with_reducible refine(HF.out wr).mono ?_);rintro e w' ⟨rfl,rfl⟩
         go_wp2_with fail;go_loop [8] (fun i=>∃m:Nat,k+1<=m/\m<=s.size/\Hid (m - (k+1)<=cnt AK (s.data.toList.drop (k+1)))/\i= .int .i64 m) (fun i=>s.size - (intOf i).toNat);(case atStart=>exact⟨k+1,Nat.le_refl _,by omega,zz (by omega),by go_num⟩);case round=>
          obtain⟨m,U,aQ,HM,rfl⟩:=hrel;by_cases c:m<s.size
          · have z:m<s.data.toList.length:=(by rw[G.out];exact c);have y:=Ik (p:=AK) z U HM.out;have A:=F2 (p:=AK) z U HM.out;have E:s.data.toList[m]=s[m]'c:=rfl;rw[E]at y A;obtain⟨d,hd⟩:∃d:Int,d=(s[m]'c).toNat:=⟨_,rfl⟩;have aw:AK (s[m]'c)=true↔(d≠34/\32<=d/\d<=126):=(by simp only[AK,Bool.and_eq_true,decide_eq_true_eq,bne_iff_ne];omega);by_cases hp:AK (s[m]'c)=true
            · have ao:=zz (y hp);obtain⟨p1,p2,p3⟩:=aw.1 hp;have q1:(((s[m]'c).toNat:Int) != 34)=true:=(by rw[<- hd,bne_iff_ne];exact p1);have q2:(32:Int)<=(s[m]'c).toNat:=(by omega);have q3:((s[m]'c).toNat:Int)<=126:=(by omega);clear y A E z aw hp hd p1 p2 p3;go_wp2_with fail
              go_round
              (case rel=>exact⟨m+1,by omega,by omega,ao,by go_num⟩);case measure=>simp[intOf];omega
            · have V:=A (by simpa using hp);have D:=zz V;have aG:cnt AK (s.data.toList.drop (k+1))=m - (k+1):=(by omega);have hg:(s.data.toList.drop (k+1))[cnt AK (s.data.toList.drop (k+1))]?=some (s[m]'c):=(by rw[List.getElem?_drop,<- V,List.getElem?_eq_getElem z];rfl);have ap:=aU.out;rw[hg,aG]at ap;by_cases au:d=34
              · have q1:(((s[m]'c).toNat:Int) != 34)=false:=(by rw[<- hd,au];rfl);have aF:(s[m]'c).toNat=34:=(by omega);by_cases am:m - (k+1)=0∨32<m - (k+1)
                · have H:=zz (aa.out.2 (by rw[ap,if_pos (by rcases am with h | h;exact .inl h;exact .inr (.inl h))]));by_cases aZ:m - (k+1)=0
                  · have g7:decide ((m:Int) - k<2)=true:=(by simp;omega);have g8:decide (s.size<=m)=false:=(by simp;omega);clear y A E z aw hp hd au aF am aZ ap hg aG V;go_wp2;go_ret3;exact .inr ⟨20,k,H.out,rfl,by decide,q.out⟩
                  · have g7:decide ((m:Int) - k<2)=false:=(by simp;omega);have g8:decide (s.size<=m)=false:=(by simp;omega);have g9:decide (33<(m:Int) - k)=true:=(by simp;omega);clear y A E z aw hp hd au aF am aZ ap hg aG V;go_wp2;go_ret3;exact .inr ⟨20,k,H.out,rfl,by decide,q.out⟩
                · have a0:Cw (s.data.toList.drop (k+1))=m - (k+1)+2:=by
                   rw[ap,if_neg];rintro(h | h | h)
                   · exact am (.inl h)
                   · exact am (.inr h)
                   · exact h (by rw[Option.map_some,aF])
                  have a4:=zz a0;have aj:=zz (aa.out.1 (by omega));have g7:decide ((m:Int) - k<2)=false:=(by simp;omega);have g8:decide (s.size<=m)=false:=(by simp;omega);have g9:decide (33<(m:Int) - k)=false:=(by simp;omega);clear y A E z aw hp hd au aF am ap hg aG V a0;have N:w.heap.size<=wr.heap.size:=q.out.size;go_wp2_with (at_builtin;refine wpList_append_own _ rfl _ _ 69 rfl w.heap.size 76 i0 (.agg #[.int .i64 0,.string ⟨#[]⟩,.int .i64 0]) 3 32 Tryz.underlying69 HI.out az.out aA.out aB.out rfl (by decide) _ _ _ rfl (C.out.alloc _) ⟨wr.heap.size,0,none⟩ 1 1 [.int .i64 3,.string (s.extract (k+1) m),.int .i64 k] rfl rfl (Dh _ _ _ _ _) (FW _ _ _) (by unfold maxLen;omega) (by omega) (by simp;omega) ?_);intro v3 w3 o f _;have X:=zz ((q.out.alloc N _).grown f (by simp;omega) (fun g hg=>D8 C.out g hg));have Z:=zz o;clear o f;go_wp2_with fail;go_roundw;case rel=>
                   have e:=D.out;have e2:=a4.out;have e3:((m:Int)+1)=((k+Cw (s.data.toList.drop (k+1)):Nat):Int):=(by omega);rw[e3];refine GE aj.out (by omega) (by rw[G.out];omega) al ?_ Z.out X.out;rw[Bv];unfold B8;rw[if_pos rfl,List.drop_take,List.take_take,List.drop_drop,List.length_take,List.length_drop,G.out]
                   congr 1
                   omega
                  case measure=>simp[intOf];omega
              · have H:=zz (aa.out.2 (by rw[ap,if_pos (.inr (.inr (by rw[Option.map_some];intro h;injection h with h;omega)))]));have q1:(((s[m]'c).toNat:Int) != 34)=true:=(by rw[<- hd,bne_iff_ne];exact au);have g8:decide (s.size<=m)=false:=(by simp;omega);by_cases aP:32<=d
                · have q2:(32:Int)<=(s[m]'c).toNat:=(by omega);have q3:decide (((s[m]'c).toNat:Int)<=126)=false:=(by rw[decide_eq_false_iff_not];intro h;exact hp (aw.2 ⟨au,aP,by omega⟩));clear y A E z aw hp hd au aP ap hg aG V;go_wp2;go_ret3;exact .inr ⟨20,k,H.out,rfl,by decide,q.out⟩
                · have q2:decide ((32:Int)<=(s[m]'c).toNat)=false:=(by rw[decide_eq_false_iff_not];omega);clear y A E z aw hp hd au aP ap hg aG V;go_wp2;go_ret3;exact .inr ⟨20,k,H.out,rfl,by decide,q.out⟩
          · have V:=Gy (p:=AK) (l:=s.data.toList) (k:=k+1) (m:=m) (by rw[G.out];omega) U (by rw[G.out];omega) HM.out
            have H:=zz (aa.out.2 (by
             rw[aU.out,if_pos];refine .inr (.inr ?_);rw[List.getElem?_eq_none (by rw[List.length_drop,G.out];omega)]
             simp))
            have g:decide (m<s.size)=false:=(by simpa using c);have g8:decide (s.size<=m)=true:=(by simp;omega);clear V;go_wp2;go_ret3;exact .inr ⟨20,k,H.out,rfl,by decide,q.out⟩
      · as_aux_lemma=>
         have ai:CD (s[k]'j)=false:=(by simpa using ah);have O:AD (s[k]'j)=false:=(by simpa using ab);have P:AZ (s[k]'j)=false:=(by simpa using L);have hm:=Oh u O P ai
         have J:AB false (s.data.toList.drop k)=0->(Al (s.data.toList.drop k)≠0->CE s.data.toList=Dq (acc++[⟨4,(s.data.toList.drop k).take (Al (s.data.toList.drop k)),k⟩]) (B9 s.data.toList (k+Al (s.data.toList.drop k))))/\
          (Al (s.data.toList.drop k)=0->CE s.data.toList= .error (20,k)):=by
          intro Q;refine⟨fun h=>?_,fun h=>?_⟩
          · rw[if_neg h]at hm;exact K2 u Q F hm
          · rw[if_pos h]at hm;exact NQ u Q F hm (by decide)
         have g6:(((s[k]'j).toNat:Int)==34)=false:=A9 (fun h=>by simp[CD,h]at ai);rw[P]at I;rw[O]at T;have HA:=zz I;have HF:=zz T;have aD:=O1 s k wr hs j;unfold VT at aD;have aL:=zz aD;have aM:=zz (L6 (s.data.toList.drop k));by_cases ae:(s[k]'j).toNat=47
         · have g5:(((s[k]'j).toNat:Int)==47)=true:=(by rw[ae];rfl);have ad:Al (s.data.toList.drop k)=0:=by
            rw[Ae _ k u];have h1:DU s.data.toList[k]=false:=(by rw[t];simp[DU,ae]);have h2:IN (s.data.toList[k]::s.data.toList.drop (k+1))=false:=by
             cases hr:s.data.toList.drop (k+1)with
             | nil=>rfl
             | cons b r=>simp only[IN];rw[t,ae];rfl
            simp only[Al];rw[h2,h1];rfl
           by_cases av:k+1<s.size
           · have gE:((k:Int)+1<s.size):=(by omega);have aN:k+1<s.data.toList.length:=(by rw[G.out];exact av);have aE:s.data.toList[k+1]=s[k+1]'av:=rfl;by_cases an:(s[k+1]'av).toNat=47
             · have g7:(((s[k+1]'av).toNat:Int)==47)=true:=(by rw[an];rfl);have HT:=zz (Se aN (by rw[t];exact ae) (by rw[aE];exact an) F);have aC:=Cx BF (s.data.toList.drop k);rw[List.length_drop,G.out]at aC;have aH:0<cnt BF (s.data.toList.drop k):=(by rw[Ae _ k u,An _ (by rw[t];simp[BF,ae])];omega);clear I T J af S B L P ab O ah ai F t u hm aD aL aM HA HF ad ae an aE aN;go_wp2_with fail;go_loop [6] (fun i=>∃m:Nat,k<=m/\m<=s.size/\Hid (m - k<=cnt BF (s.data.toList.drop k))/\i= .int .i64 m) (fun i=>s.size - (intOf i).toNat);(case atStart=>exact⟨k,Nat.le_refl _,by omega,zz (by omega),rfl⟩);case round=>
                obtain⟨m,U,aQ,HM,rfl⟩:=hrel;by_cases c:m<s.size
                · have z:m<s.data.toList.length:=(by rw[G.out];exact c);have y:=Ik (p:=BF) z U HM.out;have A:=F2 (p:=BF) z U HM.out;have E:s.data.toList[m]=s[m]'c:=rfl;rw[E]at y A;by_cases hp:(s[m]'c).toNat=10
                  · have D:=zz (A (by simp[BF,hp]));have q1:(((s[m]'c).toNat:Int) != 10)=false:=(by rw[hp];rfl);clear y A E hp z;go_wp2_with fail;go_roundw;(case rel=>have e:=D.out;exact⟨acc,m,rfl,by rw[G.out];omega,by rw[HT.out,e],by omega,C.out,q.out⟩);case measure=>have e:=D.out;simp[intOf];omega
                  · have ao:=zz (y (by simp[BF,hp]));have q1:(((s[m]'c).toNat:Int) != 10)=true:=(by rw[bne_iff_ne];omega);clear y A E hp z;go_wp2_with fail
                    go_round
                    (case rel=>exact⟨m+1,by omega,by omega,ao,by go_num⟩);case measure=>simp[intOf];omega
                · have D:=zz (Gy (p:=BF) (l:=s.data.toList) (k:=k) (m:=m) (by rw[G.out];omega) U (by rw[G.out];omega) HM.out);have g:decide (m<s.size)=false:=(by simpa using c);go_wp2_with fail;go_roundw;(case rel=>have e:=D.out;exact⟨acc,m,rfl,by rw[G.out];omega,by rw[HT.out,e],by omega,C.out,q.out⟩);case measure=>have e:=D.out;simp[intOf];omega
             · have g7:(((s[k+1]'av).toNat:Int)==47)=false:=A9 an;have Q:AB false (s.data.toList.drop k)=0:=EZ u B (fun hx=>an (by rw[<- aE];exact hx.2.2));have H:=zz ((J Q).2 ad);have aI:=zz (show(⟨((s.data.toList.drop k).take (Al (s.data.toList.drop k))).toArray⟩:ByteArray)=⟨#[]⟩ by rw[ad];rfl);clear I T J af S B L P ab O ah ai F t u hm aD ad ae an aE aN Q;go_wp2_with fail;(with_reducible refine(HA.out wr).mono ?_);rintro e w' ⟨rfl,rfl⟩
               go_wp2_with fail;(with_reducible refine(HF.out wr).mono ?_);rintro e w' ⟨rfl,rfl⟩
               go_wp2_with fail;(with_reducible refine(aL.out).mono ?_);rintro e w2 ⟨rfl,R⟩
               have aq:=zz (q.out.trans (R.mono q.out.size));have aK:=zz (BW C.out R);clear R;rw[aI.out];go_wp2;go_ret3;exact .inr ⟨20,k,H.out,rfl,by decide,aq.out⟩
           · have gE:decide ((k:Int)+1<s.size)=false:=(by simp;omega);have Q:AB false (s.data.toList.drop k)=0:=EZ u B (fun hx=>by have:=hx.2.1;rw[G.out]at this;omega);have H:=zz ((J Q).2 ad);have aI:=zz (show(⟨((s.data.toList.drop k).take (Al (s.data.toList.drop k))).toArray⟩:ByteArray)=⟨#[]⟩ by rw[ad];rfl);clear I T J af S B L P ab O ah ai F t u hm aD ad ae Q;go_wp2_with fail;(with_reducible refine(HA.out wr).mono ?_);rintro e w' ⟨rfl,rfl⟩
             go_wp2_with fail;(with_reducible refine(HF.out wr).mono ?_);rintro e w' ⟨rfl,rfl⟩
             go_wp2_with fail;(with_reducible refine(aL.out).mono ?_);rintro e w2 ⟨rfl,R⟩
             have aq:=zz (q.out.trans (R.mono q.out.size));have aK:=zz (BW C.out R);clear R;rw[aI.out];go_wp2;go_ret3;exact .inr ⟨20,k,H.out,rfl,by decide,aq.out⟩
         · have g5:(((s[k]'j).toNat:Int)==47)=false:=A9 ae;have J:=J (af ae);by_cases ad:Al (s.data.toList.drop k)=0
           · have H:=zz (J.2 ad);have aI:=zz (show(⟨((s.data.toList.drop k).take (Al (s.data.toList.drop k))).toArray⟩:ByteArray)=⟨#[]⟩ by rw[ad];rfl);clear I T J af S B L P ab O ah ai F t u hm aD ad ae;go_wp2_with fail;(with_reducible refine(HA.out wr).mono ?_);rintro e w' ⟨rfl,rfl⟩
             go_wp2_with fail;(with_reducible refine(HF.out wr).mono ?_);rintro e w' ⟨rfl,rfl⟩
             go_wp2_with fail;(with_reducible refine(aL.out).mono ?_);rintro e w2 ⟨rfl,R⟩
             have aq:=zz (q.out.trans (R.mono q.out.size));have aK:=zz (BW C.out R);clear R;rw[aI.out];go_wp2;go_ret3;exact .inr ⟨20,k,H.out,rfl,by decide,aq.out⟩
           · have aj:=zz (J.1 ad);have Y:=zz (show 0<Al (s.data.toList.drop k) by omega);clear I T J af S B L P ab O ah ai F t u hm aD ad ae;go_wp2_with fail;(with_reducible refine(HA.out wr).mono ?_);rintro e w' ⟨rfl,rfl⟩
             go_wp2_with fail;(with_reducible refine(HF.out wr).mono ?_);rintro e w' ⟨rfl,rfl⟩
             go_wp2_with fail;(with_reducible refine(aL.out).mono ?_);rintro e w2 ⟨rfl,R⟩
             have aq:=zz (q.out.trans (R.mono q.out.size));have aK:=zz (BW C.out R);clear R;generalize aS:(⟨((s.data.toList.drop k).take (Al (s.data.toList.drop k))).toArray⟩:ByteArray)=x;have aR:x.size=Al (s.data.toList.drop k):=(by have hl:=aM.out;rw[<- aS];show(List.toArray _).size=_;rw[List.size_toArray,List.length_take];omega);have a5:=zz (show x.data.toList=(s.data.toList.drop k).take (Al (s.data.toList.drop k)) by rw[<- aS]);have aV:=zz aR;have a9:x.size<=s.size:=(by rw[aR];have:=aM.out;rw[List.length_drop,G.out]at this;omega);have a7:(!x.toList.isEmpty)=true:=by
              have h1:x.toList.length=x.size:=(by rw[ByteArray.toList_eq];simp);have h2:=Y.out;cases hl:x.toList with
              | nil=>rw[hl]at h1;simp at h1;omega
              | cons a b=>rfl
             have a8:x.toList.isEmpty=false:=(by simpa using a7);clear aS aR;have N:w.heap.size<=w2.heap.size:=aq.out.size;go_wp2_with (at_builtin;refine wpList_append_own _ rfl _ _ 69 rfl w.heap.size 76 i0 (.agg #[.int .i64 0,.string ⟨#[]⟩,.int .i64 0]) 3 32 Tryz.underlying69 HI.out az.out aA.out aB.out rfl (by decide) _ _ _ rfl (aK.out.alloc _) ⟨w2.heap.size,0,none⟩ 1 1 [.int .i64 4,.string (x),.int .i64 k] rfl rfl (Dh _ _ _ _ _) (FW _ _ _) (by unfold maxLen;omega) (by omega) (by simp;omega) ?_);intro v3 w3 o f _;have X:=zz ((aq.out.alloc N _).grown f (by simp;omega) (fun g hg=>D8 aK.out g hg));have Z:=zz o;clear o f;go_wp2_with fail;go_roundw;(case rel=>have e:=aV.out;have e3:((k:Int)+(x.size:Int))=((k+Al (s.data.toList.drop k):Nat):Int):=(by omega);rw[e3];have:=aM.out;rw[List.length_drop,G.out]at this;exact GE aj.out Y.out (by rw[G.out];omega) al a5.out Z.out X.out);case measure=>have e:=aV.out;have:=Y.out;have h2:=aM.out;rw[List.length_drop,G.out]at h2;simp[intOf];omega
  · have u:k=s.data.toList.length:=(by rw[G.out];omega);have g:decide (k<s.size)=false:=(by simpa using j);have aT:=zz (Nz (l:=s.data.toList) (acc:=acc) (by rw[<- u];exact F));clear F u;have N:w.heap.size<=wr.heap.size:=q.out.size;go_wp2_with (at_builtin;refine wpList_append_own _ rfl _ _ 69 rfl w.heap.size 76 i0 (.agg #[.int .i64 0,.string ⟨#[]⟩,.int .i64 0]) 3 32 Tryz.underlying69 HI.out az.out aA.out aB.out rfl (by decide) _ _ _ rfl (C.out.alloc _) ⟨wr.heap.size,0,none⟩ 1 1 [.int .i64 0,.string (⟨#[]⟩),.int .i64 s.size] rfl rfl (Dh _ _ _ _ _) (FW _ _ _) (by unfold maxLen;omega) (by omega) (by simp;omega) ?_);intro v3 w3 o f _;have X:=zz ((q.out.alloc N _).grown f (by simp;omega) (fun g hg=>D8 C.out g hg));have Z:=zz o;clear o f;go_wp2;go_ret3;refine .inl ⟨acc++[⟨0,[],s.data.toList.length⟩],v3,aT.out,rfl,by simp,by simp;omega,?_,X.out⟩;rw[EU,List.length_append,G.out];exact Z.out
end
section
section
open Go.RowKit
theorem Qu(w:World):Calls Tryz.prog 9 #[.nilIface] w fun e w'=>e= .returned (.int .i64 0)/\w=w':=(UZ w).mono fun _ _ h=>⟨h.1,h.2.symm⟩
theorem Mg{s:ByteArray}{ts:List AH}(w:World)(hs:s.size<=65536)(h:CE s.data.toList= .ok ts):
 Calls Tryz.prog 17 #[.string s] w fun e w'=>∃g cap,e= .returned (.tuple #[.slice (some ⟨g,0,none⟩) ts.length cap,.int .i64 0,.int .i64 (-1)])/\0<ts.length/\ts.length<=65537/\w'.ownsRow w.heap.size 76 3 (.slice (some ⟨g,0,none⟩) ts.length cap) ts.length (CI ts)/\Below w.heap.size w w':=by
 refine(IF s w hs).mono ?_;rintro e w' (⟨i,v,a,rfl,b,d,c,f⟩ | ⟨x,p,a,_⟩)
 · rw[h]at a;obtain rfl:=MI.ok.inj a;obtain⟨g,cap,rfl⟩:=Eu c b;exact⟨g,cap,rfl,b,d,c,f⟩
 · rw[h]at a;cases a
end
end
end Go.Proofs.YtodijgndbjfbgaaGreatDoor
