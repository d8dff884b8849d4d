import Derived.Test.YtmgjpjjglghbaaaGreatDoorb6
import Derived.Lib.Mul64
import Derived.Laws.Bits64b
import Derived.Laws.Externs
import Derived.Laws.CopyOwn
import Derived.Deep.RegionLaw
import Derived.Test.YtmgjpjjglghbaaaGreatDoorH4
import Derived.Lib.OwnBridge
import Derived.Deep.AppendLies
import Derived.Laws.AppendOwnNone
import Derived.Maps.AppendAt
import Derived.Lib.SliceRun
import Derived.Deep.RegionHeld3
import Derived.Test.YtmgjpjjglghbaaaGreatDoorb3
namespace Go.Proofs.YtmgjpjjglghbaaaGreatDoor
set_option maxHeartbeats 16000000
set_option maxRecDepth 100000
section
section
open Go.RowKit
theorem maskN(a:Nat)(ha:a<18446744073709551616):bits .and .u64 (a:Int) 4294967295=((a % 4294967296:Nat):Int):=by
 have h:=bits_and_u64_nat a 4294967295 ha (by omega)
 have e:a&&& 4294967295=a % 4294967296:=Nat.and_two_pow_sub_one_eq_mod a 32
 rw[e]at h
 exact h
theorem divN(a:Nat):(a:Int) / 4294967296=((a / 4294967296:Nat):Int):=by omega
theorem mulN(a b:Nat):(a:Int)*(b:Int)=((a*b:Nat):Int):=(Int.natCast_mul a b).symm
theorem addN(a b:Nat):(a:Int)+(b:Int)=((a+b:Nat):Int):=(Int.natCast_add a b).symm
theorem wrapN(a:Nat)(ha:a<18446744073709551616):IntKind.u64.wrap (a:Int)=(a:Int):=by rw[IntKind.wrap_u64];omega
theorem wrapM(a:Nat):IntKind.u64.wrap (a:Int)=((a % 18446744073709551616:Nat):Int):=by rw[IntKind.wrap_u64];omega
theorem mulsf_any(x y:Nat)(hx:x<18446744073709551616)(hy:y<18446744073709551616)(w:World):
 Calls Tryz.prog 168 #[.int .u64 x,.int .u64 y] w fun e w'=>e= .returned (.tuple #[.int .u64 ((x*y / 18446744073709551616:Nat):Int),.int .u64 ((x*y % 18446744073709551616:Nat):Int)])/\w=w':=by
 obtain⟨bd,bt,bw,hhi⟩:=Lib.mul64_hi x y hx hy
 have ba:=Lib.half_mul_le (a:=x / 4294967296) (b:=y / 4294967296) (by omega) (by omega)
 have bb:=Lib.half_mul_le (a:=x / 4294967296) (b:=y % 4294967296) (by omega) (by omega)
 have bc:=Lib.half_mul_le (a:=x % 4294967296) (b:=y / 4294967296) (by omega) (by omega)
 have ba':x / 4294967296*(y / 4294967296)<18446744073709551616:=by omega
 have bb':x / 4294967296*(y % 4294967296)<18446744073709551616:=by omega
 have bc':x % 4294967296*(y / 4294967296)<18446744073709551616:=by omega
 have bh1:x / 4294967296*(y / 4294967296)+(x / 4294967296*(y % 4294967296)+x % 4294967296*(y % 4294967296) / 4294967296) / 4294967296<18446744073709551616:=by omega
 have bh:x / 4294967296*(y / 4294967296)+(x / 4294967296*(y % 4294967296)+x % 4294967296*(y % 4294967296) / 4294967296) / 4294967296+((x / 4294967296*(y % 4294967296)+x % 4294967296*(y % 4294967296) / 4294967296) % 4294967296+x % 4294967296*(y / 4294967296)) / 4294967296<18446744073709551616:=by omega
 go_enter Tryz.func168,Tryz.ntmps168
 go_wp2
 simp only[maskN x hx,maskN y hy,divN,mulN,addN,wrapN _ bd,wrapN _ bb',wrapN _ bt,maskN _ bt,wrapN _ bc',wrapN _ bw,wrapN _ ba',wrapN _ bh1,wrapN _ bh,wrapM (x*y)]
 rw[hhi]
 go_ret2
 exact⟨rfl,rfl⟩
theorem bmul_one(n:Nat)(hn:n<=1000000)(w:World):Calls Tryz.prog 141 #[.int .u64 1,.int .u64 n] w fun e w'=>e= .returned (.tuple #[.int .u64 0,.int .u64 n])/\w=w':=by
 have H:=Lib.hid (mulsf_any 1 n (by omega) (by omega) w)
 rw[show 1*n / 18446744073709551616=0 by omega,show 1*n % 18446744073709551616=n by omega]at H
 go_enter Tryz.func141,Tryz.ntmps141
 go_wp2_with fail
 refine(H.out).mono ?_
 rintro e w1 ⟨rfl,rfl⟩
 go_wp2
 go_ret2
 exact⟨rfl,rfl⟩
def RpRel(q n:Nat)(b:Bool)(w0:World)(i:Value)(wr:World):Prop:=∃k:Nat,i= .int .i64 (k:Int)/\1<=k/\k<=n/\Bx wr q 4 (List.replicate k (bv b)++List.replicate (n - k) (bv false))/\Below w0.heap.size w0 wr
theorem rp_step{n k:Nat}{b:Bool}(hk:1<=k)(hn:k<n):splice (List.replicate k (bv b)++List.replicate (n - k) (bv false)) k (List.replicate (min k (n - k)) (bv b))=List.replicate (k+min k (n - k)) (bv b)++List.replicate (n - (k+min k (n - k))) (bv false):=by
 unfold splice
 rw[List.take_append_of_le_length (by simp),List.take_of_length_le (by simp),List.drop_append,List.length_replicate,List.length_replicate,List.drop_eq_nil_of_le (by simp),List.nil_append,List.drop_replicate,<- List.append_assoc,List.replicate_append_replicate]
 congr 2
 omega
theorem repeat_any{g c n:Nat}{b:Bool}(w:World)(h:w.cell? ⟨g,0,none⟩=some (.bool b))(hn0:1<=n)(hlen:n<=1000000):Calls Tryz.prog 115 #[.slice (some ⟨g,0,none⟩) 1 c,.int .i64 (n:Int)] w (BLP (List.replicate n b) w):=by
 obtain⟨i0,hi0,hz⟩:=Option.map_eq_some_iff.1 infoBo
 simp only[Prod.mk.injEq]at hz
 obtain⟨hz0,hz1,hz2⟩:=hz
 have HI:=Lib.hid hi0
 have HZ0:=Lib.hid hz0
 have HZ1:=Lib.hid hz1
 have HZ2:=Lib.hid hz2
 have HSZ:=Lib.hid (show(Tryz.prog.info? 4).map (·.size)=some 1 by rw[hi0];exact congrArg some hz1)
 have HM:=Lib.hid (fun W=>bmul_one n hlen W)
 have HC:=Lib.hid h
 clear hi0 hz0 hz1 hz2 h
 have d0:decide ((n:Int)<0)=false:=by simp
 have d1:IntKind.u64.wrap (n:Int)=(n:Int):=wrapN n (by omega)
 go_enter Tryz.func115,Tryz.ntmps115
 go_wp2_with fail
 refine(HM.out w).mono ?_
 rintro e w1 ⟨rfl,rfl⟩
 have d2:decide ((9223372036854775807:Int)<(n:Int))=false:=by simp;omega
 have d3:decide (9223372036854775807<n)=false:=by simp;omega
 clear HM
 go_wp2_with (at_make;refine wpList_make_full _ rfl _ _ 39 rfl w.heap.size 4 i0 (.bool false) 1 Tryz.underlying39 HI.out HZ0.out HZ1.out .i64 .i64 (n:Int) (n:Int) n rfl rfl rfl rfl (by rw[HZ2.out];omega) (by unfold maxLen;omega) (Nat.le_refl _) ?_)
 intro w1 ho1 hg1
 rw[made_one]at ho1
 have hb1:=((Below.refl w.heap.size w).grown hg1 (Nat.le_refl _) (fun k hk=>by cases hk))
 have HC1:=Lib.hid (cell_blw hb1 HC.out)
 have HB1:=Lib.hid hb1
 have HX1:=Lib.hid (show w1.heap[w.heap.size]?=some (.cells (List.replicate n (Value.bool false)).toArray 4 (0,0))from owns_full ho1)
 clear ho1 hg1 hb1
 have HNM:=Lib.hid (show([Value.bool b]:List Value).length=Nat.min 1 n from(Nat.min_eq_left hn0).symm)
 have HFT:=Lib.hid (show 0+([Value.bool b]:List Value).length<=(List.replicate n (Value.bool false)).length by simpa using hn0)
 have HOC:=Lib.hid (show ∀v∈([Value.bool b]:List Value),v.oneCell'=true by intro v hv;simp only[List.mem_singleton]at hv;subst hv;rfl)
 have HSR:=Lib.hid (show ∀(j:Nat) (v:Value),([Value.bool b]:List Value)[j]?=some v->w1.cell? ((⟨g,0,none⟩:Addr).add j)=some v from fun j v hv=>by
  match j with
  | 0=>
    injection hv with hv
    subst hv
    exact HC1.out)
 go_wp2_with (refine wpList_copy_splice rfl (.tmp 31) (.tmp 32) 39 39 rfl 4 Tryz.underlying39 HSZ.out _ _ _ _ _ _ rfl rfl w.heap.size 0 (List.replicate n (.bool false)) 4 HX1.out [.bool b] HNM.out (fun _=>⟨rfl,_,rfl,HSR.out⟩) HFT.out HOC.out w.heap.size w HB1.out (Nat.le_refl _) ?_)
 intro w2 hg2 hb2
 have HX2:=Lib.hid (show Bx w2 w.heap.size 4 (List.replicate 1 (bv b)++List.replicate (n - 1) (bv false)) by
  have h:=hg2.out
  rw[show splice (List.replicate n (Value.bool false)) 0 [Value.bool b]=List.replicate 1 (bv b)++List.replicate (n - 1) (bv false) by simp[splice,bv,List.replicate_one]]at h
  exact h)
 have HB2:=Lib.hid hb2
 clear hg2 hb2 HX1 HB1 HC1 HSR HNM HFT
 go_wp2
 go_loopw [8] (fun i wr=>RpRel w.heap.size n b w i wr) (fun i _=>n - (intOf i).toNat)
 case atStart=>exact⟨1,rfl,Nat.le_refl _,hn0,HX2.out,HB2.out⟩
 case round=>
  obtain⟨k,rfl,hk1,hk,hX,hb⟩:=hrel
  have hzb:=hX.lt
  by_cases hlt:k<n
  · have e1:decide (k<n)=true:=by simp;omega
    have HNM:=Lib.hid (show(List.replicate (min k (n - k)) (bv b)).length=Nat.min k (n - k) by rw[List.length_replicate])
    have HFT:=Lib.hid (show k+(List.replicate (min k (n - k)) (bv b)).length<=(List.replicate k (bv b)++List.replicate (n - k) (bv false)).length by simp;omega)
    have HOC2:=Lib.hid (show ∀v∈List.replicate (min k (n - k)) (bv b),v.oneCell'=true by intro v hv;rw[List.mem_replicate]at hv;rw[hv.2];rfl)
    have HSR:=Lib.hid (show ∀(j:Nat) (v:Value),(List.replicate (min k (n - k)) (bv b))[j]?=some v->wr.cell? ((⟨w.heap.size,0,none⟩:Addr).add j)=some v from fun j v hv=>by
     rw[List.getElem?_replicate]at hv
     split at hv
     · next hj=>
       injection hv with hv
       subst hv
       have e:(⟨w.heap.size,0,none⟩:Addr).add j=⟨w.heap.size,j,none⟩:=by
        unfold Addr.add
        by_cases hj:j=0<;>simp[hj]
       rw[e,hX.cell j,List.getElem?_append_left (by simp;omega),List.getElem?_replicate,if_pos (by omega)]
     · cases hv)
    have HX:=Lib.hid hX
    have HB:=Lib.hid hb
    have hm:min k (n - k)<=n - k:=Nat.min_le_right _ _
    have hm1:1<=min k (n - k):=by omega
    obtain⟨m,hmm⟩:∃m,m=min k (n - k):=⟨_,rfl⟩
    rw[<- hmm]at hm hm1 HNM HFT HOC2 HSR
    have HMM:=Lib.hid hmm
    have hnk:¬n=k:=by omega
    clear hX hb hmm
    go_wp2_with fail
    go_region_law (refine step_copy_splice rfl (.tmp 41) (.tmp 44) 39 39 rfl 4 Tryz.underlying39 HSZ.out (some ⟨w.heap.size,k,none⟩) (some ⟨w.heap.size,0,none⟩) (n - k) (n - k) k n ?_ ?_ w.heap.size k (List.replicate k (bv b)++List.replicate (n - k) (bv false)) 4 HX.out (List.replicate m (bv b)) HNM.out (fun _=>⟨rfl,_,rfl,HSR.out⟩) HFT.out HOC2.out w.heap.size w HB.out.drew (Nat.le_refl _) ?_
                   · simp[Act.eval,Act.put]
                   · simp[Act.eval,Act.put]
                   intro w4 hg4 hb4)
    all_goals
     have HX4:=Lib.hid (show Bx w4 w.heap.size 4 (List.replicate (k+m) (bv b)++List.replicate (n - (k+m)) (bv false)) by
      have h:=hg4.out
      rw[HMM.out,rp_step hk1 hlt,<- HMM.out]at h
      exact h)
     have HB4:=Lib.hid hb4
     clear hg4 hb4 HX HSR HNM HFT
     simp only[Act.put,List.setIfInBounds_toArray,List.set_cons_zero,List.set_cons_succ,List.getElem_toArray,List.getElem_cons_succ,List.getElem_cons_zero]
     rw[show IntKind.i64.wrap ((k:Int)+(m:Int))=((k+m:Nat):Int) by rw[IntKind.wrap_i64];omega]
     go_wp2
     go_roundw
     case rel=>exact⟨k+m,by go_num,by omega,by omega,HX4.out,HB4.out⟩
     case measure=>simp[intOf];omega
  · have e1:decide (k<n)=false:=by simp;omega
    obtain rfl:k=n:=by omega
    have HX:=Lib.hid hX
    have HB:=Lib.hid hb
    clear hX hb
    go_wp2_with fail
    go_ret
    exact blp_ret (bsl_bx (by have:=HX.out;simpa[bv,List.map_replicate]using this)) (List.length_replicate) HB.out
end
section
open Go.RowKit
theorem posO_lt{l:List ByteArray}{x:ByteArray}(h:x∈l):posO l x<l.length:=List.findIdx_lt_length_of_exists ⟨x,h,by simp⟩
theorem posO_get{l:List ByteArray}{x:ByteArray}(h:x∈l):l[posO l x]'(posO_lt h)=x:=by
 have:=List.findIdx_getElem (xs:=l) (p:=fun y=>decide (y=x)) (w:=posO_lt h)
 unfold posO
 simpa using this
theorem posO_before{l:List ByteArray}{x:ByteArray}{j:Nat}(h:j<posO l x)(hj:j<l.length):l[j]≠x:=by
 have:=List.not_of_lt_findIdx h
 simpa using this
open Classical in
theorem index_any{A:Option Addr}{l:List ByteArray}{cap:Nat}(x:ByteArray)(w:World)(hl:SSl w A l)(hlen:l.length<=1000000):
 Calls Tryz.prog 76 #[.slice A l.length cap,.string x] w fun e w'=>e= .returned (.int .i64 (if x∈l then((posO l x:Nat):Int)else -1))/\w'=w:=by
 have hv:Lib.idxOfS l x=if x∈l then((posO l x:Nat):Int)else -1:=by
  by_cases hx:x∈l
  · rw[if_pos hx]
    have h1:=posO_lt hx
    have h2:=Lib.idxOfS_hit l l.length (posO l x) x h1 (Nat.le_refl _) (by rw[List.getD_eq_getElem?_getD,List.getElem?_eq_getElem h1];exact posO_get hx) (fun j hj=>by
     rw[List.getD_eq_getElem?_getD,List.getElem?_eq_getElem (by omega)]
     exact posO_before hj (by omega))
    rwa [List.take_of_length_le (Nat.le_refl _)]at h2
  · rw[if_neg hx]
    have h2:=Lib.idxOfS_miss l l.length x (fun j hj=>by
     rw[List.getD_eq_getElem?_getD,List.getElem?_eq_getElem hj]
     exact fun e=>hx (by rw[<- e];exact List.getElem_mem hj))
    rwa [List.take_of_length_le (Nat.le_refl _)]at h2
 by_cases h0:l.length=0
 · have he:l=[]:=List.eq_nil_of_length_eq_zero h0
   subst he
   refine(Tryz.slices_Index_string_empty A cap x w).mono ?_
   rintro e w1 ⟨rfl,rfl⟩
   exact⟨by rw[hv],rfl⟩
 · obtain⟨g,o,rfl,_⟩:=hl 0 (by omega)
   refine(Tryz.slices_Index_string g o l.length cap l x w (Nat.le_refl _) (by omega) (fun j hj=>by
    obtain⟨g',o',e,hc⟩:=hl j hj
    injection e with e
    injection e with e1 e2
    subst e1 e2
    rw[hc,List.getD_eq_getElem?_getD,List.getElem?_eq_getElem hj];rfl)).mono ?_
   rintro e w1 ⟨rfl,rfl⟩
   exact⟨by rw[List.take_of_length_le (Nat.le_refl _),hv],rfl⟩
abbrev plv(N:Option Addr)(nl nc:Nat)(P:Option Addr)(pl pc:Nat)(a:Nat):Value:=.agg #[.slice N nl nc,.slice P pl pc,.int .i64 (a:Int)]
theorem all_any{N P:Option Addr}{nl nc pl pc a:Nat}{b:Bool}(w:World)(h1:1<=pl)(h2:pl<=1000000):Calls Tryz.prog 79 #[plv N nl nc P pl pc a,.bool b] w (BLP (List.replicate pl b) w):=by
 have HB:=Lib.hid (fun(W:World) (g:Nat) (h:W.cell? ⟨g,0,none⟩=some (.bool b))=>repeat_any (c:=1) W h h1 h2)
 go_enter Tryz.func79,Tryz.ntmps79
 go_wp2_with fail
 refine(HB.out _ _ (by simp)).mono ?_
 rintro e w1 ⟨A,cap,rfl,hc,hB,hb⟩
 have HB1:=Lib.hid hB
 have HBL:=Lib.hid hb
 clear hB hb HB
 go_wp2_with fail
 go_ret
 exact⟨A,cap,by rw[List.length_replicate];rfl,hc,HB1.out,below_t (below_t (below_alloc _ _) (below_alloc _ _)) HBL.out⟩
theorem bit_test(c:Nat)(p:Nat)(hc:c<64)(hp:p<6):(bits .and .i64 (c:Int) ((2 ^ p:Nat):Int) != 0)=c.testBit p:=by
 have h:∀c:Fin 64,∀p:Fin 6,(bits .and .i64 ((c.val:Nat):Int) ((2 ^ p.val:Nat):Int) != 0)=c.val.testBit p.val:=by decide +kernel
 exact h ⟨c,hc⟩ ⟨p,hp⟩
theorem sh_pow(p:Nat)(hp:p<6):wrap64 (2 ^ p)=((2 ^ p:Nat):Int):=by
 have h:∀p:Fin 6,wrap64 (2 ^ p.val)=((2 ^ p.val:Nat):Int):=by decide +kernel
 exact h ⟨p,hp⟩
def lbL(ls:List Int)(p:Nat):List Bool:=ls.map fun c=>c.toNat.testBit p
theorem plab_any{N P:Option Addr}{nms:List ByteArray}{ls:List Int}{nc pc a:Nat}{x:ByteArray}(w:World)(hn:SSl w N nms)(hp:ISl w P ls)(hx:x∈nms)(h6:nms.length<=6)(hlen:ls.length<=1000000)(hc:∀c∈ls,0<=c/\c<64):
 Calls Tryz.prog 80 #[plv N nms.length nc P ls.length pc a,.string x] w (BLP (lbL ls (posO nms x)) w):=by
 obtain⟨i0,hi0,hz⟩:=Option.map_eq_some_iff.1 infoBo
 simp only[Prod.mk.injEq]at hz
 obtain⟨hz0,hz1,hz2⟩:=hz
 have HI:=Lib.hid hi0
 have HZ0:=Lib.hid hz0
 have HZ1:=Lib.hid hz1
 have HZ2:=Lib.hid hz2
 have HN:=Lib.hid (fun(W:World) (h:SSl W N nms)=>index_any (cap:=nc) x W h (by omega))
 have HNS:=Lib.hid hn
 have HP:=Lib.hid hp
 have HC:=Lib.hid hc
 have hpos:=posO_lt hx
 have hpos6:posO nms x<6:=by omega
 simp only[if_pos hx]at HN
 obtain⟨p,hpp⟩:∃p,p=posO nms x:=⟨_,rfl⟩
 rw[<- hpp]at HN hpos6 ⊢
 obtain⟨tgt,ht⟩:∃t,t=lbL ls p:=⟨_,rfl⟩
 have HT:=Lib.hid ht
 have HTL:=Lib.hid (show tgt.length=ls.length by rw[ht];simp[lbL])
 rw[<- ht]
 obtain⟨n,hnn⟩:∃n,n=ls.length:=⟨_,rfl⟩
 have HNN:=Lib.hid hnn
 obtain⟨m,hmm⟩:∃m,m=nms.length:=⟨_,rfl⟩
 rw[<- hnn]at hlen HTL ⊢
 rw[<- hmm]at HN ⊢
 have HSH:=Lib.hid (show wrap64 (2 ^ p)=((2 ^ p:Nat):Int)from sh_pow p hpos6)
 have HP6:=Lib.hid hpos6
 clear hn hp hx h6 hc hpos hpp ht hnn hmm hi0 hz0 hz1 hz2
 go_enter Tryz.func80,Tryz.ntmps80
 go_wp2_with fail
 refine(HN.out _ (HNS.out.below (below_alloc _ _))).mono ?_
 rintro e w1 ⟨rfl,rfl⟩
 go_wp2_with (at_make;refine wpList_make_full _ rfl _ _ 39 rfl (w.heap.size+1) 4 i0 (.bool false) 1 Tryz.underlying39 HI.out HZ0.out HZ1.out .i64 .i64 (n:Int) (n:Int) n rfl rfl rfl rfl (by rw[HZ2.out];omega) (by unfold maxLen;omega) (by simp) ?_)
 intro w1 ho1 hg1
 rw[made_one]at ho1
 have HB1:=Lib.hid ((below_alloc w (.cells #[.slice N m nc,.slice P n pc,.int .i64 (a:Int)] 83)).grown hg1 (by simp) (fun k hk=>by cases hk))
 have HP1:=Lib.hid (show Bx w1 w.heap.size 83 [.slice N m nc,.slice P n pc,.int .i64 (a:Int)]from(hg1.block w.heap.size (by simp) (by intro e;cases e)).trans (Bx.new w 83 _))
 have HX1:=Lib.hid (FilR.start (w0:=w) (tgt:=tgt) (owns_full ho1) (Nat.le_succ _) HB1.out)
 obtain⟨B,hB⟩:∃B:Int,B=wrap64 (2 ^ p):=⟨_,rfl⟩
 rw[<- hB]
 have HBV:=Lib.hid (show B=((2 ^ p:Nat):Int) by rw[hB];exact HSH.out)
 obtain⟨-,b1, -⟩:=HP1.out.tri
 have hz1:=HP1.out.lt
 clear ho1 hg1 hB
 go_wp2
 go_loopw [21] (fun i wr=>FilRel (w.heap.size+1) n tgt w i wr) (fun i _=>n - (intOf i).toNat)
 case atStart=>exact⟨0,rfl,Nat.zero_le _,HX1.out⟩
 case round=>
  obtain⟨k,rfl,hk,hF⟩:=hrel
  by_cases hlt:k<n
  · have d1:decide (k<n)=true:=by simp;omega
    have kk:k<ls.length:=by rw[<- HNN.out];exact hlt
    obtain⟨g,o,rfl,c1⟩:=HP.out.below hF.blw k kk
    have HLL:=Lib.hid HP
    clear HP
    obtain⟨⟨b0,c2⟩,f2,g2⟩:=hF.cell hlt
    have HE:=Lib.hid (show ls[k].toNat.testBit p=tgt.getD k false by rw[HT.out,lbL,List.getD_eq_getElem?_getD,List.getElem?_map,List.getElem?_eq_getElem kk];rfl)
    have HCC:=Lib.hid (HC.out _ (List.getElem_mem kk))
    generalize ls[k]=c at*
    obtain⟨cn,rfl⟩:=Int.eq_ofNat_of_zero_le HCC.out.1
    have hcn:cn<64:=by have:=HCC.out.2;omega
    have HF:=Lib.hid hF
    clear hF hk
    go_wp2_with fail
    go_roundw
    case rel=>exact⟨k+1,by go_num,by omega,HF.out.step hlt (by rw[<- HE.out,HBV.out,bit_test cn p hcn HP6.out];rfl)⟩
    case measure=>simp[intOf];omega
  · have d1:decide (k<n)=false:=by simp;omega
    have hkn:k=n:=by omega
    subst hkn
    have HF:=Lib.hid hF
    clear hF hk
    go_wp2_with fail
    go_ret
    exact blp_ret (HF.out.done HTL.out) HTL.out HF.out.blw
end
section
open Go.RowKit Go.Sort
theorem bsl_news{w:World}{g o:Nat}{l:List Bool}(h:BSl w (some ⟨g,o,none⟩) l):∀(j:Nat) (u:Value),(l.map bv)[j]?=some u->w.cell? ((⟨g,o,none⟩:Addr).add j)=some u:=by
 intro j u hu
 rw[List.getElem?_map]at hu
 by_cases hj:j<l.length
 · rw[List.getElem?_eq_getElem hj]at hu
   injection hu with hu
   subst hu
   obtain⟨g',o',e,hc⟩:=h j hj
   injection e with e
   injection e with e1 e2
   subst e1 e2
   have e3:(⟨g,o,none⟩:Addr).add j=⟨g,o+j,none⟩:=by
    unfold Addr.add
    by_cases hj:j=0<;>simp[hj]
   rw[e3];exact hc
 · rw[List.getElem?_eq_none (by omega)]at hu;cases hu
theorem bv_one(l:List Bool):∀u∈l.map bv,u.oneCell'=true:=by
 intro u hu
 obtain⟨b,_,rfl⟩:=List.mem_map.1 hu
 rfl
theorem cloneb_any{g o:Nat}{l:List Bool}{cap:Nat}(w:World)(h:BSl w (some ⟨g,o,none⟩) l)(hlen:l.length<=1000000):
 Calls Tryz.prog 116 #[.slice (some ⟨g,o,none⟩) l.length cap] w fun e w'=>∃v,e= .returned v/\w'.ownsRow w.heap.size 4 1 v l.length (l.map bv)/\Below w.heap.size w w':=by
 obtain⟨i0,hi0,hz⟩:=Option.map_eq_some_iff.1 infoBo
 simp only[Prod.mk.injEq]at hz
 obtain⟨hz0,hz1,hz2⟩:=hz
 have HI:=Lib.hid hi0
 have HZ0:=Lib.hid hz0
 have HZ1:=Lib.hid hz1
 have HZ2:=Lib.hid hz2
 have q22:∀(w:World) (a:Option Addr) (n c n' c':Nat),(binOp .eql 39 (.slice a n c) (.slice none n' c')).run Tryz.prog w= .ok (.bool a.isNone) w:=fun w a n c n' c'=>Lib.run_eql_slice_nil w _ _ a n c n' c' Tryz.underlying39
 have HNW:=Lib.hid (bsl_news (h.below (below_alloc w (.cells #[] 4))))
 obtain⟨zs,hzs⟩:∃zs,zs=l.map bv:=⟨_,rfl⟩
 have HZL:=Lib.hid (show zs.length=l.length*1 by rw[hzs];simp)
 have HON:=Lib.hid (show ∀u∈zs,u.oneCell'=true by rw[hzs];exact bv_one l)
 rw[<- hzs]at HNW ⊢
 obtain⟨n,hn⟩:∃n,n=l.length:=⟨_,rfl⟩
 rw[<- hn]at hlen HZL ⊢
 clear hi0 hz0 hz1 hz2 h hzs hn
 go_enter Tryz.func116,Tryz.ntmps116
 go_wp2_with (at_builtin;refine wpList_append_own _ rfl _ _ 39 rfl w.heap.size 4 i0 (.bool false) 1 1 Tryz.underlying39 HI.out HZ0.out HZ1.out HZ2.out rfl (by decide) _ _ _ rfl (World.ownsRow_made w #[] 0 (Nat.le_refl _) (Nat.zero_le _) rfl) ⟨g,o,none⟩ n cap zs rfl HZL.out HNW.out HON.out (by unfold maxLen;omega) (by omega) (by simp) ?_)
 intro v' w1 hown hgrow hnil
 have HO:=Lib.hid (show w1.ownsRow w.heap.size 4 1 v' n zs by simpa using hown)
 have HB:=Lib.hid (((Below.refl _ w).alloc (Nat.le_refl _) _).grown hgrow (by simp) (by intro k hk;simp[Value.ownBlock]at hk;omega))
 clear hown hgrow hnil
 go_wp2
 go_ret
 exact⟨v',rfl,HO.out,HB.out⟩
end
section
open Go.RowKit Go.Sort
theorem owns_blw{w w':World}{lo:Nat}{e:TypeId}{sz n:Nat}{v:Value}{cs:List Value}(h:w.ownsRow lo e sz v n cs)(hb:Below w.heap.size w w'):w'.ownsRow lo e sz v n cs:=by
 refine⟨h.1,?_⟩
 rcases h.2 with h | ⟨g,cap,cur,h1,h2,h3,h4⟩
 · exact .inl h
 · exact .inr ⟨g,cap,cur,h1,h2,(hb.block g (blk_lt h3)).trans h3,h4⟩
theorem own_base{w:World}{lo lo':Nat}{e:TypeId}{sz n:Nat}{v:Value}{cs:List Value}(h:w.ownsRow lo e sz v n cs)(hl:lo'<=lo):w.ownsRow lo' e sz v n cs:=by
 refine⟨h.1,?_⟩
 rcases h.2 with h | ⟨g,cap,cur,h1,h2,h3,h4⟩
 · exact .inl h
 · exact .inr ⟨g,cap,cur,h1,Nat.le_trans hl h2,h3,h4⟩
theorem bsl_owns{w:World}{lo:Nat}{v:Value}{l:List Bool}(h:w.ownsRow lo 4 1 v l.length (l.map bv)):∃A cap,v= .slice A l.length cap/\l.length<=cap/\BSl w A l:=by
 rcases h.2 with⟨rfl,hn⟩ | ⟨g,cap,cur,hv,_,hb,hc,_⟩
 · exact⟨none,0,by rw[hn],by omega,fun i hi=>absurd hi (by omega)⟩
 · subst hv
   refine⟨_,cap,rfl,hc,fun i hi=>⟨g,0,rfl,?_⟩⟩
   have h1:=h.cells (g:=g) rfl i (.bool l[i]) (by rw[List.getElem?_map,List.getElem?_eq_getElem hi];rfl)
   have e:(⟨g,0,none⟩:Addr).add i=⟨g,i,none⟩:=by
    unfold Addr.add
    by_cases hj:i=0<;>simp[hj]
   rw[e]at h1
   rw[Nat.zero_add]
   exact h1
theorem nx_news{W:World}{q:Nat}{b:Bool}(h:W.cell? ⟨q,0,none⟩=some (.bool b)):∀(j:Nat) (u:Value),([.bool b]:List Value)[j]?=some u->W.cell? ((⟨q,0,none⟩:Addr).add j)=some u:=by
 intro j u hu
 match j with
 | 0=>
   injection hu with hu
   subst hu
   exact h
theorem nx_one{b:Bool}:∀u∈([.bool b]:List Value),u.oneCell'=true:=by
 intro u hu
 simp only[List.mem_singleton]at hu
 subst hu
 rfl
theorem nx_fin{w w5:World}{r:List Bool}{b:Bool}{lo g5 cap5:Nat}(ho:w5.ownsRow lo 4 1 (.slice (some ⟨g5,0,none⟩) (r.length+1) cap5) (r.length+1) (r.map bv++[.bool b]))(hb:Below w.heap.size w w5):BLP (r++[b]) w (.returned (.slice (some ⟨g5,0,none⟩) (r.length+1) cap5)) w5:=by
 have ho':w5.ownsRow lo 4 1 (.slice (some ⟨g5,0,none⟩) (r.length+1) cap5) (r++[b]).length ((r++[b]).map bv):=by
  rw[List.length_append,List.map_append];exact ho
 obtain⟨A,cap,h1,h2,h3⟩:=bsl_owns ho'
 exact⟨A,cap,by rw[h1],h2,h3,hb⟩
theorem next_any{N P:Option Addr}{nl nc pl pc a g o cap:Nat}{l:List Bool}(w:World)(h:BSl w (some ⟨g,o,none⟩) l)(ha:a<l.length)(hcap:l.length<=cap)(hlen:l.length<=1000000):
 Calls Tryz.prog 82 #[plv N nl nc P pl pc a,.slice (some ⟨g,o,none⟩) l.length cap] w (BLP (nextL a l) w):=by
 obtain⟨i0,hi0,hz⟩:=Option.map_eq_some_iff.1 infoBo
 simp only[Prod.mk.injEq]at hz
 obtain⟨hz0,hz1,hz2⟩:=hz
 have HI:=Lib.hid hi0
 have HZ0:=Lib.hid hz0
 have HZ1:=Lib.hid hz1
 have HZ2:=Lib.hid hz2
 obtain⟨W0,hW0⟩:∃W0,W0=w.alloc (.cells #[.slice N nl nc,.slice P pl pc,.int .i64 (a:Int)] 83):=⟨_,rfl⟩
 have hbw:Below w.heap.size w W0:=by rw[hW0];exact below_alloc _ _
 have hbx:Bx W0 w.heap.size 83 [.slice N nl nc,.slice P pl pc,.int .i64 (a:Int)]:=by rw[hW0];exact Bx.new _ _ _
 obtain⟨b,hbb⟩:∃b,b=l.getD a false:=⟨_,rfl⟩
 have hca:W0.cell? ⟨g,o+a,none⟩=some (.bool b):=by
  obtain⟨g',o',e,hc⟩:=h.below hbw a ha
  injection e with e
  injection e with e1 e2
  subst e1 e2
  rw[hc,hbb,bget ha]
 have HSS:=Lib.hid (show ∀W,Below W0.heap.size W0 W->(W.cell? ⟨w.heap.size,2,none⟩=some (.int .i64 (a:Int))/\W.cell? ⟨g,o+a,none⟩=some (.bool b))from fun W hW=>⟨((hbx.below hW).cell 2).trans rfl,cell_blw hW hca⟩)
 obtain⟨cm,rfl⟩:∃cm,cap=cm+1:=⟨cap - 1,by omega⟩
 obtain⟨x,r,rfl⟩:∃x r,l=x::r:=by
  cases l with
  | nil=>exact absurd ha (by simp)
  | cons x r=>exact⟨x,r,rfl⟩
 have HT:=Lib.hid (show ∀W,Below W0.heap.size W0 W->∀o',(r≠[]->o'=o+1)->BSl W (some ⟨g,o',none⟩) r from fun W hW o' ho' i hi=>by
  obtain⟨g',o2,e,hc⟩:=h.below (below_t hbw hW) (i+1) (by simp;omega)
  injection e with e
  injection e with e1 e2
  subst e1 e2
  refine⟨g,o',rfl,?_⟩
  rw[ho' (by rintro rfl;simp at hi),show o+1+i=o+(i+1) by omega,hc]
  simp)
 have HNL:=Lib.hid (show nextL a (x::r)=r++[b] by rw[nextL,hbb];rfl)
 rw[HNL.out]
 simp only[List.length_cons]at ha hcap hlen ⊢
 obtain⟨m,hm⟩:∃m,m=r.length:=⟨_,rfl⟩
 have HM:=Lib.hid hm
 rw[<- hm]at ha hcap hlen ⊢
 have HC:=Lib.hid (fun(W:World) (hW:Below W0.heap.size W0 W) (o':Nat) (ho':r≠[]->o'=o+1)=>cloneb_any (cap:=cm) W (HT.out W hW o' ho') (by rw[<- hm];omega))
 rw[<- hm]at HC
 have HBW:=Lib.hid hbw
 clear hi0 hz0 hz1 hz2 h hm hbw hca hbb hbx
 have lk:Below W0.heap.size W0 W0.drew:=(Below.refl _ _).drew
 subst hW0
 have k0:(0:Int)<=(a:Int):=by omega
 have k1:(a:Int)<(m:Int)+1:=by omega
 have k2:(1:Int)<=(m:Int)+1:=by omega
 by_cases hc0:cm=0
 · subst hc0
   have hm0:m=0:=by omega
   have hr0:r=[]:=List.eq_nil_of_length_eq_zero (HM.out.symm.trans hm0)
   have ha0:a=0:=by omega
   subst hm0 hr0 ha0
   have HSZ:=Lib.hid (show ∀W,Below (w.alloc (.cells #[.slice N nl nc,.slice P pl pc,.int .i64 0] 83)).heap.size (w.alloc (.cells #[.slice N nl nc,.slice P pl pc,.int .i64 0] 83)) W->(W.cell? ⟨w.heap.size,2,none⟩=some (.int .i64 0)/\W.cell? ⟨g,o,none⟩=some (.bool b))from fun W hW=>HSS.out W hW)
   show Calls Tryz.prog 82 #[.agg #[.slice N nl nc,.slice P pl pc,.int .i64 0],.slice (some ⟨g,o,none⟩) 1 1] w (BLP ([]++[b]) w)
   clear k0 k1 k2 ha hcap hlen HSS
   replace HBW:=Lib.hid (show Below w.heap.size w (w.alloc (.cells #[.slice N nl nc,.slice P pl pc,.int .i64 0] 83))from below_alloc _ _)
   replace lk:Below (w.alloc (.cells #[.slice N nl nc,.slice P pl pc,.int .i64 0] 83)).heap.size (w.alloc (.cells #[.slice N nl nc,.slice P pl pc,.int .i64 0] 83)) (w.alloc (.cells #[.slice N nl nc,.slice P pl pc,.int .i64 0] 83)).drew:=(Below.refl _ _).drew
   go_enter Tryz.func82,Tryz.ntmps82
   go_wp2_with fail
   go_region_held3 (fun w'=>w'.cell? ⟨w.heap.size,2,none⟩=some (.int .i64 0)/\w'.cell? ⟨g,o,none⟩=some (.bool b)) (first | exact HSZ.out _ lk | exact HSZ.out _ (lk.alloc lk.size _)) (first
    | (go_at_call 116
       refine(HC.out _ (by first | exact lk | exact lk.alloc lk.size _) _ (fun h=>absurd rfl h)).mono ?_
       rintro e4 w4 ⟨v4,rfl,hO4,hb4⟩
       have HO4:=Lib.hid hO4
       have HB4:=Lib.hid hb4
       replace lk:Below (w.alloc (.cells #[.slice N nl nc,.slice P pl pc,.int .i64 0] 83)).heap.size (w.alloc (.cells #[.slice N nl nc,.slice P pl pc,.int .i64 0] 83)) w4:=by first | exact lk.trans (hb4.mono lk.size) | exact(lk.alloc lk.size _).trans (hb4.mono (lk.alloc lk.size _).size)
       clear hO4 hb4)
    | ((with_reducible refine step_append_lies (w4.alloc (.cells #[.bool b] 4)) ?za0 (.tmp 7) (.tmp 13) 39 ?za1 (w.heap.size+1) 4 i0 (.bool false) 1 1 ?za2 ?za3 ?za4 ?za5 ?za6 ?za7 ?za8 v4 0 ([].map bv) ?zb1 ?zb2 ⟨w4.heap.size,0,none⟩ 1 1 [.bool b] ?zb3 ?zb4 ?zb5 ?zb6 ?zb7 ?zb8 ?zb9 ?zc1 (w4.heap.size+1) ?zc2 ?zc3)
       case za0=>rfl
       case za1=>rfl
       case za2=>exact Tryz.underlying39
       case za3=>exact HI.out
       case za4=>exact HZ0.out
       case za5=>exact HZ1.out
       case za6=>exact HZ2.out
       case za7=>rfl
       case za8=>exact Nat.one_pos
       case zb1=>simp[Act.eval]
       case zb2=>exact own_base (owns_blw HO4.out (below_alloc _ _)) (by simp)
       case zb3=>simp[Act.eval]
       case zb4=>rfl
       case zb5=>exact nx_news (by simp)
       case zb6=>exact nx_one
       case zb7=>exact Nat.one_pos
       case zb8=>unfold maxLen;omega
       case zb9=>omega
       case zc1=>have:=HB4.out.size;simp at this ⊢;omega
       case zc2=>first | rfl | simp
       intro g5 cap5 w5 ho5 hg5 hat5 hlt5
       have HF:=Lib.hid (show BLP ([]++[b]) w (.returned (.slice (some ⟨g5,0,none⟩) (0+1) cap5)) w5 by
        have ho6:=ho5
        refine nx_fin (r:=[]) ho6 ?_
        exact((HBW.out.trans (lk.mono HBW.out.size)).alloc (by have:=HBW.out.size;have:=lk.size;omega) _).grown hg5 (by have:=HBW.out.size;have:=lk.size;simp at this ⊢;omega) (fun k hk=>by have:=(HO4.out.lt k hk).1;have h2:=HBW.out.size;simp at this h2;omega))
       replace lk:Below (w.alloc (.cells #[.slice N nl nc,.slice P pl pc,.int .i64 0] 83)).heap.size (w.alloc (.cells #[.slice N nl nc,.slice P pl pc,.int .i64 0] 83)) w5:=(lk.alloc lk.size _).grown hg5 (by have:=lk.size;simp at this ⊢;omega) (fun k hk=>by have:=(HO4.out.lt k hk).1;simp at this ⊢;omega)
       clear ho5 hg5 hat5)
    | ((with_reducible refine step_append_lies w4 ?zua0 (.tmp 7) (.tmp 13) 39 ?zua1 (w.heap.size+1) 4 i0 (.bool false) 1 1 ?zua2 ?zua3 ?zua4 ?zua5 ?zua6 ?zua7 ?zua8 v4 0 ([].map bv) ?zub1 ?zub2 ⟨w.heap.size+1,0,none⟩ 1 1 [.bool b] ?zub3 ?zub4 ?zub5 ?zub6 ?zub7 ?zub8 ?zub9 ?zuc1 w4.heap.size ?zuc2 ?zuc3)
       case zua0=>rfl
       case zua1=>rfl
       case zua2=>exact Tryz.underlying39
       case zua3=>exact HI.out
       case zua4=>exact HZ0.out
       case zua5=>exact HZ1.out
       case zua6=>exact HZ2.out
       case zua7=>rfl
       case zua8=>exact Nat.one_pos
       case zub1=>simp[Act.eval]
       case zub2=>exact own_base HO4.out (by simp)
       case zub3=>simp[Act.eval]
       case zub4=>rfl
       case zub5=>(refine nx_news (cell_blw HB4.out ?_);simp)
       case zub6=>exact nx_one
       case zub7=>exact Nat.one_pos
       case zub8=>unfold maxLen;omega
       case zub9=>omega
       case zuc1=>have:=HB4.out.size;simp at this ⊢;omega
       case zuc2=>first | rfl | simp
       intro g5 cap5 w5 ho5 hg5 hat5 hlt5
       have HF:=Lib.hid (show BLP ([]++[b]) w (.returned (.slice (some ⟨g5,0,none⟩) (0+1) cap5)) w5 by
        have ho6:=ho5
        refine nx_fin (r:=[]) ho6 ?_
        exact(HBW.out.trans (lk.mono HBW.out.size)).grown hg5 (by have:=HBW.out.size;have:=lk.size;simp at this ⊢;omega) (fun k hk=>by have:=(HO4.out.lt k hk).1;have h2:=HBW.out.size;simp at this h2;omega))
       replace lk:Below (w.alloc (.cells #[.slice N nl nc,.slice P pl pc,.int .i64 0] 83)).heap.size (w.alloc (.cells #[.slice N nl nc,.slice P pl pc,.int .i64 0] 83)) w5:=lk.grown hg5 (by have:=lk.size;simp at this ⊢;omega) (fun k hk=>by have:=(HO4.out.lt k hk).1;simp at this ⊢;omega)
       clear ho5 hg5 hat5)
    | fail)
   all_goals
    go_wp2
    go_ret
    exact HF.out
 · go_enter Tryz.func82,Tryz.ntmps82
   go_wp2_with fail
   go_region_held3 (fun w'=>w'.cell? ⟨w.heap.size,2,none⟩=some (.int .i64 (a:Int))/\w'.cell? ⟨g,o+a,none⟩=some (.bool b)) (first | exact HSS.out _ lk | exact HSS.out _ (lk.alloc lk.size _)) (first
    | (go_at_call 116
       refine(HC.out _ (by first | exact lk | exact lk.alloc lk.size _) _ (fun _=>rfl)).mono ?_
       rintro e4 w4 ⟨v4,rfl,hO4,hb4⟩
       have HO4:=Lib.hid hO4
       have HB4:=Lib.hid hb4
       replace lk:Below (w.alloc (.cells #[.slice N nl nc,.slice P pl pc,.int .i64 (a:Int)] 83)).heap.size (w.alloc (.cells #[.slice N nl nc,.slice P pl pc,.int .i64 (a:Int)] 83)) w4:=by first | exact lk.trans (hb4.mono lk.size) | exact(lk.alloc lk.size _).trans (hb4.mono (lk.alloc lk.size _).size)
       clear hO4 hb4)
    | ((with_reducible refine step_append_lies (w4.alloc (.cells #[.bool b] 4)) ?a0 (.tmp 7) (.tmp 13) 39 ?a1 (w.heap.size+1) 4 i0 (.bool false) 1 1 ?a2 ?a3 ?a4 ?a5 ?a6 ?a7 ?a8 v4 m (r.map bv) ?b1 ?b2 ⟨w4.heap.size,0,none⟩ 1 1 [.bool b] ?b3 ?b4 ?b5 ?b6 ?b7 ?b8 ?b9 ?c1 (w4.heap.size+1) ?c2 ?c3)
       case a0=>rfl
       case a1=>rfl
       case a2=>exact Tryz.underlying39
       case a3=>exact HI.out
       case a4=>exact HZ0.out
       case a5=>exact HZ1.out
       case a6=>exact HZ2.out
       case a7=>rfl
       case a8=>exact Nat.one_pos
       case b1=>simp[Act.eval]
       case b2=>exact own_base (owns_blw HO4.out (below_alloc _ _)) (by simp)
       case b3=>simp[Act.eval]
       case b4=>rfl
       case b5=>exact nx_news (by simp)
       case b6=>exact nx_one
       case b7=>exact Nat.one_pos
       case b8=>unfold maxLen;omega
       case b9=>omega
       case c1=>have:=HB4.out.size;simp at this ⊢;omega
       case c2=>first | rfl | simp
       intro g5 cap5 w5 ho5 hg5 hat5 hlt5
       have HF:=Lib.hid (show BLP (r++[b]) w (.returned (.slice (some ⟨g5,0,none⟩) (m+1) cap5)) w5 by
        have ho6:=ho5
        rw[HM.out]at ho6 ⊢
        refine nx_fin ho6 ?_
        exact((HBW.out.trans (lk.mono HBW.out.size)).alloc (by have:=HBW.out.size;have:=lk.size;omega) _).grown hg5 (by have:=HBW.out.size;have:=lk.size;simp at this ⊢;omega) (fun k hk=>by have:=(HO4.out.lt k hk).1;have h2:=HBW.out.size;simp at this h2;omega))
       replace lk:Below (w.alloc (.cells #[.slice N nl nc,.slice P pl pc,.int .i64 (a:Int)] 83)).heap.size (w.alloc (.cells #[.slice N nl nc,.slice P pl pc,.int .i64 (a:Int)] 83)) w5:=(lk.alloc lk.size _).grown hg5 (by have:=lk.size;simp at this ⊢;omega) (fun k hk=>by have:=(HO4.out.lt k hk).1;simp at this ⊢;omega)
       clear ho5 hg5 hat5)
    | ((with_reducible refine step_append_lies w4 ?ua0 (.tmp 7) (.tmp 13) 39 ?ua1 (w.heap.size+1) 4 i0 (.bool false) 1 1 ?ua2 ?ua3 ?ua4 ?ua5 ?ua6 ?ua7 ?ua8 v4 m (r.map bv) ?ub1 ?ub2 ⟨w.heap.size+1,0,none⟩ 1 1 [.bool b] ?ub3 ?ub4 ?ub5 ?ub6 ?ub7 ?ub8 ?ub9 ?uc1 w4.heap.size ?uc2 ?uc3)
       case ua0=>rfl
       case ua1=>rfl
       case ua2=>exact Tryz.underlying39
       case ua3=>exact HI.out
       case ua4=>exact HZ0.out
       case ua5=>exact HZ1.out
       case ua6=>exact HZ2.out
       case ua7=>rfl
       case ua8=>exact Nat.one_pos
       case ub1=>simp[Act.eval]
       case ub2=>exact own_base HO4.out (by simp)
       case ub3=>simp[Act.eval]
       case ub4=>rfl
       case ub5=>(refine nx_news (cell_blw HB4.out ?_);simp)
       case ub6=>exact nx_one
       case ub7=>exact Nat.one_pos
       case ub8=>unfold maxLen;omega
       case ub9=>omega
       case uc1=>have:=HB4.out.size;simp at this ⊢;omega
       case uc2=>first | rfl | simp
       intro g5 cap5 w5 ho5 hg5 hat5 hlt5
       have HF:=Lib.hid (show BLP (r++[b]) w (.returned (.slice (some ⟨g5,0,none⟩) (m+1) cap5)) w5 by
        have ho6:=ho5
        rw[HM.out]at ho6 ⊢
        refine nx_fin ho6 ?_
        exact(HBW.out.trans (lk.mono HBW.out.size)).grown hg5 (by have:=HBW.out.size;have:=lk.size;simp at this ⊢;omega) (fun k hk=>by have:=(HO4.out.lt k hk).1;have h2:=HBW.out.size;simp at this h2;omega))
       replace lk:Below (w.alloc (.cells #[.slice N nl nc,.slice P pl pc,.int .i64 (a:Int)] 83)).heap.size (w.alloc (.cells #[.slice N nl nc,.slice P pl pc,.int .i64 (a:Int)] 83)) w5:=lk.grown hg5 (by have:=lk.size;simp at this ⊢;omega) (fun k hk=>by have:=(HO4.out.lt k hk).1;simp at this ⊢;omega)
       clear ho5 hg5 hat5)
    | fail)
   all_goals
    go_wp2
    go_ret
    exact HF.out
end
end
section
section
open Go.RowKit
def KoP(n:Nat)(w:World)(e:Ending)(w':World):Prop:=e= .returned (.int .i64 (n:Int))/\w'=w
theorem kids_of0(s:ByteArray)(w:World)(h:s.toList=[116,114,117,101]):Calls Tryz.prog 70 #[.string s] w (KoP 0 w):=by
 have g0:(s.toList==[116,114,117,101])=true:=by rw[h];rfl
 have g1:(s.toList==[102,97,108,115,101])=false:=by rw[h];rfl
 have g2:(s.toList==[108,97,98,101,108])=false:=by rw[h];rfl
 have g3:(s.toList==[33])=false:=by rw[h];rfl
 have g4:(s.toList==[88])=false:=by rw[h];rfl
 have g5:(s.toList==[70])=false:=by rw[h];rfl
 have g6:(s.toList==[71])=false:=by rw[h];rfl
 have g7:(s.toList==[38])=false:=by rw[h];rfl
 have g8:(s.toList==[124])=false:=by rw[h];rfl
 have g9:(s.toList==[61,62])=false:=by rw[h];rfl
 have g10:(s.toList==[85])=false:=by rw[h];rfl
 have g11:(s.toList==[87])=false:=by rw[h];rfl
 have g12:(s.toList==[82])=false:=by rw[h];rfl
 clear h
 go_enter Tryz.func70,Tryz.ntmps70
 go_wp2
 go_ret
 exact⟨rfl,rfl⟩
theorem kids_of1(s:ByteArray)(w:World)(h:s.toList=[102,97,108,115,101]):Calls Tryz.prog 70 #[.string s] w (KoP 0 w):=by
 have g0:(s.toList==[116,114,117,101])=false:=by rw[h];rfl
 have g1:(s.toList==[102,97,108,115,101])=true:=by rw[h];rfl
 have g2:(s.toList==[108,97,98,101,108])=false:=by rw[h];rfl
 have g3:(s.toList==[33])=false:=by rw[h];rfl
 have g4:(s.toList==[88])=false:=by rw[h];rfl
 have g5:(s.toList==[70])=false:=by rw[h];rfl
 have g6:(s.toList==[71])=false:=by rw[h];rfl
 have g7:(s.toList==[38])=false:=by rw[h];rfl
 have g8:(s.toList==[124])=false:=by rw[h];rfl
 have g9:(s.toList==[61,62])=false:=by rw[h];rfl
 have g10:(s.toList==[85])=false:=by rw[h];rfl
 have g11:(s.toList==[87])=false:=by rw[h];rfl
 have g12:(s.toList==[82])=false:=by rw[h];rfl
 clear h
 go_enter Tryz.func70,Tryz.ntmps70
 go_wp2
 go_ret
 exact⟨rfl,rfl⟩
theorem kids_of2(s:ByteArray)(w:World)(h:s.toList=[108,97,98,101,108]):Calls Tryz.prog 70 #[.string s] w (KoP 0 w):=by
 have g0:(s.toList==[116,114,117,101])=false:=by rw[h];rfl
 have g1:(s.toList==[102,97,108,115,101])=false:=by rw[h];rfl
 have g2:(s.toList==[108,97,98,101,108])=true:=by rw[h];rfl
 have g3:(s.toList==[33])=false:=by rw[h];rfl
 have g4:(s.toList==[88])=false:=by rw[h];rfl
 have g5:(s.toList==[70])=false:=by rw[h];rfl
 have g6:(s.toList==[71])=false:=by rw[h];rfl
 have g7:(s.toList==[38])=false:=by rw[h];rfl
 have g8:(s.toList==[124])=false:=by rw[h];rfl
 have g9:(s.toList==[61,62])=false:=by rw[h];rfl
 have g10:(s.toList==[85])=false:=by rw[h];rfl
 have g11:(s.toList==[87])=false:=by rw[h];rfl
 have g12:(s.toList==[82])=false:=by rw[h];rfl
 clear h
 go_enter Tryz.func70,Tryz.ntmps70
 go_wp2
 go_ret
 exact⟨rfl,rfl⟩
theorem kids_of3(s:ByteArray)(w:World)(h:s.toList=[33]):Calls Tryz.prog 70 #[.string s] w (KoP 1 w):=by
 have g0:(s.toList==[116,114,117,101])=false:=by rw[h];rfl
 have g1:(s.toList==[102,97,108,115,101])=false:=by rw[h];rfl
 have g2:(s.toList==[108,97,98,101,108])=false:=by rw[h];rfl
 have g3:(s.toList==[33])=true:=by rw[h];rfl
 have g4:(s.toList==[88])=false:=by rw[h];rfl
 have g5:(s.toList==[70])=false:=by rw[h];rfl
 have g6:(s.toList==[71])=false:=by rw[h];rfl
 have g7:(s.toList==[38])=false:=by rw[h];rfl
 have g8:(s.toList==[124])=false:=by rw[h];rfl
 have g9:(s.toList==[61,62])=false:=by rw[h];rfl
 have g10:(s.toList==[85])=false:=by rw[h];rfl
 have g11:(s.toList==[87])=false:=by rw[h];rfl
 have g12:(s.toList==[82])=false:=by rw[h];rfl
 clear h
 go_enter Tryz.func70,Tryz.ntmps70
 go_wp2
 go_ret
 exact⟨rfl,rfl⟩
theorem kids_of4(s:ByteArray)(w:World)(h:s.toList=[88]):Calls Tryz.prog 70 #[.string s] w (KoP 1 w):=by
 have g0:(s.toList==[116,114,117,101])=false:=by rw[h];rfl
 have g1:(s.toList==[102,97,108,115,101])=false:=by rw[h];rfl
 have g2:(s.toList==[108,97,98,101,108])=false:=by rw[h];rfl
 have g3:(s.toList==[33])=false:=by rw[h];rfl
 have g4:(s.toList==[88])=true:=by rw[h];rfl
 have g5:(s.toList==[70])=false:=by rw[h];rfl
 have g6:(s.toList==[71])=false:=by rw[h];rfl
 have g7:(s.toList==[38])=false:=by rw[h];rfl
 have g8:(s.toList==[124])=false:=by rw[h];rfl
 have g9:(s.toList==[61,62])=false:=by rw[h];rfl
 have g10:(s.toList==[85])=false:=by rw[h];rfl
 have g11:(s.toList==[87])=false:=by rw[h];rfl
 have g12:(s.toList==[82])=false:=by rw[h];rfl
 clear h
 go_enter Tryz.func70,Tryz.ntmps70
 go_wp2
 go_ret
 exact⟨rfl,rfl⟩
theorem kids_of5(s:ByteArray)(w:World)(h:s.toList=[70]):Calls Tryz.prog 70 #[.string s] w (KoP 1 w):=by
 have g0:(s.toList==[116,114,117,101])=false:=by rw[h];rfl
 have g1:(s.toList==[102,97,108,115,101])=false:=by rw[h];rfl
 have g2:(s.toList==[108,97,98,101,108])=false:=by rw[h];rfl
 have g3:(s.toList==[33])=false:=by rw[h];rfl
 have g4:(s.toList==[88])=false:=by rw[h];rfl
 have g5:(s.toList==[70])=true:=by rw[h];rfl
 have g6:(s.toList==[71])=false:=by rw[h];rfl
 have g7:(s.toList==[38])=false:=by rw[h];rfl
 have g8:(s.toList==[124])=false:=by rw[h];rfl
 have g9:(s.toList==[61,62])=false:=by rw[h];rfl
 have g10:(s.toList==[85])=false:=by rw[h];rfl
 have g11:(s.toList==[87])=false:=by rw[h];rfl
 have g12:(s.toList==[82])=false:=by rw[h];rfl
 clear h
 go_enter Tryz.func70,Tryz.ntmps70
 go_wp2
 go_ret
 exact⟨rfl,rfl⟩
theorem kids_of6(s:ByteArray)(w:World)(h:s.toList=[71]):Calls Tryz.prog 70 #[.string s] w (KoP 1 w):=by
 have g0:(s.toList==[116,114,117,101])=false:=by rw[h];rfl
 have g1:(s.toList==[102,97,108,115,101])=false:=by rw[h];rfl
 have g2:(s.toList==[108,97,98,101,108])=false:=by rw[h];rfl
 have g3:(s.toList==[33])=false:=by rw[h];rfl
 have g4:(s.toList==[88])=false:=by rw[h];rfl
 have g5:(s.toList==[70])=false:=by rw[h];rfl
 have g6:(s.toList==[71])=true:=by rw[h];rfl
 have g7:(s.toList==[38])=false:=by rw[h];rfl
 have g8:(s.toList==[124])=false:=by rw[h];rfl
 have g9:(s.toList==[61,62])=false:=by rw[h];rfl
 have g10:(s.toList==[85])=false:=by rw[h];rfl
 have g11:(s.toList==[87])=false:=by rw[h];rfl
 have g12:(s.toList==[82])=false:=by rw[h];rfl
 clear h
 go_enter Tryz.func70,Tryz.ntmps70
 go_wp2
 go_ret
 exact⟨rfl,rfl⟩
theorem kids_of7(s:ByteArray)(w:World)(h:s.toList=[38]):Calls Tryz.prog 70 #[.string s] w (KoP 2 w):=by
 have g0:(s.toList==[116,114,117,101])=false:=by rw[h];rfl
 have g1:(s.toList==[102,97,108,115,101])=false:=by rw[h];rfl
 have g2:(s.toList==[108,97,98,101,108])=false:=by rw[h];rfl
 have g3:(s.toList==[33])=false:=by rw[h];rfl
 have g4:(s.toList==[88])=false:=by rw[h];rfl
 have g5:(s.toList==[70])=false:=by rw[h];rfl
 have g6:(s.toList==[71])=false:=by rw[h];rfl
 have g7:(s.toList==[38])=true:=by rw[h];rfl
 have g8:(s.toList==[124])=false:=by rw[h];rfl
 have g9:(s.toList==[61,62])=false:=by rw[h];rfl
 have g10:(s.toList==[85])=false:=by rw[h];rfl
 have g11:(s.toList==[87])=false:=by rw[h];rfl
 have g12:(s.toList==[82])=false:=by rw[h];rfl
 clear h
 go_enter Tryz.func70,Tryz.ntmps70
 go_wp2
 go_ret
 exact⟨rfl,rfl⟩
theorem kids_of8(s:ByteArray)(w:World)(h:s.toList=[124]):Calls Tryz.prog 70 #[.string s] w (KoP 2 w):=by
 have g0:(s.toList==[116,114,117,101])=false:=by rw[h];rfl
 have g1:(s.toList==[102,97,108,115,101])=false:=by rw[h];rfl
 have g2:(s.toList==[108,97,98,101,108])=false:=by rw[h];rfl
 have g3:(s.toList==[33])=false:=by rw[h];rfl
 have g4:(s.toList==[88])=false:=by rw[h];rfl
 have g5:(s.toList==[70])=false:=by rw[h];rfl
 have g6:(s.toList==[71])=false:=by rw[h];rfl
 have g7:(s.toList==[38])=false:=by rw[h];rfl
 have g8:(s.toList==[124])=true:=by rw[h];rfl
 have g9:(s.toList==[61,62])=false:=by rw[h];rfl
 have g10:(s.toList==[85])=false:=by rw[h];rfl
 have g11:(s.toList==[87])=false:=by rw[h];rfl
 have g12:(s.toList==[82])=false:=by rw[h];rfl
 clear h
 go_enter Tryz.func70,Tryz.ntmps70
 go_wp2
 go_ret
 exact⟨rfl,rfl⟩
theorem kids_of9(s:ByteArray)(w:World)(h:s.toList=[61,62]):Calls Tryz.prog 70 #[.string s] w (KoP 2 w):=by
 have g0:(s.toList==[116,114,117,101])=false:=by rw[h];rfl
 have g1:(s.toList==[102,97,108,115,101])=false:=by rw[h];rfl
 have g2:(s.toList==[108,97,98,101,108])=false:=by rw[h];rfl
 have g3:(s.toList==[33])=false:=by rw[h];rfl
 have g4:(s.toList==[88])=false:=by rw[h];rfl
 have g5:(s.toList==[70])=false:=by rw[h];rfl
 have g6:(s.toList==[71])=false:=by rw[h];rfl
 have g7:(s.toList==[38])=false:=by rw[h];rfl
 have g8:(s.toList==[124])=false:=by rw[h];rfl
 have g9:(s.toList==[61,62])=true:=by rw[h];rfl
 have g10:(s.toList==[85])=false:=by rw[h];rfl
 have g11:(s.toList==[87])=false:=by rw[h];rfl
 have g12:(s.toList==[82])=false:=by rw[h];rfl
 clear h
 go_enter Tryz.func70,Tryz.ntmps70
 go_wp2
 go_ret
 exact⟨rfl,rfl⟩
theorem kids_of10(s:ByteArray)(w:World)(h:s.toList=[85]):Calls Tryz.prog 70 #[.string s] w (KoP 2 w):=by
 have g0:(s.toList==[116,114,117,101])=false:=by rw[h];rfl
 have g1:(s.toList==[102,97,108,115,101])=false:=by rw[h];rfl
 have g2:(s.toList==[108,97,98,101,108])=false:=by rw[h];rfl
 have g3:(s.toList==[33])=false:=by rw[h];rfl
 have g4:(s.toList==[88])=false:=by rw[h];rfl
 have g5:(s.toList==[70])=false:=by rw[h];rfl
 have g6:(s.toList==[71])=false:=by rw[h];rfl
 have g7:(s.toList==[38])=false:=by rw[h];rfl
 have g8:(s.toList==[124])=false:=by rw[h];rfl
 have g9:(s.toList==[61,62])=false:=by rw[h];rfl
 have g10:(s.toList==[85])=true:=by rw[h];rfl
 have g11:(s.toList==[87])=false:=by rw[h];rfl
 have g12:(s.toList==[82])=false:=by rw[h];rfl
 clear h
 go_enter Tryz.func70,Tryz.ntmps70
 go_wp2
 go_ret
 exact⟨rfl,rfl⟩
theorem kids_of11(s:ByteArray)(w:World)(h:s.toList=[87]):Calls Tryz.prog 70 #[.string s] w (KoP 2 w):=by
 have g0:(s.toList==[116,114,117,101])=false:=by rw[h];rfl
 have g1:(s.toList==[102,97,108,115,101])=false:=by rw[h];rfl
 have g2:(s.toList==[108,97,98,101,108])=false:=by rw[h];rfl
 have g3:(s.toList==[33])=false:=by rw[h];rfl
 have g4:(s.toList==[88])=false:=by rw[h];rfl
 have g5:(s.toList==[70])=false:=by rw[h];rfl
 have g6:(s.toList==[71])=false:=by rw[h];rfl
 have g7:(s.toList==[38])=false:=by rw[h];rfl
 have g8:(s.toList==[124])=false:=by rw[h];rfl
 have g9:(s.toList==[61,62])=false:=by rw[h];rfl
 have g10:(s.toList==[85])=false:=by rw[h];rfl
 have g11:(s.toList==[87])=true:=by rw[h];rfl
 have g12:(s.toList==[82])=false:=by rw[h];rfl
 clear h
 go_enter Tryz.func70,Tryz.ntmps70
 go_wp2
 go_ret
 exact⟨rfl,rfl⟩
theorem kids_of12(s:ByteArray)(w:World)(h:s.toList=[82]):Calls Tryz.prog 70 #[.string s] w (KoP 2 w):=by
 have g0:(s.toList==[116,114,117,101])=false:=by rw[h];rfl
 have g1:(s.toList==[102,97,108,115,101])=false:=by rw[h];rfl
 have g2:(s.toList==[108,97,98,101,108])=false:=by rw[h];rfl
 have g3:(s.toList==[33])=false:=by rw[h];rfl
 have g4:(s.toList==[88])=false:=by rw[h];rfl
 have g5:(s.toList==[70])=false:=by rw[h];rfl
 have g6:(s.toList==[71])=false:=by rw[h];rfl
 have g7:(s.toList==[38])=false:=by rw[h];rfl
 have g8:(s.toList==[124])=false:=by rw[h];rfl
 have g9:(s.toList==[61,62])=false:=by rw[h];rfl
 have g10:(s.toList==[85])=false:=by rw[h];rfl
 have g11:(s.toList==[87])=false:=by rw[h];rfl
 have g12:(s.toList==[82])=true:=by rw[h];rfl
 clear h
 go_enter Tryz.func70,Tryz.ntmps70
 go_wp2
 go_ret
 exact⟨rfl,rfl⟩
theorem kids_any{x:Fo}(h:OkF x)(s:ByteArray)(hs:s.toList=x.op)(w:World):Calls Tryz.prog 70 #[.string s] w (KoP x.kids.length w):=by
 cases x with
 | leaf op nm p=>
   rcases h with⟨rfl,_⟩ | ⟨rfl | rfl,_⟩
   · exact kids_of2 s w hs
   · exact kids_of0 s w hs
   · exact kids_of1 s w hs
 | un op a p=>
   rcases pk_un h.1 with rfl | rfl | rfl | rfl
   · exact kids_of3 s w hs
   · exact kids_of4 s w hs
   · exact kids_of5 s w hs
   · exact kids_of6 s w hs
 | bin op a b p=>
   rcases pk_bin h.1 with rfl | rfl | rfl | rfl | rfl | rfl
   · exact kids_of9 s w hs
   · exact kids_of8 s w hs
   · exact kids_of7 s w hs
   · exact kids_of10 s w hs
   · exact kids_of11 s w hs
   · exact kids_of12 s w hs
def IsF(x:Fo):Prop:=∀(w:World) (S:Nat->Prop) (c:List Value),FS w 27 S x c->Calls Tryz.prog 43 #[.agg c.toArray] w (BoolP true w)
def IfRel(n:Nat)(w:World)(i:Value)(wr:World):Prop:=∃k:Nat,i= .int .i64 (k:Int)/\k<=n/\Below w.heap.size w wr
theorem isclo_any{x:Fo}(h:IsF x){v:FV}{S:Nat->Prop}(w:World)(hx:FS w 27 S x v.c):Calls Tryz.prog 72 #[.agg #[.string v.o,.string v.nm,.slice v.A v.ll v.cap,.int .i64 v.p]] w (BoolP false w):=by
 have H:=Lib.hid (h (w.alloc (.cells #[.string v.o,.string v.nm,.slice v.A v.ll v.cap,.int .i64 v.p] 27)) S _ (hx.alloc _))
 clear h hx
 go_enter Tryz.func72,Tryz.ntmps72
 go_wp2_with fail
 refine(H.out).mono ?_
 rintro e w1 ⟨rfl,hb⟩
 have HB:=Lib.hid (below_t (below_alloc _ _) hb)
 clear hb
 go_wp2
 go_ret
 exact⟨rfl,HB.out⟩
theorem idxf_any{ks:List Fo}(ih:∀x∈ks,IsF x){A:Option Addr}{c1:Nat}{S:Nat->Prop}(w:World)(hA:FK w 27 S A ks)(hl:ks.length<=3):Calls Tryz.prog 111 #[.slice A ks.length c1,.func (.func 72) #[] #[]] w fun e w'=>e= .returned (.int .i64 (-1))/\Below w.heap.size w w':=by
 have HA:=Lib.hid hA
 have HI:=Lib.hid ih
 obtain⟨n,hn⟩:∃n,n=ks.length:=⟨_,rfl⟩
 rw[<- hn]at hl ⊢
 have HN:=Lib.hid hn
 clear hA ih hn
 go_enter Tryz.func111,Tryz.ntmps111
 go_wp2
 go_loopw [8] (fun i wr=>IfRel n w i wr) (fun i _=>n - (intOf i).toNat)
 case atStart=>exact⟨0,rfl,Nat.zero_le _,Below.refl _ _⟩
 case round=>
  obtain⟨k,rfl,hk,hb⟩:=hrel
  by_cases hlt:k<n
  · have g2:decide (k<n)=true:=by simp;omega
    have k1:k<ks.length:=by rw[<- HN.out];exact hlt
    obtain⟨g,v,rfl,hg,hH,a0,a1,a2,a3⟩:=HA.out.below hb k k1
    have H1:=Lib.hid (isclo_any (HI.out _ (List.getElem_mem k1)) wr hH)
    have HBb:=Lib.hid hb
    obtain⟨o,nm,P,l,cp,p⟩:=v
    have HAA:=Lib.hid HA
    clear HA hH hb hk
    go_wp2_with fail
    refine(H1.out).mono ?_
    rintro e w3 ⟨rfl,hb3⟩
    have HB3:=Lib.hid (below_t HBb.out hb3)
    clear hb3
    go_wp2
    go_roundw
    case rel=>exact⟨k+1,by go_num,by omega,HB3.out⟩
    case measure=>simp[intOf];omega
  · have g2:decide (k<n)=false:=by simp;omega
    have HBb:=Lib.hid hb
    clear hb hk
    go_wp2
    go_ret
    exact⟨rfl,HBb.out⟩
theorem conf_any{ks:List Fo}(ih:∀x∈ks,IsF x){A:Option Addr}{c1:Nat}{S:Nat->Prop}(w:World)(hA:FK w 27 S A ks)(hl:ks.length<=3):Calls Tryz.prog 71 #[.slice A ks.length c1,.func (.func 72) #[] #[]] w (BoolP false w):=by
 have H:=Lib.hid (idxf_any (c1:=c1) ih w hA hl)
 generalize ks.length=n at*
 clear ih hA
 go_enter Tryz.func71,Tryz.ntmps71
 go_wp2_with fail
 refine(H.out).mono ?_
 rintro e w1 ⟨rfl,hb⟩
 have HB:=Lib.hid hb
 clear hb
 go_wp2
 go_ret
 exact⟨rfl,HB.out⟩
theorem isf_of{x:Fo}(hx:OkF x)(ih:∀y∈x.kids,IsF y):IsF x:=by
 intro w S c hc
 obtain⟨A,cap,rfl,hA⟩:=hc.view
 have HK:=Lib.hid (fun(W:World)=>kids_any hx ⟨x.op.toArray⟩ (by rw[ByteArray.toList_eq]) W)
 have hl:=kids3F x
 obtain⟨W0,hW0⟩:∃W0,W0=w.alloc (.cells #[.string ⟨x.op.toArray⟩,.string ⟨x.nm.toArray⟩,.slice A x.kids.length cap,.int .i64 (x.pos:Int)] 27):=⟨_,rfl⟩
 have hbw:Below w.heap.size w W0:=by rw[hW0];exact below_alloc _ _
 have hbx:Bx W0 w.heap.size 27 [.string ⟨x.op.toArray⟩,.string ⟨x.nm.toArray⟩,.slice A x.kids.length cap,.int .i64 (x.pos:Int)]:=by rw[hW0];exact Bx.new _ _ _
 have HC:=Lib.hid (fun(W:World) (hW:Below W0.heap.size W0 W)=>conf_any (c1:=cap) ih W (hA.below (below_t hbw hW)) hl)
 have HSS:=Lib.hid (show ∀W,Below W0.heap.size W0 W->(W.cell? ⟨w.heap.size,0,none⟩=some (.string ⟨x.op.toArray⟩)/\W.cell? ⟨w.heap.size,2,none⟩=some (.slice A x.kids.length cap))from fun W hW=>⟨((hbx.below hW).cell 0).trans rfl,((hbx.below hW).cell 2).trans rfl⟩)
 have HBW:=Lib.hid hbw
 obtain⟨p,hp⟩:∃p:Int,p=(x.pos:Int):=⟨_,rfl⟩
 show Calls Tryz.prog 43 #[.agg #[.string ⟨x.op.toArray⟩,.string ⟨x.nm.toArray⟩,.slice A x.kids.length cap,.int .i64 (x.pos:Int)]] w _
 rw[<- hp]at hW0 ⊢
 clear hx ih hc hA hbw hbx hp
 generalize(⟨x.op.toArray⟩:ByteArray)=o at*
 generalize(⟨x.nm.toArray⟩:ByteArray)=nm at*
 generalize x.kids.length=n at*
 clear x
 have lk:Below W0.heap.size W0 W0.drew:=(Below.refl _ _).drew
 subst hW0
 go_enter Tryz.func43,Tryz.ntmps43
 go_wp2_with fail
 go_region_held3 (fun w'=>w'.cell? ⟨w.heap.size,0,none⟩=some (.string o)/\w'.cell? ⟨w.heap.size,2,none⟩=some (.slice A n cap)) (exact HSS.out _ lk) (first
  | (go_at_call 70
     refine(HK.out _).mono ?_
     rintro e w1 ⟨rfl,rfl⟩)
  | (go_at_call 71
     refine(HC.out _ lk).mono ?_
     rintro e w1 ⟨rfl,hb1⟩
     replace lk:Below (w.alloc (.cells #[.string o,.string nm,.slice A n cap,.int .i64 p] 27)).heap.size (w.alloc (.cells #[.string o,.string nm,.slice A n cap,.int .i64 p] 27)) w1:=lk.trans (hb1.mono lk.size)))
 all_goals
  have HL:=Lib.hid (below_t HBW.out lk)
  clear lk
  go_wp2
  go_ret
  exact⟨rfl,HL.out⟩
theorem isf_any:∀x:Fo,OkF x->IsF x
 | .leaf _ _ _,h=>isf_of h (by simp[Fo.kids])
 | .un _ a _,h=>isf_of h (by simp only[Fo.kids,List.mem_singleton];rintro x rfl;exact isf_any x h.2)
 | .bin _ a b _,h=>isf_of h (by
     have h1:=isf_any a h.2.1
     have h2:=isf_any b h.2.2
     simp only[Fo.kids,List.mem_cons,List.not_mem_nil,or_false]
     rintro x (rfl | rfl)<;>assumption)
end
section
open Go.RowKit
def letR(m:Nat)(c:Int):Prop:=0<=c/\c<((2 ^ m:Nat):Int)
instance(m:Nat)(c:Int):Decidable (letR m c):=inferInstanceAs (Decidable (_/\_))
theorem sh_pow7(p:Nat)(hp:p<7):wrap64 (2 ^ p)=((2 ^ p:Nat):Int):=by
 have h:∀p:Fin 7,wrap64 (2 ^ p.val)=((2 ^ p.val:Nat):Int):=by decide +kernel
 exact h ⟨p,hp⟩
theorem letclo_any{c:Int}{m q:Nat}(hm:m<7)(w:World)(hq:w.cell? ⟨q,0,none⟩=some (.int .i64 (m:Int))):Calls Tryz.prog 133 #[.int .i64 c,.pointer (some ⟨q,0,none⟩)] w fun e w'=>e= .returned (.bool (!decide (letR m c)))/\w'=w:=by
 have HP:=Lib.hid (sh_pow7 m hm)
 by_cases h0:c<0
 · have d0:decide (c<0)=true:=by simpa using h0
   have HR:=Lib.hid (show true=!decide (letR m c) by rw[decide_eq_false (fun h=>absurd h.1 (by omega))];rfl)
   clear h0
   go_enter Tryz.func133,Tryz.ntmps133
   go_wp2
   go_ret
   exact⟨ret_bool HR.out,rfl⟩
 · have d0:decide (c<0)=false:=by simpa using h0
   have HR:=Lib.hid (show decide (wrap64 (2 ^ m)<=c)=!decide (letR m c) by
    rw[HP.out]
    by_cases h1:((2 ^ m:Nat):Int)<=c
    · rw[decide_eq_true h1,decide_eq_false (fun h=>absurd h.2 (Int.not_lt.2 h1))];rfl
    · rw[decide_eq_false h1,decide_eq_true ⟨by omega,Int.not_le.1 h1⟩];rfl)
   clear h0
   go_enter Tryz.func133,Tryz.ntmps133
   go_wp2
   go_ret
   exact⟨ret_bool HR.out,rfl⟩
def allR(m:Nat)(l:List Int):Prop:=∀c∈l,letR m c
instance(m:Nat)(l:List Int):Decidable (allR m l):=inferInstanceAs (Decidable (∀_∈_,_))
def IxRel(l:List Int)(m:Nat)(i:Value)(w0 wr:World):Prop:=∃k:Nat,i= .int .i64 (k:Int)/\k<=l.length/\(∀c∈l.take k,letR m c)/\wr=w0
def IxP(b:Bool)(w:World)(e:Ending)(w':World):Prop:=(∃i:Int,e= .returned (.int .i64 i)/\decide (0<=i)=b)/\w'=w
theorem take_snocI{l:List Int}{k:Nat}(h:k<l.length):l.take (k+1)=l.take k++[l[k]]:=List.take_succ_eq_append_getElem h
theorem idxi_any{A:Option Addr}{l:List Int}{cap m q:Nat}(hm:m<7)(w:World)(h:ISl w A l)(hq:w.cell? ⟨q,0,none⟩=some (.int .i64 (m:Int)))(hlen:l.length<=1000000):Calls Tryz.prog 153 #[.slice A l.length cap,.func (.func 133) #[] #[.pointer (some ⟨q,0,none⟩)]] w (IxP (!decide (allR m l)) w):=by
 have HL:=Lib.hid h
 have HC:=Lib.hid (fun c=>letclo_any (c:=c) hm w hq)
 obtain⟨n,hn⟩:∃n,n=l.length:=⟨_,rfl⟩
 have HN:=Lib.hid hn
 rw[<- hn]at hlen ⊢
 clear h hn hq hm
 go_enter Tryz.func153,Tryz.ntmps153
 go_wp2
 go_loopw [8] (fun i wr=>IxRel l m i w wr) (fun i _=>n - (intOf i).toNat)
 case atStart=>exact⟨0,rfl,Nat.zero_le _,fun c hc=>absurd hc (by simp),rfl⟩
 case round=>
  obtain⟨k,rfl,hk,hall,rfl⟩:=hrel
  rw[<- HN.out]at hk
  by_cases hlt:k<n
  · have g2:decide (k<n)=true:=by simp;omega
    have kk:k<l.length:=by rw[<- HN.out];exact hlt
    obtain⟨g,o,rfl,c1⟩:=HL.out k kk
    have HLL:=Lib.hid HL
    clear HL
    have HNO:=Lib.hid (show ¬letR m l[k]->¬allR m l from fun h1 h2=>h1 (h2 _ (List.getElem_mem kk)))
    have HYES:=Lib.hid (show letR m l[k]->∀c∈l.take (k+1),letR m c from fun h1 c hc=>by
     rw[take_snocI kk,List.mem_append]at hc
     rcases hc with hc | hc
     · exact hall c hc
     · simp only[List.mem_singleton]at hc;subst hc;exact h1)
    generalize l[k]=c at*
    clear hall hk
    go_wp2_with fail
    refine(HC.out c).mono ?_
    rintro e w1 ⟨rfl,rfl⟩
    by_cases hr:letR m c
    · have HM:=Lib.hid (HYES.out hr)
      rw[decide_eq_true hr]
      clear hr
      go_wp2_with fail
      go_roundw
      case rel=>exact⟨k+1,by go_num,by rw[<- HN.out];omega,HM.out,rfl⟩
      case measure=>simp[intOf];omega
    · have HM:=Lib.hid (HNO.out hr)
      rw[decide_eq_false hr]
      clear hr
      go_wp2_with fail
      go_ret
      exact⟨⟨_,rfl,by rw[decide_eq_false HM.out];simp⟩,rfl⟩
  · have g2:decide (k<n)=false:=by simp;omega
    have HA:=Lib.hid (show allR m l from fun c hc=>hall c (by rw[show k=l.length by rw[<- HN.out];omega,List.take_of_length_le (Nat.le_refl _)];exact hc))
    clear hall hk
    go_wp2
    go_ret
    exact⟨⟨_,rfl,by rw[decide_eq_true HA.out];rfl⟩,rfl⟩
theorem confi_any{A:Option Addr}{l:List Int}{cap m q:Nat}(hm:m<7)(w:World)(h:ISl w A l)(hq:w.cell? ⟨q,0,none⟩=some (.int .i64 (m:Int)))(hlen:l.length<=1000000):Calls Tryz.prog 132 #[.slice A l.length cap,.func (.func 133) #[] #[.pointer (some ⟨q,0,none⟩)]] w fun e w'=>e= .returned (.bool (!decide (allR m l)))/\w'=w:=by
 have H:=Lib.hid (idxi_any (cap:=cap) hm w h hq hlen)
 generalize l.length=n at*
 clear h hq
 go_enter Tryz.func132,Tryz.ntmps132
 go_wp2_with fail
 refine(H.out).mono ?_
 rintro e w1 ⟨⟨i,rfl,hi⟩,rfl⟩
 have HI:=Lib.hid hi
 clear hi
 go_wp2
 go_ret
 exact⟨ret_bool HI.out,rfl⟩
theorem letters_any{A:Option Addr}{l:List Int}{cap m:Nat}(hm:m<7)(w:World)(h:ISl w A l)(hlen:l.length<=1000000):Calls Tryz.prog 102 #[.slice A l.length cap,.int .i64 (m:Int)] w (BoolP (decide (allR m l)) w):=by
 have H:=Lib.hid (confi_any (q:=w.heap.size) (cap:=cap) hm (w.alloc (.cells #[.int .i64 (m:Int)] 3)) (h.below (below_alloc _ _)) (by simp) hlen)
 generalize l.length=n at*
 clear h
 go_enter Tryz.func102,Tryz.ntmps102
 go_wp2_with fail
 refine(H.out).mono ?_
 rintro e w1 ⟨rfl,rfl⟩
 go_wp2
 go_ret
 exact⟨rfl,below_alloc _ _⟩
end
section
open Go.RowKit Go.Sort Go.Lib
theorem below_growW{B:Nat}{w0 w:World}{os:Array Obj}(h:Below B w0 w)(hB:B<=w.heap.size):Below B w0 (grow w os):=
 ⟨h.os,h.tape,h.output,by simpa using Nat.le_trans h.size (Nat.le_add_right _ _),fun k hk=>(heap_grow_old w os (Nat.lt_of_lt_of_le hk hB)).trans (h.block k hk)⟩
section
variable {α:Type} [Inhabited α] [DecidableEq α]
theorem upto_len(d:Array α):∀m,(compactUpTo d m).length<=m/\((compactUpTo d m).length=m->∀j,j<m->keeps d j=true)
 | 0=>⟨Nat.le_refl _,fun _ j hj=>absurd hj (by omega)⟩
 | m+1=>by
   obtain⟨h1,h2⟩:=upto_len d m
   rw[compactUpTo_succ,List.length_append]
   by_cases hk:keeps d m=true
   · rw[if_pos hk]
     refine⟨by simp;omega,fun h j hj=>?_⟩
     simp only[List.length_singleton]at h
     rcases Nat.lt_or_ge j m with hj' | hj'
     · exact h2 (by omega) j hj'
     · obtain rfl:j=m:=by omega
       exact hk
   · rw[if_neg hk]
     exact⟨by simp;omega,fun h=>by simp at h;omega⟩
theorem compact_nodup{r:α->α->Prop}(l:List α)(hs:l.Pairwise r)(ha:∀x y,r x y->r y x->x=y):(compact l).length=l.length↔l.Nodup:=by
 have hget:∀j (h:j<l.length),l.toArray[j]! =l[j]:=fun j h=>by rw[getElem!_pos _ _ (by simpa using h)];rfl
 constructor
 · intro h
   have hk:=(upto_len l.toArray l.length).2 h
   rw[List.nodup_iff_pairwise_ne,List.pairwise_iff_getElem]
   have step:∀j (h:j+1<l.length),l[j]≠l[j+1]:=fun j hj e=>by
    have:=hk (j+1) hj
    unfold keeps at this
    rw[decide_eq_true_iff]at this
    rcases this with h0 | h0
    · omega
    · rw[hget _ hj,show j+1 - 1=j from rfl,hget j (by omega)]at h0
      exact h0 e.symm
   intro i j hi hj hij e
   have hp:=List.pairwise_iff_getElem.1 hs
   have h1:r l[i] l[i+1]:=hp i (i+1) hi (by omega) (by omega)
   by_cases hj1:j=i+1
   · subst hj1;exact step i hj e
   · have h2:r l[i+1] l[j]:=hp (i+1) j (by omega) hj (by omega)
     rw[<- e]at h2
     exact step i (by omega) (ha _ _ h1 h2)
 · intro hn
   rw[compact_all]
   intro j hj
   unfold keeps
   rw[decide_eq_true_iff]
   by_cases h0:j=0
   · exact .inl h0
   · right
     rw[hget j hj,hget (j - 1) (by omega)]
     intro e
     rw[List.nodup_iff_pairwise_ne,List.pairwise_iff_getElem]at hn
     exact hn (j - 1) j (by omega) hj (by omega) e.symm
end
theorem str_sorted(l:List (List UInt8)):(compact (l.mergeSort fun x y=>decide (x<=y))).length=l.length↔l.Nodup:=by
 have hp:(l.mergeSort fun x y=>decide (x<=y)).Perm l:=List.mergeSort_perm _ _
 rw[<- hp.length_eq,<- hp.nodup_iff]
 refine compact_nodup (r:=fun x y=>x<=y) _ ?_ (fun x y h1 h2=>List.le_antisymm h1 h2)
 refine(List.pairwise_mergeSort (le:=fun x y=>decide (x<=y)) ?_ ?_ l).imp (fun h=>by simpa using h)
 · intro a b c h1 h2
   simp only[decide_eq_true_eq]at h1 h2 ⊢
   exact List.le_trans h1 h2
 · intro a b
   simp only[Bool.or_eq_true,decide_eq_true_eq]
   exact List.le_total a b
theorem str_nodup(l:List ByteArray):(l.map (·.data.toList)).Nodup↔l.Nodup:=by
 rw[List.nodup_iff_pairwise_ne,List.nodup_iff_pairwise_ne,List.pairwise_map]
 constructor
 · exact fun h=>h.imp fun h e=>h (by rw[e])
 · refine fun h=>h.imp fun{a b} h e=>h ?_
   cases a;cases b
   simp only[ByteArray.mk.injEq]
   exact Array.ext' e
theorem differ_any{A:Option Addr}{l:List ByteArray}{cap:Nat}(w:World)(hl:SSl w A l)(hlen:l.length<=1000000):
 Calls Tryz.prog 63 #[.slice A l.length cap] w (BoolP (decide l.Nodup) w):=by
 by_cases h0:l.length=0
 · have he:l=[]:=List.eq_nil_of_length_eq_zero h0
   subst he
   rw[show decide ([]:List ByteArray).Nodup=true from decide_eq_true List.nodup_nil]
   cases A with
   | none=>
     show Calls Tryz.prog 63 #[.slice none 0 cap] w _
     clear hl hlen h0
     go_enter Tryz.func63,Tryz.ntmps63
     go_wp2_with fail
     refine(Tryz.slices_Clone_string_nil 0 cap w).mono ?_
     rintro e w1 ⟨rfl,rfl⟩
     go_wp2_with fail
     refine(Tryz.slices_Sort_string_none none 0 w1).mono ?_
     rintro e w2 ⟨rfl,rfl⟩
     go_wp2_with fail
     refine(Tryz.slices_Compact_string_empty none 0 w2).mono ?_
     rintro e w3 ⟨rfl,rfl⟩
     go_wp2_with fail
     go_ret
     exact⟨rfl,Below.refl _ _⟩
   | some a=>
     show Calls Tryz.prog 63 #[.slice (some a) 0 cap] w _
     clear hl hlen h0
     go_enter Tryz.func63,Tryz.ntmps63
     go_wp2_with fail
     refine(Tryz.slices_Clone_string_zero a cap w).mono ?_
     rintro e w1 ⟨v,rfl,hown,hne,hb⟩
     obtain⟨g,c2,rfl,_⟩:=holds_of_ownsRow (enc:=encStr) (zs:=[]) hown hne
     have HB:=Lib.hid hb
     clear hown hne hb
     go_wp2_with fail
     refine(Tryz.slices_Sort_string_none _ _ w1).mono ?_
     rintro e w2 ⟨rfl,rfl⟩
     go_wp2_with fail
     refine(Tryz.slices_Compact_string_empty _ _ w2).mono ?_
     rintro e w3 ⟨rfl,rfl⟩
     go_wp2_with fail
     go_ret
     exact⟨rfl,HB.out⟩
 · obtain⟨g,o,rfl,_⟩:=hl 0 (by omega)
   obtain⟨ss,hss⟩:∃ss,ss=l.map (·.data.toList):=⟨_,rfl⟩
   have HC:=Lib.hid (Tryz.slices_Clone_string g o l.length cap l w (Nat.le_refl _) (by omega) (fun j hj=>by
    obtain⟨g',o',e,hc⟩:=hl j hj
    injection e with e
    injection e with e1 e2
    subst e1 e2
    rw[hc,List.getD_eq_getElem?_getD,List.getElem?_eq_getElem hj];rfl))
   have HND:=Lib.hid (show decide l.Nodup=decide ((compact (ss.mergeSort fun x y=>decide (x<=y))).length=l.length) by
    have h1:=str_sorted ss
    have h2:=str_nodup l
    have h3:ss.length=l.length:=by rw[hss,List.length_map]
    rw[<- hss]at h2
    rw[h3]at h1
    exact decide_eq_decide.2 (h2.symm.trans h1.symm))
   have HSS:=Lib.hid hss
   obtain⟨n,hn⟩:∃n,n=l.length:=⟨_,rfl⟩
   have HN:=Lib.hid hn
   clear hl hss
   rw[<- hn]at h0 hlen HC HND ⊢
   rw[HND.out]
   clear hn
   go_enter Tryz.func63,Tryz.ntmps63
   go_wp2_with fail
   with_reducible refine(HC.out).mono ?_
   rintro e w1 ⟨v,rfl,hown,hne,hb⟩
   rw[HN.out,List.take_of_length_le (Nat.le_refl _),<- map_encStr,<- HSS.out,<- HN.out]at hown
   obtain⟨g1,c1,rfl,hg1,hlt1,hnc,hcm,hzl,hH⟩:=holds_of_ownsRow hown hne
   have HB:=Lib.hid hb
   have HH:=Lib.hid hH
   subst hzl
   clear hown hne hb hH
   go_wp2_with fail
   refine(Tryz.slices_Sort_string g1 0 c1 ss w1 HH.out hlt1 (by omega)).mono ?_
   rintro e w2 ⟨rfl,q,os,rfl⟩
   obtain⟨st,hst⟩:∃st,st=ss.mergeSort fun x y=>decide (x<=y):=⟨_,rfl⟩
   rw[<- hst]
   have hlst:st.length=ss.length:=by rw[hst,List.length_mergeSort]
   have HB2:=Lib.hid (show Below w.heap.size w (grow (putRow encStr (Sort.ahead w1 q) g1 0 st.toArray) os)from below_growW (below_putRow HB.out hg1) (by have:=HB.out.size;simpa[putRow,mapBlock,Sort.ahead]using this))
   have HH2:=Lib.hid (show Holds encStr (grow (putRow encStr (Sort.ahead w1 q) g1 0 st.toArray) os) g1 0 st.toArray from holds_grow _ _ _ _ _ _ (by simpa[putRow,mapBlock,Sort.ahead]using hlt1) (holds_putRow _ _ _ _ ss.toArray _ (fun j hj=>HH.out j hj) (by simpa using hlst)))
   generalize grow (putRow encStr (Sort.ahead w1 q) g1 0 st.toArray) os=w2 at*
   rw[<- hlst]
   rw[<- hlst]at hnc hlen h0
   have HST:=Lib.hid hst
   have HLS:=Lib.hid hlst
   clear hst hlst HH HB HC HN HSS HND
   go_wp2_with fail
   refine(Tryz.slices_Compact_string g1 0 c1 st w2 HH2.out (by omega) hnc).mono ?_
   rintro e w3 ⟨rfl,q2,rfl⟩
   have HB3:=Lib.hid (below_putRow (enc:=encStr) (q:=q2) (d:=(compact st++List.replicate (st.length - (compact st).length) []).toArray) HB2.out hg1)
   generalize putRow encStr (Sort.ahead w2 q2) g1 0 _=w3 at*
   have hcl:=compact_length_le st
   obtain⟨m,hm⟩:∃m,m=(compact st).length:=⟨_,rfl⟩
   rw[<- hm]at hcl ⊢
   have HM:=Lib.hid (show decide ((compact (ss.mergeSort fun x y=>decide (x<=y))).length=ss.length)=decide (m=st.length) by rw[<- HST.out,<- hm,<- HLS.out])
   clear HH2 HB2 hm
   by_cases he:m=st.length
   · have d:((m:Int)==(st.length:Int))=true:=by simp;omega
     have HE:=Lib.hid he
     clear he
     go_wp2_with fail
     go_ret
     exact⟨ret_bool (HM.out.trans (decide_eq_true HE.out)).symm,HB3.out⟩
   · have d:((m:Int)==(st.length:Int))=false:=by simp;omega
     have HE:=Lib.hid he
     clear he
     go_wp2_with fail
     go_ret
     exact⟨ret_bool (HM.out.trans (decide_eq_false HE.out)).symm,HB3.out⟩
def wR(nms:List ByteArray)(s l:List Int):Prop:=nms.length<=6/\nms.Nodup/\l≠[]/\s.length+l.length<=64/\allR nms.length s/\allR nms.length l
instance(nms:List ByteArray)(s l:List Int):Decidable (wR nms s l):=inferInstanceAs (Decidable (_/\_))
def wI(m:Nat)(s l:List Int):Prop:=l≠[]/\s.length+l.length<=64/\allR m s/\allR m l
instance(m:Nat)(s l:List Int):Decidable (wI m s l):=inferInstanceAs (Decidable (_/\_))
structure WM(w:World)(A B:Option Addr)(s l:List Int):Prop where
 st:ISl w A s
 lp:ISl w B l
theorem WM.below{w w':World}{A B:Option Addr}{s l:List Int}(h:WM w A B s l)(hb:Below w.heap.size w w'):WM w' A B s l:=⟨h.st.below hb,h.lp.below hb⟩
abbrev lav(A:Option Addr)(n a:Nat)(B:Option Addr)(m b:Nat):Value:=.agg #[.slice A n a,.slice B m b]
theorem isr_any{A B:Option Addr}{s l:List Int}{sc lc m:Nat}(hm:m<7)(w:World)(h:WM w A B s l)(h1:s.length<=1000000)(h2:l.length<=1000000):Calls Tryz.prog 64 #[lav A s.length sc B l.length lc,.int .i64 (m:Int)] w (BoolP (decide (wI m s l)) w):=by
 have HS:=Lib.hid (fun(W:World) (hb:Below w.heap.size w W)=>letters_any (cap:=sc) hm W (h.st.below hb) h1)
 have HL:=Lib.hid (fun(W:World) (hb:Below w.heap.size w W)=>letters_any (cap:=lc) hm W (h.lp.below hb) h2)
 obtain⟨n,hn⟩:∃n,n=s.length:=⟨_,rfl⟩
 obtain⟨k,hk⟩:∃k,k=l.length:=⟨_,rfl⟩
 have HW:=Lib.hid (show wI m s l↔(k≠0/\n+k<=64/\allR m s/\allR m l) by rw[hk,hn];unfold wI;rw[ne_eq,ne_eq,List.length_eq_zero_iff])
 rw[<- hn]at h1 HS ⊢
 rw[<- hk]at h2 HL ⊢
 clear h hn hk
 show Calls Tryz.prog 64 #[.agg #[.slice A n sc,.slice B k lc],.int .i64 (m:Int)] w _
 obtain⟨w0,hw0⟩:∃w0,w0=w.alloc (.cells #[.slice A n sc,.slice B k lc] 42):=⟨_,rfl⟩
 have HB0:=Lib.hid (show Below w.heap.size w w0 by rw[hw0];exact below_alloc _ _)
 have HX0:=Lib.hid (show Bx w0 w.heap.size 42 [.slice A n sc,.slice B k lc] by rw[hw0];exact Bx.new _ _ _)
 have HW0:=Lib.hid hw0
 clear hw0
 by_cases c1:k≠0
 · have d1:decide (0<k)=true:=by simp;omega
   by_cases c2:n+k<=64
   · have d2:decide ((n:Int)+(k:Int)<=64)=true:=by simp;omega
     have d2':decide (n+k<=64)=true:=by simp;omega
     by_cases c3:allR m s
     · by_cases c4:allR m l
       · have H3:=Lib.hid c3
         have H4:=Lib.hid c4
         have HE:=Lib.hid (show true=decide (wI m s l)from(decide_eq_true (HW.out.2 ⟨c1,c2,c3,c4⟩)).symm)
         clear c1 c3 c4
         go_enter Tryz.func64,Tryz.ntmps64
         go_wp2_with fail
         rw[<- HW0.out]
         with_reducible refine(HS.out _ HB0.out).mono ?_
         rintro e w2 ⟨rfl,hb2⟩
         have HB2:=Lib.hid (below_t HB0.out hb2)
         have HX2:=Lib.hid (HX0.out.below hb2)
         have x2:=HX2.out.cell 0
         have y2:=HX2.out.cell 1
         simp only[List.getElem?_cons_zero,List.getElem?_cons_succ]at x2 y2
         clear hb2
         rw[decide_eq_true H3.out]
         go_wp2_with fail
         with_reducible refine(HL.out _ HB2.out).mono ?_
         rintro e w3 ⟨rfl,hb3⟩
         have HB3:=Lib.hid (below_t HB2.out hb3)
         clear hb3
         rw[decide_eq_true H4.out]
         go_wp2
         go_ret
         exact⟨ret_bool HE.out,HB3.out⟩
       · have H3:=Lib.hid c3
         have H4:=Lib.hid c4
         have HE:=Lib.hid (show false=decide (wI m s l)from(decide_eq_false fun h=>c4 (HW.out.1 h).2.2.2).symm)
         clear c1 c3 c4
         go_enter Tryz.func64,Tryz.ntmps64
         go_wp2_with fail
         rw[<- HW0.out]
         with_reducible refine(HS.out _ HB0.out).mono ?_
         rintro e w2 ⟨rfl,hb2⟩
         have HB2:=Lib.hid (below_t HB0.out hb2)
         have HX2:=Lib.hid (HX0.out.below hb2)
         have x2:=HX2.out.cell 0
         have y2:=HX2.out.cell 1
         simp only[List.getElem?_cons_zero,List.getElem?_cons_succ]at x2 y2
         clear hb2
         rw[decide_eq_true H3.out]
         go_wp2_with fail
         with_reducible refine(HL.out _ HB2.out).mono ?_
         rintro e w3 ⟨rfl,hb3⟩
         have HB3:=Lib.hid (below_t HB2.out hb3)
         clear hb3
         rw[decide_eq_false H4.out]
         go_wp2
         go_ret
         exact⟨ret_bool HE.out,HB3.out⟩
     · have H3:=Lib.hid c3
       have HE:=Lib.hid (show false=decide (wI m s l)from(decide_eq_false fun h=>c3 (HW.out.1 h).2.2.1).symm)
       clear c1 c3
       go_enter Tryz.func64,Tryz.ntmps64
       go_wp2_with fail
       rw[<- HW0.out]
       with_reducible refine(HS.out _ HB0.out).mono ?_
       rintro e w2 ⟨rfl,hb2⟩
       have HB2:=Lib.hid (below_t HB0.out hb2)
       have HX2:=Lib.hid (HX0.out.below hb2)
       have x2:=HX2.out.cell 0
       have y2:=HX2.out.cell 1
       simp only[List.getElem?_cons_zero,List.getElem?_cons_succ]at x2 y2
       clear hb2
       rw[decide_eq_false H3.out]
       go_wp2
       go_ret
       exact⟨ret_bool HE.out,HB2.out⟩
   · have d2:decide ((n:Int)+(k:Int)<=64)=false:=by simp;omega
     have d2':decide (n+k<=64)=false:=by simp;omega
     have HE:=Lib.hid (show false=decide (wI m s l)from(decide_eq_false fun h=>c2 (HW.out.1 h).2.1).symm)
     clear c1 c2
     go_enter Tryz.func64,Tryz.ntmps64
     go_wp2
     go_ret
     exact⟨ret_bool HE.out,below_alloc _ _⟩
 · have d1:decide (0<k)=false:=by simp;omega
   have HE:=Lib.hid (show false=decide (wI m s l)from(decide_eq_false fun h=>c1 (HW.out.1 h).1).symm)
   clear c1
   go_enter Tryz.func64,Tryz.ntmps64
   go_wp2
   go_ret
   exact⟨ret_bool HE.out,below_alloc _ _⟩
def ErrP(n:Int)(w:World)(e:Ending)(w':World):Prop:=e= .returned (if n=0 then .nilIface else .iface 78 (.int .i64 n))/\Below w.heap.size w w'
theorem check_any{N A B:Option Addr}{nms:List ByteArray}{s l:List Int}{nc sc lc:Nat}(w:World)(hN:SSl w N nms)(h:WM w A B s l)(h0:nms.length<=1000000)(h1:s.length<=1000000)(h2:l.length<=1000000):
 Calls Tryz.prog 40 #[.slice N nms.length nc,lav A s.length sc B l.length lc] w (ErrP (if wR nms s l then 0 else 1) w):=by
 have HD:=Lib.hid (fun(W:World) (hb:Below w.heap.size w W)=>differ_any (cap:=nc) W (hN.below hb) h0)
 obtain⟨m,hm⟩:∃m,m=nms.length:=⟨_,rfl⟩
 have HR:=Lib.hid (fun(h7:m<7) (W:World) (hb:Below w.heap.size w W)=>isr_any (sc:=sc) (lc:=lc) h7 W (h.below hb) h1 h2)
 have HW:=Lib.hid (show wR nms s l↔(m<=6/\nms.Nodup/\wI m s l) by rw[hm];exact Iff.rfl)
 rw[<- hm]at HD h0 ⊢
 clear hN h hm
 generalize s.length=n at*
 generalize l.length=k at*
 show Calls Tryz.prog 40 #[.slice N m nc,.agg #[.slice A n sc,.slice B k lc]] w _
 obtain⟨w0,hw0⟩:∃w0,w0=w.alloc (.cells #[.slice A n sc,.slice B k lc] 42):=⟨_,rfl⟩
 have HB0:=Lib.hid (show Below w.heap.size w w0 by rw[hw0];exact below_alloc _ _)
 have HX0:=Lib.hid (show Bx w0 w.heap.size 42 [.slice A n sc,.slice B k lc] by rw[hw0];exact Bx.new _ _ _)
 have HW0:=Lib.hid hw0
 clear hw0
 by_cases c1:m<=6
 · have d1:decide (6<m)=false:=by simp;omega
   have d1':¬(6:Int)<(m:Int):=by omega
   replace HR:=Lib.hid (HR.out (by omega))
   by_cases c2:nms.Nodup
   · by_cases c3:wI m s l
     · have H3:=Lib.hid c2
       have H4:=Lib.hid c3
       rw[if_pos (HW.out.2 ⟨c1,c2,c3⟩)]
       clear c1 c2 c3
       go_enter Tryz.func40,Tryz.ntmps40
       go_wp2_with fail
       rw[<- HW0.out]
       with_reducible refine(HD.out _ HB0.out).mono ?_
       rintro e w2 ⟨rfl,hb2⟩
       have HB2:=Lib.hid (below_t HB0.out hb2)
       have HX2:=Lib.hid (HX0.out.below hb2)
       have x2:=HX2.out.cell 0
       have y2:=HX2.out.cell 1
       simp only[List.getElem?_cons_zero,List.getElem?_cons_succ]at x2 y2
       clear hb2
       rw[decide_eq_true H3.out]
       go_wp2_with fail
       with_reducible refine(HR.out _ HB2.out).mono ?_
       rintro e w3 ⟨rfl,hb3⟩
       have HB3:=Lib.hid (below_t HB2.out hb3)
       clear hb3
       rw[decide_eq_true H4.out]
       go_wp2
       go_ret
       exact⟨rfl,HB3.out⟩
     · have H3:=Lib.hid c2
       have H4:=Lib.hid c3
       rw[if_neg (fun h=>c3 (HW.out.1 h).2.2)]
       clear c1 c2 c3
       go_enter Tryz.func40,Tryz.ntmps40
       go_wp2_with fail
       rw[<- HW0.out]
       with_reducible refine(HD.out _ HB0.out).mono ?_
       rintro e w2 ⟨rfl,hb2⟩
       have HB2:=Lib.hid (below_t HB0.out hb2)
       have HX2:=Lib.hid (HX0.out.below hb2)
       have x2:=HX2.out.cell 0
       have y2:=HX2.out.cell 1
       simp only[List.getElem?_cons_zero,List.getElem?_cons_succ]at x2 y2
       clear hb2
       rw[decide_eq_true H3.out]
       go_wp2_with fail
       with_reducible refine(HR.out _ HB2.out).mono ?_
       rintro e w3 ⟨rfl,hb3⟩
       have HB3:=Lib.hid (below_t HB2.out hb3)
       clear hb3
       rw[decide_eq_false H4.out]
       go_wp2
       go_ret
       exact⟨rfl,HB3.out⟩
   · have H3:=Lib.hid c2
     rw[if_neg (fun h=>c2 (HW.out.1 h).2.1)]
     clear c1 c2
     go_enter Tryz.func40,Tryz.ntmps40
     go_wp2_with fail
     rw[<- HW0.out]
     with_reducible refine(HD.out _ HB0.out).mono ?_
     rintro e w2 ⟨rfl,hb2⟩
     have HB2:=Lib.hid (below_t HB0.out hb2)
     have HX2:=Lib.hid (HX0.out.below hb2)
     have x2:=HX2.out.cell 0
     have y2:=HX2.out.cell 1
     simp only[List.getElem?_cons_zero,List.getElem?_cons_succ]at x2 y2
     clear hb2
     rw[decide_eq_false H3.out]
     go_wp2
     go_ret
     exact⟨rfl,HB2.out⟩
 · have d1:decide (6<m)=true:=by simp;omega
   have d1':(6:Int)<(m:Int):=by omega
   rw[if_neg (fun h=>c1 (HW.out.1 h).1)]
   clear c1
   go_enter Tryz.func40,Tryz.ntmps40
   go_wp2
   go_ret
   exact⟨rfl,below_alloc _ _⟩
end
end
end Go.Proofs.YtmgjpjjglghbaaaGreatDoor
