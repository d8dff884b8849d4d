import Derived.Test.YtmgjpjjglghbaaaGreatDoord1
import Derived.Test.YtmgjpjjglghbaaaGreatDoorb3
import Derived.Deep.RegionHeld3
namespace Go.Proofs.YtmgjpjjglghbaaaGreatDoor
set_option maxHeartbeats 16000000
set_option maxRecDepth 100000
open Go.RowKit
def allL(P:Fo->Bool)(l:List Fo):Prop:=∀x∈l,allF P x=true
theorem all_kids{P:Fo->Bool}(x:Fo):allF P x=true↔P x=true/\allL P x.kids.reverse:=by
 cases x with
 | leaf op nm p=>simp[allF,allL,Fo.kids]
 | un op a p=>simp[allF,allL,Fo.kids]
 | bin op a b p=>simp[allF,allL,Fo.kids,and_comm]
theorem allL_cons{P:Fo->Bool}{x:Fo}{l:List Fo}:allL P (x::l)↔allF P x=true/\allL P l:=by simp[allL]
theorem allL_app{P:Fo->Bool}{k l:List Fo}:allL P (k++l)↔allL P k/\allL P l:=by
 simp only[allL,List.mem_append]
 exact⟨fun h=>⟨fun x hx=>h x (.inl hx),fun x hx=>h x (.inr hx)⟩,fun h x hx=>hx.elim (h.1 x) (h.2 x)⟩
def OkL(l:List Fo):Prop:=∀x∈l,OkF x
theorem okl_kids{x:Fo}(h:OkF x):OkL x.kids.reverse:=by
 cases x with
 | leaf op nm p=>intro y hy;simp[Fo.kids]at hy
 | un op a p=>intro y hy;simp[Fo.kids]at hy;subst hy;exact h.2
 | bin op a b p=>
   intro y hy
   simp[Fo.kids]at hy
   rcases hy with rfl | rfl
   · exact h.2.2
   · exact h.2.1
theorem add_zero_blk(g j:Nat):(⟨g,0,none⟩:Addr).add j=⟨g,j,none⟩:=by
 unfold Addr.add
 by_cases hj:j=0<;>simp[hj]
def ArRel(w:World)(S:Nat->Prop)(P:Fo->Bool)(b:Bool)(T:Nat)(v i:Value)(wr:World):Prop:=
 ∃r cs k,i= .int .i64 ((k:Nat):Int)/\k+sizesF r=T/\r.length<=1+2*k/\OkL r/\(b=true↔allL P r)/\StkF w S r cs/\wr.ownsRow (w.heap.size+1) 27 4 v r.length cs/\Below w.heap.size w wr
def nrt:Fo->Bool:=fun _=>true
theorem nright_any'{x:Fo}(hx:OkF x){c:List Value}{S:Nat->Prop}(w:World)(hc:FS w 27 S x c):Calls Tryz.prog 54 #[.agg c.toArray] w (BoolP (nrt x) w):=nright_any hx w hc
theorem FS.push2{w:World}{S:Nat->Prop}{y:Fo}{v:FV}(h:FS w 27 S y v.c){r:List Fo}{c0:List Value}(hr:StkF w S r c0):
 ∃news,v.ll=y.kids.length/\((v.A=none/\v.ll=0/\v.cap=0/\news=[])∨∃ad:Addr,v.A=some ad/\ad.block<w.heap.size/\news.length=v.ll*4/\(∀(j:Nat) (u:Value),news[j]?=some u->w.cell? (ad.add j)=some u)/\∀u∈news,u.oneCell'=true)/\StkF w S (y.kids.reverse++r) (c0++news):=by
 rcases h.push with⟨op,nm,p,hk,hc⟩ | ⟨op,nm,g,cap,news,p,hc,h0,hl,hn,h1,hg,hp⟩
 · simp only[FV.c,List.cons.injEq,Value.slice.injEq,Value.string.injEq]at hc
   exact⟨[],by rw[hc.2.2.1.2.1,hk];rfl,.inl ⟨hc.2.2.1.1,hc.2.2.1.2.1,hc.2.2.1.2.2,rfl⟩,by rw[hk,List.append_nil];exact hr⟩
 · simp only[FV.c,List.cons.injEq,Value.slice.injEq,Value.string.injEq]at hc
   exact⟨news,hc.2.2.1.2.1,.inr ⟨⟨g,0,none⟩,hc.2.2.1.1,hg,by rw[hc.2.2.1.2.1];exact hl,hn,h1⟩,hp r c0 hr⟩
theorem arer_any{x:Fo}{c:List Value}{S:Nat->Prop}(w:World)(h:FS w 27 S x c)(hx:OkF x)(hT:x.size<=65536):Calls Tryz.prog 53 #[.agg c.toArray,.func (.func 54) #[] #[]] w (BoolP (allF nrt x) w):=by
 obtain⟨nm,A,l,cap,rfl⟩:=h.form
 have HH:=Lib.hid h
 have HX:=Lib.hid hx
 have HAB:=Lib.hid (show allF nrt x=true↔allL nrt [x] by simp[allL])
 obtain⟨T,hTe⟩:∃T,T=x.size:=⟨_,rfl⟩
 rw[<- hTe]at hT
 have HTE:=Lib.hid hTe
 generalize allF nrt x=b at*
 clear h hx hTe
 change Calls Tryz.prog 53 #[.agg #[.string ⟨x.op.toArray⟩,.string nm,.slice A l cap,.int .i64 (x.pos:Int)],.func (.func 54) #[] #[]] w _
 go_enter Tryz.func53,Tryz.ntmps53
 go_wp2
 go_loopw [5,6] (fun v i wr=>ArRel w S nrt b T v i wr) (fun _ i _=>65536 - (intOf i).toNat)
 case atStart=>
  refine⟨[x],_,0,rfl,by rw[HTE.out];simp[sizesF],by simp,by intro y hy;simp at hy;subst hy;exact HX.out,HAB.out,⟨[],_,rfl,HH.out,rfl⟩,⟨rfl,.inr ⟨w.heap.size+1,1,_,rfl,Nat.le_refl _,heap_new_at (by simp) _,Nat.le_refl _,by unfold maxLen;omega,rfl,rfl⟩⟩,((Below.refl _ _).alloc (Nat.le_refl _) _).alloc (by simp) _⟩
 case round=>
  obtain⟨r,cs,k,rfl,hsum,hlen,hok,hab,hst,hown,hb⟩:=hrel
  have HST:=Lib.hid hst
  have HB:=Lib.hid hb
  have HOW:=Lib.hid hown
  have HL:=Lib.hid hlen
  have HOK:=Lib.hid hok
  have HA:=Lib.hid hab
  clear hst hb hlen hok hab
  cases r with
  | nil=>
    have hv:=row_formsF hown
    have hb1:b=true:=HA.out.2 (by simp[allL])
    subst hb1
    clear hown
    rcases hv with⟨rfl,_⟩ | ⟨g,cp,rfl⟩
    · go_wp2
      go_ret
      exact⟨rfl,HB.out⟩
    · have g2:decide (0<((([]:List Fo).length:Nat):Int))=false:=rfl
      go_wp2
      go_ret
      exact⟨rfl,HB.out⟩
  | cons y r=>
    obtain⟨m,hm⟩:∃m,m=r.length:=⟨_,rfl⟩
    rw[List.length_cons,<- hm]at hown
    have HOW:=Lib.hid hown
    obtain⟨g,cp,rfl⟩:=row_formF hown (by omega)
    obtain⟨c0,c1,hcs,hy,hr⟩:=HST.out
    subst hcs
    have hm1:=HL.out
    rw[List.length_cons,<- hm]at hm1
    have hk2:k<65536:=by simp only[sizesF]at hsum;have:=size_posF y;omega
    have HSM:=Lib.hid hsum
    clear hsum
    have g1:decide ((0:Int)<((m+1:Nat):Int))=true:=by rw[decide_eq_true_iff];omega
    have g1':decide ((0:Int)<(m:Int)+1)=true:=by rw[decide_eq_true_iff];omega
    have g2:decide ((k:Int)<65536)=true:=by simp;omega
    have hcap:m+1<=cp:=by
     rcases hown.2 with⟨h0,_⟩ | ⟨g',cap',cur,hv,_,_,hn,_⟩
     · cases h0
     · cases hv;exact hn
    have hlen0:c0.length=m*4:=by rw[hr.len,hm]
    have hcell:w.heap.size+1<=g/\g<wr.heap.size:=hown.lt g rfl
    have HC:=Lib.hid (hown.cells (g:=g) rfl)
    have HPOP:=Lib.hid (ownsRow_pop hlen0 hown)
    have HR:=Lib.hid hr
    have HM:=Lib.hid hm
    have HL0:=Lib.hid hlen0
    have HOY:=Lib.hid (HOK.out y (by simp))
    have HOR:=Lib.hid (show OkL r from fun z hz=>HOK.out z (by simp[hz]))
    have HA1:=Lib.hid (HA.out.trans (allL_cons.trans (and_congr_left' (all_kids y))))
    have HRel:=Lib.hid (show k+1+sizesF (y.kids.reverse++r)=T by have:=HSM.out;have:=size_kidsF y;rw[sizesF_app];simp only[sizesF]at*;omega)
    obtain⟨q,hq⟩:∃q,q=y.kids.length:=⟨_,rfl⟩
    have HQ3:=Lib.hid (show q<=2 by rw[hq];cases y<;>simp[Fo.kids])
    have HLR:=Lib.hid (show(y.kids.reverse++r).length=m+q by rw[List.length_append,List.length_reverse,<- hq,<- HM.out];omega)
    obtain⟨ynm,yA,yl,ycap,rfl⟩:=hy.form
    obtain⟨news,hvl,hA,hpush⟩:=hy.push2 hr
    have HKY:=Lib.hid hy
    simp only at hvl hA
    rw[<- hq]at hvl
    subst hvl
    have HQ:=Lib.hid hq
    clear hq
    obtain⟨yo,hyo⟩:∃yo:ByteArray,yo=⟨y.op.toArray⟩:=⟨_,rfl⟩
    obtain⟨yp,hyp⟩:∃yp:Int,yp=(y.pos:Int):=⟨_,rfl⟩
    rw[<- hyo,<- hyp]at HKY HC HOW
    have hcs:∀j:Nat,j<4->wr.cell? ⟨g,m*4+j,none⟩=(FV.c ⟨yo,ynm,yA,yl,ycap,yp⟩)[j]?:=fun j hj=>by
     obtain⟨u,hu⟩:∃u,(FV.c ⟨yo,ynm,yA,yl,ycap,yp⟩)[j]?=some u:=by
      rw[List.getElem?_eq_getElem (by simp[FV.c];omega)];exact⟨_,rfl⟩
     have:=HC.out (m*4+j) u (by rw[List.getElem?_append_right (by have:=HL0.out;omega),HL0.out];simp[hu])
     rw[hu]
     rwa [add_zero_blk]at this
    have hc0:wr.cell? ⟨g,m*4,none⟩=some (.string yo):=hcs 0 (by omega)
    have hc1:wr.cell? ⟨g,m*4+1,none⟩=some (.string ynm):=hcs 1 (by omega)
    have hc2:wr.cell? ⟨g,m*4+2,none⟩=some (.slice yA yl ycap):=hcs 2 (by omega)
    have hc3:wr.cell? ⟨g,m*4+3,none⟩=some (.int .i64 yp):=hcs 3 (by omega)
    have HW1:=Lib.hid (below_alloc wr (.cells #[.string yo,.string ynm,.slice yA yl ycap,.int .i64 yp] 27))
    have HBX:=Lib.hid (show Bx (wr.alloc (.cells #[.string yo,.string ynm,.slice yA yl ycap,.int .i64 yp] 27)) wr.heap.size 27 [.string yo,.string ynm,.slice yA yl ycap,.int .i64 yp]from Bx.new _ _ _)
    have HP:=Lib.hid (show Calls Tryz.prog 54 #[.agg #[.string yo,.string ynm,.slice yA yl ycap,.int .i64 yp]] (wr.alloc (.cells #[.string yo,.string ynm,.slice yA yl ycap,.int .i64 yp] 27)) (BoolP (nrt y) (wr.alloc (.cells #[.string yo,.string ynm,.slice yA yl ycap,.int .i64 yp] 27)))from nright_any' HOY.out (wr.alloc (.cells #[.string yo,.string ynm,.slice yA yl ycap,.int .i64 yp] 27)) ((HKY.out.below HB.out).alloc _))
    have HPY:=Lib.hid (show allL nrt (y::r)->nrt y=true from fun h=>((all_kids y).1 (allL_cons.1 h).1).1)
    have HPU:=Lib.hid hpush
    have HNEW:=Lib.hid (show ∀W,Below w.heap.size w W->((yA=none/\yl=0/\ycap=0/\news=[])∨∃ad:Addr,yA=some ad/\news.length=yl*4/\(∀(j:Nat) (u:Value),news[j]?=some u->W.cell? (ad.add j)=some u)/\∀u∈news,u.oneCell'=true)from fun W hW=>hA.imp id fun⟨ad,h1,h2,h3,h4,h5⟩=>⟨ad,h1,h3,fun j u hu=>(hW.cell (by rw[add_blkF];exact h2)).trans (h4 j u hu),h5⟩)
    have HOWN:=Lib.hid (show wr.ownsRow (w.heap.size+1) 27 4 (.slice (some ⟨g,0,none⟩) (m+1) cp) (m+1) (c0++FV.c ⟨yo,ynm,yA,yl,ycap,yp⟩)from HOW.out)
    clear hown hr hm hlen0 hcs hpush hA hy hyo hyp HOK HH HX HAB HST HOW HC HKY
    unfold BoolP at HP
    generalize hpb:nrt y=py at*
    cases py with
    | false=>
      have hbf:b=false:=by
       cases b with
       | false=>rfl
       | true=>exact absurd (HPY.out (HA.out.1 rfl)) (by simp)
      subst hbf
      go_wp2_with fail
      with_reducible refine(HP.out).mono ?_
      rintro e w1 ⟨rfl,hb1⟩
      have HB1:=Lib.hid (HB.out.trans (Below.trans (HW1.out.mono HB.out.size) (hb1.mono (by have:=HB.out.size;have:=HW1.out.size;omega))))
      clear hb1
      go_wp2
      go_ret
      exact⟨rfl,HB1.out⟩
    | true=>
      go_wp2_with fail
      with_reducible refine(HP.out).mono ?_
      rintro e w1 ⟨rfl,hb1⟩
      have hk1:=below_t HW1.out hb1
      have HB1:=Lib.hid (HB.out.trans (hk1.mono HB.out.size))
      have HSZ0:=Lib.hid (show w.heap.size+1<=w1.drew.heap.size by have:=hk1.size;show _<=w1.heap.size;omega)
      have HA2:=Lib.hid (show b=true↔allL nrt (y.kids.reverse++r)from HA1.out.trans (by rw[allL_app];simp))
      have HPO1:=Lib.hid (show w1.ownsRow (w.heap.size+1) 27 4 (.slice (some ⟨g,0,none⟩) m cp) m c0 from HPOP.out.kept (World.grownBy.ofBelow hk1 none) (.inr (by simp[Value.ownBlock])))
      have HBX1:=Lib.hid (HBX.out.below hb1)
      clear hb1 hk1
      go_wp2_with fail
      have lk:Below w1.heap.size w1 w1.drew:=(Below.refl _ _).drew
      have n0:(0:Int)<=(m:Int):=by omega
      have n1:(m:Int)<=(cp:Int):=by omega
      have HSZ:=Lib.hid HSZ0.out
      go_region_held3 (fun w'=>w'.cell? ⟨wr.heap.size,2,none⟩=some (.slice yA yl ycap)) (first | exact(HBX1.out.below lk).cell 2 | exact HBX2.out.cell 2) (first
       | (refine step_append_fo rfl (.tmp 33) (.tmp 35) rfl (w.heap.size+1) m yl ycap (.slice (some ⟨g,0,none⟩) m cp) c0 news yA ?_ ?_ ?_ (HNEW.out _ (below_t HB1.out lk)) ?_ ?_ ?_
          · simp[Act.eval]
          · simp[Act.eval]
          · exact HPO1.out.kept (World.grownBy.ofBelow lk none) (.inr (by simp[Value.ownBlock]))
          · have:=HQ3.out;omega
          · exact HSZ.out
          intro v' w' ho hg
          have HBX2:=Lib.hid (show Bx w' wr.heap.size 27 [.string yo,.string ynm,.slice yA yl ycap,.int .i64 yp]from(hg.block wr.heap.size (HBX1.out.below lk).lt (by simp[Value.ownBlock];omega)).trans (HBX1.out.below lk))
          have HOW2:=Lib.hid ho
          have HB2:=Lib.hid (Below.grown (below_t HB1.out lk) hg (below_t HB1.out lk).size (fun k hk=>own_geF hk (by omega)))
          clear ho hg lk))
      go_wp2
      go_roundw
      case rel=>exact⟨_,_,k+1,by go_num,HRel.out,by rw[HLR.out];have:=HQ3.out;omega,(fun z hz=>(List.mem_append.1 hz).elim (okl_kids HOY.out z) (HOR.out z)),HA2.out,HPU.out,by rw[HLR.out];exact HOW2.out,HB2.out⟩
      case measure=>simp[intOf];omega
theorem aren_any{x:Fo}{c:List Value}{S:Nat->Prop}(w:World)(h:FS w 27 S x c)(hx:OkF x)(hT:x.size<=65536):Calls Tryz.prog 53 #[.agg c.toArray,.func (.func 61) #[] #[]] w (BoolP (allF nr1 x) w):=by
 obtain⟨nm,A,l,cap,rfl⟩:=h.form
 have HH:=Lib.hid h
 have HX:=Lib.hid hx
 have HAB:=Lib.hid (show allF nr1 x=true↔allL nr1 [x] by simp[allL])
 obtain⟨T,hTe⟩:∃T,T=x.size:=⟨_,rfl⟩
 rw[<- hTe]at hT
 have HTE:=Lib.hid hTe
 generalize allF nr1 x=b at*
 clear h hx hTe
 change Calls Tryz.prog 53 #[.agg #[.string ⟨x.op.toArray⟩,.string nm,.slice A l cap,.int .i64 (x.pos:Int)],.func (.func 61) #[] #[]] w _
 go_enter Tryz.func53,Tryz.ntmps53
 go_wp2
 go_loopw [5,6] (fun v i wr=>ArRel w S nr1 b T v i wr) (fun _ i _=>65536 - (intOf i).toNat)
 case atStart=>
  refine⟨[x],_,0,rfl,by rw[HTE.out];simp[sizesF],by simp,by intro y hy;simp at hy;subst hy;exact HX.out,HAB.out,⟨[],_,rfl,HH.out,rfl⟩,⟨rfl,.inr ⟨w.heap.size+1,1,_,rfl,Nat.le_refl _,heap_new_at (by simp) _,Nat.le_refl _,by unfold maxLen;omega,rfl,rfl⟩⟩,((Below.refl _ _).alloc (Nat.le_refl _) _).alloc (by simp) _⟩
 case round=>
  obtain⟨r,cs,k,rfl,hsum,hlen,hok,hab,hst,hown,hb⟩:=hrel
  have HST:=Lib.hid hst
  have HB:=Lib.hid hb
  have HOW:=Lib.hid hown
  have HL:=Lib.hid hlen
  have HOK:=Lib.hid hok
  have HA:=Lib.hid hab
  clear hst hb hlen hok hab
  cases r with
  | nil=>
    have hv:=row_formsF hown
    have hb1:b=true:=HA.out.2 (by simp[allL])
    subst hb1
    clear hown
    rcases hv with⟨rfl,_⟩ | ⟨g,cp,rfl⟩
    · go_wp2
      go_ret
      exact⟨rfl,HB.out⟩
    · have g2:decide (0<((([]:List Fo).length:Nat):Int))=false:=rfl
      go_wp2
      go_ret
      exact⟨rfl,HB.out⟩
  | cons y r=>
    obtain⟨m,hm⟩:∃m,m=r.length:=⟨_,rfl⟩
    rw[List.length_cons,<- hm]at hown
    have HOW:=Lib.hid hown
    obtain⟨g,cp,rfl⟩:=row_formF hown (by omega)
    obtain⟨c0,c1,hcs,hy,hr⟩:=HST.out
    subst hcs
    have hm1:=HL.out
    rw[List.length_cons,<- hm]at hm1
    have hk2:k<65536:=by simp only[sizesF]at hsum;have:=size_posF y;omega
    have HSM:=Lib.hid hsum
    clear hsum
    have g1:decide ((0:Int)<((m+1:Nat):Int))=true:=by rw[decide_eq_true_iff];omega
    have g1':decide ((0:Int)<(m:Int)+1)=true:=by rw[decide_eq_true_iff];omega
    have g2:decide ((k:Int)<65536)=true:=by simp;omega
    have hcap:m+1<=cp:=by
     rcases hown.2 with⟨h0,_⟩ | ⟨g',cap',cur,hv,_,_,hn,_⟩
     · cases h0
     · cases hv;exact hn
    have hlen0:c0.length=m*4:=by rw[hr.len,hm]
    have hcell:w.heap.size+1<=g/\g<wr.heap.size:=hown.lt g rfl
    have HC:=Lib.hid (hown.cells (g:=g) rfl)
    have HPOP:=Lib.hid (ownsRow_pop hlen0 hown)
    have HR:=Lib.hid hr
    have HM:=Lib.hid hm
    have HL0:=Lib.hid hlen0
    have HOY:=Lib.hid (HOK.out y (by simp))
    have HOR:=Lib.hid (show OkL r from fun z hz=>HOK.out z (by simp[hz]))
    have HA1:=Lib.hid (HA.out.trans (allL_cons.trans (and_congr_left' (all_kids y))))
    have HRel:=Lib.hid (show k+1+sizesF (y.kids.reverse++r)=T by have:=HSM.out;have:=size_kidsF y;rw[sizesF_app];simp only[sizesF]at*;omega)
    obtain⟨q,hq⟩:∃q,q=y.kids.length:=⟨_,rfl⟩
    have HQ3:=Lib.hid (show q<=2 by rw[hq];cases y<;>simp[Fo.kids])
    have HLR:=Lib.hid (show(y.kids.reverse++r).length=m+q by rw[List.length_append,List.length_reverse,<- hq,<- HM.out];omega)
    obtain⟨ynm,yA,yl,ycap,rfl⟩:=hy.form
    obtain⟨news,hvl,hA,hpush⟩:=hy.push2 hr
    have HKY:=Lib.hid hy
    simp only at hvl hA
    rw[<- hq]at hvl
    subst hvl
    have HQ:=Lib.hid hq
    clear hq
    obtain⟨yo,hyo⟩:∃yo:ByteArray,yo=⟨y.op.toArray⟩:=⟨_,rfl⟩
    obtain⟨yp,hyp⟩:∃yp:Int,yp=(y.pos:Int):=⟨_,rfl⟩
    rw[<- hyo,<- hyp]at HKY HC HOW
    have hcs:∀j:Nat,j<4->wr.cell? ⟨g,m*4+j,none⟩=(FV.c ⟨yo,ynm,yA,yl,ycap,yp⟩)[j]?:=fun j hj=>by
     obtain⟨u,hu⟩:∃u,(FV.c ⟨yo,ynm,yA,yl,ycap,yp⟩)[j]?=some u:=by
      rw[List.getElem?_eq_getElem (by simp[FV.c];omega)];exact⟨_,rfl⟩
     have:=HC.out (m*4+j) u (by rw[List.getElem?_append_right (by have:=HL0.out;omega),HL0.out];simp[hu])
     rw[hu]
     rwa [add_zero_blk]at this
    have hc0:wr.cell? ⟨g,m*4,none⟩=some (.string yo):=hcs 0 (by omega)
    have hc1:wr.cell? ⟨g,m*4+1,none⟩=some (.string ynm):=hcs 1 (by omega)
    have hc2:wr.cell? ⟨g,m*4+2,none⟩=some (.slice yA yl ycap):=hcs 2 (by omega)
    have hc3:wr.cell? ⟨g,m*4+3,none⟩=some (.int .i64 yp):=hcs 3 (by omega)
    have HW1:=Lib.hid (below_alloc wr (.cells #[.string yo,.string ynm,.slice yA yl ycap,.int .i64 yp] 27))
    have HBX:=Lib.hid (show Bx (wr.alloc (.cells #[.string yo,.string ynm,.slice yA yl ycap,.int .i64 yp] 27)) wr.heap.size 27 [.string yo,.string ynm,.slice yA yl ycap,.int .i64 yp]from Bx.new _ _ _)
    have HP:=Lib.hid (show Calls Tryz.prog 61 #[.agg #[.string yo,.string ynm,.slice yA yl ycap,.int .i64 yp]] (wr.alloc (.cells #[.string yo,.string ynm,.slice yA yl ycap,.int .i64 yp] 27)) (BoolP (nr1 y) (wr.alloc (.cells #[.string yo,.string ynm,.slice yA yl ycap,.int .i64 yp] 27)))from nnorm_any HOY.out (wr.alloc (.cells #[.string yo,.string ynm,.slice yA yl ycap,.int .i64 yp] 27)) ((HKY.out.below HB.out).alloc _))
    have HPY:=Lib.hid (show allL nr1 (y::r)->nr1 y=true from fun h=>((all_kids y).1 (allL_cons.1 h).1).1)
    have HPU:=Lib.hid hpush
    have HNEW:=Lib.hid (show ∀W,Below w.heap.size w W->((yA=none/\yl=0/\ycap=0/\news=[])∨∃ad:Addr,yA=some ad/\news.length=yl*4/\(∀(j:Nat) (u:Value),news[j]?=some u->W.cell? (ad.add j)=some u)/\∀u∈news,u.oneCell'=true)from fun W hW=>hA.imp id fun⟨ad,h1,h2,h3,h4,h5⟩=>⟨ad,h1,h3,fun j u hu=>(hW.cell (by rw[add_blkF];exact h2)).trans (h4 j u hu),h5⟩)
    have HOWN:=Lib.hid (show wr.ownsRow (w.heap.size+1) 27 4 (.slice (some ⟨g,0,none⟩) (m+1) cp) (m+1) (c0++FV.c ⟨yo,ynm,yA,yl,ycap,yp⟩)from HOW.out)
    clear hown hr hm hlen0 hcs hpush hA hy hyo hyp HOK HH HX HAB HST HOW HC HKY
    unfold BoolP at HP
    generalize hpb:nr1 y=py at*
    cases py with
    | false=>
      have hbf:b=false:=by
       cases b with
       | false=>rfl
       | true=>exact absurd (HPY.out (HA.out.1 rfl)) (by simp)
      subst hbf
      go_wp2_with fail
      with_reducible refine(HP.out).mono ?_
      rintro e w1 ⟨rfl,hb1⟩
      have HB1:=Lib.hid (HB.out.trans (Below.trans (HW1.out.mono HB.out.size) (hb1.mono (by have:=HB.out.size;have:=HW1.out.size;omega))))
      clear hb1
      go_wp2
      go_ret
      exact⟨rfl,HB1.out⟩
    | true=>
      go_wp2_with fail
      with_reducible refine(HP.out).mono ?_
      rintro e w1 ⟨rfl,hb1⟩
      have hk1:=below_t HW1.out hb1
      have HB1:=Lib.hid (HB.out.trans (hk1.mono HB.out.size))
      have HSZ0:=Lib.hid (show w.heap.size+1<=w1.drew.heap.size by have:=hk1.size;show _<=w1.heap.size;omega)
      have HA2:=Lib.hid (show b=true↔allL nr1 (y.kids.reverse++r)from HA1.out.trans (by rw[allL_app];simp))
      have HPO1:=Lib.hid (show w1.ownsRow (w.heap.size+1) 27 4 (.slice (some ⟨g,0,none⟩) m cp) m c0 from HPOP.out.kept (World.grownBy.ofBelow hk1 none) (.inr (by simp[Value.ownBlock])))
      have HBX1:=Lib.hid (HBX.out.below hb1)
      clear hb1 hk1
      go_wp2_with fail
      have lk:Below w1.heap.size w1 w1.drew:=(Below.refl _ _).drew
      have n0:(0:Int)<=(m:Int):=by omega
      have n1:(m:Int)<=(cp:Int):=by omega
      have HSZ:=Lib.hid HSZ0.out
      go_region_held3 (fun w'=>w'.cell? ⟨wr.heap.size,2,none⟩=some (.slice yA yl ycap)) (first | exact(HBX1.out.below lk).cell 2 | exact HBX2.out.cell 2) (first
       | (refine step_append_fo rfl (.tmp 33) (.tmp 35) rfl (w.heap.size+1) m yl ycap (.slice (some ⟨g,0,none⟩) m cp) c0 news yA ?_ ?_ ?_ (HNEW.out _ (below_t HB1.out lk)) ?_ ?_ ?_
          · simp[Act.eval]
          · simp[Act.eval]
          · exact HPO1.out.kept (World.grownBy.ofBelow lk none) (.inr (by simp[Value.ownBlock]))
          · have:=HQ3.out;omega
          · exact HSZ.out
          intro v' w' ho hg
          have HBX2:=Lib.hid (show Bx w' wr.heap.size 27 [.string yo,.string ynm,.slice yA yl ycap,.int .i64 yp]from(hg.block wr.heap.size (HBX1.out.below lk).lt (by simp[Value.ownBlock];omega)).trans (HBX1.out.below lk))
          have HOW2:=Lib.hid ho
          have HB2:=Lib.hid (Below.grown (below_t HB1.out lk) hg (below_t HB1.out lk).size (fun k hk=>own_geF hk (by omega)))
          clear ho hg lk))
      go_wp2
      go_roundw
      case rel=>exact⟨_,_,k+1,by go_num,HRel.out,by rw[HLR.out];have:=HQ3.out;omega,(fun z hz=>(List.mem_append.1 hz).elim (okl_kids HOY.out z) (HOR.out z)),HA2.out,HPU.out,by rw[HLR.out];exact HOW2.out,HB2.out⟩
      case measure=>simp[intOf];omega
theorem nis_any{x:Fo}(hx:OkF x){v:FV}{S:Nat->Prop}(w:World)(h:FS w 27 S x v.c)(hT:x.size<=65536):Calls Tryz.prog 37 #[.agg #[.string v.o,.string v.nm,.slice v.A v.ll v.cap,.int .i64 v.p]] w (BoolP (isN x) w):=by
 have HC:=Lib.hid (show Calls Tryz.prog 53 #[.agg #[.string v.o,.string v.nm,.slice v.A v.ll v.cap,.int .i64 v.p],.func (.func 61) #[] #[]] (w.alloc (.cells #[.string v.o,.string v.nm,.slice v.A v.ll v.cap,.int .i64 v.p] 27)) (BoolP (isN x) (w.alloc (.cells #[.string v.o,.string v.nm,.slice v.A v.ll v.cap,.int .i64 v.p] 27)))from all_nr1 x hx▸aren_any _ (h.alloc _) hx hT)
 clear h hx hT
 go_enter Tryz.func37,Tryz.ntmps37
 go_wp2_with fail
 with_reducible refine(HC.out).mono ?_
 rintro e w1 ⟨rfl,hb⟩
 have HB:=Lib.hid (below_t (below_alloc _ _) hb)
 clear hb
 go_wp2
 go_ret
 exact⟨rfl,HB.out⟩
theorem nrt_all{x:Fo}(hx:OkF x):allF nrt x=true:=all_true (fun _ _=>rfl) x hx
end Go.Proofs.YtmgjpjjglghbaaaGreatDoor
