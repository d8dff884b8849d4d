import Derived.Test.YtmgjpjjglghbaaaGreatDoorc0
import Derived.Test.YtmgjpjjglghbaaaGreatDoora5
import Derived.Test.YtmgjpjjglghbaaaGreatDoorb7
import Derived.Deep.RegionLaw
import Derived.Deep.AppendLies
import Derived.Deep.RegionHeld3
import Derived.Test.YtmgjpjjglghbaaaGreatDoorb2
namespace Go.Proofs.YtmgjpjjglghbaaaGreatDoor
set_option maxHeartbeats 16000000
set_option maxRecDepth 100000
section
section
open Go.RowKit Go.Sort Go.Maps
theorem isl_bx{w:World}{q:Nat}{t:TypeId}{l:List Int}(h:Bx w q t (l.map iv)):ISl w (some ⟨q,0,none⟩) l:=fun i hi=>by
 refine⟨q,0,rfl,?_⟩
 rw[Nat.zero_add,h.cell i,List.getElem?_map,List.getElem?_eq_getElem hi];rfl
end
section
open Go.RowKit Go.Sort Go.Lib
def USl(w:World)(A:Option Addr)(l:List Int):Prop:=∀i (hi:i<l.length),∃g o,A=some ⟨g,o,none⟩/\w.cell? ⟨g,o+i,none⟩=some (.int .u8 l[i])/\0<=l[i]/\l[i]<=255
theorem USl.below{w w':World}{A:Option Addr}{l:List Int}(h:USl w A l)(hb:Below w.heap.size w w'):USl w' A l:=fun i hi=>by
 obtain⟨g,o,h1,h2,h3⟩:=h i hi
 exact⟨g,o,h1,cell_blw hb h2,h3⟩
theorem own_neW{w:World}{lo k:Nat}{e:TypeId}{sz n:Nat}{v:Value}{cs:List Value}(h:w.ownsRow lo e sz v n cs)(hk:k<lo):some k≠v.ownBlock:=by
 intro e1
 have:=(h.lt k e1.symm).1
 omega
def GW(s:List Int):Prop:=∀x∈s,0<=x/\x<8
structure Upd(w0:World)(q:Nat)(wr:World):Prop where
 os:wr.os=w0.os
 tape:wr.tape=w0.tape
 output:wr.output=w0.output
 size:w0.heap.size<=wr.heap.size
 block:∀j,j<w0.heap.size->j≠q->wr.heap[j]?=w0.heap[j]?
theorem Upd.below{w w0 wr:World}{q:Nat}(h:Upd w0 q wr)(hb:Below w.heap.size w w0)(hq:w.heap.size<=q):Below w.heap.size w wr:=⟨h.os.trans hb.os,h.tape.trans hb.tape,h.output.trans hb.output,by have:=hb.size;have:=h.size;omega,fun j hj=>(h.block j (by have:=hb.size;omega) (by omega)).trans (hb.block j hj)⟩
theorem isl_set1{W:World}{q n:Nat}{P:Option Addr}{l:List Int}{u:Value}(h:ISl W P l)(hq:∀g o,P=some ⟨g,o,none⟩->q≠g):ISl (W.setCell ⟨q,n,none⟩ u) P l:=fun i hi=>by
 obtain⟨g,o,h1,h2⟩:=h i hi
 have hne:=hq g o h1
 refine⟨g,o,h1,?_⟩
 rw[World.cell?_setCell_other _ _ _ _ (by first | (simp;done) | (simp;omega))]
 exact h2
def WRl(w0:World)(q:Nat)(f:Value->List Value)(N:Nat)(i:Value)(wr:World):Prop:=
 ∃(k:Nat) (A:Option Addr) (cap:Nat) (s:List Int),i= .int .i64 (k:Int)/\s.length=k/\k<=N/\k<=8/\GW s/\Bx wr q 42 (f (.slice A k cap))/\wr.ownsRow w0.heap.size 3 1 (.slice A k cap) k (s.map iv)/\Upd w0 q wr
theorem wr_step{w0 wr w5:World}{q N k n:Nat}{A:Option Addr}{cap cap5 g5:Nat}{s:List Int}{f:Value->List Value}{L:List Value}{x v:Int}{ob:Obj}(hv:v=(k:Int)+1)(hq:q<w0.heap.size)(hkN:k<N)(hk8:k<8)(hg:GW s)(hx:0<=x/\x<8)(hlen:s.length=k)
 (hU:Upd w0 q wr) (hO:wr.ownsRow w0.heap.size 3 1 (.slice A k cap) k (s.map iv)) (hO5:w5.ownsRow w0.heap.size 3 1 (.slice (some ⟨g5,0,none⟩) (k+1) cap5) (k+1) (s.map iv++[iv x])) (hg5:(wr.drew.alloc ob).grownBy w5 (Value.slice A k cap).ownBlock)
 (hB5:Bx w5 q 42 L) (hs:L.set n (.slice (some ⟨g5,0,none⟩) (k+1) cap5)=f (.slice (some ⟨g5,0,none⟩) (k+1) cap5)):
 WRl w0 q f N (.int .i64 v) (w5.setCell ⟨q,n,none⟩ (.slice (some ⟨g5,0,none⟩) (k+1) cap5)):=by
 subst hv
 have hz:=hU.size
 have hz5:wr.heap.size+1<=w5.heap.size:=by have:=hg5.size;simpa using this
 refine⟨k+1,some ⟨g5,0,none⟩,cap5,s++[x],by go_num,by simp[hlen],hkN,hk8,fun y hy=>?_,?_,?_,?_⟩
 · rcases List.mem_append.1 hy with hy | hy
   · exact hg y hy
   · rw[List.mem_singleton.1 hy];exact hx
 · rw[<- hs];exact hB5.set n _
 · rw[List.map_append]
   refine World.ownsRow.kept (w:=w5) (row:=some q) (w':=w5.setCell ⟨q,n,none⟩ (.slice (some ⟨g5,0,none⟩) (k+1) cap5)) hO5 ⟨rfl,rfl,rfl,by simp,fun k _ hn=>Below.heap_setCell w5 ⟨q,n,none⟩ _ k (fun e=>hn (by rw[e]))⟩ (.inr ?_)
   intro e
   have:=(hO5.lt g5 rfl).1
   have:g5=q:=by simpa[Value.ownBlock]using e
   omega
 · refine⟨hg5.os.trans hU.os,hg5.tape.trans hU.tape,hg5.output.trans hU.output,by simp;omega,fun j hj hn=>?_⟩
   rw[Below.heap_setCell w5 ⟨q,n,none⟩ _ j hn,hg5.block j (by simp;omega) (fun e=>by have:=(hO.lt j e.symm).1;omega),Below.heap_alloc _ ob j (by simp;omega)]
   exact hU.block j hj hn
def WdP(w:World)(e:Ending)(w':World):Prop:=∃s l,GW s/\GW l/\l≠[]/\s.length<=8/\l.length<=8/\LaP s l w e w'
theorem word_any{A B:Option Addr}{a b:List Int}{ac bc N M:Nat}(w:World)(hA:USl w A a)(hB:USl w B b)(hN:a.length=N)(hM:b.length=M):
 Calls Tryz.prog 21 #[.slice A N ac,.slice B M bc,.int .i64 3] w (WdP w):=by
 obtain⟨i0,hi0,hz⟩:=Option.map_eq_some_iff.1 infoI
 simp only[Prod.mk.injEq]at hz
 obtain⟨hz0,hz1,hz2⟩:=hz
 have HI:=Lib.hid hi0
 have HZ0:=Lib.hid hz0
 have HZ1:=Lib.hid hz1
 have HZ2:=Lib.hid hz2
 have HA:=Lib.hid hA
 have HB:=Lib.hid hB
 have HN:=Lib.hid hN
 have HM:=Lib.hid hM
 clear hi0 hz0 hz1 hz2 hA hB hN hM
 go_enter Tryz.func21,Tryz.ntmps21
 go_wp2
 go_loopw [8] (fun i wr=>WRl ((w.alloc (.cells #[.slice none 0 0,.slice none 0 0] 42)).alloc (.cells #[.slice none 0 0,.slice none 0 0] 42)) (w.heap.size+1) (fun v=>[v,.slice none 0 0]) N i wr) (fun i _=>N - (intOf i).toNat)
 case atStart=>
  refine⟨0,none,0,[],rfl,rfl,Nat.zero_le _,Nat.zero_le _,(fun x (hx:x∈([]:List Int))=>nomatch hx),?_,World.ownsRow_nil _ _ _ _,⟨rfl,rfl,rfl,Nat.le_refl _,fun _ _ _=>rfl⟩⟩
  exact Bx.newAt (w:=w.alloc (.cells #[.slice none 0 0,.slice none 0 0] 42)) (by simp) 42 [.slice none 0 0,.slice none 0 0]
 case round=>
  obtain⟨k,P,cap,s,rfl,hs,hk,hk8,hg,hX,hO,hU⟩:=hrel
  by_cases hlt:k<N/\k<8
  · have e1:decide ((k:Int)<(N:Int))=true:=by simp;omega
    have e2:decide ((k:Int)<8)=true:=by simp;omega
    have e1':decide (k<N)=true:=by simp;omega
    have e2':decide (k<8)=true:=by simp;omega
    have hbw:Below w.heap.size w wr:=hU.below (below_t (below_alloc _ _) (below_alloc _ _)) (Nat.le_succ _)
    obtain⟨g,o,rfl,hc,hb0,hb1⟩:=(HA.out.below hbw) k (by rw[HN.out];exact hlt.1)
    obtain⟨x,hx⟩:∃x,x=a[k]'(by rw[HN.out];exact hlt.1):=⟨_,rfl⟩
    rw[<- hx]at hc hb0 hb1
    have d0:=hX.cell 0
    simp only[List.getElem?_cons_zero]at d0
    have f0:=hX.frozen 0
    have hql:=hX.lt
    have HX:=Lib.hid hX
    have HO:=Lib.hid hO
    have HU:=Lib.hid hU
    have HG:=Lib.hid hg
    have HS:=Lib.hid hs
    clear hX hO hU hg hx hs
    go_wp2_with fail
    have c1:IntKind.u64.wrap 3=3:=by decide
    have c2:IntKind.i64.wrap (2 ^ min (Int.toNat 3) 64)=8:=by decide
    have c5:IntKind.i64.wrap 8=8:=by decide
    have c3:IntKind.i64.wrap x=x:=by rw[IntKind.wrap_i64];omega
    obtain⟨y,hy⟩:∃y,y=x.tmod 8:=⟨_,rfl⟩
    have hy0:0<=y/\y<8:=by rw[hy,Int.tmod_eq_emod_of_nonneg hb0];omega
    have c4:x.tmod 8=y:=hy.symm
    clear hy
    go_region_law (first
     | (refine step_append_lies (wr.drew.alloc (.cells #[.int .i64 y] 3)) rfl (.tmp 22) (.tmp 32) 23 rfl ((w.alloc (.cells #[.slice none 0 0,.slice none 0 0] 42)).alloc (.cells #[.slice none 0 0,.slice none 0 0] 42)).heap.size 3 i0 (.int .i64 0) 1 8 Tryz.underlying23 HI.out HZ0.out HZ1.out HZ2.out rfl (by decide) (.slice P k cap) k (s.map iv) ?_ ?_ ⟨wr.heap.size,0,none⟩ 1 1 [iv y] ?_ rfl ?_ ?_ (by omega) (by unfold maxLen;omega) (by omega) ?_ (wr.heap.size+1) (by simp) ?_
        · simp[Act.eval]
        · exact owns_blw HO.out (below_t (Below.refl _ _).drew (below_alloc _ _))
        · simp[Act.eval]
        · exact Go.World.news_of_block (cs:= #[.int .i64 y]) (heap_alloc_new wr.drew _)
        · exact iv_one [y]
        · have:=HU.out.size;simp at this;simp;omega
        intro g5 cap5 w5 ho5 hg5 hat5 hlt5
        have hb5:Bx w5 (w.heap.size+1) 42 [.slice P k cap,.slice none 0 0]:=(hg5.block (w.heap.size+1) (by simp;omega) (own_neW HO.out (by simp;try omega))).trans ((HX.out.below (Below.refl _ _).drew).alloc _)
        have d0:=hb5.cell 0
        simp only[List.getElem?_cons_zero]at d0
        have f0:=hb5.frozen 0
        have hql5:=hb5.lt
        have HB5:=Lib.hid hb5
        have HG5:=Lib.hid hg5
        have HO5:=Lib.hid ho5
        clear hb5 hg5 ho5 hat5))
    all_goals
     have HRL:=Lib.hid (wr_step (v:=(k:Int)+1) (x:=y) (n:=0) (f:=fun v=>[v,.slice none 0 0]) rfl (by simp) hlt.1 hlt.2 HG.out hy0 HS.out HU.out HO.out HO5.out HG5.out HB5.out rfl)
     go_wp2
     go_roundw
     case rel=>exact HRL.out
     case measure=>simp[intOf];omega
  · have hbw:Below w.heap.size w wr:=hU.below (below_t (below_alloc _ _) (below_alloc _ _)) (Nat.le_succ _)
    have hzr:Bx wr w.heap.size 42 [.slice none 0 0,.slice none 0 0]:=by
     have h1:=hU.block w.heap.size (by simp;omega) (by omega)
     exact h1.trans ((Bx.new w 42 [.slice none 0 0,.slice none 0 0]).alloc _)
    have HP:=Lib.hid hO
    have HX1:=Lib.hid hX
    have HW1:=Lib.hid hbw
    have HZR:=Lib.hid hzr
    have HG1:=Lib.hid hg
    have HS1:=Lib.hid hs
    have hul:=hU.size
    simp only[World.size_alloc]at hul
    have hst:(decide ((k:Int)<(N:Int))=false/\decide (k<N)=false)∨(decide ((k:Int)<(N:Int))=true/\decide (k<N)=true/\decide ((k:Int)<8)=false/\decide (k<8)=false):=by
     by_cases h1:k<N
     · right
       exact⟨by simp;omega,by simp;omega,by simp;omega,by simp;omega⟩
     · left
       exact⟨by simp;omega,by simp;omega⟩
    clear hlt hX hO hU hg hs hbw hzr
    obtain⟨w1,hw1⟩:∃w1,w1=wr:=⟨_,rfl⟩
    subst hw1
    rcases hst with⟨e1,e2⟩ | ⟨e1,e2,e3,e4⟩
    all_goals
     go_wp2
     go_loopw [9] (fun i wr=>WRl w1 (w.heap.size+1) (fun v=>[.slice P k cap,v]) M i wr) (fun i _=>M - (intOf i).toNat)
     case atStart=>
      refine⟨0,none,0,[],rfl,rfl,Nat.zero_le _,Nat.zero_le _,(fun x (hx:x∈([]:List Int))=>nomatch hx),HX1.out,World.ownsRow_nil _ _ _ _,⟨rfl,rfl,rfl,Nat.le_refl _,fun _ _ _=>rfl⟩⟩
     case round=>
      obtain⟨r,R,rc,t,rfl,ht,hr,hr8,hg,hX,hO,hU⟩:=hrel
      have hbw:Below w.heap.size w wr:=hU.below HW1.out (Nat.le_succ _)
      have hul2:=hU.size
      by_cases hlt:r<M/\r<8
      · have p1:decide ((r:Int)<(M:Int))=true:=by simp;omega
        have p2:decide ((r:Int)<8)=true:=by simp;omega
        have p1':decide (r<M)=true:=by simp;omega
        have p2':decide (r<8)=true:=by simp;omega
        obtain⟨g,o,rfl,hc,hb0,hb1⟩:=(HB.out.below hbw) r (by rw[HM.out];exact hlt.1)
        obtain⟨x,hx⟩:∃x,x=b[r]'(by rw[HM.out];exact hlt.1):=⟨_,rfl⟩
        rw[<- hx]at hc hb0 hb1
        have d1:=hX.cell 1
        simp only[List.getElem?_cons_zero,List.getElem?_cons_succ]at d1
        have f1:=hX.frozen 1
        have hql:=hX.lt
        have HX:=Lib.hid hX
        have HO:=Lib.hid hO
        have HU:=Lib.hid hU
        have HG:=Lib.hid hg
        have HT:=Lib.hid ht
        clear hX hO hU hg hx ht hbw
        go_wp2_with fail
        have c1:IntKind.u64.wrap 3=3:=by decide
        have c2:IntKind.i64.wrap (2 ^ min (Int.toNat 3) 64)=8:=by decide
        have c5:IntKind.i64.wrap 8=8:=by decide
        have c3:IntKind.i64.wrap x=x:=by rw[IntKind.wrap_i64];omega
        obtain⟨y,hy⟩:∃y,y=x.tmod 8:=⟨_,rfl⟩
        have hy0:0<=y/\y<8:=by rw[hy,Int.tmod_eq_emod_of_nonneg hb0];omega
        have c4:x.tmod 8=y:=hy.symm
        clear hy
        go_region_law (first
         | (refine step_append_lies (wr.drew.alloc (.cells #[.int .i64 y] 3)) rfl (.tmp 46) (.tmp 56) 23 rfl w1.heap.size 3 i0 (.int .i64 0) 1 8 Tryz.underlying23 HI.out HZ0.out HZ1.out HZ2.out rfl (by decide) (.slice R r rc) r (t.map iv) ?_ ?_ ⟨wr.heap.size,0,none⟩ 1 1 [iv y] ?_ rfl ?_ ?_ (by omega) (by unfold maxLen;omega) (by omega) ?_ (wr.heap.size+1) (by simp) ?_
            · simp[Act.eval]
            · exact owns_blw HO.out (below_t (Below.refl _ _).drew (below_alloc _ _))
            · simp[Act.eval]
            · exact Go.World.news_of_block (cs:= #[.int .i64 y]) (heap_alloc_new wr.drew _)
            · exact iv_one [y]
            · have:=HU.out.size;simp;omega
            intro g5 cap5 w5 ho5 hg5 hat5 hlt5
            have hb5:Bx w5 (w.heap.size+1) 42 [.slice P k cap,.slice R r rc]:=(hg5.block (w.heap.size+1) (by simp;omega) (own_neW HO.out (by omega))).trans ((HX.out.below (Below.refl _ _).drew).alloc _)
            have d1:=hb5.cell 1
            simp only[List.getElem?_cons_zero,List.getElem?_cons_succ]at d1
            have f1:=hb5.frozen 1
            have hql5:=hb5.lt
            have HB5:=Lib.hid hb5
            have HG5:=Lib.hid hg5
            have HO5:=Lib.hid ho5
            clear hb5 hg5 ho5 hat5))
        all_goals
         have HRL:=Lib.hid (wr_step (v:=(r:Int)+1) (x:=y) (n:=1) (f:=fun v=>[.slice P k cap,v]) rfl (by omega) hlt.1 hlt.2 HG.out hy0 HT.out HU.out HO.out HO5.out HG5.out HB5.out rfl)
         go_wp2
         go_roundw
         case rel=>exact HRL.out
         case measure=>simp[intOf];omega
      · have hzr2:Bx wr w.heap.size 42 [.slice none 0 0,.slice none 0 0]:=(hU.block w.heap.size (by omega) (by omega)).trans HZR.out
        have hP2:=World.ownsRow.kept (w:=w1) (w':=wr) (row:=some (w.heap.size+1)) HP.out ⟨hU.os,hU.tape,hU.output,hU.size,fun j hj hn=>hU.block j hj (fun e=>hn (by rw[e]))⟩ (.inr (fun e=>own_neW HP.out (k:=w.heap.size+1) (by simp) e.symm))
        have hPf:=own_far hP2
        have hRf:=own_far hO
        obtain⟨P',c',hpe,hPc,hPi,_⟩:=isl_owns hP2
        injection hpe with hpe1 _ hpe2
        subst hpe1 hpe2
        obtain⟨R',c2,hre,hRc,hRi,_⟩:=isl_owns hO
        injection hre with hre1 _ hre2
        subst hre1 hre2
        simp only[World.size_alloc]at hPf
        have a0:=hX.cell 0
        have a1:=hX.cell 1
        have b0:=hzr2.cell 0
        have b1:=hzr2.cell 1
        simp only[List.getElem?_cons_zero,List.getElem?_cons_succ]at a0 a1 b0 b1
        have af1:=hX.frozen 1
        have bf0:=hzr2.frozen 0
        have bf1:=hzr2.frozen 1
        have al:=hX.lt
        have bl:=hzr2.lt
        have hst2:(decide ((r:Int)<(M:Int))=false/\decide (r<M)=false)∨(decide ((r:Int)<(M:Int))=true/\decide (r<M)=true/\decide ((r:Int)<8)=false/\decide (r<8)=false):=by
         by_cases h1:r<M
         · right
           exact⟨by simp;omega,by simp;omega,by simp;omega,by simp;omega⟩
         · left
           exact⟨by simp;omega,by simp;omega⟩
        by_cases hr0:r=0
        · have hM0:M=0:=by omega
          subst hr0 hM0
          have hfin:WdP w (.returned (.agg #[.slice P k cap,.slice (some ⟨wr.heap.size,0,none⟩) 1 1])) ((((wr.setCell ⟨w.heap.size+1,1,none⟩ (.slice (some ⟨wr.heap.size,0,none⟩) 1 1)).setCell ⟨w.heap.size,0,none⟩ (.slice P k cap)).setCell ⟨w.heap.size,1,none⟩ (.slice (some ⟨wr.heap.size,0,none⟩) 1 1)).alloc (.cells #[.int .i64 0] 3)):=by
           refine⟨s,[0],HG1.out,fun y hy=>by rw[List.mem_singleton.1 hy];omega,by simp,by rw[HS1.out];exact hk8,by simp,P,k,cap,_,1,1,rfl,HS1.out,rfl,⟨?_,?_⟩,hPc,⟨Nat.le_refl _,fun h=>by cases h⟩,?_⟩
           · refine ISl.below (isl_set2 (q:=w.heap.size) (isl_set1 (q:=w.heap.size+1) hPi (fun g o e=>?_)) (fun g o e=>?_)) (below_alloc _ _)
             · have:=hPf g o e;omega
             · have:=hPf g o e;omega
           · exact isl_bx (t:=3) (Bx.newAt (by simp) 3 (([0]:List Int).map iv))
           · exact below_t (below_set2 (hbw.setCell (p:=⟨w.heap.size+1,1,none⟩) (Nat.le_succ _) _) (Nat.le_refl _)) (below_alloc _ _)
          have HF:=Lib.hid hfin
          have hy:=la_set (u0:=.slice P k cap) (u1:=.slice (some ⟨wr.heap.size,0,none⟩) 1 1) (hzr2.far (p:=⟨w.heap.size+1,1,none⟩) (by simp) (.slice (some ⟨wr.heap.size,0,none⟩) 1 1))
          replace hy:=hy.alloc (.cells #[.int .i64 0] 3)
          have y0:=hy.cell 0
          have y1:=hy.cell 1
          simp only[List.getElem?_cons_zero,List.getElem?_cons_succ]at y0 y1
          clear hX hO hU hg ht hbw hzr2 hP2 hPf hRf hPi hRi hPc hRc hfin hy
          rcases hst2 with⟨p1,p2⟩ | ⟨p1,p2,p3,p4⟩
          · go_wp2
            refine bodyPost_ret (v:=.agg #[.slice P k cap,.slice (some ⟨wr.heap.size,0,none⟩) 1 1]) (by simp[results,Tryz.results21,go_sem,y0,y1]) rfl HF.out
          · simp at p1
        · have d4:((r:Int)==0)=false:=by simp;omega
          have d5:¬r=0:=hr0
          have hfin:WdP w (.returned (.agg #[.slice P k cap,.slice R r rc])) ((wr.setCell ⟨w.heap.size,0,none⟩ (.slice P k cap)).setCell ⟨w.heap.size,1,none⟩ (.slice R r rc)):=by
           refine⟨s,t,HG1.out,hg,fun h=>hr0 (by rw[<- ht,h];rfl),by rw[HS1.out];exact hk8,by rw[ht];exact hr8,P,k,cap,R,r,rc,rfl,HS1.out,ht,⟨isl_set2 (q:=w.heap.size) hPi (fun g o e=>?_),isl_set2 (q:=w.heap.size) hRi (fun g o e=>?_)⟩,hPc,hRc,below_set2 hbw (Nat.le_refl _)⟩
           · have:=hPf g o e;omega
           · have:=hRf g o e;omega
          have HF:=Lib.hid hfin
          have hy:=la_set (u0:=.slice P k cap) (u1:=.slice R r rc) hzr2
          have y0:=hy.cell 0
          have y1:=hy.cell 1
          simp only[List.getElem?_cons_zero,List.getElem?_cons_succ]at y0 y1
          clear hX hO hU hg ht hbw hzr2 hP2 hPf hRf hPi hRi hPc hRc hfin hy
          rcases hst2 with⟨p1,p2⟩ | ⟨p1,p2,p3,p4⟩
          all_goals
           go_wp2
           refine bodyPost_ret (v:=.agg #[.slice P k cap,.slice R r rc]) (by simp[results,Tryz.results21,go_sem,y0,y1]) rfl HF.out
end
end
section
section
open Go.RowKit Go.Sort Go.Maps
theorem wR_nms{s l:List Int}(h0:l≠[])(h1:s.length+l.length<=64)(h2:∀x∈s,0<=x/\x<8)(h3:∀x∈l,0<=x/\x<8):wR NMS s l:=by
 refine⟨by decide,by decide,h0,h1,fun c hc=>?_,fun c hc=>?_⟩
 · have:=h2 c hc
   exact⟨this.1,this.2⟩
 · have:=h3 c hc
   exact⟨this.1,this.2⟩
end
section
open Go.RowKit Go.Sort Go.Maps
theorem PFQ.yes{f:Fo}{w w':World}{e:Ending}(h:PFQ (.ok f) w e w'):∃v:FV,e= .returned (.tuple #[.agg #[.string v.o,.string v.nm,.slice v.A v.ll v.cap,.int .i64 v.p],.nilIface])/\FS w' 27 TT f v.c/\Below w.heap.size w w':=by
 obtain⟨v,h1,h2,h3⟩:=h
 exact⟨v,h1,FS.wide (fun _ _ _=>trivial) h2,h3⟩
theorem PFQ.no{c p:Nat}{w w':World}{e:Ending}(h:PFQ (.er c p) w e w'):∃b,e= .returned (.tuple #[.agg #[.string ⟨#[]⟩,.string ⟨#[]⟩,.slice none 0 0,.int .i64 0],.iface 190 (.pointer (some ⟨b,0,none⟩))])/\Below w.heap.size w w':=by
 obtain⟨b,h1,_,h3⟩:=h
 exact⟨b,h1,h3⟩
structure FB(W:World)(q:Nat)(x:Fo)(v:FV):Prop where
 bx:Bx W q 27 [.string v.o,.string v.nm,.slice v.A v.ll v.cap,.int .i64 v.p]
 fs:FS W 27 TT x v.c
theorem FB.below{w w':World}{q:Nat}{x:Fo}{v:FV}(h:FB w q x v)(hb:Below w.heap.size w w'):FB w' q x v:=⟨h.bx.below hb,h.fs.below hb⟩
theorem FB.new{w:World}{x:Fo}{v:FV}(h:FS w 27 TT x v.c):FB (w.alloc (.cells #[.string v.o,.string v.nm,.slice v.A v.ll v.cap,.int .i64 v.p] 27)) w.heap.size x v:=⟨Bx.new w 27 [.string v.o,.string v.nm,.slice v.A v.ll v.cap,.int .i64 v.p],h.alloc _⟩
structure WB(W:World)(q:Nat)(A:Option Addr)(n sc:Nat)(B:Option Addr)(m lc:Nat)(s l:List Int):Prop where
 bx:Bx W q 42 [.slice A n sc,.slice B m lc]
 wm:WM W A B s l
 hn:s.length=n
 hm:l.length=m
 c1:CapOk A n sc
 c2:CapOk B m lc
 n6:n<=1000
 m6:m<=1000
theorem WB.below{w w':World}{q:Nat}{A:Option Addr}{n sc:Nat}{B:Option Addr}{m lc:Nat}{s l:List Int}(h:WB w q A n sc B m lc s l)(hb:Below w.heap.size w w'):WB w' q A n sc B m lc s l:=⟨h.bx.below hb,h.wm.below hb,h.hn,h.hm,h.c1,h.c2,h.n6,h.m6⟩
section
variable {w W W':World} {f g:Fo} {vf vg:FV} {qf qg q:Nat} {A:Option Addr} {n sc:Nat} {B:Option Addr} {m lc:Nat} {s l:List Int}
def HvP(u:Bool)(w:World)(e:Ending)(w':World):Prop:=e= .returned (.tuple #[.bool u,.nilIface])/\Below w.heap.size w w'
theorem WB.holds{x:Fo}{v:FV}{N:Option Addr}{nc:Nat}{u:Bool}{S:Nat->Prop}(h:WB W q A n sc B m lc s l)(hN:SSl W N NMS)(hx:FS W 27 S x v.c)(ho:OkF x)(hz:x.size<=4096)(hr:wR NMS s l)(hd:hdO NMS x=true)(hu:u=hv NMS (wl s l) x):
 Calls Tryz.prog 20 #[.agg #[.string v.o,.string v.nm,.slice v.A v.ll v.cap,.int .i64 v.p],.slice N 3 nc,.agg #[.slice A n sc,.slice B m lc]] W (HvP u W):=by
 obtain⟨_,wm,rfl,rfl,c1,c2,n6,m6⟩:=h
 refine(holds_any (nms:=NMS) (nc:=nc) (v:=v) W hN wm c1 c2 (by decide) (by omega) (by omega) hx ho hz).mono ?_
 rintro e w1 ⟨rfl,hb⟩
 refine⟨?_,hb⟩
 rw[tu_nil hr hd,hu]
 have:hoV NMS s l x=hv NMS (wl s l) x:=by
  rw[Bool.eq_iff_iff]
  unfold hoV
  rw[@decide_eq_true_iff _ (Classical.propDecidable _)]
  exact⟨fun h=>h.2,fun h=>⟨hr,h⟩⟩
 rw[this]
end
end
end
end Go.Proofs.YtmgjpjjglghbaaaGreatDoor
