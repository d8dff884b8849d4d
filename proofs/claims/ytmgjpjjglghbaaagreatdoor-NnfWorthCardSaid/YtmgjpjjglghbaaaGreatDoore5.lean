import Derived.Test.YtmgjpjjglghbaaaGreatDoore3
import Derived.Deep.CutBlock
import Derived.Deep.LoopGhost
namespace Go.Proofs.YtmgjpjjglghbaaaGreatDoor
set_option maxHeartbeats 16000000
set_option maxRecDepth 100000
open Go.RowKit
theorem nsm_bin_or{op:List UInt8}{a b:Fo}{pp:Nat}(ha:NsC a)(hbb:NsC b)(hop:op=[124]):NsC (.bin op a b pp):=by
 intro lo hi v w h hh
 obtain⟨g,m,cap0,ca,cb,hc,hg,hcap,hB,hA,hA2⟩:=h
 obtain⟨va,rfl, -⟩:=hA.fv
 obtain⟨vb,rfl, -⟩:=hA2.fv
 obtain⟨o,nm',A,ll,cap,p⟩:=v
 simp only[FV.c,strV,List.cons.injEq,Value.string.injEq,Value.slice.injEq,Value.int.injEq,true_and,and_true]at hc
 obtain⟨ho,hnm,⟨rfl,rfl,rfl⟩,hp⟩:=hc
 have t0:(o.toList==[88])=false:=by rw[ho,ByteArray.toList_eq];exact beq_eq_false_iff_ne.2 (by rw[show op=[124]from hop];decide)
 have t1:(o.toList==[38])=false:=by rw[ho,ByteArray.toList_eq];exact beq_eq_false_iff_ne.2 (by rw[show op=[124]from hop];decide)
 have t2:(o.toList==[124])=true:=by rw[ho,ByteArray.toList_eq];exact beq_iff_eq.2 hop
 have HO:=Lib.hid (And.intro ho (And.intro hnm hp))
 clear ho hnm hp
 have hgw:g<w.heap.size:=hB.lt
 have hlm:=hA.le
 have hmg:=hA2.le
 have hb0:Below w.heap.size w ((w.alloc (.cells #[.string o,.string nm',.slice (some ⟨g,0,none⟩) 2 cap,.int .i64 p] 27)).alloc (.cells #[.string ⟨#[]⟩,.string ⟨#[]⟩,.slice none 0 0,.int .i64 0] 27)):=below_t (below_alloc _ _) (below_alloc _ _)
 have hF0:Bx ((w.alloc (.cells #[.string o,.string nm',.slice (some ⟨g,0,none⟩) 2 cap,.int .i64 p] 27)).alloc (.cells #[.string ⟨#[]⟩,.string ⟨#[]⟩,.slice none 0 0,.int .i64 0] 27)) w.heap.size 27 [.string o,.string nm',.slice (some ⟨g,0,none⟩) 2 cap,.int .i64 p]:=(Bx.new w 27 [.string o,.string nm',.slice (some ⟨g,0,none⟩) 2 cap,.int .i64 p]).alloc _
 have hR0:Bx ((w.alloc (.cells #[.string o,.string nm',.slice (some ⟨g,0,none⟩) 2 cap,.int .i64 p] 27)).alloc (.cells #[.string ⟨#[]⟩,.string ⟨#[]⟩,.slice none 0 0,.int .i64 0] 27)) (w.heap.size+1) 27 fz:=Bx.newAt (by simp) 27 fz
 have hB0:=hB.below hb0
 have hA0:=hA.below hb0
 have hA20:=hA2.below hb0
 have hz0:((w.alloc (.cells #[.string o,.string nm',.slice (some ⟨g,0,none⟩) 2 cap,.int .i64 p] 27)).alloc (.cells #[.string ⟨#[]⟩,.string ⟨#[]⟩,.slice none 0 0,.int .i64 0] 27)).heap.size=w.heap.size+1+1:=by simp
 obtain⟨W0,hW0⟩:∃W,W=((w.alloc (.cells #[.string o,.string nm',.slice (some ⟨g,0,none⟩) 2 cap,.int .i64 p] 27)).alloc (.cells #[.string ⟨#[]⟩,.string ⟨#[]⟩,.slice none 0 0,.int .i64 0] 27)):=⟨_,rfl⟩
 rw[<- hW0]at hF0 hR0 hB0 hA0 hA20 hz0 hb0
 have HW0:=Lib.hid hW0
 have HZ0:=Lib.hid hz0
 have HF0:=Lib.hid hF0
 have HR0:=Lib.hid hR0
 have HB0:=Lib.hid hB0
 have HA0:=Lib.hid hA0
 have HA20:=Lib.hid hA20
 have HBL:=Lib.hid hb0
 have HAC:=Lib.hid ha
 have HBC:=Lib.hid hbb
 clear hb0 hF0 hR0 hB0 hA0 hA20 hW0 hB hA hA2 ha hbb hz0
 change Calls Tryz.prog 58 #[.agg #[.string o,.string nm',.slice (some ⟨g,0,none⟩) 2 cap,.int .i64 p]] w _
 go_enter Tryz.func58,Tryz.ntmps58
 go_upto_block 0 with fail
 rw[<- HW0.out]
 go_cut [3,4,10]from 11 to 21 (fun _ _ _ W=>B2 a b g m lo hi W0 W)
 case first=>
  go_wp2_with fail
  go_loopw [10] (fun i wr=>B2R a b g m lo hi W0 i wr) (fun i _=>2 - (intOf i).toNat)
  case atStart=>exact .inl ⟨rfl,rfl⟩
  case round=>
   rcases hrel with⟨rfl,rfl⟩ | ⟨rfl,va,vb,hBg,hIa,hIb,hfx⟩ | ⟨rfl,hU⟩
   · have hBg:=HB0.out
     have hIa:=HA0.out
     have hIb:=HA20.out
     have hfx:FxR lo hi wr wr:=Fx.refl _ _
     have HFX:=Lib.hid hfx
     have HIa:=Lib.hid hIa
     have HIb:=Lib.hid hIb
     obtain⟨c0,c1,c2,c3⟩:wr.cell? ⟨g,0,none⟩=some (.string va.o)/\wr.cell? ⟨g,1,none⟩=some (.string va.nm)/\wr.cell? ⟨g,2,none⟩=some (.slice va.A va.ll va.cap)/\wr.cell? ⟨g,3,none⟩=some (.int .i64 va.p):=⟨hBg.cell 0,hBg.cell 1,hBg.cell 2,hBg.cell 3⟩
     have hFr:=HF0.out.fxr hfx (by have:=HZ0.out;omega)
     obtain⟨k0,k1,k2,k3⟩:=hFr.cells4
     obtain⟨W1,hW1⟩:∃W,W=wr.alloc (.cells #[.string va.o,.string va.nm,.slice va.A va.ll va.cap,.int .i64 va.p] 27):=⟨_,rfl⟩
     have hb1:Below wr.heap.size wr W1:=by rw[hW1];exact below_alloc _ _
     have hK1:Bx W1 wr.heap.size 27 [.string va.o,.string va.nm,.slice va.A va.ll va.cap,.int .i64 va.p]:=by rw[hW1];exact Bx.new _ _ _
     have hws:w.heap.size+1+1<=wr.heap.size:=by have:=hfx.size;have:=HZ0.out;omega
     have HWS:=Lib.hid hws
     have HS1:=Lib.hid (show ∀W',FxR lo m W1 W'->(fun w':World=>w'.cell? ⟨w.heap.size,2,none⟩=some (.slice (some ⟨g,0,none⟩) 2 cap)/\w'.cell? ⟨wr.heap.size,0,none⟩=some (.string va.o)/\w'.cell? ⟨wr.heap.size,1,none⟩=some (.string va.nm)/\w'.cell? ⟨wr.heap.size,2,none⟩=some (.slice va.A va.ll va.cap)/\w'.cell? ⟨wr.heap.size,3,none⟩=some (.int .i64 va.p)) W' from fun W' hf=>by
      obtain⟨d0,d1,d2,d3⟩:=((hFr.below hb1).fxr hf (by omega)).cells4
      obtain⟨e0,e1,e2,e3⟩:=(hK1.fxr hf (by omega)).cells4
      exact⟨d2,e0,e1,e2,e3⟩)
     have HFR:=Lib.hid hFr
     have HBG:=Lib.hid (hBg.below hb1)
     have HK1:=Lib.hid hK1
     have HC:=Lib.hid (fun(W:World) (hf:Below W1.heap.size W1 W)=>HAC.out lo m va W ((hIa.below hb1).below hf) (by have:=hf.size;have:=hb1.size;omega))
     have HB1:=Lib.hid hb1
     have HWN:=Lib.hid hW1
     clear hb1 hK1 hW1 hws hFr hBg hIa hIb hfx
     go_wp2_with fail
     rw[<- HWN.out]
     have lk:FxR lo m W1 W1.drew:=(Fx.refl _ _).drew
     go_region_held3 (fun w'=>w'.cell? ⟨w.heap.size,2,none⟩=some (.slice (some ⟨g,0,none⟩) 2 cap)/\w'.cell? ⟨wr.heap.size,0,none⟩=some (.string va.o)/\w'.cell? ⟨wr.heap.size,1,none⟩=some (.string va.nm)/\w'.cell? ⟨wr.heap.size,2,none⟩=some (.slice va.A va.ll va.cap)/\w'.cell? ⟨wr.heap.size,3,none⟩=some (.int .i64 va.p)) (first | exact HS1.out _ lk | exact HS9.out) (first
      | (go_at_call 58
         with_reducible refine(HC.out _ (Below.refl _ _).drew).mono ?_
         rintro e w3 ⟨vk,rfl,hi3,hf3⟩
         have hlk:FxR lo m W1 w3:=lk.trans hf3
         have hg3:=HBG.out.fxr hlk (.inr (by omega))
         obtain⟨f0,f1,f2,f3⟩:w3.frozen? ⟨g,0,none⟩=false/\w3.frozen? ⟨g,1,none⟩=false/\w3.frozen? ⟨g,2,none⟩=false/\w3.frozen? ⟨g,3,none⟩=false:=⟨hg3.frozen 0,hg3.frozen 1,hg3.frozen 2,hg3.frozen 3⟩
         obtain⟨z0,z1,z2,z3⟩:w3.cell? ⟨g,0,none⟩=some (.string va.o)/\w3.cell? ⟨g,1,none⟩=some (.string va.nm)/\w3.cell? ⟨g,2,none⟩=some (.slice va.A va.ll va.cap)/\w3.cell? ⟨g,3,none⟩=some (.int .i64 va.p):=⟨hg3.cell 0,hg3.cell 1,hg3.cell 2,hg3.cell 3⟩
         have hl3:=hg3.lt
         obtain⟨-, -,d2, -⟩:=((((HFR.out.below HB1.out).fxr hlk (by have:=HZ0.out;omega)).farK (q:=g) (k:=0) (x0:=.string vk.o) (x1:=.string vk.nm) (x2:=.slice vk.A vk.ll vk.cap) (x3:=.int .i64 vk.p) (by have:=HZ0.out;omega))).cells4
         obtain⟨e0,e1,e2,e3⟩:=(((HK1.out.fxr hlk (by have:=HWS.out;omega)).farK (q:=g) (k:=0) (x0:=.string vk.o) (x1:=.string vk.nm) (x2:=.slice vk.A vk.ll vk.cap) (x3:=.int .i64 vk.p) (by have:=HWS.out;omega))).cells4
         have HS9:=Lib.hid (show(fun w':World=>w'.cell? ⟨w.heap.size,2,none⟩=some (.slice (some ⟨g,0,none⟩) 2 cap)/\w'.cell? ⟨wr.heap.size,0,none⟩=some (.string va.o)/\w'.cell? ⟨wr.heap.size,1,none⟩=some (.string va.nm)/\w'.cell? ⟨wr.heap.size,2,none⟩=some (.slice va.A va.ll va.cap)/\w'.cell? ⟨wr.heap.size,3,none⟩=some (.int .i64 va.p)) ((((w3.setCell ⟨g,0,none⟩ (.string vk.o)).setCell ⟨g,1,none⟩ (.string vk.nm)).setCell ⟨g,2,none⟩ (.slice vk.A vk.ll vk.cap)).setCell ⟨g,3,none⟩ (.int .i64 vk.p))from⟨d2,e0,e1,e2,e3⟩)
         have hfx:=HFX.out
         have hIb':=(HIb.out.below HB1.out)
         have HU:=Lib.hid (show B1 a b g m lo hi wr ((((w3.setCell ⟨g,0,none⟩ (.string vk.o)).setCell ⟨g,1,none⟩ (.string vk.nm)).setCell ⟨g,2,none⟩ (.slice vk.A vk.ll vk.cap)).setCell ⟨g,3,none⟩ (.int .i64 vk.p))from⟨vk,vb,hg3.setA,FI.setK (k:=0) hi3 (.inr (by omega)),FI.setK (k:=0) ((hIb'.fxr hlk (.inr (Nat.le_refl _)))) (.inr (Nat.le_refl _)),FxR.set4 (k:=0) (((hfx.on HB1.out).trans (hlk.wide (fun j _ hk=>⟨by omega,by omega⟩)))) (.inr ⟨by omega,hg⟩)⟩)
         replace lk:=hlk
         clear hi3 hf3 hlk hg3 d2 e0 e1 e2 e3 hfx hIb'))
     all_goals
      go_wp2
      go_roundw
      case rel=>exact .inr (.inl ⟨rfl,HU.out⟩)
      case measure=>simp[intOf]
   · have hbnd:True:=trivial
     have HFX:=Lib.hid hfx
     have HIa:=Lib.hid hIa
     have HIb:=Lib.hid hIb
     obtain⟨c0,c1,c2,c3⟩:wr.cell? ⟨g,4,none⟩=some (.string vb.o)/\wr.cell? ⟨g,5,none⟩=some (.string vb.nm)/\wr.cell? ⟨g,6,none⟩=some (.slice vb.A vb.ll vb.cap)/\wr.cell? ⟨g,7,none⟩=some (.int .i64 vb.p):=⟨hBg.cell 4,hBg.cell 5,hBg.cell 6,hBg.cell 7⟩
     have hFr:=HF0.out.fxr hfx (by have:=HZ0.out;omega)
     obtain⟨k0,k1,k2,k3⟩:=hFr.cells4
     obtain⟨W1,hW1⟩:∃W,W=wr.alloc (.cells #[.string vb.o,.string vb.nm,.slice vb.A vb.ll vb.cap,.int .i64 vb.p] 27):=⟨_,rfl⟩
     have hb1:Below wr.heap.size wr W1:=by rw[hW1];exact below_alloc _ _
     have hK1:Bx W1 wr.heap.size 27 [.string vb.o,.string vb.nm,.slice vb.A vb.ll vb.cap,.int .i64 vb.p]:=by rw[hW1];exact Bx.new _ _ _
     have hws:w.heap.size+1+1<=wr.heap.size:=by have:=hfx.size;have:=HZ0.out;omega
     have HWS:=Lib.hid hws
     have HS1:=Lib.hid (show ∀W',FxR m g W1 W'->(fun w':World=>w'.cell? ⟨w.heap.size,2,none⟩=some (.slice (some ⟨g,0,none⟩) 2 cap)/\w'.cell? ⟨wr.heap.size,0,none⟩=some (.string vb.o)/\w'.cell? ⟨wr.heap.size,1,none⟩=some (.string vb.nm)/\w'.cell? ⟨wr.heap.size,2,none⟩=some (.slice vb.A vb.ll vb.cap)/\w'.cell? ⟨wr.heap.size,3,none⟩=some (.int .i64 vb.p)) W' from fun W' hf=>by
      obtain⟨d0,d1,d2,d3⟩:=((hFr.below hb1).fxr hf (by omega)).cells4
      obtain⟨e0,e1,e2,e3⟩:=(hK1.fxr hf (by omega)).cells4
      exact⟨d2,e0,e1,e2,e3⟩)
     have HFR:=Lib.hid hFr
     have HBG:=Lib.hid (hBg.below hb1)
     have HK1:=Lib.hid hK1
     have HC:=Lib.hid (fun(W:World) (hf:Below W1.heap.size W1 W)=>HBC.out m g vb W ((hIb.below hb1).below hf) (by have:=hf.size;have:=hb1.size;omega))
     have HB1:=Lib.hid hb1
     have HWN:=Lib.hid hW1
     clear hb1 hK1 hW1 hws hFr hBg hIa hIb hfx
     go_wp2_with fail
     rw[<- HWN.out]
     have lk:FxR m g W1 W1.drew:=(Fx.refl _ _).drew
     go_region_held3 (fun w'=>w'.cell? ⟨w.heap.size,2,none⟩=some (.slice (some ⟨g,0,none⟩) 2 cap)/\w'.cell? ⟨wr.heap.size,0,none⟩=some (.string vb.o)/\w'.cell? ⟨wr.heap.size,1,none⟩=some (.string vb.nm)/\w'.cell? ⟨wr.heap.size,2,none⟩=some (.slice vb.A vb.ll vb.cap)/\w'.cell? ⟨wr.heap.size,3,none⟩=some (.int .i64 vb.p)) (first | exact HS1.out _ lk | exact HS9.out) (first
      | (go_at_call 58
         with_reducible refine(HC.out _ (Below.refl _ _).drew).mono ?_
         rintro e w3 ⟨vk,rfl,hi3,hf3⟩
         have hlk:FxR m g W1 w3:=lk.trans hf3
         have hg3:=HBG.out.fxr hlk (.inr (by omega))
         obtain⟨f0,f1,f2,f3⟩:w3.frozen? ⟨g,4,none⟩=false/\w3.frozen? ⟨g,5,none⟩=false/\w3.frozen? ⟨g,6,none⟩=false/\w3.frozen? ⟨g,7,none⟩=false:=⟨hg3.frozen 4,hg3.frozen 5,hg3.frozen 6,hg3.frozen 7⟩
         obtain⟨z0,z1,z2,z3⟩:w3.cell? ⟨g,4,none⟩=some (.string vb.o)/\w3.cell? ⟨g,5,none⟩=some (.string vb.nm)/\w3.cell? ⟨g,6,none⟩=some (.slice vb.A vb.ll vb.cap)/\w3.cell? ⟨g,7,none⟩=some (.int .i64 vb.p):=⟨hg3.cell 4,hg3.cell 5,hg3.cell 6,hg3.cell 7⟩
         have hl3:=hg3.lt
         obtain⟨-, -,d2, -⟩:=((((HFR.out.below HB1.out).fxr hlk (by have:=HZ0.out;omega)).farK (q:=g) (k:=4) (x0:=.string vk.o) (x1:=.string vk.nm) (x2:=.slice vk.A vk.ll vk.cap) (x3:=.int .i64 vk.p) (by have:=HZ0.out;omega))).cells4
         obtain⟨e0,e1,e2,e3⟩:=(((HK1.out.fxr hlk (by have:=HWS.out;omega)).farK (q:=g) (k:=4) (x0:=.string vk.o) (x1:=.string vk.nm) (x2:=.slice vk.A vk.ll vk.cap) (x3:=.int .i64 vk.p) (by have:=HWS.out;omega))).cells4
         have HS9:=Lib.hid (show(fun w':World=>w'.cell? ⟨w.heap.size,2,none⟩=some (.slice (some ⟨g,0,none⟩) 2 cap)/\w'.cell? ⟨wr.heap.size,0,none⟩=some (.string vb.o)/\w'.cell? ⟨wr.heap.size,1,none⟩=some (.string vb.nm)/\w'.cell? ⟨wr.heap.size,2,none⟩=some (.slice vb.A vb.ll vb.cap)/\w'.cell? ⟨wr.heap.size,3,none⟩=some (.int .i64 vb.p)) ((((w3.setCell ⟨g,4,none⟩ (.string vk.o)).setCell ⟨g,5,none⟩ (.string vk.nm)).setCell ⟨g,6,none⟩ (.slice vk.A vk.ll vk.cap)).setCell ⟨g,7,none⟩ (.int .i64 vk.p))from⟨d2,e0,e1,e2,e3⟩)
         have hfx:=HFX.out
         have hIa':=(HIa.out.below HB1.out)
         have HU:=Lib.hid (show B2 a b g m lo hi W0 ((((w3.setCell ⟨g,4,none⟩ (.string vk.o)).setCell ⟨g,5,none⟩ (.string vk.nm)).setCell ⟨g,6,none⟩ (.slice vk.A vk.ll vk.cap)).setCell ⟨g,7,none⟩ (.int .i64 vk.p))from⟨va,vk,hg3.setB,FI.setK (k:=4) ((hIa'.fxr hlk (.inl (Nat.le_refl _)))) (.inr (by omega)),FI.setK (k:=4) hi3 (.inr (Nat.le_refl _)),FxR.set4 (k:=4) (((hfx.on HB1.out).trans (hlk.wide (fun j _ hk=>⟨by omega,by omega⟩)))) (.inr ⟨by omega,hg⟩)⟩)
         replace lk:=hlk
         clear hi3 hf3 hlk hg3 d2 e0 e1 e2 e3 hfx hIa'))
     all_goals
      go_wp2
      go_roundw
      case rel=>exact .inr (.inr ⟨rfl,HU.out⟩)
      case measure=>simp[intOf]
   · go_wp2
     go_meet
     exact hU
 obtain⟨va,vb,hBg,hIa,hIb,hfx⟩:=hcut
 have hFc:=HF0.out.fxr hfx (by have:=HZ0.out;omega)
 have hRc:=HR0.out.fxr hfx (by have:=HZ0.out;omega)
 obtain⟨k0,k1,k2,k3⟩:=hFc.cells4
 have HSD:=Lib.hid (sides2 (o:=o) (nm':=nm') (cap:=cap) (p':=p) (a:=va) (b:=vb) wc hBg.lt (hBg.cell 0) (hBg.cell 1) (hBg.cell 2) (hBg.cell 3) (hBg.cell 4) (hBg.cell 5) (hBg.cell 6) (hBg.cell 7))
 have HBg:=Lib.hid hBg
 have HIa:=Lib.hid hIa
 have HIb:=Lib.hid hIb
 have HFX:=Lib.hid (show FxR lo hi w wc from(Fx.of HBL.out).trans hfx)
 have HFc:=Lib.hid hFc
 have HRc:=Lib.hid hRc
 clear hBg hIa hfx hFc hRc
 go_wp2_with fail
 with_reducible refine(HSD.out).mono ?_
 rintro e w4 ⟨rfl,hb4⟩
 have hk4:Below wc.heap.size wc ((w4.alloc (.cells #[.string va.o,.string va.nm,.slice va.A va.ll va.cap,.int .i64 va.p] 27)).alloc (.cells #[.string vb.o,.string vb.nm,.slice vb.A vb.ll vb.cap,.int .i64 vb.p] 27)):=below_t hb4 (below_t (below_alloc _ _) (below_alloc _ _))
 have HF4:=Lib.hid (HFc.out.below hk4)
 have HR4:=Lib.hid (HRc.out.below hk4)
 have HG4:=Lib.hid (HBg.out.below hk4)
 have HI4:=Lib.hid (HIa.out.below hk4)
 have HJ4:=Lib.hid (HIb.out.below hk4)
 have HX4:=Lib.hid (show FxR lo hi w ((w4.alloc (.cells #[.string va.o,.string va.nm,.slice va.A va.ll va.cap,.int .i64 va.p] 27)).alloc (.cells #[.string vb.o,.string vb.nm,.slice vb.A vb.ll vb.cap,.int .i64 vb.p] 27))from HFX.out.on hk4)
 obtain⟨k0,k1,k2,k3⟩:=HF4.out.cells4
 obtain⟨q0,q1,q2,q3⟩:=Bx.cells4 (show Bx ((w4.alloc (.cells #[.string va.o,.string va.nm,.slice va.A va.ll va.cap,.int .i64 va.p] 27)).alloc (.cells #[.string vb.o,.string vb.nm,.slice vb.A vb.ll vb.cap,.int .i64 vb.p] 27)) w4.heap.size 27 [.string va.o,.string va.nm,.slice va.A va.ll va.cap,.int .i64 va.p]from(Bx.new w4 27 [.string va.o,.string va.nm,.slice va.A va.ll va.cap,.int .i64 va.p]).alloc _)
 obtain⟨q4,q5,q6,q7⟩:=Bx.cells4 (show Bx ((w4.alloc (.cells #[.string va.o,.string va.nm,.slice va.A va.ll va.cap,.int .i64 va.p] 27)).alloc (.cells #[.string vb.o,.string vb.nm,.slice vb.A vb.ll vb.cap,.int .i64 vb.p] 27)) (w4.heap.size+1) 27 [.string vb.o,.string vb.nm,.slice vb.A vb.ll vb.cap,.int .i64 vb.p]from Bx.newAt (by simp) 27 [.string vb.o,.string vb.nm,.slice vb.A vb.ll vb.cap,.int .i64 vb.p])
 clear hb4 hk4 HSD HF0 HR0 HFc HRc HBg HIa HFX HB0 HA0
 by_cases e0:(smO a).op=opFalse
 · have HJN:=Lib.hid (jn_or0 (o:=o) (nm':=nm') (cap:=cap) (p':=p) ((w4.alloc (.cells #[.string va.o,.string va.nm,.slice va.A va.ll va.cap,.int .i64 va.p] 27)).alloc (.cells #[.string vb.o,.string vb.nm,.slice vb.A vb.ll vb.cap,.int .i64 vb.p] 27)) HG4.out (FS.wide (T:=fun _=>True) (fun _ _ _=>trivial) HI4.out.fs) (FS.wide (T:=fun _=>True) (fun _ _ _=>trivial) HJ4.out.fs) (eq_true e0))
   go_wp2_with fail
   with_reducible refine(HJN.out).mono ?_
   rintro e w5 ⟨rfl,hb5⟩
   have HF5:=Lib.hid (HF4.out.below hb5)
   have HR5:=Lib.hid (HR4.out.below hb5)
   have HG5:=Lib.hid (HG4.out.below hb5)
   have HI5:=Lib.hid (HI4.out.below hb5)
   have HJ5:=Lib.hid (HJ4.out.below hb5)
   have HX5:=Lib.hid (show FxR lo hi w w5 from HX4.out.on hb5)
   have HB5:=Lib.hid hb5
   obtain⟨k0,k1,k2,k3⟩:=HF5.out.cells4
   obtain⟨q0,q1,q2,q3⟩:=Bx.cells4 (show Bx w5 w4.heap.size 27 [.string va.o,.string va.nm,.slice va.A va.ll va.cap,.int .i64 va.p]from((Bx.new w4 27 [.string va.o,.string va.nm,.slice va.A va.ll va.cap,.int .i64 va.p]).alloc _).below hb5)
   obtain⟨q4,q5,q6,q7⟩:=Bx.cells4 (show Bx w5 (w4.heap.size+1) 27 [.string vb.o,.string vb.nm,.slice vb.A vb.ll vb.cap,.int .i64 vb.p]from(Bx.newAt (w:=(w4.alloc (.cells #[.string va.o,.string va.nm,.slice va.A va.ll va.cap,.int .i64 va.p] 27))) (k:=w4.heap.size+1) (by simp) 27 [.string vb.o,.string vb.nm,.slice vb.A vb.ll vb.cap,.int .i64 vb.p]).below hb5)
   clear hb5
   obtain⟨f0,f1,f2,f3⟩:=(HR5.out).frozen4
   obtain⟨z0,z1,z2,z3⟩:=(HR5.out).cells4
   have hl:=(HR5.out).lt
   obtain⟨y0,y1,y2,y3⟩:=(Bx.set4 (x0:=.string vb.o) (x1:=.string vb.nm) (x2:=.slice vb.A vb.ll vb.cap) (x3:=.int .i64 vb.p) (HR5.out)).cells4
   have HX9:=Lib.hid (FxR.set4 (k:=0) (x0:=.string vb.o) (x1:=.string vb.nm) (x2:=.slice vb.A vb.ll vb.cap) (x3:=.int .i64 vb.p) (HX5.out) (q:=w.heap.size+1) (.inl (Nat.le_succ _)))
   have HFI:=Lib.hid (show FI ((((w5.setCell ⟨(w.heap.size+1),0,none⟩ (.string vb.o)).setCell ⟨(w.heap.size+1),1,none⟩ (.string vb.nm)).setCell ⟨(w.heap.size+1),2,none⟩ (.slice vb.A vb.ll vb.cap)).setCell ⟨(w.heap.size+1),3,none⟩ (.int .i64 vb.p)) (smO (.bin op a b pp)) lo hi vb.c from(by rw[smO,smB,show op=[124]from hop,if_neg (by decide)];rw[if_pos rfl,smJ];rw[if_pos (.inl e0)];exact(HJ5.out.set4 (.inr (by omega))).mono (by omega) (by omega)))
   go_wp2
   refine bodyPost_ret (v:=.agg #[.string vb.o,.string vb.nm,.slice vb.A vb.ll vb.cap,.int .i64 vb.p]) (by simp[results,Tryz.results58,go_sem,y0,y1,y2,y3]) rfl ⟨vb,rfl,HFI.out,HX9.out⟩
 by_cases e1:(smO b).op=opTrue
 · have HJN:=Lib.hid (jn_or1 (o:=o) (nm':=nm') (cap:=cap) (p':=p) ((w4.alloc (.cells #[.string va.o,.string va.nm,.slice va.A va.ll va.cap,.int .i64 va.p] 27)).alloc (.cells #[.string vb.o,.string vb.nm,.slice vb.A vb.ll vb.cap,.int .i64 vb.p] 27)) HG4.out (FS.wide (T:=fun _=>True) (fun _ _ _=>trivial) HI4.out.fs) (FS.wide (T:=fun _=>True) (fun _ _ _=>trivial) HJ4.out.fs) (eq_false e0) (eq_true e1))
   go_wp2_with fail
   with_reducible refine(HJN.out).mono ?_
   rintro e w5 ⟨rfl,hb5⟩
   have HF5:=Lib.hid (HF4.out.below hb5)
   have HR5:=Lib.hid (HR4.out.below hb5)
   have HG5:=Lib.hid (HG4.out.below hb5)
   have HI5:=Lib.hid (HI4.out.below hb5)
   have HJ5:=Lib.hid (HJ4.out.below hb5)
   have HX5:=Lib.hid (show FxR lo hi w w5 from HX4.out.on hb5)
   have HB5:=Lib.hid hb5
   obtain⟨k0,k1,k2,k3⟩:=HF5.out.cells4
   obtain⟨q0,q1,q2,q3⟩:=Bx.cells4 (show Bx w5 w4.heap.size 27 [.string va.o,.string va.nm,.slice va.A va.ll va.cap,.int .i64 va.p]from((Bx.new w4 27 [.string va.o,.string va.nm,.slice va.A va.ll va.cap,.int .i64 va.p]).alloc _).below hb5)
   obtain⟨q4,q5,q6,q7⟩:=Bx.cells4 (show Bx w5 (w4.heap.size+1) 27 [.string vb.o,.string vb.nm,.slice vb.A vb.ll vb.cap,.int .i64 vb.p]from(Bx.newAt (w:=(w4.alloc (.cells #[.string va.o,.string va.nm,.slice va.A va.ll va.cap,.int .i64 va.p] 27))) (k:=w4.heap.size+1) (by simp) 27 [.string vb.o,.string vb.nm,.slice vb.A vb.ll vb.cap,.int .i64 vb.p]).below hb5)
   clear hb5
   obtain⟨f0,f1,f2,f3⟩:=(HR5.out).frozen4
   obtain⟨z0,z1,z2,z3⟩:=(HR5.out).cells4
   have hl:=(HR5.out).lt
   obtain⟨y0,y1,y2,y3⟩:=(Bx.set4 (x0:=.string vb.o) (x1:=.string vb.nm) (x2:=.slice vb.A vb.ll vb.cap) (x3:=.int .i64 vb.p) (HR5.out)).cells4
   have HX9:=Lib.hid (FxR.set4 (k:=0) (x0:=.string vb.o) (x1:=.string vb.nm) (x2:=.slice vb.A vb.ll vb.cap) (x3:=.int .i64 vb.p) (HX5.out) (q:=w.heap.size+1) (.inl (Nat.le_succ _)))
   have HFI:=Lib.hid (show FI ((((w5.setCell ⟨(w.heap.size+1),0,none⟩ (.string vb.o)).setCell ⟨(w.heap.size+1),1,none⟩ (.string vb.nm)).setCell ⟨(w.heap.size+1),2,none⟩ (.slice vb.A vb.ll vb.cap)).setCell ⟨(w.heap.size+1),3,none⟩ (.int .i64 vb.p)) (smO (.bin op a b pp)) lo hi vb.c from(by rw[smO,smB,show op=[124]from hop,if_neg (by decide)];rw[if_pos rfl,smJ];rw[if_pos (.inr e1)];exact(HJ5.out.set4 (.inr (by omega))).mono (by omega) (by omega)))
   go_wp2
   refine bodyPost_ret (v:=.agg #[.string vb.o,.string vb.nm,.slice vb.A vb.ll vb.cap,.int .i64 vb.p]) (by simp[results,Tryz.results58,go_sem,y0,y1,y2,y3]) rfl ⟨vb,rfl,HFI.out,HX9.out⟩
 by_cases e2:(smO b).op=opFalse
 · have HJN:=Lib.hid (jn_or2 (o:=o) (nm':=nm') (cap:=cap) (p':=p) ((w4.alloc (.cells #[.string va.o,.string va.nm,.slice va.A va.ll va.cap,.int .i64 va.p] 27)).alloc (.cells #[.string vb.o,.string vb.nm,.slice vb.A vb.ll vb.cap,.int .i64 vb.p] 27)) HG4.out (FS.wide (T:=fun _=>True) (fun _ _ _=>trivial) HI4.out.fs) (FS.wide (T:=fun _=>True) (fun _ _ _=>trivial) HJ4.out.fs) (eq_false e0) (eq_false e1) (eq_true e2))
   go_wp2_with fail
   with_reducible refine(HJN.out).mono ?_
   rintro e w5 ⟨rfl,hb5⟩
   have HF5:=Lib.hid (HF4.out.below hb5)
   have HR5:=Lib.hid (HR4.out.below hb5)
   have HG5:=Lib.hid (HG4.out.below hb5)
   have HI5:=Lib.hid (HI4.out.below hb5)
   have HJ5:=Lib.hid (HJ4.out.below hb5)
   have HX5:=Lib.hid (show FxR lo hi w w5 from HX4.out.on hb5)
   have HB5:=Lib.hid hb5
   obtain⟨k0,k1,k2,k3⟩:=HF5.out.cells4
   obtain⟨q0,q1,q2,q3⟩:=Bx.cells4 (show Bx w5 w4.heap.size 27 [.string va.o,.string va.nm,.slice va.A va.ll va.cap,.int .i64 va.p]from((Bx.new w4 27 [.string va.o,.string va.nm,.slice va.A va.ll va.cap,.int .i64 va.p]).alloc _).below hb5)
   obtain⟨q4,q5,q6,q7⟩:=Bx.cells4 (show Bx w5 (w4.heap.size+1) 27 [.string vb.o,.string vb.nm,.slice vb.A vb.ll vb.cap,.int .i64 vb.p]from(Bx.newAt (w:=(w4.alloc (.cells #[.string va.o,.string va.nm,.slice va.A va.ll va.cap,.int .i64 va.p] 27))) (k:=w4.heap.size+1) (by simp) 27 [.string vb.o,.string vb.nm,.slice vb.A vb.ll vb.cap,.int .i64 vb.p]).below hb5)
   clear hb5
   obtain⟨f0,f1,f2,f3⟩:=(HR5.out).frozen4
   obtain⟨z0,z1,z2,z3⟩:=(HR5.out).cells4
   have hl:=(HR5.out).lt
   obtain⟨y0,y1,y2,y3⟩:=(Bx.set4 (x0:=.string va.o) (x1:=.string va.nm) (x2:=.slice va.A va.ll va.cap) (x3:=.int .i64 va.p) (HR5.out)).cells4
   have HX9:=Lib.hid (FxR.set4 (k:=0) (x0:=.string va.o) (x1:=.string va.nm) (x2:=.slice va.A va.ll va.cap) (x3:=.int .i64 va.p) (HX5.out) (q:=w.heap.size+1) (.inl (Nat.le_succ _)))
   have HFI:=Lib.hid (show FI ((((w5.setCell ⟨(w.heap.size+1),0,none⟩ (.string va.o)).setCell ⟨(w.heap.size+1),1,none⟩ (.string va.nm)).setCell ⟨(w.heap.size+1),2,none⟩ (.slice va.A va.ll va.cap)).setCell ⟨(w.heap.size+1),3,none⟩ (.int .i64 va.p)) (smO (.bin op a b pp)) lo hi va.c from(by rw[smO,smB,show op=[124]from hop,if_neg (by decide)];rw[if_pos rfl,smJ];rw[if_neg (fun h=>h.elim e0 e1),if_pos (.inl e2)];exact(HI5.out.set4 (.inr (by omega))).mono (by omega) (by omega)))
   go_wp2
   refine bodyPost_ret (v:=.agg #[.string va.o,.string va.nm,.slice va.A va.ll va.cap,.int .i64 va.p]) (by simp[results,Tryz.results58,go_sem,y0,y1,y2,y3]) rfl ⟨va,rfl,HFI.out,HX9.out⟩
 by_cases e3:(smO a).op=opTrue
 · have HJN:=Lib.hid (jn_or3 (o:=o) (nm':=nm') (cap:=cap) (p':=p) ((w4.alloc (.cells #[.string va.o,.string va.nm,.slice va.A va.ll va.cap,.int .i64 va.p] 27)).alloc (.cells #[.string vb.o,.string vb.nm,.slice vb.A vb.ll vb.cap,.int .i64 vb.p] 27)) HG4.out (FS.wide (T:=fun _=>True) (fun _ _ _=>trivial) HI4.out.fs) (FS.wide (T:=fun _=>True) (fun _ _ _=>trivial) HJ4.out.fs) (eq_false e0) (eq_false e1) (eq_false e2) (eq_true e3))
   go_wp2_with fail
   with_reducible refine(HJN.out).mono ?_
   rintro e w5 ⟨rfl,hb5⟩
   have HF5:=Lib.hid (HF4.out.below hb5)
   have HR5:=Lib.hid (HR4.out.below hb5)
   have HG5:=Lib.hid (HG4.out.below hb5)
   have HI5:=Lib.hid (HI4.out.below hb5)
   have HJ5:=Lib.hid (HJ4.out.below hb5)
   have HX5:=Lib.hid (show FxR lo hi w w5 from HX4.out.on hb5)
   have HB5:=Lib.hid hb5
   obtain⟨k0,k1,k2,k3⟩:=HF5.out.cells4
   obtain⟨q0,q1,q2,q3⟩:=Bx.cells4 (show Bx w5 w4.heap.size 27 [.string va.o,.string va.nm,.slice va.A va.ll va.cap,.int .i64 va.p]from((Bx.new w4 27 [.string va.o,.string va.nm,.slice va.A va.ll va.cap,.int .i64 va.p]).alloc _).below hb5)
   obtain⟨q4,q5,q6,q7⟩:=Bx.cells4 (show Bx w5 (w4.heap.size+1) 27 [.string vb.o,.string vb.nm,.slice vb.A vb.ll vb.cap,.int .i64 vb.p]from(Bx.newAt (w:=(w4.alloc (.cells #[.string va.o,.string va.nm,.slice va.A va.ll va.cap,.int .i64 va.p] 27))) (k:=w4.heap.size+1) (by simp) 27 [.string vb.o,.string vb.nm,.slice vb.A vb.ll vb.cap,.int .i64 vb.p]).below hb5)
   clear hb5
   obtain⟨f0,f1,f2,f3⟩:=(HR5.out).frozen4
   obtain⟨z0,z1,z2,z3⟩:=(HR5.out).cells4
   have hl:=(HR5.out).lt
   obtain⟨y0,y1,y2,y3⟩:=(Bx.set4 (x0:=.string va.o) (x1:=.string va.nm) (x2:=.slice va.A va.ll va.cap) (x3:=.int .i64 va.p) (HR5.out)).cells4
   have HX9:=Lib.hid (FxR.set4 (k:=0) (x0:=.string va.o) (x1:=.string va.nm) (x2:=.slice va.A va.ll va.cap) (x3:=.int .i64 va.p) (HX5.out) (q:=w.heap.size+1) (.inl (Nat.le_succ _)))
   have HFI:=Lib.hid (show FI ((((w5.setCell ⟨(w.heap.size+1),0,none⟩ (.string va.o)).setCell ⟨(w.heap.size+1),1,none⟩ (.string va.nm)).setCell ⟨(w.heap.size+1),2,none⟩ (.slice va.A va.ll va.cap)).setCell ⟨(w.heap.size+1),3,none⟩ (.int .i64 va.p)) (smO (.bin op a b pp)) lo hi va.c from(by rw[smO,smB,show op=[124]from hop,if_neg (by decide)];rw[if_pos rfl,smJ];rw[if_neg (fun h=>h.elim e0 e1),if_pos (.inr (.inl e3))];exact(HI5.out.set4 (.inr (by omega))).mono (by omega) (by omega)))
   go_wp2
   refine bodyPost_ret (v:=.agg #[.string va.o,.string va.nm,.slice va.A va.ll va.cap,.int .i64 va.p]) (by simp[results,Tryz.results58,go_sem,y0,y1,y2,y3]) rfl ⟨va,rfl,HFI.out,HX9.out⟩
 cases e4:same (smO a) (smO b)
 · have HJN:=Lib.hid (jn_or5 (o:=o) (nm':=nm') (cap:=cap) (p':=p) ((w4.alloc (.cells #[.string va.o,.string va.nm,.slice va.A va.ll va.cap,.int .i64 va.p] 27)).alloc (.cells #[.string vb.o,.string vb.nm,.slice vb.A vb.ll vb.cap,.int .i64 vb.p] 27)) HG4.out (FS.wide (T:=fun _=>True) (fun _ _ _=>trivial) HI4.out.fs) (FS.wide (T:=fun _=>True) (fun _ _ _=>trivial) HJ4.out.fs) (eq_false e0) (eq_false e1) (eq_false e2) (eq_false e3) e4)
   go_wp2_with fail
   with_reducible refine(HJN.out).mono ?_
   rintro e w5 ⟨rfl,hb5⟩
   have HF5:=Lib.hid (HF4.out.below hb5)
   have HR5:=Lib.hid (HR4.out.below hb5)
   have HG5:=Lib.hid (HG4.out.below hb5)
   have HI5:=Lib.hid (HI4.out.below hb5)
   have HJ5:=Lib.hid (HJ4.out.below hb5)
   have HX5:=Lib.hid (show FxR lo hi w w5 from HX4.out.on hb5)
   have HB5:=Lib.hid hb5
   obtain⟨k0,k1,k2,k3⟩:=HF5.out.cells4
   obtain⟨q0,q1,q2,q3⟩:=Bx.cells4 (show Bx w5 w4.heap.size 27 [.string va.o,.string va.nm,.slice va.A va.ll va.cap,.int .i64 va.p]from((Bx.new w4 27 [.string va.o,.string va.nm,.slice va.A va.ll va.cap,.int .i64 va.p]).alloc _).below hb5)
   obtain⟨q4,q5,q6,q7⟩:=Bx.cells4 (show Bx w5 (w4.heap.size+1) 27 [.string vb.o,.string vb.nm,.slice vb.A vb.ll vb.cap,.int .i64 vb.p]from(Bx.newAt (w:=(w4.alloc (.cells #[.string va.o,.string va.nm,.slice va.A va.ll va.cap,.int .i64 va.p] 27))) (k:=w4.heap.size+1) (by simp) 27 [.string vb.o,.string vb.nm,.slice vb.A vb.ll vb.cap,.int .i64 vb.p]).below hb5)
   clear hb5
   obtain⟨f0,f1,f2,f3⟩:=(HR5.out).frozen4
   obtain⟨z0,z1,z2,z3⟩:=(HR5.out).cells4
   have hl:=(HR5.out).lt
   obtain⟨y0,y1,y2,y3⟩:=(Bx.set4 (x0:=.string o) (x1:=.string nm') (x2:=.slice (some ⟨g,0,none⟩) 2 cap) (x3:=.int .i64 p) (HR5.out)).cells4
   have HX9:=Lib.hid (FxR.set4 (k:=0) (x0:=.string o) (x1:=.string nm') (x2:=.slice (some ⟨g,0,none⟩) 2 cap) (x3:=.int .i64 p) (HX5.out) (q:=w.heap.size+1) (.inl (Nat.le_succ _)))
   have HFI:=Lib.hid (show FI ((((w5.setCell ⟨(w.heap.size+1),0,none⟩ (.string o)).setCell ⟨(w.heap.size+1),1,none⟩ (.string nm')).setCell ⟨(w.heap.size+1),2,none⟩ (.slice (some ⟨g,0,none⟩) 2 cap)).setCell ⟨(w.heap.size+1),3,none⟩ (.int .i64 p)) (smO (.bin op a b pp)) lo hi (FV.c ⟨o,nm',some ⟨g,0,none⟩,2,cap,p⟩)from(by rw[smO,smB,show op=[124]from hop,if_neg (by decide)];rw[if_pos rfl,smJ];rw[if_neg (fun h=>h.elim e0 e1),if_neg (fun h=>h.elim e2 (fun h=>h.elim e3 (by rw[e4];decide)))];rw[<- show op=[124]from hop];exact⟨g,m,cap,va.c,vb.c,by rw[HO.out.1,HO.out.2.1,HO.out.2.2];rfl,hg,hcap,HG5.out.farK (by omega),HI5.out.set4 (.inr (by omega)),HJ5.out.set4 (.inr (by omega))⟩))
   go_wp2
   refine bodyPost_ret (v:=.agg #[.string o,.string nm',.slice (some ⟨g,0,none⟩) 2 cap,.int .i64 p]) (by simp[results,Tryz.results58,go_sem,y0,y1,y2,y3]) rfl ⟨⟨o,nm',some ⟨g,0,none⟩,2,cap,p⟩,rfl,HFI.out,HX9.out⟩
 · have HJN:=Lib.hid (jn_or4 (o:=o) (nm':=nm') (cap:=cap) (p':=p) ((w4.alloc (.cells #[.string va.o,.string va.nm,.slice va.A va.ll va.cap,.int .i64 va.p] 27)).alloc (.cells #[.string vb.o,.string vb.nm,.slice vb.A vb.ll vb.cap,.int .i64 vb.p] 27)) HG4.out (FS.wide (T:=fun _=>True) (fun _ _ _=>trivial) HI4.out.fs) (FS.wide (T:=fun _=>True) (fun _ _ _=>trivial) HJ4.out.fs) (eq_false e0) (eq_false e1) (eq_false e2) (eq_false e3) e4)
   go_wp2_with fail
   with_reducible refine(HJN.out).mono ?_
   rintro e w5 ⟨rfl,hb5⟩
   have HF5:=Lib.hid (HF4.out.below hb5)
   have HR5:=Lib.hid (HR4.out.below hb5)
   have HG5:=Lib.hid (HG4.out.below hb5)
   have HI5:=Lib.hid (HI4.out.below hb5)
   have HJ5:=Lib.hid (HJ4.out.below hb5)
   have HX5:=Lib.hid (show FxR lo hi w w5 from HX4.out.on hb5)
   have HB5:=Lib.hid hb5
   obtain⟨k0,k1,k2,k3⟩:=HF5.out.cells4
   obtain⟨q0,q1,q2,q3⟩:=Bx.cells4 (show Bx w5 w4.heap.size 27 [.string va.o,.string va.nm,.slice va.A va.ll va.cap,.int .i64 va.p]from((Bx.new w4 27 [.string va.o,.string va.nm,.slice va.A va.ll va.cap,.int .i64 va.p]).alloc _).below hb5)
   obtain⟨q4,q5,q6,q7⟩:=Bx.cells4 (show Bx w5 (w4.heap.size+1) 27 [.string vb.o,.string vb.nm,.slice vb.A vb.ll vb.cap,.int .i64 vb.p]from(Bx.newAt (w:=(w4.alloc (.cells #[.string va.o,.string va.nm,.slice va.A va.ll va.cap,.int .i64 va.p] 27))) (k:=w4.heap.size+1) (by simp) 27 [.string vb.o,.string vb.nm,.slice vb.A vb.ll vb.cap,.int .i64 vb.p]).below hb5)
   clear hb5
   obtain⟨f0,f1,f2,f3⟩:=(HR5.out).frozen4
   obtain⟨z0,z1,z2,z3⟩:=(HR5.out).cells4
   have hl:=(HR5.out).lt
   obtain⟨y0,y1,y2,y3⟩:=(Bx.set4 (x0:=.string va.o) (x1:=.string va.nm) (x2:=.slice va.A va.ll va.cap) (x3:=.int .i64 va.p) (HR5.out)).cells4
   have HX9:=Lib.hid (FxR.set4 (k:=0) (x0:=.string va.o) (x1:=.string va.nm) (x2:=.slice va.A va.ll va.cap) (x3:=.int .i64 va.p) (HX5.out) (q:=w.heap.size+1) (.inl (Nat.le_succ _)))
   have HFI:=Lib.hid (show FI ((((w5.setCell ⟨(w.heap.size+1),0,none⟩ (.string va.o)).setCell ⟨(w.heap.size+1),1,none⟩ (.string va.nm)).setCell ⟨(w.heap.size+1),2,none⟩ (.slice va.A va.ll va.cap)).setCell ⟨(w.heap.size+1),3,none⟩ (.int .i64 va.p)) (smO (.bin op a b pp)) lo hi va.c from(by rw[smO,smB,show op=[124]from hop,if_neg (by decide)];rw[if_pos rfl,smJ];rw[if_neg (fun h=>h.elim e0 e1),if_pos (.inr (.inr e4))];exact(HI5.out.set4 (.inr (by omega))).mono (by omega) (by omega)))
   go_wp2
   refine bodyPost_ret (v:=.agg #[.string va.o,.string va.nm,.slice va.A va.ll va.cap,.int .i64 va.p]) (by simp[results,Tryz.results58,go_sem,y0,y1,y2,y3]) rfl ⟨va,rfl,HFI.out,HX9.out⟩
end Go.Proofs.YtmgjpjjglghbaaaGreatDoor
