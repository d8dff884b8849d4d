import Derived.Test.YtmgjpjjglghbaaaGreatDoore2
import Derived.Deep.CutBlock
import Derived.Deep.LoopGhost
namespace Go.Proofs.YtmgjpjjglghbaaaGreatDoor
set_option maxHeartbeats 16000000
set_option maxRecDepth 100000
section
open Go.RowKit
def FxR(lo hi:Nat)(w w':World):Prop:=Fx (fun k=>lo<=k/\k<hi) w w'
def NsP(x:Fo)(lo hi:Nat)(w:World)(e:Ending)(w':World):Prop:=
 ∃v:FV,e= .returned (.agg #[.string v.o,.string v.nm,.slice v.A v.ll v.cap,.int .i64 v.p])/\FI w' (smO x) lo hi v.c/\FxR lo hi w w'
def NsC(x:Fo):Prop:=∀(lo hi:Nat) (v:FV) (w:World),FI w x lo hi v.c->hi<=w.heap.size->Calls Tryz.prog 58 #[.agg #[.string v.o,.string v.nm,.slice v.A v.ll v.cap,.int .i64 v.p]] w (NsP x lo hi w)
theorem Bx.fxr{w w':World}{q lo hi:Nat}{t:TypeId}{cs:List Value}(h:Bx w q t cs)(hf:FxR lo hi w w')(hq:q<lo∨hi<=q):Bx w' q t cs:=h.fx hf (by omega)
theorem FI.fxr{w w':World}{x:Fo}{lo hi lo' hi':Nat}{c:List Value}(h:FI w x lo hi c)(hf:FxR lo' hi' w w')(hq:hi<=lo'∨hi'<=lo):FI w' x lo hi c:=h.keep fun k h1 h2 h3=>hf.block k h3 (by omega)
theorem FI.fv{w:World}{x:Fo}{lo hi:Nat}{c:List Value}(h:FI w x lo hi c):∃v:FV,c=v.c/\v.o=⟨x.op.toArray⟩:=by
 obtain⟨nm,A,l,cap,rfl⟩:=h.form
 exact⟨_,rfl,rfl⟩
theorem FxR.set4{lo hi q k:Nat}{w w':World}{x0 x1 x2 x3:Value}(h:FxR lo hi w w')(hq:w.heap.size<=q∨(lo<=q/\q<hi)):FxR lo hi w ((((w'.setCell ⟨q,k,none⟩ x0).setCell ⟨q,k+1,none⟩ x1).setCell ⟨q,k+2,none⟩ x2).setCell ⟨q,k+3,none⟩ x3):=
 (((Fx.setCell (p:=⟨q,k,none⟩) h hq x0).setCell (p:=⟨q,k+1,none⟩) hq x1).setCell (p:=⟨q,k+2,none⟩) hq x2).setCell (p:=⟨q,k+3,none⟩) hq x3
theorem Bx.farK{w:World}{r q k:Nat}{t:TypeId}{cs:List Value}{x0 x1 x2 x3:Value}(h:Bx w r t cs)(hn:r≠q):Bx ((((w.setCell ⟨q,k,none⟩ x0).setCell ⟨q,k+1,none⟩ x1).setCell ⟨q,k+2,none⟩ x2).setCell ⟨q,k+3,none⟩ x3) r t cs:=
 (((h.far (p:=⟨q,k,none⟩) hn x0).far (p:=⟨q,k+1,none⟩) hn x1).far (p:=⟨q,k+2,none⟩) hn x2).far (p:=⟨q,k+3,none⟩) hn x3
def U1(x:Fo)(g lo hi:Nat)(W0 W:World):Prop:=∃va:FV,Bx W g 27 va.c/\FI W (smO x) lo g va.c/\FxR lo hi W0 W
def U1R(x:Fo)(g lo hi:Nat)(W0:World)(i:Value)(wr:World):Prop:=(i= .int .i64 0/\wr=W0)∨(i= .int .i64 1/\U1 x g lo hi W0 wr)
theorem nsm_un_o{op:List UInt8}{a:Fo}{pp:Nat}(ha:NsC a)(hop0:op≠[88])(hop1:op≠[38])(hop2:op≠[124])(hop3:op≠[85])(hop4:op≠[82]):NsC (.un op a pp):=by
 intro lo hi v w h hh
 obtain⟨g,cap0,ca,hc,hg,hcap,hB,hA⟩:=h
 obtain⟨va,rfl, -⟩:=hA.fv
 obtain⟨o,nm',A,ll,cap,p⟩:=v
 simp only[FV.c,strV,List.cons.injEq,Value.string.injEq,Value.slice.injEq,Value.int.injEq,true_and,and_true]at hc
 obtain⟨ho,hnm,⟨rfl,rfl,rfl⟩,hp⟩:=hc
 have t0:(o.toList==[88])=false:=by rw[ho,ByteArray.toList_eq];exact beq_eq_false_iff_ne.2 hop0
 have t1:(o.toList==[38])=false:=by rw[ho,ByteArray.toList_eq];exact beq_eq_false_iff_ne.2 hop1
 have t2:(o.toList==[124])=false:=by rw[ho,ByteArray.toList_eq];exact beq_eq_false_iff_ne.2 hop2
 have t3:(o.toList==[85])=false:=by rw[ho,ByteArray.toList_eq];exact beq_eq_false_iff_ne.2 hop3
 have t4:(o.toList==[82])=false:=by rw[ho,ByteArray.toList_eq];exact beq_eq_false_iff_ne.2 hop4
 have HO:=Lib.hid (And.intro ho (And.intro hnm hp))
 clear ho hnm hp
 have hgw:g<w.heap.size:=hB.lt
 have hlg:=hA.le
 have hb0:Below w.heap.size w ((w.alloc (.cells #[.string o,.string nm',.slice (some ⟨g,0,none⟩) 1 cap,.int .i64 p] 27)).alloc (.cells #[.string ⟨#[]⟩,.string ⟨#[]⟩,.slice none 0 0,.int .i64 0] 27)):=below_t (below_alloc _ _) (below_alloc _ _)
 have hF0:Bx ((w.alloc (.cells #[.string o,.string nm',.slice (some ⟨g,0,none⟩) 1 cap,.int .i64 p] 27)).alloc (.cells #[.string ⟨#[]⟩,.string ⟨#[]⟩,.slice none 0 0,.int .i64 0] 27)) w.heap.size 27 [.string o,.string nm',.slice (some ⟨g,0,none⟩) 1 cap,.int .i64 p]:=(Bx.new w 27 [.string o,.string nm',.slice (some ⟨g,0,none⟩) 1 cap,.int .i64 p]).alloc _
 have hR0:Bx ((w.alloc (.cells #[.string o,.string nm',.slice (some ⟨g,0,none⟩) 1 cap,.int .i64 p] 27)).alloc (.cells #[.string ⟨#[]⟩,.string ⟨#[]⟩,.slice none 0 0,.int .i64 0] 27)) (w.heap.size+1) 27 fz:=Bx.newAt (by simp) 27 fz
 have hB0:=hB.below hb0
 have hA0:=hA.below hb0
 have hz0:((w.alloc (.cells #[.string o,.string nm',.slice (some ⟨g,0,none⟩) 1 cap,.int .i64 p] 27)).alloc (.cells #[.string ⟨#[]⟩,.string ⟨#[]⟩,.slice none 0 0,.int .i64 0] 27)).heap.size=w.heap.size+1+1:=by simp
 obtain⟨W0,hW0⟩:∃W,W=((w.alloc (.cells #[.string o,.string nm',.slice (some ⟨g,0,none⟩) 1 cap,.int .i64 p] 27)).alloc (.cells #[.string ⟨#[]⟩,.string ⟨#[]⟩,.slice none 0 0,.int .i64 0] 27)):=⟨_,rfl⟩
 rw[<- hW0]at hF0 hR0 hB0 hA0 hz0 hb0
 have HW0:=Lib.hid hW0
 have HZ0:=Lib.hid hz0
 have HF0:=Lib.hid hF0
 have HR0:=Lib.hid hR0
 have HB0:=Lib.hid hB0
 have HA0:=Lib.hid hA0
 have HBL:=Lib.hid hb0
 have HAC:=Lib.hid ha
 clear hb0 hF0 hR0 hB0 hA0 hW0 hB hA ha hz0
 change Calls Tryz.prog 58 #[.agg #[.string o,.string nm',.slice (some ⟨g,0,none⟩) 1 cap,.int .i64 p]] w _
 go_enter Tryz.func58,Tryz.ntmps58
 go_upto_block 0 with fail
 rw[<- HW0.out]
 go_cut [3,4,10]from 11 to 21 (fun _ _ _ W=>U1 a g lo hi W0 W)
 case first=>
  go_wp2_with fail
  go_loopw [10] (fun i wr=>U1R a g lo hi W0 i wr) (fun i _=>1 - (intOf i).toNat)
  case atStart=>exact .inl ⟨rfl,rfl⟩
  case round=>
   rcases hrel with⟨rfl,rfl⟩ | ⟨rfl,hU⟩
   · obtain⟨c0,c1,c2,c3⟩:=Bx.cells4 (show Bx wr g 27 [.string va.o,.string va.nm,.slice va.A va.ll va.cap,.int .i64 va.p]from HB0.out)
     obtain⟨k0,k1,k2,k3⟩:=HF0.out.cells4
     obtain⟨W1,hW1⟩:∃W,W=wr.alloc (.cells #[.string va.o,.string va.nm,.slice va.A va.ll va.cap,.int .i64 va.p] 27):=⟨_,rfl⟩
     have hb1:Below wr.heap.size wr W1:=by rw[hW1];exact below_alloc _ _
     have hK1:Bx W1 wr.heap.size 27 [.string va.o,.string va.nm,.slice va.A va.ll va.cap,.int .i64 va.p]:=by rw[hW1];exact Bx.new _ _ _
     have HS1:=Lib.hid (show ∀W',FxR lo g W1 W'->(W'.cell? ⟨w.heap.size,2,none⟩=some (.slice (some ⟨g,0,none⟩) 1 cap)/\W'.cell? ⟨wr.heap.size,0,none⟩=some (.string va.o)/\W'.cell? ⟨wr.heap.size,1,none⟩=some (.string va.nm)/\W'.cell? ⟨wr.heap.size,2,none⟩=some (.slice va.A va.ll va.cap)/\W'.cell? ⟨wr.heap.size,3,none⟩=some (.int .i64 va.p))from fun W' hf=>by
      obtain⟨d0,d1,d2,d3⟩:=((HF0.out.below hb1).fxr hf (by have:=HZ0.out;omega)).cells4
      obtain⟨e0,e1,e2,e3⟩:=(hK1.fxr hf (by have:=HZ0.out;omega)).cells4
      exact⟨d2,e0,e1,e2,e3⟩)
     have HBG:=Lib.hid (HB0.out.below hb1)
     have HK1:=Lib.hid hK1
     have HC:=Lib.hid (fun(W:World) (hf:Below W1.heap.size W1 W)=>HAC.out lo g va W ((HA0.out.below hb1).below hf) (by have:=hf.size;have:=hb1.size;have:=HZ0.out;omega))
     have HB1:=Lib.hid hb1
     have HWN:=Lib.hid hW1
     clear hb1 hK1 hW1
     go_wp2_with fail
     rw[<- HWN.out]
     have lk:FxR lo g W1 W1.drew:=(Fx.refl _ _).drew
     go_region_held3 (fun w'=>w'.cell? ⟨w.heap.size,2,none⟩=some (.slice (some ⟨g,0,none⟩) 1 cap)/\w'.cell? ⟨wr.heap.size,0,none⟩=some (.string va.o)/\w'.cell? ⟨wr.heap.size,1,none⟩=some (.string va.nm)/\w'.cell? ⟨wr.heap.size,2,none⟩=some (.slice va.A va.ll va.cap)/\w'.cell? ⟨wr.heap.size,3,none⟩=some (.int .i64 va.p)) (first | exact HS1.out _ lk | exact HS9.out) (first
      | (go_at_call 58
         with_reducible refine(HC.out _ (Below.refl _ _).drew).mono ?_
         rintro e w3 ⟨vb,rfl,hi3,hf3⟩
         have hlk:FxR lo g W1 w3:=lk.trans hf3
         have hg3:=HBG.out.fxr hlk (.inr (Nat.le_refl _))
         obtain⟨f0,f1,f2,f3⟩:=Bx.frozen4 (show Bx w3 g 27 [.string va.o,.string va.nm,.slice va.A va.ll va.cap,.int .i64 va.p]from hg3)
         obtain⟨z0,z1,z2,z3⟩:=Bx.cells4 (show Bx w3 g 27 [.string va.o,.string va.nm,.slice va.A va.ll va.cap,.int .i64 va.p]from hg3)
         have hl3:=hg3.lt
         obtain⟨-, -,d2, -⟩:=((((HF0.out.below HB1.out).fxr hlk (by have:=HZ0.out;omega)).farK (q:=g) (k:=0) (x0:=.string vb.o) (x1:=.string vb.nm) (x2:=.slice vb.A vb.ll vb.cap) (x3:=.int .i64 vb.p) (by have:=HZ0.out;omega))).cells4
         obtain⟨e0,e1,e2,e3⟩:=(((HK1.out.fxr hlk (by have:=HZ0.out;omega)).farK (q:=g) (k:=0) (x0:=.string vb.o) (x1:=.string vb.nm) (x2:=.slice vb.A vb.ll vb.cap) (x3:=.int .i64 vb.p) (by have:=HZ0.out;omega))).cells4
         have HS9:=Lib.hid (show(fun w':World=>w'.cell? ⟨w.heap.size,2,none⟩=some (.slice (some ⟨g,0,none⟩) 1 cap)/\w'.cell? ⟨wr.heap.size,0,none⟩=some (.string va.o)/\w'.cell? ⟨wr.heap.size,1,none⟩=some (.string va.nm)/\w'.cell? ⟨wr.heap.size,2,none⟩=some (.slice va.A va.ll va.cap)/\w'.cell? ⟨wr.heap.size,3,none⟩=some (.int .i64 va.p)) ((((w3.setCell ⟨g,0,none⟩ (.string vb.o)).setCell ⟨g,1,none⟩ (.string vb.nm)).setCell ⟨g,2,none⟩ (.slice vb.A vb.ll vb.cap)).setCell ⟨g,3,none⟩ (.int .i64 vb.p))from⟨d2,e0,e1,e2,e3⟩)
         have HU:=Lib.hid (show U1 a g lo hi wr ((((w3.setCell ⟨g,0,none⟩ (.string vb.o)).setCell ⟨g,1,none⟩ (.string vb.nm)).setCell ⟨g,2,none⟩ (.slice vb.A vb.ll vb.cap)).setCell ⟨g,3,none⟩ (.int .i64 vb.p))from⟨vb,Bx.set4 (show Bx w3 g 27 [.string va.o,.string va.nm,.slice va.A va.ll va.cap,.int .i64 va.p]from hg3),FI.set4 hi3 (.inr (Nat.le_refl _)),FxR.set4 (k:=0) (((Fx.of HB1.out).trans (hlk.wide (fun k _ hk=>⟨hk.1,by omega⟩)))) (.inr ⟨hlg,hg⟩)⟩)
         replace lk:=hlk
         clear hi3 hf3 hlk hg3 d2 e0 e1 e2 e3))
     all_goals
      go_wp2
      go_roundw
      case rel=>exact .inr ⟨rfl,HU.out⟩
      case measure=>simp[intOf]
   · go_wp2
     go_meet
     exact hU
 obtain⟨vb,hBg,hIa,hfx⟩:=hcut
 have hFc:=HF0.out.fxr hfx (by have:=HZ0.out;omega)
 have hRc:=HR0.out.fxr hfx (by have:=HZ0.out;omega)
 obtain⟨k0,k1,k2,k3⟩:=hFc.cells4
 have HSD:=Lib.hid (sides1 (o:=o) (nm':=nm') (cap:=cap) (p':=p) (a:=vb) wc hBg.lt (hBg.cell 0) (hBg.cell 1) (hBg.cell 2) (hBg.cell 3))
 have HBg:=Lib.hid hBg
 have HIa:=Lib.hid hIa
 have HFX:=Lib.hid (show FxR lo hi w wc from(Fx.of HBL.out).trans hfx)
 have HFc:=Lib.hid hFc
 have HRc:=Lib.hid hRc
 clear hBg hIa hfx hFc hRc
 go_wp2_with fail
 with_reducible refine(HSD.out).mono ?_
 rintro e w4 ⟨rfl,hb4⟩
 have hk4:Below wc.heap.size wc ((w4.alloc (.cells #[.string vb.o,.string vb.nm,.slice vb.A vb.ll vb.cap,.int .i64 vb.p] 27)).alloc (.cells #[.string ⟨#[]⟩,.string ⟨#[]⟩,.slice none 0 0,.int .i64 0] 27)):=below_t hb4 (below_t (below_alloc _ _) (below_alloc _ _))
 have HF4:=Lib.hid (HFc.out.below hk4)
 have HR4:=Lib.hid (HRc.out.below hk4)
 have HG4:=Lib.hid (HBg.out.below hk4)
 have HI4:=Lib.hid (HIa.out.below hk4)
 have HX4:=Lib.hid (show FxR lo hi w ((w4.alloc (.cells #[.string vb.o,.string vb.nm,.slice vb.A vb.ll vb.cap,.int .i64 vb.p] 27)).alloc (.cells #[.string ⟨#[]⟩,.string ⟨#[]⟩,.slice none 0 0,.int .i64 0] 27))from HFX.out.on hk4)
 obtain⟨k0,k1,k2,k3⟩:=HF4.out.cells4
 obtain⟨q0,q1,q2,q3⟩:=Bx.cells4 (show Bx ((w4.alloc (.cells #[.string vb.o,.string vb.nm,.slice vb.A vb.ll vb.cap,.int .i64 vb.p] 27)).alloc (.cells #[.string ⟨#[]⟩,.string ⟨#[]⟩,.slice none 0 0,.int .i64 0] 27)) w4.heap.size 27 [.string vb.o,.string vb.nm,.slice vb.A vb.ll vb.cap,.int .i64 vb.p]from(Bx.new w4 27 [.string vb.o,.string vb.nm,.slice vb.A vb.ll vb.cap,.int .i64 vb.p]).alloc _)
 clear hb4 hk4 HSD HF0 HR0 HFc HRc HBg HIa HFX HB0 HA0
 obtain⟨f0,f1,f2,f3⟩:=(HR4.out).frozen4
 obtain⟨z0,z1,z2,z3⟩:=(HR4.out).cells4
 have hl:=(HR4.out).lt
 obtain⟨y0,y1,y2,y3⟩:=(Bx.set4 (x0:=.string o) (x1:=.string nm') (x2:=.slice (some ⟨g,0,none⟩) 1 cap) (x3:=.int .i64 p) (HR4.out)).cells4
 have HX9:=Lib.hid (FxR.set4 (k:=0) (x0:=.string o) (x1:=.string nm') (x2:=.slice (some ⟨g,0,none⟩) 1 cap) (x3:=.int .i64 p) (HX4.out) (q:=w.heap.size+1) (.inl (Nat.le_succ _)))
 have HFI:=Lib.hid (show FI ((((((w4.alloc (.cells #[.string vb.o,.string vb.nm,.slice vb.A vb.ll vb.cap,.int .i64 vb.p] 27)).alloc (.cells #[.string ⟨#[]⟩,.string ⟨#[]⟩,.slice none 0 0,.int .i64 0] 27)).setCell ⟨(w.heap.size+1),0,none⟩ (.string o)).setCell ⟨(w.heap.size+1),1,none⟩ (.string nm')).setCell ⟨(w.heap.size+1),2,none⟩ (.slice (some ⟨g,0,none⟩) 1 cap)).setCell ⟨(w.heap.size+1),3,none⟩ (.int .i64 p)) (smO (.un op a pp)) lo hi (FV.c ⟨o,nm',some ⟨g,0,none⟩,1,cap,p⟩)from(by rw[smO,if_neg (fun h=>hop0 h.1)];exact⟨g,cap,vb.c,by rw[HO.out.1,HO.out.2.1,HO.out.2.2];rfl,hg,hcap,HG4.out.farK (by omega),HI4.out.set4 (.inr (by omega))⟩))
 go_wp2
 refine bodyPost_ret (v:=.agg #[.string o,.string nm',.slice (some ⟨g,0,none⟩) 1 cap,.int .i64 p]) (by simp[results,Tryz.results58,go_sem,y0,y1,y2,y3]) rfl ⟨⟨o,nm',some ⟨g,0,none⟩,1,cap,p⟩,rfl,HFI.out,HX9.out⟩
theorem nsm_un_xt{op:List UInt8}{a:Fo}{pp:Nat}(ha:NsC a)(hop:op=[88])(hit:isTr (smO a)=true):NsC (.un op a pp):=by
 intro lo hi v w h hh
 obtain⟨g,cap0,ca,hc,hg,hcap,hB,hA⟩:=h
 obtain⟨va,rfl, -⟩:=hA.fv
 obtain⟨o,nm',A,ll,cap,p⟩:=v
 simp only[FV.c,strV,List.cons.injEq,Value.string.injEq,Value.slice.injEq,Value.int.injEq,true_and,and_true]at hc
 obtain⟨ho,hnm,⟨rfl,rfl,rfl⟩,hp⟩:=hc
 have t0:(o.toList==[88])=true:=by rw[ho,ByteArray.toList_eq];exact beq_iff_eq.2 hop
 have HO:=Lib.hid (And.intro ho (And.intro hnm hp))
 clear ho hnm hp
 have hgw:g<w.heap.size:=hB.lt
 have hlg:=hA.le
 have hb0:Below w.heap.size w ((w.alloc (.cells #[.string o,.string nm',.slice (some ⟨g,0,none⟩) 1 cap,.int .i64 p] 27)).alloc (.cells #[.string ⟨#[]⟩,.string ⟨#[]⟩,.slice none 0 0,.int .i64 0] 27)):=below_t (below_alloc _ _) (below_alloc _ _)
 have hF0:Bx ((w.alloc (.cells #[.string o,.string nm',.slice (some ⟨g,0,none⟩) 1 cap,.int .i64 p] 27)).alloc (.cells #[.string ⟨#[]⟩,.string ⟨#[]⟩,.slice none 0 0,.int .i64 0] 27)) w.heap.size 27 [.string o,.string nm',.slice (some ⟨g,0,none⟩) 1 cap,.int .i64 p]:=(Bx.new w 27 [.string o,.string nm',.slice (some ⟨g,0,none⟩) 1 cap,.int .i64 p]).alloc _
 have hR0:Bx ((w.alloc (.cells #[.string o,.string nm',.slice (some ⟨g,0,none⟩) 1 cap,.int .i64 p] 27)).alloc (.cells #[.string ⟨#[]⟩,.string ⟨#[]⟩,.slice none 0 0,.int .i64 0] 27)) (w.heap.size+1) 27 fz:=Bx.newAt (by simp) 27 fz
 have hB0:=hB.below hb0
 have hA0:=hA.below hb0
 have hz0:((w.alloc (.cells #[.string o,.string nm',.slice (some ⟨g,0,none⟩) 1 cap,.int .i64 p] 27)).alloc (.cells #[.string ⟨#[]⟩,.string ⟨#[]⟩,.slice none 0 0,.int .i64 0] 27)).heap.size=w.heap.size+1+1:=by simp
 obtain⟨W0,hW0⟩:∃W,W=((w.alloc (.cells #[.string o,.string nm',.slice (some ⟨g,0,none⟩) 1 cap,.int .i64 p] 27)).alloc (.cells #[.string ⟨#[]⟩,.string ⟨#[]⟩,.slice none 0 0,.int .i64 0] 27)):=⟨_,rfl⟩
 rw[<- hW0]at hF0 hR0 hB0 hA0 hz0 hb0
 have HW0:=Lib.hid hW0
 have HZ0:=Lib.hid hz0
 have HF0:=Lib.hid hF0
 have HR0:=Lib.hid hR0
 have HB0:=Lib.hid hB0
 have HA0:=Lib.hid hA0
 have HBL:=Lib.hid hb0
 have HAC:=Lib.hid ha
 clear hb0 hF0 hR0 hB0 hA0 hW0 hB hA ha hz0
 change Calls Tryz.prog 58 #[.agg #[.string o,.string nm',.slice (some ⟨g,0,none⟩) 1 cap,.int .i64 p]] w _
 go_enter Tryz.func58,Tryz.ntmps58
 go_upto_block 0 with fail
 rw[<- HW0.out]
 go_cut [3,4,10]from 11 to 21 (fun _ _ _ W=>U1 a g lo hi W0 W)
 case first=>
  go_wp2_with fail
  go_loopw [10] (fun i wr=>U1R a g lo hi W0 i wr) (fun i _=>1 - (intOf i).toNat)
  case atStart=>exact .inl ⟨rfl,rfl⟩
  case round=>
   rcases hrel with⟨rfl,rfl⟩ | ⟨rfl,hU⟩
   · obtain⟨c0,c1,c2,c3⟩:=Bx.cells4 (show Bx wr g 27 [.string va.o,.string va.nm,.slice va.A va.ll va.cap,.int .i64 va.p]from HB0.out)
     obtain⟨k0,k1,k2,k3⟩:=HF0.out.cells4
     obtain⟨W1,hW1⟩:∃W,W=wr.alloc (.cells #[.string va.o,.string va.nm,.slice va.A va.ll va.cap,.int .i64 va.p] 27):=⟨_,rfl⟩
     have hb1:Below wr.heap.size wr W1:=by rw[hW1];exact below_alloc _ _
     have hK1:Bx W1 wr.heap.size 27 [.string va.o,.string va.nm,.slice va.A va.ll va.cap,.int .i64 va.p]:=by rw[hW1];exact Bx.new _ _ _
     have HS1:=Lib.hid (show ∀W',FxR lo g W1 W'->(W'.cell? ⟨w.heap.size,2,none⟩=some (.slice (some ⟨g,0,none⟩) 1 cap)/\W'.cell? ⟨wr.heap.size,0,none⟩=some (.string va.o)/\W'.cell? ⟨wr.heap.size,1,none⟩=some (.string va.nm)/\W'.cell? ⟨wr.heap.size,2,none⟩=some (.slice va.A va.ll va.cap)/\W'.cell? ⟨wr.heap.size,3,none⟩=some (.int .i64 va.p))from fun W' hf=>by
      obtain⟨d0,d1,d2,d3⟩:=((HF0.out.below hb1).fxr hf (by have:=HZ0.out;omega)).cells4
      obtain⟨e0,e1,e2,e3⟩:=(hK1.fxr hf (by have:=HZ0.out;omega)).cells4
      exact⟨d2,e0,e1,e2,e3⟩)
     have HBG:=Lib.hid (HB0.out.below hb1)
     have HK1:=Lib.hid hK1
     have HC:=Lib.hid (fun(W:World) (hf:Below W1.heap.size W1 W)=>HAC.out lo g va W ((HA0.out.below hb1).below hf) (by have:=hf.size;have:=hb1.size;have:=HZ0.out;omega))
     have HB1:=Lib.hid hb1
     have HWN:=Lib.hid hW1
     clear hb1 hK1 hW1
     go_wp2_with fail
     rw[<- HWN.out]
     have lk:FxR lo g W1 W1.drew:=(Fx.refl _ _).drew
     go_region_held3 (fun w'=>w'.cell? ⟨w.heap.size,2,none⟩=some (.slice (some ⟨g,0,none⟩) 1 cap)/\w'.cell? ⟨wr.heap.size,0,none⟩=some (.string va.o)/\w'.cell? ⟨wr.heap.size,1,none⟩=some (.string va.nm)/\w'.cell? ⟨wr.heap.size,2,none⟩=some (.slice va.A va.ll va.cap)/\w'.cell? ⟨wr.heap.size,3,none⟩=some (.int .i64 va.p)) (first | exact HS1.out _ lk | exact HS9.out) (first
      | (go_at_call 58
         with_reducible refine(HC.out _ (Below.refl _ _).drew).mono ?_
         rintro e w3 ⟨vb,rfl,hi3,hf3⟩
         have hlk:FxR lo g W1 w3:=lk.trans hf3
         have hg3:=HBG.out.fxr hlk (.inr (Nat.le_refl _))
         obtain⟨f0,f1,f2,f3⟩:=Bx.frozen4 (show Bx w3 g 27 [.string va.o,.string va.nm,.slice va.A va.ll va.cap,.int .i64 va.p]from hg3)
         obtain⟨z0,z1,z2,z3⟩:=Bx.cells4 (show Bx w3 g 27 [.string va.o,.string va.nm,.slice va.A va.ll va.cap,.int .i64 va.p]from hg3)
         have hl3:=hg3.lt
         obtain⟨-, -,d2, -⟩:=((((HF0.out.below HB1.out).fxr hlk (by have:=HZ0.out;omega)).farK (q:=g) (k:=0) (x0:=.string vb.o) (x1:=.string vb.nm) (x2:=.slice vb.A vb.ll vb.cap) (x3:=.int .i64 vb.p) (by have:=HZ0.out;omega))).cells4
         obtain⟨e0,e1,e2,e3⟩:=(((HK1.out.fxr hlk (by have:=HZ0.out;omega)).farK (q:=g) (k:=0) (x0:=.string vb.o) (x1:=.string vb.nm) (x2:=.slice vb.A vb.ll vb.cap) (x3:=.int .i64 vb.p) (by have:=HZ0.out;omega))).cells4
         have HS9:=Lib.hid (show(fun w':World=>w'.cell? ⟨w.heap.size,2,none⟩=some (.slice (some ⟨g,0,none⟩) 1 cap)/\w'.cell? ⟨wr.heap.size,0,none⟩=some (.string va.o)/\w'.cell? ⟨wr.heap.size,1,none⟩=some (.string va.nm)/\w'.cell? ⟨wr.heap.size,2,none⟩=some (.slice va.A va.ll va.cap)/\w'.cell? ⟨wr.heap.size,3,none⟩=some (.int .i64 va.p)) ((((w3.setCell ⟨g,0,none⟩ (.string vb.o)).setCell ⟨g,1,none⟩ (.string vb.nm)).setCell ⟨g,2,none⟩ (.slice vb.A vb.ll vb.cap)).setCell ⟨g,3,none⟩ (.int .i64 vb.p))from⟨d2,e0,e1,e2,e3⟩)
         have HU:=Lib.hid (show U1 a g lo hi wr ((((w3.setCell ⟨g,0,none⟩ (.string vb.o)).setCell ⟨g,1,none⟩ (.string vb.nm)).setCell ⟨g,2,none⟩ (.slice vb.A vb.ll vb.cap)).setCell ⟨g,3,none⟩ (.int .i64 vb.p))from⟨vb,Bx.set4 (show Bx w3 g 27 [.string va.o,.string va.nm,.slice va.A va.ll va.cap,.int .i64 va.p]from hg3),FI.set4 hi3 (.inr (Nat.le_refl _)),FxR.set4 (k:=0) (((Fx.of HB1.out).trans (hlk.wide (fun k _ hk=>⟨hk.1,by omega⟩)))) (.inr ⟨hlg,hg⟩)⟩)
         replace lk:=hlk
         clear hi3 hf3 hlk hg3 d2 e0 e1 e2 e3))
     all_goals
      go_wp2
      go_roundw
      case rel=>exact .inr ⟨rfl,HU.out⟩
      case measure=>simp[intOf]
   · go_wp2
     go_meet
     exact hU
 obtain⟨vb,hBg,hIa,hfx⟩:=hcut
 have hFc:=HF0.out.fxr hfx (by have:=HZ0.out;omega)
 have hRc:=HR0.out.fxr hfx (by have:=HZ0.out;omega)
 obtain⟨k0,k1,k2,k3⟩:=hFc.cells4
 have HSD:=Lib.hid (sides1 (o:=o) (nm':=nm') (cap:=cap) (p':=p) (a:=vb) wc hBg.lt (hBg.cell 0) (hBg.cell 1) (hBg.cell 2) (hBg.cell 3))
 have HBg:=Lib.hid hBg
 have HIa:=Lib.hid hIa
 have HFX:=Lib.hid (show FxR lo hi w wc from(Fx.of HBL.out).trans hfx)
 have HFc:=Lib.hid hFc
 have HRc:=Lib.hid hRc
 clear hBg hIa hfx hFc hRc
 go_wp2_with fail
 with_reducible refine(HSD.out).mono ?_
 rintro e w4 ⟨rfl,hb4⟩
 have hk4:Below wc.heap.size wc ((w4.alloc (.cells #[.string vb.o,.string vb.nm,.slice vb.A vb.ll vb.cap,.int .i64 vb.p] 27)).alloc (.cells #[.string ⟨#[]⟩,.string ⟨#[]⟩,.slice none 0 0,.int .i64 0] 27)):=below_t hb4 (below_t (below_alloc _ _) (below_alloc _ _))
 have HF4:=Lib.hid (HFc.out.below hk4)
 have HR4:=Lib.hid (HRc.out.below hk4)
 have HG4:=Lib.hid (HBg.out.below hk4)
 have HI4:=Lib.hid (HIa.out.below hk4)
 have HX4:=Lib.hid (show FxR lo hi w ((w4.alloc (.cells #[.string vb.o,.string vb.nm,.slice vb.A vb.ll vb.cap,.int .i64 vb.p] 27)).alloc (.cells #[.string ⟨#[]⟩,.string ⟨#[]⟩,.slice none 0 0,.int .i64 0] 27))from HFX.out.on hk4)
 obtain⟨k0,k1,k2,k3⟩:=HF4.out.cells4
 obtain⟨q0,q1,q2,q3⟩:=Bx.cells4 (show Bx ((w4.alloc (.cells #[.string vb.o,.string vb.nm,.slice vb.A vb.ll vb.cap,.int .i64 vb.p] 27)).alloc (.cells #[.string ⟨#[]⟩,.string ⟨#[]⟩,.slice none 0 0,.int .i64 0] 27)) w4.heap.size 27 [.string vb.o,.string vb.nm,.slice vb.A vb.ll vb.cap,.int .i64 vb.p]from(Bx.new w4 27 [.string vb.o,.string vb.nm,.slice vb.A vb.ll vb.cap,.int .i64 vb.p]).alloc _)
 clear hb4 hk4 HSD HF0 HR0 HFc HRc HBg HIa HFX HB0 HA0
 have HIT:=Lib.hid (hit▸nistr_any ((w4.alloc (.cells #[.string vb.o,.string vb.nm,.slice vb.A vb.ll vb.cap,.int .i64 vb.p] 27)).alloc (.cells #[.string ⟨#[]⟩,.string ⟨#[]⟩,.slice none 0 0,.int .i64 0] 27)) HI4.out.fs)
 go_wp2_with fail
 with_reducible refine(HIT.out).mono ?_
 rintro e w5 ⟨rfl,hb5⟩
 have HF5:=Lib.hid (HF4.out.below hb5)
 have HR5:=Lib.hid (HR4.out.below hb5)
 have HG5:=Lib.hid (HG4.out.below hb5)
 have HI5:=Lib.hid (HI4.out.below hb5)
 have HX5:=Lib.hid (show FxR lo hi w w5 from HX4.out.on hb5)
 obtain⟨k0,k1,k2,k3⟩:=HF5.out.cells4
 obtain⟨q0,q1,q2,q3⟩:=Bx.cells4 (show Bx w5 w4.heap.size 27 [.string vb.o,.string vb.nm,.slice vb.A vb.ll vb.cap,.int .i64 vb.p]from((Bx.new w4 27 [.string vb.o,.string vb.nm,.slice vb.A vb.ll vb.cap,.int .i64 vb.p]).alloc _).below hb5)
 clear hb5
 obtain⟨f0,f1,f2,f3⟩:=(HR5.out).frozen4
 obtain⟨z0,z1,z2,z3⟩:=(HR5.out).cells4
 have hl:=(HR5.out).lt
 obtain⟨y0,y1,y2,y3⟩:=(Bx.set4 (x0:=.string vb.o) (x1:=.string vb.nm) (x2:=.slice vb.A vb.ll vb.cap) (x3:=.int .i64 vb.p) (HR5.out)).cells4
 have HX9:=Lib.hid (FxR.set4 (k:=0) (x0:=.string vb.o) (x1:=.string vb.nm) (x2:=.slice vb.A vb.ll vb.cap) (x3:=.int .i64 vb.p) (HX5.out) (q:=w.heap.size+1) (.inl (Nat.le_succ _)))
 have HFI:=Lib.hid (show FI ((((w5.setCell ⟨(w.heap.size+1),0,none⟩ (.string vb.o)).setCell ⟨(w.heap.size+1),1,none⟩ (.string vb.nm)).setCell ⟨(w.heap.size+1),2,none⟩ (.slice vb.A vb.ll vb.cap)).setCell ⟨(w.heap.size+1),3,none⟩ (.int .i64 vb.p)) (smO (.un op a pp)) lo hi vb.c from(by rw[smO,if_pos ⟨hop,hit⟩];exact(HI5.out.set4 (.inr (by omega))).mono (Nat.le_refl _) (by omega)))
 go_wp2
 refine bodyPost_ret (v:=.agg #[.string vb.o,.string vb.nm,.slice vb.A vb.ll vb.cap,.int .i64 vb.p]) (by simp[results,Tryz.results58,go_sem,y0,y1,y2,y3]) rfl ⟨vb,rfl,HFI.out,HX9.out⟩
theorem nsm_un_xf{op:List UInt8}{a:Fo}{pp:Nat}(ha:NsC a)(hop:op=[88])(hit:isTr (smO a)=false):NsC (.un op a pp):=by
 intro lo hi v w h hh
 obtain⟨g,cap0,ca,hc,hg,hcap,hB,hA⟩:=h
 obtain⟨va,rfl, -⟩:=hA.fv
 obtain⟨o,nm',A,ll,cap,p⟩:=v
 simp only[FV.c,strV,List.cons.injEq,Value.string.injEq,Value.slice.injEq,Value.int.injEq,true_and,and_true]at hc
 obtain⟨ho,hnm,⟨rfl,rfl,rfl⟩,hp⟩:=hc
 have t0:(o.toList==[88])=true:=by rw[ho,ByteArray.toList_eq];exact beq_iff_eq.2 hop
 have HO:=Lib.hid (And.intro ho (And.intro hnm hp))
 clear ho hnm hp
 have hgw:g<w.heap.size:=hB.lt
 have hlg:=hA.le
 have hb0:Below w.heap.size w ((w.alloc (.cells #[.string o,.string nm',.slice (some ⟨g,0,none⟩) 1 cap,.int .i64 p] 27)).alloc (.cells #[.string ⟨#[]⟩,.string ⟨#[]⟩,.slice none 0 0,.int .i64 0] 27)):=below_t (below_alloc _ _) (below_alloc _ _)
 have hF0:Bx ((w.alloc (.cells #[.string o,.string nm',.slice (some ⟨g,0,none⟩) 1 cap,.int .i64 p] 27)).alloc (.cells #[.string ⟨#[]⟩,.string ⟨#[]⟩,.slice none 0 0,.int .i64 0] 27)) w.heap.size 27 [.string o,.string nm',.slice (some ⟨g,0,none⟩) 1 cap,.int .i64 p]:=(Bx.new w 27 [.string o,.string nm',.slice (some ⟨g,0,none⟩) 1 cap,.int .i64 p]).alloc _
 have hR0:Bx ((w.alloc (.cells #[.string o,.string nm',.slice (some ⟨g,0,none⟩) 1 cap,.int .i64 p] 27)).alloc (.cells #[.string ⟨#[]⟩,.string ⟨#[]⟩,.slice none 0 0,.int .i64 0] 27)) (w.heap.size+1) 27 fz:=Bx.newAt (by simp) 27 fz
 have hB0:=hB.below hb0
 have hA0:=hA.below hb0
 have hz0:((w.alloc (.cells #[.string o,.string nm',.slice (some ⟨g,0,none⟩) 1 cap,.int .i64 p] 27)).alloc (.cells #[.string ⟨#[]⟩,.string ⟨#[]⟩,.slice none 0 0,.int .i64 0] 27)).heap.size=w.heap.size+1+1:=by simp
 obtain⟨W0,hW0⟩:∃W,W=((w.alloc (.cells #[.string o,.string nm',.slice (some ⟨g,0,none⟩) 1 cap,.int .i64 p] 27)).alloc (.cells #[.string ⟨#[]⟩,.string ⟨#[]⟩,.slice none 0 0,.int .i64 0] 27)):=⟨_,rfl⟩
 rw[<- hW0]at hF0 hR0 hB0 hA0 hz0 hb0
 have HW0:=Lib.hid hW0
 have HZ0:=Lib.hid hz0
 have HF0:=Lib.hid hF0
 have HR0:=Lib.hid hR0
 have HB0:=Lib.hid hB0
 have HA0:=Lib.hid hA0
 have HBL:=Lib.hid hb0
 have HAC:=Lib.hid ha
 clear hb0 hF0 hR0 hB0 hA0 hW0 hB hA ha hz0
 change Calls Tryz.prog 58 #[.agg #[.string o,.string nm',.slice (some ⟨g,0,none⟩) 1 cap,.int .i64 p]] w _
 go_enter Tryz.func58,Tryz.ntmps58
 go_upto_block 0 with fail
 rw[<- HW0.out]
 go_cut [3,4,10]from 11 to 21 (fun _ _ _ W=>U1 a g lo hi W0 W)
 case first=>
  go_wp2_with fail
  go_loopw [10] (fun i wr=>U1R a g lo hi W0 i wr) (fun i _=>1 - (intOf i).toNat)
  case atStart=>exact .inl ⟨rfl,rfl⟩
  case round=>
   rcases hrel with⟨rfl,rfl⟩ | ⟨rfl,hU⟩
   · obtain⟨c0,c1,c2,c3⟩:=Bx.cells4 (show Bx wr g 27 [.string va.o,.string va.nm,.slice va.A va.ll va.cap,.int .i64 va.p]from HB0.out)
     obtain⟨k0,k1,k2,k3⟩:=HF0.out.cells4
     obtain⟨W1,hW1⟩:∃W,W=wr.alloc (.cells #[.string va.o,.string va.nm,.slice va.A va.ll va.cap,.int .i64 va.p] 27):=⟨_,rfl⟩
     have hb1:Below wr.heap.size wr W1:=by rw[hW1];exact below_alloc _ _
     have hK1:Bx W1 wr.heap.size 27 [.string va.o,.string va.nm,.slice va.A va.ll va.cap,.int .i64 va.p]:=by rw[hW1];exact Bx.new _ _ _
     have HS1:=Lib.hid (show ∀W',FxR lo g W1 W'->(W'.cell? ⟨w.heap.size,2,none⟩=some (.slice (some ⟨g,0,none⟩) 1 cap)/\W'.cell? ⟨wr.heap.size,0,none⟩=some (.string va.o)/\W'.cell? ⟨wr.heap.size,1,none⟩=some (.string va.nm)/\W'.cell? ⟨wr.heap.size,2,none⟩=some (.slice va.A va.ll va.cap)/\W'.cell? ⟨wr.heap.size,3,none⟩=some (.int .i64 va.p))from fun W' hf=>by
      obtain⟨d0,d1,d2,d3⟩:=((HF0.out.below hb1).fxr hf (by have:=HZ0.out;omega)).cells4
      obtain⟨e0,e1,e2,e3⟩:=(hK1.fxr hf (by have:=HZ0.out;omega)).cells4
      exact⟨d2,e0,e1,e2,e3⟩)
     have HBG:=Lib.hid (HB0.out.below hb1)
     have HK1:=Lib.hid hK1
     have HC:=Lib.hid (fun(W:World) (hf:Below W1.heap.size W1 W)=>HAC.out lo g va W ((HA0.out.below hb1).below hf) (by have:=hf.size;have:=hb1.size;have:=HZ0.out;omega))
     have HB1:=Lib.hid hb1
     have HWN:=Lib.hid hW1
     clear hb1 hK1 hW1
     go_wp2_with fail
     rw[<- HWN.out]
     have lk:FxR lo g W1 W1.drew:=(Fx.refl _ _).drew
     go_region_held3 (fun w'=>w'.cell? ⟨w.heap.size,2,none⟩=some (.slice (some ⟨g,0,none⟩) 1 cap)/\w'.cell? ⟨wr.heap.size,0,none⟩=some (.string va.o)/\w'.cell? ⟨wr.heap.size,1,none⟩=some (.string va.nm)/\w'.cell? ⟨wr.heap.size,2,none⟩=some (.slice va.A va.ll va.cap)/\w'.cell? ⟨wr.heap.size,3,none⟩=some (.int .i64 va.p)) (first | exact HS1.out _ lk | exact HS9.out) (first
      | (go_at_call 58
         with_reducible refine(HC.out _ (Below.refl _ _).drew).mono ?_
         rintro e w3 ⟨vb,rfl,hi3,hf3⟩
         have hlk:FxR lo g W1 w3:=lk.trans hf3
         have hg3:=HBG.out.fxr hlk (.inr (Nat.le_refl _))
         obtain⟨f0,f1,f2,f3⟩:=Bx.frozen4 (show Bx w3 g 27 [.string va.o,.string va.nm,.slice va.A va.ll va.cap,.int .i64 va.p]from hg3)
         obtain⟨z0,z1,z2,z3⟩:=Bx.cells4 (show Bx w3 g 27 [.string va.o,.string va.nm,.slice va.A va.ll va.cap,.int .i64 va.p]from hg3)
         have hl3:=hg3.lt
         obtain⟨-, -,d2, -⟩:=((((HF0.out.below HB1.out).fxr hlk (by have:=HZ0.out;omega)).farK (q:=g) (k:=0) (x0:=.string vb.o) (x1:=.string vb.nm) (x2:=.slice vb.A vb.ll vb.cap) (x3:=.int .i64 vb.p) (by have:=HZ0.out;omega))).cells4
         obtain⟨e0,e1,e2,e3⟩:=(((HK1.out.fxr hlk (by have:=HZ0.out;omega)).farK (q:=g) (k:=0) (x0:=.string vb.o) (x1:=.string vb.nm) (x2:=.slice vb.A vb.ll vb.cap) (x3:=.int .i64 vb.p) (by have:=HZ0.out;omega))).cells4
         have HS9:=Lib.hid (show(fun w':World=>w'.cell? ⟨w.heap.size,2,none⟩=some (.slice (some ⟨g,0,none⟩) 1 cap)/\w'.cell? ⟨wr.heap.size,0,none⟩=some (.string va.o)/\w'.cell? ⟨wr.heap.size,1,none⟩=some (.string va.nm)/\w'.cell? ⟨wr.heap.size,2,none⟩=some (.slice va.A va.ll va.cap)/\w'.cell? ⟨wr.heap.size,3,none⟩=some (.int .i64 va.p)) ((((w3.setCell ⟨g,0,none⟩ (.string vb.o)).setCell ⟨g,1,none⟩ (.string vb.nm)).setCell ⟨g,2,none⟩ (.slice vb.A vb.ll vb.cap)).setCell ⟨g,3,none⟩ (.int .i64 vb.p))from⟨d2,e0,e1,e2,e3⟩)
         have HU:=Lib.hid (show U1 a g lo hi wr ((((w3.setCell ⟨g,0,none⟩ (.string vb.o)).setCell ⟨g,1,none⟩ (.string vb.nm)).setCell ⟨g,2,none⟩ (.slice vb.A vb.ll vb.cap)).setCell ⟨g,3,none⟩ (.int .i64 vb.p))from⟨vb,Bx.set4 (show Bx w3 g 27 [.string va.o,.string va.nm,.slice va.A va.ll va.cap,.int .i64 va.p]from hg3),FI.set4 hi3 (.inr (Nat.le_refl _)),FxR.set4 (k:=0) (((Fx.of HB1.out).trans (hlk.wide (fun k _ hk=>⟨hk.1,by omega⟩)))) (.inr ⟨hlg,hg⟩)⟩)
         replace lk:=hlk
         clear hi3 hf3 hlk hg3 d2 e0 e1 e2 e3))
     all_goals
      go_wp2
      go_roundw
      case rel=>exact .inr ⟨rfl,HU.out⟩
      case measure=>simp[intOf]
   · go_wp2
     go_meet
     exact hU
 obtain⟨vb,hBg,hIa,hfx⟩:=hcut
 have hFc:=HF0.out.fxr hfx (by have:=HZ0.out;omega)
 have hRc:=HR0.out.fxr hfx (by have:=HZ0.out;omega)
 obtain⟨k0,k1,k2,k3⟩:=hFc.cells4
 have HSD:=Lib.hid (sides1 (o:=o) (nm':=nm') (cap:=cap) (p':=p) (a:=vb) wc hBg.lt (hBg.cell 0) (hBg.cell 1) (hBg.cell 2) (hBg.cell 3))
 have HBg:=Lib.hid hBg
 have HIa:=Lib.hid hIa
 have HFX:=Lib.hid (show FxR lo hi w wc from(Fx.of HBL.out).trans hfx)
 have HFc:=Lib.hid hFc
 have HRc:=Lib.hid hRc
 clear hBg hIa hfx hFc hRc
 go_wp2_with fail
 with_reducible refine(HSD.out).mono ?_
 rintro e w4 ⟨rfl,hb4⟩
 have hk4:Below wc.heap.size wc ((w4.alloc (.cells #[.string vb.o,.string vb.nm,.slice vb.A vb.ll vb.cap,.int .i64 vb.p] 27)).alloc (.cells #[.string ⟨#[]⟩,.string ⟨#[]⟩,.slice none 0 0,.int .i64 0] 27)):=below_t hb4 (below_t (below_alloc _ _) (below_alloc _ _))
 have HF4:=Lib.hid (HFc.out.below hk4)
 have HR4:=Lib.hid (HRc.out.below hk4)
 have HG4:=Lib.hid (HBg.out.below hk4)
 have HI4:=Lib.hid (HIa.out.below hk4)
 have HX4:=Lib.hid (show FxR lo hi w ((w4.alloc (.cells #[.string vb.o,.string vb.nm,.slice vb.A vb.ll vb.cap,.int .i64 vb.p] 27)).alloc (.cells #[.string ⟨#[]⟩,.string ⟨#[]⟩,.slice none 0 0,.int .i64 0] 27))from HFX.out.on hk4)
 obtain⟨k0,k1,k2,k3⟩:=HF4.out.cells4
 obtain⟨q0,q1,q2,q3⟩:=Bx.cells4 (show Bx ((w4.alloc (.cells #[.string vb.o,.string vb.nm,.slice vb.A vb.ll vb.cap,.int .i64 vb.p] 27)).alloc (.cells #[.string ⟨#[]⟩,.string ⟨#[]⟩,.slice none 0 0,.int .i64 0] 27)) w4.heap.size 27 [.string vb.o,.string vb.nm,.slice vb.A vb.ll vb.cap,.int .i64 vb.p]from(Bx.new w4 27 [.string vb.o,.string vb.nm,.slice vb.A vb.ll vb.cap,.int .i64 vb.p]).alloc _)
 clear hb4 hk4 HSD HF0 HR0 HFc HRc HBg HIa HFX HB0 HA0
 have HIT:=Lib.hid (hit▸nistr_any ((w4.alloc (.cells #[.string vb.o,.string vb.nm,.slice vb.A vb.ll vb.cap,.int .i64 vb.p] 27)).alloc (.cells #[.string ⟨#[]⟩,.string ⟨#[]⟩,.slice none 0 0,.int .i64 0] 27)) HI4.out.fs)
 go_wp2_with fail
 with_reducible refine(HIT.out).mono ?_
 rintro e w5 ⟨rfl,hb5⟩
 have HF5:=Lib.hid (HF4.out.below hb5)
 have HR5:=Lib.hid (HR4.out.below hb5)
 have HG5:=Lib.hid (HG4.out.below hb5)
 have HI5:=Lib.hid (HI4.out.below hb5)
 have HX5:=Lib.hid (show FxR lo hi w w5 from HX4.out.on hb5)
 obtain⟨k0,k1,k2,k3⟩:=HF5.out.cells4
 obtain⟨q0,q1,q2,q3⟩:=Bx.cells4 (show Bx w5 w4.heap.size 27 [.string vb.o,.string vb.nm,.slice vb.A vb.ll vb.cap,.int .i64 vb.p]from((Bx.new w4 27 [.string vb.o,.string vb.nm,.slice vb.A vb.ll vb.cap,.int .i64 vb.p]).alloc _).below hb5)
 clear hb5
 obtain⟨f0,f1,f2,f3⟩:=(HR5.out).frozen4
 obtain⟨z0,z1,z2,z3⟩:=(HR5.out).cells4
 have hl:=(HR5.out).lt
 obtain⟨y0,y1,y2,y3⟩:=(Bx.set4 (x0:=.string o) (x1:=.string nm') (x2:=.slice (some ⟨g,0,none⟩) 1 cap) (x3:=.int .i64 p) (HR5.out)).cells4
 have HX9:=Lib.hid (FxR.set4 (k:=0) (x0:=.string o) (x1:=.string nm') (x2:=.slice (some ⟨g,0,none⟩) 1 cap) (x3:=.int .i64 p) (HX5.out) (q:=w.heap.size+1) (.inl (Nat.le_succ _)))
 have HFI:=Lib.hid (show FI ((((w5.setCell ⟨(w.heap.size+1),0,none⟩ (.string o)).setCell ⟨(w.heap.size+1),1,none⟩ (.string nm')).setCell ⟨(w.heap.size+1),2,none⟩ (.slice (some ⟨g,0,none⟩) 1 cap)).setCell ⟨(w.heap.size+1),3,none⟩ (.int .i64 p)) (smO (.un op a pp)) lo hi (FV.c ⟨o,nm',some ⟨g,0,none⟩,1,cap,p⟩)from(by rw[smO,if_neg (fun h=>absurd h.2 (by rw[hit];decide))];exact⟨g,cap,vb.c,by rw[HO.out.1,HO.out.2.1,HO.out.2.2];rfl,hg,hcap,HG5.out.farK (by omega),HI5.out.set4 (.inr (by omega))⟩))
 go_wp2
 refine bodyPost_ret (v:=.agg #[.string o,.string nm',.slice (some ⟨g,0,none⟩) 1 cap,.int .i64 p]) (by simp[results,Tryz.results58,go_sem,y0,y1,y2,y3]) rfl ⟨⟨o,nm',some ⟨g,0,none⟩,1,cap,p⟩,rfl,HFI.out,HX9.out⟩
end
section
open Go.RowKit
theorem Bx.setA{w:World}{g:Nat}{t:TypeId}{va vb x:FV}(h:Bx w g t (va.c++vb.c)):Bx ((((w.setCell ⟨g,0,none⟩ (.string x.o)).setCell ⟨g,1,none⟩ (.string x.nm)).setCell ⟨g,2,none⟩ (.slice x.A x.ll x.cap)).setCell ⟨g,3,none⟩ (.int .i64 x.p)) g t (x.c++vb.c):=(((h.set 0 _).set 1 _).set 2 _).set 3 _
theorem Bx.setB{w:World}{g:Nat}{t:TypeId}{va vb x:FV}(h:Bx w g t (va.c++vb.c)):Bx ((((w.setCell ⟨g,4,none⟩ (.string x.o)).setCell ⟨g,5,none⟩ (.string x.nm)).setCell ⟨g,6,none⟩ (.slice x.A x.ll x.cap)).setCell ⟨g,7,none⟩ (.int .i64 x.p)) g t (va.c++x.c):=(((h.set 4 _).set 5 _).set 6 _).set 7 _
theorem FI.setK{w:World}{x:Fo}{lo hi q k:Nat}{c:List Value}{x0 x1 x2 x3:Value}(h:FI w x lo hi c)(hq:q<lo∨hi<=q):FI ((((w.setCell ⟨q,k,none⟩ x0).setCell ⟨q,k+1,none⟩ x1).setCell ⟨q,k+2,none⟩ x2).setCell ⟨q,k+3,none⟩ x3) x lo hi c:=h.keep fun j h1 h2 _=>by
 have hk:j≠q:=by omega
 rw[Below.heap_setCell _ ⟨q,k+3,none⟩ _ j hk,Below.heap_setCell _ ⟨q,k+2,none⟩ _ j hk,Below.heap_setCell _ ⟨q,k+1,none⟩ _ j hk,Below.heap_setCell _ ⟨q,k,none⟩ _ j hk]
def B1(x y:Fo)(g m lo hi:Nat)(W0 W:World):Prop:=∃va vb:FV,Bx W g 27 (va.c++vb.c)/\FI W (smO x) lo m va.c/\FI W y m g vb.c/\FxR lo hi W0 W
def B2(x y:Fo)(g m lo hi:Nat)(W0 W:World):Prop:=∃va vb:FV,Bx W g 27 (va.c++vb.c)/\FI W (smO x) lo m va.c/\FI W (smO y) m g vb.c/\FxR lo hi W0 W
def B2R(x y:Fo)(g m lo hi:Nat)(W0:World)(i:Value)(wr:World):Prop:=(i= .int .i64 0/\wr=W0)∨(i= .int .i64 1/\B1 x y g m lo hi W0 wr)∨(i= .int .i64 2/\B2 x y g m lo hi W0 wr)
theorem nsm_bin_o{op:List UInt8}{a b:Fo}{pp:Nat}(ha:NsC a)(hbb:NsC b)(hop0:op≠[88])(hop1:op≠[38])(hop2:op≠[124])(hop3:op≠[85])(hop4:op≠[82]):NsC (.bin op a b pp):=by
 intro lo hi v w h hh
 obtain⟨g,m,cap0,ca,cb,hc,hg,hcap,hB,hA,hA2⟩:=h
 obtain⟨va,rfl, -⟩:=hA.fv
 obtain⟨vb,rfl, -⟩:=hA2.fv
 obtain⟨o,nm',A,ll,cap,p⟩:=v
 simp only[FV.c,strV,List.cons.injEq,Value.string.injEq,Value.slice.injEq,Value.int.injEq,true_and,and_true]at hc
 obtain⟨ho,hnm,⟨rfl,rfl,rfl⟩,hp⟩:=hc
 have t0:(o.toList==[88])=false:=by rw[ho,ByteArray.toList_eq];exact beq_eq_false_iff_ne.2 hop0
 have t1:(o.toList==[38])=false:=by rw[ho,ByteArray.toList_eq];exact beq_eq_false_iff_ne.2 hop1
 have t2:(o.toList==[124])=false:=by rw[ho,ByteArray.toList_eq];exact beq_eq_false_iff_ne.2 hop2
 have t3:(o.toList==[85])=false:=by rw[ho,ByteArray.toList_eq];exact beq_eq_false_iff_ne.2 hop3
 have t4:(o.toList==[82])=false:=by rw[ho,ByteArray.toList_eq];exact beq_eq_false_iff_ne.2 hop4
 have HO:=Lib.hid (And.intro ho (And.intro hnm hp))
 clear ho hnm hp
 have hgw:g<w.heap.size:=hB.lt
 have hlm:=hA.le
 have hmg:=hA2.le
 have hb0:Below w.heap.size w ((w.alloc (.cells #[.string o,.string nm',.slice (some ⟨g,0,none⟩) 2 cap,.int .i64 p] 27)).alloc (.cells #[.string ⟨#[]⟩,.string ⟨#[]⟩,.slice none 0 0,.int .i64 0] 27)):=below_t (below_alloc _ _) (below_alloc _ _)
 have hF0:Bx ((w.alloc (.cells #[.string o,.string nm',.slice (some ⟨g,0,none⟩) 2 cap,.int .i64 p] 27)).alloc (.cells #[.string ⟨#[]⟩,.string ⟨#[]⟩,.slice none 0 0,.int .i64 0] 27)) w.heap.size 27 [.string o,.string nm',.slice (some ⟨g,0,none⟩) 2 cap,.int .i64 p]:=(Bx.new w 27 [.string o,.string nm',.slice (some ⟨g,0,none⟩) 2 cap,.int .i64 p]).alloc _
 have hR0:Bx ((w.alloc (.cells #[.string o,.string nm',.slice (some ⟨g,0,none⟩) 2 cap,.int .i64 p] 27)).alloc (.cells #[.string ⟨#[]⟩,.string ⟨#[]⟩,.slice none 0 0,.int .i64 0] 27)) (w.heap.size+1) 27 fz:=Bx.newAt (by simp) 27 fz
 have hB0:=hB.below hb0
 have hA0:=hA.below hb0
 have hA20:=hA2.below hb0
 have hz0:((w.alloc (.cells #[.string o,.string nm',.slice (some ⟨g,0,none⟩) 2 cap,.int .i64 p] 27)).alloc (.cells #[.string ⟨#[]⟩,.string ⟨#[]⟩,.slice none 0 0,.int .i64 0] 27)).heap.size=w.heap.size+1+1:=by simp
 obtain⟨W0,hW0⟩:∃W,W=((w.alloc (.cells #[.string o,.string nm',.slice (some ⟨g,0,none⟩) 2 cap,.int .i64 p] 27)).alloc (.cells #[.string ⟨#[]⟩,.string ⟨#[]⟩,.slice none 0 0,.int .i64 0] 27)):=⟨_,rfl⟩
 rw[<- hW0]at hF0 hR0 hB0 hA0 hA20 hz0 hb0
 have HW0:=Lib.hid hW0
 have HZ0:=Lib.hid hz0
 have HF0:=Lib.hid hF0
 have HR0:=Lib.hid hR0
 have HB0:=Lib.hid hB0
 have HA0:=Lib.hid hA0
 have HA20:=Lib.hid hA20
 have HBL:=Lib.hid hb0
 have HAC:=Lib.hid ha
 have HBC:=Lib.hid hbb
 clear hb0 hF0 hR0 hB0 hA0 hA20 hW0 hB hA hA2 ha hbb hz0
 change Calls Tryz.prog 58 #[.agg #[.string o,.string nm',.slice (some ⟨g,0,none⟩) 2 cap,.int .i64 p]] w _
 go_enter Tryz.func58,Tryz.ntmps58
 go_upto_block 0 with fail
 rw[<- HW0.out]
 go_cut [3,4,10]from 11 to 21 (fun _ _ _ W=>B2 a b g m lo hi W0 W)
 case first=>
  go_wp2_with fail
  go_loopw [10] (fun i wr=>B2R a b g m lo hi W0 i wr) (fun i _=>2 - (intOf i).toNat)
  case atStart=>exact .inl ⟨rfl,rfl⟩
  case round=>
   rcases hrel with⟨rfl,rfl⟩ | ⟨rfl,va,vb,hBg,hIa,hIb,hfx⟩ | ⟨rfl,hU⟩
   · have hBg:=HB0.out
     have hIa:=HA0.out
     have hIb:=HA20.out
     have hfx:FxR lo hi wr wr:=Fx.refl _ _
     have HFX:=Lib.hid hfx
     have HIa:=Lib.hid hIa
     have HIb:=Lib.hid hIb
     obtain⟨c0,c1,c2,c3⟩:wr.cell? ⟨g,0,none⟩=some (.string va.o)/\wr.cell? ⟨g,1,none⟩=some (.string va.nm)/\wr.cell? ⟨g,2,none⟩=some (.slice va.A va.ll va.cap)/\wr.cell? ⟨g,3,none⟩=some (.int .i64 va.p):=⟨hBg.cell 0,hBg.cell 1,hBg.cell 2,hBg.cell 3⟩
     have hFr:=HF0.out.fxr hfx (by have:=HZ0.out;omega)
     obtain⟨k0,k1,k2,k3⟩:=hFr.cells4
     obtain⟨W1,hW1⟩:∃W,W=wr.alloc (.cells #[.string va.o,.string va.nm,.slice va.A va.ll va.cap,.int .i64 va.p] 27):=⟨_,rfl⟩
     have hb1:Below wr.heap.size wr W1:=by rw[hW1];exact below_alloc _ _
     have hK1:Bx W1 wr.heap.size 27 [.string va.o,.string va.nm,.slice va.A va.ll va.cap,.int .i64 va.p]:=by rw[hW1];exact Bx.new _ _ _
     have hws:w.heap.size+1+1<=wr.heap.size:=by have:=hfx.size;have:=HZ0.out;omega
     have HWS:=Lib.hid hws
     have HS1:=Lib.hid (show ∀W',FxR lo m W1 W'->(fun w':World=>w'.cell? ⟨w.heap.size,2,none⟩=some (.slice (some ⟨g,0,none⟩) 2 cap)/\w'.cell? ⟨wr.heap.size,0,none⟩=some (.string va.o)/\w'.cell? ⟨wr.heap.size,1,none⟩=some (.string va.nm)/\w'.cell? ⟨wr.heap.size,2,none⟩=some (.slice va.A va.ll va.cap)/\w'.cell? ⟨wr.heap.size,3,none⟩=some (.int .i64 va.p)) W' from fun W' hf=>by
      obtain⟨d0,d1,d2,d3⟩:=((hFr.below hb1).fxr hf (by omega)).cells4
      obtain⟨e0,e1,e2,e3⟩:=(hK1.fxr hf (by omega)).cells4
      exact⟨d2,e0,e1,e2,e3⟩)
     have HFR:=Lib.hid hFr
     have HBG:=Lib.hid (hBg.below hb1)
     have HK1:=Lib.hid hK1
     have HC:=Lib.hid (fun(W:World) (hf:Below W1.heap.size W1 W)=>HAC.out lo m va W ((hIa.below hb1).below hf) (by have:=hf.size;have:=hb1.size;omega))
     have HB1:=Lib.hid hb1
     have HWN:=Lib.hid hW1
     clear hb1 hK1 hW1 hws hFr hBg hIa hIb hfx
     go_wp2_with fail
     rw[<- HWN.out]
     have lk:FxR lo m W1 W1.drew:=(Fx.refl _ _).drew
     go_region_held3 (fun w'=>w'.cell? ⟨w.heap.size,2,none⟩=some (.slice (some ⟨g,0,none⟩) 2 cap)/\w'.cell? ⟨wr.heap.size,0,none⟩=some (.string va.o)/\w'.cell? ⟨wr.heap.size,1,none⟩=some (.string va.nm)/\w'.cell? ⟨wr.heap.size,2,none⟩=some (.slice va.A va.ll va.cap)/\w'.cell? ⟨wr.heap.size,3,none⟩=some (.int .i64 va.p)) (first | exact HS1.out _ lk | exact HS9.out) (first
      | (go_at_call 58
         with_reducible refine(HC.out _ (Below.refl _ _).drew).mono ?_
         rintro e w3 ⟨vk,rfl,hi3,hf3⟩
         have hlk:FxR lo m W1 w3:=lk.trans hf3
         have hg3:=HBG.out.fxr hlk (.inr (by omega))
         obtain⟨f0,f1,f2,f3⟩:w3.frozen? ⟨g,0,none⟩=false/\w3.frozen? ⟨g,1,none⟩=false/\w3.frozen? ⟨g,2,none⟩=false/\w3.frozen? ⟨g,3,none⟩=false:=⟨hg3.frozen 0,hg3.frozen 1,hg3.frozen 2,hg3.frozen 3⟩
         obtain⟨z0,z1,z2,z3⟩:w3.cell? ⟨g,0,none⟩=some (.string va.o)/\w3.cell? ⟨g,1,none⟩=some (.string va.nm)/\w3.cell? ⟨g,2,none⟩=some (.slice va.A va.ll va.cap)/\w3.cell? ⟨g,3,none⟩=some (.int .i64 va.p):=⟨hg3.cell 0,hg3.cell 1,hg3.cell 2,hg3.cell 3⟩
         have hl3:=hg3.lt
         obtain⟨-, -,d2, -⟩:=((((HFR.out.below HB1.out).fxr hlk (by have:=HZ0.out;omega)).farK (q:=g) (k:=0) (x0:=.string vk.o) (x1:=.string vk.nm) (x2:=.slice vk.A vk.ll vk.cap) (x3:=.int .i64 vk.p) (by have:=HZ0.out;omega))).cells4
         obtain⟨e0,e1,e2,e3⟩:=(((HK1.out.fxr hlk (by have:=HWS.out;omega)).farK (q:=g) (k:=0) (x0:=.string vk.o) (x1:=.string vk.nm) (x2:=.slice vk.A vk.ll vk.cap) (x3:=.int .i64 vk.p) (by have:=HWS.out;omega))).cells4
         have HS9:=Lib.hid (show(fun w':World=>w'.cell? ⟨w.heap.size,2,none⟩=some (.slice (some ⟨g,0,none⟩) 2 cap)/\w'.cell? ⟨wr.heap.size,0,none⟩=some (.string va.o)/\w'.cell? ⟨wr.heap.size,1,none⟩=some (.string va.nm)/\w'.cell? ⟨wr.heap.size,2,none⟩=some (.slice va.A va.ll va.cap)/\w'.cell? ⟨wr.heap.size,3,none⟩=some (.int .i64 va.p)) ((((w3.setCell ⟨g,0,none⟩ (.string vk.o)).setCell ⟨g,1,none⟩ (.string vk.nm)).setCell ⟨g,2,none⟩ (.slice vk.A vk.ll vk.cap)).setCell ⟨g,3,none⟩ (.int .i64 vk.p))from⟨d2,e0,e1,e2,e3⟩)
         have hfx:=HFX.out
         have hIb':=(HIb.out.below HB1.out)
         have HU:=Lib.hid (show B1 a b g m lo hi wr ((((w3.setCell ⟨g,0,none⟩ (.string vk.o)).setCell ⟨g,1,none⟩ (.string vk.nm)).setCell ⟨g,2,none⟩ (.slice vk.A vk.ll vk.cap)).setCell ⟨g,3,none⟩ (.int .i64 vk.p))from⟨vk,vb,hg3.setA,FI.setK (k:=0) hi3 (.inr (by omega)),FI.setK (k:=0) ((hIb'.fxr hlk (.inr (Nat.le_refl _)))) (.inr (Nat.le_refl _)),FxR.set4 (k:=0) (((hfx.on HB1.out).trans (hlk.wide (fun j _ hk=>⟨by omega,by omega⟩)))) (.inr ⟨by omega,hg⟩)⟩)
         replace lk:=hlk
         clear hi3 hf3 hlk hg3 d2 e0 e1 e2 e3 hfx hIb'))
     all_goals
      go_wp2
      go_roundw
      case rel=>exact .inr (.inl ⟨rfl,HU.out⟩)
      case measure=>simp[intOf]
   · have hbnd:True:=trivial
     have HFX:=Lib.hid hfx
     have HIa:=Lib.hid hIa
     have HIb:=Lib.hid hIb
     obtain⟨c0,c1,c2,c3⟩:wr.cell? ⟨g,4,none⟩=some (.string vb.o)/\wr.cell? ⟨g,5,none⟩=some (.string vb.nm)/\wr.cell? ⟨g,6,none⟩=some (.slice vb.A vb.ll vb.cap)/\wr.cell? ⟨g,7,none⟩=some (.int .i64 vb.p):=⟨hBg.cell 4,hBg.cell 5,hBg.cell 6,hBg.cell 7⟩
     have hFr:=HF0.out.fxr hfx (by have:=HZ0.out;omega)
     obtain⟨k0,k1,k2,k3⟩:=hFr.cells4
     obtain⟨W1,hW1⟩:∃W,W=wr.alloc (.cells #[.string vb.o,.string vb.nm,.slice vb.A vb.ll vb.cap,.int .i64 vb.p] 27):=⟨_,rfl⟩
     have hb1:Below wr.heap.size wr W1:=by rw[hW1];exact below_alloc _ _
     have hK1:Bx W1 wr.heap.size 27 [.string vb.o,.string vb.nm,.slice vb.A vb.ll vb.cap,.int .i64 vb.p]:=by rw[hW1];exact Bx.new _ _ _
     have hws:w.heap.size+1+1<=wr.heap.size:=by have:=hfx.size;have:=HZ0.out;omega
     have HWS:=Lib.hid hws
     have HS1:=Lib.hid (show ∀W',FxR m g W1 W'->(fun w':World=>w'.cell? ⟨w.heap.size,2,none⟩=some (.slice (some ⟨g,0,none⟩) 2 cap)/\w'.cell? ⟨wr.heap.size,0,none⟩=some (.string vb.o)/\w'.cell? ⟨wr.heap.size,1,none⟩=some (.string vb.nm)/\w'.cell? ⟨wr.heap.size,2,none⟩=some (.slice vb.A vb.ll vb.cap)/\w'.cell? ⟨wr.heap.size,3,none⟩=some (.int .i64 vb.p)) W' from fun W' hf=>by
      obtain⟨d0,d1,d2,d3⟩:=((hFr.below hb1).fxr hf (by omega)).cells4
      obtain⟨e0,e1,e2,e3⟩:=(hK1.fxr hf (by omega)).cells4
      exact⟨d2,e0,e1,e2,e3⟩)
     have HFR:=Lib.hid hFr
     have HBG:=Lib.hid (hBg.below hb1)
     have HK1:=Lib.hid hK1
     have HC:=Lib.hid (fun(W:World) (hf:Below W1.heap.size W1 W)=>HBC.out m g vb W ((hIb.below hb1).below hf) (by have:=hf.size;have:=hb1.size;omega))
     have HB1:=Lib.hid hb1
     have HWN:=Lib.hid hW1
     clear hb1 hK1 hW1 hws hFr hBg hIa hIb hfx
     go_wp2_with fail
     rw[<- HWN.out]
     have lk:FxR m g W1 W1.drew:=(Fx.refl _ _).drew
     go_region_held3 (fun w'=>w'.cell? ⟨w.heap.size,2,none⟩=some (.slice (some ⟨g,0,none⟩) 2 cap)/\w'.cell? ⟨wr.heap.size,0,none⟩=some (.string vb.o)/\w'.cell? ⟨wr.heap.size,1,none⟩=some (.string vb.nm)/\w'.cell? ⟨wr.heap.size,2,none⟩=some (.slice vb.A vb.ll vb.cap)/\w'.cell? ⟨wr.heap.size,3,none⟩=some (.int .i64 vb.p)) (first | exact HS1.out _ lk | exact HS9.out) (first
      | (go_at_call 58
         with_reducible refine(HC.out _ (Below.refl _ _).drew).mono ?_
         rintro e w3 ⟨vk,rfl,hi3,hf3⟩
         have hlk:FxR m g W1 w3:=lk.trans hf3
         have hg3:=HBG.out.fxr hlk (.inr (by omega))
         obtain⟨f0,f1,f2,f3⟩:w3.frozen? ⟨g,4,none⟩=false/\w3.frozen? ⟨g,5,none⟩=false/\w3.frozen? ⟨g,6,none⟩=false/\w3.frozen? ⟨g,7,none⟩=false:=⟨hg3.frozen 4,hg3.frozen 5,hg3.frozen 6,hg3.frozen 7⟩
         obtain⟨z0,z1,z2,z3⟩:w3.cell? ⟨g,4,none⟩=some (.string vb.o)/\w3.cell? ⟨g,5,none⟩=some (.string vb.nm)/\w3.cell? ⟨g,6,none⟩=some (.slice vb.A vb.ll vb.cap)/\w3.cell? ⟨g,7,none⟩=some (.int .i64 vb.p):=⟨hg3.cell 4,hg3.cell 5,hg3.cell 6,hg3.cell 7⟩
         have hl3:=hg3.lt
         obtain⟨-, -,d2, -⟩:=((((HFR.out.below HB1.out).fxr hlk (by have:=HZ0.out;omega)).farK (q:=g) (k:=4) (x0:=.string vk.o) (x1:=.string vk.nm) (x2:=.slice vk.A vk.ll vk.cap) (x3:=.int .i64 vk.p) (by have:=HZ0.out;omega))).cells4
         obtain⟨e0,e1,e2,e3⟩:=(((HK1.out.fxr hlk (by have:=HWS.out;omega)).farK (q:=g) (k:=4) (x0:=.string vk.o) (x1:=.string vk.nm) (x2:=.slice vk.A vk.ll vk.cap) (x3:=.int .i64 vk.p) (by have:=HWS.out;omega))).cells4
         have HS9:=Lib.hid (show(fun w':World=>w'.cell? ⟨w.heap.size,2,none⟩=some (.slice (some ⟨g,0,none⟩) 2 cap)/\w'.cell? ⟨wr.heap.size,0,none⟩=some (.string vb.o)/\w'.cell? ⟨wr.heap.size,1,none⟩=some (.string vb.nm)/\w'.cell? ⟨wr.heap.size,2,none⟩=some (.slice vb.A vb.ll vb.cap)/\w'.cell? ⟨wr.heap.size,3,none⟩=some (.int .i64 vb.p)) ((((w3.setCell ⟨g,4,none⟩ (.string vk.o)).setCell ⟨g,5,none⟩ (.string vk.nm)).setCell ⟨g,6,none⟩ (.slice vk.A vk.ll vk.cap)).setCell ⟨g,7,none⟩ (.int .i64 vk.p))from⟨d2,e0,e1,e2,e3⟩)
         have hfx:=HFX.out
         have hIa':=(HIa.out.below HB1.out)
         have HU:=Lib.hid (show B2 a b g m lo hi W0 ((((w3.setCell ⟨g,4,none⟩ (.string vk.o)).setCell ⟨g,5,none⟩ (.string vk.nm)).setCell ⟨g,6,none⟩ (.slice vk.A vk.ll vk.cap)).setCell ⟨g,7,none⟩ (.int .i64 vk.p))from⟨va,vk,hg3.setB,FI.setK (k:=4) ((hIa'.fxr hlk (.inl (Nat.le_refl _)))) (.inr (by omega)),FI.setK (k:=4) hi3 (.inr (Nat.le_refl _)),FxR.set4 (k:=4) (((hfx.on HB1.out).trans (hlk.wide (fun j _ hk=>⟨by omega,by omega⟩)))) (.inr ⟨by omega,hg⟩)⟩)
         replace lk:=hlk
         clear hi3 hf3 hlk hg3 d2 e0 e1 e2 e3 hfx hIa'))
     all_goals
      go_wp2
      go_roundw
      case rel=>exact .inr (.inr ⟨rfl,HU.out⟩)
      case measure=>simp[intOf]
   · go_wp2
     go_meet
     exact hU
 obtain⟨va,vb,hBg,hIa,hIb,hfx⟩:=hcut
 have hFc:=HF0.out.fxr hfx (by have:=HZ0.out;omega)
 have hRc:=HR0.out.fxr hfx (by have:=HZ0.out;omega)
 obtain⟨k0,k1,k2,k3⟩:=hFc.cells4
 have HSD:=Lib.hid (sides2 (o:=o) (nm':=nm') (cap:=cap) (p':=p) (a:=va) (b:=vb) wc hBg.lt (hBg.cell 0) (hBg.cell 1) (hBg.cell 2) (hBg.cell 3) (hBg.cell 4) (hBg.cell 5) (hBg.cell 6) (hBg.cell 7))
 have HBg:=Lib.hid hBg
 have HIa:=Lib.hid hIa
 have HIb:=Lib.hid hIb
 have HFX:=Lib.hid (show FxR lo hi w wc from(Fx.of HBL.out).trans hfx)
 have HFc:=Lib.hid hFc
 have HRc:=Lib.hid hRc
 clear hBg hIa hfx hFc hRc
 go_wp2_with fail
 with_reducible refine(HSD.out).mono ?_
 rintro e w4 ⟨rfl,hb4⟩
 have hk4:Below wc.heap.size wc ((w4.alloc (.cells #[.string va.o,.string va.nm,.slice va.A va.ll va.cap,.int .i64 va.p] 27)).alloc (.cells #[.string vb.o,.string vb.nm,.slice vb.A vb.ll vb.cap,.int .i64 vb.p] 27)):=below_t hb4 (below_t (below_alloc _ _) (below_alloc _ _))
 have HF4:=Lib.hid (HFc.out.below hk4)
 have HR4:=Lib.hid (HRc.out.below hk4)
 have HG4:=Lib.hid (HBg.out.below hk4)
 have HI4:=Lib.hid (HIa.out.below hk4)
 have HJ4:=Lib.hid (HIb.out.below hk4)
 have HX4:=Lib.hid (show FxR lo hi w ((w4.alloc (.cells #[.string va.o,.string va.nm,.slice va.A va.ll va.cap,.int .i64 va.p] 27)).alloc (.cells #[.string vb.o,.string vb.nm,.slice vb.A vb.ll vb.cap,.int .i64 vb.p] 27))from HFX.out.on hk4)
 obtain⟨k0,k1,k2,k3⟩:=HF4.out.cells4
 obtain⟨q0,q1,q2,q3⟩:=Bx.cells4 (show Bx ((w4.alloc (.cells #[.string va.o,.string va.nm,.slice va.A va.ll va.cap,.int .i64 va.p] 27)).alloc (.cells #[.string vb.o,.string vb.nm,.slice vb.A vb.ll vb.cap,.int .i64 vb.p] 27)) w4.heap.size 27 [.string va.o,.string va.nm,.slice va.A va.ll va.cap,.int .i64 va.p]from(Bx.new w4 27 [.string va.o,.string va.nm,.slice va.A va.ll va.cap,.int .i64 va.p]).alloc _)
 obtain⟨q4,q5,q6,q7⟩:=Bx.cells4 (show Bx ((w4.alloc (.cells #[.string va.o,.string va.nm,.slice va.A va.ll va.cap,.int .i64 va.p] 27)).alloc (.cells #[.string vb.o,.string vb.nm,.slice vb.A vb.ll vb.cap,.int .i64 vb.p] 27)) (w4.heap.size+1) 27 [.string vb.o,.string vb.nm,.slice vb.A vb.ll vb.cap,.int .i64 vb.p]from Bx.newAt (by simp) 27 [.string vb.o,.string vb.nm,.slice vb.A vb.ll vb.cap,.int .i64 vb.p])
 clear hb4 hk4 HSD HF0 HR0 HFc HRc HBg HIa HFX HB0 HA0
 obtain⟨f0,f1,f2,f3⟩:=(HR4.out).frozen4
 obtain⟨z0,z1,z2,z3⟩:=(HR4.out).cells4
 have hl:=(HR4.out).lt
 obtain⟨y0,y1,y2,y3⟩:=(Bx.set4 (x0:=.string o) (x1:=.string nm') (x2:=.slice (some ⟨g,0,none⟩) 2 cap) (x3:=.int .i64 p) (HR4.out)).cells4
 have HX9:=Lib.hid (FxR.set4 (k:=0) (x0:=.string o) (x1:=.string nm') (x2:=.slice (some ⟨g,0,none⟩) 2 cap) (x3:=.int .i64 p) (HX4.out) (q:=w.heap.size+1) (.inl (Nat.le_succ _)))
 have HFI:=Lib.hid (show FI ((((((w4.alloc (.cells #[.string va.o,.string va.nm,.slice va.A va.ll va.cap,.int .i64 va.p] 27)).alloc (.cells #[.string vb.o,.string vb.nm,.slice vb.A vb.ll vb.cap,.int .i64 vb.p] 27)).setCell ⟨(w.heap.size+1),0,none⟩ (.string o)).setCell ⟨(w.heap.size+1),1,none⟩ (.string nm')).setCell ⟨(w.heap.size+1),2,none⟩ (.slice (some ⟨g,0,none⟩) 2 cap)).setCell ⟨(w.heap.size+1),3,none⟩ (.int .i64 p)) (smO (.bin op a b pp)) lo hi (FV.c ⟨o,nm',some ⟨g,0,none⟩,2,cap,p⟩)from(by rw[smO,smB,if_neg hop1,if_neg hop2,if_neg hop3,if_neg hop4];exact⟨g,m,cap,va.c,vb.c,by rw[HO.out.1,HO.out.2.1,HO.out.2.2];rfl,hg,hcap,HG4.out.farK (by omega),HI4.out.set4 (.inr (by omega)),HJ4.out.set4 (.inr (by omega))⟩))
 go_wp2
 refine bodyPost_ret (v:=.agg #[.string o,.string nm',.slice (some ⟨g,0,none⟩) 2 cap,.int .i64 p]) (by simp[results,Tryz.results58,go_sem,y0,y1,y2,y3]) rfl ⟨⟨o,nm',some ⟨g,0,none⟩,2,cap,p⟩,rfl,HFI.out,HX9.out⟩
end
end Go.Proofs.YtmgjpjjglghbaaaGreatDoor
