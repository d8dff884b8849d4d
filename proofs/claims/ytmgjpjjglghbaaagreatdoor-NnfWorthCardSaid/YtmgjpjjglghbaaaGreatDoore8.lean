import Derived.Test.YtmgjpjjglghbaaaGreatDoore3
import Derived.Test.YtmgjpjjglghbaaaGreatDoore4
import Derived.Test.YtmgjpjjglghbaaaGreatDoore5
import Derived.Test.YtmgjpjjglghbaaaGreatDoore6
import Derived.Test.YtmgjpjjglghbaaaGreatDoore7
import Derived.Deep.CutBlock
import Derived.Deep.LoopGhost
import Derived.Test.YtmgjpjjglghbaaaGreatDoorb4
namespace Go.Proofs.YtmgjpjjglghbaaaGreatDoor
set_option maxHeartbeats 16000000
set_option maxRecDepth 100000
section
open Go.RowKit
theorem nsm_leaf{op nm:List UInt8}{pp:Nat}(hop0:op≠[88])(hop1:op≠[38])(hop2:op≠[124])(hop3:op≠[85])(hop4:op≠[82]):NsC (.leaf op nm pp):=by
 intro lo hi v w h hh
 obtain⟨hlh,hc⟩:=h
 obtain⟨o,nm',A,ll,cap,p⟩:=v
 simp only[FV.c,strV,List.cons.injEq,Value.string.injEq,Value.slice.injEq,Value.int.injEq,true_and,and_true]at hc
 obtain⟨ho,hnm,⟨rfl,rfl,rfl⟩,hp⟩:=hc
 have t0:(o.toList==[88])=false:=by rw[ho,ByteArray.toList_eq];exact beq_eq_false_iff_ne.2 hop0
 have t1:(o.toList==[38])=false:=by rw[ho,ByteArray.toList_eq];exact beq_eq_false_iff_ne.2 hop1
 have t2:(o.toList==[124])=false:=by rw[ho,ByteArray.toList_eq];exact beq_eq_false_iff_ne.2 hop2
 have t3:(o.toList==[85])=false:=by rw[ho,ByteArray.toList_eq];exact beq_eq_false_iff_ne.2 hop3
 have t4:(o.toList==[82])=false:=by rw[ho,ByteArray.toList_eq];exact beq_eq_false_iff_ne.2 hop4
 have HO:=Lib.hid (And.intro ho (And.intro hnm hp))
 clear ho hnm hp
 have hb0:Below w.heap.size w ((w.alloc (.cells #[.string o,.string nm',.slice none 0 0,.int .i64 p] 27)).alloc (.cells #[.string ⟨#[]⟩,.string ⟨#[]⟩,.slice none 0 0,.int .i64 0] 27)):=below_t (below_alloc _ _) (below_alloc _ _)
 have hF0:Bx ((w.alloc (.cells #[.string o,.string nm',.slice none 0 0,.int .i64 p] 27)).alloc (.cells #[.string ⟨#[]⟩,.string ⟨#[]⟩,.slice none 0 0,.int .i64 0] 27)) w.heap.size 27 [.string o,.string nm',.slice none 0 0,.int .i64 p]:=(Bx.new w 27 [.string o,.string nm',.slice none 0 0,.int .i64 p]).alloc _
 have hR0:Bx ((w.alloc (.cells #[.string o,.string nm',.slice none 0 0,.int .i64 p] 27)).alloc (.cells #[.string ⟨#[]⟩,.string ⟨#[]⟩,.slice none 0 0,.int .i64 0] 27)) (w.heap.size+1) 27 fz:=Bx.newAt (by simp) 27 fz
 have hz0:((w.alloc (.cells #[.string o,.string nm',.slice none 0 0,.int .i64 p] 27)).alloc (.cells #[.string ⟨#[]⟩,.string ⟨#[]⟩,.slice none 0 0,.int .i64 0] 27)).heap.size=w.heap.size+1+1:=by simp
 obtain⟨W0,hW0⟩:∃W,W=((w.alloc (.cells #[.string o,.string nm',.slice none 0 0,.int .i64 p] 27)).alloc (.cells #[.string ⟨#[]⟩,.string ⟨#[]⟩,.slice none 0 0,.int .i64 0] 27)):=⟨_,rfl⟩
 rw[<- hW0]at hF0 hR0 hb0 hz0
 have HW0:=Lib.hid hW0
 have HF0:=Lib.hid hF0
 have HR0:=Lib.hid hR0
 have HBL:=Lib.hid hb0
 have HZ0:=Lib.hid hz0
 clear hb0 hF0 hR0 hW0 hz0
 change Calls Tryz.prog 58 #[.agg #[.string o,.string nm',.slice none 0 0,.int .i64 p]] w _
 go_enter Tryz.func58,Tryz.ntmps58
 go_upto_block 0 with fail
 rw[<- HW0.out]
 go_cut [3,4,10]from 11 to 21 (fun _ _ _ W=>W=W0)
 case first=>
  go_wp2_with fail
  go_loopw [10] (fun i wr=>i= .int .i64 0/\wr=W0) (fun i _=>1 - (intOf i).toNat)
  case atStart=>exact⟨rfl,rfl⟩
  case round=>
   obtain⟨rfl,rfl⟩:=hrel
   go_wp2
   go_meet
   exact rfl
 have hcc:=hcut
 subst hcc
 obtain⟨k0,k1,k2,k3⟩:=HF0.out.cells4
 have HSD:=Lib.hid (sides0 (o:=o) (nm':=nm') (A:=none) (cap:=0) (p':=p) wc)
 go_wp2_with fail
 with_reducible refine(HSD.out).mono ?_
 rintro e w4 ⟨rfl,hb4⟩
 have hk4:Below wc.heap.size wc ((w4.alloc (.cells #[.string ⟨#[]⟩,.string ⟨#[]⟩,.slice none 0 0,.int .i64 0] 27)).alloc (.cells #[.string ⟨#[]⟩,.string ⟨#[]⟩,.slice none 0 0,.int .i64 0] 27)):=below_t hb4 (below_t (below_alloc _ _) (below_alloc _ _))
 have HF4:=Lib.hid (HF0.out.below hk4)
 have HR4:=Lib.hid (HR0.out.below hk4)
 have HX4:=Lib.hid (show FxR lo hi w ((w4.alloc (.cells #[.string ⟨#[]⟩,.string ⟨#[]⟩,.slice none 0 0,.int .i64 0] 27)).alloc (.cells #[.string ⟨#[]⟩,.string ⟨#[]⟩,.slice none 0 0,.int .i64 0] 27))from(Fx.of HBL.out).on hk4)
 obtain⟨k0,k1,k2,k3⟩:=HF4.out.cells4
 clear hb4 hk4
 obtain⟨f0,f1,f2,f3⟩:=(HR4.out).frozen4
 obtain⟨z0,z1,z2,z3⟩:=(HR4.out).cells4
 have hl:=(HR4.out).lt
 obtain⟨y0,y1,y2,y3⟩:=(Bx.set4 (x0:=.string o) (x1:=.string nm') (x2:=.slice none 0 0) (x3:=.int .i64 p) (HR4.out)).cells4
 have HX9:=Lib.hid (FxR.set4 (k:=0) (x0:=.string o) (x1:=.string nm') (x2:=.slice none 0 0) (x3:=.int .i64 p) (HX4.out) (q:=w.heap.size+1) (.inl (Nat.le_succ _)))
 have HFI:=Lib.hid (show FI ((((((w4.alloc (.cells #[.string ⟨#[]⟩,.string ⟨#[]⟩,.slice none 0 0,.int .i64 0] 27)).alloc (.cells #[.string ⟨#[]⟩,.string ⟨#[]⟩,.slice none 0 0,.int .i64 0] 27)).setCell ⟨(w.heap.size+1),0,none⟩ (.string o)).setCell ⟨(w.heap.size+1),1,none⟩ (.string nm')).setCell ⟨(w.heap.size+1),2,none⟩ (.slice none 0 0)).setCell ⟨(w.heap.size+1),3,none⟩ (.int .i64 p)) (smO (.leaf op nm pp)) lo hi (FV.c ⟨o,nm',none,0,0,p⟩)from⟨hlh,by rw[HO.out.1,HO.out.2.1,HO.out.2.2];rfl⟩)
 go_wp2
 refine bodyPost_ret (v:=.agg #[.string o,.string nm',.slice none 0 0,.int .i64 p]) (by simp[results,Tryz.results58,go_sem,y0,y1,y2,y3]) rfl ⟨⟨o,nm',none,0,0,p⟩,rfl,HFI.out,HX9.out⟩
theorem nsm_X{a:Fo}{pp:Nat}(ha:NsC a):NsC (.un [88] a pp):=by
 cases h:isTr (smO a)
 · exact nsm_un_xf ha rfl h
 · exact nsm_un_xt ha rfl h
theorem nsm_all:∀x,OkF x->NsC x:=by
 refine okf_ind ?_ ?_ ?_ ?_ ?_
 · intro p;exact nsm_leaf (by decide) (by decide) (by decide) (by decide) (by decide)
 · intro p;exact nsm_leaf (by decide) (by decide) (by decide) (by decide) (by decide)
 · intro nm p _;exact nsm_leaf (by decide) (by decide) (by decide) (by decide) (by decide)
 · rintro op a p (rfl | rfl | rfl | rfl) - h
   · exact nsm_un_o h (by decide) (by decide) (by decide) (by decide) (by decide)
   · exact nsm_X h
   · exact nsm_un_o h (by decide) (by decide) (by decide) (by decide) (by decide)
   · exact nsm_un_o h (by decide) (by decide) (by decide) (by decide) (by decide)
 · rintro op a c p (rfl | rfl | rfl | rfl | rfl | rfl) - - h1 h2
   · exact nsm_bin_o h1 h2 (by decide) (by decide) (by decide) (by decide) (by decide)
   · exact nsm_bin_or h1 h2 rfl
   · exact nsm_bin_and h1 h2 rfl
   · exact nsm_bin_U h1 h2 rfl
   · exact nsm_bin_o h1 h2 (by decide) (by decide) (by decide) (by decide) (by decide)
   · exact nsm_bin_R h1 h2 rfl
def FvP(y:Fo)(w:World)(e:Ending)(w':World):Prop:=
 ∃v:FV,e= .returned (.tuple #[.agg #[.string v.o,.string v.nm,.slice v.A v.ll v.cap,.int .i64 v.p],.nilIface])/\FI w' y w.heap.size w'.heap.size v.c/\Below w.heap.size w w'
theorem nsimple_any{x:Fo}(hx:OkF x)(hn:isN x=true)(hz:x.size<=4096){S:Nat->Prop}{v:FV}(w:World)(h:FS w 27 S x v.c):Calls Tryz.prog 35 #[.agg #[.string v.o,.string v.nm,.slice v.A v.ll v.cap,.int .i64 v.p]] w (FvP (smO x.bare) w):=by
 have hb0:Below w.heap.size w ((w.alloc (.cells #[.string v.o,.string v.nm,.slice v.A v.ll v.cap,.int .i64 v.p] 27)).alloc (.cells #[.string ⟨#[]⟩,.string ⟨#[]⟩,.slice none 0 0,.int .i64 0] 27)):=below_t (below_alloc _ _) (below_alloc _ _)
 have HIS:=Lib.hid (show Calls Tryz.prog 37 #[.agg #[.string v.o,.string v.nm,.slice v.A v.ll v.cap,.int .i64 v.p]] ((w.alloc (.cells #[.string v.o,.string v.nm,.slice v.A v.ll v.cap,.int .i64 v.p] 27)).alloc (.cells #[.string ⟨#[]⟩,.string ⟨#[]⟩,.slice none 0 0,.int .i64 0] 27)) (BoolP true ((w.alloc (.cells #[.string v.o,.string v.nm,.slice v.A v.ll v.cap,.int .i64 v.p] 27)).alloc (.cells #[.string ⟨#[]⟩,.string ⟨#[]⟩,.slice none 0 0,.int .i64 0] 27)))from hn▸nis_any hx ((w.alloc (.cells #[.string v.o,.string v.nm,.slice v.A v.ll v.cap,.int .i64 v.p] 27)).alloc (.cells #[.string ⟨#[]⟩,.string ⟨#[]⟩,.slice none 0 0,.int .i64 0] 27)) (h.below hb0) (by omega))
 have HFO:=Lib.hid (fun(W:World) (hb:Below ((w.alloc (.cells #[.string v.o,.string v.nm,.slice v.A v.ll v.cap,.int .i64 v.p] 27)).alloc (.cells #[.string ⟨#[]⟩,.string ⟨#[]⟩,.slice none 0 0,.int .i64 0] 27)).heap.size ((w.alloc (.cells #[.string v.o,.string v.nm,.slice v.A v.ll v.cap,.int .i64 v.p] 27)).alloc (.cells #[.string ⟨#[]⟩,.string ⟨#[]⟩,.slice none 0 0,.int .i64 0] 27)) W)=>nformof_any hx (b:=false) W ((h.below hb0).below hb))
 have HR0:=Lib.hid (show Bx ((w.alloc (.cells #[.string v.o,.string v.nm,.slice v.A v.ll v.cap,.int .i64 v.p] 27)).alloc (.cells #[.string ⟨#[]⟩,.string ⟨#[]⟩,.slice none 0 0,.int .i64 0] 27)) (w.heap.size+1) 27 fz from Bx.newAt (by simp) 27 fz)
 have HF0:=Lib.hid (show Bx ((w.alloc (.cells #[.string v.o,.string v.nm,.slice v.A v.ll v.cap,.int .i64 v.p] 27)).alloc (.cells #[.string ⟨#[]⟩,.string ⟨#[]⟩,.slice none 0 0,.int .i64 0] 27)) w.heap.size 27 [.string v.o,.string v.nm,.slice v.A v.ll v.cap,.int .i64 v.p]from(Bx.new w 27 [.string v.o,.string v.nm,.slice v.A v.ll v.cap,.int .i64 v.p]).alloc _)
 have HB0:=Lib.hid hb0
 have hnb:=nO_isN x hx hn
 have HOK:=Lib.hid (show okN x (nO x false)from⟨hz,by rw[hnb,fsize_bare];exact hz⟩)
 have HSM:=Lib.hid (nsm_all x.bare (by rw[<- hnb];exact okf_nO x hx false))
 rw[hnb]at HFO HOK
 generalize x.bare=y at*
 clear hb0 h hx hn hz hnb
 go_enter Tryz.func35,Tryz.ntmps35
 go_wp2_with fail
 with_reducible refine(HIS.out).mono ?_
 rintro e w1 ⟨rfl,hb1⟩
 obtain⟨p0,p1,p2,p3⟩:=Bx.cells4 (show Bx w1 w.heap.size 27 [.string v.o,.string v.nm,.slice v.A v.ll v.cap,.int .i64 v.p]from HF0.out.below hb1)
 have HB1:=Lib.hid hb1
 clear hb1
 go_wp2_with fail
 with_reducible refine(HFO.out _ HB1.out).mono ?_
 rintro e w2 ⟨hb2,⟨-,va,rfl,hi⟩ | ⟨hok,rfl⟩⟩
 · have hf2:=(HF0.out.below HB1.out).below hb2
   have hr2:=(HR0.out.below HB1.out).below hb2
   have hz1:w.heap.size+1<w1.heap.size:=(HR0.out.below HB1.out).lt
   obtain⟨j0,j1,j2,j3⟩:=hf2.frozen4
   obtain⟨i0,i1,i2,i3⟩:=hf2.cells4
   have hfl:=hf2.lt
   have HF3:=Lib.hid (Bx.set4 (x0:=.string va.o) (x1:=.string va.nm) (x2:=.slice va.A va.ll va.cap) (x3:=.int .i64 va.p) hf2)
   have HR3:=Lib.hid (hr2.farK (q:=w.heap.size) (k:=0) (x0:=.string va.o) (x1:=.string va.nm) (x2:=.slice va.A va.ll va.cap) (x3:=.int .i64 va.p) (by omega))
   have HI3:=Lib.hid (FI.set4 (x0:=.string va.o) (x1:=.string va.nm) (x2:=.slice va.A va.ll va.cap) (x3:=.int .i64 va.p) (q:=w.heap.size) hi (.inl (by omega)))
   have HB3:=Lib.hid (below_set4 (x0:=.string va.o) (x1:=.string va.nm) (x2:=.slice va.A va.ll va.cap) (x3:=.int .i64 va.p) (below_t (below_t HB0.out HB1.out) hb2) (q:=w.heap.size) (Nat.le_refl _))
   obtain⟨W3,hW3⟩:∃W,W=((((w2.setCell ⟨w.heap.size,0,none⟩ (.string va.o)).setCell ⟨w.heap.size,1,none⟩ (.string va.nm)).setCell ⟨w.heap.size,2,none⟩ (.slice va.A va.ll va.cap)).setCell ⟨w.heap.size,3,none⟩ (.int .i64 va.p)):=⟨_,rfl⟩
   have hsz:W3.heap.size=w2.heap.size:=by rw[hW3];simp
   have HS3:=Lib.hid (show Calls Tryz.prog 58 #[.agg #[.string va.o,.string va.nm,.slice va.A va.ll va.cap,.int .i64 va.p]] W3 (NsP y w1.heap.size W3.heap.size W3)from HSM.out w1.heap.size W3.heap.size va W3 (by rw[hsz,hW3];exact HI3.out) (Nat.le_refl _))
   rw[<- hW3]at HF3 HR3 HI3 HB3
   obtain⟨p0,p1,p2,p3⟩:=HF3.out.cells4
   have HW3:=Lib.hid hW3
   clear hf2 hr2 hi hb2 hW3 hsz
   go_upto_region 6 with fail
   rw[<- HW3.out]
   go_wp2_with fail
   with_reducible refine(HS3.out).mono ?_
   rintro e w5 ⟨vb,rfl,hi5,hf5⟩
   have hr5:=HR3.out.fxr hf5 (.inl (by omega))
   have hb5:Below w.heap.size w w5:=((Fx.of (X:=fun k=>w1.heap.size<=k/\k<W3.heap.size) HB3.out).trans hf5).below (fun k hk=>by omega)
   obtain⟨f0,f1,f2,f3⟩:=(hr5).frozen4
   obtain⟨z0,z1,z2,z3⟩:=(hr5).cells4
   have hl:=(hr5).lt
   obtain⟨y0,y1,y2,y3⟩:=(Bx.set4 (x0:=.string vb.o) (x1:=.string vb.nm) (x2:=.slice vb.A vb.ll vb.cap) (x3:=.int .i64 vb.p) (hr5)).cells4
   have HB9:=Lib.hid (below_set4 (x0:=.string vb.o) (x1:=.string vb.nm) (x2:=.slice vb.A vb.ll vb.cap) (x3:=.int .i64 vb.p) hb5 (q:=w.heap.size+1) (Nat.le_succ _))
   have HFI:=Lib.hid ((FI.set4 (x0:=.string vb.o) (x1:=.string vb.nm) (x2:=.slice vb.A vb.ll vb.cap) (x3:=.int .i64 vb.p) (q:=w.heap.size+1) hi5 (.inl hz1)).mono (lo':=w.heap.size) (hi':=((((w5.setCell ⟨w.heap.size+1,0,none⟩ (.string vb.o)).setCell ⟨w.heap.size+1,1,none⟩ (.string vb.nm)).setCell ⟨w.heap.size+1,2,none⟩ (.slice vb.A vb.ll vb.cap)).setCell ⟨w.heap.size+1,3,none⟩ (.int .i64 vb.p)).heap.size) (by omega) (by have:=hf5.size;simp;omega))
   clear hr5 hb5 hi5 hf5
   go_wp2
   refine bodyPost_ret (v:=.tuple #[.agg #[.string vb.o,.string vb.nm,.slice vb.A vb.ll vb.cap,.int .i64 vb.p],.nilIface]) (by simp[results,Tryz.results35,go_sem,y0,y1,y2,y3]) rfl ⟨vb,rfl,HFI.out,HB9.out⟩
 · exact absurd HOK.out hok
end
section
open Go.RowKit
theorem nkids_none(s:ByteArray)(w:World)(h:s.toList=[]):Calls Tryz.prog 91 #[.string s] w fun e w'=>e= .returned (.int .i64 (-1))/\w'=w:=by
 have g0:(s.toList==[116,114,117,101])=false:=by rw[h];rfl
 have g1:(s.toList==[102,97,108,115,101])=false:=by rw[h];rfl
 have g2:(s.toList==[108,97,98,101,108])=false:=by rw[h];rfl
 have g3:(s.toList==[33])=false:=by rw[h];rfl
 have g4:(s.toList==[88])=false:=by rw[h];rfl
 have g5:(s.toList==[70])=false:=by rw[h];rfl
 have g6:(s.toList==[71])=false:=by rw[h];rfl
 have g7:(s.toList==[38])=false:=by rw[h];rfl
 have g8:(s.toList==[124])=false:=by rw[h];rfl
 have g9:(s.toList==[61,62])=false:=by rw[h];rfl
 have g10:(s.toList==[85])=false:=by rw[h];rfl
 have g11:(s.toList==[87])=false:=by rw[h];rfl
 have g12:(s.toList==[82])=false:=by rw[h];rfl
 clear h
 go_enter Tryz.func91,Tryz.ntmps91
 go_wp2
 go_ret
 exact⟨rfl,rfl⟩
theorem nright_zero(w:World):Calls Tryz.prog 54 #[.agg #[.string ⟨#[]⟩,.string ⟨#[]⟩,.slice none 0 0,.int .i64 0]] w (BoolP false w):=by
 have HK:=Lib.hid (fun(W:World)=>nkids_none ⟨#[]⟩ W (by rw[ByteArray.toList_eq]))
 obtain⟨o,ho⟩:∃o:ByteArray,o=⟨#[]⟩:=⟨_,rfl⟩
 obtain⟨W0,hW0⟩:∃W0,W0=w.alloc (.cells #[.string o,.string ⟨#[]⟩,.slice none 0 0,.int .i64 0] 27):=⟨_,rfl⟩
 have hbw:Below w.heap.size w W0:=by rw[hW0];exact below_alloc _ _
 have hbx:Bx W0 w.heap.size 27 [.string o,.string ⟨#[]⟩,.slice none 0 0,.int .i64 0]:=by rw[hW0];exact Bx.new _ _ _
 have HSS:=Lib.hid (show ∀W,Below W0.heap.size W0 W->(W.cell? ⟨w.heap.size,0,none⟩=some (.string o)/\W.cell? ⟨w.heap.size,2,none⟩=some (.slice none 0 0))from fun W hW=>⟨((hbx.below hW).cell 0).trans rfl,((hbx.below hW).cell 2).trans rfl⟩)
 have HBW:=Lib.hid hbw
 have hgo:Calls Tryz.prog 54 #[.agg #[.string o,.string ⟨#[]⟩,.slice none 0 0,.int .i64 0]] w (BoolP false w):=by
  rw[<- ho]at HK
  clear ho hbw hbx
  have lk:Below W0.heap.size W0 W0.drew:=(Below.refl _ _).drew
  subst hW0
  go_enter Tryz.func54,Tryz.ntmps54
  go_wp2_with fail
  go_region_held3 (fun w'=>w'.cell? ⟨w.heap.size,0,none⟩=some (.string o)/\w'.cell? ⟨w.heap.size,2,none⟩=some (.slice none 0 0)) (exact HSS.out _ lk) (first
   | (go_at_call 91
      refine(HK.out _).mono ?_
      rintro e w1 ⟨rfl,rfl⟩))
  all_goals
   have HL:=Lib.hid (below_t HBW.out lk)
   clear lk
   go_wp2
   go_ret
   exact⟨rfl,HL.out⟩
 rw[ho]at hgo
 exact hgo
def ZR(w W:World)(v i:Value)(wr:World):Prop:=v= .slice (some ⟨w.heap.size+1,0,none⟩) 1 1/\i= .int .i64 0/\wr=W
theorem area_zero(w:World):Calls Tryz.prog 53 #[.agg #[.string ⟨#[]⟩,.string ⟨#[]⟩,.slice none 0 0,.int .i64 0],.func (.func 54) #[] #[]] w (BoolP false w):=by
 have h1:Bx ((w.alloc (.cells #[.string ⟨#[]⟩,.string ⟨#[]⟩,.slice none 0 0,.int .i64 0] 27)).alloc (.cells #[.string ⟨#[]⟩,.string ⟨#[]⟩,.slice none 0 0,.int .i64 0] 27)) (w.heap.size+1) 27 [.string ⟨#[]⟩,.string ⟨#[]⟩,.slice none 0 0,.int .i64 0]:=Bx.newAt (by simp) 27 [.string ⟨#[]⟩,.string ⟨#[]⟩,.slice none 0 0,.int .i64 0]
 have hbl:Below w.heap.size w ((w.alloc (.cells #[.string ⟨#[]⟩,.string ⟨#[]⟩,.slice none 0 0,.int .i64 0] 27)).alloc (.cells #[.string ⟨#[]⟩,.string ⟨#[]⟩,.slice none 0 0,.int .i64 0] 27)):=below_t (below_alloc _ _) (below_alloc _ _)
 obtain⟨W0,hW0⟩:∃W0,W0=(w.alloc (.cells #[.string ⟨#[]⟩,.string ⟨#[]⟩,.slice none 0 0,.int .i64 0] 27)).alloc (.cells #[.string ⟨#[]⟩,.string ⟨#[]⟩,.slice none 0 0,.int .i64 0] 27):=⟨_,rfl⟩
 rw[<- hW0]at h1 hbl
 have HW:=Lib.hid hW0
 have HBL:=Lib.hid hbl
 have HX:=Lib.hid h1
 have HRT:=Lib.hid (nright_zero (W0.alloc (.cells #[.string ⟨#[]⟩,.string ⟨#[]⟩,.slice none 0 0,.int .i64 0] 27)))
 clear h1 hbl hW0
 go_enter Tryz.func53,Tryz.ntmps53
 go_wp2
 go_loopw [5,6] (fun v i wr=>ZR w W0 v i wr) (fun _ i _=>1 - (intOf i).toNat)
 case atStart=>exact⟨rfl,rfl,HW.out.symm⟩
 case round=>
  obtain⟨rfl,rfl,rfl⟩:=hrel
  obtain⟨c0,c1,c2,c3⟩:=HX.out.cells4
  go_wp2_with fail
  with_reducible refine(HRT.out).mono ?_
  rintro e w1 ⟨rfl,hb⟩
  have HB:=Lib.hid (below_t HBL.out (below_t (below_alloc _ _) hb))
  clear hb
  go_wp2
  go_ret
  exact⟨rfl,HB.out⟩
theorem nnormal_zero{b:Bool}(w:World):Calls Tryz.prog 30 #[.agg #[.string ⟨#[]⟩,.string ⟨#[]⟩,.slice none 0 0,.int .i64 0],.bool b] w fun e w'=>e= .returned (.tuple #[.agg #[.string ⟨#[]⟩,.string ⟨#[]⟩,.slice none 0 0,.int .i64 0],.iface 78 (.int .i64 1)])/\Below w.heap.size w w':=by
 have hb0:Below w.heap.size w ((w.alloc (.cells #[.string ⟨#[]⟩,.string ⟨#[]⟩,.slice none 0 0,.int .i64 0] 27)).alloc (.cells #[.string ⟨#[]⟩,.string ⟨#[]⟩,.slice none 0 0,.int .i64 0] 27)):=below_t (below_alloc _ _) (below_alloc _ _)
 have HAR:=Lib.hid (area_zero ((w.alloc (.cells #[.string ⟨#[]⟩,.string ⟨#[]⟩,.slice none 0 0,.int .i64 0] 27)).alloc (.cells #[.string ⟨#[]⟩,.string ⟨#[]⟩,.slice none 0 0,.int .i64 0] 27)))
 have HR0:=Lib.hid (show Bx ((w.alloc (.cells #[.string ⟨#[]⟩,.string ⟨#[]⟩,.slice none 0 0,.int .i64 0] 27)).alloc (.cells #[.string ⟨#[]⟩,.string ⟨#[]⟩,.slice none 0 0,.int .i64 0] 27)) (w.heap.size+1) 27 fz from Bx.newAt (by simp) 27 fz)
 have HB0:=Lib.hid hb0
 clear hb0
 go_enter Tryz.func30,Tryz.ntmps30
 go_wp2_with fail
 with_reducible refine(HAR.out).mono ?_
 rintro e w1 ⟨rfl,hb1⟩
 have hres:=HR0.out.below hb1
 obtain⟨f0,f1,f2,f3⟩:=(hres).frozen4
 obtain⟨z0,z1,z2,z3⟩:=(hres).cells4
 have hl:=(hres).lt
 obtain⟨y0,y1,y2,y3⟩:=(Bx.set4 (x0:=.string ⟨#[]⟩) (x1:=.string ⟨#[]⟩) (x2:=.slice none 0 0) (x3:=.int .i64 0) (hres)).cells4
 have HB9:=Lib.hid (below_set4 (x0:=.string ⟨#[]⟩) (x1:=.string ⟨#[]⟩) (x2:=.slice none 0 0) (x3:=.int .i64 0) (below_t HB0.out hb1) (q:=w.heap.size+1) (Nat.le_succ _))
 clear hb1 hres
 go_wp2
 refine bodyPost_ret (v:=.tuple #[.agg #[.string ⟨#[]⟩,.string ⟨#[]⟩,.slice none 0 0,.int .i64 0],.iface 78 (.int .i64 1)]) (by simp[results,Tryz.results30,go_sem,y0,y1,y2,y3]) rfl ⟨rfl,HB9.out⟩
theorem n0_bare(f:Fo)(h:OkF f)(b:Bool):(nO f b).bare=nO f b:=by
 rw[<- nO_isN _ (okf_nO f h b) (isN_nO f h b),nO_nO f h,Bool.xor_false]
theorem sm_bare:∀x:Fo,x.bare=x->(smO x).bare=smO x
 | .leaf op nm p,h=>h
 | .un op a p,h=>by
   simp only[Fo.bare,Fo.un.injEq,true_and]at h
   rw[smO]
   split
   · exact sm_bare a h.1
   · rw[Fo.bare,sm_bare a h.1,h.2]
 | .bin op a b p,h=>by
   simp only[Fo.bare,Fo.bin.injEq,true_and]at h
   rw[smO]
   rcases smB_one op (smO a) (smO b) p with g | g | g<;>rw[g]
   · exact sm_bare a h.1
   · exact sm_bare b h.2.1
   · rw[Fo.bare,sm_bare a h.1,sm_bare b h.2.1,h.2.2]
def xA:Fo:=nO fA false
theorem xA_tl:tlF xA=[102,97,108,115,101,32,82,32,40,33,34,97,34,32,124,32,116,114,117,101,32,85,32,34,98,34,41]:=by decide +kernel
theorem fA_notN:isN fA=false:=by decide +kernel
theorem fA_size:fA.size<=4096:=by decide +kernel
theorem xA_size:xA.size<=4096:=by decide +kernel
theorem nalive_yes(w:World)(hG:GlobS w):Calls Tryz.prog 29 #[] w (LawF w):=by
 have HG:=Lib.hid hG
 have HPS:=Lib.hid (show Calls Tryz.prog 12 #[.string ⟨#[71,32,40,34,97,34,32,61,62,32,70,32,34,98,34,41]⟩,.int .i64 9] w (PFQ (.ok fA) w)from fA_ok▸pparse_any (s:=⟨#[71,32,40,34,97,34,32,61,62,32,70,32,34,98,34,41]⟩) (D:=9) w hG (by decide) (by decide) (by decide))
 have HNO:=Lib.hid (fun(W:World) (v:FV) (h:FS W 27 TT fA v.c)=>nnormal_any fA_okF (Nat.le_trans fA_size (by decide)) (b:=false) W h)
 have HOK:=Lib.hid (show okN fA (nO fA false)from⟨fA_size,xA_size⟩)
 have HNZ:=Lib.hid (fun(W:World)=>nnormal_zero (b:=false) W)
 have HPR:=Lib.hid (fun(W:World) (v:FV) (S:Nat->Prop) (h:FS W 27 S (nO fA false) v.c)=>show Calls Tryz.prog 52 #[.agg #[.string v.o,.string v.nm,.slice v.A v.ll v.cap,.int .i64 v.p]] W (fun e w'=>e= .returned (.string ⟨#[102,97,108,115,101,32,82,32,40,33,34,97,34,32,124,32,116,114,117,101,32,85,32,34,98,34,41]⟩)/\Below W.heap.size W w')from by
  have hp:=fprint_any (okf_nO fA fA_okF false) W (show FS W 27 S (nO fA false) (FV.c ⟨v.o,v.nm,v.A,v.ll,v.cap,v.p⟩)from h) (by show(tlF xA).length<=1000000;rw[xA_tl];decide)
  rw[show tlF (nO fA false)=_ from xA_tl]at hp
  exact hp)
 have HI1:=Lib.hid (fun(W:World) (v:FV) (S:Nat->Prop) (h:FS W 27 S (nO fA false) v.c)=>show Calls Tryz.prog 37 #[.agg #[.string v.o,.string v.nm,.slice v.A v.ll v.cap,.int .i64 v.p]] W (BoolP true W)from isN_nO fA fA_okF false▸nis_any (okf_nO fA fA_okF false) W h (Nat.le_trans xA_size (by decide)))
 have HI2:=Lib.hid (fun(W:World) (v:FV) (h:FS W 27 TT fA v.c)=>show Calls Tryz.prog 37 #[.agg #[.string v.o,.string v.nm,.slice v.A v.ll v.cap,.int .i64 v.p]] W (BoolP false W)from fA_notN▸nis_any fA_okF W h (Nat.le_trans fA_size (by decide)))
 have HNM:=Lib.hid (fun(W:World) (hb:Below w.heap.size w W)=>num_errno 1 W (hG.below hb).glob)
 clear hG
 go_enter Tryz.func29,Tryz.ntmps29
 go_wp2_with fail
 with_reducible refine(HPS.out).mono ?_
 rintro e w1 hq
 obtain⟨vf,rfl,hf,hb1⟩:=hq.yes
 have HB2:=Lib.hid (hb1.alloc hb1.size (.cells #[.string vf.o,.string vf.nm,.slice vf.A vf.ll vf.cap,.int .i64 vf.p] 27))
 have HF2:=Lib.hid (FB.new hf)
 clear hq hf hb1
 obtain⟨p0,p1,p2,p3⟩:=HF2.out.bx.cells4
 go_wp2_with fail
 with_reducible refine(HNO.out _ _ HF2.out.fs).mono ?_
 rintro e w3 ⟨hb3,⟨-,vx,rfl,hx⟩ | ⟨hok,rfl⟩⟩
 · have hk:=below_alloc w3 (.cells #[.string vx.o,.string vx.nm,.slice vx.A vx.ll vx.cap,.int .i64 vx.p] 27)
   have HF4:=Lib.hid ((HF2.out.below hb3).below hk)
   have HB4:=Lib.hid (below_t (below_t HB2.out hb3) hk)
   have HX4:=Lib.hid (FB.new (FS.wide (T:=TT) (fun _ _ _=>trivial) hx.fs))
   clear hb3 hx hk
   go_wp2_with fail
   with_reducible refine(HNZ.out _).mono ?_
   rintro e w5 ⟨rfl,hb5⟩
   have hk:=below_alloc w5 (.cells #[.string ⟨#[]⟩,.string ⟨#[]⟩,.slice none 0 0,.int .i64 0] 27)
   have HF6:=Lib.hid ((HF4.out.below hb5).below hk)
   have HX6:=Lib.hid ((HX4.out.below hb5).below hk)
   have HB6:=Lib.hid (below_t (below_t HB4.out hb5) hk)
   clear hb5 hk
   obtain⟨p0,p1,p2,p3⟩:=HF6.out.bx.cells4
   obtain⟨x0,x1,x2,x3⟩:=HX6.out.bx.cells4
   go_wp2_with fail
   with_reducible refine(HPR.out _ _ _ HX6.out.fs).mono ?_
   rintro e w7 ⟨rfl,hb7⟩
   have HF7:=Lib.hid (HF6.out.below hb7)
   have HX7:=Lib.hid (HX6.out.below hb7)
   have HB7:=Lib.hid (below_t HB6.out hb7)
   clear hb7
   obtain⟨p0,p1,p2,p3⟩:=HF7.out.bx.cells4
   obtain⟨x0,x1,x2,x3⟩:=HX7.out.bx.cells4
   go_wp2_with fail
   with_reducible refine(HI1.out _ _ _ HX7.out.fs).mono ?_
   rintro e w8 ⟨rfl,hb8⟩
   have HF8:=Lib.hid (HF7.out.below hb8)
   have HB8:=Lib.hid (below_t HB7.out hb8)
   clear hb8
   obtain⟨p0,p1,p2,p3⟩:=HF8.out.bx.cells4
   go_wp2_with fail
   with_reducible refine(HI2.out _ _ HF8.out.fs).mono ?_
   rintro e w9 ⟨rfl,hb9⟩
   have HB9:=Lib.hid (below_t HB8.out hb9)
   clear hb9
   go_wp2_with fail
   with_reducible refine(HNM.out _ HB9.out).mono ?_
   rintro e wa ⟨rfl,hba⟩
   have HBA:=Lib.hid (below_t HB9.out hba)
   clear hba
   go_wp2
   go_ret
   exact⟨rfl,HBA.out⟩
 · exact absurd HOK.out hok
end
end Go.Proofs.YtmgjpjjglghbaaaGreatDoor
