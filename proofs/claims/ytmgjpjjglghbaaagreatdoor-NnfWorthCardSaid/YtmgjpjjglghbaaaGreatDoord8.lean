import Derived.Test.YtmgjpjjglghbaaaGreatDoord4
namespace Go.Proofs.YtmgjpjjglghbaaaGreatDoor
set_option maxHeartbeats 16000000
set_option maxRecDepth 100000
section
open Go.RowKit
theorem nf_imp_f{L R:Fo}{p:Nat}(hl:FMC (.un [33] L 0))(hr:FMC R)(zl:(Fo.un [33] L 0).size<=4096)(zr:R.size<=4096)(ol:OkF (.un [33] L 0)){n q:Nat}{S:Nat->Prop}{v:FV}(w:World)(h:FS w 27 S (.bin [61,62] L R p) v.c)(hop:v.o.toList=[61,62])(hb:Bx w q 136 [.int .i64 (n:Int)])(hn:n<=4096):
 Calls Tryz.prog 92 #[.pointer (some ⟨q,0,none⟩),.agg #[.string v.o,.string v.nm,.slice v.A v.ll v.cap,.int .i64 v.p],.bool false] w (NfP (.bin [124] (nO (.un [33] L 0) false) (nO R false) 0) (cM R false (cM (.un [33] L 0) false n)+1) q (Fits (n+(nO (.un [33] L 0) false).size+(nO R false).size+1)) w):=by
 have hql:=hb.lt
 have g0:(v.o.toList==[116,114,117,101])=false:=by rw[hop];rfl
 have g1:(v.o.toList==[102,97,108,115,101])=false:=by rw[hop];rfl
 have g2:(v.o.toList==[108,97,98,101,108])=false:=by rw[hop];rfl
 have g3:(v.o.toList==[33])=false:=by rw[hop];rfl
 have g4:(v.o.toList==[88])=false:=by rw[hop];rfl
 have g5:(v.o.toList==[61,62])=true:=by rw[hop];rfl
 have hb0:Below w.heap.size w ((w.alloc (.cells #[.string v.o,.string v.nm,.slice v.A v.ll v.cap,.int .i64 v.p] 27)).alloc (.cells #[.string ⟨#[]⟩,.string ⟨#[]⟩,.slice none 0 0,.int .i64 0] 27)):=below_t (below_alloc _ _) (below_alloc _ _)
 have HFU:=Lib.hid (show Calls Tryz.prog 93 #[.pointer (some ⟨q,0,none⟩)] ((w.alloc (.cells #[.string v.o,.string v.nm,.slice v.A v.ll v.cap,.int .i64 v.p] 27)).alloc (.cells #[.string ⟨#[]⟩,.string ⟨#[]⟩,.slice none 0 0,.int .i64 0] 27)) (fun e w'=>e= .returned (.bool false)/\w'=((w.alloc (.cells #[.string v.o,.string v.nm,.slice v.A v.ll v.cap,.int .i64 v.p] 27)).alloc (.cells #[.string ⟨#[]⟩,.string ⟨#[]⟩,.slice none 0 0,.int .i64 0] 27)))from decide_eq_false (show ¬4096<n by omega)▸nfull_any _ (hb.below hb0))
 have HSD:=Lib.hid (sides_any ((w.alloc (.cells #[.string v.o,.string v.nm,.slice v.A v.ll v.cap,.int .i64 v.p] 27)).alloc (.cells #[.string ⟨#[]⟩,.string ⟨#[]⟩,.slice none 0 0,.int .i64 0] 27)) (h.below hb0))
 have HR0:=Lib.hid (show Bx ((w.alloc (.cells #[.string v.o,.string v.nm,.slice v.A v.ll v.cap,.int .i64 v.p] 27)).alloc (.cells #[.string ⟨#[]⟩,.string ⟨#[]⟩,.slice none 0 0,.int .i64 0] 27)) (w.heap.size+1) 27 fz from Bx.newAt (by simp) 27 fz)
 have HF0:=Lib.hid (show Bx ((w.alloc (.cells #[.string v.o,.string v.nm,.slice v.A v.ll v.cap,.int .i64 v.p] 27)).alloc (.cells #[.string ⟨#[]⟩,.string ⟨#[]⟩,.slice none 0 0,.int .i64 0] 27)) w.heap.size 27 [.string v.o,.string v.nm,.slice v.A v.ll v.cap,.int .i64 v.p]from(Bx.new w 27 [.string v.o,.string v.nm,.slice v.A v.ll v.cap,.int .i64 v.p]).alloc _)
 have HB0:=Lib.hid hb0
 have HB:=Lib.hid hb
 have hz0:((w.alloc (.cells #[.string v.o,.string v.nm,.slice v.A v.ll v.cap,.int .i64 v.p] 27)).alloc (.cells #[.string ⟨#[]⟩,.string ⟨#[]⟩,.slice none 0 0,.int .i64 0] 27)).heap.size=w.heap.size+1+1:=by simp
 have HV:=Lib.hid h
 clear hb0 h hb hop
 go_enter Tryz.func92,Tryz.ntmps92
 go_wp2_with fail
 with_reducible refine(HFU.out).mono ?_
 rintro e w1 ⟨rfl,rfl⟩
 go_wp2_with fail
 with_reducible refine(HSD.out).mono ?_
 rintro e w2 ⟨a,b,rfl,ha,hb,hb2⟩
 have HZ0:=Lib.hid hb2.size
 have hz2:w.heap.size+1<w2.heap.size:=by have:=hb2.size;omega
 have hk2:=below_t HB0.out hb2
 have HS:=Lib.hid (show FmS w w2.heap.size a b ((w2.alloc (.cells #[.string a.o,.string a.nm,.slice a.A a.ll a.cap,.int .i64 a.p] 27)).alloc (.cells #[.string b.o,.string b.nm,.slice b.A b.ll b.cap,.int .i64 b.p] 27))from⟨below_t hk2 (below_t (below_alloc _ _) (below_alloc _ _)),(HR0.out.below hb2).below (below_t (below_alloc _ _) (below_alloc _ _)),(Bx.new w2 27 [.string a.o,.string a.nm,.slice a.A a.ll a.cap,.int .i64 a.p]).alloc _,Bx.newAt (by simp) 27 [.string b.o,.string b.nm,.slice b.A b.ll b.cap,.int .i64 b.p],hz2⟩)
 have HKA:=Lib.hid (show Below (((w.alloc (.cells #[.string v.o,.string v.nm,.slice v.A v.ll v.cap,.int .i64 v.p] 27)).alloc (.cells #[.string ⟨#[]⟩,.string ⟨#[]⟩,.slice none 0 0,.int .i64 0] 27))).heap.size (((w.alloc (.cells #[.string v.o,.string v.nm,.slice v.A v.ll v.cap,.int .i64 v.p] 27)).alloc (.cells #[.string ⟨#[]⟩,.string ⟨#[]⟩,.slice none 0 0,.int .i64 0] 27))) ((w2.alloc (.cells #[.string a.o,.string a.nm,.slice a.A a.ll a.cap,.int .i64 a.p] 27)).alloc (.cells #[.string b.o,.string b.nm,.slice b.A b.ll b.cap,.int .i64 b.p] 27))from below_t hb2 (below_t (below_alloc _ _) (below_alloc _ _)))
 have HA:=Lib.hid (kid_wide (T:=T7 w2.heap.size) ha (fun k hk=>by have:=HZ0.out;unfold T7;omega))
 have HBB:=Lib.hid (kid_wide (T:=T7 w2.heap.size) hb (fun k hk=>by have:=HZ0.out;unfold T7;omega))
 obtain⟨k0,k1, -, -⟩:=Bx.cells4 (show Bx ((w2.alloc (.cells #[.string a.o,.string a.nm,.slice a.A a.ll a.cap,.int .i64 a.p] 27)).alloc (.cells #[.string b.o,.string b.nm,.slice b.A b.ll b.cap,.int .i64 b.p] 27)) w.heap.size 27 [.string v.o,.string v.nm,.slice v.A v.ll v.cap,.int .i64 v.p]from HF0.out.below HKA.out)
 clear hb2 hk2 ha hb HFU HSD HR0 HB0 hz0 HV HF0
 have HOF:=Lib.hid (fun(W:World) (g:Nat)=>nof_any (o:=⟨#[33]⟩) (A:=some ⟨g,0,none⟩) (l:=1) (cap:=1) W)
 have HS3:=Lib.hid (HS.out.below (below_alloc ((w2.alloc (.cells #[.string a.o,.string a.nm,.slice a.A a.ll a.cap,.int .i64 a.p] 27)).alloc (.cells #[.string b.o,.string b.nm,.slice b.A b.ll b.cap,.int .i64 b.p] 27)) (.cells #[.string a.o,.string a.nm,.slice a.A a.ll a.cap,.int .i64 a.p] 27)))
 have HG3:=Lib.hid (show Bx (((w2.alloc (.cells #[.string a.o,.string a.nm,.slice a.A a.ll a.cap,.int .i64 a.p] 27)).alloc (.cells #[.string b.o,.string b.nm,.slice b.A b.ll b.cap,.int .i64 b.p] 27)).alloc (.cells #[.string a.o,.string a.nm,.slice a.A a.ll a.cap,.int .i64 a.p] 27)) (w2.heap.size+1+1) 27 a.c from Bx.newAt (by simp) 27 a.c)
 have HL3:=Lib.hid ((FS.below HA.out HKA.out).below (below_alloc ((w2.alloc (.cells #[.string a.o,.string a.nm,.slice a.A a.ll a.cap,.int .i64 a.p] 27)).alloc (.cells #[.string b.o,.string b.nm,.slice b.A b.ll b.cap,.int .i64 b.p] 27)) (.cells #[.string a.o,.string a.nm,.slice a.A a.ll a.cap,.int .i64 a.p] 27)))
 have HR3:=Lib.hid ((FS.below HBB.out HKA.out).below (below_alloc ((w2.alloc (.cells #[.string a.o,.string a.nm,.slice a.A a.ll a.cap,.int .i64 a.p] 27)).alloc (.cells #[.string b.o,.string b.nm,.slice b.A b.ll b.cap,.int .i64 b.p] 27)) (.cells #[.string a.o,.string a.nm,.slice a.A a.ll a.cap,.int .i64 a.p] 27)))
 obtain⟨p0,p1,p2,p3⟩:=Bx.cells4 (show Bx ((w2.alloc (.cells #[.string a.o,.string a.nm,.slice a.A a.ll a.cap,.int .i64 a.p] 27)).alloc (.cells #[.string b.o,.string b.nm,.slice b.A b.ll b.cap,.int .i64 b.p] 27)) w2.heap.size 27 [.string a.o,.string a.nm,.slice a.A a.ll a.cap,.int .i64 a.p]from HS.out.l)
 go_wp2_with fail
 with_reducible refine(HOF.out _ _).mono ?_
 rintro e w4 ⟨rfl,hb4⟩
 have hs4:=HS3.out.below hb4
 have HS5:=Lib.hid (show FmS w w2.heap.size (⟨⟨#[33]⟩,⟨#[]⟩,some ⟨w2.heap.size+1+1,0,none⟩,1,1,0⟩:FV) b ((((w4.setCell ⟨w2.heap.size,0,none⟩ (.string ⟨#[33]⟩)).setCell ⟨w2.heap.size,1,none⟩ (.string ⟨#[]⟩)).setCell ⟨w2.heap.size,2,none⟩ (.slice (some ⟨w2.heap.size+1+1,0,none⟩) 1 1)).setCell ⟨w2.heap.size,3,none⟩ (.int .i64 0))from hs4.left (lv':=(⟨⟨#[33]⟩,⟨#[]⟩,some ⟨w2.heap.size+1+1,0,none⟩,1,1,0⟩:FV)))
 have hg4:=HG3.out.below hb4
 have hg5:=(((hg4.far (p:=⟨w2.heap.size,0,none⟩) (by simp;omega) (.string ⟨#[33]⟩)).far (p:=⟨w2.heap.size,1,none⟩) (by simp;omega) (.string ⟨#[]⟩)).far (p:=⟨w2.heap.size,2,none⟩) (by simp;omega) (.slice (some ⟨(w2.heap.size+1+1),0,none⟩) 1 1)).far (p:=⟨w2.heap.size,3,none⟩) (by simp;omega) (.int .i64 0)
 have HL5:=Lib.hid (show FS ((((w4.setCell ⟨w2.heap.size,0,none⟩ (.string ⟨#[33]⟩)).setCell ⟨w2.heap.size,1,none⟩ (.string ⟨#[]⟩)).setCell ⟨w2.heap.size,2,none⟩ (.slice (some ⟨w2.heap.size+1+1,0,none⟩) 1 1)).setCell ⟨w2.heap.size,3,none⟩ (.int .i64 0)) 27 (T7 w2.heap.size) (.un [33] L 0) (FV.c (⟨⟨#[33]⟩,⟨#[]⟩,some ⟨w2.heap.size+1+1,0,none⟩,1,1,0⟩:FV))from⟨(w2.heap.size+1+1),1,a.c,rfl,⟨by unfold T7;omega,_,hg5,fun j u hu=>by simpa using hu⟩,FS.set4 (HL3.out.below hb4) t7_l⟩)
 have HR5:=Lib.hid (show FS ((((w4.setCell ⟨w2.heap.size,0,none⟩ (.string ⟨#[33]⟩)).setCell ⟨w2.heap.size,1,none⟩ (.string ⟨#[]⟩)).setCell ⟨w2.heap.size,2,none⟩ (.slice (some ⟨w2.heap.size+1+1,0,none⟩) 1 1)).setCell ⟨w2.heap.size,3,none⟩ (.int .i64 0)) 27 (T7 w2.heap.size) R b.c from FS.set4 (HR3.out.below hb4) t7_l)
 obtain⟨f0,f1,f2,f3⟩:=Bx.frozen4 (show Bx w4 w2.heap.size 27 [.string a.o,.string a.nm,.slice a.A a.ll a.cap,.int .i64 a.p]from hs4.l)
 obtain⟨z0,z1,z2,z3⟩:=Bx.cells4 (show Bx w4 w2.heap.size 27 [.string a.o,.string a.nm,.slice a.A a.ll a.cap,.int .i64 a.p]from hs4.l)
 have hl4:=hs4.l.lt
 clear hs4 hg4 hg5 hb4
 go_upto_region 24 with fail
 obtain⟨w5,hw5⟩:∃W,W=((((w4.setCell ⟨w2.heap.size,0,none⟩ (.string ⟨#[33]⟩)).setCell ⟨w2.heap.size,1,none⟩ (.string ⟨#[]⟩)).setCell ⟨w2.heap.size,2,none⟩ (.slice (some ⟨w2.heap.size+1+1,0,none⟩) 1 1)).setCell ⟨w2.heap.size,3,none⟩ (.int .i64 0)):=⟨_,rfl⟩
 have HS6:=Lib.hid (show FmS w w2.heap.size (⟨⟨#[33]⟩,⟨#[]⟩,some ⟨w2.heap.size+1+1,0,none⟩,1,1,0⟩:FV) b w5 from hw5▸HS5.out)
 have HL6:=Lib.hid (show FS w5 27 (T7 w2.heap.size) (.un [33] L 0) (FV.c (⟨⟨#[33]⟩,⟨#[]⟩,some ⟨w2.heap.size+1+1,0,none⟩,1,1,0⟩:FV))from hw5▸HL5.out)
 have HR6:=Lib.hid (hw5▸HR5.out)
 rw[<- hw5]
 clear HS5 HL5 HR5 HS3 HG3 HL3 HR3 hw5 f0 f1 f2 f3 z0 z1 z2 z3 hl4 p0 p1 p2 p3 k0 k1
 obtain⟨lv,hlv⟩:∃lv:FV,lv=(⟨⟨#[33]⟩,⟨#[]⟩,some ⟨w2.heap.size+1+1,0,none⟩,1,1,0⟩:FV):=⟨_,rfl⟩
 rw[<- hlv]at HS6 HL6
 clear hlv
 have HT:=Lib.hid (fun(W':World) (hb:Below w5.heap.size w5 W')=>ntwo_any (o:=⟨#[124]⟩) (b:=false) hl hr zl zr ol W' (FS.below HL6.out hb) (FS.below HR6.out hb) ((HB.out.below HS6.out.fr).below hb) hn)
 have HE:=Lib.hid (fun(W:World)=>neither_any (b:=false) (s:=⟨#[124]⟩) (t:=⟨#[38]⟩) W)
 have lk:FmS w w2.heap.size lv b w5.drew:=HS6.out.drew
 have lb:Below w5.heap.size w5 w5.drew:=(Below.refl _ _).drew
 go_region_held3 (fun w'=>w'.cell? ⟨w2.heap.size,0,none⟩=some (.string lv.o)/\w'.cell? ⟨w2.heap.size,1,none⟩=some (.string lv.nm)/\w'.cell? ⟨w2.heap.size,2,none⟩=some (.slice lv.A lv.ll lv.cap)/\w'.cell? ⟨w2.heap.size,3,none⟩=some (.int .i64 lv.p)/\w'.cell? ⟨w2.heap.size+1,0,none⟩=some (.string b.o)/\w'.cell? ⟨w2.heap.size+1,1,none⟩=some (.string b.nm)/\w'.cell? ⟨w2.heap.size+1,2,none⟩=some (.slice b.A b.ll b.cap)/\w'.cell? ⟨w2.heap.size+1,3,none⟩=some (.int .i64 b.p)) (first | exact FmS.cells lk | exact HC3.out | exact HC4.out) (first
  | (go_at_call 126
     with_reducible refine(HE.out _).mono ?_
     rintro e w5 ⟨rfl,rfl⟩)
  | (go_at_call 129
     with_reducible refine(HT.out _ lb).mono ?_
     rintro e w3 ⟨vr,rfl,hf3,hb3,hi3⟩
     have hx3:=lk.fx hf3 hql
     have HC3:=Lib.hid (show(fun w':World=>w'.cell? ⟨w2.heap.size,0,none⟩=some (.string lv.o)/\w'.cell? ⟨w2.heap.size,1,none⟩=some (.string lv.nm)/\w'.cell? ⟨w2.heap.size,2,none⟩=some (.slice lv.A lv.ll lv.cap)/\w'.cell? ⟨w2.heap.size,3,none⟩=some (.int .i64 lv.p)/\w'.cell? ⟨w2.heap.size+1,0,none⟩=some (.string b.o)/\w'.cell? ⟨w2.heap.size+1,1,none⟩=some (.string b.nm)/\w'.cell? ⟨w2.heap.size+1,2,none⟩=some (.slice b.A b.ll b.cap)/\w'.cell? ⟨w2.heap.size+1,3,none⟩=some (.int .i64 b.p)) w3 from by
      obtain⟨a0,a1,a2,a3⟩:=Bx.cells4 (show Bx w3 w2.heap.size 27 [.string lv.o,.string lv.nm,.slice lv.A lv.ll lv.cap,.int .i64 lv.p]from hx3.2.1)
      obtain⟨a4,a5,a6,a7⟩:=Bx.cells4 (show Bx w3 (w2.heap.size+1) 27 [.string b.o,.string b.nm,.slice b.A b.ll b.cap,.int .i64 b.p]from hx3.2.2)
      exact⟨a0,a1,a2,a3,a4,a5,a6,a7⟩)
     have HC4:=Lib.hid (lk.set (x0:=.string vr.o) (x1:=.string vr.nm) (x2:=.slice vr.A vr.ll vr.cap) (x3:=.int .i64 vr.p) hx3)
     obtain⟨f0,f1,f2,f3⟩:=hx3.1.frozen4
     obtain⟨z0,z1,z2,z3⟩:=hx3.1.cells4
     have hl3:=hx3.1.lt
     have HY:=Lib.hid (Bx.set4 (x0:=.string vr.o) (x1:=.string vr.nm) (x2:=.slice vr.A vr.ll vr.cap) (x3:=.int .i64 vr.p) hx3.1).cells4
     have HEN:=Lib.hid (fi_end (r:=w.heap.size+1) (lk.fr) hql (Nat.le_succ _) (by have:=lk.r.lt;exact this) hf3 hb3 hi3)
     clear hf3 hb3 hi3 hx3))
 obtain⟨y0,y1,y2,y3⟩:=HY.out
 go_wp2
 refine bodyPost_ret (v:=.agg #[.string vr.o,.string vr.nm,.slice vr.A vr.ll vr.cap,.int .i64 vr.p]) (by simp[results,Tryz.results92,go_sem,y0,y1,y2,y3]) rfl HEN.out
theorem nf_imp_t{L R:Fo}{p:Nat}(hl:FMC (.un [33] L 0))(hr:FMC R)(zl:(Fo.un [33] L 0).size<=4096)(zr:R.size<=4096)(ol:OkF (.un [33] L 0)){n q:Nat}{S:Nat->Prop}{v:FV}(w:World)(h:FS w 27 S (.bin [61,62] L R p) v.c)(hop:v.o.toList=[61,62])(hb:Bx w q 136 [.int .i64 (n:Int)])(hn:n<=4096):
 Calls Tryz.prog 92 #[.pointer (some ⟨q,0,none⟩),.agg #[.string v.o,.string v.nm,.slice v.A v.ll v.cap,.int .i64 v.p],.bool true] w (NfP (.bin [38] (nO (.un [33] L 0) true) (nO R true) 0) (cM R true (cM (.un [33] L 0) true n)+1) q (Fits (n+(nO (.un [33] L 0) true).size+(nO R true).size+1)) w):=by
 have hql:=hb.lt
 have g0:(v.o.toList==[116,114,117,101])=false:=by rw[hop];rfl
 have g1:(v.o.toList==[102,97,108,115,101])=false:=by rw[hop];rfl
 have g2:(v.o.toList==[108,97,98,101,108])=false:=by rw[hop];rfl
 have g3:(v.o.toList==[33])=false:=by rw[hop];rfl
 have g4:(v.o.toList==[88])=false:=by rw[hop];rfl
 have g5:(v.o.toList==[61,62])=true:=by rw[hop];rfl
 have hb0:Below w.heap.size w ((w.alloc (.cells #[.string v.o,.string v.nm,.slice v.A v.ll v.cap,.int .i64 v.p] 27)).alloc (.cells #[.string ⟨#[]⟩,.string ⟨#[]⟩,.slice none 0 0,.int .i64 0] 27)):=below_t (below_alloc _ _) (below_alloc _ _)
 have HFU:=Lib.hid (show Calls Tryz.prog 93 #[.pointer (some ⟨q,0,none⟩)] ((w.alloc (.cells #[.string v.o,.string v.nm,.slice v.A v.ll v.cap,.int .i64 v.p] 27)).alloc (.cells #[.string ⟨#[]⟩,.string ⟨#[]⟩,.slice none 0 0,.int .i64 0] 27)) (fun e w'=>e= .returned (.bool false)/\w'=((w.alloc (.cells #[.string v.o,.string v.nm,.slice v.A v.ll v.cap,.int .i64 v.p] 27)).alloc (.cells #[.string ⟨#[]⟩,.string ⟨#[]⟩,.slice none 0 0,.int .i64 0] 27)))from decide_eq_false (show ¬4096<n by omega)▸nfull_any _ (hb.below hb0))
 have HSD:=Lib.hid (sides_any ((w.alloc (.cells #[.string v.o,.string v.nm,.slice v.A v.ll v.cap,.int .i64 v.p] 27)).alloc (.cells #[.string ⟨#[]⟩,.string ⟨#[]⟩,.slice none 0 0,.int .i64 0] 27)) (h.below hb0))
 have HR0:=Lib.hid (show Bx ((w.alloc (.cells #[.string v.o,.string v.nm,.slice v.A v.ll v.cap,.int .i64 v.p] 27)).alloc (.cells #[.string ⟨#[]⟩,.string ⟨#[]⟩,.slice none 0 0,.int .i64 0] 27)) (w.heap.size+1) 27 fz from Bx.newAt (by simp) 27 fz)
 have HF0:=Lib.hid (show Bx ((w.alloc (.cells #[.string v.o,.string v.nm,.slice v.A v.ll v.cap,.int .i64 v.p] 27)).alloc (.cells #[.string ⟨#[]⟩,.string ⟨#[]⟩,.slice none 0 0,.int .i64 0] 27)) w.heap.size 27 [.string v.o,.string v.nm,.slice v.A v.ll v.cap,.int .i64 v.p]from(Bx.new w 27 [.string v.o,.string v.nm,.slice v.A v.ll v.cap,.int .i64 v.p]).alloc _)
 have HB0:=Lib.hid hb0
 have HB:=Lib.hid hb
 have hz0:((w.alloc (.cells #[.string v.o,.string v.nm,.slice v.A v.ll v.cap,.int .i64 v.p] 27)).alloc (.cells #[.string ⟨#[]⟩,.string ⟨#[]⟩,.slice none 0 0,.int .i64 0] 27)).heap.size=w.heap.size+1+1:=by simp
 have HV:=Lib.hid h
 clear hb0 h hb hop
 go_enter Tryz.func92,Tryz.ntmps92
 go_wp2_with fail
 with_reducible refine(HFU.out).mono ?_
 rintro e w1 ⟨rfl,rfl⟩
 go_wp2_with fail
 with_reducible refine(HSD.out).mono ?_
 rintro e w2 ⟨a,b,rfl,ha,hb,hb2⟩
 have HZ0:=Lib.hid hb2.size
 have hz2:w.heap.size+1<w2.heap.size:=by have:=hb2.size;omega
 have hk2:=below_t HB0.out hb2
 have HS:=Lib.hid (show FmS w w2.heap.size a b ((w2.alloc (.cells #[.string a.o,.string a.nm,.slice a.A a.ll a.cap,.int .i64 a.p] 27)).alloc (.cells #[.string b.o,.string b.nm,.slice b.A b.ll b.cap,.int .i64 b.p] 27))from⟨below_t hk2 (below_t (below_alloc _ _) (below_alloc _ _)),(HR0.out.below hb2).below (below_t (below_alloc _ _) (below_alloc _ _)),(Bx.new w2 27 [.string a.o,.string a.nm,.slice a.A a.ll a.cap,.int .i64 a.p]).alloc _,Bx.newAt (by simp) 27 [.string b.o,.string b.nm,.slice b.A b.ll b.cap,.int .i64 b.p],hz2⟩)
 have HKA:=Lib.hid (show Below (((w.alloc (.cells #[.string v.o,.string v.nm,.slice v.A v.ll v.cap,.int .i64 v.p] 27)).alloc (.cells #[.string ⟨#[]⟩,.string ⟨#[]⟩,.slice none 0 0,.int .i64 0] 27))).heap.size (((w.alloc (.cells #[.string v.o,.string v.nm,.slice v.A v.ll v.cap,.int .i64 v.p] 27)).alloc (.cells #[.string ⟨#[]⟩,.string ⟨#[]⟩,.slice none 0 0,.int .i64 0] 27))) ((w2.alloc (.cells #[.string a.o,.string a.nm,.slice a.A a.ll a.cap,.int .i64 a.p] 27)).alloc (.cells #[.string b.o,.string b.nm,.slice b.A b.ll b.cap,.int .i64 b.p] 27))from below_t hb2 (below_t (below_alloc _ _) (below_alloc _ _)))
 have HA:=Lib.hid (kid_wide (T:=T7 w2.heap.size) ha (fun k hk=>by have:=HZ0.out;unfold T7;omega))
 have HBB:=Lib.hid (kid_wide (T:=T7 w2.heap.size) hb (fun k hk=>by have:=HZ0.out;unfold T7;omega))
 obtain⟨k0,k1, -, -⟩:=Bx.cells4 (show Bx ((w2.alloc (.cells #[.string a.o,.string a.nm,.slice a.A a.ll a.cap,.int .i64 a.p] 27)).alloc (.cells #[.string b.o,.string b.nm,.slice b.A b.ll b.cap,.int .i64 b.p] 27)) w.heap.size 27 [.string v.o,.string v.nm,.slice v.A v.ll v.cap,.int .i64 v.p]from HF0.out.below HKA.out)
 clear hb2 hk2 ha hb HFU HSD HR0 HB0 hz0 HV HF0
 have HOF:=Lib.hid (fun(W:World) (g:Nat)=>nof_any (o:=⟨#[33]⟩) (A:=some ⟨g,0,none⟩) (l:=1) (cap:=1) W)
 have HS3:=Lib.hid (HS.out.below (below_alloc ((w2.alloc (.cells #[.string a.o,.string a.nm,.slice a.A a.ll a.cap,.int .i64 a.p] 27)).alloc (.cells #[.string b.o,.string b.nm,.slice b.A b.ll b.cap,.int .i64 b.p] 27)) (.cells #[.string a.o,.string a.nm,.slice a.A a.ll a.cap,.int .i64 a.p] 27)))
 have HG3:=Lib.hid (show Bx (((w2.alloc (.cells #[.string a.o,.string a.nm,.slice a.A a.ll a.cap,.int .i64 a.p] 27)).alloc (.cells #[.string b.o,.string b.nm,.slice b.A b.ll b.cap,.int .i64 b.p] 27)).alloc (.cells #[.string a.o,.string a.nm,.slice a.A a.ll a.cap,.int .i64 a.p] 27)) (w2.heap.size+1+1) 27 a.c from Bx.newAt (by simp) 27 a.c)
 have HL3:=Lib.hid ((FS.below HA.out HKA.out).below (below_alloc ((w2.alloc (.cells #[.string a.o,.string a.nm,.slice a.A a.ll a.cap,.int .i64 a.p] 27)).alloc (.cells #[.string b.o,.string b.nm,.slice b.A b.ll b.cap,.int .i64 b.p] 27)) (.cells #[.string a.o,.string a.nm,.slice a.A a.ll a.cap,.int .i64 a.p] 27)))
 have HR3:=Lib.hid ((FS.below HBB.out HKA.out).below (below_alloc ((w2.alloc (.cells #[.string a.o,.string a.nm,.slice a.A a.ll a.cap,.int .i64 a.p] 27)).alloc (.cells #[.string b.o,.string b.nm,.slice b.A b.ll b.cap,.int .i64 b.p] 27)) (.cells #[.string a.o,.string a.nm,.slice a.A a.ll a.cap,.int .i64 a.p] 27)))
 obtain⟨p0,p1,p2,p3⟩:=Bx.cells4 (show Bx ((w2.alloc (.cells #[.string a.o,.string a.nm,.slice a.A a.ll a.cap,.int .i64 a.p] 27)).alloc (.cells #[.string b.o,.string b.nm,.slice b.A b.ll b.cap,.int .i64 b.p] 27)) w2.heap.size 27 [.string a.o,.string a.nm,.slice a.A a.ll a.cap,.int .i64 a.p]from HS.out.l)
 go_wp2_with fail
 with_reducible refine(HOF.out _ _).mono ?_
 rintro e w4 ⟨rfl,hb4⟩
 have hs4:=HS3.out.below hb4
 have HS5:=Lib.hid (show FmS w w2.heap.size (⟨⟨#[33]⟩,⟨#[]⟩,some ⟨w2.heap.size+1+1,0,none⟩,1,1,0⟩:FV) b ((((w4.setCell ⟨w2.heap.size,0,none⟩ (.string ⟨#[33]⟩)).setCell ⟨w2.heap.size,1,none⟩ (.string ⟨#[]⟩)).setCell ⟨w2.heap.size,2,none⟩ (.slice (some ⟨w2.heap.size+1+1,0,none⟩) 1 1)).setCell ⟨w2.heap.size,3,none⟩ (.int .i64 0))from hs4.left (lv':=(⟨⟨#[33]⟩,⟨#[]⟩,some ⟨w2.heap.size+1+1,0,none⟩,1,1,0⟩:FV)))
 have hg4:=HG3.out.below hb4
 have hg5:=(((hg4.far (p:=⟨w2.heap.size,0,none⟩) (by simp;omega) (.string ⟨#[33]⟩)).far (p:=⟨w2.heap.size,1,none⟩) (by simp;omega) (.string ⟨#[]⟩)).far (p:=⟨w2.heap.size,2,none⟩) (by simp;omega) (.slice (some ⟨(w2.heap.size+1+1),0,none⟩) 1 1)).far (p:=⟨w2.heap.size,3,none⟩) (by simp;omega) (.int .i64 0)
 have HL5:=Lib.hid (show FS ((((w4.setCell ⟨w2.heap.size,0,none⟩ (.string ⟨#[33]⟩)).setCell ⟨w2.heap.size,1,none⟩ (.string ⟨#[]⟩)).setCell ⟨w2.heap.size,2,none⟩ (.slice (some ⟨w2.heap.size+1+1,0,none⟩) 1 1)).setCell ⟨w2.heap.size,3,none⟩ (.int .i64 0)) 27 (T7 w2.heap.size) (.un [33] L 0) (FV.c (⟨⟨#[33]⟩,⟨#[]⟩,some ⟨w2.heap.size+1+1,0,none⟩,1,1,0⟩:FV))from⟨(w2.heap.size+1+1),1,a.c,rfl,⟨by unfold T7;omega,_,hg5,fun j u hu=>by simpa using hu⟩,FS.set4 (HL3.out.below hb4) t7_l⟩)
 have HR5:=Lib.hid (show FS ((((w4.setCell ⟨w2.heap.size,0,none⟩ (.string ⟨#[33]⟩)).setCell ⟨w2.heap.size,1,none⟩ (.string ⟨#[]⟩)).setCell ⟨w2.heap.size,2,none⟩ (.slice (some ⟨w2.heap.size+1+1,0,none⟩) 1 1)).setCell ⟨w2.heap.size,3,none⟩ (.int .i64 0)) 27 (T7 w2.heap.size) R b.c from FS.set4 (HR3.out.below hb4) t7_l)
 obtain⟨f0,f1,f2,f3⟩:=Bx.frozen4 (show Bx w4 w2.heap.size 27 [.string a.o,.string a.nm,.slice a.A a.ll a.cap,.int .i64 a.p]from hs4.l)
 obtain⟨z0,z1,z2,z3⟩:=Bx.cells4 (show Bx w4 w2.heap.size 27 [.string a.o,.string a.nm,.slice a.A a.ll a.cap,.int .i64 a.p]from hs4.l)
 have hl4:=hs4.l.lt
 clear hs4 hg4 hg5 hb4
 go_upto_region 24 with fail
 obtain⟨w5,hw5⟩:∃W,W=((((w4.setCell ⟨w2.heap.size,0,none⟩ (.string ⟨#[33]⟩)).setCell ⟨w2.heap.size,1,none⟩ (.string ⟨#[]⟩)).setCell ⟨w2.heap.size,2,none⟩ (.slice (some ⟨w2.heap.size+1+1,0,none⟩) 1 1)).setCell ⟨w2.heap.size,3,none⟩ (.int .i64 0)):=⟨_,rfl⟩
 have HS6:=Lib.hid (show FmS w w2.heap.size (⟨⟨#[33]⟩,⟨#[]⟩,some ⟨w2.heap.size+1+1,0,none⟩,1,1,0⟩:FV) b w5 from hw5▸HS5.out)
 have HL6:=Lib.hid (show FS w5 27 (T7 w2.heap.size) (.un [33] L 0) (FV.c (⟨⟨#[33]⟩,⟨#[]⟩,some ⟨w2.heap.size+1+1,0,none⟩,1,1,0⟩:FV))from hw5▸HL5.out)
 have HR6:=Lib.hid (hw5▸HR5.out)
 rw[<- hw5]
 clear HS5 HL5 HR5 HS3 HG3 HL3 HR3 hw5 f0 f1 f2 f3 z0 z1 z2 z3 hl4 p0 p1 p2 p3 k0 k1
 obtain⟨lv,hlv⟩:∃lv:FV,lv=(⟨⟨#[33]⟩,⟨#[]⟩,some ⟨w2.heap.size+1+1,0,none⟩,1,1,0⟩:FV):=⟨_,rfl⟩
 rw[<- hlv]at HS6 HL6
 clear hlv
 have HT:=Lib.hid (fun(W':World) (hb:Below w5.heap.size w5 W')=>ntwo_any (o:=⟨#[38]⟩) (b:=true) hl hr zl zr ol W' (FS.below HL6.out hb) (FS.below HR6.out hb) ((HB.out.below HS6.out.fr).below hb) hn)
 have HE:=Lib.hid (fun(W:World)=>neither_any (b:=true) (s:=⟨#[124]⟩) (t:=⟨#[38]⟩) W)
 have lk:FmS w w2.heap.size lv b w5.drew:=HS6.out.drew
 have lb:Below w5.heap.size w5 w5.drew:=(Below.refl _ _).drew
 go_region_held3 (fun w'=>w'.cell? ⟨w2.heap.size,0,none⟩=some (.string lv.o)/\w'.cell? ⟨w2.heap.size,1,none⟩=some (.string lv.nm)/\w'.cell? ⟨w2.heap.size,2,none⟩=some (.slice lv.A lv.ll lv.cap)/\w'.cell? ⟨w2.heap.size,3,none⟩=some (.int .i64 lv.p)/\w'.cell? ⟨w2.heap.size+1,0,none⟩=some (.string b.o)/\w'.cell? ⟨w2.heap.size+1,1,none⟩=some (.string b.nm)/\w'.cell? ⟨w2.heap.size+1,2,none⟩=some (.slice b.A b.ll b.cap)/\w'.cell? ⟨w2.heap.size+1,3,none⟩=some (.int .i64 b.p)) (first | exact FmS.cells lk | exact HC3.out | exact HC4.out) (first
  | (go_at_call 126
     with_reducible refine(HE.out _).mono ?_
     rintro e w5 ⟨rfl,rfl⟩)
  | (go_at_call 129
     with_reducible refine(HT.out _ lb).mono ?_
     rintro e w3 ⟨vr,rfl,hf3,hb3,hi3⟩
     have hx3:=lk.fx hf3 hql
     have HC3:=Lib.hid (show(fun w':World=>w'.cell? ⟨w2.heap.size,0,none⟩=some (.string lv.o)/\w'.cell? ⟨w2.heap.size,1,none⟩=some (.string lv.nm)/\w'.cell? ⟨w2.heap.size,2,none⟩=some (.slice lv.A lv.ll lv.cap)/\w'.cell? ⟨w2.heap.size,3,none⟩=some (.int .i64 lv.p)/\w'.cell? ⟨w2.heap.size+1,0,none⟩=some (.string b.o)/\w'.cell? ⟨w2.heap.size+1,1,none⟩=some (.string b.nm)/\w'.cell? ⟨w2.heap.size+1,2,none⟩=some (.slice b.A b.ll b.cap)/\w'.cell? ⟨w2.heap.size+1,3,none⟩=some (.int .i64 b.p)) w3 from by
      obtain⟨a0,a1,a2,a3⟩:=Bx.cells4 (show Bx w3 w2.heap.size 27 [.string lv.o,.string lv.nm,.slice lv.A lv.ll lv.cap,.int .i64 lv.p]from hx3.2.1)
      obtain⟨a4,a5,a6,a7⟩:=Bx.cells4 (show Bx w3 (w2.heap.size+1) 27 [.string b.o,.string b.nm,.slice b.A b.ll b.cap,.int .i64 b.p]from hx3.2.2)
      exact⟨a0,a1,a2,a3,a4,a5,a6,a7⟩)
     have HC4:=Lib.hid (lk.set (x0:=.string vr.o) (x1:=.string vr.nm) (x2:=.slice vr.A vr.ll vr.cap) (x3:=.int .i64 vr.p) hx3)
     obtain⟨f0,f1,f2,f3⟩:=hx3.1.frozen4
     obtain⟨z0,z1,z2,z3⟩:=hx3.1.cells4
     have hl3:=hx3.1.lt
     have HY:=Lib.hid (Bx.set4 (x0:=.string vr.o) (x1:=.string vr.nm) (x2:=.slice vr.A vr.ll vr.cap) (x3:=.int .i64 vr.p) hx3.1).cells4
     have HEN:=Lib.hid (fi_end (r:=w.heap.size+1) (lk.fr) hql (Nat.le_succ _) (by have:=lk.r.lt;exact this) hf3 hb3 hi3)
     clear hf3 hb3 hi3 hx3))
 obtain⟨y0,y1,y2,y3⟩:=HY.out
 go_wp2
 refine bodyPost_ret (v:=.agg #[.string vr.o,.string vr.nm,.slice vr.A vr.ll vr.cap,.int .i64 vr.p]) (by simp[results,Tryz.results92,go_sem,y0,y1,y2,y3]) rfl HEN.out
end
section
open Go.RowKit
theorem nf_F_f{L:Fo}{p:Nat}(hl:FMC (.leaf [116,114,117,101] [] 0))(hr:FMC (L))(zl:(.leaf [116,114,117,101] [] 0:Fo).size<=4096)(zr:(L:Fo).size<=4096)(ol:OkF (.leaf [116,114,117,101] [] 0)){n q:Nat}{S:Nat->Prop}{v:FV}(w:World)(h:FS w 27 S (.un [70] L p) v.c)(hop:v.o.toList=[70])(hb:Bx w q 136 [.int .i64 (n:Int)])(hn:n<=4096):
 Calls Tryz.prog 92 #[.pointer (some ⟨q,0,none⟩),.agg #[.string v.o,.string v.nm,.slice v.A v.ll v.cap,.int .i64 v.p],.bool false] w (NfP (.bin [85] (nO (.leaf [116,114,117,101] [] 0) false) (nO (L) false) 0) (cM (L) false (cM (.leaf [116,114,117,101] [] 0) false n)+1) q (Fits (n+(nO (.leaf [116,114,117,101] [] 0) false).size+(nO (L) false).size+1)) w):=by
 have hql:=hb.lt
 have g0:(v.o.toList==[116,114,117,101])=false:=by rw[hop];rfl
 have g1:(v.o.toList==[102,97,108,115,101])=false:=by rw[hop];rfl
 have g2:(v.o.toList==[108,97,98,101,108])=false:=by rw[hop];rfl
 have g3:(v.o.toList==[33])=false:=by rw[hop];rfl
 have g4:(v.o.toList==[88])=false:=by rw[hop];rfl
 have g5:(v.o.toList==[61,62])=false:=by rw[hop];rfl
 have g6:(v.o.toList==[124])=false:=by rw[hop];rfl
 have g7:(v.o.toList==[38])=false:=by rw[hop];rfl
 have g8:(v.o.toList==[71])=false:=by rw[hop];rfl
 have g9:(v.o.toList==[70])=true:=by rw[hop];rfl
 have hb0:Below w.heap.size w ((w.alloc (.cells #[.string v.o,.string v.nm,.slice v.A v.ll v.cap,.int .i64 v.p] 27)).alloc (.cells #[.string ⟨#[]⟩,.string ⟨#[]⟩,.slice none 0 0,.int .i64 0] 27)):=below_t (below_alloc _ _) (below_alloc _ _)
 have HFU:=Lib.hid (show Calls Tryz.prog 93 #[.pointer (some ⟨q,0,none⟩)] ((w.alloc (.cells #[.string v.o,.string v.nm,.slice v.A v.ll v.cap,.int .i64 v.p] 27)).alloc (.cells #[.string ⟨#[]⟩,.string ⟨#[]⟩,.slice none 0 0,.int .i64 0] 27)) (fun e w'=>e= .returned (.bool false)/\w'=((w.alloc (.cells #[.string v.o,.string v.nm,.slice v.A v.ll v.cap,.int .i64 v.p] 27)).alloc (.cells #[.string ⟨#[]⟩,.string ⟨#[]⟩,.slice none 0 0,.int .i64 0] 27)))from decide_eq_false (show ¬4096<n by omega)▸nfull_any _ (hb.below hb0))
 have HSD:=Lib.hid (sides_any ((w.alloc (.cells #[.string v.o,.string v.nm,.slice v.A v.ll v.cap,.int .i64 v.p] 27)).alloc (.cells #[.string ⟨#[]⟩,.string ⟨#[]⟩,.slice none 0 0,.int .i64 0] 27)) (h.below hb0))
 have HR0:=Lib.hid (show Bx ((w.alloc (.cells #[.string v.o,.string v.nm,.slice v.A v.ll v.cap,.int .i64 v.p] 27)).alloc (.cells #[.string ⟨#[]⟩,.string ⟨#[]⟩,.slice none 0 0,.int .i64 0] 27)) (w.heap.size+1) 27 fz from Bx.newAt (by simp) 27 fz)
 have HF0:=Lib.hid (show Bx ((w.alloc (.cells #[.string v.o,.string v.nm,.slice v.A v.ll v.cap,.int .i64 v.p] 27)).alloc (.cells #[.string ⟨#[]⟩,.string ⟨#[]⟩,.slice none 0 0,.int .i64 0] 27)) w.heap.size 27 [.string v.o,.string v.nm,.slice v.A v.ll v.cap,.int .i64 v.p]from(Bx.new w 27 [.string v.o,.string v.nm,.slice v.A v.ll v.cap,.int .i64 v.p]).alloc _)
 have HB0:=Lib.hid hb0
 have HB:=Lib.hid hb
 have hz0:((w.alloc (.cells #[.string v.o,.string v.nm,.slice v.A v.ll v.cap,.int .i64 v.p] 27)).alloc (.cells #[.string ⟨#[]⟩,.string ⟨#[]⟩,.slice none 0 0,.int .i64 0] 27)).heap.size=w.heap.size+1+1:=by simp
 have HV:=Lib.hid h
 clear hb0 h hb hop
 go_enter Tryz.func92,Tryz.ntmps92
 go_wp2_with fail
 with_reducible refine(HFU.out).mono ?_
 rintro e w1 ⟨rfl,rfl⟩
 go_wp2_with fail
 with_reducible refine(HSD.out).mono ?_
 rintro e w2 ⟨a,b,rfl,ha,hb,hb2⟩
 have HZ0:=Lib.hid hb2.size
 have hz2:w.heap.size+1<w2.heap.size:=by have:=hb2.size;omega
 have hk2:=below_t HB0.out hb2
 have HS:=Lib.hid (show FmS w w2.heap.size a b ((w2.alloc (.cells #[.string a.o,.string a.nm,.slice a.A a.ll a.cap,.int .i64 a.p] 27)).alloc (.cells #[.string b.o,.string b.nm,.slice b.A b.ll b.cap,.int .i64 b.p] 27))from⟨below_t hk2 (below_t (below_alloc _ _) (below_alloc _ _)),(HR0.out.below hb2).below (below_t (below_alloc _ _) (below_alloc _ _)),(Bx.new w2 27 [.string a.o,.string a.nm,.slice a.A a.ll a.cap,.int .i64 a.p]).alloc _,Bx.newAt (by simp) 27 [.string b.o,.string b.nm,.slice b.A b.ll b.cap,.int .i64 b.p],hz2⟩)
 have HKA:=Lib.hid (show Below (((w.alloc (.cells #[.string v.o,.string v.nm,.slice v.A v.ll v.cap,.int .i64 v.p] 27)).alloc (.cells #[.string ⟨#[]⟩,.string ⟨#[]⟩,.slice none 0 0,.int .i64 0] 27))).heap.size (((w.alloc (.cells #[.string v.o,.string v.nm,.slice v.A v.ll v.cap,.int .i64 v.p] 27)).alloc (.cells #[.string ⟨#[]⟩,.string ⟨#[]⟩,.slice none 0 0,.int .i64 0] 27))) ((w2.alloc (.cells #[.string a.o,.string a.nm,.slice a.A a.ll a.cap,.int .i64 a.p] 27)).alloc (.cells #[.string b.o,.string b.nm,.slice b.A b.ll b.cap,.int .i64 b.p] 27))from below_t hb2 (below_t (below_alloc _ _) (below_alloc _ _)))
 have HA:=Lib.hid (kid_wide (T:=T7 w2.heap.size) ha (fun k hk=>by have:=HZ0.out;unfold T7;omega))
 have HBB:=Lib.hid (kid_wide (T:=T7 w2.heap.size) hb (fun k hk=>by have:=HZ0.out;unfold T7;omega))
 obtain⟨k0,k1, -, -⟩:=Bx.cells4 (show Bx ((w2.alloc (.cells #[.string a.o,.string a.nm,.slice a.A a.ll a.cap,.int .i64 a.p] 27)).alloc (.cells #[.string b.o,.string b.nm,.slice b.A b.ll b.cap,.int .i64 b.p] 27)) w.heap.size 27 [.string v.o,.string v.nm,.slice v.A v.ll v.cap,.int .i64 v.p]from HF0.out.below HKA.out)
 clear hb2 hk2 ha hb HFU HSD HR0 HB0 hz0 HV HF0
 go_upto_region 27 with fail
 have HOT:=Lib.hid (fun(W:World)=>nof_any (o:=⟨#[116,114,117,101]⟩) (A:=none) (l:=0) (cap:=0) W)
 obtain⟨c0,c1,c2,c3⟩:=Bx.cells4 (show Bx ((w2.alloc (.cells #[.string a.o,.string a.nm,.slice a.A a.ll a.cap,.int .i64 a.p] 27)).alloc (.cells #[.string b.o,.string b.nm,.slice b.A b.ll b.cap,.int .i64 b.p] 27)) w2.heap.size 27 [.string a.o,.string a.nm,.slice a.A a.ll a.cap,.int .i64 a.p]from HS.out.l)
 have ne7:w2.heap.size≠w2.heap.size+1:=by omega
 refine wp_cut1 (fun W=>FmS w w2.heap.size (⟨⟨#[116,114,117,101]⟩,⟨#[]⟩,none,0,0,0⟩:FV) a W/\FS W 27 (T7 w2.heap.size) (L) a.c) (fun a'=>(a'.put (some 92) (.agg #[.string ⟨#[116,114,117,101]⟩,.string ⟨#[]⟩,.slice none 0 0,.int .i64 0])).put (some 93) (.agg #[.string a.o,.string a.nm,.slice a.A a.ll a.cap,.int .i64 a.p])) ?first ?later
 case first=>
  go_region_with (go_at_call 128;(with_reducible refine(HOT.out _).mono ?_);rintro e w7 ⟨rfl,hb7⟩;have hs7:=(HS.out.drew).below hb7;have HL7:=Lib.hid (((FS.below HA.out HKA.out).below (Below.refl _ _).drew).below hb7);have HS7:=Lib.hid hs7;obtain⟨d0,d1,d2,d3⟩:=Bx.frozen4 (show Bx w7 w2.heap.size 27 [.string a.o,.string a.nm,.slice a.A a.ll a.cap,.int .i64 a.p]from hs7.l);obtain⟨e0,e1,e2,e3⟩:=Bx.cells4 (show Bx w7 w2.heap.size 27 [.string a.o,.string a.nm,.slice a.A a.ll a.cap,.int .i64 a.p]from hs7.l);obtain⟨d4,d5,d6,d7⟩:=Bx.frozen4 (show Bx w7 (w2.heap.size+1) 27 [.string b.o,.string b.nm,.slice b.A b.ll b.cap,.int .i64 b.p]from hs7.rr);obtain⟨e4,e5,e6,e7⟩:=Bx.cells4 (show Bx w7 (w2.heap.size+1) 27 [.string b.o,.string b.nm,.slice b.A b.ll b.cap,.int .i64 b.p]from hs7.rr);have q7:=hs7.l.lt;have q8:=hs7.rr.lt;clear hs7 hb7)
  all_goals
   refine⟨rfl,rfl,?_⟩
   exact⟨(HS7.out.left (lv':=(⟨⟨#[116,114,117,101]⟩,⟨#[]⟩,none,0,0,0⟩:FV))).right (rv':=a),FS.set4 (FS.set4 HL7.out t7_l) t7_r⟩
 rintro wc ⟨HS8,HL8⟩
 simp only[Act.put,List.setIfInBounds_toArray,List.set_cons_zero,List.set_cons_succ]
 replace HS8:=Lib.hid HS8
 replace HL8:=Lib.hid HL8
 have HT8:=Lib.hid (show FS wc 27 (T7 w2.heap.size) (.leaf [116,114,117,101] [] 0) (FV.c (⟨⟨#[116,114,117,101]⟩,⟨#[]⟩,none,0,0,0⟩:FV))from rfl)
 clear c0 c1 c2 c3
 obtain⟨tv,htv⟩:∃tv:FV,tv=(⟨⟨#[116,114,117,101]⟩,⟨#[]⟩,none,0,0,0⟩:FV):=⟨_,rfl⟩
 rw[<- htv]at HS8 HT8
 clear htv
 go_wp2_with fail
 have HT:=Lib.hid (fun(W':World) (hb:Below wc.heap.size wc W')=>ntwo_any (o:=⟨#[85]⟩) (b:=false) hl hr zl zr ol W' (FS.below HT8.out hb) (FS.below HL8.out hb) ((HB.out.below HS8.out.fr).below hb) hn)
 have HE:=Lib.hid (fun(W:World)=>neither_any (b:=false) (s:=⟨#[85]⟩) (t:=⟨#[82]⟩) W)
 have lk:FmS w w2.heap.size tv a wc.drew:=HS8.out.drew
 have lb:Below wc.heap.size wc wc.drew:=(Below.refl _ _).drew
 go_region_held3 (fun w'=>w'.cell? ⟨w2.heap.size,0,none⟩=some (.string tv.o)/\w'.cell? ⟨w2.heap.size,1,none⟩=some (.string tv.nm)/\w'.cell? ⟨w2.heap.size,2,none⟩=some (.slice tv.A tv.ll tv.cap)/\w'.cell? ⟨w2.heap.size,3,none⟩=some (.int .i64 tv.p)/\w'.cell? ⟨w2.heap.size+1,0,none⟩=some (.string a.o)/\w'.cell? ⟨w2.heap.size+1,1,none⟩=some (.string a.nm)/\w'.cell? ⟨w2.heap.size+1,2,none⟩=some (.slice a.A a.ll a.cap)/\w'.cell? ⟨w2.heap.size+1,3,none⟩=some (.int .i64 a.p)) (first | exact FmS.cells lk | exact HC3.out | exact HC4.out) (first
  | (go_at_call 126
     with_reducible refine(HE.out _).mono ?_
     rintro e w5 ⟨rfl,rfl⟩)
  | (go_at_call 129
     with_reducible refine(HT.out _ lb).mono ?_
     rintro e w3 ⟨vr,rfl,hf3,hb3,hi3⟩
     have hx3:=lk.fx hf3 hql
     have HC3:=Lib.hid (show(fun w':World=>w'.cell? ⟨w2.heap.size,0,none⟩=some (.string tv.o)/\w'.cell? ⟨w2.heap.size,1,none⟩=some (.string tv.nm)/\w'.cell? ⟨w2.heap.size,2,none⟩=some (.slice tv.A tv.ll tv.cap)/\w'.cell? ⟨w2.heap.size,3,none⟩=some (.int .i64 tv.p)/\w'.cell? ⟨w2.heap.size+1,0,none⟩=some (.string a.o)/\w'.cell? ⟨w2.heap.size+1,1,none⟩=some (.string a.nm)/\w'.cell? ⟨w2.heap.size+1,2,none⟩=some (.slice a.A a.ll a.cap)/\w'.cell? ⟨w2.heap.size+1,3,none⟩=some (.int .i64 a.p)) w3 from by
      obtain⟨a0,a1,a2,a3⟩:=Bx.cells4 (show Bx w3 w2.heap.size 27 [.string tv.o,.string tv.nm,.slice tv.A tv.ll tv.cap,.int .i64 tv.p]from hx3.2.1)
      obtain⟨a4,a5,a6,a7⟩:=Bx.cells4 (show Bx w3 (w2.heap.size+1) 27 [.string a.o,.string a.nm,.slice a.A a.ll a.cap,.int .i64 a.p]from hx3.2.2)
      exact⟨a0,a1,a2,a3,a4,a5,a6,a7⟩)
     have HC4:=Lib.hid (lk.set (x0:=.string vr.o) (x1:=.string vr.nm) (x2:=.slice vr.A vr.ll vr.cap) (x3:=.int .i64 vr.p) hx3)
     obtain⟨f0,f1,f2,f3⟩:=hx3.1.frozen4
     obtain⟨z0,z1,z2,z3⟩:=hx3.1.cells4
     have hl3:=hx3.1.lt
     have HY:=Lib.hid (Bx.set4 (x0:=.string vr.o) (x1:=.string vr.nm) (x2:=.slice vr.A vr.ll vr.cap) (x3:=.int .i64 vr.p) hx3.1).cells4
     have HEN:=Lib.hid (fi_end (r:=w.heap.size+1) (lk.fr) hql (Nat.le_succ _) (by have:=lk.r.lt;exact this) hf3 hb3 hi3)
     clear hf3 hb3 hi3 hx3))
 obtain⟨y0,y1,y2,y3⟩:=HY.out
 go_wp2
 refine bodyPost_ret (v:=.agg #[.string vr.o,.string vr.nm,.slice vr.A vr.ll vr.cap,.int .i64 vr.p]) (by simp[results,Tryz.results92,go_sem,y0,y1,y2,y3]) rfl HEN.out
theorem nf_F_t{L:Fo}{p:Nat}(hl:FMC (.leaf [116,114,117,101] [] 0))(hr:FMC (L))(zl:(.leaf [116,114,117,101] [] 0:Fo).size<=4096)(zr:(L:Fo).size<=4096)(ol:OkF (.leaf [116,114,117,101] [] 0)){n q:Nat}{S:Nat->Prop}{v:FV}(w:World)(h:FS w 27 S (.un [70] L p) v.c)(hop:v.o.toList=[70])(hb:Bx w q 136 [.int .i64 (n:Int)])(hn:n<=4096):
 Calls Tryz.prog 92 #[.pointer (some ⟨q,0,none⟩),.agg #[.string v.o,.string v.nm,.slice v.A v.ll v.cap,.int .i64 v.p],.bool true] w (NfP (.bin [82] (nO (.leaf [116,114,117,101] [] 0) true) (nO (L) true) 0) (cM (L) true (cM (.leaf [116,114,117,101] [] 0) true n)+1) q (Fits (n+(nO (.leaf [116,114,117,101] [] 0) true).size+(nO (L) true).size+1)) w):=by
 have hql:=hb.lt
 have g0:(v.o.toList==[116,114,117,101])=false:=by rw[hop];rfl
 have g1:(v.o.toList==[102,97,108,115,101])=false:=by rw[hop];rfl
 have g2:(v.o.toList==[108,97,98,101,108])=false:=by rw[hop];rfl
 have g3:(v.o.toList==[33])=false:=by rw[hop];rfl
 have g4:(v.o.toList==[88])=false:=by rw[hop];rfl
 have g5:(v.o.toList==[61,62])=false:=by rw[hop];rfl
 have g6:(v.o.toList==[124])=false:=by rw[hop];rfl
 have g7:(v.o.toList==[38])=false:=by rw[hop];rfl
 have g8:(v.o.toList==[71])=false:=by rw[hop];rfl
 have g9:(v.o.toList==[70])=true:=by rw[hop];rfl
 have hb0:Below w.heap.size w ((w.alloc (.cells #[.string v.o,.string v.nm,.slice v.A v.ll v.cap,.int .i64 v.p] 27)).alloc (.cells #[.string ⟨#[]⟩,.string ⟨#[]⟩,.slice none 0 0,.int .i64 0] 27)):=below_t (below_alloc _ _) (below_alloc _ _)
 have HFU:=Lib.hid (show Calls Tryz.prog 93 #[.pointer (some ⟨q,0,none⟩)] ((w.alloc (.cells #[.string v.o,.string v.nm,.slice v.A v.ll v.cap,.int .i64 v.p] 27)).alloc (.cells #[.string ⟨#[]⟩,.string ⟨#[]⟩,.slice none 0 0,.int .i64 0] 27)) (fun e w'=>e= .returned (.bool false)/\w'=((w.alloc (.cells #[.string v.o,.string v.nm,.slice v.A v.ll v.cap,.int .i64 v.p] 27)).alloc (.cells #[.string ⟨#[]⟩,.string ⟨#[]⟩,.slice none 0 0,.int .i64 0] 27)))from decide_eq_false (show ¬4096<n by omega)▸nfull_any _ (hb.below hb0))
 have HSD:=Lib.hid (sides_any ((w.alloc (.cells #[.string v.o,.string v.nm,.slice v.A v.ll v.cap,.int .i64 v.p] 27)).alloc (.cells #[.string ⟨#[]⟩,.string ⟨#[]⟩,.slice none 0 0,.int .i64 0] 27)) (h.below hb0))
 have HR0:=Lib.hid (show Bx ((w.alloc (.cells #[.string v.o,.string v.nm,.slice v.A v.ll v.cap,.int .i64 v.p] 27)).alloc (.cells #[.string ⟨#[]⟩,.string ⟨#[]⟩,.slice none 0 0,.int .i64 0] 27)) (w.heap.size+1) 27 fz from Bx.newAt (by simp) 27 fz)
 have HF0:=Lib.hid (show Bx ((w.alloc (.cells #[.string v.o,.string v.nm,.slice v.A v.ll v.cap,.int .i64 v.p] 27)).alloc (.cells #[.string ⟨#[]⟩,.string ⟨#[]⟩,.slice none 0 0,.int .i64 0] 27)) w.heap.size 27 [.string v.o,.string v.nm,.slice v.A v.ll v.cap,.int .i64 v.p]from(Bx.new w 27 [.string v.o,.string v.nm,.slice v.A v.ll v.cap,.int .i64 v.p]).alloc _)
 have HB0:=Lib.hid hb0
 have HB:=Lib.hid hb
 have hz0:((w.alloc (.cells #[.string v.o,.string v.nm,.slice v.A v.ll v.cap,.int .i64 v.p] 27)).alloc (.cells #[.string ⟨#[]⟩,.string ⟨#[]⟩,.slice none 0 0,.int .i64 0] 27)).heap.size=w.heap.size+1+1:=by simp
 have HV:=Lib.hid h
 clear hb0 h hb hop
 go_enter Tryz.func92,Tryz.ntmps92
 go_wp2_with fail
 with_reducible refine(HFU.out).mono ?_
 rintro e w1 ⟨rfl,rfl⟩
 go_wp2_with fail
 with_reducible refine(HSD.out).mono ?_
 rintro e w2 ⟨a,b,rfl,ha,hb,hb2⟩
 have HZ0:=Lib.hid hb2.size
 have hz2:w.heap.size+1<w2.heap.size:=by have:=hb2.size;omega
 have hk2:=below_t HB0.out hb2
 have HS:=Lib.hid (show FmS w w2.heap.size a b ((w2.alloc (.cells #[.string a.o,.string a.nm,.slice a.A a.ll a.cap,.int .i64 a.p] 27)).alloc (.cells #[.string b.o,.string b.nm,.slice b.A b.ll b.cap,.int .i64 b.p] 27))from⟨below_t hk2 (below_t (below_alloc _ _) (below_alloc _ _)),(HR0.out.below hb2).below (below_t (below_alloc _ _) (below_alloc _ _)),(Bx.new w2 27 [.string a.o,.string a.nm,.slice a.A a.ll a.cap,.int .i64 a.p]).alloc _,Bx.newAt (by simp) 27 [.string b.o,.string b.nm,.slice b.A b.ll b.cap,.int .i64 b.p],hz2⟩)
 have HKA:=Lib.hid (show Below (((w.alloc (.cells #[.string v.o,.string v.nm,.slice v.A v.ll v.cap,.int .i64 v.p] 27)).alloc (.cells #[.string ⟨#[]⟩,.string ⟨#[]⟩,.slice none 0 0,.int .i64 0] 27))).heap.size (((w.alloc (.cells #[.string v.o,.string v.nm,.slice v.A v.ll v.cap,.int .i64 v.p] 27)).alloc (.cells #[.string ⟨#[]⟩,.string ⟨#[]⟩,.slice none 0 0,.int .i64 0] 27))) ((w2.alloc (.cells #[.string a.o,.string a.nm,.slice a.A a.ll a.cap,.int .i64 a.p] 27)).alloc (.cells #[.string b.o,.string b.nm,.slice b.A b.ll b.cap,.int .i64 b.p] 27))from below_t hb2 (below_t (below_alloc _ _) (below_alloc _ _)))
 have HA:=Lib.hid (kid_wide (T:=T7 w2.heap.size) ha (fun k hk=>by have:=HZ0.out;unfold T7;omega))
 have HBB:=Lib.hid (kid_wide (T:=T7 w2.heap.size) hb (fun k hk=>by have:=HZ0.out;unfold T7;omega))
 obtain⟨k0,k1, -, -⟩:=Bx.cells4 (show Bx ((w2.alloc (.cells #[.string a.o,.string a.nm,.slice a.A a.ll a.cap,.int .i64 a.p] 27)).alloc (.cells #[.string b.o,.string b.nm,.slice b.A b.ll b.cap,.int .i64 b.p] 27)) w.heap.size 27 [.string v.o,.string v.nm,.slice v.A v.ll v.cap,.int .i64 v.p]from HF0.out.below HKA.out)
 clear hb2 hk2 ha hb HFU HSD HR0 HB0 hz0 HV HF0
 go_upto_region 27 with fail
 have HOT:=Lib.hid (fun(W:World)=>nof_any (o:=⟨#[116,114,117,101]⟩) (A:=none) (l:=0) (cap:=0) W)
 obtain⟨c0,c1,c2,c3⟩:=Bx.cells4 (show Bx ((w2.alloc (.cells #[.string a.o,.string a.nm,.slice a.A a.ll a.cap,.int .i64 a.p] 27)).alloc (.cells #[.string b.o,.string b.nm,.slice b.A b.ll b.cap,.int .i64 b.p] 27)) w2.heap.size 27 [.string a.o,.string a.nm,.slice a.A a.ll a.cap,.int .i64 a.p]from HS.out.l)
 have ne7:w2.heap.size≠w2.heap.size+1:=by omega
 refine wp_cut1 (fun W=>FmS w w2.heap.size (⟨⟨#[116,114,117,101]⟩,⟨#[]⟩,none,0,0,0⟩:FV) a W/\FS W 27 (T7 w2.heap.size) (L) a.c) (fun a'=>(a'.put (some 92) (.agg #[.string ⟨#[116,114,117,101]⟩,.string ⟨#[]⟩,.slice none 0 0,.int .i64 0])).put (some 93) (.agg #[.string a.o,.string a.nm,.slice a.A a.ll a.cap,.int .i64 a.p])) ?first ?later
 case first=>
  go_region_with (go_at_call 128;(with_reducible refine(HOT.out _).mono ?_);rintro e w7 ⟨rfl,hb7⟩;have hs7:=(HS.out.drew).below hb7;have HL7:=Lib.hid (((FS.below HA.out HKA.out).below (Below.refl _ _).drew).below hb7);have HS7:=Lib.hid hs7;obtain⟨d0,d1,d2,d3⟩:=Bx.frozen4 (show Bx w7 w2.heap.size 27 [.string a.o,.string a.nm,.slice a.A a.ll a.cap,.int .i64 a.p]from hs7.l);obtain⟨e0,e1,e2,e3⟩:=Bx.cells4 (show Bx w7 w2.heap.size 27 [.string a.o,.string a.nm,.slice a.A a.ll a.cap,.int .i64 a.p]from hs7.l);obtain⟨d4,d5,d6,d7⟩:=Bx.frozen4 (show Bx w7 (w2.heap.size+1) 27 [.string b.o,.string b.nm,.slice b.A b.ll b.cap,.int .i64 b.p]from hs7.rr);obtain⟨e4,e5,e6,e7⟩:=Bx.cells4 (show Bx w7 (w2.heap.size+1) 27 [.string b.o,.string b.nm,.slice b.A b.ll b.cap,.int .i64 b.p]from hs7.rr);have q7:=hs7.l.lt;have q8:=hs7.rr.lt;clear hs7 hb7)
  all_goals
   refine⟨rfl,rfl,?_⟩
   exact⟨(HS7.out.left (lv':=(⟨⟨#[116,114,117,101]⟩,⟨#[]⟩,none,0,0,0⟩:FV))).right (rv':=a),FS.set4 (FS.set4 HL7.out t7_l) t7_r⟩
 rintro wc ⟨HS8,HL8⟩
 simp only[Act.put,List.setIfInBounds_toArray,List.set_cons_zero,List.set_cons_succ]
 replace HS8:=Lib.hid HS8
 replace HL8:=Lib.hid HL8
 have HT8:=Lib.hid (show FS wc 27 (T7 w2.heap.size) (.leaf [116,114,117,101] [] 0) (FV.c (⟨⟨#[116,114,117,101]⟩,⟨#[]⟩,none,0,0,0⟩:FV))from rfl)
 clear c0 c1 c2 c3
 obtain⟨tv,htv⟩:∃tv:FV,tv=(⟨⟨#[116,114,117,101]⟩,⟨#[]⟩,none,0,0,0⟩:FV):=⟨_,rfl⟩
 rw[<- htv]at HS8 HT8
 clear htv
 go_wp2_with fail
 have HT:=Lib.hid (fun(W':World) (hb:Below wc.heap.size wc W')=>ntwo_any (o:=⟨#[82]⟩) (b:=true) hl hr zl zr ol W' (FS.below HT8.out hb) (FS.below HL8.out hb) ((HB.out.below HS8.out.fr).below hb) hn)
 have HE:=Lib.hid (fun(W:World)=>neither_any (b:=true) (s:=⟨#[85]⟩) (t:=⟨#[82]⟩) W)
 have lk:FmS w w2.heap.size tv a wc.drew:=HS8.out.drew
 have lb:Below wc.heap.size wc wc.drew:=(Below.refl _ _).drew
 go_region_held3 (fun w'=>w'.cell? ⟨w2.heap.size,0,none⟩=some (.string tv.o)/\w'.cell? ⟨w2.heap.size,1,none⟩=some (.string tv.nm)/\w'.cell? ⟨w2.heap.size,2,none⟩=some (.slice tv.A tv.ll tv.cap)/\w'.cell? ⟨w2.heap.size,3,none⟩=some (.int .i64 tv.p)/\w'.cell? ⟨w2.heap.size+1,0,none⟩=some (.string a.o)/\w'.cell? ⟨w2.heap.size+1,1,none⟩=some (.string a.nm)/\w'.cell? ⟨w2.heap.size+1,2,none⟩=some (.slice a.A a.ll a.cap)/\w'.cell? ⟨w2.heap.size+1,3,none⟩=some (.int .i64 a.p)) (first | exact FmS.cells lk | exact HC3.out | exact HC4.out) (first
  | (go_at_call 126
     with_reducible refine(HE.out _).mono ?_
     rintro e w5 ⟨rfl,rfl⟩)
  | (go_at_call 129
     with_reducible refine(HT.out _ lb).mono ?_
     rintro e w3 ⟨vr,rfl,hf3,hb3,hi3⟩
     have hx3:=lk.fx hf3 hql
     have HC3:=Lib.hid (show(fun w':World=>w'.cell? ⟨w2.heap.size,0,none⟩=some (.string tv.o)/\w'.cell? ⟨w2.heap.size,1,none⟩=some (.string tv.nm)/\w'.cell? ⟨w2.heap.size,2,none⟩=some (.slice tv.A tv.ll tv.cap)/\w'.cell? ⟨w2.heap.size,3,none⟩=some (.int .i64 tv.p)/\w'.cell? ⟨w2.heap.size+1,0,none⟩=some (.string a.o)/\w'.cell? ⟨w2.heap.size+1,1,none⟩=some (.string a.nm)/\w'.cell? ⟨w2.heap.size+1,2,none⟩=some (.slice a.A a.ll a.cap)/\w'.cell? ⟨w2.heap.size+1,3,none⟩=some (.int .i64 a.p)) w3 from by
      obtain⟨a0,a1,a2,a3⟩:=Bx.cells4 (show Bx w3 w2.heap.size 27 [.string tv.o,.string tv.nm,.slice tv.A tv.ll tv.cap,.int .i64 tv.p]from hx3.2.1)
      obtain⟨a4,a5,a6,a7⟩:=Bx.cells4 (show Bx w3 (w2.heap.size+1) 27 [.string a.o,.string a.nm,.slice a.A a.ll a.cap,.int .i64 a.p]from hx3.2.2)
      exact⟨a0,a1,a2,a3,a4,a5,a6,a7⟩)
     have HC4:=Lib.hid (lk.set (x0:=.string vr.o) (x1:=.string vr.nm) (x2:=.slice vr.A vr.ll vr.cap) (x3:=.int .i64 vr.p) hx3)
     obtain⟨f0,f1,f2,f3⟩:=hx3.1.frozen4
     obtain⟨z0,z1,z2,z3⟩:=hx3.1.cells4
     have hl3:=hx3.1.lt
     have HY:=Lib.hid (Bx.set4 (x0:=.string vr.o) (x1:=.string vr.nm) (x2:=.slice vr.A vr.ll vr.cap) (x3:=.int .i64 vr.p) hx3.1).cells4
     have HEN:=Lib.hid (fi_end (r:=w.heap.size+1) (lk.fr) hql (Nat.le_succ _) (by have:=lk.r.lt;exact this) hf3 hb3 hi3)
     clear hf3 hb3 hi3 hx3))
 obtain⟨y0,y1,y2,y3⟩:=HY.out
 go_wp2
 refine bodyPost_ret (v:=.agg #[.string vr.o,.string vr.nm,.slice vr.A vr.ll vr.cap,.int .i64 vr.p]) (by simp[results,Tryz.results92,go_sem,y0,y1,y2,y3]) rfl HEN.out
end
end Go.Proofs.YtmgjpjjglghbaaaGreatDoor
