import Derived.Test.YtmgjpjjglghbaaaGreatDoord5
import Derived.Test.YtmgjpjjglghbaaaGreatDoord6
import Derived.Test.YtmgjpjjglghbaaaGreatDoord7
import Derived.Test.YtmgjpjjglghbaaaGreatDoord8
import Derived.Test.YtmgjpjjglghbaaaGreatDoord9
import Derived.Test.YtmgjpjjglghbaaaGreatDoore0
namespace Go.Proofs.YtmgjpjjglghbaaaGreatDoor
set_option maxHeartbeats 16000000
set_option maxRecDepth 100000
section
open Go.RowKit
theorem nf_full{q n:Nat}{b:Bool}{v:FV}{y:Fo}{ok:Prop}(w:World)(hb:Bx w q 136 [.int .i64 (n:Int)])(hn:4096<n)(hok:¬ok):
 Calls Tryz.prog 92 #[.pointer (some ⟨q,0,none⟩),.agg #[.string v.o,.string v.nm,.slice v.A v.ll v.cap,.int .i64 v.p],.bool b] w (NfP y n q ok w):=by
 have hql:=hb.lt
 have hb0:Below w.heap.size w ((w.alloc (.cells #[.string v.o,.string v.nm,.slice v.A v.ll v.cap,.int .i64 v.p] 27)).alloc (.cells #[.string ⟨#[]⟩,.string ⟨#[]⟩,.slice none 0 0,.int .i64 0] 27)):=below_t (below_alloc _ _) (below_alloc _ _)
 have hd:decide (4096<n)=true:=decide_eq_true hn
 have HFU:=Lib.hid (hd▸nfull_any _ (hb.below hb0))
 have hR:=Bx.newAt (w:=(w.alloc (.cells #[.string v.o,.string v.nm,.slice v.A v.ll v.cap,.int .i64 v.p] 27))) (k:=w.heap.size+1) (by simp) 27 fz
 have HEN:=Lib.hid (fi_end (v:=fv0) (y:=y) (n':=n) (q:=q) (ok:=ok) (w3:=((w.alloc (.cells #[.string v.o,.string v.nm,.slice v.A v.ll v.cap,.int .i64 v.p] 27)).alloc (.cells #[.string ⟨#[]⟩,.string ⟨#[]⟩,.slice none 0 0,.int .i64 0] 27))) (r:=w.heap.size+1) hb0 hql (Nat.le_succ _) hR.lt (Fx.refl _ _) (hb.below hb0) (fun h=>absurd h hok))
 have HY:=Lib.hid (Bx.set4 (x0:=.string ⟨#[]⟩) (x1:=.string ⟨#[]⟩) (x2:=.slice none 0 0) (x3:=.int .i64 0) hR).cells4
 have hRR:Bx ((w.alloc (.cells #[.string v.o,.string v.nm,.slice v.A v.ll v.cap,.int .i64 v.p] 27)).alloc (.cells #[.string ⟨#[]⟩,.string ⟨#[]⟩,.slice none 0 0,.int .i64 0] 27)) (w.heap.size+1) 27 fz:=hR
 obtain⟨W0,hW0⟩:∃W,W=((w.alloc (.cells #[.string v.o,.string v.nm,.slice v.A v.ll v.cap,.int .i64 v.p] 27)).alloc (.cells #[.string ⟨#[]⟩,.string ⟨#[]⟩,.slice none 0 0,.int .i64 0] 27)):=⟨_,rfl⟩
 have HW:=Lib.hid hW0
 rw[<- hW0]at hRR HFU HEN
 have HY:=Lib.hid (Bx.set4 (x0:=.string ⟨#[]⟩) (x1:=.string ⟨#[]⟩) (x2:=.slice none 0 0) (x3:=.int .i64 0) hRR).cells4
 obtain⟨f0,f1,f2,f3⟩:=hRR.frozen4
 obtain⟨z0,z1,z2,z3⟩:=hRR.cells4
 have hl:=hRR.lt
 clear hb0 hb hR hRR hW0
 go_enter Tryz.func92,Tryz.ntmps92
 go_wp2_with fail
 rw[<- HW.out]
 with_reducible refine(HFU.out).mono ?_
 rintro e w1 ⟨rfl,rfl⟩
 obtain⟨y0,y1,y2,y3⟩:=HY.out
 go_wp2
 refine bodyPost_ret (v:=.agg #[.string ⟨#[]⟩,.string ⟨#[]⟩,.slice none 0 0,.int .i64 0]) (by simp[results,Tryz.results92,go_sem,y0,y1,y2,y3]) rfl HEN.out
def muF:Fo->Nat
 | .leaf _ _ _=>2
 | .un op a _=>2*(a.size+1)+(if op=[71]then 1 else 0)
 | .bin op a b _=>2*(a.size+b.size+1)+(if op=[87]then 1 else 0)
theorem mu_le(x:Fo):muF x<=2*x.size+1:=by
 cases x with
 | leaf op nm p=>simp[muF,Fo.size]
 | un op a p=>simp only[muF,Fo.size];split<;>omega
 | bin op a b p=>simp only[muF,Fo.size];split<;>omega
theorem cm_tr{nm:List UInt8}{p n:Nat}{b:Bool}(hn:n<=4096):cM (.leaf opTrue nm p) b n=n+1:=by
 simp only[cM,show opTrue≠opLab by decide,false_and,if_false];rw[if_neg (by omega)]
theorem cm_fa{nm:List UInt8}{p n:Nat}{b:Bool}(hn:n<=4096):cM (.leaf opFalse nm p) b n=n+1:=by
 simp only[cM,show opFalse≠opLab by decide,false_and,if_false];rw[if_neg (by omega)]
theorem cm_not{a:Fo}{p n:Nat}{b:Bool}:cM (.un [33] a p) b n=cM a (!b) n:=by
 rw[cM]
 split
 · next h=>rw[cm_full _ _ _ h]
 · rw[if_pos rfl]
theorem cm_or{a c:Fo}{p n:Nat}{b:Bool}:cM (.bin [124] a c p) b n=if 4096<n then n else cM c b (cM a b n)+1:=by
 rw[cM]
 by_cases h:4096<n
 · rw[if_pos h,if_pos h]
 · rw[if_neg h,if_neg h,if_neg (by decide),if_neg (by decide)]
theorem cm_X{a:Fo}{p n:Nat}{b:Bool}(hn:n<=4096):cM (.un [88] a p) b n=cM a b n+1:=by
 simp only[cM]
 rw[if_neg (by omega),if_neg (by decide),if_pos trivial]
theorem cm_FG{op:List UInt8}{a:Fo}{p n:Nat}{b:Bool}(h1:op≠[33])(h2:op≠[88])(hn:n<=4096):cM (.un op a p) b n=cM a b (n+1)+1:=by
 simp only[cM]
 rw[if_neg (by omega),if_neg h1,if_neg h2]
theorem cm_imp{a c:Fo}{p n:Nat}{b:Bool}(hn:n<=4096):cM (.bin [61,62] a c p) b n=cM c b (cM a (!b) n)+1:=by
 simp only[cM]
 rw[if_neg (by omega),if_pos trivial]
theorem cm_two{op:List UInt8}{a c:Fo}{p n:Nat}{b:Bool}(h1:op≠[61,62])(h2:op≠[87])(hn:n<=4096):cM (.bin op a c p) b n=cM c b (cM a b n)+1:=by
 simp only[cM]
 rw[if_neg (by omega),if_neg h1,if_neg h2]
theorem cm_W{a c:Fo}{p n:Nat}{b:Bool}(hn:n<=4096):cM (.bin [87] a c p) b n=cM (.bin [124] a c 0) b (cM c b n)+1:=by
 rw[cm_or]
 simp only[cM]
 rw[if_neg (by omega),if_neg (by decide),if_pos trivial]
theorem hop_of{S:Nat->Prop}{x:Fo}{v:FV}{w:World}(h:FS w 27 S x v.c):v.o.toList=x.op:=by
 rw[h.opn,ByteArray.toList_eq]
theorem fm_of(x:Fo)(hx:OkF x)(hz:x.size<=4096)(hi:∀y,muF y<muF x->OkF y->y.size<=4096->FMC y):FMC x:=by
 intro b n q S v w h hb hn
 rcases Nat.lt_or_ge 4096 n with g | g
 · rw[cm_full x b n g]
   exact nf_full w hb g (by omega)
 have ho:=hop_of h
 cases x with
 | leaf op nm p=>
   rcases hx with⟨rfl,hl⟩ | ⟨rfl | rfl,rfl⟩
   · obtain⟨-, -,hnm⟩:=h.kr
     have hs:v.nm.size<=65536:=by rw[hnm];simpa[ByteArray.size,Fo.nm]using hl
     have hnl:v.nm.data.toList=nm:=by rw[hnm];simp[Fo.nm]
     cases b
     · refine(nf_lab_f w h ho hb g hs).mono fun e w' hh=>NfP.of hh ?_ ?_ (fun _=>trivial)
       · rw[hnl,n_lab];rfl
       · rw[cM,if_neg (by omega),if_neg (by simp)]
     · refine(nf_lab_t w h ho hb g hs).mono fun e w' hh=>NfP.of hh ?_ ?_ (fun _=>trivial)
       · rw[hnl,n_lab];rfl
       · rw[cM,if_neg (by omega),if_pos ⟨rfl,rfl⟩]
   · cases b
     · exact(nf_tr_f w h ho hb g).mono fun e w' hh=>NfP.of hh (by rw[n_true];rfl) (cm_tr g).symm (fun _=>trivial)
     · exact(nf_tr_t w h ho hb g).mono fun e w' hh=>NfP.of hh (by rw[n_true];rfl) (cm_tr g).symm (fun _=>trivial)
   · cases b
     · exact(nf_fa_f w h ho hb g).mono fun e w' hh=>NfP.of hh (by rw[n_false];rfl) (cm_fa g).symm (fun _=>trivial)
     · exact(nf_fa_t w h ho hb g).mono fun e w' hh=>NfP.of hh (by rw[n_false];rfl) (cm_fa g).symm (fun _=>trivial)
 | un op a p=>
   have hm:=mu_le a
   simp only[Fo.size]at hz
   have oT:OkF (.leaf opTrue [] 0):=.inr ⟨.inl rfl,rfl⟩
   have hT:muF (.leaf opTrue [] 0)<muF (.un op a p):=by show 2<2*(a.size+1)+(if op=[71]then 1 else 0);have:=size_posF a;omega
   have oN:OkF (.un [33] a 0):=⟨by decide,hx.2⟩
   have ha:FMC a:=hi a (by show muF a<2*(a.size+1)+(if op=[71]then 1 else 0);omega) hx.2 (by omega)
   rcases pk4 hx.1 with rfl | rfl | rfl | rfl
   · cases b
     · exact(nf_not_f ha w h ho hb g).mono fun e w' hh=>NfP.of hh (n_not (a:=a) (p:=p) (b:=false)).symm (cm_not (a:=a) (p:=p) (b:=false)).symm (fun hk=>by rw[n_not]at hk;exact hk)
     · exact(nf_not_t ha w h ho hb g).mono fun e w' hh=>NfP.of hh (n_not (a:=a) (p:=p) (b:=true)).symm (cm_not (a:=a) (p:=p) (b:=true)).symm (fun hk=>by rw[n_not]at hk;exact hk)
   · cases b
     · exact(nf_X_f ha (by omega) w h ho hb g).mono fun e w' hh=>NfP.of hh n_X.symm (cm_X g).symm (fun hk=>by rw[n_X]at hk;exact hk)
     · exact(nf_X_t ha (by omega) w h ho hb g).mono fun e w' hh=>NfP.of hh n_X.symm (cm_X g).symm (fun hk=>by rw[n_X]at hk;exact hk)
   · have hF:=hi _ hT oT (by simp[Fo.size])
     cases b
     · exact(nf_F_f hF ha (by simp[Fo.size]) (by omega) oT w h ho hb g).mono fun e w' hh=>NfP.of hh (by rw[n_F];rfl) ((congrArg (fun k=>cM a false k+1) (cm_tr g)).trans (cm_FG (by decide) (by decide) g).symm) (fun hk=>by rw[n_F]at hk;simp only[Fo.size]at hk;show n+1+(nO a false).size+1<=4096;omega)
     · exact(nf_F_t hF ha (by simp[Fo.size]) (by omega) oT w h ho hb g).mono fun e w' hh=>NfP.of hh (by rw[n_F];rfl) ((congrArg (fun k=>cM a true k+1) (cm_tr g)).trans (cm_FG (by decide) (by decide) g).symm) (fun hk=>by rw[n_F]at hk;simp only[Fo.size]at hk;show n+1+(nO a true).size+1<=4096;omega)
   · have hF:=hi _ hT oT (by simp[Fo.size])
     have hN:=hi (.un [33] a 0) (by simp[muF]) oN (by simp only[Fo.size];omega)
     cases b
     · exact(nf_G_f hF hN (by simp[Fo.size]) (by simp only[Fo.size];omega) oT w h ho hb g).mono fun e w' hh=>NfP.of hh (by rw[n_G,n_not];rfl) (by rw[cm_not,cm_FG (by decide) (by decide) g];exact congrArg (fun k=>cM a false k+1) (cm_tr g)) (fun hk=>by rw[n_G]at hk;simp only[Fo.size]at hk;rw[n_not];show n+1+(nO a false).size+1<=4096;omega)
     · exact(nf_G_t hF hN (by simp[Fo.size]) (by simp only[Fo.size];omega) oT w h ho hb g).mono fun e w' hh=>NfP.of hh (by rw[n_G,n_not];rfl) (by rw[cm_not,cm_FG (by decide) (by decide) g];exact congrArg (fun k=>cM a true k+1) (cm_tr g)) (fun hk=>by rw[n_G]at hk;simp only[Fo.size]at hk;rw[n_not];show n+1+(nO a true).size+1<=4096;omega)
 | bin op a c p=>
   have hm:=mu_le a
   have hm':=mu_le c
   have za:=size_posF a
   have zc:=size_posF c
   simp only[Fo.size]at hz
   have ha:FMC a:=hi a (by show muF a<2*(a.size+c.size+1)+(if op=[87]then 1 else 0);omega) hx.2.1 (by omega)
   have hc:FMC c:=hi c (by show muF c<2*(a.size+c.size+1)+(if op=[87]then 1 else 0);omega) hx.2.2 (by omega)
   rcases pk03 hx.1 with rfl | rfl | rfl | rfl | rfl | rfl
   · have hN:=hi (.un [33] a 0) (by simp[muF];omega) ⟨by decide,hx.2.1⟩ (by simp only[Fo.size];omega)
     cases b
     · exact(nf_imp_f hN hc (by simp only[Fo.size];omega) (by omega) ⟨by decide,hx.2.1⟩ w h ho hb g).mono fun e w' hh=>NfP.of hh (by rw[n_imp,n_not];rfl) (by rw[cm_imp g,cm_not]) (fun hk=>by rw[n_imp]at hk;simp only[Fo.size]at hk;rw[n_not];unfold Fits;omega)
     · exact(nf_imp_t hN hc (by simp only[Fo.size];omega) (by omega) ⟨by decide,hx.2.1⟩ w h ho hb g).mono fun e w' hh=>NfP.of hh (by rw[n_imp,n_not];rfl) (by rw[cm_imp g,cm_not]) (fun hk=>by rw[n_imp]at hk;simp only[Fo.size]at hk;rw[n_not];unfold Fits;omega)
   · cases b
     · exact(nf_or_f (p:=p) ha hc (by omega) (by omega) hx.2.1 w h ho hb g).mono fun e w' hh=>NfP.of hh (by rw[n_or];rfl) (cm_two (by decide) (by decide) g).symm (fun hk=>by rw[n_or]at hk;simp only[Fo.size]at hk;unfold Fits;omega)
     · exact(nf_or_t (p:=p) ha hc (by omega) (by omega) hx.2.1 w h ho hb g).mono fun e w' hh=>NfP.of hh (by rw[n_or];rfl) (cm_two (by decide) (by decide) g).symm (fun hk=>by rw[n_or]at hk;simp only[Fo.size]at hk;unfold Fits;omega)
   · cases b
     · exact(nf_and_f (p:=p) ha hc (by omega) (by omega) hx.2.1 w h ho hb g).mono fun e w' hh=>NfP.of hh (by rw[n_and];rfl) (cm_two (by decide) (by decide) g).symm (fun hk=>by rw[n_and]at hk;simp only[Fo.size]at hk;unfold Fits;omega)
     · exact(nf_and_t (p:=p) ha hc (by omega) (by omega) hx.2.1 w h ho hb g).mono fun e w' hh=>NfP.of hh (by rw[n_and];rfl) (cm_two (by decide) (by decide) g).symm (fun hk=>by rw[n_and]at hk;simp only[Fo.size]at hk;unfold Fits;omega)
   · cases b
     · exact(nf_U_f (p:=p) ha hc (by omega) (by omega) hx.2.1 w h ho hb g).mono fun e w' hh=>NfP.of hh (by rw[n_U];rfl) (cm_two (by decide) (by decide) g).symm (fun hk=>by rw[n_U]at hk;simp only[Fo.size]at hk;unfold Fits;omega)
     · exact(nf_U_t (p:=p) ha hc (by omega) (by omega) hx.2.1 w h ho hb g).mono fun e w' hh=>NfP.of hh (by rw[n_U];rfl) (cm_two (by decide) (by decide) g).symm (fun hk=>by rw[n_U]at hk;simp only[Fo.size]at hk;unfold Fits;omega)
   · have oO:OkF (.bin [124] a c 0):=⟨by decide,hx.2.1,hx.2.2⟩
     have hO:=hi (.bin [124] a c 0) (by simp[muF]) oO (by simp only[Fo.size];omega)
     cases b
     · exact(nf_W_f hc hO (by omega) (by simp only[Fo.size];omega) hx.2.2 w h ho hb g).mono fun e w' hh=>NfP.of hh (by rw[n_W,n_or];rfl) (cm_W g).symm (fun hk=>by rw[n_W]at hk;simp only[Fo.size]at hk;rw[n_or];simp only[Fo.size];unfold Fits;omega)
     · exact(nf_W_t hc hO (by omega) (by simp only[Fo.size];omega) hx.2.2 w h ho hb g).mono fun e w' hh=>NfP.of hh (by rw[n_W,n_or];rfl) (cm_W g).symm (fun hk=>by rw[n_W]at hk;simp only[Fo.size]at hk;rw[n_or];simp only[Fo.size];unfold Fits;omega)
   · cases b
     · exact(nf_R_f (p:=p) ha hc (by omega) (by omega) hx.2.1 w h ho hb g).mono fun e w' hh=>NfP.of hh (by rw[n_R];rfl) (cm_two (by decide) (by decide) g).symm (fun hk=>by rw[n_R]at hk;simp only[Fo.size]at hk;unfold Fits;omega)
     · exact(nf_R_t (p:=p) ha hc (by omega) (by omega) hx.2.1 w h ho hb g).mono fun e w' hh=>NfP.of hh (by rw[n_R];rfl) (cm_two (by decide) (by decide) g).symm (fun hk=>by rw[n_R]at hk;simp only[Fo.size]at hk;unfold Fits;omega)
theorem fm_upto:∀(k:Nat) (x:Fo),muF x<k->OkF x->x.size<=4096->FMC x
 | 0,_,h,_,_=>absurd h (by omega)
 | k+1,x,h,hx,hz=>fm_of x hx hz fun y hy oy zy=>fm_upto k y (by omega) oy zy
theorem fm_any(x:Fo)(hx:OkF x)(hz:x.size<=4096):FMC x:=fm_upto _ x (Nat.lt_succ_self _) hx hz
end
section
open Go.RowKit
def okN(x y:Fo):Prop:=x.size<=4096/\y.size<=4096
def NoP(y:Fo)(ok:Prop)(k:Int)(w:World)(e:Ending)(w':World):Prop:=
 Below w.heap.size w w'/\((ok/\∃v:FV,e= .returned (.tuple #[.agg #[.string v.o,.string v.nm,.slice v.A v.ll v.cap,.int .i64 v.p],.nilIface])/\FI w' y w.heap.size w'.heap.size v.c)∨(¬ok/\e= .returned (.tuple #[.agg #[.string ⟨#[]⟩,.string ⟨#[]⟩,.slice none 0 0,.int .i64 0],.iface 78 (.int .i64 k)])))
theorem nfo_long{x:Fo}{b:Bool}{S:Nat->Prop}{v:FV}(w:World)(h:FS w 27 S x v.c)(hz:4096<x.size):
 Calls Tryz.prog 55 #[.agg #[.string v.o,.string v.nm,.slice v.A v.ll v.cap,.int .i64 v.p],.bool b] w (NoP (nO x b) (okN x (nO x b)) 2 w):=by
 have hb0:Below w.heap.size w ((w.alloc (.cells #[.string v.o,.string v.nm,.slice v.A v.ll v.cap,.int .i64 v.p] 27)).alloc (.cells #[.string ⟨#[]⟩,.string ⟨#[]⟩,.slice none 0 0,.int .i64 0] 27)):=below_t (below_alloc _ _) (below_alloc _ _)
 have HPS:=Lib.hid (show Calls Tryz.prog 38 #[.agg #[.string v.o,.string v.nm,.slice v.A v.ll v.cap,.int .i64 v.p]] ((w.alloc (.cells #[.string v.o,.string v.nm,.slice v.A v.ll v.cap,.int .i64 v.p] 27)).alloc (.cells #[.string ⟨#[]⟩,.string ⟨#[]⟩,.slice none 0 0,.int .i64 0] 27)) (fun e w'=>e= .returned (.int .i64 ((4097:Nat):Int))/\Below ((w.alloc (.cells #[.string v.o,.string v.nm,.slice v.A v.ll v.cap,.int .i64 v.p] 27)).alloc (.cells #[.string ⟨#[]⟩,.string ⟨#[]⟩,.slice none 0 0,.int .i64 0] 27)).heap.size ((w.alloc (.cells #[.string v.o,.string v.nm,.slice v.A v.ll v.cap,.int .i64 v.p] 27)).alloc (.cells #[.string ⟨#[]⟩,.string ⟨#[]⟩,.slice none 0 0,.int .i64 0] 27)) w')from(show min x.size 4097=4097 by omega)▸psize_any ((w.alloc (.cells #[.string v.o,.string v.nm,.slice v.A v.ll v.cap,.int .i64 v.p] 27)).alloc (.cells #[.string ⟨#[]⟩,.string ⟨#[]⟩,.slice none 0 0,.int .i64 0] 27)) (h.below hb0))
 have HR0:=Lib.hid (show Bx ((w.alloc (.cells #[.string v.o,.string v.nm,.slice v.A v.ll v.cap,.int .i64 v.p] 27)).alloc (.cells #[.string ⟨#[]⟩,.string ⟨#[]⟩,.slice none 0 0,.int .i64 0] 27)) (w.heap.size+1) 27 fz from Bx.newAt (by simp) 27 fz)
 have HF0:=Lib.hid (show Bx ((w.alloc (.cells #[.string v.o,.string v.nm,.slice v.A v.ll v.cap,.int .i64 v.p] 27)).alloc (.cells #[.string ⟨#[]⟩,.string ⟨#[]⟩,.slice none 0 0,.int .i64 0] 27)) w.heap.size 27 [.string v.o,.string v.nm,.slice v.A v.ll v.cap,.int .i64 v.p]from(Bx.new w 27 [.string v.o,.string v.nm,.slice v.A v.ll v.cap,.int .i64 v.p]).alloc _)
 have HB0:=Lib.hid hb0
 have HX:=Lib.hid h
 clear hb0 h
 have HN:=Lib.hid (show ¬okN x (nO x b) by unfold okN;omega)
 go_enter Tryz.func55,Tryz.ntmps55
 go_wp2_with fail
 with_reducible refine(HPS.out).mono ?_
 rintro e w1 ⟨rfl,hb1⟩
 have hres:=HR0.out.below hb1
 obtain⟨f0,f1,f2,f3⟩:=(hres).frozen4
 obtain⟨z0,z1,z2,z3⟩:=(hres).cells4
 have hl:=(hres).lt
 obtain⟨y0,y1,y2,y3⟩:=(Bx.set4 (x0:=.string ⟨#[]⟩) (x1:=.string ⟨#[]⟩) (x2:=.slice none 0 0) (x3:=.int .i64 0) (hres)).cells4
 have HB9:=Lib.hid (below_set4 (x0:=.string ⟨#[]⟩) (x1:=.string ⟨#[]⟩) (x2:=.slice none 0 0) (x3:=.int .i64 0) (below_t HB0.out hb1) (q:=w.heap.size+1) (Nat.le_succ _))
 clear hb1 hres
 go_wp2
 refine bodyPost_ret (v:=.tuple #[.agg #[.string ⟨#[]⟩,.string ⟨#[]⟩,.slice none 0 0,.int .i64 0],.iface 78 (.int .i64 2)]) (by simp[results,Tryz.results55,go_sem,y0,y1,y2,y3]) rfl ⟨HB9.out,.inr ⟨HN.out,rfl⟩⟩
theorem nfo_full{x:Fo}{b:Bool}{S:Nat->Prop}{v:FV}(w:World)(h:FS w 27 S x v.c)(hx:OkF x)(hz:x.size<=4096)(hh:4096<(nO x b).size):
 Calls Tryz.prog 55 #[.agg #[.string v.o,.string v.nm,.slice v.A v.ll v.cap,.int .i64 v.p],.bool b] w (NoP (nO x b) (okN x (nO x b)) 2 w):=by
 have hb0:Below w.heap.size w ((w.alloc (.cells #[.string v.o,.string v.nm,.slice v.A v.ll v.cap,.int .i64 v.p] 27)).alloc (.cells #[.string ⟨#[]⟩,.string ⟨#[]⟩,.slice none 0 0,.int .i64 0] 27)):=below_t (below_alloc _ _) (below_alloc _ _)
 have HPS:=Lib.hid (show Calls Tryz.prog 38 #[.agg #[.string v.o,.string v.nm,.slice v.A v.ll v.cap,.int .i64 v.p]] ((w.alloc (.cells #[.string v.o,.string v.nm,.slice v.A v.ll v.cap,.int .i64 v.p] 27)).alloc (.cells #[.string ⟨#[]⟩,.string ⟨#[]⟩,.slice none 0 0,.int .i64 0] 27)) (fun e w'=>e= .returned (.int .i64 ((x.size:Nat):Int))/\Below ((w.alloc (.cells #[.string v.o,.string v.nm,.slice v.A v.ll v.cap,.int .i64 v.p] 27)).alloc (.cells #[.string ⟨#[]⟩,.string ⟨#[]⟩,.slice none 0 0,.int .i64 0] 27)).heap.size ((w.alloc (.cells #[.string v.o,.string v.nm,.slice v.A v.ll v.cap,.int .i64 v.p] 27)).alloc (.cells #[.string ⟨#[]⟩,.string ⟨#[]⟩,.slice none 0 0,.int .i64 0] 27)) w')from(show min x.size 4097=x.size by omega)▸psize_any ((w.alloc (.cells #[.string v.o,.string v.nm,.slice v.A v.ll v.cap,.int .i64 v.p] 27)).alloc (.cells #[.string ⟨#[]⟩,.string ⟨#[]⟩,.slice none 0 0,.int .i64 0] 27)) (h.below hb0))
 have HR0:=Lib.hid (show Bx ((w.alloc (.cells #[.string v.o,.string v.nm,.slice v.A v.ll v.cap,.int .i64 v.p] 27)).alloc (.cells #[.string ⟨#[]⟩,.string ⟨#[]⟩,.slice none 0 0,.int .i64 0] 27)) (w.heap.size+1) 27 fz from Bx.newAt (by simp) 27 fz)
 have HF0:=Lib.hid (show Bx ((w.alloc (.cells #[.string v.o,.string v.nm,.slice v.A v.ll v.cap,.int .i64 v.p] 27)).alloc (.cells #[.string ⟨#[]⟩,.string ⟨#[]⟩,.slice none 0 0,.int .i64 0] 27)) w.heap.size 27 [.string v.o,.string v.nm,.slice v.A v.ll v.cap,.int .i64 v.p]from(Bx.new w 27 [.string v.o,.string v.nm,.slice v.A v.ll v.cap,.int .i64 v.p]).alloc _)
 have HB0:=Lib.hid hb0
 have HX:=Lib.hid h
 clear hb0 h
 have HFM:=Lib.hid (fun(W:World) (q:Nat) (hf:FS W 27 S x v.c) (hq:Bx W q 136 [.int .i64 ((0:Nat):Int)])=>fm_any x hx hz b 0 q S v W hf hq (by omega))
 have hk:decide (4096<cM x b 0)=true:=by
  have:=cm_is x hx b 0 (by omega)
  exact decide_eq_true (this.2 (by omega))
 have hk2:=cm_le x b 0
 have d0:decide ((4096:Int)<(x.size:Int))=false:=by simp;omega
 have HH:=Lib.hid hh
 have HZ:=Lib.hid hz
 obtain⟨k,hkk⟩:∃k,k=cM x b 0:=⟨_,rfl⟩
 rw[<- hkk]at hk HFM
 have HFU:=Lib.hid (fun(W:World) (q:Nat) (hq:Bx W q 136 [.int .i64 ((k:Nat):Int)])=>hk▸nfull_any W hq)
 generalize nO x b=y at*
 clear hx hkk hk hk2 hh
 go_enter Tryz.func55,Tryz.ntmps55
 go_wp2_with fail
 with_reducible refine(HPS.out).mono ?_
 rintro e w1 ⟨rfl,hb1⟩
 have hB1:=below_t HB0.out hb1
 have HQ:=Lib.hid (show Bx (w1.alloc (.cells #[.int .i64 0] 136)) w1.heap.size 136 [.int .i64 ((0:Nat):Int)]from Bx.new w1 136 [.int .i64 0])
 have HFX:=Lib.hid (((HX.out.below HB0.out).below hb1).below (below_alloc w1 (.cells #[.int .i64 0] 136)))
 have HB2:=Lib.hid (below_t hB1 (below_alloc w1 (.cells #[.int .i64 0] 136)))
 have HR2:=Lib.hid ((HR0.out.below hb1).below (below_alloc w1 (.cells #[.int .i64 0] 136)))
 have hz1:w.heap.size+1<w1.heap.size:=(HR0.out.below hb1).lt
 obtain⟨p0,p1,p2,p3⟩:=Bx.cells4 (show Bx (w1.alloc (.cells #[.int .i64 0] 136)) w.heap.size 27 [.string v.o,.string v.nm,.slice v.A v.ll v.cap,.int .i64 v.p]from(HF0.out.below hb1).below (below_alloc _ _))
 clear hb1 hB1
 go_wp2_with fail
 with_reducible refine(HFM.out _ _ HFX.out HQ.out).mono ?_
 rintro e w3 ⟨va,rfl,hf3,hb3,hi3⟩
 have hbl3:Below w.heap.size w w3:=((Fx.of (X:=fun j=>j=w1.heap.size) HB2.out).trans hf3).below (fun j hj=>by omega)
 have hr3:=HR2.out.fx hf3 (show ¬w.heap.size+1=w1.heap.size by omega)
 have HB3:=Lib.hid (below_t hbl3 (below_alloc w3 (.cells #[.string va.o,.string va.nm,.slice va.A va.ll va.cap,.int .i64 va.p] 27)))
 have HR3:=Lib.hid (hr3.below (below_alloc w3 (.cells #[.string va.o,.string va.nm,.slice va.A va.ll va.cap,.int .i64 va.p] 27)))
 have HQ3:=Lib.hid (hb3.below (below_alloc w3 (.cells #[.string va.o,.string va.nm,.slice va.A va.ll va.cap,.int .i64 va.p] 27)))
 have HI3:=Lib.hid hi3
 have hzs:(w1.alloc (.cells #[.int .i64 0] 136)).heap.size=w1.heap.size+1:=by simp
 clear hbl3 hr3 hf3 hb3 hi3
 go_wp2_with fail
 with_reducible refine(HFU.out _ _ HQ3.out).mono ?_
 rintro e w4 ⟨rfl,rfl⟩
 have hres:=HR3.out
 obtain⟨f0,f1,f2,f3⟩:=(hres).frozen4
 obtain⟨z0,z1,z2,z3⟩:=(hres).cells4
 have hl:=(hres).lt
 obtain⟨y0,y1,y2,y3⟩:=(Bx.set4 (x0:=.string ⟨#[]⟩) (x1:=.string ⟨#[]⟩) (x2:=.slice none 0 0) (x3:=.int .i64 0) (hres)).cells4
 have HB9:=Lib.hid (below_set4 (x0:=.string ⟨#[]⟩) (x1:=.string ⟨#[]⟩) (x2:=.slice none 0 0) (x3:=.int .i64 0) HB3.out (q:=w.heap.size+1) (Nat.le_succ _))
 have HN:=Lib.hid (show ¬okN x y from fun h=>absurd h.2 (by have:=HH.out;omega))
 clear hres
 go_wp2
 refine bodyPost_ret (v:=.tuple #[.agg #[.string ⟨#[]⟩,.string ⟨#[]⟩,.slice none 0 0,.int .i64 0],.iface 78 (.int .i64 2)]) (by simp[results,Tryz.results55,go_sem,y0,y1,y2,y3]) rfl ⟨HB9.out,.inr ⟨HN.out,rfl⟩⟩
theorem nfo_fits{x:Fo}{b:Bool}{S:Nat->Prop}{v:FV}(w:World)(h:FS w 27 S x v.c)(hx:OkF x)(hz:x.size<=4096)(hh:(nO x b).size<=4096):
 Calls Tryz.prog 55 #[.agg #[.string v.o,.string v.nm,.slice v.A v.ll v.cap,.int .i64 v.p],.bool b] w (NoP (nO x b) (okN x (nO x b)) 2 w):=by
 have hb0:Below w.heap.size w ((w.alloc (.cells #[.string v.o,.string v.nm,.slice v.A v.ll v.cap,.int .i64 v.p] 27)).alloc (.cells #[.string ⟨#[]⟩,.string ⟨#[]⟩,.slice none 0 0,.int .i64 0] 27)):=below_t (below_alloc _ _) (below_alloc _ _)
 have HPS:=Lib.hid (show Calls Tryz.prog 38 #[.agg #[.string v.o,.string v.nm,.slice v.A v.ll v.cap,.int .i64 v.p]] ((w.alloc (.cells #[.string v.o,.string v.nm,.slice v.A v.ll v.cap,.int .i64 v.p] 27)).alloc (.cells #[.string ⟨#[]⟩,.string ⟨#[]⟩,.slice none 0 0,.int .i64 0] 27)) (fun e w'=>e= .returned (.int .i64 ((x.size:Nat):Int))/\Below ((w.alloc (.cells #[.string v.o,.string v.nm,.slice v.A v.ll v.cap,.int .i64 v.p] 27)).alloc (.cells #[.string ⟨#[]⟩,.string ⟨#[]⟩,.slice none 0 0,.int .i64 0] 27)).heap.size ((w.alloc (.cells #[.string v.o,.string v.nm,.slice v.A v.ll v.cap,.int .i64 v.p] 27)).alloc (.cells #[.string ⟨#[]⟩,.string ⟨#[]⟩,.slice none 0 0,.int .i64 0] 27)) w')from(show min x.size 4097=x.size by omega)▸psize_any ((w.alloc (.cells #[.string v.o,.string v.nm,.slice v.A v.ll v.cap,.int .i64 v.p] 27)).alloc (.cells #[.string ⟨#[]⟩,.string ⟨#[]⟩,.slice none 0 0,.int .i64 0] 27)) (h.below hb0))
 have HR0:=Lib.hid (show Bx ((w.alloc (.cells #[.string v.o,.string v.nm,.slice v.A v.ll v.cap,.int .i64 v.p] 27)).alloc (.cells #[.string ⟨#[]⟩,.string ⟨#[]⟩,.slice none 0 0,.int .i64 0] 27)) (w.heap.size+1) 27 fz from Bx.newAt (by simp) 27 fz)
 have HF0:=Lib.hid (show Bx ((w.alloc (.cells #[.string v.o,.string v.nm,.slice v.A v.ll v.cap,.int .i64 v.p] 27)).alloc (.cells #[.string ⟨#[]⟩,.string ⟨#[]⟩,.slice none 0 0,.int .i64 0] 27)) w.heap.size 27 [.string v.o,.string v.nm,.slice v.A v.ll v.cap,.int .i64 v.p]from(Bx.new w 27 [.string v.o,.string v.nm,.slice v.A v.ll v.cap,.int .i64 v.p]).alloc _)
 have HB0:=Lib.hid hb0
 have HX:=Lib.hid h
 clear hb0 h
 have HFM:=Lib.hid (fun(W:World) (q:Nat) (hf:FS W 27 S x v.c) (hq:Bx W q 136 [.int .i64 ((0:Nat):Int)])=>fm_any x hx hz b 0 q S v W hf hq (by omega))
 have hk:decide (4096<cM x b 0)=false:=by
  have:=cm_is x hx b 0 (by omega)
  exact decide_eq_false (by rw[this.1 (by omega)];omega)
 have hk2:=cm_le x b 0
 have d0:decide ((4096:Int)<(x.size:Int))=false:=by simp;omega
 have HH:=Lib.hid hh
 have HZ:=Lib.hid hz
 obtain⟨k,hkk⟩:∃k,k=cM x b 0:=⟨_,rfl⟩
 rw[<- hkk]at hk HFM
 have HFU:=Lib.hid (fun(W:World) (q:Nat) (hq:Bx W q 136 [.int .i64 ((k:Nat):Int)])=>hk▸nfull_any W hq)
 generalize nO x b=y at*
 clear hx hkk hk hk2 hh
 go_enter Tryz.func55,Tryz.ntmps55
 go_wp2_with fail
 with_reducible refine(HPS.out).mono ?_
 rintro e w1 ⟨rfl,hb1⟩
 have hB1:=below_t HB0.out hb1
 have HQ:=Lib.hid (show Bx (w1.alloc (.cells #[.int .i64 0] 136)) w1.heap.size 136 [.int .i64 ((0:Nat):Int)]from Bx.new w1 136 [.int .i64 0])
 have HFX:=Lib.hid (((HX.out.below HB0.out).below hb1).below (below_alloc w1 (.cells #[.int .i64 0] 136)))
 have HB2:=Lib.hid (below_t hB1 (below_alloc w1 (.cells #[.int .i64 0] 136)))
 have HR2:=Lib.hid ((HR0.out.below hb1).below (below_alloc w1 (.cells #[.int .i64 0] 136)))
 have hz1:w.heap.size+1<w1.heap.size:=(HR0.out.below hb1).lt
 obtain⟨p0,p1,p2,p3⟩:=Bx.cells4 (show Bx (w1.alloc (.cells #[.int .i64 0] 136)) w.heap.size 27 [.string v.o,.string v.nm,.slice v.A v.ll v.cap,.int .i64 v.p]from(HF0.out.below hb1).below (below_alloc _ _))
 clear hb1 hB1
 go_wp2_with fail
 with_reducible refine(HFM.out _ _ HFX.out HQ.out).mono ?_
 rintro e w3 ⟨va,rfl,hf3,hb3,hi3⟩
 have hbl3:Below w.heap.size w w3:=((Fx.of (X:=fun j=>j=w1.heap.size) HB2.out).trans hf3).below (fun j hj=>by omega)
 have hr3:=HR2.out.fx hf3 (show ¬w.heap.size+1=w1.heap.size by omega)
 have HB3:=Lib.hid (below_t hbl3 (below_alloc w3 (.cells #[.string va.o,.string va.nm,.slice va.A va.ll va.cap,.int .i64 va.p] 27)))
 have HR3:=Lib.hid (hr3.below (below_alloc w3 (.cells #[.string va.o,.string va.nm,.slice va.A va.ll va.cap,.int .i64 va.p] 27)))
 have HQ3:=Lib.hid (hb3.below (below_alloc w3 (.cells #[.string va.o,.string va.nm,.slice va.A va.ll va.cap,.int .i64 va.p] 27)))
 have HI3:=Lib.hid hi3
 have hzs:(w1.alloc (.cells #[.int .i64 0] 136)).heap.size=w1.heap.size+1:=by simp
 clear hbl3 hr3 hf3 hb3 hi3
 go_wp2_with fail
 with_reducible refine(HFU.out _ _ HQ3.out).mono ?_
 rintro e w4 ⟨rfl,rfl⟩
 have hres:=HR3.out
 obtain⟨f0,f1,f2,f3⟩:=(hres).frozen4
 obtain⟨z0,z1,z2,z3⟩:=(hres).cells4
 have hl:=(hres).lt
 obtain⟨y0,y1,y2,y3⟩:=(Bx.set4 (x0:=.string va.o) (x1:=.string va.nm) (x2:=.slice va.A va.ll va.cap) (x3:=.int .i64 va.p) (hres)).cells4
 have HB9:=Lib.hid (below_set4 (x0:=.string va.o) (x1:=.string va.nm) (x2:=.slice va.A va.ll va.cap) (x3:=.int .i64 va.p) HB3.out (q:=w.heap.size+1) (Nat.le_succ _))
 have HFI:=Lib.hid ((((HI3.out (by have:=HH.out;omega)).below (below_alloc w3 (.cells #[.string va.o,.string va.nm,.slice va.A va.ll va.cap,.int .i64 va.p] 27))).set4 (x0:=.string va.o) (x1:=.string va.nm) (x2:=.slice va.A va.ll va.cap) (x3:=.int .i64 va.p) (q:=w.heap.size+1) (.inl (by omega))).mono (lo':=w.heap.size) (hi':=(((((w3.alloc (.cells #[.string va.o,.string va.nm,.slice va.A va.ll va.cap,.int .i64 va.p] 27)).setCell ⟨w.heap.size+1,0,none⟩ (.string va.o)).setCell ⟨w.heap.size+1,1,none⟩ (.string va.nm)).setCell ⟨w.heap.size+1,2,none⟩ (.slice va.A va.ll va.cap)).setCell ⟨w.heap.size+1,3,none⟩ (.int .i64 va.p)).heap.size) (by omega) (by simp))
 clear hres
 go_wp2
 refine bodyPost_ret (v:=.tuple #[.agg #[.string va.o,.string va.nm,.slice va.A va.ll va.cap,.int .i64 va.p],.nilIface]) (by simp[results,Tryz.results55,go_sem,y0,y1,y2,y3]) rfl ⟨HB9.out,.inl ⟨⟨HZ.out,HH.out⟩,va,rfl,HFI.out⟩⟩
theorem nformof_any{x:Fo}(hx:OkF x){b:Bool}{S:Nat->Prop}{v:FV}(w:World)(h:FS w 27 S x v.c):Calls Tryz.prog 55 #[.agg #[.string v.o,.string v.nm,.slice v.A v.ll v.cap,.int .i64 v.p],.bool b] w (NoP (nO x b) (okN x (nO x b)) 2 w):=by
 rcases Nat.lt_or_ge 4096 x.size with g | g
 · exact nfo_long w h g
 rcases Nat.lt_or_ge 4096 (nO x b).size with k | k
 · exact nfo_full w h hx g k
 · exact nfo_fits w h hx g k
theorem nnormal_any{x:Fo}(hx:OkF x)(hT:x.size<=65536){b:Bool}{S:Nat->Prop}{v:FV}(w:World)(h:FS w 27 S x v.c):Calls Tryz.prog 30 #[.agg #[.string v.o,.string v.nm,.slice v.A v.ll v.cap,.int .i64 v.p],.bool b] w (NoP (nO x b) (okN x (nO x b)) 2 w):=by
 have hb0:Below w.heap.size w ((w.alloc (.cells #[.string v.o,.string v.nm,.slice v.A v.ll v.cap,.int .i64 v.p] 27)).alloc (.cells #[.string ⟨#[]⟩,.string ⟨#[]⟩,.slice none 0 0,.int .i64 0] 27)):=below_t (below_alloc _ _) (below_alloc _ _)
 have HAR:=Lib.hid (show Calls Tryz.prog 53 #[.agg #[.string v.o,.string v.nm,.slice v.A v.ll v.cap,.int .i64 v.p],.func (.func 54) #[] #[]] ((w.alloc (.cells #[.string v.o,.string v.nm,.slice v.A v.ll v.cap,.int .i64 v.p] 27)).alloc (.cells #[.string ⟨#[]⟩,.string ⟨#[]⟩,.slice none 0 0,.int .i64 0] 27)) (BoolP true ((w.alloc (.cells #[.string v.o,.string v.nm,.slice v.A v.ll v.cap,.int .i64 v.p] 27)).alloc (.cells #[.string ⟨#[]⟩,.string ⟨#[]⟩,.slice none 0 0,.int .i64 0] 27)))from nrt_all hx▸arer_any _ (h.below hb0) hx hT)
 have HFO:=Lib.hid (fun(W:World) (hb:Below ((w.alloc (.cells #[.string v.o,.string v.nm,.slice v.A v.ll v.cap,.int .i64 v.p] 27)).alloc (.cells #[.string ⟨#[]⟩,.string ⟨#[]⟩,.slice none 0 0,.int .i64 0] 27)).heap.size ((w.alloc (.cells #[.string v.o,.string v.nm,.slice v.A v.ll v.cap,.int .i64 v.p] 27)).alloc (.cells #[.string ⟨#[]⟩,.string ⟨#[]⟩,.slice none 0 0,.int .i64 0] 27)) W)=>nformof_any hx (b:=b) W ((h.below hb0).below hb))
 have HR0:=Lib.hid (show Bx ((w.alloc (.cells #[.string v.o,.string v.nm,.slice v.A v.ll v.cap,.int .i64 v.p] 27)).alloc (.cells #[.string ⟨#[]⟩,.string ⟨#[]⟩,.slice none 0 0,.int .i64 0] 27)) (w.heap.size+1) 27 fz from Bx.newAt (by simp) 27 fz)
 have HF0:=Lib.hid (show Bx ((w.alloc (.cells #[.string v.o,.string v.nm,.slice v.A v.ll v.cap,.int .i64 v.p] 27)).alloc (.cells #[.string ⟨#[]⟩,.string ⟨#[]⟩,.slice none 0 0,.int .i64 0] 27)) w.heap.size 27 [.string v.o,.string v.nm,.slice v.A v.ll v.cap,.int .i64 v.p]from(Bx.new w 27 [.string v.o,.string v.nm,.slice v.A v.ll v.cap,.int .i64 v.p]).alloc _)
 have HB0:=Lib.hid hb0
 generalize nO x b=y at*
 clear hb0 h hx hT
 go_enter Tryz.func30,Tryz.ntmps30
 go_wp2_with fail
 with_reducible refine(HAR.out).mono ?_
 rintro e w1 ⟨rfl,hb1⟩
 obtain⟨p0,p1,p2,p3⟩:=Bx.cells4 (show Bx w1 w.heap.size 27 [.string v.o,.string v.nm,.slice v.A v.ll v.cap,.int .i64 v.p]from HF0.out.below hb1)
 have HB1:=Lib.hid hb1
 clear hb1
 go_wp2_with fail
 with_reducible refine(HFO.out _ HB1.out).mono ?_
 rintro e w2 ⟨hb2,⟨hok,va,rfl,hi⟩ | ⟨hok,rfl⟩⟩
 · have hres:=(HR0.out.below HB1.out).below hb2
   have hz:=(HR0.out.below HB1.out).lt
   obtain⟨f0,f1,f2,f3⟩:=(hres).frozen4
   obtain⟨z0,z1,z2,z3⟩:=(hres).cells4
   have hl:=(hres).lt
   obtain⟨y0,y1,y2,y3⟩:=(Bx.set4 (x0:=.string va.o) (x1:=.string va.nm) (x2:=.slice va.A va.ll va.cap) (x3:=.int .i64 va.p) (hres)).cells4
   have HB9:=Lib.hid (below_set4 (x0:=.string va.o) (x1:=.string va.nm) (x2:=.slice va.A va.ll va.cap) (x3:=.int .i64 va.p) (below_t (below_t HB0.out HB1.out) hb2) (q:=w.heap.size+1) (Nat.le_succ _))
   have HFI:=Lib.hid ((hi.set4 (x0:=.string va.o) (x1:=.string va.nm) (x2:=.slice va.A va.ll va.cap) (x3:=.int .i64 va.p) (q:=w.heap.size+1) (.inl hz)).mono (lo':=w.heap.size) (hi':=((((w2.setCell ⟨w.heap.size+1,0,none⟩ (.string va.o)).setCell ⟨w.heap.size+1,1,none⟩ (.string va.nm)).setCell ⟨w.heap.size+1,2,none⟩ (.slice va.A va.ll va.cap)).setCell ⟨w.heap.size+1,3,none⟩ (.int .i64 va.p)).heap.size) (by omega) (by simp))
   have HOK:=Lib.hid hok
   clear hres hi hb2 hok
   go_wp2
   refine bodyPost_ret (v:=.tuple #[.agg #[.string va.o,.string va.nm,.slice va.A va.ll va.cap,.int .i64 va.p],.nilIface]) (by simp[results,Tryz.results30,go_sem,y0,y1,y2,y3]) rfl ⟨HB9.out,.inl ⟨HOK.out,va,rfl,HFI.out⟩⟩
 · have hres:=(HR0.out.below HB1.out).below hb2
   obtain⟨f0,f1,f2,f3⟩:=(hres).frozen4
   obtain⟨z0,z1,z2,z3⟩:=(hres).cells4
   have hl:=(hres).lt
   obtain⟨y0,y1,y2,y3⟩:=(Bx.set4 (x0:=.string ⟨#[]⟩) (x1:=.string ⟨#[]⟩) (x2:=.slice none 0 0) (x3:=.int .i64 0) (hres)).cells4
   have HB9:=Lib.hid (below_set4 (x0:=.string ⟨#[]⟩) (x1:=.string ⟨#[]⟩) (x2:=.slice none 0 0) (x3:=.int .i64 0) (below_t (below_t HB0.out HB1.out) hb2) (q:=w.heap.size+1) (Nat.le_succ _))
   have HOK:=Lib.hid hok
   clear hres hb2 hok
   go_wp2
   refine bodyPost_ret (v:=.tuple #[.agg #[.string ⟨#[]⟩,.string ⟨#[]⟩,.slice none 0 0,.int .i64 0],.iface 78 (.int .i64 2)]) (by simp[results,Tryz.results30,go_sem,y0,y1,y2,y3]) rfl ⟨HB9.out,.inr ⟨HOK.out,rfl⟩⟩
end
end Go.Proofs.YtmgjpjjglghbaaaGreatDoor
