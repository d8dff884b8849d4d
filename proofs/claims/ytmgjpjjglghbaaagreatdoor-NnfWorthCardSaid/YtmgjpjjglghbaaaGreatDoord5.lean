import Derived.Test.YtmgjpjjglghbaaaGreatDoord4
namespace Go.Proofs.YtmgjpjjglghbaaaGreatDoor
set_option maxHeartbeats 16000000
set_option maxRecDepth 100000
open Go.RowKit
theorem nf_tr_f{nmx:List UInt8}{p:Nat}{n q:Nat}{S:Nat->Prop}{v:FV}(w:World)(h:FS w 27 S (.leaf [116,114,117,101] nmx p) v.c)(hop:v.o.toList=[116,114,117,101])(hb:Bx w q 136 [.int .i64 (n:Int)])(hn:n<=4096):
 Calls Tryz.prog 92 #[.pointer (some ⟨q,0,none⟩),.agg #[.string v.o,.string v.nm,.slice v.A v.ll v.cap,.int .i64 v.p],.bool false] w (NfP (.leaf [116,114,117,101] [] 0) (n+1) q True w):=by
 have hql:=hb.lt
 have g0:(v.o.toList==[116,114,117,101])=true:=by rw[hop];rfl
 have hb0:Below w.heap.size w ((w.alloc (.cells #[.string v.o,.string v.nm,.slice v.A v.ll v.cap,.int .i64 v.p] 27)).alloc (.cells #[.string ⟨#[]⟩,.string ⟨#[]⟩,.slice none 0 0,.int .i64 0] 27)):=below_t (below_alloc _ _) (below_alloc _ _)
 have HFU:=Lib.hid (show Calls Tryz.prog 93 #[.pointer (some ⟨q,0,none⟩)] ((w.alloc (.cells #[.string v.o,.string v.nm,.slice v.A v.ll v.cap,.int .i64 v.p] 27)).alloc (.cells #[.string ⟨#[]⟩,.string ⟨#[]⟩,.slice none 0 0,.int .i64 0] 27)) (fun e w'=>e= .returned (.bool false)/\w'=((w.alloc (.cells #[.string v.o,.string v.nm,.slice v.A v.ll v.cap,.int .i64 v.p] 27)).alloc (.cells #[.string ⟨#[]⟩,.string ⟨#[]⟩,.slice none 0 0,.int .i64 0] 27)))from decide_eq_false (show ¬4096<n by omega)▸nfull_any _ (hb.below hb0))
 have HSD:=Lib.hid (sides_any ((w.alloc (.cells #[.string v.o,.string v.nm,.slice v.A v.ll v.cap,.int .i64 v.p] 27)).alloc (.cells #[.string ⟨#[]⟩,.string ⟨#[]⟩,.slice none 0 0,.int .i64 0] 27)) (h.below hb0))
 have HR0:=Lib.hid (show Bx ((w.alloc (.cells #[.string v.o,.string v.nm,.slice v.A v.ll v.cap,.int .i64 v.p] 27)).alloc (.cells #[.string ⟨#[]⟩,.string ⟨#[]⟩,.slice none 0 0,.int .i64 0] 27)) (w.heap.size+1) 27 fz from Bx.newAt (by simp) 27 fz)
 have HF0:=Lib.hid (show Bx ((w.alloc (.cells #[.string v.o,.string v.nm,.slice v.A v.ll v.cap,.int .i64 v.p] 27)).alloc (.cells #[.string ⟨#[]⟩,.string ⟨#[]⟩,.slice none 0 0,.int .i64 0] 27)) w.heap.size 27 [.string v.o,.string v.nm,.slice v.A v.ll v.cap,.int .i64 v.p]from(Bx.new w 27 [.string v.o,.string v.nm,.slice v.A v.ll v.cap,.int .i64 v.p]).alloc _)
 have HB0:=Lib.hid hb0
 have HB:=Lib.hid hb
 have hz0:((w.alloc (.cells #[.string v.o,.string v.nm,.slice v.A v.ll v.cap,.int .i64 v.p] 27)).alloc (.cells #[.string ⟨#[]⟩,.string ⟨#[]⟩,.slice none 0 0,.int .i64 0] 27)).heap.size=w.heap.size+1+1:=by simp
 have HV:=Lib.hid h
 clear hb0 h hb hop
 go_enter Tryz.func92,Tryz.ntmps92
 go_wp2_with fail
 with_reducible refine(HFU.out).mono ?_
 rintro e w1 ⟨rfl,rfl⟩
 go_wp2_with fail
 with_reducible refine(HSD.out).mono ?_
 rintro e w2 ⟨a,b,rfl,ha,hb,hb2⟩
 have HZ0:=Lib.hid hb2.size
 have hz2:w.heap.size+1<w2.heap.size:=by have:=hb2.size;omega
 have hk2:=below_t HB0.out hb2
 have HS:=Lib.hid (show FmS w w2.heap.size a b ((w2.alloc (.cells #[.string a.o,.string a.nm,.slice a.A a.ll a.cap,.int .i64 a.p] 27)).alloc (.cells #[.string b.o,.string b.nm,.slice b.A b.ll b.cap,.int .i64 b.p] 27))from⟨below_t hk2 (below_t (below_alloc _ _) (below_alloc _ _)),(HR0.out.below hb2).below (below_t (below_alloc _ _) (below_alloc _ _)),(Bx.new w2 27 [.string a.o,.string a.nm,.slice a.A a.ll a.cap,.int .i64 a.p]).alloc _,Bx.newAt (by simp) 27 [.string b.o,.string b.nm,.slice b.A b.ll b.cap,.int .i64 b.p],hz2⟩)
 have HKA:=Lib.hid (show Below (((w.alloc (.cells #[.string v.o,.string v.nm,.slice v.A v.ll v.cap,.int .i64 v.p] 27)).alloc (.cells #[.string ⟨#[]⟩,.string ⟨#[]⟩,.slice none 0 0,.int .i64 0] 27))).heap.size (((w.alloc (.cells #[.string v.o,.string v.nm,.slice v.A v.ll v.cap,.int .i64 v.p] 27)).alloc (.cells #[.string ⟨#[]⟩,.string ⟨#[]⟩,.slice none 0 0,.int .i64 0] 27))) ((w2.alloc (.cells #[.string a.o,.string a.nm,.slice a.A a.ll a.cap,.int .i64 a.p] 27)).alloc (.cells #[.string b.o,.string b.nm,.slice b.A b.ll b.cap,.int .i64 b.p] 27))from below_t hb2 (below_t (below_alloc _ _) (below_alloc _ _)))
 have HA:=Lib.hid (kid_wide (T:=T7 w2.heap.size) ha (fun k hk=>by have:=HZ0.out;unfold T7;omega))
 have HBB:=Lib.hid (kid_wide (T:=T7 w2.heap.size) hb (fun k hk=>by have:=HZ0.out;unfold T7;omega))
 obtain⟨k0,k1, -, -⟩:=Bx.cells4 (show Bx ((w2.alloc (.cells #[.string a.o,.string a.nm,.slice a.A a.ll a.cap,.int .i64 a.p] 27)).alloc (.cells #[.string b.o,.string b.nm,.slice b.A b.ll b.cap,.int .i64 b.p] 27)) w.heap.size 27 [.string v.o,.string v.nm,.slice v.A v.ll v.cap,.int .i64 v.p]from HF0.out.below HKA.out)
 clear hb2 hk2 ha hb HFU HSD HR0 HB0 hz0 HV HF0
 have HE:=Lib.hid (fun(W:World)=>neither_any (b:=false) (s:=⟨#[116,114,117,101]⟩) (t:=⟨#[102,97,108,115,101]⟩) W)
 have H1:=Lib.hid (none_any (o:=⟨#[116,114,117,101]⟩) (A:=none) (l:=0) (cap:=0) ((w2.alloc (.cells #[.string a.o,.string a.nm,.slice a.A a.ll a.cap,.int .i64 a.p] 27)).alloc (.cells #[.string b.o,.string b.nm,.slice b.A b.ll b.cap,.int .i64 b.p] 27)) (HB.out.below HS.out.fr) (by omega))
 go_wp2_with fail
 with_reducible refine(HE.out _).mono ?_
 rintro e w5 ⟨rfl,rfl⟩
 go_wp2_with fail
 with_reducible refine(H1.out).mono ?_
 rintro e w3 ⟨rfl,hf3,hb3⟩
 have hx3:=(HS.out.fx hf3 hql).1
 obtain⟨f0,f1,f2,f3⟩:=hx3.frozen4
 obtain⟨z0,z1,z2,z3⟩:=hx3.cells4
 have hl3:=hx3.lt
 obtain⟨y0,y1,y2,y3⟩:=(Bx.set4 (x0:=.string ⟨#[116,114,117,101]⟩) (x1:=.string ⟨#[]⟩) (x2:=.slice none 0 0) (x3:=.int .i64 0) hx3).cells4
 have HEN:=Lib.hid (fi_end (v:=⟨⟨#[116,114,117,101]⟩,⟨#[]⟩,none,0,0,0⟩) (y:=.leaf [116,114,117,101] [] 0) (n':=n+1) (ok:=True) (r:=w.heap.size+1) HS.out.fr hql (Nat.le_succ _) HS.out.r.lt hf3 hb3 (fun _=>⟨hf3.size,rfl⟩))
 clear hx3
 go_wp2
 refine bodyPost_ret (v:=.agg #[.string ⟨#[116,114,117,101]⟩,.string ⟨#[]⟩,.slice none 0 0,.int .i64 0]) (by simp[results,Tryz.results92,go_sem,y0,y1,y2,y3]) rfl HEN.out
theorem nf_tr_t{nmx:List UInt8}{p:Nat}{n q:Nat}{S:Nat->Prop}{v:FV}(w:World)(h:FS w 27 S (.leaf [116,114,117,101] nmx p) v.c)(hop:v.o.toList=[116,114,117,101])(hb:Bx w q 136 [.int .i64 (n:Int)])(hn:n<=4096):
 Calls Tryz.prog 92 #[.pointer (some ⟨q,0,none⟩),.agg #[.string v.o,.string v.nm,.slice v.A v.ll v.cap,.int .i64 v.p],.bool true] w (NfP (.leaf [102,97,108,115,101] [] 0) (n+1) q True w):=by
 have hql:=hb.lt
 have g0:(v.o.toList==[116,114,117,101])=true:=by rw[hop];rfl
 have hb0:Below w.heap.size w ((w.alloc (.cells #[.string v.o,.string v.nm,.slice v.A v.ll v.cap,.int .i64 v.p] 27)).alloc (.cells #[.string ⟨#[]⟩,.string ⟨#[]⟩,.slice none 0 0,.int .i64 0] 27)):=below_t (below_alloc _ _) (below_alloc _ _)
 have HFU:=Lib.hid (show Calls Tryz.prog 93 #[.pointer (some ⟨q,0,none⟩)] ((w.alloc (.cells #[.string v.o,.string v.nm,.slice v.A v.ll v.cap,.int .i64 v.p] 27)).alloc (.cells #[.string ⟨#[]⟩,.string ⟨#[]⟩,.slice none 0 0,.int .i64 0] 27)) (fun e w'=>e= .returned (.bool false)/\w'=((w.alloc (.cells #[.string v.o,.string v.nm,.slice v.A v.ll v.cap,.int .i64 v.p] 27)).alloc (.cells #[.string ⟨#[]⟩,.string ⟨#[]⟩,.slice none 0 0,.int .i64 0] 27)))from decide_eq_false (show ¬4096<n by omega)▸nfull_any _ (hb.below hb0))
 have HSD:=Lib.hid (sides_any ((w.alloc (.cells #[.string v.o,.string v.nm,.slice v.A v.ll v.cap,.int .i64 v.p] 27)).alloc (.cells #[.string ⟨#[]⟩,.string ⟨#[]⟩,.slice none 0 0,.int .i64 0] 27)) (h.below hb0))
 have HR0:=Lib.hid (show Bx ((w.alloc (.cells #[.string v.o,.string v.nm,.slice v.A v.ll v.cap,.int .i64 v.p] 27)).alloc (.cells #[.string ⟨#[]⟩,.string ⟨#[]⟩,.slice none 0 0,.int .i64 0] 27)) (w.heap.size+1) 27 fz from Bx.newAt (by simp) 27 fz)
 have HF0:=Lib.hid (show Bx ((w.alloc (.cells #[.string v.o,.string v.nm,.slice v.A v.ll v.cap,.int .i64 v.p] 27)).alloc (.cells #[.string ⟨#[]⟩,.string ⟨#[]⟩,.slice none 0 0,.int .i64 0] 27)) w.heap.size 27 [.string v.o,.string v.nm,.slice v.A v.ll v.cap,.int .i64 v.p]from(Bx.new w 27 [.string v.o,.string v.nm,.slice v.A v.ll v.cap,.int .i64 v.p]).alloc _)
 have HB0:=Lib.hid hb0
 have HB:=Lib.hid hb
 have hz0:((w.alloc (.cells #[.string v.o,.string v.nm,.slice v.A v.ll v.cap,.int .i64 v.p] 27)).alloc (.cells #[.string ⟨#[]⟩,.string ⟨#[]⟩,.slice none 0 0,.int .i64 0] 27)).heap.size=w.heap.size+1+1:=by simp
 have HV:=Lib.hid h
 clear hb0 h hb hop
 go_enter Tryz.func92,Tryz.ntmps92
 go_wp2_with fail
 with_reducible refine(HFU.out).mono ?_
 rintro e w1 ⟨rfl,rfl⟩
 go_wp2_with fail
 with_reducible refine(HSD.out).mono ?_
 rintro e w2 ⟨a,b,rfl,ha,hb,hb2⟩
 have HZ0:=Lib.hid hb2.size
 have hz2:w.heap.size+1<w2.heap.size:=by have:=hb2.size;omega
 have hk2:=below_t HB0.out hb2
 have HS:=Lib.hid (show FmS w w2.heap.size a b ((w2.alloc (.cells #[.string a.o,.string a.nm,.slice a.A a.ll a.cap,.int .i64 a.p] 27)).alloc (.cells #[.string b.o,.string b.nm,.slice b.A b.ll b.cap,.int .i64 b.p] 27))from⟨below_t hk2 (below_t (below_alloc _ _) (below_alloc _ _)),(HR0.out.below hb2).below (below_t (below_alloc _ _) (below_alloc _ _)),(Bx.new w2 27 [.string a.o,.string a.nm,.slice a.A a.ll a.cap,.int .i64 a.p]).alloc _,Bx.newAt (by simp) 27 [.string b.o,.string b.nm,.slice b.A b.ll b.cap,.int .i64 b.p],hz2⟩)
 have HKA:=Lib.hid (show Below (((w.alloc (.cells #[.string v.o,.string v.nm,.slice v.A v.ll v.cap,.int .i64 v.p] 27)).alloc (.cells #[.string ⟨#[]⟩,.string ⟨#[]⟩,.slice none 0 0,.int .i64 0] 27))).heap.size (((w.alloc (.cells #[.string v.o,.string v.nm,.slice v.A v.ll v.cap,.int .i64 v.p] 27)).alloc (.cells #[.string ⟨#[]⟩,.string ⟨#[]⟩,.slice none 0 0,.int .i64 0] 27))) ((w2.alloc (.cells #[.string a.o,.string a.nm,.slice a.A a.ll a.cap,.int .i64 a.p] 27)).alloc (.cells #[.string b.o,.string b.nm,.slice b.A b.ll b.cap,.int .i64 b.p] 27))from below_t hb2 (below_t (below_alloc _ _) (below_alloc _ _)))
 have HA:=Lib.hid (kid_wide (T:=T7 w2.heap.size) ha (fun k hk=>by have:=HZ0.out;unfold T7;omega))
 have HBB:=Lib.hid (kid_wide (T:=T7 w2.heap.size) hb (fun k hk=>by have:=HZ0.out;unfold T7;omega))
 obtain⟨k0,k1, -, -⟩:=Bx.cells4 (show Bx ((w2.alloc (.cells #[.string a.o,.string a.nm,.slice a.A a.ll a.cap,.int .i64 a.p] 27)).alloc (.cells #[.string b.o,.string b.nm,.slice b.A b.ll b.cap,.int .i64 b.p] 27)) w.heap.size 27 [.string v.o,.string v.nm,.slice v.A v.ll v.cap,.int .i64 v.p]from HF0.out.below HKA.out)
 clear hb2 hk2 ha hb HFU HSD HR0 HB0 hz0 HV HF0
 have HE:=Lib.hid (fun(W:World)=>neither_any (b:=true) (s:=⟨#[116,114,117,101]⟩) (t:=⟨#[102,97,108,115,101]⟩) W)
 have H1:=Lib.hid (none_any (o:=⟨#[102,97,108,115,101]⟩) (A:=none) (l:=0) (cap:=0) ((w2.alloc (.cells #[.string a.o,.string a.nm,.slice a.A a.ll a.cap,.int .i64 a.p] 27)).alloc (.cells #[.string b.o,.string b.nm,.slice b.A b.ll b.cap,.int .i64 b.p] 27)) (HB.out.below HS.out.fr) (by omega))
 go_wp2_with fail
 with_reducible refine(HE.out _).mono ?_
 rintro e w5 ⟨rfl,rfl⟩
 go_wp2_with fail
 with_reducible refine(H1.out).mono ?_
 rintro e w3 ⟨rfl,hf3,hb3⟩
 have hx3:=(HS.out.fx hf3 hql).1
 obtain⟨f0,f1,f2,f3⟩:=hx3.frozen4
 obtain⟨z0,z1,z2,z3⟩:=hx3.cells4
 have hl3:=hx3.lt
 obtain⟨y0,y1,y2,y3⟩:=(Bx.set4 (x0:=.string ⟨#[102,97,108,115,101]⟩) (x1:=.string ⟨#[]⟩) (x2:=.slice none 0 0) (x3:=.int .i64 0) hx3).cells4
 have HEN:=Lib.hid (fi_end (v:=⟨⟨#[102,97,108,115,101]⟩,⟨#[]⟩,none,0,0,0⟩) (y:=.leaf [102,97,108,115,101] [] 0) (n':=n+1) (ok:=True) (r:=w.heap.size+1) HS.out.fr hql (Nat.le_succ _) HS.out.r.lt hf3 hb3 (fun _=>⟨hf3.size,rfl⟩))
 clear hx3
 go_wp2
 refine bodyPost_ret (v:=.agg #[.string ⟨#[102,97,108,115,101]⟩,.string ⟨#[]⟩,.slice none 0 0,.int .i64 0]) (by simp[results,Tryz.results92,go_sem,y0,y1,y2,y3]) rfl HEN.out
theorem nf_fa_f{nmx:List UInt8}{p:Nat}{n q:Nat}{S:Nat->Prop}{v:FV}(w:World)(h:FS w 27 S (.leaf [102,97,108,115,101] nmx p) v.c)(hop:v.o.toList=[102,97,108,115,101])(hb:Bx w q 136 [.int .i64 (n:Int)])(hn:n<=4096):
 Calls Tryz.prog 92 #[.pointer (some ⟨q,0,none⟩),.agg #[.string v.o,.string v.nm,.slice v.A v.ll v.cap,.int .i64 v.p],.bool false] w (NfP (.leaf [102,97,108,115,101] [] 0) (n+1) q True w):=by
 have hql:=hb.lt
 have g0:(v.o.toList==[116,114,117,101])=false:=by rw[hop];rfl
 have g1:(v.o.toList==[102,97,108,115,101])=true:=by rw[hop];rfl
 have hb0:Below w.heap.size w ((w.alloc (.cells #[.string v.o,.string v.nm,.slice v.A v.ll v.cap,.int .i64 v.p] 27)).alloc (.cells #[.string ⟨#[]⟩,.string ⟨#[]⟩,.slice none 0 0,.int .i64 0] 27)):=below_t (below_alloc _ _) (below_alloc _ _)
 have HFU:=Lib.hid (show Calls Tryz.prog 93 #[.pointer (some ⟨q,0,none⟩)] ((w.alloc (.cells #[.string v.o,.string v.nm,.slice v.A v.ll v.cap,.int .i64 v.p] 27)).alloc (.cells #[.string ⟨#[]⟩,.string ⟨#[]⟩,.slice none 0 0,.int .i64 0] 27)) (fun e w'=>e= .returned (.bool false)/\w'=((w.alloc (.cells #[.string v.o,.string v.nm,.slice v.A v.ll v.cap,.int .i64 v.p] 27)).alloc (.cells #[.string ⟨#[]⟩,.string ⟨#[]⟩,.slice none 0 0,.int .i64 0] 27)))from decide_eq_false (show ¬4096<n by omega)▸nfull_any _ (hb.below hb0))
 have HSD:=Lib.hid (sides_any ((w.alloc (.cells #[.string v.o,.string v.nm,.slice v.A v.ll v.cap,.int .i64 v.p] 27)).alloc (.cells #[.string ⟨#[]⟩,.string ⟨#[]⟩,.slice none 0 0,.int .i64 0] 27)) (h.below hb0))
 have HR0:=Lib.hid (show Bx ((w.alloc (.cells #[.string v.o,.string v.nm,.slice v.A v.ll v.cap,.int .i64 v.p] 27)).alloc (.cells #[.string ⟨#[]⟩,.string ⟨#[]⟩,.slice none 0 0,.int .i64 0] 27)) (w.heap.size+1) 27 fz from Bx.newAt (by simp) 27 fz)
 have HF0:=Lib.hid (show Bx ((w.alloc (.cells #[.string v.o,.string v.nm,.slice v.A v.ll v.cap,.int .i64 v.p] 27)).alloc (.cells #[.string ⟨#[]⟩,.string ⟨#[]⟩,.slice none 0 0,.int .i64 0] 27)) w.heap.size 27 [.string v.o,.string v.nm,.slice v.A v.ll v.cap,.int .i64 v.p]from(Bx.new w 27 [.string v.o,.string v.nm,.slice v.A v.ll v.cap,.int .i64 v.p]).alloc _)
 have HB0:=Lib.hid hb0
 have HB:=Lib.hid hb
 have hz0:((w.alloc (.cells #[.string v.o,.string v.nm,.slice v.A v.ll v.cap,.int .i64 v.p] 27)).alloc (.cells #[.string ⟨#[]⟩,.string ⟨#[]⟩,.slice none 0 0,.int .i64 0] 27)).heap.size=w.heap.size+1+1:=by simp
 have HV:=Lib.hid h
 clear hb0 h hb hop
 go_enter Tryz.func92,Tryz.ntmps92
 go_wp2_with fail
 with_reducible refine(HFU.out).mono ?_
 rintro e w1 ⟨rfl,rfl⟩
 go_wp2_with fail
 with_reducible refine(HSD.out).mono ?_
 rintro e w2 ⟨a,b,rfl,ha,hb,hb2⟩
 have HZ0:=Lib.hid hb2.size
 have hz2:w.heap.size+1<w2.heap.size:=by have:=hb2.size;omega
 have hk2:=below_t HB0.out hb2
 have HS:=Lib.hid (show FmS w w2.heap.size a b ((w2.alloc (.cells #[.string a.o,.string a.nm,.slice a.A a.ll a.cap,.int .i64 a.p] 27)).alloc (.cells #[.string b.o,.string b.nm,.slice b.A b.ll b.cap,.int .i64 b.p] 27))from⟨below_t hk2 (below_t (below_alloc _ _) (below_alloc _ _)),(HR0.out.below hb2).below (below_t (below_alloc _ _) (below_alloc _ _)),(Bx.new w2 27 [.string a.o,.string a.nm,.slice a.A a.ll a.cap,.int .i64 a.p]).alloc _,Bx.newAt (by simp) 27 [.string b.o,.string b.nm,.slice b.A b.ll b.cap,.int .i64 b.p],hz2⟩)
 have HKA:=Lib.hid (show Below (((w.alloc (.cells #[.string v.o,.string v.nm,.slice v.A v.ll v.cap,.int .i64 v.p] 27)).alloc (.cells #[.string ⟨#[]⟩,.string ⟨#[]⟩,.slice none 0 0,.int .i64 0] 27))).heap.size (((w.alloc (.cells #[.string v.o,.string v.nm,.slice v.A v.ll v.cap,.int .i64 v.p] 27)).alloc (.cells #[.string ⟨#[]⟩,.string ⟨#[]⟩,.slice none 0 0,.int .i64 0] 27))) ((w2.alloc (.cells #[.string a.o,.string a.nm,.slice a.A a.ll a.cap,.int .i64 a.p] 27)).alloc (.cells #[.string b.o,.string b.nm,.slice b.A b.ll b.cap,.int .i64 b.p] 27))from below_t hb2 (below_t (below_alloc _ _) (below_alloc _ _)))
 have HA:=Lib.hid (kid_wide (T:=T7 w2.heap.size) ha (fun k hk=>by have:=HZ0.out;unfold T7;omega))
 have HBB:=Lib.hid (kid_wide (T:=T7 w2.heap.size) hb (fun k hk=>by have:=HZ0.out;unfold T7;omega))
 obtain⟨k0,k1, -, -⟩:=Bx.cells4 (show Bx ((w2.alloc (.cells #[.string a.o,.string a.nm,.slice a.A a.ll a.cap,.int .i64 a.p] 27)).alloc (.cells #[.string b.o,.string b.nm,.slice b.A b.ll b.cap,.int .i64 b.p] 27)) w.heap.size 27 [.string v.o,.string v.nm,.slice v.A v.ll v.cap,.int .i64 v.p]from HF0.out.below HKA.out)
 clear hb2 hk2 ha hb HFU HSD HR0 HB0 hz0 HV HF0
 have HE:=Lib.hid (fun(W:World)=>neither_any (b:=false) (s:=⟨#[102,97,108,115,101]⟩) (t:=⟨#[116,114,117,101]⟩) W)
 have H1:=Lib.hid (none_any (o:=⟨#[102,97,108,115,101]⟩) (A:=none) (l:=0) (cap:=0) ((w2.alloc (.cells #[.string a.o,.string a.nm,.slice a.A a.ll a.cap,.int .i64 a.p] 27)).alloc (.cells #[.string b.o,.string b.nm,.slice b.A b.ll b.cap,.int .i64 b.p] 27)) (HB.out.below HS.out.fr) (by omega))
 go_wp2_with fail
 with_reducible refine(HE.out _).mono ?_
 rintro e w5 ⟨rfl,rfl⟩
 go_wp2_with fail
 with_reducible refine(H1.out).mono ?_
 rintro e w3 ⟨rfl,hf3,hb3⟩
 have hx3:=(HS.out.fx hf3 hql).1
 obtain⟨f0,f1,f2,f3⟩:=hx3.frozen4
 obtain⟨z0,z1,z2,z3⟩:=hx3.cells4
 have hl3:=hx3.lt
 obtain⟨y0,y1,y2,y3⟩:=(Bx.set4 (x0:=.string ⟨#[102,97,108,115,101]⟩) (x1:=.string ⟨#[]⟩) (x2:=.slice none 0 0) (x3:=.int .i64 0) hx3).cells4
 have HEN:=Lib.hid (fi_end (v:=⟨⟨#[102,97,108,115,101]⟩,⟨#[]⟩,none,0,0,0⟩) (y:=.leaf [102,97,108,115,101] [] 0) (n':=n+1) (ok:=True) (r:=w.heap.size+1) HS.out.fr hql (Nat.le_succ _) HS.out.r.lt hf3 hb3 (fun _=>⟨hf3.size,rfl⟩))
 clear hx3
 go_wp2
 refine bodyPost_ret (v:=.agg #[.string ⟨#[102,97,108,115,101]⟩,.string ⟨#[]⟩,.slice none 0 0,.int .i64 0]) (by simp[results,Tryz.results92,go_sem,y0,y1,y2,y3]) rfl HEN.out
theorem nf_fa_t{nmx:List UInt8}{p:Nat}{n q:Nat}{S:Nat->Prop}{v:FV}(w:World)(h:FS w 27 S (.leaf [102,97,108,115,101] nmx p) v.c)(hop:v.o.toList=[102,97,108,115,101])(hb:Bx w q 136 [.int .i64 (n:Int)])(hn:n<=4096):
 Calls Tryz.prog 92 #[.pointer (some ⟨q,0,none⟩),.agg #[.string v.o,.string v.nm,.slice v.A v.ll v.cap,.int .i64 v.p],.bool true] w (NfP (.leaf [116,114,117,101] [] 0) (n+1) q True w):=by
 have hql:=hb.lt
 have g0:(v.o.toList==[116,114,117,101])=false:=by rw[hop];rfl
 have g1:(v.o.toList==[102,97,108,115,101])=true:=by rw[hop];rfl
 have hb0:Below w.heap.size w ((w.alloc (.cells #[.string v.o,.string v.nm,.slice v.A v.ll v.cap,.int .i64 v.p] 27)).alloc (.cells #[.string ⟨#[]⟩,.string ⟨#[]⟩,.slice none 0 0,.int .i64 0] 27)):=below_t (below_alloc _ _) (below_alloc _ _)
 have HFU:=Lib.hid (show Calls Tryz.prog 93 #[.pointer (some ⟨q,0,none⟩)] ((w.alloc (.cells #[.string v.o,.string v.nm,.slice v.A v.ll v.cap,.int .i64 v.p] 27)).alloc (.cells #[.string ⟨#[]⟩,.string ⟨#[]⟩,.slice none 0 0,.int .i64 0] 27)) (fun e w'=>e= .returned (.bool false)/\w'=((w.alloc (.cells #[.string v.o,.string v.nm,.slice v.A v.ll v.cap,.int .i64 v.p] 27)).alloc (.cells #[.string ⟨#[]⟩,.string ⟨#[]⟩,.slice none 0 0,.int .i64 0] 27)))from decide_eq_false (show ¬4096<n by omega)▸nfull_any _ (hb.below hb0))
 have HSD:=Lib.hid (sides_any ((w.alloc (.cells #[.string v.o,.string v.nm,.slice v.A v.ll v.cap,.int .i64 v.p] 27)).alloc (.cells #[.string ⟨#[]⟩,.string ⟨#[]⟩,.slice none 0 0,.int .i64 0] 27)) (h.below hb0))
 have HR0:=Lib.hid (show Bx ((w.alloc (.cells #[.string v.o,.string v.nm,.slice v.A v.ll v.cap,.int .i64 v.p] 27)).alloc (.cells #[.string ⟨#[]⟩,.string ⟨#[]⟩,.slice none 0 0,.int .i64 0] 27)) (w.heap.size+1) 27 fz from Bx.newAt (by simp) 27 fz)
 have HF0:=Lib.hid (show Bx ((w.alloc (.cells #[.string v.o,.string v.nm,.slice v.A v.ll v.cap,.int .i64 v.p] 27)).alloc (.cells #[.string ⟨#[]⟩,.string ⟨#[]⟩,.slice none 0 0,.int .i64 0] 27)) w.heap.size 27 [.string v.o,.string v.nm,.slice v.A v.ll v.cap,.int .i64 v.p]from(Bx.new w 27 [.string v.o,.string v.nm,.slice v.A v.ll v.cap,.int .i64 v.p]).alloc _)
 have HB0:=Lib.hid hb0
 have HB:=Lib.hid hb
 have hz0:((w.alloc (.cells #[.string v.o,.string v.nm,.slice v.A v.ll v.cap,.int .i64 v.p] 27)).alloc (.cells #[.string ⟨#[]⟩,.string ⟨#[]⟩,.slice none 0 0,.int .i64 0] 27)).heap.size=w.heap.size+1+1:=by simp
 have HV:=Lib.hid h
 clear hb0 h hb hop
 go_enter Tryz.func92,Tryz.ntmps92
 go_wp2_with fail
 with_reducible refine(HFU.out).mono ?_
 rintro e w1 ⟨rfl,rfl⟩
 go_wp2_with fail
 with_reducible refine(HSD.out).mono ?_
 rintro e w2 ⟨a,b,rfl,ha,hb,hb2⟩
 have HZ0:=Lib.hid hb2.size
 have hz2:w.heap.size+1<w2.heap.size:=by have:=hb2.size;omega
 have hk2:=below_t HB0.out hb2
 have HS:=Lib.hid (show FmS w w2.heap.size a b ((w2.alloc (.cells #[.string a.o,.string a.nm,.slice a.A a.ll a.cap,.int .i64 a.p] 27)).alloc (.cells #[.string b.o,.string b.nm,.slice b.A b.ll b.cap,.int .i64 b.p] 27))from⟨below_t hk2 (below_t (below_alloc _ _) (below_alloc _ _)),(HR0.out.below hb2).below (below_t (below_alloc _ _) (below_alloc _ _)),(Bx.new w2 27 [.string a.o,.string a.nm,.slice a.A a.ll a.cap,.int .i64 a.p]).alloc _,Bx.newAt (by simp) 27 [.string b.o,.string b.nm,.slice b.A b.ll b.cap,.int .i64 b.p],hz2⟩)
 have HKA:=Lib.hid (show Below (((w.alloc (.cells #[.string v.o,.string v.nm,.slice v.A v.ll v.cap,.int .i64 v.p] 27)).alloc (.cells #[.string ⟨#[]⟩,.string ⟨#[]⟩,.slice none 0 0,.int .i64 0] 27))).heap.size (((w.alloc (.cells #[.string v.o,.string v.nm,.slice v.A v.ll v.cap,.int .i64 v.p] 27)).alloc (.cells #[.string ⟨#[]⟩,.string ⟨#[]⟩,.slice none 0 0,.int .i64 0] 27))) ((w2.alloc (.cells #[.string a.o,.string a.nm,.slice a.A a.ll a.cap,.int .i64 a.p] 27)).alloc (.cells #[.string b.o,.string b.nm,.slice b.A b.ll b.cap,.int .i64 b.p] 27))from below_t hb2 (below_t (below_alloc _ _) (below_alloc _ _)))
 have HA:=Lib.hid (kid_wide (T:=T7 w2.heap.size) ha (fun k hk=>by have:=HZ0.out;unfold T7;omega))
 have HBB:=Lib.hid (kid_wide (T:=T7 w2.heap.size) hb (fun k hk=>by have:=HZ0.out;unfold T7;omega))
 obtain⟨k0,k1, -, -⟩:=Bx.cells4 (show Bx ((w2.alloc (.cells #[.string a.o,.string a.nm,.slice a.A a.ll a.cap,.int .i64 a.p] 27)).alloc (.cells #[.string b.o,.string b.nm,.slice b.A b.ll b.cap,.int .i64 b.p] 27)) w.heap.size 27 [.string v.o,.string v.nm,.slice v.A v.ll v.cap,.int .i64 v.p]from HF0.out.below HKA.out)
 clear hb2 hk2 ha hb HFU HSD HR0 HB0 hz0 HV HF0
 have HE:=Lib.hid (fun(W:World)=>neither_any (b:=true) (s:=⟨#[102,97,108,115,101]⟩) (t:=⟨#[116,114,117,101]⟩) W)
 have H1:=Lib.hid (none_any (o:=⟨#[116,114,117,101]⟩) (A:=none) (l:=0) (cap:=0) ((w2.alloc (.cells #[.string a.o,.string a.nm,.slice a.A a.ll a.cap,.int .i64 a.p] 27)).alloc (.cells #[.string b.o,.string b.nm,.slice b.A b.ll b.cap,.int .i64 b.p] 27)) (HB.out.below HS.out.fr) (by omega))
 go_wp2_with fail
 with_reducible refine(HE.out _).mono ?_
 rintro e w5 ⟨rfl,rfl⟩
 go_wp2_with fail
 with_reducible refine(H1.out).mono ?_
 rintro e w3 ⟨rfl,hf3,hb3⟩
 have hx3:=(HS.out.fx hf3 hql).1
 obtain⟨f0,f1,f2,f3⟩:=hx3.frozen4
 obtain⟨z0,z1,z2,z3⟩:=hx3.cells4
 have hl3:=hx3.lt
 obtain⟨y0,y1,y2,y3⟩:=(Bx.set4 (x0:=.string ⟨#[116,114,117,101]⟩) (x1:=.string ⟨#[]⟩) (x2:=.slice none 0 0) (x3:=.int .i64 0) hx3).cells4
 have HEN:=Lib.hid (fi_end (v:=⟨⟨#[116,114,117,101]⟩,⟨#[]⟩,none,0,0,0⟩) (y:=.leaf [116,114,117,101] [] 0) (n':=n+1) (ok:=True) (r:=w.heap.size+1) HS.out.fr hql (Nat.le_succ _) HS.out.r.lt hf3 hb3 (fun _=>⟨hf3.size,rfl⟩))
 clear hx3
 go_wp2
 refine bodyPost_ret (v:=.agg #[.string ⟨#[116,114,117,101]⟩,.string ⟨#[]⟩,.slice none 0 0,.int .i64 0]) (by simp[results,Tryz.results92,go_sem,y0,y1,y2,y3]) rfl HEN.out
theorem nf_lab_f{nmx:List UInt8}{p:Nat}{n q:Nat}{S:Nat->Prop}{v:FV}(w:World)(h:FS w 27 S (.leaf [108,97,98,101,108] nmx p) v.c)(hop:v.o.toList=[108,97,98,101,108])(hb:Bx w q 136 [.int .i64 (n:Int)])(hn:n<=4096)(hs:v.nm.size<=65536):
 Calls Tryz.prog 92 #[.pointer (some ⟨q,0,none⟩),.agg #[.string v.o,.string v.nm,.slice v.A v.ll v.cap,.int .i64 v.p],.bool false] w (NfP (labO' v.nm.data.toList false) (n+1) q True w):=by
 have hql:=hb.lt
 have g0:(v.o.toList==[116,114,117,101])=false:=by rw[hop];rfl
 have g1:(v.o.toList==[102,97,108,115,101])=false:=by rw[hop];rfl
 have g2:(v.o.toList==[108,97,98,101,108])=true:=by rw[hop];rfl
 have hb0:Below w.heap.size w ((w.alloc (.cells #[.string v.o,.string v.nm,.slice v.A v.ll v.cap,.int .i64 v.p] 27)).alloc (.cells #[.string ⟨#[]⟩,.string ⟨#[]⟩,.slice none 0 0,.int .i64 0] 27)):=below_t (below_alloc _ _) (below_alloc _ _)
 have HFU:=Lib.hid (show Calls Tryz.prog 93 #[.pointer (some ⟨q,0,none⟩)] ((w.alloc (.cells #[.string v.o,.string v.nm,.slice v.A v.ll v.cap,.int .i64 v.p] 27)).alloc (.cells #[.string ⟨#[]⟩,.string ⟨#[]⟩,.slice none 0 0,.int .i64 0] 27)) (fun e w'=>e= .returned (.bool false)/\w'=((w.alloc (.cells #[.string v.o,.string v.nm,.slice v.A v.ll v.cap,.int .i64 v.p] 27)).alloc (.cells #[.string ⟨#[]⟩,.string ⟨#[]⟩,.slice none 0 0,.int .i64 0] 27)))from decide_eq_false (show ¬4096<n by omega)▸nfull_any _ (hb.below hb0))
 have HSD:=Lib.hid (sides_any ((w.alloc (.cells #[.string v.o,.string v.nm,.slice v.A v.ll v.cap,.int .i64 v.p] 27)).alloc (.cells #[.string ⟨#[]⟩,.string ⟨#[]⟩,.slice none 0 0,.int .i64 0] 27)) (h.below hb0))
 have HR0:=Lib.hid (show Bx ((w.alloc (.cells #[.string v.o,.string v.nm,.slice v.A v.ll v.cap,.int .i64 v.p] 27)).alloc (.cells #[.string ⟨#[]⟩,.string ⟨#[]⟩,.slice none 0 0,.int .i64 0] 27)) (w.heap.size+1) 27 fz from Bx.newAt (by simp) 27 fz)
 have HF0:=Lib.hid (show Bx ((w.alloc (.cells #[.string v.o,.string v.nm,.slice v.A v.ll v.cap,.int .i64 v.p] 27)).alloc (.cells #[.string ⟨#[]⟩,.string ⟨#[]⟩,.slice none 0 0,.int .i64 0] 27)) w.heap.size 27 [.string v.o,.string v.nm,.slice v.A v.ll v.cap,.int .i64 v.p]from(Bx.new w 27 [.string v.o,.string v.nm,.slice v.A v.ll v.cap,.int .i64 v.p]).alloc _)
 have HB0:=Lib.hid hb0
 have HB:=Lib.hid hb
 have hz0:((w.alloc (.cells #[.string v.o,.string v.nm,.slice v.A v.ll v.cap,.int .i64 v.p] 27)).alloc (.cells #[.string ⟨#[]⟩,.string ⟨#[]⟩,.slice none 0 0,.int .i64 0] 27)).heap.size=w.heap.size+1+1:=by simp
 have HV:=Lib.hid h
 clear hb0 h hb hop
 go_enter Tryz.func92,Tryz.ntmps92
 go_wp2_with fail
 with_reducible refine(HFU.out).mono ?_
 rintro e w1 ⟨rfl,rfl⟩
 go_wp2_with fail
 with_reducible refine(HSD.out).mono ?_
 rintro e w2 ⟨a,b,rfl,ha,hb,hb2⟩
 have HZ0:=Lib.hid hb2.size
 have hz2:w.heap.size+1<w2.heap.size:=by have:=hb2.size;omega
 have hk2:=below_t HB0.out hb2
 have HS:=Lib.hid (show FmS w w2.heap.size a b ((w2.alloc (.cells #[.string a.o,.string a.nm,.slice a.A a.ll a.cap,.int .i64 a.p] 27)).alloc (.cells #[.string b.o,.string b.nm,.slice b.A b.ll b.cap,.int .i64 b.p] 27))from⟨below_t hk2 (below_t (below_alloc _ _) (below_alloc _ _)),(HR0.out.below hb2).below (below_t (below_alloc _ _) (below_alloc _ _)),(Bx.new w2 27 [.string a.o,.string a.nm,.slice a.A a.ll a.cap,.int .i64 a.p]).alloc _,Bx.newAt (by simp) 27 [.string b.o,.string b.nm,.slice b.A b.ll b.cap,.int .i64 b.p],hz2⟩)
 have HKA:=Lib.hid (show Below (((w.alloc (.cells #[.string v.o,.string v.nm,.slice v.A v.ll v.cap,.int .i64 v.p] 27)).alloc (.cells #[.string ⟨#[]⟩,.string ⟨#[]⟩,.slice none 0 0,.int .i64 0] 27))).heap.size (((w.alloc (.cells #[.string v.o,.string v.nm,.slice v.A v.ll v.cap,.int .i64 v.p] 27)).alloc (.cells #[.string ⟨#[]⟩,.string ⟨#[]⟩,.slice none 0 0,.int .i64 0] 27))) ((w2.alloc (.cells #[.string a.o,.string a.nm,.slice a.A a.ll a.cap,.int .i64 a.p] 27)).alloc (.cells #[.string b.o,.string b.nm,.slice b.A b.ll b.cap,.int .i64 b.p] 27))from below_t hb2 (below_t (below_alloc _ _) (below_alloc _ _)))
 have HA:=Lib.hid (kid_wide (T:=T7 w2.heap.size) ha (fun k hk=>by have:=HZ0.out;unfold T7;omega))
 have HBB:=Lib.hid (kid_wide (T:=T7 w2.heap.size) hb (fun k hk=>by have:=HZ0.out;unfold T7;omega))
 obtain⟨k0,k1, -, -⟩:=Bx.cells4 (show Bx ((w2.alloc (.cells #[.string a.o,.string a.nm,.slice a.A a.ll a.cap,.int .i64 a.p] 27)).alloc (.cells #[.string b.o,.string b.nm,.slice b.A b.ll b.cap,.int .i64 b.p] 27)) w.heap.size 27 [.string v.o,.string v.nm,.slice v.A v.ll v.cap,.int .i64 v.p]from HF0.out.below HKA.out)
 clear hb2 hk2 ha hb HFU HSD HR0 HB0 hz0 HV HF0
 have H1:=Lib.hid (nlabel_f (nm:=v.nm) ((w2.alloc (.cells #[.string a.o,.string a.nm,.slice a.A a.ll a.cap,.int .i64 a.p] 27)).alloc (.cells #[.string b.o,.string b.nm,.slice b.A b.ll b.cap,.int .i64 b.p] 27)) (HB.out.below HS.out.fr) (by omega) hs)
 go_wp2_with fail
 with_reducible refine(H1.out).mono ?_
 rintro e w3 ⟨vr,rfl,hf3,hb3,hi3⟩
 have hx3:=(HS.out.fx hf3 hql).1
 obtain⟨f0,f1,f2,f3⟩:=hx3.frozen4
 obtain⟨z0,z1,z2,z3⟩:=hx3.cells4
 have hl3:=hx3.lt
 obtain⟨y0,y1,y2,y3⟩:=(Bx.set4 (x0:=.string vr.o) (x1:=.string vr.nm) (x2:=.slice vr.A vr.ll vr.cap) (x3:=.int .i64 vr.p) hx3).cells4
 have HEN:=Lib.hid (fi_end (v:=vr) (y:=labO' v.nm.data.toList false) (n':=n+1) (ok:=True) (r:=w.heap.size+1) HS.out.fr hql (Nat.le_succ _) HS.out.r.lt hf3 hb3 hi3)
 clear hx3
 go_wp2
 refine bodyPost_ret (v:=.agg #[.string vr.o,.string vr.nm,.slice vr.A vr.ll vr.cap,.int .i64 vr.p]) (by simp[results,Tryz.results92,go_sem,y0,y1,y2,y3]) rfl HEN.out
theorem nf_lab_t{nmx:List UInt8}{p:Nat}{n q:Nat}{S:Nat->Prop}{v:FV}(w:World)(h:FS w 27 S (.leaf [108,97,98,101,108] nmx p) v.c)(hop:v.o.toList=[108,97,98,101,108])(hb:Bx w q 136 [.int .i64 (n:Int)])(hn:n<=4096)(hs:v.nm.size<=65536):
 Calls Tryz.prog 92 #[.pointer (some ⟨q,0,none⟩),.agg #[.string v.o,.string v.nm,.slice v.A v.ll v.cap,.int .i64 v.p],.bool true] w (NfP (labO' v.nm.data.toList true) (n+2) q True w):=by
 have hql:=hb.lt
 have g0:(v.o.toList==[116,114,117,101])=false:=by rw[hop];rfl
 have g1:(v.o.toList==[102,97,108,115,101])=false:=by rw[hop];rfl
 have g2:(v.o.toList==[108,97,98,101,108])=true:=by rw[hop];rfl
 have hb0:Below w.heap.size w ((w.alloc (.cells #[.string v.o,.string v.nm,.slice v.A v.ll v.cap,.int .i64 v.p] 27)).alloc (.cells #[.string ⟨#[]⟩,.string ⟨#[]⟩,.slice none 0 0,.int .i64 0] 27)):=below_t (below_alloc _ _) (below_alloc _ _)
 have HFU:=Lib.hid (show Calls Tryz.prog 93 #[.pointer (some ⟨q,0,none⟩)] ((w.alloc (.cells #[.string v.o,.string v.nm,.slice v.A v.ll v.cap,.int .i64 v.p] 27)).alloc (.cells #[.string ⟨#[]⟩,.string ⟨#[]⟩,.slice none 0 0,.int .i64 0] 27)) (fun e w'=>e= .returned (.bool false)/\w'=((w.alloc (.cells #[.string v.o,.string v.nm,.slice v.A v.ll v.cap,.int .i64 v.p] 27)).alloc (.cells #[.string ⟨#[]⟩,.string ⟨#[]⟩,.slice none 0 0,.int .i64 0] 27)))from decide_eq_false (show ¬4096<n by omega)▸nfull_any _ (hb.below hb0))
 have HSD:=Lib.hid (sides_any ((w.alloc (.cells #[.string v.o,.string v.nm,.slice v.A v.ll v.cap,.int .i64 v.p] 27)).alloc (.cells #[.string ⟨#[]⟩,.string ⟨#[]⟩,.slice none 0 0,.int .i64 0] 27)) (h.below hb0))
 have HR0:=Lib.hid (show Bx ((w.alloc (.cells #[.string v.o,.string v.nm,.slice v.A v.ll v.cap,.int .i64 v.p] 27)).alloc (.cells #[.string ⟨#[]⟩,.string ⟨#[]⟩,.slice none 0 0,.int .i64 0] 27)) (w.heap.size+1) 27 fz from Bx.newAt (by simp) 27 fz)
 have HF0:=Lib.hid (show Bx ((w.alloc (.cells #[.string v.o,.string v.nm,.slice v.A v.ll v.cap,.int .i64 v.p] 27)).alloc (.cells #[.string ⟨#[]⟩,.string ⟨#[]⟩,.slice none 0 0,.int .i64 0] 27)) w.heap.size 27 [.string v.o,.string v.nm,.slice v.A v.ll v.cap,.int .i64 v.p]from(Bx.new w 27 [.string v.o,.string v.nm,.slice v.A v.ll v.cap,.int .i64 v.p]).alloc _)
 have HB0:=Lib.hid hb0
 have HB:=Lib.hid hb
 have hz0:((w.alloc (.cells #[.string v.o,.string v.nm,.slice v.A v.ll v.cap,.int .i64 v.p] 27)).alloc (.cells #[.string ⟨#[]⟩,.string ⟨#[]⟩,.slice none 0 0,.int .i64 0] 27)).heap.size=w.heap.size+1+1:=by simp
 have HV:=Lib.hid h
 clear hb0 h hb hop
 go_enter Tryz.func92,Tryz.ntmps92
 go_wp2_with fail
 with_reducible refine(HFU.out).mono ?_
 rintro e w1 ⟨rfl,rfl⟩
 go_wp2_with fail
 with_reducible refine(HSD.out).mono ?_
 rintro e w2 ⟨a,b,rfl,ha,hb,hb2⟩
 have HZ0:=Lib.hid hb2.size
 have hz2:w.heap.size+1<w2.heap.size:=by have:=hb2.size;omega
 have hk2:=below_t HB0.out hb2
 have HS:=Lib.hid (show FmS w w2.heap.size a b ((w2.alloc (.cells #[.string a.o,.string a.nm,.slice a.A a.ll a.cap,.int .i64 a.p] 27)).alloc (.cells #[.string b.o,.string b.nm,.slice b.A b.ll b.cap,.int .i64 b.p] 27))from⟨below_t hk2 (below_t (below_alloc _ _) (below_alloc _ _)),(HR0.out.below hb2).below (below_t (below_alloc _ _) (below_alloc _ _)),(Bx.new w2 27 [.string a.o,.string a.nm,.slice a.A a.ll a.cap,.int .i64 a.p]).alloc _,Bx.newAt (by simp) 27 [.string b.o,.string b.nm,.slice b.A b.ll b.cap,.int .i64 b.p],hz2⟩)
 have HKA:=Lib.hid (show Below (((w.alloc (.cells #[.string v.o,.string v.nm,.slice v.A v.ll v.cap,.int .i64 v.p] 27)).alloc (.cells #[.string ⟨#[]⟩,.string ⟨#[]⟩,.slice none 0 0,.int .i64 0] 27))).heap.size (((w.alloc (.cells #[.string v.o,.string v.nm,.slice v.A v.ll v.cap,.int .i64 v.p] 27)).alloc (.cells #[.string ⟨#[]⟩,.string ⟨#[]⟩,.slice none 0 0,.int .i64 0] 27))) ((w2.alloc (.cells #[.string a.o,.string a.nm,.slice a.A a.ll a.cap,.int .i64 a.p] 27)).alloc (.cells #[.string b.o,.string b.nm,.slice b.A b.ll b.cap,.int .i64 b.p] 27))from below_t hb2 (below_t (below_alloc _ _) (below_alloc _ _)))
 have HA:=Lib.hid (kid_wide (T:=T7 w2.heap.size) ha (fun k hk=>by have:=HZ0.out;unfold T7;omega))
 have HBB:=Lib.hid (kid_wide (T:=T7 w2.heap.size) hb (fun k hk=>by have:=HZ0.out;unfold T7;omega))
 obtain⟨k0,k1, -, -⟩:=Bx.cells4 (show Bx ((w2.alloc (.cells #[.string a.o,.string a.nm,.slice a.A a.ll a.cap,.int .i64 a.p] 27)).alloc (.cells #[.string b.o,.string b.nm,.slice b.A b.ll b.cap,.int .i64 b.p] 27)) w.heap.size 27 [.string v.o,.string v.nm,.slice v.A v.ll v.cap,.int .i64 v.p]from HF0.out.below HKA.out)
 clear hb2 hk2 ha hb HFU HSD HR0 HB0 hz0 HV HF0
 have H1:=Lib.hid (nlabel_t (nm:=v.nm) ((w2.alloc (.cells #[.string a.o,.string a.nm,.slice a.A a.ll a.cap,.int .i64 a.p] 27)).alloc (.cells #[.string b.o,.string b.nm,.slice b.A b.ll b.cap,.int .i64 b.p] 27)) (HB.out.below HS.out.fr) (by omega) hs)
 go_wp2_with fail
 with_reducible refine(H1.out).mono ?_
 rintro e w3 ⟨vr,rfl,hf3,hb3,hi3⟩
 have hx3:=(HS.out.fx hf3 hql).1
 obtain⟨f0,f1,f2,f3⟩:=hx3.frozen4
 obtain⟨z0,z1,z2,z3⟩:=hx3.cells4
 have hl3:=hx3.lt
 obtain⟨y0,y1,y2,y3⟩:=(Bx.set4 (x0:=.string vr.o) (x1:=.string vr.nm) (x2:=.slice vr.A vr.ll vr.cap) (x3:=.int .i64 vr.p) hx3).cells4
 have HEN:=Lib.hid (fi_end (v:=vr) (y:=labO' v.nm.data.toList true) (n':=n+2) (ok:=True) (r:=w.heap.size+1) HS.out.fr hql (Nat.le_succ _) HS.out.r.lt hf3 hb3 hi3)
 clear hx3
 go_wp2
 refine bodyPost_ret (v:=.agg #[.string vr.o,.string vr.nm,.slice vr.A vr.ll vr.cap,.int .i64 vr.p]) (by simp[results,Tryz.results92,go_sem,y0,y1,y2,y3]) rfl HEN.out
theorem nf_not_f{L:Fo}{p:Nat}(hl:FMC L){n q:Nat}{S:Nat->Prop}{v:FV}(w:World)(h:FS w 27 S (.un [33] L p) v.c)(hop:v.o.toList=[33])(hb:Bx w q 136 [.int .i64 (n:Int)])(hn:n<=4096):
 Calls Tryz.prog 92 #[.pointer (some ⟨q,0,none⟩),.agg #[.string v.o,.string v.nm,.slice v.A v.ll v.cap,.int .i64 v.p],.bool false] w (NfP (nO L true) (cM L true n) q (Fits (n+(nO L true).size)) w):=by
 have hql:=hb.lt
 have g0:(v.o.toList==[116,114,117,101])=false:=by rw[hop];rfl
 have g1:(v.o.toList==[102,97,108,115,101])=false:=by rw[hop];rfl
 have g2:(v.o.toList==[108,97,98,101,108])=false:=by rw[hop];rfl
 have g3:(v.o.toList==[33])=true:=by rw[hop];rfl
 have hb0:Below w.heap.size w ((w.alloc (.cells #[.string v.o,.string v.nm,.slice v.A v.ll v.cap,.int .i64 v.p] 27)).alloc (.cells #[.string ⟨#[]⟩,.string ⟨#[]⟩,.slice none 0 0,.int .i64 0] 27)):=below_t (below_alloc _ _) (below_alloc _ _)
 have HFU:=Lib.hid (show Calls Tryz.prog 93 #[.pointer (some ⟨q,0,none⟩)] ((w.alloc (.cells #[.string v.o,.string v.nm,.slice v.A v.ll v.cap,.int .i64 v.p] 27)).alloc (.cells #[.string ⟨#[]⟩,.string ⟨#[]⟩,.slice none 0 0,.int .i64 0] 27)) (fun e w'=>e= .returned (.bool false)/\w'=((w.alloc (.cells #[.string v.o,.string v.nm,.slice v.A v.ll v.cap,.int .i64 v.p] 27)).alloc (.cells #[.string ⟨#[]⟩,.string ⟨#[]⟩,.slice none 0 0,.int .i64 0] 27)))from decide_eq_false (show ¬4096<n by omega)▸nfull_any _ (hb.below hb0))
 have HSD:=Lib.hid (sides_any ((w.alloc (.cells #[.string v.o,.string v.nm,.slice v.A v.ll v.cap,.int .i64 v.p] 27)).alloc (.cells #[.string ⟨#[]⟩,.string ⟨#[]⟩,.slice none 0 0,.int .i64 0] 27)) (h.below hb0))
 have HR0:=Lib.hid (show Bx ((w.alloc (.cells #[.string v.o,.string v.nm,.slice v.A v.ll v.cap,.int .i64 v.p] 27)).alloc (.cells #[.string ⟨#[]⟩,.string ⟨#[]⟩,.slice none 0 0,.int .i64 0] 27)) (w.heap.size+1) 27 fz from Bx.newAt (by simp) 27 fz)
 have HF0:=Lib.hid (show Bx ((w.alloc (.cells #[.string v.o,.string v.nm,.slice v.A v.ll v.cap,.int .i64 v.p] 27)).alloc (.cells #[.string ⟨#[]⟩,.string ⟨#[]⟩,.slice none 0 0,.int .i64 0] 27)) w.heap.size 27 [.string v.o,.string v.nm,.slice v.A v.ll v.cap,.int .i64 v.p]from(Bx.new w 27 [.string v.o,.string v.nm,.slice v.A v.ll v.cap,.int .i64 v.p]).alloc _)
 have HB0:=Lib.hid hb0
 have HB:=Lib.hid hb
 have hz0:((w.alloc (.cells #[.string v.o,.string v.nm,.slice v.A v.ll v.cap,.int .i64 v.p] 27)).alloc (.cells #[.string ⟨#[]⟩,.string ⟨#[]⟩,.slice none 0 0,.int .i64 0] 27)).heap.size=w.heap.size+1+1:=by simp
 have HV:=Lib.hid h
 clear hb0 h hb hop
 go_enter Tryz.func92,Tryz.ntmps92
 go_wp2_with fail
 with_reducible refine(HFU.out).mono ?_
 rintro e w1 ⟨rfl,rfl⟩
 go_wp2_with fail
 with_reducible refine(HSD.out).mono ?_
 rintro e w2 ⟨a,b,rfl,ha,hb,hb2⟩
 have HZ0:=Lib.hid hb2.size
 have hz2:w.heap.size+1<w2.heap.size:=by have:=hb2.size;omega
 have hk2:=below_t HB0.out hb2
 have HS:=Lib.hid (show FmS w w2.heap.size a b ((w2.alloc (.cells #[.string a.o,.string a.nm,.slice a.A a.ll a.cap,.int .i64 a.p] 27)).alloc (.cells #[.string b.o,.string b.nm,.slice b.A b.ll b.cap,.int .i64 b.p] 27))from⟨below_t hk2 (below_t (below_alloc _ _) (below_alloc _ _)),(HR0.out.below hb2).below (below_t (below_alloc _ _) (below_alloc _ _)),(Bx.new w2 27 [.string a.o,.string a.nm,.slice a.A a.ll a.cap,.int .i64 a.p]).alloc _,Bx.newAt (by simp) 27 [.string b.o,.string b.nm,.slice b.A b.ll b.cap,.int .i64 b.p],hz2⟩)
 have HKA:=Lib.hid (show Below (((w.alloc (.cells #[.string v.o,.string v.nm,.slice v.A v.ll v.cap,.int .i64 v.p] 27)).alloc (.cells #[.string ⟨#[]⟩,.string ⟨#[]⟩,.slice none 0 0,.int .i64 0] 27))).heap.size (((w.alloc (.cells #[.string v.o,.string v.nm,.slice v.A v.ll v.cap,.int .i64 v.p] 27)).alloc (.cells #[.string ⟨#[]⟩,.string ⟨#[]⟩,.slice none 0 0,.int .i64 0] 27))) ((w2.alloc (.cells #[.string a.o,.string a.nm,.slice a.A a.ll a.cap,.int .i64 a.p] 27)).alloc (.cells #[.string b.o,.string b.nm,.slice b.A b.ll b.cap,.int .i64 b.p] 27))from below_t hb2 (below_t (below_alloc _ _) (below_alloc _ _)))
 have HA:=Lib.hid (kid_wide (T:=T7 w2.heap.size) ha (fun k hk=>by have:=HZ0.out;unfold T7;omega))
 have HBB:=Lib.hid (kid_wide (T:=T7 w2.heap.size) hb (fun k hk=>by have:=HZ0.out;unfold T7;omega))
 obtain⟨k0,k1, -, -⟩:=Bx.cells4 (show Bx ((w2.alloc (.cells #[.string a.o,.string a.nm,.slice a.A a.ll a.cap,.int .i64 a.p] 27)).alloc (.cells #[.string b.o,.string b.nm,.slice b.A b.ll b.cap,.int .i64 b.p] 27)) w.heap.size 27 [.string v.o,.string v.nm,.slice v.A v.ll v.cap,.int .i64 v.p]from HF0.out.below HKA.out)
 clear hb2 hk2 ha hb HFU HSD HR0 HB0 hz0 HV HF0
 have H1:=Lib.hid (hl true n q _ a ((w2.alloc (.cells #[.string a.o,.string a.nm,.slice a.A a.ll a.cap,.int .i64 a.p] 27)).alloc (.cells #[.string b.o,.string b.nm,.slice b.A b.ll b.cap,.int .i64 b.p] 27)) (FS.below HA.out HKA.out) (HB.out.below HS.out.fr) (by omega))
 go_wp2_with fail
 with_reducible refine(H1.out).mono ?_
 rintro e w3 ⟨vr,rfl,hf3,hb3,hi3⟩
 have hx3:=(HS.out.fx hf3 hql).1
 obtain⟨f0,f1,f2,f3⟩:=hx3.frozen4
 obtain⟨z0,z1,z2,z3⟩:=hx3.cells4
 have hl3:=hx3.lt
 obtain⟨y0,y1,y2,y3⟩:=(Bx.set4 (x0:=.string vr.o) (x1:=.string vr.nm) (x2:=.slice vr.A vr.ll vr.cap) (x3:=.int .i64 vr.p) hx3).cells4
 have HEN:=Lib.hid (fi_end (v:=vr) (y:=nO L true) (n':=cM L true n) (ok:=Fits (n+(nO L true).size)) (r:=w.heap.size+1) HS.out.fr hql (Nat.le_succ _) HS.out.r.lt hf3 hb3 hi3)
 clear hx3
 go_wp2
 refine bodyPost_ret (v:=.agg #[.string vr.o,.string vr.nm,.slice vr.A vr.ll vr.cap,.int .i64 vr.p]) (by simp[results,Tryz.results92,go_sem,y0,y1,y2,y3]) rfl HEN.out
theorem nf_not_t{L:Fo}{p:Nat}(hl:FMC L){n q:Nat}{S:Nat->Prop}{v:FV}(w:World)(h:FS w 27 S (.un [33] L p) v.c)(hop:v.o.toList=[33])(hb:Bx w q 136 [.int .i64 (n:Int)])(hn:n<=4096):
 Calls Tryz.prog 92 #[.pointer (some ⟨q,0,none⟩),.agg #[.string v.o,.string v.nm,.slice v.A v.ll v.cap,.int .i64 v.p],.bool true] w (NfP (nO L false) (cM L false n) q (Fits (n+(nO L false).size)) w):=by
 have hql:=hb.lt
 have g0:(v.o.toList==[116,114,117,101])=false:=by rw[hop];rfl
 have g1:(v.o.toList==[102,97,108,115,101])=false:=by rw[hop];rfl
 have g2:(v.o.toList==[108,97,98,101,108])=false:=by rw[hop];rfl
 have g3:(v.o.toList==[33])=true:=by rw[hop];rfl
 have hb0:Below w.heap.size w ((w.alloc (.cells #[.string v.o,.string v.nm,.slice v.A v.ll v.cap,.int .i64 v.p] 27)).alloc (.cells #[.string ⟨#[]⟩,.string ⟨#[]⟩,.slice none 0 0,.int .i64 0] 27)):=below_t (below_alloc _ _) (below_alloc _ _)
 have HFU:=Lib.hid (show Calls Tryz.prog 93 #[.pointer (some ⟨q,0,none⟩)] ((w.alloc (.cells #[.string v.o,.string v.nm,.slice v.A v.ll v.cap,.int .i64 v.p] 27)).alloc (.cells #[.string ⟨#[]⟩,.string ⟨#[]⟩,.slice none 0 0,.int .i64 0] 27)) (fun e w'=>e= .returned (.bool false)/\w'=((w.alloc (.cells #[.string v.o,.string v.nm,.slice v.A v.ll v.cap,.int .i64 v.p] 27)).alloc (.cells #[.string ⟨#[]⟩,.string ⟨#[]⟩,.slice none 0 0,.int .i64 0] 27)))from decide_eq_false (show ¬4096<n by omega)▸nfull_any _ (hb.below hb0))
 have HSD:=Lib.hid (sides_any ((w.alloc (.cells #[.string v.o,.string v.nm,.slice v.A v.ll v.cap,.int .i64 v.p] 27)).alloc (.cells #[.string ⟨#[]⟩,.string ⟨#[]⟩,.slice none 0 0,.int .i64 0] 27)) (h.below hb0))
 have HR0:=Lib.hid (show Bx ((w.alloc (.cells #[.string v.o,.string v.nm,.slice v.A v.ll v.cap,.int .i64 v.p] 27)).alloc (.cells #[.string ⟨#[]⟩,.string ⟨#[]⟩,.slice none 0 0,.int .i64 0] 27)) (w.heap.size+1) 27 fz from Bx.newAt (by simp) 27 fz)
 have HF0:=Lib.hid (show Bx ((w.alloc (.cells #[.string v.o,.string v.nm,.slice v.A v.ll v.cap,.int .i64 v.p] 27)).alloc (.cells #[.string ⟨#[]⟩,.string ⟨#[]⟩,.slice none 0 0,.int .i64 0] 27)) w.heap.size 27 [.string v.o,.string v.nm,.slice v.A v.ll v.cap,.int .i64 v.p]from(Bx.new w 27 [.string v.o,.string v.nm,.slice v.A v.ll v.cap,.int .i64 v.p]).alloc _)
 have HB0:=Lib.hid hb0
 have HB:=Lib.hid hb
 have hz0:((w.alloc (.cells #[.string v.o,.string v.nm,.slice v.A v.ll v.cap,.int .i64 v.p] 27)).alloc (.cells #[.string ⟨#[]⟩,.string ⟨#[]⟩,.slice none 0 0,.int .i64 0] 27)).heap.size=w.heap.size+1+1:=by simp
 have HV:=Lib.hid h
 clear hb0 h hb hop
 go_enter Tryz.func92,Tryz.ntmps92
 go_wp2_with fail
 with_reducible refine(HFU.out).mono ?_
 rintro e w1 ⟨rfl,rfl⟩
 go_wp2_with fail
 with_reducible refine(HSD.out).mono ?_
 rintro e w2 ⟨a,b,rfl,ha,hb,hb2⟩
 have HZ0:=Lib.hid hb2.size
 have hz2:w.heap.size+1<w2.heap.size:=by have:=hb2.size;omega
 have hk2:=below_t HB0.out hb2
 have HS:=Lib.hid (show FmS w w2.heap.size a b ((w2.alloc (.cells #[.string a.o,.string a.nm,.slice a.A a.ll a.cap,.int .i64 a.p] 27)).alloc (.cells #[.string b.o,.string b.nm,.slice b.A b.ll b.cap,.int .i64 b.p] 27))from⟨below_t hk2 (below_t (below_alloc _ _) (below_alloc _ _)),(HR0.out.below hb2).below (below_t (below_alloc _ _) (below_alloc _ _)),(Bx.new w2 27 [.string a.o,.string a.nm,.slice a.A a.ll a.cap,.int .i64 a.p]).alloc _,Bx.newAt (by simp) 27 [.string b.o,.string b.nm,.slice b.A b.ll b.cap,.int .i64 b.p],hz2⟩)
 have HKA:=Lib.hid (show Below (((w.alloc (.cells #[.string v.o,.string v.nm,.slice v.A v.ll v.cap,.int .i64 v.p] 27)).alloc (.cells #[.string ⟨#[]⟩,.string ⟨#[]⟩,.slice none 0 0,.int .i64 0] 27))).heap.size (((w.alloc (.cells #[.string v.o,.string v.nm,.slice v.A v.ll v.cap,.int .i64 v.p] 27)).alloc (.cells #[.string ⟨#[]⟩,.string ⟨#[]⟩,.slice none 0 0,.int .i64 0] 27))) ((w2.alloc (.cells #[.string a.o,.string a.nm,.slice a.A a.ll a.cap,.int .i64 a.p] 27)).alloc (.cells #[.string b.o,.string b.nm,.slice b.A b.ll b.cap,.int .i64 b.p] 27))from below_t hb2 (below_t (below_alloc _ _) (below_alloc _ _)))
 have HA:=Lib.hid (kid_wide (T:=T7 w2.heap.size) ha (fun k hk=>by have:=HZ0.out;unfold T7;omega))
 have HBB:=Lib.hid (kid_wide (T:=T7 w2.heap.size) hb (fun k hk=>by have:=HZ0.out;unfold T7;omega))
 obtain⟨k0,k1, -, -⟩:=Bx.cells4 (show Bx ((w2.alloc (.cells #[.string a.o,.string a.nm,.slice a.A a.ll a.cap,.int .i64 a.p] 27)).alloc (.cells #[.string b.o,.string b.nm,.slice b.A b.ll b.cap,.int .i64 b.p] 27)) w.heap.size 27 [.string v.o,.string v.nm,.slice v.A v.ll v.cap,.int .i64 v.p]from HF0.out.below HKA.out)
 clear hb2 hk2 ha hb HFU HSD HR0 HB0 hz0 HV HF0
 have H1:=Lib.hid (hl false n q _ a ((w2.alloc (.cells #[.string a.o,.string a.nm,.slice a.A a.ll a.cap,.int .i64 a.p] 27)).alloc (.cells #[.string b.o,.string b.nm,.slice b.A b.ll b.cap,.int .i64 b.p] 27)) (FS.below HA.out HKA.out) (HB.out.below HS.out.fr) (by omega))
 go_wp2_with fail
 with_reducible refine(H1.out).mono ?_
 rintro e w3 ⟨vr,rfl,hf3,hb3,hi3⟩
 have hx3:=(HS.out.fx hf3 hql).1
 obtain⟨f0,f1,f2,f3⟩:=hx3.frozen4
 obtain⟨z0,z1,z2,z3⟩:=hx3.cells4
 have hl3:=hx3.lt
 obtain⟨y0,y1,y2,y3⟩:=(Bx.set4 (x0:=.string vr.o) (x1:=.string vr.nm) (x2:=.slice vr.A vr.ll vr.cap) (x3:=.int .i64 vr.p) hx3).cells4
 have HEN:=Lib.hid (fi_end (v:=vr) (y:=nO L false) (n':=cM L false n) (ok:=Fits (n+(nO L false).size)) (r:=w.heap.size+1) HS.out.fr hql (Nat.le_succ _) HS.out.r.lt hf3 hb3 hi3)
 clear hx3
 go_wp2
 refine bodyPost_ret (v:=.agg #[.string vr.o,.string vr.nm,.slice vr.A vr.ll vr.cap,.int .i64 vr.p]) (by simp[results,Tryz.results92,go_sem,y0,y1,y2,y3]) rfl HEN.out
theorem nf_X_f{L:Fo}{p:Nat}(hl:FMC L)(zl:L.size<=4096){n q:Nat}{S:Nat->Prop}{v:FV}(w:World)(h:FS w 27 S (.un [88] L p) v.c)(hop:v.o.toList=[88])(hb:Bx w q 136 [.int .i64 (n:Int)])(hn:n<=4096):
 Calls Tryz.prog 92 #[.pointer (some ⟨q,0,none⟩),.agg #[.string v.o,.string v.nm,.slice v.A v.ll v.cap,.int .i64 v.p],.bool false] w (NfP (.un [88] (nO L false) 0) (cM L false n+1) q (Fits (n+(nO L false).size+1)) w):=by
 have hql:=hb.lt
 have g0:(v.o.toList==[116,114,117,101])=false:=by rw[hop];rfl
 have g1:(v.o.toList==[102,97,108,115,101])=false:=by rw[hop];rfl
 have g2:(v.o.toList==[108,97,98,101,108])=false:=by rw[hop];rfl
 have g3:(v.o.toList==[33])=false:=by rw[hop];rfl
 have g4:(v.o.toList==[88])=true:=by rw[hop];rfl
 have hb0:Below w.heap.size w ((w.alloc (.cells #[.string v.o,.string v.nm,.slice v.A v.ll v.cap,.int .i64 v.p] 27)).alloc (.cells #[.string ⟨#[]⟩,.string ⟨#[]⟩,.slice none 0 0,.int .i64 0] 27)):=below_t (below_alloc _ _) (below_alloc _ _)
 have HFU:=Lib.hid (show Calls Tryz.prog 93 #[.pointer (some ⟨q,0,none⟩)] ((w.alloc (.cells #[.string v.o,.string v.nm,.slice v.A v.ll v.cap,.int .i64 v.p] 27)).alloc (.cells #[.string ⟨#[]⟩,.string ⟨#[]⟩,.slice none 0 0,.int .i64 0] 27)) (fun e w'=>e= .returned (.bool false)/\w'=((w.alloc (.cells #[.string v.o,.string v.nm,.slice v.A v.ll v.cap,.int .i64 v.p] 27)).alloc (.cells #[.string ⟨#[]⟩,.string ⟨#[]⟩,.slice none 0 0,.int .i64 0] 27)))from decide_eq_false (show ¬4096<n by omega)▸nfull_any _ (hb.below hb0))
 have HSD:=Lib.hid (sides_any ((w.alloc (.cells #[.string v.o,.string v.nm,.slice v.A v.ll v.cap,.int .i64 v.p] 27)).alloc (.cells #[.string ⟨#[]⟩,.string ⟨#[]⟩,.slice none 0 0,.int .i64 0] 27)) (h.below hb0))
 have HR0:=Lib.hid (show Bx ((w.alloc (.cells #[.string v.o,.string v.nm,.slice v.A v.ll v.cap,.int .i64 v.p] 27)).alloc (.cells #[.string ⟨#[]⟩,.string ⟨#[]⟩,.slice none 0 0,.int .i64 0] 27)) (w.heap.size+1) 27 fz from Bx.newAt (by simp) 27 fz)
 have HF0:=Lib.hid (show Bx ((w.alloc (.cells #[.string v.o,.string v.nm,.slice v.A v.ll v.cap,.int .i64 v.p] 27)).alloc (.cells #[.string ⟨#[]⟩,.string ⟨#[]⟩,.slice none 0 0,.int .i64 0] 27)) w.heap.size 27 [.string v.o,.string v.nm,.slice v.A v.ll v.cap,.int .i64 v.p]from(Bx.new w 27 [.string v.o,.string v.nm,.slice v.A v.ll v.cap,.int .i64 v.p]).alloc _)
 have HB0:=Lib.hid hb0
 have HB:=Lib.hid hb
 have hz0:((w.alloc (.cells #[.string v.o,.string v.nm,.slice v.A v.ll v.cap,.int .i64 v.p] 27)).alloc (.cells #[.string ⟨#[]⟩,.string ⟨#[]⟩,.slice none 0 0,.int .i64 0] 27)).heap.size=w.heap.size+1+1:=by simp
 have HV:=Lib.hid h
 clear hb0 h hb hop
 go_enter Tryz.func92,Tryz.ntmps92
 go_wp2_with fail
 with_reducible refine(HFU.out).mono ?_
 rintro e w1 ⟨rfl,rfl⟩
 go_wp2_with fail
 with_reducible refine(HSD.out).mono ?_
 rintro e w2 ⟨a,b,rfl,ha,hb,hb2⟩
 have HZ0:=Lib.hid hb2.size
 have hz2:w.heap.size+1<w2.heap.size:=by have:=hb2.size;omega
 have hk2:=below_t HB0.out hb2
 have HS:=Lib.hid (show FmS w w2.heap.size a b ((w2.alloc (.cells #[.string a.o,.string a.nm,.slice a.A a.ll a.cap,.int .i64 a.p] 27)).alloc (.cells #[.string b.o,.string b.nm,.slice b.A b.ll b.cap,.int .i64 b.p] 27))from⟨below_t hk2 (below_t (below_alloc _ _) (below_alloc _ _)),(HR0.out.below hb2).below (below_t (below_alloc _ _) (below_alloc _ _)),(Bx.new w2 27 [.string a.o,.string a.nm,.slice a.A a.ll a.cap,.int .i64 a.p]).alloc _,Bx.newAt (by simp) 27 [.string b.o,.string b.nm,.slice b.A b.ll b.cap,.int .i64 b.p],hz2⟩)
 have HKA:=Lib.hid (show Below (((w.alloc (.cells #[.string v.o,.string v.nm,.slice v.A v.ll v.cap,.int .i64 v.p] 27)).alloc (.cells #[.string ⟨#[]⟩,.string ⟨#[]⟩,.slice none 0 0,.int .i64 0] 27))).heap.size (((w.alloc (.cells #[.string v.o,.string v.nm,.slice v.A v.ll v.cap,.int .i64 v.p] 27)).alloc (.cells #[.string ⟨#[]⟩,.string ⟨#[]⟩,.slice none 0 0,.int .i64 0] 27))) ((w2.alloc (.cells #[.string a.o,.string a.nm,.slice a.A a.ll a.cap,.int .i64 a.p] 27)).alloc (.cells #[.string b.o,.string b.nm,.slice b.A b.ll b.cap,.int .i64 b.p] 27))from below_t hb2 (below_t (below_alloc _ _) (below_alloc _ _)))
 have HA:=Lib.hid (kid_wide (T:=T7 w2.heap.size) ha (fun k hk=>by have:=HZ0.out;unfold T7;omega))
 have HBB:=Lib.hid (kid_wide (T:=T7 w2.heap.size) hb (fun k hk=>by have:=HZ0.out;unfold T7;omega))
 obtain⟨k0,k1, -, -⟩:=Bx.cells4 (show Bx ((w2.alloc (.cells #[.string a.o,.string a.nm,.slice a.A a.ll a.cap,.int .i64 a.p] 27)).alloc (.cells #[.string b.o,.string b.nm,.slice b.A b.ll b.cap,.int .i64 b.p] 27)) w.heap.size 27 [.string v.o,.string v.nm,.slice v.A v.ll v.cap,.int .i64 v.p]from HF0.out.below HKA.out)
 clear hb2 hk2 ha hb HFU HSD HR0 HB0 hz0 HV HF0
 have H1:=Lib.hid (hl false n q _ a ((w2.alloc (.cells #[.string a.o,.string a.nm,.slice a.A a.ll a.cap,.int .i64 a.p] 27)).alloc (.cells #[.string b.o,.string b.nm,.slice b.A b.ll b.cap,.int .i64 b.p] 27)) (FS.below HA.out HKA.out) (HB.out.below HS.out.fr) (by omega))
 have hcl:cM L false n<=1000000:=by have:=cm_le L false n;omega
 have H2:=Lib.hid (fun(W:World) (g:Nat) (hbW:Bx W q 136 [.int .i64 ((cM L false n:Nat):Int)])=>none_any (o:=⟨#[88]⟩) (A:=some ⟨g,0,none⟩) (l:=1) (cap:=1) W hbW hcl)
 go_wp2_with fail
 with_reducible refine(H1.out).mono ?_
 rintro e w4 ⟨va,rfl,hf4,hb4,hi4⟩
 have HF4:=Lib.hid hf4
 have HI4:=Lib.hid hi4
 have HB4:=Lib.hid hb4
 have HG4:=Lib.hid (Bx.new w4 27 va.c)
 have hz4:=hf4.size
 clear hf4 hi4 hb4
 go_wp2_with fail
 with_reducible refine(H2.out _ _ (HB4.out.alloc _)).mono ?_
 rintro e w3 ⟨rfl,hf3,hb3⟩
 have hg3:=HG4.out.fx hf3 (show ¬w4.heap.size=q by have:=HB4.out.lt;omega)
 have hff:Fx1 q ((w2.alloc (.cells #[.string a.o,.string a.nm,.slice a.A a.ll a.cap,.int .i64 a.p] 27)).alloc (.cells #[.string b.o,.string b.nm,.slice b.A b.ll b.cap,.int .i64 b.p] 27)) w3:=(HF4.out.alloc _).trans hf3
 have hx3:=(HS.out.fx hff hql).1
 obtain⟨f0,f1,f2,f3⟩:=hx3.frozen4
 obtain⟨z0,z1,z2,z3⟩:=hx3.cells4
 have hl3:=hx3.lt
 obtain⟨y0,y1,y2,y3⟩:=(Bx.set4 (x0:=.string ⟨#[88]⟩) (x1:=.string ⟨#[]⟩) (x2:=.slice (some ⟨w4.heap.size,0,none⟩) 1 1) (x3:=.int .i64 0) hx3).cells4
 have HEN:=Lib.hid (fi_end (v:=⟨⟨#[88]⟩,⟨#[]⟩,some ⟨w4.heap.size,0,none⟩,1,1,0⟩) (y:=.un [88] (nO L false) 0) (n':=cM L false n+1) (ok:=Fits (n+(nO L false).size+1)) (r:=w.heap.size+1) HS.out.fr hql (Nat.le_succ _) HS.out.r.lt hff hb3 (fun hok=>⟨w4.heap.size,1,va.c,rfl,hg3.lt,Nat.le_refl _,hg3,((HI4.out (by unfold Fits at hok;omega)).below (below_alloc w4 (.cells va.c.toArray 27))).fx1 hf3 (by have:=HS.out.fr.size;omega)⟩))
 clear hx3
 go_wp2
 refine bodyPost_ret (v:=.agg #[.string ⟨#[88]⟩,.string ⟨#[]⟩,.slice (some ⟨w4.heap.size,0,none⟩) 1 1,.int .i64 0]) (by simp[results,Tryz.results92,go_sem,y0,y1,y2,y3]) rfl HEN.out
theorem nf_X_t{L:Fo}{p:Nat}(hl:FMC L)(zl:L.size<=4096){n q:Nat}{S:Nat->Prop}{v:FV}(w:World)(h:FS w 27 S (.un [88] L p) v.c)(hop:v.o.toList=[88])(hb:Bx w q 136 [.int .i64 (n:Int)])(hn:n<=4096):
 Calls Tryz.prog 92 #[.pointer (some ⟨q,0,none⟩),.agg #[.string v.o,.string v.nm,.slice v.A v.ll v.cap,.int .i64 v.p],.bool true] w (NfP (.un [88] (nO L true) 0) (cM L true n+1) q (Fits (n+(nO L true).size+1)) w):=by
 have hql:=hb.lt
 have g0:(v.o.toList==[116,114,117,101])=false:=by rw[hop];rfl
 have g1:(v.o.toList==[102,97,108,115,101])=false:=by rw[hop];rfl
 have g2:(v.o.toList==[108,97,98,101,108])=false:=by rw[hop];rfl
 have g3:(v.o.toList==[33])=false:=by rw[hop];rfl
 have g4:(v.o.toList==[88])=true:=by rw[hop];rfl
 have hb0:Below w.heap.size w ((w.alloc (.cells #[.string v.o,.string v.nm,.slice v.A v.ll v.cap,.int .i64 v.p] 27)).alloc (.cells #[.string ⟨#[]⟩,.string ⟨#[]⟩,.slice none 0 0,.int .i64 0] 27)):=below_t (below_alloc _ _) (below_alloc _ _)
 have HFU:=Lib.hid (show Calls Tryz.prog 93 #[.pointer (some ⟨q,0,none⟩)] ((w.alloc (.cells #[.string v.o,.string v.nm,.slice v.A v.ll v.cap,.int .i64 v.p] 27)).alloc (.cells #[.string ⟨#[]⟩,.string ⟨#[]⟩,.slice none 0 0,.int .i64 0] 27)) (fun e w'=>e= .returned (.bool false)/\w'=((w.alloc (.cells #[.string v.o,.string v.nm,.slice v.A v.ll v.cap,.int .i64 v.p] 27)).alloc (.cells #[.string ⟨#[]⟩,.string ⟨#[]⟩,.slice none 0 0,.int .i64 0] 27)))from decide_eq_false (show ¬4096<n by omega)▸nfull_any _ (hb.below hb0))
 have HSD:=Lib.hid (sides_any ((w.alloc (.cells #[.string v.o,.string v.nm,.slice v.A v.ll v.cap,.int .i64 v.p] 27)).alloc (.cells #[.string ⟨#[]⟩,.string ⟨#[]⟩,.slice none 0 0,.int .i64 0] 27)) (h.below hb0))
 have HR0:=Lib.hid (show Bx ((w.alloc (.cells #[.string v.o,.string v.nm,.slice v.A v.ll v.cap,.int .i64 v.p] 27)).alloc (.cells #[.string ⟨#[]⟩,.string ⟨#[]⟩,.slice none 0 0,.int .i64 0] 27)) (w.heap.size+1) 27 fz from Bx.newAt (by simp) 27 fz)
 have HF0:=Lib.hid (show Bx ((w.alloc (.cells #[.string v.o,.string v.nm,.slice v.A v.ll v.cap,.int .i64 v.p] 27)).alloc (.cells #[.string ⟨#[]⟩,.string ⟨#[]⟩,.slice none 0 0,.int .i64 0] 27)) w.heap.size 27 [.string v.o,.string v.nm,.slice v.A v.ll v.cap,.int .i64 v.p]from(Bx.new w 27 [.string v.o,.string v.nm,.slice v.A v.ll v.cap,.int .i64 v.p]).alloc _)
 have HB0:=Lib.hid hb0
 have HB:=Lib.hid hb
 have hz0:((w.alloc (.cells #[.string v.o,.string v.nm,.slice v.A v.ll v.cap,.int .i64 v.p] 27)).alloc (.cells #[.string ⟨#[]⟩,.string ⟨#[]⟩,.slice none 0 0,.int .i64 0] 27)).heap.size=w.heap.size+1+1:=by simp
 have HV:=Lib.hid h
 clear hb0 h hb hop
 go_enter Tryz.func92,Tryz.ntmps92
 go_wp2_with fail
 with_reducible refine(HFU.out).mono ?_
 rintro e w1 ⟨rfl,rfl⟩
 go_wp2_with fail
 with_reducible refine(HSD.out).mono ?_
 rintro e w2 ⟨a,b,rfl,ha,hb,hb2⟩
 have HZ0:=Lib.hid hb2.size
 have hz2:w.heap.size+1<w2.heap.size:=by have:=hb2.size;omega
 have hk2:=below_t HB0.out hb2
 have HS:=Lib.hid (show FmS w w2.heap.size a b ((w2.alloc (.cells #[.string a.o,.string a.nm,.slice a.A a.ll a.cap,.int .i64 a.p] 27)).alloc (.cells #[.string b.o,.string b.nm,.slice b.A b.ll b.cap,.int .i64 b.p] 27))from⟨below_t hk2 (below_t (below_alloc _ _) (below_alloc _ _)),(HR0.out.below hb2).below (below_t (below_alloc _ _) (below_alloc _ _)),(Bx.new w2 27 [.string a.o,.string a.nm,.slice a.A a.ll a.cap,.int .i64 a.p]).alloc _,Bx.newAt (by simp) 27 [.string b.o,.string b.nm,.slice b.A b.ll b.cap,.int .i64 b.p],hz2⟩)
 have HKA:=Lib.hid (show Below (((w.alloc (.cells #[.string v.o,.string v.nm,.slice v.A v.ll v.cap,.int .i64 v.p] 27)).alloc (.cells #[.string ⟨#[]⟩,.string ⟨#[]⟩,.slice none 0 0,.int .i64 0] 27))).heap.size (((w.alloc (.cells #[.string v.o,.string v.nm,.slice v.A v.ll v.cap,.int .i64 v.p] 27)).alloc (.cells #[.string ⟨#[]⟩,.string ⟨#[]⟩,.slice none 0 0,.int .i64 0] 27))) ((w2.alloc (.cells #[.string a.o,.string a.nm,.slice a.A a.ll a.cap,.int .i64 a.p] 27)).alloc (.cells #[.string b.o,.string b.nm,.slice b.A b.ll b.cap,.int .i64 b.p] 27))from below_t hb2 (below_t (below_alloc _ _) (below_alloc _ _)))
 have HA:=Lib.hid (kid_wide (T:=T7 w2.heap.size) ha (fun k hk=>by have:=HZ0.out;unfold T7;omega))
 have HBB:=Lib.hid (kid_wide (T:=T7 w2.heap.size) hb (fun k hk=>by have:=HZ0.out;unfold T7;omega))
 obtain⟨k0,k1, -, -⟩:=Bx.cells4 (show Bx ((w2.alloc (.cells #[.string a.o,.string a.nm,.slice a.A a.ll a.cap,.int .i64 a.p] 27)).alloc (.cells #[.string b.o,.string b.nm,.slice b.A b.ll b.cap,.int .i64 b.p] 27)) w.heap.size 27 [.string v.o,.string v.nm,.slice v.A v.ll v.cap,.int .i64 v.p]from HF0.out.below HKA.out)
 clear hb2 hk2 ha hb HFU HSD HR0 HB0 hz0 HV HF0
 have H1:=Lib.hid (hl true n q _ a ((w2.alloc (.cells #[.string a.o,.string a.nm,.slice a.A a.ll a.cap,.int .i64 a.p] 27)).alloc (.cells #[.string b.o,.string b.nm,.slice b.A b.ll b.cap,.int .i64 b.p] 27)) (FS.below HA.out HKA.out) (HB.out.below HS.out.fr) (by omega))
 have hcl:cM L true n<=1000000:=by have:=cm_le L true n;omega
 have H2:=Lib.hid (fun(W:World) (g:Nat) (hbW:Bx W q 136 [.int .i64 ((cM L true n:Nat):Int)])=>none_any (o:=⟨#[88]⟩) (A:=some ⟨g,0,none⟩) (l:=1) (cap:=1) W hbW hcl)
 go_wp2_with fail
 with_reducible refine(H1.out).mono ?_
 rintro e w4 ⟨va,rfl,hf4,hb4,hi4⟩
 have HF4:=Lib.hid hf4
 have HI4:=Lib.hid hi4
 have HB4:=Lib.hid hb4
 have HG4:=Lib.hid (Bx.new w4 27 va.c)
 have hz4:=hf4.size
 clear hf4 hi4 hb4
 go_wp2_with fail
 with_reducible refine(H2.out _ _ (HB4.out.alloc _)).mono ?_
 rintro e w3 ⟨rfl,hf3,hb3⟩
 have hg3:=HG4.out.fx hf3 (show ¬w4.heap.size=q by have:=HB4.out.lt;omega)
 have hff:Fx1 q ((w2.alloc (.cells #[.string a.o,.string a.nm,.slice a.A a.ll a.cap,.int .i64 a.p] 27)).alloc (.cells #[.string b.o,.string b.nm,.slice b.A b.ll b.cap,.int .i64 b.p] 27)) w3:=(HF4.out.alloc _).trans hf3
 have hx3:=(HS.out.fx hff hql).1
 obtain⟨f0,f1,f2,f3⟩:=hx3.frozen4
 obtain⟨z0,z1,z2,z3⟩:=hx3.cells4
 have hl3:=hx3.lt
 obtain⟨y0,y1,y2,y3⟩:=(Bx.set4 (x0:=.string ⟨#[88]⟩) (x1:=.string ⟨#[]⟩) (x2:=.slice (some ⟨w4.heap.size,0,none⟩) 1 1) (x3:=.int .i64 0) hx3).cells4
 have HEN:=Lib.hid (fi_end (v:=⟨⟨#[88]⟩,⟨#[]⟩,some ⟨w4.heap.size,0,none⟩,1,1,0⟩) (y:=.un [88] (nO L true) 0) (n':=cM L true n+1) (ok:=Fits (n+(nO L true).size+1)) (r:=w.heap.size+1) HS.out.fr hql (Nat.le_succ _) HS.out.r.lt hff hb3 (fun hok=>⟨w4.heap.size,1,va.c,rfl,hg3.lt,Nat.le_refl _,hg3,((HI4.out (by unfold Fits at hok;omega)).below (below_alloc w4 (.cells va.c.toArray 27))).fx1 hf3 (by have:=HS.out.fr.size;omega)⟩))
 clear hx3
 go_wp2
 refine bodyPost_ret (v:=.agg #[.string ⟨#[88]⟩,.string ⟨#[]⟩,.slice (some ⟨w4.heap.size,0,none⟩) 1 1,.int .i64 0]) (by simp[results,Tryz.results92,go_sem,y0,y1,y2,y3]) rfl HEN.out
end Go.Proofs.YtmgjpjjglghbaaaGreatDoor
