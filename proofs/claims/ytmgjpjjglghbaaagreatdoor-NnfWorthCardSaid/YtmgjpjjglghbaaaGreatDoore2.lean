import Derived.Test.YtmgjpjjglghbaaaGreatDoore1
namespace Go.Proofs.YtmgjpjjglghbaaaGreatDoor
set_option maxHeartbeats 16000000
set_option maxRecDepth 100000
open Go.RowKit
theorem hopF{S:Nat->Prop}{x:Fo}{v:FV}{w:World}(h:FS w 27 S x v.c):v.o.toList=x.op:=by
 rw[h.opn,ByteArray.toList_eq]
theorem nistr_any{x:Fo}{S:Nat->Prop}{v:FV}(w:World)(h:FS w 27 S x v.c):Calls Tryz.prog 96 #[.agg #[.string v.o,.string v.nm,.slice v.A v.ll v.cap,.int .i64 v.p]] w (BoolP (isTr x) w):=by
 have ho:=hopF h
 have g0:(v.o.toList==[116,114,117,101])=decide (x.op=opTrue):=by rw[ho];rw[Bool.eq_iff_iff,beq_iff_eq,decide_eq_true_iff];rfl
 have g1:(v.o.toList==[102,97,108,115,101])=decide (x.op=opFalse):=by rw[ho];rw[Bool.eq_iff_iff,beq_iff_eq,decide_eq_true_iff];rfl
 unfold isTr
 generalize decide (x.op=opTrue)=b0 at*
 generalize decide (x.op=opFalse)=b1 at*
 clear h ho
 go_enter Tryz.func96,Tryz.ntmps96
 cases b0<;>cases b1
 all_goals
  go_wp2
  go_ret
  exact⟨rfl,below_alloc _ _⟩
theorem psame_any{x y:Fo}{v u:FV}{S:Nat->Prop}(w:World)(h:FS w 27 S x v.c)(k:FS w 27 S y u.c):Calls Tryz.prog 39 #[.agg #[.string v.o,.string v.nm,.slice v.A v.ll v.cap,.int .i64 v.p],.agg #[.string u.o,.string u.nm,.slice u.A u.ll u.cap,.int .i64 u.p]] w (BoolP (same x y) w):=by
 refine(fsame_any x y w S S _ _ h k).mono ?_
 rintro e w1 ⟨rfl,hb⟩
 exact⟨rfl,hb⟩
theorem jn_and0{xa xb:Fo}{va vb:FV}{S:Nat->Prop}{g:Nat}{o nm':ByteArray}{cap:Nat}{p':Int}(w:World)(hB:Bx w g 27 (va.c++vb.c))(fa:FS w 27 S xa va.c)(fb:FS w 27 S xb vb.c)(h0:(xa.op=opTrue)=True):
 Calls Tryz.prog 97 #[.agg #[.string o,.string nm',.slice (some ⟨g,0,none⟩) 2 cap,.int .i64 p'],.string ⟨#[116,114,117,101]⟩,.string ⟨#[102,97,108,115,101]⟩] w (fun e w'=>e= .returned (.agg #[.string vb.o,.string vb.nm,.slice vb.A vb.ll vb.cap,.int .i64 vb.p])/\Below w.heap.size w w'):=by
 have oa:=hopF fa
 have ob:=hopF fb
 have g0:(va.o.toList==[116,114,117,101])=true:=by rw[oa];exact beq_iff_eq.2 (of_eq_true h0)
 have hb0:Below w.heap.size w ((w.alloc (.cells #[.string o,.string nm',.slice (some ⟨g,0,none⟩) 2 cap,.int .i64 p'] 27)).alloc (.cells #[.string ⟨#[]⟩,.string ⟨#[]⟩,.slice none 0 0,.int .i64 0] 27)):=below_t (below_alloc _ _) (below_alloc _ _)
 have hB0:=hB.below hb0
 have HSD:=Lib.hid (sides2 (o:=o) (nm':=nm') (cap:=cap) (p':=p') (a:=va) (b:=vb) ((w.alloc (.cells #[.string o,.string nm',.slice (some ⟨g,0,none⟩) 2 cap,.int .i64 p'] 27)).alloc (.cells #[.string ⟨#[]⟩,.string ⟨#[]⟩,.slice none 0 0,.int .i64 0] 27)) hB0.lt (hB0.cell 0) (hB0.cell 1) (hB0.cell 2) (hB0.cell 3) (hB0.cell 4) (hB0.cell 5) (hB0.cell 6) (hB0.cell 7))
 have HR0:=Lib.hid (show Bx ((w.alloc (.cells #[.string o,.string nm',.slice (some ⟨g,0,none⟩) 2 cap,.int .i64 p'] 27)).alloc (.cells #[.string ⟨#[]⟩,.string ⟨#[]⟩,.slice none 0 0,.int .i64 0] 27)) (w.heap.size+1) 27 fz from Bx.newAt (by simp) 27 fz)
 have HB0:=Lib.hid hb0
 clear hb0 hB0 hB fa fb oa ob
 go_enter Tryz.func97,Tryz.ntmps97
 go_wp2_with fail
 with_reducible refine(HSD.out).mono ?_
 rintro e w2 ⟨rfl,hb2⟩
 have hbk:Below w.heap.size w ((w2.alloc (.cells #[.string va.o,.string va.nm,.slice va.A va.ll va.cap,.int .i64 va.p] 27)).alloc (.cells #[.string vb.o,.string vb.nm,.slice vb.A vb.ll vb.cap,.int .i64 vb.p] 27)):=below_t (below_t HB0.out hb2) (below_t (below_alloc _ _) (below_alloc _ _))
 have hres:=(HR0.out.below hb2).below (below_t (below_alloc w2 (.cells #[.string va.o,.string va.nm,.slice va.A va.ll va.cap,.int .i64 va.p] 27)) (below_alloc _ (.cells #[.string vb.o,.string vb.nm,.slice vb.A vb.ll vb.cap,.int .i64 vb.p] 27)))
 have hz2:w.heap.size+1<w2.heap.size:=(HR0.out.below hb2).lt
 have HBK:=Lib.hid hbk
 have HRS:=Lib.hid hres
 clear hb2 hbk hres
 obtain⟨f0,f1,f2,f3⟩:=(HRS.out).frozen4
 obtain⟨z0,z1,z2,z3⟩:=(HRS.out).cells4
 have hl:=(HRS.out).lt
 obtain⟨y0,y1,y2,y3⟩:=(Bx.set4 (x0:=.string vb.o) (x1:=.string vb.nm) (x2:=.slice vb.A vb.ll vb.cap) (x3:=.int .i64 vb.p) (HRS.out)).cells4
 have HB9:=Lib.hid (below_set4 (x0:=.string vb.o) (x1:=.string vb.nm) (x2:=.slice vb.A vb.ll vb.cap) (x3:=.int .i64 vb.p) (HBK.out) (q:=w.heap.size+1) (Nat.le_succ _))
 go_wp2
 refine bodyPost_ret (v:=.agg #[.string vb.o,.string vb.nm,.slice vb.A vb.ll vb.cap,.int .i64 vb.p]) (by simp[results,Tryz.results97,go_sem,y0,y1,y2,y3]) rfl ⟨rfl,HB9.out⟩
theorem jn_and1{xa xb:Fo}{va vb:FV}{S:Nat->Prop}{g:Nat}{o nm':ByteArray}{cap:Nat}{p':Int}(w:World)(hB:Bx w g 27 (va.c++vb.c))(fa:FS w 27 S xa va.c)(fb:FS w 27 S xb vb.c)(h0:(xa.op=opTrue)=False)(h1:(xb.op=opFalse)=True):
 Calls Tryz.prog 97 #[.agg #[.string o,.string nm',.slice (some ⟨g,0,none⟩) 2 cap,.int .i64 p'],.string ⟨#[116,114,117,101]⟩,.string ⟨#[102,97,108,115,101]⟩] w (fun e w'=>e= .returned (.agg #[.string vb.o,.string vb.nm,.slice vb.A vb.ll vb.cap,.int .i64 vb.p])/\Below w.heap.size w w'):=by
 have oa:=hopF fa
 have ob:=hopF fb
 have g0:(va.o.toList==[116,114,117,101])=false:=by rw[oa];exact beq_eq_false_iff_ne.2 (of_eq_false h0)
 have g1:(vb.o.toList==[102,97,108,115,101])=true:=by rw[ob];exact beq_iff_eq.2 (of_eq_true h1)
 have hb0:Below w.heap.size w ((w.alloc (.cells #[.string o,.string nm',.slice (some ⟨g,0,none⟩) 2 cap,.int .i64 p'] 27)).alloc (.cells #[.string ⟨#[]⟩,.string ⟨#[]⟩,.slice none 0 0,.int .i64 0] 27)):=below_t (below_alloc _ _) (below_alloc _ _)
 have hB0:=hB.below hb0
 have HSD:=Lib.hid (sides2 (o:=o) (nm':=nm') (cap:=cap) (p':=p') (a:=va) (b:=vb) ((w.alloc (.cells #[.string o,.string nm',.slice (some ⟨g,0,none⟩) 2 cap,.int .i64 p'] 27)).alloc (.cells #[.string ⟨#[]⟩,.string ⟨#[]⟩,.slice none 0 0,.int .i64 0] 27)) hB0.lt (hB0.cell 0) (hB0.cell 1) (hB0.cell 2) (hB0.cell 3) (hB0.cell 4) (hB0.cell 5) (hB0.cell 6) (hB0.cell 7))
 have HR0:=Lib.hid (show Bx ((w.alloc (.cells #[.string o,.string nm',.slice (some ⟨g,0,none⟩) 2 cap,.int .i64 p'] 27)).alloc (.cells #[.string ⟨#[]⟩,.string ⟨#[]⟩,.slice none 0 0,.int .i64 0] 27)) (w.heap.size+1) 27 fz from Bx.newAt (by simp) 27 fz)
 have HB0:=Lib.hid hb0
 clear hb0 hB0 hB fa fb oa ob
 go_enter Tryz.func97,Tryz.ntmps97
 go_wp2_with fail
 with_reducible refine(HSD.out).mono ?_
 rintro e w2 ⟨rfl,hb2⟩
 have hbk:Below w.heap.size w ((w2.alloc (.cells #[.string va.o,.string va.nm,.slice va.A va.ll va.cap,.int .i64 va.p] 27)).alloc (.cells #[.string vb.o,.string vb.nm,.slice vb.A vb.ll vb.cap,.int .i64 vb.p] 27)):=below_t (below_t HB0.out hb2) (below_t (below_alloc _ _) (below_alloc _ _))
 have hres:=(HR0.out.below hb2).below (below_t (below_alloc w2 (.cells #[.string va.o,.string va.nm,.slice va.A va.ll va.cap,.int .i64 va.p] 27)) (below_alloc _ (.cells #[.string vb.o,.string vb.nm,.slice vb.A vb.ll vb.cap,.int .i64 vb.p] 27)))
 have hz2:w.heap.size+1<w2.heap.size:=(HR0.out.below hb2).lt
 have HBK:=Lib.hid hbk
 have HRS:=Lib.hid hres
 clear hb2 hbk hres
 obtain⟨f0,f1,f2,f3⟩:=(HRS.out).frozen4
 obtain⟨z0,z1,z2,z3⟩:=(HRS.out).cells4
 have hl:=(HRS.out).lt
 obtain⟨y0,y1,y2,y3⟩:=(Bx.set4 (x0:=.string vb.o) (x1:=.string vb.nm) (x2:=.slice vb.A vb.ll vb.cap) (x3:=.int .i64 vb.p) (HRS.out)).cells4
 have HB9:=Lib.hid (below_set4 (x0:=.string vb.o) (x1:=.string vb.nm) (x2:=.slice vb.A vb.ll vb.cap) (x3:=.int .i64 vb.p) (HBK.out) (q:=w.heap.size+1) (Nat.le_succ _))
 go_wp2
 refine bodyPost_ret (v:=.agg #[.string vb.o,.string vb.nm,.slice vb.A vb.ll vb.cap,.int .i64 vb.p]) (by simp[results,Tryz.results97,go_sem,y0,y1,y2,y3]) rfl ⟨rfl,HB9.out⟩
theorem jn_and2{xa xb:Fo}{va vb:FV}{S:Nat->Prop}{g:Nat}{o nm':ByteArray}{cap:Nat}{p':Int}(w:World)(hB:Bx w g 27 (va.c++vb.c))(fa:FS w 27 S xa va.c)(fb:FS w 27 S xb vb.c)(h0:(xa.op=opTrue)=False)(h1:(xb.op=opFalse)=False)(h2:(xb.op=opTrue)=True):
 Calls Tryz.prog 97 #[.agg #[.string o,.string nm',.slice (some ⟨g,0,none⟩) 2 cap,.int .i64 p'],.string ⟨#[116,114,117,101]⟩,.string ⟨#[102,97,108,115,101]⟩] w (fun e w'=>e= .returned (.agg #[.string va.o,.string va.nm,.slice va.A va.ll va.cap,.int .i64 va.p])/\Below w.heap.size w w'):=by
 have oa:=hopF fa
 have ob:=hopF fb
 have g0:(va.o.toList==[116,114,117,101])=false:=by rw[oa];exact beq_eq_false_iff_ne.2 (of_eq_false h0)
 have g1:(vb.o.toList==[102,97,108,115,101])=false:=by rw[ob];exact beq_eq_false_iff_ne.2 (of_eq_false h1)
 have g2:(vb.o.toList==[116,114,117,101])=true:=by rw[ob];exact beq_iff_eq.2 (of_eq_true h2)
 have hb0:Below w.heap.size w ((w.alloc (.cells #[.string o,.string nm',.slice (some ⟨g,0,none⟩) 2 cap,.int .i64 p'] 27)).alloc (.cells #[.string ⟨#[]⟩,.string ⟨#[]⟩,.slice none 0 0,.int .i64 0] 27)):=below_t (below_alloc _ _) (below_alloc _ _)
 have hB0:=hB.below hb0
 have HSD:=Lib.hid (sides2 (o:=o) (nm':=nm') (cap:=cap) (p':=p') (a:=va) (b:=vb) ((w.alloc (.cells #[.string o,.string nm',.slice (some ⟨g,0,none⟩) 2 cap,.int .i64 p'] 27)).alloc (.cells #[.string ⟨#[]⟩,.string ⟨#[]⟩,.slice none 0 0,.int .i64 0] 27)) hB0.lt (hB0.cell 0) (hB0.cell 1) (hB0.cell 2) (hB0.cell 3) (hB0.cell 4) (hB0.cell 5) (hB0.cell 6) (hB0.cell 7))
 have HR0:=Lib.hid (show Bx ((w.alloc (.cells #[.string o,.string nm',.slice (some ⟨g,0,none⟩) 2 cap,.int .i64 p'] 27)).alloc (.cells #[.string ⟨#[]⟩,.string ⟨#[]⟩,.slice none 0 0,.int .i64 0] 27)) (w.heap.size+1) 27 fz from Bx.newAt (by simp) 27 fz)
 have HB0:=Lib.hid hb0
 clear hb0 hB0 hB fa fb oa ob
 go_enter Tryz.func97,Tryz.ntmps97
 go_wp2_with fail
 with_reducible refine(HSD.out).mono ?_
 rintro e w2 ⟨rfl,hb2⟩
 have hbk:Below w.heap.size w ((w2.alloc (.cells #[.string va.o,.string va.nm,.slice va.A va.ll va.cap,.int .i64 va.p] 27)).alloc (.cells #[.string vb.o,.string vb.nm,.slice vb.A vb.ll vb.cap,.int .i64 vb.p] 27)):=below_t (below_t HB0.out hb2) (below_t (below_alloc _ _) (below_alloc _ _))
 have hres:=(HR0.out.below hb2).below (below_t (below_alloc w2 (.cells #[.string va.o,.string va.nm,.slice va.A va.ll va.cap,.int .i64 va.p] 27)) (below_alloc _ (.cells #[.string vb.o,.string vb.nm,.slice vb.A vb.ll vb.cap,.int .i64 vb.p] 27)))
 have hz2:w.heap.size+1<w2.heap.size:=(HR0.out.below hb2).lt
 have HBK:=Lib.hid hbk
 have HRS:=Lib.hid hres
 clear hb2 hbk hres
 obtain⟨f0,f1,f2,f3⟩:=(HRS.out).frozen4
 obtain⟨z0,z1,z2,z3⟩:=(HRS.out).cells4
 have hl:=(HRS.out).lt
 obtain⟨y0,y1,y2,y3⟩:=(Bx.set4 (x0:=.string va.o) (x1:=.string va.nm) (x2:=.slice va.A va.ll va.cap) (x3:=.int .i64 va.p) (HRS.out)).cells4
 have HB9:=Lib.hid (below_set4 (x0:=.string va.o) (x1:=.string va.nm) (x2:=.slice va.A va.ll va.cap) (x3:=.int .i64 va.p) (HBK.out) (q:=w.heap.size+1) (Nat.le_succ _))
 go_wp2
 refine bodyPost_ret (v:=.agg #[.string va.o,.string va.nm,.slice va.A va.ll va.cap,.int .i64 va.p]) (by simp[results,Tryz.results97,go_sem,y0,y1,y2,y3]) rfl ⟨rfl,HB9.out⟩
theorem jn_and3{xa xb:Fo}{va vb:FV}{S:Nat->Prop}{g:Nat}{o nm':ByteArray}{cap:Nat}{p':Int}(w:World)(hB:Bx w g 27 (va.c++vb.c))(fa:FS w 27 S xa va.c)(fb:FS w 27 S xb vb.c)(h0:(xa.op=opTrue)=False)(h1:(xb.op=opFalse)=False)(h2:(xb.op=opTrue)=False)(h3:(xa.op=opFalse)=True):
 Calls Tryz.prog 97 #[.agg #[.string o,.string nm',.slice (some ⟨g,0,none⟩) 2 cap,.int .i64 p'],.string ⟨#[116,114,117,101]⟩,.string ⟨#[102,97,108,115,101]⟩] w (fun e w'=>e= .returned (.agg #[.string va.o,.string va.nm,.slice va.A va.ll va.cap,.int .i64 va.p])/\Below w.heap.size w w'):=by
 have oa:=hopF fa
 have ob:=hopF fb
 have g0:(va.o.toList==[116,114,117,101])=false:=by rw[oa];exact beq_eq_false_iff_ne.2 (of_eq_false h0)
 have g1:(vb.o.toList==[102,97,108,115,101])=false:=by rw[ob];exact beq_eq_false_iff_ne.2 (of_eq_false h1)
 have g2:(vb.o.toList==[116,114,117,101])=false:=by rw[ob];exact beq_eq_false_iff_ne.2 (of_eq_false h2)
 have g3:(va.o.toList==[102,97,108,115,101])=true:=by rw[oa];exact beq_iff_eq.2 (of_eq_true h3)
 have hb0:Below w.heap.size w ((w.alloc (.cells #[.string o,.string nm',.slice (some ⟨g,0,none⟩) 2 cap,.int .i64 p'] 27)).alloc (.cells #[.string ⟨#[]⟩,.string ⟨#[]⟩,.slice none 0 0,.int .i64 0] 27)):=below_t (below_alloc _ _) (below_alloc _ _)
 have hB0:=hB.below hb0
 have HSD:=Lib.hid (sides2 (o:=o) (nm':=nm') (cap:=cap) (p':=p') (a:=va) (b:=vb) ((w.alloc (.cells #[.string o,.string nm',.slice (some ⟨g,0,none⟩) 2 cap,.int .i64 p'] 27)).alloc (.cells #[.string ⟨#[]⟩,.string ⟨#[]⟩,.slice none 0 0,.int .i64 0] 27)) hB0.lt (hB0.cell 0) (hB0.cell 1) (hB0.cell 2) (hB0.cell 3) (hB0.cell 4) (hB0.cell 5) (hB0.cell 6) (hB0.cell 7))
 have HR0:=Lib.hid (show Bx ((w.alloc (.cells #[.string o,.string nm',.slice (some ⟨g,0,none⟩) 2 cap,.int .i64 p'] 27)).alloc (.cells #[.string ⟨#[]⟩,.string ⟨#[]⟩,.slice none 0 0,.int .i64 0] 27)) (w.heap.size+1) 27 fz from Bx.newAt (by simp) 27 fz)
 have HB0:=Lib.hid hb0
 clear hb0 hB0 hB fa fb oa ob
 go_enter Tryz.func97,Tryz.ntmps97
 go_wp2_with fail
 with_reducible refine(HSD.out).mono ?_
 rintro e w2 ⟨rfl,hb2⟩
 have hbk:Below w.heap.size w ((w2.alloc (.cells #[.string va.o,.string va.nm,.slice va.A va.ll va.cap,.int .i64 va.p] 27)).alloc (.cells #[.string vb.o,.string vb.nm,.slice vb.A vb.ll vb.cap,.int .i64 vb.p] 27)):=below_t (below_t HB0.out hb2) (below_t (below_alloc _ _) (below_alloc _ _))
 have hres:=(HR0.out.below hb2).below (below_t (below_alloc w2 (.cells #[.string va.o,.string va.nm,.slice va.A va.ll va.cap,.int .i64 va.p] 27)) (below_alloc _ (.cells #[.string vb.o,.string vb.nm,.slice vb.A vb.ll vb.cap,.int .i64 vb.p] 27)))
 have hz2:w.heap.size+1<w2.heap.size:=(HR0.out.below hb2).lt
 have HBK:=Lib.hid hbk
 have HRS:=Lib.hid hres
 clear hb2 hbk hres
 obtain⟨f0,f1,f2,f3⟩:=(HRS.out).frozen4
 obtain⟨z0,z1,z2,z3⟩:=(HRS.out).cells4
 have hl:=(HRS.out).lt
 obtain⟨y0,y1,y2,y3⟩:=(Bx.set4 (x0:=.string va.o) (x1:=.string va.nm) (x2:=.slice va.A va.ll va.cap) (x3:=.int .i64 va.p) (HRS.out)).cells4
 have HB9:=Lib.hid (below_set4 (x0:=.string va.o) (x1:=.string va.nm) (x2:=.slice va.A va.ll va.cap) (x3:=.int .i64 va.p) (HBK.out) (q:=w.heap.size+1) (Nat.le_succ _))
 go_wp2
 refine bodyPost_ret (v:=.agg #[.string va.o,.string va.nm,.slice va.A va.ll va.cap,.int .i64 va.p]) (by simp[results,Tryz.results97,go_sem,y0,y1,y2,y3]) rfl ⟨rfl,HB9.out⟩
theorem jn_and4{xa xb:Fo}{va vb:FV}{S:Nat->Prop}{g:Nat}{o nm':ByteArray}{cap:Nat}{p':Int}(w:World)(hB:Bx w g 27 (va.c++vb.c))(fa:FS w 27 S xa va.c)(fb:FS w 27 S xb vb.c)(h0:(xa.op=opTrue)=False)(h1:(xb.op=opFalse)=False)(h2:(xb.op=opTrue)=False)(h3:(xa.op=opFalse)=False)(h4:same xa xb=true):
 Calls Tryz.prog 97 #[.agg #[.string o,.string nm',.slice (some ⟨g,0,none⟩) 2 cap,.int .i64 p'],.string ⟨#[116,114,117,101]⟩,.string ⟨#[102,97,108,115,101]⟩] w (fun e w'=>e= .returned (.agg #[.string va.o,.string va.nm,.slice va.A va.ll va.cap,.int .i64 va.p])/\Below w.heap.size w w'):=by
 have oa:=hopF fa
 have ob:=hopF fb
 have g0:(va.o.toList==[116,114,117,101])=false:=by rw[oa];exact beq_eq_false_iff_ne.2 (of_eq_false h0)
 have g1:(vb.o.toList==[102,97,108,115,101])=false:=by rw[ob];exact beq_eq_false_iff_ne.2 (of_eq_false h1)
 have g2:(vb.o.toList==[116,114,117,101])=false:=by rw[ob];exact beq_eq_false_iff_ne.2 (of_eq_false h2)
 have g3:(va.o.toList==[102,97,108,115,101])=false:=by rw[oa];exact beq_eq_false_iff_ne.2 (of_eq_false h3)
 have hb0:Below w.heap.size w ((w.alloc (.cells #[.string o,.string nm',.slice (some ⟨g,0,none⟩) 2 cap,.int .i64 p'] 27)).alloc (.cells #[.string ⟨#[]⟩,.string ⟨#[]⟩,.slice none 0 0,.int .i64 0] 27)):=below_t (below_alloc _ _) (below_alloc _ _)
 have hB0:=hB.below hb0
 have HSD:=Lib.hid (sides2 (o:=o) (nm':=nm') (cap:=cap) (p':=p') (a:=va) (b:=vb) ((w.alloc (.cells #[.string o,.string nm',.slice (some ⟨g,0,none⟩) 2 cap,.int .i64 p'] 27)).alloc (.cells #[.string ⟨#[]⟩,.string ⟨#[]⟩,.slice none 0 0,.int .i64 0] 27)) hB0.lt (hB0.cell 0) (hB0.cell 1) (hB0.cell 2) (hB0.cell 3) (hB0.cell 4) (hB0.cell 5) (hB0.cell 6) (hB0.cell 7))
 have HR0:=Lib.hid (show Bx ((w.alloc (.cells #[.string o,.string nm',.slice (some ⟨g,0,none⟩) 2 cap,.int .i64 p'] 27)).alloc (.cells #[.string ⟨#[]⟩,.string ⟨#[]⟩,.slice none 0 0,.int .i64 0] 27)) (w.heap.size+1) 27 fz from Bx.newAt (by simp) 27 fz)
 have HB0:=Lib.hid hb0
 have HSM:=Lib.hid (fun(W:World) (hb:Below w.heap.size w W)=>psame_any (x:=xa) (y:=xb) (v:=va) (u:=vb) W (fa.below hb) (fb.below hb))
 rw[h4]at HSM
 clear hb0 hB0 hB fa fb oa ob
 go_enter Tryz.func97,Tryz.ntmps97
 go_wp2_with fail
 with_reducible refine(HSD.out).mono ?_
 rintro e w2 ⟨rfl,hb2⟩
 have hbk:Below w.heap.size w ((w2.alloc (.cells #[.string va.o,.string va.nm,.slice va.A va.ll va.cap,.int .i64 va.p] 27)).alloc (.cells #[.string vb.o,.string vb.nm,.slice vb.A vb.ll vb.cap,.int .i64 vb.p] 27)):=below_t (below_t HB0.out hb2) (below_t (below_alloc _ _) (below_alloc _ _))
 have hres:=(HR0.out.below hb2).below (below_t (below_alloc w2 (.cells #[.string va.o,.string va.nm,.slice va.A va.ll va.cap,.int .i64 va.p] 27)) (below_alloc _ (.cells #[.string vb.o,.string vb.nm,.slice vb.A vb.ll vb.cap,.int .i64 vb.p] 27)))
 have hz2:w.heap.size+1<w2.heap.size:=(HR0.out.below hb2).lt
 have HBK:=Lib.hid hbk
 have HRS:=Lib.hid hres
 clear hb2 hbk hres
 go_wp2_with fail
 with_reducible refine(HSM.out _ HBK.out).mono ?_
 rintro e w5 ⟨rfl,hb5⟩
 have HR5:=Lib.hid (HRS.out.below hb5)
 have HB5:=Lib.hid (below_t HBK.out hb5)
 obtain⟨k0,k1,k2,k3⟩:=Bx.cells4 (show Bx w5 w2.heap.size 27 [.string va.o,.string va.nm,.slice va.A va.ll va.cap,.int .i64 va.p]from(((Bx.new w2 27 [.string va.o,.string va.nm,.slice va.A va.ll va.cap,.int .i64 va.p]).alloc _).below hb5))
 clear hb5
 obtain⟨f0,f1,f2,f3⟩:=(HR5.out).frozen4
 obtain⟨z0,z1,z2,z3⟩:=(HR5.out).cells4
 have hl:=(HR5.out).lt
 obtain⟨y0,y1,y2,y3⟩:=(Bx.set4 (x0:=.string va.o) (x1:=.string va.nm) (x2:=.slice va.A va.ll va.cap) (x3:=.int .i64 va.p) (HR5.out)).cells4
 have HB9:=Lib.hid (below_set4 (x0:=.string va.o) (x1:=.string va.nm) (x2:=.slice va.A va.ll va.cap) (x3:=.int .i64 va.p) (HB5.out) (q:=w.heap.size+1) (Nat.le_succ _))
 go_wp2
 refine bodyPost_ret (v:=.agg #[.string va.o,.string va.nm,.slice va.A va.ll va.cap,.int .i64 va.p]) (by simp[results,Tryz.results97,go_sem,y0,y1,y2,y3]) rfl ⟨rfl,HB9.out⟩
theorem jn_and5{xa xb:Fo}{va vb:FV}{S:Nat->Prop}{g:Nat}{o nm':ByteArray}{cap:Nat}{p':Int}(w:World)(hB:Bx w g 27 (va.c++vb.c))(fa:FS w 27 S xa va.c)(fb:FS w 27 S xb vb.c)(h0:(xa.op=opTrue)=False)(h1:(xb.op=opFalse)=False)(h2:(xb.op=opTrue)=False)(h3:(xa.op=opFalse)=False)(h4:same xa xb=false):
 Calls Tryz.prog 97 #[.agg #[.string o,.string nm',.slice (some ⟨g,0,none⟩) 2 cap,.int .i64 p'],.string ⟨#[116,114,117,101]⟩,.string ⟨#[102,97,108,115,101]⟩] w (fun e w'=>e= .returned (.agg #[.string o,.string nm',.slice (some ⟨g,0,none⟩) 2 cap,.int .i64 p'])/\Below w.heap.size w w'):=by
 have oa:=hopF fa
 have ob:=hopF fb
 have g0:(va.o.toList==[116,114,117,101])=false:=by rw[oa];exact beq_eq_false_iff_ne.2 (of_eq_false h0)
 have g1:(vb.o.toList==[102,97,108,115,101])=false:=by rw[ob];exact beq_eq_false_iff_ne.2 (of_eq_false h1)
 have g2:(vb.o.toList==[116,114,117,101])=false:=by rw[ob];exact beq_eq_false_iff_ne.2 (of_eq_false h2)
 have g3:(va.o.toList==[102,97,108,115,101])=false:=by rw[oa];exact beq_eq_false_iff_ne.2 (of_eq_false h3)
 have hb0:Below w.heap.size w ((w.alloc (.cells #[.string o,.string nm',.slice (some ⟨g,0,none⟩) 2 cap,.int .i64 p'] 27)).alloc (.cells #[.string ⟨#[]⟩,.string ⟨#[]⟩,.slice none 0 0,.int .i64 0] 27)):=below_t (below_alloc _ _) (below_alloc _ _)
 have hB0:=hB.below hb0
 have HSD:=Lib.hid (sides2 (o:=o) (nm':=nm') (cap:=cap) (p':=p') (a:=va) (b:=vb) ((w.alloc (.cells #[.string o,.string nm',.slice (some ⟨g,0,none⟩) 2 cap,.int .i64 p'] 27)).alloc (.cells #[.string ⟨#[]⟩,.string ⟨#[]⟩,.slice none 0 0,.int .i64 0] 27)) hB0.lt (hB0.cell 0) (hB0.cell 1) (hB0.cell 2) (hB0.cell 3) (hB0.cell 4) (hB0.cell 5) (hB0.cell 6) (hB0.cell 7))
 have HR0:=Lib.hid (show Bx ((w.alloc (.cells #[.string o,.string nm',.slice (some ⟨g,0,none⟩) 2 cap,.int .i64 p'] 27)).alloc (.cells #[.string ⟨#[]⟩,.string ⟨#[]⟩,.slice none 0 0,.int .i64 0] 27)) (w.heap.size+1) 27 fz from Bx.newAt (by simp) 27 fz)
 have HB0:=Lib.hid hb0
 have HSM:=Lib.hid (fun(W:World) (hb:Below w.heap.size w W)=>psame_any (x:=xa) (y:=xb) (v:=va) (u:=vb) W (fa.below hb) (fb.below hb))
 rw[h4]at HSM
 clear hb0 hB0 hB fa fb oa ob
 go_enter Tryz.func97,Tryz.ntmps97
 go_wp2_with fail
 with_reducible refine(HSD.out).mono ?_
 rintro e w2 ⟨rfl,hb2⟩
 have hbk:Below w.heap.size w ((w2.alloc (.cells #[.string va.o,.string va.nm,.slice va.A va.ll va.cap,.int .i64 va.p] 27)).alloc (.cells #[.string vb.o,.string vb.nm,.slice vb.A vb.ll vb.cap,.int .i64 vb.p] 27)):=below_t (below_t HB0.out hb2) (below_t (below_alloc _ _) (below_alloc _ _))
 have hres:=(HR0.out.below hb2).below (below_t (below_alloc w2 (.cells #[.string va.o,.string va.nm,.slice va.A va.ll va.cap,.int .i64 va.p] 27)) (below_alloc _ (.cells #[.string vb.o,.string vb.nm,.slice vb.A vb.ll vb.cap,.int .i64 vb.p] 27)))
 have hz2:w.heap.size+1<w2.heap.size:=(HR0.out.below hb2).lt
 have HBK:=Lib.hid hbk
 have HRS:=Lib.hid hres
 obtain⟨k0,k1,k2,k3⟩:=Bx.cells4 (show Bx ((w2.alloc (.cells #[.string va.o,.string va.nm,.slice va.A va.ll va.cap,.int .i64 va.p] 27)).alloc (.cells #[.string vb.o,.string vb.nm,.slice vb.A vb.ll vb.cap,.int .i64 vb.p] 27)) w.heap.size 27 [.string o,.string nm',.slice (some ⟨g,0,none⟩) 2 cap,.int .i64 p']from((((Bx.new w 27 [.string o,.string nm',.slice (some ⟨g,0,none⟩) 2 cap,.int .i64 p']).alloc _).below hb2).alloc _).alloc _)
 clear hb2 hbk hres
 go_wp2_with fail
 with_reducible refine(HSM.out _ HBK.out).mono ?_
 rintro e w5 ⟨rfl,hb5⟩
 have HR5:=Lib.hid (HRS.out.below hb5)
 have HB5:=Lib.hid (below_t HBK.out hb5)
 replace k0:=(hb5.cell (p:=⟨w.heap.size,0,none⟩) (show w.heap.size<_ from Nat.lt_of_succ_lt HRS.out.lt)).trans k0
 replace k1:=(hb5.cell (p:=⟨w.heap.size,1,none⟩) (show w.heap.size<_ from Nat.lt_of_succ_lt HRS.out.lt)).trans k1
 replace k2:=(hb5.cell (p:=⟨w.heap.size,2,none⟩) (show w.heap.size<_ from Nat.lt_of_succ_lt HRS.out.lt)).trans k2
 replace k3:=(hb5.cell (p:=⟨w.heap.size,3,none⟩) (show w.heap.size<_ from Nat.lt_of_succ_lt HRS.out.lt)).trans k3
 clear hb5
 obtain⟨f0,f1,f2,f3⟩:=(HR5.out).frozen4
 obtain⟨z0,z1,z2,z3⟩:=(HR5.out).cells4
 have hl:=(HR5.out).lt
 obtain⟨y0,y1,y2,y3⟩:=(Bx.set4 (x0:=.string o) (x1:=.string nm') (x2:=.slice (some ⟨g,0,none⟩) 2 cap) (x3:=.int .i64 p') (HR5.out)).cells4
 have HB9:=Lib.hid (below_set4 (x0:=.string o) (x1:=.string nm') (x2:=.slice (some ⟨g,0,none⟩) 2 cap) (x3:=.int .i64 p') (HB5.out) (q:=w.heap.size+1) (Nat.le_succ _))
 go_wp2
 refine bodyPost_ret (v:=.agg #[.string o,.string nm',.slice (some ⟨g,0,none⟩) 2 cap,.int .i64 p']) (by simp[results,Tryz.results97,go_sem,y0,y1,y2,y3]) rfl ⟨rfl,HB9.out⟩
theorem jn_or0{xa xb:Fo}{va vb:FV}{S:Nat->Prop}{g:Nat}{o nm':ByteArray}{cap:Nat}{p':Int}(w:World)(hB:Bx w g 27 (va.c++vb.c))(fa:FS w 27 S xa va.c)(fb:FS w 27 S xb vb.c)(h0:(xa.op=opFalse)=True):
 Calls Tryz.prog 97 #[.agg #[.string o,.string nm',.slice (some ⟨g,0,none⟩) 2 cap,.int .i64 p'],.string ⟨#[102,97,108,115,101]⟩,.string ⟨#[116,114,117,101]⟩] w (fun e w'=>e= .returned (.agg #[.string vb.o,.string vb.nm,.slice vb.A vb.ll vb.cap,.int .i64 vb.p])/\Below w.heap.size w w'):=by
 have oa:=hopF fa
 have ob:=hopF fb
 have g0:(va.o.toList==[102,97,108,115,101])=true:=by rw[oa];exact beq_iff_eq.2 (of_eq_true h0)
 have hb0:Below w.heap.size w ((w.alloc (.cells #[.string o,.string nm',.slice (some ⟨g,0,none⟩) 2 cap,.int .i64 p'] 27)).alloc (.cells #[.string ⟨#[]⟩,.string ⟨#[]⟩,.slice none 0 0,.int .i64 0] 27)):=below_t (below_alloc _ _) (below_alloc _ _)
 have hB0:=hB.below hb0
 have HSD:=Lib.hid (sides2 (o:=o) (nm':=nm') (cap:=cap) (p':=p') (a:=va) (b:=vb) ((w.alloc (.cells #[.string o,.string nm',.slice (some ⟨g,0,none⟩) 2 cap,.int .i64 p'] 27)).alloc (.cells #[.string ⟨#[]⟩,.string ⟨#[]⟩,.slice none 0 0,.int .i64 0] 27)) hB0.lt (hB0.cell 0) (hB0.cell 1) (hB0.cell 2) (hB0.cell 3) (hB0.cell 4) (hB0.cell 5) (hB0.cell 6) (hB0.cell 7))
 have HR0:=Lib.hid (show Bx ((w.alloc (.cells #[.string o,.string nm',.slice (some ⟨g,0,none⟩) 2 cap,.int .i64 p'] 27)).alloc (.cells #[.string ⟨#[]⟩,.string ⟨#[]⟩,.slice none 0 0,.int .i64 0] 27)) (w.heap.size+1) 27 fz from Bx.newAt (by simp) 27 fz)
 have HB0:=Lib.hid hb0
 clear hb0 hB0 hB fa fb oa ob
 go_enter Tryz.func97,Tryz.ntmps97
 go_wp2_with fail
 with_reducible refine(HSD.out).mono ?_
 rintro e w2 ⟨rfl,hb2⟩
 have hbk:Below w.heap.size w ((w2.alloc (.cells #[.string va.o,.string va.nm,.slice va.A va.ll va.cap,.int .i64 va.p] 27)).alloc (.cells #[.string vb.o,.string vb.nm,.slice vb.A vb.ll vb.cap,.int .i64 vb.p] 27)):=below_t (below_t HB0.out hb2) (below_t (below_alloc _ _) (below_alloc _ _))
 have hres:=(HR0.out.below hb2).below (below_t (below_alloc w2 (.cells #[.string va.o,.string va.nm,.slice va.A va.ll va.cap,.int .i64 va.p] 27)) (below_alloc _ (.cells #[.string vb.o,.string vb.nm,.slice vb.A vb.ll vb.cap,.int .i64 vb.p] 27)))
 have hz2:w.heap.size+1<w2.heap.size:=(HR0.out.below hb2).lt
 have HBK:=Lib.hid hbk
 have HRS:=Lib.hid hres
 clear hb2 hbk hres
 obtain⟨f0,f1,f2,f3⟩:=(HRS.out).frozen4
 obtain⟨z0,z1,z2,z3⟩:=(HRS.out).cells4
 have hl:=(HRS.out).lt
 obtain⟨y0,y1,y2,y3⟩:=(Bx.set4 (x0:=.string vb.o) (x1:=.string vb.nm) (x2:=.slice vb.A vb.ll vb.cap) (x3:=.int .i64 vb.p) (HRS.out)).cells4
 have HB9:=Lib.hid (below_set4 (x0:=.string vb.o) (x1:=.string vb.nm) (x2:=.slice vb.A vb.ll vb.cap) (x3:=.int .i64 vb.p) (HBK.out) (q:=w.heap.size+1) (Nat.le_succ _))
 go_wp2
 refine bodyPost_ret (v:=.agg #[.string vb.o,.string vb.nm,.slice vb.A vb.ll vb.cap,.int .i64 vb.p]) (by simp[results,Tryz.results97,go_sem,y0,y1,y2,y3]) rfl ⟨rfl,HB9.out⟩
theorem jn_or1{xa xb:Fo}{va vb:FV}{S:Nat->Prop}{g:Nat}{o nm':ByteArray}{cap:Nat}{p':Int}(w:World)(hB:Bx w g 27 (va.c++vb.c))(fa:FS w 27 S xa va.c)(fb:FS w 27 S xb vb.c)(h0:(xa.op=opFalse)=False)(h1:(xb.op=opTrue)=True):
 Calls Tryz.prog 97 #[.agg #[.string o,.string nm',.slice (some ⟨g,0,none⟩) 2 cap,.int .i64 p'],.string ⟨#[102,97,108,115,101]⟩,.string ⟨#[116,114,117,101]⟩] w (fun e w'=>e= .returned (.agg #[.string vb.o,.string vb.nm,.slice vb.A vb.ll vb.cap,.int .i64 vb.p])/\Below w.heap.size w w'):=by
 have oa:=hopF fa
 have ob:=hopF fb
 have g0:(va.o.toList==[102,97,108,115,101])=false:=by rw[oa];exact beq_eq_false_iff_ne.2 (of_eq_false h0)
 have g1:(vb.o.toList==[116,114,117,101])=true:=by rw[ob];exact beq_iff_eq.2 (of_eq_true h1)
 have hb0:Below w.heap.size w ((w.alloc (.cells #[.string o,.string nm',.slice (some ⟨g,0,none⟩) 2 cap,.int .i64 p'] 27)).alloc (.cells #[.string ⟨#[]⟩,.string ⟨#[]⟩,.slice none 0 0,.int .i64 0] 27)):=below_t (below_alloc _ _) (below_alloc _ _)
 have hB0:=hB.below hb0
 have HSD:=Lib.hid (sides2 (o:=o) (nm':=nm') (cap:=cap) (p':=p') (a:=va) (b:=vb) ((w.alloc (.cells #[.string o,.string nm',.slice (some ⟨g,0,none⟩) 2 cap,.int .i64 p'] 27)).alloc (.cells #[.string ⟨#[]⟩,.string ⟨#[]⟩,.slice none 0 0,.int .i64 0] 27)) hB0.lt (hB0.cell 0) (hB0.cell 1) (hB0.cell 2) (hB0.cell 3) (hB0.cell 4) (hB0.cell 5) (hB0.cell 6) (hB0.cell 7))
 have HR0:=Lib.hid (show Bx ((w.alloc (.cells #[.string o,.string nm',.slice (some ⟨g,0,none⟩) 2 cap,.int .i64 p'] 27)).alloc (.cells #[.string ⟨#[]⟩,.string ⟨#[]⟩,.slice none 0 0,.int .i64 0] 27)) (w.heap.size+1) 27 fz from Bx.newAt (by simp) 27 fz)
 have HB0:=Lib.hid hb0
 clear hb0 hB0 hB fa fb oa ob
 go_enter Tryz.func97,Tryz.ntmps97
 go_wp2_with fail
 with_reducible refine(HSD.out).mono ?_
 rintro e w2 ⟨rfl,hb2⟩
 have hbk:Below w.heap.size w ((w2.alloc (.cells #[.string va.o,.string va.nm,.slice va.A va.ll va.cap,.int .i64 va.p] 27)).alloc (.cells #[.string vb.o,.string vb.nm,.slice vb.A vb.ll vb.cap,.int .i64 vb.p] 27)):=below_t (below_t HB0.out hb2) (below_t (below_alloc _ _) (below_alloc _ _))
 have hres:=(HR0.out.below hb2).below (below_t (below_alloc w2 (.cells #[.string va.o,.string va.nm,.slice va.A va.ll va.cap,.int .i64 va.p] 27)) (below_alloc _ (.cells #[.string vb.o,.string vb.nm,.slice vb.A vb.ll vb.cap,.int .i64 vb.p] 27)))
 have hz2:w.heap.size+1<w2.heap.size:=(HR0.out.below hb2).lt
 have HBK:=Lib.hid hbk
 have HRS:=Lib.hid hres
 clear hb2 hbk hres
 obtain⟨f0,f1,f2,f3⟩:=(HRS.out).frozen4
 obtain⟨z0,z1,z2,z3⟩:=(HRS.out).cells4
 have hl:=(HRS.out).lt
 obtain⟨y0,y1,y2,y3⟩:=(Bx.set4 (x0:=.string vb.o) (x1:=.string vb.nm) (x2:=.slice vb.A vb.ll vb.cap) (x3:=.int .i64 vb.p) (HRS.out)).cells4
 have HB9:=Lib.hid (below_set4 (x0:=.string vb.o) (x1:=.string vb.nm) (x2:=.slice vb.A vb.ll vb.cap) (x3:=.int .i64 vb.p) (HBK.out) (q:=w.heap.size+1) (Nat.le_succ _))
 go_wp2
 refine bodyPost_ret (v:=.agg #[.string vb.o,.string vb.nm,.slice vb.A vb.ll vb.cap,.int .i64 vb.p]) (by simp[results,Tryz.results97,go_sem,y0,y1,y2,y3]) rfl ⟨rfl,HB9.out⟩
theorem jn_or2{xa xb:Fo}{va vb:FV}{S:Nat->Prop}{g:Nat}{o nm':ByteArray}{cap:Nat}{p':Int}(w:World)(hB:Bx w g 27 (va.c++vb.c))(fa:FS w 27 S xa va.c)(fb:FS w 27 S xb vb.c)(h0:(xa.op=opFalse)=False)(h1:(xb.op=opTrue)=False)(h2:(xb.op=opFalse)=True):
 Calls Tryz.prog 97 #[.agg #[.string o,.string nm',.slice (some ⟨g,0,none⟩) 2 cap,.int .i64 p'],.string ⟨#[102,97,108,115,101]⟩,.string ⟨#[116,114,117,101]⟩] w (fun e w'=>e= .returned (.agg #[.string va.o,.string va.nm,.slice va.A va.ll va.cap,.int .i64 va.p])/\Below w.heap.size w w'):=by
 have oa:=hopF fa
 have ob:=hopF fb
 have g0:(va.o.toList==[102,97,108,115,101])=false:=by rw[oa];exact beq_eq_false_iff_ne.2 (of_eq_false h0)
 have g1:(vb.o.toList==[116,114,117,101])=false:=by rw[ob];exact beq_eq_false_iff_ne.2 (of_eq_false h1)
 have g2:(vb.o.toList==[102,97,108,115,101])=true:=by rw[ob];exact beq_iff_eq.2 (of_eq_true h2)
 have hb0:Below w.heap.size w ((w.alloc (.cells #[.string o,.string nm',.slice (some ⟨g,0,none⟩) 2 cap,.int .i64 p'] 27)).alloc (.cells #[.string ⟨#[]⟩,.string ⟨#[]⟩,.slice none 0 0,.int .i64 0] 27)):=below_t (below_alloc _ _) (below_alloc _ _)
 have hB0:=hB.below hb0
 have HSD:=Lib.hid (sides2 (o:=o) (nm':=nm') (cap:=cap) (p':=p') (a:=va) (b:=vb) ((w.alloc (.cells #[.string o,.string nm',.slice (some ⟨g,0,none⟩) 2 cap,.int .i64 p'] 27)).alloc (.cells #[.string ⟨#[]⟩,.string ⟨#[]⟩,.slice none 0 0,.int .i64 0] 27)) hB0.lt (hB0.cell 0) (hB0.cell 1) (hB0.cell 2) (hB0.cell 3) (hB0.cell 4) (hB0.cell 5) (hB0.cell 6) (hB0.cell 7))
 have HR0:=Lib.hid (show Bx ((w.alloc (.cells #[.string o,.string nm',.slice (some ⟨g,0,none⟩) 2 cap,.int .i64 p'] 27)).alloc (.cells #[.string ⟨#[]⟩,.string ⟨#[]⟩,.slice none 0 0,.int .i64 0] 27)) (w.heap.size+1) 27 fz from Bx.newAt (by simp) 27 fz)
 have HB0:=Lib.hid hb0
 clear hb0 hB0 hB fa fb oa ob
 go_enter Tryz.func97,Tryz.ntmps97
 go_wp2_with fail
 with_reducible refine(HSD.out).mono ?_
 rintro e w2 ⟨rfl,hb2⟩
 have hbk:Below w.heap.size w ((w2.alloc (.cells #[.string va.o,.string va.nm,.slice va.A va.ll va.cap,.int .i64 va.p] 27)).alloc (.cells #[.string vb.o,.string vb.nm,.slice vb.A vb.ll vb.cap,.int .i64 vb.p] 27)):=below_t (below_t HB0.out hb2) (below_t (below_alloc _ _) (below_alloc _ _))
 have hres:=(HR0.out.below hb2).below (below_t (below_alloc w2 (.cells #[.string va.o,.string va.nm,.slice va.A va.ll va.cap,.int .i64 va.p] 27)) (below_alloc _ (.cells #[.string vb.o,.string vb.nm,.slice vb.A vb.ll vb.cap,.int .i64 vb.p] 27)))
 have hz2:w.heap.size+1<w2.heap.size:=(HR0.out.below hb2).lt
 have HBK:=Lib.hid hbk
 have HRS:=Lib.hid hres
 clear hb2 hbk hres
 obtain⟨f0,f1,f2,f3⟩:=(HRS.out).frozen4
 obtain⟨z0,z1,z2,z3⟩:=(HRS.out).cells4
 have hl:=(HRS.out).lt
 obtain⟨y0,y1,y2,y3⟩:=(Bx.set4 (x0:=.string va.o) (x1:=.string va.nm) (x2:=.slice va.A va.ll va.cap) (x3:=.int .i64 va.p) (HRS.out)).cells4
 have HB9:=Lib.hid (below_set4 (x0:=.string va.o) (x1:=.string va.nm) (x2:=.slice va.A va.ll va.cap) (x3:=.int .i64 va.p) (HBK.out) (q:=w.heap.size+1) (Nat.le_succ _))
 go_wp2
 refine bodyPost_ret (v:=.agg #[.string va.o,.string va.nm,.slice va.A va.ll va.cap,.int .i64 va.p]) (by simp[results,Tryz.results97,go_sem,y0,y1,y2,y3]) rfl ⟨rfl,HB9.out⟩
theorem jn_or3{xa xb:Fo}{va vb:FV}{S:Nat->Prop}{g:Nat}{o nm':ByteArray}{cap:Nat}{p':Int}(w:World)(hB:Bx w g 27 (va.c++vb.c))(fa:FS w 27 S xa va.c)(fb:FS w 27 S xb vb.c)(h0:(xa.op=opFalse)=False)(h1:(xb.op=opTrue)=False)(h2:(xb.op=opFalse)=False)(h3:(xa.op=opTrue)=True):
 Calls Tryz.prog 97 #[.agg #[.string o,.string nm',.slice (some ⟨g,0,none⟩) 2 cap,.int .i64 p'],.string ⟨#[102,97,108,115,101]⟩,.string ⟨#[116,114,117,101]⟩] w (fun e w'=>e= .returned (.agg #[.string va.o,.string va.nm,.slice va.A va.ll va.cap,.int .i64 va.p])/\Below w.heap.size w w'):=by
 have oa:=hopF fa
 have ob:=hopF fb
 have g0:(va.o.toList==[102,97,108,115,101])=false:=by rw[oa];exact beq_eq_false_iff_ne.2 (of_eq_false h0)
 have g1:(vb.o.toList==[116,114,117,101])=false:=by rw[ob];exact beq_eq_false_iff_ne.2 (of_eq_false h1)
 have g2:(vb.o.toList==[102,97,108,115,101])=false:=by rw[ob];exact beq_eq_false_iff_ne.2 (of_eq_false h2)
 have g3:(va.o.toList==[116,114,117,101])=true:=by rw[oa];exact beq_iff_eq.2 (of_eq_true h3)
 have hb0:Below w.heap.size w ((w.alloc (.cells #[.string o,.string nm',.slice (some ⟨g,0,none⟩) 2 cap,.int .i64 p'] 27)).alloc (.cells #[.string ⟨#[]⟩,.string ⟨#[]⟩,.slice none 0 0,.int .i64 0] 27)):=below_t (below_alloc _ _) (below_alloc _ _)
 have hB0:=hB.below hb0
 have HSD:=Lib.hid (sides2 (o:=o) (nm':=nm') (cap:=cap) (p':=p') (a:=va) (b:=vb) ((w.alloc (.cells #[.string o,.string nm',.slice (some ⟨g,0,none⟩) 2 cap,.int .i64 p'] 27)).alloc (.cells #[.string ⟨#[]⟩,.string ⟨#[]⟩,.slice none 0 0,.int .i64 0] 27)) hB0.lt (hB0.cell 0) (hB0.cell 1) (hB0.cell 2) (hB0.cell 3) (hB0.cell 4) (hB0.cell 5) (hB0.cell 6) (hB0.cell 7))
 have HR0:=Lib.hid (show Bx ((w.alloc (.cells #[.string o,.string nm',.slice (some ⟨g,0,none⟩) 2 cap,.int .i64 p'] 27)).alloc (.cells #[.string ⟨#[]⟩,.string ⟨#[]⟩,.slice none 0 0,.int .i64 0] 27)) (w.heap.size+1) 27 fz from Bx.newAt (by simp) 27 fz)
 have HB0:=Lib.hid hb0
 clear hb0 hB0 hB fa fb oa ob
 go_enter Tryz.func97,Tryz.ntmps97
 go_wp2_with fail
 with_reducible refine(HSD.out).mono ?_
 rintro e w2 ⟨rfl,hb2⟩
 have hbk:Below w.heap.size w ((w2.alloc (.cells #[.string va.o,.string va.nm,.slice va.A va.ll va.cap,.int .i64 va.p] 27)).alloc (.cells #[.string vb.o,.string vb.nm,.slice vb.A vb.ll vb.cap,.int .i64 vb.p] 27)):=below_t (below_t HB0.out hb2) (below_t (below_alloc _ _) (below_alloc _ _))
 have hres:=(HR0.out.below hb2).below (below_t (below_alloc w2 (.cells #[.string va.o,.string va.nm,.slice va.A va.ll va.cap,.int .i64 va.p] 27)) (below_alloc _ (.cells #[.string vb.o,.string vb.nm,.slice vb.A vb.ll vb.cap,.int .i64 vb.p] 27)))
 have hz2:w.heap.size+1<w2.heap.size:=(HR0.out.below hb2).lt
 have HBK:=Lib.hid hbk
 have HRS:=Lib.hid hres
 clear hb2 hbk hres
 obtain⟨f0,f1,f2,f3⟩:=(HRS.out).frozen4
 obtain⟨z0,z1,z2,z3⟩:=(HRS.out).cells4
 have hl:=(HRS.out).lt
 obtain⟨y0,y1,y2,y3⟩:=(Bx.set4 (x0:=.string va.o) (x1:=.string va.nm) (x2:=.slice va.A va.ll va.cap) (x3:=.int .i64 va.p) (HRS.out)).cells4
 have HB9:=Lib.hid (below_set4 (x0:=.string va.o) (x1:=.string va.nm) (x2:=.slice va.A va.ll va.cap) (x3:=.int .i64 va.p) (HBK.out) (q:=w.heap.size+1) (Nat.le_succ _))
 go_wp2
 refine bodyPost_ret (v:=.agg #[.string va.o,.string va.nm,.slice va.A va.ll va.cap,.int .i64 va.p]) (by simp[results,Tryz.results97,go_sem,y0,y1,y2,y3]) rfl ⟨rfl,HB9.out⟩
theorem jn_or4{xa xb:Fo}{va vb:FV}{S:Nat->Prop}{g:Nat}{o nm':ByteArray}{cap:Nat}{p':Int}(w:World)(hB:Bx w g 27 (va.c++vb.c))(fa:FS w 27 S xa va.c)(fb:FS w 27 S xb vb.c)(h0:(xa.op=opFalse)=False)(h1:(xb.op=opTrue)=False)(h2:(xb.op=opFalse)=False)(h3:(xa.op=opTrue)=False)(h4:same xa xb=true):
 Calls Tryz.prog 97 #[.agg #[.string o,.string nm',.slice (some ⟨g,0,none⟩) 2 cap,.int .i64 p'],.string ⟨#[102,97,108,115,101]⟩,.string ⟨#[116,114,117,101]⟩] w (fun e w'=>e= .returned (.agg #[.string va.o,.string va.nm,.slice va.A va.ll va.cap,.int .i64 va.p])/\Below w.heap.size w w'):=by
 have oa:=hopF fa
 have ob:=hopF fb
 have g0:(va.o.toList==[102,97,108,115,101])=false:=by rw[oa];exact beq_eq_false_iff_ne.2 (of_eq_false h0)
 have g1:(vb.o.toList==[116,114,117,101])=false:=by rw[ob];exact beq_eq_false_iff_ne.2 (of_eq_false h1)
 have g2:(vb.o.toList==[102,97,108,115,101])=false:=by rw[ob];exact beq_eq_false_iff_ne.2 (of_eq_false h2)
 have g3:(va.o.toList==[116,114,117,101])=false:=by rw[oa];exact beq_eq_false_iff_ne.2 (of_eq_false h3)
 have hb0:Below w.heap.size w ((w.alloc (.cells #[.string o,.string nm',.slice (some ⟨g,0,none⟩) 2 cap,.int .i64 p'] 27)).alloc (.cells #[.string ⟨#[]⟩,.string ⟨#[]⟩,.slice none 0 0,.int .i64 0] 27)):=below_t (below_alloc _ _) (below_alloc _ _)
 have hB0:=hB.below hb0
 have HSD:=Lib.hid (sides2 (o:=o) (nm':=nm') (cap:=cap) (p':=p') (a:=va) (b:=vb) ((w.alloc (.cells #[.string o,.string nm',.slice (some ⟨g,0,none⟩) 2 cap,.int .i64 p'] 27)).alloc (.cells #[.string ⟨#[]⟩,.string ⟨#[]⟩,.slice none 0 0,.int .i64 0] 27)) hB0.lt (hB0.cell 0) (hB0.cell 1) (hB0.cell 2) (hB0.cell 3) (hB0.cell 4) (hB0.cell 5) (hB0.cell 6) (hB0.cell 7))
 have HR0:=Lib.hid (show Bx ((w.alloc (.cells #[.string o,.string nm',.slice (some ⟨g,0,none⟩) 2 cap,.int .i64 p'] 27)).alloc (.cells #[.string ⟨#[]⟩,.string ⟨#[]⟩,.slice none 0 0,.int .i64 0] 27)) (w.heap.size+1) 27 fz from Bx.newAt (by simp) 27 fz)
 have HB0:=Lib.hid hb0
 have HSM:=Lib.hid (fun(W:World) (hb:Below w.heap.size w W)=>psame_any (x:=xa) (y:=xb) (v:=va) (u:=vb) W (fa.below hb) (fb.below hb))
 rw[h4]at HSM
 clear hb0 hB0 hB fa fb oa ob
 go_enter Tryz.func97,Tryz.ntmps97
 go_wp2_with fail
 with_reducible refine(HSD.out).mono ?_
 rintro e w2 ⟨rfl,hb2⟩
 have hbk:Below w.heap.size w ((w2.alloc (.cells #[.string va.o,.string va.nm,.slice va.A va.ll va.cap,.int .i64 va.p] 27)).alloc (.cells #[.string vb.o,.string vb.nm,.slice vb.A vb.ll vb.cap,.int .i64 vb.p] 27)):=below_t (below_t HB0.out hb2) (below_t (below_alloc _ _) (below_alloc _ _))
 have hres:=(HR0.out.below hb2).below (below_t (below_alloc w2 (.cells #[.string va.o,.string va.nm,.slice va.A va.ll va.cap,.int .i64 va.p] 27)) (below_alloc _ (.cells #[.string vb.o,.string vb.nm,.slice vb.A vb.ll vb.cap,.int .i64 vb.p] 27)))
 have hz2:w.heap.size+1<w2.heap.size:=(HR0.out.below hb2).lt
 have HBK:=Lib.hid hbk
 have HRS:=Lib.hid hres
 clear hb2 hbk hres
 go_wp2_with fail
 with_reducible refine(HSM.out _ HBK.out).mono ?_
 rintro e w5 ⟨rfl,hb5⟩
 have HR5:=Lib.hid (HRS.out.below hb5)
 have HB5:=Lib.hid (below_t HBK.out hb5)
 obtain⟨k0,k1,k2,k3⟩:=Bx.cells4 (show Bx w5 w2.heap.size 27 [.string va.o,.string va.nm,.slice va.A va.ll va.cap,.int .i64 va.p]from(((Bx.new w2 27 [.string va.o,.string va.nm,.slice va.A va.ll va.cap,.int .i64 va.p]).alloc _).below hb5))
 clear hb5
 obtain⟨f0,f1,f2,f3⟩:=(HR5.out).frozen4
 obtain⟨z0,z1,z2,z3⟩:=(HR5.out).cells4
 have hl:=(HR5.out).lt
 obtain⟨y0,y1,y2,y3⟩:=(Bx.set4 (x0:=.string va.o) (x1:=.string va.nm) (x2:=.slice va.A va.ll va.cap) (x3:=.int .i64 va.p) (HR5.out)).cells4
 have HB9:=Lib.hid (below_set4 (x0:=.string va.o) (x1:=.string va.nm) (x2:=.slice va.A va.ll va.cap) (x3:=.int .i64 va.p) (HB5.out) (q:=w.heap.size+1) (Nat.le_succ _))
 go_wp2
 refine bodyPost_ret (v:=.agg #[.string va.o,.string va.nm,.slice va.A va.ll va.cap,.int .i64 va.p]) (by simp[results,Tryz.results97,go_sem,y0,y1,y2,y3]) rfl ⟨rfl,HB9.out⟩
theorem jn_or5{xa xb:Fo}{va vb:FV}{S:Nat->Prop}{g:Nat}{o nm':ByteArray}{cap:Nat}{p':Int}(w:World)(hB:Bx w g 27 (va.c++vb.c))(fa:FS w 27 S xa va.c)(fb:FS w 27 S xb vb.c)(h0:(xa.op=opFalse)=False)(h1:(xb.op=opTrue)=False)(h2:(xb.op=opFalse)=False)(h3:(xa.op=opTrue)=False)(h4:same xa xb=false):
 Calls Tryz.prog 97 #[.agg #[.string o,.string nm',.slice (some ⟨g,0,none⟩) 2 cap,.int .i64 p'],.string ⟨#[102,97,108,115,101]⟩,.string ⟨#[116,114,117,101]⟩] w (fun e w'=>e= .returned (.agg #[.string o,.string nm',.slice (some ⟨g,0,none⟩) 2 cap,.int .i64 p'])/\Below w.heap.size w w'):=by
 have oa:=hopF fa
 have ob:=hopF fb
 have g0:(va.o.toList==[102,97,108,115,101])=false:=by rw[oa];exact beq_eq_false_iff_ne.2 (of_eq_false h0)
 have g1:(vb.o.toList==[116,114,117,101])=false:=by rw[ob];exact beq_eq_false_iff_ne.2 (of_eq_false h1)
 have g2:(vb.o.toList==[102,97,108,115,101])=false:=by rw[ob];exact beq_eq_false_iff_ne.2 (of_eq_false h2)
 have g3:(va.o.toList==[116,114,117,101])=false:=by rw[oa];exact beq_eq_false_iff_ne.2 (of_eq_false h3)
 have hb0:Below w.heap.size w ((w.alloc (.cells #[.string o,.string nm',.slice (some ⟨g,0,none⟩) 2 cap,.int .i64 p'] 27)).alloc (.cells #[.string ⟨#[]⟩,.string ⟨#[]⟩,.slice none 0 0,.int .i64 0] 27)):=below_t (below_alloc _ _) (below_alloc _ _)
 have hB0:=hB.below hb0
 have HSD:=Lib.hid (sides2 (o:=o) (nm':=nm') (cap:=cap) (p':=p') (a:=va) (b:=vb) ((w.alloc (.cells #[.string o,.string nm',.slice (some ⟨g,0,none⟩) 2 cap,.int .i64 p'] 27)).alloc (.cells #[.string ⟨#[]⟩,.string ⟨#[]⟩,.slice none 0 0,.int .i64 0] 27)) hB0.lt (hB0.cell 0) (hB0.cell 1) (hB0.cell 2) (hB0.cell 3) (hB0.cell 4) (hB0.cell 5) (hB0.cell 6) (hB0.cell 7))
 have HR0:=Lib.hid (show Bx ((w.alloc (.cells #[.string o,.string nm',.slice (some ⟨g,0,none⟩) 2 cap,.int .i64 p'] 27)).alloc (.cells #[.string ⟨#[]⟩,.string ⟨#[]⟩,.slice none 0 0,.int .i64 0] 27)) (w.heap.size+1) 27 fz from Bx.newAt (by simp) 27 fz)
 have HB0:=Lib.hid hb0
 have HSM:=Lib.hid (fun(W:World) (hb:Below w.heap.size w W)=>psame_any (x:=xa) (y:=xb) (v:=va) (u:=vb) W (fa.below hb) (fb.below hb))
 rw[h4]at HSM
 clear hb0 hB0 hB fa fb oa ob
 go_enter Tryz.func97,Tryz.ntmps97
 go_wp2_with fail
 with_reducible refine(HSD.out).mono ?_
 rintro e w2 ⟨rfl,hb2⟩
 have hbk:Below w.heap.size w ((w2.alloc (.cells #[.string va.o,.string va.nm,.slice va.A va.ll va.cap,.int .i64 va.p] 27)).alloc (.cells #[.string vb.o,.string vb.nm,.slice vb.A vb.ll vb.cap,.int .i64 vb.p] 27)):=below_t (below_t HB0.out hb2) (below_t (below_alloc _ _) (below_alloc _ _))
 have hres:=(HR0.out.below hb2).below (below_t (below_alloc w2 (.cells #[.string va.o,.string va.nm,.slice va.A va.ll va.cap,.int .i64 va.p] 27)) (below_alloc _ (.cells #[.string vb.o,.string vb.nm,.slice vb.A vb.ll vb.cap,.int .i64 vb.p] 27)))
 have hz2:w.heap.size+1<w2.heap.size:=(HR0.out.below hb2).lt
 have HBK:=Lib.hid hbk
 have HRS:=Lib.hid hres
 obtain⟨k0,k1,k2,k3⟩:=Bx.cells4 (show Bx ((w2.alloc (.cells #[.string va.o,.string va.nm,.slice va.A va.ll va.cap,.int .i64 va.p] 27)).alloc (.cells #[.string vb.o,.string vb.nm,.slice vb.A vb.ll vb.cap,.int .i64 vb.p] 27)) w.heap.size 27 [.string o,.string nm',.slice (some ⟨g,0,none⟩) 2 cap,.int .i64 p']from((((Bx.new w 27 [.string o,.string nm',.slice (some ⟨g,0,none⟩) 2 cap,.int .i64 p']).alloc _).below hb2).alloc _).alloc _)
 clear hb2 hbk hres
 go_wp2_with fail
 with_reducible refine(HSM.out _ HBK.out).mono ?_
 rintro e w5 ⟨rfl,hb5⟩
 have HR5:=Lib.hid (HRS.out.below hb5)
 have HB5:=Lib.hid (below_t HBK.out hb5)
 replace k0:=(hb5.cell (p:=⟨w.heap.size,0,none⟩) (show w.heap.size<_ from Nat.lt_of_succ_lt HRS.out.lt)).trans k0
 replace k1:=(hb5.cell (p:=⟨w.heap.size,1,none⟩) (show w.heap.size<_ from Nat.lt_of_succ_lt HRS.out.lt)).trans k1
 replace k2:=(hb5.cell (p:=⟨w.heap.size,2,none⟩) (show w.heap.size<_ from Nat.lt_of_succ_lt HRS.out.lt)).trans k2
 replace k3:=(hb5.cell (p:=⟨w.heap.size,3,none⟩) (show w.heap.size<_ from Nat.lt_of_succ_lt HRS.out.lt)).trans k3
 clear hb5
 obtain⟨f0,f1,f2,f3⟩:=(HR5.out).frozen4
 obtain⟨z0,z1,z2,z3⟩:=(HR5.out).cells4
 have hl:=(HR5.out).lt
 obtain⟨y0,y1,y2,y3⟩:=(Bx.set4 (x0:=.string o) (x1:=.string nm') (x2:=.slice (some ⟨g,0,none⟩) 2 cap) (x3:=.int .i64 p') (HR5.out)).cells4
 have HB9:=Lib.hid (below_set4 (x0:=.string o) (x1:=.string nm') (x2:=.slice (some ⟨g,0,none⟩) 2 cap) (x3:=.int .i64 p') (HB5.out) (q:=w.heap.size+1) (Nat.le_succ _))
 go_wp2
 refine bodyPost_ret (v:=.agg #[.string o,.string nm',.slice (some ⟨g,0,none⟩) 2 cap,.int .i64 p']) (by simp[results,Tryz.results97,go_sem,y0,y1,y2,y3]) rfl ⟨rfl,HB9.out⟩
end Go.Proofs.YtmgjpjjglghbaaaGreatDoor
