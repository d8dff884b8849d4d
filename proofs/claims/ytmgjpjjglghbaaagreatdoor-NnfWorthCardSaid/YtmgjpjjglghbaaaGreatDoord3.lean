import Derived.Test.YtmgjpjjglghbaaaGreatDoord2
import Derived.Test.YtmgjpjjglghbaaaGreatDoorc1
import Derived.Deep.RegionLaw
import Derived.Deep.RegionHeld3
namespace Go.Proofs.YtmgjpjjglghbaaaGreatDoor
set_option maxHeartbeats 16000000
set_option maxRecDepth 100000
section
open Go.RowKit
def FI(w:World):Fo->Nat->Nat->List Value->Prop
 | .leaf op nm p,lo,hi,c=>lo<=hi/\c=[strV op,strV nm,.slice none 0 0,.int .i64 (p:Int)]
 | .un op a p,lo,hi,c=>∃g cap ca,c=[strV op,strV [],.slice (some ⟨g,0,none⟩) 1 cap,.int .i64 (p:Int)]/\g<hi/\1<=cap/\Bx w g 27 ca/\FI w a lo g ca
 | .bin op a b p,lo,hi,c=>∃g m cap ca cb,c=[strV op,strV [],.slice (some ⟨g,0,none⟩) 2 cap,.int .i64 (p:Int)]/\g<hi/\2<=cap/\Bx w g 27 (ca++cb)/\FI w a lo m ca/\FI w b m g cb
section
variable {w w':World}
theorem FI.le:∀{x:Fo} {lo hi:Nat} {c:List Value},FI w x lo hi c->lo<=hi
 | .leaf _ _ _,_,_,_,h=>h.1
 | .un _ _ _,_,_,_,⟨_,_,_,_,h1,_,_,h2⟩=>by have:=h2.le;omega
 | .bin _ _ _ _,_,_,_,⟨_,_,_,_,_,_,h1,_,_,h2,h3⟩=>by have:=h2.le;have:=h3.le;omega
theorem FI.keep:∀{x:Fo} {lo hi:Nat} {c:List Value},FI w x lo hi c->(∀k,lo<=k->k<hi->k<w.heap.size->w'.heap[k]?=w.heap[k]?)->FI w' x lo hi c
 | .leaf _ _ _,_,_,_,h,_=>h
 | .un _ _ _,_,_,_,⟨g,cap,ca,h0,h1,hc,h2,h3⟩,hk=>⟨g,cap,ca,h0,h1,hc,(hk g h3.le h1 h2.lt).trans h2,h3.keep fun k k1 k2 k3=>hk k k1 (by omega) k3⟩
 | .bin _ _ _ _,_,_,_,⟨g,m,cap,ca,cb,h0,h1,hc,h2,h3,h4⟩,hk=>⟨g,m,cap,ca,cb,h0,h1,hc,(hk g (by have:=h3.le;have:=h4.le;omega) h1 h2.lt).trans h2,h3.keep fun k k1 k2 k3=>hk k k1 (by have:=h4.le;omega) k3,h4.keep fun k k1 k2 k3=>hk k (by have:=h3.le;omega) (by omega) k3⟩
theorem FI.below{x:Fo}{lo hi:Nat}{c:List Value}(h:FI w x lo hi c)(hb:Below w.heap.size w w'):FI w' x lo hi c:=h.keep fun k _ _ hk=>hb.block k hk
theorem FI.mono:∀{x:Fo} {lo hi lo' hi':Nat} {c:List Value},FI w x lo hi c->lo'<=lo->hi<=hi'->FI w x lo' hi' c
 | .leaf _ _ _,_,_,_,_,_,h,h1,h2=>⟨by have:=h.1;omega,h.2⟩
 | .un _ _ _,_,_,_,_,_,⟨g,cap,ca,h0,h1,hc,h2,h3⟩,k1,k2=>⟨g,cap,ca,h0,by omega,hc,h2,h3.mono k1 (Nat.le_refl _)⟩
 | .bin _ _ _ _,_,_,_,_,_,⟨g,m,cap,ca,cb,h0,h1,hc,h2,h3,h4⟩,k1,k2=>⟨g,m,cap,ca,cb,h0,by omega,hc,h2,h3.mono k1 (Nat.le_refl _),h4⟩
theorem FI.fs:∀{x:Fo} {lo hi:Nat} {c:List Value},FI w x lo hi c->FS w 27 (Rg lo hi) x c
 | .leaf _ _ _,_,_,_,h=>h.2
 | .un _ _ _,lo,hi,_,⟨g,cap,ca,h0,h1,hc,h2,h3⟩=>⟨g,cap,ca,h0,⟨⟨h3.le,h1⟩,_,h2,fun j u hu=>by simpa using hu⟩,h3.fs.wide fun k _ hk=>⟨hk.1,by have:=hk.2;omega⟩⟩
 | .bin _ _ _ _,lo,hi,_,⟨g,m,cap,ca,cb,h0,h1,hc,h2,h3,h4⟩=>⟨g,cap,ca,cb,h0,⟨⟨by have:=h3.le;have:=h4.le;omega,h1⟩,_,h2,fun j u hu=>by simpa using hu⟩,h3.fs.wide fun k _ hk=>⟨hk.1,by have:=hk.2;have:=h4.le;omega⟩,h4.fs.wide fun k _ hk=>⟨by have:=hk.1;have:=h3.le;omega,by have:=hk.2;omega⟩⟩
theorem FI.form{x:Fo}{lo hi:Nat}{c:List Value}(h:FI w x lo hi c):∃nm A l cap,c=FV.c ⟨⟨x.op.toArray⟩,nm,A,l,cap,(x.pos:Int)⟩:=h.fs.form
theorem FS.fx1{S:Nat->Prop}{x:Fo}{c:List Value}{q:Nat}{t:TypeId}{cs:List Value}(h:FS w 27 S x c)(hf:Fx (fun k=>k=q) w w')(hq:Bx w q t cs)(ht:27≠t):FS w' 27 S x c:=h.keepY fun k cs' _ hk=>hf.block k (blk_lt hk) (by
 rintro rfl
 unfold Bx at hq
 rw[hq]at hk
 injection hk with hk
 injection hk with _ hk
 exact ht hk.symm)
end
def cM:Fo->Bool->Nat->Nat
 | .leaf op _ _,b,n=>if 4096<n then n else if op=opLab/\b=true then n+2 else n+1
 | .un op a _,b,n=>if 4096<n then n else if op=[33]then cM a (!b) n else if op=[88]then cM a b n+1 else cM a b (n+1)+1
 | .bin op a c _,b,n=>if 4096<n then n else
   if op=[61,62]then cM c b (cM a (!b) n)+1
   else if op=[87]then(if 4096<cM c b n then cM c b n else cM c b (cM a b (cM c b n))+1)+1
   else cM c b (cM a b n)+1
theorem cm_full:∀(x:Fo) (b:Bool) (n:Nat),4096<n->cM x b n=n
 | .leaf _ _ _,_,_,h=>by rw[cM,if_pos h]
 | .un _ _ _,_,_,h=>by rw[cM,if_pos h]
 | .bin _ _ _ _,_,_,h=>by rw[cM,if_pos h]
theorem cm_ge:∀(x:Fo) (b:Bool) (n:Nat),n<=cM x b n
 | .leaf _ _ _,_,_=>by unfold cM;repeat' split
                       all_goals omega
 | .un _ a _,b,n=>by
   unfold cM
   have h1:=cm_ge a (!b) n
   have h2:=cm_ge a b n
   have h3:=cm_ge a b (n+1)
   repeat' split
   all_goals omega
 | .bin _ a c _,b,n=>by
   unfold cM
   have h1:=cm_ge a (!b) n
   have h2:=cm_ge c b (cM a (!b) n)
   have h3:=cm_ge c b n
   have h4:=cm_ge a b (cM c b n)
   have h5:=cm_ge c b (cM a b (cM c b n))
   have h6:=cm_ge a b n
   have h7:=cm_ge c b (cM a b n)
   repeat' split
   all_goals omega
theorem cm_le:∀(x:Fo) (b:Bool) (n:Nat),cM x b n<=max n 4097+2*x.size
 | .leaf _ _ _,_,_=>by simp only[cM,Fo.size];repeat' split
                       all_goals omega
 | .un _ a _,b,n=>by
   simp only[cM,Fo.size]
   have h1:=cm_le a (!b) n
   have h2:=cm_le a b n
   have h3:=cm_le a b (n+1)
   repeat' split
   all_goals omega
 | .bin _ a c _,b,n=>by
   simp only[cM,Fo.size]
   have h1:=cm_le a (!b) n
   have h2:=cm_le c b (cM a (!b) n)
   have h3:=cm_le c b n
   have h4:=cm_le a b (cM c b n)
   have h5:=cm_le c b (cM a b (cM c b n))
   have h6:=cm_le a b n
   have h7:=cm_le c b (cM a b n)
   repeat' split
   all_goals omega
theorem cm_is:∀x,OkF x->∀b n,n<=4096->(n+(nO x b).size<=4096->cM x b n=n+(nO x b).size)/\(4096<n+(nO x b).size->4096<cM x b n):=by
 refine okf_ind ?_ ?_ ?_ ?_ ?_
 · intro p b n hn
   rw[n_true]
   simp only[cM,show opTrue≠opLab by decide,false_and,if_false,Fo.size]
   rw[if_neg (by omega)];exact⟨fun _=>rfl,fun h=>h⟩
 · intro p b n hn
   rw[n_false]
   simp only[cM,show opFalse≠opLab by decide,false_and,if_false,Fo.size]
   rw[if_neg (by omega)];exact⟨fun _=>rfl,fun h=>h⟩
 · intro nm p h b n hn
   rw[n_lab]
   cases b
   · simp only[cM,Bool.false_eq_true,and_false,if_false,Fo.size]
     rw[if_neg (by omega)];exact⟨fun _=>rfl,fun h=>h⟩
   · simp only[cM,and_self,if_true,Fo.size]
     rw[if_neg (by omega)];exact⟨fun _=>rfl,fun h=>h⟩
 · rintro op a p (rfl | rfl | rfl | rfl) - h b n hn
   · rw[n_not,cM,if_neg (by omega),if_pos rfl];exact h _ n hn
   · rw[n_X,cM,if_neg (by omega),if_neg (by decide),if_pos rfl]
     simp only[Fo.size]
     have:=h b n hn
     omega
   all_goals
    first | rw[n_F] | rw[n_G]
    rw[cM,if_neg (by omega),if_neg (by decide),if_neg (by decide)]
    simp only[Fo.size]
    have h1:=cm_ge a b (n+1)
    rcases Nat.lt_or_ge 4096 (n+1)with g | g
    · omega
    · have:=h b (n+1) g
      omega
 · rintro op a c p ho - - h1 h2 b n hn
   have hab:∀b',(n+(nO a b').size+(nO c b).size+1<=4096->cM c b (cM a b' n)+1=n+(nO a b').size+(nO c b).size+1)/\(4096<n+(nO a b').size+(nO c b).size+1->4096<cM c b (cM a b' n)+1):=fun b'=>by
    have k1:=h1 b' n hn
    have k2:=cm_ge c b (cM a b' n)
    rcases Nat.lt_or_ge 4096 (cM a b' n)with g | g
    · omega
    · have:=h2 b _ g
      omega
   rw[cM,if_neg (by omega)]
   rcases ho with rfl | rfl | rfl | rfl | rfl | rfl
   · rw[n_imp,if_pos rfl];simp only[Fo.size];have:=hab (!b);omega
   · rw[n_or,if_neg (by decide),if_neg (by decide)];simp only[Fo.size];have:=hab b;omega
   · rw[n_and,if_neg (by decide),if_neg (by decide)];simp only[Fo.size];have:=hab b;omega
   · rw[n_U,if_neg (by decide),if_neg (by decide)];simp only[Fo.size];have:=hab b;omega
   · rw[n_W,if_neg (by decide),if_pos rfl]
     simp only[Fo.size]
     have k1:=h2 b n hn
     have k2:=cm_ge a b (cM c b n)
     have k3:=cm_ge c b (cM a b (cM c b n))
     rcases Nat.lt_or_ge 4096 (cM c b n)with g | g
     · rw[if_pos g];omega
     · rw[if_neg (by omega)]
       have k4:=h1 b _ g
       rcases Nat.lt_or_ge 4096 (cM a b (cM c b n))with g' | g'
       · omega
       · have:=h2 b _ g'
         omega
   · rw[n_R,if_neg (by decide),if_neg (by decide)];simp only[Fo.size];have:=hab b;omega
theorem nfull_any{q n:Nat}(w:World)(h:Bx w q 136 [.int .i64 (n:Int)]):Calls Tryz.prog 93 #[.pointer (some ⟨q,0,none⟩)] w fun e w'=>e= .returned (.bool (decide (4096<n)))/\w'=w:=by
 have h0:w.cell? ⟨q,0,none⟩=some (.int .i64 (n:Int)):=h.cell 0
 have d:decide ((4096:Int)<(n:Int))=decide (4096<n):=by rw[decide_eq_decide];omega
 clear h
 go_enter Tryz.func93,Tryz.ntmps93
 go_wp2
 go_ret
 first | exact⟨rfl,rfl⟩ | exact⟨by rw[d],rfl⟩
theorem neither_any{b:Bool}{s t:ByteArray}(w:World):Calls Tryz.prog 126 #[.bool b,.string s,.string t] w fun e w'=>e= .returned (.string (if b=true then t else s))/\w'=w:=by
 go_enter Tryz.func126,Tryz.ntmps126
 cases b
 all_goals
  go_wp2
  go_ret
  exact⟨rfl,rfl⟩
theorem nof_any{o:ByteArray}{A:Option Addr}{l cap:Nat}(w:World):Calls Tryz.prog 128 #[.string o,.slice A l cap] w fun e w'=>e= .returned (.agg #[.string o,.string ⟨#[]⟩,.slice A l cap,.int .i64 0])/\Below w.heap.size w w':=by
 have hbx:=Bx.new w 27 [.string o,.string ⟨#[]⟩,.slice A l cap,.int .i64 0]
 obtain⟨y0,y1,y2,y3⟩:=hbx.cells4
 have hbl:=below_alloc w (.cells #[.string o,.string ⟨#[]⟩,.slice A l cap,.int .i64 0] 27)
 clear hbx
 go_enter Tryz.func128,Tryz.ntmps128
 go_wp2
 trace_state
 refine bodyPost_ret (v:=.agg #[.string o,.string ⟨#[]⟩,.slice A l cap,.int .i64 0]) (by simp[results,Tryz.results128,go_sem,y0,y1,y2,y3]) rfl ⟨rfl,hbl⟩
end
section
open Go.RowKit
abbrev Fx1(q:Nat)(w w':World):Prop:=Fx (fun k=>k=q) w w'
def fz:List Value:=[.string ⟨#[]⟩,.string ⟨#[]⟩,.slice none 0 0,.int .i64 0]
def OneP(v:FV)(q n:Nat)(w:World)(e:Ending)(w':World):Prop:=
 e= .returned (.agg #[.string v.o,.string v.nm,.slice v.A v.ll v.cap,.int .i64 v.p])/\Fx1 q w w'/\Bx w' q 136 [.int .i64 ((n:Nat):Int)]
theorem none_any{q n:Nat}{o:ByteArray}{A:Option Addr}{l cap:Nat}(w:World)(hb:Bx w q 136 [.int .i64 (n:Int)])(hn:n<=1000000):Calls Tryz.prog 125 #[.pointer (some ⟨q,0,none⟩),.string o,.slice A l cap] w (OneP ⟨o,⟨#[]⟩,A,l,cap,0⟩ q (n+1) w):=by
 have hql:=hb.lt
 have hb1:=hb.alloc (.cells #[.string ⟨#[]⟩,.string ⟨#[]⟩,.slice none 0 0,.int .i64 0] 27)
 have h0:(w.alloc (.cells #[.string ⟨#[]⟩,.string ⟨#[]⟩,.slice none 0 0,.int .i64 0] 27)).cell? ⟨q,0,none⟩=some (.int .i64 (n:Int)):=hb1.cell 0
 have hf:=hb1.frozen 0
 have hs:=hb.set 0 (.int .i64 ((n:Int)+1))
 have HB2:=Lib.hid (show Bx ((w.setCell ⟨q,0,none⟩ (.int .i64 ((n:Int)+1))).alloc (.cells #[.string ⟨#[]⟩,.string ⟨#[]⟩,.slice none 0 0,.int .i64 0] 27)) q 136 [.int .i64 ((n+1:Nat):Int)]from hs.alloc _)
 have HR:=Lib.hid (show Bx ((w.setCell ⟨q,0,none⟩ (.int .i64 ((n:Int)+1))).alloc (.cells #[.string ⟨#[]⟩,.string ⟨#[]⟩,.slice none 0 0,.int .i64 0] 27)) w.heap.size 27 fz from Bx.newAt (by simp) 27 fz)
 have HFX:=Lib.hid (show Fx1 q w ((w.setCell ⟨q,0,none⟩ (.int .i64 ((n:Int)+1))).alloc (.cells #[.string ⟨#[]⟩,.string ⟨#[]⟩,.slice none 0 0,.int .i64 0] 27))from(Fx.setCell (p:=⟨q,0,none⟩) (Fx.refl (fun k=>k=q) w) (.inr (show q=q from rfl)) _).alloc _)
 have HOF:=Lib.hid (fun(W:World)=>nof_any (o:=o) (A:=A) (l:=l) (cap:=cap) W)
 have hw:wrap64 ((n:Int)+1)=(n:Int)+1:=by unfold wrap64;omega
 clear hb hs
 go_enter Tryz.func125,Tryz.ntmps125
 go_wp2_with fail
 with_reducible refine(HOF.out _).mono ?_
 rintro e w2 ⟨rfl,hb2⟩
 have hR:=HR.out.below hb2
 obtain⟨f0,f1,f2,f3⟩:=hR.frozen4
 obtain⟨z0,z1,z2,z3⟩:=hR.cells4
 have hl:=hR.lt
 obtain⟨y0,y1,y2,y3⟩:=(Bx.set4 (x0:=.string o) (x1:=.string ⟨#[]⟩) (x2:=.slice A l cap) (x3:=.int .i64 0) hR).cells4
 have HB3:=Lib.hid (show Bx ((((w2.setCell ⟨w.heap.size,0,none⟩ (.string o)).setCell ⟨w.heap.size,1,none⟩ (.string ⟨#[]⟩)).setCell ⟨w.heap.size,2,none⟩ (.slice A l cap)).setCell ⟨w.heap.size,3,none⟩ (.int .i64 0)) q 136 [.int .i64 ((n+1:Nat):Int)]from((((HB2.out.below hb2).far (by simp;omega) _).far (by simp;omega) _).far (by simp;omega) _).far (by simp;omega) _)
 have HF3:=Lib.hid (Fx.set4 (x0:=.string o) (x1:=.string ⟨#[]⟩) (x2:=.slice A l cap) (x3:=.int .i64 0) (HFX.out.on hb2) (q:=w.heap.size) (.inl (Nat.le_refl _)))
 clear hb2 hR
 go_wp2
 refine bodyPost_ret (v:=.agg #[.string o,.string ⟨#[]⟩,.slice A l cap,.int .i64 0]) (by simp[results,Tryz.results125,go_sem,y0,y1,y2,y3]) rfl ⟨rfl,HF3.out,HB3.out⟩
def kidV(w:World)(S:Nat->Prop):Option Fo->FV->Prop
 | some x,v=>FS w 27 S x v.c
 | none,v=>v=fv0
def NsdP(S:Nat->Prop)(x:Fo)(w:World)(e:Ending)(w':World):Prop:=
 ∃a b:FV,e= .returned (.tuple #[.agg #[.string a.o,.string a.nm,.slice a.A a.ll a.cap,.int .i64 a.p],.agg #[.string b.o,.string b.nm,.slice b.A b.ll b.cap,.int .i64 b.p]])/\kidV w S x.kids[0]? a/\kidV w S x.kids[1]? b/\Below w.heap.size w w'
theorem sides0{o nm':ByteArray}{A:Option Addr}{cap:Nat}{p':Int}(w:World):
 Calls Tryz.prog 95 #[.agg #[.string o,.string nm',.slice A 0 cap,.int .i64 p']] w fun e w'=>e= .returned (.tuple #[.agg #[.string ⟨#[]⟩,.string ⟨#[]⟩,.slice none 0 0,.int .i64 0],.agg #[.string ⟨#[]⟩,.string ⟨#[]⟩,.slice none 0 0,.int .i64 0]])/\Below w.heap.size w w':=by
 have h2:=Bx.newAt (w:=(w.alloc (.cells #[.string o,.string nm',.slice A 0 cap,.int .i64 p'] 27))) (k:=w.heap.size+1) (by simp) 27 [.string ⟨#[]⟩,.string ⟨#[]⟩,.slice none 0 0,.int .i64 0]
 have h3:=Bx.newAt (w:=((w.alloc (.cells #[.string o,.string nm',.slice A 0 cap,.int .i64 p'] 27)).alloc (.cells #[.string ⟨#[]⟩,.string ⟨#[]⟩,.slice none 0 0,.int .i64 0] 27))) (k:=w.heap.size+1+1) (by simp) 27 [.string ⟨#[]⟩,.string ⟨#[]⟩,.slice none 0 0,.int .i64 0]
 have h2':=h2.alloc (.cells #[.string ⟨#[]⟩,.string ⟨#[]⟩,.slice none 0 0,.int .i64 0] 27)
 have hbl:Below w.heap.size w (((w.alloc (.cells #[.string o,.string nm',.slice A 0 cap,.int .i64 p'] 27)).alloc (.cells #[.string ⟨#[]⟩,.string ⟨#[]⟩,.slice none 0 0,.int .i64 0] 27)).alloc (.cells #[.string ⟨#[]⟩,.string ⟨#[]⟩,.slice none 0 0,.int .i64 0] 27)):=below_t (below_t (below_alloc _ _) (below_alloc _ _)) (below_alloc _ _)
 have HB:=Lib.hid hbl
 obtain⟨W,hW⟩:∃W,W=(((w.alloc (.cells #[.string o,.string nm',.slice A 0 cap,.int .i64 p'] 27)).alloc (.cells #[.string ⟨#[]⟩,.string ⟨#[]⟩,.slice none 0 0,.int .i64 0] 27)).alloc (.cells #[.string ⟨#[]⟩,.string ⟨#[]⟩,.slice none 0 0,.int .i64 0] 27)):=⟨_,rfl⟩
 rw[show((w.alloc (.cells #[.string o,.string nm',.slice A 0 cap,.int .i64 p'] 27)).alloc (.cells [.string ⟨#[]⟩,.string ⟨#[]⟩,.slice none 0 0,.int .i64 0].toArray 27)).alloc (.cells #[.string ⟨#[]⟩,.string ⟨#[]⟩,.slice none 0 0,.int .i64 0] 27)=W from hW.symm]at h2'
 rw[show((w.alloc (.cells #[.string o,.string nm',.slice A 0 cap,.int .i64 p'] 27)).alloc (.cells #[.string ⟨#[]⟩,.string ⟨#[]⟩,.slice none 0 0,.int .i64 0] 27)).alloc (.cells [.string ⟨#[]⟩,.string ⟨#[]⟩,.slice none 0 0,.int .i64 0].toArray 27)=W from hW.symm]at h3
 rw[<- hW]at hbl
 have HW:=Lib.hid hW
 have ne:w.heap.size+1≠w.heap.size+1+1:=by omega
 have g2:=h2'
 have g3:=h3
 have hb0:Below w.heap.size w W:=hbl
 have e2:=Bx.set4 (x0:=.string ⟨#[]⟩) (x1:=.string ⟨#[]⟩) (x2:=.slice none 0 0) (x3:=.int .i64 0) g2
 have e3:=(((g3.far (p:=⟨w.heap.size+1,0,none⟩) ne.symm (.string ⟨#[]⟩)).far (p:=⟨w.heap.size+1,1,none⟩) ne.symm (.string ⟨#[]⟩)).far (p:=⟨w.heap.size+1,2,none⟩) ne.symm (.slice none 0 0)).far (p:=⟨w.heap.size+1,3,none⟩) ne.symm (.int .i64 0)
 have k2:=(((e2.far (p:=⟨w.heap.size+1+1,0,none⟩) ne (.string ⟨#[]⟩)).far (p:=⟨w.heap.size+1+1,1,none⟩) ne (.string ⟨#[]⟩)).far (p:=⟨w.heap.size+1+1,2,none⟩) ne (.slice none 0 0)).far (p:=⟨w.heap.size+1+1,3,none⟩) ne (.int .i64 0)
 have k3:=Bx.set4 (x0:=.string ⟨#[]⟩) (x1:=.string ⟨#[]⟩) (x2:=.slice none 0 0) (x3:=.int .i64 0) e3
 have hbk:=below_set4 (x0:=.string ⟨#[]⟩) (x1:=.string ⟨#[]⟩) (x2:=.slice none 0 0) (x3:=.int .i64 0) (below_set4 (x0:=.string ⟨#[]⟩) (x1:=.string ⟨#[]⟩) (x2:=.slice none 0 0) (x3:=.int .i64 0) hb0 (q:=w.heap.size+1) (Nat.le_succ _)) (q:=w.heap.size+1+1) (by omega)
 have HG:=Lib.hid (And.intro h2'.cells4 h3.cells4)
 obtain⟨c0,c1,c2,c3⟩:=h2'.frozen4
 obtain⟨c4,c5,c6,c7⟩:=h3.frozen4
 have HBK:=Lib.hid hbk.drew
 have HY:=Lib.hid (And.intro (k2.below (Below.refl _ _).drew).cells4 (k3.below (Below.refl _ _).drew).cells4)
 have l2:=g2.lt
 have l3:=g3.lt
 clear h2 h3 h2' hbl hb0 g2 g3 e2 e3 k2 k3 hbk hW
 go_enter Tryz.func95,Tryz.ntmps95
 go_wp2_with fail
 rw[<- HW.out]
 obtain⟨⟨a0,a1,a2,a3⟩,a4,a5,a6,a7⟩:=HG.out
 go_region
 obtain⟨⟨y0,y1,y2,y3⟩,y4,y5,y6,y7⟩:=HY.out
 go_wp2
 refine bodyPost_ret (v:=.tuple #[.agg #[.string ⟨#[]⟩,.string ⟨#[]⟩,.slice none 0 0,.int .i64 0],.agg #[.string ⟨#[]⟩,.string ⟨#[]⟩,.slice none 0 0,.int .i64 0]]) (by simp[results,Tryz.results95,go_sem,y0,y1,y2,y3,y4,y5,y6,y7]) rfl ⟨rfl,HBK.out⟩
theorem sides1{g:Nat}{a:FV}{o nm':ByteArray}{cap:Nat}{p':Int}(w:World)(hg:g<w.heap.size)(k0:w.cell? ⟨g,0,none⟩=some (.string a.o))(k1:w.cell? ⟨g,1,none⟩=some (.string a.nm))(k2:w.cell? ⟨g,2,none⟩=some (.slice a.A a.ll a.cap))(k3:w.cell? ⟨g,3,none⟩=some (.int .i64 a.p)):
 Calls Tryz.prog 95 #[.agg #[.string o,.string nm',.slice (some ⟨g,0,none⟩) 1 cap,.int .i64 p']] w fun e w'=>e= .returned (.tuple #[.agg #[.string a.o,.string a.nm,.slice a.A a.ll a.cap,.int .i64 a.p],.agg #[.string ⟨#[]⟩,.string ⟨#[]⟩,.slice none 0 0,.int .i64 0]])/\Below w.heap.size w w':=by
 have h2:=Bx.newAt (w:=(w.alloc (.cells #[.string o,.string nm',.slice (some ⟨g,0,none⟩) 1 cap,.int .i64 p'] 27))) (k:=w.heap.size+1) (by simp) 27 [.string a.o,.string a.nm,.slice a.A a.ll a.cap,.int .i64 a.p]
 have h3:=Bx.newAt (w:=((w.alloc (.cells #[.string o,.string nm',.slice (some ⟨g,0,none⟩) 1 cap,.int .i64 p'] 27)).alloc (.cells #[.string a.o,.string a.nm,.slice a.A a.ll a.cap,.int .i64 a.p] 27))) (k:=w.heap.size+1+1) (by simp) 27 [.string ⟨#[]⟩,.string ⟨#[]⟩,.slice none 0 0,.int .i64 0]
 have h2':=h2.alloc (.cells #[.string ⟨#[]⟩,.string ⟨#[]⟩,.slice none 0 0,.int .i64 0] 27)
 have hbl:Below w.heap.size w (((w.alloc (.cells #[.string o,.string nm',.slice (some ⟨g,0,none⟩) 1 cap,.int .i64 p'] 27)).alloc (.cells #[.string a.o,.string a.nm,.slice a.A a.ll a.cap,.int .i64 a.p] 27)).alloc (.cells #[.string ⟨#[]⟩,.string ⟨#[]⟩,.slice none 0 0,.int .i64 0] 27)):=below_t (below_t (below_alloc _ _) (below_alloc _ _)) (below_alloc _ _)
 have HB:=Lib.hid hbl
 have hWk0:Below w.heap.size w (((w.alloc (.cells #[.string o,.string nm',.slice (some ⟨g,0,none⟩) 1 cap,.int .i64 p'] 27)).alloc (.cells #[.string ⟨#[]⟩,.string ⟨#[]⟩,.slice none 0 0,.int .i64 0] 27)).alloc (.cells #[.string ⟨#[]⟩,.string ⟨#[]⟩,.slice none 0 0,.int .i64 0] 27)):=below_t (below_t (below_alloc _ _) (below_alloc _ _)) (below_alloc _ _)
 have k00:(((w.alloc (.cells #[.string o,.string nm',.slice (some ⟨g,0,none⟩) 1 cap,.int .i64 p'] 27)).alloc (.cells #[.string ⟨#[]⟩,.string ⟨#[]⟩,.slice none 0 0,.int .i64 0] 27)).alloc (.cells #[.string ⟨#[]⟩,.string ⟨#[]⟩,.slice none 0 0,.int .i64 0] 27)).cell? ⟨g,0,none⟩=some (.string a.o):=(hWk0.cell (p:=⟨g,0,none⟩) hg).trans k0
 have k10:(((w.alloc (.cells #[.string o,.string nm',.slice (some ⟨g,0,none⟩) 1 cap,.int .i64 p'] 27)).alloc (.cells #[.string ⟨#[]⟩,.string ⟨#[]⟩,.slice none 0 0,.int .i64 0] 27)).alloc (.cells #[.string ⟨#[]⟩,.string ⟨#[]⟩,.slice none 0 0,.int .i64 0] 27)).cell? ⟨g,1,none⟩=some (.string a.nm):=(hWk0.cell (p:=⟨g,1,none⟩) hg).trans k1
 have k20:(((w.alloc (.cells #[.string o,.string nm',.slice (some ⟨g,0,none⟩) 1 cap,.int .i64 p'] 27)).alloc (.cells #[.string ⟨#[]⟩,.string ⟨#[]⟩,.slice none 0 0,.int .i64 0] 27)).alloc (.cells #[.string ⟨#[]⟩,.string ⟨#[]⟩,.slice none 0 0,.int .i64 0] 27)).cell? ⟨g,2,none⟩=some (.slice a.A a.ll a.cap):=(hWk0.cell (p:=⟨g,2,none⟩) hg).trans k2
 have k30:(((w.alloc (.cells #[.string o,.string nm',.slice (some ⟨g,0,none⟩) 1 cap,.int .i64 p'] 27)).alloc (.cells #[.string ⟨#[]⟩,.string ⟨#[]⟩,.slice none 0 0,.int .i64 0] 27)).alloc (.cells #[.string ⟨#[]⟩,.string ⟨#[]⟩,.slice none 0 0,.int .i64 0] 27)).cell? ⟨g,3,none⟩=some (.int .i64 a.p):=(hWk0.cell (p:=⟨g,3,none⟩) hg).trans k3
 clear hWk0
 obtain⟨W,hW⟩:∃W,W=(((w.alloc (.cells #[.string o,.string nm',.slice (some ⟨g,0,none⟩) 1 cap,.int .i64 p'] 27)).alloc (.cells #[.string a.o,.string a.nm,.slice a.A a.ll a.cap,.int .i64 a.p] 27)).alloc (.cells #[.string ⟨#[]⟩,.string ⟨#[]⟩,.slice none 0 0,.int .i64 0] 27)):=⟨_,rfl⟩
 rw[show((w.alloc (.cells #[.string o,.string nm',.slice (some ⟨g,0,none⟩) 1 cap,.int .i64 p'] 27)).alloc (.cells [.string a.o,.string a.nm,.slice a.A a.ll a.cap,.int .i64 a.p].toArray 27)).alloc (.cells #[.string ⟨#[]⟩,.string ⟨#[]⟩,.slice none 0 0,.int .i64 0] 27)=W from hW.symm]at h2'
 rw[show((w.alloc (.cells #[.string o,.string nm',.slice (some ⟨g,0,none⟩) 1 cap,.int .i64 p'] 27)).alloc (.cells #[.string a.o,.string a.nm,.slice a.A a.ll a.cap,.int .i64 a.p] 27)).alloc (.cells [.string ⟨#[]⟩,.string ⟨#[]⟩,.slice none 0 0,.int .i64 0].toArray 27)=W from hW.symm]at h3
 rw[<- hW]at hbl
 have HW:=Lib.hid hW
 have ne:w.heap.size+1≠w.heap.size+1+1:=by omega
 have g2:=h2'
 have g3:=h3
 have hb0:Below w.heap.size w W:=hbl
 have e2:=Bx.set4 (x0:=.string a.o) (x1:=.string a.nm) (x2:=.slice a.A a.ll a.cap) (x3:=.int .i64 a.p) g2
 have e3:=(((g3.far (p:=⟨w.heap.size+1,0,none⟩) ne.symm (.string a.o)).far (p:=⟨w.heap.size+1,1,none⟩) ne.symm (.string a.nm)).far (p:=⟨w.heap.size+1,2,none⟩) ne.symm (.slice a.A a.ll a.cap)).far (p:=⟨w.heap.size+1,3,none⟩) ne.symm (.int .i64 a.p)
 have k2:=(((e2.far (p:=⟨w.heap.size+1+1,0,none⟩) ne (.string ⟨#[]⟩)).far (p:=⟨w.heap.size+1+1,1,none⟩) ne (.string ⟨#[]⟩)).far (p:=⟨w.heap.size+1+1,2,none⟩) ne (.slice none 0 0)).far (p:=⟨w.heap.size+1+1,3,none⟩) ne (.int .i64 0)
 have k3:=Bx.set4 (x0:=.string ⟨#[]⟩) (x1:=.string ⟨#[]⟩) (x2:=.slice none 0 0) (x3:=.int .i64 0) e3
 have hbk:=below_set4 (x0:=.string ⟨#[]⟩) (x1:=.string ⟨#[]⟩) (x2:=.slice none 0 0) (x3:=.int .i64 0) (below_set4 (x0:=.string a.o) (x1:=.string a.nm) (x2:=.slice a.A a.ll a.cap) (x3:=.int .i64 a.p) hb0 (q:=w.heap.size+1) (Nat.le_succ _)) (q:=w.heap.size+1+1) (by omega)
 have HG:=Lib.hid (And.intro h2'.cells4 h3.cells4)
 obtain⟨c0,c1,c2,c3⟩:=h2'.frozen4
 obtain⟨c4,c5,c6,c7⟩:=h3.frozen4
 have HBK:=Lib.hid hbk.drew
 have HY:=Lib.hid (And.intro (k2.below (Below.refl _ _).drew).cells4 (k3.below (Below.refl _ _).drew).cells4)
 have l2:=g2.lt
 have l3:=g3.lt
 clear h2 h3 h2' hbl hb0 g2 g3 e2 e3 k2 k3 hbk hW
 go_enter Tryz.func95,Tryz.ntmps95
 go_wp2_with fail
 rw[<- HW.out]
 obtain⟨⟨a0,a1,a2,a3⟩,a4,a5,a6,a7⟩:=HG.out
 go_region
 obtain⟨⟨y0,y1,y2,y3⟩,y4,y5,y6,y7⟩:=HY.out
 go_wp2
 refine bodyPost_ret (v:=.tuple #[.agg #[.string a.o,.string a.nm,.slice a.A a.ll a.cap,.int .i64 a.p],.agg #[.string ⟨#[]⟩,.string ⟨#[]⟩,.slice none 0 0,.int .i64 0]]) (by simp[results,Tryz.results95,go_sem,y0,y1,y2,y3,y4,y5,y6,y7]) rfl ⟨rfl,HBK.out⟩
theorem sides2{g:Nat}{a b:FV}{o nm':ByteArray}{cap:Nat}{p':Int}(w:World)(hg:g<w.heap.size)(k0:w.cell? ⟨g,0,none⟩=some (.string a.o))(k1:w.cell? ⟨g,1,none⟩=some (.string a.nm))(k2:w.cell? ⟨g,2,none⟩=some (.slice a.A a.ll a.cap))(k3:w.cell? ⟨g,3,none⟩=some (.int .i64 a.p))(m0:w.cell? ⟨g,4,none⟩=some (.string b.o))(m1:w.cell? ⟨g,5,none⟩=some (.string b.nm))(m2:w.cell? ⟨g,6,none⟩=some (.slice b.A b.ll b.cap))(m3:w.cell? ⟨g,7,none⟩=some (.int .i64 b.p)):
 Calls Tryz.prog 95 #[.agg #[.string o,.string nm',.slice (some ⟨g,0,none⟩) 2 cap,.int .i64 p']] w fun e w'=>e= .returned (.tuple #[.agg #[.string a.o,.string a.nm,.slice a.A a.ll a.cap,.int .i64 a.p],.agg #[.string b.o,.string b.nm,.slice b.A b.ll b.cap,.int .i64 b.p]])/\Below w.heap.size w w':=by
 have h2:=Bx.newAt (w:=(w.alloc (.cells #[.string o,.string nm',.slice (some ⟨g,0,none⟩) 2 cap,.int .i64 p'] 27))) (k:=w.heap.size+1) (by simp) 27 [.string a.o,.string a.nm,.slice a.A a.ll a.cap,.int .i64 a.p]
 have h3:=Bx.newAt (w:=((w.alloc (.cells #[.string o,.string nm',.slice (some ⟨g,0,none⟩) 2 cap,.int .i64 p'] 27)).alloc (.cells #[.string a.o,.string a.nm,.slice a.A a.ll a.cap,.int .i64 a.p] 27))) (k:=w.heap.size+1+1) (by simp) 27 [.string b.o,.string b.nm,.slice b.A b.ll b.cap,.int .i64 b.p]
 have h2':=h2.alloc (.cells #[.string b.o,.string b.nm,.slice b.A b.ll b.cap,.int .i64 b.p] 27)
 have hbl:Below w.heap.size w (((w.alloc (.cells #[.string o,.string nm',.slice (some ⟨g,0,none⟩) 2 cap,.int .i64 p'] 27)).alloc (.cells #[.string a.o,.string a.nm,.slice a.A a.ll a.cap,.int .i64 a.p] 27)).alloc (.cells #[.string b.o,.string b.nm,.slice b.A b.ll b.cap,.int .i64 b.p] 27)):=below_t (below_t (below_alloc _ _) (below_alloc _ _)) (below_alloc _ _)
 have HB:=Lib.hid hbl
 have hWk0:Below w.heap.size w (((w.alloc (.cells #[.string o,.string nm',.slice (some ⟨g,0,none⟩) 2 cap,.int .i64 p'] 27)).alloc (.cells #[.string ⟨#[]⟩,.string ⟨#[]⟩,.slice none 0 0,.int .i64 0] 27)).alloc (.cells #[.string ⟨#[]⟩,.string ⟨#[]⟩,.slice none 0 0,.int .i64 0] 27)):=below_t (below_t (below_alloc _ _) (below_alloc _ _)) (below_alloc _ _)
 have k00:(((w.alloc (.cells #[.string o,.string nm',.slice (some ⟨g,0,none⟩) 2 cap,.int .i64 p'] 27)).alloc (.cells #[.string ⟨#[]⟩,.string ⟨#[]⟩,.slice none 0 0,.int .i64 0] 27)).alloc (.cells #[.string ⟨#[]⟩,.string ⟨#[]⟩,.slice none 0 0,.int .i64 0] 27)).cell? ⟨g,0,none⟩=some (.string a.o):=(hWk0.cell (p:=⟨g,0,none⟩) hg).trans k0
 have k10:(((w.alloc (.cells #[.string o,.string nm',.slice (some ⟨g,0,none⟩) 2 cap,.int .i64 p'] 27)).alloc (.cells #[.string ⟨#[]⟩,.string ⟨#[]⟩,.slice none 0 0,.int .i64 0] 27)).alloc (.cells #[.string ⟨#[]⟩,.string ⟨#[]⟩,.slice none 0 0,.int .i64 0] 27)).cell? ⟨g,1,none⟩=some (.string a.nm):=(hWk0.cell (p:=⟨g,1,none⟩) hg).trans k1
 have k20:(((w.alloc (.cells #[.string o,.string nm',.slice (some ⟨g,0,none⟩) 2 cap,.int .i64 p'] 27)).alloc (.cells #[.string ⟨#[]⟩,.string ⟨#[]⟩,.slice none 0 0,.int .i64 0] 27)).alloc (.cells #[.string ⟨#[]⟩,.string ⟨#[]⟩,.slice none 0 0,.int .i64 0] 27)).cell? ⟨g,2,none⟩=some (.slice a.A a.ll a.cap):=(hWk0.cell (p:=⟨g,2,none⟩) hg).trans k2
 have k30:(((w.alloc (.cells #[.string o,.string nm',.slice (some ⟨g,0,none⟩) 2 cap,.int .i64 p'] 27)).alloc (.cells #[.string ⟨#[]⟩,.string ⟨#[]⟩,.slice none 0 0,.int .i64 0] 27)).alloc (.cells #[.string ⟨#[]⟩,.string ⟨#[]⟩,.slice none 0 0,.int .i64 0] 27)).cell? ⟨g,3,none⟩=some (.int .i64 a.p):=(hWk0.cell (p:=⟨g,3,none⟩) hg).trans k3
 clear hWk0
 have hWm0:Below w.heap.size w (((w.alloc (.cells #[.string o,.string nm',.slice (some ⟨g,0,none⟩) 2 cap,.int .i64 p'] 27)).alloc (.cells #[.string a.o,.string a.nm,.slice a.A a.ll a.cap,.int .i64 a.p] 27)).alloc (.cells #[.string ⟨#[]⟩,.string ⟨#[]⟩,.slice none 0 0,.int .i64 0] 27)):=below_t (below_t (below_alloc _ _) (below_alloc _ _)) (below_alloc _ _)
 have m00:(((w.alloc (.cells #[.string o,.string nm',.slice (some ⟨g,0,none⟩) 2 cap,.int .i64 p'] 27)).alloc (.cells #[.string a.o,.string a.nm,.slice a.A a.ll a.cap,.int .i64 a.p] 27)).alloc (.cells #[.string ⟨#[]⟩,.string ⟨#[]⟩,.slice none 0 0,.int .i64 0] 27)).cell? ⟨g,4,none⟩=some (.string b.o):=(hWm0.cell (p:=⟨g,4,none⟩) hg).trans m0
 have m10:(((w.alloc (.cells #[.string o,.string nm',.slice (some ⟨g,0,none⟩) 2 cap,.int .i64 p'] 27)).alloc (.cells #[.string a.o,.string a.nm,.slice a.A a.ll a.cap,.int .i64 a.p] 27)).alloc (.cells #[.string ⟨#[]⟩,.string ⟨#[]⟩,.slice none 0 0,.int .i64 0] 27)).cell? ⟨g,5,none⟩=some (.string b.nm):=(hWm0.cell (p:=⟨g,5,none⟩) hg).trans m1
 have m20:(((w.alloc (.cells #[.string o,.string nm',.slice (some ⟨g,0,none⟩) 2 cap,.int .i64 p'] 27)).alloc (.cells #[.string a.o,.string a.nm,.slice a.A a.ll a.cap,.int .i64 a.p] 27)).alloc (.cells #[.string ⟨#[]⟩,.string ⟨#[]⟩,.slice none 0 0,.int .i64 0] 27)).cell? ⟨g,6,none⟩=some (.slice b.A b.ll b.cap):=(hWm0.cell (p:=⟨g,6,none⟩) hg).trans m2
 have m30:(((w.alloc (.cells #[.string o,.string nm',.slice (some ⟨g,0,none⟩) 2 cap,.int .i64 p'] 27)).alloc (.cells #[.string a.o,.string a.nm,.slice a.A a.ll a.cap,.int .i64 a.p] 27)).alloc (.cells #[.string ⟨#[]⟩,.string ⟨#[]⟩,.slice none 0 0,.int .i64 0] 27)).cell? ⟨g,7,none⟩=some (.int .i64 b.p):=(hWm0.cell (p:=⟨g,7,none⟩) hg).trans m3
 clear hWm0
 obtain⟨W,hW⟩:∃W,W=(((w.alloc (.cells #[.string o,.string nm',.slice (some ⟨g,0,none⟩) 2 cap,.int .i64 p'] 27)).alloc (.cells #[.string a.o,.string a.nm,.slice a.A a.ll a.cap,.int .i64 a.p] 27)).alloc (.cells #[.string b.o,.string b.nm,.slice b.A b.ll b.cap,.int .i64 b.p] 27)):=⟨_,rfl⟩
 rw[show((w.alloc (.cells #[.string o,.string nm',.slice (some ⟨g,0,none⟩) 2 cap,.int .i64 p'] 27)).alloc (.cells [.string a.o,.string a.nm,.slice a.A a.ll a.cap,.int .i64 a.p].toArray 27)).alloc (.cells #[.string b.o,.string b.nm,.slice b.A b.ll b.cap,.int .i64 b.p] 27)=W from hW.symm]at h2'
 rw[show((w.alloc (.cells #[.string o,.string nm',.slice (some ⟨g,0,none⟩) 2 cap,.int .i64 p'] 27)).alloc (.cells #[.string a.o,.string a.nm,.slice a.A a.ll a.cap,.int .i64 a.p] 27)).alloc (.cells [.string b.o,.string b.nm,.slice b.A b.ll b.cap,.int .i64 b.p].toArray 27)=W from hW.symm]at h3
 rw[<- hW]at hbl
 have HW:=Lib.hid hW
 have ne:w.heap.size+1≠w.heap.size+1+1:=by omega
 have g2:=h2'
 have g3:=h3
 have hb0:Below w.heap.size w W:=hbl
 have e2:=Bx.set4 (x0:=.string a.o) (x1:=.string a.nm) (x2:=.slice a.A a.ll a.cap) (x3:=.int .i64 a.p) g2
 have e3:=(((g3.far (p:=⟨w.heap.size+1,0,none⟩) ne.symm (.string a.o)).far (p:=⟨w.heap.size+1,1,none⟩) ne.symm (.string a.nm)).far (p:=⟨w.heap.size+1,2,none⟩) ne.symm (.slice a.A a.ll a.cap)).far (p:=⟨w.heap.size+1,3,none⟩) ne.symm (.int .i64 a.p)
 have k2:=(((e2.far (p:=⟨w.heap.size+1+1,0,none⟩) ne (.string b.o)).far (p:=⟨w.heap.size+1+1,1,none⟩) ne (.string b.nm)).far (p:=⟨w.heap.size+1+1,2,none⟩) ne (.slice b.A b.ll b.cap)).far (p:=⟨w.heap.size+1+1,3,none⟩) ne (.int .i64 b.p)
 have k3:=Bx.set4 (x0:=.string b.o) (x1:=.string b.nm) (x2:=.slice b.A b.ll b.cap) (x3:=.int .i64 b.p) e3
 have hbk:=below_set4 (x0:=.string b.o) (x1:=.string b.nm) (x2:=.slice b.A b.ll b.cap) (x3:=.int .i64 b.p) (below_set4 (x0:=.string a.o) (x1:=.string a.nm) (x2:=.slice a.A a.ll a.cap) (x3:=.int .i64 a.p) hb0 (q:=w.heap.size+1) (Nat.le_succ _)) (q:=w.heap.size+1+1) (by omega)
 have HG:=Lib.hid (And.intro h2'.cells4 h3.cells4)
 obtain⟨c0,c1,c2,c3⟩:=h2'.frozen4
 obtain⟨c4,c5,c6,c7⟩:=h3.frozen4
 have HBK:=Lib.hid hbk.drew
 have HY:=Lib.hid (And.intro (k2.below (Below.refl _ _).drew).cells4 (k3.below (Below.refl _ _).drew).cells4)
 have l2:=g2.lt
 have l3:=g3.lt
 clear h2 h3 h2' hbl hb0 g2 g3 e2 e3 k2 k3 hbk hW
 go_enter Tryz.func95,Tryz.ntmps95
 go_wp2_with fail
 rw[<- HW.out]
 obtain⟨⟨a0,a1,a2,a3⟩,a4,a5,a6,a7⟩:=HG.out
 go_region
 obtain⟨⟨y0,y1,y2,y3⟩,y4,y5,y6,y7⟩:=HY.out
 go_wp2
 refine bodyPost_ret (v:=.tuple #[.agg #[.string a.o,.string a.nm,.slice a.A a.ll a.cap,.int .i64 a.p],.agg #[.string b.o,.string b.nm,.slice b.A b.ll b.cap,.int .i64 b.p]]) (by simp[results,Tryz.results95,go_sem,y0,y1,y2,y3,y4,y5,y6,y7]) rfl ⟨rfl,HBK.out⟩
theorem sides_any{x:Fo}{v:FV}{S:Nat->Prop}(w:World)(h:FS w 27 S x v.c):Calls Tryz.prog 95 #[.agg #[.string v.o,.string v.nm,.slice v.A v.ll v.cap,.int .i64 v.p]] w (NsdP S x w):=by
 obtain⟨hk,hl, -⟩:=h.kr
 obtain⟨o,nm',A,ll,cap,p'⟩:=v
 simp only at hk hl
 cases x with
 | leaf op nm p=>
   obtain rfl:ll=0:=hl
   refine(sides0 w).mono ?_
   rintro e w1 ⟨rfl,hb⟩
   exact⟨fv0,fv0,rfl,rfl,rfl,hb⟩
 | un op x p=>
   obtain rfl:ll=1:=hl
   obtain⟨g,a,rfl,hg,hx,c0,c1,c2,c3⟩:=hk 0 (by simp[Fo.kids])
   simp only[Nat.zero_mul,Nat.zero_add]at c0 c1 c2 c3
   refine(sides1 w hg c0 c1 c2 c3).mono ?_
   rintro e w1 ⟨rfl,hb⟩
   exact⟨a,fv0,rfl,hx,rfl,hb⟩
 | bin op x y p=>
   obtain rfl:ll=2:=hl
   obtain⟨g,a,hA,hg,hx,c0,c1,c2,c3⟩:=hk 0 (by simp[Fo.kids])
   obtain⟨g',b,hA',hg',hy,d0,d1,d2,d3⟩:=hk 1 (by simp[Fo.kids])
   subst hA
   injection hA' with hA'
   injection hA' with hA'
   subst hA'
   simp only[Nat.zero_mul,Nat.zero_add]at c0 c1 c2 c3
   refine(sides2 w hg c0 c1 c2 c3 d0 d1 d2 d3).mono ?_
   rintro e w1 ⟨rfl,hb⟩
   exact⟨a,b,rfl,hx,hy,hb⟩
end
section
open Go.RowKit
def NfP(y:Fo)(n' q:Nat)(ok:Prop)(w:World)(e:Ending)(w':World):Prop:=
 ∃v:FV,e= .returned (.agg #[.string v.o,.string v.nm,.slice v.A v.ll v.cap,.int .i64 v.p])/\Fx1 q w w'/\Bx w' q 136 [.int .i64 ((n':Nat):Int)]/\(ok->FI w' y w.heap.size w'.heap.size v.c)
def labO'(nm:List UInt8)(b:Bool):Fo:=if b=true then .un [33] (.leaf opLab nm 0) 0 else .leaf opLab nm 0
theorem nlabel_f{q n:Nat}{nm:ByteArray}(w:World)(hb:Bx w q 136 [.int .i64 (n:Int)])(hn:n<=999999)(hs:nm.size<=65536):Calls Tryz.prog 127 #[.pointer (some ⟨q,0,none⟩),.string nm,.bool false] w (NfP (labO' nm.data.toList false) (n+1) q True w):=by
 have hql:=hb.lt
 have hR0:Bx (w.alloc (.cells #[.string ⟨#[]⟩,.string ⟨#[]⟩,.slice none 0 0,.int .i64 0] 27)) w.heap.size 27 fz:=Bx.new w 27 fz
 have H1:=Lib.hid (none_any (o:=⟨#[108,97,98,101,108]⟩) (A:=none) (l:=0) (cap:=0) (w.alloc (.cells #[.string ⟨#[]⟩,.string ⟨#[]⟩,.slice none 0 0,.int .i64 0] 27)) (hb.alloc _) (by omega))
 have HCL:=Lib.hid (fun W=>clone_any nm W hs)
 have HR0:=Lib.hid hR0
 clear hb hR0
 go_enter Tryz.func127,Tryz.ntmps127
 go_wp2_with fail
 with_reducible refine(H1.out).mono ?_
 rintro e w1 ⟨rfl,hf1,hb1⟩
 have hq1:w.heap.size≠q:=by omega
 have hR1:=HR0.out.fx hf1 hq1
 have hsz:w.heap.size<w1.heap.size:=hR1.lt
 have HB1:=Lib.hid hb1
 have HF1:=Lib.hid (((Fx.refl (fun k=>k=q) w).alloc (.cells #[.string ⟨#[]⟩,.string ⟨#[]⟩,.slice none 0 0,.int .i64 0] 27)).trans hf1)
 have HR1:=Lib.hid hR1
 clear hf1 hb1 hR1 HR0
 go_wp2_with fail
 with_reducible refine(HCL.out _).mono ?_
 rintro e w2 ⟨rfl,hb2⟩
 have hbox:=(Bx.new w1 27 [.string ⟨#[108,97,98,101,108]⟩,.string ⟨#[]⟩,.slice none 0 0,.int .i64 0]).below hb2
 have hk:Below w1.heap.size w1 w2:=below_t (below_alloc _ _) hb2
 have hq2:=(HB1.out).lt
 have hbox3:Bx (w2.setCell ⟨w1.heap.size,1,none⟩ (.string nm)) w1.heap.size 27 [.string ⟨#[108,97,98,101,108]⟩,.string nm,.slice none 0 0,.int .i64 0]:=hbox.set 1 (.string nm)
 have HRS:=Lib.hid (show Bx (w2.setCell ⟨w1.heap.size,1,none⟩ (.string nm)) w.heap.size 27 fz from(HR1.out.below hk).far (by simp;omega) _)
 have HQS:=Lib.hid (show Bx (w2.setCell ⟨w1.heap.size,1,none⟩ (.string nm)) q 136 _ from(HB1.out.below hk).far (by simp;omega) _)
 have HFS:=Lib.hid (show Fx1 q w (w2.setCell ⟨w1.heap.size,1,none⟩ (.string nm))from(HF1.out.on hk).setCell (p:=⟨w1.heap.size,1,none⟩) (.inl (Nat.le_of_lt hsz)) _)
 obtain⟨c0,c1,c2,c3⟩:=hbox3.cells4
 have hfz:=hbox.frozen 1
 have hcl:=(hbox.cell 1).trans rfl
 have hl1:=hbox.lt
 clear hb2 hk HB1 HF1 HR1
 obtain⟨f0,f1,f2,f3⟩:=(HRS.out).frozen4
 obtain⟨z0,z1,z2,z3⟩:=(HRS.out).cells4
 have hl:=(HRS.out).lt
 obtain⟨y0,y1,y2,y3⟩:=(Bx.set4 (x0:=.string ⟨#[108,97,98,101,108]⟩) (x1:=.string nm) (x2:=.slice none 0 0) (x3:=.int .i64 0) (HRS.out)).cells4
 have HQ9:=Lib.hid (show Bx (((((w2.setCell ⟨w1.heap.size,1,none⟩ (.string nm)).setCell ⟨w.heap.size,0,none⟩ (.string ⟨#[108,97,98,101,108]⟩)).setCell ⟨w.heap.size,1,none⟩ (.string nm)).setCell ⟨w.heap.size,2,none⟩ (.slice none 0 0)).setCell ⟨w.heap.size,3,none⟩ (.int .i64 0)) q 136 _ from((((HQS.out).far (by simp;omega) _).far (by simp;omega) _).far (by simp;omega) _).far (by simp;omega) _)
 have HF9:=Lib.hid (Fx.set4 (x0:=.string ⟨#[108,97,98,101,108]⟩) (x1:=.string nm) (x2:=.slice none 0 0) (x3:=.int .i64 0) (HFS.out) (q:=w.heap.size) (.inl (Nat.le_refl _)))
 clear hbox hbox3
 go_wp2
 refine bodyPost_ret (v:=.agg #[.string ⟨#[108,97,98,101,108]⟩,.string nm,.slice none 0 0,.int .i64 0]) (by simp[results,Tryz.results127,go_sem,y0,y1,y2,y3]) rfl ⟨⟨⟨#[108,97,98,101,108]⟩,nm,none,0,0,0⟩,rfl,HF9.out,HQ9.out,fun _=>⟨HF9.out.size,rfl⟩⟩
theorem nlabel_t{q n:Nat}{nm:ByteArray}(w:World)(hb:Bx w q 136 [.int .i64 (n:Int)])(hn:n<=999999)(hs:nm.size<=65536):Calls Tryz.prog 127 #[.pointer (some ⟨q,0,none⟩),.string nm,.bool true] w (NfP (labO' nm.data.toList true) (n+2) q True w):=by
 have hql:=hb.lt
 have hR0:Bx (w.alloc (.cells #[.string ⟨#[]⟩,.string ⟨#[]⟩,.slice none 0 0,.int .i64 0] 27)) w.heap.size 27 fz:=Bx.new w 27 fz
 have H1:=Lib.hid (none_any (o:=⟨#[108,97,98,101,108]⟩) (A:=none) (l:=0) (cap:=0) (w.alloc (.cells #[.string ⟨#[]⟩,.string ⟨#[]⟩,.slice none 0 0,.int .i64 0] 27)) (hb.alloc _) (by omega))
 have HCL:=Lib.hid (fun W=>clone_any nm W hs)
 have HR0:=Lib.hid hR0
 clear hb hR0
 go_enter Tryz.func127,Tryz.ntmps127
 go_wp2_with fail
 with_reducible refine(H1.out).mono ?_
 rintro e w1 ⟨rfl,hf1,hb1⟩
 have hq1:w.heap.size≠q:=by omega
 have hR1:=HR0.out.fx hf1 hq1
 have hsz:w.heap.size<w1.heap.size:=hR1.lt
 have HB1:=Lib.hid hb1
 have HF1:=Lib.hid (((Fx.refl (fun k=>k=q) w).alloc (.cells #[.string ⟨#[]⟩,.string ⟨#[]⟩,.slice none 0 0,.int .i64 0] 27)).trans hf1)
 have HR1:=Lib.hid hR1
 clear hf1 hb1 hR1 HR0
 go_wp2_with fail
 with_reducible refine(HCL.out _).mono ?_
 rintro e w2 ⟨rfl,hb2⟩
 have hbox:=(Bx.new w1 27 [.string ⟨#[108,97,98,101,108]⟩,.string ⟨#[]⟩,.slice none 0 0,.int .i64 0]).below hb2
 have hk:Below w1.heap.size w1 w2:=below_t (below_alloc _ _) hb2
 have hq2:=(HB1.out).lt
 have hbox3:Bx (w2.setCell ⟨w1.heap.size,1,none⟩ (.string nm)) w1.heap.size 27 [.string ⟨#[108,97,98,101,108]⟩,.string nm,.slice none 0 0,.int .i64 0]:=hbox.set 1 (.string nm)
 have HRS:=Lib.hid (show Bx (w2.setCell ⟨w1.heap.size,1,none⟩ (.string nm)) w.heap.size 27 fz from(HR1.out.below hk).far (by simp;omega) _)
 have HQS:=Lib.hid (show Bx (w2.setCell ⟨w1.heap.size,1,none⟩ (.string nm)) q 136 _ from(HB1.out.below hk).far (by simp;omega) _)
 have HFS:=Lib.hid (show Fx1 q w (w2.setCell ⟨w1.heap.size,1,none⟩ (.string nm))from(HF1.out.on hk).setCell (p:=⟨w1.heap.size,1,none⟩) (.inl (Nat.le_of_lt hsz)) _)
 obtain⟨c0,c1,c2,c3⟩:=hbox3.cells4
 have hfz:=hbox.frozen 1
 have hcl:=(hbox.cell 1).trans rfl
 have hl1:=hbox.lt
 clear hb2 hk HB1 HF1 HR1
 have H2:=Lib.hid (fun(W:World) (hb:Bx W q 136 [.int .i64 ((n+1:Nat):Int)]) (l:Nat)=>none_any (o:=⟨#[33]⟩) (A:=some ⟨l,0,none⟩) (l:=1) (cap:=1) W hb (by omega))
 clear hbox hbox3
 have HG:=Lib.hid (show Bx ((w2.setCell ⟨w1.heap.size,1,none⟩ (.string nm)).alloc (.cells #[.string ⟨#[108,97,98,101,108]⟩,.string nm,.slice none 0 0,.int .i64 0] 27)) w2.heap.size 27 [.string ⟨#[108,97,98,101,108]⟩,.string nm,.slice none 0 0,.int .i64 0]from Bx.newAt (by simp) 27 _)
 go_wp2_with fail
 with_reducible refine(H2.out _ (HQS.out.alloc _) _).mono ?_
 rintro e w3 ⟨rfl,hf3,hb3⟩
 have hg3:=HG.out.fx hf3 (by omega)
 have hgl:=hg3.lt
 have HR3:=Lib.hid ((HRS.out.alloc (.cells #[.string ⟨#[108,97,98,101,108]⟩,.string nm,.slice none 0 0,.int .i64 0] 27)).fx hf3 hq1)
 have HF3:=Lib.hid ((HFS.out.alloc (.cells #[.string ⟨#[108,97,98,101,108]⟩,.string nm,.slice none 0 0,.int .i64 0] 27)).trans hf3)
 have HB3:=Lib.hid hb3
 have HG9:=Lib.hid (show Bx ((((w3.setCell ⟨w.heap.size,0,none⟩ (.string ⟨#[33]⟩)).setCell ⟨w.heap.size,1,none⟩ (.string ⟨#[]⟩)).setCell ⟨w.heap.size,2,none⟩ (.slice (some ⟨w2.heap.size,0,none⟩) 1 1)).setCell ⟨w.heap.size,3,none⟩ (.int .i64 0)) w2.heap.size 27 _ from(((hg3.far (by simp;omega) _).far (by simp;omega) _).far (by simp;omega) _).far (by simp;omega) _)
 clear hf3 hb3 hg3 HG HRS HFS HQS c0 c1 c2 c3
 obtain⟨f0,f1,f2,f3⟩:=(HR3.out).frozen4
 obtain⟨z0,z1,z2,z3⟩:=(HR3.out).cells4
 have hl:=(HR3.out).lt
 obtain⟨y0,y1,y2,y3⟩:=(Bx.set4 (x0:=.string ⟨#[33]⟩) (x1:=.string ⟨#[]⟩) (x2:=.slice (some ⟨w2.heap.size,0,none⟩) 1 1) (x3:=.int .i64 0) (HR3.out)).cells4
 have HQ9:=Lib.hid (show Bx ((((w3.setCell ⟨w.heap.size,0,none⟩ (.string ⟨#[33]⟩)).setCell ⟨w.heap.size,1,none⟩ (.string ⟨#[]⟩)).setCell ⟨w.heap.size,2,none⟩ (.slice (some ⟨w2.heap.size,0,none⟩) 1 1)).setCell ⟨w.heap.size,3,none⟩ (.int .i64 0)) q 136 _ from((((HB3.out).far (by simp;omega) _).far (by simp;omega) _).far (by simp;omega) _).far (by simp;omega) _)
 have HF9:=Lib.hid (Fx.set4 (x0:=.string ⟨#[33]⟩) (x1:=.string ⟨#[]⟩) (x2:=.slice (some ⟨w2.heap.size,0,none⟩) 1 1) (x3:=.int .i64 0) (HF3.out) (q:=w.heap.size) (.inl (Nat.le_refl _)))
 go_wp2
 refine bodyPost_ret (v:=.agg #[.string ⟨#[33]⟩,.string ⟨#[]⟩,.slice (some ⟨w2.heap.size,0,none⟩) 1 1,.int .i64 0]) (by simp[results,Tryz.results127,go_sem,y0,y1,y2,y3]) rfl ⟨⟨⟨#[33]⟩,⟨#[]⟩,some ⟨w2.heap.size,0,none⟩,1,1,0⟩,rfl,HF9.out,HQ9.out,fun _=>⟨w2.heap.size,1,_,rfl,by simp;omega,Nat.le_refl _,HG9.out,by omega,rfl⟩⟩
end
section
open Go.RowKit
def FMC(x:Fo):Prop:=∀(b:Bool) (n q:Nat) (S:Nat->Prop) (v:FV) (w:World),FS w 27 S x v.c->Bx w q 136 [.int .i64 (n:Int)]->n<=30000->
 Calls Tryz.prog 92 #[.pointer (some ⟨q,0,none⟩),.agg #[.string v.o,.string v.nm,.slice v.A v.ll v.cap,.int .i64 v.p],.bool b] w (NfP (nO x b) (cM x b n) q (n+(nO x b).size<=4096) w)
theorem FI.fx1{w w':World}{x:Fo}{lo hi q:Nat}{c:List Value}(h:FI w x lo hi c)(hf:Fx1 q w w')(hq:q<lo):FI w' x lo hi c:=h.keep fun k h1 _ h3=>hf.block k h3 (by omega)
theorem FI.set4{w:World}{x:Fo}{lo hi q:Nat}{c:List Value}{x0 x1 x2 x3:Value}(h:FI w x lo hi c)(hq:q<lo∨hi<=q):FI ((((w.setCell ⟨q,0,none⟩ x0).setCell ⟨q,1,none⟩ x1).setCell ⟨q,2,none⟩ x2).setCell ⟨q,3,none⟩ x3) x lo hi c:=h.keep fun k h1 h2 _=>by
 have hk:k≠q:=by omega
 rw[Below.heap_setCell _ ⟨q,3,none⟩ _ k hk,Below.heap_setCell _ ⟨q,2,none⟩ _ k hk,Below.heap_setCell _ ⟨q,1,none⟩ _ k hk,Below.heap_setCell _ ⟨q,0,none⟩ _ k hk]
theorem ntwo_any{l r:Fo}(hl:FMC l)(hr:FMC r)(zl:l.size<=4096)(zr:r.size<=4096)(ol:OkF l){b:Bool}{n q:Nat}{S:Nat->Prop}{vl vr:FV}{o:ByteArray}(w:World)(fl:FS w 27 S l vl.c)(fr:FS w 27 S r vr.c)
 (hb:Bx w q 136 [.int .i64 (n:Int)]) (hn:n<=4096):
 Calls Tryz.prog 129 #[.pointer (some ⟨q,0,none⟩),.string o,.agg #[.string vl.o,.string vl.nm,.slice vl.A vl.ll vl.cap,.int .i64 vl.p],.agg #[.string vr.o,.string vr.nm,.slice vr.A vr.ll vr.cap,.int .i64 vr.p],.bool b] w (NfP (.bin o.data.toList (nO l b) (nO r b) 0) (cM r b (cM l b n)+1) q (n+(nO l b).size+(nO r b).size+1<=4096) w):=by
 have hql:=hb.lt
 have hbl:Below w.heap.size w (((w.alloc (.cells #[.string vl.o,.string vl.nm,.slice vl.A vl.ll vl.cap,.int .i64 vl.p] 27)).alloc (.cells #[.string vr.o,.string vr.nm,.slice vr.A vr.ll vr.cap,.int .i64 vr.p] 27)).alloc (.cells #[.string ⟨#[]⟩,.string ⟨#[]⟩,.slice none 0 0,.int .i64 0] 27)):=below_t (below_t (below_alloc _ _) (below_alloc _ _)) (below_alloc _ _)
 have h7:Bx (((w.alloc (.cells #[.string vl.o,.string vl.nm,.slice vl.A vl.ll vl.cap,.int .i64 vl.p] 27)).alloc (.cells #[.string vr.o,.string vr.nm,.slice vr.A vr.ll vr.cap,.int .i64 vr.p] 27)).alloc (.cells #[.string ⟨#[]⟩,.string ⟨#[]⟩,.slice none 0 0,.int .i64 0] 27)) w.heap.size 27 [.string vl.o,.string vl.nm,.slice vl.A vl.ll vl.cap,.int .i64 vl.p]:=((Bx.new w 27 [.string vl.o,.string vl.nm,.slice vl.A vl.ll vl.cap,.int .i64 vl.p]).alloc _).alloc _
 have h8:Bx (((w.alloc (.cells #[.string vl.o,.string vl.nm,.slice vl.A vl.ll vl.cap,.int .i64 vl.p] 27)).alloc (.cells #[.string vr.o,.string vr.nm,.slice vr.A vr.ll vr.cap,.int .i64 vr.p] 27)).alloc (.cells #[.string ⟨#[]⟩,.string ⟨#[]⟩,.slice none 0 0,.int .i64 0] 27)) (w.heap.size+1) 27 [.string vr.o,.string vr.nm,.slice vr.A vr.ll vr.cap,.int .i64 vr.p]:=(Bx.newAt (w:=(w.alloc (.cells #[.string vl.o,.string vl.nm,.slice vl.A vl.ll vl.cap,.int .i64 vl.p] 27))) (k:=w.heap.size+1) (by simp) 27 [.string vr.o,.string vr.nm,.slice vr.A vr.ll vr.cap,.int .i64 vr.p]).alloc _
 have h9:Bx (((w.alloc (.cells #[.string vl.o,.string vl.nm,.slice vl.A vl.ll vl.cap,.int .i64 vl.p] 27)).alloc (.cells #[.string vr.o,.string vr.nm,.slice vr.A vr.ll vr.cap,.int .i64 vr.p] 27)).alloc (.cells #[.string ⟨#[]⟩,.string ⟨#[]⟩,.slice none 0 0,.int .i64 0] 27)) (w.heap.size+1+1) 27 fz:=Bx.newAt (by simp) 27 fz
 have hsz:(((w.alloc (.cells #[.string vl.o,.string vl.nm,.slice vl.A vl.ll vl.cap,.int .i64 vl.p] 27)).alloc (.cells #[.string vr.o,.string vr.nm,.slice vr.A vr.ll vr.cap,.int .i64 vr.p] 27)).alloc (.cells #[.string ⟨#[]⟩,.string ⟨#[]⟩,.slice none 0 0,.int .i64 0] 27)).heap.size=w.heap.size+1+1+1:=by simp
 obtain⟨W0,hW0⟩:∃W,W=(((w.alloc (.cells #[.string vl.o,.string vl.nm,.slice vl.A vl.ll vl.cap,.int .i64 vl.p] 27)).alloc (.cells #[.string vr.o,.string vr.nm,.slice vr.A vr.ll vr.cap,.int .i64 vr.p] 27)).alloc (.cells #[.string ⟨#[]⟩,.string ⟨#[]⟩,.slice none 0 0,.int .i64 0] 27)):=⟨_,rfl⟩
 rw[<- hW0]at hbl h7 h8 h9 hsz
 have HSS:=Lib.hid (show ∀w',Fx1 q W0 w'->(w'.cell? ⟨w.heap.size,0,none⟩=some (.string vl.o)/\w'.cell? ⟨w.heap.size,1,none⟩=some (.string vl.nm)/\w'.cell? ⟨w.heap.size,2,none⟩=some (.slice vl.A vl.ll vl.cap)/\w'.cell? ⟨w.heap.size,3,none⟩=some (.int .i64 vl.p)/\w'.cell? ⟨w.heap.size+1,0,none⟩=some (.string vr.o)/\w'.cell? ⟨w.heap.size+1,1,none⟩=some (.string vr.nm)/\w'.cell? ⟨w.heap.size+1,2,none⟩=some (.slice vr.A vr.ll vr.cap)/\w'.cell? ⟨w.heap.size+1,3,none⟩=some (.int .i64 vr.p))from fun w' hf=>by
  obtain⟨a0,a1,a2,a3⟩:=(h7.fx hf (show ¬w.heap.size=q by omega)).cells4
  obtain⟨a4,a5,a6,a7⟩:=(h8.fx hf (show ¬w.heap.size+1=q by omega)).cells4
  exact⟨a0,a1,a2,a3,a4,a5,a6,a7⟩)
 have HRS:=Lib.hid (show ∀w',Fx1 q W0 w'->Bx w' (w.heap.size+1+1) 27 fz from fun w' hf=>h9.fx hf (show ¬w.heap.size+1+1=q by omega))
 have hc1:cM l b n<=30000:=by have:=cm_le l b n;omega
 have hc2:cM r b (cM l b n)<=30000:=by
  rcases Nat.lt_or_ge 4096 (cM l b n)with g | g
  · rw[cm_full r b _ g];exact hc1
  · have:=cm_le r b (cM l b n);omega
 have HOK:=Lib.hid (show n+(nO l b).size+(nO r b).size+1<=4096->n+(nO l b).size<=4096/\cM l b n+(nO r b).size<=4096 from fun h=>by
  have h1:n+(nO l b).size<=4096:=by omega
  exact⟨h1,by rw[(cm_is l ol b n hn).1 h1];omega⟩)
 have HLC:=Lib.hid (fun(W:World) (hf:Fx1 q W0 W) (hbW:Bx W q 136 [.int .i64 (n:Int)])=>hl b n q S vl W ((fl.below hbl).fx1 hf (hb.below hbl) (by decide)) hbW (by omega))
 have HRC:=Lib.hid (fun(W:World) (hf:Fx1 q W0 W) (hbW:Bx W q 136 [.int .i64 ((cM l b n:Nat):Int)])=>hr b (cM l b n) q S vr W ((fr.below hbl).fx1 hf (hb.below hbl) (by decide)) hbW hc1)
 obtain⟨n2,hn2⟩:∃k,k=cM r b (cM l b n):=⟨_,rfl⟩
 rw[<- hn2]at hc2 HRC ⊢
 have H1C:=Lib.hid (fun(W:World) (g:Nat) (hbW:Bx W q 136 [.int .i64 ((n2:Nat):Int)])=>none_any (o:=o) (A:=some ⟨g,0,none⟩) (l:=2) (cap:=2) W hbW (by omega))
 have lkq:Bx W0.drew q 136 [.int .i64 (n:Int)]:=(hb.below hbl).below (Below.refl _ _).drew
 have lk:Fx1 q W0 W0.drew:=(Fx.refl _ _).drew
 have HBL:=Lib.hid hbl
 have H7:=Lib.hid h7
 have H8:=Lib.hid h8
 have HSZ:=Lib.hid hsz
 have HW0:=Lib.hid hW0
 clear hb hbl h7 h8 h9 hsz hc1 hc2 hn2 fl fr hl hr zl zr ol hW0
 generalize nO l b=L at*
 generalize nO r b=R at*
 generalize cM l b n=n1 at*
 clear l r
 go_enter Tryz.func129,Tryz.ntmps129
 go_wp2_with fail
 rw[<- HW0.out]
 go_region_held3 (fun w'=>w'.cell? ⟨w.heap.size,0,none⟩=some (.string vl.o)/\w'.cell? ⟨w.heap.size,1,none⟩=some (.string vl.nm)/\w'.cell? ⟨w.heap.size,2,none⟩=some (.slice vl.A vl.ll vl.cap)/\w'.cell? ⟨w.heap.size,3,none⟩=some (.int .i64 vl.p)/\w'.cell? ⟨w.heap.size+1,0,none⟩=some (.string vr.o)/\w'.cell? ⟨w.heap.size+1,1,none⟩=some (.string vr.nm)/\w'.cell? ⟨w.heap.size+1,2,none⟩=some (.slice vr.A vr.ll vr.cap)/\w'.cell? ⟨w.heap.size+1,3,none⟩=some (.int .i64 vr.p)) (first | exact HSS.out _ lk | exact HSS.out _ (lk.alloc _) | exact HS9.out) (first
  | (go_at_call 92
     with_reducible refine(HLC.out _ lk lkq).mono ?_
     rintro e w1 ⟨va,rfl,hf1,hb1,hi1⟩
     have HI1:=Lib.hid hi1
     have HZ1:=Lib.hid (show W0.heap.size<=w1.heap.size from(lk.trans hf1).size)
     replace lk:Fx1 q W0 w1:=lk.trans hf1
     replace lkq:=hb1
     clear hf1 hb1 hi1)
  | (go_at_call 92
     with_reducible refine(HRC.out _ lk lkq).mono ?_
     rintro e w2 ⟨vb,rfl,hf2,hb2,hi2⟩
     have HI2:=Lib.hid hi2
     have HF2:=Lib.hid hf2
     have HZ2:=Lib.hid hf2.size
     replace lk:Fx1 q W0 w2:=lk.trans hf2
     replace lkq:=hb2
     clear hf2 hb2 hi2)
  | (go_at_call 125
     with_reducible refine(H1C.out _ _ (lkq.alloc _)).mono ?_
     rintro e w3 ⟨rfl,hf3,hb3⟩
     have HF3:=Lib.hid hf3
     have hlk3:Fx1 q W0 w3:=(lk.alloc _).trans hf3
     have hR:=HRS.out _ hlk3
     obtain⟨f0,f1,f2,f3⟩:=hR.frozen4
     obtain⟨z0,z1,z2,z3⟩:=hR.cells4
     have hl:=hR.lt
     have HY:=Lib.hid (Bx.set4 (x0:=.string o) (x1:=.string ⟨#[]⟩) (x2:=.slice (some ⟨w2.heap.size,0,none⟩) 2 2) (x3:=.int .i64 0) hR).cells4
     have HF9:=Lib.hid (Fx.set4 (x0:=.string o) (x1:=.string ⟨#[]⟩) (x2:=.slice (some ⟨w2.heap.size,0,none⟩) 2 2) (x3:=.int .i64 0) ((Fx.of (X:=fun k=>k=q) HBL.out).trans hlk3) (q:=w.heap.size+1+1) (.inl (by omega)))
     have hs7:=(((((H7.out.fx hlk3 (show ¬w.heap.size=q by omega)).far (p:=⟨w.heap.size+1+1,0,none⟩) (by simp;omega) (.string o)).far (p:=⟨w.heap.size+1+1,1,none⟩) (by simp;omega) (.string ⟨#[]⟩)).far (p:=⟨w.heap.size+1+1,2,none⟩) (by simp;omega) (.slice (some ⟨w2.heap.size,0,none⟩) 2 2)).far (p:=⟨w.heap.size+1+1,3,none⟩) (by simp;omega) (.int .i64 0)).cells4
     have hs8:=(((((H8.out.fx hlk3 (show ¬w.heap.size+1=q by omega)).far (p:=⟨w.heap.size+1+1,0,none⟩) (by simp) (.string o)).far (p:=⟨w.heap.size+1+1,1,none⟩) (by simp) (.string ⟨#[]⟩)).far (p:=⟨w.heap.size+1+1,2,none⟩) (by simp) (.slice (some ⟨w2.heap.size,0,none⟩) 2 2)).far (p:=⟨w.heap.size+1+1,3,none⟩) (by simp) (.int .i64 0)).cells4
     have HS9:=Lib.hid (show(fun w':World=>w'.cell? ⟨w.heap.size,0,none⟩=some (.string vl.o)/\w'.cell? ⟨w.heap.size,1,none⟩=some (.string vl.nm)/\w'.cell? ⟨w.heap.size,2,none⟩=some (.slice vl.A vl.ll vl.cap)/\w'.cell? ⟨w.heap.size,3,none⟩=some (.int .i64 vl.p)/\w'.cell? ⟨w.heap.size+1,0,none⟩=some (.string vr.o)/\w'.cell? ⟨w.heap.size+1,1,none⟩=some (.string vr.nm)/\w'.cell? ⟨w.heap.size+1,2,none⟩=some (.slice vr.A vr.ll vr.cap)/\w'.cell? ⟨w.heap.size+1,3,none⟩=some (.int .i64 vr.p)) ((((w3.setCell ⟨w.heap.size+1+1,0,none⟩ (.string o)).setCell ⟨w.heap.size+1+1,1,none⟩ (.string ⟨#[]⟩)).setCell ⟨w.heap.size+1+1,2,none⟩ (.slice (some ⟨w2.heap.size,0,none⟩) 2 2)).setCell ⟨w.heap.size+1+1,3,none⟩ (.int .i64 0))from⟨hs7.1,hs7.2.1,hs7.2.2.1,hs7.2.2.2,hs8.1,hs8.2.1,hs8.2.2.1,hs8.2.2.2⟩)
     clear hs7 hs8
     have HQ9:=Lib.hid (show Bx ((((w3.setCell ⟨w.heap.size+1+1,0,none⟩ (.string o)).setCell ⟨w.heap.size+1+1,1,none⟩ (.string ⟨#[]⟩)).setCell ⟨w.heap.size+1+1,2,none⟩ (.slice (some ⟨w2.heap.size,0,none⟩) 2 2)).setCell ⟨w.heap.size+1+1,3,none⟩ (.int .i64 0)) q 136 _ from(((hb3.far (by simp;omega) _).far (by simp;omega) _).far (by simp;omega) _).far (by simp;omega) _)
     replace lk:=hlk3
     clear hf3 hb3 hlk3 hR))
 obtain⟨y0,y1,y2,y3⟩:=HY.out
 have HFI:=Lib.hid (show n+L.size+R.size+1<=4096->FI ((((w3.setCell ⟨w.heap.size+1+1,0,none⟩ (.string o)).setCell ⟨w.heap.size+1+1,1,none⟩ (.string ⟨#[]⟩)).setCell ⟨w.heap.size+1+1,2,none⟩ (.slice (some ⟨w2.heap.size,0,none⟩) 2 2)).setCell ⟨w.heap.size+1+1,3,none⟩ (.int .i64 0)) (.bin o.data.toList L R 0) w.heap.size ((((w3.setCell ⟨w.heap.size+1+1,0,none⟩ (.string o)).setCell ⟨w.heap.size+1+1,1,none⟩ (.string ⟨#[]⟩)).setCell ⟨w.heap.size+1+1,2,none⟩ (.slice (some ⟨w2.heap.size,0,none⟩) 2 2)).setCell ⟨w.heap.size+1+1,3,none⟩ (.int .i64 0)).heap.size (FV.c ⟨o,⟨#[]⟩,some ⟨w2.heap.size,0,none⟩,2,2,0⟩)from fun hok=>by
  obtain⟨h1,h2⟩:=HOK.out hok
  have hq0:q<W0.heap.size:=by have:=HSZ.out;omega
  have hz1:=HZ1.out
  have hz2:=HZ2.out
  have hz3:=HSZ.out
  have hg:=(Bx.new w2 27 (va.c++vb.c)).fx HF3.out (show ¬w2.heap.size=q by omega)
  have hgl:=hg.lt
  have i1:=(((((HI1.out h1).fx1 HF2.out hq0).below (below_alloc w2 (.cells (va.c++vb.c).toArray 27))).fx1 HF3.out hq0).set4 (x0:=.string o) (x1:=.string ⟨#[]⟩) (x2:=.slice (some ⟨w2.heap.size,0,none⟩) 2 2) (x3:=.int .i64 0) (q:=w.heap.size+1+1) (.inl (by show _<W0.heap.size;omega)))
  have i2:=((((HI2.out h2).below (below_alloc w2 (.cells (va.c++vb.c).toArray 27))).fx1 HF3.out (by omega)).set4 (x0:=.string o) (x1:=.string ⟨#[]⟩) (x2:=.slice (some ⟨w2.heap.size,0,none⟩) 2 2) (x3:=.int .i64 0) (q:=w.heap.size+1+1) (.inl (by omega)))
  have hg4:=(((hg.far (p:=⟨w.heap.size+1+1,0,none⟩) (by simp;omega) (.string o)).far (p:=⟨w.heap.size+1+1,1,none⟩) (by simp;omega) (.string ⟨#[]⟩)).far (p:=⟨w.heap.size+1+1,2,none⟩) (by simp;omega) (.slice (some ⟨w2.heap.size,0,none⟩) 2 2)).far (p:=⟨w.heap.size+1+1,3,none⟩) (by simp;omega) (.int .i64 0)
  refine⟨w2.heap.size,w1.heap.size,2,_,_,?_,hg4.lt,Nat.le_refl _,hg4,i1.mono (by show _<=W0.heap.size;omega) (Nat.le_refl _),i2⟩
  rfl)
 go_wp2
 refine bodyPost_ret (v:=.agg #[.string o,.string ⟨#[]⟩,.slice (some ⟨w2.heap.size,0,none⟩) 2 2,.int .i64 0]) (by simp[results,Tryz.results129,go_sem,y0,y1,y2,y3]) rfl ⟨⟨o,⟨#[]⟩,some ⟨w2.heap.size,0,none⟩,2,2,0⟩,rfl,HF9.out,HQ9.out,HFI.out⟩
end
end Go.Proofs.YtmgjpjjglghbaaaGreatDoor
