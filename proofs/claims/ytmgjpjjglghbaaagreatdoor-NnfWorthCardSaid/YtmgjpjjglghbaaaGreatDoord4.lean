import Derived.Test.YtmgjpjjglghbaaaGreatDoord3
namespace Go.Proofs.YtmgjpjjglghbaaaGreatDoor
set_option maxHeartbeats 16000000
set_option maxRecDepth 100000
section
open Go.RowKit
theorem NfP.of{y y':Fo}{n n' q:Nat}{ok ok':Prop}{w w':World}{e:Ending}(h:NfP y n q ok w e w')(hy:y=y')(hn:n=n')(ho:ok'->ok):NfP y' n' q ok' w e w':=by
 subst hy hn
 obtain⟨v,h1,h2,h3,h4⟩:=h
 exact⟨v,h1,h2,h3,fun h=>h4 (ho h)⟩
def T7(p:Nat):Nat->Prop:=fun j=>j≠p/\j≠p+1
theorem kid_wide{w:World}{S T:Nat->Prop}{o:Option Fo}{v:FV}(h:kidV w S o v)(hT:∀k,k<w.heap.size->T k):kidV w T o v:=by
 cases o with
 | none=>exact h
 | some x=>exact FS.wide (fun k hk _=>hT k hk) h
def Fits(k:Nat):Prop:=k<=4096
structure FmS(w:World)(b7:Nat)(lv rv:FV)(W:World):Prop where
 fr:Below w.heap.size w W
 r:Bx W (w.heap.size+1) 27 fz
 l:Bx W b7 27 lv.c
 rr:Bx W (b7+1) 27 rv.c
 lt:w.heap.size+1<b7
section
variable {w W W':World} {b7:Nat} {lv rv:FV}
theorem FmS.below(h:FmS w b7 lv rv W)(hb:Below W.heap.size W W'):FmS w b7 lv rv W':=⟨below_t h.fr hb,h.r.below hb,h.l.below hb,h.rr.below hb,h.lt⟩
theorem FmS.drew(h:FmS w b7 lv rv W):FmS w b7 lv rv W.drew:=h.below (Below.refl _ _).drew
theorem FmS.cells(h:FmS w b7 lv rv W):(fun w':World=>w'.cell? ⟨b7,0,none⟩=some (.string lv.o)/\w'.cell? ⟨b7,1,none⟩=some (.string lv.nm)/\w'.cell? ⟨b7,2,none⟩=some (.slice lv.A lv.ll lv.cap)/\w'.cell? ⟨b7,3,none⟩=some (.int .i64 lv.p)/\w'.cell? ⟨b7+1,0,none⟩=some (.string rv.o)/\w'.cell? ⟨b7+1,1,none⟩=some (.string rv.nm)/\w'.cell? ⟨b7+1,2,none⟩=some (.slice rv.A rv.ll rv.cap)/\w'.cell? ⟨b7+1,3,none⟩=some (.int .i64 rv.p)) W:=by
 obtain⟨a0,a1,a2,a3⟩:=Bx.cells4 (show Bx W b7 27 [.string lv.o,.string lv.nm,.slice lv.A lv.ll lv.cap,.int .i64 lv.p]from h.l)
 obtain⟨a4,a5,a6,a7⟩:=Bx.cells4 (show Bx W (b7+1) 27 [.string rv.o,.string rv.nm,.slice rv.A rv.ll rv.cap,.int .i64 rv.p]from h.rr)
 exact⟨a0,a1,a2,a3,a4,a5,a6,a7⟩
theorem FmS.fx{q:Nat}(h:FmS w b7 lv rv W)(hf:Fx1 q W W')(hq:q<w.heap.size):Bx W' (w.heap.size+1) 27 fz/\Bx W' b7 27 lv.c/\Bx W' (b7+1) 27 rv.c:=
 ⟨h.r.fx hf (by omega),h.l.fx hf (by have:=h.lt;omega),h.rr.fx hf (by have:=h.lt;omega)⟩
theorem FmS.set{x0 x1 x2 x3:Value}(h:FmS w b7 lv rv W)(hq:Bx W' (w.heap.size+1) 27 fz/\Bx W' b7 27 lv.c/\Bx W' (b7+1) 27 rv.c):(fun w':World=>w'.cell? ⟨b7,0,none⟩=some (.string lv.o)/\w'.cell? ⟨b7,1,none⟩=some (.string lv.nm)/\w'.cell? ⟨b7,2,none⟩=some (.slice lv.A lv.ll lv.cap)/\w'.cell? ⟨b7,3,none⟩=some (.int .i64 lv.p)/\w'.cell? ⟨b7+1,0,none⟩=some (.string rv.o)/\w'.cell? ⟨b7+1,1,none⟩=some (.string rv.nm)/\w'.cell? ⟨b7+1,2,none⟩=some (.slice rv.A rv.ll rv.cap)/\w'.cell? ⟨b7+1,3,none⟩=some (.int .i64 rv.p)) ((((W'.setCell ⟨w.heap.size+1,0,none⟩ x0).setCell ⟨w.heap.size+1,1,none⟩ x1).setCell ⟨w.heap.size+1,2,none⟩ x2).setCell ⟨w.heap.size+1,3,none⟩ x3):=by
 have hl:=h.lt
 obtain⟨a0,a1,a2,a3⟩:=Bx.cells4 (show Bx _ b7 27 [.string lv.o,.string lv.nm,.slice lv.A lv.ll lv.cap,.int .i64 lv.p]from(((hq.2.1.far (p:=⟨w.heap.size+1,0,none⟩) (by simp;omega) x0).far (p:=⟨w.heap.size+1,1,none⟩) (by simp;omega) x1).far (p:=⟨w.heap.size+1,2,none⟩) (by simp;omega) x2).far (p:=⟨w.heap.size+1,3,none⟩) (by simp;omega) x3)
 obtain⟨a4,a5,a6,a7⟩:=Bx.cells4 (show Bx _ (b7+1) 27 [.string rv.o,.string rv.nm,.slice rv.A rv.ll rv.cap,.int .i64 rv.p]from(((hq.2.2.far (p:=⟨w.heap.size+1,0,none⟩) (by simp;omega) x0).far (p:=⟨w.heap.size+1,1,none⟩) (by simp;omega) x1).far (p:=⟨w.heap.size+1,2,none⟩) (by simp;omega) x2).far (p:=⟨w.heap.size+1,3,none⟩) (by simp;omega) x3)
 exact⟨a0,a1,a2,a3,a4,a5,a6,a7⟩
end
theorem fi_end{w W w3:World}{q n' r:Nat}{y:Fo}{ok:Prop}{v:FV}(hfr:Below w.heap.size w W)(hq:q<w.heap.size)(hr:w.heap.size<=r)(hrw:r<W.heap.size)(hf:Fx1 q W w3)(hb:Bx w3 q 136 [.int .i64 ((n':Nat):Int)])(hi:ok->FI w3 y W.heap.size w3.heap.size v.c):
 NfP y n' q ok w (.returned (.agg #[.string v.o,.string v.nm,.slice v.A v.ll v.cap,.int .i64 v.p])) ((((w3.setCell ⟨r,0,none⟩ (.string v.o)).setCell ⟨r,1,none⟩ (.string v.nm)).setCell ⟨r,2,none⟩ (.slice v.A v.ll v.cap)).setCell ⟨r,3,none⟩ (.int .i64 v.p)):=by
 refine⟨v,rfl,Fx.set4 ((Fx.of hfr).trans hf) (.inl hr),(((hb.far (by simp;omega) _).far (by simp;omega) _).far (by simp;omega) _).far (by simp;omega) _,fun hok=>?_⟩
 have h:=((hi hok).set4 (x0:=.string v.o) (x1:=.string v.nm) (x2:=.slice v.A v.ll v.cap) (x3:=.int .i64 v.p) (q:=r) (.inl hrw)).mono hfr.size (Nat.le_refl _)
 simpa using h
end
section
open Go.RowKit
theorem FS.set4{w:World}{S:Nat->Prop}{x:Fo}{c:List Value}{q:Nat}{x0 x1 x2 x3:Value}(h:FS w 27 S x c)(hq:¬S q):FS ((((w.setCell ⟨q,0,none⟩ x0).setCell ⟨q,1,none⟩ x1).setCell ⟨q,2,none⟩ x2).setCell ⟨q,3,none⟩ x3) 27 S x c:=FS.setL (q:=q) (i:=0) (us:=[x0,x1,x2,x3]) h hq
theorem wp_cut1{P:Program}{c:Code}{Q:Exit->Act->World->Prop}{a:Act}{w:World}(R:World->Prop)(f:Act->Act)(h1:c.wp P (fun e a' W=>e= .normal/\a'=f a/\R W) a w)(h2:∀W,R W->Q .normal (f a) W):c.wp P Q a w:=
 Code.wp_mono (fun e a' W ⟨he,ha,hR⟩=>by subst he ha;exact h2 W hR) h1
theorem t7_l{p:Nat}:¬T7 p p:=by unfold T7;omega
theorem t7_r{p:Nat}:¬T7 p (p+1):=by unfold T7;omega
theorem FmS.left{w W:World}{b7:Nat}{lv rv lv':FV}(h:FmS w b7 lv rv W):FmS w b7 lv' rv ((((W.setCell ⟨b7,0,none⟩ (.string lv'.o)).setCell ⟨b7,1,none⟩ (.string lv'.nm)).setCell ⟨b7,2,none⟩ (.slice lv'.A lv'.ll lv'.cap)).setCell ⟨b7,3,none⟩ (.int .i64 lv'.p)):=by
 have hl:=h.lt
 exact⟨below_set4 h.fr (by omega),(((h.r.far (by simp;omega) _).far (by simp;omega) _).far (by simp;omega) _).far (by simp;omega) _,Bx.set4 (show Bx W b7 27 [.string lv.o,.string lv.nm,.slice lv.A lv.ll lv.cap,.int .i64 lv.p]from h.l),(((h.rr.far (by simp) _).far (by simp) _).far (by simp) _).far (by simp) _,hl⟩
theorem FmS.right{w W:World}{b7:Nat}{lv rv rv':FV}(h:FmS w b7 lv rv W):FmS w b7 lv rv' ((((W.setCell ⟨b7+1,0,none⟩ (.string rv'.o)).setCell ⟨b7+1,1,none⟩ (.string rv'.nm)).setCell ⟨b7+1,2,none⟩ (.slice rv'.A rv'.ll rv'.cap)).setCell ⟨b7+1,3,none⟩ (.int .i64 rv'.p)):=by
 have hl:=h.lt
 exact⟨below_set4 h.fr (by omega),(((h.r.far (by simp;omega) _).far (by simp;omega) _).far (by simp;omega) _).far (by simp;omega) _,(((h.l.far (by simp) _).far (by simp) _).far (by simp) _).far (by simp) _,Bx.set4 (show Bx W (b7+1) 27 [.string rv.o,.string rv.nm,.slice rv.A rv.ll rv.cap,.int .i64 rv.p]from h.rr),hl⟩
end
end Go.Proofs.YtmgjpjjglghbaaaGreatDoor
