import Derived.Test.YtodijgndbjfbgaaGreatDoorSu
import Derived.Test.YtodijgndbjfbgaaGreatDoorSp
namespace Go.Proofs.YtodijgndbjfbgaaGreatDoor
set_option maxHeartbeats 16000000
set_option maxRecDepth 100000
section
open Go.RowKit Go.Sort
def Gh(w:World)(b:Nat)(d:B7)(c:List Value):Prop:=∃p q r:XV,c=[.string ⟨d.nm.toArray⟩,.bool d.isB,.string p.o,.string p.nm,.int .i64 p.n,.slice p.A p.ll p.cap,.int .i64 p.p,.string q.o,.string q.nm,.int .i64 q.n,.slice q.A q.ll q.cap,.int .i64 q.p,.string r.o,.string r.nm,.int .i64 r.n,.slice r.A r.ll r.cap,.int .i64 r.p,.bool d.has,.int .i64 ((d.pos:Nat):Int)]/\DI w b d.low p/\DI w b d.high q/\DI w b d.ini r
def K7(w:World)(b:Nat)(d:Ct)(c:List Value):Prop:=∃(A:Option Addr) (cap:Nat) (B:Option Addr) (cap':Nat),c=[.string ⟨d.nm.toArray⟩,.slice A d.vars.length cap,.slice B d.cmds.length cap',.int .i64 ((d.pos:Nat):Int)]/\AQ w b 92 19 (Gh w b) d.vars (.slice A d.vars.length cap)/\AQ w b 96 8 (IA w b) d.cmds (.slice B d.cmds.length cap')
section
variable {w w':World} {b b':Nat} {E:TypeId->Prop} {c:List Value}
theorem Gh.keep{d:B7}(h:Gh w b d c)(hk:Kt b E w w')(e1:¬E 81):Gh w' b d c:=by obtain⟨p,q,r,a,e,f,g⟩:=h;exact⟨p,q,r,a,e.keep hk e1,f.keep hk e1,g.keep hk e1⟩
theorem Gh.mono{d:B7}(h:Gh w b d c)(hb:b'<=b):Gh w b' d c:=by obtain⟨p,q,r,a,e,f,g⟩:=h;exact⟨p,q,r,a,e.mono hb,f.mono hb,g.mono hb⟩
theorem K7.keep{d:Ct}(h:K7 w b d c)(hk:Kt b E w w')(e1:¬E 81)(e2:¬E 83)(e3:¬E 108)(e4:¬E 92)(e5:¬E 96):K7 w' b d c:=by obtain⟨A,e,B,a,f,g,i⟩:=h;exact⟨A,e,B,a,f,g.keep hk e4 (fun _ _ h=>h.keep hk e1),i.keep hk e5 (fun _ _ h=>h.keep hk e1 e2 e3)⟩
theorem K7.mono{d:Ct}(h:K7 w b d c)(hb:b'<=b):K7 w b' d c:=by obtain⟨A,e,B,a,f,g,i⟩:=h;exact⟨A,e,B,a,f,g.mono hb (fun _ _ h=>h.mono hb),i.mono hb (fun _ _ h=>h.mono hb)⟩
theorem K7.len{d:Ct}(h:K7 w b d c):c.length=4:=by obtain⟨A,e,B,a,f,_⟩:=h;rw[f];rfl
end
def QA(R:Nat->Prop)(w:World)(b:Nat)(d:Ct)(c:List Value):Prop:=∃lo hi,b<=lo/\hi<=w.heap.size/\(∀k,R k->k<lo∨hi<=k)/\∀w':World,(∀k,lo<=k->k<hi->w'.heap[k]?=w.heap[k]?)->K7 w' b d c
theorem QA.keep{R R':Nat->Prop}{w w':World}{b:Nat}{d:Ct}{c:List Value}(h:QA R w b d c)(hs:w.heap.size<=w'.heap.size)(hk:∀k,b<=k->k<w.heap.size->¬R k->w'.heap[k]?=w.heap[k]?)(hR:∀k,R' k->R k∨w.heap.size<=k):QA R' w' b d c:=by obtain⟨lo,n,g,a,i,m⟩:=h;refine⟨lo,n,g,Nat.le_trans a hs,fun k e=>(hR k e).elim (i k) (fun h=>.inr (Nat.le_trans a h)),fun f p=>m f fun k l j=>(p k l j).trans (hk k (Nat.le_trans g l) (Nat.lt_of_lt_of_le j a) (fun o=>?_))⟩;rcases i k o with h | h<;>omega
theorem QA.now{R:Nat->Prop}{w:World}{b:Nat}{d:Ct}{c:List Value}(h:QA R w b d c):K7 w b d c:=by obtain⟨lo,e,_,_,_,a⟩:=h;exact a w fun _ _ _=>rfl
theorem QA.of{R:Nat->Prop}{w:World}{b lo:Nat}{d:Ct}{c:List Value}(h:K7 w lo d c)(hb:b<=lo)(hR:∀k,R k->k<lo∨w.heap.size<=k):QA R w b d c:=
 ⟨lo,w.heap.size,hb,Nat.le_refl _,hR,fun w' f=>(h.keep (w':=w') (E:=E0) (fun k _ _ e a _=>f k e (BB a)) id id id id id).mono hb⟩
def Rb(pb:Nat)(v1 v2 v3 v4:Value)(k:Nat):Prop:=k=pb∨v1.ownBlock=some k∨v2.ownBlock=some k∨v3.ownBlock=some k∨v4.ownBlock=some k
structure PC(W:World)(b pb:Nat)(m:AP)(v1 v2 v3 v4:Value):Prop where
 r1:AQ W b 83 7 (DW W b) m.consts v1
 r2:AQ W b 83 7 (DW W b) m.formulas v2
 r3:AQ W b 83 7 (DW W b) m.labels v3
 r4:AQ W b 88 4 (QA (Rb pb v1 v2 v3 v4) W b) m.mods v4
 d12:Ei v1 v2
 d13:Ei v1 v3
 d23:Ei v2 v3
section
variable {W W':World} {b pb:Nat} {m:AP} {v1 v2 v3 v4:Value}
theorem PC.keep(h:PC W b pb m v1 v2 v3 v4)(hs:W.heap.size<=W'.heap.size)(hp:∃cs:Array Value,W.heap[pb]?=some (.cells cs 74 (0,0)))(hk:∀k,b<=k->k<W.heap.size->k≠pb->W'.heap[k]?=W.heap[k]?):PC W' b pb m v1 v2 v3 v4:=by
 have a:Kt b (fun e=>e=74) W W':=fun k cs e g d f=>hk k g (BB d) (fun n=>by
  obtain⟨j,c⟩:=hp;subst n;rw[d]at c;injection c with c
  injection c with _ c
  exact f c)
 have hd:∀{l:List Ad} {v:Value},AQ W b 83 7 (DW W b) l v->AQ W' b 83 7 (DW W' b) l v:=fun h=>h.keep a (show ¬(83=74) by decide) (fun _ _ h=>h.keep a (show ¬(81=74) by decide));refine⟨hd h.r1,hd h.r2,hd h.r3,?_,h.d12,h.d13,h.d23⟩;obtain⟨cs,d,f⟩:=h.r4;exact⟨cs,At d a (show ¬(88=74) by decide),f.imp fun _ _ h=>h.keep hs (fun k g o i=>hk k g o (fun e=>i (.inl e))) (fun k i=>.inl i)⟩
theorem TT{α:Type}{t:TypeId}{sz:Nat}{P Q:α->List Value->Prop}{xs:List α}{v:Value}{w:World}{b:Nat}(h:AQ w b t sz P xs v)(hi:∀a c,P a c->Q a c):AQ w b t sz Q xs v:=by obtain⟨d,e,f⟩:=h;exact⟨d,e,f.imp hi⟩
theorem PC.grown{o:Obj}{v:Value}(h:PC W b pb m v1 v2 v3 v4)(hv:v=v1∨v=v2∨v=v3)(hg:(W.alloc o).grownBy W' v.ownBlock)(ht:∀g,v.ownBlock=some g->∃cs:Array Value,W.heap[g]?=some (.cells cs 83 (0,0))):
 (∀k,k<W.heap.size->v.ownBlock≠some k->W'.heap[k]?=W.heap[k]?)/\(∀(l:List Ad) (u:Value),Ei v u->AQ W b 83 7 (DW W b) l u->AQ W' b 83 7 (DW W' b) l u)/\
 (∀R':Nat->Prop,(∀k,R' k->Rb pb v1 v2 v3 v4 k∨W.heap.size<=k)->AQ W' b 88 4 (QA R' W' b) m.mods v4):=by
 have p:∀k,k<W.heap.size->(W.alloc o).heap[k]?=W.heap[k]?:=fun k q=>Below.heap_alloc W o k q;have f:∀k,k<W.heap.size->v.ownBlock≠some k->W'.heap[k]?=W.heap[k]?:=fun k q y=>(hg.block k (by simp;omega) (fun e=>y e.symm)).trans (p k q)
 have d:Kt b (fun e=>e=83) W W':=fun k cs e _ i n=>f k (BB i) (fun s=>by
  obtain⟨r,a⟩:=ht k s;rw[i]at a;injection a with a
  injection a with _ a
  exact n a)
 have z:W.heap.size<=W'.heap.size:=(by have:=hg.size;simp at this;omega);refine⟨f,fun l u w j=>j.keepB (fun g c=>f g (j.ltb g c) (fun e=>w g e c)) (fun _ _ h=>h.keep d (show ¬(81=83) by decide)),fun R' t=>?_⟩;obtain⟨cs,i,n⟩:=h.r4;refine⟨cs,At i d (show ¬(88=83) by decide),n.imp fun _ _ h=>h.keep z (fun k _ x j=>f k x (fun e=>j ?_)) t⟩;rcases hv with rfl | rfl | rfl
 · exact .inr (.inl e)
 · exact .inr (.inr (.inl e))
 · exact .inr (.inr (.inr (.inl e)))
theorem Im{u u':Value}{g cap n:Nat}(hv:u'= .slice (some ⟨g,0,none⟩) n cap)(hat:u.ownBlock=some g∨g=W.heap.size+1):u.ownBlock=u'.ownBlock∨∀k,u'.ownBlock=some k->W.heap.size<=k:=by
 subst hv;rcases hat with h | h
 · exact .inl h
 · right;intro k a;have b:g=k:=(by simpa[Value.ownBlock]using a);omega
theorem Hf{u u' x:Value}(hd:Ei u x)(hl:∀g,x.ownBlock=some g->g<W.heap.size)(h:u.ownBlock=u'.ownBlock∨∀g,u'.ownBlock=some g->W.heap.size<=g):Ei u' x:=by
 intro g b a;rcases h with h | h
 · exact hd g (h.trans b) a
 · have:=h g b;have:=hl g a;omega
section
variable {o:Obj} {v':Value} {d:Ad} {c cs:List Value}
theorem KN{l:List Ad}{v:Value}(hL:LH (DW W b) l cs)(hE:DW W b d c)(hO:W.ownsRow b 83 7 v l.length cs)(hg:(W.alloc o).grownBy W' v.ownBlock)(hO':W'.ownsRow b 83 7 v' (l.length+1) (cs++c)):AQ W' b 83 7 (DW W' b) (l++[d]) v':=
 AQ.grow (fun _ _ _ _ _ a h=>h.keep a (show ¬(81=83) by decide)) hL hE hO' (Cv hO hg)
theorem PC.put1(h:PC W b pb m v1 v2 v3 v4)(hL:LH (DW W b) m.consts cs)(hE:DW W b d c)(hO:W.ownsRow b 83 7 v1 m.consts.length cs)(hg:(W.alloc o).grownBy W' v1.ownBlock)(hO':W'.ownsRow b 83 7 v' (m.consts.length+1) (cs++c))(hat:v1.ownBlock=v'.ownBlock∨∀g,v'.ownBlock=some g->W.heap.size<=g):
 PC W' b pb {m with consts:=m.consts++[d]} v' v2 v3 v4:=by
 obtain⟨_,i,j⟩:=h.grown (.inl rfl) hg (fun g f=>(Dl hO g f).2);refine⟨KN hL hE hO hg hO',i _ _ h.d12 h.r2,i _ _ h.d13 h.r3,j _ fun k a=>?_,Hf h.d12 h.r2.ltb hat,Hf h.d13 h.r3.ltb hat,h.d23⟩;rcases a with a | a | a | a | a
 · exact .inl (.inl a)
 · rcases hat with e | e
   · exact .inl (.inr (.inl (e.trans a)))
   · exact .inr (e k a)
 · exact .inl (.inr (.inr (.inl a)))
 · exact .inl (.inr (.inr (.inr (.inl a))))
 · exact .inl (.inr (.inr (.inr (.inr a))))
theorem PC.put2(h:PC W b pb m v1 v2 v3 v4)(hL:LH (DW W b) m.formulas cs)(hE:DW W b d c)(hO:W.ownsRow b 83 7 v2 m.formulas.length cs)(hg:(W.alloc o).grownBy W' v2.ownBlock)(hO':W'.ownsRow b 83 7 v' (m.formulas.length+1) (cs++c))(hat:v2.ownBlock=v'.ownBlock∨∀g,v'.ownBlock=some g->W.heap.size<=g):
 PC W' b pb {m with formulas:=m.formulas++[d]} v1 v' v3 v4:=by
 obtain⟨_,i,j⟩:=h.grown (.inr (.inl rfl)) hg (fun g f=>(Dl hO g f).2);refine⟨i _ _ h.d12.symm h.r1,KN hL hE hO hg hO',i _ _ h.d23 h.r3,j _ fun k a=>?_,(Hf h.d12.symm h.r1.ltb hat).symm,h.d13,Hf h.d23 h.r3.ltb hat⟩;rcases a with a | a | a | a | a
 · exact .inl (.inl a)
 · exact .inl (.inr (.inl a))
 · rcases hat with e | e
   · exact .inl (.inr (.inr (.inl (e.trans a))))
   · exact .inr (e k a)
 · exact .inl (.inr (.inr (.inr (.inl a))))
 · exact .inl (.inr (.inr (.inr (.inr a))))
theorem PC.put3(h:PC W b pb m v1 v2 v3 v4)(hL:LH (DW W b) m.labels cs)(hE:DW W b d c)(hO:W.ownsRow b 83 7 v3 m.labels.length cs)(hg:(W.alloc o).grownBy W' v3.ownBlock)(hO':W'.ownsRow b 83 7 v' (m.labels.length+1) (cs++c))(hat:v3.ownBlock=v'.ownBlock∨∀g,v'.ownBlock=some g->W.heap.size<=g):
 PC W' b pb {m with labels:=m.labels++[d]} v1 v2 v' v4:=by
 obtain⟨_,i,j⟩:=h.grown (.inr (.inr rfl)) hg (fun g f=>(Dl hO g f).2);refine⟨i _ _ h.d13.symm h.r1,i _ _ h.d23.symm h.r2,KN hL hE hO hg hO',j _ fun k a=>?_,h.d12,(Hf h.d13.symm h.r1.ltb hat).symm,(Hf h.d23.symm h.r2.ltb hat).symm⟩;rcases a with a | a | a | a | a
 · exact .inl (.inl a)
 · exact .inl (.inr (.inl a))
 · exact .inl (.inr (.inr (.inl a)))
 · rcases hat with e | e
   · exact .inl (.inr (.inr (.inr (.inl (e.trans a)))))
   · exact .inr (e k a)
 · exact .inl (.inr (.inr (.inr (.inr a))))
end
theorem PC.put4{o:Obj}{v':Value}{d:Ct}{c cs:List Value}(h:PC W b pb m v1 v2 v3 v4)(hL:LH (QA (Rb pb v1 v2 v3 v4) W b) m.mods cs)(hE:QA (Rb pb v1 v2 v3 v4) W b d c)(hO:W.ownsRow b 88 4 v4 m.mods.length cs)(hg:(W.alloc o).grownBy W' v4.ownBlock)(hO':W'.ownsRow b 88 4 v' (m.mods.length+1) (cs++c))(hat:v4.ownBlock=v'.ownBlock∨∀g,v'.ownBlock=some g->W.heap.size<=g):
 PC W' b pb {m with mods:=m.mods++[d]} v1 v2 v3 v':=by
 have f:Kt b (fun e=>e=88) W W':=(Cv hO hg).mono (Nat.zero_le _);have j:W.heap.size<=W'.heap.size:=(by have:=hg.size;simp at this;omega);have a:∀k,b<=k->k<W.heap.size->¬Rb pb v1 v2 v3 v4 k->W'.heap[k]?=W.heap[k]?:=fun k _ n p=>(hg.block k (by simp;omega) (fun e=>p (.inr (.inr (.inr (.inr e.symm)))))).trans (Below.heap_alloc W o k n);have i:∀k,Rb pb v1 v2 v3 v' k->Rb pb v1 v2 v3 v4 k∨W.heap.size<=k:=fun k a=>by
  rcases a with a | a | a | a | a
  · exact .inl (.inl a)
  · exact .inl (.inr (.inl a))
  · exact .inl (.inr (.inr (.inl a)))
  · exact .inl (.inr (.inr (.inr (.inl a))))
  · rcases hat with e | e
    · exact .inl (.inr (.inr (.inr (.inr (e.trans a)))))
    · exact .inr (e k a)
 have hd:∀{l:List Ad} {v:Value},AQ W b 83 7 (DW W b) l v->AQ W' b 83 7 (DW W' b) l v:=fun h=>h.keep f (show ¬(83=88) by decide) (fun _ _ h=>h.keep f (show ¬(81=88) by decide));exact⟨hd h.r1,hd h.r2,hd h.r3,⟨cs++c,by rw[List.length_append];exact hO',(hL.imp fun _ _ h=>h.keep j a i).snoc (hE.keep j a i)⟩,h.d12,h.d13,h.d23⟩
end
end
section
open Go.RowKit Go.Sort
def Dn(D:Nat)(s:St):List B7×St:=s.list CG (St.vrbl D)
def EM(D:Nat)(s:St):List Cp×St:=s.list (fun t=>AG t [91]) (St.cmnd D)
def GK(D:Nat)(s:St):St:=(EM D s).2.want DG
def Gp(D:Nat)(s:St):St:=GK D (Dn D s).2
section
variable {D:Nat} {s:St}
theorem UW(D:Nat)(s:St):s.modl D=(⟨s.name.1.1,(Dn D s.name.2).1,(EM D (Dn D s.name.2).2).1,s.name.1.2⟩,Gp D s.name.2):=rfl
theorem SW(D c q:Nat):((St.bad c q).vals D).2= .bad c q:=by unfold St.vals;rw[if_neg (by simp[St.hd,AG])];simp only[St.bnds,St.high,St.low,Cz,JH]
theorem R9(D c q:Nat):((St.bad c q).init D).2= .bad c q:=by unfold St.init;rw[if_neg (by simp[St.hd,AG])]
theorem Iy{us:List AH}(h:CG (hd us)=false):((St.good us).vrbl D).2=(St.good us).fail 20:=by have e:(St.good us).name=(([],0),(St.good us).fail 20):=(by unfold St.name;rw[if_neg (by rw[show(St.good us).hd=hd us from rfl,h];simp)]);simp only[St.vrbl,e,St.fail,Cz];rw[SW,R9,Cz]
theorem OV(D c q:Nat):((St.bad c q).brchs D).2= .bad c q:=In (rd:=St.brch D) (x:=[43]) (Lm D c q)
theorem Qd(c q:Nat):(St.bad c q).actn.2= .bad c q:=by unfold St.actn;rw[if_neg (by simp[St.hd,AG]),JR]
theorem JM{us:List AH}(h:AG (hd us) [91]=false):((St.good us).cmnd D).2=(St.good us).fail 20:=by have e:(St.good us).want [91]= .bad 20 (hd us).pos:=(by unfold St.want;rw[if_neg (by rw[show(St.good us).hd=hd us from rfl,h];simp)];rfl);simp only[St.cmnd,St.guard,e,Qd,Cz,JH,OV];rfl
theorem JF(D c q:Nat):GK D (.bad c q)= .bad c q:=by unfold GK EM;rw[Aq rfl];exact Cz _ _ _
theorem L4(D c q:Nat):Gp D (.bad c q)= .bad c q:=by unfold Gp Dn;rw[Aq rfl];exact JF D c q
theorem OK(h:CG s.hd=true):Dn D s=((s.vrbl D).1::(Dn D (s.vrbl D).2).1,(Dn D (s.vrbl D).2).2):=C4 (FB D) h
theorem JX(h:CG s.hd=false):Dn D s=([],s):=Aq h
theorem N9(h:AG s.hd [91]=true):EM D s=((s.cmnd D).1::(EM D (s.cmnd D).2).1,(EM D (s.cmnd D).2).2):=C4 (p:=fun t=>AG t [91]) (EL D) h
theorem LG(h:AG s.hd [91]=false):EM D s=([],s):=Aq (p:=fun t=>AG t [91]) h
theorem UO(h:CG s.hd=true):Gp D (s.vrbl D).2=Gp D s:=by unfold Gp;rw[OK h]
theorem U8(h:AG s.hd [91]=true):GK D (s.cmnd D).2=GK D s:=by unfold GK;rw[N9 h]
theorem L3(h:CG s.hd=false):Gp D s=GK D s:=by unfold Gp;rw[JX h]
theorem Ln(h:AG s.hd [91]=false):GK D s=s.want DG:=by unfold GK;rw[LG h]
theorem LV{us:List AH}(h:AG (hd us) [91]=false)(h2:AG (hd us) DG=false):GK D (.good us)=(St.good us).fail 20:=by rw[Ln (s:=.good us) h];unfold St.want;rw[if_neg (by rw[show(St.good us).hd=hd us from rfl,h2];simp)]
theorem Ov{us:List AH}(h:AG (hd us) [91]=false)(h2:AG (hd us) DG=false):Gp D ((St.good us).vrbl D).2=Gp D (.good us):=by
 cases a:CG (hd us)with
 | true=>exact UO (s:=.good us) a
 | false=>rw[Iy a,L3 (s:=.good us) a,LV h h2];exact L4 D _ _
theorem Ot{us:List AH}(h2:AG (hd us) DG=false):GK D ((St.good us).cmnd D).2=GK D (.good us):=by
 cases h:AG (hd us) [91]with
 | true=>exact U8 (s:=.good us) h
 | false=>rw[JM h,LV h h2];exact JF D _ _
theorem UY{us:List AH}(hf:Fine us)(h:AG (hd us) [91]=true∨AG (hd us) DG=true):CG (hd us)=false:=by
 cases g:CG (hd us)with
 | false=>rfl
 | true=>
   exfalso;obtain⟨e,b⟩:=FH g;rcases h with h | h
   · obtain⟨c,r,f,d,_⟩:=Fine.name hf e;have a:=Ao h;rw[f]at a;injection a with a
     rw[a]at d;revert d;decide
   · rw[Ao h]at b;revert b;decide
theorem S3{us:List AH}(hu:0<us.length):((St.good us).vrbl D).2.len<us.length:=by
 cases a:CG (hd us)with
 | true=>exact OH D (st:=.good us) a
 | false=>rw[Iy a];exact hu
theorem Uw{us:List AH}(hu:0<us.length):((St.good us).cmnd D).2.len<us.length:=by
 cases h:AG (hd us) [91]with
 | true=>exact(EL D (.good us) h).1
 | false=>rw[JM h];exact hu
end
theorem DS.pos{w:World}{pb D:Nat}{us:List AH}(h:DS w pb D (.good us)):0<us.length:=by obtain⟨c,k,_,_,a,b,_⟩:=DR.blk (show DR w pb D us 0 (-1)from h);rw[a,List.length_drop];omega
theorem JZ:(Tryz.prog.info? 92).map (fun i=>(i.zero,i.size,i.bytes))=some (some (.agg #[.string ⟨#[]⟩,.bool false,.string ⟨#[]⟩,.string ⟨#[]⟩,.int .i64 0,.slice none 0 0,.int .i64 0,.string ⟨#[]⟩,.string ⟨#[]⟩,.int .i64 0,.slice none 0 0,.int .i64 0,.string ⟨#[]⟩,.string ⟨#[]⟩,.int .i64 0,.slice none 0 0,.int .i64 0,.bool false,.int .i64 0]),19,256):=by kernel_rfl
theorem Iw:(Tryz.prog.info? 96).map (fun i=>(i.zero,i.size,i.bytes))=some (some (.agg #[.string ⟨#[]⟩,.string ⟨#[]⟩,.string ⟨#[]⟩,.int .i64 0,.slice none 0 0,.int .i64 0,.slice none 0 0,.int .i64 0]),8,120):=by kernel_rfl
theorem JP:(Tryz.prog.info? 88).map (fun i=>(i.zero,i.size,i.bytes))=some (some (.agg #[.string ⟨#[]⟩,.slice none 0 0,.slice none 0 0,.int .i64 0]),4,72):=by kernel_rfl
structure MV(w0 W:World)(pb D:Nat)(st:St)(xb:Nat)(cs:List Value):Prop where
 f:Fr w0.heap.size pb w0 W
 d:DS W pb D st
 l:pb<w0.heap.size/\w0.heap.size<=xb
 b:Bx W xb 88 cs
section
variable {w0 W W':World} {pb D xb:Nat} {st st':St} {cs:List Value}
theorem MV.step(m:MV w0 W pb D st xb cs)(hf:Fr W.heap.size pb W W')(hd:DS W' pb D st'):MV w0 W' pb D st' xb cs:=⟨m.f.on m.f.size hf,hd,m.l,(hf.block _ m.b.lt (by have:=m.l;omega)).trans m.b⟩
theorem MV.below(m:MV w0 W pb D st xb cs)(hb:Below W.heap.size W W'):MV w0 W' pb D st xb cs:=m.step (Fr.of hb) (m.d.below hb)
theorem MV.drew(m:MV w0 W pb D st xb cs):MV w0 W.drew pb D st xb cs:=m.below (Below.refl _ _).drew
theorem MV.setL(m:MV w0 W pb D st xb cs)(i:Nat)(us:List Value):MV w0 (Go.Proofs.YtodijgndbjfbgaaGreatDoor.setL W xb i us) pb D st xb (Bg cs i us):=
 ⟨Fr.setL m.l.2 m.f,DS.setL (by decide) (by decide) m.d m.b,m.l,m.b.setL⟩
theorem MV.kt{e:TypeId}(m:MV w0 W pb D st xb cs)(hk:Kt 0 (fun x=>x=e) W W')(hf:Fr w0.heap.size pb w0 W')(h1:e≠74)(h2:e≠76)(h4:88≠e):MV w0 W' pb D st xb cs:=⟨hf,m.d.kt hk h1 h2,m.l,m.b.kt hk h4⟩
end
def Wa(w0:World)(pb D xb:Nat)(nm:ByteArray)(p:Int)(T2:List B7×St)(E:St)(gk:Nat)(W:World):Prop:=
 ∃(s:St) (A:Option Addr) (k cap:Nat),gk=s.len/\MV w0 W pb D s xb [.string nm,.slice A k cap,.slice none 0 0,.int .i64 p]/\Gp D s=E/\
  ∀us,s= .good us->∃acc:List B7,k=acc.length/\AQ W w0.heap.size 92 19 (Gh W w0.heap.size) acc (.slice A k cap)/\(acc++(Dn D s).1,(Dn D s).2)=T2/\k+gk<=70000
def Ws(w0:World)(pb D xb:Nat)(nm:ByteArray)(p:Int)(VL:List B7)(A:Option Addr)(kv capv:Nat)(CL:List Cp)(E:St)(gk:Nat)(W:World):Prop:=
 ∃(s:St) (B:Option Addr) (k cap:Nat),gk=s.len/\MV w0 W pb D s xb [.string nm,.slice A kv capv,.slice B k cap,.int .i64 p]/\GK D s=E/\
  ∀us,s= .good us->AQ W w0.heap.size 92 19 (Gh W w0.heap.size) VL (.slice A kv capv)/\∃acc:List Cp,k=acc.length/\AQ W w0.heap.size 96 8 (IA W w0.heap.size) acc (.slice B k cap)/\acc++(EM D s).1=CL/\k+gk<=70000
def XN:St->Bool
 | .bad _ _=>false
 | .good us=>!AG (hd us) [91]&&!AG (hd us) DG
def XE:St->Bool
 | .bad _ _=>false
 | .good us=>!AG (hd us) DG
section
variable {D:Nat} {s:St}
theorem Of(h:XN s=false)(hf:∀us,s= .good us->Fine us):Gp D s=GK D s/\Dn D s=([],s):=by
 cases s with
 | bad c q=>exact⟨(L4 D c q).trans (JF D c q).symm,JX rfl⟩
 | good us=>
   have a:CG (hd us)=false:=UY (hf us rfl) (by
    cases b:AG (hd us) [91]with
    | true=>exact .inl rfl
    | false=>exact .inr (by simpa[XN,b]using h))
   exact⟨L3 (s:=.good us) a,JX (s:=.good us) a⟩
theorem RG(h:XN s=true):∃us,s= .good us/\AG (hd us) [91]=false/\AG (hd us) DG=false:=by
 cases s with
 | bad c q=>cases h
 | good us=>exact⟨us,rfl,by simpa[XN]using h⟩
theorem O5(h:XE s=false):GK D s=s.want DG/\EM D s=([],s):=by
 have b:AG s.hd [91]=false:=by
  cases s with
  | bad c q=>rfl
  | good e=>
    cases d:AG (hd e) [91]with
    | false=>exact d
    | true=>have f:AG (hd e) DG=true:=(by simpa[XE]using h);have a:=Ao d;rw[Ao f]at a;exact absurd a (by decide)
 exact⟨Ln b,LG b⟩
theorem SC(h:XE s=true):∃us,s= .good us/\AG (hd us) DG=false:=by
 cases s with
 | bad c q=>cases h
 | good us=>exact⟨us,rfl,by simpa[XE]using h⟩
theorem O0{us us':List AH}(h:((St.good us).vrbl D).2= .good us'):Dn D (.good us)=(((St.good us).vrbl D).1::(Dn D ((St.good us).vrbl D).2).1,(Dn D ((St.good us).vrbl D).2).2):=by
 cases a:CG (hd us)with
 | true=>exact OK (s:=.good us) a
 | false=>rw[Iy a]at h;have b:St.bad 20 (hd us).pos= .good us':=h;cases b
theorem OZ{us us':List AH}(h:((St.good us).cmnd D).2= .good us'):EM D (.good us)=(((St.good us).cmnd D).1::(EM D ((St.good us).cmnd D).2).1,(EM D ((St.good us).cmnd D).2).2):=by
 cases a:AG (hd us) [91]with
 | true=>exact N9 (s:=.good us) a
 | false=>rw[JM a]at h;have b:St.bad 20 (hd us).pos= .good us':=h;cases b
theorem MV.fine{w0 W:World}{pb xb:Nat}{cs:List Value}(m:MV w0 W pb D s xb cs):∀us,s= .good us->Fine us:=by intro us h;subst h;exact(show DR W pb D us 0 (-1)from m.d).fine
end
end
end Go.Proofs.YtodijgndbjfbgaaGreatDoor
