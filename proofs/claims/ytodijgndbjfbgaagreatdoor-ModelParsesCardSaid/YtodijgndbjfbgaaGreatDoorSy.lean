import Derived.Test.YtodijgndbjfbgaaGreatDoorSx
import Derived.Test.YtodijgndbjfbgaaGreatDoorSv
import Derived.Test.YtodijgndbjfbgaaGreatDoorSs
namespace Go.Proofs.YtodijgndbjfbgaaGreatDoor
set_option maxHeartbeats 16000000
set_option maxRecDepth 100000
section
open Go.RowKit Go.Sort
structure NW(W:World)(b:Nat)(m:AP)(v1 v2 v3 v4:Value):Prop where
 r1:AQ W b 83 7 (DW W b) m.consts v1
 r2:AQ W b 83 7 (DW W b) m.formulas v2
 r3:AQ W b 83 7 (DW W b) m.labels v3
 r4:AQ W b 88 4 (K7 W b) m.mods v4
section
variable {w w0 W W':World} {b b' pb xb:Nat} {m:AP} {v1 v2 v3 v4:Value} {t e:TypeId} {cs:List Value} {E:TypeId->Prop}
theorem PC.now(h:PC W b pb m v1 v2 v3 v4):NW W b m v1 v2 v3 v4:=⟨h.r1,h.r2,h.r3,TT h.r4 (fun _ _ h=>h.now)⟩
theorem NW.keep(h:NW W b m v1 v2 v3 v4)(hk:Kt b E W W')(e1:¬E 81)(e2:¬E 83)(e3:¬E 108)(e4:¬E 92)(e5:¬E 96)(e6:¬E 88):NW W' b m v1 v2 v3 v4:=
 ⟨h.r1.keep hk e2 (fun _ _ h=>h.keep hk e1),h.r2.keep hk e2 (fun _ _ h=>h.keep hk e1),h.r3.keep hk e2 (fun _ _ h=>h.keep hk e1),h.r4.keep hk e6 (fun _ _ h=>h.keep hk e1 e2 e3 e4 e5)⟩
theorem NW.below(h:NW W b m v1 v2 v3 v4)(hb:Below W.heap.size W W'):NW W' b m v1 v2 v3 v4:=h.keep (Kt.below (E:=E0) hb) id id id id id id
def YE(m:AP)(w:World)(e:Ending)(w':World):Prop:=
 ∃(A1:Option Addr) (c1:Nat) (A2:Option Addr) (c2:Nat) (A3:Option Addr) (c3:Nat) (A4:Option Addr) (c4:Nat),e= .returned (.agg #[.slice A1 m.consts.length c1,.slice A2 m.formulas.length c2,.slice A3 m.labels.length c3,.slice A4 m.mods.length c4])/\NW w' w.heap.size m (.slice A1 m.consts.length c1) (.slice A2 m.formulas.length c2) (.slice A3 m.labels.length c3) (.slice A4 m.mods.length c4)/\Below w.heap.size w w'
structure TV(w0 W:World)(xb:Nat)(t:TypeId)(cs:List Value):Prop where
 f:Below w0.heap.size w0 W
 l:w0.heap.size<=xb
 b:Bx W xb t cs
theorem TV.below(h:TV w0 W xb t cs)(hb:Below W.heap.size W W'):TV w0 W' xb t cs:=⟨h.f.trans (hb.mono h.f.size),h.l,h.b.below hb⟩
theorem TV.drew(h:TV w0 W xb t cs):TV w0 W.drew xb t cs:=h.below (Below.refl _ _).drew
theorem TV.alloc(h:TV w0 W xb t cs)(o:Obj):TV w0 (W.alloc o) xb t cs:=h.below ((Below.refl _ _).alloc (Nat.le_refl _) _)
theorem TV.setL(h:TV w0 W xb t cs)(i:Nat)(us:List Value):TV w0 (Go.Proofs.YtodijgndbjfbgaaGreatDoor.setL W xb i us) xb t (Bg cs i us):=
 ⟨(Fr.setL (q:=xb) h.l (Fr.of (rb:=w0.heap.size) h.f)).below (Nat.le_refl _),h.l,h.b.setL⟩
theorem TV.kt(h:TV w0 W xb t cs)(hk:Kt 0 (fun x=>x=e) W W')(hf:Below w0.heap.size w0 W')(h1:t≠e):TV w0 W' xb t cs:=⟨hf,h.l,h.b.kt hk h1⟩
theorem Bx.box{q:Nat}{c2:List Value}{i:Nat}{us:List Value}(h:Bx W q e c2)(hn:q≠xb):Bx (Go.Proofs.YtodijgndbjfbgaaGreatDoor.setL W xb i us) q e c2:=(Ay hn us W i).trans h
theorem En{n sz:Nat}{o:Obj}{v:Value}{a:World}(h:Below a.heap.size a W)(hB:a.heap.size<=b)(hO:W.ownsRow b t sz v n cs)(hg:(W.alloc o).grownBy W' v.ownBlock):Below a.heap.size a W':=
 (Eg (pb:=a.heap.size) (Fr.of h) h.size hB hO hg).below (Nat.le_refl _)
end
section
variable (w0:World) (W:World)
def YI(bb:Nat)(wt p:Value)(l:List Ad)(i:Value):Prop:=
 ∃(k:Nat) (A:Option Addr) (cap:Nat),i= .int .i64 (k:Int)/\k<=l.length/\TV w0 W bb 108 [wt,.slice A k cap,p]/\AQ W w0.heap.size 83 7 (DW W w0.heap.size) (l.take k) (.slice A k cap)
def X9(cb yb:Nat)(cc:List Value)(act p:Value)(gx:Option Ex)(v:XV)(l:List Fe)(i:Value):Prop:=
 ∃(k:Nat) (A:Option Addr) (cap:Nat),i= .int .i64 (k:Int)/\k<=l.length/\TV w0 W yb 96 [act,.string v.o,.string v.nm,.int .i64 v.n,.slice v.A v.ll v.cap,.int .i64 v.p,.slice A k cap,p]/\Bx W cb 60 cc/\DI W w0.heap.size gx v/\AQ W w0.heap.size 108 3 (II W w0.heap.size) (l.take k) (.slice A k cap)
def YV(mb xb:Nat)(cm:List Value)(nm p:Value)(l:List B7)(i:Value):Prop:=
 ∃(k:Nat) (A:Option Addr) (cap:Nat),i= .int .i64 (k:Int)/\k<=l.length/\TV w0 W xb 88 [nm,.slice A k cap,.slice none 0 0,p]/\Bx W mb 51 cm/\AQ W w0.heap.size 92 19 (Gh W w0.heap.size) (l.take k) (.slice A k cap)
def YF(mb xb:Nat)(cm:List Value)(nm p:Value)(VL:List B7)(A:Option Addr)(capv:Nat)(l:List Cp)(i:Value):Prop:=
 ∃(k:Nat) (B:Option Addr) (cap:Nat),i= .int .i64 (k:Int)/\k<=l.length/\TV w0 W xb 88 [nm,.slice A VL.length capv,.slice B k cap,p]/\Bx W mb 51 cm/\AQ W w0.heap.size 92 19 (Gh W w0.heap.size) VL (.slice A VL.length capv)/\AQ W w0.heap.size 96 8 (IA W w0.heap.size) (l.take k) (.slice B k cap)
def X5(ab rb xb:Nat)(ca:List Value)(m:AP)(v1 v2 v3:Value)(i:Value):Prop:=
 ∃(k:Nat) (A:Option Addr) (cap:Nat),i= .int .i64 (k:Int)/\k<=m.mods.length/\TV w0 W xb 34 [v1,v2,v3,.slice A k cap]/\Bx W ab 26 ca/\Bx W rb 34 FF/\NW W w0.heap.size {m with mods:=m.mods.take k} v1 v2 v3 (.slice A k cap)
end
def Yo:Ex:=.leaf [] [] 0 0
def Yi(x:Option Ex)(w:World)(e:Ending)(w':World):Prop:=
 ∃v:XV,e= .returned (.agg #[.string v.o,.string v.nm,.int .i64 v.n,.slice v.A v.ll v.cap,.int .i64 v.p])/\DI w' w.heap.size x v/\Below w.heap.size w w'
theorem I0{b:Nat}(x:Option Ex)(w:World)(v:XV)(h:XO w b x v.c):Calls Tryz.prog 32 #[.agg #[.string v.o,.string v.nm,.int .i64 v.n,.slice v.A v.ll v.cap,.int .i64 v.p]] w (Yi x w):=by
 cases x with
 | some e=>refine(FP e w _ _ h).mono ?_;rintro g f ⟨o,nm,n,A,l,cap,p,rfl,j,a⟩;exact⟨⟨o,nm,n,A,l,cap,p⟩,rfl,DI.of (lo:=w.heap.size) (hi:=f.heap.size) (Nat.le_refl _) (fun k d=>by obtain rfl:=Option.some.inj d;exact j),a⟩
 | none=>have i:v.c=AI.c:=h;refine(show Calls Tryz.prog 32 #[.agg v.c.toArray] w (Yi none w)from ?_);rw[i];refine(FP Yo w (fun _=>True) AI.c rfl).mono ?_;rintro g f ⟨o,nm,n,A,l,cap,p,rfl,_,a⟩;exact⟨⟨o,nm,n,A,l,cap,p⟩,rfl,DI.none _ _ _,a⟩
end
section
def GP(B:Nat):St->Prop
 | .good us=>Tf B us
 | .bad _ _=>True
def Hd(B:Nat)(x:Option Ex):Prop:=∀e,x=some e->Fh B e
def GH(B:Nat)(d:Ad):Prop:=d.pos<=B/\Hd B d.x
def TJ(B:Nat)(v:B7):Prop:=v.pos<=B/\Hd B v.low/\Hd B v.high/\Hd B v.ini
def L2(B:Nat)(b:Fe):Prop:=b.pos<=B/\∀s∈b.sets,GH B s
def TA(B:Nat)(c:Cp):Prop:=c.pos<=B/\Hd B c.guard/\∀b∈c.brs,L2 B b
def Nk(B:Nat)(m:Ct):Prop:=m.pos<=B/\(∀v∈m.vars,TJ B v)/\∀c∈m.cmds,TA B c
structure LC(B:Nat)(m:AP):Prop where
 cs:∀d∈m.consts,GH B d
 fs:∀d∈m.formulas,GH B d
 ls:∀d∈m.labels,GH B d
 ms:∀d∈m.mods,Nk B d
section
variable {B D:Nat} {st:St}
theorem N8(h:GP B st):st.hd.pos<=B:=by
 cases st with
 | good a=>exact J4 h
 | bad c p=>exact Nat.zero_le _
theorem FA(h:GP B st):GP B st.tl:=by
 cases st with
 | good a=>exact C5 h
 | bad c p=>trivial
theorem IV(c:Nat)(st:St):GP B (st.fail c):=by cases st<;>trivial
theorem Bi(x:List UInt8)(h:GP B st):GP B (st.want x):=by
 unfold St.want;split
 · exact FA h
 · exact IV _ _
theorem FY(h:GP B st):st.name.1.2<=B/\GP B st.name.2:=by
 unfold St.name;split
 · exact⟨N8 h,FA h⟩
 · exact⟨Nat.zero_le _,IV _ _⟩
theorem Kp(h:GP B st):st.text.1.2<=B/\GP B st.text.2:=by
 unfold St.text;split
 · exact⟨N8 h,FA h⟩
 · exact⟨Nat.zero_le _,IV _ _⟩
theorem Ej:Hd B none:=fun e h=>by cases h
theorem FT(D:Nat)(h:GP B st):Hd B (st.expr D).1/\GP B (st.expr D).2:=by
 cases st with
 | bad c p=>exact⟨Ej,trivial⟩
 | good a=>
   have e:(St.good a).expr D=BJ ((dp D).c a):=rfl;rw[e];cases f:(dp D).c a with
   | er c p=>exact⟨Ej,trivial⟩
   | ok x r=>have d:=(VM B D).c a x r h f;exact⟨fun e b=>by injection b with b;subst b;exact d.1,d.2⟩
theorem Ie(D:Nat)(h:GP B st):Hd B (st.mean D).1/\GP B (st.mean D).2:=⟨(FT D (Bi _ h)).1,Bi _ (FT D (Bi _ h)).2⟩
theorem Nv(D:Nat)(h:GP B st):GH B (st.defn D).1/\GP B (st.defn D).2:=⟨⟨(FY h).1,(Ie D (FY h).2).1⟩,(Ie D (FY h).2).2⟩
theorem TZ(D:Nat)(h:GP B st):GH B (st.labl D).1/\GP B (st.labl D).2:=⟨⟨(Kp h).1,(Ie D (Kp h).2).1⟩,(Ie D (Kp h).2).2⟩
theorem UX(D:Nat)(h:GP B st):Hd B (st.vals D).1.2.1/\Hd B (st.vals D).1.2.2/\GP B (st.vals D).2:=by
 unfold St.vals;split
 · exact⟨Ej,Ej,FA h⟩
 · have a:=FT D (Bi [91] h);have b:=FT D (Bi [46,46] a.2);exact⟨a.1,b.1,Bi _ b.2⟩
theorem U1(D:Nat)(h:GP B st):Hd B (st.init D).1.1/\GP B (st.init D).2:=by
 unfold St.init;split
 · exact FT D (FA h)
 · exact⟨Ej,h⟩
theorem U4(D:Nat)(h:GP B st):TJ B (st.vrbl D).1/\GP B (st.vrbl D).2:=
 have b:=FY h;have a:=UX D (Bi [58] b.2);have c:=U1 D a.2.2
 ⟨⟨b.1,a.1,a.2.1,c.1⟩,Bi _ c.2⟩
theorem EW{α:Type}{p:AH->Bool}{rd:St->α×St}{P:α->Prop}(hd:H6 p rd)(hr:∀st,GP B st->P (rd st).1/\GP B (rd st).2):∀(n:Nat) (st:St),st.len<=n->GP B st->(∀a∈(st.list p rd).1,P a)/\GP B (st.list p rd).2:=by
 intro n;induction n with
 | zero=>
   intro st f h;cases c:p st.hd with
   | false=>rw[Aq c];exact⟨fun a b=>absurd b (by simp),h⟩
   | true=>have:=(hd st c).1;omega
 | succ n g=>
   intro st f h;cases c:p st.hd with
   | false=>rw[Aq c];exact⟨fun a b=>absurd b (by simp),h⟩
   | true=>
     rw[C4 hd c];have d:=hr st h;have e:=g _ (by have:=(hd st c).1;omega) d.2
     exact⟨fun a b=>by
      rcases List.mem_cons.1 b with rfl | b
      · exact d.1
      · exact e.1 a b,e.2⟩
theorem Ny(D:Nat)(h:GP B st):GH B (st.sett D).1/\GP B (st.sett D).2:=
 have a:=FY (Bi [40] h);have b:=FT D (Bi [61] (Bi [39] a.2))
 ⟨⟨a.1,b.1⟩,Bi _ b.2⟩
theorem Sq(h:GP B st):GP B st.wght.2:=by
 unfold St.wght;split
 · dsimp only;split
   · trivial
   · exact Bi _ (FA h)
 · exact h
theorem TK(D:Nat)(h:GP B st):(∀s∈(st.sets D).1,GH B s)/\GP B (st.sets D).2:=by
 unfold St.sets;split
 · exact⟨fun a b=>absurd b (by simp),FA h⟩
 · have c:=Ny D h;have d:=EW (P:=GH B) (Es D) (fun st h=>Ny D (FA h)) _ (st.sett D).2 (Nat.le_refl _) c.2
   exact⟨fun a b=>by
    rcases List.mem_cons.1 b with rfl | b
    · exact c.1
    · exact d.1 a b,d.2⟩
theorem Nu(D:Nat)(h:GP B st):L2 B (st.brch D).1/\GP B (st.brch D).2:=
 have a:=TK D (Sq h)
 ⟨⟨N8 h,a.1⟩,a.2⟩
theorem QR(D:Nat)(h:GP B st):(∀s∈(st.brchs D).1,L2 B s)/\GP B (st.brchs D).2:=
 have c:=Nu D h;have d:=EW (P:=L2 B) (Er D) (fun st h=>Nu D (FA h)) _ (st.brch D).2 (Nat.le_refl _) c.2
 ⟨fun a b=>by
   rcases List.mem_cons.1 b with rfl | b
   · exact c.1
   · exact d.1 a b,d.2⟩
theorem UH(h:GP B st):GP B st.actn.2:=by
 unfold St.actn;split
 · exact h
 · exact(FY h).2
theorem Ua(D:Nat)(h:GP B st):TA B (st.cmnd D).1/\GP B (st.cmnd D).2:=
 have a:=FT D (Bi [93] (UH (Bi [91] h)));have b:=QR D (Bi [45,62] a.2)
 ⟨⟨N8 h,a.1,b.1⟩,Bi _ b.2⟩
theorem TX(D:Nat)(h:GP B st):Nk B (st.modl D).1/\GP B (st.modl D).2:=
 have a:=FY h;have b:=EW (P:=TJ B) (FB D) (fun _ h=>U4 D h) _ st.name.2 (Nat.le_refl _) a.2;have c:=EW (P:=TA B) (EL D) (fun _ h=>Ua D h) _ (st.vrbls D).2 (Nat.le_refl _) b.2
 ⟨⟨a.1,b.1,c.1⟩,Bi _ c.2⟩
theorem Ig{α:Type}{P:α->Prop}{l m:List α}(h:∀x∈l,P x)(h':∀x∈m,P x):∀x∈l++m,P x:=fun x a=>(List.mem_append.1 a).elim (h x) (h' x)
theorem Q8(D:Nat){m:AP}(hm:LC B m)(h:GP B st):LC B (st.items D m).1/\GP B (st.items D m).2:=by
 have a:=EW (P:=GH B) (C1 D AN) (fun _ h=>Nv D (FA h)) _ st (Nat.le_refl _) h;have b:=EW (P:=GH B) (C1 D AE) (fun _ h=>Nv D (FA h)) _ st (Nat.le_refl _) h;have c:=EW (P:=GH B) (Fn D BI) (fun _ h=>TZ D (FA h)) _ st (Nat.le_refl _) h;have d:=EW (P:=Nk B) (Fv D A8) (fun _ h=>TX D (FA h)) _ st (Nat.le_refl _) h;unfold St.items;split
 · exact⟨⟨Ig hm.cs a.1,hm.fs,hm.ls,hm.ms⟩,a.2⟩
 · split
   · exact⟨⟨hm.cs,Ig hm.fs b.1,hm.ls,hm.ms⟩,b.2⟩
   · split
     · exact⟨⟨hm.cs,hm.fs,Ig hm.ls c.1,hm.ms⟩,c.2⟩
     · split
       · exact⟨⟨hm.cs,hm.fs,hm.ls,Ig hm.ms d.1⟩,d.2⟩
       · exact⟨hm,IV _ _⟩
theorem Ns(D:Nat):∀(f:Nat) (m:AP) (st:St),LC B m->GP B st->LC B (GI D f m st).1/\GP B (GI D f m st).2
 | 0,m,st,hm,h=>⟨hm,h⟩
 | f+1,m,st,hm,h=>by
   simp only[GI];split
   · exact⟨hm,h⟩
   · have h1:=Q8 D hm h;exact Ns D f _ _ h1.1 h1.2
end
theorem Mu{D:Nat}{l:List UInt8}{m:AP}(h:Bp D l= .ok m):LC l.length m:=by
 unfold Bp at h;cases f:CE l with
 | error x=>rw[f]at h;cases h
 | ok a=>
   rw[f]at h;have i:LC l.length EQ:=⟨fun d hd=>absurd hd (by simp[EQ]),fun d hd=>absurd hd (by simp[EQ]),fun d hd=>absurd hd (by simp[EQ]),fun d hd=>absurd hd (by simp[EQ])⟩;have g:=Ns D ((St.good a).want D6).len EQ ((St.good a).want D6) i (Bi D6 (show GP l.length (.good a)from Ld (GC f)));have b:Qh (GI D ((St.good a).want D6).len EQ ((St.good a).want D6))= .ok m:=h;cases j:GI D ((St.good a).want D6).len EQ ((St.good a).want D6)with
   | mk m' st'=>
     rw[j]at g b;cases st' with
     | good r=>have e:m'=m:=(by injection b);rw[<- e];exact g.1
     | bad c p=>cases b
section
variable {B D:Nat}
theorem Fb{pl:Bool}{n:Nat}(h:n<9223372036854775808):(IM pl n).length<=21:=by
 unfold IM;split
 · have:=JV h;simp only[List.length_cons];omega
 · simp
theorem Ed{x:Option Ex}(hB:B<9223372036854775808)(h:J3 D x)(hp:Hd B x)(pl:Bool):(Jn pl x).length<=61*(D7 x).length:=by
 obtain⟨e,rfl,a,_⟩:=h;have b:=Fa hB e a (hp e rfl);have c:=EK e a;cases pl with
 | true=>show(Il e).length<=61*(AR e).length;omega
 | false=>show(AR e).length<=61*(AR e).length;omega
theorem F8{x:Option Ex}(hB:B<9223372036854775808)(h:J3 D x)(hp:Hd B x)(hl:(D7 x).length<=16000):Km B x:=by have a:=Ed hB h hp true;obtain⟨e,rfl,c,_⟩:=h;have b:(Il e).length<=61*(AR e).length:=a;have d:(AR e).length<=16000:=hl;exact⟨e,rfl,c,hp e rfl,by omega,by omega⟩
theorem FQ{α:Type}{f g:α->List UInt8}:∀{l:List α},(∀a∈l,(f a).length<=100*(g a).length)->((l.map f).flatten).length<=100*((l.map g).flatten).length
 | [],_=>Nat.zero_le _
 | a::l,h=>by have h1:=FQ (l:=l) (fun b c=>h b (List.mem_cons_of_mem _ c));have d:=h a List.mem_cons_self;simp only[List.map_cons,List.flatten_cons,List.length_append];omega
theorem Ky{α:Type}{f g:α->List UInt8}(b:List UInt8):∀{l:List α},(∀a∈l,(f a).length<=100*(g a).length)->(AF b (l.map f)).length<=100*(AF b (l.map g)).length
 | [],_=>Nat.zero_le _
 | [a],h=>h a List.mem_cons_self
 | a::c::l,h=>by have h1:=Ky b (l:=c::l) (fun b d=>h b (List.mem_cons_of_mem _ d));have e:=h a List.mem_cons_self;simp only[List.map_cons,AF,List.length_append]at h1 ⊢;omega
theorem Jq(hB:B<9223372036854775808)(pl:Bool)(w:List UInt8){d:Ad}(h:J3 D d.x)(hp:GH B d):(Br pl (w++[32]) [] d).length<=100*(AY w d).length:=by have a:=Ed hB h hp.2 pl;have b:=Fb (pl:=pl) (Nat.lt_of_le_of_lt hp.1 hB);simp only[Br,AY,List.length_append,List.length_cons,List.length_nil];omega
theorem Pe(hB:B<9223372036854775808)(pl:Bool){d:Ad}(h:J3 D d.x)(hp:GH B d):(Br pl (BI++[32]) [34] d).length<=100*(BY d).length:=by have a:=Ed hB h hp.2 pl;have b:=Fb (pl:=pl) (Nat.lt_of_le_of_lt hp.1 hB);simp only[Br,BY,List.length_append,List.length_cons,List.length_nil];omega
theorem PJ(hB:B<9223372036854775808)(pl:Bool){d:Ad}(h:J3 D d.x)(hp:GH B d):(Ce pl d).length<=100*(Ax d).length:=by have a:=Ed hB h hp.2 pl;have b:=Fb (pl:=pl) (Nat.lt_of_le_of_lt hp.1 hB);simp only[Ce,Ax,List.length_append,List.length_cons,List.length_nil];omega
theorem Pq(hB:B<9223372036854775808)(pl:Bool){v:B7}(h:Xm D v)(hp:TJ B v):(Cq pl v).length<=100*(Ap v).length:=by
 have g:=Fb (pl:=pl) (Nat.lt_of_le_of_lt hp.1 hB);have i:(Dw pl v).length<=61*(CS v).length:=by
  rcases h.vl with⟨a,_⟩ | ⟨a,b,d⟩
  · simp only[Dw,CS,a,if_true];omega
  · have c:=Ed hB b hp.2.1 pl;have f:=Ed hB d hp.2.2.1 pl;simp only[Dw,CS,a,Bool.false_eq_true,if_false,List.length_append,List.length_cons,List.length_nil];omega
 have e:((if v.has then 32::(CA++32::Jn pl v.ini)else[]):List UInt8).length<=61*((if v.has then 32::(CA++32::D7 v.ini)else[]):List UInt8).length:=by
  rcases h.ini with⟨a,b⟩ | ⟨a,_⟩
  · have c:=Ed hB b hp.2.2.2 pl;simp only[a,if_true,List.length_append,List.length_cons];omega
  · simp[a]
 simp only[Cq,Ap,List.length_append,List.length_cons,List.length_nil]at e ⊢;omega
theorem Q5(hB:B<9223372036854775808)(pl:Bool){b:Fe}(h:XJ D b)(hp:L2 B b):(ER pl b).length<=100*(Bs b).length:=by
 have e:=Fb (pl:=pl) (Nat.lt_of_le_of_lt hp.1 hB);have d:((if b.sets=[]then Au else AF [32,38,32] (b.sets.map (Ce pl))):List UInt8).length<=100*((if b.sets=[]then Au else AF [32,38,32] (b.sets.map Ax)):List UInt8).length:=by
  split
  · omega
  · exact Ky _ fun a c=>PJ hB pl (h.ss a c).2 (hp.2 a c)
 simp only[ER,Bs,List.length_append,List.length_cons,List.length_nil]at d ⊢;omega
theorem P7(hB:B<9223372036854775808)(pl:Bool){c:Cp}(h:Xo D c)(hp:TA B c):(Cb pl c).length<=100*(BO c).length:=by have e:=Fb (pl:=pl) (Nat.lt_of_le_of_lt hp.1 hB);have d:=Ed hB h.gd hp.2.1 pl;have i:=Ky [32,43,32] (l:=c.brs) (f:=ER pl) (g:=Bs) fun a b=>Q5 hB pl (h.bs a b) (hp.2.2 a b);simp only[Cb,BO,List.length_append,List.length_cons,List.length_nil];omega
theorem PY(hB:B<9223372036854775808)(pl:Bool){m:Ct}(h:UB D m)(hp:Nk B m):(Cs pl m).length<=100*(BR m).length:=by have d:=Fb (pl:=pl) (Nat.lt_of_le_of_lt hp.1 hB);have c:=FQ (l:=m.vars) (f:=Cq pl) (g:=Ap) fun a b=>Pq hB pl (h.vs a b) (hp.2.1 a b);have e:=FQ (l:=m.cmds) (f:=Cb pl) (g:=BO) fun a b=>P7 hB pl (h.cs a b) (hp.2.2 a b);simp only[Cs,BR,List.length_append,List.length_cons,List.length_nil];omega
theorem OF(hB:B<9223372036854775808)(pl:Bool){m:AP}(h:WA D m)(hp:LC B m):(MJ pl m).length<=100*(Gs m).length:=by have c:=FQ (l:=m.consts) (f:=Br pl (AN++[32]) []) (g:=AY AN) fun a b=>Jq hB pl AN (h.cs a b).2 (hp.cs a b);have d:=FQ (l:=m.formulas) (f:=Br pl (AE++[32]) []) (g:=AY AE) fun a b=>Jq hB pl AE (h.fs a b).2 (hp.fs a b);have e:=FQ (l:=m.labels) (f:=Br pl (BI++[32]) [34]) (g:=BY) fun a b=>Pe hB pl (h.ls a b).2 (hp.ls a b);have i:=FQ (l:=m.mods) (f:=Cs pl) (g:=BR) fun a b=>PY hB pl (h.ms a b) (hp.ms a b);simp only[MJ,Gs,List.length_append,List.length_cons];omega
end
end
section
open Go.RowKit Go.Sort
def Vu(B:Nat)(d:Ad):Prop:=d.pos<=B/\Km B d.x
def Yr(B:Nat)(v:B7):Prop:=v.pos<=B/\(v.isB=false->Km B v.low/\Km B v.high)/\(v.has=true->Km B v.ini)
def Yt(B:Nat)(b:Fe):Prop:=b.pos<=B/\b.wt<9223372036854775808/\∀s∈b.sets,Vu B s
def Yq(B:Nat)(c:Cp):Prop:=c.pos<=B/\Km B c.guard/\∀b∈c.brs,Yt B b
def Yf(B:Nat)(m:Ct):Prop:=m.pos<=B/\(∀v∈m.vars,Yr B v)/\∀c∈m.cmds,Yq B c
structure Xs(B:Nat)(m:AP):Prop where
 cs:∀d∈m.consts,Vu B d
 fs:∀d∈m.formulas,Vu B d
 ls:∀d∈m.labels,Vu B d
 ms:∀x∈m.mods,Yf B x
theorem Gr{α:Type}(f:α->List UInt8){l:List α}{k:Nat}(h:k<l.length):((l.take (k+1)).map f).flatten=((l.take k).map f).flatten++f l[k]:=by rw[List.take_succ_eq_append_getElem h,List.map_append,List.flatten_append];simp
theorem VC{α:Type}(f:α->List UInt8)(l:List α)(k:Nat):((l.take k).map f).flatten.length<=(l.map f).flatten.length:=by
 conv=>rhs;rw[<- List.take_append_drop k l]
 rw[List.map_append,List.flatten_append,List.length_append];omega
theorem Ir{α:Type}(f:α->List UInt8)(hf:∀x,0<(f x).length):∀l:List α,l.length<=(l.map f).flatten.length
 | []=>Nat.zero_le _
 | x::r=>by have h1:=Ir f hf r;have a:=hf x;simp only[List.map_cons,List.flatten_cons,List.length_append,List.length_cons];omega
theorem IT{α:Type}(f:α->List UInt8){l:List α}{k:Nat}(h:k<l.length){p N:Nat}(hN:p+(l.map f).flatten.length<=N):p+((l.take k).map f).flatten.length+(f l[k]).length<=N:=by have a:=VC f l (k+1);rw[Gr f h,List.length_append]at a;omega
theorem Nr(sep:List UInt8)(x:List UInt8):∀l:List (List UInt8),AF sep (l++[x])=AF sep l++((if l.length=0 then[]else sep)++x)
 | []=>rfl
 | [a]=>by simp[AF]
 | a::b::r=>by have ih:=Nr sep x (b::r);have e:AF sep (a::b::r++[x])=a++sep++AF sep (b::r++[x]):=rfl;rw[e,ih];simp[AF]
theorem IY{α:Type}(sep:List UInt8)(f:α->List UInt8){l:List α}{k:Nat}(h:k<l.length):AF sep ((l.take (k+1)).map f)=AF sep ((l.take k).map f)++((if k=0 then[]else sep)++f l[k]):=by have e:((l.take k).map f).length=k:=(by rw[List.length_map,List.length_take];omega);rw[List.take_succ_eq_append_getElem h,List.map_append,List.map_singleton,Nr,e]
theorem OB{α:Type}(sep:List UInt8)(f:α->List UInt8)(l:List α)(k:Nat):∀j,(AF sep ((l.take k).map f)).length<=(AF sep ((l.take (k+j)).map f)).length
 | 0=>Nat.le_refl _
 | j+1=>by
   have h1:=OB sep f l k j;by_cases h:k+j<l.length
   · have e:=IY sep f h;rw[show k+(j+1)=k+j+1 from rfl,e,List.length_append];omega
   · rw[List.take_of_length_le (show l.length<=k+(j+1) by omega)];rw[List.take_of_length_le (show l.length<=k+j by omega)]at h1;exact h1
theorem U9{α:Type}(sep:List UInt8)(f:α->List UInt8)(l:List α)(k:Nat):(AF sep ((l.take k).map f)).length<=(AF sep (l.map f)).length:=by have h:=OB sep f l k l.length;rw[List.take_of_length_le (show l.length<=k+l.length by omega)]at h;exact h
theorem OS{α:Type}(sep:List UInt8)(f:α->List UInt8){l:List α}{k:Nat}(h:k<l.length){p N:Nat}(hN:p+(AF sep (l.map f)).length<=N):p+(AF sep ((l.take k).map f)).length+((if k=0 then[]else sep)++f l[k]).length<=N:=by have a:=U9 sep f l (k+1);rw[IY sep f h,List.length_append]at a;omega
theorem Nh{α:Type}(sep:List UInt8)(f:α->List UInt8)(hf:∀x,0<(f x).length):∀l:List α,l.length<=(AF sep (l.map f)).length
 | []=>Nat.zero_le _
 | [x]=>by have:=hf x;simp only[List.map_cons,List.map_nil,AF,List.length_cons,List.length_nil];omega
 | x::y::r=>by have a:=Nh sep f hf (y::r);have b:=hf x;have e:AF sep ((x::y::r).map f)=f x++sep++AF sep ((y::r).map f):=rfl;rw[e,List.length_append,List.length_append];simp only[List.length_cons]at a ⊢;omega
section
variable {w:World} {b:Nat} {c:List Value}
theorem DW.len7{d:Ad}(h:DW w b d c):c.length=7:=by obtain⟨v,rfl,_⟩:=h;rfl
theorem Gh.len19{d:B7}(h:Gh w b d c):c.length=19:=by obtain⟨p,q,r,a,_⟩:=h;rw[a];rfl
theorem II.len3{d:Fe}(h:II w b d c):c.length=3:=by obtain⟨A,a,e,_⟩:=h;rw[e];rfl
theorem IA.len8{d:Cp}(h:IA w b d c):c.length=8:=by obtain⟨v,A,a,e,_⟩:=h;rw[e];rfl
end
def X4(t:ByteArray)(w:World)(e:Ending)(w':World):Prop:=e= .returned (.string t)/\Below w.heap.size w w'
theorem MN{t:ByteArray}{l:List UInt8}(h:t.data.toList=l){w:World}{e:Ending}{w':World}(hs:Sn l w e w'):X4 t w e w':=⟨by rw[hs.1,Bw h],hs.2⟩
theorem OT{n:Nat}(hn:n<9223372036854775808)(pl:Bool):∃t:ByteArray,t.data.toList=IM pl n/\t.size<=100000000/\∀w,Calls Tryz.prog 28 #[.int .i64 (n:Int),.bool pl] w (X4 t w):=by
 have c:(IM pl n).length<=100000000:=by
  unfold IM;cases pl with
  | true=>have:=Hb hn;simp only[if_true,List.length_cons];omega
  | false=>simp
 obtain⟨t,a,b⟩:=F7 (IM pl n) 100000000 c;exact⟨t,a,b,fun w=>(Us n hn pl w).mono fun _ _ h=>MN a h⟩
theorem YB{n:Nat}(hn:n<9223372036854775808):∃t:ByteArray,t.data.toList=CJ n/\t.size<=100000000/\∀w,Calls Tryz.prog 30 #[.int .i64 (n:Int)] w (X4 t w):=by obtain⟨t,a,b⟩:=F7 (CJ n) 100000000 (by have:=Hb hn;omega);exact⟨t,a,b,fun w=>(FJ n hn w).mono fun _ _ h=>MN a h⟩
theorem UC{B:Nat}{x:Option Ex}(hx:Km B x)(pl:Bool):(Jn pl x).length<=100000000:=by
 obtain⟨e,rfl,_,_,a,b⟩:=hx;unfold Jn;cases pl
 · show(AR e).length<=_;omega
 · show(Il e).length<=_;omega
def Y0(b:Nat)(x:Option Ex)(pl:Bool)(t:ByteArray):Prop:=∀(w:World) (v:XV),DI w b x v->Calls Tryz.prog 29 #[.agg #[.string v.o,.string v.nm,.int .i64 v.n,.slice v.A v.ll v.cap,.int .i64 v.p],.bool pl] w (X4 t w)
theorem OY{B:Nat}(hB:B<9223372036854775808){x:Option Ex}(hx:Km B x)(pl:Bool)(b:Nat):∃t:ByteArray,t.data.toList=Jn pl x/\t.size<=100000000/\Y0 b x pl t:=by obtain⟨t,a,c⟩:=F7 (Jn pl x) 100000000 (UC hx pl);exact⟨t,a,c,fun w v h=>(P8 hB hx pl w h).mono fun _ _ h=>MN a h⟩
def MM(w0:World)(pre:List UInt8)(tx:Nat->List UInt8)(n:Nat)(s i:Value)(W:World):Prop:=
 ∃(k:Nat) (t:ByteArray),i= .int .i64 (k:Int)/\k<=n/\s= .string t/\t.data.toList=pre++tx k/\Below w0.heap.size w0 W
def JI(w0:World)(l:List UInt8)(s:Value)(W:World):Prop:=∃t:ByteArray,s= .string t/\t.data.toList=l/\Below w0.heap.size w0 W
theorem DM{t:ByteArray}{l:List UInt8}{n:Nat}(h:t.data.toList=l)(hl:l.length<=n):t.size<=n:=by rw[<- AU,h];exact hl
def NM(m:AP):Nat->List Ad
 | 0=>m.consts
 | 1=>m.formulas
 | _=>m.labels
def SQ:Nat->ByteArray
 | 0=>⟨#[99,111,110,115,116,32]⟩
 | 1=>⟨#[102,111,114,109,117,108,97,32]⟩
 | _=>⟨#[108,97,98,101,108,32]⟩
def Rs:Nat->ByteArray
 | 0=>⟨#[]⟩
 | 1=>⟨#[]⟩
 | _=>⟨#[34]⟩
def Xp(pl:Bool)(k:Nat):Ad->List UInt8:=Br pl (SQ k).data.toList (Rs k).data.toList
def Tm(pl:Bool)(m:AP)(k:Nat):List UInt8:=((NM m k).map (Xp pl k)).flatten
def I7(pl:Bool)(m:AP):Nat->List UInt8
 | 0=>[]
 | k+1=>I7 pl m k++Tm pl m k
theorem Lh(pl:Bool)(m:AP):MJ pl m=[109,100,112,10]++(I7 pl m 3++(m.mods.map (Cs pl)).flatten):=by simp only[MJ,I7,Tm,NM,Xp,D6,List.nil_append,List.append_assoc,List.cons_append];rfl
theorem TD(pl:Bool)(m:AP){k:Nat}(hk:k<3):(I7 pl m k).length+(Tm pl m k).length<=(I7 pl m 3).length:=by have h:k=0∨k=1∨k=2:=(by omega);rcases h with rfl | rfl | rfl<;>simp only[I7,List.length_append]<;>omega
theorem Ta{B:Nat}{m:AP}(h:Xs B m)(k:Nat):∀d∈NM m k,Vu B d:=by
 match k with
 | 0=>exact h.cs
 | 1=>exact h.fs
 | _+2=>exact h.ls
def Xa(W:World)(b:Nat)(m:AP)(k:Nat)(l:Value):Prop:=∃(A:Option Addr) (cap:Nat),l= .slice A (NM m k).length cap/\AQ W b 83 7 (DW W b) (NM m k) (.slice A (NM m k).length cap)
theorem Pv(pl:Bool)(w q:List UInt8)(d:Ad):0<(Br pl w q d).length:=by simp only[Br,List.length_append,List.length_cons,List.length_nil];omega
theorem PA(pl:Bool)(d:B7):0<(Cq pl d).length:=by simp only[Cq,List.length_append,List.length_cons,List.length_nil];omega
theorem PX(pl:Bool)(d:Ad):0<(Ce pl d).length:=by simp only[Ce,List.length_append,List.length_cons,List.length_nil];omega
theorem QW(pl:Bool)(d:Fe):0<(ER pl d).length:=by simp only[ER,List.length_append,List.length_cons,List.length_nil];omega
theorem Pr(pl:Bool)(d:Cp):0<(Cb pl d).length:=by simp only[Cb,List.length_append,List.length_cons,List.length_nil];omega
theorem Py(pl:Bool)(d:Ct):0<(Cs pl d).length:=by simp only[Cs,List.length_append,List.length_cons,List.length_nil];omega
section
variable {w w':World} {b:Nat} {c:List Value} {v:Value}
theorem DI.on{x:Option Ex}{u:XV}(h:DI w b x u)(hb:Below w.heap.size w w'):DI w' b x u:=h.keep (Kt.below (E:=E0) hb) id
theorem Id{l:List Ad}(h:AQ w b 83 7 (DW w b) l v)(hb:Below w.heap.size w w'):AQ w' b 83 7 (DW w' b) l v:=h.keep (Kt.below (E:=E0) hb) id (fun _ _ h=>h.keep (Kt.below (E:=E0) hb) id)
theorem KQ{l:List B7}(h:AQ w b 92 19 (Gh w b) l v)(hb:Below w.heap.size w w'):AQ w' b 92 19 (Gh w' b) l v:=h.keep (Kt.below (E:=E0) hb) id (fun _ _ h=>h.keep (Kt.below (E:=E0) hb) id)
theorem Kj{l:List Fe}(h:AQ w b 108 3 (II w b) l v)(hb:Below w.heap.size w w'):AQ w' b 108 3 (II w' b) l v:=h.keep (Kt.below (E:=E0) hb) id (fun _ _ h=>h.keep (Kt.below (E:=E0) hb) id id)
theorem Ic{l:List Cp}(h:AQ w b 96 8 (IA w b) l v)(hb:Below w.heap.size w w'):AQ w' b 96 8 (IA w' b) l v:=h.keep (Kt.below (E:=E0) hb) id (fun _ _ h=>h.keep (Kt.below (E:=E0) hb) id id id)
theorem Ue{l:List Ct}(h:AQ w b 88 4 (K7 w b) l v)(hb:Below w.heap.size w w'):AQ w' b 88 4 (K7 w' b) l v:=h.keep (Kt.below (E:=E0) hb) id (fun _ _ h=>h.keep (Kt.below (E:=E0) hb) id id id id id)
end
end
end Go.Proofs.YtodijgndbjfbgaaGreatDoor
