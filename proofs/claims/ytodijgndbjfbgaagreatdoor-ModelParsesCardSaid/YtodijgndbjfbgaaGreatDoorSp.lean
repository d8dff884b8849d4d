import Derived.Test.YtodijgndbjfbgaaGreatDoorSn
import Derived.Deep.AppendLies
import Derived.Test.YtodijgndbjfbgaaGreatDoorSo
import Derived.Deep.RegionLaw
import Derived.RegionTactic
namespace Go.Proofs.YtodijgndbjfbgaaGreatDoor
set_option maxHeartbeats 16000000
set_option maxRecDepth 100000
section
open Go.RowKit
section
variable {xb rb b D:Nat} {st:St}
theorem NI:(Tryz.prog.info? 118).map (fun i=>(i.zero,i.size,i.bytes))=some (some (.agg #[.string ⟨#[]⟩,.string ⟨#[]⟩,.string ⟨#[]⟩,.int .i64 0,.slice none 0 0,.int .i64 0,.int .i64 0]),7,96):=by kernel_rfl
theorem J7{b1:Nat}{row0:Option Nat}{A0:Option Addr}{n0 cap0:Nat}{l0:List Ad}(w:World)(h:AM w xb rb b D st){p q:Nat}(x:ByteArray)(hc:GU w xb rb p q x)(hcr:row0≠some p/\row0≠some q)(hb1:b<=b1)(hbw:b1<=w.heap.size)(hxr:xb<b1/\rb<b1)(hrow:AQ w b1 118 7 (DH w b1) l0 (.slice A0 n0 cap0))(hr0:(Value.slice A0 n0 cap0).ownBlock=row0)(hlen:l0.length+st.len<=200000):
 Calls Tryz.prog 78 #[.slice A0 n0 cap0,.func (.func 103) #[] #[.pointer (some ⟨p,0,none⟩),.pointer (some ⟨q,0,none⟩)],.func (.func 80) #[.pointer (some ⟨xb,0,none⟩)] #[]] w (Vm 118 7 DH xb rb b D b1 row0 l0 (st.list (fun t=>AG t x.data.toList) (fun s:St=>s.tl.defn D)) w):=by
 obtain⟨i0,U,hz⟩:=Option.map_eq_some_iff.1 NI;simp only[Prod.mk.injEq]at hz;obtain⟨V,W,X⟩:=hz;have ag:=zz V;have ah:=zz W;have ai:=zz X;have HI:=zz U;have hd:H6 (fun t=>AG t x.data.toList) (fun s:St=>s.tl.defn D):=Ef (F1 D);have HD:=zz hd;obtain⟨i,r⟩:∃i,i=st.list (fun t=>AG t x.data.toList) (fun s:St=>s.tl.defn D):=⟨_,rfl⟩;rw[<- r];have L:=zz (show ET 118 7 DH (fun t=>AG t x.data.toList) (fun s:St=>s.tl.defn D) xb rb b D b1 row0 l0 i w st.len (.slice A0 n0 cap0) w from⟨[],st,rfl,by simpa using hrow,h,by rw[r];simp,Fx.refl _ _,.inl hr0,by simpa using hlen⟩);have HC:=zz (fun(wr:World) (hf:Fx (X3 xb rb row0) w wr)=>hc.fx3 hf hcr);clear hc hcr;clear V W X U hd h hrow hr0 hlen r;go_enter Tryz.func78,Tryz.ntmps78;go_wp2;go_loopg [0] st.len (fun gk v wr=>ET 118 7 DH (fun t=>AG t x.data.toList) (fun s:St=>s.tl.defn D) xb rb b D b1 row0 l0 i w gk v wr);(case atStart=>exact L.out);case round=>
  clear L;obtain⟨M,a,rfl,hL⟩:=hrel;obtain⟨A1,O,aj⟩:=hL.row.form;subst aj;have g:=zz hL;clear hL;obtain⟨N,T⟩:∃N,N=(l0++M).length:=⟨_,rfl⟩;have d:=zz T;rw[<- T];clear T;cases J:AG a.hd x.data.toList with
  | false=>
    have F:=zz (Ep wr g.out.mr x (HC.out wr g.out.fx) J)
    have HT:=zz (show M=i.1/\a=i.2 by
     have:=g.out.tot;rw[Aq (p:=(fun t=>AG t x.data.toList)) (rd:=(fun s:St=>s.tl.defn D)) J]at this
     rw[<- this];simp)
    skip;clear J;go_wp2_with fail;refine(F.out).mono ?_;rintro e w1 ⟨rfl,C⟩;have z:=zz C;clear C;go_wp2;go_ret;obtain⟨e1,e2⟩:=HT.out;have T:=d.out;subst e1 e2;exact⟨A1,O,Dg T,g.out.row.keep (E:=E0) (Kt.below z.out) id (fun _ _ h=>h.keep (Kt.below (E:=E0) z.out) id),g.out.mr.below z.out,g.out.fx.on z.out,g.out.at_⟩
  | true=>
    have F:=zz (EJ wr g.out.mr x (HC.out wr g.out.fx) J);have HP:=zz (show(fun t=>AG t x.data.toList) a.hd=true from J);have ab:=zz ((HD.out a J).1);skip;clear J;go_wp2_with fail;refine(F.out).mono ?_;rintro e w1 ⟨rfl,R,G⟩;have ac:=zz R;have Z:=zz G;have K:=zz (show Fx (X3 xb rb row0) w w1 from g.out.fx.trans G.three);have ao:=K.out.size;clear R G;go_wp2_with fail;refine(O2 w1 ac.out).mono ?_;rintro e y ⟨v,rfl,hX,S,H⟩;have l:Fx (X3 xb rb row0) w y:=K.out.trans H.three;have I:Kt b1 E0 wr y:=Kt.fx (Z.out.trans H) (fun k hk=>BN hk hxr.1 hxr.2);obtain⟨cs,hO,P⟩:=g.out.row;have HO:=zz (At hO I id);have aa:=zz (P.imp (Q:=DH y b1) (fun _ _ h=>h.keep I id));have HE:=zz (show DH y b1 ((fun s:St=>s.tl.defn D) a).1 [.string ⟨(a.tl.defn D).1.nm.toArray⟩,.string v.o,.string v.nm,.int .i64 v.n,.slice v.A v.ll v.cap,.int .i64 v.p,.int .i64 (((a.tl.defn D).1.pos:Nat):Int)]from⟨v,rfl,hX.mono (by omega)⟩);have ad:=zz (show AM y xb rb b D ((fun s:St=>s.tl.defn D) a).2 from S);have Y:=zz l;have an:b1<=y.heap.size:=(by have:=l.size;omega);have am:N<=200000:=(by rw[d.out,List.length_append];have:=g.out.len;omega);rw[<- d.out]at HO;have ae:=zz (At HO.out (Kt.below (E:=E0) ((Below.refl y.heap.size y).alloc (Nat.le_refl _) (.cells #[.string ⟨(a.tl.defn D).1.nm.toArray⟩,.string v.o,.string v.nm,.int .i64 v.n,.slice v.A v.ll v.cap,.int .i64 v.p,.int .i64 (((a.tl.defn D).1.pos:Nat):Int)] 118))) id);clear hO P H S l I hX;go_wp2_with (at_builtin;refine wpList_append_lies _ rfl _ _ 23 rfl b1 118 i0 (.agg #[.string ⟨#[]⟩,.string ⟨#[]⟩,.string ⟨#[]⟩,.int .i64 0,.slice none 0 0,.int .i64 0,.int .i64 0]) 7 96 Tryz.underlying23 HI.out ag.out ah.out ai.out rfl (by decide) _ _ _ rfl ae.out ⟨y.heap.size,0,none⟩ 1 1 [.string ⟨(a.tl.defn D).1.nm.toArray⟩,.string v.o,.string v.nm,.int .i64 v.n,.slice v.A v.ll v.cap,.int .i64 v.p,.int .i64 (((a.tl.defn D).1.pos:Nat):Int)] rfl rfl ?c1 ?c2 (by omega) ?c3 ?c4 ?c5 (y.heap.size+1) (by simp) ?_);(case c1=>intro j u hj;exact(Bx.new y 118 [.string ⟨(a.tl.defn D).1.nm.toArray⟩,.string v.o,.string v.nm,.int .i64 v.n,.slice v.A v.ll v.cap,.int .i64 v.p,.int .i64 (((a.tl.defn D).1.pos:Nat):Int)]).cell_add hj);case c2=>intro u hu;simp only[List.mem_cons,List.not_mem_nil,or_false]at hu;rcases hu with rfl | rfl | rfl | rfl | rfl | rfl | rfl<;>rfl
    (case c3=>unfold maxLen;omega);case c4=>omega
    (case c5=>simp;omega);intro g2 ak w3 m f B al
    have af:=zz (g.out.step HD.out HP.out (by unfold EH;decide) (fun _ _ _ _ _ hk h=>h.keep hk (show ¬(57=118) by decide)) hb1 (c:=[.string ⟨(a.tl.defn D).1.nm.toArray⟩,.string v.o,.string v.nm,.int .i64 v.n,.slice v.A v.ll v.cap,.int .i64 v.p,.int .i64 (((a.tl.defn D).1.pos:Nat):Int)]) (by rw[<- d.out];exact HO.out) aa.out HE.out ad.out Y.out (by rw[<- d.out];exact m) (by rw[<- d.out];exact f) (by
     rcases B with e | e
     · left;rw[<- d.out];exact e.symm
     · right;rw[e];rfl))
    clear m f B;go_wp2;go_roundg ((fun s:St=>s.tl.defn D) a).2.len;(case measure=>exact ab.out);case rel=>exact⟨_,_,rfl,af.out⟩
theorem Ml:(Tryz.prog.info? 118).map (fun i=>(i.zero,i.size,i.bytes))=some (some (.agg #[.string ⟨#[]⟩,.string ⟨#[]⟩,.string ⟨#[]⟩,.int .i64 0,.slice none 0 0,.int .i64 0,.int .i64 0]),7,96):=by kernel_rfl
theorem P0{b1:Nat}{row0:Option Nat}{A0:Option Addr}{n0 cap0:Nat}{l0:List Ad}(w:World)(h:AM w xb rb b D st){p q:Nat}(x:ByteArray)(hc:GU w xb rb p q x)(hcr:row0≠some p/\row0≠some q)(hb1:b<=b1)(hbw:b1<=w.heap.size)(hxr:xb<b1/\rb<b1)(hrow:AQ w b1 118 7 (DH w b1) l0 (.slice A0 n0 cap0))(hr0:(Value.slice A0 n0 cap0).ownBlock=row0)(hlen:l0.length+st.len<=200000):
 Calls Tryz.prog 78 #[.slice A0 n0 cap0,.func (.func 103) #[] #[.pointer (some ⟨p,0,none⟩),.pointer (some ⟨q,0,none⟩)],.func (.func 81) #[.pointer (some ⟨xb,0,none⟩)] #[]] w (Vm 118 7 DH xb rb b D b1 row0 l0 (st.list (fun t=>AG t x.data.toList) (fun s:St=>s.tl.labl D)) w):=by
 obtain⟨i0,U,hz⟩:=Option.map_eq_some_iff.1 Ml;simp only[Prod.mk.injEq]at hz;obtain⟨V,W,X⟩:=hz;have ag:=zz V;have ah:=zz W;have ai:=zz X;have HI:=zz U;have hd:H6 (fun t=>AG t x.data.toList) (fun s:St=>s.tl.labl D):=Ef (IW D);have HD:=zz hd;obtain⟨i,r⟩:∃i,i=st.list (fun t=>AG t x.data.toList) (fun s:St=>s.tl.labl D):=⟨_,rfl⟩;rw[<- r];have L:=zz (show ET 118 7 DH (fun t=>AG t x.data.toList) (fun s:St=>s.tl.labl D) xb rb b D b1 row0 l0 i w st.len (.slice A0 n0 cap0) w from⟨[],st,rfl,by simpa using hrow,h,by rw[r];simp,Fx.refl _ _,.inl hr0,by simpa using hlen⟩);have HC:=zz (fun(wr:World) (hf:Fx (X3 xb rb row0) w wr)=>hc.fx3 hf hcr);clear hc hcr;clear V W X U hd h hrow hr0 hlen r;go_enter Tryz.func78,Tryz.ntmps78;go_wp2;go_loopg [0] st.len (fun gk v wr=>ET 118 7 DH (fun t=>AG t x.data.toList) (fun s:St=>s.tl.labl D) xb rb b D b1 row0 l0 i w gk v wr);(case atStart=>exact L.out);case round=>
  clear L;obtain⟨M,a,rfl,hL⟩:=hrel;obtain⟨A1,O,aj⟩:=hL.row.form;subst aj;have g:=zz hL;clear hL;obtain⟨N,T⟩:∃N,N=(l0++M).length:=⟨_,rfl⟩;have d:=zz T;rw[<- T];clear T;cases J:AG a.hd x.data.toList with
  | false=>
    have F:=zz (Ep wr g.out.mr x (HC.out wr g.out.fx) J)
    have HT:=zz (show M=i.1/\a=i.2 by
     have:=g.out.tot;rw[Aq (p:=(fun t=>AG t x.data.toList)) (rd:=(fun s:St=>s.tl.labl D)) J]at this
     rw[<- this];simp)
    skip;clear J;go_wp2_with fail;refine(F.out).mono ?_;rintro e w1 ⟨rfl,C⟩;have z:=zz C;clear C;go_wp2;go_ret;obtain⟨e1,e2⟩:=HT.out;have T:=d.out;subst e1 e2;exact⟨A1,O,Dg T,g.out.row.keep (E:=E0) (Kt.below z.out) id (fun _ _ h=>h.keep (Kt.below (E:=E0) z.out) id),g.out.mr.below z.out,g.out.fx.on z.out,g.out.at_⟩
  | true=>
    have F:=zz (EJ wr g.out.mr x (HC.out wr g.out.fx) J);have HP:=zz (show(fun t=>AG t x.data.toList) a.hd=true from J);have ab:=zz ((HD.out a J).1);skip;clear J;go_wp2_with fail;refine(F.out).mono ?_;rintro e w1 ⟨rfl,R,G⟩;have ac:=zz R;have Z:=zz G;have K:=zz (show Fx (X3 xb rb row0) w w1 from g.out.fx.trans G.three);have ao:=K.out.size;clear R G;go_wp2_with fail;refine(MR w1 ac.out).mono ?_;rintro e y ⟨v,rfl,hX,S,H⟩;have l:Fx (X3 xb rb row0) w y:=K.out.trans H.three;have I:Kt b1 E0 wr y:=Kt.fx (Z.out.trans H) (fun k hk=>BN hk hxr.1 hxr.2);obtain⟨cs,hO,P⟩:=g.out.row;have HO:=zz (At hO I id);have aa:=zz (P.imp (Q:=DH y b1) (fun _ _ h=>h.keep I id));have HE:=zz (show DH y b1 ((fun s:St=>s.tl.labl D) a).1 [.string ⟨(a.tl.labl D).1.nm.toArray⟩,.string v.o,.string v.nm,.int .i64 v.n,.slice v.A v.ll v.cap,.int .i64 v.p,.int .i64 (((a.tl.labl D).1.pos:Nat):Int)]from⟨v,rfl,hX.mono (by omega)⟩);have ad:=zz (show AM y xb rb b D ((fun s:St=>s.tl.labl D) a).2 from S);have Y:=zz l;have an:b1<=y.heap.size:=(by have:=l.size;omega);have am:N<=200000:=(by rw[d.out,List.length_append];have:=g.out.len;omega);rw[<- d.out]at HO;have ae:=zz (At HO.out (Kt.below (E:=E0) ((Below.refl y.heap.size y).alloc (Nat.le_refl _) (.cells #[.string ⟨(a.tl.labl D).1.nm.toArray⟩,.string v.o,.string v.nm,.int .i64 v.n,.slice v.A v.ll v.cap,.int .i64 v.p,.int .i64 (((a.tl.labl D).1.pos:Nat):Int)] 118))) id);clear hO P H S l I hX;go_wp2_with (at_builtin;refine wpList_append_lies _ rfl _ _ 23 rfl b1 118 i0 (.agg #[.string ⟨#[]⟩,.string ⟨#[]⟩,.string ⟨#[]⟩,.int .i64 0,.slice none 0 0,.int .i64 0,.int .i64 0]) 7 96 Tryz.underlying23 HI.out ag.out ah.out ai.out rfl (by decide) _ _ _ rfl ae.out ⟨y.heap.size,0,none⟩ 1 1 [.string ⟨(a.tl.labl D).1.nm.toArray⟩,.string v.o,.string v.nm,.int .i64 v.n,.slice v.A v.ll v.cap,.int .i64 v.p,.int .i64 (((a.tl.labl D).1.pos:Nat):Int)] rfl rfl ?c1 ?c2 (by omega) ?c3 ?c4 ?c5 (y.heap.size+1) (by simp) ?_);(case c1=>intro j u hj;exact(Bx.new y 118 [.string ⟨(a.tl.labl D).1.nm.toArray⟩,.string v.o,.string v.nm,.int .i64 v.n,.slice v.A v.ll v.cap,.int .i64 v.p,.int .i64 (((a.tl.labl D).1.pos:Nat):Int)]).cell_add hj);case c2=>intro u hu;simp only[List.mem_cons,List.not_mem_nil,or_false]at hu;rcases hu with rfl | rfl | rfl | rfl | rfl | rfl | rfl<;>rfl
    (case c3=>unfold maxLen;omega);case c4=>omega
    (case c5=>simp;omega);intro g2 ak w3 m f B al
    have af:=zz (g.out.step HD.out HP.out (by unfold EH;decide) (fun _ _ _ _ _ hk h=>h.keep hk (show ¬(57=118) by decide)) hb1 (c:=[.string ⟨(a.tl.labl D).1.nm.toArray⟩,.string v.o,.string v.nm,.int .i64 v.n,.slice v.A v.ll v.cap,.int .i64 v.p,.int .i64 (((a.tl.labl D).1.pos:Nat):Int)]) (by rw[<- d.out];exact HO.out) aa.out HE.out ad.out Y.out (by rw[<- d.out];exact m) (by rw[<- d.out];exact f) (by
     rcases B with e | e
     · left;rw[<- d.out];exact e.symm
     · right;rw[e];rfl))
    clear m f B;go_wp2;go_roundg ((fun s:St=>s.tl.labl D) a).2.len;(case measure=>exact ab.out);case rel=>exact⟨_,_,rfl,af.out⟩
end
end
section
section
open Go.RowKit
section
variable {xb rb b D:Nat} {st:St}
theorem QC:(Tryz.prog.info? 60).map (fun i=>(i.zero,i.size,i.bytes))=some (some (.agg #[.string ⟨#[]⟩,.string ⟨#[]⟩,.string ⟨#[]⟩,.int .i64 0,.slice none 0 0,.int .i64 0,.slice none 0 0,.int .i64 0]),8,120):=by kernel_rfl
theorem Re{b1:Nat}{row0:Option Nat}{A0:Option Addr}{n0 cap0:Nat}{l0:List Cp}(w:World)(h:AM w xb rb b D st)(hb1:b<=b1)(hbw:b1<=w.heap.size)(hxr:xb<b1/\rb<b1)(hrow:AQ w b1 60 8 (CH w b1) l0 (.slice A0 n0 cap0))(hr0:(Value.slice A0 n0 cap0).ownBlock=row0)(hlen:l0.length+st.len<=200000):
 Calls Tryz.prog 110 #[.slice A0 n0 cap0,.func (.func 111) #[.pointer (some ⟨xb,0,none⟩)] #[],.func (.func 112) #[.pointer (some ⟨xb,0,none⟩)] #[]] w (Vm 60 8 CH xb rb b D b1 row0 l0 (st.list (fun t=>AG t [91]) (St.cmnd D)) w):=by
 obtain⟨i0,P,hz⟩:=Option.map_eq_some_iff.1 QC;simp only[Prod.mk.injEq]at hz;obtain⟨R,S,T⟩:=hz;have ad:=zz R;have ae:=zz S;have af:=zz T;have HI:=zz P;have hd:H6 (fun t=>AG t [91]) (St.cmnd D):=EL D;have HD:=zz hd;obtain⟨l,x⟩:∃l,l=st.list (fun t=>AG t [91]) (St.cmnd D):=⟨_,rfl⟩;rw[<- x];have I:=zz (show ET 60 8 CH (fun t=>AG t [91]) (St.cmnd D) xb rb b D b1 row0 l0 l w st.len (.slice A0 n0 cap0) w from⟨[],st,rfl,by simpa using hrow,h,by rw[x];simp,Fx.refl _ _,.inl hr0,by simpa using hlen⟩);clear R S T P hd h hrow hr0 hlen x;go_enter Tryz.func110,Tryz.ntmps110;go_wp2;go_loopg [0] st.len (fun gk v wr=>ET 60 8 CH (fun t=>AG t [91]) (St.cmnd D) xb rb b D b1 row0 l0 l w gk v wr);(case atStart=>exact I.out);case round=>
  clear I;obtain⟨J,a,rfl,hL⟩:=hrel;obtain⟨A1,K,ag⟩:=hL.row.form;subst ag;have m:=zz hL;clear hL;obtain⟨N,O⟩:∃N,N=(l0++J).length:=⟨_,rfl⟩;have f:=zz O;rw[<- O];clear O;cases G:AG a.hd [91]with
  | false=>
    have q:=zz (I3 wr m.out.mr)
    have HT:=zz (show J=l.1/\a=l.2 by
     have:=m.out.tot;rw[Aq (p:=(fun t=>AG t [91])) (rd:=(St.cmnd D)) G]at this
     rw[<- this];simp)
    rw[G]at q;clear G;go_wp2_with fail;refine(q.out).mono ?_;rintro e w1 ⟨rfl,d⟩;have z:=zz d;clear d;go_wp2;go_ret;obtain⟨e1,e2⟩:=HT.out;have O:=f.out;subst e1 e2;exact⟨A1,K,Dg O,m.out.row.keep (E:=E0) (Kt.below z.out) id (fun _ _ h=>h.keep (Kt.below (E:=E0) z.out) id id id),m.out.mr.below z.out,m.out.fx.on z.out,m.out.at_⟩
  | true=>
    have q:=zz (I3 wr m.out.mr);have HP:=zz (show(fun t=>AG t [91]) a.hd=true from G);have Y:=zz ((HD.out a G).1);rw[G]at q;clear G;go_wp2_with fail;refine(q.out).mono ?_;rintro e w1 ⟨rfl,d⟩;have Z:=zz (m.out.mr.below d);have V:=zz (Fx.of (X:=X2 xb rb) d);have H:=zz (show Fx (X3 xb rb row0) w w1 from m.out.fx.on d);have al:=H.out.size;clear d;go_wp2_with fail;refine(Rc w1 Z.out).mono ?_;rintro e y ⟨v,A,i,rfl,hX,hR,M,C⟩;have r:Fx (X3 xb rb row0) w y:=H.out.trans C.three;have F:Kt b1 E0 wr y:=Kt.fx (V.out.trans C) (fun k hk=>BN hk hxr.1 hxr.2);obtain⟨cs,hO,L⟩:=m.out.row;have HO:=zz (At hO F id);have W:=zz (L.imp (Q:=CH y b1) (fun _ _ h=>h.keep F id id id));have HE:=zz (show CH y b1 ((St.cmnd D) a).1 [.string ⟨(a.cmnd D).1.act.toArray⟩,.string v.o,.string v.nm,.int .i64 v.n,.slice v.A v.ll v.cap,.int .i64 v.p,.slice A (a.cmnd D).1.brs.length i,.int .i64 (((a.cmnd D).1.pos:Nat):Int)]from⟨v,A,i,rfl,hX.mono (by omega),hR.mono (by omega) (fun _ _ h=>h.mono (by omega))⟩);have aa:=zz (show AM y xb rb b D ((St.cmnd D) a).2 from M);have U:=zz r;have ak:b1<=y.heap.size:=(by have:=r.size;omega);have aj:N<=200000:=(by rw[f.out,List.length_append];have:=m.out.len;omega);rw[<- f.out]at HO;have ab:=zz (At HO.out (Kt.below (E:=E0) ((Below.refl y.heap.size y).alloc (Nat.le_refl _) (.cells #[.string ⟨(a.cmnd D).1.act.toArray⟩,.string v.o,.string v.nm,.int .i64 v.n,.slice v.A v.ll v.cap,.int .i64 v.p,.slice A (a.cmnd D).1.brs.length i,.int .i64 (((a.cmnd D).1.pos:Nat):Int)] 60))) id);clear hO L C M r F hX hR;go_wp2_with (at_builtin;refine wpList_append_lies _ rfl _ _ 49 rfl b1 60 i0 (.agg #[.string ⟨#[]⟩,.string ⟨#[]⟩,.string ⟨#[]⟩,.int .i64 0,.slice none 0 0,.int .i64 0,.slice none 0 0,.int .i64 0]) 8 120 Tryz.underlying49 HI.out ad.out ae.out af.out rfl (by decide) _ _ _ rfl ab.out ⟨y.heap.size,0,none⟩ 1 1 [.string ⟨(a.cmnd D).1.act.toArray⟩,.string v.o,.string v.nm,.int .i64 v.n,.slice v.A v.ll v.cap,.int .i64 v.p,.slice A (a.cmnd D).1.brs.length i,.int .i64 (((a.cmnd D).1.pos:Nat):Int)] rfl rfl ?c1 ?c2 (by omega) ?c3 ?c4 ?c5 (y.heap.size+1) (by simp) ?_);(case c1=>intro j u hj;exact(Bx.new y 60 [.string ⟨(a.cmnd D).1.act.toArray⟩,.string v.o,.string v.nm,.int .i64 v.n,.slice v.A v.ll v.cap,.int .i64 v.p,.slice A (a.cmnd D).1.brs.length i,.int .i64 (((a.cmnd D).1.pos:Nat):Int)]).cell_add hj);case c2=>intro u hu;simp only[List.mem_cons,List.not_mem_nil,or_false]at hu;rcases hu with rfl | rfl | rfl | rfl | rfl | rfl | rfl | rfl<;>rfl
    (case c3=>unfold maxLen;omega);case c4=>omega
    (case c5=>simp;omega);intro g2 ah w3 s g B ai
    have ac:=zz (m.out.step HD.out HP.out (by unfold EH;decide) (fun _ _ _ _ _ hk h=>h.keep hk (show ¬(57=60) by decide) (show ¬(115=60) by decide) (show ¬(54=60) by decide)) hb1 (c:=[.string ⟨(a.cmnd D).1.act.toArray⟩,.string v.o,.string v.nm,.int .i64 v.n,.slice v.A v.ll v.cap,.int .i64 v.p,.slice A (a.cmnd D).1.brs.length i,.int .i64 (((a.cmnd D).1.pos:Nat):Int)]) (by rw[<- f.out];exact HO.out) W.out HE.out aa.out U.out (by rw[<- f.out];exact s) (by rw[<- f.out];exact g) (by
     rcases B with e | e
     · left;rw[<- f.out];exact e.symm
     · right;rw[e];rfl))
    clear s g B;go_wp2;go_roundg ((St.cmnd D) a).2.len;(case measure=>exact Y.out);case rel=>exact⟨_,_,rfl,ac.out⟩
end
end
section
open Go.RowKit
section
variable {xb rb b D:Nat} {st:St}
theorem PM:(Tryz.prog.info? 112).map (fun i=>(i.zero,i.size,i.bytes))=some (some (.agg #[.string ⟨#[]⟩,.bool false,.string ⟨#[]⟩,.string ⟨#[]⟩,.int .i64 0,.slice none 0 0,.int .i64 0,.string ⟨#[]⟩,.string ⟨#[]⟩,.int .i64 0,.slice none 0 0,.int .i64 0,.string ⟨#[]⟩,.string ⟨#[]⟩,.int .i64 0,.slice none 0 0,.int .i64 0,.bool false,.int .i64 0]),19,256):=by kernel_rfl
theorem SX{b1:Nat}{row0:Option Nat}{A0:Option Addr}{n0 cap0:Nat}{l0:List B7}(w:World)(h:AM w xb rb b D st)(hb1:b<=b1)(hbw:b1<=w.heap.size)(hxr:xb<b1/\rb<b1)(hrow:AQ w b1 112 19 (VH w b1) l0 (.slice A0 n0 cap0))(hr0:(Value.slice A0 n0 cap0).ownBlock=row0)(hlen:l0.length+st.len<=200000):
 Calls Tryz.prog 107 #[.slice A0 n0 cap0,.func (.func 108) #[.pointer (some ⟨xb,0,none⟩)] #[],.func (.func 109) #[.pointer (some ⟨xb,0,none⟩)] #[]] w (Vm 112 19 VH xb rb b D b1 row0 l0 (st.list CG (St.vrbl D)) w):=by
 obtain⟨i0,R,hz⟩:=Option.map_eq_some_iff.1 PM;simp only[Prod.mk.injEq]at hz;obtain⟨S,T,U⟩:=hz;have ae:=zz S;have af:=zz T;have ag:=zz U;have HI:=zz R;have hd:H6 CG (St.vrbl D):=FB D;have HD:=zz hd;obtain⟨i,s⟩:∃i,i=st.list CG (St.vrbl D):=⟨_,rfl⟩;rw[<- s];have G:=zz (show ET 112 19 VH CG (St.vrbl D) xb rb b D b1 row0 l0 i w st.len (.slice A0 n0 cap0) w from⟨[],st,rfl,by simpa using hrow,h,by rw[s];simp,Fx.refl _ _,.inl hr0,by simpa using hlen⟩);clear S T U R hd h hrow hr0 hlen s;go_enter Tryz.func107,Tryz.ntmps107;go_wp2;go_loopg [0] st.len (fun gk v wr=>ET 112 19 VH CG (St.vrbl D) xb rb b D b1 row0 l0 i w gk v wr);(case atStart=>exact G.out);case round=>
  clear G;obtain⟨H,a,rfl,hL⟩:=hrel;obtain⟨A1,I,ah⟩:=hL.row.form;subst ah;have l:=zz hL;clear hL;obtain⟨N,L⟩:∃N,N=(l0++H).length:=⟨_,rfl⟩;have f:=zz L;rw[<- L];clear L;cases C:CG a.hd with
  | false=>
    have m:=zz (Fy wr l.out.mr)
    have HT:=zz (show H=i.1/\a=i.2 by
     have:=l.out.tot;rw[Aq (p:=CG) (rd:=(St.vrbl D)) C]at this
     rw[<- this];simp)
    rw[C]at m;clear C;go_wp2_with fail;refine(m.out).mono ?_;rintro e w1 ⟨rfl,d⟩;have x:=zz d;clear d;go_wp2;go_ret;obtain⟨e1,e2⟩:=HT.out;have L:=f.out;subst e1 e2;exact⟨A1,I,Dg L,l.out.row.keep (E:=E0) (Kt.below x.out) id (fun _ _ h=>h.keep (Kt.below (E:=E0) x.out) id),l.out.mr.below x.out,l.out.fx.on x.out,l.out.at_⟩
  | true=>
    have m:=zz (Fy wr l.out.mr);have HP:=zz (show CG a.hd=true from C);have Z:=zz ((HD.out a C).1);rw[C]at m;clear C;go_wp2_with fail;refine(m.out).mono ?_;rintro e w1 ⟨rfl,d⟩;have aa:=zz (l.out.mr.below d);have W:=zz (Fx.of (X:=X2 xb rb) d);have F:=zz (show Fx (X3 xb rb row0) w w1 from l.out.fx.on d);have am:=F.out.size;clear d;go_wp2_with fail;refine(Rv w1 aa.out).mono ?_;rintro e t ⟨v1,v2,v3,rfl,M,O,P,K,z⟩;have q:Fx (X3 xb rb row0) w t:=F.out.trans z.three;have B:Kt b1 E0 wr t:=Kt.fx (W.out.trans z) (fun k hk=>BN hk hxr.1 hxr.2);obtain⟨cs,hO,J⟩:=l.out.row;have HO:=zz (At hO B id);have Y:=zz (J.imp (Q:=VH t b1) (fun _ _ h=>h.keep B id));have HE:=zz (show VH t b1 ((St.vrbl D) a).1 [.string ⟨(a.vrbl D).1.nm.toArray⟩,.bool (a.vrbl D).1.isB,.string v1.o,.string v1.nm,.int .i64 v1.n,.slice v1.A v1.ll v1.cap,.int .i64 v1.p,.string v2.o,.string v2.nm,.int .i64 v2.n,.slice v2.A v2.ll v2.cap,.int .i64 v2.p,.string v3.o,.string v3.nm,.int .i64 v3.n,.slice v3.A v3.ll v3.cap,.int .i64 v3.p,.bool (a.vrbl D).1.has,.int .i64 (((a.vrbl D).1.pos:Nat):Int)]from⟨v1,v2,v3,rfl,M.mono (by omega),O.mono (by omega),P.mono (by omega)⟩);have ab:=zz (show AM t xb rb b D ((St.vrbl D) a).2 from K);have V:=zz q;have al:b1<=t.heap.size:=(by have:=q.size;omega);have ak:N<=200000:=(by rw[f.out,List.length_append];have:=l.out.len;omega);rw[<- f.out]at HO;have ac:=zz (At HO.out (Kt.below (E:=E0) ((Below.refl t.heap.size t).alloc (Nat.le_refl _) (.cells #[.string ⟨(a.vrbl D).1.nm.toArray⟩,.bool (a.vrbl D).1.isB,.string v1.o,.string v1.nm,.int .i64 v1.n,.slice v1.A v1.ll v1.cap,.int .i64 v1.p,.string v2.o,.string v2.nm,.int .i64 v2.n,.slice v2.A v2.ll v2.cap,.int .i64 v2.p,.string v3.o,.string v3.nm,.int .i64 v3.n,.slice v3.A v3.ll v3.cap,.int .i64 v3.p,.bool (a.vrbl D).1.has,.int .i64 (((a.vrbl D).1.pos:Nat):Int)] 112))) id);clear hO J z K q B M O P;go_wp2_with (at_builtin;refine wpList_append_lies _ rfl _ _ 48 rfl b1 112 i0 (.agg #[.string ⟨#[]⟩,.bool false,.string ⟨#[]⟩,.string ⟨#[]⟩,.int .i64 0,.slice none 0 0,.int .i64 0,.string ⟨#[]⟩,.string ⟨#[]⟩,.int .i64 0,.slice none 0 0,.int .i64 0,.string ⟨#[]⟩,.string ⟨#[]⟩,.int .i64 0,.slice none 0 0,.int .i64 0,.bool false,.int .i64 0]) 19 256 Tryz.underlying48 HI.out ae.out af.out ag.out rfl (by decide) _ _ _ rfl ac.out ⟨t.heap.size,0,none⟩ 1 1 [.string ⟨(a.vrbl D).1.nm.toArray⟩,.bool (a.vrbl D).1.isB,.string v1.o,.string v1.nm,.int .i64 v1.n,.slice v1.A v1.ll v1.cap,.int .i64 v1.p,.string v2.o,.string v2.nm,.int .i64 v2.n,.slice v2.A v2.ll v2.cap,.int .i64 v2.p,.string v3.o,.string v3.nm,.int .i64 v3.n,.slice v3.A v3.ll v3.cap,.int .i64 v3.p,.bool (a.vrbl D).1.has,.int .i64 (((a.vrbl D).1.pos:Nat):Int)] rfl rfl ?c1 ?c2 (by omega) ?c3 ?c4 ?c5 (t.heap.size+1) (by simp) ?_);(case c1=>intro j u hj;exact(Bx.new t 112 [.string ⟨(a.vrbl D).1.nm.toArray⟩,.bool (a.vrbl D).1.isB,.string v1.o,.string v1.nm,.int .i64 v1.n,.slice v1.A v1.ll v1.cap,.int .i64 v1.p,.string v2.o,.string v2.nm,.int .i64 v2.n,.slice v2.A v2.ll v2.cap,.int .i64 v2.p,.string v3.o,.string v3.nm,.int .i64 v3.n,.slice v3.A v3.ll v3.cap,.int .i64 v3.p,.bool (a.vrbl D).1.has,.int .i64 (((a.vrbl D).1.pos:Nat):Int)]).cell_add hj);case c2=>intro u hu;simp only[List.mem_cons,List.not_mem_nil,or_false]at hu;rcases hu with rfl | rfl | rfl | rfl | rfl | rfl | rfl | rfl | rfl | rfl | rfl | rfl | rfl | rfl | rfl | rfl | rfl | rfl | rfl<;>rfl
    (case c3=>unfold maxLen;omega);case c4=>omega
    (case c5=>simp;omega);intro g2 ai w3 r g y aj
    have ad:=zz (l.out.step HD.out HP.out (by unfold EH;decide) (fun _ _ _ _ _ hk h=>h.keep hk (show ¬(57=112) by decide)) hb1 (c:=[.string ⟨(a.vrbl D).1.nm.toArray⟩,.bool (a.vrbl D).1.isB,.string v1.o,.string v1.nm,.int .i64 v1.n,.slice v1.A v1.ll v1.cap,.int .i64 v1.p,.string v2.o,.string v2.nm,.int .i64 v2.n,.slice v2.A v2.ll v2.cap,.int .i64 v2.p,.string v3.o,.string v3.nm,.int .i64 v3.n,.slice v3.A v3.ll v3.cap,.int .i64 v3.p,.bool (a.vrbl D).1.has,.int .i64 (((a.vrbl D).1.pos:Nat):Int)]) (by rw[<- f.out];exact HO.out) Y.out HE.out ab.out V.out (by rw[<- f.out];exact r) (by rw[<- f.out];exact g) (by
     rcases y with e | e
     · left;rw[<- f.out];exact e.symm
     · right;rw[e];rfl))
    clear r g y;go_wp2;go_roundg ((St.vrbl D) a).2.len;(case measure=>exact Z.out);case rel=>exact⟨_,_,rfl,ad.out⟩
end
end
section
open Go.RowKit
section
variable {xb rb b D:Nat} {st:St}
def Y2(xb rb b D:Nat)(d:Ct×St)(w:World)(e:Ending)(w':World):Prop:=
 ∃(A:Option Addr) (cap:Nat) (B:Option Addr) (cap':Nat),e= .returned (.agg #[.string ⟨d.1.nm.toArray⟩,.slice A d.1.vars.length cap,.slice B d.1.cmds.length cap',.int .i64 ((d.1.pos:Nat):Int)])/\AQ w' (w.heap.size+1) 112 19 (VH w' (w.heap.size+1)) d.1.vars (.slice A d.1.vars.length cap)/\AQ w' (w.heap.size+1) 60 8 (CH w' (w.heap.size+1)) d.1.cmds (.slice B d.1.cmds.length cap')/\AM w' xb rb b D d.2/\Fx (X2 xb rb) w w'
theorem Kt.mod{w:World}{c q:Nat}{cs:List Value}{i:Nat}{us:List Value}(h:Bx w q 51 cs):Kt c (fun e=>e=51) w (Go.Proofs.YtodijgndbjfbgaaGreatDoor.setL w q i us):=fun k _ _ _ b d=>Ay (show k≠q from fun a=>d (Bb (a▸b) h)) us w i
theorem LX(w:World)(h:AM w xb rb b D st):Calls Tryz.prog 83 #[.pointer (some ⟨xb,0,none⟩)] w (Y2 xb rb b D (st.modl D) w):=by
 have hx:=h.ltx;have ar:=h.hr;have M:=zz h.nx;have az:=h.ble;have H:=zz h;clear h;go_enter Tryz.func83,Tryz.ntmps83;go_wp2_with fail;refine AA (P:=fun W=>AM W xb rb b D st/\Bx W w.heap.size 51 [.string ⟨#[]⟩,.slice none 0 0,.slice none 0 0,.int .i64 0]/\Fx (X2 xb rb) w W) ⟨H.out.alloc _,Bx.new _ _ _,(Fx.refl _ _).alloc _⟩ ?_;rintro W ⟨o,u,x⟩;refine(DE W o).mono ?_;rintro e q ⟨rfl,ak,R⟩;have ad:=zz ak;have L:=zz (u.fx R (M.out _ (Nat.le_refl _)));have aa:=zz (x.trans R);have aF:=L.out.lt;clear o u x ak R H;go_wp2_with fail;refine AA (P:=fun W=>AM W xb rb b D st.name.2/\Bx W w.heap.size 51 [.string ⟨#[]⟩,.slice none 0 0,.slice none 0 0,.int .i64 0]/\Bx W q.heap.size 51 [.string ⟨st.name.1.1.toArray⟩,.slice none 0 0,.slice none 0 0,.int .i64 ((st.name.1.2:Nat):Int)]/\Fx (X2 xb rb) w W) ⟨ad.out.alloc _,L.out.alloc _,Bx.new _ _ _,aa.out.alloc _⟩ ?_;rintro W ⟨o,u,E,x⟩;have aD:=E.lt;have U:=o.len;refine(SX (b1:=w.heap.size+1) (row0:=none) (l0:=[]) W o (by omega) (by omega) ⟨by omega,by omega⟩ (AQ.nil _ _ _ _ _) rfl (by simp;omega)).mono ?_;rintro e w2 ⟨A,c,rfl,ao,al,ai,_⟩;have m:Fx (X3 xb rb none) W w2:=ai;have ae:=zz (show AM w2 xb rb b D (st.vrbls D).2 from al);have f:=E.fx m (VB (M.out _ (by omega)) (by simp));have X:=zz (u.fx m (VB (M.out _ (Nat.le_refl _)) (by simp)));have ab:=zz (x.row m (fun g hg=>by cases hg));have O:=zz ao;obtain⟨N,hN⟩:∃N,N=(st.vrbls D).1.length:=⟨_,rfl⟩;have s:=zz hN;rw[show(([]:List B7)++(st.name.2.list CG (St.vrbl D)).1).length=N from hN.symm]at O ⊢;have a0:=f.cell 0;have a1:=f.cell 1;have a2:=f.cell 2;have a3:=f.cell 3;simp only[List.getElem?_cons_zero,List.getElem?_cons_succ]at a0 a1 a2 a3;have z0:=f.frozen 0;have z1:=f.frozen 1;have z2:=f.frozen 2;have z3:=f.frozen 3;have aA:=f.lt;have F:=zz f;clear o u E x ao al ai m f hN ad L aa U;go_wp2_with fail;have S:Kt (w.heap.size+1) (fun e=>e=51) w2 (w2.setCell ⟨q.heap.size,1,none⟩ (.slice A N c)):=Kt.mod (i:=1) (us:=[.slice A N c]) F.out;refine AA (P:=fun W=>AM W xb rb b D (st.vrbls D).2/\Bx W w.heap.size 51 [.string ⟨#[]⟩,.slice none 0 0,.slice none 0 0,.int .i64 0]/\Bx W q.heap.size 51 [.string ⟨st.name.1.1.toArray⟩,.slice A N c,.slice none 0 0,.int .i64 ((st.name.1.2:Nat):Int)]/\AQ W (w.heap.size+1) 112 19 (VH W (w.heap.size+1)) (st.vrbls D).1 (.slice A N c)/\Fx (X2 xb rb) w W) ⟨ae.out.set F.out (by unfold EH;decide) (by omega) _,X.out.far (p:=⟨q.heap.size,1,none⟩) (by show w.heap.size≠q.heap.size;omega) _,F.out.set 1 _,O.out.keep S (show ¬(112=51) by decide) (fun _ _ h=>h.keep S (show ¬(57=51) by decide)),ab.out.setCell (p:=⟨q.heap.size,1,none⟩) (.inl (by show _<=q.heap.size;omega)) _⟩ ?_;rintro W3 ⟨o,u,E,hR,x⟩;have ay:=E.lt;have U:=o.len;refine(Re (b1:=w.heap.size+1) (row0:=none) (l0:=[]) W3 o (by omega) (by omega) ⟨by omega,by omega⟩ (AQ.nil _ _ _ _ _) rfl (by simp;omega)).mono ?_;rintro e V ⟨B,a,rfl,ap,am,aj,_⟩;have J:Fx (X3 xb rb none) W3 V:=aj;have l:Fx (X2 xb rb) W3 V:=J.wide fun _ _=>Uh;have af:=zz (show AM V xb rb b D (st.cmnds D).2 from am);have j:=E.fx l (M.out _ (by omega));have Y:=zz (u.fx l (M.out _ (Nat.le_refl _)));have ac:=zz (x.trans l);have T:Kt (w.heap.size+1) E0 W3 V:=Kt.fx l (fun k hk=>by have:=BN hk hx ar;omega);have ag:=zz (hR.keep T id (fun _ _ h=>h.keep T id));have Q:=zz ap;obtain⟨K,hK⟩:∃K,K=(st.cmnds D).1.length:=⟨_,rfl⟩;have r:=zz hK;rw[show(([]:List Cp)++((st.vrbls D).2.list (fun t=>AG t [91]) (St.cmnd D)).1).length=K from hK.symm]at Q ⊢;have a0:=j.cell 0;have a1:=j.cell 1;have a2:=j.cell 2;have a3:=j.cell 3;simp only[List.getElem?_cons_zero,List.getElem?_cons_succ]at a0 a1 a2 a3;have z0:=j.frozen 0;have z1:=j.frozen 1;have z2:=j.frozen 2;have z3:=j.frozen 3;have aB:=j.lt;have G:=zz j;clear o u E hR x ap am aj J l j S T hK ae X F O ab U;go_wp2_with fail;have z:Kt (w.heap.size+1) (fun e=>e=51) V (V.setCell ⟨q.heap.size,2,none⟩ (.slice B K a)):=Kt.mod (i:=2) (us:=[.slice B K a]) G.out;refine AA (P:=fun W=>AM W xb rb b D (st.cmnds D).2/\Bx W w.heap.size 51 [.string ⟨#[]⟩,.slice none 0 0,.slice none 0 0,.int .i64 0]/\Bx W q.heap.size 51 [.string ⟨st.name.1.1.toArray⟩,.slice A N c,.slice B K a,.int .i64 ((st.name.1.2:Nat):Int)]/\AQ W (w.heap.size+1) 112 19 (VH W (w.heap.size+1)) (st.vrbls D).1 (.slice A N c)/\AQ W (w.heap.size+1) 60 8 (CH W (w.heap.size+1)) (st.cmnds D).1 (.slice B K a)/\Fx (X2 xb rb) w W) ⟨af.out.set G.out (by unfold EH;decide) (by omega) _,Y.out.far (p:=⟨q.heap.size,2,none⟩) (by show w.heap.size≠q.heap.size;omega) _,G.out.set 2 _,ag.out.keep z (show ¬(112=51) by decide) (fun _ _ h=>h.keep z (show ¬(57=51) by decide)),Q.out.keep z (show ¬(60=51) by decide) (fun _ _ h=>h.keep z (show ¬(57=51) by decide) (show ¬(115=51) by decide) (show ¬(54=51) by decide)),ac.out.setCell (p:=⟨q.heap.size,2,none⟩) (.inl (by show _<=q.heap.size;omega)) _⟩ ?_;rintro W5 ⟨o,u,E,hR,aq,x⟩;refine(AT W5 o _).mono ?_;rintro e wZ ⟨rfl,an,y⟩;have av:=zz (show AM wZ xb rb b D (st.modl D).2 from an);have d:=u.fx y (M.out _ (Nat.le_refl _));have n:=E.fx y (M.out _ (by omega));have C:Kt (w.heap.size+1) E0 W5 wZ:=Kt.fx y (fun k hk=>by have:=BN hk hx ar;omega);have ax:=zz (hR.keep C id (fun _ _ h=>h.keep C id));have aw:=zz (aq.keep C id (fun _ _ h=>h.keep C id id id));have au:=zz (x.trans y);have a0:=n.cell 0;have a1:=n.cell 1;have a2:=n.cell 2;have a3:=n.cell 3;simp only[List.getElem?_cons_zero,List.getElem?_cons_succ]at a0 a1 a2 a3;have d0:=d.cell 0;have d1:=d.cell 1;have d2:=d.cell 2;have d3:=d.cell 3;simp only[List.getElem?_cons_zero,List.getElem?_cons_succ]at d0 d1 d2 d3;have y0:=d.frozen 0;have y1:=d.frozen 1;have y2:=d.frozen 2;have y3:=d.frozen 3;have aE:=n.lt;have aC:=d.lt;have Z:=zz d;clear o u E hR aq x an y d n C z af Y G Q ag ac;go_wp2;have ah:=Z.out.setL (i:=0) (us:=[.string ⟨st.name.1.1.toArray⟩,.slice A N c,.slice B K a,.int .i64 ((st.name.1.2:Nat):Int)]);simp only[setL,Bg,List.set_cons_zero,List.set_cons_succ]at ah;have I:Kt (w.heap.size+1) E0 wZ (setL wZ w.heap.size 0 [.string ⟨st.name.1.1.toArray⟩,.slice A N c,.slice B K a,.int .i64 ((st.name.1.2:Nat):Int)]):=Kt.setL (by omega);refine bodyPost_ret (v:=.agg #[.string ⟨st.name.1.1.toArray⟩,.slice A N c,.slice B K a,.int .i64 ((st.name.1.2:Nat):Int)]) (by simp[results,Tryz.results83,go_sem,ah.cell]) rfl ⟨A,c,B,a,by rw[s.out,r.out];rfl,?_,?_,?_,?_⟩
 · have hr:=ax.out.keep I id (fun _ _ h=>h.keep I id);rw[s.out,r.out]at hr;rw[s.out,r.out];exact hr
 · have hr:=aw.out.keep I id (fun _ _ h=>h.keep I id id id);rw[s.out,r.out]at hr;rw[s.out,r.out];exact hr
 · exact AM.setL (i:=0) (us:=[.string ⟨st.name.1.1.toArray⟩,.slice A N c,.slice B K a,.int .i64 ((st.name.1.2:Nat):Int)]) (by unfold EH;decide) (by omega) av.out Z.out
 · exact Fx.setL (i:=0) (us:=[.string ⟨st.name.1.1.toArray⟩,.slice A N c,.slice B K a,.int .i64 ((st.name.1.2:Nat):Int)]) (.inl (Nat.le_refl _)) au.out
theorem Pa:(Tryz.prog.info? 51).map (fun i=>(i.zero,i.size,i.bytes))=some (some (.agg #[.string ⟨#[]⟩,.slice none 0 0,.slice none 0 0,.int .i64 0]),4,72):=by kernel_rfl
theorem Qa{b1:Nat}{row0:Option Nat}{A0:Option Addr}{n0 cap0:Nat}{l0:List Ct}(w:World)(h:AM w xb rb b D st){p q:Nat}(x:ByteArray)(hc:GU w xb rb p q x)(hcr:row0≠some p/\row0≠some q)(hb1:b<=b1)(hbw:b1<=w.heap.size)(hxr:xb<b1/\rb<b1)(hrow:AQ w b1 51 4 (MH w b1) l0 (.slice A0 n0 cap0))(hr0:(Value.slice A0 n0 cap0).ownBlock=row0)(hlen:l0.length+st.len<=200000):
 Calls Tryz.prog 82 #[.slice A0 n0 cap0,.func (.func 103) #[] #[.pointer (some ⟨p,0,none⟩),.pointer (some ⟨q,0,none⟩)],.func (.func 83) #[.pointer (some ⟨xb,0,none⟩)] #[]] w (Vm 51 4 MH xb rb b D b1 row0 l0 (st.list (fun t=>AG t x.data.toList) (fun s:St=>s.tl.modl D)) w):=by
 obtain⟨i0,X,hz⟩:=Option.map_eq_some_iff.1 Pa;simp only[Prod.mk.injEq]at hz;obtain⟨Y,Z,aa⟩:=hz;have aj:=zz Y;have ak:=zz Z;have al:=zz aa;have HI:=zz X;have hd:H6 (fun t=>AG t x.data.toList) (fun s:St=>s.tl.modl D):=Ef (Ia D);have HD:=zz hd;obtain⟨m,r⟩:∃m,m=st.list (fun t=>AG t x.data.toList) (fun s:St=>s.tl.modl D):=⟨_,rfl⟩;rw[<- r];have M:=zz (show ET 51 4 MH (fun t=>AG t x.data.toList) (fun s:St=>s.tl.modl D) xb rb b D b1 row0 l0 m w st.len (.slice A0 n0 cap0) w from⟨[],st,rfl,by simpa using hrow,h,by rw[r];simp,Fx.refl _ _,.inl hr0,by simpa using hlen⟩);have HC:=zz (fun(wr:World) (hf:Fx (X3 xb rb row0) w wr)=>hc.fx3 hf hcr);clear hc hcr;clear Y Z aa X hd h hrow hr0 hlen r;go_enter Tryz.func82,Tryz.ntmps82;go_wp2;go_loopg [0] st.len (fun gk v wr=>ET 51 4 MH (fun t=>AG t x.data.toList) (fun s:St=>s.tl.modl D) xb rb b D b1 row0 l0 m w gk v wr);(case atStart=>exact M.out);case round=>
  clear M;obtain⟨O,a,rfl,hL⟩:=hrel;obtain⟨A1,P,am⟩:=hL.row.form;subst am;have i:=zz hL;clear hL;obtain⟨N,U⟩:∃N,N=(l0++O).length:=⟨_,rfl⟩;have f:=zz U;rw[<- U];clear U;cases K:AG a.hd x.data.toList with
  | false=>
    have G:=zz (Ep wr i.out.mr x (HC.out wr i.out.fx) K)
    have HT:=zz (show O=m.1/\a=m.2 by
     have:=i.out.tot;rw[Aq (p:=(fun t=>AG t x.data.toList)) (rd:=(fun s:St=>s.tl.modl D)) K]at this
     rw[<- this];simp)
    skip;clear K;go_wp2_with fail;refine(G.out).mono ?_;rintro e w1 ⟨rfl,F⟩;have z:=zz F;clear F;go_wp2;go_ret;obtain⟨e1,e2⟩:=HT.out;have U:=f.out;subst e1 e2;exact⟨A1,P,Dg U,i.out.row.keep (E:=E0) (Kt.below z.out) id (fun _ _ h=>h.keep (Kt.below (E:=E0) z.out) id id id id id),i.out.mr.below z.out,i.out.fx.on z.out,i.out.at_⟩
  | true=>
    have G:=zz (EJ wr i.out.mr x (HC.out wr i.out.fx) K);have HP:=zz (show(fun t=>AG t x.data.toList) a.hd=true from K);have ae:=zz ((HD.out a K).1);skip;clear K;go_wp2_with fail;refine(G.out).mono ?_;rintro e w1 ⟨rfl,S,H⟩;have af:=zz S;have ac:=zz H;have L:=zz (show Fx (X3 xb rb row0) w w1 from i.out.fx.trans H.three);have ar:=L.out.size;clear S H;go_wp2_with fail;refine(LX w1 af.out).mono ?_;rintro e y ⟨A,l,B,d,rfl,W,V,T,I⟩;have n:Fx (X3 xb rb row0) w y:=L.out.trans I.three;have J:Kt b1 E0 wr y:=Kt.fx (ac.out.trans I) (fun k hk=>BN hk hxr.1 hxr.2);obtain⟨cs,hO,R⟩:=i.out.row;have HO:=zz (At hO J id);have ad:=zz (R.imp (Q:=MH y b1) (fun _ _ h=>h.keep J id id id id id));have HE:=zz (show MH y b1 ((fun s:St=>s.tl.modl D) a).1 [.string ⟨(a.tl.modl D).1.nm.toArray⟩,.slice A (a.tl.modl D).1.vars.length l,.slice B (a.tl.modl D).1.cmds.length d,.int .i64 (((a.tl.modl D).1.pos:Nat):Int)]from⟨A,l,B,d,rfl,W.mono (by omega) (fun _ _ h=>h.mono (by omega)),V.mono (by omega) (fun _ _ h=>h.mono (by omega))⟩);have ag:=zz (show AM y xb rb b D ((fun s:St=>s.tl.modl D) a).2 from T);have ab:=zz n;have aq:b1<=y.heap.size:=(by have:=n.size;omega);have ap:N<=200000:=(by rw[f.out,List.length_append];have:=i.out.len;omega);rw[<- f.out]at HO;have ah:=zz (At HO.out (Kt.below (E:=E0) ((Below.refl y.heap.size y).alloc (Nat.le_refl _) (.cells #[.string ⟨(a.tl.modl D).1.nm.toArray⟩,.slice A (a.tl.modl D).1.vars.length l,.slice B (a.tl.modl D).1.cmds.length d,.int .i64 (((a.tl.modl D).1.pos:Nat):Int)] 51))) id);clear hO R I T n J W V;go_wp2_with (at_builtin;refine wpList_append_lies _ rfl _ _ 24 rfl b1 51 i0 (.agg #[.string ⟨#[]⟩,.slice none 0 0,.slice none 0 0,.int .i64 0]) 4 72 Tryz.underlying24 HI.out aj.out ak.out al.out rfl (by decide) _ _ _ rfl ah.out ⟨y.heap.size,0,none⟩ 1 1 [.string ⟨(a.tl.modl D).1.nm.toArray⟩,.slice A (a.tl.modl D).1.vars.length l,.slice B (a.tl.modl D).1.cmds.length d,.int .i64 (((a.tl.modl D).1.pos:Nat):Int)] rfl rfl ?c1 ?c2 (by omega) ?c3 ?c4 ?c5 (y.heap.size+1) (by simp) ?_);(case c1=>intro j u hj;exact(Bx.new y 51 [.string ⟨(a.tl.modl D).1.nm.toArray⟩,.slice A (a.tl.modl D).1.vars.length l,.slice B (a.tl.modl D).1.cmds.length d,.int .i64 (((a.tl.modl D).1.pos:Nat):Int)]).cell_add hj);case c2=>intro u hu;simp only[List.mem_cons,List.not_mem_nil,or_false]at hu;rcases hu with rfl | rfl | rfl | rfl<;>rfl
    (case c3=>unfold maxLen;omega);case c4=>omega
    (case c5=>simp;omega);intro g2 an w3 o g C ao
    have ai:=zz (i.out.step HD.out HP.out (by unfold EH;decide) (fun _ _ _ _ _ hk h=>h.keep hk (show ¬(57=51) by decide) (show ¬(115=51) by decide) (show ¬(54=51) by decide) (show ¬(112=51) by decide) (show ¬(60=51) by decide)) hb1 (c:=[.string ⟨(a.tl.modl D).1.nm.toArray⟩,.slice A (a.tl.modl D).1.vars.length l,.slice B (a.tl.modl D).1.cmds.length d,.int .i64 (((a.tl.modl D).1.pos:Nat):Int)]) (by rw[<- f.out];exact HO.out) ad.out HE.out ag.out ab.out (by rw[<- f.out];exact o) (by rw[<- f.out];exact g) (by
     rcases C with e | e
     · left;rw[<- f.out];exact e.symm
     · right;rw[e];rfl))
    clear o g C;go_wp2;go_roundg ((fun s:St=>s.tl.modl D) a).2.len;(case measure=>exact ae.out);case rel=>exact⟨_,_,rfl,ai.out⟩
end
end
section
open Go.RowKit
structure CZ where
 A1:Option Addr
 c1:Nat
 A2:Option Addr
 c2:Nat
 A3:Option Addr
 c3:Nat
 A4:Option Addr
 c4:Nat
def CZ.v1(v:CZ)(m:AP):Value:=.slice v.A1 m.consts.length v.c1
def CZ.v2(v:CZ)(m:AP):Value:=.slice v.A2 m.formulas.length v.c2
def CZ.v3(v:CZ)(m:AP):Value:=.slice v.A3 m.labels.length v.c3
def CZ.v4(v:CZ)(m:AP):Value:=.slice v.A4 m.mods.length v.c4
def Ei(u v:Value):Prop:=∀g,u.ownBlock=some g->v.ownBlock≠some g
theorem Ei.symm{u v:Value}(h:Ei u v):Ei v u:=fun g a b=>h g b a
structure GL(w:World)(b1:Nat)(m:AP)(v:CZ):Prop where
 r1:AQ w b1 118 7 (DH w b1) m.consts (v.v1 m)
 r2:AQ w b1 118 7 (DH w b1) m.formulas (v.v2 m)
 r3:AQ w b1 118 7 (DH w b1) m.labels (v.v3 m)
 r4:AQ w b1 51 4 (MH w b1) m.mods (v.v4 m)
 d12:Ei (v.v1 m) (v.v2 m)
 d13:Ei (v.v1 m) (v.v3 m)
 d23:Ei (v.v2 m) (v.v3 m)
def PW(w:World)(b1 mb:Nat)(m:AP):Prop:=∃v:CZ,Bx w mb 26 [v.v1 m,v.v2 m,v.v3 m,v.v4 m]/\GL w b1 m v
section
variable {w w':World} {b1 mb:Nat} {m:AP}
theorem GL.keep{v:CZ}(h:GL w b1 m v)(hk:Kt b1 E0 w w'):GL w' b1 m v:=
 ⟨h.r1.keep hk id (fun _ _ h=>h.keep hk id),h.r2.keep hk id (fun _ _ h=>h.keep hk id),h.r3.keep hk id (fun _ _ h=>h.keep hk id),h.r4.keep hk id (fun _ _ h=>h.keep hk id id id id id),h.d12,h.d13,h.d23⟩
theorem GL.keepM{v:CZ}(h:GL w b1 m v)(hk:Kt b1 (fun e=>e=26) w w'):GL w' b1 m v:=
 ⟨h.r1.keep hk (show ¬(118=26) by decide) (fun _ _ h=>h.keep hk (show ¬(57=26) by decide)),h.r2.keep hk (show ¬(118=26) by decide) (fun _ _ h=>h.keep hk (show ¬(57=26) by decide)),h.r3.keep hk (show ¬(118=26) by decide) (fun _ _ h=>h.keep hk (show ¬(57=26) by decide)),h.r4.keep hk (show ¬(51=26) by decide) (fun _ _ h=>h.keep hk (show ¬(57=26) by decide) (show ¬(115=26) by decide) (show ¬(54=26) by decide) (show ¬(112=26) by decide) (show ¬(60=26) by decide)),h.d12,h.d13,h.d23⟩
theorem Kt.mdl{c q:Nat}{cs:List Value}{i:Nat}{u:Value}(h:Bx w q 26 cs):Kt c (fun e=>e=26) w (w.setCell ⟨q,i,none⟩ u):=fun k _ _ _ b d=>Below.heap_setCell w ⟨q,i,none⟩ u k (show k≠q from fun a=>d (Bb (a▸b) h))
theorem PW.below(h:PW w b1 mb m)(hb:Below w.heap.size w w'):PW w' b1 mb m:=by obtain⟨v,a,b⟩:=h;exact⟨v,a.below hb,b.keep (Kt.below hb)⟩
theorem AQ.keepB{α:Type}{t:TypeId}{sz:Nat}{xs:List α}{v:Value}{P:World->Nat->α->List Value->Prop}(h:AQ w b1 t sz (P w b1) xs v)(hblk:∀g,v.ownBlock=some g->w'.heap[g]?=w.heap[g]?)(hp:∀a c,P w b1 a c->P w' b1 a c):AQ w' b1 t sz (P w' b1) xs v:=by
 obtain⟨i,e,j⟩:=h;refine⟨i,⟨e.1,?_⟩,j.imp hp⟩;rcases e.2 with h | ⟨g,b,d,f,k,l,m⟩
 · exact .inl h
 · exact .inr ⟨g,b,d,f,k,(hblk g (by rw[f];rfl)).trans l,m⟩
theorem AQ.ownb{α:Type}{t:TypeId}{sz:Nat}{xs:List α}{v:Value}{P:α->List Value->Prop}(h:AQ w b1 t sz P xs v):∀g,v.ownBlock=some g->b1<=g/\∃cur:Array Value,w.heap[g]?=some (.cells cur t (0,0)):=by obtain⟨b,a,_⟩:=h;exact Dl a
theorem Kb{xb rb:Nat}{t:TypeId}{u:Value}(hf:Fx (X3 xb rb u.ownBlock) w w')(hx:xb<b1)(hr:rb<b1)(hu:∀g,u.ownBlock=some g->∃cur:Array Value,w.heap[g]?=some (.cells cur t (0,0))):Kt b1 (fun e=>e=t) w w':=by
 intro k f e h b c;refine hf.block k (BB b) (fun a=>?_);rcases a with a | a | a
 · omega
 · omega
 · obtain⟨cur,d⟩:=hu k a;exact c (Bb b d)
end
section
variable {w w':World} {b1 xb rb:Nat} {m:AP} {v:CZ}
theorem Ht{u u':Value}{row:Option Nat}(hd:∀g,row=some g->u'.ownBlock≠some g)(hl:∀g,u'.ownBlock=some g->g<w.heap.size)(h:u.ownBlock=row∨∀g,u.ownBlock=some g->w.heap.size<=g):Ei u u':=by
 intro g b a;rcases h with h | h
 · exact hd g (h.symm.trans b) a
 · have:=h g b;have:=hl g a;omega
theorem AQ.ltb{α:Type}{t:TypeId}{sz:Nat}{xs:List α}{u:Value}{P:α->List Value->Prop}(h:AQ w b1 t sz P xs u):∀g,u.ownBlock=some g->g<w.heap.size:=fun g c=>by obtain⟨_,a,b⟩:=h.ownb g c;exact BB b
theorem Jp{k:Nat}{row:Option Nat}(h1:xb<k)(h2:rb<k)(h3:row≠some k):¬X3 xb rb row k:=fun h=>by
 rcases h with h | h | h
 · omega
 · omega
 · exact h3 h
theorem GL.put1{l:List Ad}{A:Option Addr}{cap:Nat}(h:GL w b1 m v)(hx:xb<b1)(hr:rb<b1)(hf:Fx (X3 xb rb (v.v1 m).ownBlock) w w')(hR:AQ w' b1 118 7 (DH w' b1) (m.consts++l) (.slice A (m.consts++l).length cap))(hat:(Value.slice A (m.consts++l).length cap).ownBlock=(v.v1 m).ownBlock∨∀g,(Value.slice A (m.consts++l).length cap).ownBlock=some g->w.heap.size<=g):
 GL w' b1 {m with consts:=m.consts++l} {v with A1:=A,c1:=cap}:=by
 have b:=Kb hf hx hr (fun g a=>(h.r1.ownb g a).2)
 exact⟨hR,h.r2.keepB (fun g a=>hf.block g (h.r2.ltb g a) (Jp (by have:=(h.r2.ownb g a).1;omega) (by have:=(h.r2.ownb g a).1;omega) (fun e=>h.d12 g e a))) (fun _ _ h=>h.keep b (show ¬(57=118) by decide)),
  h.r3.keepB (fun g a=>hf.block g (h.r3.ltb g a) (Jp (by have:=(h.r3.ownb g a).1;omega) (by have:=(h.r3.ownb g a).1;omega) (fun e=>h.d13 g e a))) (fun _ _ h=>h.keep b (show ¬(57=118) by decide)),
  h.r4.keep b (show ¬(51=118) by decide) (fun _ _ h=>h.keep b (show ¬(57=118) by decide) (show ¬(115=118) by decide) (show ¬(54=118) by decide) (show ¬(112=118) by decide) (show ¬(60=118) by decide)),
  Ht (w:=w) (fun g a=>h.d12 g a) h.r2.ltb hat,Ht (w:=w) (fun g a=>h.d13 g a) h.r3.ltb hat,h.d23⟩
theorem GL.put2{l:List Ad}{A:Option Addr}{cap:Nat}(h:GL w b1 m v)(hx:xb<b1)(hr:rb<b1)(hf:Fx (X3 xb rb (v.v2 m).ownBlock) w w')(hR:AQ w' b1 118 7 (DH w' b1) (m.formulas++l) (.slice A (m.formulas++l).length cap))(hat:(Value.slice A (m.formulas++l).length cap).ownBlock=(v.v2 m).ownBlock∨∀g,(Value.slice A (m.formulas++l).length cap).ownBlock=some g->w.heap.size<=g):
 GL w' b1 {m with formulas:=m.formulas++l} {v with A2:=A,c2:=cap}:=by
 have b:=Kb hf hx hr (fun g a=>(h.r2.ownb g a).2)
 exact⟨h.r1.keepB (fun g a=>hf.block g (h.r1.ltb g a) (Jp (by have:=(h.r1.ownb g a).1;omega) (by have:=(h.r1.ownb g a).1;omega) (fun e=>h.d12 g a e))) (fun _ _ h=>h.keep b (show ¬(57=118) by decide)),hR,
  h.r3.keepB (fun g a=>hf.block g (h.r3.ltb g a) (Jp (by have:=(h.r3.ownb g a).1;omega) (by have:=(h.r3.ownb g a).1;omega) (fun e=>h.d23 g e a))) (fun _ _ h=>h.keep b (show ¬(57=118) by decide)),
  h.r4.keep b (show ¬(51=118) by decide) (fun _ _ h=>h.keep b (show ¬(57=118) by decide) (show ¬(115=118) by decide) (show ¬(54=118) by decide) (show ¬(112=118) by decide) (show ¬(60=118) by decide)),
  (Ht (w:=w) (fun g a c=>h.d12 g c a) h.r1.ltb hat).symm,h.d13,Ht (w:=w) (fun g a=>h.d23 g a) h.r3.ltb hat⟩
theorem GL.put3{l:List Ad}{A:Option Addr}{cap:Nat}(h:GL w b1 m v)(hx:xb<b1)(hr:rb<b1)(hf:Fx (X3 xb rb (v.v3 m).ownBlock) w w')(hR:AQ w' b1 118 7 (DH w' b1) (m.labels++l) (.slice A (m.labels++l).length cap))(hat:(Value.slice A (m.labels++l).length cap).ownBlock=(v.v3 m).ownBlock∨∀g,(Value.slice A (m.labels++l).length cap).ownBlock=some g->w.heap.size<=g):
 GL w' b1 {m with labels:=m.labels++l} {v with A3:=A,c3:=cap}:=by
 have c:=Kb hf hx hr (fun g a=>(h.r3.ownb g a).2)
 exact⟨h.r1.keepB (fun g a=>hf.block g (h.r1.ltb g a) (Jp (by have:=(h.r1.ownb g a).1;omega) (by have:=(h.r1.ownb g a).1;omega) (fun e=>h.d13 g a e))) (fun _ _ h=>h.keep c (show ¬(57=118) by decide)),
  h.r2.keepB (fun g a=>hf.block g (h.r2.ltb g a) (Jp (by have:=(h.r2.ownb g a).1;omega) (by have:=(h.r2.ownb g a).1;omega) (fun e=>h.d23 g a e))) (fun _ _ h=>h.keep c (show ¬(57=118) by decide)),hR,
  h.r4.keep c (show ¬(51=118) by decide) (fun _ _ h=>h.keep c (show ¬(57=118) by decide) (show ¬(115=118) by decide) (show ¬(54=118) by decide) (show ¬(112=118) by decide) (show ¬(60=118) by decide)),
  h.d12,(Ht (w:=w) (fun g a b=>h.d13 g b a) h.r1.ltb hat).symm,(Ht (w:=w) (fun g a b=>h.d23 g b a) h.r2.ltb hat).symm⟩
theorem GL.put4{l:List Ct}{A:Option Addr}{cap:Nat}(h:GL w b1 m v)(hx:xb<b1)(hr:rb<b1)(hf:Fx (X3 xb rb (v.v4 m).ownBlock) w w')(hR:AQ w' b1 51 4 (MH w' b1) (m.mods++l) (.slice A (m.mods++l).length cap)):
 GL w' b1 {m with mods:=m.mods++l} {v with A4:=A,c4:=cap}:=by
 have a:=Kb hf hx hr (fun g b=>(h.r4.ownb g b).2);exact⟨h.r1.keep a (show ¬(118=51) by decide) (fun _ _ h=>h.keep a (show ¬(57=51) by decide)),h.r2.keep a (show ¬(118=51) by decide) (fun _ _ h=>h.keep a (show ¬(57=51) by decide)),h.r3.keep a (show ¬(118=51) by decide) (fun _ _ h=>h.keep a (show ¬(57=51) by decide)),hR,h.d12,h.d13,h.d23⟩
end
end
section
open Go.RowKit
section
variable {xb rb b D:Nat} {st:St}
def XH(xb rb b D mb:Nat)(w0:World)(r:AP×St)(e:Ending)(w':World):Prop:=e= .returned (.tuple #[])/\AM w' xb rb b D r.2/\PW w' w0.heap.size mb r.1/\Fx (X2 xb rb) w0 w'
theorem Rr{mb:Nat}{m:AP}(w0 w:World)(h:AM w xb rb b D st)(hm:PW w w0.heap.size mb m)(hmb:w0.heap.size<=mb)(hbb:b<=w0.heap.size)(hx:xb<w0.heap.size)(hrb:rb<w0.heap.size)(hF:Fx (X2 xb rb) w0 w)(hlen:m.consts.length+st.len<=200000)(hi:AG st.hd AN=true):
 Calls Tryz.prog 46 #[.pointer (some ⟨xb,0,none⟩),.pointer (some ⟨mb,0,none⟩)] w (XH xb rb b D mb w0 ({m with consts:=m.consts++(Co D st).1},(Co D st).2)):=by
 have C:=zz (fun(W:World) (hW:AM W xb rb b D st)=>hW.is_ ⟨#[99,111,110,115,116]⟩);rw[show AG st.hd (⟨#[99,111,110,115,116]⟩:ByteArray).data.toList=true from hi]at C;have s:=zz h;have F:=zz hm;have z:=zz hF;have c0:=h.c0;have ad:=h.ltx;clear h hm hF hi;go_enter Tryz.func46,Tryz.ntmps46;go_wp2_with fail;refine(C.out _ s.out).mono ?_;rintro e d ⟨rfl,l⟩;have k:=zz (s.out.below l);have Y:=zz (F.out.below l);have B:=zz (z.out.on l);have c0:=k.out.c0;have ad:=k.out.ltx;clear l s F z;obtain⟨v,x,O⟩:=Y.out;have u:=x.cell 0;simp only[List.getElem?_cons_zero,CZ.v1]at u;have aa:=x.frozen 0;have j:=x.lt;have t:=zz O;have P:=zz x;have ao:=B.out.size;have L:∀g,(Value.slice v.A1 m.consts.length v.c1).ownBlock=some g->g<d.heap.size:=O.r1.ltb;have M:∀g,(Value.slice v.A1 m.consts.length v.c1).ownBlock=some g->g≠mb:=fun g hg e=>(by obtain⟨_,ak,h1⟩:=O.r1.ownb g hg;exact absurd (Bb h1 (e▸x)) (by decide));have E:=zz L;have V:=zz M;obtain⟨N,hN⟩:∃N,N=m.consts.length:=⟨_,rfl⟩;have T:=zz hN;rw[<- hN]at u;have X:=zz (C6 d.drew k.out.drew ⟨#[99,111,110,115,116]⟩);clear x O L M hN;go_wp2_with fail
 go_region_law (first
  | (go_simp
     go_at_call 79
     (with_reducible refine(X.out).mono ?_)
     rintro e y ⟨p,q,rfl,o,ab,ac,al,am,J⟩;have a:Below d.heap.size d y:=(Below.refl d.heap.size d).drew.trans J;have ah:y.cell? ⟨mb,0,none⟩=some (.slice v.A1 N v.c1):=(a.cell (p:=⟨mb,0,none⟩) j).trans u;have af:y.frozen? ⟨mb,0,none⟩=false:=(a.frozen (p:=⟨mb,0,none⟩) j).trans aa;have ai:mb<y.heap.size:=Nat.lt_of_lt_of_le j a.size;have f:=zz a;have Q:=zz o;have an:=a.size
     clear J a o)
  | (go_simp
     go_at_call 78;rw[T.out];refine(J7 (b1:=w0.heap.size) (row0:=(Value.slice v.A1 m.consts.length v.c1).ownBlock) (l0:=m.consts) y (k.out.below f.out) _ Q.out ?k1 hbb ?k2 ⟨hx,hrb⟩ ?k3 rfl hlen).mono ?_;(case k1=>exact⟨fun e=>absurd (E.out p e) (by have:d.drew.heap.size<=p:=ab;have e2:d.drew.heap.size=d.heap.size:=rfl;omega),fun e=>absurd (E.out q e) (by have:d.drew.heap.size<=q:=ac;have e2:d.drew.heap.size=d.heap.size:=rfl;omega)⟩);case k2=>omega
     (case k3=>exact(t.out.keep (Kt.below f.out)).r1);rintro e w6 ⟨A,Z,rfl,I,H,G,n⟩
     have c:Fx (X3 xb rb (v.v1 m).ownBlock) y w6:=G
     have i:=(P.out.below f.out).fx c (fun ae=>by
      rcases ae with e | e | e
      · omega
      · omega
      · exact V.out mb e rfl)
     have K:=i.cell 0;have ag:=i.frozen 0;have aj:=i.lt;have r:=zz i;have U:=zz ((t.out.keep (Kt.below f.out)).put1 hx hrb c I n);have S:=zz H;have R:=zz ((B.out.on f.out).row c (fun g hg=>(t.out.r1.ownb g hg).1));simp only[List.getElem?_cons_zero,CZ.v1]at K
     clear i I H G c n))
 (all_goals go_wp2);all_goals go_end0
 (all_goals refine⟨rfl,S.out.set r.out (by unfold EH;decide) (by omega) _,⟨{v with A1:=A,c1:=Z},?_,U.out.keepM (Kt.mdl r.out)⟩,R.out.setCell (p:=⟨mb,0,none⟩) (.inl hmb) _⟩);all_goals rw[<- List.length_append]
 all_goals exact r.out.set 0 _
theorem Sk{mb:Nat}{m:AP}(w0 w:World)(h:AM w xb rb b D st)(hm:PW w w0.heap.size mb m)(hmb:w0.heap.size<=mb)(hbb:b<=w0.heap.size)(hx:xb<w0.heap.size)(hrb:rb<w0.heap.size)(hF:Fx (X2 xb rb) w0 w)(hlen:m.formulas.length+st.len<=200000)(h0:AG st.hd AN=false)(hi:AG st.hd AE=true):
 Calls Tryz.prog 46 #[.pointer (some ⟨xb,0,none⟩),.pointer (some ⟨mb,0,none⟩)] w (XH xb rb b D mb w0 ({m with formulas:=m.formulas++(Db D st).1},(Db D st).2)):=by
 have G:=zz (fun(W:World) (hW:AM W xb rb b D st)=>hW.is_ ⟨#[99,111,110,115,116]⟩);rw[show AG st.hd (⟨#[99,111,110,115,116]⟩:ByteArray).data.toList=false from h0]at G;have H:=zz (fun(W:World) (hW:AM W xb rb b D st)=>hW.is_ ⟨#[102,111,114,109,117,108,97]⟩);rw[show AG st.hd (⟨#[102,111,114,109,117,108,97]⟩:ByteArray).data.toList=true from hi]at H;have u:=zz h;have J:=zz hm;have C:=zz hF;have c0:=h.c0;have T:=h.ltx;clear h hm hF hi h0;go_enter Tryz.func46,Tryz.ntmps46;go_wp2_with fail;refine(G.out _ u.out).mono ?_;rintro e u1 ⟨rfl,n⟩;have i:=zz (u.out.below n);have K:=zz (J.out.below n);have E:=zz (C.out.on n);have c0:=i.out.c0;have T:=i.out.ltx;clear n u J C;go_wp2_with fail;refine(H.out _ i.out).mono ?_;rintro e d ⟨rfl,o⟩;have l:=zz (i.out.below o);have ae:=zz (K.out.below o);have F:=zz (E.out.on o);have c0:=l.out.c0;have T:=l.out.ltx;clear o i K E;obtain⟨v,z,U⟩:=ae.out;have y:=z.cell 1;simp only[List.getElem?_cons_zero,List.getElem?_cons_succ,CZ.v2]at y;have ag:=z.frozen 1;have k:=z.lt;have x:=zz U;have V:=zz z;have av:=F.out.size;have R:∀g,(Value.slice v.A2 m.formulas.length v.c2).ownBlock=some g->g<d.heap.size:=U.r2.ltb;have S:∀g,(Value.slice v.A2 m.formulas.length v.c2).ownBlock=some g->g≠mb:=fun g hg e=>(by obtain⟨_,ap,h1⟩:=U.r2.ownb g hg;exact absurd (Bb h1 (e▸z)) (by decide));have I:=zz R;have ac:=zz S;obtain⟨N,hN⟩:∃N,N=m.formulas.length:=⟨_,rfl⟩;have aa:=zz hN;rw[<- hN]at y;have ad:=zz (C6 d.drew l.out.drew ⟨#[102,111,114,109,117,108,97]⟩);clear z U R S hN;go_wp2_with fail
 go_region_law (first
  | (go_simp
     go_at_call 79
     (with_reducible refine(ad.out).mono ?_)
     rintro e B ⟨p,q,rfl,s,ah,ai,aq,ar,P⟩;have a:Below d.heap.size d B:=(Below.refl d.heap.size d).drew.trans P;have am:B.cell? ⟨mb,1,none⟩=some (.slice v.A2 N v.c2):=(a.cell (p:=⟨mb,1,none⟩) k).trans y;have ak:B.frozen? ⟨mb,1,none⟩=false:=(a.frozen (p:=⟨mb,1,none⟩) k).trans ag;have an:mb<B.heap.size:=Nat.lt_of_lt_of_le k a.size;have f:=zz a;have X:=zz s;have au:=a.size
     clear P a s)
  | (go_simp
     go_at_call 78;rw[aa.out];refine(J7 (b1:=w0.heap.size) (row0:=(Value.slice v.A2 m.formulas.length v.c2).ownBlock) (l0:=m.formulas) B (l.out.below f.out) _ X.out ?k1 hbb ?k2 ⟨hx,hrb⟩ ?k3 rfl hlen).mono ?_;(case k1=>exact⟨fun e=>absurd (I.out p e) (by have:d.drew.heap.size<=p:=ah;have e2:d.drew.heap.size=d.heap.size:=rfl;omega),fun e=>absurd (I.out q e) (by have:d.drew.heap.size<=q:=ai;have e2:d.drew.heap.size=d.heap.size:=rfl;omega)⟩);case k2=>omega
     (case k3=>exact(x.out.keep (Kt.below f.out)).r2);rintro e w6 ⟨A,af,rfl,O,M,L,r⟩
     have c:Fx (X3 xb rb (v.v2 m).ownBlock) B w6:=L
     have j:=(V.out.below f.out).fx c (fun aj=>by
      rcases aj with e | e | e
      · omega
      · omega
      · exact ac.out mb e rfl)
     have Q:=j.cell 1;have al:=j.frozen 1;have ao:=j.lt;have t:=zz j;have ab:=zz ((x.out.keep (Kt.below f.out)).put2 hx hrb c O r);have Z:=zz M;have Y:=zz ((F.out.on f.out).row c (fun g hg=>(x.out.r2.ownb g hg).1));simp only[List.getElem?_cons_zero,List.getElem?_cons_succ,CZ.v2]at Q
     clear j O M L c r))
 (all_goals go_wp2);all_goals go_end0
 (all_goals refine⟨rfl,Z.out.set t.out (by unfold EH;decide) (by omega) _,⟨{v with A2:=A,c2:=af},?_,ab.out.keepM (Kt.mdl t.out)⟩,Y.out.setCell (p:=⟨mb,1,none⟩) (.inl hmb) _⟩);all_goals rw[<- List.length_append]
 all_goals exact t.out.set 1 _
theorem Qe{mb:Nat}{m:AP}(w0 w:World)(h:AM w xb rb b D st)(hm:PW w w0.heap.size mb m)(hmb:w0.heap.size<=mb)(hbb:b<=w0.heap.size)(hx:xb<w0.heap.size)(hrb:rb<w0.heap.size)(hF:Fx (X2 xb rb) w0 w)(hlen:m.labels.length+st.len<=200000)(h0:AG st.hd AN=false)(h1:AG st.hd AE=false)(hi:AG st.hd BI=true):
 Calls Tryz.prog 46 #[.pointer (some ⟨xb,0,none⟩),.pointer (some ⟨mb,0,none⟩)] w (XH xb rb b D mb w0 ({m with labels:=m.labels++(Da D st).1},(Da D st).2)):=by
 have K:=zz (fun(W:World) (V:AM W xb rb b D st)=>V.is_ ⟨#[99,111,110,115,116]⟩);rw[show AG st.hd (⟨#[99,111,110,115,116]⟩:ByteArray).data.toList=false from h0]at K;have L:=zz (fun(W:World) (V:AM W xb rb b D st)=>V.is_ ⟨#[102,111,114,109,117,108,97]⟩);rw[show AG st.hd (⟨#[102,111,114,109,117,108,97]⟩:ByteArray).data.toList=false from h1]at L;have M:=zz (fun(W:World) (V:AM W xb rb b D st)=>V.is_ ⟨#[108,97,98,101,108]⟩);rw[show AG st.hd (⟨#[108,97,98,101,108]⟩:ByteArray).data.toList=true from hi]at M;have y:=zz h;have P:=zz hm;have G:=zz hF;have c0:=h.c0;have C:=h.ltx;clear h hm hF hi h0 h1;go_enter Tryz.func46,Tryz.ntmps46;go_wp2_with fail;refine(K.out _ y.out).mono ?_;rintro e u1 ⟨rfl,o⟩;have i:=zz (y.out.below o);have Q:=zz (P.out.below o);have H:=zz (G.out.on o);have c0:=i.out.c0;have C:=i.out.ltx;clear o y P G;go_wp2_with fail;refine(L.out _ i.out).mono ?_;rintro e u2 ⟨rfl,r⟩;have j:=zz (i.out.below r);have R:=zz (Q.out.below r);have I:=zz (H.out.on r);have c0:=j.out.c0;have C:=j.out.ltx;clear r i Q H;go_wp2_with fail;refine(M.out _ j.out).mono ?_;rintro e d ⟨rfl,s⟩;have n:=zz (j.out.below s);have aj:=zz (R.out.below s);have J:=zz (I.out.on s);have c0:=n.out.c0;have C:=n.out.ltx;clear s j R I;obtain⟨v,E,hR⟩:=aj.out;have B:=E.cell 2;simp only[List.getElem?_cons_zero,List.getElem?_cons_succ,CZ.v3]at B;have al:=E.frozen 2;have l:=E.lt;have z:=zz hR;have ab:=zz E;have aA:=J.out.size;have Z:∀g,(Value.slice v.A3 m.labels.length v.c3).ownBlock=some g->g<d.heap.size:=hR.r3.ltb;have aa:∀g,(Value.slice v.A3 m.labels.length v.c3).ownBlock=some g->g≠mb:=fun g hg e=>(by obtain⟨_,aw,h1⟩:=hR.r3.ownb g hg;exact absurd (Bb h1 (e▸E)) (by decide));have O:=zz Z;have ah:=zz aa;obtain⟨N,hN⟩:∃N,N=m.labels.length:=⟨_,rfl⟩;have af:=zz hN;rw[<- hN]at B;have ai:=zz (C6 d.drew n.out.drew ⟨#[108,97,98,101,108]⟩);clear E hR Z aa hN;go_wp2_with fail
 go_region_law (first
  | (go_simp
     go_at_call 79
     (with_reducible refine(ai.out).mono ?_)
     rintro e F ⟨p,q,rfl,u,am,an,ax,ay,X⟩;have a:Below d.heap.size d F:=(Below.refl d.heap.size d).drew.trans X;have ar:F.cell? ⟨mb,2,none⟩=some (.slice v.A3 N v.c3):=(a.cell (p:=⟨mb,2,none⟩) l).trans B;have ap:F.frozen? ⟨mb,2,none⟩=false:=(a.frozen (p:=⟨mb,2,none⟩) l).trans al;have au:mb<F.heap.size:=Nat.lt_of_lt_of_le l a.size;have f:=zz a;have ac:=zz u;have az:=a.size
     clear X a u)
  | (go_simp
     go_at_call 78;rw[af.out];refine(P0 (b1:=w0.heap.size) (row0:=(Value.slice v.A3 m.labels.length v.c3).ownBlock) (l0:=m.labels) F (n.out.below f.out) _ ac.out ?k1 hbb ?k2 ⟨hx,hrb⟩ ?k3 rfl hlen).mono ?_;(case k1=>exact⟨fun e=>absurd (O.out p e) (by have:d.drew.heap.size<=p:=am;have e2:d.drew.heap.size=d.heap.size:=rfl;omega),fun e=>absurd (O.out q e) (by have:d.drew.heap.size<=q:=an;have e2:d.drew.heap.size=d.heap.size:=rfl;omega)⟩);case k2=>omega
     (case k3=>exact(z.out.keep (Kt.below f.out)).r3);rintro e w6 ⟨A,ak,rfl,U,T,S,t⟩
     have c:Fx (X3 xb rb (v.v3 m).ownBlock) F w6:=S
     have k:=(ab.out.below f.out).fx c (fun ao=>by
      rcases ao with e | e | e
      · omega
      · omega
      · exact ah.out mb e rfl)
     have Y:=k.cell 2;have aq:=k.frozen 2;have av:=k.lt;have x:=zz k;have ag:=zz ((z.out.keep (Kt.below f.out)).put3 hx hrb c U t);have ae:=zz T;have ad:=zz ((J.out.on f.out).row c (fun g hg=>(z.out.r3.ownb g hg).1));simp only[List.getElem?_cons_zero,List.getElem?_cons_succ,CZ.v3]at Y
     clear k U T S c t))
 (all_goals go_wp2);all_goals go_end0
 (all_goals refine⟨rfl,ae.out.set x.out (by unfold EH;decide) (by omega) _,⟨{v with A3:=A,c3:=ak},?_,ag.out.keepM (Kt.mdl x.out)⟩,ad.out.setCell (p:=⟨mb,2,none⟩) (.inl hmb) _⟩);all_goals rw[<- List.length_append]
 all_goals exact x.out.set 2 _
end
end
section
open Go.RowKit
section
variable {xb rb b D:Nat} {st:St}
theorem SH{mb:Nat}{m:AP}(w0 w:World)(h:AM w xb rb b D st)(hm:PW w w0.heap.size mb m)(hmb:w0.heap.size<=mb)(hbb:b<=w0.heap.size)(hx:xb<w0.heap.size)(hrb:rb<w0.heap.size)(hF:Fx (X2 xb rb) w0 w)(hlen:m.mods.length+st.len<=200000)(h0:AG st.hd AN=false)(h1:AG st.hd AE=false)(h2:AG st.hd BI=false)(hi:AG st.hd A8=true):
 Calls Tryz.prog 46 #[.pointer (some ⟨xb,0,none⟩),.pointer (some ⟨mb,0,none⟩)] w (XH xb rb b D mb w0 ({m with mods:=m.mods++(Ek D st).1},(Ek D st).2)):=by
 have O:=zz (fun(W:World) (E:AM W xb rb b D st)=>E.is_ ⟨#[99,111,110,115,116]⟩);rw[show AG st.hd (⟨#[99,111,110,115,116]⟩:ByteArray).data.toList=false from h0]at O;have P:=zz (fun(W:World) (E:AM W xb rb b D st)=>E.is_ ⟨#[102,111,114,109,117,108,97]⟩);rw[show AG st.hd (⟨#[102,111,114,109,117,108,97]⟩:ByteArray).data.toList=false from h1]at P;have Q:=zz (fun(W:World) (E:AM W xb rb b D st)=>E.is_ ⟨#[108,97,98,101,108]⟩);rw[show AG st.hd (⟨#[108,97,98,101,108]⟩:ByteArray).data.toList=false from h2]at Q;have R:=zz (fun(W:World) (E:AM W xb rb b D st)=>E.is_ ⟨#[109,111,100,117,108,101]⟩);rw[show AG st.hd (⟨#[109,111,100,117,108,101]⟩:ByteArray).data.toList=true from hi]at R;have B:=zz h;have T:=zz hm;have I:=zz hF;have c0:=h.c0;have x:=h.ltx;clear h hm hF hi h0 h1 h2;go_enter Tryz.func46,Tryz.ntmps46;go_wp2_with fail;refine(O.out _ B.out).mono ?_;rintro e u1 ⟨rfl,r⟩;have i:=zz (B.out.below r);have U:=zz (T.out.below r);have J:=zz (I.out.on r);have c0:=i.out.c0;have x:=i.out.ltx;clear r B T I;go_wp2_with fail;refine(P.out _ i.out).mono ?_;rintro e u2 ⟨rfl,s⟩;have j:=zz (i.out.below s);have V:=zz (U.out.below s);have K:=zz (J.out.on s);have c0:=j.out.c0;have x:=j.out.ltx;clear s i U J;go_wp2_with fail;refine(Q.out _ j.out).mono ?_;rintro e u3 ⟨rfl,t⟩;have k:=zz (j.out.below t);have X:=zz (V.out.below t);have L:=zz (K.out.on t);have c0:=k.out.c0;have x:=k.out.ltx;clear t j V K;go_wp2_with fail;refine(R.out _ k.out).mono ?_;rintro e d ⟨rfl,u⟩;have o:=zz (k.out.below u);have ao:=zz (X.out.below u);have M:=zz (L.out.on u);have c0:=o.out.c0;have x:=o.out.ltx;clear u k X L;obtain⟨v,G,hR⟩:=ao.out;have F:=G.cell 3;simp only[List.getElem?_cons_zero,List.getElem?_cons_succ,CZ.v4]at F;have aq:=G.frozen 3;have n:=G.lt;have C:=zz hR;have ag:=zz G;have aF:=M.out.size;have ae:∀g,(Value.slice v.A4 m.mods.length v.c4).ownBlock=some g->g<d.heap.size:=hR.r4.ltb;have af:∀g,(Value.slice v.A4 m.mods.length v.c4).ownBlock=some g->g≠mb:=fun g hg e=>(by obtain⟨_,aB,h1⟩:=hR.r4.ownb g hg;exact absurd (Bb h1 (e▸G)) (by decide));have S:=zz ae;have am:=zz af;obtain⟨N,hN⟩:∃N,N=m.mods.length:=⟨_,rfl⟩;have ak:=zz hN;rw[<- hN]at F;have an:=zz (C6 d.drew o.out.drew ⟨#[109,111,100,117,108,101]⟩);clear G hR ae af hN;go_wp2_with fail
 go_region_law (first
  | (go_simp
     go_at_call 79
     (with_reducible refine(an.out).mono ?_)
     rintro e H ⟨p,q,rfl,y,ar,au,aC,aD,ac⟩;have a:Below d.heap.size d H:=(Below.refl d.heap.size d).drew.trans ac;have ay:H.cell? ⟨mb,3,none⟩=some (.slice v.A4 N v.c4):=(a.cell (p:=⟨mb,3,none⟩) n).trans F;have aw:H.frozen? ⟨mb,3,none⟩=false:=(a.frozen (p:=⟨mb,3,none⟩) n).trans aq;have az:mb<H.heap.size:=Nat.lt_of_lt_of_le n a.size;have f:=zz a;have ah:=zz y;have aE:=a.size
     clear ac a y)
  | (go_simp
     go_at_call 82;rw[ak.out];refine(Qa (b1:=w0.heap.size) (row0:=(Value.slice v.A4 m.mods.length v.c4).ownBlock) (l0:=m.mods) H (o.out.below f.out) _ ah.out ?k1 hbb ?k2 ⟨hx,hrb⟩ ?k3 rfl hlen).mono ?_;(case k1=>exact⟨fun e=>absurd (S.out p e) (by have:d.drew.heap.size<=p:=ar;have e2:d.drew.heap.size=d.heap.size:=rfl;omega),fun e=>absurd (S.out q e) (by have:d.drew.heap.size<=q:=au;have e2:d.drew.heap.size=d.heap.size:=rfl;omega)⟩);case k2=>omega
     (case k3=>exact(C.out.keep (Kt.below f.out)).r4);rintro e w6 ⟨A,ap,rfl,aa,Z,Y,ab⟩
     have c:Fx (X3 xb rb (v.v4 m).ownBlock) H w6:=Y
     have l:=(ag.out.below f.out).fx c (fun av=>by
      rcases av with e | e | e
      · omega
      · omega
      · exact am.out mb e rfl)
     have ad:=l.cell 3;have ax:=l.frozen 3;have aA:=l.lt;have z:=zz l;have al:=zz ((C.out.keep (Kt.below f.out)).put4 hx hrb c aa);have aj:=zz Z;have ai:=zz ((M.out.on f.out).row c (fun g hg=>(C.out.r4.ownb g hg).1));simp only[List.getElem?_cons_zero,List.getElem?_cons_succ,CZ.v4]at ad
     clear l aa Z Y c ab))
 (all_goals go_wp2);all_goals go_end0
 (all_goals refine⟨rfl,aj.out.set z.out (by unfold EH;decide) (by omega) _,⟨{v with A4:=A,c4:=ap},?_,al.out.keepM (Kt.mdl z.out)⟩,ai.out.setCell (p:=⟨mb,3,none⟩) (.inl hmb) _⟩);all_goals rw[<- List.length_append]
 all_goals exact z.out.set 3 _
theorem Oe{mb:Nat}{m:AP}(w0 w:World)(h:AM w xb rb b D st)(hm:PW w w0.heap.size mb m)(hmb:w0.heap.size<=mb)(hx:xb<w0.heap.size)(hrb:rb<w0.heap.size)(hF:Fx (X2 xb rb) w0 w)(h0:AG st.hd AN=false)(h1:AG st.hd AE=false)(h2:AG st.hd BI=false)(h3:AG st.hd A8=false):
 Calls Tryz.prog 46 #[.pointer (some ⟨xb,0,none⟩),.pointer (some ⟨mb,0,none⟩)] w (XH xb rb b D mb w0 (m,st.fail 20)):=by
 have x:=zz (fun(W:World) (q:AM W xb rb b D st)=>q.is_ ⟨#[99,111,110,115,116]⟩);rw[show AG st.hd (⟨#[99,111,110,115,116]⟩:ByteArray).data.toList=false from h0]at x;have y:=zz (fun(W:World) (q:AM W xb rb b D st)=>q.is_ ⟨#[102,111,114,109,117,108,97]⟩);rw[show AG st.hd (⟨#[102,111,114,109,117,108,97]⟩:ByteArray).data.toList=false from h1]at y;have z:=zz (fun(W:World) (q:AM W xb rb b D st)=>q.is_ ⟨#[108,97,98,101,108]⟩);rw[show AG st.hd (⟨#[108,97,98,101,108]⟩:ByteArray).data.toList=false from h2]at z;have A:=zz (fun(W:World) (q:AM W xb rb b D st)=>q.is_ ⟨#[109,111,100,117,108,101]⟩);rw[show AG st.hd (⟨#[109,111,100,117,108,101]⟩:ByteArray).data.toList=false from h3]at A;have o:=zz h;have B:=zz hm;have r:=zz hF;have c0:=h.c0;have n:=h.ltx;clear h hm hF h0 h1 h2 h3;go_enter Tryz.func46,Tryz.ntmps46;go_wp2_with fail;refine(x.out _ o.out).mono ?_;rintro e S ⟨rfl,g⟩;have a:=zz (o.out.below g);have C:=zz (B.out.below g);have s:=zz (r.out.on g);have c0:=a.out.c0;have n:=a.out.ltx;clear g o B r;go_wp2_with fail;refine(y.out _ a.out).mono ?_;rintro e T ⟨rfl,i⟩;have c:=zz (a.out.below i);have E:=zz (C.out.below i);have t:=zz (s.out.on i);have c0:=c.out.c0;have n:=c.out.ltx;clear i a C s;go_wp2_with fail;refine(z.out _ c.out).mono ?_;rintro e U ⟨rfl,j⟩;have d:=zz (c.out.below j);have F:=zz (E.out.below j);have u:=zz (t.out.on j);have c0:=d.out.c0;have n:=d.out.ltx;clear j c E t;go_wp2_with fail;refine(A.out _ d.out).mono ?_;rintro e Q ⟨rfl,l⟩;have p:=zz (d.out.below l);have K:=zz (F.out.below l);have H:=zz (u.out.on l);have c0:=p.out.c0;have n:=p.out.ltx;clear l d F u;go_wp2_with fail;refine(Fs Q p.out).mono ?_;rintro e R ⟨rfl,G,f⟩
 have L:=zz (show PW R w0.heap.size mb m by
  obtain⟨v,N,O⟩:=K.out
  exact⟨v,N.fx f (fun M=>by have:=BN M hx hrb;omega),O.keep (Kt.fx f (fun k P=>BN P hx hrb))⟩)
 have I:=zz (H.out.trans f);have J:=zz G;clear G f;go_wp2;go_end0;exact⟨rfl,J.out,L.out,I.out⟩
theorem Mk{mb:Nat}{m:AP}(w0 w:World)(h:AM w xb rb b D st)(hm:PW w w0.heap.size mb m)(hmb:w0.heap.size<=mb)(hbb:b<=w0.heap.size)(hx:xb<w0.heap.size)(hrb:rb<w0.heap.size)(hF:Fx (X2 xb rb) w0 w)(hlen:m.consts.length+m.formulas.length+m.labels.length+m.mods.length+st.len<=200000):
 Calls Tryz.prog 46 #[.pointer (some ⟨xb,0,none⟩),.pointer (some ⟨mb,0,none⟩)] w (XH xb rb b D mb w0 (st.items D m)):=by
 unfold St.items;split
 · next a=>exact Rr w0 w h hm hmb hbb hx hrb hF (by omega) a
 · next a=>
   have a:AG st.hd AN=false:=(by simpa using a);split
   · next c=>exact Sk w0 w h hm hmb hbb hx hrb hF (by omega) a c
   · next c=>
     have c:AG st.hd AE=false:=(by simpa using c);split
     · next d=>exact Qe w0 w h hm hmb hbb hx hrb hF (by omega) a c d
     · next d=>
       have d:AG st.hd BI=false:=(by simpa using d);split
       · next h3=>exact SH w0 w h hm hmb hbb hx hrb hF (by omega) a c d h3
       · next h3=>exact Oe w0 w h hm hmb hx hrb hF a c d (by simpa using h3)
end
end
section
open Go.RowKit
theorem KC{α:Type}{p:AH->Bool}{rd:St->α×St}(hd:H6 p rd):∀(f:Nat) (st:St),(DJ p rd f st).1.length+(DJ p rd f st).2.len<=st.len
 | 0,st=>by simp[DJ]
 | f+1,st=>by
   simp only[DJ];split
   · next hp=>have h1:=(hd st hp).1;have a:=KC hd f (rd st).2;simp only[List.length_cons];omega
   · simp
theorem G4{α:Type}{p:AH->Bool}{rd:St->α×St}(hd:H6 p rd)(st:St):(st.list p rd).1.length+(st.list p rd).2.len<=st.len:=KC hd _ st
def AP.cnt(m:AP):Nat:=m.consts.length+m.formulas.length+m.labels.length+m.mods.length
theorem Oy(D:Nat)(m:AP)(st:St):(st.items D m).1.cnt+(st.items D m).2.len<=m.cnt+st.len:=by
 unfold St.items;split
 · have:=G4 (C1 D AN) st;simp only[AP.cnt,List.length_append,Co];omega
 · split
   · have:=G4 (C1 D AE) st;simp only[AP.cnt,List.length_append,Db];omega
   · split
     · have:=G4 (Fn D BI) st;simp only[AP.cnt,List.length_append,Da];omega
     · split
       · have:=G4 (Fv D A8) st;simp only[AP.cnt,List.length_append,Ek];omega
       · have:=(Gv (c:=20) st).1;simp only;omega
section
variable {xb rb b D:Nat} {st:St}
def Y6(xb rb b D:Nat)(r:AP×St)(w:World)(e:Ending)(w':World):Prop:=
 ∃v:CZ,e= .returned (.agg #[v.v1 r.1,v.v2 r.1,v.v3 r.1,v.v4 r.1])/\GL w' (w.heap.size+1) r.1 v/\AM w' xb rb b D r.2/\Fx (X2 xb rb) w w'
structure Y8(xb rb b D:Nat)(tot:AP×St)(w0:World)(m1:AP)(st1:St)(wr:World):Prop where
 mr:AM wr xb rb b D st1
 md:PW wr w0.heap.size w0.heap.size m1
 tot:st1.mdlOn D m1=tot
 fx:Fx (X2 xb rb) w0 wr
 len:m1.cnt+st1.len<=65537
def Q7(xb rb b D:Nat)(tot:AP×St)(w0:World)(gk:Nat)(wr:World):Prop:=∃m1 st1,gk=st1.len/\Y8 xb rb b D tot w0 m1 st1 wr
theorem Yw(w:World)(b1 mb:Nat)(h:Bx w mb 26 [.slice none 0 0,.slice none 0 0,.slice none 0 0,.slice none 0 0]):PW w b1 mb EQ:=
 ⟨⟨none,0,none,0,none,0,none,0⟩,h,AQ.nil _ _ _ _ _,AQ.nil _ _ _ _ _,AQ.nil _ _ _ _ _,AQ.nil _ _ _ _ _,(fun _ h=>by cases h),(fun _ h=>by cases h),(fun _ h=>by cases h)⟩
theorem Mz(w:World)(h:AM w xb rb b D st):Calls Tryz.prog 16 #[.pointer (some ⟨xb,0,none⟩)] w (Y6 xb rb b D (st.mdl D) w):=by
 have hx:=h.ltx;have ag:=h.hr;have Q:=zz h.nx;have aa:=h.ble;have H:=zz h;clear h;have ab:=Df;have ac:=C7;have ad:=C8;obtain⟨f,l⟩:∃f,f=st.mdl D:=⟨_,rfl⟩;rw[<- l];have N:=zz l;clear l;obtain⟨m,j⟩:∃m,m=w.alloc (.cells #[.slice none 0 0,.slice none 0 0,.slice none 0 0,.slice none 0 0] 26):=⟨_,rfl⟩;have o:m.heap.size=w.heap.size+1:=(by rw[j];simp);have I:=zz (show Bx m w.heap.size 26 [.slice none 0 0,.slice none 0 0,.slice none 0 0,.slice none 0 0] by rw[j];exact Bx.new _ _ _);have z:=zz (show Fx (X2 xb rb) w m by rw[j];exact(Fx.refl _ _).alloc _);have A:=zz (show AM m xb rb b D st by rw[j];exact H.out.alloc _);go_enter Tryz.func16,Tryz.ntmps16;go_wp2_with fail;refine AA (P:=fun W=>AM W xb rb b D st/\Bx W (w.heap.size+1) 26 [.slice none 0 0,.slice none 0 0,.slice none 0 0,.slice none 0 0]/\Fx (X2 xb rb) m W) ⟨?_,?_,?_⟩ ?_
 · exact(H.out.alloc _).alloc _
 · exact Bx.newAt (by simp) _ _
 · rw[j];exact(Fx.refl _ _).alloc _
 rintro W ⟨Y,n,X⟩;refine(AT W Y _).mono ?_;rintro e w1 ⟨rfl,y,x⟩;have g:=zz (show Q7 xb rb b D f m (st.want D6).len w1 from⟨EQ,st.want D6,rfl,y,Yw _ _ _ (by rw[o];exact n.fx x (Q.out _ (by omega))),N.out.symm,X.trans x,by have h1:(st.want D6).len<=65537:=AM.len y;simpa[AP.cnt,EQ]using h1⟩);clear Y n X y x H A;clear j;go_wp2;go_loopg [] (st.want D6).len (fun gk wr=>Q7 xb rb b D f m gk wr);(case atStart=>exact g.out);case round=>
  clear g;obtain⟨a,d,rfl,F⟩:=hrel;have g:=zz F;have R:=zz F.mr.peek;have c0:=F.mr.c0;have ah:=F.mr.ltx;clear F;by_cases q:d.hd.kind=0
  · have g1:(((d.hd.kind:Nat):Int) != 0)=false:=(by rw[q];rfl);have M:=zz (show(a,d)=f by rw[<- g.out.tot,F0 D q]);clear q;go_wp2_with fail;(with_reducible refine(R.out).mono ?_);rintro e G ⟨rfl,c⟩
    obtain⟨v,n,E⟩:=g.out.md.below c;have k:=I.out.fx (g.out.fx.on c) (Q.out _ (Nat.le_refl _));have t:=zz E;have s:=zz (g.out.mr.below c);have r:=zz (z.out.trans (g.out.fx.on c));rw[o]at n;have S:=n.cell 0;have T:=n.cell 1;have U:=n.cell 2;have V:=n.cell 3;simp only[List.getElem?_cons_zero,List.getElem?_cons_succ]at S T U V;have d0:=k.cell 0;have d1:=k.cell 1;have d2:=k.cell 2;have d3:=k.cell 3;simp only[List.getElem?_cons_zero,List.getElem?_cons_succ]at d0 d1 d2 d3;have y0:=k.frozen 0;have y1:=k.frozen 1;have y2:=k.frozen 2;have y3:=k.frozen 3;simp only[CZ.v1,CZ.v2,CZ.v3,CZ.v4]at S T U V;have ae:=n.lt;have af:=k.lt;have HC:=zz k;clear c n k E;go_wp2;have u:=HC.out.setL (i:=0) (us:=[v.v1 a,v.v2 a,v.v3 a,v.v4 a]);simp only[setL,Bg,List.set_cons_zero,List.set_cons_succ]at u;simp only[CZ.v1,CZ.v2,CZ.v3,CZ.v4]at u;rw[<- M.out];refine bodyPost_ret (v:=.agg #[v.v1 a,v.v2 a,v.v3 a,v.v4 a]) (by simp[results,Tryz.results16,go_sem,u.cell,CZ.v1,CZ.v2,CZ.v3,CZ.v4]) rfl ⟨v,rfl,?_,?_,?_⟩
    · have q:Kt (w.heap.size+1) E0 G (setL G w.heap.size 0 [v.v1 a,v.v2 a,v.v3 a,v.v4 a]):=Kt.setL (by omega);have Z:=t.out;rw[o]at Z;exact Z.keep q
    · exact AM.setL (i:=0) (us:=[v.v1 a,v.v2 a,v.v3 a,v.v4 a]) (by unfold EH;decide) (by omega) s.out HC.out
    · exact Fx.setL (i:=0) (us:=[v.v1 a,v.v2 a,v.v3 a,v.v4 a]) (.inl (Nat.le_refl _)) r.out
  · have g1:(((d.hd.kind:Nat):Int) != 0)=true:=(by rw[bne_iff_ne];omega);have M:=zz (show(d.items D a).2.mdlOn D (d.items D a).1=f by rw[<- g.out.tot,EP D q]);have K:=zz ((Fq D a q).2);have J:=zz (Oy D a d);clear q;go_wp2_with fail;(with_reducible refine(R.out).mono ?_);rintro e G ⟨rfl,c⟩
    have s:=zz (g.out.mr.below c);have t:=zz (g.out.md.below c);have r:=zz (g.out.fx.on c);have O:=zz g.out.len;clear c;go_wp2_with fail;rw[<- o];refine(Mk m G s.out t.out (Nat.le_refl _) (by omega) (by omega) (by omega) r.out (by have:=O.out;unfold AP.cnt at this;omega)).mono ?_;rintro e w4 ⟨rfl,C,p,B⟩;have L:=zz (show Q7 xb rb b D f m (d.items D a).2.len w4 from⟨_,_,rfl,C,p,M.out,B,by have:=O.out;have:=J.out;omega⟩);clear C p B;go_wp2;go_roundg (d.items D a).2.len;(case measure=>exact K.out);case rel=>exact L.out
end
end
section
open Go.RowKit
def MQ(res:MP)(w:World)(e:Ending)(w':World):Prop:=
 match res with
 | .ok m=>∃v:CZ,e= .returned (.tuple #[.agg #[v.v1 m,v.v2 m,v.v3 m,v.v4 m],.nilIface])/\GL w' w.heap.size m v/\Below w.heap.size w w'
 | .er c q=>∃eb,e= .returned (.tuple #[.agg #[.slice none 0 0,.slice none 0 0,.slice none 0 0,.slice none 0 0],.iface 101 (.pointer (some ⟨eb,0,none⟩))])/\EC w' eb q c/\Below w.heap.size w w'
theorem NY(s:ByteArray)(n:Int)(w:World)(hn:n<1∨64<n):Calls Tryz.prog 7 #[.string s,.int .i64 n] w fun e w'=>e= .returned (.tuple #[.agg #[.slice none 0 0,.slice none 0 0,.slice none 0 0,.slice none 0 0],.iface 61 (.int .i64 1)])/\Below w.heap.size w w':=by
 rcases hn with hn | hn
 · have a:decide (n<1)=true:=(by simp;omega);clear hn;go_enter Tryz.func7,Tryz.ntmps7;go_wp2;exact bodyPost_ret (v:=.tuple #[.agg #[.slice none 0 0,.slice none 0 0,.slice none 0 0,.slice none 0 0],.iface 61 (.int .i64 1)]) (by simp[results,Tryz.results7,go_sem]) rfl ⟨rfl,(Below.refl _ _).alloc (Nat.le_refl _) _⟩
 · have a:decide (n<1)=false:=(by simp;omega);have b:decide (64<n)=true:=(by simp;omega);clear hn;go_enter Tryz.func7,Tryz.ntmps7;go_wp2;exact bodyPost_ret (v:=.tuple #[.agg #[.slice none 0 0,.slice none 0 0,.slice none 0 0,.slice none 0 0],.iface 61 (.int .i64 1)]) (by simp[results,Tryz.results7,go_sem]) rfl ⟨rfl,(Below.refl _ _).alloc (Nat.le_refl _) _⟩
theorem GL.mono{w:World}{b b1:Nat}{m:AP}{v:CZ}(h:GL w b1 m v)(hb:b<=b1):GL w b m v:=
 ⟨h.r1.mono hb (fun _ _ h=>h.mono hb),h.r2.mono hb (fun _ _ h=>h.mono hb),h.r3.mono hb (fun _ _ h=>h.mono hb),h.r4.mono hb (fun _ _ h=>h.mono hb),h.d12,h.d13,h.d23⟩
theorem Fx.belowOf{xb rb:Nat}{a w w':World}(hf:Fx (X2 xb rb) w w')(h:Below a.heap.size a w)(h1:a.heap.size<=xb)(h2:a.heap.size<=rb):Below a.heap.size a w':=
 ⟨hf.os.trans h.os,hf.tape.trans h.tape,hf.output.trans h.output,Nat.le_trans h.size hf.size,fun k b=>(hf.block k (Nat.lt_of_lt_of_le b h.size) (fun c=>by rcases c with e | e<;>omega)).trans (h.block k b)⟩
theorem EC.farL{q' i:Nat}{us:List Value}{w:World}{eb:Nat}{p n:Int}(h:EC w eb p n)(hne:eb≠q'):EC (setL w q' i us) eb p n:=h.keep (Ay hne us w i)
theorem Fc{s:ByteArray}{D:Nat}(w:World)(hG:B0 w)(hs:s.size<=65536)(h1:1<=D)(h64:D<=64):Calls Tryz.prog 7 #[.string s,.int .i64 (D:Int)] w (MQ (Bp D s.data.toList) w):=by
 have g1:decide ((D:Int)<1)=false:=(by simp;omega);have ac:decide (D<1)=false:=(by simp;omega);have g2:decide (64<(D:Int))=false:=(by simp;omega);have ad:decide (64<D)=false:=(by simp;omega);have V:3<w.heap.size/\0<w.heap.size:=(by have h0:=World.block_lt_of_cell? w _ hG.glob.err;obtain⟨te,pe,he⟩:=hG.rng;have h2:=World.block_lt_of_cell? w _ he;exact⟨h2,h0⟩);have HG:=zz hG;clear hG;go_enter Tryz.func7,Tryz.ntmps7;go_wp2_with fail;refine AA (P:=fun W=>Bx W w.heap.size 26 [.slice none 0 0,.slice none 0 0,.slice none 0 0,.slice none 0 0]/\Below w.heap.size w W) ⟨Bx.new _ _ _,(Below.refl _ _).alloc (Nat.le_refl _) _⟩ ?_;rintro W ⟨t,g⟩;have ag:=t.lt;cases f:CE s.data.toList with
 | error x=>
   obtain⟨x,q⟩:=x;refine(Sv W (HG.out.below g) hs f).mono ?_;rintro e E ⟨C,rfl,af,_,H,A⟩;have a:=t.below A;have HR:=zz (show Bp D s.data.toList= .er x q by unfold Bp;rw[f]);have L:=zz H;have k:=zz (g.trans (A.mono g.size));have O:=a.cell 0;have Q:=a.cell 1;have R:=a.cell 2;have S:=a.cell 3;simp only[List.getElem?_cons_zero,List.getElem?_cons_succ]at O Q R S;have y0:=a.frozen 0;have y1:=a.frozen 1;have y2:=a.frozen 2;have y3:=a.frozen 3;have ah:=a.lt;have j:=zz a;clear t g H A a f;go_wp2;have d:=j.out.setL (i:=0) (us:=[.slice none 0 0,.slice none 0 0,.slice none 0 0,.slice none 0 0]);simp only[setL,Bg,List.set_cons_zero,List.set_cons_succ]at d;rw[HR.out];refine bodyPost_ret (v:=.tuple #[.agg #[.slice none 0 0,.slice none 0 0,.slice none 0 0,.slice none 0 0],.iface 101 (.pointer (some ⟨C,0,none⟩))]) (by simp[results,Tryz.results7,go_sem,d.cell]) rfl ⟨C,rfl,?_,?_⟩
   · exact EC.farL (i:=0) (us:=[.slice none 0 0,.slice none 0 0,.slice none 0 0,.slice none 0 0]) L.out (by omega)
   · exact(Fx.setL (X:=fun _=>False) (q:=w.heap.size) (i:=0) (us:=[.slice none 0 0,.slice none 0 0,.slice none 0 0,.slice none 0 0]) (.inl (Nat.le_refl _)) (Fx.of k.out)).below (fun _ h=>h.elim)
 | ok Z=>
   refine(Vi W (HG.out.below g) hs f).mono ?_;rintro e E ⟨rb,rfl,al,hT,A⟩;have j:=zz (t.below A);have l:=zz hT;have k:=zz (g.trans (A.mono g.size));have M:=zz (show Bp D s.data.toList=Qh (St.mdl D (.good Z)) by unfold Bp;rw[f]);have an:=j.out.lt;clear t hT g A f;go_wp2_with fail;refine AA (P:=fun o=>AM o E.heap.size rb w.heap.size D (.good Z)/\Bx o w.heap.size 26 [.slice none 0 0,.slice none 0 0,.slice none 0 0,.slice none 0 0]/\Below w.heap.size w o) ⟨?_,j.out.alloc _,k.out.alloc k.out.size _⟩ ?_
   · have I:Below E.heap.size E (E.alloc (.cells #[.pointer (some ⟨rb,0,none⟩),.int .i64 (D:Int),.nilIface] 67)):=(Below.refl _ _).alloc (Nat.le_refl _) _;exact⟨⟨.nilIface,Bx.new _ _ _,rfl⟩,l.out.below I,l.out.glob.below I,h1,h64,V,⟨by omega,by omega⟩,by have:=l.out.ltr;simp;omega⟩
   have am:=l.out.ltr;rintro o ⟨T,t,g⟩;have aj:=T.ltx;refine(Mz o T).mono ?_;rintro e F ⟨v,rfl,U,n,r⟩;obtain⟨m,B,y⟩:∃m B,St.mdl D (.good Z)=(m,B):=⟨_,_,rfl⟩;rw[y]at U n M ⊢;have b:=t.fx r (fun Y=>by rcases Y with e | e<;>omega);have u:Below w.heap.size w F:=r.belowOf g (by omega) (by omega);obtain⟨ev,c0,c1,c2,_,_,J⟩:=n.cells;have ap:=n.ltx;have N:=zz (show GL F (o.heap.size+1) m v from U);have ab:=zz n;have G:=zz u;have ae:w.heap.size<=o.heap.size:=g.size;have ao:o.heap.size<=F.heap.size:=r.size;have ak:w.heap.size≠F.heap.size:=(by omega);have aa:E.heap.size≠w.heap.size:=(by omega);have O:=b.cell 0;have Q:=b.cell 1;have R:=b.cell 2;have S:=b.cell 3;simp only[List.getElem?_cons_zero,List.getElem?_cons_succ]at O Q R S;have y0:=b.frozen 0;have y1:=b.frozen 1;have y2:=b.frozen 2;have y3:=b.frozen 3;have ai:=b.lt;have z:=zz b;clear T t g U n r b u y j l k;cases B with
   | good us=>
     obtain rfl:ev= .nilIface:=J;dsimp only[CZ.v1,CZ.v2,CZ.v3,CZ.v4];go_wp2;have d:=(z.out.setL (i:=0) (us:=[v.v1 m,v.v2 m,v.v3 m,v.v4 m])).alloc (.cells #[v.v1 m,v.v2 m,v.v3 m,v.v4 m] 26);simp only[setL,Bg,List.set_cons_zero,List.set_cons_succ]at d;simp only[CZ.v1,CZ.v2,CZ.v3,CZ.v4]at d;rw[M.out];have hk:Kt (o.heap.size+1) E0 F (setL F w.heap.size 0 [v.v1 m,v.v2 m,v.v3 m,v.v4 m]):=Kt.setL (by omega);refine bodyPost_ret (v:=.tuple #[.agg #[v.v1 m,v.v2 m,v.v3 m,v.v4 m],.nilIface]) (by simp[results,Tryz.results7,go_sem,d.cell,CZ.v1,CZ.v2,CZ.v3,CZ.v4]) rfl ⟨v,rfl,?_,?_⟩
     · exact((N.out.keep hk).mono (by omega)).keep (Kt.below ((Below.refl _ _).alloc (Nat.le_refl _) _))
     · exact(Fx.alloc (Fx.setL (X:=fun _=>False) (q:=w.heap.size) (i:=0) (us:=[v.v1 m,v.v2 m,v.v3 m,v.v4 m]) (.inl (Nat.le_refl _)) (Fx.of G.out)) _).below (fun _ h=>h.elim)
   | bad c p=>
     obtain⟨C,rfl,H⟩:=J;have L:=zz H;clear H;dsimp only[CZ.v1,CZ.v2,CZ.v3,CZ.v4];go_wp2_with fail
     go_region
     go_wp2;rw[M.out];have d:=(z.out.setL (i:=0) (us:=[.slice none 0 0,.slice none 0 0,.slice none 0 0,.slice none 0 0])).alloc (.cells #[v.v1 m,v.v2 m,v.v3 m,v.v4 m] 26);simp only[setL,Bg,List.set_cons_zero,List.set_cons_succ]at d;simp only[CZ.v1,CZ.v2,CZ.v3,CZ.v4]at d;have K:C≠w.heap.size:=(by intro e;obtain⟨cs,h1⟩:=L.out.typ;exact absurd (Bb (e▸h1) z.out) (by decide));refine bodyPost_ret (v:=.tuple #[.agg #[.slice none 0 0,.slice none 0 0,.slice none 0 0,.slice none 0 0],.iface 101 (.pointer (some ⟨C,0,none⟩))]) (by simp[results,Tryz.results7,go_sem,d.cell]) rfl ⟨C,rfl,?_,?_⟩
     · exact((EC.farL (i:=0) (us:=[.slice none 0 0,.slice none 0 0,.slice none 0 0,.slice none 0 0]) L.out K).alloc _).below (Below.refl _ _).drew
     · exact((Fx.alloc (Fx.setL (X:=fun _=>False) (q:=w.heap.size) (i:=0) (us:=[.slice none 0 0,.slice none 0 0,.slice none 0 0,.slice none 0 0]) (.inl (Nat.le_refl _)) (Fx.of G.out)) _).drew).below (fun _ h=>h.elim)
end
section
open Go.RowKit Go.Sort
def Wj:MP->Bool
 | .ok ⟨_,_,_,[⟨_,_,[⟨_,_,b::_,_⟩],_⟩]⟩=>b.wt==1
 | _=>false
def WE(n:Nat):MP->Bool
 | .er c _=>c==n
 | _=>false
theorem Tk:Wj (Bp 9 [109,100,112,32,109,111,100,117,108,101,32,109,32,120,32,58,32,91,48,46,46,49,93,59,32,91,93,32,120,32,61,32,48,32,45,62,32,40,120,39,32,61,32,49,41,59,32,101,110,100,109,111,100,117,108,101])=true:=by decide +kernel
theorem Ur:WE 20 (Bp 9 [109,100,112,32,109,111,100,117,108,101])=true:=by decide +kernel
theorem UN{r:MP}(h:Wj r=true):∃cs fs ls nm vs act gd bs br ps p q,r= .ok ⟨cs,fs,ls,[⟨nm,vs,[⟨act,gd,⟨1,bs,br⟩::ps,p⟩],q⟩]⟩:=by
 match r,h with
 | .ok ⟨cs,fs,ls,[⟨nm,vs,[⟨act,gd,b::ps,p⟩],q⟩]⟩,h=>obtain⟨c,bs,br⟩:=b;have a:c=1:=(by simpa[Wj]using h);subst a;exact⟨cs,fs,ls,nm,vs,act,gd,bs,br,ps,p,q,rfl⟩
theorem Sp{n:Nat}{r:MP}(h:WE n r=true):∃p,r= .er n p:=by
 match r,h with
 | .er c p,h=>have a:c=n:=(by simpa[WE]using h);subst a;exact⟨p,rfl⟩
theorem AQ.first{α:Type}{w:World}{b:Nat}{t:TypeId}{sz:Nat}{P:α->List Value->Prop}{a:α}{xs:List α}{v:Value}(h:AQ w b t sz P (a::xs) v):∃g cap c,v= .slice (some ⟨g,0,none⟩) (xs.length+1) cap/\g<w.heap.size/\P a c/\∀(j:Nat) (u:Value),c[j]?=some u->w.cell? ⟨g,j,none⟩=some u:=by
 obtain⟨o,f,c,r,n,m,_⟩:=h;obtain⟨g,cap,rfl⟩:=Qo f (by simp);refine⟨g,cap,c,rfl,(f.lt g rfl).2,m,fun j u i=>?_⟩
 have k:=f.cells (g:=g) rfl j u (by
  rw[n];have d:j<c.length:=by
   rcases Nat.lt_or_ge j c.length with d | d
   · exact d
   · rw[List.getElem?_eq_none d]at i;cases i
  rw[List.getElem?_append_left d];exact i)
 have e:(⟨g,0,none⟩:Addr).add j=⟨g,j,none⟩:=(by unfold Addr.add;by_cases l:j=0<;>simp[l]);rw[e]at k;exact k
theorem FG(w:World)(hG:Dt w):Calls Tryz.prog 6 #[] w (P5 w):=by obtain⟨cs,fs,ls,nm,vs,aa,gd,bs,br,ps,p,q,y⟩:=UN Tk;obtain⟨pe,z⟩:=Sp Ur;have Q:=zz (fun(W:World) (J:Dt W)=>Fc (s:=⟨#[109,100,112,32,109,111,100,117,108,101,32,109,32,120,32,58,32,91,48,46,46,49,93,59,32,91,93,32,120,32,61,32,48,32,45,62,32,40,120,39,32,61,32,49,41,59,32,101,110,100,109,111,100,117,108,101]⟩) (D:=9) W J.s (by decide) (by decide) (by decide));rw[show(⟨#[109,100,112,32,109,111,100,117,108,101,32,109,32,120,32,58,32,91,48,46,46,49,93,59,32,91,93,32,120,32,61,32,48,32,45,62,32,40,120,39,32,61,32,49,41,59,32,101,110,100,109,111,100,117,108,101]⟩:ByteArray).data.toList=[109,100,112,32,109,111,100,117,108,101,32,109,32,120,32,58,32,91,48,46,46,49,93,59,32,91,93,32,120,32,61,32,48,32,45,62,32,40,120,39,32,61,32,49,41,59,32,101,110,100,109,111,100,117,108,101]from rfl,y]at Q;have R:=zz (fun(W:World) (J:Dt W)=>Fc (s:=⟨#[109,100,112,32,109,111,100,117,108,101]⟩) (D:=9) W J.s (by decide) (by decide) (by decide));rw[show(⟨#[109,100,112,32,109,111,100,117,108,101]⟩:ByteArray).data.toList=[109,100,112,32,109,111,100,117,108,101]from rfl,z]at R;have I:=zz hG;clear hG y z;go_enter Tryz.func6,Tryz.ntmps6;go_wp2_with fail;refine(Q.out _ I.out).mono ?_;rintro e C ⟨v,rfl,hR,l⟩;obtain⟨c,S,d4,V,t,⟨A,ca,B,cb,rfl,_,k⟩,n⟩:=hR.r4.first;obtain⟨d,T,d5,X,u,⟨x5,A5,ab,rfl,_,j⟩,o⟩:=k.first;obtain⟨f,U,d6,Y,x,⟨A6,ac,rfl,_⟩,r⟩:=j.first;have F:=n 2 _ rfl;have G:=o 6 _ rfl;have K:=r 0 _ rfl;rw[X]at F;rw[Y]at G;rw[V];have h:=zz l;clear hR l k j n o r V X Y;dsimp only[CZ.v1,CZ.v2,CZ.v3];go_wp2_with fail;refine AA (P:=fun W=>W.cell? ⟨C.heap.size,3,none⟩=some (.slice (some ⟨c,0,none⟩) 1 S)/\W.cell? ⟨c,2,none⟩=some (.slice (some ⟨d,0,none⟩) 1 T)/\W.cell? ⟨d,6,none⟩=some (.slice (some ⟨f,0,none⟩) (ps.length+1) U)/\W.cell? ⟨f,0,none⟩=some (.int .i64 1)/\C.heap.size<W.heap.size/\c<W.heap.size/\d<W.heap.size/\f<W.heap.size/\Below w.heap.size w W) ⟨by simp,by rw[World.cell?_alloc_lt _ _ ⟨c,2,none⟩ t];exact F,by rw[World.cell?_alloc_lt _ _ ⟨d,6,none⟩ u];exact G,by rw[World.cell?_alloc_lt _ _ ⟨f,0,none⟩ x];exact K,by simp,by simp;omega,by simp;omega,by simp;omega,h.out.alloc h.out.size _⟩ ?_;clear F G K t u x h;rintro W ⟨q0,q1,q2,q3,L,M,N,O,E⟩;refine(R.out W (I.out.below E)).mono ?_;rintro e g ⟨eb,rfl,Z,a⟩;have k0:g.cell? ⟨C.heap.size,3,none⟩=some (.slice (some ⟨c,0,none⟩) 1 S):=(a.cell (p:=⟨C.heap.size,3,none⟩) L).trans q0;have F:g.cell? ⟨c,2,none⟩=some (.slice (some ⟨d,0,none⟩) 1 T):=(a.cell (p:=⟨c,2,none⟩) M).trans q1;have G:g.cell? ⟨d,6,none⟩=some (.slice (some ⟨f,0,none⟩) (ps.length+1) U):=(a.cell (p:=⟨d,6,none⟩) N).trans q2;have K:g.cell? ⟨f,0,none⟩=some (.int .i64 1):=(a.cell (p:=⟨f,0,none⟩) O).trans q3;have j0:C.heap.size<g.heap.size:=Nat.lt_of_lt_of_le L a.size;have j1:c<g.heap.size:=Nat.lt_of_lt_of_le M a.size;have j2:d<g.heap.size:=Nat.lt_of_lt_of_le N a.size;have j3:f<g.heap.size:=Nat.lt_of_lt_of_le O a.size;have i:=zz (E.trans (a.mono E.size));have HA:=zz Z;clear q0 q1 q2 q3 L M N O E a Z;go_wp2_with fail;have b:=i.out.alloc i.out.size (.cells #[.slice none 0 0,.slice none 0 0,.slice none 0 0,.slice none 0 0] 26);refine(Sm eb _ _ _ (I.out.below b).s.glob (HA.out.alloc _)).mono ?_;rintro e w3 ⟨rfl,m⟩;have H:=zz (b.trans (m.mono b.size));clear m b;go_wp2;go_ret;exact⟨rfl,H.out⟩
end
end
end Go.Proofs.YtodijgndbjfbgaaGreatDoor
