import Derived.Test.YtodijgndbjfbgaaGreatDoorSk
import Derived.Deep.LoopGhost
import Derived.Test.YtodijgndbjfbgaaGreatDoorSj
import Derived.RegionTactic
import Derived.BigRegion
namespace Go.Proofs.YtodijgndbjfbgaaGreatDoor
set_option maxHeartbeats 16000000
set_option maxRecDepth 100000
section
open Go.RowKit Go.Sort
def JG:PR->Nat
 | .ok _ r=>r.length
 | .er _ _=>0
def Xx(w:World)(pb D K:Nat)(F:List AH->PR)(tot:Option Ex×St)(gk:Nat)(i:Value)(wr:World):Prop:=
 ∃(n:Nat) (v:XV) (x:Option Ex) (st:St),i= .int .i64 (n:Int)/\n+gk<=70000/\DV w wr pb D st/\EX wr (w.heap.size+2) (w.heap.size+1) v x/\
  ((n=0/\∃us,st= .good us/\tot=Aa (Ar K F) (.good us)/\gk=us.length+1)∨∃pr,(x,st)=BJ pr/\BJ (KP K F pr)=tot/\gk=JG pr/\(n=0->∃c q,pr= .er c q))
theorem EX.put{W:World}{lo b:Nat}{v v':XV}{x x':Option Ex}(h:EX W lo b v x)(hb:b<lo)(hx:∀e,x'=some e->HS W 81 (Rg lo W.heap.size) e (BM v'.o v'.nm v'.n v'.A v'.ll v'.cap v'.p)):
 EX (((((W.setCell ⟨b,0,none⟩ (.string v'.o)).setCell ⟨b,1,none⟩ (.string v'.nm)).setCell ⟨b,2,none⟩ (.int .i64 v'.n)).setCell ⟨b,3,none⟩ (.slice v'.A v'.ll v'.cap)).setCell ⟨b,4,none⟩ (.int .i64 v'.p)) lo b v' x':=
 ⟨h.bx.set5 _ _ _ _ _,fun e a=>((hx e a).far5S (b:=b) (by unfold Rg;omega) _ _ _ _ _).wide (fun j _ c=>by simpa using c)⟩
theorem DV.box5{w W:World}{pb D:Nat}{st:St}(m:DV w W pb D st){b:Nat}{c0 c1 c2 c3 c4:Value}(hb:Az W b c0 c1 c2 c3 c4)(h1:w.heap.size<b)(x0 x1 x2 x3 x4:Value):DV w (((((W.setCell ⟨b,0,none⟩ x0).setCell ⟨b,1,none⟩ x1).setCell ⟨b,2,none⟩ x2).setCell ⟨b,3,none⟩ x3).setCell ⟨b,4,none⟩ x4) pb D st:=
 ⟨m.f.boxR (by omega) _ _ _ _ _,m.d.set5 hb (by decide) (by decide) _ _ _ _ _,((((m.z.far (p:=⟨b,0,none⟩) (by show w.heap.size≠b;omega) _).far (p:=⟨b,1,none⟩) (by show w.heap.size≠b;omega) _).far (p:=⟨b,2,none⟩) (by show w.heap.size≠b;omega) _).far (p:=⟨b,3,none⟩) (by show w.heap.size≠b;omega) _).far (p:=⟨b,4,none⟩) (by show w.heap.size≠b;omega) _,m.l⟩
theorem TH{W:World}{lo g:Nat}{va vb:XV}{a b:Ex}(ha:HS W 81 (Rg lo W.heap.size) a (BM va.o va.nm va.n va.A va.ll va.cap va.p))(hb:HS W 81 (Rg lo W.heap.size) b (BM vb.o vb.nm vb.n vb.A vb.ll vb.cap vb.p))(hg:g=W.heap.size)(hlo:lo<=g)(op:List UInt8){p:Nat}{z:Int}(hz:z=(p:Int)):
 HS (W.alloc (.cells #[.string va.o,.string va.nm,.int .i64 va.n,.slice va.A va.ll va.cap,.int .i64 va.p,.string vb.o,.string vb.nm,.int .i64 vb.n,.slice vb.A vb.ll vb.cap,.int .i64 vb.p] 81)) 81 (Rg lo (W.alloc (.cells #[.string va.o,.string va.nm,.int .i64 va.n,.slice va.A va.ll va.cap,.int .i64 va.p,.string vb.o,.string vb.nm,.int .i64 vb.n,.slice vb.A vb.ll vb.cap,.int .i64 vb.p] 81)).heap.size) (.bin op a b p) (BM ⟨op.toArray⟩ ⟨#[]⟩ 0 (some ⟨g,0,none⟩) 2 2 z):=by
 have h:=IZ (W:=W) (xs:=BM va.o va.nm va.n va.A va.ll va.cap va.p++(BM vb.o vb.nm vb.n vb.A vb.ll vb.cap vb.p)) hg hlo;subst hg hz;exact⟨W.heap.size,2,_,_,rfl,h,(ha.alloc _).mono (Nat.le_refl _) (by simp),(hb.alloc _).mono (Nat.le_refl _) (by simp)⟩
theorem Rx(w:World):Calls Tryz.prog 129 #[.int .i64 0] w fun e w'=>e= .returned (.slice (some ⟨w.heap.size,0,none⟩) 1 1)/\w'=w.alloc (.cells #[.string ⟨#[124]⟩] 9):=by go_enter Tryz.func129,Tryz.ntmps129;go_wp2;go_ret;exact⟨rfl,rfl⟩
theorem Wh(s:ByteArray)(w:World):Calls Tryz.prog 114 #[.string s,.slice (some ⟨w.heap.size,0,none⟩) 1 1] (w.alloc (.cells #[.string ⟨#[124]⟩] 9)) (VR (decide (s.data.toList∈Jf 2)) (w.alloc (.cells #[.string ⟨#[124]⟩] 9))):=
 FX s (Jf 2) w.heap.size 1 _ (heap_alloc_new w _) (by decide)
theorem Sf(w:World):Calls Tryz.prog 129 #[.int .i64 1] w fun e w'=>e= .returned (.slice (some ⟨w.heap.size,0,none⟩) 1 1)/\w'=w.alloc (.cells #[.string ⟨#[38]⟩] 9):=by go_enter Tryz.func129,Tryz.ntmps129;go_wp2;go_ret;exact⟨rfl,rfl⟩
theorem WH(s:ByteArray)(w:World):Calls Tryz.prog 114 #[.string s,.slice (some ⟨w.heap.size,0,none⟩) 1 1] (w.alloc (.cells #[.string ⟨#[38]⟩] 9)) (VR (decide (s.data.toList∈Jf 3)) (w.alloc (.cells #[.string ⟨#[38]⟩] 9))):=
 FX s (Jf 3) w.heap.size 1 _ (heap_alloc_new w _) (by decide)
theorem Ql(w:World):Calls Tryz.prog 129 #[.int .i64 2] w fun e w'=>e= .returned (.slice (some ⟨w.heap.size,0,none⟩) 2 2)/\w'=w.alloc (.cells #[.string ⟨#[43]⟩,.string ⟨#[45]⟩] 9):=by go_enter Tryz.func129,Tryz.ntmps129;go_wp2;go_ret;exact⟨rfl,rfl⟩
theorem V0(s:ByteArray)(w:World):Calls Tryz.prog 114 #[.string s,.slice (some ⟨w.heap.size,0,none⟩) 2 2] (w.alloc (.cells #[.string ⟨#[43]⟩,.string ⟨#[45]⟩] 9)) (VR (decide (s.data.toList∈Jf 6)) (w.alloc (.cells #[.string ⟨#[43]⟩,.string ⟨#[45]⟩] 9))):=
 FX s (Jf 6) w.heap.size 2 _ (heap_alloc_new w _) (by decide)
theorem Qw(w:World):Calls Tryz.prog 129 #[.int .i64 3] w fun e w'=>e= .returned (.slice (some ⟨w.heap.size,0,none⟩) 1 1)/\w'=w.alloc (.cells #[.string ⟨#[42]⟩] 9):=by go_enter Tryz.func129,Tryz.ntmps129;go_wp2;go_ret;exact⟨rfl,rfl⟩
theorem Va(s:ByteArray)(w:World):Calls Tryz.prog 114 #[.string s,.slice (some ⟨w.heap.size,0,none⟩) 1 1] (w.alloc (.cells #[.string ⟨#[42]⟩] 9)) (VR (decide (s.data.toList∈Jf 7)) (w.alloc (.cells #[.string ⟨#[42]⟩] 9))):=
 FX s (Jf 7) w.heap.size 1 _ (heap_alloc_new w _) (by decide)
theorem GB{D lev KK RK nn:Nat}{cl:List Value}{F:List AH->PR}(hk:KK=0/\MG 1 F D lev∨KK=1/\Jh 130 F D lev∨KK=2/\MG 3 F D lev∨KK=3/\Jh 131 F D lev)(hr9:RK<9)(hsg:∀w:World,Calls Tryz.prog 129 #[.int .i64 (KK:Int)] w fun e w'=>e= .returned (.slice (some ⟨w.heap.size,0,none⟩) nn nn)/\w'=w.alloc (.cells cl.toArray 9))(hin:∀(s:ByteArray) (w:World),Calls Tryz.prog 114 #[.string s,.slice (some ⟨w.heap.size,0,none⟩) nn nn] (w.alloc (.cells cl.toArray 9)) (VR (decide (s.data.toList∈Jf RK)) (w.alloc (.cells cl.toArray 9))))(hS:De F):MG KK (Ar RK F) D lev:=by
 rcases hk with⟨rfl,hF⟩ | ⟨rfl,hF⟩ | ⟨rfl,hF⟩ | ⟨rfl,hF⟩<;>(
  intro w M st y z hy hz h;subst hy;have hm:=DV.start h;have hl:=h.lt;have ak:EX ((w.alloc (.cells #[.string ⟨#[]⟩,.string ⟨#[]⟩,.int .i64 0,.slice none 0 0,.int .i64 0] 81)).alloc (.cells #[.string ⟨#[]⟩,.string ⟨#[]⟩,.int .i64 0,.slice none 0 0,.int .i64 0] 81)) (w.heap.size+2) (w.heap.size+1) ⟨⟨#[]⟩,⟨#[]⟩,0,none,0,0,0⟩ none:=⟨Bz (by simp) _,fun e he=>by cases he⟩;obtain⟨N,u⟩:∃N,N=Aa (Ar RK F) st:=⟨_,rfl⟩;rw[<- u];have ad:∃gk,gk<=65540/\Xx w M D RK F N gk (.int .i64 0) ((w.alloc (.cells #[.string ⟨#[]⟩,.string ⟨#[]⟩,.int .i64 0,.slice none 0 0,.int .i64 0] 81)).alloc (.cells #[.string ⟨#[]⟩,.string ⟨#[]⟩,.int .i64 0,.slice none 0 0,.int .i64 0] 81)):=by
   cases st with
   | good R=>have a9:R.length<=65537:=(by obtain⟨ts,k,g,a3,q1,q2,q3,_⟩:=DR.blk h;rw[q1,List.length_drop];omega);exact⟨R.length+1,by omega,0,_,_,_,rfl,by omega,hm.alloc _,ak,.inl ⟨rfl,R,rfl,u,rfl⟩⟩
   | bad c q=>exact⟨0,by omega,0,_,none,_,rfl,by omega,hm.alloc _,ak,.inr ⟨.er c q,rfl,u.symm,rfl,fun _=>⟨c,q,rfl⟩⟩⟩
  obtain⟨aL,aC,ad⟩:=ad;have aw:=zz ad;have HF:=zz hF;have HZ:=zz hz;have Z:=zz hS;have HG:=zz hsg;have HI:=zz hin;have aI:=zz hr9;have HL:=zz hl;have a5:=Nt;have a4:=KV;clear h hm ak u ad hF hz hS hl aC hsg hin hr9;go_enter Tryz.func113,Tryz.ntmps113;go_wp2;go_loopg [8] aL (fun gk i wr=>Xx w M D RK F N gk i wr);(case atStart=>exact aw.out);case round=>
   clear aw;obtain⟨n,v,x,bd,rfl,hn,J,T,an⟩:=hrel;have ba:=J.l;have aB:=T.bx.lt;rcases an with⟨rfl,R,rfl,u,Y⟩ | ⟨pr,ac,u,Y,aq⟩
   · have ax:=zz u;have X:=zz Y;obtain⟨x2,x3,_⟩:=J.cells;replace x3:wr.cell? ⟨M,3,none⟩=some (.int .i64 ((0:Nat):Int)):=x3;have aD:=J.d.lt;have Q:=zz (J.alloc (.cells #[.string ⟨#[]⟩,.string ⟨#[]⟩,.int .i64 0,.slice none 0 0,.int .i64 0] 81));have E1:=zz (T.alloc (.cells #[.string ⟨#[]⟩,.string ⟨#[]⟩,.int .i64 0,.slice none 0 0,.int .i64 0] 81));have B1:=zz (Az.new wr (.string ⟨#[]⟩) (.string ⟨#[]⟩) (.int .i64 0) (.slice none 0 0) (.int .i64 0));clear J T u Y;go_wp2_with fail;refine AA (P:=fun W=>DV w W M D (.good R)/\EX W (w.heap.size+2) (w.heap.size+1) v x/\Az W wr.heap.size (.string ⟨#[]⟩) (.string ⟨#[]⟩) (.int .i64 0) (.slice none 0 0) (.int .i64 0)) ⟨Q.out,E1.out,B1.out⟩ ?_;rintro W ⟨J,T,hB⟩;first
     | refine(HF.out W M (.good R) z HZ.out J.d).mono ?_
     | refine(HF.out W M (.good R) _ z rfl HZ.out J.d).mono ?_
     rintro e w3 ⟨H,m,G,C,f,a,I,rfl,E,hD,O⟩;have bb:=E.size;have az:=hB.lt;have ab:w.heap.size+1≠M:=(by omega);have ar:wr.heap.size≠M:=(by omega);have M2:=zz (J.step E hD);have V:=zz (T.fr E ab (by omega));have B2:=zz (hB.fr E ar);have HX:=zz O;have aE:wr.heap.size≠w.heap.size+1:=(by omega);have B:w.heap.size+1≠wr.heap.size:=(by omega);have a2:wr.heap.size<W.heap.size:=az;clear J T hB E hD O Q E1 B1 x2 x3;obtain⟨e0,e1,e2,e3,e4⟩:=V.out.bx.cells;have y0:=V.out.bx.frozen 0;have y1:=V.out.bx.frozen 1;have y2:=V.out.bx.frozen 2;have y3:=V.out.bx.frozen 3;have y4:=V.out.bx.frozen 4;have ao:=V.out.bx.lt;obtain⟨q0,q1,q2,q3,q4⟩:=B2.out.cells;have t0:=B2.out.frozen 0;have t1:=B2.out.frozen 1;have t2:=B2.out.frozen 2;have t3:=B2.out.frozen 3;have t4:=B2.out.frozen 4;have aZ:=B2.out.lt
     have ah:Hid (Xx w M D RK F N (JG (F R)) (.int .i64 ((0:Int)+1)) ((((((((((w3.setCell ⟨wr.heap.size,0,none⟩ (.string H)).setCell ⟨wr.heap.size,1,none⟩ (.string m)).setCell ⟨wr.heap.size,2,none⟩ (.int .i64 G)).setCell ⟨wr.heap.size,3,none⟩ (.slice C f a)).setCell ⟨wr.heap.size,4,none⟩ (.int .i64 I)).setCell ⟨w.heap.size+1,0,none⟩ (.string H)).setCell ⟨w.heap.size+1,1,none⟩ (.string m)).setCell ⟨w.heap.size+1,2,none⟩ (.int .i64 G)).setCell ⟨w.heap.size+1,3,none⟩ (.slice C f a)).setCell ⟨w.heap.size+1,4,none⟩ (.int .i64 I))):=zz (by
      have aN:=M2.out.box5 B2.out (by omega) (.string H) (.string m) (.int .i64 G) (.slice C f a) (.int .i64 I);have aR:=V.out.bx;have a0:∀e,(Aa F (.good R)).1=some e->HS (((((w3.setCell ⟨wr.heap.size,0,none⟩ (.string H)).setCell ⟨wr.heap.size,1,none⟩ (.string m)).setCell ⟨wr.heap.size,2,none⟩ (.int .i64 G)).setCell ⟨wr.heap.size,3,none⟩ (.slice C f a)).setCell ⟨wr.heap.size,4,none⟩ (.int .i64 I)) 81 (Rg (w.heap.size+2) (((((w3.setCell ⟨wr.heap.size,0,none⟩ (.string H)).setCell ⟨wr.heap.size,1,none⟩ (.string m)).setCell ⟨wr.heap.size,2,none⟩ (.int .i64 G)).setCell ⟨wr.heap.size,3,none⟩ (.slice C f a)).setCell ⟨wr.heap.size,4,none⟩ (.int .i64 I)).heap.size) e (BM H m G C f a I):=fun e he=>
       ((HX.out e he).far5S (b:=wr.heap.size) (by unfold Rg;omega) _ _ _ _ _).wide (fun j _ hj=>by unfold Rg at*;simp;omega)
      have U:EX (((((w3.setCell ⟨wr.heap.size,0,none⟩ (.string H)).setCell ⟨wr.heap.size,1,none⟩ (.string m)).setCell ⟨wr.heap.size,2,none⟩ (.int .i64 G)).setCell ⟨wr.heap.size,3,none⟩ (.slice C f a)).setCell ⟨wr.heap.size,4,none⟩ (.int .i64 I)) (w.heap.size+2) (w.heap.size+1) v none:=⟨((((aR.far (p:=⟨wr.heap.size,0,none⟩) B _).far (p:=⟨wr.heap.size,1,none⟩) B _).far (p:=⟨wr.heap.size,2,none⟩) B _).far (p:=⟨wr.heap.size,3,none⟩) B _).far (p:=⟨wr.heap.size,4,none⟩) B _,fun e he=>by cases he⟩;have a7:=X.out;refine⟨1,⟨H,m,G,C,f,a,I⟩,_,_,by simp,?_,aN.box5 U.bx (by omega) _ _ _ _ _,U.put (v':=⟨H,m,G,C,f,a,I⟩) (by omega) a0,.inr ⟨F R,rfl,ax.out.symm,rfl,fun h=>absurd h (by omega)⟩⟩;cases ap:F R with
      | er c q=>simp only[JG];omega
      | ok e' r'=>have:=(Z.out R e' r' ap).1;simp only[JG];omega)
     have aH:=zz (show JG (F R)<gk by
      have:=X.out;cases ap:F R with
      | er c q=>simp only[JG];omega
      | ok e' r'=>have:=(Z.out R e' r' ap).1;simp only[JG];omega)
     go_wp2;go_roundg (JG (F R));(case measure=>exact aH.out);case rel=>exact ah.out
   · cases pr with
     | er c q=>obtain⟨rfl,rfl⟩:=Prod.mk.inj ac;have HT:=zz (show N=(none,.bad c q)from u.symm);have aQ:c≠0:=J.d.1;have g1:((c:Int)==0)=false:=(by rw[beq_eq_false_iff_ne];omega);obtain⟨x2,x3,_⟩:=J.cells;replace x3:wr.cell? ⟨M,3,none⟩=some (.int .i64 (c:Int)):=x3;have aD:=J.d.lt;have Q:=zz J;obtain⟨b0,b1,b2,b3,b4⟩:=Q.out.z.cells;have z0:=Q.out.z.frozen 0;have z1:=Q.out.z.frozen 1;have z2:=Q.out.z.frozen 2;have z3:=Q.out.z.frozen 3;have z4:=Q.out.z.frozen 4;have ay:=Q.out.z.lt;obtain⟨e0,e1,e2,e3,e4⟩:=T.bx.cells;clear J T ac u aq aQ;go_wp2;obtain⟨d0,d1,d2,d3,d4⟩:=(Q.out.zcells (.string v.o) (.string v.nm) (.int .i64 v.n) (.slice v.A v.ll v.cap) (.int .i64 v.p)).cells;rw[HT.out];refine bodyPost_ret (v:=.agg #[.string v.o,.string v.nm,.int .i64 v.n,.slice v.A v.ll v.cap,.int .i64 v.p]) (by simp[results,Tryz.results113,go_sem,d0,d1,d2,d3,d4]) rfl ?_;exact Q.out.done (res:=(none,.bad c q)) rfl (fun x O=>by cases O)
     | ok e r=>
       obtain⟨rfl,rfl⟩:=Prod.mk.inj ac;have aY:0<n:=by
        rcases Nat.eq_zero_or_pos n with h | h
        · obtain⟨c,q,h⟩:=aq h;cases h
        · exact h
       have HT:=zz u;have X:=zz (show gk=r.length from Y);have g1:decide ((0:Int)<(n:Int))=true:=(by simp;omega);have g2:decide (0<n)=true:=(by simpa using aY);have g3:((n:Int)==0)=false:=(by rw[beq_eq_false_iff_ne];omega);have a':n<=70000:=(by omega);obtain⟨x2,x3,_⟩:=J.cells;replace x3:wr.cell? ⟨M,3,none⟩=some (.int .i64 ((0:Nat):Int)):=x3;have aD:=J.d.lt;have Q:=zz J;have E1:=zz T;clear J T ac u aq Y;go_wp2_with fail;refine(BS Q.out.d).mono ?_;rintro e2 w2 ⟨rfl,al⟩;have M2:=zz (Q.out.below al);have V:=zz (E1.out.below al);clear al Q E1 x2 x3;have aU:=M2.out.d.lt;go_wp2_with fail;refine(BS M2.out.d).mono ?_;rintro e3 w3 ⟨rfl,am⟩;have K:=zz (M2.out.below am);have E3:=zz (V.out.below am);clear am M2 V aU;have aV:=K.out.d.lt;obtain⟨S,ae⟩:∃S:ByteArray,S=⟨(hd r).text.toArray⟩:=⟨_,rfl⟩;have aJ:=zz (show S.data.toList=(hd r).text by rw[ae]);have aK:=zz ae;rw[<- ae];clear ae;by_cases h4:(hd r).kind=4
       · have g4:(((hd r).kind:Int) != 4)=false:=(by simp[h4]);have ai:=zz (VE (t:=hd r) (k:=RK) aI.out h4);have H5:=zz (HI.out S w3);rw[aJ.out,<- ai.out]at H5;have HK:=zz (show(hd r).kind≠0 by omega);clear h4;cases hs:sg RK (hd r)with
         | false=>
           rw[hs]at H5;have aj:=zz (show N=(some e,.good r) by rw[<- HT.out,KP,Gb hs];rfl);obtain⟨e0,e1,e2,e3,e4⟩:=E3.out.bx.cells;have ao:=E3.out.bx.lt;obtain⟨b0,b1,b2,b3,b4⟩:=K.out.z.cells;have z0:=K.out.z.frozen 0;have z1:=K.out.z.frozen 1;have z2:=K.out.z.frozen 2;have z3:=K.out.z.frozen 3;have z4:=K.out.z.frozen 4;have ay:=K.out.z.lt;clear hs ai;go_wp2_with fail;refine(HG.out w3).mono ?_;rintro e4 w4 ⟨rfl,rfl⟩;go_wp2_with fail;refine(H5.out).mono ?_;rintro e5 w5 ⟨rfl,rfl⟩;go_wp2;obtain⟨d0,d1,d2,d3,d4⟩:=(K.out.ucells (x0:=.string v.o) (x1:=.string v.nm) (x2:=.int .i64 v.n) (x3:=.slice v.A v.ll v.cap) (x4:=.int .i64 v.p) ((Below.refl _ _).alloc (by simp) (.cells cl.toArray 9))).cells;rw[aj.out];refine bodyPost_ret (v:=.agg #[.string v.o,.string v.nm,.int .i64 v.n,.slice v.A v.ll v.cap,.int .i64 v.p]) (by simp[results,Tryz.results113,go_sem,d0,d1,d2,d3,d4]) rfl ?_;refine K.out.fin (res:=(some e,.good r)) rfl ((Below.refl _ _).alloc (by simp) _) (fun x O=>?_);injection O with O
           subst O;exact(((E3.out.far5 (bz:=w.heap.size) (by omega) (by omega) (.string v.o) (.string v.nm) (.int .i64 v.n) (.slice v.A v.ll v.cap) (.int .i64 v.p)).alloc _).hs e rfl).mono (by omega) (Nat.le_refl _)
         | true=>
           rw[hs]at H5;have ag:=zz hs
           have af:=zz (show JG (DX (hd r).text e (F r.tail))<r.length by
            have hr:=Fine.ne (DR.fine K.out.d);have hp:=List.length_pos_iff.2 hr;cases aa:F r.tail with
            | er c q=>exact hp
            | ok y' r2=>exact(JD (k:=RK) (e:=e) Z.out hs aa).2)
           clear hs ai;go_wp2_with fail;refine(HG.out w3).mono ?_;rintro e4 w4 ⟨rfl,rfl⟩;go_wp2_with fail;refine(H5.out).mono ?_;rintro e5 w5 ⟨rfl,rfl⟩;have M4:=zz (K.out.alloc (.cells cl.toArray 9));have E4:=zz (E3.out.alloc (.cells cl.toArray 9));generalize w3.alloc (.cells cl.toArray 9)=W5 at M4 E4 ⊢;clear K E3 H5 aV aB;have ao:=E4.out.bx.lt;obtain⟨k,aT,a8,hT⟩:=M4.out.tail HK.out;have fk:=M4.out.cells.2.2 1;have aW:=M4.out.d.lt;have ab:w.heap.size+1≠M:=(by omega);have M5:=zz (hT.alloc (.cells #[.string ⟨#[]⟩,.string ⟨#[]⟩,.int .i64 0,.slice none 0 0,.int .i64 0] 81));have U:=(E4.out.setCell (p:=⟨M,1,none⟩) ab (by show M<_;omega) (.int .i64 ((k:Int)+1)));have av:=zz (show HS ((W5.setCell ⟨M,1,none⟩ (.int .i64 ((k:Int)+1))).alloc (.cells #[.string ⟨#[]⟩,.string ⟨#[]⟩,.int .i64 0,.slice none 0 0,.int .i64 0] 81)) 81 (Rg (w.heap.size+2) W5.heap.size) e (BM v.o v.nm v.n v.A v.ll v.cap v.p)from((U.hs e rfl).alloc _).wide (fun j _ hj=>by simpa using hj));have E5:=zz (U.alloc (.cells #[.string ⟨#[]⟩,.string ⟨#[]⟩,.int .i64 0,.slice none 0 0,.int .i64 0] 81)).bx;have B5:=zz (show Az ((W5.setCell ⟨M,1,none⟩ (.int .i64 ((k:Int)+1))).alloc (.cells #[.string ⟨#[]⟩,.string ⟨#[]⟩,.int .i64 0,.slice none 0 0,.int .i64 0] 81)) W5.heap.size (.string ⟨#[]⟩) (.string ⟨#[]⟩) (.int .i64 0) (.slice none 0 0) (.int .i64 0)from Bz (by simp) _);have aG:=zz (Kr E4.out);clear hT U M4 E4;go_wp2_with fail;refine AA (P:=fun W=>DV w W M D (.good r.tail)/\Az W (w.heap.size+1) (.string v.o) (.string v.nm) (.int .i64 v.n) (.slice v.A v.ll v.cap) (.int .i64 v.p)/\Az W W5.heap.size (.string ⟨#[]⟩) (.string ⟨#[]⟩) (.int .i64 0) (.slice none 0 0) (.int .i64 0)/\HS W 81 (Rg (w.heap.size+2) W5.heap.size) e (BM v.o v.nm v.n v.A v.ll v.cap v.p)) ⟨M5.out,E5.out,B5.out,av.out⟩ ?_;rintro W ⟨J,T,hB,hA⟩;first
           | refine(HF.out W M (.good r.tail) z HZ.out J.d).mono ?_
           | refine(HF.out W M (.good r.tail) _ z rfl HZ.out J.d).mono ?_
           rintro e6 L ⟨H,m,G,C,f,a,I,rfl,E,hD,O⟩;have bc:=E.size;have az:=hB.lt;have ar:W5.heap.size≠M:=(by omega);have M6:=zz (J.step E hD);have E6:=zz (T.fr E ab);have B6:=zz (hB.fr E ar);have aF:=zz (hA.frS E (by unfold Rg;omega));have HX:=zz O;have aE:W5.heap.size≠w.heap.size+1:=(by omega);have B:w.heap.size+1≠W5.heap.size:=(by omega);clear J T hB hA E hD O M5 E5 B5 av aT fk aW;obtain⟨e0,e1,e2,e3,e4⟩:=E6.out.cells;have y0:=E6.out.frozen 0;have y1:=E6.out.frozen 1;have y2:=E6.out.frozen 2;have y3:=E6.out.frozen 3;have y4:=E6.out.frozen 4;have a1:=E6.out.lt;obtain⟨q0,q1,q2,q3,q4⟩:=B6.out.cells;have t0:=B6.out.frozen 0;have t1:=B6.out.frozen 1;have t2:=B6.out.frozen 2;have t3:=B6.out.frozen 3;have t4:=B6.out.frozen 4;have aZ:=B6.out.lt
           have ah:Hid (Xx w M D RK F N (JG (DX (hd r).text e (F r.tail))) (.int .i64 ((n:Int)+1)) (((((((((((L.setCell ⟨W5.heap.size,0,none⟩ (.string H)).setCell ⟨W5.heap.size,1,none⟩ (.string m)).setCell ⟨W5.heap.size,2,none⟩ (.int .i64 G)).setCell ⟨W5.heap.size,3,none⟩ (.slice C f a)).setCell ⟨W5.heap.size,4,none⟩ (.int .i64 I)).setCell ⟨w.heap.size+1,0,none⟩ (.string S)).setCell ⟨w.heap.size+1,1,none⟩ (.string ⟨#[]⟩)).setCell ⟨w.heap.size+1,2,none⟩ (.int .i64 0)).setCell ⟨w.heap.size+1,3,none⟩ (.slice (some ⟨L.heap.size,0,none⟩) 2 2)).setCell ⟨w.heap.size+1,4,none⟩ (.int .i64 v.p)).alloc (.cells #[.string v.o,.string v.nm,.int .i64 v.n,.slice v.A v.ll v.cap,.int .i64 v.p,.string H,.string m,.int .i64 G,.slice C f a,.int .i64 I] 81))):=zz (by
            have aO:=M6.out.box5 B6.out (by omega) (.string H) (.string m) (.int .i64 G) (.slice C f a) (.int .i64 I);have aA:Az (((((L.setCell ⟨W5.heap.size,0,none⟩ (.string H)).setCell ⟨W5.heap.size,1,none⟩ (.string m)).setCell ⟨W5.heap.size,2,none⟩ (.int .i64 G)).setCell ⟨W5.heap.size,3,none⟩ (.slice C f a)).setCell ⟨W5.heap.size,4,none⟩ (.int .i64 I)) (w.heap.size+1) (.string v.o) (.string v.nm) (.int .i64 v.n) (.slice v.A v.ll v.cap) (.int .i64 v.p):=((((E6.out.far (p:=⟨W5.heap.size,0,none⟩) B _).far (p:=⟨W5.heap.size,1,none⟩) B _).far (p:=⟨W5.heap.size,2,none⟩) B _).far (p:=⟨W5.heap.size,3,none⟩) B _).far (p:=⟨W5.heap.size,4,none⟩) B _;have aX:=(aO.box5 aA (by omega) (.string S) (.string ⟨#[]⟩) (.int .i64 0) (.slice (some ⟨L.heap.size,0,none⟩) 2 2) (.int .i64 v.p)).alloc (.cells #[.string v.o,.string v.nm,.int .i64 v.n,.slice v.A v.ll v.cap,.int .i64 v.p,.string H,.string m,.int .i64 G,.slice C f a,.int .i64 I] 81);have aS:Az (((((((((((L.setCell ⟨W5.heap.size,0,none⟩ (.string H)).setCell ⟨W5.heap.size,1,none⟩ (.string m)).setCell ⟨W5.heap.size,2,none⟩ (.int .i64 G)).setCell ⟨W5.heap.size,3,none⟩ (.slice C f a)).setCell ⟨W5.heap.size,4,none⟩ (.int .i64 I)).setCell ⟨w.heap.size+1,0,none⟩ (.string S)).setCell ⟨w.heap.size+1,1,none⟩ (.string ⟨#[]⟩)).setCell ⟨w.heap.size+1,2,none⟩ (.int .i64 0)).setCell ⟨w.heap.size+1,3,none⟩ (.slice (some ⟨L.heap.size,0,none⟩) 2 2)).setCell ⟨w.heap.size+1,4,none⟩ (.int .i64 v.p)).alloc (.cells #[.string v.o,.string v.nm,.int .i64 v.n,.slice v.A v.ll v.cap,.int .i64 v.p,.string H,.string m,.int .i64 G,.slice C f a,.int .i64 I] 81)) (w.heap.size+1) (.string S) (.string ⟨#[]⟩) (.int .i64 0) (.slice (some ⟨L.heap.size,0,none⟩) 2 2) (.int .i64 v.p):=(aA.set5 _ _ _ _ _).alloc _;have au:((((((((((L.setCell ⟨W5.heap.size,0,none⟩ (.string H)).setCell ⟨W5.heap.size,1,none⟩ (.string m)).setCell ⟨W5.heap.size,2,none⟩ (.int .i64 G)).setCell ⟨W5.heap.size,3,none⟩ (.slice C f a)).setCell ⟨W5.heap.size,4,none⟩ (.int .i64 I)).setCell ⟨w.heap.size+1,0,none⟩ (.string S)).setCell ⟨w.heap.size+1,1,none⟩ (.string ⟨#[]⟩)).setCell ⟨w.heap.size+1,2,none⟩ (.int .i64 0)).setCell ⟨w.heap.size+1,3,none⟩ (.slice (some ⟨L.heap.size,0,none⟩) 2 2)).setCell ⟨w.heap.size+1,4,none⟩ (.int .i64 v.p)).heap.size=L.heap.size:=(by simp);have aM:HS ((((((((((L.setCell ⟨W5.heap.size,0,none⟩ (.string H)).setCell ⟨W5.heap.size,1,none⟩ (.string m)).setCell ⟨W5.heap.size,2,none⟩ (.int .i64 G)).setCell ⟨W5.heap.size,3,none⟩ (.slice C f a)).setCell ⟨W5.heap.size,4,none⟩ (.int .i64 I)).setCell ⟨w.heap.size+1,0,none⟩ (.string S)).setCell ⟨w.heap.size+1,1,none⟩ (.string ⟨#[]⟩)).setCell ⟨w.heap.size+1,2,none⟩ (.int .i64 0)).setCell ⟨w.heap.size+1,3,none⟩ (.slice (some ⟨L.heap.size,0,none⟩) 2 2)).setCell ⟨w.heap.size+1,4,none⟩ (.int .i64 v.p)) 81 (Rg (w.heap.size+2) ((((((((((L.setCell ⟨W5.heap.size,0,none⟩ (.string H)).setCell ⟨W5.heap.size,1,none⟩ (.string m)).setCell ⟨W5.heap.size,2,none⟩ (.int .i64 G)).setCell ⟨W5.heap.size,3,none⟩ (.slice C f a)).setCell ⟨W5.heap.size,4,none⟩ (.int .i64 I)).setCell ⟨w.heap.size+1,0,none⟩ (.string S)).setCell ⟨w.heap.size+1,1,none⟩ (.string ⟨#[]⟩)).setCell ⟨w.heap.size+1,2,none⟩ (.int .i64 0)).setCell ⟨w.heap.size+1,3,none⟩ (.slice (some ⟨L.heap.size,0,none⟩) 2 2)).setCell ⟨w.heap.size+1,4,none⟩ (.int .i64 v.p)).heap.size) e (BM v.o v.nm v.n v.A v.ll v.cap v.p):=
             ((aF.out.far5S (b:=W5.heap.size) (by unfold Rg;omega) _ _ _ _ _).far5S (b:=w.heap.size+1) (by unfold Rg;omega) _ _ _ _ _).wide (fun j _ hj=>by rw[au];unfold Rg at*;omega)
            have a6:=X.out;refine⟨n+1,⟨S,⟨#[]⟩,0,some ⟨L.heap.size,0,none⟩,2,2,v.p⟩,_,_,by go_num,?_,aX,⟨aS,fun x O=>?_⟩,.inr ⟨DX (hd r).text e (F r.tail),He.symm,?_,rfl,fun h=>absurd h (by omega)⟩⟩
            · have:=af.out;omega
            · obtain⟨b,hb,rfl⟩:=Option.map_eq_some_iff.1 O;have aP:HS ((((((((((L.setCell ⟨W5.heap.size,0,none⟩ (.string H)).setCell ⟨W5.heap.size,1,none⟩ (.string m)).setCell ⟨W5.heap.size,2,none⟩ (.int .i64 G)).setCell ⟨W5.heap.size,3,none⟩ (.slice C f a)).setCell ⟨W5.heap.size,4,none⟩ (.int .i64 I)).setCell ⟨w.heap.size+1,0,none⟩ (.string S)).setCell ⟨w.heap.size+1,1,none⟩ (.string ⟨#[]⟩)).setCell ⟨w.heap.size+1,2,none⟩ (.int .i64 0)).setCell ⟨w.heap.size+1,3,none⟩ (.slice (some ⟨L.heap.size,0,none⟩) 2 2)).setCell ⟨w.heap.size+1,4,none⟩ (.int .i64 v.p)) 81 (Rg (w.heap.size+2) ((((((((((L.setCell ⟨W5.heap.size,0,none⟩ (.string H)).setCell ⟨W5.heap.size,1,none⟩ (.string m)).setCell ⟨W5.heap.size,2,none⟩ (.int .i64 G)).setCell ⟨W5.heap.size,3,none⟩ (.slice C f a)).setCell ⟨W5.heap.size,4,none⟩ (.int .i64 I)).setCell ⟨w.heap.size+1,0,none⟩ (.string S)).setCell ⟨w.heap.size+1,1,none⟩ (.string ⟨#[]⟩)).setCell ⟨w.heap.size+1,2,none⟩ (.int .i64 0)).setCell ⟨w.heap.size+1,3,none⟩ (.slice (some ⟨L.heap.size,0,none⟩) 2 2)).setCell ⟨w.heap.size+1,4,none⟩ (.int .i64 v.p)).heap.size) b (BM H m G C f a I):=
               (((HX.out b hb).far5S (b:=W5.heap.size) (by unfold Rg;omega) _ _ _ _ _).far5S (b:=w.heap.size+1) (by unfold Rg;omega) _ _ _ _ _).wide (fun j _ hj=>by rw[au];unfold Rg at*;omega)
              have:=TH (W:=((((((((((L.setCell ⟨W5.heap.size,0,none⟩ (.string H)).setCell ⟨W5.heap.size,1,none⟩ (.string m)).setCell ⟨W5.heap.size,2,none⟩ (.int .i64 G)).setCell ⟨W5.heap.size,3,none⟩ (.slice C f a)).setCell ⟨W5.heap.size,4,none⟩ (.int .i64 I)).setCell ⟨w.heap.size+1,0,none⟩ (.string S)).setCell ⟨w.heap.size+1,1,none⟩ (.string ⟨#[]⟩)).setCell ⟨w.heap.size+1,2,none⟩ (.int .i64 0)).setCell ⟨w.heap.size+1,3,none⟩ (.slice (some ⟨L.heap.size,0,none⟩) 2 2)).setCell ⟨w.heap.size+1,4,none⟩ (.int .i64 v.p))) (va:=v) (vb:=⟨H,m,G,C,f,a,I⟩) (g:=L.heap.size) aM aP au.symm (by omega) (hd r).text aG.out;rw[<- aK.out]at this;exact this
            · rw[<- HT.out];show _=BJ (BZ RK F r.length e r);cases aa:F r.tail with
              | er c q=>rw[LL ag.out aa];rfl
              | ok y' r2=>rw[(JD (k:=RK) (e:=e) Z.out ag.out aa).1];rfl)
           go_wp2;go_roundg (JG (DX (hd r).text e (F r.tail)));(case measure=>rw[X.out];exact af.out);case rel=>exact ah.out
       · have g4:(((hd r).kind:Int) != 4)=true:=(by rw[bne_iff_ne];omega);have aj:=zz (show N=(some e,.good r) by rw[<- HT.out,KP,Gb (VU h4)];rfl);obtain⟨e0,e1,e2,e3,e4⟩:=E3.out.bx.cells;have ao:=E3.out.bx.lt;obtain⟨b0,b1,b2,b3,b4⟩:=K.out.z.cells;have z0:=K.out.z.frozen 0;have z1:=K.out.z.frozen 1;have z2:=K.out.z.frozen 2;have z3:=K.out.z.frozen 3;have z4:=K.out.z.frozen 4;have ay:=K.out.z.lt;clear h4;go_wp2;obtain⟨d0,d1,d2,d3,d4⟩:=(K.out.zcells (.string v.o) (.string v.nm) (.int .i64 v.n) (.slice v.A v.ll v.cap) (.int .i64 v.p)).cells;rw[aj.out];refine bodyPost_ret (v:=.agg #[.string v.o,.string v.nm,.int .i64 v.n,.slice v.A v.ll v.cap,.int .i64 v.p]) (by simp[results,Tryz.results113,go_sem,d0,d1,d2,d3,d4]) rfl ?_;refine K.out.done (res:=(some e,.good r)) rfl (fun x O=>?_);injection O with O
         subst O
         exact(E3.out.hs e rfl).mono (by omega) (Nat.le_refl _))
theorem RY{D lev:Nat}{F:List AH->PR}(hF:MG 1 F D lev)(hS:De F):MG 0 (Ar 2 F) D lev:=GB (cl:=[.string ⟨#[124]⟩]) (nn:=1) (.inl ⟨rfl,hF⟩) (by decide) Rx Wh hS
theorem QL{D lev:Nat}{F:List AH->PR}(hF:Jh 130 F D lev)(hS:De F):MG 1 (Ar 3 F) D lev:=GB (cl:=[.string ⟨#[38]⟩]) (nn:=1) (.inr (.inl ⟨rfl,hF⟩)) (by decide) Sf WH hS
theorem Ro{D lev:Nat}{F:List AH->PR}(hF:MG 3 F D lev)(hS:De F):MG 2 (Ar 6 F) D lev:=GB (cl:=[.string ⟨#[43]⟩,.string ⟨#[45]⟩]) (nn:=2) (.inr (.inr (.inl ⟨rfl,hF⟩))) (by decide) Ql V0 hS
theorem RP{D lev:Nat}{F:List AH->PR}(hF:Jh 131 F D lev)(hS:De F):MG 3 (Ar 7 F) D lev:=GB (cl:=[.string ⟨#[42]⟩]) (nn:=1) (.inr (.inr (.inr ⟨rfl,hF⟩))) (by decide) Qw Va hS
end
section
open Go.RowKit Go.Sort
structure Xy(D l lev:Nat):Prop where
 c:Jh 51 (dp l).c D lev
 i:Jh 85 (dp l).i D lev
 n:Jh 130 (dp l).n D lev
 m:Jh 131 (dp l).m D lev
theorem Q3{D lev:Nat}(h:D<lev):Xy D 0 lev:=by
 refine⟨fun w d c z b a=>?_,fun w d c z b a=>?_,fun w d c z b a=>?_,fun w d c z b a=>?_⟩<;>subst b<;>cases c
 · exact NU a h
 · exact KJ a _
 · exact Lc a h
 · exact I5 a _
 · exact QB a h
 · exact ME a _
 · exact Mm a h
 · exact J9 a _
theorem QX{D l lev:Nat}(h:lev<=D)(ih:Xy D l (lev+1)):Xy D (l+1) lev:=by
 have s:=IP (GW l);have m:Jh 131 (Ah (dp l)) D lev:=fun w e f z d b=>by
  cases f with
  | good g=>exact Mn h ih.m ih.c w e g z d b
  | bad c q=>subst d;exact J9 b _
 have r:MG 3 (EY (dp l)) D lev:=RP m s.m;have o:MG 2 (Cu (dp l)) D lev:=Ro r s.p;have n:Jh 130 (Ch (dp l)) D lev:=fun w e f z d b=>by
  cases f with
  | good g=>exact Ox h o ih.n w e g z d b
  | bad c q=>subst d;exact ME b _
 have k:MG 1 (Eb (dp l)) D lev:=QL n s.n;have j:MG 0 (CK (dp l)) D lev:=RY k s.a;have i:Jh 85 (Am (dp l)) D lev:=fun w e f z d b=>by
  cases f with
  | good g=>exact Lw h j ih.i w e g z d b
  | bad c q=>subst d;exact I5 b _
 have c:Jh 51 (Bd (dp l)) D lev:=fun w e f z d b=>by
  cases f with
  | good g=>exact Mj h i ih.c w e g z d b
  | bad c q=>subst d;exact KJ b _
 exact⟨c,i,n,m⟩
theorem OG{D:Nat}:∀l lev:Nat,lev+l=D+1->Xy D l lev
 | 0,lev,h=>Q3 (by omega)
 | l+1,lev,h=>QX (by omega) (OG l (lev+1) (by omega))
end
end Go.Proofs.YtodijgndbjfbgaaGreatDoor
