import Derived.Test.YtodijgndbjfbgaaGreatDoorSz
import Derived.Test.YtodijgndbjfbgaaGreatDoorS1
import Derived.Test.YtodijgndbjfbgaaGreatDoorSp
import Derived.Deep.RegionHeld3
namespace Go.Proofs.YtodijgndbjfbgaaGreatDoor
set_option maxHeartbeats 16000000
set_option maxRecDepth 100000
open Go.RowKit Go.Sort
theorem RZ{d:AP}(hok:Mo d){b:Nat}{v:CZ}(w:World)(h:GL w b d v)(hT:Dj w):Calls Tryz.prog 13 #[.agg #[.slice v.A1 d.consts.length v.c1,.slice v.A2 d.formulas.length v.c2,.slice v.A3 d.labels.length v.c3,.slice v.A4 d.mods.length v.c4]] w (K8 (Gs d) w):=NX hok w h hT
theorem Kh{W W':World}{lo:Nat}{m:AP}{v:CZ}(h:GL W lo m v)(hb:Below W.heap.size W W'):GL W' lo m v:=h.keep (Kt.below hb)
theorem I8{α:Type}(f:α->List UInt8){a:α}:∀{l:List α},a∈l->(f a).length<=((l.map f).flatten).length
 | x::r,h=>by
   simp only[List.map_cons,List.flatten_cons,List.length_append];rcases List.mem_cons.1 h with rfl | h
   · omega
   · have:=I8 f h;omega
theorem Md{α:Type}(b:List UInt8)(f:α->List UInt8){a:α}:∀{l:List α},a∈l->(f a).length<=(AF b (l.map f)).length
 | [x],h=>by
   rcases List.mem_cons.1 h with rfl | h
   · exact Nat.le_refl _
   · cases h
 | x::y::r,h=>by
   have e:AF b ((x::y::r).map f)=f x++b++AF b ((y::r).map f):=rfl;rw[e,List.length_append,List.length_append];rcases List.mem_cons.1 h with rfl | h
   · omega
   · have:=Md b f h;omega
theorem Ww{D B:Nat}{m:AP}(hB:B<9223372036854775808)(h:WA D m)(hp:LC B m)(hl:(Gs m).length<=16000):Xs B m:=by
 have J:=hl;simp only[Gs,List.length_append,List.length_cons]at J;have hd:∀(f:Ad->List UInt8) (l:List Ad),(∀d∈l,J3 D d.x)->(∀d∈l,GH B d)->(∀d,(D7 d.x).length<=(f d).length)->((l.map f).flatten).length<=16000->∀d∈l,Vu B d:=fun f l g H p y d hd=>⟨(H d hd).1,F8 hB (g d hd) (H d hd).2 (Nat.le_trans (p d) (Nat.le_trans (I8 f hd) y))⟩;refine⟨hd (AY AN) _ (fun d hd=>(h.cs d hd).2) hp.cs (fun d=>by simp only[AY,List.length_append,List.length_cons];omega) (by omega),hd (AY AE) _ (fun d hd=>(h.fs d hd).2) hp.fs (fun d=>by simp only[AY,List.length_append,List.length_cons];omega) (by omega),hd BY _ (fun d hd=>(h.ls d hd).2) hp.ls (fun d=>by simp only[BY,List.length_append,List.length_cons];omega) (by omega),fun x G=>?_⟩;have I:=h.ms x G;have E:=hp.ms x G;have K:(BR x).length<=16000:=Nat.le_trans (I8 BR G) (by omega);simp only[BR,List.length_append,List.length_cons]at K;refine⟨E.1,fun v F=>?_,fun c z=>?_⟩
 · have w:=I.vs v F;have j:=E.2.1 v F;have r:(Ap v).length<=16000:=Nat.le_trans (I8 Ap F) (by omega);refine⟨j.1,fun i=>?_,fun i=>?_⟩
   · rcases w.vl with⟨g,_⟩ | ⟨g,p,y⟩
     · rw[g]at i;cases i
     · have a:=r;simp only[Ap,CS,g,Bool.false_eq_true,if_false,List.length_append,List.length_cons]at a;exact⟨F8 hB p j.2.1 (by omega),F8 hB y j.2.2.1 (by omega)⟩
   · rcases w.ini with⟨g,p⟩ | ⟨g,_⟩
     · have a:=r;simp only[Ap,g,if_true,List.length_append,List.length_cons]at a;exact F8 hB p j.2.2.2 (by omega)
     · rw[g]at i;cases i
 · have u:=I.cs c z;have n:=E.2.2 c z;have A:(BO c).length<=16000:=Nat.le_trans (I8 BO z) (by omega);simp only[BO,List.length_append,List.length_cons]at A;refine⟨n.1,F8 hB u.gd n.2.1 (by omega),fun b i=>?_⟩;have t:=u.bs b i;have k:=n.2.2 b i;have q:(Bs b).length<=16000:=Nat.le_trans (Md [32,43,32] Bs i) (by omega);simp only[Bs,List.length_append,List.length_cons]at q;refine⟨k.1,t.wt.2,fun s o=>⟨(k.2 s o).1,F8 hB (t.ss s o).2 (k.2 s o).2 ?_⟩⟩;have C:b.sets≠[]:=fun e=>(by rw[e]at o;cases o);rw[if_neg C]at q;have:=Md [32,38,32] Ax o;have L:(D7 s.x).length<=(Ax s).length:=(by simp only[Ax,List.length_append,List.length_cons];omega);omega
theorem Kv(s:ByteArray)(d:Int)(w:World)(hG:Dt w)(hs:s.size<=140737488355328)(h:3000<s.size):Calls Tryz.prog 3 #[.string s,.int .i64 d] w (P5 w):=by
 have b:=zz (FG w hG);have f:decide (3000<(s.size:Int))=true:=(by simp;omega);have c:decide (3000<s.size)=true:=(by simp;omega);clear hG h;go_enter Tryz.func3,Tryz.ntmps3;go_wp2_with fail;(with_reducible refine(b.out).mono ?_);rintro e g ⟨rfl,a⟩
 go_wp2;go_ret;exact⟨rfl,a⟩
def XG:List Value:=[.slice none 0 0,.slice none 0 0,.slice none 0 0,.slice none 0 0]
theorem ZC{w:World}{q t:Nat}(h:Bx w q t XG):w.cell? ⟨q,0,none⟩=some (.slice none 0 0)/\w.cell? ⟨q,1,none⟩=some (.slice none 0 0)/\w.cell? ⟨q,2,none⟩=some (.slice none 0 0)/\w.cell? ⟨q,3,none⟩=some (.slice none 0 0):=⟨h.cell 0,h.cell 1,h.cell 2,h.cell 3⟩
theorem MA(s:ByteArray)(d:Int)(w:World)(hG:Dt w)(h:s.size<=3000)(hd:d<1∨64<d):Calls Tryz.prog 3 #[.string s,.int .i64 d] w (P5 w):=by
 have x:=zz (FG w hG);have K:decide (3000<(s.size:Int))=false:=(by simp;omega);have C:decide (3000<s.size)=false:=(by simp;omega);have A:=zz (fun(W:World) (t:Dt W)=>O9 1 W t.s.glob);have B:=zz (fun(W:World) (t:Dt W)=>PE 1 W t.s.glob);have y:=zz (fun W:World=>NY s d W hd);have z:=zz (fun W:World=>Mb s d W hd);have v:=zz hG;clear hG hd;go_enter Tryz.func3,Tryz.ntmps3;go_wp2_with fail;(with_reducible refine(x.out).mono ?_);rintro e E ⟨rfl,n⟩
 have i:=zz n;clear n;go_wp2_with fail;refine(y.out E).mono ?_;rintro e u ⟨rfl,o⟩;have j:=zz (i.out.trans (o.mono i.out.size));clear o;go_wp2_with fail;refine AA (P:=fun W=>Bx W u.heap.size 26 XG/\Below w.heap.size w W) ⟨Bx.new u _ XG,j.out.alloc j.out.size _⟩ ?_;rintro W ⟨m,a⟩;refine(z.out W).mono ?_;rintro e L ⟨rfl,c⟩;have q:=zz (m.below c);have k:=zz (a.trans (c.mono a.size));clear m a c;go_wp2_with fail;refine AA (P:=fun W=>Bx W u.heap.size 26 XG/\Below w.heap.size w W) ⟨q.out.alloc _,k.out.alloc k.out.size _⟩ ?_;rintro W ⟨m,a⟩;refine(A.out W (v.out.below a)).mono ?_;rintro e F ⟨rfl,f⟩;have r:=zz (m.below f);have b:=zz (a.trans (f.mono a.size));clear m a f;go_wp2_with fail;refine(B.out F (v.out.below b.out)).mono ?_;rintro e M ⟨rfl,g⟩;have l:=zz (r.out.below g);have p:=zz (b.out.trans (g.mono b.out.size));obtain⟨G,H,I,J⟩:=ZC l.out;have D:=l.out.lt;clear g;go_wp2;go_ret;exact⟨rfl,p.out⟩
theorem Mp(s:ByteArray)(D c q:Nat)(w:World)(hG:Dt w)(h:s.size<=3000)(h1:1<=D)(h64:D<=64)(hp:Bp D s.data.toList= .er c q):Calls Tryz.prog 3 #[.string s,.int .i64 (D:Int)] w (P5 w):=by
 have G:=zz (FG w hG);have R:decide (3000<(s.size:Int))=false:=(by simp;omega);have H:decide (3000<s.size)=false:=(by simp;omega);have T:(((c:Nat):Int) != (c:Int))=false:=(by simp);have U:(((q:Nat):Int) != (q:Int))=false:=(by simp);have E:=zz (fun(W:World) (I:Dt W)=>Fc (s:=s) (D:=D) W I.s (by omega) h1 h64);have F:=zz (fun(W:World)=>I9 (s:=s) (D:=D) W (by omega) h1 h64);rw[hp]at E F;have y:=zz hG;clear hG hp;go_enter Tryz.func3,Tryz.ntmps3;go_wp2_with fail;(with_reducible refine(G.out).mono ?_);rintro e K ⟨rfl,p⟩
 have i:=zz p;clear p;go_wp2_with fail;refine(E.out K (y.out.below i.out)).mono ?_;rintro e C ⟨b,rfl,a,r⟩;have l:=zz (i.out.trans (r.mono i.out.size));have v:=zz a;clear r a;go_wp2_with fail;refine AA (P:=fun W=>Bx W C.heap.size 26 XG/\EC W b q c/\Below w.heap.size w W) ⟨Bx.new C _ XG,v.out.alloc _,l.out.alloc l.out.size _⟩ ?_;rintro W ⟨o,a,g⟩;refine(F.out W).mono ?_;rintro e V ⟨rfl,d,B⟩;have S:(((c:Nat):Int) != 0)=true:=(by rw[bne_iff_ne];omega);clear B;have z:=zz (o.below d);have t:=zz (a.below d);have m:=zz (g.trans (d.mono g.size));clear o a g d;go_wp2_with fail;refine AA (P:=fun W=>Bx W C.heap.size 26 XG/\EC W b q c/\Below w.heap.size w W) ⟨z.out.alloc _,t.out.alloc _,m.out.alloc m.out.size _⟩ ?_;rintro W ⟨o,a,g⟩;refine(Sm b q c W (y.out.below g).s.glob a).mono ?_;rintro e L ⟨rfl,f⟩;have A:=zz (o.below f);have u:=zz (a.below f);have j:=zz (g.trans (f.mono g.size));clear o a g f;go_wp2_with fail;refine(WN b q c L (y.out.below j.out).s.glob u.out).mono ?_;rintro e X ⟨rfl,k⟩;have n:=zz (A.out.below k);have x:=zz (j.out.trans (k.mono j.out.size));obtain⟨M,N,O,Q⟩:=ZC n.out;have J:=n.out.lt;clear k;go_wp2;go_ret;exact⟨rfl,x.out⟩
structure Fp(w W:World)(bE bM:Nat)(m:AP)(v:CZ)(v1 v2 v3 v4:Value):Prop where
 x:Bx W bE 26 [.slice v.A1 m.consts.length v.c1,.slice v.A2 m.formulas.length v.c2,.slice v.A3 m.labels.length v.c3,.slice v.A4 m.mods.length v.c4]
 y:Bx W bM 34 [v1,v2,v3,v4]
 r:∃lo,GL W lo m v
 d:∃lo,NW W lo m v1 v2 v3 v4
 g:Dt W
 b:Below w.heap.size w W
section
variable {w W W':World} {bE bM:Nat} {m:AP} {v:CZ} {v1 v2 v3 v4:Value}
theorem Fp.below(h:Fp w W bE bM m v v1 v2 v3 v4)(hb:Below W.heap.size W W'):Fp w W' bE bM m v v1 v2 v3 v4:=
 ⟨h.x.below hb,h.y.below hb,let ⟨lo,h3⟩:=h.r;⟨lo,Kh h3 hb⟩,let ⟨lo,h3⟩:=h.d;⟨lo,h3.below hb⟩,h.g.below hb,h.b.trans (hb.mono h.b.size)⟩
theorem Fp.drew(h:Fp w W bE bM m v v1 v2 v3 v4):Fp w W.drew bE bM m v v1 v2 v3 v4:=h.below (Below.refl _ _).drew
def Yd(w:World)(bE bM:Nat)(m:AP)(v:CZ)(v1 v2 v3 v4:Value)(u:Value)(e:Ending)(w':World):Prop:=e= .returned u/\Fp w w' bE bM m v v1 v2 v3 v4
def Yv(w:World)(bE bM:Nat)(m:AP)(v:CZ)(v1 v2 v3 v4:Value)(e:Ending)(w':World):Prop:=
 ∃(A1:Option Addr) (c1:Nat) (A2:Option Addr) (c2:Nat) (A3:Option Addr) (c3:Nat) (A4:Option Addr) (c4:Nat),e= .returned (.agg #[.slice A1 m.consts.length c1,.slice A2 m.formulas.length c2,.slice A3 m.labels.length c3,.slice A4 m.mods.length c4])/\(∃lo,NW w' lo m (.slice A1 m.consts.length c1) (.slice A2 m.formulas.length c2) (.slice A3 m.labels.length c3) (.slice A4 m.mods.length c4))/\Fp w w' bE bM m v v1 v2 v3 v4
theorem Fp.to(h:Fp w W bE bM m v v1 v2 v3 v4)(hok:Mo m):Calls Tryz.prog 12 #[.agg #[.slice v.A1 m.consts.length v.c1,.slice v.A2 m.formulas.length v.c2,.slice v.A3 m.labels.length v.c3,.slice v.A4 m.mods.length v.c4]] W (Yv w bE bM m v v1 v2 v3 v4):=by obtain⟨lo,c⟩:=h.r;exact(Tb W c hok).mono fun e f ⟨A1,c1,A2,c2,A3,c3,A4,c4,a,b,d⟩=>⟨A1,c1,A2,c2,A3,c3,A4,c4,a,⟨_,b⟩,h.below d⟩
theorem Fp.pr(h:Fp w W bE bM m v v1 v2 v3 v4)(hok:Mo m){t:ByteArray}(ht:t.data.toList=Gs m):Calls Tryz.prog 13 #[.agg #[.slice v.A1 m.consts.length v.c1,.slice v.A2 m.formulas.length v.c2,.slice v.A3 m.labels.length v.c3,.slice v.A4 m.mods.length v.c4]] W (Yd w bE bM m v v1 v2 v3 v4 (.string t)):=by obtain⟨lo,c⟩:=h.r;exact(RZ hok W c h.g.t).mono fun e d ⟨a,b⟩=>⟨a.trans (CQ ht).symm,h.below b⟩
theorem Fp.dp(h:Fp w W bE bM m v v1 v2 v3 v4){B:Nat}(hB:B<9223372036854775808)(hm:Xs B m)(pl:Bool)(hl:(MJ pl m).length<=100000000){t:ByteArray}(ht:t.data.toList=MJ pl m){A1:Option Addr}{c1:Nat}{A2:Option Addr}{c2:Nat}{A3:Option Addr}{c3:Nat}{A4:Option Addr}{c4:Nat}
 (hd:∃lo,NW W lo m (.slice A1 m.consts.length c1) (.slice A2 m.formulas.length c2) (.slice A3 m.labels.length c3) (.slice A4 m.mods.length c4)):Calls Tryz.prog 11 #[.agg #[.slice A1 m.consts.length c1,.slice A2 m.formulas.length c2,.slice A3 m.labels.length c3,.slice A4 m.mods.length c4],.bool pl] W (Yd w bE bM m v v1 v2 v3 v4 (.string t)):=by
 obtain⟨lo,c⟩:=hd;exact(MY hB hm pl c hl).mono fun e d ⟨a,b⟩=>⟨a.trans (Gl ht).symm,h.below b⟩
end
theorem Mt(s:ByteArray)(D:Nat)(w:World)(hG:Dt w)(h:s.size<=3000)(h1:1<=D)(h64:D<=64){m:AP}(hp:Bp D s.data.toList= .ok m):Calls Tryz.prog 3 #[.string s,.int .i64 (D:Int)] w (P5 w):=by
 have H0:=zz (FG w hG);have g1:decide (3000<(s.size:Int))=false:=(by simp;omega);have ab:decide (3000<s.size)=false:=(by simp;omega);have HG:=zz hG;have A:s.data.toList.length=s.size:=AU s;have ok:=Pc (by rw[A];omega) hp;have g:=Mu hp;rw[A]at ok g;have j:s.size<9223372036854775808:=(by omega);have hO:Mo m:=S9 ok.1 (by have:=ok.2;omega);have hT:Xs s.size m:=Ww j ok.1 g (by have:=ok.2;omega);have u:(MJ true m).length<=100000000:=(by have:=OF j true ok.1 g;have:=ok.2;omega);have z:(MJ false m).length<=100000000:=(by have:=OF j false ok.1 g;have:=ok.2;omega);obtain⟨tp,K,_⟩:=F7 (MJ true m) 100000000 u;obtain⟨tw,B,_⟩:=F7 (MJ false m) 100000000 z;have HO:=zz hO;have q:=zz hT;have F:=zz u;have S:=zz z;have p:=zz j;have G:=zz K;have U:=zz B;have T:=zz (B.trans (VZ m));have HA:=zz (fun(W:World) (hW:Dt W)=>Fc (s:=s) (D:=D) W hW.s (by omega) h1 h64);have HB:=zz (fun(W:World)=>I9 (s:=s) (D:=D) W (by omega) h1 h64);rw[hp]at HA HB;have g5:(tp.toList==tp.toList)=true:=(by simp);have g6:(tw.toList==tw.toList)=true:=(by simp);clear hG hp ok g A hO hT u z K B j;go_enter Tryz.func3,Tryz.ntmps3;go_wp2_with fail;(with_reducible refine(H0.out).mono ?_);rintro e w1 ⟨rfl,I⟩
 have n:=zz I;clear I;go_wp2_with fail;refine(HA.out w1 (HG.out.below n.out)).mono ?_;rintro e L ⟨v,rfl,hC,J⟩;have o:=zz (n.out.trans (J.mono n.out.size));have E:=zz hC;clear J hC;dsimp only[CZ.v1,CZ.v2,CZ.v3,CZ.v4];go_wp2_with fail;refine AA (P:=fun W=>Bx W L.heap.size 26 [.slice v.A1 m.consts.length v.c1,.slice v.A2 m.formulas.length v.c2,.slice v.A3 m.labels.length v.c3,.slice v.A4 m.mods.length v.c4]/\GL W w1.heap.size m v/\Below w.heap.size w W) ⟨Bx.new _ _ _,Kh E.out ((Below.refl _ _).alloc (Nat.le_refl _) _),o.out.alloc o.out.size _⟩ ?_;rintro W ⟨hE,hR,hB⟩;refine(HB.out W).mono ?_;rintro e C aa;obtain⟨pb,v1,v2,v3,v4,rfl,i,k⟩:=aa;obtain⟨N,V,rfl⟩:=i.r1.form;obtain⟨O,X,rfl⟩:=i.r2.form;obtain⟨Q,Y,rfl⟩:=i.r3.form;obtain⟨R,Z,rfl⟩:=i.r4.form;have f:=(Below.refl C.heap.size C).alloc (Nat.le_refl _) (.cells #[.slice N m.consts.length V,.slice O m.formulas.length X,.slice Q m.labels.length Y,.slice R m.mods.length Z] 34);have r:=hB.trans (k.mono hB.size);have t:=r.trans (f.mono r.size)
 have LK:=zz (show Fp w (C.alloc _) L.heap.size C.heap.size m v (.slice N m.consts.length V) (.slice O m.formulas.length X) (.slice Q m.labels.length Y) (.slice R m.mods.length Z)from
  ⟨(hE.below k).below f,Bx.new _ _ _,⟨_,Kh (Kh hR k) f⟩,⟨_,i.now.below f⟩,HG.out.below t,t⟩)
 clear hE hR hB k f r t i E o;go_wp2_with fail;refine AA (P:=fun W=>Fp w W L.heap.size C.heap.size m v _ _ _ _) LK.out ?_;rintro W c;refine(Qu W).mono ?_;rintro e _ ⟨rfl,rfl⟩;go_wp2_with fail;refine(U5 W).mono ?_;rintro e w6 ⟨rfl,f⟩;replace c:=c.below f;clear f LK;go_wp2_with fail;generalize C.heap.size=bM at c ⊢;generalize L.heap.size=bE at c ⊢;replace c:=c.drew
 go_region_held3 (fun l=>l.cell? ⟨bE,0,none⟩=some (.slice v.A1 m.consts.length v.c1)/\l.cell? ⟨bE,1,none⟩=some (.slice v.A2 m.formulas.length v.c2)/\l.cell? ⟨bE,2,none⟩=some (.slice v.A3 m.labels.length v.c3)/\l.cell? ⟨bE,3,none⟩=some (.slice v.A4 m.mods.length v.c4)/\l.cell? ⟨bM,0,none⟩=some (.slice N m.consts.length V)/\l.cell? ⟨bM,1,none⟩=some (.slice O m.formulas.length X)/\l.cell? ⟨bM,2,none⟩=some (.slice Q m.labels.length Y)/\l.cell? ⟨bM,3,none⟩=some (.slice R m.mods.length Z)) (exact⟨c.x.cell 0,c.x.cell 1,c.x.cell 2,c.x.cell 3,c.y.cell 0,c.y.cell 1,c.y.cell 2,c.y.cell 3⟩) (first
  | (go_at_call 12;(with_reducible refine(c.to HO.out).mono ?_);rintro e M ⟨B1,d1,B2,d2,B3,d3,B4,d4,rfl,H,a⟩;replace c:=a;clear a)
  | (go_at_call 11;(with_reducible refine(c.dp p.out q.out true F.out G.out H).mono ?_);rintro e M ⟨rfl,a⟩;replace c:=a;clear a H)
  | (go_at_call 11;(with_reducible refine(c.dp p.out q.out true F.out G.out c.d).mono ?_);rintro e M ⟨rfl,a⟩;replace c:=a;clear a)
  | (go_at_call 11;(with_reducible refine(c.dp p.out q.out false S.out U.out c.d).mono ?_);rintro e M ⟨rfl,a⟩;replace c:=a;clear a)
  | (go_at_call 13;(with_reducible refine(c.pr HO.out T.out).mono ?_);rintro e M ⟨rfl,a⟩;replace c:=a;clear a))
 (all_goals go_wp2);all_goals go_ret
 all_goals exact⟨rfl,c.b⟩
theorem mparses_yes(s:ByteArray)(d:Int)(w:World)(hG:Dt w)(hs:s.size<=140737488355328):Calls Tryz.prog 3 #[.string s,.int .i64 d] w (P5 w):=by
 by_cases h:3000<s.size
 · exact Kv s d w hG hs h
 · by_cases hd:1<=d/\d<=64
   · obtain⟨D,rfl⟩:∃D:Nat,d=(D:Int):=⟨d.toNat,by omega⟩;cases a:Bp D s.data.toList with
     | er c q=>exact Mp s D c q w hG (by omega) (by omega) (by omega) a
     | ok m=>exact Mt s D w hG (by omega) (by omega) (by omega) a
   · exact MA s d w hG (by omega) (by omega)
end Go.Proofs.YtodijgndbjfbgaaGreatDoor
