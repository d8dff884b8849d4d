import Derived.Test.YtodijgndbjfbgaaGreatDoorSi
import Derived.Test.YtodijgndbjfbgaaGreatDoorSh
import Derived.Deep.RegionHeld3
import Derived.IntWalk
import Derived.Test.YtodijgndbjfbgaaGreatDoorSf
namespace Go.Proofs.YtodijgndbjfbgaaGreatDoor
set_option maxHeartbeats 16000000
set_option maxRecDepth 100000
section
section
open Go.RowKit Go.Sort
def FS(x:Ex):Prop:=∀(w:World) (S:Nat->Prop) (c:List Value),HS w 81 S x c->(AR x).length<=1000000->Calls Tryz.prog 57 #[.agg c.toArray] w (Sn (AR x) w)
theorem CO{s:ByteArray}{l:List UInt8}(h:s.data.toList=l):Ending.returned (.string s)= .returned (Bm l):=by rw[Bw h]
theorem Fo{x:Ex}(ih:FS x){w:World}{S:Nat->Prop}{o nm:ByteArray}{n p:Int}{A:Option Addr}{ll cap:Nat}(hH:HS w 81 S x (BM o nm n A ll cap p))(hl:(AR x).length<=1000000)(r:Nat):
 Calls Tryz.prog 90 #[.agg #[.string o,.string nm,.int .i64 n,.slice A ll cap,.int .i64 p],.int .i64 (r:Int)] w (Sn (BQ (decide (rk x.op<r)) (AR x)) w):=by
 have v:o.data.toList=x.op:=(by rw[hH.opn]);have q:=zz (Bl o (w.alloc (.cells #[.string o,.string nm,.int .i64 n,.slice A ll cap,.int .i64 p] 81)));rw[v]at q;have u:=zz (fun(W:World) (F:Below w.heap.size w W)=>ih W S _ (hH.below F) hl);obtain⟨k,i⟩:∃k:ByteArray,k=⟨(AR x).toArray⟩:=⟨_,rfl⟩;have h:=zz (show k.data.toList=AR x by rw[i]);have G:k.size<=1000000:=(by rw[<- AU,h.out];exact hl);have j:=zz (show Bm (AR x)= .string k by rw[i];rfl);have f:=zz ((Below.refl w.heap.size w).alloc (Nat.le_refl _) (.cells #[.string o,.string nm,.int .i64 n,.slice A ll cap,.int .i64 p] 81));clear ih v hH i hl;by_cases m:rk x.op<r
 · have E:decide ((rk x.op:Int)<(r:Int))=true:=(by simp;omega);have s:decide (rk x.op<r)=true:=(by simpa using m);rw[s];clear m;go_enter Tryz.func90,Tryz.ntmps90;go_wp2_with fail;refine(q.out).mono ?_;rintro e l ⟨rfl,b⟩;have a:=zz (f.out.trans (b.mono f.out.size));have c:Az l w.heap.size (.string o) (.string nm) (.int .i64 n) (.slice A ll cap) (.int .i64 p):=(b.block w.heap.size (by simp)).trans (heap_alloc_new w _);obtain⟨y,z,B,C,D⟩:=c.cells;have t:=c.lt;clear b c;go_wp2_with fail;refine(u.out l a.out).mono ?_;rintro e H ⟨rfl,d⟩;have g:=zz (a.out.trans (d.mono a.out.size));rw[j.out];clear d;go_wp2;go_ret;exact⟨CO (by simp[h.out,BQ]),g.out⟩
 · have E:decide ((rk x.op:Int)<(r:Int))=false:=(by simp;omega);have s:decide (rk x.op<r)=false:=(by simpa using m);rw[s];clear m;go_enter Tryz.func90,Tryz.ntmps90;go_wp2_with fail;refine(q.out).mono ?_;rintro e l ⟨rfl,b⟩;have a:=zz (f.out.trans (b.mono f.out.size));have c:Az l w.heap.size (.string o) (.string nm) (.int .i64 n) (.slice A ll cap) (.int .i64 p):=(b.block w.heap.size (by simp)).trans (heap_alloc_new w _);obtain⟨y,z,B,C,D⟩:=c.cells;have t:=c.lt;clear b c;go_wp2_with fail;refine(u.out l a.out).mono ?_;rintro e H ⟨rfl,d⟩;have g:=zz (a.out.trans (d.mono a.out.size));rw[j.out];clear d;go_wp2;go_ret;exact⟨CO (by simp[h.out,BQ]),g.out⟩
def UP(W:World)(g i:Nat)(v:XV)(x:Ex)(S:Nat->Prop):Prop:=
 g<W.heap.size/\W.cell? ⟨g,i,none⟩=some (.string v.o)/\W.cell? ⟨g,i+1,none⟩=some (.string v.nm)/\W.cell? ⟨g,i+2,none⟩=some (.int .i64 v.n)/\W.cell? ⟨g,i+3,none⟩=some (.slice v.A v.ll v.cap)/\W.cell? ⟨g,i+4,none⟩=some (.int .i64 v.p)/\HS W 81 S x (BM v.o v.nm v.n v.A v.ll v.cap v.p)
theorem UP.below{W W':World}{g i:Nat}{v:XV}{x:Ex}{S:Nat->Prop}(h:UP W g i v x S)(hb:Below W.heap.size W W'):UP W' g i v x S:=by obtain⟨a,b,c,d,e,f,j⟩:=h;exact⟨Nat.lt_of_lt_of_le a hb.size,(hb.cell a).trans b,(hb.cell a).trans c,(hb.cell a).trans d,(hb.cell a).trans e,(hb.cell a).trans f,j.below hb⟩
theorem Cd{W:World}{S:Nat->Prop}{g:Nat}{ks:List Ex}(h:KR W 81 S (some ⟨g,0,none⟩) ks)(i:Nat)(hi:i<ks.length):∃v,UP W g (i*5) v ks[i] S:=by
 obtain⟨j,o,nm,n,B,l,b,p,a,k,m,c0,c,d,e,f⟩:=h i hi;obtain rfl:j=g:=by injection a with a;injection a with a;exact a.symm
 exact⟨⟨o,nm,n,B,l,b,p⟩,k,c0,c,d,e,f,m⟩
structure Ki(w W:World)(bx g:Nat)(o nm:ByteArray)(cap:Nat)(n p:Int)(va vb:XV)(a b:Ex)(S:Nat->Prop):Prop where
 bx:Az W bx (.string o) (.string nm) (.int .i64 n) (.slice (some ⟨g,0,none⟩) 2 cap) (.int .i64 p)
 a:UP W g 0 va a S
 b:UP W g 5 vb b S
 w:Below w.heap.size w W
section
variable {w W W':World} {bx g:Nat} {o nm:ByteArray} {cap:Nat} {n p:Int} {va vb:XV} {a b:Ex} {S:Nat->Prop}
theorem Ki.below(m:Ki w W bx g o nm cap n p va vb a b S)(hb:Below W.heap.size W W'):Ki w W' bx g o nm cap n p va vb a b S:=⟨m.bx.below hb,m.a.below hb,m.b.below hb,m.w.trans (hb.mono m.w.size)⟩
theorem Ki.drew(m:Ki w W bx g o nm cap n p va vb a b S):Ki w W.drew bx g o nm cap n p va vb a b S:=m.below (Below.refl _ _).drew
theorem Ki.get(m:Ki w W bx g o nm cap n p va vb a b S):(fun w':World=>w'.cell? ⟨bx,0,none⟩=some (.string o)/\w'.cell? ⟨bx,3,none⟩=some (.slice (some ⟨g,0,none⟩) 2 cap)/\w'.cell? ⟨g,0,none⟩=some (.string va.o)/\w'.cell? ⟨g,1,none⟩=some (.string va.nm)/\w'.cell? ⟨g,2,none⟩=some (.int .i64 va.n)/\w'.cell? ⟨g,3,none⟩=some (.slice va.A va.ll va.cap)/\w'.cell? ⟨g,4,none⟩=some (.int .i64 va.p)/\w'.cell? ⟨g,5,none⟩=some (.string vb.o)/\w'.cell? ⟨g,6,none⟩=some (.string vb.nm)/\w'.cell? ⟨g,7,none⟩=some (.int .i64 vb.n)/\w'.cell? ⟨g,8,none⟩=some (.slice vb.A vb.ll vb.cap)/\w'.cell? ⟨g,9,none⟩=some (.int .i64 vb.p)) W:=by obtain⟨_,e,f,h,i,j,_⟩:=m.a;obtain⟨_,k,l,q,r,s,_⟩:=m.b;obtain⟨c,_,_,d,_⟩:=m.bx.cells;exact⟨c,d,e,f,h,i,j,k,l,q,r,s⟩
def XX(w:World)(bx g:Nat)(o nm:ByteArray)(cap:Nat)(n p:Int)(va vb:XV)(a b:Ex)(S:Nat->Prop)(t:ByteArray)(e:Ending)(w':World):Prop:=e= .returned (.string t)/\Ki w w' bx g o nm cap n p va vb a b S
theorem Ki.kid1(m:Ki w W bx g o nm cap n p va vb a b S)(ih:FS a)(hl:(AR a).length<=1000000)(r:Nat)(z:Int)(hz:z=(r:Int)){t:ByteArray}(ht:t.data.toList=BQ (decide (rk a.op<r)) (AR a)):Calls Tryz.prog 90 #[.agg #[.string va.o,.string va.nm,.int .i64 va.n,.slice va.A va.ll va.cap,.int .i64 va.p],.int .i64 z] W (XX w bx g o nm cap n p va vb a b S t):=
 hz▸(Fo ih m.a.2.2.2.2.2.2 hl r).mono fun _ _ ⟨c,d⟩=>⟨by rw[c,Bw ht],m.below d⟩
theorem Ki.kid2(m:Ki w W bx g o nm cap n p va vb a b S)(ih:FS b)(hl:(AR b).length<=1000000)(r:Nat)(z:Int)(hz:z=(r:Int)){t:ByteArray}(ht:t.data.toList=BQ (decide (rk b.op<r)) (AR b)):Calls Tryz.prog 90 #[.agg #[.string vb.o,.string vb.nm,.int .i64 vb.n,.slice vb.A vb.ll vb.cap,.int .i64 vb.p],.int .i64 z] W (XX w bx g o nm cap n p va vb a b S t):=
 hz▸(Fo ih m.b.2.2.2.2.2.2 hl r).mono fun _ _ ⟨c,d⟩=>⟨by rw[c,Bw ht],m.below d⟩
end
end
section
open Go.RowKit Go.Sort
theorem CN(b:Bool)(l:List UInt8):l.length<=(BQ b l).length:=by cases b<;>simp[BQ]<;>omega
theorem Bn{x:Ex}(b:Bool)(h:(AR x).length<=1000000):(BQ b (AR x)).length<=1000002:=by cases b<;>simp[BQ]<;>omega
theorem CC(l:List UInt8)(n:Nat)(h:l.length<=n):∃t:ByteArray,t.data.toList=l/\t.size<=n:=⟨⟨l.toArray⟩,rfl,by rw[<- AU];exact h⟩
theorem Be{op l:List UInt8}(h:op≠l):((⟨op.toArray⟩:ByteArray).toList==l)=false:=by rw[ByteArray.toList_eq];simpa using h
theorem YD{op:List UInt8}{a b:Ex}{q:Nat}(hr:rk op=1)(ha:FS a)(hb:FS b):FS (.bin op a b q):=by
 intro w S c R P;obtain⟨A,d,rfl,I⟩:=R.view;obtain⟨g,_,_,_,_,_,_,_,rfl,_⟩:=I 0 (by simp[Ex.kids]);obtain⟨k,F⟩:=Cd I 0 (by simp[Ex.kids]);obtain⟨l,G⟩:=Cd I 1 (by simp[Ex.kids]);have i:AR (.bin op a b q)=BQ (decide (rk a.op<2)) (AR a)++(32::op++32::BQ (decide (rk b.op<1)) (AR b)):=(by simp[AR,hr,lo]);have m:(AR a).length<=1000000:=(by rw[i,List.length_append]at P;have:=CN (decide (rk a.op<2)) (AR a);omega);have r:(AR b).length<=1000000:=(by rw[i,List.length_append,List.length_append,List.length_cons,List.length_cons]at P;have:=CN (decide (rk b.op<1)) (AR b);omega);have C:op.length<=3:=FV (by omega);have z:op≠Bk:=fun e=>(by rw[e]at hr;exact absurd hr (by decide));have B:op≠BA:=fun e=>(by rw[e]at hr;exact absurd hr (by decide));have j:=Wz hr;obtain⟨V,D,T⟩:=CC (BQ (decide (rk a.op<2)) (AR a)) 1000002 (Bn _ m);obtain⟨tb,E,U⟩:=CC (BQ (decide (rk b.op<1)) (AR b)) 1000002 (Bn _ r);change Calls Tryz.prog 57 #[.agg #[.string ⟨op.toArray⟩,.string ⟨([]:List UInt8).toArray⟩,.int .i64 ((0:Nat):Int),.slice (some ⟨g,0,none⟩) 2 d,.int .i64 (q:Int)]] w _;have g1:((⟨op.toArray⟩:ByteArray).toList==[110,117,109])=false:=Be z;have g2:((⟨op.toArray⟩:ByteArray).toList==[110,97,109,101])=false:=Be B;have Q:=zz (Bl ⟨op.toArray⟩ (w.alloc (.cells #[.string ⟨op.toArray⟩,.string ⟨([]:List UInt8).toArray⟩,.int .i64 ((0:Nat):Int),.slice (some ⟨g,0,none⟩) 2 d,.int .i64 (q:Int)] 81)));have O:(⟨op.toArray⟩:ByteArray).data.toList=op:=rfl;rw[O,hr]at Q;have ab:(⟨op.toArray⟩:ByteArray).size<=3:=(by rw[<- AU];exact C);have t:=zz j;clear j;have HO:=zz O;have N:=zz i;have v:=zz D;have x:=zz E;have L:=zz m;have M:=zz r;have J:=zz ha;have K:=zz hb;have h:=(Below.refl w.heap.size w).alloc (Nat.le_refl _) (.cells #[.string ⟨op.toArray⟩,.string ⟨([]:List UInt8).toArray⟩,.int .i64 ((0:Nat):Int),.slice (some ⟨g,0,none⟩) 2 d,.int .i64 (q:Int)] 81);have u:=zz (show Ki w (w.alloc (.cells #[.string ⟨op.toArray⟩,.string ⟨([]:List UInt8).toArray⟩,.int .i64 ((0:Nat):Int),.slice (some ⟨g,0,none⟩) 2 d,.int .i64 (q:Int)] 81)) w.heap.size g ⟨op.toArray⟩ ⟨([]:List UInt8).toArray⟩ d ((0:Nat):Int) (q:Int) k l a b S from⟨heap_alloc_new w _,F.below h,G.below h,h⟩);clear R I F G i D E m r ha hb h O P z B C;generalize(⟨op.toArray⟩:ByteArray)=o at*;generalize(⟨([]:List UInt8).toArray⟩:ByteArray)=nm at*;generalize((0:Nat):Int)=n0 at*;generalize(q:Int)=q0 at*;go_enter Tryz.func57,Tryz.ntmps57;go_wp2_with fail;refine(Q.out).mono ?_;rintro e w1 ⟨rfl,y⟩;have H:=zz (u.out.below y);obtain⟨W,X,Y,Z,b4⟩:=H.out.bx.cells;have aa:=H.out.bx.lt;clear y u;go_wp2_with fail;have k0:¬9223372036854775807<V.size+4:=(by omega);have k1:¬9223372036854775807<V.size+4+tb.size:=(by omega);have s:=H.out.drew;clear H W X Y Z b4
 go_region_held3 (fun f=>f.cell? ⟨w.heap.size,0,none⟩=some (.string o)/\f.cell? ⟨w.heap.size,3,none⟩=some (.slice (some ⟨g,0,none⟩) 2 d)/\f.cell? ⟨g,0,none⟩=some (.string k.o)/\f.cell? ⟨g,1,none⟩=some (.string k.nm)/\f.cell? ⟨g,2,none⟩=some (.int .i64 k.n)/\f.cell? ⟨g,3,none⟩=some (.slice k.A k.ll k.cap)/\f.cell? ⟨g,4,none⟩=some (.int .i64 k.p)/\f.cell? ⟨g,5,none⟩=some (.string l.o)/\f.cell? ⟨g,6,none⟩=some (.string l.nm)/\f.cell? ⟨g,7,none⟩=some (.int .i64 l.n)/\f.cell? ⟨g,8,none⟩=some (.slice l.A l.ll l.cap)/\f.cell? ⟨g,9,none⟩=some (.int .i64 l.p)) (exact s.get) (first
  | (go_at_call 90;(with_reducible refine(s.kid1 J.out L.out 2 2 (by decide) v.out).mono ?_);rintro e wA ⟨rfl,s⟩)
  | (go_at_call 90;(with_reducible refine(s.kid2 K.out M.out 1 1 (by decide) x.out).mono ?_);rintro e wA ⟨rfl,s⟩))
 (all_goals go_wp2);all_goals go_ret
 all_goals exact⟨CO (by rw[N.out];simp[v.out,x.out,t.out]),s.w⟩
theorem YT{op:List UInt8}{a b:Ex}{q:Nat}(hr:rk op=2)(ha:FS a)(hb:FS b):FS (.bin op a b q):=by
 intro w S c Q O;obtain⟨A,d,rfl,G⟩:=Q.view;obtain⟨g,_,_,_,_,_,_,_,rfl,_⟩:=G 0 (by simp[Ex.kids]);obtain⟨j,D⟩:=Cd G 0 (by simp[Ex.kids]);obtain⟨k,E⟩:=Cd G 1 (by simp[Ex.kids]);have i:AR (.bin op a b q)=BQ (decide (rk a.op<2)) (AR a)++(32::op++32::BQ (decide (rk b.op<3)) (AR b)):=(by simp[AR,hr,lo]);have l:(AR a).length<=1000000:=(by rw[i,List.length_append]at O;have:=CN (decide (rk a.op<2)) (AR a);omega);have m:(AR b).length<=1000000:=(by rw[i,List.length_append,List.length_append,List.length_cons,List.length_cons]at O;have:=CN (decide (rk b.op<3)) (AR b);omega);have z:op.length<=3:=FV (by omega);have x:op≠Bk:=fun e=>(by rw[e]at hr;exact absurd hr (by decide));have y:op≠BA:=fun e=>(by rw[e]at hr;exact absurd hr (by decide));obtain⟨H,B,R⟩:=CC (BQ (decide (rk a.op<2)) (AR a)) 1000002 (Bn _ l);obtain⟨tb,C,T⟩:=CC (BQ (decide (rk b.op<3)) (AR b)) 1000002 (Bn _ m);change Calls Tryz.prog 57 #[.agg #[.string ⟨op.toArray⟩,.string ⟨([]:List UInt8).toArray⟩,.int .i64 ((0:Nat):Int),.slice (some ⟨g,0,none⟩) 2 d,.int .i64 (q:Int)]] w _;have g1:((⟨op.toArray⟩:ByteArray).toList==[110,117,109])=false:=Be x;have g2:((⟨op.toArray⟩:ByteArray).toList==[110,97,109,101])=false:=Be y;have P:=zz (Bl ⟨op.toArray⟩ (w.alloc (.cells #[.string ⟨op.toArray⟩,.string ⟨([]:List UInt8).toArray⟩,.int .i64 ((0:Nat):Int),.slice (some ⟨g,0,none⟩) 2 d,.int .i64 (q:Int)] 81)));have N:(⟨op.toArray⟩:ByteArray).data.toList=op:=rfl;rw[N,hr]at P;have ab:(⟨op.toArray⟩:ByteArray).size<=3:=(by rw[<- AU];exact z);have U:=zz N;have M:=zz i;have t:=zz B;have u:=zz C;have K:=zz l;have L:=zz m;have I:=zz ha;have J:=zz hb;have h:=(Below.refl w.heap.size w).alloc (Nat.le_refl _) (.cells #[.string ⟨op.toArray⟩,.string ⟨([]:List UInt8).toArray⟩,.int .i64 ((0:Nat):Int),.slice (some ⟨g,0,none⟩) 2 d,.int .i64 (q:Int)] 81);have s:=zz (show Ki w (w.alloc (.cells #[.string ⟨op.toArray⟩,.string ⟨([]:List UInt8).toArray⟩,.int .i64 ((0:Nat):Int),.slice (some ⟨g,0,none⟩) 2 d,.int .i64 (q:Int)] 81)) w.heap.size g ⟨op.toArray⟩ ⟨([]:List UInt8).toArray⟩ d ((0:Nat):Int) (q:Int) j k a b S from⟨heap_alloc_new w _,D.below h,E.below h,h⟩);clear Q G D E i B C l m ha hb h N O x y z;generalize(⟨op.toArray⟩:ByteArray)=o at*;generalize(⟨([]:List UInt8).toArray⟩:ByteArray)=nm at*;generalize((0:Nat):Int)=n0 at*;generalize(q:Int)=q0 at*;go_enter Tryz.func57,Tryz.ntmps57;go_wp2_with fail;refine(P.out).mono ?_;rintro e w1 ⟨rfl,v⟩;have F:=zz (s.out.below v);obtain⟨V,W,X,Y,Z⟩:=F.out.bx.cells;have aa:=F.out.bx.lt;clear v s;go_wp2_with fail;have k0:¬9223372036854775807<H.size+1:=(by omega);have k1:¬9223372036854775807<H.size+1+o.size:=(by omega);have k2:¬9223372036854775807<H.size+1+o.size+1:=(by omega);have k3:¬9223372036854775807<H.size+1+o.size+1+tb.size:=(by omega);have kw:IntKind.i64.wrap 3=3:=(by decide);have r:=F.out.drew;clear F V W X Y Z
 go_region_held3 (fun f=>f.cell? ⟨w.heap.size,0,none⟩=some (.string o)/\f.cell? ⟨w.heap.size,3,none⟩=some (.slice (some ⟨g,0,none⟩) 2 d)/\f.cell? ⟨g,0,none⟩=some (.string j.o)/\f.cell? ⟨g,1,none⟩=some (.string j.nm)/\f.cell? ⟨g,2,none⟩=some (.int .i64 j.n)/\f.cell? ⟨g,3,none⟩=some (.slice j.A j.ll j.cap)/\f.cell? ⟨g,4,none⟩=some (.int .i64 j.p)/\f.cell? ⟨g,5,none⟩=some (.string k.o)/\f.cell? ⟨g,6,none⟩=some (.string k.nm)/\f.cell? ⟨g,7,none⟩=some (.int .i64 k.n)/\f.cell? ⟨g,8,none⟩=some (.slice k.A k.ll k.cap)/\f.cell? ⟨g,9,none⟩=some (.int .i64 k.p)) (exact r.get) (first
  | (go_at_call 90;(with_reducible refine(r.kid1 I.out K.out 2 2 (by decide) t.out).mono ?_);rintro e wA ⟨rfl,r⟩)
  | (go_at_call 90;(with_reducible refine(r.kid2 J.out L.out 3 3 (by decide) u.out).mono ?_);rintro e wA ⟨rfl,r⟩))
 (all_goals go_wp2);all_goals go_ret
 all_goals exact⟨CO (by rw[M.out];simp[t.out,u.out,U.out]),r.w⟩
theorem X6{op:List UInt8}{a b:Ex}{q:Nat}(hr:rk op=3)(ha:FS a)(hb:FS b):FS (.bin op a b q):=by
 intro w S c Q O;obtain⟨A,d,rfl,G⟩:=Q.view;obtain⟨g,_,_,_,_,_,_,_,rfl,_⟩:=G 0 (by simp[Ex.kids]);obtain⟨j,D⟩:=Cd G 0 (by simp[Ex.kids]);obtain⟨k,E⟩:=Cd G 1 (by simp[Ex.kids]);have i:AR (.bin op a b q)=BQ (decide (rk a.op<3)) (AR a)++(32::op++32::BQ (decide (rk b.op<4)) (AR b)):=(by simp[AR,hr,lo]);have l:(AR a).length<=1000000:=(by rw[i,List.length_append]at O;have:=CN (decide (rk a.op<3)) (AR a);omega);have m:(AR b).length<=1000000:=(by rw[i,List.length_append,List.length_append,List.length_cons,List.length_cons]at O;have:=CN (decide (rk b.op<4)) (AR b);omega);have z:op.length<=3:=FV (by omega);have x:op≠Bk:=fun e=>(by rw[e]at hr;exact absurd hr (by decide));have y:op≠BA:=fun e=>(by rw[e]at hr;exact absurd hr (by decide));obtain⟨H,B,R⟩:=CC (BQ (decide (rk a.op<3)) (AR a)) 1000002 (Bn _ l);obtain⟨tb,C,T⟩:=CC (BQ (decide (rk b.op<4)) (AR b)) 1000002 (Bn _ m);change Calls Tryz.prog 57 #[.agg #[.string ⟨op.toArray⟩,.string ⟨([]:List UInt8).toArray⟩,.int .i64 ((0:Nat):Int),.slice (some ⟨g,0,none⟩) 2 d,.int .i64 (q:Int)]] w _;have g1:((⟨op.toArray⟩:ByteArray).toList==[110,117,109])=false:=Be x;have g2:((⟨op.toArray⟩:ByteArray).toList==[110,97,109,101])=false:=Be y;have P:=zz (Bl ⟨op.toArray⟩ (w.alloc (.cells #[.string ⟨op.toArray⟩,.string ⟨([]:List UInt8).toArray⟩,.int .i64 ((0:Nat):Int),.slice (some ⟨g,0,none⟩) 2 d,.int .i64 (q:Int)] 81)));have N:(⟨op.toArray⟩:ByteArray).data.toList=op:=rfl;rw[N,hr]at P;have ab:(⟨op.toArray⟩:ByteArray).size<=3:=(by rw[<- AU];exact z);have U:=zz N;have M:=zz i;have t:=zz B;have u:=zz C;have K:=zz l;have L:=zz m;have I:=zz ha;have J:=zz hb;have h:=(Below.refl w.heap.size w).alloc (Nat.le_refl _) (.cells #[.string ⟨op.toArray⟩,.string ⟨([]:List UInt8).toArray⟩,.int .i64 ((0:Nat):Int),.slice (some ⟨g,0,none⟩) 2 d,.int .i64 (q:Int)] 81);have s:=zz (show Ki w (w.alloc (.cells #[.string ⟨op.toArray⟩,.string ⟨([]:List UInt8).toArray⟩,.int .i64 ((0:Nat):Int),.slice (some ⟨g,0,none⟩) 2 d,.int .i64 (q:Int)] 81)) w.heap.size g ⟨op.toArray⟩ ⟨([]:List UInt8).toArray⟩ d ((0:Nat):Int) (q:Int) j k a b S from⟨heap_alloc_new w _,D.below h,E.below h,h⟩);clear Q G D E i B C l m ha hb h N O x y z;generalize(⟨op.toArray⟩:ByteArray)=o at*;generalize(⟨([]:List UInt8).toArray⟩:ByteArray)=nm at*;generalize((0:Nat):Int)=n0 at*;generalize(q:Int)=q0 at*;go_enter Tryz.func57,Tryz.ntmps57;go_wp2_with fail;refine(P.out).mono ?_;rintro e w1 ⟨rfl,v⟩;have F:=zz (s.out.below v);obtain⟨V,W,X,Y,Z⟩:=F.out.bx.cells;have aa:=F.out.bx.lt;clear v s;go_wp2_with fail;have k0:¬9223372036854775807<H.size+1:=(by omega);have k1:¬9223372036854775807<H.size+1+o.size:=(by omega);have k2:¬9223372036854775807<H.size+1+o.size+1:=(by omega);have k3:¬9223372036854775807<H.size+1+o.size+1+tb.size:=(by omega);have kw:IntKind.i64.wrap 4=4:=(by decide);have r:=F.out.drew;clear F V W X Y Z
 go_region_held3 (fun f=>f.cell? ⟨w.heap.size,0,none⟩=some (.string o)/\f.cell? ⟨w.heap.size,3,none⟩=some (.slice (some ⟨g,0,none⟩) 2 d)/\f.cell? ⟨g,0,none⟩=some (.string j.o)/\f.cell? ⟨g,1,none⟩=some (.string j.nm)/\f.cell? ⟨g,2,none⟩=some (.int .i64 j.n)/\f.cell? ⟨g,3,none⟩=some (.slice j.A j.ll j.cap)/\f.cell? ⟨g,4,none⟩=some (.int .i64 j.p)/\f.cell? ⟨g,5,none⟩=some (.string k.o)/\f.cell? ⟨g,6,none⟩=some (.string k.nm)/\f.cell? ⟨g,7,none⟩=some (.int .i64 k.n)/\f.cell? ⟨g,8,none⟩=some (.slice k.A k.ll k.cap)/\f.cell? ⟨g,9,none⟩=some (.int .i64 k.p)) (exact r.get) (first
  | (go_at_call 90;(with_reducible refine(r.kid1 I.out K.out 3 3 (by decide) t.out).mono ?_);rintro e wA ⟨rfl,r⟩)
  | (go_at_call 90;(with_reducible refine(r.kid2 J.out L.out 4 4 (by decide) u.out).mono ?_);rintro e wA ⟨rfl,r⟩))
 (all_goals go_wp2);all_goals go_ret
 all_goals exact⟨CO (by rw[M.out];simp[t.out,u.out,U.out]),r.w⟩
theorem YJ{op:List UInt8}{a b:Ex}{q:Nat}(hr:rk op=5)(ha:FS a)(hb:FS b):FS (.bin op a b q):=by
 intro w S c Q O;obtain⟨A,d,rfl,G⟩:=Q.view;obtain⟨g,_,_,_,_,_,_,_,rfl,_⟩:=G 0 (by simp[Ex.kids]);obtain⟨j,D⟩:=Cd G 0 (by simp[Ex.kids]);obtain⟨k,E⟩:=Cd G 1 (by simp[Ex.kids]);have i:AR (.bin op a b q)=BQ (decide (rk a.op<6)) (AR a)++(32::op++32::BQ (decide (rk b.op<6)) (AR b)):=(by simp[AR,hr,lo]);have l:(AR a).length<=1000000:=(by rw[i,List.length_append]at O;have:=CN (decide (rk a.op<6)) (AR a);omega);have m:(AR b).length<=1000000:=(by rw[i,List.length_append,List.length_append,List.length_cons,List.length_cons]at O;have:=CN (decide (rk b.op<6)) (AR b);omega);have z:op.length<=3:=FV (by omega);have x:op≠Bk:=fun e=>(by rw[e]at hr;exact absurd hr (by decide));have y:op≠BA:=fun e=>(by rw[e]at hr;exact absurd hr (by decide));obtain⟨H,B,R⟩:=CC (BQ (decide (rk a.op<6)) (AR a)) 1000002 (Bn _ l);obtain⟨tb,C,T⟩:=CC (BQ (decide (rk b.op<6)) (AR b)) 1000002 (Bn _ m);change Calls Tryz.prog 57 #[.agg #[.string ⟨op.toArray⟩,.string ⟨([]:List UInt8).toArray⟩,.int .i64 ((0:Nat):Int),.slice (some ⟨g,0,none⟩) 2 d,.int .i64 (q:Int)]] w _;have g1:((⟨op.toArray⟩:ByteArray).toList==[110,117,109])=false:=Be x;have g2:((⟨op.toArray⟩:ByteArray).toList==[110,97,109,101])=false:=Be y;have P:=zz (Bl ⟨op.toArray⟩ (w.alloc (.cells #[.string ⟨op.toArray⟩,.string ⟨([]:List UInt8).toArray⟩,.int .i64 ((0:Nat):Int),.slice (some ⟨g,0,none⟩) 2 d,.int .i64 (q:Int)] 81)));have N:(⟨op.toArray⟩:ByteArray).data.toList=op:=rfl;rw[N,hr]at P;have ab:(⟨op.toArray⟩:ByteArray).size<=3:=(by rw[<- AU];exact z);have U:=zz N;have M:=zz i;have t:=zz B;have u:=zz C;have K:=zz l;have L:=zz m;have I:=zz ha;have J:=zz hb;have h:=(Below.refl w.heap.size w).alloc (Nat.le_refl _) (.cells #[.string ⟨op.toArray⟩,.string ⟨([]:List UInt8).toArray⟩,.int .i64 ((0:Nat):Int),.slice (some ⟨g,0,none⟩) 2 d,.int .i64 (q:Int)] 81);have s:=zz (show Ki w (w.alloc (.cells #[.string ⟨op.toArray⟩,.string ⟨([]:List UInt8).toArray⟩,.int .i64 ((0:Nat):Int),.slice (some ⟨g,0,none⟩) 2 d,.int .i64 (q:Int)] 81)) w.heap.size g ⟨op.toArray⟩ ⟨([]:List UInt8).toArray⟩ d ((0:Nat):Int) (q:Int) j k a b S from⟨heap_alloc_new w _,D.below h,E.below h,h⟩);clear Q G D E i B C l m ha hb h N O x y z;generalize(⟨op.toArray⟩:ByteArray)=o at*;generalize(⟨([]:List UInt8).toArray⟩:ByteArray)=nm at*;generalize((0:Nat):Int)=n0 at*;generalize(q:Int)=q0 at*;go_enter Tryz.func57,Tryz.ntmps57;go_wp2_with fail;refine(P.out).mono ?_;rintro e w1 ⟨rfl,v⟩;have F:=zz (s.out.below v);obtain⟨V,W,X,Y,Z⟩:=F.out.bx.cells;have aa:=F.out.bx.lt;clear v s;go_wp2_with fail;have k0:¬9223372036854775807<H.size+1:=(by omega);have k1:¬9223372036854775807<H.size+1+o.size:=(by omega);have k2:¬9223372036854775807<H.size+1+o.size+1:=(by omega);have k3:¬9223372036854775807<H.size+1+o.size+1+tb.size:=(by omega);have r:=F.out.drew;clear F V W X Y Z
 go_region_held3 (fun f=>f.cell? ⟨w.heap.size,0,none⟩=some (.string o)/\f.cell? ⟨w.heap.size,3,none⟩=some (.slice (some ⟨g,0,none⟩) 2 d)/\f.cell? ⟨g,0,none⟩=some (.string j.o)/\f.cell? ⟨g,1,none⟩=some (.string j.nm)/\f.cell? ⟨g,2,none⟩=some (.int .i64 j.n)/\f.cell? ⟨g,3,none⟩=some (.slice j.A j.ll j.cap)/\f.cell? ⟨g,4,none⟩=some (.int .i64 j.p)/\f.cell? ⟨g,5,none⟩=some (.string k.o)/\f.cell? ⟨g,6,none⟩=some (.string k.nm)/\f.cell? ⟨g,7,none⟩=some (.int .i64 k.n)/\f.cell? ⟨g,8,none⟩=some (.slice k.A k.ll k.cap)/\f.cell? ⟨g,9,none⟩=some (.int .i64 k.p)) (exact r.get) (first
  | (go_at_call 90;(with_reducible refine(r.kid1 I.out K.out 6 6 (by decide) t.out).mono ?_);rintro e wA ⟨rfl,r⟩)
  | (go_at_call 90;(with_reducible refine(r.kid2 J.out L.out 6 6 (by decide) u.out).mono ?_);rintro e wA ⟨rfl,r⟩))
 (all_goals go_wp2);all_goals go_ret
 all_goals exact⟨CO (by rw[M.out];simp[t.out,u.out,U.out]),r.w⟩
theorem YP{op:List UInt8}{a b:Ex}{q:Nat}(hr:rk op=6)(ha:FS a)(hb:FS b):FS (.bin op a b q):=by
 intro w S c Q O;obtain⟨A,d,rfl,G⟩:=Q.view;obtain⟨g,_,_,_,_,_,_,_,rfl,_⟩:=G 0 (by simp[Ex.kids]);obtain⟨j,D⟩:=Cd G 0 (by simp[Ex.kids]);obtain⟨k,E⟩:=Cd G 1 (by simp[Ex.kids]);have i:AR (.bin op a b q)=BQ (decide (rk a.op<6)) (AR a)++(32::op++32::BQ (decide (rk b.op<7)) (AR b)):=(by simp[AR,hr,lo]);have l:(AR a).length<=1000000:=(by rw[i,List.length_append]at O;have:=CN (decide (rk a.op<6)) (AR a);omega);have m:(AR b).length<=1000000:=(by rw[i,List.length_append,List.length_append,List.length_cons,List.length_cons]at O;have:=CN (decide (rk b.op<7)) (AR b);omega);have z:op.length<=3:=FV (by omega);have x:op≠Bk:=fun e=>(by rw[e]at hr;exact absurd hr (by decide));have y:op≠BA:=fun e=>(by rw[e]at hr;exact absurd hr (by decide));obtain⟨H,B,R⟩:=CC (BQ (decide (rk a.op<6)) (AR a)) 1000002 (Bn _ l);obtain⟨tb,C,T⟩:=CC (BQ (decide (rk b.op<7)) (AR b)) 1000002 (Bn _ m);change Calls Tryz.prog 57 #[.agg #[.string ⟨op.toArray⟩,.string ⟨([]:List UInt8).toArray⟩,.int .i64 ((0:Nat):Int),.slice (some ⟨g,0,none⟩) 2 d,.int .i64 (q:Int)]] w _;have g1:((⟨op.toArray⟩:ByteArray).toList==[110,117,109])=false:=Be x;have g2:((⟨op.toArray⟩:ByteArray).toList==[110,97,109,101])=false:=Be y;have P:=zz (Bl ⟨op.toArray⟩ (w.alloc (.cells #[.string ⟨op.toArray⟩,.string ⟨([]:List UInt8).toArray⟩,.int .i64 ((0:Nat):Int),.slice (some ⟨g,0,none⟩) 2 d,.int .i64 (q:Int)] 81)));have N:(⟨op.toArray⟩:ByteArray).data.toList=op:=rfl;rw[N,hr]at P;have ab:(⟨op.toArray⟩:ByteArray).size<=3:=(by rw[<- AU];exact z);have U:=zz N;have M:=zz i;have t:=zz B;have u:=zz C;have K:=zz l;have L:=zz m;have I:=zz ha;have J:=zz hb;have h:=(Below.refl w.heap.size w).alloc (Nat.le_refl _) (.cells #[.string ⟨op.toArray⟩,.string ⟨([]:List UInt8).toArray⟩,.int .i64 ((0:Nat):Int),.slice (some ⟨g,0,none⟩) 2 d,.int .i64 (q:Int)] 81);have s:=zz (show Ki w (w.alloc (.cells #[.string ⟨op.toArray⟩,.string ⟨([]:List UInt8).toArray⟩,.int .i64 ((0:Nat):Int),.slice (some ⟨g,0,none⟩) 2 d,.int .i64 (q:Int)] 81)) w.heap.size g ⟨op.toArray⟩ ⟨([]:List UInt8).toArray⟩ d ((0:Nat):Int) (q:Int) j k a b S from⟨heap_alloc_new w _,D.below h,E.below h,h⟩);clear Q G D E i B C l m ha hb h N O x y z;generalize(⟨op.toArray⟩:ByteArray)=o at*;generalize(⟨([]:List UInt8).toArray⟩:ByteArray)=nm at*;generalize((0:Nat):Int)=n0 at*;generalize(q:Int)=q0 at*;go_enter Tryz.func57,Tryz.ntmps57;go_wp2_with fail;refine(P.out).mono ?_;rintro e w1 ⟨rfl,v⟩;have F:=zz (s.out.below v);obtain⟨V,W,X,Y,Z⟩:=F.out.bx.cells;have aa:=F.out.bx.lt;clear v s;go_wp2_with fail;have k0:¬9223372036854775807<H.size+1:=(by omega);have k1:¬9223372036854775807<H.size+1+o.size:=(by omega);have k2:¬9223372036854775807<H.size+1+o.size+1:=(by omega);have k3:¬9223372036854775807<H.size+1+o.size+1+tb.size:=(by omega);have kw:IntKind.i64.wrap 7=7:=(by decide);have r:=F.out.drew;clear F V W X Y Z
 go_region_held3 (fun f=>f.cell? ⟨w.heap.size,0,none⟩=some (.string o)/\f.cell? ⟨w.heap.size,3,none⟩=some (.slice (some ⟨g,0,none⟩) 2 d)/\f.cell? ⟨g,0,none⟩=some (.string j.o)/\f.cell? ⟨g,1,none⟩=some (.string j.nm)/\f.cell? ⟨g,2,none⟩=some (.int .i64 j.n)/\f.cell? ⟨g,3,none⟩=some (.slice j.A j.ll j.cap)/\f.cell? ⟨g,4,none⟩=some (.int .i64 j.p)/\f.cell? ⟨g,5,none⟩=some (.string k.o)/\f.cell? ⟨g,6,none⟩=some (.string k.nm)/\f.cell? ⟨g,7,none⟩=some (.int .i64 k.n)/\f.cell? ⟨g,8,none⟩=some (.slice k.A k.ll k.cap)/\f.cell? ⟨g,9,none⟩=some (.int .i64 k.p)) (exact r.get) (first
  | (go_at_call 90;(with_reducible refine(r.kid1 I.out K.out 6 6 (by decide) t.out).mono ?_);rintro e wA ⟨rfl,r⟩)
  | (go_at_call 90;(with_reducible refine(r.kid2 J.out L.out 7 7 (by decide) u.out).mono ?_);rintro e wA ⟨rfl,r⟩))
 (all_goals go_wp2);all_goals go_ret
 all_goals exact⟨CO (by rw[M.out];simp[t.out,u.out,U.out]),r.w⟩
theorem X8{op:List UInt8}{a b:Ex}{q:Nat}(hr:rk op=7)(ha:FS a)(hb:FS b):FS (.bin op a b q):=by
 intro w S c Q O;obtain⟨A,d,rfl,G⟩:=Q.view;obtain⟨g,_,_,_,_,_,_,_,rfl,_⟩:=G 0 (by simp[Ex.kids]);obtain⟨j,D⟩:=Cd G 0 (by simp[Ex.kids]);obtain⟨k,E⟩:=Cd G 1 (by simp[Ex.kids]);have i:AR (.bin op a b q)=BQ (decide (rk a.op<7)) (AR a)++(32::op++32::BQ (decide (rk b.op<8)) (AR b)):=(by simp[AR,hr,lo]);have l:(AR a).length<=1000000:=(by rw[i,List.length_append]at O;have:=CN (decide (rk a.op<7)) (AR a);omega);have m:(AR b).length<=1000000:=(by rw[i,List.length_append,List.length_append,List.length_cons,List.length_cons]at O;have:=CN (decide (rk b.op<8)) (AR b);omega);have z:op.length<=3:=FV (by omega);have x:op≠Bk:=fun e=>(by rw[e]at hr;exact absurd hr (by decide));have y:op≠BA:=fun e=>(by rw[e]at hr;exact absurd hr (by decide));obtain⟨H,B,R⟩:=CC (BQ (decide (rk a.op<7)) (AR a)) 1000002 (Bn _ l);obtain⟨tb,C,T⟩:=CC (BQ (decide (rk b.op<8)) (AR b)) 1000002 (Bn _ m);change Calls Tryz.prog 57 #[.agg #[.string ⟨op.toArray⟩,.string ⟨([]:List UInt8).toArray⟩,.int .i64 ((0:Nat):Int),.slice (some ⟨g,0,none⟩) 2 d,.int .i64 (q:Int)]] w _;have g1:((⟨op.toArray⟩:ByteArray).toList==[110,117,109])=false:=Be x;have g2:((⟨op.toArray⟩:ByteArray).toList==[110,97,109,101])=false:=Be y;have P:=zz (Bl ⟨op.toArray⟩ (w.alloc (.cells #[.string ⟨op.toArray⟩,.string ⟨([]:List UInt8).toArray⟩,.int .i64 ((0:Nat):Int),.slice (some ⟨g,0,none⟩) 2 d,.int .i64 (q:Int)] 81)));have N:(⟨op.toArray⟩:ByteArray).data.toList=op:=rfl;rw[N,hr]at P;have ab:(⟨op.toArray⟩:ByteArray).size<=3:=(by rw[<- AU];exact z);have U:=zz N;have M:=zz i;have t:=zz B;have u:=zz C;have K:=zz l;have L:=zz m;have I:=zz ha;have J:=zz hb;have h:=(Below.refl w.heap.size w).alloc (Nat.le_refl _) (.cells #[.string ⟨op.toArray⟩,.string ⟨([]:List UInt8).toArray⟩,.int .i64 ((0:Nat):Int),.slice (some ⟨g,0,none⟩) 2 d,.int .i64 (q:Int)] 81);have s:=zz (show Ki w (w.alloc (.cells #[.string ⟨op.toArray⟩,.string ⟨([]:List UInt8).toArray⟩,.int .i64 ((0:Nat):Int),.slice (some ⟨g,0,none⟩) 2 d,.int .i64 (q:Int)] 81)) w.heap.size g ⟨op.toArray⟩ ⟨([]:List UInt8).toArray⟩ d ((0:Nat):Int) (q:Int) j k a b S from⟨heap_alloc_new w _,D.below h,E.below h,h⟩);clear Q G D E i B C l m ha hb h N O x y z;generalize(⟨op.toArray⟩:ByteArray)=o at*;generalize(⟨([]:List UInt8).toArray⟩:ByteArray)=nm at*;generalize((0:Nat):Int)=n0 at*;generalize(q:Int)=q0 at*;go_enter Tryz.func57,Tryz.ntmps57;go_wp2_with fail;refine(P.out).mono ?_;rintro e w1 ⟨rfl,v⟩;have F:=zz (s.out.below v);obtain⟨V,W,X,Y,Z⟩:=F.out.bx.cells;have aa:=F.out.bx.lt;clear v s;go_wp2_with fail;have k0:¬9223372036854775807<H.size+1:=(by omega);have k1:¬9223372036854775807<H.size+1+o.size:=(by omega);have k2:¬9223372036854775807<H.size+1+o.size+1:=(by omega);have k3:¬9223372036854775807<H.size+1+o.size+1+tb.size:=(by omega);have kw:IntKind.i64.wrap 8=8:=(by decide);have r:=F.out.drew;clear F V W X Y Z
 go_region_held3 (fun f=>f.cell? ⟨w.heap.size,0,none⟩=some (.string o)/\f.cell? ⟨w.heap.size,3,none⟩=some (.slice (some ⟨g,0,none⟩) 2 d)/\f.cell? ⟨g,0,none⟩=some (.string j.o)/\f.cell? ⟨g,1,none⟩=some (.string j.nm)/\f.cell? ⟨g,2,none⟩=some (.int .i64 j.n)/\f.cell? ⟨g,3,none⟩=some (.slice j.A j.ll j.cap)/\f.cell? ⟨g,4,none⟩=some (.int .i64 j.p)/\f.cell? ⟨g,5,none⟩=some (.string k.o)/\f.cell? ⟨g,6,none⟩=some (.string k.nm)/\f.cell? ⟨g,7,none⟩=some (.int .i64 k.n)/\f.cell? ⟨g,8,none⟩=some (.slice k.A k.ll k.cap)/\f.cell? ⟨g,9,none⟩=some (.int .i64 k.p)) (exact r.get) (first
  | (go_at_call 90;(with_reducible refine(r.kid1 I.out K.out 7 7 (by decide) t.out).mono ?_);rintro e wA ⟨rfl,r⟩)
  | (go_at_call 90;(with_reducible refine(r.kid2 J.out L.out 8 8 (by decide) u.out).mono ?_);rintro e wA ⟨rfl,r⟩))
 (all_goals go_wp2);all_goals go_ret
 all_goals exact⟨CO (by rw[M.out];simp[t.out,u.out,U.out]),r.w⟩
end
section
open Go.RowKit Go.Sort
def BX(w:World)(o nm:ByteArray)(n:Int)(A:Option Addr)(l cap:Nat)(p:Int):World:=w.alloc (.cells #[.string o,.string nm,.int .i64 n,.slice A l cap,.int .i64 p] 81)
theorem Ff(w:World)(o nm:ByteArray)(n:Int)(A:Option Addr)(l cap:Nat)(p:Int):Below w.heap.size w (BX w o nm n A l cap p):=(Below.refl _ _).alloc (Nat.le_refl _) _
theorem JA(w:World)(o nm:ByteArray)(n:Int)(A:Option Addr)(l cap:Nat)(p:Int):Az (BX w o nm n A l cap p) w.heap.size (.string o) (.string nm) (.int .i64 n) (.slice A l cap) (.int .i64 p):=heap_alloc_new w _
theorem W6(n p:Nat)(hn:n<9223372036854775808):FS (.leaf Bk [] n p):=by intro w S c s u;obtain rfl:c=_:=s;have m:AR (.leaf Bk [] n p)=CJ n:=rfl;rw[m];change Calls Tryz.prog 57 #[.agg #[.string ⟨#[110,117,109]⟩,.string ⟨#[]⟩,.int .i64 (n:Int),.slice none 0 0,.int .i64 (p:Int)]] w _;have k:=zz (Bl ⟨#[110,117,109]⟩ (w.alloc (.cells #[.string ⟨#[110,117,109]⟩,.string ⟨#[]⟩,.int .i64 (n:Int),.slice none 0 0,.int .i64 (p:Int)] 81)));have l:rk (⟨#[110,117,109]⟩:ByteArray).data.toList=9:=(by decide);rw[l]at k;have a:=zz (Ff w ⟨#[110,117,109]⟩ ⟨#[]⟩ (n:Int) none 0 0 (p:Int));have g:=zz (JA w ⟨#[110,117,109]⟩ ⟨#[]⟩ (n:Int) none 0 0 (p:Int));unfold BX at a g;have q:=zz (FJ n hn);clear m l u;go_enter Tryz.func57,Tryz.ntmps57;go_wp2_with fail;refine(k.out).mono ?_;rintro e v ⟨rfl,b⟩;have f:=zz (a.out.trans (b.mono a.out.size));have j:=g.out.below b;obtain⟨x,y,z,A,B⟩:=j.cells;have t:=j.lt;clear b j;go_wp2_with fail;refine(q.out v).mono ?_;rintro e C ⟨rfl,h⟩;have i:=zz (f.out.trans (h.mono f.out.size));clear h;obtain⟨o,d⟩:∃o:ByteArray,o.data.toList=CJ n:=⟨⟨(CJ n).toArray⟩,rfl⟩;have r:=zz d;rw[<- Bw d];clear d;go_wp2;go_ret;exact⟨CO r.out,i.out⟩
theorem UR(nm:List UInt8)(p:Nat):FS (.leaf BA nm 0 p):=by intro w S c l n;obtain rfl:c=_:=l;have k:AR (.leaf BA nm 0 p)=nm:=(by simp[AR,BA,Bk]);rw[k];change Calls Tryz.prog 57 #[.agg #[.string ⟨#[110,97,109,101]⟩,.string ⟨nm.toArray⟩,.int .i64 0,.slice none 0 0,.int .i64 (p:Int)]] w _;have i:=zz (Bl ⟨#[110,97,109,101]⟩ (w.alloc (.cells #[.string ⟨#[110,97,109,101]⟩,.string ⟨nm.toArray⟩,.int .i64 0,.slice none 0 0,.int .i64 (p:Int)] 81)));have j:rk (⟨#[110,97,109,101]⟩:ByteArray).data.toList=9:=(by decide);rw[j]at i;have a:=zz (Ff w ⟨#[110,97,109,101]⟩ ⟨nm.toArray⟩ 0 none 0 0 (p:Int));have d:=zz (JA w ⟨#[110,97,109,101]⟩ ⟨nm.toArray⟩ 0 none 0 0 (p:Int));unfold BX at a d;have g:=zz (show(⟨nm.toArray⟩:ByteArray).data.toList=nm from rfl);clear k j n;generalize(⟨nm.toArray⟩:ByteArray)=nb at*;go_enter Tryz.func57,Tryz.ntmps57;go_wp2_with fail;refine(i.out).mono ?_;rintro e u ⟨rfl,b⟩;have f:=zz (a.out.trans (b.mono a.out.size));have h:=d.out.below b;obtain⟨o,q,r,s,t⟩:=h.cells;have m:=h.lt;clear b h;go_wp2;go_ret;exact⟨CO g.out,f.out⟩
theorem T0(op:List UInt8)(p:Nat)(ho:op=Au∨op=Bu):FS (.leaf op [] 0 p):=by
 intro w S c o r;obtain rfl:c=_:=o;have n:AR (.leaf op [] 0 p)=op:=by rcases ho with rfl | rfl<;>rfl
 rw[n];have m:rk op=9:=by rcases ho with rfl | rfl<;>rfl
 have f:op≠Bk:=by rcases ho with rfl | rfl<;>decide
 have g:op≠BA:=by rcases ho with rfl | rfl<;>decide
 have y:((⟨op.toArray⟩:ByteArray).toList==[110,117,109])=false:=Be f;have z:((⟨op.toArray⟩:ByteArray).toList==[110,97,109,101])=false:=Be g;change Calls Tryz.prog 57 #[.agg #[.string ⟨op.toArray⟩,.string ⟨#[]⟩,.int .i64 0,.slice none 0 0,.int .i64 (p:Int)]] w _;have k:=zz (Bl ⟨op.toArray⟩ (w.alloc (.cells #[.string ⟨op.toArray⟩,.string ⟨#[]⟩,.int .i64 0,.slice none 0 0,.int .i64 (p:Int)] 81)));have l:rk (⟨op.toArray⟩:ByteArray).data.toList=9:=m;rw[l]at k;have a:=zz (Ff w ⟨op.toArray⟩ ⟨#[]⟩ 0 none 0 0 (p:Int));have d:=zz (JA w ⟨op.toArray⟩ ⟨#[]⟩ 0 none 0 0 (p:Int));unfold BX at a d;have i:=zz (show(⟨op.toArray⟩:ByteArray).data.toList=op from rfl);clear n l r f g m ho;generalize(⟨op.toArray⟩:ByteArray)=nb at*;go_enter Tryz.func57,Tryz.ntmps57;go_wp2_with fail;refine(k.out).mono ?_;rintro e A ⟨rfl,b⟩;have h:=zz (a.out.trans (b.mono a.out.size));have j:=d.out.below b;obtain⟨s,t,u,v,x⟩:=j.cells;have q:=j.lt;clear b j;go_wp2;go_ret;exact⟨CO i.out,h.out⟩
theorem Wt{a:Ex}{q:Nat}(ha:FS a):FS (.un [33] a q):=by intro w S c C D;obtain⟨A,d,rfl,y⟩:=C.view;obtain⟨g,_,_,_,_,_,_,_,rfl,_⟩:=y 0 (by simp[Ex.kids]);obtain⟨T,p⟩:=Cd y 0 (by simp[Ex.kids]);have i:AR (.un [33] a q)=33::BQ (decide (rk a.op<4)) (AR a):=rfl;have h:(AR a).length<=1000000:=(by rw[i,List.length_cons]at D;have:=CN (decide (rk a.op<4)) (AR a);omega);obtain⟨R,o,E⟩:=CC (BQ (decide (rk a.op<4)) (AR a)) 1000002 (Bn _ h);change Calls Tryz.prog 57 #[.agg #[.string ⟨#[33]⟩,.string ⟨([]:List UInt8).toArray⟩,.int .i64 ((0:Nat):Int),.slice (some ⟨g,0,none⟩) 1 d,.int .i64 (q:Int)]] w _;have B:=zz (Bl ⟨#[33]⟩ (w.alloc (.cells #[.string ⟨#[33]⟩,.string ⟨([]:List UInt8).toArray⟩,.int .i64 ((0:Nat):Int),.slice (some ⟨g,0,none⟩) 1 d,.int .i64 (q:Int)] 81)));have x:rk (⟨#[33]⟩:ByteArray).data.toList=4:=(by decide);rw[x]at B;have b:=zz (Ff w ⟨#[33]⟩ ⟨([]:List UInt8).toArray⟩ ((0:Nat):Int) (some ⟨g,0,none⟩) 1 d (q:Int));have l:=zz (JA w ⟨#[33]⟩ ⟨([]:List UInt8).toArray⟩ ((0:Nat):Int) (some ⟨g,0,none⟩) 1 d (q:Int));unfold BX at b l;have F:=zz p;have u:=zz i;have k:=zz o;have t:=zz h;have s:=zz ha;clear C y p i o h ha x D;generalize(⟨([]:List UInt8).toArray⟩:ByteArray)=nm at*;generalize((0:Nat):Int)=n0 at*;generalize(q:Int)=q0 at*;go_enter Tryz.func57,Tryz.ntmps57;go_wp2_with fail;refine(B.out).mono ?_;rintro e U ⟨rfl,f⟩;have j:=zz (b.out.trans (f.mono b.out.size));have z:=l.out.below f;have m:=F.out.below (b.out.trans (f.mono b.out.size));obtain⟨I,J,K,L,M⟩:=z.cells;have G:=z.lt;have v:=zz m;obtain⟨H,N,x,O,P,Q,_⟩:=m;clear f z;go_wp2_with fail;refine(Fo s.out v.out.2.2.2.2.2.2 t.out 4).mono ?_;rintro e V ⟨rfl,n⟩;have r:=zz (j.out.trans (n.mono j.out.size));rw[<- Bw k.out];clear n;go_wp2;go_ret;exact⟨CO (by rw[u.out];simp[k.out]),r.out⟩
theorem Vz{a:Ex}{q:Nat}(ha:FS a):FS (.un C0 a q):=by intro w S c C D;obtain⟨A,d,rfl,y⟩:=C.view;obtain⟨g,_,_,_,_,_,_,_,rfl,_⟩:=y 0 (by simp[Ex.kids]);obtain⟨T,p⟩:=Cd y 0 (by simp[Ex.kids]);have i:AR (.un C0 a q)=45::BQ (decide (rk a.op<8)) (AR a):=rfl;have h:(AR a).length<=1000000:=(by rw[i,List.length_cons]at D;have:=CN (decide (rk a.op<8)) (AR a);omega);obtain⟨R,o,E⟩:=CC (BQ (decide (rk a.op<8)) (AR a)) 1000002 (Bn _ h);change Calls Tryz.prog 57 #[.agg #[.string ⟨#[110,101,103]⟩,.string ⟨([]:List UInt8).toArray⟩,.int .i64 ((0:Nat):Int),.slice (some ⟨g,0,none⟩) 1 d,.int .i64 (q:Int)]] w _;have B:=zz (Bl ⟨#[110,101,103]⟩ (w.alloc (.cells #[.string ⟨#[110,101,103]⟩,.string ⟨([]:List UInt8).toArray⟩,.int .i64 ((0:Nat):Int),.slice (some ⟨g,0,none⟩) 1 d,.int .i64 (q:Int)] 81)));have x:rk (⟨#[110,101,103]⟩:ByteArray).data.toList=8:=(by decide);rw[x]at B;have b:=zz (Ff w ⟨#[110,101,103]⟩ ⟨([]:List UInt8).toArray⟩ ((0:Nat):Int) (some ⟨g,0,none⟩) 1 d (q:Int));have l:=zz (JA w ⟨#[110,101,103]⟩ ⟨([]:List UInt8).toArray⟩ ((0:Nat):Int) (some ⟨g,0,none⟩) 1 d (q:Int));unfold BX at b l;have F:=zz p;have u:=zz i;have k:=zz o;have t:=zz h;have s:=zz ha;clear C y p i o h ha x D;generalize(⟨([]:List UInt8).toArray⟩:ByteArray)=nm at*;generalize((0:Nat):Int)=n0 at*;generalize(q:Int)=q0 at*;go_enter Tryz.func57,Tryz.ntmps57;go_wp2_with fail;refine(B.out).mono ?_;rintro e U ⟨rfl,f⟩;have j:=zz (b.out.trans (f.mono b.out.size));have z:=l.out.below f;have m:=F.out.below (b.out.trans (f.mono b.out.size));obtain⟨I,J,K,L,M⟩:=z.cells;have G:=z.lt;have v:=zz m;obtain⟨H,N,x,O,P,Q,_⟩:=m;clear f z;go_wp2_with fail;refine(Fo s.out v.out.2.2.2.2.2.2 t.out 8).mono ?_;rintro e V ⟨rfl,n⟩;have r:=zz (j.out.trans (n.mono j.out.size));rw[<- Bw k.out];clear n;go_wp2;go_ret;exact⟨CO (by rw[u.out];simp[k.out]),r.out⟩
structure ML(w W:World)(bx g:Nat)(o nm:ByteArray)(cap:Nat)(n p:Int)(va vb vc:XV)(a b c:Ex)(S:Nat->Prop):Prop where
 bx:Az W bx (.string o) (.string nm) (.int .i64 n) (.slice (some ⟨g,0,none⟩) 3 cap) (.int .i64 p)
 a:UP W g 0 va a S
 b:UP W g 5 vb b S
 c:UP W g 10 vc c S
 w:Below w.heap.size w W
section
variable {w W W':World} {bx g:Nat} {o nm:ByteArray} {cap:Nat} {n p:Int} {va vb vc:XV} {a b c:Ex} {S:Nat->Prop}
theorem ML.below(m:ML w W bx g o nm cap n p va vb vc a b c S)(hb:Below W.heap.size W W'):ML w W' bx g o nm cap n p va vb vc a b c S:=⟨m.bx.below hb,m.a.below hb,m.b.below hb,m.c.below hb,m.w.trans (hb.mono m.w.size)⟩
theorem ML.drew(m:ML w W bx g o nm cap n p va vb vc a b c S):ML w W.drew bx g o nm cap n p va vb vc a b c S:=m.below (Below.refl _ _).drew
theorem ML.get(m:ML w W bx g o nm cap n p va vb vc a b c S):(fun w':World=>w'.cell? ⟨bx,3,none⟩=some (.slice (some ⟨g,0,none⟩) 3 cap)/\w'.cell? ⟨g,0,none⟩=some (.string va.o)/\w'.cell? ⟨g,1,none⟩=some (.string va.nm)/\w'.cell? ⟨g,2,none⟩=some (.int .i64 va.n)/\w'.cell? ⟨g,3,none⟩=some (.slice va.A va.ll va.cap)/\w'.cell? ⟨g,4,none⟩=some (.int .i64 va.p)/\w'.cell? ⟨g,5,none⟩=some (.string vb.o)/\w'.cell? ⟨g,6,none⟩=some (.string vb.nm)/\w'.cell? ⟨g,7,none⟩=some (.int .i64 vb.n)/\w'.cell? ⟨g,8,none⟩=some (.slice vb.A vb.ll vb.cap)/\w'.cell? ⟨g,9,none⟩=some (.int .i64 vb.p)/\w'.cell? ⟨g,10,none⟩=some (.string vc.o)/\w'.cell? ⟨g,11,none⟩=some (.string vc.nm)/\w'.cell? ⟨g,12,none⟩=some (.int .i64 vc.n)/\w'.cell? ⟨g,13,none⟩=some (.slice vc.A vc.ll vc.cap)/\w'.cell? ⟨g,14,none⟩=some (.int .i64 vc.p)) W:=by obtain⟨_,e,f,h,i,j,_⟩:=m.a;obtain⟨_,k,l,q,r,s,_⟩:=m.b;obtain⟨_,t,u,v,x,y,_⟩:=m.c;obtain⟨z,_,_,d,_⟩:=m.bx.cells;exact⟨d,e,f,h,i,j,k,l,q,r,s,t,u,v,x,y⟩
def WJ(w:World)(bx g:Nat)(o nm:ByteArray)(cap:Nat)(n p:Int)(va vb vc:XV)(a b c:Ex)(S:Nat->Prop)(t:ByteArray)(e:Ending)(w':World):Prop:=e= .returned (.string t)/\ML w w' bx g o nm cap n p va vb vc a b c S
theorem ML.kid1(m:ML w W bx g o nm cap n p va vb vc a b c S)(ih:FS a)(hl:(AR a).length<=1000000)(r:Nat)(z:Int)(hz:z=(r:Int)){t:ByteArray}(ht:t.data.toList=BQ (decide (rk a.op<r)) (AR a)):Calls Tryz.prog 90 #[.agg #[.string va.o,.string va.nm,.int .i64 va.n,.slice va.A va.ll va.cap,.int .i64 va.p],.int .i64 z] W (WJ w bx g o nm cap n p va vb vc a b c S t):=
 hz▸(Fo ih m.a.2.2.2.2.2.2 hl r).mono fun _ _ ⟨d,e⟩=>⟨by rw[d,Bw ht],m.below e⟩
theorem ML.pr2(m:ML w W bx g o nm cap n p va vb vc a b c S)(ih:FS b)(hl:(AR b).length<=1000000){t:ByteArray}(ht:t.data.toList=AR b):Calls Tryz.prog 57 #[.agg #[.string vb.o,.string vb.nm,.int .i64 vb.n,.slice vb.A vb.ll vb.cap,.int .i64 vb.p]] W (WJ w bx g o nm cap n p va vb vc a b c S t):=
 (ih W S _ m.b.2.2.2.2.2.2 hl).mono fun _ _ ⟨d,e⟩=>⟨by rw[d,Bw ht],m.below e⟩
theorem ML.pr3(m:ML w W bx g o nm cap n p va vb vc a b c S)(ih:FS c)(hl:(AR c).length<=1000000){t:ByteArray}(ht:t.data.toList=AR c):Calls Tryz.prog 57 #[.agg #[.string vc.o,.string vc.nm,.int .i64 vc.n,.slice vc.A vc.ll vc.cap,.int .i64 vc.p]] W (WJ w bx g o nm cap n p va vb vc a b c S t):=
 (ih W S _ m.c.2.2.2.2.2.2 hl).mono fun _ _ ⟨d,e⟩=>⟨by rw[d,Bw ht],m.below e⟩
end
theorem Tq{a b d:Ex}{q:Nat}(ha:FS a)(hb:FS b)(hd:FS d):FS (.cond a b d q):=by
 intro w S c Y U;obtain⟨A,h,rfl,B⟩:=Y.view;obtain⟨g,_,_,_,_,_,_,_,rfl,_⟩:=B 0 (by simp[Ex.kids]);obtain⟨k,H⟩:=Cd B 0 (by simp[Ex.kids]);obtain⟨l,I⟩:=Cd B 1 (by simp[Ex.kids]);obtain⟨m,J⟩:=Cd B 2 (by simp[Ex.kids]);have s:AR (.cond a b d q)=BQ (decide (rk a.op<1)) (AR a)++(32::63::32::(AR b++(32::58::32::AR d))):=rfl;have y:(BQ (decide (rk a.op<1)) (AR a)).length+(AR b).length+(AR d).length<=1000000:=(by rw[s]at U;simp only[List.length_append,List.length_cons]at U;omega);have r:(AR a).length<=1000000:=(by have:=CN (decide (rk a.op<1)) (AR a);omega);have C:(AR b).length<=1000000:=(by omega);have D:(AR d).length<=1000000:=(by omega);obtain⟨L,E,Z⟩:=CC (BQ (decide (rk a.op<1)) (AR a)) 1000002 (Bn _ r);obtain⟨V,F,aa⟩:=CC (AR b) 1000002 (by omega);obtain⟨td,G,ab⟩:=CC (AR d) 1000002 (by omega);change Calls Tryz.prog 57 #[.agg #[.string ⟨#[63]⟩,.string ⟨([]:List UInt8).toArray⟩,.int .i64 ((0:Nat):Int),.slice (some ⟨g,0,none⟩) 3 h,.int .i64 (q:Int)]] w _;have W:=zz (Bl ⟨#[63]⟩ (w.alloc (.cells #[.string ⟨#[63]⟩,.string ⟨([]:List UInt8).toArray⟩,.int .i64 ((0:Nat):Int),.slice (some ⟨g,0,none⟩) 3 h,.int .i64 (q:Int)] 81)));have X:rk (⟨#[63]⟩:ByteArray).data.toList=0:=(by decide);rw[X]at W;have T:=zz s;have u:=zz E;have v:=zz F;have x:=zz G;have P:=zz r;have Q:=zz C;have R:=zz D;have M:=zz ha;have N:=zz hb;have O:=zz hd;have i:=(Below.refl w.heap.size w).alloc (Nat.le_refl _) (.cells #[.string ⟨#[63]⟩,.string ⟨([]:List UInt8).toArray⟩,.int .i64 ((0:Nat):Int),.slice (some ⟨g,0,none⟩) 3 h,.int .i64 (q:Int)] 81);have t:=zz (show ML w (w.alloc (.cells #[.string ⟨#[63]⟩,.string ⟨([]:List UInt8).toArray⟩,.int .i64 ((0:Nat):Int),.slice (some ⟨g,0,none⟩) 3 h,.int .i64 (q:Int)] 81)) w.heap.size g ⟨#[63]⟩ ⟨([]:List UInt8).toArray⟩ h ((0:Nat):Int) (q:Int) k l m a b d S from⟨heap_alloc_new w _,H.below i,I.below i,J.below i,i⟩);clear Y B H I J s E F G r C D y ha hb hd i X U;generalize(⟨([]:List UInt8).toArray⟩:ByteArray)=nm at*;generalize((0:Nat):Int)=n0 at*;generalize(q:Int)=q0 at*;go_enter Tryz.func57,Tryz.ntmps57;go_wp2_with fail;refine(W.out).mono ?_;rintro e w1 ⟨rfl,z⟩;have K:=zz (t.out.below z);obtain⟨b0,b1,b2,b3,b4⟩:=K.out.bx.cells;have ac:=K.out.bx.lt;clear z t;go_wp2_with fail;have k0:¬9223372036854775807<L.size+3:=(by omega);have k1:¬9223372036854775807<L.size+3+V.size:=(by omega);have k2:¬9223372036854775807<L.size+3+V.size+3:=(by omega);have k3:¬9223372036854775807<L.size+3+V.size+3+td.size:=(by omega);have j:=K.out.drew;clear K b0 b1 b2 b3 b4
 go_region_held3 (fun f=>f.cell? ⟨w.heap.size,3,none⟩=some (.slice (some ⟨g,0,none⟩) 3 h)/\f.cell? ⟨g,0,none⟩=some (.string k.o)/\f.cell? ⟨g,1,none⟩=some (.string k.nm)/\f.cell? ⟨g,2,none⟩=some (.int .i64 k.n)/\f.cell? ⟨g,3,none⟩=some (.slice k.A k.ll k.cap)/\f.cell? ⟨g,4,none⟩=some (.int .i64 k.p)/\f.cell? ⟨g,5,none⟩=some (.string l.o)/\f.cell? ⟨g,6,none⟩=some (.string l.nm)/\f.cell? ⟨g,7,none⟩=some (.int .i64 l.n)/\f.cell? ⟨g,8,none⟩=some (.slice l.A l.ll l.cap)/\f.cell? ⟨g,9,none⟩=some (.int .i64 l.p)/\f.cell? ⟨g,10,none⟩=some (.string m.o)/\f.cell? ⟨g,11,none⟩=some (.string m.nm)/\f.cell? ⟨g,12,none⟩=some (.int .i64 m.n)/\f.cell? ⟨g,13,none⟩=some (.slice m.A m.ll m.cap)/\f.cell? ⟨g,14,none⟩=some (.int .i64 m.p)) (exact j.get) (first
  | (go_at_call 90;(with_reducible refine(j.kid1 M.out P.out 1 1 (by decide) u.out).mono ?_);rintro e wA ⟨rfl,j⟩)
  | (go_at_call 57;(with_reducible refine(j.pr2 N.out Q.out v.out).mono ?_);rintro e wA ⟨rfl,j⟩)
  | (go_at_call 57;(with_reducible refine(j.pr3 O.out R.out x.out).mono ?_);rintro e wA ⟨rfl,j⟩))
 (all_goals go_wp2);all_goals go_ret
 all_goals exact⟨CO (by rw[T.out];simp[u.out,v.out,x.out]),j.w⟩
theorem WO{op:List UInt8}{a b:Ex}{q:Nat}(h:rk op=1∨rk op=2∨rk op=3∨rk op=5∨rk op=6∨rk op=7)(ha:FS a)(hb:FS b):FS (.bin op a b q):=by
 rcases h with h | h | h | h | h | h
 · exact YD h ha hb
 · exact YT h ha hb
 · exact X6 h ha hb
 · exact YJ h ha hb
 · exact YP h ha hb
 · exact X8 h ha hb
theorem Fl:∀x:Ex,Ok x->FS x
 | .leaf op nm n p,h=>by
   rcases h with⟨rfl,rfl,h⟩ | ⟨rfl,rfl,_⟩ | ⟨h,rfl,rfl⟩
   · exact W6 n p h
   · exact UR nm p
   · exact T0 op p h
 | .un op a p,h=>by
   rcases h.1 with rfl | rfl
   · exact Wt (Fl a h.2)
   · exact Vz (Fl a h.2)
 | .bin op a b p,h=>WO h.1 (Fl a h.2.1) (Fl b h.2.2)
 | .cond a b c p,h=>Tq (Fl a h.1) (Fl b h.2.1) (Fl c h.2.2)
end
end
section
section
def Fh(B:Nat):Ex->Prop
 | .leaf _ _ _ p=>p<=B
 | .un _ a p=>p<=B/\Fh B a
 | .bin _ a b p=>p<=B/\Fh B a/\Fh B b
 | .cond a b c p=>p<=B/\Fh B a/\Fh B b/\Fh B c
theorem Du{B:Nat}:∀{e:Ex},Fh B e->e.pos<=B
 | .leaf _ _ _ _,h=>h
 | .un _ _ _,h=>h.1
 | .bin _ _ _ _,h=>h.1
 | .cond _ _ _ _,h=>h.1
theorem Pu{B q:Nat}(hq:q<=B):∀{e:Ex},Fh B e->Fh B (e.move q)
 | .leaf _ _ _ _,_=>hq
 | .un _ _ _,h=>⟨hq,h.2⟩
 | .bin _ _ _ _,h=>⟨hq,h.2⟩
 | .cond _ _ _ _,h=>⟨hq,h.2⟩
def Tf(B:Nat)(us:List AH):Prop:=∀t∈us,t.pos<=B
theorem C5{B:Nat}{us:List AH}(h:Tf B us):Tf B us.tail:=fun t a=>h t (List.mem_of_mem_tail a)
theorem J4{B:Nat}{us:List AH}(h:Tf B us):(hd us).pos<=B:=by
 cases us with
 | nil=>exact Nat.zero_le _
 | cons t r=>exact h t (List.mem_cons_self ..)
def Pb(B:Nat)(F:List AH->PR):Prop:=∀us e r,Tf B us->F us= .ok e r->Fh B e/\Tf B r
structure XM(B:Nat)(d:Dp):Prop where
 c:Pb B d.c
 i:Pb B d.i
 n:Pb B d.n
 m:Pb B d.m
theorem TO{B:Nat}{d:Dp}(h:XM B d):Pb B (Bj d):=by
 intro l e r f a;unfold Bj at a;split at a
 · obtain⟨b,k,g,_,rfl,rfl⟩:=EG a;obtain⟨i,j⟩:=h.c _ _ _ (C5 f) g;exact⟨Pu (J4 f) i,C5 j⟩
 · split at a
   · injection a with g i
     subst g i;refine⟨?_,C5 f⟩;unfold Cr;split<;>exact J4 f
   · split at a
     · injection a with g i
       subst g i;exact⟨J4 f,C5 f⟩
     · cases a
theorem Rq{B:Nat}{d:Dp}(h:XM B d):Pb B (Ah d):=by
 intro j e r c a;unfold Ah at a;split at a
 · obtain⟨b,f,rfl⟩:=Cm a;obtain⟨g,i⟩:=h.m _ _ _ (C5 c) f;exact⟨⟨J4 c,g⟩,i⟩
 · exact TO h j e r c a
theorem Jz{B k:Nat}{F:List AH->PR}(hF:Pb B F):∀(f:Nat) (e:Ex) (us:List AH) (x:Ex) (r:List AH),Tf B us->Fh B e->BZ k F f e us= .ok x r->Fh B x/\Tf B r
 | 0,e,us,x,r,h1,h2,h=>by
   injection h with h h'
   subst h h';exact⟨h2,h1⟩
 | f+1,e,us,x,r,h1,h2,h=>by
   rw[BZ]at h;split at h
   · split at h
     · cases h
     · rename_i e' r' hj;obtain⟨b,h3,rfl⟩:=Aj hj;obtain⟨a,c⟩:=hF _ _ _ (C5 h1) h3;exact Jz hF f _ r' x r c (show Fh B (.bin (hd us).text e b e.pos)from⟨Du h2,h2,a⟩) h
   · injection h with h h'
     subst h h';exact⟨h2,h1⟩
theorem G2{B k:Nat}{F:List AH->PR}(hF:Pb B F):Pb B (Ar k F):=by
 intro g x r f h;unfold Ar at h;cases a:F g with
 | er c p=>rw[a]at h;cases h
 | ok e i=>rw[a]at h;obtain⟨b,d⟩:=hF _ _ _ f a;exact Jz hF _ _ _ _ _ d b h
theorem Un{B:Nat}{d:Dp}(hF:Pb B (Cu d)):Pb B (BC d):=by
 intro n x r m h;unfold BC at h;cases e:Cu d n with
 | er c p=>rw[e]at h;cases h
 | ok a o=>
   rw[e]at h;obtain⟨f,g⟩:=hF _ _ _ m e;simp only[Fd]at h;split at h
   · obtain⟨b,j,rfl⟩:=Aj h;obtain⟨k,l⟩:=hF _ _ _ (C5 g) j;exact⟨⟨Du f,f,k⟩,l⟩
   · injection h with h i
     subst h i;exact⟨f,g⟩
theorem V4{B:Nat}{d:Dp}(h4:XM B d)(hF:Pb B (BC d)):Pb B (Ch d):=by
 intro i e r c a;unfold Ch at a;split at a
 · obtain⟨b,f,rfl⟩:=Cm a;obtain⟨g,h⟩:=h4.n _ _ _ (C5 c) f;exact⟨⟨J4 c,g⟩,h⟩
 · exact hF i e r c a
theorem Uj{B:Nat}{d:Dp}(h4:XM B d)(hF:Pb B (CK d)):Pb B (Am d):=by
 intro o x r n h;unfold Am at h;cases e:CK d o with
 | er c p=>rw[e]at h;cases h
 | ok a q=>
   rw[e]at h;obtain⟨f,g⟩:=hF _ _ _ n e;simp only[Fm]at h;split at h
   · obtain⟨b,k,rfl⟩:=Aj h;obtain⟨l,m⟩:=h4.i _ _ _ (C5 g) k;exact⟨⟨Du f,f,l⟩,m⟩
   · injection h with h j
     subst h j;exact⟨f,g⟩
theorem UM{B:Nat}{d:Dp}(h4:XM B d)(hF:Pb B (Am d)):Pb B (Bd d):=by
 intro t x r p h;obtain⟨a,q,j,k⟩:=Dv h;obtain⟨g,i⟩:=hF _ _ _ p j;rcases k with⟨_,rfl,rfl⟩ | ⟨_,b,s,l,_,c,m,rfl⟩
 · exact⟨g,i⟩
 · obtain⟨n,o⟩:=h4.c _ _ _ (C5 i) l;obtain⟨e,f⟩:=h4.c _ _ _ (C5 o) m;exact⟨⟨Du g,g,n,e⟩,f⟩
theorem VM(B:Nat):∀l,XM B (dp l)
 | 0=>⟨(fun _ _ _ _ h=>nomatch h),(fun _ _ _ _ h=>nomatch h),(fun _ _ _ _ h=>nomatch h),(fun _ _ _ _ h=>nomatch h)⟩
 | l+1=>by have h:=VM B l;have m:=Rq h;have p:Pb B (EY (dp l)):=G2 m;have s:Pb B (Cu (dp l)):=G2 p;have n:=V4 h (Un s);have a:Pb B (Eb (dp l)):=G2 n;have o:Pb B (CK (dp l)):=G2 a;have i:=Uj h o;exact⟨UM h i,i,n,m⟩
theorem Ld{l:List UInt8}:∀{ts:List AH} {i:Nat},ZQ l i ts->Tf l.length ts
 | [],_,h=>by simp[ZQ]at h
 | [t],_,h=>by intro u hu;obtain rfl:=List.mem_singleton.1 hu;exact Nat.le_of_eq h.2.2.2
 | t::u::us,_,h=>by
   obtain⟨_,c,⟨n,_,_,b⟩,_⟩:=h;intro v a;rcases List.mem_cons.1 a with rfl | a
   · omega
   · exact Ld b v a
def T7(x:Ex):List UInt8:=40::(x.op++32::(x.nm++32::(CJ x.num++32::CJ x.pos)))
def QD(ks:List Ex):List UInt8:=(ks.map Il).flatten
theorem WI(x:Ex):Il x=T7 x++QD x.kids++[41]:=by cases x<;>simp[Il,T7,QD,Ex.op,Ex.nm,Ex.num,Ex.pos,Ex.kids]
theorem I1{x:Ex}(h:Ok x):x.num<9223372036854775808:=by
 cases x with
 | leaf op nm n p=>rcases h with⟨_,_,h⟩ | ⟨_,h,_⟩ | ⟨_,_,h⟩<;>(show n<_;omega)
 | un op a p=>show 0<_;omega
 | bin op a b p=>show 0<_;omega
 | cond a b c p=>show 0<_;omega
theorem EV(b:Bool)(l:List UInt8):l.length<=(BQ b l).length:=by cases b<;>simp[BQ]<;>omega
theorem EK:∀x:Ex,Ok x->x.size<=(AR x).length
 | .leaf op nm n p,h=>N4 _ h
 | .un op a p,h=>by have:=EK a h.2;have d:=EV (decide (rk a.op<rk op)) (AR a);simp only[Ex.size,AR,List.length_cons];omega
 | .bin op a b p,h=>by have e:=EK a h.2.1;have d:=EK b h.2.2;have f:=EV (decide (rk a.op<lo (rk op) 0)) (AR a);have g:=EV (decide (rk b.op<lo (rk op) 1)) (AR b);simp only[Ex.size,AR,List.length_cons,List.length_append];omega
 | .cond a b c p,h=>by have e:=EK a h.1;have d:=EK b h.2.1;have f:=EK c h.2.2;have g:=EV (decide (rk a.op<1)) (AR a);simp only[Ex.size,AR,List.length_cons,List.length_append];omega
theorem JV{n:Nat}(h:n<9223372036854775808):(CJ n).length<=20:=by
 unfold CJ;rw[Lib.decDigits_length];by_cases a:n=0
 · subst a;rw[Lib.nDigits_small (by omega)];omega
 · have:=Lib.numDigits_eq n (by omega) (by omega);split at this<;>omega
theorem YC:∀{x:Ex},Ok x->x.op.length<=6
 | .leaf op nm n p,h=>by rcases h with⟨rfl,_⟩ | ⟨rfl,_⟩ | ⟨rfl | rfl,_⟩<;>simp[Ex.op,Bk,BA,Au,Bu]
 | .un op a p,h=>by rcases h.1 with rfl | rfl<;>simp[Ex.op,C0]
 | .bin op a b p,h=>by have:=FV (x:=op) (by have:=h.1;omega);show op.length<=6;omega
 | .cond a b c p,h=>by simp[Ex.op]
theorem Fa{B:Nat}(hB:B<9223372036854775808):∀x:Ex,Ok x->Fh B x->(Il x).length<=60*x.size+(AR x).length
 | .leaf op nm n p,h,hp=>by
   have h1:=YC h;have d:=JV (I1 h);have e:(CJ p).length<=20:=JV (Nat.lt_of_le_of_lt hp hB);have f:nm.length<=(AR (.leaf op nm n p)).length:=by
    rcases h with⟨rfl,rfl,_⟩ | ⟨rfl,_⟩ | ⟨_,rfl,_⟩
    · exact Nat.zero_le _
    · simp[AR,BA,Bk]
    · exact Nat.zero_le _
   simp only[Ex.op]at h1;simp only[Ex.num]at d;simp only[Il,Ex.size,List.length_cons,List.length_append,List.length_nil];omega
 | .un op a p,h,hp=>by have h1:=YC h;have d:(CJ 0).length<=20:=JV (by omega);have e:(CJ p).length<=20:=JV (Nat.lt_of_le_of_lt hp.1 hB);have f:=Fa hB a h.2 hp.2;have g:=EV (decide (rk a.op<rk op)) (AR a);simp only[Ex.op]at h1;simp only[Il,AR,Ex.size,List.length_cons,List.length_append,List.length_nil];omega
 | .bin op a b p,h,hp=>by have h1:=YC h;have d:(CJ 0).length<=20:=JV (by omega);have e:(CJ p).length<=20:=JV (Nat.lt_of_le_of_lt hp.1 hB);have f:=Fa hB a h.2.1 hp.2.1;have g:=Fa hB b h.2.2 hp.2.2;have i:=EV (decide (rk a.op<lo (rk op) 0)) (AR a);have j:=EV (decide (rk b.op<lo (rk op) 1)) (AR b);simp only[Ex.op]at h1;simp only[Il,AR,Ex.size,List.length_cons,List.length_append,List.length_nil];omega
 | .cond a b c p,h,hp=>by have d:(CJ 0).length<=20:=JV (by omega);have e:(CJ p).length<=20:=JV (Nat.lt_of_le_of_lt hp.1 hB);have f:=Fa hB a h.1 hp.2.1;have g:=Fa hB b h.2.1 hp.2.2.1;have i:=Fa hB c h.2.2 hp.2.2.2;have j:=EV (decide (rk a.op<1)) (AR a);simp only[Il,AR,Ex.size,List.length_cons,List.length_append,List.length_nil];omega
end
section
open Go.RowKit Go.Sort
structure SL(w W:World)(o nm:ByteArray)(m p:Int)(A:Option Addr)(N cap:Nat)(ks:List Ex)(S:Nat->Prop):Prop where
 bx:Az W w.heap.size (.string o) (.string nm) (.int .i64 m) (.slice A N cap) (.int .i64 p)
 k:KR W 81 S A ks
 w:Below w.heap.size w W
section
variable {w W W':World} {o nm:ByteArray} {m p:Int} {A:Option Addr} {N cap:Nat} {ks:List Ex} {S:Nat->Prop}
theorem SL.below(h:SL w W o nm m p A N cap ks S)(hb:Below W.heap.size W W'):SL w W' o nm m p A N cap ks S:=⟨h.bx.below hb,h.k.below hb,h.w.trans (hb.mono h.w.size)⟩
theorem SL.drew(h:SL w W o nm m p A N cap ks S):SL w W.drew o nm m p A N cap ks S:=h.below (Below.refl _ _).drew
theorem SL.get(h:SL w W o nm m p A N cap ks S):(fun w':World=>w'.cell? ⟨w.heap.size,0,none⟩=some (.string o)/\w'.cell? ⟨w.heap.size,1,none⟩=some (.string nm)/\w'.cell? ⟨w.heap.size,2,none⟩=some (.int .i64 m)/\w'.cell? ⟨w.heap.size,4,none⟩=some (.int .i64 p)) W:=by obtain⟨a,b,c,_,d⟩:=h.bx.cells;exact⟨a,b,c,d⟩
def Ys(w:World)(o nm:ByteArray)(m p:Int)(A:Option Addr)(N cap:Nat)(ks:List Ex)(S:Nat->Prop)(t:ByteArray)(e:Ending)(w':World):Prop:=e= .returned (.string t)/\SL w w' o nm m p A N cap ks S
theorem SL.dig(h:SL w W o nm m p A N cap ks S){n:Nat}(hn:n<9223372036854775808){z:Int}(hz:z=(n:Int)){t:ByteArray}(ht:t.data.toList=CJ n):Calls Tryz.prog 30 #[.int .i64 z] W (Ys w o nm m p A N cap ks S t):=
 hz▸(FJ n hn W).mono fun _ _ ⟨a,b⟩=>⟨by rw[a,Bw ht],h.below b⟩
end
def Yb(x:Ex):Prop:=∀(w:World) (S:Nat->Prop) (c:List Value),HS w 81 S x c->(Il x).length<=1000000->Calls Tryz.prog 56 #[.agg c.toArray] w (Sn (Il x) w)
theorem MC{ks:List Ex}{k:Nat}(h:k<ks.length):QD (ks.take (k+1))=QD (ks.take k)++Il ks[k]:=by unfold QD;rw[List.take_succ_eq_append_getElem h,List.map_append,List.flatten_append];simp
theorem Rf{ks:List Ex}(k:Nat):(QD (ks.take k)).length<=(QD ks).length:=by
 conv=>rhs;rw[<- List.take_append_drop k ks]
 unfold QD;rw[List.map_append,List.flatten_append,List.length_append];omega
def VO(x:Ex)(S:Nat->Prop)(w:World)(A:Option Addr)(N cap:Nat)(o nm:ByteArray)(m p:Int)(s i:Value)(wr:World):Prop:=
 ∃(k:Nat) (t:ByteArray),i= .int .i64 (k:Int)/\k<=N/\s= .string t/\t.data.toList=T7 x++QD (x.kids.take k)/\SL w wr o nm m p A N cap x.kids S
theorem Gn{x:Ex}(hn:x.num<9223372036854775808)(hp:x.pos<9223372036854775808)(ih:∀k∈x.kids,Yb k):Yb x:=by
 intro w S c hH Z;obtain⟨A,a,rfl,Y⟩:=hH.view;have X:=Gc x;have M:=zz ih;have h:=WI x;have d:(T7 x).length+(QD x.kids).length+1<=1000000:=(by rw[h]at Z;simp only[List.length_append,List.length_cons,List.length_nil]at Z;omega);have l:=zz d;have v:=zz h;obtain⟨K,G,aa⟩:=CC (CJ x.num) 1000000 (by have:=JV hn;omega);obtain⟨tp,J,ac⟩:=CC (CJ x.pos) 1000000 (by have:=JV hp;omega);change Calls Tryz.prog 56 #[.agg #[.string ⟨x.op.toArray⟩,.string ⟨x.nm.toArray⟩,.int .i64 (x.num:Int),.slice A x.kids.length a,.int .i64 (x.pos:Int)]] w _;have ah:(⟨x.op.toArray⟩:ByteArray).size<=1000000:=(by rw[<- AU];show x.op.length<=_;simp only[T7,List.length_cons,List.length_append]at d;omega);have ag:(⟨x.nm.toArray⟩:ByteArray).size<=1000000:=(by rw[<- AU];show x.nm.length<=_;simp only[T7,List.length_cons,List.length_append]at d;omega);obtain⟨N,V⟩:∃N,N=x.kids.length:=⟨_,rfl⟩;have HN:=zz V;rw[<- V]at X ⊢;have n:=(Below.refl w.heap.size w).alloc (Nat.le_refl _) (.cells #[.string ⟨x.op.toArray⟩,.string ⟨x.nm.toArray⟩,.int .i64 (x.num:Int),.slice A N a,.int .i64 (x.pos:Int)] 81);have f:=zz (show SL w (w.alloc (.cells #[.string ⟨x.op.toArray⟩,.string ⟨x.nm.toArray⟩,.int .i64 (x.num:Int),.slice A N a,.int .i64 (x.pos:Int)] 81)) ⟨x.op.toArray⟩ ⟨x.nm.toArray⟩ (x.num:Int) (x.pos:Int) A N a x.kids S from⟨heap_alloc_new w _,Y.below n,n⟩);have z:=zz G;have C:=zz J;have HO:=zz (show(⟨x.op.toArray⟩:ByteArray).data.toList=x.op from rfl);have P:=zz (show(⟨x.nm.toArray⟩:ByteArray).data.toList=x.nm from rfl);obtain⟨m,hm⟩:∃m:Int,m=(x.num:Int):=⟨_,rfl⟩;obtain⟨p,u⟩:∃p:Int,p=(x.pos:Int):=⟨_,rfl⟩;rw[<- hm,<- u]at f ⊢;have HM:=zz hm;have R:=zz u;have O:=zz hn;have Q:=zz hp;clear ih hH Y V Z h d n G J hn hp hm u;generalize(⟨x.op.toArray⟩:ByteArray)=o at*;generalize(⟨x.nm.toArray⟩:ByteArray)=nm at*;go_enter Tryz.func56,Tryz.ntmps56;go_wp2_with fail;have k0:¬9223372036854775807<1+o.size:=(by omega);have k1:¬9223372036854775807<1+o.size+1:=(by omega);have k2:¬9223372036854775807<1+o.size+1+nm.size:=(by omega);have k3:¬9223372036854775807<1+o.size+1+nm.size+1:=(by omega);have k4:¬9223372036854775807<1+o.size+1+nm.size+1+K.size:=(by omega);have k5:¬9223372036854775807<1+o.size+1+nm.size+1+K.size+1:=(by omega);have k6:¬9223372036854775807<1+o.size+1+nm.size+1+K.size+1+tp.size:=(by omega);have j:=f.out;clear f;generalize w.alloc (.cells #[.string o,.string nm,.int .i64 m,.slice A N a,.int .i64 p] 81)=W at j ⊢;replace j:=j.drew
 go_region_held3 (fun L=>L.cell? ⟨w.heap.size,0,none⟩=some (.string o)/\L.cell? ⟨w.heap.size,1,none⟩=some (.string nm)/\L.cell? ⟨w.heap.size,2,none⟩=some (.int .i64 m)/\L.cell? ⟨w.heap.size,4,none⟩=some (.int .i64 p)) (exact j.get) (first
  | (go_at_call 30;(with_reducible refine(j.dig O.out HM.out z.out).mono ?_);rintro e wA ⟨rfl,j⟩)
  | (go_at_call 30;(with_reducible refine(j.dig Q.out R.out C.out).mono ?_);rintro e wA ⟨rfl,j⟩))
 all_goals
  have f:=zz j
  have T:=zz (show(⟨#[40]⟩++o++⟨#[32]⟩++nm++⟨#[32]⟩++K++⟨#[32]⟩++tp:ByteArray).data.toList=T7 x by
   simp[T7,HO.out,P.out,z.out,C.out])
  clear j k0 k1 k2 k3 k4 k5 k6;go_wp2;go_loopw [3,4] (fun s i wr=>VO x S w A N a o nm m p s i wr) (fun _ i _=>N - (intOf i).toNat);(case atStart=>exact⟨0,_,rfl,Nat.zero_le _,rfl,by rw[T.out];simp[QD],f.out⟩);case round=>
   obtain⟨k,t,rfl,Y,rfl,F,b⟩:=hrel;obtain⟨b0,b1,b2,b3,b4⟩:=b.bx.cells;have ae:=b.bx.lt;have ai:t.size<=1000000:=(by rw[<- AU,F,List.length_append];have:=Rf (ks:=x.kids) k;have:=l.out;omega);have HT:=zz F;by_cases r:k<N
   · have c4:decide ((k:Int)<(N:Int))=true:=(by simp;omega);have c5:decide (k<N)=true:=(by simpa using r);have kk:k<x.kids.length:=(by rw[<- HN.out];exact r);obtain⟨g,o',aj,m',P',l',ad,p',rfl,af,D,a0,a1,a2,a3,a4⟩:=b.k k kk;have q:(Il x.kids[k]).length<=1000000:=(by have h1:=Rf (ks:=x.kids) (k+1);rw[MC kk,List.length_append]at h1;have:=l.out;omega);have H:=zz (M.out _ (List.getElem_mem kk) _ _ _ D q);obtain⟨tk,I,ab⟩:=CC (Il x.kids[k]) 1000000 q;have B:=zz I;have y:=zz b;have U:=zz (MC kk);clear b D F I q;go_wp2_with fail;refine(H.out).mono ?_;rintro e w1 ⟨rfl,E⟩;rw[<- Bw B.out]
     have HR:=zz (show VO x S w (some ⟨g,0,none⟩) N a o nm m p (.string (t++tk)) (.int .i64 ((k:Int)+1)) w1 from
      ⟨k+1,_,by go_num,by omega,rfl,by rw[U.out];simp[HT.out,B.out],y.out.below E⟩)
     clear E;go_wp2;go_roundw;(case rel=>exact HR.out);case measure=>simp[intOf];omega
   · have c4:decide ((k:Int)<(N:Int))=false:=(by simp;omega);have c5:decide (k<N)=false:=by simpa using r
     have HE:=zz (show t.data.toList=T7 x++QD x.kids by
      rw[F,List.take_of_length_le (by rw[<- HN.out];omega)])
     have HW:=zz b.w;clear b F;go_wp2;go_ret;exact⟨CO (by rw[v.out];simp[HE.out]),HW.out⟩
theorem Dc{B:Nat}(hB:B<9223372036854775808):∀x:Ex,Ok x->Fh B x->Yb x
 | .leaf op nm n p,h,hp=>Gn (I1 h) (Nat.lt_of_le_of_lt (Du hp) hB) (by simp[Ex.kids])
 | .un op a p,h,hp=>Gn (I1 h) (Nat.lt_of_le_of_lt (Du hp) hB) (by simp only[Ex.kids,List.mem_singleton];rintro x rfl;exact Dc hB x h.2 hp.2)
 | .bin op a b p,h,hp=>Gn (I1 h) (Nat.lt_of_le_of_lt (Du hp) hB) (by
     have h1:=Dc hB a h.2.1 hp.2.1;have h2:=Dc hB b h.2.2 hp.2.2;simp only[Ex.kids,List.mem_cons,List.not_mem_nil,or_false]
     rintro x (rfl | rfl)<;>assumption)
 | .cond a b c p,h,hp=>Gn (I1 h) (Nat.lt_of_le_of_lt (Du hp) hB) (by
     have h1:=Dc hB a h.1 hp.2.1;have h2:=Dc hB b h.2.1 hp.2.2.1;have h3:=Dc hB c h.2.2 hp.2.2.2;simp only[Ex.kids,List.mem_cons,List.not_mem_nil,or_false]
     rintro x (rfl | rfl | rfl)<;>assumption)
end
end
end Go.Proofs.YtodijgndbjfbgaaGreatDoor
