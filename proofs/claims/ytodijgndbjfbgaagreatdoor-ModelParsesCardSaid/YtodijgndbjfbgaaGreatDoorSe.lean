import Derived.Test.YtodijgndbjfbgaaGreatDoorSa
import Derived.Test.YtodijgndbjfbgaaGreatDoorSd
namespace Go.Proofs.YtodijgndbjfbgaaGreatDoor
set_option maxHeartbeats 16000000
set_option maxRecDepth 100000
section
section
open Go.RowKit
structure Fr(B rb:Nat)(w w':World):Prop where
 os:w'.os=w.os
 tape:w'.tape=w.tape
 output:w'.output=w.output
 size:w.heap.size<=w'.heap.size
 block:∀k,k<B->k≠rb->w'.heap[k]?=w.heap[k]?
section
variable {B B' rb:Nat} {a b c w w':World}
theorem Fr.refl(B rb:Nat)(w:World):Fr B rb w w:=⟨rfl,rfl,rfl,Nat.le_refl _,fun _ _ _=>rfl⟩
theorem Fr.trans(h:Fr B rb a b)(k:Fr B rb b c):Fr B rb a c:=
 ⟨k.os.trans h.os,k.tape.trans h.tape,k.output.trans h.output,Nat.le_trans h.size k.size,fun i d e=>(k.block i d e).trans (h.block i d e)⟩
theorem Fr.mono(h:Fr B rb w w')(hB:B'<=B):Fr B' rb w w':=⟨h.os,h.tape,h.output,h.size,fun k a b=>h.block k (Nat.lt_of_lt_of_le a hB) b⟩
theorem Fr.of(h:Below B w w'):Fr B rb w w':=⟨h.os,h.tape,h.output,h.size,fun k a _=>h.block k a⟩
theorem Fr.ofGrown(h:w.grownBy w' (some rb)):Fr w.heap.size rb w w':=⟨h.os,h.tape,h.output,h.size,fun k a b=>h.block k a (fun e=>b (by injection e))⟩
theorem Fr.below(h:Fr B rb w w')(hr:B<=rb):Below B w w':=⟨h.os,h.tape,h.output,h.size,fun k a=>h.block k a (by omega)⟩
theorem Fr.drew(h:Fr B rb a w):Fr B rb a w.drew:=⟨h.os,h.tape,h.output,h.size,h.block⟩
theorem Fr.drewN(h:Fr B rb a w)(n:Nat):Fr B rb a (w.drewN n):=⟨h.os,h.tape,h.output,h.size,h.block⟩
theorem Fr.alloc(h:Fr B rb a w)(hB:B<=w.heap.size)(o:Obj):Fr B rb a (w.alloc o):=
 h.trans (Fr.of ((Below.refl B w).alloc hB o))
theorem Fr.setCell(h:Fr B rb a w){p:Addr}(hp:B<=p.block∨p.block=rb)(u:Value):Fr B rb a (w.setCell p u):=
 h.trans ⟨rfl,rfl,rfl,by simp,fun k b c=>Below.heap_setCell w p u k (by rcases hp with hp | hp<;>omega)⟩
theorem Fr.on(h:Fr B rb a w)(hB:B<=w.heap.size)(k:Fr w.heap.size rb w w'):Fr B rb a w':=h.trans (k.mono hB)
theorem Fr.onB(h:Fr B rb a w)(hB:B<=w.heap.size)(k:Below w.heap.size w w'):Fr B rb a w':=h.on hB (Fr.of k)
end
def LP(w:World)(e:TypeId)(S:Nat->Prop)(g:Nat)(xs:List Value):Prop:=
 S g/\∃cs:Array Value,w.heap[g]?=some (.cells cs e (0,0))/\∀(j:Nat) (u:Value),xs[j]?=some u->cs[j]?=some u
def HS(w:World)(e:TypeId)(S:Nat->Prop):Ex->List Value->Prop
 | .leaf op nm n p,c=>c=[Bm op,Bm nm,.int .i64 (n:Int),.slice none 0 0,.int .i64 (p:Int)]
 | .un op a p,c=>∃g cap ca,c=[Bm op,Bm [],.int .i64 0,.slice (some ⟨g,0,none⟩) 1 cap,.int .i64 (p:Int)]/\LP w e S g ca/\HS w e S a ca
 | .bin op a b p,c=>∃g cap ca cb,c=[Bm op,Bm [],.int .i64 0,.slice (some ⟨g,0,none⟩) 2 cap,.int .i64 (p:Int)]/\LP w e S g (ca++cb)/\HS w e S a ca/\HS w e S b cb
 | .cond a b d p,c=>∃g cap ca cb cd,c=[Bm [63],Bm [],.int .i64 0,.slice (some ⟨g,0,none⟩) 3 cap,.int .i64 (p:Int)]/\LP w e S g (ca++(cb++cd))/\HS w e S a ca/\HS w e S b cb/\HS w e S d cd
def Rg(b0 b1 k:Nat):Prop:=b0<=k/\k<b1
abbrev HC(w:World)(e:TypeId)(b0 b1:Nat)(x:Ex)(c:List Value):Prop:=HS w e (Rg b0 b1) x c
section
variable {w w':World} {e:TypeId} {S T:Nat->Prop} {b0 b1 d0 d1:Nat} {xs:List Value}
theorem BB{w:World}{b:Nat}{o:Obj}(h:w.heap[b]?=some o):b<w.heap.size:=by
 rcases Nat.lt_or_ge b w.heap.size with c | a
 · exact c
 · rw[Array.getElem?_eq_none a]at h;cases h
theorem LP.keep{g:Nat}(h:LP w e S g xs)(hk:∀k,S k->k<w.heap.size->w'.heap[k]?=w.heap[k]?):LP w' e S g xs:=by obtain⟨a,c,b,d⟩:=h;exact⟨a,c,(hk _ a (BB b)).trans b,d⟩
theorem LP.mono{g:Nat}(h:LP w e S g xs)(hb:∀k,k<w.heap.size->S k->T k):LP w e T g xs:=by obtain⟨c,b,a,d⟩:=h;exact⟨hb _ (BB a) c,b,a,d⟩
theorem LP.cell{g:Nat}(h:LP w e S g xs){j:Nat}{u:Value}(hu:xs[j]?=some u):w.cell? ⟨g,j,none⟩=some u:=by obtain⟨d,c,a,b⟩:=h;rw[AL a];exact b j u hu
theorem HS.keep(hk:∀k,S k->k<w.heap.size->w'.heap[k]?=w.heap[k]?):∀{x:Ex} {c:List Value},HS w e S x c->HS w' e S x c
 | .leaf _ _ _ _,_,h=>h
 | .un _ _ _,_,⟨ad,cap,ca,h1,h2,h3⟩=>⟨ad,cap,ca,h1,h2.keep hk,HS.keep hk h3⟩
 | .bin _ _ _ _,_,⟨ad,cap,ca,cb,h1,h2,h3,h4⟩=>⟨ad,cap,ca,cb,h1,h2.keep hk,HS.keep hk h3,HS.keep hk h4⟩
 | .cond _ _ _ _,_,⟨ad,cap,ca,cb,cd,h1,h2,h3,h4,h5⟩=>⟨ad,cap,ca,cb,cd,h1,h2.keep hk,HS.keep hk h3,HS.keep hk h4,HS.keep hk h5⟩
theorem HS.wide(hb:∀k,k<w.heap.size->S k->T k):∀{x:Ex} {c:List Value},HS w e S x c->HS w e T x c
 | .leaf _ _ _ _,_,h=>h
 | .un _ _ _,_,⟨ad,cap,ca,h1,h2,h3⟩=>⟨ad,cap,ca,h1,h2.mono hb,HS.wide hb h3⟩
 | .bin _ _ _ _,_,⟨ad,cap,ca,cb,h1,h2,h3,h4⟩=>⟨ad,cap,ca,cb,h1,h2.mono hb,HS.wide hb h3,HS.wide hb h4⟩
 | .cond _ _ _ _,_,⟨ad,cap,ca,cb,cd,h1,h2,h3,h4,h5⟩=>⟨ad,cap,ca,cb,cd,h1,h2.mono hb,HS.wide hb h3,HS.wide hb h4,HS.wide hb h5⟩
theorem HS.mono{x:Ex}{c:List Value}(hb:d0<=b0)(hd:b1<=d1)(h:HC w e b0 b1 x c):HC w e d0 d1 x c:=h.wide fun k _ a=>by unfold Rg at*;omega
theorem HS.below{x:Ex}{c:List Value}(h:HS w e S x c)(hb:Below w.heap.size w w'):HS w' e S x c:=h.keep fun k _ a=>hb.block k a
theorem HS.frS{rb:Nat}{x:Ex}{c:List Value}(h:HS w e S x c)(hb:Fr w.heap.size rb w w')(hr:¬S rb):HS w' e S x c:=h.keep fun k a b=>hb.block k b (fun e=>hr (e▸a))
theorem HS.fr{rb:Nat}{x:Ex}{c:List Value}(h:HC w e b0 b1 x c)(hb:Fr w.heap.size rb w w')(hr:rb<b0):HC w' e b0 b1 x c:=h.frS hb (by unfold Rg;omega)
theorem HS.alloc{x:Ex}{c:List Value}(h:HS w e S x c)(o:Obj):HS (w.alloc o) e S x c:=h.below ((Below.refl _ _).alloc (Nat.le_refl _) _)
theorem HS.setCellS{x:Ex}{c:List Value}(h:HS w e S x c){p:Addr}(hp:¬S p.block)(u:Value):HS (w.setCell p u) e S x c:=
 h.keep fun k a _=>Below.heap_setCell w p u k (fun e=>hp (e▸a))
theorem HS.setCell{x:Ex}{c:List Value}(h:HC w e b0 b1 x c){p:Addr}(hp:p.block<b0∨b1<=p.block)(u:Value):HC (w.setCell p u) e b0 b1 x c:=h.setCellS (by unfold Rg;omega) u
def BM(o nm:ByteArray)(n:Int)(A:Option Addr)(l cap:Nat)(p:Int):List Value:=[.string o,.string nm,.int .i64 n,.slice A l cap,.int .i64 p]
theorem HS.form:∀{x:Ex} {c:List Value},HS w e S x c->∃nm n A l cap,c=BM ⟨x.op.toArray⟩ nm n A l cap (x.pos:Int)
 | .leaf _ _ _ _,_,h=>⟨_,_,_,_,_,h⟩
 | .un _ _ _,_,⟨_,_,_,h1,_⟩=>⟨_,_,_,_,_,h1⟩
 | .bin _ _ _ _,_,⟨_,_,_,_,h1,_⟩=>⟨_,_,_,_,_,h1⟩
 | .cond _ _ _ _,_,⟨_,_,_,_,_,h1,_⟩=>⟨_,_,_,_,_,h1⟩
theorem HS.move(q:Nat):∀{x:Ex} {o nm:ByteArray} {n:Int} {A:Option Addr} {l cap:Nat} {p:Int},HS w e S x (BM o nm n A l cap p)->HS w e S (x.move q) (BM o nm n A l cap (q:Int))
 | .leaf op nm n p,_,_,_,_,_,_,_,h=>by simp only[HS,BM,List.cons.injEq]at h;simp only[HS,BM,Ex.move,h]
 | .un _ _ _,_,_,_,_,_,_,_,⟨ad,cap,ca,h1,h2⟩=>by simp only[BM,List.cons.injEq]at h1;exact⟨ad,cap,ca,by simp only[BM,h1],h2⟩
 | .bin _ _ _ _,_,_,_,_,_,_,_,⟨ad,cap,ca,cb,h1,h2⟩=>by simp only[BM,List.cons.injEq]at h1;exact⟨ad,cap,ca,cb,by simp only[BM,h1],h2⟩
 | .cond _ _ _ _,_,_,_,_,_,_,_,⟨ad,cap,ca,cb,cd,h1,h2⟩=>by simp only[BM,List.cons.injEq]at h1;exact⟨ad,cap,ca,cb,cd,by simp only[BM,h1],h2⟩
end
structure XR(w:World)(xb rb:Nat)(us:List AH)(lv:Nat):Prop where
 rd:∃ts k,us=ts.drop k/\RD w rb ts k
 fine:Fine us
 blk:w.heap[xb]?=some (.cells #[.pointer (some ⟨rb,0,none⟩),.int .i64 (lv:Int)] 246 (0,0))
 glob:B0 w
 lv64:lv<=64
 hi:0<rb/\3<rb/\0<xb/\3<xb
section
variable {w w':World} {xb rb lv:Nat} {us:List AH}
theorem XR.get(h:XR w xb rb us lv):∃ts k,us=ts.drop k/\RD w rb ts k/\ts[k]?=some (hd us)/\((hd us).kind≠0->k+1<ts.length):=by
 obtain⟨ts,k,a,b⟩:=h.rd;have c:k<ts.length:=(by obtain⟨_,_,_,_,f,_⟩:=b;exact f);have g:=h.fine;refine⟨ts,k,a,b,?_,fun e=>?_⟩
 · rw[a,List.drop_eq_getElem_cons c,List.getElem?_eq_getElem c];rfl
 · have d:=(g.more e).2;rw[a,List.tail_drop]at d;have:k+1<ts.length:=(by apply Classical.byContradiction;intro i;exact d (List.drop_eq_nil_of_le (by omega)));exact this
theorem XR.ne(h:XR w xb rb us lv):xb≠rb:=by
 rintro rfl;obtain⟨c,k,_,g,b,a,_⟩:=h.rd;rw[h.blk]at a;injection a with a
 injection a with _ a
 exact absurd a (by decide)
theorem XR.ltx(h:XR w xb rb us lv):xb<w.heap.size:=BB h.blk
theorem XR.ltr(h:XR w xb rb us lv):rb<w.heap.size:=by obtain⟨b,k,_,a⟩:=h.rd;exact a.lt
theorem XR.below(h:XR w xb rb us lv)(hb:Below w.heap.size w w'):XR w' xb rb us lv:=by refine⟨?_,h.fine,(hb.block xb h.ltx).trans h.blk,h.glob.below hb,h.lv64,h.hi⟩;obtain⟨c,k,a,b⟩:=h.rd;exact⟨c,k,a,b.below hb⟩
theorem XR.alloc(h:XR w xb rb us lv)(o:Obj):XR (w.alloc o) xb rb us lv:=h.below ((Below.refl _ _).alloc (Nat.le_refl _) _)
theorem RD.set{ts:List AH}{k b i:Nat}(h:RD w rb ts k){cs:Array Value}{e:TypeId}(hb:w.heap[b]?=some (.cells cs e (0,0)))(h1:e≠127)(h2:e≠46)(u:Value):RD (w.setCell ⟨b,i,none⟩ u) rb ts k:=by
 obtain⟨g,d,l,m,q,r⟩:=h;have j:rb≠b:=by
  rintro rfl;rw[l]at hb;injection hb with hb
  injection hb with _ hb
  exact h1 hb.symm
 have o:g≠b:=by
  rintro rfl;rcases m.2 with⟨a,_⟩ | ⟨s,_,n,a,_,c,_⟩
  · cases a
  · injection a with a
    injection a with a
    injection a with a
    subst a;rw[hb]at c;injection c with c
    injection c with _ c
    exact h2 c
 have f:w.grownBy (w.setCell ⟨b,i,none⟩ u) (some b):=⟨rfl,rfl,rfl,by simp,fun k _ p=>Below.heap_setCell w ⟨b,i,none⟩ u k (fun e=>p (by rw[e]))⟩;refine⟨g,d,(Below.heap_setCell w ⟨b,i,none⟩ u rb j).trans l,m.kept f (.inr ?_),q,r⟩;intro e;exact o (by simpa[Value.ownBlock]using e)
theorem DA(h:B0 w)(h0:w'.heap[0]?=w.heap[0]?)(h1:w'.heap[3]?=w.heap[3]?):B0 w':=by refine⟨⟨(World.cell?_of_block (w:=w) h0).trans h.glob.err⟩,?_⟩;obtain⟨c,b,a⟩:=h.rng;exact⟨c,b,(World.cell?_of_block (w:=w) h1).trans a⟩
theorem XR.set{b i:Nat}(h:XR w xb rb us lv){cs:Array Value}(hb:w.heap[b]?=some (.cells cs 57 (0,0)))(hl:3<b/\0<b)(u:Value):XR (w.setCell ⟨b,i,none⟩ u) xb rb us lv:=by
 have d:xb≠b:=by
  rintro rfl;rw[h.blk]at hb;injection hb with hb
  injection hb with _ hb
  exact absurd hb (by decide)
 refine⟨?_,h.fine,(Below.heap_setCell w ⟨b,i,none⟩ u xb d).trans h.blk,?_,h.lv64,h.hi⟩
 · obtain⟨e,k,a,c⟩:=h.rd;exact⟨e,k,a,c.set hb (by decide) (by decide) u⟩
 · exact DA h.glob (Below.heap_setCell w ⟨b,i,none⟩ u 0 (by show 0≠b;omega)) (Below.heap_setCell w ⟨b,i,none⟩ u 3 (by show 3≠b;omega))
theorem XR.step{ts:List AH}{k:Nat}(h:XR w xb rb us lv)(hR:RD w' rb ts k)(hf:Fine (ts.drop k))(hb:Fr w.heap.size rb w w'):XR w' xb rb (ts.drop k) lv:=by refine⟨⟨ts,k,rfl,hR⟩,hf,(hb.block xb h.ltx h.ne).trans h.blk,?_,h.lv64,h.hi⟩;have a:=World.block_lt_of_cell? w _ h.glob.glob.err;obtain⟨e,d,c⟩:=h.glob.rng;have b:=World.block_lt_of_cell? w _ c;exact DA h.glob (hb.block 0 a (by have:=h.hi;omega)) (hb.block 3 b (by have:=h.hi;omega))
end
def Ai(w:World)(b:Nat)(c0 c1 c2 c3 c4:Value):Prop:=w.heap[b]?=some (.cells #[c0,c1,c2,c3,c4] 57 (0,0))
section
variable {w w':World} {b:Nat} {c0 c1 c2 c3 c4:Value}
theorem Ai.lt(h:Ai w b c0 c1 c2 c3 c4):b<w.heap.size:=BB h
theorem Ai.cells(h:Ai w b c0 c1 c2 c3 c4):w.cell? ⟨b,0,none⟩=some c0/\w.cell? ⟨b,1,none⟩=some c1/\w.cell? ⟨b,2,none⟩=some c2/\w.cell? ⟨b,3,none⟩=some c3/\w.cell? ⟨b,4,none⟩=some c4:=
 ⟨(AL h 0).trans rfl,(AL h 1).trans rfl,(AL h 2).trans rfl,(AL h 3).trans rfl,(AL h 4).trans rfl⟩
theorem Ai.frozen(h:Ai w b c0 c1 c2 c3 c4):w.frozen? ⟨b,0,none⟩=false/\w.frozen? ⟨b,1,none⟩=false/\w.frozen? ⟨b,2,none⟩=false/\w.frozen? ⟨b,3,none⟩=false/\w.frozen? ⟨b,4,none⟩=false:=
 ⟨Bf h 0,Bf h 1,Bf h 2,Bf h 3,Bf h 4⟩
theorem Ai.new(w:World)(c0 c1 c2 c3 c4:Value):Ai (w.alloc (.cells #[c0,c1,c2,c3,c4] 57)) w.heap.size c0 c1 c2 c3 c4:=heap_alloc_new w _
theorem Ai.below(h:Ai w b c0 c1 c2 c3 c4)(hb:Below w.heap.size w w'):Ai w' b c0 c1 c2 c3 c4:=(hb.block b h.lt).trans h
theorem Ai.alloc(h:Ai w b c0 c1 c2 c3 c4)(o:Obj):Ai (w.alloc o) b c0 c1 c2 c3 c4:=h.below ((Below.refl _ _).alloc (Nat.le_refl _) _)
theorem Ai.fr{rb:Nat}(h:Ai w b c0 c1 c2 c3 c4)(hb:Fr w.heap.size rb w w')(hr:b≠rb):Ai w' b c0 c1 c2 c3 c4:=(hb.block b h.lt hr).trans h
theorem Ai.far(h:Ai w b c0 c1 c2 c3 c4){p:Addr}(hp:b≠p.block)(u:Value):Ai (w.setCell p u) b c0 c1 c2 c3 c4:=(Below.heap_setCell w p u b hp).trans h
theorem A7{w:World}{b i:Nat}{cs:Array Value}{e:TypeId}(h:w.heap[b]?=some (.cells cs e (0,0)))(u:Value):(w.setCell ⟨b,i,none⟩ u).heap[b]?=some (.cells (cs.setIfInBounds i u) e (0,0)):=by simp[World.setCell,Array.getElem?_modify,h]
theorem Ai.set5(h:Ai w b c0 c1 c2 c3 c4)(x0 x1 x2 x3 x4:Value):Ai (((((w.setCell ⟨b,0,none⟩ x0).setCell ⟨b,1,none⟩ x1).setCell ⟨b,2,none⟩ x2).setCell ⟨b,3,none⟩ x3).setCell ⟨b,4,none⟩ x4) b x0 x1 x2 x3 x4:=by have a:=A7 (i:=0) h x0;have c:=A7 (i:=1) a x1;have d:=A7 (i:=2) c x2;have e:=A7 (i:=3) d x3;have f:=A7 (i:=4) e x4;simpa[Ai]using f
theorem Ai.far5{b':Nat}(h:Ai w b c0 c1 c2 c3 c4)(hp:b≠b')(x0 x1 x2 x3 x4:Value):Ai (((((w.setCell ⟨b',0,none⟩ x0).setCell ⟨b',1,none⟩ x1).setCell ⟨b',2,none⟩ x2).setCell ⟨b',3,none⟩ x3).setCell ⟨b',4,none⟩ x4) b c0 c1 c2 c3 c4:=
 ((((h.far (p:=⟨b',0,none⟩) hp _).far (p:=⟨b',1,none⟩) hp _).far (p:=⟨b',2,none⟩) hp _).far (p:=⟨b',3,none⟩) hp _).far (p:=⟨b',4,none⟩) hp _
theorem XR.set5{xb rb lv:Nat}{us:List AH}(h:XR w xb rb us lv)(hb:Ai w b c0 c1 c2 c3 c4)(hl:rb<b)(x0 x1 x2 x3 x4:Value):XR (((((w.setCell ⟨b,0,none⟩ x0).setCell ⟨b,1,none⟩ x1).setCell ⟨b,2,none⟩ x2).setCell ⟨b,3,none⟩ x3).setCell ⟨b,4,none⟩ x4) xb rb us lv:=by have hl:3<b/\0<b:=(by have:=h.hi;omega);have a:=A7 (i:=0) hb x0;have c:=A7 (i:=1) a x1;have d:=A7 (i:=2) c x2;have e:=A7 (i:=3) d x3;exact((((h.set hb hl x0).set a hl x1).set c hl x2).set d hl x3).set e hl x4
theorem Fr.set5{B rb:Nat}{a:World}(h:Fr B rb a w)(hb:B<=b)(x0 x1 x2 x3 x4:Value):Fr B rb a (((((w.setCell ⟨b,0,none⟩ x0).setCell ⟨b,1,none⟩ x1).setCell ⟨b,2,none⟩ x2).setCell ⟨b,3,none⟩ x3).setCell ⟨b,4,none⟩ x4):=
 ((((h.setCell (p:=⟨b,0,none⟩) (.inl hb) _).setCell (p:=⟨b,1,none⟩) (.inl hb) _).setCell (p:=⟨b,2,none⟩) (.inl hb) _).setCell (p:=⟨b,3,none⟩) (.inl hb) _).setCell (p:=⟨b,4,none⟩) (.inl hb) _
theorem HS.far5S{e:TypeId}{S:Nat->Prop}{x:Ex}{c:List Value}(h:HS w e S x c)(hb:¬S b)(x0 x1 x2 x3 x4:Value):HS (((((w.setCell ⟨b,0,none⟩ x0).setCell ⟨b,1,none⟩ x1).setCell ⟨b,2,none⟩ x2).setCell ⟨b,3,none⟩ x3).setCell ⟨b,4,none⟩ x4) e S x c:=
 ((((h.setCellS (p:=⟨b,0,none⟩) hb _).setCellS (p:=⟨b,1,none⟩) hb _).setCellS (p:=⟨b,2,none⟩) hb _).setCellS (p:=⟨b,3,none⟩) hb _).setCellS (p:=⟨b,4,none⟩) hb _
theorem HS.far5{e:TypeId}{b0 b1:Nat}{x:Ex}{c:List Value}(h:HC w e b0 b1 x c)(hb:b<b0∨b1<=b)(x0 x1 x2 x3 x4:Value):HC (((((w.setCell ⟨b,0,none⟩ x0).setCell ⟨b,1,none⟩ x1).setCell ⟨b,2,none⟩ x2).setCell ⟨b,3,none⟩ x3).setCell ⟨b,4,none⟩ x4) e b0 b1 x c:=
 h.far5S (by unfold Rg;omega) _ _ _ _ _
end
theorem AA{P:World->Prop}{f:FuncId}{args:Array Value}{W:World}{Q:Ending->World->Prop}(h:P W)(k:∀W,P W->Calls Tryz.prog f args W Q):Calls Tryz.prog f args W Q:=k W h
end
section
open Go.RowKit
theorem IL(n:Int)(w:World):Calls Tryz.prog 158 #[.int .i64 n] w fun e w'=>e= .returned (.bool (decide (1<=n)&&decide (n<=64)))/\w=w':=by
 by_cases b:1<=n
 · have a:decide (1<=n)=true:=(by simpa using b);rw[a];go_enter Tryz.func158,Tryz.ntmps158;go_wp2;go_ret;exact⟨by simp,rfl⟩
 · have a:decide (1<=n)=false:=(by simpa using b);rw[a];go_enter Tryz.func158,Tryz.ntmps158;go_wp2;go_ret;exact⟨by simp,rfl⟩
theorem Jx(x:ByteArray)(l:List UInt8)(h:x.data.toList=l):x=⟨l.toArray⟩:=by rw[<- h]
def WY(x:List UInt8)(w:World)(e:Ending)(w':World):Prop:=e= .returned (.int .i64 (rk x:Int))/\w=w'
theorem Cj(s:ByteArray)(w:World):Calls Tryz.prog 135 #[.string s] w (WY s.data.toList w):=by
 rw[<- ByteArray.toList_eq];by_cases g:s.toList=[63]
 · have h:=g;clear g;have n:(s.toList==[63])=true:=(by rw[h];rfl);have o:(s.toList==[61,62])=false:=(by rw[h];rfl);have p:(s.toList==[124])=false:=(by rw[h];rfl);have q:(s.toList==[38])=false:=(by rw[h];rfl);have r:(s.toList==[33])=false:=(by rw[h];rfl);have t:(s.toList==[61])=false:=(by rw[h];rfl);have u:(s.toList==[33,61])=false:=(by rw[h];rfl);have v:(s.toList==[60])=false:=(by rw[h];rfl);have x:(s.toList==[60,61])=false:=(by rw[h];rfl);have y:(s.toList==[62])=false:=(by rw[h];rfl);have b:(s.toList==[62,61])=false:=(by rw[h];rfl);have c:(s.toList==[43])=false:=(by rw[h];rfl);have d:(s.toList==[45])=false:=(by rw[h];rfl);have e:(s.toList==[42])=false:=(by rw[h];rfl);have f:(s.toList==[110,101,103])=false:=(by rw[h];rfl);have a:=zz (show(0:Int)=(rk s.toList:Int) by rw[h];rfl);clear h;go_enter Tryz.func135,Tryz.ntmps135;go_wp2;go_ret;exact⟨AW a.out,rfl⟩
 by_cases j:s.toList=[61,62]
 · have h:=j;clear j g;have n:(s.toList==[63])=false:=(by rw[h];rfl);have o:(s.toList==[61,62])=true:=(by rw[h];rfl);have p:(s.toList==[124])=false:=(by rw[h];rfl);have q:(s.toList==[38])=false:=(by rw[h];rfl);have r:(s.toList==[33])=false:=(by rw[h];rfl);have t:(s.toList==[61])=false:=(by rw[h];rfl);have u:(s.toList==[33,61])=false:=(by rw[h];rfl);have v:(s.toList==[60])=false:=(by rw[h];rfl);have x:(s.toList==[60,61])=false:=(by rw[h];rfl);have y:(s.toList==[62])=false:=(by rw[h];rfl);have b:(s.toList==[62,61])=false:=(by rw[h];rfl);have c:(s.toList==[43])=false:=(by rw[h];rfl);have d:(s.toList==[45])=false:=(by rw[h];rfl);have e:(s.toList==[42])=false:=(by rw[h];rfl);have f:(s.toList==[110,101,103])=false:=(by rw[h];rfl);have a:=zz (show(1:Int)=(rk s.toList:Int) by rw[h];rfl);clear h;go_enter Tryz.func135,Tryz.ntmps135;go_wp2;go_ret;exact⟨AW a.out,rfl⟩
 by_cases l:s.toList=[124]
 · have h:=l;clear l j g;have n:(s.toList==[63])=false:=(by rw[h];rfl);have o:(s.toList==[61,62])=false:=(by rw[h];rfl);have p:(s.toList==[124])=true:=(by rw[h];rfl);have q:(s.toList==[38])=false:=(by rw[h];rfl);have r:(s.toList==[33])=false:=(by rw[h];rfl);have t:(s.toList==[61])=false:=(by rw[h];rfl);have u:(s.toList==[33,61])=false:=(by rw[h];rfl);have v:(s.toList==[60])=false:=(by rw[h];rfl);have x:(s.toList==[60,61])=false:=(by rw[h];rfl);have y:(s.toList==[62])=false:=(by rw[h];rfl);have b:(s.toList==[62,61])=false:=(by rw[h];rfl);have c:(s.toList==[43])=false:=(by rw[h];rfl);have d:(s.toList==[45])=false:=(by rw[h];rfl);have e:(s.toList==[42])=false:=(by rw[h];rfl);have f:(s.toList==[110,101,103])=false:=(by rw[h];rfl);have a:=zz (show(2:Int)=(rk s.toList:Int) by rw[h];rfl);clear h;go_enter Tryz.func135,Tryz.ntmps135;go_wp2;go_ret;exact⟨AW a.out,rfl⟩
 by_cases m:s.toList=[38]
 · have h:=m;clear m l j g;have n:(s.toList==[63])=false:=(by rw[h];rfl);have o:(s.toList==[61,62])=false:=(by rw[h];rfl);have p:(s.toList==[124])=false:=(by rw[h];rfl);have q:(s.toList==[38])=true:=(by rw[h];rfl);have r:(s.toList==[33])=false:=(by rw[h];rfl);have t:(s.toList==[61])=false:=(by rw[h];rfl);have u:(s.toList==[33,61])=false:=(by rw[h];rfl);have v:(s.toList==[60])=false:=(by rw[h];rfl);have x:(s.toList==[60,61])=false:=(by rw[h];rfl);have y:(s.toList==[62])=false:=(by rw[h];rfl);have b:(s.toList==[62,61])=false:=(by rw[h];rfl);have c:(s.toList==[43])=false:=(by rw[h];rfl);have d:(s.toList==[45])=false:=(by rw[h];rfl);have e:(s.toList==[42])=false:=(by rw[h];rfl);have f:(s.toList==[110,101,103])=false:=(by rw[h];rfl);have a:=zz (show(3:Int)=(rk s.toList:Int) by rw[h];rfl);clear h;go_enter Tryz.func135,Tryz.ntmps135;go_wp2;go_ret;exact⟨AW a.out,rfl⟩
 by_cases A:s.toList=[33]
 · have h:=A;clear A m l j g;have n:(s.toList==[63])=false:=(by rw[h];rfl);have o:(s.toList==[61,62])=false:=(by rw[h];rfl);have p:(s.toList==[124])=false:=(by rw[h];rfl);have q:(s.toList==[38])=false:=(by rw[h];rfl);have r:(s.toList==[33])=true:=(by rw[h];rfl);have t:(s.toList==[61])=false:=(by rw[h];rfl);have u:(s.toList==[33,61])=false:=(by rw[h];rfl);have v:(s.toList==[60])=false:=(by rw[h];rfl);have x:(s.toList==[60,61])=false:=(by rw[h];rfl);have y:(s.toList==[62])=false:=(by rw[h];rfl);have b:(s.toList==[62,61])=false:=(by rw[h];rfl);have c:(s.toList==[43])=false:=(by rw[h];rfl);have d:(s.toList==[45])=false:=(by rw[h];rfl);have e:(s.toList==[42])=false:=(by rw[h];rfl);have f:(s.toList==[110,101,103])=false:=(by rw[h];rfl);have a:=zz (show(4:Int)=(rk s.toList:Int) by rw[h];rfl);clear h;go_enter Tryz.func135,Tryz.ntmps135;go_wp2;go_ret;exact⟨AW a.out,rfl⟩
 by_cases B:s.toList=[61]
 · have h:=B;clear B A m l j g;have n:(s.toList==[63])=false:=(by rw[h];rfl);have o:(s.toList==[61,62])=false:=(by rw[h];rfl);have p:(s.toList==[124])=false:=(by rw[h];rfl);have q:(s.toList==[38])=false:=(by rw[h];rfl);have r:(s.toList==[33])=false:=(by rw[h];rfl);have t:(s.toList==[61])=true:=(by rw[h];rfl);have u:(s.toList==[33,61])=false:=(by rw[h];rfl);have v:(s.toList==[60])=false:=(by rw[h];rfl);have x:(s.toList==[60,61])=false:=(by rw[h];rfl);have y:(s.toList==[62])=false:=(by rw[h];rfl);have b:(s.toList==[62,61])=false:=(by rw[h];rfl);have c:(s.toList==[43])=false:=(by rw[h];rfl);have d:(s.toList==[45])=false:=(by rw[h];rfl);have e:(s.toList==[42])=false:=(by rw[h];rfl);have f:(s.toList==[110,101,103])=false:=(by rw[h];rfl);have a:=zz (show(5:Int)=(rk s.toList:Int) by rw[h];rfl);clear h;go_enter Tryz.func135,Tryz.ntmps135;go_wp2;go_ret;exact⟨AW a.out,rfl⟩
 by_cases D:s.toList=[33,61]
 · have h:=D;clear D B A m l j g;have n:(s.toList==[63])=false:=(by rw[h];rfl);have o:(s.toList==[61,62])=false:=(by rw[h];rfl);have p:(s.toList==[124])=false:=(by rw[h];rfl);have q:(s.toList==[38])=false:=(by rw[h];rfl);have r:(s.toList==[33])=false:=(by rw[h];rfl);have t:(s.toList==[61])=false:=(by rw[h];rfl);have u:(s.toList==[33,61])=true:=(by rw[h];rfl);have v:(s.toList==[60])=false:=(by rw[h];rfl);have x:(s.toList==[60,61])=false:=(by rw[h];rfl);have y:(s.toList==[62])=false:=(by rw[h];rfl);have b:(s.toList==[62,61])=false:=(by rw[h];rfl);have c:(s.toList==[43])=false:=(by rw[h];rfl);have d:(s.toList==[45])=false:=(by rw[h];rfl);have e:(s.toList==[42])=false:=(by rw[h];rfl);have f:(s.toList==[110,101,103])=false:=(by rw[h];rfl);have a:=zz (show(5:Int)=(rk s.toList:Int) by rw[h];rfl);clear h;go_enter Tryz.func135,Tryz.ntmps135;go_wp2;go_ret;exact⟨AW a.out,rfl⟩
 by_cases E:s.toList=[60]
 · have h:=E;clear E D B A m l j g;have n:(s.toList==[63])=false:=(by rw[h];rfl);have o:(s.toList==[61,62])=false:=(by rw[h];rfl);have p:(s.toList==[124])=false:=(by rw[h];rfl);have q:(s.toList==[38])=false:=(by rw[h];rfl);have r:(s.toList==[33])=false:=(by rw[h];rfl);have t:(s.toList==[61])=false:=(by rw[h];rfl);have u:(s.toList==[33,61])=false:=(by rw[h];rfl);have v:(s.toList==[60])=true:=(by rw[h];rfl);have x:(s.toList==[60,61])=false:=(by rw[h];rfl);have y:(s.toList==[62])=false:=(by rw[h];rfl);have b:(s.toList==[62,61])=false:=(by rw[h];rfl);have c:(s.toList==[43])=false:=(by rw[h];rfl);have d:(s.toList==[45])=false:=(by rw[h];rfl);have e:(s.toList==[42])=false:=(by rw[h];rfl);have f:(s.toList==[110,101,103])=false:=(by rw[h];rfl);have a:=zz (show(5:Int)=(rk s.toList:Int) by rw[h];rfl);clear h;go_enter Tryz.func135,Tryz.ntmps135;go_wp2;go_ret;exact⟨AW a.out,rfl⟩
 by_cases G:s.toList=[60,61]
 · have h:=G;clear G E D B A m l j g;have n:(s.toList==[63])=false:=(by rw[h];rfl);have o:(s.toList==[61,62])=false:=(by rw[h];rfl);have p:(s.toList==[124])=false:=(by rw[h];rfl);have q:(s.toList==[38])=false:=(by rw[h];rfl);have r:(s.toList==[33])=false:=(by rw[h];rfl);have t:(s.toList==[61])=false:=(by rw[h];rfl);have u:(s.toList==[33,61])=false:=(by rw[h];rfl);have v:(s.toList==[60])=false:=(by rw[h];rfl);have x:(s.toList==[60,61])=true:=(by rw[h];rfl);have y:(s.toList==[62])=false:=(by rw[h];rfl);have b:(s.toList==[62,61])=false:=(by rw[h];rfl);have c:(s.toList==[43])=false:=(by rw[h];rfl);have d:(s.toList==[45])=false:=(by rw[h];rfl);have e:(s.toList==[42])=false:=(by rw[h];rfl);have f:(s.toList==[110,101,103])=false:=(by rw[h];rfl);have a:=zz (show(5:Int)=(rk s.toList:Int) by rw[h];rfl);clear h;go_enter Tryz.func135,Tryz.ntmps135;go_wp2;go_ret;exact⟨AW a.out,rfl⟩
 by_cases H:s.toList=[62]
 · have h:=H;clear H G E D B A m l j g;have n:(s.toList==[63])=false:=(by rw[h];rfl);have o:(s.toList==[61,62])=false:=(by rw[h];rfl);have p:(s.toList==[124])=false:=(by rw[h];rfl);have q:(s.toList==[38])=false:=(by rw[h];rfl);have r:(s.toList==[33])=false:=(by rw[h];rfl);have t:(s.toList==[61])=false:=(by rw[h];rfl);have u:(s.toList==[33,61])=false:=(by rw[h];rfl);have v:(s.toList==[60])=false:=(by rw[h];rfl);have x:(s.toList==[60,61])=false:=(by rw[h];rfl);have y:(s.toList==[62])=true:=(by rw[h];rfl);have b:(s.toList==[62,61])=false:=(by rw[h];rfl);have c:(s.toList==[43])=false:=(by rw[h];rfl);have d:(s.toList==[45])=false:=(by rw[h];rfl);have e:(s.toList==[42])=false:=(by rw[h];rfl);have f:(s.toList==[110,101,103])=false:=(by rw[h];rfl);have a:=zz (show(5:Int)=(rk s.toList:Int) by rw[h];rfl);clear h;go_enter Tryz.func135,Tryz.ntmps135;go_wp2;go_ret;exact⟨AW a.out,rfl⟩
 by_cases i:s.toList=[62,61]
 · have h:=i;clear i H G E D B A m l j g;have n:(s.toList==[63])=false:=(by rw[h];rfl);have o:(s.toList==[61,62])=false:=(by rw[h];rfl);have p:(s.toList==[124])=false:=(by rw[h];rfl);have q:(s.toList==[38])=false:=(by rw[h];rfl);have r:(s.toList==[33])=false:=(by rw[h];rfl);have t:(s.toList==[61])=false:=(by rw[h];rfl);have u:(s.toList==[33,61])=false:=(by rw[h];rfl);have v:(s.toList==[60])=false:=(by rw[h];rfl);have x:(s.toList==[60,61])=false:=(by rw[h];rfl);have y:(s.toList==[62])=false:=(by rw[h];rfl);have b:(s.toList==[62,61])=true:=(by rw[h];rfl);have c:(s.toList==[43])=false:=(by rw[h];rfl);have d:(s.toList==[45])=false:=(by rw[h];rfl);have e:(s.toList==[42])=false:=(by rw[h];rfl);have f:(s.toList==[110,101,103])=false:=(by rw[h];rfl);have a:=zz (show(5:Int)=(rk s.toList:Int) by rw[h];rfl);clear h;go_enter Tryz.func135,Tryz.ntmps135;go_wp2;go_ret;exact⟨AW a.out,rfl⟩
 by_cases k:s.toList=[43]
 · have h:=k;clear k i H G E D B A m l j g;have n:(s.toList==[63])=false:=(by rw[h];rfl);have o:(s.toList==[61,62])=false:=(by rw[h];rfl);have p:(s.toList==[124])=false:=(by rw[h];rfl);have q:(s.toList==[38])=false:=(by rw[h];rfl);have r:(s.toList==[33])=false:=(by rw[h];rfl);have t:(s.toList==[61])=false:=(by rw[h];rfl);have u:(s.toList==[33,61])=false:=(by rw[h];rfl);have v:(s.toList==[60])=false:=(by rw[h];rfl);have x:(s.toList==[60,61])=false:=(by rw[h];rfl);have y:(s.toList==[62])=false:=(by rw[h];rfl);have b:(s.toList==[62,61])=false:=(by rw[h];rfl);have c:(s.toList==[43])=true:=(by rw[h];rfl);have d:(s.toList==[45])=false:=(by rw[h];rfl);have e:(s.toList==[42])=false:=(by rw[h];rfl);have f:(s.toList==[110,101,103])=false:=(by rw[h];rfl);have a:=zz (show(6:Int)=(rk s.toList:Int) by rw[h];rfl);clear h;go_enter Tryz.func135,Tryz.ntmps135;go_wp2;go_ret;exact⟨AW a.out,rfl⟩
 by_cases z:s.toList=[45]
 · have h:=z;clear z k i H G E D B A m l j g;have n:(s.toList==[63])=false:=(by rw[h];rfl);have o:(s.toList==[61,62])=false:=(by rw[h];rfl);have p:(s.toList==[124])=false:=(by rw[h];rfl);have q:(s.toList==[38])=false:=(by rw[h];rfl);have r:(s.toList==[33])=false:=(by rw[h];rfl);have t:(s.toList==[61])=false:=(by rw[h];rfl);have u:(s.toList==[33,61])=false:=(by rw[h];rfl);have v:(s.toList==[60])=false:=(by rw[h];rfl);have x:(s.toList==[60,61])=false:=(by rw[h];rfl);have y:(s.toList==[62])=false:=(by rw[h];rfl);have b:(s.toList==[62,61])=false:=(by rw[h];rfl);have c:(s.toList==[43])=false:=(by rw[h];rfl);have d:(s.toList==[45])=true:=(by rw[h];rfl);have e:(s.toList==[42])=false:=(by rw[h];rfl);have f:(s.toList==[110,101,103])=false:=(by rw[h];rfl);have a:=zz (show(6:Int)=(rk s.toList:Int) by rw[h];rfl);clear h;go_enter Tryz.func135,Tryz.ntmps135;go_wp2;go_ret;exact⟨AW a.out,rfl⟩
 by_cases C:s.toList=[42]
 · have h:=C;clear C z k i H G E D B A m l j g;have n:(s.toList==[63])=false:=(by rw[h];rfl);have o:(s.toList==[61,62])=false:=(by rw[h];rfl);have p:(s.toList==[124])=false:=(by rw[h];rfl);have q:(s.toList==[38])=false:=(by rw[h];rfl);have r:(s.toList==[33])=false:=(by rw[h];rfl);have t:(s.toList==[61])=false:=(by rw[h];rfl);have u:(s.toList==[33,61])=false:=(by rw[h];rfl);have v:(s.toList==[60])=false:=(by rw[h];rfl);have x:(s.toList==[60,61])=false:=(by rw[h];rfl);have y:(s.toList==[62])=false:=(by rw[h];rfl);have b:(s.toList==[62,61])=false:=(by rw[h];rfl);have c:(s.toList==[43])=false:=(by rw[h];rfl);have d:(s.toList==[45])=false:=(by rw[h];rfl);have e:(s.toList==[42])=true:=(by rw[h];rfl);have f:(s.toList==[110,101,103])=false:=(by rw[h];rfl);have a:=zz (show(7:Int)=(rk s.toList:Int) by rw[h];rfl);clear h;go_enter Tryz.func135,Tryz.ntmps135;go_wp2;go_ret;exact⟨AW a.out,rfl⟩
 by_cases F:s.toList=[110,101,103]
 · have h:=F;clear F C z k i H G E D B A m l j g;have n:(s.toList==[63])=false:=(by rw[h];rfl);have o:(s.toList==[61,62])=false:=(by rw[h];rfl);have p:(s.toList==[124])=false:=(by rw[h];rfl);have q:(s.toList==[38])=false:=(by rw[h];rfl);have r:(s.toList==[33])=false:=(by rw[h];rfl);have t:(s.toList==[61])=false:=(by rw[h];rfl);have u:(s.toList==[33,61])=false:=(by rw[h];rfl);have v:(s.toList==[60])=false:=(by rw[h];rfl);have x:(s.toList==[60,61])=false:=(by rw[h];rfl);have y:(s.toList==[62])=false:=(by rw[h];rfl);have b:(s.toList==[62,61])=false:=(by rw[h];rfl);have c:(s.toList==[43])=false:=(by rw[h];rfl);have d:(s.toList==[45])=false:=(by rw[h];rfl);have e:(s.toList==[42])=false:=(by rw[h];rfl);have f:(s.toList==[110,101,103])=true:=(by rw[h];rfl);have a:=zz (show(8:Int)=(rk s.toList:Int) by rw[h];rfl);clear h;go_enter Tryz.func135,Tryz.ntmps135;go_wp2;go_ret;exact⟨AW a.out,rfl⟩
 have n:(s.toList==[63])=false:=(by simpa using g);have o:(s.toList==[61,62])=false:=(by simpa using j);have p:(s.toList==[124])=false:=(by simpa using l);have q:(s.toList==[38])=false:=(by simpa using m);have r:(s.toList==[33])=false:=(by simpa using A);have t:(s.toList==[61])=false:=(by simpa using B);have u:(s.toList==[33,61])=false:=(by simpa using D);have v:(s.toList==[60])=false:=(by simpa using E);have x:(s.toList==[60,61])=false:=(by simpa using G);have y:(s.toList==[62])=false:=(by simpa using H);have b:(s.toList==[62,61])=false:=(by simpa using i);have c:(s.toList==[43])=false:=(by simpa using k);have d:(s.toList==[45])=false:=(by simpa using z);have e:(s.toList==[42])=false:=(by simpa using C);have f:(s.toList==[110,101,103])=false:=(by simpa using F);have a:=zz (show(9:Int)=(rk s.toList:Int) by simp[rk,PZ,g,j,l,m,A,B,D,E,G,H,i,k,z,C,F]);clear g j l m A B D E G H i k z C F;go_enter Tryz.func135,Tryz.ntmps135;go_wp2;go_ret;exact⟨AW a.out,rfl⟩
theorem SI(s:ByteArray)(p:Nat)(w:World):Calls Tryz.prog 187 #[.string s,.int .i64 (p:Int)] w fun e w'=>∃c,e= .returned (.agg c.toArray)/\HC w' 57 w.heap.size w'.heap.size (Cr s.data.toList p) c/\Below w.heap.size w w':=by
 by_cases a:s.data.toList=[116,114,117,101]
 · have d:s=⟨#[116,114,117,101]⟩:=Jx s _ a;subst d;clear a;go_enter Tryz.func187,Tryz.ntmps187;go_wp2;exact bodyPost_ret (v:=.agg (BM ⟨#[116,114,117,101]⟩ ⟨#[]⟩ 0 none 0 0 p).toArray) (by simp[results,Tryz.results187,go_sem,BM]) rfl ⟨_,rfl,rfl,((Below.refl _ _).alloc (Nat.le_refl _) _)⟩
 by_cases b:s.data.toList=[102,97,108,115,101]
 · have d:s=⟨#[102,97,108,115,101]⟩:=Jx s _ b;subst d;clear b a;go_enter Tryz.func187,Tryz.ntmps187;go_wp2;exact bodyPost_ret (v:=.agg (BM ⟨#[102,97,108,115,101]⟩ ⟨#[]⟩ 0 none 0 0 p).toArray) (by simp[results,Tryz.results187,go_sem,BM]) rfl ⟨_,rfl,rfl,((Below.refl _ _).alloc (Nat.le_refl _) _)⟩
 have g:(s.toList==[116,114,117,101])=false:=(by simpa[ByteArray.toList_eq]using a);have h:(s.toList==[102,97,108,115,101])=false:=by simpa[ByteArray.toList_eq]using b
 have f:=zz (show HC w 57 w.heap.size w.heap.size (Cr s.data.toList p) (BM ⟨#[110,97,109,101]⟩ s 0 none 0 0 p) by
  simp[Cr,Au,Bu,a,b,HS,BM,Bm,BA])
 clear a b;go_enter Tryz.func187,Tryz.ntmps187;go_wp2;exact bodyPost_ret (v:=.agg (BM ⟨#[110,97,109,101]⟩ s 0 none 0 0 p).toArray) (by simp[results,Tryz.results187,go_sem,BM]) rfl ⟨_,rfl,(f.out.below ((Below.refl _ _).alloc (Nat.le_refl _) _)).mono (Nat.le_refl _) (by simp),((Below.refl _ _).alloc (Nat.le_refl _) _)⟩
end
section
open Go.RowKit
def PP(xb rb lv:Nat)(res:PR)(w:World)(e:Ending)(w':World):Prop:=
 match res with
 | .ok x r=>∃o nm n A l cap p,e= .returned (.tuple #[.agg #[.string o,.string nm,.int .i64 n,.slice A l cap,.int .i64 p],.nilIface])/\HC w' 57 w.heap.size w'.heap.size x (BM o nm n A l cap p)/\XR w' xb rb r lv/\Fr w.heap.size rb w w'
 | .er c q=>∃b,e= .returned (.tuple #[.agg #[.string ⟨#[]⟩,.string ⟨#[]⟩,.int .i64 0,.slice none 0 0,.int .i64 0],.iface 101 (.pointer (some ⟨b,0,none⟩))])/\w.heap.size<=b/\EC w' b q c/\Fr w.heap.size rb w w'
def RC(f:FuncId)(F:List AH->PR)(lv:Nat):Prop:=∀xb rb w us,XR w xb rb us lv->Calls Tryz.prog f #[.pointer (some ⟨xb,0,none⟩)] w (PP xb rb lv (F us) w)
section
variable {w:World} {xb rb lv:Nat} {us:List AH}
theorem XR.cells(h:XR w xb rb us lv):w.cell? ⟨xb,0,none⟩=some (.pointer (some ⟨rb,0,none⟩))/\w.cell? ⟨xb,1,none⟩=some (.int .i64 (lv:Int))/\w.frozen? ⟨xb,1,none⟩=false:=
 ⟨(AL h.blk 0).trans rfl,(AL h.blk 1).trans rfl,Bf h.blk 1⟩
theorem XR.peek(h:XR w xb rb us lv):Calls Tryz.prog 45 #[.pointer (some ⟨rb,0,none⟩)] w fun e w'=>e= .returned (.agg #[.int .i64 (hd us).kind,.string ⟨(hd us).text.toArray⟩,.int .i64 (hd us).pos])/\Below w.heap.size w w':=by obtain⟨f,k,c,a,b,d⟩:=h.get;exact K6 a b
theorem XR.is_(h:XR w xb rb us lv)(x:ByteArray):Calls Tryz.prog 77 #[.pointer (some ⟨rb,0,none⟩),.string x] w fun e w'=>e= .returned (.bool (AG (hd us) x.data.toList))/\Below w.heap.size w w':=by obtain⟨f,k,c,a,b,d⟩:=h.get;exact KY x (DL a b)
theorem XR.skip_no(h:XR w xb rb us lv)(x:ByteArray)(hi:AG (hd us) x.data.toList=false):Calls Tryz.prog 101 #[.pointer (some ⟨rb,0,none⟩),.string x] w fun e w'=>e= .returned (.bool false)/\Below w.heap.size w w':=by obtain⟨f,k,c,a,b,d⟩:=h.get;exact Go.Proofs.YtodijgndbjfbgaaGreatDoor.skip_no x (DL a b) hi
theorem XR.on(h:XR w xb rb us lv){ts:List AH}{k:Nat}{w':World}(h1:us=ts.drop k)(h0:(hd us).kind≠0)(hR:RD w' rb ts (k+1))(hg:w.grownBy w' (some rb)):XR w' xb rb us.tail lv/\Fr w.heap.size rb w w':=by have a:=(h.fine.more h0).1;have e:us.tail=ts.drop (k+1):=(by rw[h1,List.tail_drop]);rw[e]at a ⊢;exact⟨h.step hR a (Fr.ofGrown hg),Fr.ofGrown hg⟩
theorem XR.skip_yes(h:XR w xb rb us lv)(x:ByteArray)(hi:AG (hd us) x.data.toList=true):Calls Tryz.prog 101 #[.pointer (some ⟨rb,0,none⟩),.string x] w fun e w'=>e= .returned (.bool true)/\XR w' xb rb us.tail lv/\Fr w.heap.size rb w w':=by obtain⟨l,k,b,c,d,f⟩:=h.get;have a:=AC hi;exact(Go.Proofs.YtodijgndbjfbgaaGreatDoor.skip_yes x c d hi (f a)).mono fun _ _ ⟨i,g,j⟩=>⟨i,h.on b a g j⟩
theorem XR.want_no(h:XR w xb rb us lv)(x:ByteArray)(hi:AG (hd us) x.data.toList=false):Calls Tryz.prog 76 #[.pointer (some ⟨rb,0,none⟩),.string x] w fun e w'=>∃b,e= .returned (.iface 101 (.pointer (some ⟨b,0,none⟩)))/\w.heap.size<=b/\EC w' b (hd us).pos 20/\Below w.heap.size w w':=by obtain⟨g,k,d,a,c,f⟩:=h.get;exact Go.Proofs.YtodijgndbjfbgaaGreatDoor.want_no x (DL a c) hi
theorem XR.want_yes(h:XR w xb rb us lv)(x:ByteArray)(hi:AG (hd us) x.data.toList=true):Calls Tryz.prog 76 #[.pointer (some ⟨rb,0,none⟩),.string x] w fun e w'=>e= .returned .nilIface/\XR w' xb rb us.tail lv/\Fr w.heap.size rb w w':=by obtain⟨l,k,b,c,d,f⟩:=h.get;have a:=AC hi;exact(Go.Proofs.YtodijgndbjfbgaaGreatDoor.want_yes x c d hi (f a)).mono fun _ _ ⟨i,g,j⟩=>⟨i,h.on b a g j⟩
theorem XR.take(h:XR w xb rb us lv)(h0:(hd us).kind≠0):Calls Tryz.prog 123 #[.pointer (some ⟨rb,0,none⟩)] w fun e w'=>e= .returned (.agg #[.int .i64 (hd us).kind,.string ⟨(hd us).text.toArray⟩,.int .i64 (hd us).pos])/\XR w' xb rb us.tail lv/\Fr w.heap.size rb w w':=by obtain⟨j,k,a,b,c,d⟩:=h.get;exact(take_on b c h0 (d h0)).mono fun _ _ ⟨g,f,i⟩=>⟨g,h.on a h0 f i⟩
theorem XR.name_no(h:XR w xb rb us lv)(hk:(hd us).kind≠1):Calls Tryz.prog 186 #[.pointer (some ⟨rb,0,none⟩)] w fun e w'=>∃b,e= .returned (.tuple #[.string ⟨#[]⟩,.iface 101 (.pointer (some ⟨b,0,none⟩))])/\w.heap.size<=b/\EC w' b (hd us).pos 20/\Below w.heap.size w w':=by obtain⟨g,k,d,a,c,f⟩:=h.get;exact Go.Proofs.YtodijgndbjfbgaaGreatDoor.name_no (DL a c) hk
theorem XR.name_yes(h:XR w xb rb us lv)(hk:(hd us).kind=1):Calls Tryz.prog 186 #[.pointer (some ⟨rb,0,none⟩)] w fun e w'=>e= .returned (.tuple #[.string ⟨(hd us).text.toArray⟩,.nilIface])/\XR w' xb rb us.tail lv/\Fr w.heap.size rb w w':=by obtain⟨l,k,b,c,d,f⟩:=h.get;have a:(hd us).kind≠0:=(by omega);exact(Go.Proofs.YtodijgndbjfbgaaGreatDoor.name_yes c d hk (f a)).mono fun _ _ ⟨i,g,j⟩=>⟨i,h.on b a g j⟩
theorem XR.number_no(h:XR w xb rb us lv)(hk:(hd us).kind≠2):Calls Tryz.prog 161 #[.pointer (some ⟨rb,0,none⟩)] w fun e w'=>∃b,e= .returned (.tuple #[.int .i64 0,.iface 101 (.pointer (some ⟨b,0,none⟩))])/\w.heap.size<=b/\EC w' b (hd us).pos 20/\Below w.heap.size w w':=by obtain⟨g,k,d,a,c,f⟩:=h.get;exact Go.Proofs.YtodijgndbjfbgaaGreatDoor.number_no (DL a c) hk
theorem XR.number_yes(h:XR w xb rb us lv)(hk:(hd us).kind=2):Calls Tryz.prog 161 #[.pointer (some ⟨rb,0,none⟩)] w fun e w'=>e= .returned (.tuple #[.int .i64 (AX (hd us).text),.nilIface])/\XR w' xb rb us.tail lv/\Fr w.heap.size rb w w':=by obtain⟨o,k,b,c,d,f⟩:=h.get;have a:(hd us).kind≠0:=(by omega);obtain⟨l,m,n⟩:=h.fine.numb hk;exact(Go.Proofs.YtodijgndbjfbgaaGreatDoor.number_yes h.glob c d hk (f a) h.fine.len l m n).mono fun _ _ ⟨i,g,j⟩=>⟨i,h.on b a g j⟩
end
theorem EC.keep{w w':World}{b:Nat}{p n:Int}(h:EC w b p n)(hk:w'.heap[b]?=w.heap[b]?):EC w' b p n:=
 ⟨(World.cell?_of_block (w:=w) hk).trans h.pos,(World.cell?_of_block (w:=w) hk).trans h.err,h.typ.imp fun _ q=>hk.trans q⟩
end
end
section
section
open Go.RowKit
theorem XR.lev{w:World}{xb rb lv l:Nat}{us:List AH}(h:XR w xb rb us lv)(hl:l<=64){v:Int}(hv:v=(l:Int)):XR (w.setCell ⟨xb,1,none⟩ (.int .i64 v)) xb rb us l:=by
 subst hv;refine⟨?_,h.fine,?_,?_,hl,h.hi⟩
 · obtain⟨c,k,a,b⟩:=h.rd;exact⟨c,k,a,b.set h.blk (by decide) (by decide) _⟩
 · have:=A7 (i:=1) h.blk (.int .i64 (l:Int));simpa using this
 · exact DA h.glob (Below.heap_setCell w ⟨xb,1,none⟩ _ 0 (by have:=h.hi;show 0≠xb;omega)) (Below.heap_setCell w ⟨xb,1,none⟩ _ 3 (by have:=h.hi;show 3≠xb;omega))
theorem Ee{w W w1:World}{xb rb l:Nat}(h1:Fr w.heap.size xb w W)(h2:Fr W.heap.size rb W w1)(hx:w.heap[xb]?=some (.cells #[.pointer (some ⟨rb,0,none⟩),.int .i64 ((l+1:Nat):Int)] 246 (0,0)))
 (hx1:w1.heap[xb]?=some (.cells #[.pointer (some ⟨rb,0,none⟩),.int .i64 (l:Int)] 246 (0,0))) {v:Int} (hv:v=((l+1:Nat):Int)):Fr w.heap.size rb w (w1.setCell ⟨xb,1,none⟩ (.int .i64 v)):=by
 subst hv;refine⟨h2.os.trans h1.os,h2.tape.trans h1.tape,h2.output.trans h1.output,by simpa using Nat.le_trans h1.size h2.size,fun k b c=>?_⟩;by_cases a:k=xb
 · subst a;rw[hx];have:=A7 (i:=1) hx1 (.int .i64 ((l+1:Nat):Int));simpa using this
 · rw[Below.heap_setCell w1 ⟨xb,1,none⟩ _ k a,h2.block k (by have:=h1.size;omega) c,h1.block k b a]
theorem EC.far{w:World}{b:Nat}{p n:Int}(h:EC w b p n){a:Addr}(ha:b≠a.block)(u:Value):EC (w.setCell a u) b p n:=h.keep (Below.heap_setCell w a u b ha)
theorem EC.far5{w:World}{b b':Nat}{p n:Int}(h:EC w b p n)(ha:b≠b')(x0 x1 x2 x3 x4:Value):EC (((((w.setCell ⟨b',0,none⟩ x0).setCell ⟨b',1,none⟩ x1).setCell ⟨b',2,none⟩ x2).setCell ⟨b',3,none⟩ x3).setCell ⟨b',4,none⟩ x4) b p n:=
 ((((h.far (a:=⟨b',0,none⟩) ha _).far (a:=⟨b',1,none⟩) ha _).far (a:=⟨b',2,none⟩) ha _).far (a:=⟨b',3,none⟩) ha _).far (a:=⟨b',4,none⟩) ha _
theorem EC.alloc{w:World}{b:Nat}{p n:Int}(h:EC w b p n)(o:Obj):EC (w.alloc o) b p n:=h.below ((Below.refl _ _).alloc (Nat.le_refl _) _)
theorem EC.new{w:World}{b:Nat}(hb:b=w.heap.size)(p n:Int):EC (w.alloc (.cells #[.int .i64 p,.iface 61 (.int .i64 n)] 104)) b p n:=by subst hb;have h:=heap_alloc_new w (.cells #[.int .i64 p,.iface 61 (.int .i64 n)] 104);exact⟨(AL h 0).trans rfl,(AL h 1).trans rfl,⟨_,h⟩⟩
theorem F5{xb rb:Nat}{us:List AH}(w:World)(h:XR w xb rb us 0)(f:FuncId)(cap:Array Value):Calls Tryz.prog 159 #[.pointer (some ⟨xb,0,none⟩),.func (.func f) cap #[]] w (PP xb rb 0 (GN us) w):=by
 obtain⟨c0,A,B⟩:=h.cells;have D:=h.ltx;have p:=Df;have q:=C7;have r:=C8;have H:=zz (fun(W:World) (b:Below w.heap.size w W)=>(h.below b).peek);clear h;go_enter Tryz.func159,Tryz.ntmps159;go_wp2_with fail;refine AA (P:=fun W=>Ai W w.heap.size (.string ⟨#[]⟩) (.string ⟨#[]⟩) (.int .i64 0) (.slice none 0 0) (.int .i64 0)/\Below w.heap.size w W) ⟨Ai.new _ _ _ _ _ _,(Below.refl _ _).alloc (Nat.le_refl _) _⟩ ?_;rintro W ⟨g,c⟩;refine(H.out W c).mono ?_;rintro e i ⟨rfl,b⟩;have C:=g.lt;have a:=g.below b;obtain⟨t,u,x,y,z⟩:=a.cells;obtain⟨E,F,G,I,J⟩:=a.frozen;have s:=a.lt;have d:=zz a;have j:=zz (c.trans (b.mono c.size));clear g c b a;go_wp2;obtain⟨k,l,m,n,o⟩:=((d.out.set5 (.string ⟨#[]⟩) (.string ⟨#[]⟩) (.int .i64 0) (.slice none 0 0) (.int .i64 0)).alloc (.cells #[.int .i64 (hd us).pos,.iface 61 (.int .i64 21)] 104)).cells;refine bodyPost_ret (v:=.tuple #[.agg #[.string ⟨#[]⟩,.string ⟨#[]⟩,.int .i64 0,.slice none 0 0,.int .i64 0],.iface 101 (.pointer (some ⟨i.heap.size,0,none⟩))]) (by simp[results,Tryz.results159,go_sem,k,l,m,n,o]) rfl ⟨i.heap.size,rfl,by omega,?_,?_⟩
 · exact EC.new (by simp) _ _
 · exact((Fr.of j.out).set5 (Nat.le_refl _) _ _ _ _ _).alloc (by simp;omega) _
theorem Jm{xb rb l:Nat}{us:List AH}{F:List AH->PR}(hF:RC 160 F l)(w:World)(h:XR w xb rb us (l+1)):Calls Tryz.prog 159 #[.pointer (some ⟨xb,0,none⟩),.func (.func 160) #[.pointer (some ⟨xb,0,none⟩)] #[]] w (PP xb rb (l+1) (F us) w):=by
 obtain⟨c0,K,R⟩:=h.cells;have hx:=h.ltx;have hr:=h.ltr;have S:=h.ne;have hl:l<=63:=(by have:=h.lv64;omega);have g0:(((l+1:Nat):Int)==0)=false:=(by rw[beq_eq_false_iff_ne];omega);have H:=zz hF;have HX:=zz h;have V:=zz h.blk;clear h hF;go_enter Tryz.func159,Tryz.ntmps159;go_wp2_with fail;refine AA (P:=fun W=>XR W xb rb us l/\Ai W w.heap.size (.string ⟨#[]⟩) (.string ⟨#[]⟩) (.int .i64 0) (.slice none 0 0) (.int .i64 0)/\Fr w.heap.size xb w W) ⟨(HX.out.lev (by omega) rfl).alloc _,?_,?_⟩ ?_
 · have:=Ai.new (w.setCell ⟨xb,1,none⟩ (.int .i64 (l:Int))) (.string ⟨#[]⟩) (.string ⟨#[]⟩) (.int .i64 0) (.slice none 0 0) (.int .i64 0);simpa using this
 · exact((Fr.refl w.heap.size xb w).setCell (p:=⟨xb,1,none⟩) (.inr rfl) _).alloc (by simp) _
 rintro W ⟨C,z,hF⟩;refine(H.out xb rb W us C).mono ?_;intro e w1 D;clear c0 K R;have hs:=z.lt;cases f:F us with
 | ok x r=>
   rw[f]at D;obtain⟨o,nm,n,A,E,k,p,rfl,Y,j,g⟩:=D;have d:=z.fr g (by omega);obtain⟨b0,b1,b2,b3,b4⟩:=d.cells;obtain⟨z0,z1,z2,z3,z4⟩:=d.frozen;have T:=d.lt;obtain⟨c0,K,R⟩:=j.cells;have U:=j.ltx;have y:w.heap.size≠xb:=(by omega);have s:=zz d;have J:=zz j;have u:=zz j.blk;have HC:=zz Y;have G:=zz hF;have t:=zz g;have I:=zz f;clear d j Y hF g C z f;go_wp2;have B:((l:Int)+1)=((l+1:Nat):Int):=(by omega);have m:=s.out.far (p:=⟨xb,1,none⟩) y (.int .i64 ((l:Int)+1));obtain⟨L,M,N,O,Q⟩:=((m.set5 (.string o) (.string nm) (.int .i64 n) (.slice A E k) (.int .i64 p)).alloc (.cells #[.string o,.string nm,.int .i64 n,.slice A E k,.int .i64 p] 57)).cells;rw[I.out];refine bodyPost_ret (v:=.tuple #[.agg #[.string o,.string nm,.int .i64 n,.slice A E k,.int .i64 p],.nilIface]) (by simp[results,Tryz.results159,go_sem,L,M,N,O,Q]) rfl ⟨o,nm,n,A,E,k,p,rfl,?_,?_,?_⟩
   · exact(((HC.out.setCell (p:=⟨xb,1,none⟩) (.inl (by show xb<_;omega)) _).far5 (by omega) _ _ _ _ _).alloc _).mono (by omega) (by simp)
   · exact((J.out.lev (l:=l+1) (by omega) B).set5 m (by omega) _ _ _ _ _).alloc _
   · exact((Ee G.out t.out V.out u.out B).set5 (Nat.le_refl _) _ _ _ _ _).alloc (by simp;omega) _
 | er c q=>
   rw[f]at D;obtain⟨b,rfl,aa,X,g⟩:=D;have d:=z.fr g (by omega);obtain⟨b0,b1,b2,b3,b4⟩:=d.cells;obtain⟨z0,z1,z2,z3,z4⟩:=d.frozen;have T:=d.lt;have i:=(g.block xb (by omega) S).trans C.blk;have c0:=(AL i 0).trans rfl;have K:=(AL i 1).trans rfl;have R:=Bf i 1;have U:xb<w1.heap.size:=BB i;have y:w.heap.size≠xb:=(by omega);have s:=zz d;have u:=zz i;have Z:=zz X;have G:=zz hF;have t:=zz g;have I:=zz f;clear d X hF g C z f i;go_wp2;have B:((l:Int)+1)=((l+1:Nat):Int):=(by omega);have m:=s.out.far (p:=⟨xb,1,none⟩) y (.int .i64 ((l:Int)+1));obtain⟨L,M,N,O,Q⟩:=((m.set5 (.string ⟨#[]⟩) (.string ⟨#[]⟩) (.int .i64 0) (.slice none 0 0) (.int .i64 0)).alloc (.cells #[.string ⟨#[]⟩,.string ⟨#[]⟩,.int .i64 0,.slice none 0 0,.int .i64 0] 57)).cells;rw[I.out];refine bodyPost_ret (v:=.tuple #[.agg #[.string ⟨#[]⟩,.string ⟨#[]⟩,.int .i64 0,.slice none 0 0,.int .i64 0],.iface 101 (.pointer (some ⟨b,0,none⟩))]) (by simp[results,Tryz.results159,go_sem,L,M,N,O,Q]) rfl ⟨b,rfl,by omega,?_,?_⟩
   · exact((Z.out.far (a:=⟨xb,1,none⟩) (by show b≠xb;omega) _).far5 (by omega) _ _ _ _ _).alloc _
   · exact((Ee G.out t.out V.out u.out B).set5 (Nat.le_refl _) _ _ _ _ _).alloc (by simp;omega) _
theorem Lk{xb rb l:Nat}{us:List AH}{F:List AH->PR}(hF:RC 169 F l)(w:World)(h:XR w xb rb us (l+1)):Calls Tryz.prog 159 #[.pointer (some ⟨xb,0,none⟩),.func (.func 169) #[.pointer (some ⟨xb,0,none⟩)] #[]] w (PP xb rb (l+1) (F us) w):=by
 obtain⟨c0,K,R⟩:=h.cells;have hx:=h.ltx;have hr:=h.ltr;have S:=h.ne;have hl:l<=63:=(by have:=h.lv64;omega);have g0:(((l+1:Nat):Int)==0)=false:=(by rw[beq_eq_false_iff_ne];omega);have H:=zz hF;have HX:=zz h;have V:=zz h.blk;clear h hF;go_enter Tryz.func159,Tryz.ntmps159;go_wp2_with fail;refine AA (P:=fun W=>XR W xb rb us l/\Ai W w.heap.size (.string ⟨#[]⟩) (.string ⟨#[]⟩) (.int .i64 0) (.slice none 0 0) (.int .i64 0)/\Fr w.heap.size xb w W) ⟨(HX.out.lev (by omega) rfl).alloc _,?_,?_⟩ ?_
 · have:=Ai.new (w.setCell ⟨xb,1,none⟩ (.int .i64 (l:Int))) (.string ⟨#[]⟩) (.string ⟨#[]⟩) (.int .i64 0) (.slice none 0 0) (.int .i64 0);simpa using this
 · exact((Fr.refl w.heap.size xb w).setCell (p:=⟨xb,1,none⟩) (.inr rfl) _).alloc (by simp) _
 rintro W ⟨C,z,hF⟩;refine(H.out xb rb W us C).mono ?_;intro e w1 D;clear c0 K R;have hs:=z.lt;cases f:F us with
 | ok x r=>
   rw[f]at D;obtain⟨o,nm,n,A,E,k,p,rfl,Y,j,g⟩:=D;have d:=z.fr g (by omega);obtain⟨b0,b1,b2,b3,b4⟩:=d.cells;obtain⟨z0,z1,z2,z3,z4⟩:=d.frozen;have T:=d.lt;obtain⟨c0,K,R⟩:=j.cells;have U:=j.ltx;have y:w.heap.size≠xb:=(by omega);have s:=zz d;have J:=zz j;have u:=zz j.blk;have HC:=zz Y;have G:=zz hF;have t:=zz g;have I:=zz f;clear d j Y hF g C z f;go_wp2;have B:((l:Int)+1)=((l+1:Nat):Int):=(by omega);have m:=s.out.far (p:=⟨xb,1,none⟩) y (.int .i64 ((l:Int)+1));obtain⟨L,M,N,O,Q⟩:=((m.set5 (.string o) (.string nm) (.int .i64 n) (.slice A E k) (.int .i64 p)).alloc (.cells #[.string o,.string nm,.int .i64 n,.slice A E k,.int .i64 p] 57)).cells;rw[I.out];refine bodyPost_ret (v:=.tuple #[.agg #[.string o,.string nm,.int .i64 n,.slice A E k,.int .i64 p],.nilIface]) (by simp[results,Tryz.results159,go_sem,L,M,N,O,Q]) rfl ⟨o,nm,n,A,E,k,p,rfl,?_,?_,?_⟩
   · exact(((HC.out.setCell (p:=⟨xb,1,none⟩) (.inl (by show xb<_;omega)) _).far5 (by omega) _ _ _ _ _).alloc _).mono (by omega) (by simp)
   · exact((J.out.lev (l:=l+1) (by omega) B).set5 m (by omega) _ _ _ _ _).alloc _
   · exact((Ee G.out t.out V.out u.out B).set5 (Nat.le_refl _) _ _ _ _ _).alloc (by simp;omega) _
 | er c q=>
   rw[f]at D;obtain⟨b,rfl,aa,X,g⟩:=D;have d:=z.fr g (by omega);obtain⟨b0,b1,b2,b3,b4⟩:=d.cells;obtain⟨z0,z1,z2,z3,z4⟩:=d.frozen;have T:=d.lt;have i:=(g.block xb (by omega) S).trans C.blk;have c0:=(AL i 0).trans rfl;have K:=(AL i 1).trans rfl;have R:=Bf i 1;have U:xb<w1.heap.size:=BB i;have y:w.heap.size≠xb:=(by omega);have s:=zz d;have u:=zz i;have Z:=zz X;have G:=zz hF;have t:=zz g;have I:=zz f;clear d X hF g C z f i;go_wp2;have B:((l:Int)+1)=((l+1:Nat):Int):=(by omega);have m:=s.out.far (p:=⟨xb,1,none⟩) y (.int .i64 ((l:Int)+1));obtain⟨L,M,N,O,Q⟩:=((m.set5 (.string ⟨#[]⟩) (.string ⟨#[]⟩) (.int .i64 0) (.slice none 0 0) (.int .i64 0)).alloc (.cells #[.string ⟨#[]⟩,.string ⟨#[]⟩,.int .i64 0,.slice none 0 0,.int .i64 0] 57)).cells;rw[I.out];refine bodyPost_ret (v:=.tuple #[.agg #[.string ⟨#[]⟩,.string ⟨#[]⟩,.int .i64 0,.slice none 0 0,.int .i64 0],.iface 101 (.pointer (some ⟨b,0,none⟩))]) (by simp[results,Tryz.results159,go_sem,L,M,N,O,Q]) rfl ⟨b,rfl,by omega,?_,?_⟩
   · exact((Z.out.far (a:=⟨xb,1,none⟩) (by show b≠xb;omega) _).far5 (by omega) _ _ _ _ _).alloc _
   · exact((Ee G.out t.out V.out u.out B).set5 (Nat.le_refl _) _ _ _ _ _).alloc (by simp;omega) _
theorem NJ{xb rb l:Nat}{us:List AH}{F:List AH->PR}(hF:RC 178 F l)(w:World)(h:XR w xb rb us (l+1)):Calls Tryz.prog 159 #[.pointer (some ⟨xb,0,none⟩),.func (.func 178) #[.pointer (some ⟨xb,0,none⟩)] #[]] w (PP xb rb (l+1) (F us) w):=by
 obtain⟨c0,K,R⟩:=h.cells;have hx:=h.ltx;have hr:=h.ltr;have S:=h.ne;have hl:l<=63:=(by have:=h.lv64;omega);have g0:(((l+1:Nat):Int)==0)=false:=(by rw[beq_eq_false_iff_ne];omega);have H:=zz hF;have HX:=zz h;have V:=zz h.blk;clear h hF;go_enter Tryz.func159,Tryz.ntmps159;go_wp2_with fail;refine AA (P:=fun W=>XR W xb rb us l/\Ai W w.heap.size (.string ⟨#[]⟩) (.string ⟨#[]⟩) (.int .i64 0) (.slice none 0 0) (.int .i64 0)/\Fr w.heap.size xb w W) ⟨(HX.out.lev (by omega) rfl).alloc _,?_,?_⟩ ?_
 · have:=Ai.new (w.setCell ⟨xb,1,none⟩ (.int .i64 (l:Int))) (.string ⟨#[]⟩) (.string ⟨#[]⟩) (.int .i64 0) (.slice none 0 0) (.int .i64 0);simpa using this
 · exact((Fr.refl w.heap.size xb w).setCell (p:=⟨xb,1,none⟩) (.inr rfl) _).alloc (by simp) _
 rintro W ⟨C,z,hF⟩;refine(H.out xb rb W us C).mono ?_;intro e w1 D;clear c0 K R;have hs:=z.lt;cases f:F us with
 | ok x r=>
   rw[f]at D;obtain⟨o,nm,n,A,E,k,p,rfl,Y,j,g⟩:=D;have d:=z.fr g (by omega);obtain⟨b0,b1,b2,b3,b4⟩:=d.cells;obtain⟨z0,z1,z2,z3,z4⟩:=d.frozen;have T:=d.lt;obtain⟨c0,K,R⟩:=j.cells;have U:=j.ltx;have y:w.heap.size≠xb:=(by omega);have s:=zz d;have J:=zz j;have u:=zz j.blk;have HC:=zz Y;have G:=zz hF;have t:=zz g;have I:=zz f;clear d j Y hF g C z f;go_wp2;have B:((l:Int)+1)=((l+1:Nat):Int):=(by omega);have m:=s.out.far (p:=⟨xb,1,none⟩) y (.int .i64 ((l:Int)+1));obtain⟨L,M,N,O,Q⟩:=((m.set5 (.string o) (.string nm) (.int .i64 n) (.slice A E k) (.int .i64 p)).alloc (.cells #[.string o,.string nm,.int .i64 n,.slice A E k,.int .i64 p] 57)).cells;rw[I.out];refine bodyPost_ret (v:=.tuple #[.agg #[.string o,.string nm,.int .i64 n,.slice A E k,.int .i64 p],.nilIface]) (by simp[results,Tryz.results159,go_sem,L,M,N,O,Q]) rfl ⟨o,nm,n,A,E,k,p,rfl,?_,?_,?_⟩
   · exact(((HC.out.setCell (p:=⟨xb,1,none⟩) (.inl (by show xb<_;omega)) _).far5 (by omega) _ _ _ _ _).alloc _).mono (by omega) (by simp)
   · exact((J.out.lev (l:=l+1) (by omega) B).set5 m (by omega) _ _ _ _ _).alloc _
   · exact((Ee G.out t.out V.out u.out B).set5 (Nat.le_refl _) _ _ _ _ _).alloc (by simp;omega) _
 | er c q=>
   rw[f]at D;obtain⟨b,rfl,aa,X,g⟩:=D;have d:=z.fr g (by omega);obtain⟨b0,b1,b2,b3,b4⟩:=d.cells;obtain⟨z0,z1,z2,z3,z4⟩:=d.frozen;have T:=d.lt;have i:=(g.block xb (by omega) S).trans C.blk;have c0:=(AL i 0).trans rfl;have K:=(AL i 1).trans rfl;have R:=Bf i 1;have U:xb<w1.heap.size:=BB i;have y:w.heap.size≠xb:=(by omega);have s:=zz d;have u:=zz i;have Z:=zz X;have G:=zz hF;have t:=zz g;have I:=zz f;clear d X hF g C z f i;go_wp2;have B:((l:Int)+1)=((l+1:Nat):Int):=(by omega);have m:=s.out.far (p:=⟨xb,1,none⟩) y (.int .i64 ((l:Int)+1));obtain⟨L,M,N,O,Q⟩:=((m.set5 (.string ⟨#[]⟩) (.string ⟨#[]⟩) (.int .i64 0) (.slice none 0 0) (.int .i64 0)).alloc (.cells #[.string ⟨#[]⟩,.string ⟨#[]⟩,.int .i64 0,.slice none 0 0,.int .i64 0] 57)).cells;rw[I.out];refine bodyPost_ret (v:=.tuple #[.agg #[.string ⟨#[]⟩,.string ⟨#[]⟩,.int .i64 0,.slice none 0 0,.int .i64 0],.iface 101 (.pointer (some ⟨b,0,none⟩))]) (by simp[results,Tryz.results159,go_sem,L,M,N,O,Q]) rfl ⟨b,rfl,by omega,?_,?_⟩
   · exact((Z.out.far (a:=⟨xb,1,none⟩) (by show b≠xb;omega) _).far5 (by omega) _ _ _ _ _).alloc _
   · exact((Ee G.out t.out V.out u.out B).set5 (Nat.le_refl _) _ _ _ _ _).alloc (by simp;omega) _
theorem KS{xb rb l:Nat}{us:List AH}{F:List AH->PR}(hF:RC 183 F l)(w:World)(h:XR w xb rb us (l+1)):Calls Tryz.prog 159 #[.pointer (some ⟨xb,0,none⟩),.func (.func 183) #[.pointer (some ⟨xb,0,none⟩)] #[]] w (PP xb rb (l+1) (F us) w):=by
 obtain⟨c0,K,R⟩:=h.cells;have hx:=h.ltx;have hr:=h.ltr;have S:=h.ne;have hl:l<=63:=(by have:=h.lv64;omega);have g0:(((l+1:Nat):Int)==0)=false:=(by rw[beq_eq_false_iff_ne];omega);have H:=zz hF;have HX:=zz h;have V:=zz h.blk;clear h hF;go_enter Tryz.func159,Tryz.ntmps159;go_wp2_with fail;refine AA (P:=fun W=>XR W xb rb us l/\Ai W w.heap.size (.string ⟨#[]⟩) (.string ⟨#[]⟩) (.int .i64 0) (.slice none 0 0) (.int .i64 0)/\Fr w.heap.size xb w W) ⟨(HX.out.lev (by omega) rfl).alloc _,?_,?_⟩ ?_
 · have:=Ai.new (w.setCell ⟨xb,1,none⟩ (.int .i64 (l:Int))) (.string ⟨#[]⟩) (.string ⟨#[]⟩) (.int .i64 0) (.slice none 0 0) (.int .i64 0);simpa using this
 · exact((Fr.refl w.heap.size xb w).setCell (p:=⟨xb,1,none⟩) (.inr rfl) _).alloc (by simp) _
 rintro W ⟨C,z,hF⟩;refine(H.out xb rb W us C).mono ?_;intro e w1 D;clear c0 K R;have hs:=z.lt;cases f:F us with
 | ok x r=>
   rw[f]at D;obtain⟨o,nm,n,A,E,k,p,rfl,Y,j,g⟩:=D;have d:=z.fr g (by omega);obtain⟨b0,b1,b2,b3,b4⟩:=d.cells;obtain⟨z0,z1,z2,z3,z4⟩:=d.frozen;have T:=d.lt;obtain⟨c0,K,R⟩:=j.cells;have U:=j.ltx;have y:w.heap.size≠xb:=(by omega);have s:=zz d;have J:=zz j;have u:=zz j.blk;have HC:=zz Y;have G:=zz hF;have t:=zz g;have I:=zz f;clear d j Y hF g C z f;go_wp2;have B:((l:Int)+1)=((l+1:Nat):Int):=(by omega);have m:=s.out.far (p:=⟨xb,1,none⟩) y (.int .i64 ((l:Int)+1));obtain⟨L,M,N,O,Q⟩:=((m.set5 (.string o) (.string nm) (.int .i64 n) (.slice A E k) (.int .i64 p)).alloc (.cells #[.string o,.string nm,.int .i64 n,.slice A E k,.int .i64 p] 57)).cells;rw[I.out];refine bodyPost_ret (v:=.tuple #[.agg #[.string o,.string nm,.int .i64 n,.slice A E k,.int .i64 p],.nilIface]) (by simp[results,Tryz.results159,go_sem,L,M,N,O,Q]) rfl ⟨o,nm,n,A,E,k,p,rfl,?_,?_,?_⟩
   · exact(((HC.out.setCell (p:=⟨xb,1,none⟩) (.inl (by show xb<_;omega)) _).far5 (by omega) _ _ _ _ _).alloc _).mono (by omega) (by simp)
   · exact((J.out.lev (l:=l+1) (by omega) B).set5 m (by omega) _ _ _ _ _).alloc _
   · exact((Ee G.out t.out V.out u.out B).set5 (Nat.le_refl _) _ _ _ _ _).alloc (by simp;omega) _
 | er c q=>
   rw[f]at D;obtain⟨b,rfl,aa,X,g⟩:=D;have d:=z.fr g (by omega);obtain⟨b0,b1,b2,b3,b4⟩:=d.cells;obtain⟨z0,z1,z2,z3,z4⟩:=d.frozen;have T:=d.lt;have i:=(g.block xb (by omega) S).trans C.blk;have c0:=(AL i 0).trans rfl;have K:=(AL i 1).trans rfl;have R:=Bf i 1;have U:xb<w1.heap.size:=BB i;have y:w.heap.size≠xb:=(by omega);have s:=zz d;have u:=zz i;have Z:=zz X;have G:=zz hF;have t:=zz g;have I:=zz f;clear d X hF g C z f i;go_wp2;have B:((l:Int)+1)=((l+1:Nat):Int):=(by omega);have m:=s.out.far (p:=⟨xb,1,none⟩) y (.int .i64 ((l:Int)+1));obtain⟨L,M,N,O,Q⟩:=((m.set5 (.string ⟨#[]⟩) (.string ⟨#[]⟩) (.int .i64 0) (.slice none 0 0) (.int .i64 0)).alloc (.cells #[.string ⟨#[]⟩,.string ⟨#[]⟩,.int .i64 0,.slice none 0 0,.int .i64 0] 57)).cells;rw[I.out];refine bodyPost_ret (v:=.tuple #[.agg #[.string ⟨#[]⟩,.string ⟨#[]⟩,.int .i64 0,.slice none 0 0,.int .i64 0],.iface 101 (.pointer (some ⟨b,0,none⟩))]) (by simp[results,Tryz.results159,go_sem,L,M,N,O,Q]) rfl ⟨b,rfl,by omega,?_,?_⟩
   · exact((Z.out.far (a:=⟨xb,1,none⟩) (by show b≠xb;omega) _).far5 (by omega) _ _ _ _ _).alloc _
   · exact((Ee G.out t.out V.out u.out B).set5 (Nat.le_refl _) _ _ _ _ _).alloc (by simp;omega) _
end
section
open Go.RowKit
theorem Cc{w:World}{k:Nat}(hk:k=w.heap.size)(o:Obj):(w.alloc o).heap[k]?=some o:=by subst hk;exact heap_alloc_new w o
def DC(f:FuncId)(F:List AH->PR)(lv:Nat):Prop:=∀xb rb w us,XR w xb rb us lv->Calls Tryz.prog 159 #[.pointer (some ⟨xb,0,none⟩),.func (.func f) #[.pointer (some ⟨xb,0,none⟩)] #[]] w (PP xb rb lv (F us) w)
section
variable {w:World} {e:TypeId} {S:Nat->Prop}
theorem HS.posn{x:Ex}{o nm:ByteArray}{n:Int}{A:Option Addr}{l cap:Nat}{p:Int}(h:HS w e S x (BM o nm n A l cap p)):p=(x.pos:Int)/\o=⟨x.op.toArray⟩:=by obtain⟨_,_,_,_,_,a⟩:=h.form;simp only[BM,List.cons.injEq,Value.string.injEq,Value.int.injEq]at a;exact⟨a.2.2.2.2.1.2,a.1⟩
end
theorem UG{us:List AH}(h:Fine us)(h1:(hd us).kind=1):8<=rk (hd us).text:=by
 obtain⟨c,r,e,f,_⟩:=h.name h1;have w:c.toNat=95∨(65<=c.toNat/\c.toNat<=90)∨(97<=c.toNat/\c.toNat<=122):=(by simp[AZ]at f;omega);have a:∀(d:UInt8) (l:List UInt8),(d.toNat≠95/\¬(65<=d.toNat/\d.toNat<=90)/\¬(97<=d.toNat/\d.toNat<=122))->c::r≠d::l:=by
  intro d l hd b;injection b with b _
  subst b;omega
 have g:=a 63 [] (by decide);have i:=a 61 [62] (by decide);have j:=a 124 [] (by decide);have k:=a 38 [] (by decide);have m:=a 33 [] (by decide);have n:=a 61 [] (by decide);have o:=a 33 [61] (by decide);have p:=a 60 [] (by decide);have q:=a 60 [61] (by decide);have s:=a 62 [] (by decide);have t:=a 62 [61] (by decide);have u:=a 43 [] (by decide);have nd:=a 45 [] (by decide);have ne:=a 42 [] (by decide);have v:PZ (c::r)=false:=(by simp only[PZ,beq_eq_false_iff_ne.2 n,beq_eq_false_iff_ne.2 o,beq_eq_false_iff_ne.2 p,beq_eq_false_iff_ne.2 q,beq_eq_false_iff_ne.2 s,beq_eq_false_iff_ne.2 t];rfl);rw[e,rk,if_neg g,if_neg i,if_neg j,if_neg k,if_neg m,v,if_neg (by simp),if_neg (by intro h;exact h.elim u nd),if_neg ne];split<;>omega
theorem Nx{xb rb lv:Nat}{us:List AH}(w:World)(h:XR w xb rb us lv)(k:Nat)(hk:k<8)(hs:sg k (hd us)=false):Calls Tryz.prog 177 #[.pointer (some ⟨xb,0,none⟩),.int .i64 (k:Int)] w fun e w'=>e= .returned (.tuple #[.string ⟨#[]⟩,.bool false])/\Below w.heap.size w w':=by
 obtain⟨c0,g,i⟩:=h.cells;have s:=h.ltx;have r:=C7;have H:=zz h.peek;have f:=zz (fun W:World=>Cj ⟨(hd us).text.toArray⟩ W);by_cases c:rk (hd us).text=k
 · have j:AG (hd us) (hd us).text=false:=(by simp[sg,c]at hs;simp[AG,hs];intro q;have:=UG h.fine q;omega);have n:=zz (fun(W:World) (a:Below w.heap.size w W)=>(h.below a).skip_no ⟨(hd us).text.toArray⟩ j);have o:=zz (fun(W:World) (a:Below w.heap.size w W)=>(h.below a).cells);have p:((rk (hd us).text:Int) != (k:Int))=false:=(by simp[c]);clear h hs j c g i;go_enter Tryz.func177,Tryz.ntmps177;go_wp2_with fail;(with_reducible refine(H.out).mono ?_);rintro e l ⟨rfl,a⟩
   obtain⟨c0,_,_⟩:=o.out l a;have b:=zz a;clear a;go_wp2_with fail;(with_reducible refine(f.out _).mono ?_);rintro e m ⟨rfl,rfl⟩
   go_wp2_with fail;(with_reducible refine(n.out _ b.out).mono ?_);rintro e m ⟨rfl,d⟩
   go_wp2;go_ret2;exact⟨rfl,b.out.trans (d.mono b.out.size)⟩
 · have p:((rk (hd us).text:Int) != (k:Int))=true:=(by rw[bne_iff_ne];omega);clear h hs c g i;go_enter Tryz.func177,Tryz.ntmps177;go_wp2_with fail;(with_reducible refine(H.out).mono ?_);rintro e l ⟨rfl,a⟩
   have b:=zz a;clear a;go_wp2_with fail;(with_reducible refine(f.out _).mono ?_);rintro e m ⟨rfl,rfl⟩
   go_wp2;go_ret2;exact⟨rfl,b.out⟩
theorem LA{xb rb lv:Nat}{us:List AH}(w:World)(h:XR w xb rb us lv)(k:Nat)(hs:sg k (hd us)=true):Calls Tryz.prog 177 #[.pointer (some ⟨xb,0,none⟩),.int .i64 (k:Int)] w fun e w'=>e= .returned (.tuple #[.string ⟨(hd us).text.toArray⟩,.bool true])/\XR w' xb rb us.tail lv/\Fr w.heap.size rb w w':=by
 obtain⟨c0,o,p⟩:=h.cells;have u:=h.ltx;have q:=C7;have H:=zz h.peek;have l:=zz (fun W:World=>Cj ⟨(hd us).text.toArray⟩ W);obtain⟨g,j⟩:=Dm hs;have i:AG (hd us) (hd us).text=true:=(by simp[AG,g]);have m:=zz (fun(W:World) (a:Below w.heap.size w W)=>(h.below a).skip_yes ⟨(hd us).text.toArray⟩ i);have n:=zz (fun(W:World) (a:Below w.heap.size w W)=>(h.below a).cells);have t:((rk (hd us).text:Int) != (k:Int))=false:=(by simp[j]);clear h hs i j o p g;go_enter Tryz.func177,Tryz.ntmps177;go_wp2_with fail;(with_reducible refine(H.out).mono ?_);rintro e r ⟨rfl,a⟩
 obtain⟨c0,_,_⟩:=n.out r a;have c:=zz a;clear a;go_wp2_with fail;(with_reducible refine(l.out _).mono ?_);rintro e s ⟨rfl,rfl⟩
 go_wp2_with fail;(with_reducible refine(m.out _ c.out).mono ?_);rintro e s ⟨rfl,b,f⟩
 have d:=zz b;clear b;go_wp2;go_ret2;exact⟨rfl,d.out,(Fr.of c.out).on c.out.size f⟩
theorem Hu(o o1 n1 o2 n2:ByteArray)(i1 i2 p1 p2:Int)(A1 A2:Option Addr)(l1 k1 l2 k2:Nat)(t:TypeId)(v:Value)(w:World):Calls Tryz.prog 174 #[.string o,.agg #[.string o1,.string n1,.int .i64 i1,.slice A1 l1 k1,.int .i64 p1],.agg #[.string o2,.string n2,.int .i64 i2,.slice A2 l2 k2,.int .i64 p2],.iface t v] w fun e w'=>e= .returned (.tuple #[.agg #[.string ⟨#[]⟩,.string ⟨#[]⟩,.int .i64 0,.slice none 0 0,.int .i64 0],.iface t v])/\Below w.heap.size w w':=by go_enter Tryz.func174,Tryz.ntmps174;go_wp2;exact bodyPost_ret (v:=.tuple #[.agg #[.string ⟨#[]⟩,.string ⟨#[]⟩,.int .i64 0,.slice none 0 0,.int .i64 0],.iface t v]) (by simp[results,Tryz.results174,go_sem]) rfl ⟨rfl,(((Below.refl _ _).alloc (Nat.le_refl _) _).alloc (by simp) _).alloc (by simp;omega) _⟩
theorem Vf{w:World}{S:Nat->Prop}{a b:Ex}{op:List UInt8}{o1 n1 o2 n2:ByteArray}{i1 i2 p1 p2:Int}{A1 A2:Option Addr}{l1 k1 l2 k2 g:Nat}(ha:HS w 57 S a (BM o1 n1 i1 A1 l1 k1 p1))(hb:HS w 57 S b (BM o2 n2 i2 A2 l2 k2 p2))(hg:S g)
 (hw:w.heap[g]?=some (.cells #[.string o1,.string n1,.int .i64 i1,.slice A1 l1 k1,.int .i64 p1,.string o2,.string n2,.int .i64 i2,.slice A2 l2 k2,.int .i64 p2] 57 (0,0))):HS w 57 S (.bin op a b a.pos) (BM ⟨op.toArray⟩ ⟨#[]⟩ 0 (some ⟨g,0,none⟩) 2 2 p1):=by
 refine⟨g,2,_,_,?_,⟨hg,_,hw,?_⟩,ha,hb⟩
 · rw[ha.posn.1];rfl
 · intro j u c;simpa[BM]using c
theorem Hi{S:Nat->Prop}{a b:Ex}(op:List UInt8){o1 n1 o2 n2:ByteArray}{i1 i2 p1 p2:Int}{A1 A2:Option Addr}{l1 k1 l2 k2:Nat}(w:World)(ha:HS w 57 S a (BM o1 n1 i1 A1 l1 k1 p1))(hb:HS w 57 S b (BM o2 n2 i2 A2 l2 k2 p2))(hS:∀k,w.heap.size<=k->S k):
 Calls Tryz.prog 174 #[.string ⟨op.toArray⟩,.agg #[.string o1,.string n1,.int .i64 i1,.slice A1 l1 k1,.int .i64 p1],.agg #[.string o2,.string n2,.int .i64 i2,.slice A2 l2 k2,.int .i64 p2],.nilIface] w fun e w'=>∃g,e= .returned (.tuple #[.agg #[.string ⟨op.toArray⟩,.string ⟨#[]⟩,.int .i64 0,.slice (some ⟨g,0,none⟩) 2 2,.int .i64 p1],.nilIface])/\HS w' 57 S (.bin op a b a.pos) (BM ⟨op.toArray⟩ ⟨#[]⟩ 0 (some ⟨g,0,none⟩) 2 2 p1)/\Below w.heap.size w w':=by
 have d:=zz ha;have f:=zz hb;have c:=zz hS;clear ha hb hS;go_enter Tryz.func174,Tryz.ntmps174;go_wp2;refine bodyPost_ret (v:=.tuple #[.agg #[.string ⟨op.toArray⟩,.string ⟨#[]⟩,.int .i64 0,.slice (some ⟨w.heap.size+1+1+1,0,none⟩) 2 2,.int .i64 p1],.nilIface]) (by simp[results,Tryz.results174,go_sem]) rfl ⟨w.heap.size+1+1+1,rfl,?_,?_⟩;refine Vf (o1:=o1) (n1:=n1) (i1:=i1) (A1:=A1) (l1:=l1) (k1:=k1) (p1:=p1) (o2:=o2) (n2:=n2) (i2:=i2) (A2:=A2) (l2:=l2) (k2:=k2) (p2:=p2) ?_ ?_ (c.out _ (by omega)) ?_
 · exact(((d.out.alloc _).alloc _).alloc _).alloc _
 · exact(((f.out.alloc _).alloc _).alloc _).alloc _
 · exact Cc (by simp) _
 · exact((((Below.refl _ _).alloc (Nat.le_refl _) _).alloc (by simp) _).alloc (by simp;omega) _).alloc (by simp;omega) _
theorem Kf{xb rb lv:Nat}{us:List AH}{F:List AH->PR}(hD:DC 160 F lv)(w:World)(h:XR w xb rb us lv)(q:Nat):Calls Tryz.prog 185 #[.pointer (some ⟨xb,0,none⟩),.int .i64 (q:Int)] w (PP xb rb lv (Bc q (F us)) w):=by
 obtain⟨c0,c1,f1⟩:=h.cells;have hx:=h.ltx;have hr:=h.ltr;have H:=zz hD;have HX:=zz h;clear h hD c0 c1 f1;go_enter Tryz.func185,Tryz.ntmps185;go_wp2_with fail;refine AA (P:=fun W=>XR W xb rb us lv/\Ai W w.heap.size (.string ⟨#[]⟩) (.string ⟨#[]⟩) (.int .i64 0) (.slice none 0 0) (.int .i64 0)/\Fr w.heap.size rb w W) ⟨HX.out.alloc _,Ai.new _ _ _ _ _ _,(Fr.refl _ _ _).alloc (Nat.le_refl _) _⟩ ?_;rintro W ⟨hX,V,K⟩;refine(H.out xb rb W us hX).mono ?_;intro e z hp;have hs:=V.lt;cases d:F us with
 | er c p=>
   rw[d]at hp;obtain⟨b,rfl,af,U,g⟩:=hp;have L:=zz (show Bc q (F us)= .er c p by rw[d];rfl);have f:=V.fr g (by omega);obtain⟨b0,b1,b2,b3,b4⟩:=f.cells;obtain⟨z0,z1,z2,z3,z4⟩:=f.frozen;have ag:=f.lt;have B:=zz f;have HA:=zz U;have m:=zz (K.on K.size g);clear f U K g hX V d;go_wp2;obtain⟨O,Q,R,S,T⟩:=((B.out.set5 (.string ⟨#[]⟩) (.string ⟨#[]⟩) (.int .i64 0) (.slice none 0 0) (.int .i64 0)).alloc (.cells #[.string ⟨#[]⟩,.string ⟨#[]⟩,.int .i64 0,.slice none 0 0,.int .i64 0] 57)).cells;rw[L.out];refine bodyPost_ret (v:=.tuple #[.agg #[.string ⟨#[]⟩,.string ⟨#[]⟩,.int .i64 0,.slice none 0 0,.int .i64 0],.iface 101 (.pointer (some ⟨b,0,none⟩))]) (by simp[results,Tryz.results185,go_sem,O,Q,R,S,T]) rfl ⟨b,rfl,by omega,?_,?_⟩
   · exact(HA.out.far5 (by omega) _ _ _ _ _).alloc _
   · exact(m.out.set5 (Nat.le_refl _) _ _ _ _ _).alloc (by simp;omega) _
 | ok x r=>
   rw[d]at hp;obtain⟨o,nm,n,A,ll,j,p,rfl,hC,u,g⟩:=hp;have f:=V.fr g (by omega);have ag:=f.lt;obtain⟨c0,_,_⟩:=u.cells;have ai:=u.ltx;have B:=zz f;have ae:=zz u;have ab:=zz hC;have m:=zz (K.on K.size g);have M:=zz d;clear f u hC K g hX V d;go_wp2_with fail;refine AA (P:=fun J=>XR J xb rb r lv/\Ai J w.heap.size (.string ⟨#[]⟩) (.string ⟨#[]⟩) (.int .i64 0) (.slice none 0 0) (.int .i64 0)/\Ai J z.heap.size (.string o) (.string nm) (.int .i64 n) (.slice A ll j) (.int .i64 p)/\HC J 57 W.heap.size z.heap.size x (BM o nm n A ll j p)/\Fr w.heap.size rb w J) ⟨ae.out.alloc _,B.out.alloc _,Ai.new _ _ _ _ _ _,ab.out.alloc _,m.out.alloc m.out.size _⟩ ?_;rintro J ⟨y,s,t,E,i⟩;have ak:=t.lt;clear c0 ai;by_cases hi:AG (hd r) [41]=true
   · refine(y.want_yes ⟨#[41]⟩ hi).mono ?_;rintro e w3 ⟨rfl,Z,l⟩;have a:=s.fr l (by omega);have k:=t.fr l (by omega);have Y:=E.fr l (by omega);have ah:=k.lt;obtain⟨b0,b1,b2,b3,b4⟩:=a.cells;obtain⟨z0,z1,z2,z3,z4⟩:=a.frozen;obtain⟨e0,e1,e2,e3,e4⟩:=k.cells;obtain⟨y0,y1,y2,y3,y4⟩:=k.frozen;have aj:z.heap.size≠w.heap.size:=(by omega);have aa:w.heap.size≠z.heap.size:=(by omega);have C:=zz a;have ad:=zz k;have ac:=zz Y;have N:=zz Z;have D:=zz (i.on i.size l);have L:=zz (show Bc q (F us)= .ok (x.move q) r.tail by rw[M.out];simp[Bc,hi]);clear s t E y i a k Y Z l hi;go_wp2;have X:=C.out.far (p:=⟨z.heap.size,4,none⟩) aa (.int .i64 (q:Int));obtain⟨O,Q,R,S,T⟩:=(X.set5 (.string o) (.string nm) (.int .i64 n) (.slice A ll j) (.int .i64 (q:Int))).cells;rw[L.out];refine bodyPost_ret (v:=.tuple #[.agg #[.string o,.string nm,.int .i64 n,.slice A ll j,.int .i64 (q:Int)],.nilIface]) (by simp[results,Tryz.results185,go_sem,O,Q,R,S,T]) rfl ⟨o,nm,n,A,ll,j,q,rfl,?_,?_,?_⟩
     · exact(((ac.out.setCell (p:=⟨z.heap.size,4,none⟩) (.inr (Nat.le_refl _)) _).far5 (.inl (by omega)) _ _ _ _ _).move q).mono (by omega) (by simp;omega)
     · exact(N.out.set ad.out (by have:=N.out.hi;omega) _).set5 X (by omega) _ _ _ _ _
     · exact(D.out.setCell (p:=⟨z.heap.size,4,none⟩) (.inl (by show w.heap.size<=z.heap.size;omega)) _).set5 (Nat.le_refl _) _ _ _ _ _
   · have I:AG (hd r) [41]=false:=(by simpa using hi);refine(y.want_no ⟨#[41]⟩ I).mono ?_;rintro e w3 ⟨b,rfl,af,U,G⟩;have a:=s.below G;have ah:=a.lt;obtain⟨b0,b1,b2,b3,b4⟩:=a.cells;obtain⟨z0,z1,z2,z3,z4⟩:=a.frozen;have C:=zz a;have HA:=zz U;have D:=zz (i.onB i.size G);have L:=zz (show Bc q (F us)= .er 20 (hd r).pos by rw[M.out];simp[Bc,I]);clear s t E y i a hi I U G;go_wp2;obtain⟨O,Q,R,S,T⟩:=(C.out.set5 (.string ⟨#[]⟩) (.string ⟨#[]⟩) (.int .i64 0) (.slice none 0 0) (.int .i64 0)).cells;rw[L.out];refine bodyPost_ret (v:=.tuple #[.agg #[.string ⟨#[]⟩,.string ⟨#[]⟩,.int .i64 0,.slice none 0 0,.int .i64 0],.iface 101 (.pointer (some ⟨b,0,none⟩))]) (by simp[results,Tryz.results185,go_sem,O,Q,R,S,T]) rfl ⟨b,rfl,by omega,?_,?_⟩
     · exact HA.out.far5 (by omega) _ _ _ _ _
     · exact D.out.set5 (Nat.le_refl _) _ _ _ _ _
end
end
end Go.Proofs.YtodijgndbjfbgaaGreatDoor
