import Derived.Test.YtodijgndbjfbgaaGreatDoorSa
import Derived.Test.YtodijgndbjfbgaaGreatDoorSh
import Derived.Deep.RegionHeld3
import Derived.BigQuiet
namespace Go.Proofs.YtodijgndbjfbgaaGreatDoor
set_option maxHeartbeats 16000000
set_option maxRecDepth 100000
section
section
open Go.RowKit
structure Fx(X:Nat->Prop)(w w':World):Prop where
 os:w'.os=w.os
 tape:w'.tape=w.tape
 output:w'.output=w.output
 size:w.heap.size<=w'.heap.size
 block:∀k,k<w.heap.size->¬X k->w'.heap[k]?=w.heap[k]?
section
variable {X Y:Nat->Prop} {a b c w w':World}
theorem Fx.refl(X:Nat->Prop)(w:World):Fx X w w:=⟨rfl,rfl,rfl,Nat.le_refl _,fun _ _ _=>rfl⟩
theorem Fx.trans(h:Fx X a b)(k:Fx X b c):Fx X a c:=
 ⟨k.os.trans h.os,k.tape.trans h.tape,k.output.trans h.output,Nat.le_trans h.size k.size,fun i d e=>(k.block i (Nat.lt_of_lt_of_le d h.size) e).trans (h.block i d e)⟩
theorem Fx.of(h:Below w.heap.size w w'):Fx X w w':=⟨h.os,h.tape,h.output,h.size,fun k a _=>h.block k a⟩
theorem Fx.wide(h:Fx X a w)(hxy:∀k,k<a.heap.size->X k->Y k):Fx Y a w:=⟨h.os,h.tape,h.output,h.size,fun k b c=>h.block k b (fun d=>c (hxy k b d))⟩
theorem Fx.below(h:Fx X w w')(hx:∀k,X k->w.heap.size<=k):Below w.heap.size w w':=⟨h.os,h.tape,h.output,h.size,fun k a=>h.block k a (fun e=>absurd (hx k e) (by omega))⟩
theorem Fx.on(h:Fx X a w)(k:Below w.heap.size w w'):Fx X a w':=h.trans (Fx.of k)
theorem Fx.alloc(h:Fx X a w)(o:Obj):Fx X a (w.alloc o):=h.on ((Below.refl _ _).alloc (Nat.le_refl _) o)
theorem Fx.drew(h:Fx X a w):Fx X a w.drew:=h.on (Below.refl _ _).drew
theorem Fx.setCell(h:Fx X a w){p:Addr}(hp:a.heap.size<=p.block∨X p.block)(u:Value):Fx X a (w.setCell p u):=
 ⟨h.os,h.tape,h.output,by simpa using h.size,fun k c b=>(Below.heap_setCell w p u k (by rcases hp with hp | hp;omega;intro e;exact b (e▸hp))).trans (h.block k c b)⟩
end
def X2(xb rb k:Nat):Prop:=k=xb∨k=rb
theorem Fx.ofFr{xb rb:Nat}{w w':World}(h:Fr w.heap.size rb w w'):Fx (X2 xb rb) w w':=⟨h.os,h.tape,h.output,h.size,fun k a b=>h.block k a (fun e=>b (.inr e))⟩
def Bx(w:World)(q:Nat)(t:TypeId)(cs:List Value):Prop:=w.heap[q]?=some (.cells cs.toArray t (0,0))
section
variable {w w':World} {q:Nat} {t:TypeId} {cs:List Value}
theorem Bx.lt(h:Bx w q t cs):q<w.heap.size:=BB h
theorem Bx.cell(h:Bx w q t cs)(i:Nat):w.cell? ⟨q,i,none⟩=cs[i]?:=(AL h i).trans (by simp)
theorem Bx.frozen(h:Bx w q t cs)(i:Nat):w.frozen? ⟨q,i,none⟩=false:=Bf h i
theorem Bx.new(w:World)(t:TypeId)(cs:List Value):Bx (w.alloc (.cells cs.toArray t)) w.heap.size t cs:=heap_alloc_new w _
theorem Bx.newAt{k:Nat}(hk:k=w.heap.size)(t:TypeId)(cs:List Value):Bx (w.alloc (.cells cs.toArray t)) k t cs:=by subst hk;exact Bx.new w t cs
theorem Bx.below(h:Bx w q t cs)(hb:Below w.heap.size w w'):Bx w' q t cs:=(hb.block q h.lt).trans h
theorem Bx.alloc(h:Bx w q t cs)(o:Obj):Bx (w.alloc o) q t cs:=h.below ((Below.refl _ _).alloc (Nat.le_refl _) _)
theorem Bx.fx{X:Nat->Prop}(h:Bx w q t cs)(hf:Fx X w w')(hx:¬X q):Bx w' q t cs:=(hf.block q h.lt hx).trans h
theorem Bx.far(h:Bx w q t cs){p:Addr}(hp:q≠p.block)(u:Value):Bx (w.setCell p u) q t cs:=(Below.heap_setCell w p u q hp).trans h
theorem Bx.set(h:Bx w q t cs)(i:Nat)(u:Value):Bx (w.setCell ⟨q,i,none⟩ u) q t (cs.set i u):=by have:=A7 (i:=i) h u;unfold Bx;rw[this];simp
end
def setL(w:World)(q:Nat):Nat->List Value->World
 | _,[]=>w
 | i,u::us=>setL (w.setCell ⟨q,i,none⟩ u) q (i+1) us
def Bg:List Value->Nat->List Value->List Value
 | cs,_,[]=>cs
 | cs,i,u::us=>Bg (cs.set i u) (i+1) us
section
variable {q:Nat} {t:TypeId}
theorem Bx.setL:∀{us:List Value} {w:World} {cs:List Value} {i:Nat},Bx w q t cs->Bx (setL w q i us) q t (Bg cs i us)
 | [],_,_,_,h=>h
 | u::_,_,_,i,h=>(h.set i u).setL
theorem Bx.farL{q':Nat}(hne:q≠q'):∀{us:List Value} {w:World} {cs:List Value} {i:Nat},Bx w q t cs->Bx (Go.Proofs.YtodijgndbjfbgaaGreatDoor.setL w q' i us) q t cs
 | [],_,_,_,h=>h
 | u::_,_,_,i,h=>(h.far (p:=⟨q',i,none⟩) hne u).farL hne
theorem Fx.setL{X:Nat->Prop}{a:World}(hq:a.heap.size<=q∨X q):∀{us:List Value} {w:World} {i:Nat},Fx X a w->Fx X a (Go.Proofs.YtodijgndbjfbgaaGreatDoor.setL w q i us)
 | [],_,_,h=>h
 | u::_,_,i,h=>(h.setCell (p:=⟨q,i,none⟩) hq u).setL hq
theorem Ay{k:Nat}(hk:k≠q):∀(us:List Value) (w:World) (i:Nat),(Go.Proofs.YtodijgndbjfbgaaGreatDoor.setL w q i us).heap[k]?=w.heap[k]?
 | [],_,_=>rfl
 | u::us,w,i=>(Ay hk us _ _).trans (Below.heap_setCell w ⟨q,i,none⟩ u k hk)
theorem Hh:∀(us:List Value) (w:World) (i:Nat),(Go.Proofs.YtodijgndbjfbgaaGreatDoor.setL w q i us).heap.size=w.heap.size
 | [],_,_=>rfl
 | u::us,w,i=>(Hh us _ _).trans (by simp)
end
def St.ptr(rb:Nat):St->Option Addr
 | .good _=>some ⟨rb,0,none⟩
 | .bad _ _=>none
def St.ErV(w:World):St->Value->Prop
 | .good _,v=>v= .nilIface
 | .bad c p,v=>∃eb,v= .iface 101 (.pointer (some ⟨eb,0,none⟩))/\EC w eb p c
def St.Tr(w:World)(rb:Nat):St->Prop
 | .good us=>TR w rb us
 | .bad _ _=>True
structure AM(w:World)(xb rb b D:Nat)(st:St):Prop where
 blk:∃v,Bx w xb 67 [.pointer (st.ptr rb),.int .i64 (D:Int),v]/\st.ErV w v
 tr:st.Tr w rb
 glob:B0 w
 d1:1<=D
 d64:D<=64
 lo:3<b/\0<b
 hx:b<=xb/\b<=rb
 hr:rb<w.heap.size
section
variable {w w':World} {xb rb b D:Nat} {st:St}
theorem AM.ltx(h:AM w xb rb b D st):xb<w.heap.size:=by obtain⟨v,a,_⟩:=h.blk;exact a.lt
def EH(e:TypeId):Prop:=e=67∨e=127∨e=46∨e=104
theorem TR.keepT{us:List AH}(h:TR w rb us)(hk:∀(k:Nat) (cs:Array Value) (e:TypeId),w.heap[k]?=some (.cells cs e (0,0))->EH e->w'.heap[k]?=w.heap[k]?)(hg:B0 w'):TR w' rb us:=by
 refine⟨?_,h.fine,hg,h.hi⟩;obtain⟨r,k,m,g,b,i,j,p,q⟩:=h.rd;refine⟨r,k,m,g,b,(hk _ _ _ i (.inr (.inl rfl))).trans i,⟨j.1,?_⟩,p,q⟩;rcases j.2 with⟨d,_⟩ | ⟨l,a,c,d,n,f,o⟩
 · cases d
 · exact .inr ⟨l,a,c,d,n,(hk _ _ _ f (.inr (.inr (.inl rfl)))).trans f,o⟩
theorem AM.keep(h:AM w xb rb b D st)(hk:∀(k:Nat) (cs:Array Value) (e:TypeId),w.heap[k]?=some (.cells cs e (0,0))->EH e->w'.heap[k]?=w.heap[k]?)(hg:∀k:Nat,k<b->w'.heap[k]?=w.heap[k]?)(hs:w.heap.size<=w'.heap.size):AM w' xb rb b D st:=by
 have g:B0 w':=DA h.glob (hg 0 h.lo.2) (hg 3 h.lo.1);refine⟨?_,?_,g,h.d1,h.d64,h.lo,h.hx,Nat.lt_of_lt_of_le h.hr hs⟩
 · obtain⟨v,a,d⟩:=h.blk;refine⟨v,(hk _ _ _ a (.inl rfl)).trans a,?_⟩;cases st with
   | good us=>exact d
   | bad c p=>obtain⟨i,j,f⟩:=d;obtain⟨cs,l⟩:=f.typ;exact⟨i,j,f.keep (hk _ _ _ l (.inr (.inr (.inr rfl))))⟩
 · cases st with
   | good us=>exact TR.keepT (us:=us) h.tr hk g
   | bad c p=>trivial
theorem AM.below(h:AM w xb rb b D st)(hb:Below w.heap.size w w'):AM w' xb rb b D st:=
 h.keep (fun k c e a _=>hb.block k (BB a)) (fun k a=>hb.block k (by have:=h.hx;have:=h.ltx;omega)) hb.size
theorem AM.alloc(h:AM w xb rb b D st)(o:Obj):AM (w.alloc o) xb rb b D st:=h.below ((Below.refl _ _).alloc (Nat.le_refl _) _)
theorem AM.drew(h:AM w xb rb b D st):AM w.drew xb rb b D st:=h.below (Below.refl _ _).drew
theorem AM.set{q i:Nat}{t:TypeId}{cs:List Value}(h:AM w xb rb b D st)(hb:Bx w q t cs)(ht:¬EH t)(hq:b<=q)(u:Value):AM (w.setCell ⟨q,i,none⟩ u) xb rb b D st:=by
 refine h.keep (fun k d e a g=>Below.heap_setCell w ⟨q,i,none⟩ u k ?_) (fun k a=>Below.heap_setCell w ⟨q,i,none⟩ u k (by show k≠q;omega)) (by simp);intro c;have c:k=q:=c;subst c;rw[show w.heap[k]?=_ from hb]at a;injection a with a
 injection a with _ f
 exact ht (f▸g)
theorem AM.setL{q:Nat}{t:TypeId}(ht:¬EH t)(hq:b<=q):∀{us:List Value} {w:World} {cs:List Value} {i:Nat},AM w xb rb b D st->Bx w q t cs->AM (Go.Proofs.YtodijgndbjfbgaaGreatDoor.setL w q i us) xb rb b D st
 | [],_,_,_,h,_=>h
 | u::_,_,_,i,h,hb=>(h.set hb ht hq u).setL ht hq (hb.set i u)
theorem AM.grown{row:Option Nat}(h:AM w xb rb b D st)(hg:w.grownBy w' row)(hr:∀g,row=some g->b<=g/\∃(cs:Array Value) (e:TypeId),w.heap[g]?=some (.cells cs e (0,0))/\¬EH e):AM w' xb rb b D st:=by
 refine h.keep (fun k cs e d j=>hg.block k (BB d) ?_) (fun k d=>hg.block k (by have:=h.hx;have:=h.ltx;omega) ?_) hg.size
 · intro c;obtain⟨_,f,l,a,i⟩:=hr k c.symm;rw[d]at a;injection a with a
   injection a with _ a
   exact i (a▸j)
 · intro c;have:=(hr k c.symm).1;omega
theorem AM.cells(h:AM w xb rb b D st):∃v,w.cell? ⟨xb,0,none⟩=some (.pointer (st.ptr rb))/\w.cell? ⟨xb,1,none⟩=some (.int .i64 (D:Int))/\w.cell? ⟨xb,2,none⟩=some v/\w.frozen? ⟨xb,0,none⟩=false/\w.frozen? ⟨xb,2,none⟩=false/\st.ErV w v:=by obtain⟨v,a,c⟩:=h.blk;exact⟨v,a.cell 0,a.cell 1,a.cell 2,a.frozen 0,a.frozen 2,c⟩
theorem AM.c0(h:AM w xb rb b D st):w.cell? ⟨xb,0,none⟩=some (.pointer (st.ptr rb)):=by obtain⟨v,a,_⟩:=h.cells;exact a
theorem AM.peeks(h:AM w xb rb b D st):D4 (.pointer (st.ptr rb)) st.hd w:=by
 cases st with
 | bad c p=>exact H7 w
 | good us=>obtain⟨f,k,e,a,d⟩:=TR.get (us:=us) h.tr;exact DL a d
theorem AM.peek(h:AM w xb rb b D st):Calls Tryz.prog 45 #[.pointer (st.ptr rb)] w fun e w'=>e= .returned (.agg #[.int .i64 st.hd.kind,.string ⟨st.hd.text.toArray⟩,.int .i64 st.hd.pos])/\Below w.heap.size w w':=h.peeks.now
theorem AM.is_(h:AM w xb rb b D st)(x:ByteArray):Calls Tryz.prog 77 #[.pointer (st.ptr rb),.string x] w fun e w'=>e= .returned (.bool (AG st.hd x.data.toList))/\Below w.heap.size w w':=KY x h.peeks
theorem AM.skip_no(h:AM w xb rb b D st)(x:ByteArray)(hi:AG st.hd x.data.toList=false):Calls Tryz.prog 101 #[.pointer (st.ptr rb),.string x] w fun e w'=>e= .returned (.bool false)/\Below w.heap.size w w':=Go.Proofs.YtodijgndbjfbgaaGreatDoor.skip_no x h.peeks hi
theorem AM.on{us ts:List AH}{k:Nat}(h:AM w xb rb b D (.good us))(h1:us=ts.drop k)(h0:(hd us).kind≠0)(hR:RD w' rb ts (k+1))(hg:w.grownBy w' (some rb)):AM w' xb rb b D (.good us.tail)/\Fx (X2 xb rb) w w':=by
 have d:TR w rb us:=h.tr;have l:=(d.fine.more h0).1;have c:Fr w.heap.size rb w w':=Fr.ofGrown hg;obtain⟨v,i,m⟩:=h.blk;have e:xb≠rb:=by
  rintro rfl;obtain⟨n,o,_,g,j,a,_⟩:=d.rd;rw[show w.heap[xb]?=_ from i]at a;injection a with a
  injection a with _ a
  exact absurd a (by decide)
 have f:B0 w':=DA h.glob (c.block 0 (by have:=h.lo;have:=h.hx;have:=h.ltx;omega) (by have:=h.lo;have:=h.hx;omega)) (c.block 3 (by have:=h.lo;have:=h.hx;have:=h.ltx;omega) (by have:=h.lo;have:=h.hx;omega));refine⟨⟨⟨v,(c.block xb h.ltx e).trans i,m⟩,⟨⟨ts,k+1,by rw[h1,List.tail_drop],hR⟩,l,f,d.hi⟩,f,h.d1,h.d64,h.lo,h.hx,Nat.lt_of_lt_of_le h.hr hg.size⟩,Fx.ofFr c⟩
theorem IU{st:St}(h:st.hd.kind≠0):∃us,st= .good us:=by obtain⟨us,h,_⟩:=H8 h;exact⟨us,h⟩
theorem Kn{us ts:List AH}{k:Nat}(h:TR w rb us)(h1:us=ts.drop k)(h0:(hd us).kind≠0):k+1<ts.length:=by have a:=(h.fine.more h0).2;rw[h1,List.tail_drop]at a;apply Classical.byContradiction;intro b;exact a (List.drop_eq_nil_of_le (by omega))
theorem AM.skip_yes(h:AM w xb rb b D st)(x:ByteArray)(hi:AG st.hd x.data.toList=true):Calls Tryz.prog 101 #[.pointer (st.ptr rb),.string x] w fun e w'=>e= .returned (.bool true)/\AM w' xb rb b D st.tl/\Fx (X2 xb rb) w w':=by have a:=AC hi;obtain⟨m,rfl⟩:=IU a;have d:TR w rb m:=h.tr;obtain⟨n,k,c,f,g⟩:=d.get;exact(Go.Proofs.YtodijgndbjfbgaaGreatDoor.skip_yes x f g hi (Kn d c a)).mono fun _ _ ⟨j,i,l⟩=>⟨j,h.on c a i l⟩
theorem AM.take_on(h:AM w xb rb b D st)(h0:st.hd.kind≠0):Calls Tryz.prog 123 #[.pointer (st.ptr rb)] w fun e w'=>e= .returned (.agg #[.int .i64 st.hd.kind,.string ⟨st.hd.text.toArray⟩,.int .i64 st.hd.pos])/\AM w' xb rb b D st.tl/\Fx (X2 xb rb) w w':=by obtain⟨l,rfl⟩:=IU h0;have c:TR w rb l:=h.tr;obtain⟨m,k,a,d,f⟩:=c.get;exact(Go.Proofs.YtodijgndbjfbgaaGreatDoor.take_on d f h0 (Kn c a h0)).mono fun _ _ ⟨i,g,j⟩=>⟨i,h.on a h0 g j⟩
theorem AM.take_end(h:AM w xb rb b D st)(h0:st.hd.kind=0):Calls Tryz.prog 123 #[.pointer (st.ptr rb)] w fun e w'=>e= .returned (.agg #[.int .i64 st.hd.kind,.string ⟨st.hd.text.toArray⟩,.int .i64 st.hd.pos])/\Below w.heap.size w w':=Go.Proofs.YtodijgndbjfbgaaGreatDoor.take_end h.peeks h0
end
end
section
open Go.RowKit
def MU(xb rb b D:Nat)(st:St)(w:World)(e:Ending)(w':World):Prop:=e= .returned (.tuple #[])/\AM w' xb rb b D st/\Fx (X2 xb rb) w w'
section
variable {xb rb b D:Nat} {st:St}
theorem KI(w:World)(h:AM w xb rb b D st):Calls Tryz.prog 75 #[.pointer (some ⟨xb,0,none⟩),.nilIface] w (MU xb rb b D st w):=by have H:=zz h;clear h;go_enter Tryz.func75,Tryz.ntmps75;go_wp2;exact bodyPost_ret (v:=.tuple #[]) (results_none rfl _ _ _) rfl ⟨rfl,H.out,Fx.refl _ _⟩
theorem Hq{c p:Nat}(w:World)(h:AM w xb rb b D (.bad c p))(t:TypeId)(u:Value):Calls Tryz.prog 75 #[.pointer (some ⟨xb,0,none⟩),.iface t u] w (MU xb rb b D (.bad c p) w):=by obtain⟨v,c0,d,e,i,j,f,rfl,a⟩:=h.cells;have g:=h.ltx;have H:=zz h;clear h a;go_enter Tryz.func75,Tryz.ntmps75;go_wp2;exact bodyPost_ret (v:=.tuple #[]) (results_none rfl _ _ _) rfl ⟨rfl,H.out,Fx.refl _ _⟩
structure VN(w:World)(xb rb b D:Nat):Prop where
 blk:Bx w xb 67 [.pointer (some ⟨rb,0,none⟩),.int .i64 (D:Int),.nilIface]
 glob:B0 w
 d1:1<=D
 d64:D<=64
 lo:3<b/\0<b
 hx:b<=xb/\b<=rb
 hr:rb<w.heap.size
theorem AM.mr0{us:List AH}{w:World}(h:AM w xb rb b D (.good us)):VN w xb rb b D:=by obtain⟨v,a,c⟩:=h.blk;obtain rfl:v= .nilIface:=c;exact⟨a,h.glob,h.d1,h.d64,h.lo,h.hx,h.hr⟩
theorem FM{c p eb:Nat}(w:World)(h:VN w xb rb b D)(hA:EC w eb p c):Calls Tryz.prog 75 #[.pointer (some ⟨xb,0,none⟩),.iface 101 (.pointer (some ⟨eb,0,none⟩))] w (MU xb rb b D (.bad c p) w):=by
 have o:=h.blk.lt;have c0:=h.blk.cell 0;have j:=h.blk.cell 2;have q:=h.blk.frozen 0;have r:=h.blk.frozen 2;simp only[List.getElem?_cons_zero,List.getElem?_cons_succ]at c0 j;have H:=zz h;have f:=zz hA;clear h hA;go_enter Tryz.func75,Tryz.ntmps75;go_wp2;refine bodyPost_ret (v:=.tuple #[]) (results_none rfl _ _ _) rfl ⟨rfl,?_,((Fx.refl _ _).setCell (p:=⟨xb,0,none⟩) (.inr (.inl rfl)) _).setCell (p:=⟨xb,2,none⟩) (.inr (.inl rfl)) _⟩;have g:=H.out.blk;have e:eb≠xb:=by
  rintro rfl;obtain⟨m,d⟩:=f.out.typ;rw[show w.heap[eb]?=_ from g]at d;injection d with d
  injection d with _ d
  exact absurd d (by decide)
 have l:=((g.set 0 (.pointer none)).set 2 (.iface 101 (.pointer (some ⟨eb,0,none⟩))));have i:∀k,k<b->((w.setCell ⟨xb,0,none⟩ (.pointer none)).setCell ⟨xb,2,none⟩ (.iface 101 (.pointer (some ⟨eb,0,none⟩)))).heap[k]?=w.heap[k]?:=fun k n=>(Below.heap_setCell _ ⟨xb,2,none⟩ _ k (by show k≠xb;have:=H.out.hx;omega)).trans (Below.heap_setCell w ⟨xb,0,none⟩ _ k (by show k≠xb;have:=H.out.hx;omega));refine⟨⟨_,l,eb,rfl,(f.out.far (a:=⟨xb,0,none⟩) e _).far (a:=⟨xb,2,none⟩) e _⟩,trivial,DA H.out.glob (i 0 H.out.lo.2) (i 3 H.out.lo.1),H.out.d1,H.out.d64,H.out.lo,H.out.hx,by simpa using H.out.hr⟩
theorem AT(w:World)(h:AM w xb rb b D st)(x:ByteArray):Calls Tryz.prog 44 #[.pointer (some ⟨xb,0,none⟩),.string x] w (MU xb rb b D (st.want x.data.toList) w):=by
 have J:=h.ltx;have c0:=h.c0;have H:=zz h;cases st with
 | bad c p=>
   have e:(St.bad c p).want x.data.toList= .bad c p:=rfl;rw[e];have j:=zz (SZ x w);clear h e;simp only[St.ptr]at c0;go_enter Tryz.func44,Tryz.ntmps44;go_wp2_with fail;(with_reducible refine(j.out).mono ?_);rintro e g ⟨rfl,n⟩
   have i:=zz n;clear n;go_wp2_with fail;refine(Hq g (H.out.below i.out) _ _).mono ?_;rintro e B ⟨rfl,m,l⟩;go_wp2;go_end0;exact⟨rfl,m,(Fx.of i.out).trans l⟩
 | good f=>
   have t:TR w rb f:=h.tr;obtain⟨G,k,o,q,r⟩:=t.get;simp only[St.ptr]at c0;by_cases a:AG (hd f) x.data.toList=true
   · have e:(St.good f).want x.data.toList= .good f.tail:=(by simp[St.want,St.hd,a,St.tl]);rw[e];have j:=zz (want_yes x q r a (Kn t o (AC a)));have E:=zz (fun(A:World) (s:RD A rb G (k+1)) (u:w.grownBy A (some rb))=>h.on o (AC a) s u);clear h e q r a o t;go_enter Tryz.func44,Tryz.ntmps44;go_wp2_with fail;(with_reducible refine(j.out).mono ?_);rintro e g ⟨rfl,s,u⟩
     have v:=zz (E.out g s u);clear s u;go_wp2_with fail;refine(KI g v.out.1).mono ?_;rintro e B ⟨rfl,m,l⟩;go_wp2;go_end0;exact⟨rfl,m,v.out.2.trans l⟩
   · have d:AG (hd f) x.data.toList=false:=(by simpa using a);have e:(St.good f).want x.data.toList= .bad 20 (hd f).pos:=(by simp[St.want,St.hd,d,St.fail]);rw[e];have j:=zz (want_no x (DL q r) d);clear h e q r a d o t;go_enter Tryz.func44,Tryz.ntmps44;go_wp2_with fail;(with_reducible refine(j.out).mono ?_);rintro e g ⟨I,rfl,F,y,z⟩
     have i:=zz z;have C:=zz y;clear z y;go_wp2_with fail;refine(FM g (H.out.below i.out).mr0 C.out).mono ?_;rintro e B ⟨rfl,m,l⟩;go_wp2;go_end0;exact⟨rfl,m,(Fx.of i.out).trans l⟩
theorem Fs(w:World)(h:AM w xb rb b D st):Calls Tryz.prog 84 #[.pointer (some ⟨xb,0,none⟩)] w (MU xb rb b D (st.fail 20) w):=by
 have q:=h.ltx;have c0:=h.c0;have H:=zz h;have f:=zz h.peek;have k:=Df;have l:=C7;have m:=C8;cases st with
 | bad c p=>
   have e:(St.bad c p).fail 20= .bad c p:=rfl;rw[e];clear h e;simp only[St.ptr]at c0 f;go_enter Tryz.func84,Tryz.ntmps84;go_wp2_with fail;(with_reducible refine(f.out).mono ?_);rintro e n ⟨rfl,a⟩
   have d:=zz a;clear a;go_wp2_with fail;refine(Hq _ ((H.out.below d.out).alloc _) _ _).mono ?_;rintro e o ⟨rfl,i,g⟩;go_wp2;go_end0;exact⟨rfl,i,((Fx.of d.out).alloc _).trans g⟩
 | good j=>
   have e:(St.good j).fail 20= .bad 20 (hd j).pos:=rfl;rw[e];clear h e;simp only[St.ptr,St.hd]at c0 f;go_enter Tryz.func84,Tryz.ntmps84;go_wp2_with fail;(with_reducible refine(f.out).mono ?_);rintro e n ⟨rfl,a⟩
   have d:=zz a;clear a;go_wp2_with fail;refine(FM (c:=20) (p:=(hd j).pos) _ ((H.out.below d.out).alloc _).mr0 (EC.new rfl _ _)).mono ?_;rintro e o ⟨rfl,i,g⟩;go_wp2;go_end0;exact⟨rfl,i,((Fx.of d.out).alloc _).trans g⟩
end
def Yu(v:Bool)(w:World)(e:Ending)(w':World):Prop:=e= .returned (.bool v)/\w=w'
theorem Mh(s:ByteArray)(w:World):Calls Tryz.prog 125 #[.string s] w (Yu (Eh s.data.toList) w):=by
 rw[<- ByteArray.toList_eq];by_cases b:s.toList=[109,100,112]
 · have h:=b;clear b;have f:(s.toList==[109,100,112])=true:=(by rw[h];rfl);have g:(s.toList==[99,111,110,115,116])=false:=(by rw[h];rfl);have i:(s.toList==[102,111,114,109,117,108,97])=false:=(by rw[h];rfl);have j:(s.toList==[108,97,98,101,108])=false:=(by rw[h];rfl);have k:(s.toList==[109,111,100,117,108,101])=false:=(by rw[h];rfl);have l:(s.toList==[101,110,100,109,111,100,117,108,101])=false:=(by rw[h];rfl);have m:(s.toList==[98,111,111,108])=false:=(by rw[h];rfl);have n:(s.toList==[105,110,105,116])=false:=(by rw[h];rfl);have o:(s.toList==[116,114,117,101])=false:=(by rw[h];rfl);have p:(s.toList==[102,97,108,115,101])=false:=(by rw[h];rfl);have a:=zz (show Eh s.toList=true by rw[h];rfl);clear h;go_enter Tryz.func125,Tryz.ntmps125;go_wp2;go_ret;exact⟨Bh a.out.symm,rfl⟩
 by_cases c:s.toList=[99,111,110,115,116]
 · have h:=c;clear c b;have f:(s.toList==[109,100,112])=false:=(by rw[h];rfl);have g:(s.toList==[99,111,110,115,116])=true:=(by rw[h];rfl);have i:(s.toList==[102,111,114,109,117,108,97])=false:=(by rw[h];rfl);have j:(s.toList==[108,97,98,101,108])=false:=(by rw[h];rfl);have k:(s.toList==[109,111,100,117,108,101])=false:=(by rw[h];rfl);have l:(s.toList==[101,110,100,109,111,100,117,108,101])=false:=(by rw[h];rfl);have m:(s.toList==[98,111,111,108])=false:=(by rw[h];rfl);have n:(s.toList==[105,110,105,116])=false:=(by rw[h];rfl);have o:(s.toList==[116,114,117,101])=false:=(by rw[h];rfl);have p:(s.toList==[102,97,108,115,101])=false:=(by rw[h];rfl);have a:=zz (show Eh s.toList=true by rw[h];rfl);clear h;go_enter Tryz.func125,Tryz.ntmps125;go_wp2;go_ret;exact⟨Bh a.out.symm,rfl⟩
 by_cases d:s.toList=[102,111,114,109,117,108,97]
 · have h:=d;clear d c b;have f:(s.toList==[109,100,112])=false:=(by rw[h];rfl);have g:(s.toList==[99,111,110,115,116])=false:=(by rw[h];rfl);have i:(s.toList==[102,111,114,109,117,108,97])=true:=(by rw[h];rfl);have j:(s.toList==[108,97,98,101,108])=false:=(by rw[h];rfl);have k:(s.toList==[109,111,100,117,108,101])=false:=(by rw[h];rfl);have l:(s.toList==[101,110,100,109,111,100,117,108,101])=false:=(by rw[h];rfl);have m:(s.toList==[98,111,111,108])=false:=(by rw[h];rfl);have n:(s.toList==[105,110,105,116])=false:=(by rw[h];rfl);have o:(s.toList==[116,114,117,101])=false:=(by rw[h];rfl);have p:(s.toList==[102,97,108,115,101])=false:=(by rw[h];rfl);have a:=zz (show Eh s.toList=true by rw[h];rfl);clear h;go_enter Tryz.func125,Tryz.ntmps125;go_wp2;go_ret;exact⟨Bh a.out.symm,rfl⟩
 by_cases e:s.toList=[108,97,98,101,108]
 · have h:=e;clear e d c b;have f:(s.toList==[109,100,112])=false:=(by rw[h];rfl);have g:(s.toList==[99,111,110,115,116])=false:=(by rw[h];rfl);have i:(s.toList==[102,111,114,109,117,108,97])=false:=(by rw[h];rfl);have j:(s.toList==[108,97,98,101,108])=true:=(by rw[h];rfl);have k:(s.toList==[109,111,100,117,108,101])=false:=(by rw[h];rfl);have l:(s.toList==[101,110,100,109,111,100,117,108,101])=false:=(by rw[h];rfl);have m:(s.toList==[98,111,111,108])=false:=(by rw[h];rfl);have n:(s.toList==[105,110,105,116])=false:=(by rw[h];rfl);have o:(s.toList==[116,114,117,101])=false:=(by rw[h];rfl);have p:(s.toList==[102,97,108,115,101])=false:=(by rw[h];rfl);have a:=zz (show Eh s.toList=true by rw[h];rfl);clear h;go_enter Tryz.func125,Tryz.ntmps125;go_wp2;go_ret;exact⟨Bh a.out.symm,rfl⟩
 by_cases q:s.toList=[109,111,100,117,108,101]
 · have h:=q;clear q e d c b;have f:(s.toList==[109,100,112])=false:=(by rw[h];rfl);have g:(s.toList==[99,111,110,115,116])=false:=(by rw[h];rfl);have i:(s.toList==[102,111,114,109,117,108,97])=false:=(by rw[h];rfl);have j:(s.toList==[108,97,98,101,108])=false:=(by rw[h];rfl);have k:(s.toList==[109,111,100,117,108,101])=true:=(by rw[h];rfl);have l:(s.toList==[101,110,100,109,111,100,117,108,101])=false:=(by rw[h];rfl);have m:(s.toList==[98,111,111,108])=false:=(by rw[h];rfl);have n:(s.toList==[105,110,105,116])=false:=(by rw[h];rfl);have o:(s.toList==[116,114,117,101])=false:=(by rw[h];rfl);have p:(s.toList==[102,97,108,115,101])=false:=(by rw[h];rfl);have a:=zz (show Eh s.toList=true by rw[h];rfl);clear h;go_enter Tryz.func125,Tryz.ntmps125;go_wp2;go_ret;exact⟨Bh a.out.symm,rfl⟩
 by_cases r:s.toList=[101,110,100,109,111,100,117,108,101]
 · have h:=r;clear r q e d c b;have f:(s.toList==[109,100,112])=false:=(by rw[h];rfl);have g:(s.toList==[99,111,110,115,116])=false:=(by rw[h];rfl);have i:(s.toList==[102,111,114,109,117,108,97])=false:=(by rw[h];rfl);have j:(s.toList==[108,97,98,101,108])=false:=(by rw[h];rfl);have k:(s.toList==[109,111,100,117,108,101])=false:=(by rw[h];rfl);have l:(s.toList==[101,110,100,109,111,100,117,108,101])=true:=(by rw[h];rfl);have m:(s.toList==[98,111,111,108])=false:=(by rw[h];rfl);have n:(s.toList==[105,110,105,116])=false:=(by rw[h];rfl);have o:(s.toList==[116,114,117,101])=false:=(by rw[h];rfl);have p:(s.toList==[102,97,108,115,101])=false:=(by rw[h];rfl);have a:=zz (show Eh s.toList=true by rw[h];rfl);clear h;go_enter Tryz.func125,Tryz.ntmps125;go_wp2;go_ret;exact⟨Bh a.out.symm,rfl⟩
 by_cases t:s.toList=[98,111,111,108]
 · have h:=t;clear t r q e d c b;have f:(s.toList==[109,100,112])=false:=(by rw[h];rfl);have g:(s.toList==[99,111,110,115,116])=false:=(by rw[h];rfl);have i:(s.toList==[102,111,114,109,117,108,97])=false:=(by rw[h];rfl);have j:(s.toList==[108,97,98,101,108])=false:=(by rw[h];rfl);have k:(s.toList==[109,111,100,117,108,101])=false:=(by rw[h];rfl);have l:(s.toList==[101,110,100,109,111,100,117,108,101])=false:=(by rw[h];rfl);have m:(s.toList==[98,111,111,108])=true:=(by rw[h];rfl);have n:(s.toList==[105,110,105,116])=false:=(by rw[h];rfl);have o:(s.toList==[116,114,117,101])=false:=(by rw[h];rfl);have p:(s.toList==[102,97,108,115,101])=false:=(by rw[h];rfl);have a:=zz (show Eh s.toList=true by rw[h];rfl);clear h;go_enter Tryz.func125,Tryz.ntmps125;go_wp2;go_ret;exact⟨Bh a.out.symm,rfl⟩
 by_cases u:s.toList=[105,110,105,116]
 · have h:=u;clear u t r q e d c b;have f:(s.toList==[109,100,112])=false:=(by rw[h];rfl);have g:(s.toList==[99,111,110,115,116])=false:=(by rw[h];rfl);have i:(s.toList==[102,111,114,109,117,108,97])=false:=(by rw[h];rfl);have j:(s.toList==[108,97,98,101,108])=false:=(by rw[h];rfl);have k:(s.toList==[109,111,100,117,108,101])=false:=(by rw[h];rfl);have l:(s.toList==[101,110,100,109,111,100,117,108,101])=false:=(by rw[h];rfl);have m:(s.toList==[98,111,111,108])=false:=(by rw[h];rfl);have n:(s.toList==[105,110,105,116])=true:=(by rw[h];rfl);have o:(s.toList==[116,114,117,101])=false:=(by rw[h];rfl);have p:(s.toList==[102,97,108,115,101])=false:=(by rw[h];rfl);have a:=zz (show Eh s.toList=true by rw[h];rfl);clear h;go_enter Tryz.func125,Tryz.ntmps125;go_wp2;go_ret;exact⟨Bh a.out.symm,rfl⟩
 by_cases v:s.toList=[116,114,117,101]
 · have h:=v;clear v u t r q e d c b;have f:(s.toList==[109,100,112])=false:=(by rw[h];rfl);have g:(s.toList==[99,111,110,115,116])=false:=(by rw[h];rfl);have i:(s.toList==[102,111,114,109,117,108,97])=false:=(by rw[h];rfl);have j:(s.toList==[108,97,98,101,108])=false:=(by rw[h];rfl);have k:(s.toList==[109,111,100,117,108,101])=false:=(by rw[h];rfl);have l:(s.toList==[101,110,100,109,111,100,117,108,101])=false:=(by rw[h];rfl);have m:(s.toList==[98,111,111,108])=false:=(by rw[h];rfl);have n:(s.toList==[105,110,105,116])=false:=(by rw[h];rfl);have o:(s.toList==[116,114,117,101])=true:=(by rw[h];rfl);have p:(s.toList==[102,97,108,115,101])=false:=(by rw[h];rfl);have a:=zz (show Eh s.toList=true by rw[h];rfl);clear h;go_enter Tryz.func125,Tryz.ntmps125;go_wp2;go_ret;exact⟨Bh a.out.symm,rfl⟩
 by_cases x:s.toList=[102,97,108,115,101]
 · have h:=x;clear x v u t r q e d c b;have f:(s.toList==[109,100,112])=false:=(by rw[h];rfl);have g:(s.toList==[99,111,110,115,116])=false:=(by rw[h];rfl);have i:(s.toList==[102,111,114,109,117,108,97])=false:=(by rw[h];rfl);have j:(s.toList==[108,97,98,101,108])=false:=(by rw[h];rfl);have k:(s.toList==[109,111,100,117,108,101])=false:=(by rw[h];rfl);have l:(s.toList==[101,110,100,109,111,100,117,108,101])=false:=(by rw[h];rfl);have m:(s.toList==[98,111,111,108])=false:=(by rw[h];rfl);have n:(s.toList==[105,110,105,116])=false:=(by rw[h];rfl);have o:(s.toList==[116,114,117,101])=false:=(by rw[h];rfl);have p:(s.toList==[102,97,108,115,101])=true:=(by rw[h];rfl);have a:=zz (show Eh s.toList=true by rw[h];rfl);clear h;go_enter Tryz.func125,Tryz.ntmps125;go_wp2;go_ret;exact⟨Bh a.out.symm,rfl⟩
 have f:(s.toList==[109,100,112])=false:=(by simpa using b);have g:(s.toList==[99,111,110,115,116])=false:=(by simpa using c);have i:(s.toList==[102,111,114,109,117,108,97])=false:=(by simpa using d);have j:(s.toList==[108,97,98,101,108])=false:=(by simpa using e);have k:(s.toList==[109,111,100,117,108,101])=false:=(by simpa using q);have l:(s.toList==[101,110,100,109,111,100,117,108,101])=false:=(by simpa using r);have m:(s.toList==[98,111,111,108])=false:=(by simpa using t);have n:(s.toList==[105,110,105,116])=false:=(by simpa using u);have o:(s.toList==[116,114,117,101])=false:=(by simpa using v);have p:(s.toList==[102,97,108,115,101])=false:=(by simpa using x);have a:=zz (show Eh s.toList=false by simp[Eh,D6,AN,AE,BI,A8,DG,D5,CA,Au,Bu,b,c,d,e,q,r,t,u,v,x]);clear x v u t r q e d c b;go_enter Tryz.func125,Tryz.ntmps125;go_wp2;go_ret;exact⟨Bh a.out.symm,rfl⟩
section
variable {xb rb b D:Nat} {st:St}
theorem Fy(w:World)(h:AM w xb rb b D st):Calls Tryz.prog 108 #[.pointer (some ⟨xb,0,none⟩)] w fun e w'=>e= .returned (.bool (CG st.hd))/\Below w.heap.size w w':=by
 have n:=h.ltx;have c0:=h.c0;have j:=zz h.peek;clear h;by_cases g:st.hd.kind=1
 · have l:(((st.hd.kind:Nat):Int)==1)=true:=(by rw[g];rfl);have i:=zz (fun W:World=>Mh ⟨st.hd.text.toArray⟩ W);have d:=zz (show CG st.hd=!Eh st.hd.text by simp[CG,g]);clear g;cases f:Eh st.hd.text with
   | true=>
     rw[show Eh (⟨st.hd.text.toArray⟩:ByteArray).data.toList=true from f]at i;rw[f]at d;clear f;go_enter Tryz.func108,Tryz.ntmps108;go_wp2_with fail;(with_reducible refine(j.out).mono ?_);rintro e k ⟨rfl,a⟩
     have c:=zz a;clear a;go_wp2_with fail;(with_reducible refine(i.out _).mono ?_);rintro e m ⟨rfl,rfl⟩
     go_wp2;go_ret;exact⟨Bh d.out.symm,c.out.alloc c.out.size _⟩
   | false=>
     rw[show Eh (⟨st.hd.text.toArray⟩:ByteArray).data.toList=false from f]at i;rw[f]at d;clear f;go_enter Tryz.func108,Tryz.ntmps108;go_wp2_with fail;(with_reducible refine(j.out).mono ?_);rintro e k ⟨rfl,a⟩
     have c:=zz a;clear a;go_wp2_with fail;(with_reducible refine(i.out _).mono ?_);rintro e m ⟨rfl,rfl⟩
     go_wp2;go_ret;exact⟨Bh d.out.symm,c.out.alloc c.out.size _⟩
 · have l:(((st.hd.kind:Nat):Int)==1)=false:=(by rw[beq_eq_false_iff_ne];omega);have d:=zz (show CG st.hd=false by simp[CG,g]);clear g;go_enter Tryz.func108,Tryz.ntmps108;go_wp2_with fail;(with_reducible refine(j.out).mono ?_);rintro e k ⟨rfl,a⟩
   have c:=zz a;clear a;go_wp2;go_ret;exact⟨Bh d.out.symm,c.out.alloc c.out.size _⟩
end
end
section
open Go.RowKit
def XV.c(v:XV):List Value:=BM v.o v.nm v.n v.A v.ll v.cap v.p
def AI:XV:=⟨⟨#[]⟩,⟨#[]⟩,0,none,0,0,0⟩
theorem LP.keepY{w w':World}{e:TypeId}{S:Nat->Prop}{g:Nat}{xs:List Value}(h:LP w e S g xs)(hk:∀(k:Nat) (cs:Array Value),S k->w.heap[k]?=some (.cells cs e (0,0))->w'.heap[k]?=w.heap[k]?):LP w' e S g xs:=by obtain⟨a,cs,b,c⟩:=h;exact⟨a,cs,(hk _ _ a b).trans b,c⟩
theorem HS.keepY{w w':World}{e:TypeId}{S:Nat->Prop}(hk:∀(k:Nat) (cs:Array Value),S k->w.heap[k]?=some (.cells cs e (0,0))->w'.heap[k]?=w.heap[k]?):∀{x:Ex} {c:List Value},HS w e S x c->HS w' e S x c
 | .leaf _ _ _ _,_,h=>h
 | .un _ _ _,_,⟨ad,cap,ca,h1,h2,h3⟩=>⟨ad,cap,ca,h1,h2.keepY hk,HS.keepY hk h3⟩
 | .bin _ _ _ _,_,⟨ad,cap,ca,cb,h1,h2,h3,h4⟩=>⟨ad,cap,ca,cb,h1,h2.keepY hk,HS.keepY hk h3,HS.keepY hk h4⟩
 | .cond _ _ _ _,_,⟨ad,cap,ca,cb,cd,h1,h2,h3,h4,h5⟩=>⟨ad,cap,ca,cb,cd,h1,h2.keepY hk,HS.keepY hk h3,HS.keepY hk h4,HS.keepY hk h5⟩
def Kt(b:Nat)(E:TypeId->Prop)(w w':World):Prop:=∀(k:Nat) (cs:Array Value) (e:TypeId),b<=k->w.heap[k]?=some (.cells cs e (0,0))->¬E e->w'.heap[k]?=w.heap[k]?
def E0(_:TypeId):Prop:=False
section
variable {b b':Nat} {E:TypeId->Prop} {w w':World}
theorem Kt.mono(h:Kt b E w w')(hb:b<=b'):Kt b' E w w':=fun k a e f c d=>h k a e (Nat.le_trans hb f) c d
theorem Kt.below(h:Below w.heap.size w w'):Kt b E w w':=fun k _ _ _ a _=>h.block k (BB a)
theorem Kt.fx{X:Nat->Prop}(h:Fx X w w')(hx:∀k,X k->k<b):Kt b E w w':=fun k _ _ c a _=>h.block k (BB a) (fun e=>absurd (hx k e) (by omega))
theorem Kt.setL{q i:Nat}{us:List Value}(hq:q<b):Kt b E w (Go.Proofs.YtodijgndbjfbgaaGreatDoor.setL w q i us):=fun k _ _ a _ _=>Ay (by omega) us w i
theorem Kt.grown{row:Option Nat}{t:TypeId}(hg:w.grownBy w' row)(hr:∀g,row=some g->∃cs:Array Value,w.heap[g]?=some (.cells cs t (0,0))):Kt b (fun e=>e=t) w w':=by
 intro k cs e i c h;refine hg.block k (BB c) (fun f=>?_);obtain⟨d,a⟩:=hr k f.symm;rw[c]at a;injection a with a
 injection a with _ a
 exact h a
end
def XO(w:World)(b:Nat):Option Ex->List Value->Prop
 | some x,c=>HS w 57 (fun k=>b<=k) x c
 | none,c=>c=AI.c
section
variable {b b':Nat} {E:TypeId->Prop} {w w':World} {o:Option Ex} {c:List Value}
theorem XO.keep(h:XO w b o c)(hk:Kt b E w w')(he:¬E 57):XO w' b o c:=by
 cases o with
 | none=>exact h
 | some x=>exact HS.keepY (fun k a d e=>hk k a 57 d e he) (show HS w 57 (fun k=>b<=k) x c from h)
theorem XO.mono(h:XO w b o c)(hb:b'<=b):XO w b' o c:=by
 cases o with
 | none=>exact h
 | some x=>exact HS.wide (fun k _ a=>Nat.le_trans hb a) (show HS w 57 (fun k=>b<=k) x c from h)
theorem XO.below(h:XO w b o c)(hb:Below w.heap.size w w'):XO w' b o c:=h.keep (E:=E0) (Kt.below hb) id
theorem XO.alloc(h:XO w b o c)(ob:Obj):XO (w.alloc ob) b o c:=h.below ((Below.refl _ _).alloc (Nat.le_refl _) _)
theorem XO.fx{X:Nat->Prop}(h:XO w b o c)(hf:Fx X w w')(hx:∀k,X k->k<b):XO w' b o c:=h.keep (E:=E0) (Kt.fx hf hx) id
theorem XO.setL{q i:Nat}{us:List Value}(h:XO w b o c)(hq:q<b):XO (Go.Proofs.YtodijgndbjfbgaaGreatDoor.setL w q i us) b o c:=h.keep (E:=E0) (Kt.setL hq) id
end
section
variable {xb rb b D:Nat} {st:St}
theorem Ih(c:Nat)(st:St):(st.fail c).hd=⟨0,[],0⟩:=by cases st<;>rfl
def Ym(xb rb b D:Nat)(r:(List UInt8×Nat)×St)(w:World)(e:Ending)(w':World):Prop:=e= .returned (.tuple #[.string ⟨r.1.1.toArray⟩,.int .i64 ((r.1.2:Nat):Int)])/\AM w' xb rb b D r.2/\Fx (X2 xb rb) w w'
theorem DE(w:World)(h:AM w xb rb b D st):Calls Tryz.prog 104 #[.pointer (some ⟨xb,0,none⟩)] w (Ym xb rb b D st.name w):=by
 have u:=h.ltx;have H:=zz h;have m:=zz (Fy w h);cases d:CG st.hd with
 | true=>
   rw[d]at m;have l:st.hd.kind≠0:=(by rw[(FH d).1];decide);have o:=zz (fun(W:World) (j:AM W xb rb b D st)=>j.take_on l);rw[show st.name=((st.hd.text,st.hd.pos),st.tl) by simp[St.name,d]];clear h d l;go_enter Tryz.func104,Tryz.ntmps104;go_wp2_with fail;(with_reducible refine(m.out).mono ?_);rintro e s ⟨rfl,a⟩
   have c0:=(H.out.below a).c0;have q:=(H.out.below a).ltx;have f:=zz a;clear a;go_wp2_with fail;refine(o.out _ (H.out.below f.out)).mono ?_;rintro e t ⟨rfl,c,i⟩;have n:=zz c;have p:=zz i;clear c i;go_wp2_with fail;go_quiet (fail);go_wp2;go_ret2;exact⟨rfl,(n.out.alloc _).below (BD (Below.refl _ _) _),(((Fx.of f.out).trans p.out).alloc _).on (BD (Below.refl _ _) _)⟩
 | false=>
   rw[d]at m;have r:=zz (fun(W:World) (j:AM W xb rb b D st)=>Fs W j);have o:=zz (fun(W:World) (j:AM W xb rb b D (st.fail 20))=>j.take_end (by rw[Ih]));rw[show st.name=(([],0),st.fail 20) by simp[St.name,d]];rw[Ih]at o;clear h d;go_enter Tryz.func104,Tryz.ntmps104;go_wp2_with fail;(with_reducible refine(m.out).mono ?_);rintro e s ⟨rfl,a⟩
   have f:=zz a;clear a;go_wp2_with fail;refine(r.out _ (H.out.below f.out)).mono ?_;rintro e t ⟨rfl,c,i⟩;have c0:=c.c0;have q:=c.ltx;have n:=zz c;have p:=zz i;clear c i;go_wp2_with fail;refine(o.out _ n.out).mono ?_;rintro e v ⟨rfl,k⟩;have g:=zz k;clear k;go_wp2_with fail;go_quiet (fail);go_wp2;go_ret2;exact⟨rfl,((n.out.below g.out).alloc _).below (BD (Below.refl _ _) _),(((((Fx.of f.out).trans p.out).on g.out)).alloc _).on (BD (Below.refl _ _) _)⟩
theorem Ol(w:World)(h:AM w xb rb b D st):Calls Tryz.prog 106 #[.pointer (some ⟨xb,0,none⟩)] w (Ym xb rb b D st.text w):=by
 have A:=h.ltx;have c0:=h.c0;have H:=zz h;have q:=zz h.peek;have u:=Df;have v:=C7;have x:=C8;by_cases d:st.hd.kind=3
 · have t:(((st.hd.kind:Nat):Int) != 3)=false:=(by rw[d];rfl);have l:st.hd.kind≠0:=(by rw[d];decide);have n:=zz (fun(W:World) (j:AM W xb rb b D st)=>j.take_on l);rw[show st.text=((st.hd.text,st.hd.pos),st.tl) by simp[St.text,d]];clear h d l;go_enter Tryz.func106,Tryz.ntmps106;go_wp2_with fail;(with_reducible refine(q.out).mono ?_);rintro e y ⟨rfl,a⟩
   have s:=(H.out.below a).c0;have p:=(H.out.below a).ltx;have f:=zz a;clear a;go_wp2_with fail;refine(n.out _ (H.out.below f.out)).mono ?_;rintro e z ⟨rfl,c,i⟩;have m:=zz c;have o:=zz i;clear c i;go_wp2_with fail;go_quiet (fail);go_wp2;go_ret2;exact⟨rfl,(m.out.alloc _).below (BD (Below.refl _ _) _),(((Fx.of f.out).trans o.out).alloc _).on (BD (Below.refl _ _) _)⟩
 · have t:(((st.hd.kind:Nat):Int) != 3)=true:=(by rw[bne_iff_ne];omega);have r:=zz (fun(W:World) (j:AM W xb rb b D st)=>Fs W j);have n:=zz (fun(W:World) (j:AM W xb rb b D (st.fail 20))=>j.take_end (by rw[Ih]));rw[show st.text=(([],0),st.fail 20) by simp[St.text,d]];rw[Ih]at n;clear h d;go_enter Tryz.func106,Tryz.ntmps106;go_wp2_with fail;(with_reducible refine(q.out).mono ?_);rintro e y ⟨rfl,a⟩
   have f:=zz a;clear a;go_wp2_with fail;refine(r.out _ (H.out.below f.out)).mono ?_;rintro e z ⟨rfl,c,i⟩;have s:=c.c0;have p:=c.ltx;have m:=zz c;have o:=zz i;clear c i;go_wp2_with fail;refine(n.out _ m.out).mono ?_;rintro e B ⟨rfl,k⟩;have g:=zz k;clear k;go_wp2_with fail;go_quiet (fail);go_wp2;go_ret2;exact⟨rfl,((m.out.below g.out).alloc _).below (BD (Below.refl _ _) _),(((((Fx.of f.out).trans o.out).on g.out)).alloc _).on (BD (Below.refl _ _) _)⟩
end
end
end
section
section
open Go.RowKit
theorem BN{xb rb k n:Nat}(h:X2 xb rb k)(h1:xb<n)(h2:rb<n):k<n:=by rcases h with rfl | rfl<;>assumption
theorem Ai.fxb{X:Nat->Prop}{w w':World}{q:Nat}{c0 c1 c2 c3 c4:Value}(h:Ai w q c0 c1 c2 c3 c4)(hf:Fx X w w')(hx:¬X q):Ai w' q c0 c1 c2 c3 c4:=(hf.block q h.lt hx).trans h
theorem Fx.set5{X:Nat->Prop}{a w:World}{q:Nat}(h:Fx X a w)(hq:a.heap.size<=q)(x0 x1 x2 x3 x4:Value):Fx X a (((((w.setCell ⟨q,0,none⟩ x0).setCell ⟨q,1,none⟩ x1).setCell ⟨q,2,none⟩ x2).setCell ⟨q,3,none⟩ x3).setCell ⟨q,4,none⟩ x4):=
 Fx.setL (us:=[x0,x1,x2,x3,x4]) (i:=0) (.inl hq) h
theorem XO.set5{w:World}{b q:Nat}{o:Option Ex}{c:List Value}(h:XO w b o c)(hq:q<b)(x0 x1 x2 x3 x4:Value):XO (((((w.setCell ⟨q,0,none⟩ x0).setCell ⟨q,1,none⟩ x1).setCell ⟨q,2,none⟩ x2).setCell ⟨q,3,none⟩ x3).setCell ⟨q,4,none⟩ x4) b o c:=
 XO.setL (us:=[x0,x1,x2,x3,x4]) (i:=0) h hq
theorem AM.set5{w:World}{xb rb b D q:Nat}{st:St}{c0 c1 c2 c3 c4:Value}(h:AM w xb rb b D st)(hb:Ai w q c0 c1 c2 c3 c4)(hq:b<=q)(x0 x1 x2 x3 x4:Value):AM (((((w.setCell ⟨q,0,none⟩ x0).setCell ⟨q,1,none⟩ x1).setCell ⟨q,2,none⟩ x2).setCell ⟨q,3,none⟩ x3).setCell ⟨q,4,none⟩ x4) xb rb b D st:=
 AM.setL (us:=[x0,x1,x2,x3,x4]) (i:=0) (t:=57) (cs:=[c0,c1,c2,c3,c4]) (by unfold EH;decide) hq h hb
theorem Bb{w:World}{k:Nat}{cs cs':Array Value}{e e':TypeId}(h:w.heap[k]?=some (.cells cs e (0,0)))(h':w.heap[k]?=some (.cells cs' e' (0,0))):e=e':=by
 rw[h]at h';injection h' with h'
 injection h' with _ h'
theorem Vx{w:World}{xb q:Nat}{u0 u1:Value}(hq:xb≠q)(h:w.cell? ⟨xb,0,none⟩=some u0/\w.cell? ⟨xb,1,none⟩=some u1){x0 x1 x2 x3 x4:Value}:
 (((((w.setCell ⟨q,0,none⟩ x0).setCell ⟨q,1,none⟩ x1).setCell ⟨q,2,none⟩ x2).setCell ⟨q,3,none⟩ x3).setCell ⟨q,4,none⟩ x4).cell? ⟨xb,0,none⟩=some u0/\(((((w.setCell ⟨q,0,none⟩ x0).setCell ⟨q,1,none⟩ x1).setCell ⟨q,2,none⟩ x2).setCell ⟨q,3,none⟩ x3).setCell ⟨q,4,none⟩ x4).cell? ⟨xb,1,none⟩=some u1:=
 ⟨(World.cell?_of_block (w:=w) (a:=⟨xb,0,none⟩) (Ay hq [x0,x1,x2,x3,x4] w 0)).trans h.1,(World.cell?_of_block (w:=w) (a:=⟨xb,1,none⟩) (Ay hq [x0,x1,x2,x3,x4] w 0)).trans h.2⟩
section
variable {xb rb b D:Nat} {st:St}
def YN(xb rb b D:Nat)(r:Option Ex×St)(w:World)(e:Ending)(w':World):Prop:=
 ∃v:XV,e= .returned (.agg #[.string v.o,.string v.nm,.int .i64 v.n,.slice v.A v.ll v.cap,.int .i64 v.p])/\XO w' (w.heap.size+1) r.1 v.c/\AM w' xb rb b D r.2/\Fx (X2 xb rb) w w'
structure Yx(xb rb b D:Nat)(r:Option Ex×St)(W w:World)(v:XV)(ev:Value):Prop where
 x:XO w W.heap.size r.1 v.c
 fx:Fx (X2 xb rb) W w
 fl:∀w',Kt b (fun e=>e=57) w w'->(∀k:Nat,k<b->w'.heap[k]?=w.heap[k]?)->w.heap.size<=w'.heap.size->Calls Tryz.prog 75 #[.pointer (some ⟨xb,0,none⟩),ev] w' (MU xb rb b D r.2 w')
theorem Pi{r:Option Ex×St}{P:Option Addr}(w:World)(c0:w.cell? ⟨xb,0,none⟩=some (.pointer P))(c1:w.cell? ⟨xb,1,none⟩=some (.int .i64 (D:Int)))(hx:xb<w.heap.size)(hrb:rb<w.heap.size)(hb:b<=xb)
 (HR:∀W,Below w.heap.size w W->Calls Tryz.prog 145 #[.pointer P,.int .i64 (D:Int)] W fun e w'=>∃(v:XV) (ev:Value),e= .returned (.tuple #[.agg #[.string v.o,.string v.nm,.int .i64 v.n,.slice v.A v.ll v.cap,.int .i64 v.p],ev])/\Yx xb rb b D r W w' v ev/\w'.cell? ⟨xb,0,none⟩=some (.pointer P)/\w'.cell? ⟨xb,1,none⟩=some (.int .i64 (D:Int))):
 Calls Tryz.prog 124 #[.pointer (some ⟨xb,0,none⟩)] w (YN xb rb b D r w):=by
 have HH:=zz HR;have y:∀k,w.heap.size<=k->¬X2 xb rb k:=fun k B h=>(by have:=BN h hx hrb;omega);have J:=zz y;have C:=zz (show Below w.heap.size w ((w.alloc (.cells #[.string ⟨#[]⟩,.string ⟨#[]⟩,.int .i64 0,.slice none 0 0,.int .i64 0] 57)).drew)from((Below.refl _ _).alloc (Nat.le_refl _) _).drew);have E:=zz (show Below w.heap.size w (((w.alloc (.cells #[.string ⟨#[]⟩,.string ⟨#[]⟩,.int .i64 0,.slice none 0 0,.int .i64 0] 57)).alloc (.cells #[.string ⟨#[]⟩,.string ⟨#[]⟩,.int .i64 0,.slice none 0 0,.int .i64 0] 57)).drew)from(((Below.refl _ _).alloc (Nat.le_refl _) _).alloc (by simp) _).drew);have N:=zz (fun(g:World) (H:Fx (X2 xb rb) (((w.alloc (.cells #[.string ⟨#[]⟩,.string ⟨#[]⟩,.int .i64 0,.slice none 0 0,.int .i64 0] 57)).alloc (.cells #[.string ⟨#[]⟩,.string ⟨#[]⟩,.int .i64 0,.slice none 0 0,.int .i64 0] 57)).drew) g)=>show Ai g (w.heap.size+1) (.string ⟨#[]⟩) (.string ⟨#[]⟩) (.int .i64 0) (.slice none 0 0) (.int .i64 0)from Ai.fxb (w:=((w.alloc (.cells #[.string ⟨#[]⟩,.string ⟨#[]⟩,.int .i64 0,.slice none 0 0,.int .i64 0] 57)).alloc (.cells #[.string ⟨#[]⟩,.string ⟨#[]⟩,.int .i64 0,.slice none 0 0,.int .i64 0] 57)).drew) (Cc (by simp) _) H (y _ (by omega)));have M:=zz (fun(g:World) (H:Fx (X2 xb rb) (((w.alloc (.cells #[.string ⟨#[]⟩,.string ⟨#[]⟩,.int .i64 0,.slice none 0 0,.int .i64 0] 57)).alloc (.cells #[.string ⟨#[]⟩,.string ⟨#[]⟩,.int .i64 0,.slice none 0 0,.int .i64 0] 57)).drew) g)=>show Ai g w.heap.size (.string ⟨#[]⟩) (.string ⟨#[]⟩) (.int .i64 0) (.slice none 0 0) (.int .i64 0)from Ai.fxb (w:=((w.alloc (.cells #[.string ⟨#[]⟩,.string ⟨#[]⟩,.int .i64 0,.slice none 0 0,.int .i64 0] 57)).alloc (.cells #[.string ⟨#[]⟩,.string ⟨#[]⟩,.int .i64 0,.slice none 0 0,.int .i64 0] 57)).drew) ((Ai.new w _ _ _ _ _).alloc _) H (y _ (by omega)));have O:=zz (fun(g:World) (H:Fx (X2 xb rb) ((w.alloc (.cells #[.string ⟨#[]⟩,.string ⟨#[]⟩,.int .i64 0,.slice none 0 0,.int .i64 0] 57)).drew) g)=>show Ai g w.heap.size (.string ⟨#[]⟩) (.string ⟨#[]⟩) (.int .i64 0) (.slice none 0 0) (.int .i64 0)from Ai.fxb (w:=(w.alloc (.cells #[.string ⟨#[]⟩,.string ⟨#[]⟩,.int .i64 0,.slice none 0 0,.int .i64 0] 57)).drew) (Ai.new w _ _ _ _ _) H (y _ (by omega)));clear HR y;go_enter Tryz.func124,Tryz.ntmps124;have n0:=World.new_ne w ⟨xb,0,none⟩ c0;have n1:=World.new_ne w ⟨xb,1,none⟩ c1;go_wp2_with fail
 go_region_held3 (fun w'=>w'.cell? ⟨xb,0,none⟩=some (.pointer P)/\w'.cell? ⟨xb,1,none⟩=some (.int .i64 (D:Int))) (first | with_reducible exact V | go_keep | (refine Vx ?_ V;omega)) (first
  | (go_at_call 145;(with_reducible refine(HH.out _ E.out).mono ?_);rintro e g ⟨v,ev,rfl,m,V⟩;have I:=N.out _ m.fx;have T:=I.cells;have U:=I.frozen;have aa:=I.lt;obtain⟨b0,b1,b2,b3,b4⟩:=T;obtain⟨z0,z1,z2,z3,z4⟩:=U;have j:=zz I;clear I)
  | (go_at_call 145;(with_reducible refine(HH.out _ C.out).mono ?_);rintro e g ⟨v,ev,rfl,m,V⟩;have j:=zz True.intro))
 · go_wp2_with fail;refine AA (P:=fun l=>Calls Tryz.prog 75 #[.pointer (some ⟨xb,0,none⟩),ev] l (MU xb rb b D r.2 l)/\Ai l g.heap.size (.string v.o) (.string v.nm) (.int .i64 v.n) (.slice v.A v.ll v.cap) (.int .i64 v.p)/\Ai l w.heap.size (.string ⟨#[]⟩) (.string ⟨#[]⟩) (.int .i64 0) (.slice none 0 0) (.int .i64 0)/\XO l (w.heap.size+1) r.1 v.c/\Fx (X2 xb rb) w l/\w.heap.size<g.heap.size) ⟨m.fl _ (Kt.below ((Below.refl _ _).alloc (Nat.le_refl _) _)) (fun k B=>((Below.refl g.heap.size g).alloc (Nat.le_refl _) _).block k (by have:=m.fx.size;simp at this;omega)) (by simp),Ai.new g _ _ _ _ _,(O.out g m.fx).alloc _,(m.x.mono (by simp)).alloc _,((Fx.of C.out).trans m.fx).alloc _,by have:=m.fx.size;simp at this;omega⟩ ?_;rintro l ⟨u,s,q,t,F,S⟩;refine u.mono ?_;rintro e w4 ⟨rfl,G,f⟩;have d:=s.fxb f (J.out _ (by omega));have a:=q.fxb f (J.out _ (by omega));have z:=zz (t.fx f (fun k B=>by have:=BN B hx hrb;omega));have K:=zz (F.trans f);have L:=zz G;obtain⟨d0,d1,d2,d3,d4⟩:=d.cells;obtain⟨y0,y1,y2,y3,y4⟩:=a.frozen;obtain⟨a0,a1,a2,a3,a4⟩:=a.cells;have Q:=a.lt;have R:=d.lt;have i:=zz a;clear u s q t F G f d a j;go_wp2;obtain⟨X,Y,Z,m3,m4⟩:=(i.out.set5 (.string v.o) (.string v.nm) (.int .i64 v.n) (.slice v.A v.ll v.cap) (.int .i64 v.p)).cells;refine bodyPost_ret (v:=.agg #[.string v.o,.string v.nm,.int .i64 v.n,.slice v.A v.ll v.cap,.int .i64 v.p]) (by simp[results,Tryz.results124,go_sem,X,Y,Z,m3,m4]) rfl ⟨v,rfl,?_,?_,?_⟩
   · exact z.out.set5 (by omega) _ _ _ _ _
   · exact L.out.set5 i.out (by omega) _ _ _ _ _
   · exact K.out.set5 (Nat.le_refl _) _ _ _ _ _
 · go_wp2_with fail;refine AA (P:=fun l=>Calls Tryz.prog 75 #[.pointer (some ⟨xb,0,none⟩),ev] l (MU xb rb b D r.2 l)/\Ai l (w.heap.size+1) (.string v.o) (.string v.nm) (.int .i64 v.n) (.slice v.A v.ll v.cap) (.int .i64 v.p)/\Ai l w.heap.size (.string ⟨#[]⟩) (.string ⟨#[]⟩) (.int .i64 0) (.slice none 0 0) (.int .i64 0)/\XO l (w.heap.size+1) r.1 v.c/\Fx (X2 xb rb) w l/\w.heap.size<(w.heap.size+1)) ⟨m.fl _ (fun k cs e B h1 h2=>Ay (by rintro rfl;exact h2 (Bb h1 j.out)) [_,_,_,_,_] g 0) (fun k B=>Ay (by omega) [_,_,_,_,_] g 0) (by simp),j.out.set5 _ _ _ _ _,(M.out g m.fx).far5 (by omega) _ _ _ _ _,(m.x.set5 (by simp) _ _ _ _ _).mono (by simp),((Fx.of E.out).trans m.fx).set5 (by omega) _ _ _ _ _,by omega⟩ ?_;rintro l ⟨u,s,q,t,F,S⟩;refine u.mono ?_;rintro e w4 ⟨rfl,G,f⟩;have d:=s.fxb f (J.out _ (by omega));have a:=q.fxb f (J.out _ (by omega));have z:=zz (t.fx f (fun k B=>by have:=BN B hx hrb;omega));have K:=zz (F.trans f);have L:=zz G;obtain⟨d0,d1,d2,d3,d4⟩:=d.cells;obtain⟨y0,y1,y2,y3,y4⟩:=a.frozen;obtain⟨a0,a1,a2,a3,a4⟩:=a.cells;have Q:=a.lt;have R:=d.lt;have i:=zz a;clear u s q t F G f d a j;go_wp2;obtain⟨X,Y,Z,m3,m4⟩:=(i.out.set5 (.string v.o) (.string v.nm) (.int .i64 v.n) (.slice v.A v.ll v.cap) (.int .i64 v.p)).cells;refine bodyPost_ret (v:=.agg #[.string v.o,.string v.nm,.int .i64 v.n,.slice v.A v.ll v.cap,.int .i64 v.p]) (by simp[results,Tryz.results124,go_sem,X,Y,Z,m3,m4]) rfl ⟨v,rfl,?_,?_,?_⟩
   · exact z.out.set5 (by omega) _ _ _ _ _
   · exact L.out.set5 i.out (by omega) _ _ _ _ _
   · exact K.out.set5 (Nat.le_refl _) _ _ _ _ _
structure Kk(b:Nat)(w w':World):Prop where
 kt:Kt b (fun e=>e=57) w w'
 lo:∀k:Nat,k<b->w'.heap[k]?=w.heap[k]?
 sz:w.heap.size<=w'.heap.size
theorem Kk.all{w w':World}(h:Kk b w w'){k:Nat}{cs:Array Value}{e:TypeId}(hk:w.heap[k]?=some (.cells cs e (0,0)))(he:e≠57):w'.heap[k]?=w.heap[k]?:=by
 rcases Nat.lt_or_ge k b with c | a
 · exact h.lo k c
 · exact h.kt k cs e a hk he
theorem Wb{e:TypeId}(h:EH e):e≠57:=by rcases h with rfl | rfl | rfl | rfl<;>decide
theorem AM.kk{w w':World}(h:AM w xb rb b D st)(hk:Kk b w w'):AM w' xb rb b D st:=h.keep (fun _ _ _ a c=>hk.all a (Wb c)) hk.lo hk.sz
theorem VN.kk{w w':World}(h:VN w xb rb b D)(hk:Kk b w w'):VN w' xb rb b D:=
 ⟨(hk.all h.blk (by decide)).trans h.blk,DA h.glob (hk.lo 0 h.lo.2) (hk.lo 3 h.lo.1),h.d1,h.d64,h.lo,h.hx,Nat.lt_of_lt_of_le h.hr hk.sz⟩
theorem EC.kk{w w':World}{eb:Nat}{p c:Int}(h:EC w eb p c)(hk:Kk b w w'):EC w' eb p c:=by obtain⟨d,a⟩:=h.typ;exact h.keep (hk.all a (by decide))
theorem AM.fr{us:List AH}{w w':World}(h:AM w xb rb b D (.good us))(hF:Fr w.heap.size rb w w'):VN w' xb rb b D/\w'.cell? ⟨xb,0,none⟩=some (.pointer (some ⟨rb,0,none⟩))/\w'.cell? ⟨xb,1,none⟩=some (.int .i64 (D:Int)):=by
 have j:TR w rb us:=h.tr;have e:=h.mr0;have d:xb≠rb:=by
  rintro rfl;obtain⟨k,l,_,g,f,a,_⟩:=j.rd;rw[show w.heap[xb]?=_ from e.blk]at a;injection a with a
  injection a with _ a
  exact absurd a (by decide)
 have c:Bx w' xb 67 _:=(hF.block xb h.ltx d).trans e.blk;have i:B0 w':=DA h.glob (hF.block 0 (by have:=h.lo;have:=h.hx;have:=h.ltx;omega) (by have:=h.lo;have:=h.hx;omega)) (hF.block 3 (by have:=h.lo;have:=h.hx;have:=h.ltx;omega) (by have:=h.lo;have:=h.hx;omega));exact⟨⟨c,i,h.d1,h.d64,h.lo,h.hx,Nat.lt_of_lt_of_le h.hr hF.size⟩,c.cell 0,c.cell 1⟩
theorem VN.good{r:List AH}{w:World}(h:VN w xb rb b D)(hT:TR w rb r):AM w xb rb b D (.good r):=⟨⟨_,h.blk,rfl⟩,hT,h.glob,h.d1,h.d64,h.lo,h.hx,h.hr⟩
theorem DF(w:World)(h:AM w xb rb b D st):Calls Tryz.prog 124 #[.pointer (some ⟨xb,0,none⟩)] w (YN xb rb b D (st.expr D) w):=by
 obtain⟨v,c0,F,_⟩:=h.cells;refine Pi w c0 F h.ltx h.hr h.hx.1 ?_;intro W K;have f:=h.below K;cases st with
 | bad c p=>obtain⟨P,E,G,_⟩:=f.cells;refine(Rl (D:Int) W ⟨by have:=h.d1;omega,by have:=h.d64;omega⟩).mono ?_;rintro e N ⟨rfl,s⟩;exact⟨AI,_,rfl,⟨rfl,Fx.of s,fun a g i j=>Hq a ((f.below s).kk ⟨g,i,j⟩) _ _⟩,(f.below s).cells.choose_spec.1,(f.below s).cells.choose_spec.2.1⟩
 | good C=>
   refine(QY W f.tr h.d1 h.d64).mono ?_;intro e N t;have L:(St.good C).expr D=BJ ((dp D).c C):=rfl;rw[L];cases d:(dp D).c C with
   | ok x r=>rw[d]at t;obtain⟨o,nm,n,A,l,u,p,rfl,I,J,m⟩:=t;obtain⟨y,z,B⟩:=f.fr m;exact⟨⟨o,nm,n,A,l,u,p⟩,_,rfl,⟨HS.wide (fun k _ M=>M.1) I,Fx.ofFr m,fun a g i j=>KI a ((y.good J).kk ⟨g,i,j⟩)⟩,z,B⟩
   | er c q=>rw[d]at t;obtain⟨O,rfl,_,H,m⟩:=t;obtain⟨y,z,B⟩:=f.fr m;exact⟨AI,_,rfl,⟨rfl,Fx.ofFr m,fun a g i j=>FM a (y.kk ⟨g,i,j⟩) (H.kk ⟨g,i,j⟩)⟩,z,B⟩
end
end
section
open Go.RowKit
section
variable {xb rb b D:Nat} {st:St}
theorem AM.nx{w:World}(h:AM w xb rb b D st):∀k,w.heap.size<=k->¬X2 xb rb k:=fun k c a=>by have:=BN a h.ltx h.hr;omega
theorem AM.ble{w:World}(h:AM w xb rb b D st):b<=w.heap.size:=by have:=h.ltx;have:=h.hx;omega
theorem Js(w:World)(h:AM w xb rb b D st):Calls Tryz.prog 105 #[.pointer (some ⟨xb,0,none⟩)] w (YN xb rb b D (st.mean D) w):=by
 have U:=h.ltx;have L:=h.hr;have G:=zz h.nx;have O:=h.ble;have H:=zz h;clear h;go_enter Tryz.func105,Tryz.ntmps105;go_wp2_with fail;refine AA (P:=fun W=>AM W xb rb b D st/\Ai W w.heap.size (.string ⟨#[]⟩) (.string ⟨#[]⟩) (.int .i64 0) (.slice none 0 0) (.int .i64 0)/\Fx (X2 xb rb) w W) ⟨H.out.alloc _,Ai.new _ _ _ _ _ _,(Fx.refl _ _).alloc _⟩ ?_;rintro W ⟨z,x,y⟩;refine(AT W z _).mono ?_;rintro e M ⟨rfl,B,j⟩;have s:=zz (show AM M xb rb b D (st.want [61])from B);have m:=zz (x.fxb j (G.out _ (Nat.le_refl _)));have f:=zz (y.trans j);clear z x y B j H;go_wp2_with fail;refine(DF M s.out).mono ?_;rintro e w2 ⟨v,rfl,F,C,l⟩;have t:=zz C;have u:=zz (F.mono (by have:=f.out.size;omega:w.heap.size+1<=M.heap.size+1));have q:=zz (m.out.fxb l (G.out _ (Nat.le_refl _)));have g:=zz (f.out.trans l);clear F C l s m f;go_wp2_with fail;refine AA (P:=fun W=>AM W xb rb b D ((st.want [61]).expr D).2/\Ai W w.heap.size (.string ⟨#[]⟩) (.string ⟨#[]⟩) (.int .i64 0) (.slice none 0 0) (.int .i64 0)/\Ai W w2.heap.size (.string v.o) (.string v.nm) (.int .i64 v.n) (.slice v.A v.ll v.cap) (.int .i64 v.p)/\XO W (w.heap.size+1) ((st.want [61]).expr D).1 v.c/\Fx (X2 xb rb) w W) ⟨t.out.alloc _,q.out.alloc _,Ai.new _ _ _ _ _ _,u.out.alloc _,g.out.alloc _⟩ ?_;have T:=g.out.size;rintro W ⟨z,x,N,F,y⟩;refine(AT W z _).mono ?_;rintro e w3 ⟨rfl,E,d⟩;have a:=x.fxb d (G.out _ (Nat.le_refl _));have i:=N.fxb d (G.out _ (by omega));have K:=zz (F.fx d (fun k Q=>by have:=BN Q U L;omega));have J:=zz (show AM w3 xb rb b D (((st.want [61]).expr D).2.want [59])from E);have I:=zz (y.trans d);obtain⟨d0,d1,d2,d3,d4⟩:=i.cells;obtain⟨a0,a1,a2,a3,a4⟩:=a.cells;obtain⟨y0,y1,y2,y3,y4⟩:=a.frozen;have R:=a.lt;have S:=i.lt;have r:=zz a;clear z x N F y E d a i t q u g;go_wp2;obtain⟨V,X,Y,Z,m4⟩:=(r.out.set5 (.string v.o) (.string v.nm) (.int .i64 v.n) (.slice v.A v.ll v.cap) (.int .i64 v.p)).cells;refine bodyPost_ret (v:=.agg #[.string v.o,.string v.nm,.int .i64 v.n,.slice v.A v.ll v.cap,.int .i64 v.p]) (by simp[results,Tryz.results105,go_sem,V,X,Y,Z,m4]) rfl ⟨v,rfl,?_,?_,?_⟩
 · exact K.out.set5 (by omega) _ _ _ _ _
 · exact J.out.set5 r.out (by omega) _ _ _ _ _
 · exact I.out.set5 (Nat.le_refl _) _ _ _ _ _
def YU(xb rb b D:Nat)(r:Ad×St)(w:World)(e:Ending)(w':World):Prop:=
 ∃v:XV,e= .returned (.agg #[.string ⟨r.1.nm.toArray⟩,.string v.o,.string v.nm,.int .i64 v.n,.slice v.A v.ll v.cap,.int .i64 v.p,.int .i64 ((r.1.pos:Nat):Int)])/\XO w' (w.heap.size+1) r.1.x v.c/\AM w' xb rb b D r.2/\Fx (X2 xb rb) w w'
end
end
section
open Go.RowKit
section
variable {xb rb b D:Nat} {st:St}
theorem O2(w:World)(h:AM w xb rb b D st):Calls Tryz.prog 80 #[.pointer (some ⟨xb,0,none⟩)] w (YU xb rb b D (st.defn D) w):=by
 have Q:=h.ltx;have O:=h.hr;have u:=zz h.nx;have M:=h.ble;have H:=zz h;clear h;go_enter Tryz.func80,Tryz.ntmps80;go_wp2_with fail;refine AA (P:=fun W=>AM W xb rb b D st/\Bx W w.heap.size 118 [.string ⟨#[]⟩,.string ⟨#[]⟩,.string ⟨#[]⟩,.int .i64 0,.slice none 0 0,.int .i64 0,.int .i64 0]/\Fx (X2 xb rb) w W) ⟨H.out.alloc _,Bx.new _ _ _,(Fx.refl _ _).alloc _⟩ ?_;rintro W ⟨z,x,y⟩;refine(DE W z).mono ?_;rintro e C ⟨rfl,m,d⟩;have k:=zz m;have g:=zz (x.fx d (u.out _ (Nat.le_refl _)));have c:=zz (y.trans d);clear z x y m d H;go_wp2_with fail;refine(Js C k.out).mono ?_;rintro e R ⟨v,rfl,B,q,f⟩;have s:=zz q;have t:=zz (B.mono (by have:=c.out.size;omega:w.heap.size+1<=C.heap.size+1));have a:=g.out.fx f (u.out _ (Nat.le_refl _));have r:=zz (c.out.trans f);have E:=a.cell 0;have F:=a.cell 1;have G:=a.cell 2;have I:=a.cell 3;have J:=a.cell 4;have K:=a.cell 5;have L:=a.cell 6;simp only[List.getElem?_cons_zero,List.getElem?_cons_succ]at E F G I J K L;have S:=a.frozen 0;have T:=a.frozen 1;have U:=a.frozen 2;have V:=a.frozen 3;have X:=a.frozen 4;have Y:=a.frozen 5;have Z:=a.frozen 6;have N:=a.lt;have j:=zz a;clear B q f k g c a;go_wp2;have l:=j.out.setL (i:=0) (us:=[.string ⟨st.name.1.1.toArray⟩,.string v.o,.string v.nm,.int .i64 v.n,.slice v.A v.ll v.cap,.int .i64 v.p,.int .i64 ((st.name.1.2:Nat):Int)]);simp only[setL,Bg,List.set_cons_zero,List.set_cons_succ]at l;refine bodyPost_ret (v:=.agg #[.string ⟨st.name.1.1.toArray⟩,.string v.o,.string v.nm,.int .i64 v.n,.slice v.A v.ll v.cap,.int .i64 v.p,.int .i64 ((st.name.1.2:Nat):Int)]) (by simp[results,Tryz.results80,go_sem,l.cell]) rfl ⟨v,rfl,?_,?_,?_⟩
 · exact XO.setL (i:=0) (us:=[.string ⟨st.name.1.1.toArray⟩,.string v.o,.string v.nm,.int .i64 v.n,.slice v.A v.ll v.cap,.int .i64 v.p,.int .i64 ((st.name.1.2:Nat):Int)]) t.out (by omega)
 · exact AM.setL (i:=0) (us:=[.string ⟨st.name.1.1.toArray⟩,.string v.o,.string v.nm,.int .i64 v.n,.slice v.A v.ll v.cap,.int .i64 v.p,.int .i64 ((st.name.1.2:Nat):Int)]) (by unfold EH;decide) (by omega) s.out j.out
 · exact Fx.setL (i:=0) (us:=[.string ⟨st.name.1.1.toArray⟩,.string v.o,.string v.nm,.int .i64 v.n,.slice v.A v.ll v.cap,.int .i64 v.p,.int .i64 ((st.name.1.2:Nat):Int)]) (.inl (Nat.le_refl _)) r.out
theorem MR(w:World)(h:AM w xb rb b D st):Calls Tryz.prog 81 #[.pointer (some ⟨xb,0,none⟩)] w (YU xb rb b D (st.labl D) w):=by
 have Q:=h.ltx;have O:=h.hr;have u:=zz h.nx;have M:=h.ble;have H:=zz h;clear h;go_enter Tryz.func81,Tryz.ntmps81;go_wp2_with fail;refine AA (P:=fun W=>AM W xb rb b D st/\Bx W w.heap.size 118 [.string ⟨#[]⟩,.string ⟨#[]⟩,.string ⟨#[]⟩,.int .i64 0,.slice none 0 0,.int .i64 0,.int .i64 0]/\Fx (X2 xb rb) w W) ⟨H.out.alloc _,Bx.new _ _ _,(Fx.refl _ _).alloc _⟩ ?_;rintro W ⟨z,x,y⟩;refine(Ol W z).mono ?_;rintro e C ⟨rfl,m,d⟩;have k:=zz m;have g:=zz (x.fx d (u.out _ (Nat.le_refl _)));have c:=zz (y.trans d);clear z x y m d H;go_wp2_with fail;refine(Js C k.out).mono ?_;rintro e R ⟨v,rfl,B,q,f⟩;have s:=zz q;have t:=zz (B.mono (by have:=c.out.size;omega:w.heap.size+1<=C.heap.size+1));have a:=g.out.fx f (u.out _ (Nat.le_refl _));have r:=zz (c.out.trans f);have E:=a.cell 0;have F:=a.cell 1;have G:=a.cell 2;have I:=a.cell 3;have J:=a.cell 4;have K:=a.cell 5;have L:=a.cell 6;simp only[List.getElem?_cons_zero,List.getElem?_cons_succ]at E F G I J K L;have S:=a.frozen 0;have T:=a.frozen 1;have U:=a.frozen 2;have V:=a.frozen 3;have X:=a.frozen 4;have Y:=a.frozen 5;have Z:=a.frozen 6;have N:=a.lt;have j:=zz a;clear B q f k g c a;go_wp2;have l:=j.out.setL (i:=0) (us:=[.string ⟨st.text.1.1.toArray⟩,.string v.o,.string v.nm,.int .i64 v.n,.slice v.A v.ll v.cap,.int .i64 v.p,.int .i64 ((st.text.1.2:Nat):Int)]);simp only[setL,Bg,List.set_cons_zero,List.set_cons_succ]at l;refine bodyPost_ret (v:=.agg #[.string ⟨st.text.1.1.toArray⟩,.string v.o,.string v.nm,.int .i64 v.n,.slice v.A v.ll v.cap,.int .i64 v.p,.int .i64 ((st.text.1.2:Nat):Int)]) (by simp[results,Tryz.results81,go_sem,l.cell]) rfl ⟨v,rfl,?_,?_,?_⟩
 · exact XO.setL (i:=0) (us:=[.string ⟨st.text.1.1.toArray⟩,.string v.o,.string v.nm,.int .i64 v.n,.slice v.A v.ll v.cap,.int .i64 v.p,.int .i64 ((st.text.1.2:Nat):Int)]) t.out (by omega)
 · exact AM.setL (i:=0) (us:=[.string ⟨st.text.1.1.toArray⟩,.string v.o,.string v.nm,.int .i64 v.n,.slice v.A v.ll v.cap,.int .i64 v.p,.int .i64 ((st.text.1.2:Nat):Int)]) (by unfold EH;decide) (by omega) s.out j.out
 · exact Fx.setL (i:=0) (us:=[.string ⟨st.text.1.1.toArray⟩,.string v.o,.string v.nm,.int .i64 v.n,.slice v.A v.ll v.cap,.int .i64 v.p,.int .i64 ((st.text.1.2:Nat):Int)]) (.inl (Nat.le_refl _)) r.out
def Yp(xb rb b D:Nat)(r:(Option Ex×Option Ex)×St)(w:World)(e:Ending)(w':World):Prop:=
 ∃v u:XV,e= .returned (.tuple #[.agg #[.string v.o,.string v.nm,.int .i64 v.n,.slice v.A v.ll v.cap,.int .i64 v.p],.agg #[.string u.o,.string u.nm,.int .i64 u.n,.slice u.A u.ll u.cap,.int .i64 u.p]])/\XO w' (w.heap.size+1) r.1.1 v.c/\XO w' (w.heap.size+1) r.1.2 u.c/\AM w' xb rb b D r.2/\Fx (X2 xb rb) w w'
theorem IG(w:World)(h:AM w xb rb b D st):Calls Tryz.prog 126 #[.pointer (some ⟨xb,0,none⟩)] w (Yp xb rb b D (st.bnds D) w):=by
 have hx:=h.ltx;have s:=h.hr;have d:=zz h.nx;have au:=h.ble;have H:=zz h;clear h;go_enter Tryz.func126,Tryz.ntmps126;go_wp2_with fail;refine AA (P:=fun W=>AM W xb rb b D st/\Ai W w.heap.size (.string ⟨#[]⟩) (.string ⟨#[]⟩) (.int .i64 0) (.slice none 0 0) (.int .i64 0)/\Ai W (w.heap.size+1) (.string ⟨#[]⟩) (.string ⟨#[]⟩) (.int .i64 0) (.slice none 0 0) (.int .i64 0)/\Fx (X2 xb rb) w W) ⟨(H.out.alloc _).alloc _,(Ai.new _ _ _ _ _ _).alloc _,Cc (by simp) _,((Fx.refl _ _).alloc _).alloc _⟩ ?_;rintro W ⟨z,t,x,y⟩;refine(AT W z _).mono ?_;rintro e w1 ⟨rfl,ah,m⟩;have Z:=zz (show AM w1 xb rb b D (st.want [91])from ah);have L:=zz (t.fxb m (d.out _ (Nat.le_refl _)));have B:=zz (x.fxb m (d.out _ (by omega)));have U:=zz (y.trans m);have az:=B.out.lt;clear z t x y ah m H;go_wp2_with fail;refine(DF w1 Z.out).mono ?_;rintro e K ⟨v,rfl,l,ai,r⟩;have aa:=zz (show AM K xb rb b D (st.low D).2 from ai);have ae:=zz (show XO K (w.heap.size+2) (st.low D).1 v.c from l.mono (by omega));have M:=zz (L.out.fxb r (d.out _ (Nat.le_refl _)));have C:=zz (B.out.fxb r (d.out _ (by omega)));have V:=zz (U.out.trans r);have aA:=C.out.lt;clear l ai r Z L B U;go_wp2_with fail;refine AA (P:=fun W=>AM W xb rb b D (st.low D).2/\Ai W w.heap.size (.string ⟨#[]⟩) (.string ⟨#[]⟩) (.int .i64 0) (.slice none 0 0) (.int .i64 0)/\Ai W (w.heap.size+1) (.string ⟨#[]⟩) (.string ⟨#[]⟩) (.int .i64 0) (.slice none 0 0) (.int .i64 0)/\Ai W K.heap.size (.string v.o) (.string v.nm) (.int .i64 v.n) (.slice v.A v.ll v.cap) (.int .i64 v.p)/\XO W (w.heap.size+2) (st.low D).1 v.c/\Fx (X2 xb rb) w W) ⟨aa.out.alloc _,M.out.alloc _,C.out.alloc _,Ai.new _ _ _ _ _ _,ae.out.alloc _,V.out.alloc _⟩ ?_;rintro W ⟨z,t,x,hE,l,y⟩;refine(AT W z _).mono ?_;rintro e w3 ⟨rfl,aj,f⟩;have ab:=zz (show AM w3 xb rb b D ((st.low D).2.want [46,46])from aj);have N:=zz (t.fxb f (d.out _ (Nat.le_refl _)));have R:=zz (x.fxb f (d.out _ (by omega)));have E:=zz (hE.fxb f (d.out _ (by omega)));have af:=zz (l.fx f (fun k J=>by have:=BN J hx s;omega));have X:=zz (y.trans f);have aB:=E.out.lt;clear z t x hE l y aj f aa M C ae V;go_wp2_with fail;refine(DF w3 ab.out).mono ?_;rintro e w4 ⟨u,rfl,l,ak,g⟩;have ac:=zz (show AM w4 xb rb b D (st.high D).2 from ak);have ad:=zz (show XO w4 (w.heap.size+2) (st.high D).1 u.c from l.mono (by omega));have ag:=zz (af.out.fx g (fun k J=>by have:=BN J hx s;omega));have O:=zz (N.out.fxb g (d.out _ (Nat.le_refl _)));have S:=zz (R.out.fxb g (d.out _ (by omega)));have F:=zz (E.out.fxb g (d.out _ (by omega)));have Y:=zz (X.out.trans g);have aC:=F.out.lt;clear l ak g ab N R E af X;go_wp2_with fail;refine AA (P:=fun W=>AM W xb rb b D (st.high D).2/\Ai W w.heap.size (.string ⟨#[]⟩) (.string ⟨#[]⟩) (.int .i64 0) (.slice none 0 0) (.int .i64 0)/\Ai W (w.heap.size+1) (.string ⟨#[]⟩) (.string ⟨#[]⟩) (.int .i64 0) (.slice none 0 0) (.int .i64 0)/\Ai W K.heap.size (.string v.o) (.string v.nm) (.int .i64 v.n) (.slice v.A v.ll v.cap) (.int .i64 v.p)/\Ai W w4.heap.size (.string u.o) (.string u.nm) (.int .i64 u.n) (.slice u.A u.ll u.cap) (.int .i64 u.p)/\XO W (w.heap.size+2) (st.low D).1 v.c/\XO W (w.heap.size+2) (st.high D).1 u.c/\Fx (X2 xb rb) w W) ⟨ac.out.alloc _,O.out.alloc _,S.out.alloc _,F.out.alloc _,Ai.new _ _ _ _ _ _,ag.out.alloc _,ad.out.alloc _,Y.out.alloc _⟩ ?_;rintro W ⟨z,t,x,hE,hG,l,hU,y⟩;refine(AT W z _).mono ?_;rintro e w5 ⟨rfl,al,a⟩;have an:=zz (show AM w5 xb rb b D ((st.high D).2.want [93])from al);have i:=t.fxb a (d.out _ (Nat.le_refl _));have j:=x.fxb a (d.out _ (by omega));have G:=hE.fxb a (d.out _ (by omega));have I:=hG.fxb a (d.out _ (by omega));have ap:=zz (l.fx a (fun k J=>by have:=BN J hx s;omega));have ao:=zz (hU.fx a (fun k J=>by have:=BN J hx s;omega));have am:=zz (y.trans a);obtain⟨a0,a1,a2,a3,a4⟩:=i.cells;obtain⟨y0,y1,y2,y3,y4⟩:=i.frozen;obtain⟨c0,c1,c2,c3,c4⟩:=j.cells;obtain⟨z0,z1,z2,z3,z4⟩:=j.frozen;obtain⟨d0,d1,d2,d3,d4⟩:=G.cells;obtain⟨k0,k1,k2,k3,k4⟩:=I.cells;have av:=i.lt;have aw:=j.lt;have ax:=G.lt;have ay:=I.lt;have Q:=zz i;have T:=zz j;clear z t x hE hG l hU y al a i j G I ac O S F ag ad Y;have e1:w.heap.size≠w4.heap.size:=(by omega);have e2:w.heap.size≠K.heap.size:=(by omega);have e3:w.heap.size+1≠w4.heap.size:=(by omega);have e4:w.heap.size+1≠K.heap.size:=(by omega);go_wp2_with fail
 go_region
 go_wp2_with fail;have aq:=(Q.out.set5 (.string v.o) (.string v.nm) (.int .i64 v.n) (.slice v.A v.ll v.cap) (.int .i64 v.p)).far5 (b':=w.heap.size+1) (by omega) (.string u.o) (.string u.nm) (.int .i64 u.n) (.slice u.A u.ll u.cap) (.int .i64 u.p);have ar:=(T.out.far5 (b':=w.heap.size) (by omega) (.string v.o) (.string v.nm) (.int .i64 v.n) (.slice v.A v.ll v.cap) (.int .i64 v.p)).set5 (.string u.o) (.string u.nm) (.int .i64 u.n) (.slice u.A u.ll u.cap) (.int .i64 u.p);obtain⟨m0,m1,m2,m3,m4⟩:=aq.cells;obtain⟨p0,p1,p2,p3,p4⟩:=ar.cells;refine bodyPost_ret (v:=.tuple #[.agg #[.string v.o,.string v.nm,.int .i64 v.n,.slice v.A v.ll v.cap,.int .i64 v.p],.agg #[.string u.o,.string u.nm,.int .i64 u.n,.slice u.A u.ll u.cap,.int .i64 u.p]]) (by simp[results,Tryz.results126,go_sem,m0,m1,m2,m3,m4,p0,p1,p2,p3,p4]) rfl ⟨v,u,rfl,?_,?_,?_,?_⟩
 · exact(((ap.out.set5 (q:=w.heap.size) (by omega) (.string v.o) (.string v.nm) (.int .i64 v.n) (.slice v.A v.ll v.cap) (.int .i64 v.p)).set5 (q:=w.heap.size+1) (by omega) (.string u.o) (.string u.nm) (.int .i64 u.n) (.slice u.A u.ll u.cap) (.int .i64 u.p)).mono (by omega)).below (Below.refl _ _).drew
 · exact(((ao.out.set5 (q:=w.heap.size) (by omega) (.string v.o) (.string v.nm) (.int .i64 v.n) (.slice v.A v.ll v.cap) (.int .i64 v.p)).set5 (q:=w.heap.size+1) (by omega) (.string u.o) (.string u.nm) (.int .i64 u.n) (.slice u.A u.ll u.cap) (.int .i64 u.p)).mono (by omega)).below (Below.refl _ _).drew
 · exact((an.out.set5 Q.out (by omega) (.string v.o) (.string v.nm) (.int .i64 v.n) (.slice v.A v.ll v.cap) (.int .i64 v.p)).set5 (T.out.far5 (b':=w.heap.size) (by omega) (.string v.o) (.string v.nm) (.int .i64 v.n) (.slice v.A v.ll v.cap) (.int .i64 v.p)) (by omega) (.string u.o) (.string u.nm) (.int .i64 u.n) (.slice u.A u.ll u.cap) (.int .i64 u.p)).drew
 · exact((am.out.set5 (q:=w.heap.size) (Nat.le_refl _) (.string v.o) (.string v.nm) (.int .i64 v.n) (.slice v.A v.ll v.cap) (.int .i64 v.p)).set5 (q:=w.heap.size+1) (by omega) (.string u.o) (.string u.nm) (.int .i64 u.n) (.slice u.A u.ll u.cap) (.int .i64 u.p)).drew
end
end
section
open Go.RowKit
section
variable {xb rb b D:Nat} {st:St}
theorem J1(w:World)(h:AM w xb rb b D st):Calls Tryz.prog 148 #[.pointer (some ⟨xb,0,none⟩)] w (YU xb rb b D (st.sett D) w):=by
 have hx:=h.ltx;have ad:=h.hr;have j:=zz h.nx;have ae:=h.ble;have H:=zz h;clear h;go_enter Tryz.func148,Tryz.ntmps148;go_wp2_with fail;refine AA (P:=fun W=>AM W xb rb b D st/\Bx W w.heap.size 115 [.string ⟨#[]⟩,.string ⟨#[]⟩,.string ⟨#[]⟩,.int .i64 0,.slice none 0 0,.int .i64 0,.int .i64 0]/\Fx (X2 xb rb) w W) ⟨H.out.alloc _,Bx.new _ _ _,(Fx.refl _ _).alloc _⟩ ?_;rintro W ⟨S,O,R⟩;refine(AT W S _).mono ?_;rintro e w1 ⟨rfl,T,m⟩;have I:=zz (show AM w1 xb rb b D (st.want [40])from T);have u:=zz (O.fx m (j.out _ (Nat.le_refl _)));have C:=zz (R.trans m);clear S O R T m H;go_wp2_with fail;refine(DE w1 I.out).mono ?_;rintro e w2 ⟨rfl,U,q⟩;have J:=zz U;have x:=zz (u.out.fx q (j.out _ (Nat.le_refl _)));have E:=zz (C.out.trans q);clear U q I u C;go_wp2_with fail;refine(AT w2 J.out _).mono ?_;rintro e w3 ⟨rfl,V,r⟩;have K:=zz (show AM w3 xb rb b D ((st.want [40]).name.2.want [39])from V);have y:=zz (x.out.fx r (j.out _ (Nat.le_refl _)));have F:=zz (E.out.trans r);clear V r J x E;go_wp2_with fail;refine(AT w3 K.out _).mono ?_;rintro e w4 ⟨rfl,X,s⟩;have L:=zz (show AM w4 xb rb b D (((st.want [40]).name.2.want [39]).want [61])from X);have z:=zz (y.out.fx s (j.out _ (Nat.le_refl _)));have g:=zz (F.out.trans s);clear X s K y F;go_wp2_with fail;refine(DF w4 L.out).mono ?_;rintro e w5 ⟨v,rfl,hX,Y,t⟩;have M:=zz Y;have N:=zz (hX.mono (by have:=g.out.size;omega:w.heap.size+1<=w4.heap.size+1));have f:=zz (z.out.fx t (j.out _ (Nat.le_refl _)));have G:=zz (g.out.trans t);have ah:=f.out.lt;clear hX Y t L z g;go_wp2_with fail;refine AA (P:=fun W=>AM W xb rb b D ((((st.want [40]).name.2.want [39]).want [61]).expr D).2/\Bx W w.heap.size 115 [.string ⟨#[]⟩,.string ⟨#[]⟩,.string ⟨#[]⟩,.int .i64 0,.slice none 0 0,.int .i64 0,.int .i64 0]/\Ai W w5.heap.size (.string v.o) (.string v.nm) (.int .i64 v.n) (.slice v.A v.ll v.cap) (.int .i64 v.p)/\XO W (w.heap.size+1) ((((st.want [40]).name.2.want [39]).want [61]).expr D).1 v.c/\Fx (X2 xb rb) w W) ⟨M.out.alloc _,f.out.alloc _,Ai.new _ _ _ _ _ _,N.out.alloc _,G.out.alloc _⟩ ?_;rintro W ⟨S,O,hE,hX,R⟩;refine(AT W S _).mono ?_;rintro e w6 ⟨rfl,Z,d⟩;have ab:=zz (show AM w6 xb rb b D (st.sett D).2 from Z);have a:=O.fx d (j.out _ (Nat.le_refl _));have l:=hE.fxb d (j.out _ (by omega));have ac:=zz (hX.fx d (fun k hk=>by have:=BN hk hx ad;omega));have aa:=zz (R.trans d);obtain⟨d0,d1,d2,d3,d4⟩:=l.cells;have a0:=a.cell 0;have a1:=a.cell 1;have a2:=a.cell 2;have a3:=a.cell 3;have a4:=a.cell 4;have a5:=a.cell 5;have a6:=a.cell 6;simp only[List.getElem?_cons_zero,List.getElem?_cons_succ]at a0 a1 a2 a3 a4 a5 a6;have y0:=a.frozen 0;have y1:=a.frozen 1;have y2:=a.frozen 2;have y3:=a.frozen 3;have y4:=a.frozen 4;have y5:=a.frozen 5;have y6:=a.frozen 6;have af:=a.lt;have ag:=l.lt;have B:=zz a;clear S O hE hX R Z d a l M f N G;go_wp2;have Q:=B.out.setL (i:=0) (us:=[.string ⟨(st.want [40]).name.1.1.toArray⟩,.string v.o,.string v.nm,.int .i64 v.n,.slice v.A v.ll v.cap,.int .i64 v.p,.int .i64 (((st.want [40]).name.1.2:Nat):Int)]);simp only[setL,Bg,List.set_cons_zero,List.set_cons_succ]at Q;refine bodyPost_ret (v:=.agg #[.string ⟨(st.want [40]).name.1.1.toArray⟩,.string v.o,.string v.nm,.int .i64 v.n,.slice v.A v.ll v.cap,.int .i64 v.p,.int .i64 (((st.want [40]).name.1.2:Nat):Int)]) (by simp[results,Tryz.results148,go_sem,Q.cell]) rfl ⟨v,rfl,?_,?_,?_⟩
 · exact XO.setL (i:=0) (us:=[.string ⟨(st.want [40]).name.1.1.toArray⟩,.string v.o,.string v.nm,.int .i64 v.n,.slice v.A v.ll v.cap,.int .i64 v.p,.int .i64 (((st.want [40]).name.1.2:Nat):Int)]) ac.out (by omega)
 · exact AM.setL (i:=0) (us:=[.string ⟨(st.want [40]).name.1.1.toArray⟩,.string v.o,.string v.nm,.int .i64 v.n,.slice v.A v.ll v.cap,.int .i64 v.p,.int .i64 (((st.want [40]).name.1.2:Nat):Int)]) (by unfold EH;decide) (by omega) ab.out B.out
 · exact Fx.setL (i:=0) (us:=[.string ⟨(st.want [40]).name.1.1.toArray⟩,.string v.o,.string v.nm,.int .i64 v.n,.slice v.A v.ll v.cap,.int .i64 v.p,.int .i64 (((st.want [40]).name.1.2:Nat):Int)]) (.inl (Nat.le_refl _)) aa.out
theorem AM.number_yes{w:World}(h:AM w xb rb b D st)(hk:st.hd.kind=2):Calls Tryz.prog 161 #[.pointer (st.ptr rb)] w fun e w'=>e= .returned (.tuple #[.int .i64 (AX st.hd.text),.nilIface])/\AM w' xb rb b D st.tl/\Fx (X2 xb rb) w w':=by have c:st.hd.kind≠0:=(by omega);obtain⟨p,rfl⟩:=IU c;have a:TR w rb p:=h.tr;obtain⟨q,k,d,f,g⟩:=a.get;obtain⟨m,n,o⟩:=a.fine.numb hk;exact(Go.Proofs.YtodijgndbjfbgaaGreatDoor.number_yes h.glob f g hk (Kn a d c) a.fine.len m n o).mono fun _ _ ⟨j,i,l⟩=>⟨j,h.on d c i l⟩
theorem AM.number_no{w:World}(h:AM w xb rb b D st)(hk:st.hd.kind≠2):Calls Tryz.prog 161 #[.pointer (st.ptr rb)] w fun e w'=>∃t u,e= .returned (.tuple #[.int .i64 0,.iface t u])/\Below w.heap.size w w':=by
 cases st with
 | bad c p=>exact(M7 w).mono fun _ _ ⟨a,d⟩=>⟨_,_,a,d⟩
 | good g=>exact(Go.Proofs.YtodijgndbjfbgaaGreatDoor.number_no h.peeks hk).mono fun _ _ ⟨f,a,_,_,d⟩=>⟨_,_,a,d⟩
def Y7(xb rb b D:Nat)(r:Nat×St)(w:World)(e:Ending)(w':World):Prop:=e= .returned (.int .i64 ((r.1:Nat):Int))/\AM w' xb rb b D r.2/\Fx (X2 xb rb) w w'
theorem LD(w:World)(h:AM w xb rb b D st):Calls Tryz.prog 146 #[.pointer (some ⟨xb,0,none⟩)] w (Y7 xb rb b D st.wght w):=by
 have N:=h.ltx;have c0:=h.c0;have H:=zz h;have r:=zz h.peek;have G:=Df;have I:=C7;have J:=C8;by_cases j:st.hd.kind=2
 · have i:=zz (fun(W:World) (A:AM W xb rb b D st)=>A.number_yes j);have z:st.hd.kind≠0:=(by omega);by_cases n:AX st.hd.text=0
   · have F:(((AX st.hd.text:Nat):Int)==0)=true:=(by rw[n];rfl);obtain⟨K,m⟩:=IU z;have E:=zz m;rw[show st.wght=(AX st.hd.text,.bad 33 st.hd.pos) by simp[St.wght,j,n]];clear h j z n m;go_enter Tryz.func146,Tryz.ntmps146;go_wp2_with fail;(with_reducible refine(r.out).mono ?_);rintro e C ⟨rfl,a⟩
     have B:=(H.out.below a).c0;have o:=(H.out.below a).ltx;have g:=zz a;clear a;go_wp2_with fail;refine(i.out _ (H.out.below g.out)).mono ?_;rintro e q ⟨rfl,f,d⟩;have x:=zz (show AM q xb rb b D (.good K.tail) by have:=f;rw[E.out]at this;exact this);have s:=zz d;clear f d;go_wp2_with fail;refine(FM (c:=33) (p:=st.hd.pos) _ (x.out.alloc _).mr0 (EC.new rfl _ _)).mono ?_;rintro e L ⟨rfl,f,d⟩;have y:=zz f;have v:=zz d;clear f d;go_wp2_with fail;refine(AT L y.out _).mono ?_;rintro e M ⟨rfl,f,d⟩;go_wp2;go_ret;exact⟨rfl,f,((((Fx.of g.out).trans s.out).alloc _).trans v.out).trans d⟩
   · have F:(((AX st.hd.text:Nat):Int)==0)=false:=(by rw[beq_eq_false_iff_ne];omega);rw[show st.wght=(AX st.hd.text,st.tl.want [58]) by simp[St.wght,j,n]];clear h j z n;go_enter Tryz.func146,Tryz.ntmps146;go_wp2_with fail;(with_reducible refine(r.out).mono ?_);rintro e C ⟨rfl,a⟩
     have B:=(H.out.below a).c0;have o:=(H.out.below a).ltx;have g:=zz a;clear a;go_wp2_with fail;refine(i.out _ (H.out.below g.out)).mono ?_;rintro e q ⟨rfl,f,d⟩;have x:=zz f;have s:=zz d;clear f d;go_wp2_with fail;refine(AT q x.out _).mono ?_;rintro e M ⟨rfl,f,d⟩;go_wp2;go_ret;exact⟨rfl,f,((Fx.of g.out).trans s.out).trans d⟩
 · have i:=zz (fun(W:World) (A:AM W xb rb b D st)=>A.number_no j);rw[show st.wght=(1,st) by simp[St.wght,j]];clear h j;go_enter Tryz.func146,Tryz.ntmps146;go_wp2_with fail;(with_reducible refine(r.out).mono ?_);rintro e C ⟨rfl,a⟩
   have B:=(H.out.below a).c0;have o:=(H.out.below a).ltx;have g:=zz a;clear a;go_wp2_with fail;refine(i.out _ (H.out.below g.out)).mono ?_;rintro e q ⟨t,u,rfl,l⟩;have k:=zz l;clear l;go_wp2;go_ret;exact⟨rfl,(H.out.below g.out).below k.out,(Fx.of g.out).on k.out⟩
end
end
end
end Go.Proofs.YtodijgndbjfbgaaGreatDoor
