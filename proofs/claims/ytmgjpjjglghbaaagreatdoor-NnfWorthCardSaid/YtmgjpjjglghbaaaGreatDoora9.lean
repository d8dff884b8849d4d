import Derived.Test.YtmgjpjjglghbaaaGreatDoora6
import Derived.Test.YtmgjpjjglghbaaaGreatDoora5
import Derived.Test.YtmgjpjjglghbaaaGreatDoora2
namespace Go.Proofs.YtmgjpjjglghbaaaGreatDoor
set_option maxHeartbeats 16000000
set_option maxRecDepth 100000
section
section
open Go.RowKit
structure Fr(B rb:Nat)(w w':World):Prop where
 os:w'.os=w.os
 tape:w'.tape=w.tape
 output:w'.output=w.output
 size:w.heap.size<=w'.heap.size
 block:∀k,k<B->k≠rb->w'.heap[k]?=w.heap[k]?
section
variable {B B' rb:Nat} {a b c w w':World}
theorem Fr.ofGrown(h:w.grownBy w' (some rb)):Fr w.heap.size rb w w':=⟨h.os,h.tape,h.output,h.size,fun k hk hn=>h.block k hk (fun e=>hn (by injection e))⟩
end
def Arr(w:World)(e:TypeId)(S:Nat->Prop)(g:Nat)(xs:List Value):Prop:=
 S g/\∃cs:Array Value,w.heap[g]?=some (.cells cs e (0,0))/\∀(j:Nat) (u:Value),xs[j]?=some u->cs[j]?=some u
def HS(w:World)(e:TypeId)(S:Nat->Prop):Ex->List Value->Prop
 | .leaf op nm n p,c=>c=[strV op,strV nm,.int .i64 (n:Int),.slice none 0 0,.int .i64 (p:Int)]
 | .un op a p,c=>∃g cap ca,c=[strV op,strV [],.int .i64 0,.slice (some ⟨g,0,none⟩) 1 cap,.int .i64 (p:Int)]/\Arr w e S g ca/\HS w e S a ca
 | .bin op a b p,c=>∃g cap ca cb,c=[strV op,strV [],.int .i64 0,.slice (some ⟨g,0,none⟩) 2 cap,.int .i64 (p:Int)]/\Arr w e S g (ca++cb)/\HS w e S a ca/\HS w e S b cb
 | .cond a b d p,c=>∃g cap ca cb cd,c=[strV [63],strV [],.int .i64 0,.slice (some ⟨g,0,none⟩) 3 cap,.int .i64 (p:Int)]/\Arr w e S g (ca++(cb++cd))/\HS w e S a ca/\HS w e S b cb/\HS w e S d cd
def Rg(b0 b1 k:Nat):Prop:=b0<=k/\k<b1
abbrev HC(w:World)(e:TypeId)(b0 b1:Nat)(x:Ex)(c:List Value):Prop:=HS w e (Rg b0 b1) x c
section
variable {w w':World} {e:TypeId} {S T:Nat->Prop} {b0 b1 d0 d1:Nat} {xs:List Value}
theorem blk_lt{w:World}{b:Nat}{o:Obj}(h:w.heap[b]?=some o):b<w.heap.size:=by
 rcases Nat.lt_or_ge b w.heap.size with hlt | hge
 · exact hlt
 · rw[Array.getElem?_eq_none hge]at h;cases h
theorem Arr.mono{g:Nat}(h:Arr w e S g xs)(hb:∀k,k<w.heap.size->S k->T k):Arr w e T g xs:=by
 obtain⟨h2,cs,h3,h4⟩:=h
 exact⟨hb _ (blk_lt h3) h2,cs,h3,h4⟩
theorem Arr.cell{g:Nat}(h:Arr w e S g xs){j:Nat}{u:Value}(hu:xs[j]?=some u):w.cell? ⟨g,j,none⟩=some u:=by
 obtain⟨h2,cs,h3,h4⟩:=h
 rw[rd_cell h3];exact h4 j u hu
end
section
variable {w w':World} {xb rb lv:Nat} {us:List Tok}
theorem RD.set{ts:List Tok}{k b i:Nat}(h:RD w rb ts k){cs:Array Value}{e:TypeId}(hb:w.heap[b]?=some (.cells cs e (0,0)))(h1:e≠150)(h2:e≠152)(u:Value):RD (w.setCell ⟨b,i,none⟩ u) rb ts k:=by
 obtain⟨g,cap,q1,q2,q3,q4⟩:=h
 have hrb:rb≠b:=by
  rintro rfl
  rw[q1]at hb
  injection hb with hb
  injection hb with _ hb
  exact h1 hb.symm
 have hg:g≠b:=by
  rintro rfl
  rcases q2.2 with⟨hx,_⟩ | ⟨g',_,cur,hx,_,hh,_⟩
  · cases hx
  · injection hx with hx
    injection hx with hx
    injection hx with hx
    subst hx
    rw[hb]at hh
    injection hh with hh
    injection hh with _ hh
    exact h2 hh
 have hgr:w.grownBy (w.setCell ⟨b,i,none⟩ u) (some b):=⟨rfl,rfl,rfl,by simp,fun k _ hn=>Below.heap_setCell w ⟨b,i,none⟩ u k (fun e=>hn (by rw[e]))⟩
 refine⟨g,cap,(Below.heap_setCell w ⟨b,i,none⟩ u rb hrb).trans q1,q2.kept hgr (.inr ?_),q3,q4⟩
 intro e
 exact hg (by simpa[Value.ownBlock]using e)
theorem glob_keep(h:GlobS w)(h0:w'.heap[0]?=w.heap[0]?)(h1:w'.heap[2]?=w.heap[2]?):GlobS w':=by
 refine⟨⟨(World.cell?_of_block (w:=w) h0).trans h.glob.err⟩,?_⟩
 obtain⟨te,pe,he⟩:=h.rng
 exact⟨te,pe,(World.cell?_of_block (w:=w) h1).trans he⟩
end
section
variable {w w':World} {b:Nat} {c0 c1 c2 c3 c4:Value}
theorem blk_set{w:World}{b i:Nat}{cs:Array Value}{e:TypeId}(h:w.heap[b]?=some (.cells cs e (0,0)))(u:Value):(w.setCell ⟨b,i,none⟩ u).heap[b]?=some (.cells (cs.setIfInBounds i u) e (0,0)):=by
 simp[World.setCell,Array.getElem?_modify,h]
end
theorem calls_gen{P:World->Prop}{f:FuncId}{args:Array Value}{W:World}{Q:Ending->World->Prop}(h:P W)(k:∀W,P W->Calls Tryz.prog f args W Q):Calls Tryz.prog f args W Q:=k W h
end
section
open Go.RowKit
theorem AtE.keep{w w':World}{b:Nat}{p n:Int}(h:AtE w b p n)(hk:w'.heap[b]?=w.heap[b]?):AtE w' b p n:=
 ⟨(World.cell?_of_block (w:=w) hk).trans h.pos,(World.cell?_of_block (w:=w) hk).trans h.err,h.typ.imp fun _ q=>hk.trans q⟩
end
end
section
section
open Go.RowKit
theorem AtE.far{w:World}{b:Nat}{p n:Int}(h:AtE w b p n){a:Addr}(ha:b≠a.block)(u:Value):AtE (w.setCell a u) b p n:=h.keep (Below.heap_setCell w a u b ha)
theorem AtE.new{w:World}{b:Nat}(hb:b=w.heap.size)(p n:Int):AtE (w.alloc (.cells #[.int .i64 p,.iface 78 (.int .i64 n)] 192)) b p n:=by
 subst hb
 have h:=heap_alloc_new w (.cells #[.int .i64 p,.iface 78 (.int .i64 n)] 192)
 exact⟨(rd_cell h 0).trans rfl,(rd_cell h 1).trans rfl,⟨_,h⟩⟩
end
section
open Go.RowKit
theorem heap_new_at{w:World}{k:Nat}(hk:k=w.heap.size)(o:Obj):(w.alloc o).heap[k]?=some o:=by subst hk;exact heap_alloc_new w o
end
end
end Go.Proofs.YtmgjpjjglghbaaaGreatDoor
