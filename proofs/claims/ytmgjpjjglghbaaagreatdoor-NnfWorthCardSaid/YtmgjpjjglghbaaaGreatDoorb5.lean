import Derived.Test.YtmgjpjjglghbaaaGreatDoorb0
namespace Go.Proofs.YtmgjpjjglghbaaaGreatDoor
set_option maxHeartbeats 16000000
set_option maxRecDepth 100000
section
def unt(A B:Nat->Prop)(i:Nat):Prop:=∃k,i<=k/\B k/\∀j,i<=j->j<k->A j
def wnt(A B:Nat->Prop)(i:Nat):Prop:=unt A B i∨∀k,i<=k->A k
def sem(L:List UInt8->Nat->Prop):Fo->Nat->Prop
 | .leaf op nm _,i=>if op=opTrue then True else if op=opLab then L nm i else False
 | .un op a _,i=>
   if op=[33]then ¬sem L a i else if op=[88]then sem L a (i+1)
   else if op=[70]then unt (fun _=>True) (sem L a) i else if op=[71]then wnt (sem L a) (fun _=>False) i else False
 | .bin op a b _,i=>
   if op=[61,62]then(sem L a i->sem L b i)else if op=[124]then(sem L a i∨sem L b i)else if op=[38]then(sem L a i/\sem L b i)
   else if op=[85]then unt (sem L a) (sem L b) i else if op=[82]then wnt (sem L b) (fun k=>sem L a k/\sem L b k) i
   else if op=[87]then wnt (sem L a) (sem L b) i else False
section
variable {A B A' B':Nat->Prop} {i p a:Nat}
theorem unt_now:unt A B i↔B i∨A i/\unt A B (i+1):=by
 constructor
 · rintro⟨k,h1,h2,h3⟩
   by_cases hk:k=i
   · subst hk;exact .inl h2
   · exact .inr ⟨h3 i (Nat.le_refl _) (by omega),k,by omega,h2,fun j h4 h5=>h3 j (by omega) h5⟩
 · rintro(h | ⟨h,k,h1,h2,h3⟩)
   · exact⟨i,Nat.le_refl _,h,fun j h1 h2=>absurd h1 (by omega)⟩
   · refine⟨k,by omega,h2,fun j h4 h5=>?_⟩
     by_cases hj:j=i
     · subst hj;exact h
     · exact h3 j (by omega) h5
theorem wnt_now:wnt A B i↔B i∨A i/\wnt A B (i+1):=by
 unfold wnt
 constructor
 · rintro(h | h)
   · rcases unt_now.1 h with h | ⟨h,h'⟩
     · exact .inl h
     · exact .inr ⟨h,.inl h'⟩
   · exact .inr ⟨h i (Nat.le_refl _),.inr fun k hk=>h k (by omega)⟩
 · rintro(h | ⟨h,h' | h'⟩)
   · exact .inl (unt_now.2 (.inl h))
   · exact .inl (unt_now.2 (.inr ⟨h,h'⟩))
   · refine .inr fun k hk=>?_
     by_cases hj:k=i
     · subst hj;exact h
     · exact h' k (by omega)
theorem unt_congr(hA:∀k,A k↔A' k)(hB:∀k,B k↔B' k):unt A B i↔unt A' B' i:=by
 rw[show A=A' from funext fun k=>propext (hA k),show B=B' from funext fun k=>propext (hB k)]
theorem wnt_congr(hA:∀k,A k↔A' k)(hB:∀k,B k↔B' k):wnt A B i↔wnt A' B' i:=by
 rw[show A=A' from funext fun k=>propext (hA k),show B=B' from funext fun k=>propext (hB k)]
theorem unt_add(d:Nat):unt A B (i+d)↔unt (fun k=>A (k+d)) (fun k=>B (k+d)) i:=by
 constructor
 · rintro⟨k,h1,h2,h3⟩
   refine⟨k - d,by omega,?_,fun j h4 h5=>h3 (j+d) (by omega) (by omega)⟩
   show B (k - d+d)
   rw[Nat.sub_add_cancel (by omega)];exact h2
 · rintro⟨k,h1,h2,h3⟩
   refine⟨k+d,by omega,h2,fun j h4 h5=>?_⟩
   have:=h3 (j - d) (by omega) (by omega)
   simp only at this
   rwa [Nat.sub_add_cancel (by omega)]at this
theorem all_add(d:Nat):(∀k,i+d<=k->A k)↔∀k,i<=k->A (k+d):=by
 constructor
 · exact fun h k hk=>h _ (by omega)
 · intro h k hk
   have:=h (k - d) (by omega)
   rwa [Nat.sub_add_cancel (by omega)]at this
end
def Per(a p:Nat)(A:Nat->Prop):Prop:=∀i,a<=i->(A (i+p)↔A i)
section
variable {A B:Nat->Prop} {i p a:Nat}
theorem Per.unt(hA:Per a p A)(hB:Per a p B):Per a p (unt A B):=by
 intro i hi
 rw[unt_add p]
 constructor
 · rintro⟨k,h1,h2,h3⟩
   exact⟨k,h1,(hB k (by omega)).1 h2,fun j h4 h5=>(hA j (by omega)).1 (h3 j h4 h5)⟩
 · rintro⟨k,h1,h2,h3⟩
   exact⟨k,h1,(hB k (by omega)).2 h2,fun j h4 h5=>(hA j (by omega)).2 (h3 j h4 h5)⟩
theorem Per.all(hA:Per a p A):Per a p (fun i=>∀k,i<=k->A k):=by
 intro i hi
 show(∀k,i+p<=k->A k)↔_
 rw[all_add p]
 exact⟨fun h k hk=>(hA k (by omega)).1 (h k hk),fun h k hk=>(hA k (by omega)).2 (h k hk)⟩
theorem Per.wnt(hA:Per a p A)(hB:Per a p B):Per a p (wnt A B):=fun i hi=>by
 have h:=hA.all i hi
 simp only at h
 unfold Go.Proofs.YtmgjpjjglghbaaaGreatDoor.wnt
 rw[(hA.unt hB) i hi,h]
theorem per_const(P:Prop):Per a p (fun _=>P):=fun _ _=>Iff.rfl
theorem Per.and(hA:Per a p A)(hB:Per a p B):Per a p (fun k=>A k/\B k):=fun i hi=>by
 show A (i+p)/\B (i+p)↔_
 rw[hA i hi,hB i hi]
theorem per_sem{L:List UInt8->Nat->Prop}(hL:∀nm,Per a p (L nm)):∀f:Fo,Per a p (sem L f)
 | .leaf op nm _=>fun i hi=>by simp only[sem,hL nm i hi]
 | .un op f _=>fun i hi=>by
   have h:=per_sem hL f
   have h1:sem L f (i+p+1)↔sem L f (i+1):=by rw[show i+p+1=i+1+p by omega];exact h _ (by omega)
   simp only[sem,h i hi,h1,(Per.unt (per_const True) h) i hi,(h.wnt (per_const False)) i hi]
 | .bin op f g _=>fun i hi=>by
   have h:=per_sem hL f
   have h':=per_sem hL g
   simp only[sem,h i hi,h' i hi,(h.unt h') i hi,(h.wnt h') i hi,(h'.wnt (h.and h')) i hi]
theorem Per.soon(hB:Per a p B)(hp:0<p)(h:Go.Proofs.YtmgjpjjglghbaaaGreatDoor.unt A B i):∃k,i<=k/\k<max i a+p/\B k/\∀j,i<=j->j<k->A j:=by
 obtain⟨k,h1,h2,h3⟩:=h
 induction k using Nat.strongRecOn with
 | _ k ih=>
   by_cases hk:k<max i a+p
   · exact⟨k,h1,hk,h2,h3⟩
   · refine ih (k - p) (by omega) (by omega) ?_ (fun j h4 h5=>h3 j h4 (by omega))
     have:=hB (k - p) (by omega)
     rw[Nat.sub_add_cancel (by omega)]at this
     exact this.1 h2
theorem Per.ever(hp:0<p)(hA:Per a p A)(h:∀k,i<=k->k<max i a+p->A k):∀k,i<=k->A k:=by
 intro k
 induction k using Nat.strongRecOn with
 | _ k ih=>
   intro hi
   by_cases hk:k<max i a+p
   · exact h k hi hk
   · have h1:=ih (k - p) (by omega) (by omega)
     have:=hA (k - p) (by omega)
     rw[Nat.sub_add_cancel (by omega)]at this
     exact this.2 h1
end
def swp:List Bool->List Bool->Bool->List Bool
 | a::as,b::bs,x=>(b || a&&(swp as bs x).headD x)::swp as bs x
 | _,_,_=>[]
def untL(again:Nat)(l r:List Bool)(x:Bool):List Bool:=swp l r ((swp l r x).getD again false)
def bothL(l r:List Bool):List Bool:=List.zipWith (· && ·) l r
def eithL(l r:List Bool):List Bool:=List.zipWith (· || ·) l r
def nextL(again:Nat)(l:List Bool):List Bool:=l.tail++[l.getD again false]
def trO(n again:Nat)(lab:List UInt8->List Bool):Fo->List Bool
 | .leaf op nm _=>if op=opTrue then List.replicate n true else if op=opLab then lab nm else List.replicate n false
 | .un op f _=>
   if op=[33]then(trO n again lab f).map (!·)else if op=[88]then nextL again (trO n again lab f)
   else if op=[70]then untL again (List.replicate n true) (trO n again lab f) false
   else if op=[71]then untL again (trO n again lab f) (bothL (List.replicate n false) (trO n again lab f)) true else List.replicate n false
 | .bin op f g _=>
   if op=[61,62]then eithL ((trO n again lab f).map (!·)) (trO n again lab g)else if op=[124]then eithL (trO n again lab f) (trO n again lab g)
   else if op=[38]then bothL (trO n again lab f) (trO n again lab g)else if op=[85]then untL again (trO n again lab f) (trO n again lab g) false
   else if op=[82]then untL again (trO n again lab g) (bothL (trO n again lab f) (trO n again lab g)) true
   else if op=[87]then untL again (trO n again lab f) (trO n again lab g) true else List.replicate n false
theorem swp_len:∀{l r:List Bool} {x:Bool},l.length=r.length->(swp l r x).length=l.length
 | [],[],_,_=>rfl
 | _::l,_::r,x,h=>by simp only[swp,List.length_cons,swp_len (l:=l) (r:=r) (x:=x) (by simpa using h)]
theorem swp_now:∀{l r:List Bool} {x:Bool} {i:Nat},l.length=r.length->i<l.length->(swp l r x).getD i false=(r.getD i false || l.getD i false&&(swp l r x).getD (i+1) x)
 | [],[],_,_,_,hi=>absurd hi (by simp)
 | a::l,b::r,x,0,h,_=>by
   have h':l.length=r.length:=by simpa using h
   simp only[swp,List.getD_cons_zero,List.getD_cons_succ]
   cases hs:swp l r x<;>simp
 | a::l,b::r,x,i+1,h,hi=>by
   have:=swp_now (l:=l) (r:=r) (x:=x) (i:=i) (by simpa using h) (by simpa using hi)
   simp only[swp,List.getD_cons_succ,this]
theorem getD_ge{α:Type}{l:List α}{i:Nat}{x:α}(h:l.length<=i):l.getD i x=x:=by
 rw[List.getD_eq_getElem?_getD,List.getElem?_eq_none h];rfl
theorem getD_lt{α:Type}{l:List α}{i:Nat}{x y:α}(h:i<l.length):l.getD i x=l.getD i y:=by
 rw[List.getD_eq_getElem?_getD,List.getD_eq_getElem?_getD,List.getElem?_eq_getElem h];rfl
def Tells(n:Nat)(l:List Bool)(A:Nat->Prop):Prop:=l.length=n/\∀i,i<n->(l.getD i false=true↔A i)
section
variable {n a:Nat} {l r:List Bool} {A B V:Nat->Prop}
theorem Tells.swp{x:Bool}(hl:Tells n l A)(hr:Tells n r B)(hV:∀i,i<n->(V i↔B i∨A i/\V (i+1)))(hx:x=true↔V n):Tells n (swp l r x) V:=by
 have hlr:l.length=r.length:=hl.1.trans hr.1.symm
 have hs:=swp_len (x:=x) hlr
 refine⟨hs.trans hl.1,fun i hi=>?_⟩
 have key:∀d i,i+d=n->((Go.Proofs.YtmgjpjjglghbaaaGreatDoor.swp l r x).getD i x=true↔V i):=by
  intro d
  induction d with
  | zero=>
    intro i hi
    rw[getD_ge (by rw[hs,hl.1];omega),hx,show n=i by omega]
  | succ d ih=>
    intro i hi
    have hin:i<n:=by omega
    rw[getD_lt (y:=false) (by rw[hs,hl.1];exact hin),swp_now hlr (by rw[hl.1];exact hin),hV i hin]
    simp only[Bool.or_eq_true,Bool.and_eq_true]
    rw[hr.2 i hin,hl.2 i hin,ih (i+1) (by omega)]
 rw[getD_lt (y:=x) (by rw[hs,hl.1];exact hi)]
 exact key (n - i) i (by omega)
theorem Tells.replicate(P:Prop)(x:Bool)(h:x=true↔P):Tells n (List.replicate n x) (fun _=>P):=by
 refine⟨by simp,fun i hi=>?_⟩
 rw[List.getD_eq_getElem?_getD,List.getElem?_replicate,if_pos hi];exact h
theorem Tells.congr(h:Tells n l A)(hA:∀i,A i↔V i):Tells n l V:=⟨h.1,fun i hi=>(h.2 i hi).trans (hA i)⟩
theorem Tells.not(h:Tells n l A):Tells n (l.map (!·)) (fun i=>¬A i):=by
 refine⟨by simp[h.1],fun i hi=>?_⟩
 have h1:=h.2 i hi
 have hil:i<l.length:=by rw[h.1];exact hi
 rw[List.getD_eq_getElem?_getD,List.getElem?_eq_getElem hil]at h1
 rw[List.getD_eq_getElem?_getD,List.getElem?_map,List.getElem?_eq_getElem hil]
 simp only[Option.getD_some,Option.map_some]at h1 ⊢
 rw[<- h1];cases l[i]<;>simp
theorem Tells.both(hl:Tells n l A)(hr:Tells n r B):Tells n (bothL l r) (fun i=>A i/\B i):=by
 refine⟨by simp[bothL,hl.1,hr.1],fun i hi=>?_⟩
 have h1:=hl.2 i hi
 have h2:=hr.2 i hi
 have hil:i<l.length:=by rw[hl.1];exact hi
 have hir:i<r.length:=by rw[hr.1];exact hi
 rw[List.getD_eq_getElem?_getD,List.getElem?_eq_getElem hil]at h1
 rw[List.getD_eq_getElem?_getD,List.getElem?_eq_getElem hir]at h2
 simp only[Option.getD_some]at h1 h2
 rw[bothL,List.getD_eq_getElem?_getD,List.getElem?_zipWith,List.getElem?_eq_getElem hil,List.getElem?_eq_getElem hir]
 simp[h1,h2]
theorem Tells.either(hl:Tells n l A)(hr:Tells n r B):Tells n (eithL l r) (fun i=>A i∨B i):=by
 refine⟨by simp[eithL,hl.1,hr.1],fun i hi=>?_⟩
 have h1:=hl.2 i hi
 have h2:=hr.2 i hi
 have hil:i<l.length:=by rw[hl.1];exact hi
 have hir:i<r.length:=by rw[hr.1];exact hi
 rw[List.getD_eq_getElem?_getD,List.getElem?_eq_getElem hil]at h1
 rw[List.getD_eq_getElem?_getD,List.getElem?_eq_getElem hir]at h2
 simp only[Option.getD_some]at h1 h2
 rw[eithL,List.getD_eq_getElem?_getD,List.getElem?_zipWith,List.getElem?_eq_getElem hil,List.getElem?_eq_getElem hir]
 simp[h1,h2]
theorem Tells.next(ha:a<n)(hA:Per a (n - a) A)(hl:Tells n l A):Tells n (nextL a l) (fun i=>A (i+1)):=by
 have hlen:=hl.1
 refine⟨by simp[nextL,hl.1];omega,fun i hi=>?_⟩
 rw[nextL,List.getD_eq_getElem?_getD]
 by_cases h:i+1<n
 · rw[List.getElem?_append_left (by simp;omega),List.getElem?_tail,<- List.getD_eq_getElem?_getD]
   exact hl.2 _ h
 · rw[List.getElem?_append_right (by simp;omega),show i - l.tail.length=0 by simp;omega]
   have h1:=hA a (Nat.le_refl _)
   rw[show a+(n - a)=i+1 by omega]at h1
   exact(hl.2 a ha).trans h1.symm
theorem Tells.until(ha:a<n)(hA:Per a (n - a) A)(hB:Per a (n - a) B)(hl:Tells n l A)(hr:Tells n r B):Tells n (untL a l r false) (unt A B):=by
 have hV:=hA.unt hB
 have h1:Tells n (Go.Proofs.YtmgjpjjglghbaaaGreatDoor.swp l r false) (fun i=>∃k,i<=k/\k<n/\B k/\∀j,i<=j->j<k->A j):=by
  refine hl.swp hr (fun i hi=>⟨?_,?_⟩) ?_
  · rintro⟨k,h1,h2,h3,h4⟩
    by_cases hk:k=i
    · subst hk;exact .inl h3
    · exact .inr ⟨h4 i (Nat.le_refl _) (by omega),k,by omega,h2,h3,fun j h5 h6=>h4 j (by omega) h6⟩
  · rintro(h | ⟨h,k,h1,h2,h3,h4⟩)
    · exact⟨i,Nat.le_refl _,hi,h,fun j h1 h2=>absurd h1 (by omega)⟩
    · refine⟨k,by omega,h2,h3,fun j h5 h6=>?_⟩
      by_cases hj:j=i
      · subst hj;exact h
      · exact h4 j (by omega) h6
  · constructor
    · intro h;cases h
    · rintro⟨k,h1,h2,_⟩;omega
 refine hl.swp hr (fun i _=>unt_now) ?_
 rw[h1.2 a ha]
 have h2:=hV a (Nat.le_refl _)
 rw[show a+(n - a)=n by omega]at h2
 rw[h2]
 constructor
 · rintro⟨k,h1,_,h3,h4⟩;exact⟨k,h1,h3,h4⟩
 · intro h
   obtain⟨k,h1,h2,h3,h4⟩:=hB.soon (by omega) h
   exact⟨k,h1,by omega,h3,h4⟩
theorem Tells.weak(ha:a<n)(hA:Per a (n - a) A)(hB:Per a (n - a) B)(hl:Tells n l A)(hr:Tells n r B):Tells n (untL a l r true) (wnt A B):=by
 have hV:=hA.wnt hB
 have h1:Tells n (Go.Proofs.YtmgjpjjglghbaaaGreatDoor.swp l r true) (fun i=>(∃k,i<=k/\k<n/\B k/\∀j,i<=j->j<k->A j)∨∀k,i<=k->k<n->A k):=by
  refine hl.swp hr (fun i hi=>⟨?_,?_⟩) ?_
  · rintro(⟨k,h1,h2,h3,h4⟩ | h)
    · by_cases hk:k=i
      · subst hk;exact .inl h3
      · exact .inr ⟨h4 i (Nat.le_refl _) (by omega),.inl ⟨k,by omega,h2,h3,fun j h5 h6=>h4 j (by omega) h6⟩⟩
    · exact .inr ⟨h i (Nat.le_refl _) hi,.inr fun k hk=>h k (by omega)⟩
  · rintro(h | ⟨h,⟨k,h1,h2,h3,h4⟩ | h'⟩)
    · exact .inl ⟨i,Nat.le_refl _,hi,h,fun j h1 h2=>absurd h1 (by omega)⟩
    · refine .inl ⟨k,by omega,h2,h3,fun j h5 h6=>?_⟩
      by_cases hj:j=i
      · subst hj;exact h
      · exact h4 j (by omega) h6
    · refine .inr fun k h5 h6=>?_
      by_cases hj:k=i
      · subst hj;exact h
      · exact h' k (by omega) h6
  · simp only[true_iff]
    exact .inr fun k h1 h2=>absurd h1 (by omega)
 refine hl.swp hr (fun i _=>wnt_now) ?_
 rw[h1.2 a ha]
 have h2:=hV a (Nat.le_refl _)
 rw[show a+(n - a)=n by omega]at h2
 rw[h2]
 constructor
 · rintro(⟨k,h1,_,h3,h4⟩ | h)
   · exact .inl ⟨k,h1,h3,h4⟩
   · exact .inr (hA.ever (p:=n - a) (by omega) fun k h1 h2=>h k h1 (by omega))
 · rintro(h | h)
   · obtain⟨k,h1,h2,h3,h4⟩:=hB.soon (by omega) h
     exact .inl ⟨k,h1,by omega,h3,h4⟩
   · exact .inr fun k h1 _=>h k h1
end
theorem pk_un{op:List UInt8}(h:pk op=4):op=[33]∨op=[88]∨op=[70]∨op=[71]:=by
 unfold pk at h
 repeat' split at h
 all_goals first | omega | assumption
theorem pk_bin{op:List UInt8}(h:pk op<4):op=[61,62]∨op=[124]∨op=[38]∨op=[85]∨op=[87]∨op=[82]:=by
 unfold pk at h
 repeat' split at h
 all_goals first | omega | simp_all
theorem tells_sem{n a:Nat}{lab:List UInt8->List Bool}{L:List UInt8->Nat->Prop}(ha:a<n)(hL:∀nm,Per a (n - a) (L nm)):
 ∀f:Fo,OkF f->(∀nm∈lbs f,Tells n (lab nm) (L nm))->Tells n (trO n a lab f) (sem L f)
 | .leaf op nm q,h,hl=>by
   rcases h with⟨rfl,_⟩ | ⟨rfl | rfl,_⟩
   · simp only[trO,show opLab≠opTrue by decide,if_false,if_true]
     exact(hl nm (by simp[lbs])).congr (fun i=>by simp[sem,show opLab≠opTrue by decide])
   · exact(Tells.replicate True true (by simp)).congr (fun i=>by simp[sem])
   · have:trO n a lab (.leaf opFalse nm q)=List.replicate n false:=by simp[trO,show opFalse≠opTrue by decide,show opFalse≠opLab by decide]
     rw[this]
     exact(Tells.replicate False false (by simp)).congr (fun i=>by simp[sem,show opFalse≠opTrue by decide,show opFalse≠opLab by decide])
 | .un op f _,h,hl=>by
   have hf:=tells_sem ha hL f h.2 (fun nm hn=>hl nm (by simpa[lbs]using hn))
   have hp:=per_sem hL f
   rcases pk_un h.1 with rfl | rfl | rfl | rfl
   · exact hf.not.congr (fun i=>by simp[sem])
   · exact(hf.next ha hp).congr (fun i=>by simp[sem])
   · exact((Tells.replicate True true (by simp)).until ha (per_const True) hp hf).congr (fun i=>by simp[sem])
   · refine(hf.weak ha hp ((per_const False).and hp) ((Tells.replicate False false (by simp)).both hf)).congr (fun i=>?_)
     simp only[sem]
     exact wnt_congr (fun _=>Iff.rfl) (fun k=>by simp)
 | .bin op f g _,h,hl=>by
   have hf:=tells_sem ha hL f h.2.1 (fun nm hn=>hl nm (by simp[lbs,hn]))
   have hg:=tells_sem ha hL g h.2.2 (fun nm hn=>hl nm (by simp[lbs,hn]))
   have hp:=per_sem hL f
   have hq:=per_sem hL g
   rcases pk_bin h.1 with rfl | rfl | rfl | rfl | rfl | rfl
   · refine(hf.not.either hg).congr (fun i=>?_)
     simp only[sem,if_true]
     by_cases hx:sem L f i<;>simp[hx]
   · exact(hf.either hg).congr (fun i=>by simp[sem])
   · exact(hf.both hg).congr (fun i=>by simp[sem])
   · exact(hf.until ha hp hq hg).congr (fun i=>by simp[sem])
   · exact(hf.weak ha hp hq hg).congr (fun i=>by simp[sem])
   · exact(hg.weak ha hq (hp.and hq) (hf.both hg)).congr (fun i=>by simp[sem])
end
section
def wl(s l:List Int)(i:Nat):Int:=if i<s.length then s.getD i 0 else l.getD ((i - s.length) % l.length) 0
theorem getD_app{α:Type}{l r:List α}{i:Nat}{x:α}:(l++r).getD i x=if i<l.length then l.getD i x else r.getD (i - l.length) x:=by
 simp only[List.getD_eq_getElem?_getD,List.getElem?_append]
 split<;>rfl
theorem wl_per{s l:List Int}(i:Nat)(hi:s.length<=i):wl s l (i+l.length)=wl s l i:=by
 unfold wl
 rw[if_neg (by omega),if_neg (by omega),show i+l.length - s.length=i - s.length+l.length by omega,Nat.add_mod_right]
theorem wl_app{s l:List Int}(i:Nat)(hi:i<s.length+l.length):(s++l).getD i 0=wl s l i:=by
 unfold wl
 rw[getD_app]
 split
 · rfl
 · rw[Nat.mod_eq_of_lt (by omega)]
def posO(l:List ByteArray)(x:ByteArray):Nat:=l.findIdx fun y=>decide (y=x)
def LN(N:List ByteArray)(σ:Nat->Int)(nm:List UInt8)(i:Nat):Prop:=(σ i).toNat.testBit (posO N ⟨nm.toArray⟩)=true
theorem ln_per{N:List ByteArray}{s l:List Int}(nm:List UInt8):Per s.length l.length (LN N (wl s l) nm):=fun i hi=>by
 unfold LN
 rw[wl_per i hi]
noncomputable def hdO(N:List ByteArray)(f:Fo):Bool:= @decide (∀nm∈lbs f,(⟨nm.toArray⟩:ByteArray)∈N) (Classical.propDecidable _)
theorem hd_iff{N:List ByteArray}{f:Fo}:hdO N f=true↔∀nm∈lbs f,(⟨nm.toArray⟩:ByteArray)∈N:=by
 unfold hdO
 exact @decide_eq_true_iff _ (Classical.propDecidable _)
noncomputable def hv(N:List ByteArray)(σ:Nat->Int)(f:Fo):Bool:= @decide (hdO N f=true/\sem (LN N σ) f 0) (Classical.propDecidable _)
theorem hv_iff{N:List ByteArray}{σ:Nat->Int}{f:Fo}:hv N σ f=true↔hdO N f=true/\sem (LN N σ) f 0:=by
 unfold hv
 exact @decide_eq_true_iff _ (Classical.propDecidable _)
section
variable {A B:Nat->Prop} {i:Nat}
theorem unt_dual:¬unt A B i↔wnt (fun k=>¬B k) (fun k=>¬A k/\¬B k) i:=by
 constructor
 · intro h
   by_cases hB:∀k,i<=k->¬B k
   · exact .inr hB
   · left
     simp only[Classical.not_forall,Classical.not_not]at hB
     obtain⟨k,hk,hb⟩:=hB
     induction k using Nat.strongRecOn with
     | _ k ih=>
       by_cases h1:∃j,i<=j/\j<k/\B j
       · obtain⟨j,h2,h3,h4⟩:=h1
         exact ih j h3 h2 h4
       · have h2:∃j,i<=j/\j<k/\¬A j:=by
          apply Classical.byContradiction
          intro h2
          exact h ⟨k,hk,hb,fun j h3 h4=>Classical.byContradiction fun h5=>h2 ⟨j,h3,h4,h5⟩⟩
         obtain⟨j,h3,h4,h5⟩:=h2
         exact⟨j,h3,⟨h5,fun h6=>h1 ⟨j,h3,h4,h6⟩⟩,fun m h6 h7 h8=>h1 ⟨m,h6,by omega,h8⟩⟩
 · rintro h ⟨k,h1,h2,h3⟩
   rcases h with⟨m,h4,⟨h5,h6⟩,h7⟩ | h
   · rcases Nat.lt_or_ge k m with h8 | h8
     · exact h7 k h1 h8 h2
     · rcases Nat.eq_or_lt_of_le h8 with h9 | h9
       · subst h9;exact h6 h2
       · exact h5 (h3 m h4 h9)
   · exact h k h1 h2
end
end
end Go.Proofs.YtmgjpjjglghbaaaGreatDoor
