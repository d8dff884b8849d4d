import Derived.Test.YtmgjpjjglghbaaaGreatDoord0
import Derived.Test.YtmgjpjjglghbaaaGreatDoorb5
namespace Go.Proofs.YtmgjpjjglghbaaaGreatDoor
set_option maxHeartbeats 16000000
set_option maxRecDepth 100000
section
variable {A B:Nat->Prop} {i:Nat} {L:List UInt8->Nat->Prop}
theorem wnt_dual:¬wnt B (fun k=>A k/\B k) i↔unt (fun k=>¬A k) (fun k=>¬B k) i:=by
 have h:=unt_dual (A:=fun k=>¬A k) (B:=fun k=>¬B k) (i:=i)
 simp only[Classical.not_not]at h
 rw[<- h,Classical.not_not]
theorem wnt_as:wnt A B i↔wnt (fun k=>A k∨B k) (fun k=>B k/\(A k∨B k)) i:=by
 constructor
 · rintro(⟨k,h1,h2,h3⟩ | h)
   · exact .inl ⟨k,h1,⟨h2,.inr h2⟩,fun j h4 h5=>.inl (h3 j h4 h5)⟩
   · exact .inr fun k hk=>.inl (h k hk)
 · intro h
   by_cases hB:∃k,i<=k/\B k
   · obtain⟨k,hk,hb⟩:=hB
     induction k using Nat.strongRecOn with
     | _ k ih=>
       by_cases h1:∃j,i<=j/\j<k/\B j
       · obtain⟨j,h2,h3,h4⟩:=h1
         exact ih j h3 h2 h4
       · refine .inl ⟨k,hk,hb,fun j h4 h5=>?_⟩
         have hn:¬B j:=fun hj=>h1 ⟨j,h4,h5,hj⟩
         rcases h with⟨m,h6,h7,h8⟩ | h
         · have hm:k<=m:=by
            rcases Nat.lt_or_ge m k with g | g
            · exact absurd ⟨m,h6,g,h7.1⟩ h1
            · exact g
           exact(h8 j h4 (by omega)).resolve_right hn
         · exact(h j h4).resolve_right hn
   · refine .inr fun k hk=>?_
     have hn:∀j,i<=j->¬B j:=fun j hj hb=>hB ⟨j,hj,hb⟩
     rcases h with⟨m,h6,h7,h8⟩ | h
     · exact absurd h7.1 (hn m h6)
     · exact(h k hk).resolve_right (hn k hk)
theorem s_true{p:Nat}:sem L (.leaf opTrue [] p) i↔True:=by simp[sem]
theorem s_false{p:Nat}:sem L (.leaf opFalse [] p) i↔False:=by simp[sem,show opFalse≠opTrue by decide,show opFalse≠opLab by decide]
theorem s_lab{nm:List UInt8}{p:Nat}:sem L (.leaf opLab nm p) i↔L nm i:=by simp[sem,show opLab≠opTrue by decide]
theorem s_not{a:Fo}{p:Nat}:sem L (.un [33] a p) i↔¬sem L a i:=by simp[sem]
theorem s_X{a:Fo}{p:Nat}:sem L (.un [88] a p) i↔sem L a (i+1):=by simp[sem]
theorem s_F{a:Fo}{p:Nat}:sem L (.un [70] a p) i↔unt (fun _=>True) (sem L a) i:=by simp[sem]
theorem s_G{a:Fo}{p:Nat}:sem L (.un [71] a p) i↔wnt (sem L a) (fun _=>False) i:=by simp[sem]
theorem s_imp{a b:Fo}{p:Nat}:sem L (.bin [61,62] a b p) i↔(sem L a i->sem L b i):=by simp[sem]
theorem s_or{a b:Fo}{p:Nat}:sem L (.bin [124] a b p) i↔(sem L a i∨sem L b i):=by simp[sem]
theorem s_and{a b:Fo}{p:Nat}:sem L (.bin [38] a b p) i↔(sem L a i/\sem L b i):=by simp[sem]
theorem s_U{a b:Fo}{p:Nat}:sem L (.bin [85] a b p) i↔unt (sem L a) (sem L b) i:=by simp[sem]
theorem s_R{a b:Fo}{p:Nat}:sem L (.bin [82] a b p) i↔wnt (sem L b) (fun k=>sem L a k/\sem L b k) i:=by simp[sem]
theorem s_W{a b:Fo}{p:Nat}:sem L (.bin [87] a b p) i↔wnt (sem L a) (sem L b) i:=by simp[sem]
end
def tnB(b:Bool)(P:Prop):Prop:=if b=true then ¬P else P
theorem tn_f{P:Prop}:tnB false P↔P:=Iff.rfl
theorem tn_t{P:Prop}:tnB true P↔¬P:=Iff.rfl
theorem sem_nO{L:List UInt8->Nat->Prop}:∀f,OkF f->∀b i,sem L (nO f b) i↔tnB b (sem L f i):=by
 refine okf_ind ?_ ?_ ?_ ?_ ?_
 · intro p b i;cases b<;>simp only[n_true,ei,s_true,s_false,tn_f,tn_t,if_true,if_false,Bool.false_eq_true,not_true_eq_false]
 · intro p b i;cases b<;>simp only[n_false,ei,s_true,s_false,tn_f,tn_t,if_true,if_false,Bool.false_eq_true,not_false_eq_true]
 · intro nm p h b i;cases b<;>simp only[n_lab,s_lab,s_not,tn_f,tn_t,if_true,if_false,Bool.false_eq_true]
 · rintro op a p (rfl | rfl | rfl | rfl) - h b i
   · rw[n_not,h,s_not];cases b
     · exact tn_t.trans tn_f.symm
     · simp only[Bool.not_true,tn_t,tn_f,Classical.not_not]
   · rw[n_X,s_X,h,s_X]
   · cases b
     · rw[n_F,tn_f,s_F]
       simp only[ei,Bool.false_eq_true,if_false]
       rw[s_U]
       exact unt_congr (fun k=>s_true) (fun k=>(h false k).trans tn_f)
     · rw[n_F,tn_t,s_F]
       simp only[ei,if_true]
       rw[s_R,unt_dual]
       refine wnt_congr (fun k=>(h true k).trans tn_t) fun k=>?_
       rw[s_false,not_true_eq_false,(h true k).trans tn_t]
   · cases b
     · rw[n_G,tn_f,s_G]
       simp only[ei,Bool.false_eq_true,if_false]
       rw[s_R]
       refine wnt_congr (fun k=>(h false k).trans tn_f) fun k=>?_
       rw[s_false,false_and]
     · rw[n_G,tn_t,s_G]
       simp only[ei,if_true]
       rw[s_U]
       have h1:=wnt_dual (A:=fun _=>False) (B:=sem L a) (i:=i)
       simp only[false_and,not_false_eq_true]at h1
       rw[h1]
       exact unt_congr (fun k=>s_true) (fun k=>(h true k).trans tn_t)
 · rintro op a c p (rfl | rfl | rfl | rfl | rfl | rfl) - - h1 h2 b i
   · cases b
     · simp only[n_imp,ei,Bool.false_eq_true,if_false,s_or,h1,h2,tn_f,s_imp,Bool.not_false,tn_t]
       constructor
       · rintro(h | h) g
         · exact absurd g h
         · exact h
       · intro h
         by_cases g:sem L a i
         · exact .inr (h g)
         · exact .inl g
     · simp only[n_imp,ei,if_true,s_and,h1,h2,tn_t,s_imp,Bool.not_true,tn_f,Classical.not_imp]
   · cases b
     · simp only[n_or,ei,Bool.false_eq_true,if_false,s_or,h1,h2,tn_f]
     · simp only[n_or,ei,if_true,s_and,h1,h2,tn_t,s_or,not_or]
   · cases b
     · simp only[n_and,ei,Bool.false_eq_true,if_false,s_and,h1,h2,tn_f]
     · simp only[n_and,ei,if_true,s_or,h1,h2,tn_t,s_and,Classical.not_and_iff_not_or_not]
   · cases b
     · simp only[n_U,ei,Bool.false_eq_true,if_false,s_U,tn_f]
       exact unt_congr (fun k=>(h1 false k).trans tn_f) (fun k=>(h2 false k).trans tn_f)
     · simp only[n_U,ei,if_true,s_R,s_U,tn_t]
       rw[unt_dual]
       refine wnt_congr (fun k=>(h2 true k).trans tn_t) fun k=>?_
       rw[(h1 true k).trans tn_t,(h2 true k).trans tn_t]
   · cases b
     · simp only[n_W,ei,Bool.false_eq_true,if_false,s_R,s_W,tn_f]
       rw[wnt_as (A:=sem L a) (B:=sem L c)]
       refine wnt_congr (fun k=>?_) fun k=>?_
       · rw[s_or,(h1 false k).trans tn_f,(h2 false k).trans tn_f]
       · rw[s_or,(h1 false k).trans tn_f,(h2 false k).trans tn_f]
     · simp only[n_W,ei,if_true,s_U,s_W,tn_t]
       rw[wnt_as (A:=sem L a) (B:=sem L c),wnt_dual (A:=sem L c) (B:=fun k=>sem L a k∨sem L c k)]
       refine unt_congr (fun k=>(h2 true k).trans tn_t) fun k=>?_
       rw[s_and,(h1 true k).trans tn_t,(h2 true k).trans tn_t,not_or]
   · cases b
     · simp only[n_R,ei,Bool.false_eq_true,if_false,s_R,tn_f]
       refine wnt_congr (fun k=>(h2 false k).trans tn_f) fun k=>?_
       rw[(h1 false k).trans tn_f,(h2 false k).trans tn_f]
     · simp only[n_R,ei,if_true,s_U,s_R,tn_t]
       rw[wnt_dual]
       exact unt_congr (fun k=>(h1 true k).trans tn_t) (fun k=>(h2 true k).trans tn_t)
theorem sem_bare{L:List UInt8->Nat->Prop}:∀f:Fo,sem L f.bare=sem L f
 | .leaf op nm p=>by funext i;simp only[Fo.bare,sem]
 | .un op a p=>by funext i;simp only[Fo.bare,sem,sem_bare a]
 | .bin op a b p=>by funext i;simp only[Fo.bare,sem,sem_bare a,sem_bare b]
theorem sem_same{L:List UInt8->Nat->Prop}{a b:Fo}(h:same a b=true):sem L a=sem L b:=by
 have:=of_decide_eq_true h
 rw[<- sem_bare a,this,sem_bare]
theorem tr_of{f:Fo}(h:OkF f)(g:f.op=opTrue):∃p,f= .leaf opTrue [] p:=by
 cases f with
 | leaf op nm p=>
   simp only[Fo.op]at g;subst g
   rcases h with⟨h,_⟩ | ⟨_,rfl⟩
   · exact absurd h (by decide)
   · exact⟨p,rfl⟩
 | un op a p=>simp only[Fo.op]at g;subst g;exact absurd h.1 (by decide)
 | bin op a b p=>simp only[Fo.op]at g;subst g;exact absurd h.1 (by decide)
theorem fa_of{f:Fo}(h:OkF f)(g:f.op=opFalse):∃p,f= .leaf opFalse [] p:=by
 cases f with
 | leaf op nm p=>
   simp only[Fo.op]at g;subst g
   rcases h with⟨h,_⟩ | ⟨_,rfl⟩
   · exact absurd h (by decide)
   · exact⟨p,rfl⟩
 | un op a p=>simp only[Fo.op]at g;subst g;exact absurd h.1 (by decide)
 | bin op a b p=>simp only[Fo.op]at g;subst g;exact absurd h.1 (by decide)
section
variable {L:List UInt8->Nat->Prop} {a b:Fo} {i:Nat}
theorem st_of(h:OkF a)(g:a.op=opTrue)(k:Nat):sem L a k↔True:=by obtain⟨p,rfl⟩:=tr_of h g;exact s_true
theorem sf_of(h:OkF a)(g:a.op=opFalse)(k:Nat):sem L a k↔False:=by obtain⟨p,rfl⟩:=fa_of h g;exact s_false
theorem str_of(h:OkF a)(g:isTr a=true):(∀k,sem L a k↔True)∨∀k,sem L a k↔False:=by
 rcases Bool.or_eq_true_iff.1 g with g | g
 · exact .inl (st_of h (of_decide_eq_true g))
 · exact .inr (sf_of h (of_decide_eq_true g))
theorem unt_self{A:Nat->Prop}:unt A A i↔A i:=by
 constructor
 · rintro⟨k,h1,h2,h3⟩
   rcases Nat.eq_or_lt_of_le h1 with g | g
   · subst g;exact h2
   · exact h3 i (Nat.le_refl _) g
 · exact fun h=>⟨i,Nat.le_refl _,h,fun j h1 h2=>absurd h1 (by omega)⟩
theorem unt_no'{A B:Nat->Prop}(h:∀k,A k↔False):unt A B i↔B i:=by
 rw[unt_now]
 constructor
 · rintro(g | ⟨g,_⟩)
   · exact g
   · exact((h i).1 g).elim
 · exact .inl
theorem unt_tr{A B:Nat->Prop}(h:(∀k,B k↔True)∨∀k,B k↔False):unt A B i↔B i:=by
 rcases h with h | h
 · exact⟨fun _=>(h i).2 trivial,fun g=>unt_now.2 (.inl g)⟩
 · exact⟨fun⟨k,_,g,_⟩=>((h k).1 g).elim,fun g=>((h i).1 g).elim⟩
theorem rel_tr{A B:Nat->Prop}(h:(∀k,B k↔True)∨∀k,B k↔False):wnt B (fun k=>A k/\B k) i↔B i:=by
 rcases h with h | h
 · exact⟨fun _=>(h i).2 trivial,fun _=>.inr fun k _=>(h k).2 trivial⟩
 · refine⟨fun g=>?_,fun g=>((h i).1 g).elim⟩
   rcases wnt_now.1 g with g | g
   · exact g.2
   · exact g.1
theorem rel_self{A B:Nat->Prop}(h:∀k,B k->A k):wnt B (fun k=>A k/\B k) i↔B i:=by
 rw[wnt_now]
 constructor
 · rintro(g | g)
   · exact g.2
   · exact g.1
 · exact fun g=>.inl ⟨h i g,g⟩
theorem sem_smB(op:List UInt8)(p:Nat)(ha:OkF a)(hb:OkF b):sem L (smB op a b p) i↔sem L (.bin op a b p) i:=by
 unfold smB
 split
 · next h=>
   subst h
   rw[s_and]
   unfold smJ
   split
   · next g=>
     rcases g with g | g
     · rw[st_of ha g,true_and]
     · rw[sf_of hb g,and_false]
   · split
     · next g=>
       rcases g with g | g | g
       · rw[st_of hb g,and_true]
       · rw[sf_of ha g,false_and]
       · rw[sem_same g,and_self]
     · rw[s_and]
 split
 · next h=>
   subst h
   rw[s_or]
   unfold smJ
   split
   · next g=>
     rcases g with g | g
     · rw[sf_of ha g,false_or]
     · rw[st_of hb g,or_true]
   · split
     · next g=>
       rcases g with g | g | g
       · rw[sf_of hb g,or_false]
       · rw[st_of ha g,true_or]
       · rw[sem_same g,or_self]
     · rw[s_or]
 split
 · next h=>
   subst h
   rw[s_U]
   split
   · next g=>
     rcases g with g | g | g
     · exact(unt_tr (str_of hb g)).symm
     · exact(unt_no' (sf_of ha g)).symm
     · rw[sem_same g];exact unt_self.symm
   · rw[s_U]
 split
 · next h=>
   subst h
   rw[s_R]
   split
   · next g=>
     rcases g with g | g | g
     · exact(rel_tr (str_of hb g)).symm
     · exact(rel_self fun k _=>(st_of ha g k).2 trivial).symm
     · rw[sem_same g];exact(rel_self fun k h=>h).symm
   · rw[s_R]
 rfl
end
theorem sem_smO{L:List UInt8->Nat->Prop}:∀f,OkF f->∀i,sem L (smO f) i↔sem L f i
 | .leaf op nm p,_,i=>Iff.rfl
 | .un op a p,h,i=>by
   rw[smO]
   have ha:=sem_smO (L:=L) a h.2
   split
   · next g=>
     obtain⟨rfl,g⟩:=g
     rw[s_X,<- ha]
     rcases str_of (L:=L) (smO_okf a h.2) g with g | g<;>rw[g,g]
   · simp only[sem,ha]
     rw[show sem L (smO a)=sem L a from funext fun k=>propext (ha k)]
 | .bin op a b p,h,i=>by
   rw[smO,sem_smB op p (smO_okf a h.2.1) (smO_okf b h.2.2)]
   simp only[sem]
   rw[show sem L (smO a)=sem L a from funext fun k=>propext (sem_smO a h.2.1 k),show sem L (smO b)=sem L b from funext fun k=>propext (sem_smO b h.2.2 k)]
section
variable {N:List ByteArray} {σ:Nat->Int} {f:Fo}
theorem hd_nO(h:OkF f)(b:Bool):hdO N (nO f b)=hdO N f:=by
 rw[Bool.eq_iff_iff,hd_iff,hd_iff]
 simp only[lbs_nO f h]
theorem hd_smO(h:hdO N f=true):hdO N (smO f)=true:=hd_iff.2 fun nm hn=>hd_iff.1 h nm (lbs_smO f nm hn)
theorem hv_nO(h:OkF f)(hd:hdO N f=true)(b:Bool):hv N σ (nO f b)=(b ^^ hv N σ f):=by
 have h1:hv N σ (nO f b)=true↔tnB b (sem (LN N σ) f 0):=by rw[hv_iff,hd_nO h,sem_nO f h];exact⟨fun h=>h.2,fun h=>⟨hd,h⟩⟩
 have h2:hv N σ f=true↔sem (LN N σ) f 0:=by rw[hv_iff];exact⟨fun h=>h.2,fun h=>⟨hd,h⟩⟩
 rw[Bool.eq_iff_iff,h1]
 cases b
 · rw[Bool.false_xor,tn_f,h2]
 · rw[Bool.true_xor,tn_t,Bool.not_eq_true',<- Bool.not_eq_true,h2]
theorem hv_smO(h:OkF f)(hd:hdO N f=true):hv N σ (smO f)=hv N σ f:=by
 rw[Bool.eq_iff_iff,hv_iff,hv_iff,sem_smO f h,hd,hd_smO hd]
end
end Go.Proofs.YtmgjpjjglghbaaaGreatDoor
