import Derived.Test.YtmgjpjjglghbaaaGreatDoorb0
namespace Go.Proofs.YtmgjpjjglghbaaaGreatDoor
set_option maxHeartbeats 16000000
set_option maxRecDepth 100000
def ei(b:Bool)(so isnt:List UInt8):List UInt8:=if b=true then isnt else so
def nO:Fo->Bool->Fo
 | .leaf op nm _,b=>
   if op=opTrue then .leaf (ei b opTrue opFalse) [] 0 else if op=opFalse then .leaf (ei b opFalse opTrue) [] 0
   else if b=true then .un [33] (.leaf opLab nm 0) 0 else .leaf opLab nm 0
 | .un op a _,b=>
   if op=[33]then nO a (!b)else if op=[88]then .un [88] (nO a b) 0
   else if op=[70]then .bin (ei b [85] [82]) (.leaf (ei b opTrue opFalse) [] 0) (nO a b) 0
   else .bin (ei b [82] [85]) (.leaf (ei b opFalse opTrue) [] 0) (nO a b) 0
 | .bin op a c _,b=>
   if op=[61,62]then .bin (ei b [124] [38]) (nO a (!b)) (nO c b) 0
   else if op=[124]then .bin (ei b [124] [38]) (nO a b) (nO c b) 0
   else if op=[38]then .bin (ei b [38] [124]) (nO a b) (nO c b) 0
   else if op=[85]then .bin (ei b [85] [82]) (nO a b) (nO c b) 0
   else if op=[87]then .bin (ei b [82] [85]) (nO c b) (.bin (ei b [124] [38]) (nO a b) (nO c b) 0) 0
   else .bin (ei b [82] [85]) (nO a b) (nO c b) 0
def isN:Fo->Bool
 | .leaf _ _ _=>true
 | .un op a _=>if op=[33]then decide (a.op=opLab)else decide (op=[88])&&isN a
 | .bin op a b _=>(decide (op≠[61,62])&&decide (op≠[87]))&&(isN a&&isN b)
def isTr(x:Fo):Bool:=decide (x.op=opTrue) || decide (x.op=opFalse)
def same(a b:Fo):Bool:=decide (a.bare=b.bare)
def smJ(f a b:Fo)(no al:List UInt8):Fo:=
 if a.op=no∨b.op=al then b else if b.op=no∨a.op=al∨same a b=true then a else f
def smB(op:List UInt8)(a b:Fo)(p:Nat):Fo:=
 if op=[38]then smJ (.bin op a b p) a b opTrue opFalse
 else if op=[124]then smJ (.bin op a b p) a b opFalse opTrue
 else if op=[85]then(if isTr b=true∨a.op=opFalse∨same a b=true then b else .bin op a b p)
 else if op=[82]then(if isTr b=true∨a.op=opTrue∨same a b=true then b else .bin op a b p)
 else .bin op a b p
def smO:Fo->Fo
 | .leaf op nm p=>.leaf op nm p
 | .un op a p=>if op=[88]/\isTr (smO a)=true then smO a else .un op (smO a) p
 | .bin op a b p=>smB op (smO a) (smO b) p
theorem pk4{op:List UInt8}(h:pk op=4):op=[33]∨op=[88]∨op=[70]∨op=[71]:=by
 unfold pk at h
 repeat' split at h
 all_goals first | omega | assumption
theorem pk03{op:List UInt8}(h:pk op<4):op=[61,62]∨op=[124]∨op=[38]∨op=[85]∨op=[87]∨op=[82]:=by
 unfold pk at h
 split at h
 · exact .inl ‹_›
 split at h
 · exact .inr (.inl ‹_›)
 split at h
 · exact .inr (.inr (.inl ‹_›))
 split at h
 · exact .inr (.inr (.inr ‹_›))
 split at h<;>omega
theorem okf_ind{P:Fo->Prop}(h0:∀p,P (.leaf opTrue [] p))(h1:∀p,P (.leaf opFalse [] p))(h2:∀nm p,nm.length<=65536->P (.leaf opLab nm p))
 (h3:∀op a p,op=[33]∨op=[88]∨op=[70]∨op=[71]->OkF a->P a->P (.un op a p))
 (h4:∀op a b p,op=[61,62]∨op=[124]∨op=[38]∨op=[85]∨op=[87]∨op=[82]->OkF a->OkF b->P a->P b->P (.bin op a b p)):∀f,OkF f->P f
 | .leaf op nm p,h=>by
   rcases h with⟨rfl,h⟩ | ⟨rfl | rfl,rfl⟩
   · exact h2 _ _ h
   · exact h0 _
   · exact h1 _
 | .un op a p,h=>h3 _ _ _ (pk4 h.1) h.2 (okf_ind h0 h1 h2 h3 h4 a h.2)
 | .bin op a b p,h=>h4 _ _ _ _ (pk03 h.1) h.2.1 h.2.2 (okf_ind h0 h1 h2 h3 h4 a h.2.1) (okf_ind h0 h1 h2 h3 h4 b h.2.2)
section
variable {b:Bool} {a c:Fo} {p:Nat}
theorem n_true:nO (.leaf opTrue [] p) b= .leaf (ei b opTrue opFalse) [] 0:=by simp[nO]
theorem n_false:nO (.leaf opFalse [] p) b= .leaf (ei b opFalse opTrue) [] 0:=by simp[nO,show opFalse≠opTrue by decide]
theorem n_lab{nm:List UInt8}:nO (.leaf opLab nm p) b=if b=true then .un [33] (.leaf opLab nm 0) 0 else .leaf opLab nm 0:=by simp[nO,show opLab≠opTrue by decide,show opLab≠opFalse by decide]
theorem n_not:nO (.un [33] a p) b=nO a (!b):=by simp[nO]
theorem n_X:nO (.un [88] a p) b= .un [88] (nO a b) 0:=by simp[nO]
theorem n_F:nO (.un [70] a p) b= .bin (ei b [85] [82]) (.leaf (ei b opTrue opFalse) [] 0) (nO a b) 0:=by simp[nO]
theorem n_G:nO (.un [71] a p) b= .bin (ei b [82] [85]) (.leaf (ei b opFalse opTrue) [] 0) (nO a b) 0:=by simp[nO]
theorem n_imp:nO (.bin [61,62] a c p) b= .bin (ei b [124] [38]) (nO a (!b)) (nO c b) 0:=by simp[nO]
theorem n_or:nO (.bin [124] a c p) b= .bin (ei b [124] [38]) (nO a b) (nO c b) 0:=by simp[nO]
theorem n_and:nO (.bin [38] a c p) b= .bin (ei b [38] [124]) (nO a b) (nO c b) 0:=by simp[nO]
theorem n_U:nO (.bin [85] a c p) b= .bin (ei b [85] [82]) (nO a b) (nO c b) 0:=by simp[nO]
theorem n_W:nO (.bin [87] a c p) b= .bin (ei b [82] [85]) (nO c b) (.bin (ei b [124] [38]) (nO a b) (nO c b) 0) 0:=by simp[nO]
theorem n_R:nO (.bin [82] a c p) b= .bin (ei b [82] [85]) (nO a b) (nO c b) 0:=by simp[nO]
end
theorem okf_nO:∀f,OkF f->∀b,OkF (nO f b):=by
 refine okf_ind ?_ ?_ ?_ ?_ ?_
 · intro p b;rw[n_true];cases b
   · exact .inr ⟨.inl rfl,rfl⟩
   · exact .inr ⟨.inr rfl,rfl⟩
 · intro p b;rw[n_false];cases b
   · exact .inr ⟨.inr rfl,rfl⟩
   · exact .inr ⟨.inl rfl,rfl⟩
 · intro nm p h b;rw[n_lab];cases b
   · exact .inl ⟨rfl,h⟩
   · exact⟨by decide,.inl ⟨rfl,h⟩⟩
 · rintro op a p (rfl | rfl | rfl | rfl) - h b
   · rw[n_not];exact h _
   · rw[n_X];exact⟨by decide,h _⟩
   · rw[n_F];refine⟨by cases b<;>decide,?_,h _⟩
     cases b
     · exact .inr ⟨.inl rfl,rfl⟩
     · exact .inr ⟨.inr rfl,rfl⟩
   · rw[n_G];refine⟨by cases b<;>decide,?_,h _⟩
     cases b
     · exact .inr ⟨.inr rfl,rfl⟩
     · exact .inr ⟨.inl rfl,rfl⟩
 · rintro op a c p (rfl | rfl | rfl | rfl | rfl | rfl) - - h1 h2 b
   · rw[n_imp];exact⟨by cases b<;>decide,h1 _,h2 _⟩
   · rw[n_or];exact⟨by cases b<;>decide,h1 _,h2 _⟩
   · rw[n_and];exact⟨by cases b<;>decide,h1 _,h2 _⟩
   · rw[n_U];exact⟨by cases b<;>decide,h1 _,h2 _⟩
   · rw[n_W];exact⟨by cases b<;>decide,h2 _,by cases b<;>decide,h1 _,h2 _⟩
   · rw[n_R];exact⟨by cases b<;>decide,h1 _,h2 _⟩
theorem isN_nO:∀f,OkF f->∀b,isN (nO f b)=true:=by
 refine okf_ind ?_ ?_ ?_ ?_ ?_
 · intro p b;rw[n_true];rfl
 · intro p b;rw[n_false];rfl
 · intro nm p h b;rw[n_lab];cases b<;>rfl
 · rintro op a p (rfl | rfl | rfl | rfl) - h b
   · rw[n_not];exact h _
   · rw[n_X];simp[isN,h]
   · rw[n_F];cases b<;>simp[isN,ei,h]
   · rw[n_G];cases b<;>simp[isN,ei,h]
 · rintro op a c p (rfl | rfl | rfl | rfl | rfl | rfl) - - h1 h2 b
   · rw[n_imp];cases b<;>simp[isN,ei,h1,h2]
   · rw[n_or];cases b<;>simp[isN,ei,h1,h2]
   · rw[n_and];cases b<;>simp[isN,ei,h1,h2]
   · rw[n_U];cases b<;>simp[isN,ei,h1,h2]
   · rw[n_W];cases b<;>simp[isN,ei,h1,h2]
   · rw[n_R];cases b<;>simp[isN,ei,h1,h2]
theorem nO_nO:∀f,OkF f->∀b c,nO (nO f b) c=nO f (b ^^ c):=by
 refine okf_ind ?_ ?_ ?_ ?_ ?_
 · intro p b c;cases b<;>cases c<;>rfl
 · intro p b c;cases b<;>cases c<;>rfl
 · intro nm p h b c;rw[n_lab,n_lab];cases b<;>cases c<;>rfl
 · rintro op a p (rfl | rfl | rfl | rfl) - h b c
   · rw[n_not,n_not,h];cases b<;>cases c<;>rfl
   · rw[n_X,n_X,n_X,h]
   · rw[n_F,n_F];cases b<;>cases c<;>simp[ei,n_U,n_R,n_true,n_false,h]
   · rw[n_G,n_G];cases b<;>cases c<;>simp[ei,n_U,n_R,n_true,n_false,h]
 · rintro op a c p (rfl | rfl | rfl | rfl | rfl | rfl) - - h1 h2 b d
   · rw[n_imp,n_imp];cases b<;>cases d<;>simp[ei,n_or,n_and,h1,h2]
   · rw[n_or,n_or];cases b<;>cases d<;>simp[ei,n_or,n_and,h1,h2]
   · rw[n_and,n_and];cases b<;>cases d<;>simp[ei,n_or,n_and,h1,h2]
   · rw[n_U,n_U];cases b<;>cases d<;>simp[ei,n_U,n_R,h1,h2]
   · rw[n_W,n_W];cases b<;>cases d<;>simp[ei,n_U,n_R,n_or,n_and,h1,h2]
   · rw[n_R,n_R];cases b<;>cases d<;>simp[ei,n_U,n_R,h1,h2]
theorem nO_isN:∀f,OkF f->isN f=true->nO f false=f.bare:=by
 refine okf_ind ?_ ?_ ?_ ?_ ?_
 · intro p _;rfl
 · intro p _;rfl
 · intro nm p h _;rfl
 · rintro op a p (rfl | rfl | rfl | rfl) ho h g
   · rw[n_not]
     simp only[isN,if_true,decide_eq_true_eq]at g
     cases a with
     | leaf o nm q=>
       simp only[Fo.op]at g
       subst g
       have hn:(!false)=true:=rfl
       rw[n_lab,if_pos hn]
       rfl
     | un o _ _=>simp only[Fo.op]at g;subst g;exact absurd ho.1 (by decide)
     | bin o _ _ _=>simp only[Fo.op]at g;subst g;exact absurd ho.1 (by decide)
   · rw[n_X,h (by simpa[isN]using g)];rfl
   · exact absurd g (by simp[isN])
   · exact absurd g (by simp[isN])
 · rintro op a c p (rfl | rfl | rfl | rfl | rfl | rfl) - - h1 h2 g
   · exact absurd g (by simp[isN])
   · simp only[isN,Bool.and_eq_true]at g;rw[n_or,h1 g.2.1,h2 g.2.2];rfl
   · simp only[isN,Bool.and_eq_true]at g;rw[n_and,h1 g.2.1,h2 g.2.2];rfl
   · simp only[isN,Bool.and_eq_true]at g;rw[n_U,h1 g.2.1,h2 g.2.2];rfl
   · exact absurd g (by simp[isN])
   · simp only[isN,Bool.and_eq_true]at g;rw[n_R,h1 g.2.1,h2 g.2.2];rfl
theorem smJ_one(f a b:Fo)(no al:List UInt8):smJ f a b no al=a∨smJ f a b no al=b∨smJ f a b no al=f:=by
 unfold smJ
 split
 · exact .inr (.inl rfl)
 · split
   · exact .inl rfl
   · exact .inr (.inr rfl)
theorem smB_one(op:List UInt8)(a b:Fo)(p:Nat):smB op a b p=a∨smB op a b p=b∨smB op a b p= .bin op a b p:=by
 unfold smB
 split
 · exact smJ_one _ _ _ _ _
 split
 · exact smJ_one _ _ _ _ _
 split
 · split
   · exact .inr (.inl rfl)
   · exact .inr (.inr rfl)
 split
 · split
   · exact .inr (.inl rfl)
   · exact .inr (.inr rfl)
 exact .inr (.inr rfl)
theorem smO_smO:∀f,smO (smO f)=smO f
 | .leaf op nm p=>rfl
 | .un op a p=>by
   rw[smO]
   split
   · exact smO_smO a
   · next h=>rw[smO,smO_smO a,if_neg h]
 | .bin op a b p=>by
   rw[smO]
   rcases smB_one op (smO a) (smO b) p with h | h | h
   · rw[h];exact smO_smO a
   · rw[h];exact smO_smO b
   · rw[h,smO,smO_smO a,smO_smO b,h]
theorem smO_size:∀f,(smO f).size<=f.size
 | .leaf op nm p=>Nat.le_refl _
 | .un op a p=>by
   have:=smO_size a
   rw[smO]
   split
   · simp only[Fo.size];omega
   · simp only[Fo.size];omega
 | .bin op a b p=>by
   have h1:=smO_size a
   have h2:=smO_size b
   rw[smO]
   rcases smB_one op (smO a) (smO b) p with h | h | h<;>rw[h]<;>simp only[Fo.size]<;>omega
theorem smO_okf:∀f,OkF f->OkF (smO f)
 | .leaf op nm p,h=>h
 | .un op a p,h=>by
   rw[smO]
   split
   · exact smO_okf a h.2
   · exact⟨h.1,smO_okf a h.2⟩
 | .bin op a b p,h=>by
   rw[smO]
   rcases smB_one op (smO a) (smO b) p with g | g | g<;>rw[g]
   · exact smO_okf a h.2.1
   · exact smO_okf b h.2.2
   · exact⟨h.1,smO_okf a h.2.1,smO_okf b h.2.2⟩
theorem smO_lab:∀f,OkF f->f.op=opLab->smO f=f
 | .leaf op nm p,_,_=>rfl
 | .un op a p,h,g=>by simp only[Fo.op]at g;subst g;exact absurd h.1 (by decide)
 | .bin op a b p,h,g=>by simp only[Fo.op]at g;subst g;exact absurd h.1 (by decide)
theorem smO_isN:∀f,OkF f->isN f=true->isN (smO f)=true
 | .leaf op nm p,_,_=>rfl
 | .un op a p,h,g=>by
   rw[smO]
   split
   · next q=>rw[isN,if_neg (by rw[q.1];decide)]at g;rw[Bool.and_eq_true]at g;exact smO_isN a h.2 g.2
   · next q=>
     rw[isN]at g ⊢
     split at g
     · next r=>rw[if_pos r,smO_lab a h.2 (of_decide_eq_true g)];exact g
     · next r=>rw[if_neg r];simp only[Bool.and_eq_true]at g ⊢;exact⟨g.1,smO_isN a h.2 g.2⟩
 | .bin op a b p,h,g=>by
   rw[smO]
   simp only[isN,Bool.and_eq_true]at g
   rcases smB_one op (smO a) (smO b) p with q | q | q<;>rw[q]
   · exact smO_isN a h.2.1 g.2.1
   · exact smO_isN b h.2.2 g.2.2
   · simp only[isN,Bool.and_eq_true];exact⟨g.1,smO_isN a h.2.1 g.2.1,smO_isN b h.2.2 g.2.2⟩
theorem lbs_smO:∀f,∀x∈lbs (smO f),x∈lbs f
 | .leaf op nm p,x,h=>h
 | .un op a p,x,h=>by
   rw[smO]at h
   split at h
   · exact lbs_smO a x h
   · exact lbs_smO a x h
 | .bin op a b p,x,h=>by
   rw[smO]at h
   rcases smB_one op (smO a) (smO b) p with q | q | q<;>rw[q]at h
   · exact List.mem_append.2 (.inl (lbs_smO a x h))
   · exact List.mem_append.2 (.inr (lbs_smO b x h))
   · exact(List.mem_append.1 h).elim (fun h=>List.mem_append.2 (.inl (lbs_smO a x h))) (fun h=>List.mem_append.2 (.inr (lbs_smO b x h)))
theorem lbs_nO:∀f,OkF f->∀b x,x∈lbs (nO f b)↔x∈lbs f:=by
 refine okf_ind ?_ ?_ ?_ ?_ ?_
 · intro p b x;rw[n_true];cases b<;>simp[lbs,ei,show opTrue≠opLab by decide,show opFalse≠opLab by decide]
 · intro p b x;rw[n_false];cases b<;>simp[lbs,ei,show opTrue≠opLab by decide,show opFalse≠opLab by decide]
 · intro nm p h b x;rw[n_lab];cases b<;>simp[lbs]
 · rintro op a p (rfl | rfl | rfl | rfl) - h b x
   · rw[n_not,h];rfl
   · rw[n_X];simp[lbs,h]
   · rw[n_F];cases b<;>simp[lbs,ei,h,show opTrue≠opLab by decide,show opFalse≠opLab by decide]
   · rw[n_G];cases b<;>simp[lbs,ei,h,show opTrue≠opLab by decide,show opFalse≠opLab by decide]
 · rintro op a c p (rfl | rfl | rfl | rfl | rfl | rfl) - - h1 h2 b x
   · rw[n_imp];simp[lbs,h1,h2]
   · rw[n_or];simp[lbs,h1,h2]
   · rw[n_and];simp[lbs,h1,h2]
   · rw[n_U];simp[lbs,h1,h2]
   · rw[n_W];simp only[lbs,List.mem_append,h1,h2];constructor
     · rintro(h | h | h)
       · exact .inr h
       · exact .inl h
       · exact .inr h
     · rintro(h | h)
       · exact .inr (.inl h)
       · exact .inl h
   · rw[n_R];simp[lbs,h1,h2]
end Go.Proofs.YtmgjpjjglghbaaaGreatDoor
