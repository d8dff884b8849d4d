import Derived.Test.YtmgjpjjglghbaaaGreatDoora2
import Derived.Lib.ItoaNum
namespace Go.Proofs.YtmgjpjjglghbaaaGreatDoor
set_option maxHeartbeats 16000000
set_option maxRecDepth 100000
section
inductive Ex where
 | leaf (op nm:List UInt8) (n:Nat) (p:Nat)
 | un (op:List UInt8) (a:Ex) (p:Nat)
 | bin (op:List UInt8) (a b:Ex) (p:Nat)
 | cond (a b c:Ex) (p:Nat)
 deriving DecidableEq
def isT(t:Tok)(x:List UInt8):Bool:=(t.kind==1 || t.kind==4)&&t.text==x
def hd(us:List Tok):Tok:=us.headD ⟨0,[],0⟩
inductive PR where
 | ok (e:Ex) (r:List Tok)
 | er (c p:Nat)
 deriving DecidableEq
def opTrue:List UInt8:=[116,114,117,101]
def opFalse:List UInt8:=[102,97,108,115,101]
def lo(k place:Nat):Nat:=if k=4∨k=8 then k else if k=5 then 6 else if k=0∨k=1 then k+1 - min place 1 else k+place
def parX(b:Bool)(l:List UInt8):List UInt8:=if b then 40::l++[41]else l
def Fine:List Tok->Prop
 | []=>False
 | [t]=>t.kind=0/\t.text=[]
 | t::u::us=>t.kind≠0/\t.text.length<=65536/\(t.kind=1->∃c r,t.text=c::r/\letterB c=true/\∀x∈t.text,nameB x=true)/\
    (t.kind=2->t.text≠[]/\(∀c∈t.text,digitB c=true)/\valOf t.text<9223372036854775808)/\Fine (u::us)
theorem Fine.more{us:List Tok}(h:Fine us)(h0:(hd us).kind≠0):Fine us.tail/\us.tail≠[]:=by
 match us,h with
 | [t],h=>exact absurd h.1 h0
 | t::u::r,h=>exact⟨h.2.2.2.2,by simp⟩
theorem Fine.len{us:List Tok}(h:Fine us):(hd us).text.length<=65536:=by
 match us,h with
 | [t],h=>simp[hd,h.2]
 | t::u::r,h=>exact h.2.1
theorem isT_kind{t:Tok}{x:List UInt8}(h:isT t x=true):t.kind≠0:=by
 intro h0
 simp[isT,h0]at h
theorem isT_text{t:Tok}{x:List UInt8}(h:isT t x=true):t.text=x:=by
 simp[isT]at h
 exact h.2
end
section
theorem meas_name{r:List UInt8}{n:Nat}(h0:r≠[])(h:meas r=(1,n,0)):∃c s,r.take n=c::s/\letterB c=true/\∀x∈r.take n,nameB x=true:=by
 cases r with
 | nil=>exact absurd rfl h0
 | cons c s=>
   simp only[meas]at h
   split at h
   · injection h with h _;cases h
   · split at h
     · rename_i hl
       injection h with _ h
       injection h with hn _
       rw[<- hn,take_cnt]
       have hc:nameB c=true:=by simp[nameB,hl]
       refine⟨c,s.takeWhile nameB,by rw[List.takeWhile_cons,if_pos hc],hl,all_while nameB _⟩
     · split at h
       · injection h with h _;cases h
       · injection h with h _;cases h
theorem fine_of_good{l:List UInt8}(hl:l.length<=65536):∀{ts:List Tok} {i:Nat},Good l i ts->Fine ts
 | [],_,h=>h.elim
 | [t],_,h=>⟨h.1,h.2.1⟩
 | t::u::us,i,h=>by
   have hn:=good_num h t (by simp)
   obtain⟨_,h2,⟨n,hm,ht,hg⟩,_⟩:=h
   have hk:=meas_kinds (drop_ne h2) hm
   refine⟨by omega,by omega,fun h1=>?_,hn.2,fine_of_good hl hg⟩
   rw[h1]at hm ht
   have ht2:t.text=(l.drop t.pos).take n:=ht
   rw[ht2]
   exact meas_name (drop_ne h2) hm
theorem fine_toks{l:List UInt8}{ts:List Tok}(hl:l.length<=65536)(h:toks l= .ok ts):Fine ts:=fine_of_good hl (good_toks h)
end
end Go.Proofs.YtmgjpjjglghbaaaGreatDoor
