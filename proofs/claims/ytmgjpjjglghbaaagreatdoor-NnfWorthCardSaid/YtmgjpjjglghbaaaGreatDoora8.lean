import Derived.Test.YtmgjpjjglghbaaaGreatDoora7
namespace Go.Proofs.YtmgjpjjglghbaaaGreatDoor
set_option maxHeartbeats 16000000
set_option maxRecDepth 100000
inductive St where
 | good (us:List Tok)
 | bad (c p:Nat)
def St.hd:St->Tok
 | .good us=>Go.Proofs.YtmgjpjjglghbaaaGreatDoor.hd us
 | .bad _ _=>⟨0,[],0⟩
def St.tl:St->St
 | .good us=>.good us.tail
 | .bad c p=>.bad c p
def St.fail(c:Nat):St->St
 | .good us=>.bad c (Go.Proofs.YtmgjpjjglghbaaaGreatDoor.hd us).pos
 | .bad c' p=>.bad c' p
def St.len:St->Nat
 | .good us=>us.length
 | .bad _ _=>0
def St.Fine:St->Prop
 | .good us=>Go.Proofs.YtmgjpjjglghbaaaGreatDoor.Fine us
 | .bad _ _=>True
def St.want(x:List UInt8)(st:St):St:=if isT st.hd x then st.tl else st.fail 20
def Le(a b:St):Prop:=a.len<=b.len/\(b.Fine->a.Fine)
theorem Le.refl(a:St):Le a a:=⟨Nat.le_refl _,id⟩
theorem Le.trans{a b c:St}(h:Le a b)(k:Le b c):Le a c:=⟨Nat.le_trans h.1 k.1,fun h'=>h.2 (k.2 h')⟩
theorem hd_bad{st:St}(h:st.hd.kind≠0):∃us,st= .good us/\us≠[]:=by
 cases st with
 | bad c p=>exact absurd rfl h
 | good us=>exact⟨us,rfl,by rintro rfl;exact h rfl⟩
theorem tl_le{st:St}(h:st.hd.kind≠0):Le st.tl st/\st.tl.len<st.len:=by
 obtain⟨us,rfl,hu⟩:=hd_bad h
 have hp:0<us.length:=List.length_pos_iff.2 hu
 refine⟨⟨by simp[St.tl,St.len],fun hf=>(Go.Proofs.YtmgjpjjglghbaaaGreatDoor.Fine.more hf h).1⟩,by simp[St.tl,St.len];omega⟩
theorem fail_le{c:Nat}(st:St):Le (st.fail c) st:=by
 cases st with
 | bad c p=>exact Le.refl _
 | good us=>exact⟨Nat.zero_le _,fun _=>trivial⟩
theorem want_le(x:List UInt8)(st:St):Le (st.want x) st:=by
 unfold St.want
 split
 · next h=>exact(tl_le (isT_kind h)).1
 · exact fail_le st
end Go.Proofs.YtmgjpjjglghbaaaGreatDoor
