import Derived.Test.YtmgjpjjglghbaaaGreatDoorf0
import Derived.Test.YtmgjpjjglghbaaaGreatDoorc1
namespace Go.Proofs.YtmgjpjjglghbaaaGreatDoor
set_option maxHeartbeats 16000000
set_option maxRecDepth 100000
section
open Go.ChangeShapes Go.WideShapes Go.ChangeAt Go.RowKit Go.Deep
theorem pick_list{α:Type}{P:Nat->α->Prop}:∀(n:Nat),(∀i,i<n->∃x,P i x)->∃l:List α,l.length=n/\∀i (hi:i<l.length),P i l[i]
 | 0,_=>⟨[],rfl,fun i hi=>absurd hi (by simp)⟩
 | n+1,h=>by
   obtain⟨l,hl,hp⟩:=pick_list n (fun i hi=>h i (by omega))
   obtain⟨x,hx⟩:=h n (by omega)
   refine⟨l++[x],by simp[hl],fun i hi=>?_⟩
   by_cases hin:i<l.length
   · rw[List.getElem_append_left hin]
     exact hp i hin
   · have:i=n:=by simp at hi;omega
     subst this
     have e:(l++[x])[i]=x:=by rw[List.getElem_append_right (by omega)];simp[hl]
     rw[e]
     exact hx
section
variable {H:Type} {enc:TypeId×Value->H} {W:World}
theorem open_sl{t e:TypeId}{fuel:Nat}{c:Value}{x:DataW H×List MemPlace}(k:Nat)(ht:Tryz.prog.underlying t=some (.slice e))(hk:Tryz.prog.cellsOf e=k)(h0:0<k)
 (h:DataW.trod enc Tryz.prog W 0 (fun _=>true) true fuel t [c]=some x):
 ∃a0 len cap,c= .slice a0 len cap/\CapOk a0 len cap/\len<=maxLen/\∀i,i<len->∃g o cs' fuel' y,a0=some ⟨g,o,none⟩/\cs'.length=k/\(∀j (hj:j<cs'.length),W.cell? ⟨g,o+(i*k+j),none⟩=some cs'[j])/\DataW.trod enc Tryz.prog W 0 (fun _=>true) true fuel' e cs'=some y:=by
 rcases Go.Deep.open_slice ht h with⟨hcs,_⟩ | ⟨a,len,cap,m,nf,D,Pl,hcs,_,hl,hm,hmm,_,hel⟩
 · injection hcs with h1 _
   subst h1
   exact⟨none,0,0,rfl,⟨Nat.le_refl _,fun _=>rfl⟩,by simp,fun i hi=>absurd hi (by omega)⟩
 · injection hcs with h1 _
   subst h1
   simp only[if_true]at hmm
   refine⟨some a,len,cap,rfl,⟨hl,fun h=>by cases h⟩,by omega,fun i hi=>?_⟩
   have hs:a.spot=none:=by
    obtain⟨cs0,hcs0,_⟩:=hel 0 (by omega)
    rw[hk]at hcs0
    obtain⟨_,hlen0,hcell0⟩:=World.cells?_some hcs0
    have hc:=hcell0 0 h0
    have hb:0<cs0.length:=by omega
    rw[List.getElem?_eq_getElem hb]at hc
    have:=spot_none hc
    simpa[Addr.add]using this
   obtain⟨cs',hcs',htr⟩:=hel i (by omega)
   rw[hk]at hcs'
   obtain⟨_,hlen,hcell⟩:=World.cells?_some hcs'
   refine⟨a.block,a.off,cs',nf,_,?_,hlen,fun j hj=>?_,htr⟩
   · obtain⟨ab,ao,sp⟩:=a
     simp only at hs
     subst hs
     rfl
   · have:=hcell j (by omega)
     rw[add_add,add_eq a hs,List.getElem?_eq_getElem hj]at this
     exact this
end
end
section
open Go.ChangeShapes Go.WideShapes Go.ChangeAt Go.RowKit Go.Deep
theorem cellsY1:Tryz.prog.cellsOf 5=1:=by kernel_rfl
theorem u8s_of{H:Type}{enc:TypeId×Value->H}{W:World}{a0:Option Addr}{len cap:Nat}{d:DataW H}{p:List MemPlace}(h:DataW.Trod enc Tryz.prog W 0 (fun _=>true) true 50 (.slice a0 len cap) d p):
 ∃l:List Int,len=l.length/\USl W a0 l:=by
 obtain⟨fuel,hf⟩:=h
 obtain⟨b0,len2,cap2,hc,hcap,hlm,hel⟩:=open_sl 1 Tryz.underlying50 cellsY1 (by decide) (c:=.slice a0 len cap) hf
 injection hc with q1 q2 q3
 subst q1 q2 q3
 obtain⟨l,rfl,hl⟩:=pick_list (P:=fun i (z:Int)=>∃g o,a0=some ⟨g,o,none⟩/\W.cell? ⟨g,o+i,none⟩=some (.int .u8 z)/\0<=z/\z<=255) len (fun i hi=>by
  obtain⟨g,o,cs',f',y,rfl,h1,h2,h3⟩:=hel i hi
  match cs',h1 with
  | [u],_=>
    obtain⟨z,hz,_,hw⟩:=DataW.trod_int Tryz.underlying5 h3
    injection hz with hz
    subst hz
    exact⟨z,g,o,rfl,by simpa using h2 0 (by simp),u8_wf hw⟩)
 exact⟨l,rfl,hl⟩
end
end Go.Proofs.YtmgjpjjglghbaaaGreatDoor
