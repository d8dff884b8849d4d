import Derived.Test.YtmgjpjjglghbaaaGreatDoord0
import Derived.Test.YtmgjpjjglghbaaaGreatDoorb6
import Derived.Test.YtmgjpjjglghbaaaGreatDoorb3
import Derived.Deep.RegionHeld3
namespace Go.Proofs.YtmgjpjjglghbaaaGreatDoor
set_option maxHeartbeats 16000000
set_option maxRecDepth 100000
open Go.RowKit
def KnP(n:Nat)(w:World)(e:Ending)(w':World):Prop:=e= .returned (.int .i64 (n:Int))/\w'=w
theorem nkids_of0(s:ByteArray)(w:World)(h:s.toList=[116,114,117,101]):Calls Tryz.prog 91 #[.string s] w (KnP 0 w):=by
 have g0:(s.toList==[116,114,117,101])=true:=by rw[h];rfl
 have g1:(s.toList==[102,97,108,115,101])=false:=by rw[h];rfl
 have g2:(s.toList==[108,97,98,101,108])=false:=by rw[h];rfl
 have g3:(s.toList==[33])=false:=by rw[h];rfl
 have g4:(s.toList==[88])=false:=by rw[h];rfl
 have g5:(s.toList==[70])=false:=by rw[h];rfl
 have g6:(s.toList==[71])=false:=by rw[h];rfl
 have g7:(s.toList==[38])=false:=by rw[h];rfl
 have g8:(s.toList==[124])=false:=by rw[h];rfl
 have g9:(s.toList==[61,62])=false:=by rw[h];rfl
 have g10:(s.toList==[85])=false:=by rw[h];rfl
 have g11:(s.toList==[87])=false:=by rw[h];rfl
 have g12:(s.toList==[82])=false:=by rw[h];rfl
 clear h
 go_enter Tryz.func91,Tryz.ntmps91
 go_wp2
 go_ret
 exact⟨rfl,rfl⟩
theorem nkids_of1(s:ByteArray)(w:World)(h:s.toList=[102,97,108,115,101]):Calls Tryz.prog 91 #[.string s] w (KnP 0 w):=by
 have g0:(s.toList==[116,114,117,101])=false:=by rw[h];rfl
 have g1:(s.toList==[102,97,108,115,101])=true:=by rw[h];rfl
 have g2:(s.toList==[108,97,98,101,108])=false:=by rw[h];rfl
 have g3:(s.toList==[33])=false:=by rw[h];rfl
 have g4:(s.toList==[88])=false:=by rw[h];rfl
 have g5:(s.toList==[70])=false:=by rw[h];rfl
 have g6:(s.toList==[71])=false:=by rw[h];rfl
 have g7:(s.toList==[38])=false:=by rw[h];rfl
 have g8:(s.toList==[124])=false:=by rw[h];rfl
 have g9:(s.toList==[61,62])=false:=by rw[h];rfl
 have g10:(s.toList==[85])=false:=by rw[h];rfl
 have g11:(s.toList==[87])=false:=by rw[h];rfl
 have g12:(s.toList==[82])=false:=by rw[h];rfl
 clear h
 go_enter Tryz.func91,Tryz.ntmps91
 go_wp2
 go_ret
 exact⟨rfl,rfl⟩
theorem nkids_of2(s:ByteArray)(w:World)(h:s.toList=[108,97,98,101,108]):Calls Tryz.prog 91 #[.string s] w (KnP 0 w):=by
 have g0:(s.toList==[116,114,117,101])=false:=by rw[h];rfl
 have g1:(s.toList==[102,97,108,115,101])=false:=by rw[h];rfl
 have g2:(s.toList==[108,97,98,101,108])=true:=by rw[h];rfl
 have g3:(s.toList==[33])=false:=by rw[h];rfl
 have g4:(s.toList==[88])=false:=by rw[h];rfl
 have g5:(s.toList==[70])=false:=by rw[h];rfl
 have g6:(s.toList==[71])=false:=by rw[h];rfl
 have g7:(s.toList==[38])=false:=by rw[h];rfl
 have g8:(s.toList==[124])=false:=by rw[h];rfl
 have g9:(s.toList==[61,62])=false:=by rw[h];rfl
 have g10:(s.toList==[85])=false:=by rw[h];rfl
 have g11:(s.toList==[87])=false:=by rw[h];rfl
 have g12:(s.toList==[82])=false:=by rw[h];rfl
 clear h
 go_enter Tryz.func91,Tryz.ntmps91
 go_wp2
 go_ret
 exact⟨rfl,rfl⟩
theorem nkids_of3(s:ByteArray)(w:World)(h:s.toList=[33]):Calls Tryz.prog 91 #[.string s] w (KnP 1 w):=by
 have g0:(s.toList==[116,114,117,101])=false:=by rw[h];rfl
 have g1:(s.toList==[102,97,108,115,101])=false:=by rw[h];rfl
 have g2:(s.toList==[108,97,98,101,108])=false:=by rw[h];rfl
 have g3:(s.toList==[33])=true:=by rw[h];rfl
 have g4:(s.toList==[88])=false:=by rw[h];rfl
 have g5:(s.toList==[70])=false:=by rw[h];rfl
 have g6:(s.toList==[71])=false:=by rw[h];rfl
 have g7:(s.toList==[38])=false:=by rw[h];rfl
 have g8:(s.toList==[124])=false:=by rw[h];rfl
 have g9:(s.toList==[61,62])=false:=by rw[h];rfl
 have g10:(s.toList==[85])=false:=by rw[h];rfl
 have g11:(s.toList==[87])=false:=by rw[h];rfl
 have g12:(s.toList==[82])=false:=by rw[h];rfl
 clear h
 go_enter Tryz.func91,Tryz.ntmps91
 go_wp2
 go_ret
 exact⟨rfl,rfl⟩
theorem nkids_of4(s:ByteArray)(w:World)(h:s.toList=[88]):Calls Tryz.prog 91 #[.string s] w (KnP 1 w):=by
 have g0:(s.toList==[116,114,117,101])=false:=by rw[h];rfl
 have g1:(s.toList==[102,97,108,115,101])=false:=by rw[h];rfl
 have g2:(s.toList==[108,97,98,101,108])=false:=by rw[h];rfl
 have g3:(s.toList==[33])=false:=by rw[h];rfl
 have g4:(s.toList==[88])=true:=by rw[h];rfl
 have g5:(s.toList==[70])=false:=by rw[h];rfl
 have g6:(s.toList==[71])=false:=by rw[h];rfl
 have g7:(s.toList==[38])=false:=by rw[h];rfl
 have g8:(s.toList==[124])=false:=by rw[h];rfl
 have g9:(s.toList==[61,62])=false:=by rw[h];rfl
 have g10:(s.toList==[85])=false:=by rw[h];rfl
 have g11:(s.toList==[87])=false:=by rw[h];rfl
 have g12:(s.toList==[82])=false:=by rw[h];rfl
 clear h
 go_enter Tryz.func91,Tryz.ntmps91
 go_wp2
 go_ret
 exact⟨rfl,rfl⟩
theorem nkids_of5(s:ByteArray)(w:World)(h:s.toList=[70]):Calls Tryz.prog 91 #[.string s] w (KnP 1 w):=by
 have g0:(s.toList==[116,114,117,101])=false:=by rw[h];rfl
 have g1:(s.toList==[102,97,108,115,101])=false:=by rw[h];rfl
 have g2:(s.toList==[108,97,98,101,108])=false:=by rw[h];rfl
 have g3:(s.toList==[33])=false:=by rw[h];rfl
 have g4:(s.toList==[88])=false:=by rw[h];rfl
 have g5:(s.toList==[70])=true:=by rw[h];rfl
 have g6:(s.toList==[71])=false:=by rw[h];rfl
 have g7:(s.toList==[38])=false:=by rw[h];rfl
 have g8:(s.toList==[124])=false:=by rw[h];rfl
 have g9:(s.toList==[61,62])=false:=by rw[h];rfl
 have g10:(s.toList==[85])=false:=by rw[h];rfl
 have g11:(s.toList==[87])=false:=by rw[h];rfl
 have g12:(s.toList==[82])=false:=by rw[h];rfl
 clear h
 go_enter Tryz.func91,Tryz.ntmps91
 go_wp2
 go_ret
 exact⟨rfl,rfl⟩
theorem nkids_of6(s:ByteArray)(w:World)(h:s.toList=[71]):Calls Tryz.prog 91 #[.string s] w (KnP 1 w):=by
 have g0:(s.toList==[116,114,117,101])=false:=by rw[h];rfl
 have g1:(s.toList==[102,97,108,115,101])=false:=by rw[h];rfl
 have g2:(s.toList==[108,97,98,101,108])=false:=by rw[h];rfl
 have g3:(s.toList==[33])=false:=by rw[h];rfl
 have g4:(s.toList==[88])=false:=by rw[h];rfl
 have g5:(s.toList==[70])=false:=by rw[h];rfl
 have g6:(s.toList==[71])=true:=by rw[h];rfl
 have g7:(s.toList==[38])=false:=by rw[h];rfl
 have g8:(s.toList==[124])=false:=by rw[h];rfl
 have g9:(s.toList==[61,62])=false:=by rw[h];rfl
 have g10:(s.toList==[85])=false:=by rw[h];rfl
 have g11:(s.toList==[87])=false:=by rw[h];rfl
 have g12:(s.toList==[82])=false:=by rw[h];rfl
 clear h
 go_enter Tryz.func91,Tryz.ntmps91
 go_wp2
 go_ret
 exact⟨rfl,rfl⟩
theorem nkids_of7(s:ByteArray)(w:World)(h:s.toList=[38]):Calls Tryz.prog 91 #[.string s] w (KnP 2 w):=by
 have g0:(s.toList==[116,114,117,101])=false:=by rw[h];rfl
 have g1:(s.toList==[102,97,108,115,101])=false:=by rw[h];rfl
 have g2:(s.toList==[108,97,98,101,108])=false:=by rw[h];rfl
 have g3:(s.toList==[33])=false:=by rw[h];rfl
 have g4:(s.toList==[88])=false:=by rw[h];rfl
 have g5:(s.toList==[70])=false:=by rw[h];rfl
 have g6:(s.toList==[71])=false:=by rw[h];rfl
 have g7:(s.toList==[38])=true:=by rw[h];rfl
 have g8:(s.toList==[124])=false:=by rw[h];rfl
 have g9:(s.toList==[61,62])=false:=by rw[h];rfl
 have g10:(s.toList==[85])=false:=by rw[h];rfl
 have g11:(s.toList==[87])=false:=by rw[h];rfl
 have g12:(s.toList==[82])=false:=by rw[h];rfl
 clear h
 go_enter Tryz.func91,Tryz.ntmps91
 go_wp2
 go_ret
 exact⟨rfl,rfl⟩
theorem nkids_of8(s:ByteArray)(w:World)(h:s.toList=[124]):Calls Tryz.prog 91 #[.string s] w (KnP 2 w):=by
 have g0:(s.toList==[116,114,117,101])=false:=by rw[h];rfl
 have g1:(s.toList==[102,97,108,115,101])=false:=by rw[h];rfl
 have g2:(s.toList==[108,97,98,101,108])=false:=by rw[h];rfl
 have g3:(s.toList==[33])=false:=by rw[h];rfl
 have g4:(s.toList==[88])=false:=by rw[h];rfl
 have g5:(s.toList==[70])=false:=by rw[h];rfl
 have g6:(s.toList==[71])=false:=by rw[h];rfl
 have g7:(s.toList==[38])=false:=by rw[h];rfl
 have g8:(s.toList==[124])=true:=by rw[h];rfl
 have g9:(s.toList==[61,62])=false:=by rw[h];rfl
 have g10:(s.toList==[85])=false:=by rw[h];rfl
 have g11:(s.toList==[87])=false:=by rw[h];rfl
 have g12:(s.toList==[82])=false:=by rw[h];rfl
 clear h
 go_enter Tryz.func91,Tryz.ntmps91
 go_wp2
 go_ret
 exact⟨rfl,rfl⟩
theorem nkids_of9(s:ByteArray)(w:World)(h:s.toList=[61,62]):Calls Tryz.prog 91 #[.string s] w (KnP 2 w):=by
 have g0:(s.toList==[116,114,117,101])=false:=by rw[h];rfl
 have g1:(s.toList==[102,97,108,115,101])=false:=by rw[h];rfl
 have g2:(s.toList==[108,97,98,101,108])=false:=by rw[h];rfl
 have g3:(s.toList==[33])=false:=by rw[h];rfl
 have g4:(s.toList==[88])=false:=by rw[h];rfl
 have g5:(s.toList==[70])=false:=by rw[h];rfl
 have g6:(s.toList==[71])=false:=by rw[h];rfl
 have g7:(s.toList==[38])=false:=by rw[h];rfl
 have g8:(s.toList==[124])=false:=by rw[h];rfl
 have g9:(s.toList==[61,62])=true:=by rw[h];rfl
 have g10:(s.toList==[85])=false:=by rw[h];rfl
 have g11:(s.toList==[87])=false:=by rw[h];rfl
 have g12:(s.toList==[82])=false:=by rw[h];rfl
 clear h
 go_enter Tryz.func91,Tryz.ntmps91
 go_wp2
 go_ret
 exact⟨rfl,rfl⟩
theorem nkids_of10(s:ByteArray)(w:World)(h:s.toList=[85]):Calls Tryz.prog 91 #[.string s] w (KnP 2 w):=by
 have g0:(s.toList==[116,114,117,101])=false:=by rw[h];rfl
 have g1:(s.toList==[102,97,108,115,101])=false:=by rw[h];rfl
 have g2:(s.toList==[108,97,98,101,108])=false:=by rw[h];rfl
 have g3:(s.toList==[33])=false:=by rw[h];rfl
 have g4:(s.toList==[88])=false:=by rw[h];rfl
 have g5:(s.toList==[70])=false:=by rw[h];rfl
 have g6:(s.toList==[71])=false:=by rw[h];rfl
 have g7:(s.toList==[38])=false:=by rw[h];rfl
 have g8:(s.toList==[124])=false:=by rw[h];rfl
 have g9:(s.toList==[61,62])=false:=by rw[h];rfl
 have g10:(s.toList==[85])=true:=by rw[h];rfl
 have g11:(s.toList==[87])=false:=by rw[h];rfl
 have g12:(s.toList==[82])=false:=by rw[h];rfl
 clear h
 go_enter Tryz.func91,Tryz.ntmps91
 go_wp2
 go_ret
 exact⟨rfl,rfl⟩
theorem nkids_of11(s:ByteArray)(w:World)(h:s.toList=[87]):Calls Tryz.prog 91 #[.string s] w (KnP 2 w):=by
 have g0:(s.toList==[116,114,117,101])=false:=by rw[h];rfl
 have g1:(s.toList==[102,97,108,115,101])=false:=by rw[h];rfl
 have g2:(s.toList==[108,97,98,101,108])=false:=by rw[h];rfl
 have g3:(s.toList==[33])=false:=by rw[h];rfl
 have g4:(s.toList==[88])=false:=by rw[h];rfl
 have g5:(s.toList==[70])=false:=by rw[h];rfl
 have g6:(s.toList==[71])=false:=by rw[h];rfl
 have g7:(s.toList==[38])=false:=by rw[h];rfl
 have g8:(s.toList==[124])=false:=by rw[h];rfl
 have g9:(s.toList==[61,62])=false:=by rw[h];rfl
 have g10:(s.toList==[85])=false:=by rw[h];rfl
 have g11:(s.toList==[87])=true:=by rw[h];rfl
 have g12:(s.toList==[82])=false:=by rw[h];rfl
 clear h
 go_enter Tryz.func91,Tryz.ntmps91
 go_wp2
 go_ret
 exact⟨rfl,rfl⟩
theorem nkids_of12(s:ByteArray)(w:World)(h:s.toList=[82]):Calls Tryz.prog 91 #[.string s] w (KnP 2 w):=by
 have g0:(s.toList==[116,114,117,101])=false:=by rw[h];rfl
 have g1:(s.toList==[102,97,108,115,101])=false:=by rw[h];rfl
 have g2:(s.toList==[108,97,98,101,108])=false:=by rw[h];rfl
 have g3:(s.toList==[33])=false:=by rw[h];rfl
 have g4:(s.toList==[88])=false:=by rw[h];rfl
 have g5:(s.toList==[70])=false:=by rw[h];rfl
 have g6:(s.toList==[71])=false:=by rw[h];rfl
 have g7:(s.toList==[38])=false:=by rw[h];rfl
 have g8:(s.toList==[124])=false:=by rw[h];rfl
 have g9:(s.toList==[61,62])=false:=by rw[h];rfl
 have g10:(s.toList==[85])=false:=by rw[h];rfl
 have g11:(s.toList==[87])=false:=by rw[h];rfl
 have g12:(s.toList==[82])=true:=by rw[h];rfl
 clear h
 go_enter Tryz.func91,Tryz.ntmps91
 go_wp2
 go_ret
 exact⟨rfl,rfl⟩
theorem nkids_any{x:Fo}(h:OkF x)(s:ByteArray)(hs:s.toList=x.op)(w:World):Calls Tryz.prog 91 #[.string s] w (KnP x.kids.length w):=by
 cases x with
 | leaf op nm p=>
   rcases h with⟨rfl,_⟩ | ⟨rfl | rfl,_⟩
   · exact nkids_of2 s w hs
   · exact nkids_of0 s w hs
   · exact nkids_of1 s w hs
 | un op a p=>
   rcases pk4 h.1 with rfl | rfl | rfl | rfl
   · exact nkids_of3 s w hs
   · exact nkids_of4 s w hs
   · exact nkids_of5 s w hs
   · exact nkids_of6 s w hs
 | bin op a b p=>
   rcases pk03 h.1 with rfl | rfl | rfl | rfl | rfl | rfl
   · exact nkids_of9 s w hs
   · exact nkids_of8 s w hs
   · exact nkids_of7 s w hs
   · exact nkids_of10 s w hs
   · exact nkids_of11 s w hs
   · exact nkids_of12 s w hs
theorem nright_any{x:Fo}(hx:OkF x){c:List Value}{S:Nat->Prop}(w:World)(hc:FS w 27 S x c):Calls Tryz.prog 54 #[.agg c.toArray] w (BoolP true w):=by
 obtain⟨A,cap,rfl, -⟩:=hc.view
 have HK:=Lib.hid (fun(W:World)=>nkids_any hx ⟨x.op.toArray⟩ (by rw[ByteArray.toList_eq]) W)
 obtain⟨W0,hW0⟩:∃W0,W0=w.alloc (.cells #[.string ⟨x.op.toArray⟩,.string ⟨x.nm.toArray⟩,.slice A x.kids.length cap,.int .i64 (x.pos:Int)] 27):=⟨_,rfl⟩
 have hbw:Below w.heap.size w W0:=by rw[hW0];exact below_alloc _ _
 have hbx:Bx W0 w.heap.size 27 [.string ⟨x.op.toArray⟩,.string ⟨x.nm.toArray⟩,.slice A x.kids.length cap,.int .i64 (x.pos:Int)]:=by rw[hW0];exact Bx.new _ _ _
 have HSS:=Lib.hid (show ∀W,Below W0.heap.size W0 W->(W.cell? ⟨w.heap.size,0,none⟩=some (.string ⟨x.op.toArray⟩)/\W.cell? ⟨w.heap.size,2,none⟩=some (.slice A x.kids.length cap))from fun W hW=>⟨((hbx.below hW).cell 0).trans rfl,((hbx.below hW).cell 2).trans rfl⟩)
 have HBW:=Lib.hid hbw
 obtain⟨p,hp⟩:∃p:Int,p=(x.pos:Int):=⟨_,rfl⟩
 show Calls Tryz.prog 54 #[.agg #[.string ⟨x.op.toArray⟩,.string ⟨x.nm.toArray⟩,.slice A x.kids.length cap,.int .i64 (x.pos:Int)]] w _
 rw[<- hp]at hW0 ⊢
 clear hx hc hbw hbx hp
 generalize(⟨x.op.toArray⟩:ByteArray)=o at*
 generalize(⟨x.nm.toArray⟩:ByteArray)=nm at*
 generalize x.kids.length=n at*
 clear x
 have lk:Below W0.heap.size W0 W0.drew:=(Below.refl _ _).drew
 subst hW0
 go_enter Tryz.func54,Tryz.ntmps54
 go_wp2_with fail
 go_region_held3 (fun w'=>w'.cell? ⟨w.heap.size,0,none⟩=some (.string o)/\w'.cell? ⟨w.heap.size,2,none⟩=some (.slice A n cap)) (exact HSS.out _ lk) (first
  | (go_at_call 91
     refine(HK.out _).mono ?_
     rintro e w1 ⟨rfl,rfl⟩))
 all_goals
  have HL:=Lib.hid (below_t HBW.out lk)
  clear lk
  go_wp2
  go_ret
  exact⟨rfl,HL.out⟩
def nr1:Fo->Bool
 | .leaf _ _ _=>true
 | .un op a _=>if op=[33]then decide (a.op=opLab)else decide (op=[88])
 | .bin op _ _ _=>decide (op≠[61,62])&&decide (op≠[87])
def allF(P:Fo->Bool):Fo->Bool
 | .leaf op nm p=>P (.leaf op nm p)
 | .un op a p=>P (.un op a p)&&allF P a
 | .bin op a b p=>P (.bin op a b p)&&(allF P a&&allF P b)
theorem all_true{P:Fo->Bool}(h:∀x,OkF x->P x=true):∀x,OkF x->allF P x=true
 | .leaf _ _ _,hx=>h _ hx
 | .un _ a _,hx=>by rw[allF,h _ hx,all_true h a hx.2];rfl
 | .bin _ a b _,hx=>by rw[allF,h _ hx,all_true h a hx.2.1,all_true h b hx.2.2];rfl
theorem all_nr1:∀x,OkF x->allF nr1 x=isN x:=by
 refine okf_ind ?_ ?_ ?_ ?_ ?_
 · intro p;rfl
 · intro p;rfl
 · intro nm p h;rfl
 · rintro op a p (rfl | rfl | rfl | rfl) ho h
   · rw[allF,isN,nr1,if_pos rfl,h]
     by_cases g:a.op=opLab
     · have:isN a=true:=by
        cases a with
        | leaf o nm q=>rfl
        | un o a q=>simp only[Fo.op]at g;subst g;exact absurd ho.1 (by decide)
        | bin o a b q=>simp only[Fo.op]at g;subst g;exact absurd ho.1 (by decide)
       rw[this,Bool.and_true,if_pos rfl]
     · rw[decide_eq_false g,Bool.false_and,if_pos rfl]
   · rw[allF,isN,nr1,h];rfl
   · rw[allF,isN,nr1,h];rfl
   · rw[allF,isN,nr1,h];rfl
 · rintro op a c p (rfl | rfl | rfl | rfl | rfl | rfl) - - h1 h2
   all_goals rw[allF,isN,nr1,h1,h2]
section
open Go.Lib
theorem step_append_fo{ops:Array Oper}{o:Oper}{a:Act}{w:World}{K:Act->World->Prop}{Q:Exit->Act->World->Prop}{E:Prop}(hgd:o.guard=none)(s x:Operand)
 (ho:o.op= .call {callee:=.builtin .append,args:= #[s,x],argTypes:= #[25,25]}) (base n m c:Nat) (v:Value) (xs news:List Value) (A:Option Addr) (hs:a.eval s=v) (hx:a.eval x= .slice A m c)
 (hown:w.ownsRow base 27 4 v n xs) (hA:(A=none/\m=0/\c=0/\news=[])∨∃ad,A=some ad/\news.length=m*4/\(∀(j:Nat) (u:Value),news[j]?=some u->w.cell? (ad.add j)=some u)/\∀u∈news,u.oneCell'=true)
 (h6:n+m<=1000000) (hbase:base<=w.heap.size)
 (h:∀v' w',w'.ownsRow base 27 4 v' (n+m) (xs++news)->w.grownBy w' v.ownBlock->K (a.put o.dst v') w'):
 if Region.wanted o (yielded ops a.tmps)=true then Oper.wp Tryz.prog o a w K Q else E:=by
 have hw:Region.wanted o (yielded ops a.tmps)=true:=by simp[Region.wanted,hgd]
 rw[if_pos hw]
 obtain⟨i0,hi0,hz⟩:=Option.map_eq_some_iff.1 infoF
 simp only[Prod.mk.injEq]at hz
 obtain⟨hz0,hz1,hz2⟩:=hz
 rcases hA with⟨rfl,rfl,rfl,rfl⟩ | ⟨ad,rfl,hl,hn,h1⟩
 · have hrun:=run_append_owned_none (P:=Tryz.prog) (w:=w) base 25 o.type 27 i0 4 Tryz.underlying25 hi0 v n xs hown
   unfold Oper.wp
   simp[execOp,ho,resolve,invoke,builtin,hs,hx,hrun,Result.andThen]
   exact h v w (by simpa using hown) (World.grownBy.refl _ _)
 · obtain⟨v',w',hr,h2,h3,_,h5⟩:=run_append_own_at (P:=Tryz.prog) w base 25 o.type 27 i0 (.agg #[.string ⟨#[]⟩,.string ⟨#[]⟩,.slice none 0 0,.int .i64 0]) 4 64 Tryz.underlying25 hi0 hz0 hz1 hz2 rfl (by decide) v n xs hown ad m c news hl hn h1 (by unfold maxLen;omega) (by omega) hbase
   unfold Oper.wp
   simp[execOp,ho,resolve,invoke,builtin,hs,hx,hr,Result.andThen]
   exact h v' w' h2 h3
end
theorem nnorm_no0{s nm:ByteArray}{A:Option Addr}{n cap:Nat}{p:Int}(w:World)(h:s.toList=[61,62]):Calls Tryz.prog 61 #[.agg #[.string s,.string nm,.slice A n cap,.int .i64 p]] w (BoolP false w):=by
 have g0:(s.toList==[61,62])=true:=by rw[h];rfl
 have g1:(s.toList==[70])=false:=by rw[h];rfl
 have g2:(s.toList==[71])=false:=by rw[h];rfl
 have g3:(s.toList==[87])=false:=by rw[h];rfl
 have g4:(s.toList==[33])=false:=by rw[h];rfl
 clear h
 go_enter Tryz.func61,Tryz.ntmps61
 go_wp2
 go_ret
 exact⟨rfl,below_alloc _ _⟩
theorem nnorm_no1{s nm:ByteArray}{A:Option Addr}{n cap:Nat}{p:Int}(w:World)(h:s.toList=[70]):Calls Tryz.prog 61 #[.agg #[.string s,.string nm,.slice A n cap,.int .i64 p]] w (BoolP false w):=by
 have g0:(s.toList==[61,62])=false:=by rw[h];rfl
 have g1:(s.toList==[70])=true:=by rw[h];rfl
 have g2:(s.toList==[71])=false:=by rw[h];rfl
 have g3:(s.toList==[87])=false:=by rw[h];rfl
 have g4:(s.toList==[33])=false:=by rw[h];rfl
 clear h
 go_enter Tryz.func61,Tryz.ntmps61
 go_wp2
 go_ret
 exact⟨rfl,below_alloc _ _⟩
theorem nnorm_no2{s nm:ByteArray}{A:Option Addr}{n cap:Nat}{p:Int}(w:World)(h:s.toList=[71]):Calls Tryz.prog 61 #[.agg #[.string s,.string nm,.slice A n cap,.int .i64 p]] w (BoolP false w):=by
 have g0:(s.toList==[61,62])=false:=by rw[h];rfl
 have g1:(s.toList==[70])=false:=by rw[h];rfl
 have g2:(s.toList==[71])=true:=by rw[h];rfl
 have g3:(s.toList==[87])=false:=by rw[h];rfl
 have g4:(s.toList==[33])=false:=by rw[h];rfl
 clear h
 go_enter Tryz.func61,Tryz.ntmps61
 go_wp2
 go_ret
 exact⟨rfl,below_alloc _ _⟩
theorem nnorm_no3{s nm:ByteArray}{A:Option Addr}{n cap:Nat}{p:Int}(w:World)(h:s.toList=[87]):Calls Tryz.prog 61 #[.agg #[.string s,.string nm,.slice A n cap,.int .i64 p]] w (BoolP false w):=by
 have g0:(s.toList==[61,62])=false:=by rw[h];rfl
 have g1:(s.toList==[70])=false:=by rw[h];rfl
 have g2:(s.toList==[71])=false:=by rw[h];rfl
 have g3:(s.toList==[87])=true:=by rw[h];rfl
 have g4:(s.toList==[33])=false:=by rw[h];rfl
 clear h
 go_enter Tryz.func61,Tryz.ntmps61
 go_wp2
 go_ret
 exact⟨rfl,below_alloc _ _⟩
theorem nnorm_not{s nm:ByteArray}{a:Fo}{A:Option Addr}{cap:Nat}{p:Int}{S:Nat->Prop}(w:World)(h:s.toList=[33])(hk:FK w 27 S A [a]):Calls Tryz.prog 61 #[.agg #[.string s,.string nm,.slice A 1 cap,.int .i64 p]] w (BoolP (decide (a.op=opLab)) w):=by
 have g0:(s.toList==[61,62])=false:=by rw[h];rfl
 have g1:(s.toList==[70])=false:=by rw[h];rfl
 have g2:(s.toList==[71])=false:=by rw[h];rfl
 have g3:(s.toList==[87])=false:=by rw[h];rfl
 have g4:(s.toList==[33])=true:=by rw[h];rfl
 obtain⟨g,v,rfl,hg,hx,c0, -⟩:=(hk.below (below_alloc w (.cells #[.string s,.string nm,.slice A 1 cap,.int .i64 p] 27))) 0 (by simp)
 have ho:v.o=⟨a.op.toArray⟩:=hx.opn
 have hb:(v.o.toList==[108,97,98,101,108])=decide (a.op=opLab):=by
  rw[ho,ByteArray.toList_eq]
  show(a.op==opLab)=_
  rw[Bool.eq_iff_iff,beq_iff_eq,decide_eq_true_iff]
 generalize decide (a.op=opLab)=bb at*
 rw[Nat.zero_mul]at c0
 generalize v.o=o at*
 clear h hk hx hg ho
 go_enter Tryz.func61,Tryz.ntmps61
 cases bb
 all_goals
  go_wp2
  go_ret
  exact⟨rfl,below_alloc _ _⟩
theorem nnorm_els{x:Fo}(hx:OkF x){c:List Value}{S:Nat->Prop}(w:World)(hc:FS w 27 S x c)(h0:x.op≠[61,62])(h1:x.op≠[70])(h2:x.op≠[71])(h3:x.op≠[87])(h4:x.op≠[33]):Calls Tryz.prog 61 #[.agg c.toArray] w (BoolP true w):=by
 obtain⟨A,cap,rfl, -⟩:=hc.view
 show Calls Tryz.prog 61 #[.agg #[.string ⟨x.op.toArray⟩,.string ⟨x.nm.toArray⟩,.slice A x.kids.length cap,.int .i64 (x.pos:Int)]] w _
 have HR:=Lib.hid (nright_any hx (w.alloc (.cells #[.string ⟨x.op.toArray⟩,.string ⟨x.nm.toArray⟩,.slice A x.kids.length cap,.int .i64 (x.pos:Int)] 27)) (hc.alloc _))
 have g:∀l:List UInt8,x.op≠l->((⟨x.op.toArray⟩:ByteArray).toList==l)=false:=fun l h=>by rw[ByteArray.toList_eq];exact beq_false_of_ne h
 have g0:=g _ h0
 have g1:=g _ h1
 have g2:=g _ h2
 have g3:=g _ h3
 have g4:=g _ h4
 clear g h0 h1 h2 h3 h4 hc hx
 generalize(⟨x.op.toArray⟩:ByteArray)=o at*
 generalize(⟨x.nm.toArray⟩:ByteArray)=nm at*
 generalize x.kids.length=n at*
 generalize(x.pos:Int)=p at*
 go_enter Tryz.func61,Tryz.ntmps61
 go_wp2_with fail
 refine(HR.out).mono ?_
 rintro e w1 ⟨rfl,hb⟩
 have HB:=Lib.hid (below_t (below_alloc _ _) hb)
 clear hb
 go_wp2
 go_ret
 exact⟨rfl,HB.out⟩
theorem nnorm_any{x:Fo}(hx:OkF x){c:List Value}{S:Nat->Prop}(w:World)(hc:FS w 27 S x c):Calls Tryz.prog 61 #[.agg c.toArray] w (BoolP (nr1 x) w):=by
 cases x with
 | leaf op nm p=>
   refine nnorm_els hx w hc ?_ ?_ ?_ ?_ ?_<;>
   · intro h
     simp only[Fo.op]at h
     rcases hx with⟨h',_⟩ | ⟨h' | h',_⟩<;>(rw[h']at h;exact absurd h (by decide))
 | un op a p=>
   obtain⟨A,cap,rfl,hk⟩:=hc.view
   rcases pk4 hx.1 with rfl | rfl | rfl | rfl
   · exact nnorm_not w (by rw[ByteArray.toList_eq];rfl) hk
   · exact nnorm_els hx w hc (by simp[Fo.op]) (by simp[Fo.op]) (by simp[Fo.op]) (by simp[Fo.op]) (by simp[Fo.op])
   · exact nnorm_no1 w (by rw[ByteArray.toList_eq];rfl)
   · exact nnorm_no2 w (by rw[ByteArray.toList_eq];rfl)
 | bin op a b p=>
   obtain⟨A,cap,hcc,hk⟩:=hc.view
   rcases pk03 hx.1 with rfl | rfl | rfl | rfl | rfl | rfl
   · subst hcc;exact nnorm_no0 w (by rw[ByteArray.toList_eq];rfl)
   · exact nnorm_els hx w hc (by simp[Fo.op]) (by simp[Fo.op]) (by simp[Fo.op]) (by simp[Fo.op]) (by simp[Fo.op])
   · exact nnorm_els hx w hc (by simp[Fo.op]) (by simp[Fo.op]) (by simp[Fo.op]) (by simp[Fo.op]) (by simp[Fo.op])
   · exact nnorm_els hx w hc (by simp[Fo.op]) (by simp[Fo.op]) (by simp[Fo.op]) (by simp[Fo.op]) (by simp[Fo.op])
   · subst hcc;exact nnorm_no3 w (by rw[ByteArray.toList_eq];rfl)
   · exact nnorm_els hx w hc (by simp[Fo.op]) (by simp[Fo.op]) (by simp[Fo.op]) (by simp[Fo.op]) (by simp[Fo.op])
end Go.Proofs.YtmgjpjjglghbaaaGreatDoor
