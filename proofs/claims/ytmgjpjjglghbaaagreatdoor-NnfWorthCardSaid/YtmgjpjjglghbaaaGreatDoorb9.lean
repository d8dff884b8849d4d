import Derived.Test.YtmgjpjjglghbaaaGreatDoorb8
import Derived.Test.YtmgjpjjglghbaaaGreatDoorb7
import Derived.Test.YtmgjpjjglghbaaaGreatDoorb3
import Derived.Deep.RegionHeld3
import Derived.Lib.AppendZeros
namespace Go.Proofs.YtmgjpjjglghbaaaGreatDoor
set_option maxHeartbeats 16000000
set_option maxRecDepth 100000
section
section
open Go.RowKit
theorem tr_G{w:World}{N P K:Option Addr}{nl nc n pc a kl kc:Nat}{l r:List Bool}{o nm:ByteArray}{p:Int}(ho:o.toList=[71])(ha:a<n)(hn:n<=1000000)
 (hsd:∀W,Below w.heap.size w W->Calls Tryz.prog 78 #[plv N nl nc P n pc a,.agg #[.string o,.string nm,.slice K kl kc,.int .i64 p]] W (SdP 1 n l r W)):
 Calls Tryz.prog 47 #[plv N nl nc P n pc a,.agg #[.string o,.string nm,.slice K kl kc,.int .i64 p]] w (BLn n (untL a l (bothL (List.replicate n false) l) true) w):=by
 have g0:(o.toList==[116,114,117,101])=false:=by rw[ho];rfl
 have g1:(o.toList==[108,97,98,101,108])=false:=by rw[ho];rfl
 have g2:(o.toList==[33])=false:=by rw[ho];rfl
 have g3:(o.toList==[88])=false:=by rw[ho];rfl
 have g4:(o.toList==[61,62])=false:=by rw[ho];rfl
 have g5:(o.toList==[124])=false:=by rw[ho];rfl
 have g6:(o.toList==[38])=false:=by rw[ho];rfl
 have g7:(o.toList==[70])=false:=by rw[ho];rfl
 have g8:(o.toList==[85])=false:=by rw[ho];rfl
 have g9:(o.toList==[71])=true:=by rw[ho];rfl
 have g10:(o.toList==[82])=false:=by rw[ho];rfl
 have g11:(o.toList==[87])=false:=by rw[ho];rfl
 have HBW:=Lib.hid (show Below w.heap.size w ((w.alloc (.cells #[.slice N nl nc,.slice P n pc,.int .i64 (a:Int)] 83)).alloc (.cells #[.string o,.string nm,.slice K kl kc,.int .i64 p] 27))from below_t (below_alloc _ _) (below_alloc _ _))
 have HSD:=Lib.hid (hsd _ HBW.out)
 have HXP:=Lib.hid (show ∀W,Below ((w.alloc (.cells #[.slice N nl nc,.slice P n pc,.int .i64 (a:Int)] 83)).alloc (.cells #[.string o,.string nm,.slice K kl kc,.int .i64 p] 27)).heap.size ((w.alloc (.cells #[.slice N nl nc,.slice P n pc,.int .i64 (a:Int)] 83)).alloc (.cells #[.string o,.string nm,.slice K kl kc,.int .i64 p] 27)) W->TBx w N nl nc P n pc a o nm W from fun W hW=>by
  have h1:=((Bx.new w 83 [.slice N nl nc,.slice P n pc,.int .i64 (a:Int)]).below (below_alloc _ (.cells #[.string o,.string nm,.slice K kl kc,.int .i64 p] 27))).below hW
  have h2:=(Bx.new (w.alloc (.cells #[.slice N nl nc,.slice P n pc,.int .i64 (a:Int)] 83)) 27 [.string o,.string nm,.slice K kl kc,.int .i64 p]).below hW
  rw[show(w.alloc (.cells #[.slice N nl nc,.slice P n pc,.int .i64 (a:Int)] 83)).heap.size=w.heap.size+1 by simp]at h2
  exact⟨h1.cell 0,h1.cell 1,h1.cell 2,h2.cell 0,h2.cell 1⟩)
 clear hsd ho
 show Calls Tryz.prog 47 #[.agg #[.slice N nl nc,.slice P n pc,.int .i64 (a:Int)],.agg #[.string o,.string nm,.slice K kl kc,.int .i64 p]] w _
 go_enter Tryz.func47,Tryz.ntmps47
 go_wp2_with fail
 refine(HSD.out).mono ?_
 rintro e w1 ⟨A,c1,B,c2,m1,m2,rfl,hl,hr,hb1⟩
 obtain⟨hm1,hc1,hA,hlA⟩:=hl (by omega)
 subst m1
 have HA:=Lib.hid hA
 have HLA:=Lib.hid hlA
 have HC1:=Lib.hid hc1
 clear hA hlA hc1
 have HL1:=Lib.hid hb1
 obtain⟨p0,p1,p2,f0,f1⟩:=HXP.out _ HL1.out
 clear hl hr hb1
 go_wp2_with fail
 refine(all_n (b:=false) w1 (by omega) hn).mono ?_
 rintro e w2 ⟨A2,d2,rfl,hd2,hl2,hB2,hb2⟩
 have HR2:=Lib.hid hB2
 have HRL2:=Lib.hid hl2
 have HRC2:=Lib.hid hd2
 have HBB2:=Lib.hid hb2
 have HL2:=Lib.hid (HL1.out.trans (hb2.mono HL1.out.size))
 clear hB2 hl2 hd2 hb2 p0 p1 p2 f0 f1
 obtain⟨p0,p1,p2,f0,f1⟩:=HXP.out _ HL2.out
 go_wp2_with fail
 refine(both_n w2 HR2.out ((HA.out).below HBB2.out) HRL2.out HLA.out hn).mono ?_
 rintro e w3 ⟨A3,d3,rfl,hd3,hl3,hB3,hb3⟩
 have HR3:=Lib.hid hB3
 have HRL3:=Lib.hid hl3
 have HRC3:=Lib.hid hd3
 have HBB3:=Lib.hid hb3
 have HL3:=Lib.hid (HL2.out.trans (hb3.mono HL2.out.size))
 clear hB3 hl3 hd3 hb3 p0 p1 p2 f0 f1
 obtain⟨p0,p1,p2,f0,f1⟩:=HXP.out _ HL3.out
 go_wp2_with fail
 refine(until_n (x:=true) w3 (((HA.out).below HBB2.out).below HBB3.out) HR3.out HLA.out HRL3.out hn ha).mono ?_
 rintro e w4 ⟨A4,d4,rfl,hd4,hl4,hB4,hb4⟩
 have HR4:=Lib.hid hB4
 have HRL4:=Lib.hid hl4
 have HRC4:=Lib.hid hd4
 have HBB4:=Lib.hid hb4
 have HL4:=Lib.hid (HL3.out.trans (hb4.mono HL3.out.size))
 clear hB4 hl4 hd4 hb4 p0 p1 p2 f0 f1
 obtain⟨p0,p1,p2,f0,f1⟩:=HXP.out _ HL4.out
 go_wp2
 go_ret
 exact⟨A4,d4,rfl,HRC4.out,HRL4.out,HR4.out,below_t HBW.out HL4.out⟩
theorem tr_R{w:World}{N P K:Option Addr}{nl nc n pc a kl kc:Nat}{l r:List Bool}{o nm:ByteArray}{p:Int}(ho:o.toList=[82])(ha:a<n)(hn:n<=1000000)
 (hsd:∀W,Below w.heap.size w W->Calls Tryz.prog 78 #[plv N nl nc P n pc a,.agg #[.string o,.string nm,.slice K kl kc,.int .i64 p]] W (SdP 2 n l r W)):
 Calls Tryz.prog 47 #[plv N nl nc P n pc a,.agg #[.string o,.string nm,.slice K kl kc,.int .i64 p]] w (BLn n (untL a r (bothL l r) true) w):=by
 have g0:(o.toList==[116,114,117,101])=false:=by rw[ho];rfl
 have g1:(o.toList==[108,97,98,101,108])=false:=by rw[ho];rfl
 have g2:(o.toList==[33])=false:=by rw[ho];rfl
 have g3:(o.toList==[88])=false:=by rw[ho];rfl
 have g4:(o.toList==[61,62])=false:=by rw[ho];rfl
 have g5:(o.toList==[124])=false:=by rw[ho];rfl
 have g6:(o.toList==[38])=false:=by rw[ho];rfl
 have g7:(o.toList==[70])=false:=by rw[ho];rfl
 have g8:(o.toList==[85])=false:=by rw[ho];rfl
 have g9:(o.toList==[71])=false:=by rw[ho];rfl
 have g10:(o.toList==[82])=true:=by rw[ho];rfl
 have g11:(o.toList==[87])=false:=by rw[ho];rfl
 have HBW:=Lib.hid (show Below w.heap.size w ((w.alloc (.cells #[.slice N nl nc,.slice P n pc,.int .i64 (a:Int)] 83)).alloc (.cells #[.string o,.string nm,.slice K kl kc,.int .i64 p] 27))from below_t (below_alloc _ _) (below_alloc _ _))
 have HSD:=Lib.hid (hsd _ HBW.out)
 have HXP:=Lib.hid (show ∀W,Below ((w.alloc (.cells #[.slice N nl nc,.slice P n pc,.int .i64 (a:Int)] 83)).alloc (.cells #[.string o,.string nm,.slice K kl kc,.int .i64 p] 27)).heap.size ((w.alloc (.cells #[.slice N nl nc,.slice P n pc,.int .i64 (a:Int)] 83)).alloc (.cells #[.string o,.string nm,.slice K kl kc,.int .i64 p] 27)) W->TBx w N nl nc P n pc a o nm W from fun W hW=>by
  have h1:=((Bx.new w 83 [.slice N nl nc,.slice P n pc,.int .i64 (a:Int)]).below (below_alloc _ (.cells #[.string o,.string nm,.slice K kl kc,.int .i64 p] 27))).below hW
  have h2:=(Bx.new (w.alloc (.cells #[.slice N nl nc,.slice P n pc,.int .i64 (a:Int)] 83)) 27 [.string o,.string nm,.slice K kl kc,.int .i64 p]).below hW
  rw[show(w.alloc (.cells #[.slice N nl nc,.slice P n pc,.int .i64 (a:Int)] 83)).heap.size=w.heap.size+1 by simp]at h2
  exact⟨h1.cell 0,h1.cell 1,h1.cell 2,h2.cell 0,h2.cell 1⟩)
 clear hsd ho
 show Calls Tryz.prog 47 #[.agg #[.slice N nl nc,.slice P n pc,.int .i64 (a:Int)],.agg #[.string o,.string nm,.slice K kl kc,.int .i64 p]] w _
 go_enter Tryz.func47,Tryz.ntmps47
 go_wp2_with fail
 refine(HSD.out).mono ?_
 rintro e w1 ⟨A,c1,B,c2,m1,m2,rfl,hl,hr,hb1⟩
 obtain⟨hm1,hc1,hA,hlA⟩:=hl (by omega)
 subst m1
 have HA:=Lib.hid hA
 have HLA:=Lib.hid hlA
 have HC1:=Lib.hid hc1
 clear hA hlA hc1
 obtain⟨hm2, -,hB,hlB⟩:=hr (by omega)
 subst m2
 have HB:=Lib.hid hB
 have HLB:=Lib.hid hlB
 clear hB hlB
 have HL1:=Lib.hid hb1
 obtain⟨p0,p1,p2,f0,f1⟩:=HXP.out _ HL1.out
 clear hl hr hb1
 go_wp2_with fail
 refine(both_n w1 HA.out HB.out HLA.out HLB.out hn).mono ?_
 rintro e w2 ⟨A2,d2,rfl,hd2,hl2,hB2,hb2⟩
 have HR2:=Lib.hid hB2
 have HRL2:=Lib.hid hl2
 have HRC2:=Lib.hid hd2
 have HBB2:=Lib.hid hb2
 have HL2:=Lib.hid (HL1.out.trans (hb2.mono HL1.out.size))
 clear hB2 hl2 hd2 hb2 p0 p1 p2 f0 f1
 obtain⟨p0,p1,p2,f0,f1⟩:=HXP.out _ HL2.out
 go_wp2_with fail
 refine(until_n (x:=true) w2 ((HB.out).below HBB2.out) HR2.out HLB.out HRL2.out hn ha).mono ?_
 rintro e w3 ⟨A3,d3,rfl,hd3,hl3,hB3,hb3⟩
 have HR3:=Lib.hid hB3
 have HRL3:=Lib.hid hl3
 have HRC3:=Lib.hid hd3
 have HBB3:=Lib.hid hb3
 have HL3:=Lib.hid (HL2.out.trans (hb3.mono HL2.out.size))
 clear hB3 hl3 hd3 hb3 p0 p1 p2 f0 f1
 obtain⟨p0,p1,p2,f0,f1⟩:=HXP.out _ HL3.out
 go_wp2
 go_ret
 exact⟨A3,d3,rfl,HRC3.out,HRL3.out,HR3.out,below_t HBW.out HL3.out⟩
theorem tr_W{w:World}{N P K:Option Addr}{nl nc n pc a kl kc:Nat}{l r:List Bool}{o nm:ByteArray}{p:Int}(ho:o.toList=[87])(ha:a<n)(hn:n<=1000000)
 (hsd:∀W,Below w.heap.size w W->Calls Tryz.prog 78 #[plv N nl nc P n pc a,.agg #[.string o,.string nm,.slice K kl kc,.int .i64 p]] W (SdP 2 n l r W)):
 Calls Tryz.prog 47 #[plv N nl nc P n pc a,.agg #[.string o,.string nm,.slice K kl kc,.int .i64 p]] w (BLn n (untL a l r true) w):=by
 have g0:(o.toList==[116,114,117,101])=false:=by rw[ho];rfl
 have g1:(o.toList==[108,97,98,101,108])=false:=by rw[ho];rfl
 have g2:(o.toList==[33])=false:=by rw[ho];rfl
 have g3:(o.toList==[88])=false:=by rw[ho];rfl
 have g4:(o.toList==[61,62])=false:=by rw[ho];rfl
 have g5:(o.toList==[124])=false:=by rw[ho];rfl
 have g6:(o.toList==[38])=false:=by rw[ho];rfl
 have g7:(o.toList==[70])=false:=by rw[ho];rfl
 have g8:(o.toList==[85])=false:=by rw[ho];rfl
 have g9:(o.toList==[71])=false:=by rw[ho];rfl
 have g10:(o.toList==[82])=false:=by rw[ho];rfl
 have g11:(o.toList==[87])=true:=by rw[ho];rfl
 have HBW:=Lib.hid (show Below w.heap.size w ((w.alloc (.cells #[.slice N nl nc,.slice P n pc,.int .i64 (a:Int)] 83)).alloc (.cells #[.string o,.string nm,.slice K kl kc,.int .i64 p] 27))from below_t (below_alloc _ _) (below_alloc _ _))
 have HSD:=Lib.hid (hsd _ HBW.out)
 have HXP:=Lib.hid (show ∀W,Below ((w.alloc (.cells #[.slice N nl nc,.slice P n pc,.int .i64 (a:Int)] 83)).alloc (.cells #[.string o,.string nm,.slice K kl kc,.int .i64 p] 27)).heap.size ((w.alloc (.cells #[.slice N nl nc,.slice P n pc,.int .i64 (a:Int)] 83)).alloc (.cells #[.string o,.string nm,.slice K kl kc,.int .i64 p] 27)) W->TBx w N nl nc P n pc a o nm W from fun W hW=>by
  have h1:=((Bx.new w 83 [.slice N nl nc,.slice P n pc,.int .i64 (a:Int)]).below (below_alloc _ (.cells #[.string o,.string nm,.slice K kl kc,.int .i64 p] 27))).below hW
  have h2:=(Bx.new (w.alloc (.cells #[.slice N nl nc,.slice P n pc,.int .i64 (a:Int)] 83)) 27 [.string o,.string nm,.slice K kl kc,.int .i64 p]).below hW
  rw[show(w.alloc (.cells #[.slice N nl nc,.slice P n pc,.int .i64 (a:Int)] 83)).heap.size=w.heap.size+1 by simp]at h2
  exact⟨h1.cell 0,h1.cell 1,h1.cell 2,h2.cell 0,h2.cell 1⟩)
 clear hsd ho
 show Calls Tryz.prog 47 #[.agg #[.slice N nl nc,.slice P n pc,.int .i64 (a:Int)],.agg #[.string o,.string nm,.slice K kl kc,.int .i64 p]] w _
 go_enter Tryz.func47,Tryz.ntmps47
 go_wp2_with fail
 refine(HSD.out).mono ?_
 rintro e w1 ⟨A,c1,B,c2,m1,m2,rfl,hl,hr,hb1⟩
 obtain⟨hm1,hc1,hA,hlA⟩:=hl (by omega)
 subst m1
 have HA:=Lib.hid hA
 have HLA:=Lib.hid hlA
 have HC1:=Lib.hid hc1
 clear hA hlA hc1
 obtain⟨hm2, -,hB,hlB⟩:=hr (by omega)
 subst m2
 have HB:=Lib.hid hB
 have HLB:=Lib.hid hlB
 clear hB hlB
 have HL1:=Lib.hid hb1
 obtain⟨p0,p1,p2,f0,f1⟩:=HXP.out _ HL1.out
 clear hl hr hb1
 go_wp2_with fail
 refine(until_n (x:=true) w1 HA.out HB.out HLA.out HLB.out hn ha).mono ?_
 rintro e w2 ⟨A2,d2,rfl,hd2,hl2,hB2,hb2⟩
 have HR2:=Lib.hid hB2
 have HRL2:=Lib.hid hl2
 have HRC2:=Lib.hid hd2
 have HBB2:=Lib.hid hb2
 have HL2:=Lib.hid (HL1.out.trans (hb2.mono HL1.out.size))
 clear hB2 hl2 hd2 hb2 p0 p1 p2 f0 f1
 obtain⟨p0,p1,p2,f0,f1⟩:=HXP.out _ HL2.out
 go_wp2
 go_ret
 exact⟨A2,d2,rfl,HRC2.out,HRL2.out,HR2.out,below_t HBW.out HL2.out⟩
end
section
open Go.RowKit
def labO(nms:List ByteArray)(ls:List Int)(nm:List UInt8):List Bool:=lbL ls (posO nms ⟨nm.toArray⟩)
structure Pls(N P:Option Addr)(nms:List ByteArray)(ls:List Int)(w:World):Prop where
 nm:SSl w N nms
 lt:ISl w P ls
 six:nms.length<=6
 few:ls.length<=1000000
 sml:∀c∈ls,0<=c/\c<64
theorem Pls.below{N P:Option Addr}{nms:List ByteArray}{ls:List Int}{w w':World}(h:Pls N P nms ls w)(hb:Below w.heap.size w w'):Pls N P nms ls w':=⟨h.nm.below hb,h.lt.below hb,h.six,h.few,h.sml⟩
def TrC(a:Nat)(nms:List ByteArray)(ls:List Int)(x:Fo):Prop:=∀(w:World) (N P:Option Addr) (nc pc:Nat) (S:Nat->Prop) (c:List Value),Pls N P nms ls w->FS w 27 S x c->
 Calls Tryz.prog 47 #[plv N nms.length nc P ls.length pc a,.agg c.toArray] w (BLn ls.length (trO ls.length a (labO nms ls) x) w)
def SdC(a:Nat)(nms:List ByteArray)(ls:List Int)(x:Fo)(k:Nat)(l r:List Bool):Prop:=∀(w:World) (N P:Option Addr) (nc pc:Nat) (S:Nat->Prop) (c:List Value),Pls N P nms ls w->FS w 27 S x c->
 Calls Tryz.prog 78 #[plv N nms.length nc P ls.length pc a,.agg c.toArray] w (SdP k ls.length l r w)
section
variable {a:Nat} {nms:List ByteArray} {ls:List Int}
theorem sd_leaf{op nm:List UInt8}{q:Nat}:SdC a nms ls (.leaf op nm q) 0 [] []:=by
 intro w N P nc pc S c hp hx
 have hc:c=FV.c ⟨⟨op.toArray⟩,⟨nm.toArray⟩,none,0,0,(q:Int)⟩:=hx
 subst hc
 generalize nms.length=nl at*
 generalize ls.length=n at*
 clear hp hx
 show Calls Tryz.prog 78 #[.agg #[.slice N nl nc,.slice P n pc,.int .i64 (a:Int)],.agg #[.string ⟨op.toArray⟩,.string ⟨nm.toArray⟩,.slice none 0 0,.int .i64 (q:Int)]] w _
 go_enter Tryz.func78,Tryz.ntmps78
 go_wp2
 go_ret2
 exact⟨none,0,none,0,0,0,rfl,fun h=>absurd h (by omega),fun h=>absurd h (by omega),below_t (below_alloc _ _) (below_alloc _ _)⟩
theorem sd_un{op:List UInt8}{x:Fo}{q:Nat}(hx:TrC a nms ls x):SdC a nms ls (.un op x q) 1 (trO ls.length a (labO nms ls) x) []:=by
 intro w N P nc pc S c hp hf
 obtain⟨K,kc,rfl,hK⟩:=hf.view
 obtain⟨g,v,hg,hgl,hv,a0,a1,a2,a3⟩:=hK 0 (by simp[Fo.kids])
 subst hg
 simp only[Nat.zero_mul,Nat.zero_add]at a0 a1 a2 a3
 have hP:∀W,Below w.heap.size w W->Pls N P nms ls W:=fun W hb=>hp.below hb
 have HT:=Lib.hid (fun(W:World) (hb:Below w.heap.size w W)=>hx W N P nc pc S v.c (hP W hb) (hv.below hb))
 change Hid (∀(W:World) (hb:Below w.heap.size w W),Calls Tryz.prog 47 #[.agg #[.slice N nms.length nc,.slice P ls.length pc,.int .i64 (a:Int)],.agg #[.string v.o,.string v.nm,.slice v.A v.ll v.cap,.int .i64 v.p]] W (BLn ls.length (trO ls.length a (labO nms ls) x) W))at HT
 generalize trO ls.length a (labO nms ls) x=tx at*
 generalize(⟨(.un op x q:Fo).op.toArray⟩:ByteArray)=o at*
 generalize(⟨(.un op x q:Fo).nm.toArray⟩:ByteArray)=nm at*
 obtain⟨p,hpp⟩:∃p:Int,p=(((.un op x q:Fo).pos:Nat):Int):=⟨_,rfl⟩
 rw[<- hpp]
 show Calls Tryz.prog 78 #[.agg #[.slice N nms.length nc,.slice P ls.length pc,.int .i64 (a:Int)],.agg #[.string o,.string nm,.slice (some ⟨g,0,none⟩) 1 kc,.int .i64 p]] w _
 generalize nms.length=nl at*
 generalize ls.length=n at*
 have HBW:=Lib.hid (show Below w.heap.size w ((w.alloc (.cells #[.slice N nl nc,.slice P n pc,.int .i64 (a:Int)] 83)).alloc (.cells #[.string o,.string nm,.slice (some ⟨g,0,none⟩) 1 kc,.int .i64 p] 27))from below_t (below_alloc _ _) (below_alloc _ _))
 have HSS:=Lib.hid (show ∀w',Below ((w.alloc (.cells #[.slice N nl nc,.slice P n pc,.int .i64 (a:Int)] 83)).alloc (.cells #[.string o,.string nm,.slice (some ⟨g,0,none⟩) 1 kc,.int .i64 p] 27)).heap.size ((w.alloc (.cells #[.slice N nl nc,.slice P n pc,.int .i64 (a:Int)] 83)).alloc (.cells #[.string o,.string nm,.slice (some ⟨g,0,none⟩) 1 kc,.int .i64 p] 27)) w'->(w'.cell? ⟨w.heap.size,0,none⟩=some (.slice N nl nc)/\w'.cell? ⟨w.heap.size,1,none⟩=some (.slice P n pc)/\w'.cell? ⟨w.heap.size,2,none⟩=some (.int .i64 (a:Int))/\w'.cell? ⟨w.heap.size+1,2,none⟩=some (.slice (some ⟨g,0,none⟩) 1 kc)/\w'.cell? ⟨g,0,none⟩=some (.string v.o)/\w'.cell? ⟨g,1,none⟩=some (.string v.nm)/\w'.cell? ⟨g,2,none⟩=some (.slice v.A v.ll v.cap)/\w'.cell? ⟨g,3,none⟩=some (.int .i64 v.p))from fun w' hW=>by
  have h1:=((Bx.new w 83 [.slice N nl nc,.slice P n pc,.int .i64 (a:Int)]).below (below_alloc _ (.cells #[.string o,.string nm,.slice (some ⟨g,0,none⟩) 1 kc,.int .i64 p] 27))).below hW
  have h2:=(Bx.new (w.alloc (.cells #[.slice N nl nc,.slice P n pc,.int .i64 (a:Int)] 83)) 27 [.string o,.string nm,.slice (some ⟨g,0,none⟩) 1 kc,.int .i64 p]).below hW
  rw[show(w.alloc (.cells #[.slice N nl nc,.slice P n pc,.int .i64 (a:Int)] 83)).heap.size=w.heap.size+1 by simp]at h2
  have hb:=below_t HBW.out hW
  exact⟨h1.cell 0,h1.cell 1,h1.cell 2,h2.cell 2,cell_blw hb a0,cell_blw hb a1,cell_blw hb a2,cell_blw hb a3⟩)
 clear hx hp hf hK hv hgl a0 a1 a2 a3 hP hpp
 have lk:Below ((w.alloc (.cells #[.slice N nl nc,.slice P n pc,.int .i64 (a:Int)] 83)).alloc (.cells #[.string o,.string nm,.slice (some ⟨g,0,none⟩) 1 kc,.int .i64 p] 27)).heap.size ((w.alloc (.cells #[.slice N nl nc,.slice P n pc,.int .i64 (a:Int)] 83)).alloc (.cells #[.string o,.string nm,.slice (some ⟨g,0,none⟩) 1 kc,.int .i64 p] 27)) ((w.alloc (.cells #[.slice N nl nc,.slice P n pc,.int .i64 (a:Int)] 83)).alloc (.cells #[.string o,.string nm,.slice (some ⟨g,0,none⟩) 1 kc,.int .i64 p] 27)).drew:=(Below.refl _ _).drew
 go_enter Tryz.func78,Tryz.ntmps78
 go_wp2_with fail
 go_region_held3 (fun w'=>w'.cell? ⟨w.heap.size,0,none⟩=some (.slice N nl nc)/\w'.cell? ⟨w.heap.size,1,none⟩=some (.slice P n pc)/\w'.cell? ⟨w.heap.size,2,none⟩=some (.int .i64 (a:Int))/\w'.cell? ⟨w.heap.size+1,2,none⟩=some (.slice (some ⟨g,0,none⟩) 1 kc)/\w'.cell? ⟨g,0,none⟩=some (.string v.o)/\w'.cell? ⟨g,1,none⟩=some (.string v.nm)/\w'.cell? ⟨g,2,none⟩=some (.slice v.A v.ll v.cap)/\w'.cell? ⟨g,3,none⟩=some (.int .i64 v.p)) (exact HSS.out _ lk) (first
  | (go_at_call 47
     refine(HT.out _ (below_t HBW.out lk)).mono ?_
     rintro e w1 ⟨A1,d1,rfl,hd1,hl1,hB1,hb1⟩
     have HR1:=Lib.hid hB1
     have HRL1:=Lib.hid hl1
     have HRC1:=Lib.hid hd1
     replace lk:Below ((w.alloc (.cells #[.slice N nl nc,.slice P n pc,.int .i64 (a:Int)] 83)).alloc (.cells #[.string o,.string nm,.slice (some ⟨g,0,none⟩) 1 kc,.int .i64 p] 27)).heap.size ((w.alloc (.cells #[.slice N nl nc,.slice P n pc,.int .i64 (a:Int)] 83)).alloc (.cells #[.string o,.string nm,.slice (some ⟨g,0,none⟩) 1 kc,.int .i64 p] 27)) w1:=lk.trans (hb1.mono lk.size)
     clear hB1 hl1 hd1 hb1))
 have HLK:=Lib.hid lk
 obtain⟨p0,p1,p2,k2, -⟩:=HSS.out _ lk
 clear lk
 go_wp2
 go_ret2
 exact⟨A1,d1,none,0,n,0,rfl,fun _=>⟨rfl,HRC1.out,HR1.out,HRL1.out⟩,fun h=>absurd h (by omega),below_t HBW.out HLK.out⟩
theorem sd_bin{op:List UInt8}{x y:Fo}{q:Nat}(hx:TrC a nms ls x)(hy:TrC a nms ls y):SdC a nms ls (.bin op x y q) 2 (trO ls.length a (labO nms ls) x) (trO ls.length a (labO nms ls) y):=by
 intro w N P nc pc S c hp hf
 obtain⟨K,kc,rfl,hK⟩:=hf.view
 obtain⟨g,v,hg,hgl,hv,a0,a1,a2,a3⟩:=hK 0 (by simp[Fo.kids])
 obtain⟨g',u,hg',_,hu,b0,b1,b2,b3⟩:=hK 1 (by simp[Fo.kids])
 have hgg:g=g':=by rw[hg]at hg';injection hg' with e;injection e with e
 subst hgg
 subst hg
 simp only[Nat.zero_mul,Nat.zero_add,Nat.one_mul,Nat.reduceAdd]at a0 a1 a2 a3 b0 b1 b2 b3
 have hP:∀W,Below w.heap.size w W->Pls N P nms ls W:=fun W hb=>hp.below hb
 have HT:=Lib.hid (fun(W:World) (hb:Below w.heap.size w W)=>hx W N P nc pc S v.c (hP W hb) (hv.below hb))
 change Hid (∀(W:World) (hb:Below w.heap.size w W),Calls Tryz.prog 47 #[.agg #[.slice N nms.length nc,.slice P ls.length pc,.int .i64 (a:Int)],.agg #[.string v.o,.string v.nm,.slice v.A v.ll v.cap,.int .i64 v.p]] W (BLn ls.length (trO ls.length a (labO nms ls) x) W))at HT
 have HT2:=Lib.hid (fun(W:World) (hb:Below w.heap.size w W)=>hy W N P nc pc S u.c (hP W hb) (hu.below hb))
 change Hid (∀(W:World) (hb:Below w.heap.size w W),Calls Tryz.prog 47 #[.agg #[.slice N nms.length nc,.slice P ls.length pc,.int .i64 (a:Int)],.agg #[.string u.o,.string u.nm,.slice u.A u.ll u.cap,.int .i64 u.p]] W (BLn ls.length (trO ls.length a (labO nms ls) y) W))at HT2
 generalize trO ls.length a (labO nms ls) x=tx at*
 generalize trO ls.length a (labO nms ls) y=ty at*
 generalize(⟨(.bin op x y q:Fo).op.toArray⟩:ByteArray)=o at*
 generalize(⟨(.bin op x y q:Fo).nm.toArray⟩:ByteArray)=nm at*
 obtain⟨p,hpp⟩:∃p:Int,p=(((.bin op x y q:Fo).pos:Nat):Int):=⟨_,rfl⟩
 rw[<- hpp]
 show Calls Tryz.prog 78 #[.agg #[.slice N nms.length nc,.slice P ls.length pc,.int .i64 (a:Int)],.agg #[.string o,.string nm,.slice (some ⟨g,0,none⟩) 2 kc,.int .i64 p]] w _
 generalize nms.length=nl at*
 generalize ls.length=n at*
 have HBW:=Lib.hid (show Below w.heap.size w ((w.alloc (.cells #[.slice N nl nc,.slice P n pc,.int .i64 (a:Int)] 83)).alloc (.cells #[.string o,.string nm,.slice (some ⟨g,0,none⟩) 2 kc,.int .i64 p] 27))from below_t (below_alloc _ _) (below_alloc _ _))
 have HSS:=Lib.hid (show ∀w',Below ((w.alloc (.cells #[.slice N nl nc,.slice P n pc,.int .i64 (a:Int)] 83)).alloc (.cells #[.string o,.string nm,.slice (some ⟨g,0,none⟩) 2 kc,.int .i64 p] 27)).heap.size ((w.alloc (.cells #[.slice N nl nc,.slice P n pc,.int .i64 (a:Int)] 83)).alloc (.cells #[.string o,.string nm,.slice (some ⟨g,0,none⟩) 2 kc,.int .i64 p] 27)) w'->(w'.cell? ⟨w.heap.size,0,none⟩=some (.slice N nl nc)/\w'.cell? ⟨w.heap.size,1,none⟩=some (.slice P n pc)/\w'.cell? ⟨w.heap.size,2,none⟩=some (.int .i64 (a:Int))/\w'.cell? ⟨w.heap.size+1,2,none⟩=some (.slice (some ⟨g,0,none⟩) 2 kc)/\w'.cell? ⟨g,0,none⟩=some (.string v.o)/\w'.cell? ⟨g,1,none⟩=some (.string v.nm)/\w'.cell? ⟨g,2,none⟩=some (.slice v.A v.ll v.cap)/\w'.cell? ⟨g,3,none⟩=some (.int .i64 v.p)/\w'.cell? ⟨g,4,none⟩=some (.string u.o)/\w'.cell? ⟨g,5,none⟩=some (.string u.nm)/\w'.cell? ⟨g,6,none⟩=some (.slice u.A u.ll u.cap)/\w'.cell? ⟨g,7,none⟩=some (.int .i64 u.p))from fun w' hW=>by
  have h1:=((Bx.new w 83 [.slice N nl nc,.slice P n pc,.int .i64 (a:Int)]).below (below_alloc _ (.cells #[.string o,.string nm,.slice (some ⟨g,0,none⟩) 2 kc,.int .i64 p] 27))).below hW
  have h2:=(Bx.new (w.alloc (.cells #[.slice N nl nc,.slice P n pc,.int .i64 (a:Int)] 83)) 27 [.string o,.string nm,.slice (some ⟨g,0,none⟩) 2 kc,.int .i64 p]).below hW
  rw[show(w.alloc (.cells #[.slice N nl nc,.slice P n pc,.int .i64 (a:Int)] 83)).heap.size=w.heap.size+1 by simp]at h2
  have hb:=below_t HBW.out hW
  exact⟨h1.cell 0,h1.cell 1,h1.cell 2,h2.cell 2,cell_blw hb a0,cell_blw hb a1,cell_blw hb a2,cell_blw hb a3,cell_blw hb b0,cell_blw hb b1,cell_blw hb b2,cell_blw hb b3⟩)
 clear hx hy hp hf hK hv hu hg' hgl a0 a1 a2 a3 b0 b1 b2 b3 hP hpp
 have lk:Below ((w.alloc (.cells #[.slice N nl nc,.slice P n pc,.int .i64 (a:Int)] 83)).alloc (.cells #[.string o,.string nm,.slice (some ⟨g,0,none⟩) 2 kc,.int .i64 p] 27)).heap.size ((w.alloc (.cells #[.slice N nl nc,.slice P n pc,.int .i64 (a:Int)] 83)).alloc (.cells #[.string o,.string nm,.slice (some ⟨g,0,none⟩) 2 kc,.int .i64 p] 27)) ((w.alloc (.cells #[.slice N nl nc,.slice P n pc,.int .i64 (a:Int)] 83)).alloc (.cells #[.string o,.string nm,.slice (some ⟨g,0,none⟩) 2 kc,.int .i64 p] 27)).drew:=(Below.refl _ _).drew
 go_enter Tryz.func78,Tryz.ntmps78
 go_wp2_with fail
 go_region_held3 (fun w'=>w'.cell? ⟨w.heap.size,0,none⟩=some (.slice N nl nc)/\w'.cell? ⟨w.heap.size,1,none⟩=some (.slice P n pc)/\w'.cell? ⟨w.heap.size,2,none⟩=some (.int .i64 (a:Int))/\w'.cell? ⟨w.heap.size+1,2,none⟩=some (.slice (some ⟨g,0,none⟩) 2 kc)/\w'.cell? ⟨g,0,none⟩=some (.string v.o)/\w'.cell? ⟨g,1,none⟩=some (.string v.nm)/\w'.cell? ⟨g,2,none⟩=some (.slice v.A v.ll v.cap)/\w'.cell? ⟨g,3,none⟩=some (.int .i64 v.p)/\w'.cell? ⟨g,4,none⟩=some (.string u.o)/\w'.cell? ⟨g,5,none⟩=some (.string u.nm)/\w'.cell? ⟨g,6,none⟩=some (.slice u.A u.ll u.cap)/\w'.cell? ⟨g,7,none⟩=some (.int .i64 u.p)) (exact HSS.out _ lk) (first
  | (go_at_call 47
     refine(HT.out _ (below_t HBW.out lk)).mono ?_
     rintro e w1 ⟨A1,d1,rfl,hd1,hl1,hB1,hb1⟩
     have HR1:=Lib.hid hB1
     have HRL1:=Lib.hid hl1
     have HRC1:=Lib.hid hd1
     replace lk:Below ((w.alloc (.cells #[.slice N nl nc,.slice P n pc,.int .i64 (a:Int)] 83)).alloc (.cells #[.string o,.string nm,.slice (some ⟨g,0,none⟩) 2 kc,.int .i64 p] 27)).heap.size ((w.alloc (.cells #[.slice N nl nc,.slice P n pc,.int .i64 (a:Int)] 83)).alloc (.cells #[.string o,.string nm,.slice (some ⟨g,0,none⟩) 2 kc,.int .i64 p] 27)) w1:=lk.trans (hb1.mono lk.size)
     clear hB1 hl1 hd1 hb1))
 have HL1:=Lib.hid lk
 obtain⟨p0,p1,p2,k2, -⟩:=HSS.out _ lk
 clear lk
 go_wp2_with fail
 have lk:Below ((w.alloc (.cells #[.slice N nl nc,.slice P n pc,.int .i64 (a:Int)] 83)).alloc (.cells #[.string o,.string nm,.slice (some ⟨g,0,none⟩) 2 kc,.int .i64 p] 27)).heap.size ((w.alloc (.cells #[.slice N nl nc,.slice P n pc,.int .i64 (a:Int)] 83)).alloc (.cells #[.string o,.string nm,.slice (some ⟨g,0,none⟩) 2 kc,.int .i64 p] 27)) w1.drew:=HL1.out.drew
 have lk1:Below w1.heap.size w1 w1.drew:=(Below.refl _ _).drew
 clear p0 p1 p2 k2
 go_region_held3 (fun w'=>w'.cell? ⟨w.heap.size,0,none⟩=some (.slice N nl nc)/\w'.cell? ⟨w.heap.size,1,none⟩=some (.slice P n pc)/\w'.cell? ⟨w.heap.size,2,none⟩=some (.int .i64 (a:Int))/\w'.cell? ⟨w.heap.size+1,2,none⟩=some (.slice (some ⟨g,0,none⟩) 2 kc)/\w'.cell? ⟨g,0,none⟩=some (.string v.o)/\w'.cell? ⟨g,1,none⟩=some (.string v.nm)/\w'.cell? ⟨g,2,none⟩=some (.slice v.A v.ll v.cap)/\w'.cell? ⟨g,3,none⟩=some (.int .i64 v.p)/\w'.cell? ⟨g,4,none⟩=some (.string u.o)/\w'.cell? ⟨g,5,none⟩=some (.string u.nm)/\w'.cell? ⟨g,6,none⟩=some (.slice u.A u.ll u.cap)/\w'.cell? ⟨g,7,none⟩=some (.int .i64 u.p)) (exact HSS.out _ lk) (first
  | (go_at_call 47
     refine(HT2.out _ (below_t HBW.out lk)).mono ?_
     rintro e w2 ⟨A2,d2,rfl,hd2,hl2,hB2,hb2⟩
     have HR2:=Lib.hid hB2
     have HRL2:=Lib.hid hl2
     have HRC2:=Lib.hid hd2
     replace lk:Below ((w.alloc (.cells #[.slice N nl nc,.slice P n pc,.int .i64 (a:Int)] 83)).alloc (.cells #[.string o,.string nm,.slice (some ⟨g,0,none⟩) 2 kc,.int .i64 p] 27)).heap.size ((w.alloc (.cells #[.slice N nl nc,.slice P n pc,.int .i64 (a:Int)] 83)).alloc (.cells #[.string o,.string nm,.slice (some ⟨g,0,none⟩) 2 kc,.int .i64 p] 27)) w2:=lk.trans (hb2.mono lk.size)
     replace lk1:Below w1.heap.size w1 w2:=lk1.trans (hb2.mono lk1.size)
     clear hB2 hl2 hd2 hb2))
 have HLK:=Lib.hid lk
 have HLK1:=Lib.hid lk1
 clear lk lk1
 go_wp2
 go_ret2
 exact⟨A1,d1,A2,d2,n,n,rfl,fun _=>⟨rfl,HRC1.out,HR1.out.below HLK1.out,HRL1.out⟩,fun _=>⟨rfl,HRC2.out,HR2.out,HRL2.out⟩,below_t HBW.out HLK.out⟩
theorem tr_any(ha:a<ls.length):∀x:Fo,OkF x->(∀nm∈lbs x,(⟨nm.toArray⟩:ByteArray)∈nms)->TrC a nms ls x
 | .leaf op nm q,h,hl=>fun w N P nc pc S c hp hx=>by
   have hc:c=FV.c ⟨⟨op.toArray⟩,⟨nm.toArray⟩,none,0,0,(q:Int)⟩:=hx
   subst hc
   have hsd:=fun(W:World) (hb:Below w.heap.size w W)=>sd_leaf (a:=a) (op:=op) (nm:=nm) (q:=q) W N P nc pc S _ (hp.below hb) (hx.below hb)
   rcases h with⟨rfl,_⟩ | ⟨rfl | rfl,_⟩
   · refine(tr_label (r2:=labO nms ls nm) (l:=[]) (r:=[]) (ByteArray.toList_eq _ |>.trans rfl) ha hp.few (fun W hb=>?_) hsd).mono fun e w' h=>?_
     · have h1:=hp.below hb
       exact(plab_any W h1.nm h1.lt (hl nm (by simp[lbs])) h1.six h1.few h1.sml).mono fun e w' h=>h.n (by simp[lbL])
     · simpa[trO,show opLab≠opTrue by decide]using h
   · refine(tr_true (ByteArray.toList_eq _ |>.trans rfl) ha hp.few hsd).mono fun e w' h=>?_
     simpa[trO]using h
   · refine(tr_false (ByteArray.toList_eq _ |>.trans rfl) ha hp.few hsd).mono fun e w' h=>?_
     simpa[trO,show opFalse≠opTrue by decide,show opFalse≠opLab by decide]using h
 | .un op x q,h,hl=>fun w N P nc pc S c hp hf=>by
   have hx:=tr_any ha x h.2 (fun nm hn=>hl nm (by simpa[lbs]using hn))
   have hsd:=fun(W:World) (hb:Below w.heap.size w W)=>sd_un (op:=op) (q:=q) hx W N P nc pc S c (hp.below hb) (hf.below hb)
   obtain⟨K,kc,rfl,_⟩:=hf.view
   rcases pk_un h.1 with rfl | rfl | rfl | rfl
   · refine(tr_not (ByteArray.toList_eq _ |>.trans rfl) ha hp.few hsd).mono fun e w' h=>?_
     simpa[trO]using h
   · refine(tr_next (ByteArray.toList_eq _ |>.trans rfl) ha hp.few hsd).mono fun e w' h=>?_
     simpa[trO]using h
   · refine(tr_F (ByteArray.toList_eq _ |>.trans rfl) ha hp.few hsd).mono fun e w' h=>?_
     simpa[trO]using h
   · refine(tr_G (ByteArray.toList_eq _ |>.trans rfl) ha hp.few hsd).mono fun e w' h=>?_
     simpa[trO]using h
 | .bin op x y q,h,hl=>fun w N P nc pc S c hp hf=>by
   have hx:=tr_any ha x h.2.1 (fun nm hn=>hl nm (by simp[lbs,hn]))
   have hy:=tr_any ha y h.2.2 (fun nm hn=>hl nm (by simp[lbs,hn]))
   have hsd:=fun(W:World) (hb:Below w.heap.size w W)=>sd_bin (op:=op) (q:=q) hx hy W N P nc pc S c (hp.below hb) (hf.below hb)
   obtain⟨K,kc,rfl,_⟩:=hf.view
   rcases pk_bin h.1 with rfl | rfl | rfl | rfl | rfl | rfl
   · refine(tr_imp (ByteArray.toList_eq _ |>.trans rfl) ha hp.few hsd).mono fun e w' h=>?_
     simpa[trO]using h
   · refine(tr_or (ByteArray.toList_eq _ |>.trans rfl) ha hp.few hsd).mono fun e w' h=>?_
     simpa[trO]using h
   · refine(tr_and (ByteArray.toList_eq _ |>.trans rfl) ha hp.few hsd).mono fun e w' h=>?_
     simpa[trO]using h
   · refine(tr_U (ByteArray.toList_eq _ |>.trans rfl) ha hp.few hsd).mono fun e w' h=>?_
     simpa[trO]using h
   · refine(tr_W (ByteArray.toList_eq _ |>.trans rfl) ha hp.few hsd).mono fun e w' h=>?_
     simpa[trO]using h
   · refine(tr_R (ByteArray.toList_eq _ |>.trans rfl) ha hp.few hsd).mono fun e w' h=>?_
     simpa[trO]using h
end
end
end
section
section
open Go.RowKit Go.Sort Go.Lib
def iv(x:Int):Value:=.int .i64 x
def CapOk(B:Option Addr)(n cap:Nat):Prop:=n<=cap/\(B=none->cap=0)
theorem infoI:(Tryz.prog.info? 3).map (fun i=>(i.zero,i.size,i.bytes))=some (some (.int .i64 0),1,8):=by kernel_rfl
theorem underI:Tryz.prog.underlying 3=some (.int .i64):=by kernel_rfl
theorem isl_news{w:World}{g o:Nat}{l:List Int}(h:ISl w (some ⟨g,o,none⟩) l):∀(j:Nat) (u:Value),(l.map iv)[j]?=some u->w.cell? ((⟨g,o,none⟩:Addr).add j)=some u:=by
 intro j u hu
 rw[List.getElem?_map]at hu
 by_cases hj:j<l.length
 · rw[List.getElem?_eq_getElem hj]at hu
   injection hu with hu
   subst hu
   obtain⟨g',o',e,hc⟩:=h j hj
   injection e with e
   injection e with e1 e2
   subst e1 e2
   have e3:(⟨g,o,none⟩:Addr).add j=⟨g,o+j,none⟩:=by
    unfold Addr.add
    by_cases hj:j=0<;>simp[hj]
   rw[e3];exact hc
 · rw[List.getElem?_eq_none (by omega)]at hu;cases hu
theorem iv_one(l:List Int):∀u∈l.map iv,u.oneCell'=true:=by
 intro u hu
 obtain⟨b,_,rfl⟩:=List.mem_map.1 hu
 rfl
theorem isl_owns{w:World}{lo n:Nat}{v:Value}{l:List Int}(h:w.ownsRow lo 3 1 v n (l.map iv)):∃A cap,v= .slice A n cap/\CapOk A n cap/\ISl w A l/\l.length=n:=by
 have hl:l.length=n:=by have:=h.1;simpa using this
 subst hl
 rcases h.2 with⟨rfl,hn⟩ | ⟨g,cap,cur,hv,_,hb,hc,_⟩
 · exact⟨none,0,by rw[hn],⟨by omega,fun _=>rfl⟩,fun i hi=>absurd hi (by omega),rfl⟩
 · subst hv
   refine⟨_,cap,rfl,⟨hc,fun h=>by cases h⟩,fun i hi=>⟨g,0,rfl,?_⟩,rfl⟩
   have h1:=h.cells (g:=g) rfl i (.int .i64 l[i]) (by rw[List.getElem?_map,List.getElem?_eq_getElem hi];rfl)
   have e:(⟨g,0,none⟩:Addr).add i=⟨g,i,none⟩:=by
    unfold Addr.add
    by_cases hj:i=0<;>simp[hj]
   rw[e]at h1
   rw[Nat.zero_add]
   exact h1
theorem grow_any{n:Nat}(w:World)(h1:1<=n)(h2:n<=1000000):Calls Tryz.prog 77 #[.slice none 0 0,.int .i64 (n:Int)] w fun e w'=>∃v,e= .returned v/\w'.ownsRow w.heap.size 3 1 v 0 []/\Below w.heap.size w w':=by
 obtain⟨i0,hi0,hz⟩:=Option.map_eq_some_iff.1 infoI
 simp only[Prod.mk.injEq]at hz
 obtain⟨hz0,hz1,hz2⟩:=hz
 have HRUN:=Lib.hid (fun(W:World) (ty:TypeId)=>Lib.run_append_nil_zeros (P:=Tryz.prog) W 23 3 ty 3 i0 (.int .i64 0) .i64 .i64 Tryz.underlying23 underI hi0 hz0 n (by omega) (by rw[hz1];omega) (by omega) (by rw[hz2];omega))
 have d0:decide ((n:Int)<0)=false:=by simp
 have d1:decide (0<n)=true:=by simp;omega
 have HGE:=Lib.hid (grownCap_ge w n 0 3)
 have HLE:=Lib.hid (grownCap_le_maxLen w n 0 3 (by unfold maxLen;omega))
 have HO:=Lib.hid (show ∀cap,n<=cap->cap<=maxLen->(w.drew.alloc (.cells (Builtin.zeroCells (Value.int .i64 0).cells n++Builtin.zeroCells (Value.int .i64 0).cells (cap - n)) 3)).ownsRow w.heap.size 3 1 (.slice (some ⟨w.heap.size,0,none⟩) 0 cap) 0 []from fun cap h3 h4=>World.ownsRow_made w.drew _ cap (Nat.le_refl _) h4 (by rw[Array.size_append,size_zeroCells,size_zeroCells];simp[Value.cells];omega))
 clear hi0 hz0 hz1 hz2
 go_enter Tryz.func77,Tryz.ntmps77
 go_wp2_with (at_builtin;refine Lib.wpList_append_run _ rfl _ _ _ _ rfl _ _ rfl rfl _ _ (HRUN.out _ _) ?_)
 obtain⟨gc,hgc⟩:∃gc,gc=grownCap w n 0 3:=⟨_,rfl⟩
 rw[<- hgc]
 rw[<- hgc]at HGE HLE
 have HOO:=Lib.hid (HO.out gc HGE.out HLE.out)
 have HBB:=Lib.hid (show Below w.heap.size w (w.drew.alloc (.cells (Builtin.zeroCells (Value.int .i64 0).cells n++Builtin.zeroCells (Value.int .i64 0).cells (gc - n)) 3))from(Below.refl _ _).drew.alloc (Nat.le_refl _) _)
 have hle:=HGE.out
 clear HO HRUN hgc
 go_wp2
 go_ret
 exact⟨_,rfl,HOO.out,HBB.out⟩
def CsRel(n m:Nat)(w:World)(z i:Value)(wr:World):Prop:=w=wr/\((i= .int .i64 0/\z= .int .i64 0)∨(i= .int .i64 1/\z= .int .i64 (n:Int))∨(i= .int .i64 2/\z= .int .i64 ((n+m:Nat):Int)))
def CcRel(s l:List Int)(w:World)(v i:Value)(wr:World):Prop:=Below w.heap.size w wr/\((i= .int .i64 0/\wr.ownsRow w.heap.size 3 1 v 0 [])∨(i= .int .i64 1/\wr.ownsRow w.heap.size 3 1 v s.length (s.map iv))∨(i= .int .i64 2/\wr.ownsRow w.heap.size 3 1 v (s.length+l.length) ((s++l).map iv)))
end
section
open Go.RowKit Go.Sort Go.Lib
theorem concat_any{A B:Option Addr}{s l:List Int}{sc lc q:Nat}(w:World)(h:WM w A B s l)(hc1:CapOk A s.length sc)(hc2:CapOk B l.length lc)(h1:1<=s.length+l.length)(h2:s.length+l.length<=1000000)
 (q0:w.cell? ⟨q,0,none⟩=some (.slice A s.length sc)) (q1:w.cell? ⟨q,1,none⟩=some (.slice B l.length lc)):
 Calls Tryz.prog 46 #[.slice (some ⟨q,0,none⟩) 2 2] w fun e w'=>∃v,e= .returned v/\w'.ownsRow w.heap.size 3 1 v (s.length+l.length) ((s++l).map iv)/\Below w.heap.size w w':=by
 obtain⟨i0,hi0,hz⟩:=Option.map_eq_some_iff.1 infoI
 simp only[Prod.mk.injEq]at hz
 obtain⟨hz0,hz1,hz2⟩:=hz
 have HI:=Lib.hid hi0
 have HZ0:=Lib.hid hz0
 have HZ1:=Lib.hid hz1
 have HZ2:=Lib.hid hz2
 have HG:=Lib.hid (grow_any w h1 h2)
 have HQ:=Lib.hid (show ∀W,Below w.heap.size w W->W.cell? ⟨q,0,none⟩=some (.slice A s.length sc)/\W.cell? ⟨q,1,none⟩=some (.slice B l.length lc)from fun W hb=>⟨cell_blw hb q0,cell_blw hb q1⟩)
 have HS:=Lib.hid h.st
 have HL:=Lib.hid h.lp
 have HC1:=Lib.hid hc1
 have HC2:=Lib.hid hc2
 obtain⟨n,hn⟩:∃n,n=s.length:=⟨_,rfl⟩
 obtain⟨m,hm⟩:∃m,m=l.length:=⟨_,rfl⟩
 have HN:=Lib.hid hn
 have HM:=Lib.hid hm
 have HSN:=Lib.hid (show(s.map iv).length=n*1 by rw[hn];simp)
 have HSL:=Lib.hid (show(l.map iv).length=m*1 by rw[hm];simp)
 have HA1:=Lib.hid (show([]:List Value)++s.map iv=s.map iv from rfl)
 have HA2:=Lib.hid (show s.map iv++l.map iv=(s++l).map iv from(List.map_append).symm)
 have HREL:=Lib.hid (show ∀(v i:Value) (wr:World),CcRel s l w v i wr↔(Below w.heap.size w wr/\((i= .int .i64 0/\wr.ownsRow w.heap.size 3 1 v 0 [])∨(i= .int .i64 1/\wr.ownsRow w.heap.size 3 1 v n (s.map iv))∨(i= .int .i64 2/\wr.ownsRow w.heap.size 3 1 v (n+m) ((s++l).map iv))))from fun v i wr=>by rw[hn,hm];exact Iff.rfl)
 have HSW:∀(ad:Addr),A=some ad->∀W,Below w.heap.size w W->∀(j:Nat) (u:Value),(s.map iv)[j]?=some u->W.cell? (ad.add j)=some u:=fun ad hA W hb j u hu=>by
  by_cases hj:0<s.length
  · obtain⟨g,o,e,_⟩:=h.st 0 hj
    rw[hA]at e
    injection e with e
    subst e
    exact isl_news (by rw[<- hA];exact h.st.below hb) j u hu
  · rw[List.eq_nil_of_length_eq_zero (show s.length=0 by omega)]at hu
    cases hu
 have HLW:∀(ad:Addr),B=some ad->∀W,Below w.heap.size w W->∀(j:Nat) (u:Value),(l.map iv)[j]?=some u->W.cell? (ad.add j)=some u:=fun ad hA W hb j u hu=>by
  by_cases hj:0<l.length
  · obtain⟨g,o,e,_⟩:=h.lp 0 hj
    rw[hA]at e
    injection e with e
    subst e
    exact isl_news (by rw[<- hA];exact h.lp.below hb) j u hu
  · rw[List.eq_nil_of_length_eq_zero (show l.length=0 by omega)]at hu
    cases hu
 replace HSW:=Lib.hid HSW
 replace HLW:=Lib.hid HLW
 rw[<- hn,<- hm]at h1 h2 HG HQ ⊢
 rw[<- hn]at q0
 rw[<- hm]at q1
 rw[<- hn]at HC1
 rw[<- hm]at HC2
 rw[Int.natCast_add]at HG
 clear h hc1 hc2 hn hm hi0 hz0 hz1 hz2
 go_enter Tryz.func46,Tryz.ntmps46
 go_wp2_with fail
 go_loopw [3,11] (fun z i wr=>CsRel n m w z i wr) (fun _ i _=>2 - (intOf i).toNat)
 case atStart=>exact⟨rfl,.inl ⟨rfl,rfl⟩⟩
 case round=>
  obtain⟨rfl,hrel⟩:=hrel
  rcases hrel with⟨rfl,rfl⟩ | ⟨rfl,rfl⟩ | ⟨rfl,rfl⟩
  · go_wp2_with fail
    go_roundw
    case rel=>exact⟨rfl,.inr (.inl ⟨rfl,by go_num⟩)⟩
    case measure=>simp[intOf]
  · have e0:decide ((n:Int)+(m:Int)<0)=false:=by simp;omega
    go_wp2_with fail
    go_roundw
    case rel=>exact⟨rfl,.inr (.inr ⟨rfl,by go_num⟩)⟩
    case measure=>simp[intOf]
  · go_wp2_with fail
    with_reducible refine(HG.out).mono ?_
    rintro e w1 ⟨v,rfl,hO,hb⟩
    have HO1:=Lib.hid hO
    have HB1:=Lib.hid hb
    clear hO hb q0 q1
    go_wp2
    go_loopw [6,27] (fun v i wr=>CcRel s l w v i wr) (fun _ i _=>2 - (intOf i).toNat)
    case atStart=>exact(HREL.out _ _ _).2 ⟨HB1.out,.inl ⟨rfl,HO1.out⟩⟩
    case round=>
     obtain⟨hb,hrel⟩:=(HREL.out _ _ _).1 hrel
     have HB:=Lib.hid hb
     obtain⟨q0,q1⟩:=HQ.out _ hb
     rcases hrel with⟨rfl,ho⟩ | ⟨rfl,ho⟩ | ⟨rfl,ho⟩
     · have HO:=Lib.hid ho
       clear ho hb
       cases hA:A with
       | none=>
         subst hA
         have hcz:=HC1.out.2 rfl
         have hnz:=HC1.out.1
         rw[hcz]at q0 hnz
         have hnz2:n=0:=by omega
         rw[hnz2]at q0
         have HNZ:=Lib.hid hnz2
         clear hcz hnz hnz2
         go_wp2_with (at_builtin;refine wpList_append_own_none rfl _ _ 23 rfl w.heap.size 3 i0 1 Tryz.underlying23 HI.out _ _ _ rfl HO.out rfl ?_)
         go_roundw
         case rel=>exact(HREL.out _ _ _).2 ⟨HB.out,.inr (.inl ⟨rfl,by rw[HNZ.out,show s=[]from List.eq_nil_of_length_eq_zero (HN.out.symm.trans HNZ.out)];exact HO.out⟩)⟩
         case measure=>simp[intOf]
       | some ad=>
         subst hA
         go_wp2_with (at_builtin;refine wpList_append_own _ rfl _ _ 23 rfl w.heap.size 3 i0 (.int .i64 0) 1 8 Tryz.underlying23 HI.out HZ0.out HZ1.out HZ2.out rfl (by decide) _ _ _ rfl HO.out ad n _ (s.map iv) rfl HSN.out (HSW.out ad rfl _ HB.out) (iv_one _) (by unfold maxLen;omega) (by omega) (by have:=HB.out.size;omega) ?_)
         intro v' w2 hown hgrow hnil
         have HO2:=Lib.hid hown
         have HB2:=Lib.hid (HB.out.grown hgrow HB.out.size (by intro k hk;exact(HO.out.lt k hk).1))
         clear hown hgrow hnil
         go_wp2
         go_roundw
         case rel=>exact(HREL.out _ _ _).2 ⟨HB2.out,.inr (.inl ⟨rfl,by simpa using HO2.out⟩)⟩
         case measure=>simp[intOf]
     · have HO:=Lib.hid ho
       clear ho hb
       cases hA:B with
       | none=>
         subst hA
         have hcz:=HC2.out.2 rfl
         have hnz:=HC2.out.1
         rw[hcz]at q1 hnz
         have hnz2:m=0:=by omega
         rw[hnz2]at q1
         have HNZ:=Lib.hid hnz2
         clear hcz hnz hnz2
         go_wp2_with (at_builtin;refine wpList_append_own_none rfl _ _ 23 rfl w.heap.size 3 i0 1 Tryz.underlying23 HI.out _ _ _ rfl HO.out rfl ?_)
         go_roundw
         case rel=>exact(HREL.out _ _ _).2 ⟨HB.out,.inr (.inr ⟨rfl,by rw[HNZ.out,show l=[]from List.eq_nil_of_length_eq_zero (HM.out.symm.trans HNZ.out),List.append_nil];exact HO.out⟩)⟩
         case measure=>simp[intOf]
       | some ad=>
         subst hA
         go_wp2_with (at_builtin;refine wpList_append_own _ rfl _ _ 23 rfl w.heap.size 3 i0 (.int .i64 0) 1 8 Tryz.underlying23 HI.out HZ0.out HZ1.out HZ2.out rfl (by decide) _ _ _ rfl HO.out ad m _ (l.map iv) rfl HSL.out (HLW.out ad rfl _ HB.out) (iv_one _) (by unfold maxLen;omega) (by omega) (by have:=HB.out.size;omega) ?_)
         intro v' w2 hown hgrow hnil
         have HO2:=Lib.hid hown
         have HB2:=Lib.hid (HB.out.grown hgrow HB.out.size (by intro k hk;exact(HO.out.lt k hk).1))
         clear hown hgrow hnil
         go_wp2
         go_roundw
         case rel=>exact(HREL.out _ _ _).2 ⟨HB2.out,.inr (.inr ⟨rfl,by first | exact HO2.out | (have:=HO2.out;rw[HA2.out]at this;exact this)⟩)⟩
         case measure=>simp[intOf]
     · have HO:=Lib.hid ho
       clear ho hb
       go_wp2_with fail
       go_ret
       exact⟨_,rfl,HO.out,HB.out⟩
open Classical in
theorem contains_any{A:Option Addr}{l:List ByteArray}{cap:Nat}(x:ByteArray)(w:World)(hl:SSl w A l)(hlen:l.length<=1000000):
 Calls Tryz.prog 45 #[.slice A l.length cap,.string x] w fun e w'=>e= .returned (.bool (decide (x∈l)))/\w'=w:=by
 have H:=Lib.hid (index_any (cap:=cap) x w hl hlen)
 generalize l.length=n at*
 by_cases hx:x∈l
 · rw[if_pos hx]at H
   rw[decide_eq_true hx]
   clear hx hl
   go_enter Tryz.func45,Tryz.ntmps45
   go_wp2_with fail
   refine(H.out).mono ?_
   rintro e w1 ⟨rfl,rfl⟩
   go_wp2
   go_ret
   exact⟨ret_bool (by simp),rfl⟩
 · rw[if_neg hx]at H
   rw[decide_eq_false hx]
   clear hx hl
   go_enter Tryz.func45,Tryz.ntmps45
   go_wp2_with fail
   refine(H.out).mono ?_
   rintro e w1 ⟨rfl,rfl⟩
   go_wp2
   go_ret
   exact⟨rfl,rfl⟩
end
end
end Go.Proofs.YtmgjpjjglghbaaaGreatDoor
