import Derived.Test.YtmgjpjjglghbaaaGreatDoore8
import Derived.Deep.CutBlock
import Derived.Deep.LoopGhost
namespace Go.Proofs.YtmgjpjjglghbaaaGreatDoor
set_option maxHeartbeats 16000000
set_option maxRecDepth 100000
open Go.RowKit
theorem same_self(x:Fo):same x x=true:=by simp[same]
structure TwC(X Z Y:Fo):Prop where
 n2:∀(W:World) (v:FV),FS W 27 TT X v.c->Calls Tryz.prog 30 #[.agg #[.string v.o,.string v.nm,.slice v.A v.ll v.cap,.int .i64 v.p],.bool false] W (NoP X (okN X X) 2 W)
 n3:∀(W:World) (v:FV),FS W 27 TT X v.c->Calls Tryz.prog 30 #[.agg #[.string v.o,.string v.nm,.slice v.A v.ll v.cap,.int .i64 v.p],.bool true] W (NoP Z (okN X Z) 2 W)
 n4:Z.size<=4096->∀(W:World) (v:FV),FS W 27 TT Z v.c->Calls Tryz.prog 30 #[.agg #[.string v.o,.string v.nm,.slice v.A v.ll v.cap,.int .i64 v.p],.bool true] W (NoP X (okN Z X) 2 W)
 s1:∀(W:World) (v:FV),FS W 27 TT X v.c->Calls Tryz.prog 35 #[.agg #[.string v.o,.string v.nm,.slice v.A v.ll v.cap,.int .i64 v.p]] W (FvP Y W)
 s2:∀(W:World) (v:FV),FS W 27 TT Y v.c->Calls Tryz.prog 35 #[.agg #[.string v.o,.string v.nm,.slice v.A v.ll v.cap,.int .i64 v.p]] W (FvP Y W)
 sx:∀(W:World) (v u:FV),FS W 27 TT X v.c->FS W 27 TT X u.c->Calls Tryz.prog 39 #[.agg #[.string v.o,.string v.nm,.slice v.A v.ll v.cap,.int .i64 v.p],.agg #[.string u.o,.string u.nm,.slice u.A u.ll u.cap,.int .i64 u.p]] W (BoolP true W)
 sy:∀(W:World) (v u:FV),FS W 27 TT Y v.c->FS W 27 TT Y u.c->Calls Tryz.prog 39 #[.agg #[.string v.o,.string v.nm,.slice v.A v.ll v.cap,.int .i64 v.p],.agg #[.string u.o,.string u.nm,.slice u.A u.ll u.cap,.int .i64 u.p]] W (BoolP true W)
theorem twC_of{f:Fo}(hf:OkF f)(hz:(nO f false).size<=4096):TwC (nO f false) (nO f true) (smO (nO f false)):=by
 have oX:=okf_nO f hf false
 have oZ:=okf_nO f hf true
 have nX:=isN_nO f hf false
 have bX:=n0_bare f hf false
 have oY:=smO_okf _ oX
 have nY:=smO_isN _ oX nX
 have bY:=sm_bare _ bX
 have zY:(smO (nO f false)).size<=4096:=Nat.le_trans (smO_size _) hz
 have e2:nO (nO f false) false=nO f false:=nO_nO f hf false false
 have e3:nO (nO f false) true=nO f true:=nO_nO f hf false true
 have e4:nO (nO f true) true=nO f false:=nO_nO f hf true true
 refine⟨fun W v h=>?_,fun W v h=>?_,fun hZS W v h=>?_,fun W v h=>?_,fun W v h=>?_,fun W v u h k=>?_,fun W v u h k=>?_⟩
 · have:=nnormal_any oX (Nat.le_trans hz (by decide)) (b:=false) W h;rw[e2]at this;exact this
 · have:=nnormal_any oX (Nat.le_trans hz (by decide)) (b:=true) W h;rw[e3]at this;exact this
 · have:=nnormal_any oZ (Nat.le_trans hZS (by decide)) (b:=true) W h;rw[e4]at this;exact this
 · have:=nsimple_any oX nX hz W h;rw[bX]at this;exact this
 · have:=nsimple_any oY nY zY W h;rw[bY,smO_smO]at this;exact this
 · have:=psame_any W h k;rw[same_self]at this;exact this
 · have:=psame_any W h k;rw[same_self]at this;exact this
theorem ntwice_yes(s:ByteArray)(w:World)(hG:GlobS w)(hs:s.size<=140737488355328):Calls Tryz.prog 10 #[.string s] w (LawF w):=by
 have HAL:=Lib.hid (nalive_yes w hG)
 by_cases hbig:200<s.size
 · have d1:decide ((200:Int)<(s.size:Int))=true:=by simp;omega
   have d2:decide (200<s.size)=true:=by simp;omega
   clear hG
   go_enter Tryz.func10,Tryz.ntmps10
   go_wp2_with fail
   with_reducible refine(HAL.out).mono ?_
   rintro e w1 ⟨rfl,hb1⟩
   have HB1:=Lib.hid hb1
   clear hb1
   go_wp2_with fail
   go_ret
   exact⟨rfl,HB1.out⟩
 · have d1:decide ((200:Int)<(s.size:Int))=false:=by simp;omega
   have d2:decide (200<s.size)=false:=by simp;omega
   have HPS:=Lib.hid (fun(W:World) (hb:Below w.heap.size w W)=>pparse_any (s:=s) (D:=64) W (hG.below hb) (by omega) (by decide) (by decide))
   have HOF:=Lib.hid (fun(f:Fo) (h:parseF 64 s.data.toList= .ok f)=>parse_okf (l:=s.data.toList) (by have:s.data.toList.length=s.size:=(by simp);omega) h)
   have HLS:=Lib.hid (show s.data.toList.length<=200 by have:s.data.toList.length=s.size:=(by simp);omega)
   have HNM:=Lib.hid (fun(W:World) (hb:Below w.heap.size w W)=>num_errno 2 W (hG.below hb).glob)
   obtain⟨rs,hrs⟩:∃rs,rs=parseF 64 s.data.toList:=⟨_,rfl⟩
   rw[<- hrs]at HPS HOF
   clear hrs hG
   cases rs with
   | er c p=>
     go_enter Tryz.func10,Tryz.ntmps10
     go_wp2_with fail
     with_reducible refine(HAL.out).mono ?_
     rintro e w1 ⟨rfl,hb1⟩
     have HB1:=Lib.hid hb1
     clear hb1
     go_wp2_with fail
     refine(HPS.out _ HB1.out).mono ?_
     rintro e w2 hq
     obtain⟨bb,rfl,hb2⟩:=hq.no
     have HB2:=Lib.hid (HB1.out.trans (hb2.mono HB1.out.size))
     clear hq hb2
     go_wp2_with fail
     go_ret
     exact⟨rfl,HB2.out.alloc HB2.out.size _⟩
   | ok f=>
     have hF:=HOF.out f rfl
     have hfz:f.size<=65536:=by have:=hF.2;have:=HLS.out;omega
     have HN1:=Lib.hid (fun(W:World) (v:FV) (h:FS W 27 TT f v.c)=>show Calls Tryz.prog 30 #[.agg #[.string v.o,.string v.nm,.slice v.A v.ll v.cap,.int .i64 v.p],.bool false] W (NoP (nO f false) (okN f (nO f false)) 2 W)from nnormal_any hF.1 hfz (b:=false) W h)
     have HTW:=Lib.hid (fun(h:(nO f false).size<=4096)=>twC_of hF.1 h)
     generalize smO (nO f false)=Y at*
     generalize nO f false=X at*
     generalize nO f true=Z at*
     clear hF hfz HOF HLS
     go_enter Tryz.func10,Tryz.ntmps10
     go_wp2_with fail
     with_reducible refine(HAL.out).mono ?_
     rintro e w0 ⟨rfl,hb1⟩
     have HB1:=Lib.hid hb1
     clear hb1 HAL
     go_wp2_with fail
     refine(HPS.out _ HB1.out).mono ?_
     rintro e w1 hq
     obtain⟨vf,rfl,hf,hb2⟩:=hq.yes
     have HB2:=Lib.hid (below_t (HB1.out.trans (hb2.mono HB1.out.size)) (below_alloc w1 (.cells #[.string vf.o,.string vf.nm,.slice vf.A vf.ll vf.cap,.int .i64 vf.p] 27)))
     have HF2:=Lib.hid (FB.new hf)
     clear hq hb2 hf HPS HB1
     obtain⟨f0,f1,f2,f3⟩:=HF2.out.bx.cells4
     go_wp2_with fail
     with_reducible refine(HN1.out _ _ HF2.out.fs).mono ?_
     rintro e w3 ⟨hb3,⟨hok,vx,rfl,hx⟩ | ⟨hok,rfl⟩⟩
     · have htw:=HTW.out hok.2
       have HN2:=Lib.hid htw.n2
       have HN3:=Lib.hid htw.n3
       have HN4:=Lib.hid htw.n4
       have HS1:=Lib.hid htw.s1
       have HS2:=Lib.hid htw.s2
       have HSX:=Lib.hid htw.sx
       have HSY:=Lib.hid htw.sy
       have HZX:=Lib.hid (show okN X X from⟨hok.2,hok.2⟩)
       have HX3:=Lib.hid (FB.new (FS.wide (T:=TT) (fun _ _ _=>trivial) hx.fs))
       have HB3:=Lib.hid (below_t (below_t HB2.out hb3) (below_alloc w3 (.cells #[.string vx.o,.string vx.nm,.slice vx.A vx.ll vx.cap,.int .i64 vx.p] 27)))
       clear htw hok hb3 hx HN1 HTW HF2 HB2 f0 f1 f2 f3
       obtain⟨x0,x1,x2,x3⟩:=HX3.out.bx.cells4
       go_wp2_with fail
       with_reducible refine(HN2.out _ _ HX3.out.fs).mono ?_
       rintro e w4 ⟨hb4,⟨-,vy,rfl,hy⟩ | ⟨hok,rfl⟩⟩
       · have hk:=below_alloc w4 (.cells #[.string vy.o,.string vy.nm,.slice vy.A vy.ll vy.cap,.int .i64 vy.p] 27)
         have HX4:=Lib.hid ((HX3.out.below hb4).below hk)
         have HY4:=Lib.hid (FB.new (FS.wide (T:=TT) (fun _ _ _=>trivial) hy.fs))
         have HB4:=Lib.hid (below_t (below_t HB3.out hb4) hk)
         clear hb4 hy hk HN2 HX3 HB3
         obtain⟨x0,x1,x2,x3⟩:=HX4.out.bx.cells4
         go_wp2_with fail
         with_reducible refine(HN3.out _ _ HX4.out.fs).mono ?_
         rintro e w5 ⟨hb5,hcase⟩
         obtain⟨vz,er,rfl,hZ⟩:∃(vz:FV) (er:Value),e= .returned (.tuple #[.agg #[.string vz.o,.string vz.nm,.slice vz.A vz.ll vz.cap,.int .i64 vz.p],er])/\((er= .nilIface/\Z.size<=4096/\X.size<=4096/\FS w5 27 TT Z vz.c)∨er= .iface 78 (.int .i64 2)):=by
          rcases hcase with⟨hok,vz,rfl,hz⟩ | ⟨-,rfl⟩
          · exact⟨vz,_,rfl,.inl ⟨rfl,hok.2,hok.1,FS.wide (T:=TT) (fun _ _ _=>trivial) hz.fs⟩⟩
          · exact⟨fv0,_,rfl,.inr rfl⟩
         have hk:=below_alloc w5 (.cells #[.string vz.o,.string vz.nm,.slice vz.A vz.ll vz.cap,.int .i64 vz.p] 27)
         have HX5:=Lib.hid ((HX4.out.below hb5).below hk)
         have HY5:=Lib.hid ((HY4.out.below hb5).below hk)
         have HB5:=Lib.hid (below_t (below_t HB4.out hb5) hk)
         have HZB:=Lib.hid (show Bx (w5.alloc (.cells #[.string vz.o,.string vz.nm,.slice vz.A vz.ll vz.cap,.int .i64 vz.p] 27)) w5.heap.size 27 [.string vz.o,.string vz.nm,.slice vz.A vz.ll vz.cap,.int .i64 vz.p]from Bx.new w5 27 [.string vz.o,.string vz.nm,.slice vz.A vz.ll vz.cap,.int .i64 vz.p])
         have HZC:=Lib.hid (show(er= .nilIface/\Z.size<=4096/\X.size<=4096/\FS (w5.alloc (.cells #[.string vz.o,.string vz.nm,.slice vz.A vz.ll vz.cap,.int .i64 vz.p] 27)) 27 TT Z vz.c)∨er= .iface 78 (.int .i64 2)from hZ.imp (fun h=>⟨h.1,h.2.1,h.2.2.1,h.2.2.2.below hk⟩) id)
         clear hb5 hcase hZ hk HN3 HX4 HY4 HB4
         obtain⟨x0,x1,x2,x3⟩:=HX5.out.bx.cells4
         obtain⟨y0,y1,y2,y3⟩:=HY5.out.bx.cells4
         go_wp2_with fail
         with_reducible refine(HSX.out _ _ _ HX5.out.fs HY5.out.fs).mono ?_
         rintro e w6 ⟨rfl,hb6⟩
         have HX6:=Lib.hid (HX5.out.below hb6)
         have HB6:=Lib.hid (below_t HB5.out hb6)
         have HZB6:=Lib.hid (HZB.out.below hb6)
         have HZC6:=Lib.hid (show(er= .nilIface/\Z.size<=4096/\X.size<=4096/\FS w6 27 TT Z vz.c)∨er= .iface 78 (.int .i64 2)from HZC.out.imp (fun h=>⟨h.1,h.2.1,h.2.2.1,h.2.2.2.below hb6⟩) id)
         clear hb6 HX5 HY5 HB5 HZB HZC y0 y1 y2 y3
         obtain⟨x0,x1,x2,x3⟩:=HX6.out.bx.cells4
         go_wp2_with fail
         with_reducible refine(HS1.out _ _ HX6.out.fs).mono ?_
         rintro e w7 ⟨vw,rfl,hw7,hb7⟩
         have hk:=below_alloc w7 (.cells #[.string vw.o,.string vw.nm,.slice vw.A vw.ll vw.cap,.int .i64 vw.p] 27)
         have HX7:=Lib.hid ((HX6.out.below hb7).below hk)
         have HW7:=Lib.hid (FB.new (FS.wide (T:=TT) (fun _ _ _=>trivial) hw7.fs))
         have HB7:=Lib.hid (below_t (below_t HB6.out hb7) hk)
         have HZB7:=Lib.hid ((HZB6.out.below hb7).below hk)
         have HZC7:=Lib.hid (show(er= .nilIface/\Z.size<=4096/\X.size<=4096/\FS (w7.alloc (.cells #[.string vw.o,.string vw.nm,.slice vw.A vw.ll vw.cap,.int .i64 vw.p] 27)) 27 TT Z vz.c)∨er= .iface 78 (.int .i64 2)from HZC6.out.imp (fun h=>⟨h.1,h.2.1,h.2.2.1,(h.2.2.2.below hb7).below hk⟩) id)
         clear hb7 hw7 hk HX6 HB6 HZB6 HZC6
         obtain⟨u0,u1,u2,u3⟩:=HW7.out.bx.cells4
         go_wp2_with fail
         with_reducible refine(HS2.out _ _ HW7.out.fs).mono ?_
         rintro e w8 ⟨vv,rfl,hw8,hb8⟩
         have hk:=below_alloc w8 (.cells #[.string vv.o,.string vv.nm,.slice vv.A vv.ll vv.cap,.int .i64 vv.p] 27)
         have HX8:=Lib.hid ((HX7.out.below hb8).below hk)
         have HW8:=Lib.hid ((HW7.out.below hb8).below hk)
         have HV8:=Lib.hid (FB.new (FS.wide (T:=TT) (fun _ _ _=>trivial) hw8.fs))
         have HB8:=Lib.hid (below_t (below_t HB7.out hb8) hk)
         have HZB8:=Lib.hid ((HZB7.out.below hb8).below hk)
         have HZC8:=Lib.hid (show(er= .nilIface/\Z.size<=4096/\X.size<=4096/\FS (w8.alloc (.cells #[.string vv.o,.string vv.nm,.slice vv.A vv.ll vv.cap,.int .i64 vv.p] 27)) 27 TT Z vz.c)∨er= .iface 78 (.int .i64 2)from HZC7.out.imp (fun h=>⟨h.1,h.2.1,h.2.2.1,(h.2.2.2.below hb8).below hk⟩) id)
         clear hb8 hw8 hk HX7 HW7 HB7 HZB7 HZC7
         obtain⟨u0,u1,u2,u3⟩:=HW8.out.bx.cells4
         obtain⟨v0,v1,v2,v3⟩:=HV8.out.bx.cells4
         go_wp2_with fail
         with_reducible refine(HSY.out _ _ _ HW8.out.fs HV8.out.fs).mono ?_
         rintro e w9 ⟨rfl,hb9⟩
         have HX9:=Lib.hid (HX8.out.below hb9)
         have HB9:=Lib.hid (below_t HB8.out hb9)
         have hzb:=HZB8.out.below hb9
         have hzc:(er= .nilIface/\Z.size<=4096/\X.size<=4096/\FS w9 27 TT Z vz.c)∨er= .iface 78 (.int .i64 2):=HZC8.out.imp (fun h=>⟨h.1,h.2.1,h.2.2.1,h.2.2.2.below hb9⟩) id
         clear hb9 HX8 HW8 HV8 HB8 HZB8 HZC8 u0 u1 u2 u3 v0 v1 v2 v3
         obtain⟨z0,z1,z2,z3⟩:=hzb.cells4
         rcases hzc with⟨rfl,hzs,hxs,hzf⟩ | rfl
         · have HC4:=Lib.hid (HN4.out hzs w9 vz hzf)
           have HOK4:=Lib.hid (show okN Z X from⟨hzs,hxs⟩)
           clear hzs hxs hzf hzb
           go_wp2_with fail
           with_reducible refine(HC4.out).mono ?_
           rintro e wa ⟨hba,⟨-,vu,rfl,hu⟩ | ⟨hok,rfl⟩⟩
           · have hk:=below_alloc wa (.cells #[.string vu.o,.string vu.nm,.slice vu.A vu.ll vu.cap,.int .i64 vu.p] 27)
             have HXA:=Lib.hid ((HX9.out.below hba).below hk)
             have HUA:=Lib.hid (FB.new (FS.wide (T:=TT) (fun _ _ _=>trivial) hu.fs))
             have HBA:=Lib.hid (below_t (below_t HB9.out hba) hk)
             clear hba hu hk HX9 HB9
             obtain⟨x0,x1,x2,x3⟩:=HXA.out.bx.cells4
             obtain⟨u0,u1,u2,u3⟩:=HUA.out.bx.cells4
             go_wp2_with fail
             with_reducible refine(HSX.out _ _ _ HUA.out.fs HXA.out.fs).mono ?_
             rintro e wb ⟨rfl,hbb⟩
             have HBB:=Lib.hid (below_t HBA.out hbb)
             clear hbb
             go_wp2
             go_ret
             exact⟨rfl,HBB.out⟩
           · exact absurd HOK4.out hok
         · clear hzb
           go_wp2_with fail
           with_reducible refine(HNM.out _ HB9.out).mono ?_
           rintro e wa ⟨rfl,hba⟩
           have HBA:=Lib.hid (below_t HB9.out hba)
           clear hba
           go_wp2
           go_ret
           exact⟨rfl,HBA.out⟩
       · exact absurd HZX.out hok
     · have HB3:=Lib.hid (below_t (below_t HB2.out hb3) (below_alloc w3 (.cells #[.string ⟨#[]⟩,.string ⟨#[]⟩,.slice none 0 0,.int .i64 0] 27)))
       clear hb3 hok
       go_wp2_with fail
       with_reducible refine(HNM.out _ HB3.out).mono ?_
       rintro e w4 ⟨rfl,hb4⟩
       have HB4:=Lib.hid (below_t HB3.out hb4)
       clear hb4
       go_wp2
       go_ret
       exact⟨rfl,HB4.out⟩
end Go.Proofs.YtmgjpjjglghbaaaGreatDoor
