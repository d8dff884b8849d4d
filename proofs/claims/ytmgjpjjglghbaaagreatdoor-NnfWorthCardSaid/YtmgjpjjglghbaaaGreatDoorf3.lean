import Derived.Test.YtmgjpjjglghbaaaGreatDoore9
import Derived.Test.YtmgjpjjglghbaaaGreatDoorf2
import Derived.Test.YtmgjpjjglghbaaaGreatDoorc2
import Derived.Deep.CutRange
import Derived.Deep.CutBlock
import Derived.Deep.LoopGhost
namespace Go.Proofs.YtmgjpjjglghbaaaGreatDoor
set_option maxHeartbeats 16000000
set_option maxRecDepth 100000
open Go.RowKit
theorem six_cells{W:World}{qf qw:Nat}{x:Fo}{v:FV}{A B:Option Addr}{n sc m lc:Nat}{s l:List Int}(h:FB W qf x v)(k:WB W qw A n sc B m lc s l):(fun w':World=>w'.cell? ⟨qf,0,none⟩=some (.string v.o)/\w'.cell? ⟨qf,1,none⟩=some (.string v.nm)/\w'.cell? ⟨qf,2,none⟩=some (.slice v.A v.ll v.cap)/\w'.cell? ⟨qf,3,none⟩=some (.int .i64 v.p)/\w'.cell? ⟨qw,0,none⟩=some (.slice A n sc)/\w'.cell? ⟨qw,1,none⟩=some (.slice B m lc)) W:=by
 obtain⟨a0,a1,a2,a3⟩:=h.bx.cells4
 exact⟨a0,a1,a2,a3,k.bx.cell 0,k.bx.cell 1⟩
theorem size_is{x:Fo}(hz:x.size<=4096){v:FV}(w:World)(h:FS w 27 TT x v.c):Calls Tryz.prog 38 #[.agg #[.string v.o,.string v.nm,.slice v.A v.ll v.cap,.int .i64 v.p]] w fun e w'=>e= .returned (.int .i64 ((x.size:Nat):Int))/\Below w.heap.size w w':=(show min x.size 4097=x.size by omega)▸psize_any w h
theorem nworth_yes{A0 B0:Option Addr}{la lb:List Int}{ac bc:Nat}(s:ByteArray)(w:World)(hG:GlobS w)(hA:USl w A0 la)(hB:USl w B0 lb)(hs:s.size<=140737488355328):
 Calls Tryz.prog 8 #[.string s,.slice A0 la.length ac,.slice B0 lb.length bc] w (LawF w):=by
 have HAL:=Lib.hid (nalive_yes w hG)
 by_cases hbig:200<s.size
 · have d1:decide ((200:Int)<(s.size:Int))=true:=by simp;omega
   have d2:decide (200<s.size)=true:=by simp;omega
   clear hG hA hB
   go_enter Tryz.func8,Tryz.ntmps8
   go_wp2_with fail
   with_reducible refine(HAL.out).mono ?_
   rintro e w1 ⟨rfl,hb1⟩
   have HB1:=Lib.hid hb1
   clear hb1
   go_wp2_with fail
   go_ret
   exact⟨rfl,HB1.out⟩
 · have d1:decide ((200:Int)<(s.size:Int))=false:=by simp;omega
   have d2:decide (200<s.size)=false:=by simp;omega
   have HPS:=Lib.hid (fun(W:World) (hb:Below w.heap.size w W)=>pparse_any (s:=s) (D:=64) W (hG.below hb) (by omega) (by decide) (by decide))
   have HWR:=Lib.hid (fun(W:World) (hb:Below w.heap.size w W)=>word_any (ac:=ac) (bc:=bc) W (hA.below hb) (hB.below hb) rfl rfl)
   have HOF:=Lib.hid (fun(f:Fo) (h:parseF 64 s.data.toList= .ok f)=>parse_okf (l:=s.data.toList) (by have:s.data.toList.length=s.size:=(by simp);omega) h)
   have HLS:=Lib.hid (show s.data.toList.length<=200 by have:s.data.toList.length=s.size:=(by simp);omega)
   have HNM:=Lib.hid (fun(W:World) (hb:Below w.heap.size w W)=>num_errno 2 W (hG.below hb).glob)
   have HN0:=Lib.hid (fun(W:World)=>num_nil W)
   obtain⟨rs,hrs⟩:∃rs,rs=parseF 64 s.data.toList:=⟨_,rfl⟩
   rw[<- hrs]at HPS HOF
   generalize la.length=LA at*
   generalize lb.length=LB at*
   clear hrs hG hA hB
   cases rs with
   | er c p=>
     go_enter Tryz.func8,Tryz.ntmps8
     go_wp2_with fail
     with_reducible refine(HAL.out).mono ?_
     rintro e w1 ⟨rfl,hb1⟩
     have HB1:=Lib.hid hb1
     clear hb1
     go_wp2_with fail
     refine(HPS.out _ HB1.out).mono ?_
     rintro e w2 hq
     obtain⟨bb,rfl,hb2⟩:=hq.no
     have HB2:=Lib.hid (HB1.out.trans (hb2.mono HB1.out.size))
     clear hq hb2
     go_wp2_with fail
     go_ret
     exact⟨rfl,HB2.out.alloc HB2.out.size _⟩
   | ok f=>
     have hF:=HOF.out f rfl
     have hfz:f.size<=201:=by have:=hF.2;have:=HLS.out;omega
     have HFO:=Lib.hid hF.1
     have HFZ:=Lib.hid hfz
     clear hF hfz HOF HLS
     go_enter Tryz.func8,Tryz.ntmps8
     go_wp2_with fail
     with_reducible refine(HAL.out).mono ?_
     rintro e w0 ⟨rfl,hb1⟩
     have HB1:=Lib.hid hb1
     clear hb1 HAL
     go_wp2_with fail
     refine(HPS.out _ HB1.out).mono ?_
     rintro e w1 hq
     obtain⟨vf,rfl,hf,hb2⟩:=hq.yes
     have HB2:=Lib.hid (below_t (HB1.out.trans (hb2.mono HB1.out.size)) (below_alloc w1 (.cells #[.string vf.o,.string vf.nm,.slice vf.A vf.ll vf.cap,.int .i64 vf.p] 27)))
     have HF2:=Lib.hid (FB.new hf)
     clear hq hb2 hf HPS HB1
     go_wp2_with fail
     refine(HWR.out _ HB2.out).mono ?_
     rintro e w5 ⟨sl,ll,hgs,hgl,hne,hs8,hl8,A,n,sc,B,m,lc,rfl,hn,hm,hwm,hc1,hc2,hb5⟩
     have hr:wR NMS sl ll:=wR_nms hne (by omega) hgs hgl
     obtain⟨qf,hqf⟩:∃q,q=w1.heap.size:=⟨_,rfl⟩
     rw[<- hqf]at HF2 ⊢
     obtain⟨qw,hqw⟩:∃q,q=w5.heap.size:=⟨_,rfl⟩
     obtain⟨wp,hwp⟩:∃W,W=w5.alloc (.cells #[.slice A n sc,.slice B m lc] 42):=⟨_,rfl⟩
     have hk5:Below w5.heap.size w5 wp:=by rw[hwp];exact below_alloc _ _
     have HFP:=Lib.hid ((HF2.out.below hb5).below hk5)
     have HWD:=Lib.hid (show WB wp qw A n sc B m lc sl ll from⟨by rw[hqw,hwp];exact Bx.new w5 42 [.slice A n sc,.slice B m lc],hwm.below hk5,hn,hm,hc1,hc2,by omega,by omega⟩)
     have HBP:=Lib.hid (below_t (below_t HB2.out hb5) hk5)
     have HWP:=Lib.hid hwp
     obtain⟨u,hu⟩:∃u,u=hoV NMS sl ll f:=⟨_,rfl⟩
     obtain⟨er,her⟩:∃er,er=erO (hdO NMS f):=⟨_,rfl⟩
     have HH1:=Lib.hid (fun(W:World) (N:Option Addr) (lk:WB W qw A n sc B m lc sl ll) (hx:FS W 27 TT f vf.c) (hN:SSl W N NMS)=>holdsQ (u:=u) (er:=er) (nc:=3) lk.wm lk.hn lk.hm lk.c1 lk.c2 lk.n6 lk.m6 hN hx HFO.out (by have:=HFZ.out;omega) hu (by rw[her,tu_er hr]))
     have HHX:=Lib.hid (fun(y:Fo) (uy:Bool) (hoy:OkF y) (hzy:y.size<=4096) (hdy:hdO NMS y=true) (huy:uy=hv NMS (wl sl ll) y) (W:World) (N:Option Addr) (v:FV) (lk:WB W qw A n sc B m lc sl ll) (hx:FS W 27 TT y v.c) (hN:SSl W N NMS)=>lk.holds (nc:=3) hN hx hoy hzy hr hdy huy)
     have HUH:=Lib.hid (show u=hv NMS (wl sl ll) f by rw[hu,ho_hv hr])
     unfold HvQ at HH1
     clear hqf hwp hk5 hb5 hn hm hwm hc1 hc2 hr hgs hgl hne hs8 hl8 hu HWR HF2 HB2
     go_upto_region 9 with fail
     rw[<- HWP.out,<- hqw]
     clear hqw
     have HQ:=Lib.hid her
     clear her
     rcases Bool.eq_false_or_eq_true (hdO NMS f)with hd | hd
     rotate_left
     · have hed:er= .iface 78 (.int .i64 30):=by rw[HQ.out,hd];rfl
       subst hed
       go_cut [10,11]from 39 to 45 (fun r e W=>r= .bool u/\e= .iface 78 (.int .i64 30)/\Below wp.heap.size wp W)
       case first=>
        have lk:Below wp.heap.size wp wp.drew:=(Below.refl _ _).drew
        go_region_held3 (fun w'=>w'.cell? ⟨qf,0,none⟩=some (.string vf.o)/\w'.cell? ⟨qf,1,none⟩=some (.string vf.nm)/\w'.cell? ⟨qf,2,none⟩=some (.slice vf.A vf.ll vf.cap)/\w'.cell? ⟨qf,3,none⟩=some (.int .i64 vf.p)/\w'.cell? ⟨qw,0,none⟩=some (.slice A n sc)/\w'.cell? ⟨qw,1,none⟩=some (.slice B m lc)) (exact six_cells (HFP.out.below lk) (HWD.out.below lk)) (first
         | (go_at_call 22
            with_reducible refine(names_any _).mono ?_
            rintro e wA ⟨qn,rfl,hN,hbA⟩
            replace lk:=below_t lk hbA
            have HN:=Lib.hid hN
            clear hN hbA)
         | (go_at_call 20
            with_reducible refine(HH1.out _ _ (HWD.out.below lk) (HFP.out.below lk).fs HN.out).mono ?_
            rintro e wB ⟨rfl,hbB⟩
            replace lk:=below_t lk hbB
            clear hbB))
        all_goals
         have HLK:=Lib.hid lk
         clear lk
         go_wp2
         go_meet
         exact⟨rfl,rfl,HLK.out⟩
       obtain⟨rfl,rfl,hlk⟩:=hcut
       have HL:=Lib.hid (below_t HBP.out hlk)
       clear hlk
       go_wp2_with fail
       go_ret
       exact⟨rfl,HL.out⟩
     · have hed:er= .nilIface:=by rw[HQ.out,hd];rfl
       subst hed
       go_cut [10,11]from 39 to 45 (fun r e W=>r= .bool u/\e= .nilIface/\Below wp.heap.size wp W)
       case first=>
        have lk:Below wp.heap.size wp wp.drew:=(Below.refl _ _).drew
        go_region_held3 (fun w'=>w'.cell? ⟨qf,0,none⟩=some (.string vf.o)/\w'.cell? ⟨qf,1,none⟩=some (.string vf.nm)/\w'.cell? ⟨qf,2,none⟩=some (.slice vf.A vf.ll vf.cap)/\w'.cell? ⟨qf,3,none⟩=some (.int .i64 vf.p)/\w'.cell? ⟨qw,0,none⟩=some (.slice A n sc)/\w'.cell? ⟨qw,1,none⟩=some (.slice B m lc)) (exact six_cells (HFP.out.below lk) (HWD.out.below lk)) (first
         | (go_at_call 22
            with_reducible refine(names_any _).mono ?_
            rintro e wA ⟨qn,rfl,hN,hbA⟩
            replace lk:=below_t lk hbA
            have HN:=Lib.hid hN
            clear hN hbA)
         | (go_at_call 20
            with_reducible refine(HH1.out _ _ (HWD.out.below lk) (HFP.out.below lk).fs HN.out).mono ?_
            rintro e wB ⟨rfl,hbB⟩
            replace lk:=below_t lk hbB
            clear hbB))
        all_goals
         have HLK:=Lib.hid lk
         clear lk
         go_wp2
         go_meet
         exact⟨rfl,rfl,HLK.out⟩
       obtain⟨rfl,rfl,hlk⟩:=hcut
       have HF9:=Lib.hid (HFP.out.below hlk)
       have HW9:=Lib.hid (HWD.out.below hlk)
       have HB9:=Lib.hid (below_t HBP.out hlk)
       have hoX:=okf_nO f HFO.out false
       have hoY:=okf_nO f HFO.out true
       have hdX:hdO NMS (nO f false)=true:=by rw[hd_nO HFO.out];exact hd
       have hdY:hdO NMS (nO f true)=true:=by rw[hd_nO HFO.out];exact hd
       have huX:u=hv NMS (wl sl ll) (nO f false):=by rw[hv_nO HFO.out hd,Bool.false_xor];exact HUH.out
       have huY:(!u)=hv NMS (wl sl ll) (nO f true):=by rw[hv_nO HFO.out hd,Bool.true_xor,<- HUH.out]
       have HN1:=Lib.hid (fun(W:World) (v:FV) (h:FS W 27 TT f v.c)=>show Calls Tryz.prog 30 #[.agg #[.string v.o,.string v.nm,.slice v.A v.ll v.cap,.int .i64 v.p],.bool false] W (NoP (nO f false) (okN f (nO f false)) 2 W)from nnormal_any HFO.out (by have:=HFZ.out;omega) (b:=false) W h)
       have HN2:=Lib.hid (fun(W:World) (v:FV) (h:FS W 27 TT f v.c)=>show Calls Tryz.prog 30 #[.agg #[.string v.o,.string v.nm,.slice v.A v.ll v.cap,.int .i64 v.p],.bool true] W (NoP (nO f true) (okN f (nO f true)) 2 W)from nnormal_any HFO.out (by have:=HFZ.out;omega) (b:=true) W h)
       have HSI:=Lib.hid (fun(hz:(nO f false).size<=4096)=>(twC_of HFO.out hz).s1)
       have HHA:=Lib.hid (fun(hz:(nO f false).size<=4096)=>HHX.out (nO f false) u hoX hz hdX huX)
       have HHB:=Lib.hid (fun(hz:(nO f true).size<=4096)=>HHX.out (nO f true) (!u) hoY hz hdY huY)
       have HHC:=Lib.hid (fun(hz:(nO f false).size<=4096)=>HHX.out (smO (nO f false)) u (smO_okf _ hoX) (Nat.le_trans (smO_size _) hz) (hd_smO hdX) (by rw[hv_smO hoX hdX];exact huX))
       have HSZ:=Lib.hid (smO_size (nO f false))
       unfold HvP at HHA HHB HHC
       clear hlk hoX hoY hdX hdY huX huY HHX HH1 HUH HQ HFP HWD HBP hd
       generalize smO (nO f false)=Zf at*
       generalize nO f false=Xf at*
       generalize nO f true=Yf at*
       obtain⟨p0,p1,p2,p3⟩:=HF9.out.bx.cells4
       go_wp2_with fail
       with_reducible refine(HN1.out _ _ HF9.out.fs).mono ?_
       rintro e wa ⟨hba,hcx⟩
       obtain⟨vx,ex,rfl,hX⟩:∃(vx:FV) (ex:Value),e= .returned (.tuple #[.agg #[.string vx.o,.string vx.nm,.slice vx.A vx.ll vx.cap,.int .i64 vx.p],ex])/\((ex= .nilIface/\Xf.size<=4096/\FS wa 27 TT Xf vx.c)∨ex= .iface 78 (.int .i64 2)):=by
        rcases hcx with⟨hok,vx,rfl,hz⟩ | ⟨-,rfl⟩
        · exact⟨vx,_,rfl,.inl ⟨rfl,hok.2,FS.wide (T:=TT) (fun _ _ _=>trivial) hz.fs⟩⟩
        · exact⟨fv0,_,rfl,.inr rfl⟩
       have hk:=below_alloc wa (.cells #[.string vx.o,.string vx.nm,.slice vx.A vx.ll vx.cap,.int .i64 vx.p] 27)
       have HFA:=Lib.hid ((HF9.out.below hba).below hk)
       have HWA:=Lib.hid ((HW9.out.below hba).below hk)
       have HBA:=Lib.hid (below_t (below_t HB9.out hba) hk)
       have HXB:=Lib.hid (show Bx (wa.alloc (.cells #[.string vx.o,.string vx.nm,.slice vx.A vx.ll vx.cap,.int .i64 vx.p] 27)) wa.heap.size 27 [.string vx.o,.string vx.nm,.slice vx.A vx.ll vx.cap,.int .i64 vx.p]from Bx.new wa 27 [.string vx.o,.string vx.nm,.slice vx.A vx.ll vx.cap,.int .i64 vx.p])
       have HXC:=Lib.hid (show(ex= .nilIface/\Xf.size<=4096/\FS (wa.alloc (.cells #[.string vx.o,.string vx.nm,.slice vx.A vx.ll vx.cap,.int .i64 vx.p] 27)) 27 TT Xf vx.c)∨ex= .iface 78 (.int .i64 2)from hX.imp (fun h=>⟨h.1,h.2.1,h.2.2.below hk⟩) id)
       clear hba hcx hX hk HF9 HW9 HB9
       obtain⟨p0,p1,p2,p3⟩:=HFA.out.bx.cells4
       go_wp2_with fail
       with_reducible refine(HN2.out _ _ HFA.out.fs).mono ?_
       rintro e wb ⟨hbb,hcy⟩
       obtain⟨vy,ey,rfl,hY⟩:∃(vy:FV) (ey:Value),e= .returned (.tuple #[.agg #[.string vy.o,.string vy.nm,.slice vy.A vy.ll vy.cap,.int .i64 vy.p],ey])/\((ey= .nilIface/\Yf.size<=4096/\FS wb 27 TT Yf vy.c)∨ey= .iface 78 (.int .i64 2)):=by
        rcases hcy with⟨hok,vy,rfl,hz⟩ | ⟨-,rfl⟩
        · exact⟨vy,_,rfl,.inl ⟨rfl,hok.2,FS.wide (T:=TT) (fun _ _ _=>trivial) hz.fs⟩⟩
        · exact⟨fv0,_,rfl,.inr rfl⟩
       have hk:=below_alloc wb (.cells #[.string vy.o,.string vy.nm,.slice vy.A vy.ll vy.cap,.int .i64 vy.p] 27)
       have HWB:=Lib.hid ((HWA.out.below hbb).below hk)
       have HBB:=Lib.hid (below_t (below_t HBA.out hbb) hk)
       have HXB2:=Lib.hid ((HXB.out.below hbb).below hk)
       have HYB:=Lib.hid (show Bx (wb.alloc (.cells #[.string vy.o,.string vy.nm,.slice vy.A vy.ll vy.cap,.int .i64 vy.p] 27)) wb.heap.size 27 [.string vy.o,.string vy.nm,.slice vy.A vy.ll vy.cap,.int .i64 vy.p]from Bx.new wb 27 [.string vy.o,.string vy.nm,.slice vy.A vy.ll vy.cap,.int .i64 vy.p])
       have hxc:(ex= .nilIface/\Xf.size<=4096/\FS (wb.alloc (.cells #[.string vy.o,.string vy.nm,.slice vy.A vy.ll vy.cap,.int .i64 vy.p] 27)) 27 TT Xf vx.c)∨ex= .iface 78 (.int .i64 2):=HXC.out.imp (fun h=>⟨h.1,h.2.1,(h.2.2.below hbb).below hk⟩) id
       have hyc:(ey= .nilIface/\Yf.size<=4096/\FS (wb.alloc (.cells #[.string vy.o,.string vy.nm,.slice vy.A vy.ll vy.cap,.int .i64 vy.p] 27)) 27 TT Yf vy.c)∨ey= .iface 78 (.int .i64 2):=hY.imp (fun h=>⟨h.1,h.2.1,h.2.2.below hk⟩) id
       clear hbb hcy hY hk HFA HWA HBA HXB HXC HN1 HN2 p0 p1 p2 p3
       rcases hxc with⟨rfl,zX,fX⟩ | rfl
       · rcases hyc with⟨rfl,zY,fY⟩ | rfl
         · have HZX:=Lib.hid zX
           have HFX:=Lib.hid (show FB (wb.alloc (.cells #[.string vy.o,.string vy.nm,.slice vy.A vy.ll vy.cap,.int .i64 vy.p] 27)) wa.heap.size Xf vx from⟨HXB2.out,fX⟩)
           have HFY:=Lib.hid (show FB (wb.alloc (.cells #[.string vy.o,.string vy.nm,.slice vy.A vy.ll vy.cap,.int .i64 vy.p] 27)) wb.heap.size Yf vy from⟨HYB.out,fY⟩)
           have HA:=Lib.hid (HHA.out zX)
           have HB:=Lib.hid (HHB.out zY)
           have HC:=Lib.hid (HHC.out zX)
           have HS:=Lib.hid (HSI.out zX)
           have HSL:=Lib.hid (HSZ.out)
           clear zX zY fX fY HXB2 HYB HHA HHB HHC HSI HSZ
           obtain⟨x0,x1,x2,x3⟩:=HFX.out.bx.cells4
           go_wp2_with fail
           with_reducible refine(HS.out _ _ HFX.out.fs).mono ?_
           rintro e wz ⟨vz,rfl,hz,hbz⟩
           obtain⟨wq,hwq⟩:∃W,W=wz.alloc (.cells #[.string vz.o,.string vz.nm,.slice vz.A vz.ll vz.cap,.int .i64 vz.p] 27):=⟨_,rfl⟩
           have hk:Below wz.heap.size wz wq:=by rw[hwq];exact below_alloc _ _
           have HFXq:=Lib.hid ((HFX.out.below hbz).below hk)
           have HFYq:=Lib.hid ((HFY.out.below hbz).below hk)
           have HFZq:=Lib.hid (show FB wq wz.heap.size Zf vz by rw[hwq];exact FB.new (FS.wide (T:=TT) (fun _ _ _=>trivial) hz.fs))
           have HWD:=Lib.hid ((HWB.out.below hbz).below hk)
           have HBQ:=Lib.hid (below_t (below_t HBB.out hbz) hk)
           have HWQ:=Lib.hid hwq
           obtain⟨qx,hqx⟩:∃q,q=wa.heap.size:=⟨_,rfl⟩
           obtain⟨qy,hqy⟩:∃q,q=wb.heap.size:=⟨_,rfl⟩
           obtain⟨qz,hqz⟩:∃q,q=wz.heap.size:=⟨_,rfl⟩
           rw[<- hqx]at HFXq
           rw[<- hqy]at HFYq
           rw[<- hqz]at HFZq
           clear hz hbz hk hwq x0 x1 x2 x3 HFX HFY HWB HBB HS
           go_upto_region 17 with fail
           rw[<- HWQ.out,<- hqx,<- hqy,<- hqz]
           clear hqx hqy hqz HWQ
           go_cut [18,19]from 77 to 83 (fun r e W=>r= .bool u/\e= .nilIface/\Below wq.heap.size wq W)
           case first=>
            have lk:Below wq.heap.size wq wq.drew:=(Below.refl _ _).drew
            go_region_held3 (fun w'=>w'.cell? ⟨qx,0,none⟩=some (.string vx.o)/\w'.cell? ⟨qx,1,none⟩=some (.string vx.nm)/\w'.cell? ⟨qx,2,none⟩=some (.slice vx.A vx.ll vx.cap)/\w'.cell? ⟨qx,3,none⟩=some (.int .i64 vx.p)/\w'.cell? ⟨qw,0,none⟩=some (.slice A n sc)/\w'.cell? ⟨qw,1,none⟩=some (.slice B m lc)) (exact six_cells (HFXq.out.below lk) (HWD.out.below lk)) (first
             | (go_at_call 22
                with_reducible refine(names_any _).mono ?_
                rintro e wA ⟨qn,rfl,hN,hbA⟩
                replace lk:=below_t lk hbA
                have HN:=Lib.hid hN
                clear hN hbA)
             | (go_at_call 20
                with_reducible refine(HA.out _ _ _ (HWD.out.below lk) (HFXq.out.below lk).fs HN.out).mono ?_
                rintro e wB ⟨rfl,hbB⟩
                replace lk:=below_t lk hbB
                clear hbB))
            all_goals
             have HLK:=Lib.hid lk
             clear lk
             go_wp2
             go_meet
             exact⟨rfl,rfl,HLK.out⟩
           obtain⟨rfl,rfl,hlk⟩:=hcut
           replace HFXq:=Lib.hid (HFXq.out.below hlk)
           replace HFYq:=Lib.hid (HFYq.out.below hlk)
           replace HFZq:=Lib.hid (HFZq.out.below hlk)
           replace HWD:=Lib.hid (HWD.out.below hlk)
           replace HBQ:=Lib.hid (below_t HBQ.out hlk)
           clear hlk
           go_upto_region 18 with fail
           go_cut [20,21]from 84 to 90 (fun r e W=>r= .bool (!u)/\e= .nilIface/\Below wc.heap.size wc W)
           case first=>
            have lk:Below wc.heap.size wc wc.drew:=(Below.refl _ _).drew
            go_region_held3 (fun w'=>w'.cell? ⟨qy,0,none⟩=some (.string vy.o)/\w'.cell? ⟨qy,1,none⟩=some (.string vy.nm)/\w'.cell? ⟨qy,2,none⟩=some (.slice vy.A vy.ll vy.cap)/\w'.cell? ⟨qy,3,none⟩=some (.int .i64 vy.p)/\w'.cell? ⟨qw,0,none⟩=some (.slice A n sc)/\w'.cell? ⟨qw,1,none⟩=some (.slice B m lc)) (exact six_cells (HFYq.out.below lk) (HWD.out.below lk)) (first
             | (go_at_call 22
                with_reducible refine(names_any _).mono ?_
                rintro e wA ⟨qn,rfl,hN,hbA⟩
                replace lk:=below_t lk hbA
                have HN:=Lib.hid hN
                clear hN hbA)
             | (go_at_call 20
                with_reducible refine(HB.out _ _ _ (HWD.out.below lk) (HFYq.out.below lk).fs HN.out).mono ?_
                rintro e wB ⟨rfl,hbB⟩
                replace lk:=below_t lk hbB
                clear hbB))
            all_goals
             have HLK:=Lib.hid lk
             clear lk
             go_wp2
             go_meet
             exact⟨rfl,rfl,HLK.out⟩
           obtain⟨rfl,rfl,hlk⟩:=hcut
           replace HFXq:=Lib.hid (HFXq.out.below hlk)
           replace HFZq:=Lib.hid (HFZq.out.below hlk)
           replace HWD:=Lib.hid (HWD.out.below hlk)
           replace HBQ:=Lib.hid (below_t HBQ.out hlk)
           clear hlk HFYq HB
           go_upto_region 19 with fail
           go_cut [22,23]from 91 to 97 (fun r e W=>r= .bool u/\e= .nilIface/\Below wc.heap.size wc W)
           case first=>
            have lk:Below wc.heap.size wc wc.drew:=(Below.refl _ _).drew
            go_region_held3 (fun w'=>w'.cell? ⟨qz,0,none⟩=some (.string vz.o)/\w'.cell? ⟨qz,1,none⟩=some (.string vz.nm)/\w'.cell? ⟨qz,2,none⟩=some (.slice vz.A vz.ll vz.cap)/\w'.cell? ⟨qz,3,none⟩=some (.int .i64 vz.p)/\w'.cell? ⟨qw,0,none⟩=some (.slice A n sc)/\w'.cell? ⟨qw,1,none⟩=some (.slice B m lc)) (exact six_cells (HFZq.out.below lk) (HWD.out.below lk)) (first
             | (go_at_call 22
                with_reducible refine(names_any _).mono ?_
                rintro e wA ⟨qn,rfl,hN,hbA⟩
                replace lk:=below_t lk hbA
                have HN:=Lib.hid hN
                clear hN hbA)
             | (go_at_call 20
                with_reducible refine(HC.out _ _ _ (HWD.out.below lk) (HFZq.out.below lk).fs HN.out).mono ?_
                rintro e wB ⟨rfl,hbB⟩
                replace lk:=below_t lk hbB
                clear hbB))
            all_goals
             have HLK:=Lib.hid lk
             clear lk
             go_wp2
             go_meet
             exact⟨rfl,rfl,HLK.out⟩
           obtain⟨rfl,rfl,hlk⟩:=hcut
           replace HFXq:=Lib.hid (HFXq.out.below hlk)
           replace HFZq:=Lib.hid (HFZq.out.below hlk)
           replace HBQ:=Lib.hid (below_t HBQ.out hlk)
           clear hlk HWD HC HA
           have HZ1:=Lib.hid (fun(W:World) (h:FS W 27 TT Zf vz.c)=>size_is (Nat.le_trans HSL.out HZX.out) W h)
           have HZ2:=Lib.hid (fun(W:World) (h:FS W 27 TT Xf vx.c)=>size_is HZX.out W h)
           have hle:=HSL.out
           clear HSL HZX
           generalize Zf.size=zn at*
           generalize Xf.size=xn at*
           have dle:decide ((zn:Int)<=(xn:Int))=true:=by simp;omega
           have dle2:decide (zn<=xn)=true:=by simp;omega
           clear hle
           go_upto_region 20 with fail
           have lk:Below wc.heap.size wc wc.drew:=(Below.refl _ _).drew
           cases u
           all_goals
            go_region_held3 (fun w':World=>w'.cell? ⟨qz,0,none⟩=some (.string vz.o)/\w'.cell? ⟨qz,1,none⟩=some (.string vz.nm)/\w'.cell? ⟨qz,2,none⟩=some (.slice vz.A vz.ll vz.cap)/\w'.cell? ⟨qz,3,none⟩=some (.int .i64 vz.p)/\w'.cell? ⟨qx,0,none⟩=some (.string vx.o)/\w'.cell? ⟨qx,1,none⟩=some (.string vx.nm)/\w'.cell? ⟨qx,2,none⟩=some (.slice vx.A vx.ll vx.cap)/\w'.cell? ⟨qx,3,none⟩=some (.int .i64 vx.p)) (exact⟨(HFZq.out.below lk).bx.cells4.1,(HFZq.out.below lk).bx.cells4.2.1,(HFZq.out.below lk).bx.cells4.2.2.1,(HFZq.out.below lk).bx.cells4.2.2.2,(HFXq.out.below lk).bx.cells4.1,(HFXq.out.below lk).bx.cells4.2.1,(HFXq.out.below lk).bx.cells4.2.2.1,(HFXq.out.below lk).bx.cells4.2.2.2⟩) (first
             | (go_at_call 38
                with_reducible refine(HZ1.out _ (HFZq.out.below lk).fs).mono ?_
                rintro e wS ⟨rfl,hbS⟩
                replace lk:=below_t lk hbS
                clear hbS)
             | (go_at_call 38
                with_reducible refine(HZ2.out _ (HFXq.out.below lk).fs).mono ?_
                rintro e wS ⟨rfl,hbS⟩
                replace lk:=below_t lk hbS
                clear hbS))
            all_goals
             have HLK:=Lib.hid (below_t HBQ.out lk)
             clear lk
             go_wp2
             go_ret
             exact⟨rfl,HLK.out⟩
         · clear zX fX HXB2 HYB HHA HHB HHC HSI HSZ
           go_wp2_with fail
           with_reducible refine(HN0.out _).mono ?_
           rintro e wz ⟨rfl,rfl⟩
           go_wp2_with fail
           with_reducible refine(HNM.out _ HBB.out).mono ?_
           rintro e wz ⟨rfl,hbz⟩
           have HBZ:=Lib.hid (below_t HBB.out hbz)
           clear hbz
           go_wp2
           go_ret
           exact⟨rfl,HBZ.out⟩
       · clear hyc HXB2 HYB HHA HHB HHC HSI HSZ
         go_wp2_with fail
         with_reducible refine(HNM.out _ HBB.out).mono ?_
         rintro e wz ⟨rfl,hbz⟩
         have HBZ:=Lib.hid (below_t HBB.out hbz)
         clear hbz
         go_wp2
         go_ret
         exact⟨rfl,HBZ.out⟩
end Go.Proofs.YtmgjpjjglghbaaaGreatDoor
