/-
  LassoSteps, walked.
-/
import Derived.Test.YtkddaobbjfnckaaGreatDoorOJ
import Derived.Test.YtkddaobbjfnckaaGreatDoorOK
import Derived.Deep.CutRange
namespace Go.Proofs.YtkddaobbjfnckaaGreatDoor
open Go.RowKit Go.Sort Go.Maps

set_option maxHeartbeats 16000000 in
set_option maxRecDepth 100000 in
theorem lsteps_yes {A0 B0 : Option Addr} {a b : List Int} {ac bc : Nat} (s t : ByteArray) (w : World) (hG : GlobS w) (hA : USl w A0 a) (hB : USl w B0 b) (hs : s.size ≤ 140737488355328) (ht : t.size ≤ 140737488355328) :
    Calls Tryz.prog 7 #[.string s, .string t, .slice A0 a.length ac, .slice B0 b.length bc] w (LawF w) := by
  have HAL := Lib.hid (lalive_yes w hG)
  by_cases hbig : 200 < s.size + t.size
  · have d1 : decide ((200 : Int) < (s.size : Int) + (t.size : Int)) = true := by simp; omega
    clear hG hA hB
    go_enter Tryz.func7, Tryz.ntmps7
    go_wp2_with fail
    with_reducible refine (HAL.out).mono ?_
    rintro e w1 ⟨rfl, hb1⟩
    have HB1 := Lib.hid hb1
    clear hb1
    go_wp2_with fail
    go_ret
    exact ⟨rfl, HB1.out⟩
  · have d1 : decide ((200 : Int) < (s.size : Int) + (t.size : Int)) = false := by simp; omega
    have d1' : ¬ (200 : Int) < (s.size : Int) + (t.size : Int) := by omega
    have HPS := Lib.hid (fun (W : World) (hb : Below w.heap.size w W) => pparse_any (s := s) (D := 60) W (hG.below hb) (by omega) (by decide) (by decide))
    have HPT := Lib.hid (fun (W : World) (hb : Below w.heap.size w W) => pparse_any (s := t) (D := 60) W (hG.below hb) (by omega) (by decide) (by decide))
    have HWD := Lib.hid (fun (W : World) (hb : Below w.heap.size w W) => word_any (ac := ac) (bc := bc) W (hA.below hb) (hB.below hb) rfl rfl)
    have HOF := Lib.hid (fun (f : Fo) (h : parseF 60 s.data.toList = .ok f) => parse_okf (l := s.data.toList) (by have : s.data.toList.length = s.size := (by simp); omega) h)
    have HOG := Lib.hid (fun (f : Fo) (h : parseF 60 t.data.toList = .ok f) => parse_okf (l := t.data.toList) (by have : t.data.toList.length = t.size := (by simp); omega) h)
    have HLS := Lib.hid (show s.data.toList.length ≤ 200 by have : s.data.toList.length = s.size := (by simp); omega)
    have HLT := Lib.hid (show t.data.toList.length ≤ 200 by have : t.data.toList.length = t.size := (by simp); omega)
    obtain ⟨rs, hrs⟩ : ∃ rs, rs = parseF 60 s.data.toList := ⟨_, rfl⟩
    obtain ⟨rt, hrt⟩ : ∃ rt, rt = parseF 60 t.data.toList := ⟨_, rfl⟩
    rw [← hrs] at HPS HOF
    rw [← hrt] at HPT HOG
    clear hrs hrt
    generalize a.length = N at *
    generalize b.length = M at *
    clear hA hB hG
    cases rs with
    | er c p =>
      go_enter Tryz.func7, Tryz.ntmps7
      go_wp2_with fail
      with_reducible refine (HAL.out).mono ?_
      rintro e w1 ⟨rfl, hb1⟩
      have HB1 := Lib.hid hb1
      clear hb1
      go_wp2_with fail
      refine (HPS.out _ HB1.out).mono ?_
      rintro e w2 hq
      obtain ⟨bb, rfl, hb2⟩ := hq.no
      have HB2 := Lib.hid (HB1.out.trans (hb2.mono HB1.out.size))
      clear hq hb2
      go_wp2_with fail
      refine (HPT.out _ (HB2.out.alloc HB2.out.size _)).mono ?_
      rintro e w3 hq
      obtain ⟨⟨o, nm, A, ll, cap, pp⟩, er, rfl, hb3⟩ := hq.low
      have HB3 := Lib.hid (below_t (HB2.out.alloc HB2.out.size _) hb3)
      clear hq hb3
      go_wp2_with fail
      go_ret
      exact ⟨rfl, HB3.out.alloc HB3.out.size _⟩
    | ok f =>
      cases rt with
      | er c p =>
        go_enter Tryz.func7, Tryz.ntmps7
        go_wp2_with fail
        with_reducible refine (HAL.out).mono ?_
        rintro e w1 ⟨rfl, hb1⟩
        have HB1 := Lib.hid hb1
        clear hb1
        go_wp2_with fail
        refine (HPS.out _ HB1.out).mono ?_
        rintro e w2 hq
        obtain ⟨vf, rfl, hf, hb2⟩ := hq.yes
        have HB2 := Lib.hid (HB1.out.trans (hb2.mono HB1.out.size))
        clear hq hb2 hf
        go_wp2_with fail
        refine (HPT.out _ (HB2.out.alloc HB2.out.size _)).mono ?_
        rintro e w3 hq
        obtain ⟨bb, rfl, hb3⟩ := hq.no
        have HB3 := Lib.hid (below_t (HB2.out.alloc HB2.out.size _) hb3)
        clear hq hb3
        go_wp2_with fail
        go_ret
        exact ⟨rfl, HB3.out.alloc HB3.out.size _⟩
      | ok g =>
        have HF := Lib.hid (HOF.out f rfl)
        have HG := Lib.hid (HOG.out g rfl)
        have HFZ := Lib.hid (show f.size ≤ 201 by have := HF.out.2; have := HLS.out; omega)
        have HGZ := Lib.hid (show g.size ≤ 201 by have := HG.out.2; have := HLT.out; omega)
        clear HOF HOG HLS HLT
        go_enter Tryz.func7, Tryz.ntmps7
        go_wp2_with fail
        with_reducible refine (HAL.out).mono ?_
        rintro e w0 ⟨rfl, hb1⟩
        have HB1 := Lib.hid hb1
        clear hb1
        go_wp2_with fail
        refine (HPS.out _ HB1.out).mono ?_
        rintro e w1 hq
        obtain ⟨vf, rfl, hf, hb2⟩ := hq.yes
        have HB2 := Lib.hid (HB1.out.trans (hb2.mono HB1.out.size))
        have HFB := Lib.hid (FB.new hf)
        clear hq hb2 hf HPS
        go_wp2_with fail
        refine (HPT.out _ (HB2.out.alloc HB2.out.size _)).mono ?_
        rintro e w2 hq
        obtain ⟨vg, rfl, hg, hb3⟩ := hq.yes
        have HB3 := Lib.hid ((below_t (HB2.out.alloc HB2.out.size _) hb3).alloc (below_t (HB2.out.alloc HB2.out.size _) hb3).size (.cells #[.string vg.o, .string vg.nm, .slice vg.A vg.ll vg.cap, .int .i64 vg.p] 27))
        have HFB2 := Lib.hid ((HFB.out.below hb3).below (below_alloc _ (.cells #[.string vg.o, .string vg.nm, .slice vg.A vg.ll vg.cap, .int .i64 vg.p] 27)))
        have HGB2 := Lib.hid (FB.new hg)
        clear hq hb3 hg HPT HFB
        have f0 := HFB2.out.bx.cell 0
        have f1 := HFB2.out.bx.cell 1
        have f2 := HFB2.out.bx.cell 2
        have f3 := HFB2.out.bx.cell 3
        simp only [List.getElem?_cons_zero, List.getElem?_cons_succ] at f0 f1 f2 f3
        have HOT1 := Lib.hid (other_any _ HFB2.out.fs HF.out.1 (by have := HFZ.out; omega))
        obtain ⟨hdf, hdfe⟩ : ∃ b, b = hdO NMS f := ⟨_, rfl⟩
        unfold OthP at HOT1
        rw [← hdfe] at HOT1
        have HDF := Lib.hid hdfe
        clear hdfe
        go_wp2_with fail
        refine (HOT1.out).mono ?_
        rintro e w3 ⟨rfl, hb4⟩
        have HB4 := Lib.hid (below_t HB3.out hb4)
        have HFB3 := Lib.hid (HFB2.out.below hb4)
        have HGB3 := Lib.hid (HGB2.out.below hb4)
        clear hb4 f0 f1 f2 f3 HOT1 HFB2 HGB2 HB3
        cases hdf with
        | false =>
          go_wp2_with fail
          go_ret
          exact ⟨rfl, HB4.out⟩
        | true =>
          have g0 := HGB3.out.bx.cell 0
          have g1 := HGB3.out.bx.cell 1
          have g2 := HGB3.out.bx.cell 2
          have g3 := HGB3.out.bx.cell 3
          simp only [List.getElem?_cons_zero, List.getElem?_cons_succ] at g0 g1 g2 g3
          have HOT2 := Lib.hid (other_any _ HGB3.out.fs HG.out.1 (by have := HGZ.out; omega))
          obtain ⟨hdg, hdge⟩ : ∃ b, b = hdO NMS g := ⟨_, rfl⟩
          unfold OthP at HOT2
          rw [← hdge] at HOT2
          have HDG := Lib.hid hdge
          clear hdge
          go_wp2_with fail
          refine (HOT2.out).mono ?_
          rintro e w4 ⟨rfl, hb4⟩
          have HB5 := Lib.hid (below_t HB4.out hb4)
          have HFB4 := Lib.hid (HFB3.out.below hb4)
          have HGB4 := Lib.hid (HGB3.out.below hb4)
          clear hb4 g0 g1 g2 g3 HOT2 HFB3 HGB3 HB4
          cases hdg with
          | false =>
            go_wp2_with fail
            go_ret
            exact ⟨rfl, HB5.out⟩
          | true =>
            go_wp2_with fail
            refine (HWD.out _ HB5.out).mono ?_
            rintro e w5 ⟨sl, ll, hgs, hgl, hne, hs8, hl8, A, n, sc, B, m, lc, rfl, hn, hm, hwm, hc1, hc2, hb5⟩
            have hr : wR NMS sl ll := wR_nms hne (by omega) hgs hgl
            have lk : LEV w f g vf vg w1.heap.size w2.heap.size w5.heap.size A n sc B m lc sl ll (w5.alloc (.cells #[.slice A n sc, .slice B m lc] 42)) :=
              ⟨(HFB4.out.below hb5).below (below_alloc _ _), (HGB4.out.below hb5).below (below_alloc _ _), ⟨Bx.new w5 42 [.slice A n sc, .slice B m lc], hwm.below (below_alloc _ _), hn, hm, hc1, hc2, by omega, by omega⟩, below_t (below_t HB5.out hb5) (below_alloc _ _)⟩
            have HLEN := Lib.hid (show (shS sl).length ≤ 8 ∧ (shL sl ll).length ≤ 8 ∧ wR NMS (shS sl) (shL sl ll) by
              have e1 : (shS sl).length ≤ 8 := by rw [shS, List.length_tail]; omega
              have e2 : (shL sl ll).length ≤ 8 := by rw [shL_len]; exact hl8
              refine ⟨e1, e2, wR_nms (fun h => hne (List.length_eq_zero_iff.1 (by rw [← shL_len (s := sl), h]; rfl))) (by omega) (fun x hx => hgs x (List.mem_of_mem_tail hx)) (fun x hx => hgl x (shL_mem hx))⟩)
            obtain ⟨u1, hu1⟩ : ∃ u, u = hv NMS (wl sl ll) f := ⟨_, rfl⟩
            obtain ⟨u2, hu2⟩ : ∃ u, u = hv NMS (wl sl ll) g := ⟨_, rfl⟩
            obtain ⟨u3, hu3⟩ : ∃ u, u = hv NMS (wl sl ll) (fBin [85] f g) := ⟨_, rfl⟩
            obtain ⟨u4, hu4⟩ : ∃ u, u = hv NMS (wl sl ll) (fBin [87] f g) := ⟨_, rfl⟩
            obtain ⟨u5, hu5⟩ : ∃ u, u = hv NMS (wl sl ll) (fBin [82] f g) := ⟨_, rfl⟩
            obtain ⟨u6, hu6⟩ : ∃ u, u = hv NMS (wl (shS sl) (shL sl ll)) (fBin [85] f g) := ⟨_, rfl⟩
            obtain ⟨u7, hu7⟩ : ∃ u, u = hv NMS (wl (shS sl) (shL sl ll)) (fBin [87] f g) := ⟨_, rfl⟩
            obtain ⟨u8, hu8⟩ : ∃ u, u = hv NMS (wl (shS sl) (shL sl ll)) (fBin [82] f g) := ⟨_, rfl⟩
            have hlaw := law_steps (N := NMS) (σ := wl sl ll) (τ := wl (shS sl) (shL sl ll)) HDF.out.symm HDG.out.symm (fun i => wl_shift (.inr hne) i)
            rw [← hu1, ← hu2, ← hu3, ← hu4, ← hu5, ← hu6, ← hu7, ← hu8] at hlaw
            have hdb : ∀ op, hdO NMS (fBin op f g) = true := fun op => by rw [hd_bin, ← HDF.out, ← HDG.out]; rfl
            have hzb : ∀ op, (fBin op f g).size ≤ 4096 := fun op => by have := HFZ.out; have := HGZ.out; simp only [fBin, Fo.size]; omega
            have hob : ∀ op, pk op < 4 → OkF (fBin op f g) := fun op h => ⟨h, HF.out.1, HG.out.1⟩
            have H1 := Lib.hid (fun (W : World) (N : Option Addr) (lk : WB W w5.heap.size A n sc B m lc sl ll) (hx : FS W 27 TT f vf.c) (hN : SSl W N NMS) => lk.holds (nc := 3) hN hx HF.out.1 (by have := HFZ.out; omega) hr HDF.out.symm hu1)
            have H2 := Lib.hid (fun (W : World) (N : Option Addr) (lk : WB W w5.heap.size A n sc B m lc sl ll) (hx : FS W 27 TT g vg.c) (hN : SSl W N NMS) => lk.holds (nc := 3) hN hx HG.out.1 (by have := HGZ.out; omega) hr HDG.out.symm hu2)
            have H3 := Lib.hid (fun (W : World) (N : Option Addr) (v : FV) (lk : WB W w5.heap.size A n sc B m lc sl ll) (hx : FS W 27 TT (fBin [85] f g) v.c) (hN : SSl W N NMS) => lk.holds (nc := 3) hN hx (hob _ (by decide)) (hzb _) hr (hdb _) hu3)
            have H4 := Lib.hid (fun (W : World) (N : Option Addr) (v : FV) (lk : WB W w5.heap.size A n sc B m lc sl ll) (hx : FS W 27 TT (fBin [87] f g) v.c) (hN : SSl W N NMS) => lk.holds (nc := 3) hN hx (hob _ (by decide)) (hzb _) hr (hdb _) hu4)
            have H5 := Lib.hid (fun (W : World) (N : Option Addr) (v : FV) (lk : WB W w5.heap.size A n sc B m lc sl ll) (hx : FS W 27 TT (fBin [82] f g) v.c) (hN : SSl W N NMS) => lk.holds (nc := 3) hN hx (hob _ (by decide)) (hzb _) hr (hdb _) hu5)
            have HHR := Lib.hid hr
            have HHB := Lib.hid (fun op (h : pk op < 4) => (⟨hob op h, hzb op, hdb op⟩ : OkF (fBin op f g) ∧ (fBin op f g).size ≤ 4096 ∧ hdO NMS (fBin op f g) = true))
            have HU6 := Lib.hid hu6
            have HU7 := Lib.hid hu7
            have HU8 := Lib.hid hu8
            have HLAW := Lib.hid hlaw
            clear hr hob hzb hdb hu1 hu2 hu3 hu4 hu5 hu6 hu7 hu8 hlaw hne hgs hgl hs8 hl8 hn hm hwm hc1 hc2 hb5 HWD HFB4 HGB4 HB5 HAL
            go_upto_region 10 with fail
            go_cut [14, 15] from 66 to 72 (fun r e W => r = .bool u1 ∧ e = .nilIface ∧ LEV w f g vf vg w1.heap.size w2.heap.size w5.heap.size A n sc B m lc sl ll W)
            case first =>
              replace lk := lk.drew
              go_region_held3 (fun w' : World => w'.cell? ⟨w1.heap.size, 0, none⟩ = some (.string vf.o) ∧ w'.cell? ⟨w1.heap.size, 1, none⟩ = some (.string vf.nm) ∧ w'.cell? ⟨w1.heap.size, 2, none⟩ = some (.slice vf.A vf.ll vf.cap) ∧ w'.cell? ⟨w1.heap.size, 3, none⟩ = some (.int .i64 vf.p) ∧ w'.cell? ⟨w2.heap.size, 0, none⟩ = some (.string vg.o) ∧ w'.cell? ⟨w2.heap.size, 1, none⟩ = some (.string vg.nm) ∧ w'.cell? ⟨w2.heap.size, 2, none⟩ = some (.slice vg.A vg.ll vg.cap) ∧ w'.cell? ⟨w2.heap.size, 3, none⟩ = some (.int .i64 vg.p) ∧ w'.cell? ⟨w5.heap.size, 0, none⟩ = some (.slice A n sc) ∧ w'.cell? ⟨w5.heap.size, 1, none⟩ = some (.slice B m lc)) (exact lk.S) (first
                | (go_at_call 19
                   with_reducible refine (names_any _).mono ?_
                   rintro e wA ⟨q, rfl, hN, hbA⟩
                   replace lk := lk.below hbA
                   (try replace HX := Lib.hid (HX.out.below hbA))
                   have HN := Lib.hid hN
                   clear hN hbA)
                | (go_at_call 17
                   with_reducible refine (H1.out _ _ lk.k lk.f.fs HN.out).mono ?_
                   rintro e wB ⟨rfl, hbB⟩
                   replace lk := lk.below hbB
                   clear hbB))
              all_goals
                have HLK := Lib.hid lk
                clear lk
                go_wp2
                go_meet
                exact ⟨rfl, rfl, HLK.out⟩
            clear lk
            obtain ⟨rfl, rfl, lk⟩ := hcut
            go_upto_region 11 with fail
            go_cut [16, 17] from 73 to 79 (fun r e W => r = .bool u2 ∧ e = .nilIface ∧ LEV w f g vf vg w1.heap.size w2.heap.size w5.heap.size A n sc B m lc sl ll W)
            case first =>
              replace lk := lk.drew
              go_region_held3 (fun w' : World => w'.cell? ⟨w1.heap.size, 0, none⟩ = some (.string vf.o) ∧ w'.cell? ⟨w1.heap.size, 1, none⟩ = some (.string vf.nm) ∧ w'.cell? ⟨w1.heap.size, 2, none⟩ = some (.slice vf.A vf.ll vf.cap) ∧ w'.cell? ⟨w1.heap.size, 3, none⟩ = some (.int .i64 vf.p) ∧ w'.cell? ⟨w2.heap.size, 0, none⟩ = some (.string vg.o) ∧ w'.cell? ⟨w2.heap.size, 1, none⟩ = some (.string vg.nm) ∧ w'.cell? ⟨w2.heap.size, 2, none⟩ = some (.slice vg.A vg.ll vg.cap) ∧ w'.cell? ⟨w2.heap.size, 3, none⟩ = some (.int .i64 vg.p) ∧ w'.cell? ⟨w5.heap.size, 0, none⟩ = some (.slice A n sc) ∧ w'.cell? ⟨w5.heap.size, 1, none⟩ = some (.slice B m lc)) (exact lk.S) (first
                | (go_at_call 19
                   with_reducible refine (names_any _).mono ?_
                   rintro e wA ⟨q, rfl, hN, hbA⟩
                   replace lk := lk.below hbA
                   (try replace HX := Lib.hid (HX.out.below hbA))
                   have HN := Lib.hid hN
                   clear hN hbA)
                | (go_at_call 17
                   with_reducible refine (H2.out _ _ lk.k lk.g.fs HN.out).mono ?_
                   rintro e wB ⟨rfl, hbB⟩
                   replace lk := lk.below hbB
                   clear hbB))
              all_goals
                have HLK := Lib.hid lk
                clear lk
                go_wp2
                go_meet
                exact ⟨rfl, rfl, HLK.out⟩
            clear lk
            obtain ⟨rfl, rfl, lk⟩ := hcut
            go_upto_region 12 with fail
            go_cut [18, 19] from 80 to 88 (fun r e W => r = .bool u3 ∧ e = .nilIface ∧ LEV w f g vf vg w1.heap.size w2.heap.size w5.heap.size A n sc B m lc sl ll W)
            case first =>
              replace lk := lk.drew
              go_region_held3 (fun w' : World => w'.cell? ⟨w1.heap.size, 0, none⟩ = some (.string vf.o) ∧ w'.cell? ⟨w1.heap.size, 1, none⟩ = some (.string vf.nm) ∧ w'.cell? ⟨w1.heap.size, 2, none⟩ = some (.slice vf.A vf.ll vf.cap) ∧ w'.cell? ⟨w1.heap.size, 3, none⟩ = some (.int .i64 vf.p) ∧ w'.cell? ⟨w2.heap.size, 0, none⟩ = some (.string vg.o) ∧ w'.cell? ⟨w2.heap.size, 1, none⟩ = some (.string vg.nm) ∧ w'.cell? ⟨w2.heap.size, 2, none⟩ = some (.slice vg.A vg.ll vg.cap) ∧ w'.cell? ⟨w2.heap.size, 3, none⟩ = some (.int .i64 vg.p) ∧ w'.cell? ⟨w5.heap.size, 0, none⟩ = some (.slice A n sc) ∧ w'.cell? ⟨w5.heap.size, 1, none⟩ = some (.slice B m lc)) (exact lk.S) (first
                | (go_at_call 19
                   with_reducible refine (names_any _).mono ?_
                   rintro e wA ⟨q, rfl, hN, hbA⟩
                   replace lk := lk.below hbA
                   (try replace HX := Lib.hid (HX.out.below hbA))
                   have HN := Lib.hid hN
                   clear hN hbA)
                | (go_at_call 22
                   with_reducible refine (two_any _ lk.f.fs lk.g.fs).mono ?_
                   rintro e wC ⟨v2, rfl, hx, hbC⟩
                   replace lk := lk.below hbC
                   (try replace HN := Lib.hid (HN.out.below hbC))
                   have HX := Lib.hid (show FS wC 27 TT (fBin [85] f g) v2.c from hx)
                   clear hx hbC)
                | (go_at_call 17
                   with_reducible refine (H3.out _ _ _ lk.k HX.out HN.out).mono ?_
                   rintro e wB ⟨rfl, hbB⟩
                   replace lk := lk.below hbB
                   clear hbB))
              all_goals
                have HLK := Lib.hid lk
                clear lk
                go_wp2
                go_meet
                exact ⟨rfl, rfl, HLK.out⟩
            clear lk
            obtain ⟨rfl, rfl, lk⟩ := hcut
            go_upto_region 13 with fail
            go_cut [20, 21] from 89 to 97 (fun r e W => r = .bool u4 ∧ e = .nilIface ∧ LEV w f g vf vg w1.heap.size w2.heap.size w5.heap.size A n sc B m lc sl ll W)
            case first =>
              replace lk := lk.drew
              go_region_held3 (fun w' : World => w'.cell? ⟨w1.heap.size, 0, none⟩ = some (.string vf.o) ∧ w'.cell? ⟨w1.heap.size, 1, none⟩ = some (.string vf.nm) ∧ w'.cell? ⟨w1.heap.size, 2, none⟩ = some (.slice vf.A vf.ll vf.cap) ∧ w'.cell? ⟨w1.heap.size, 3, none⟩ = some (.int .i64 vf.p) ∧ w'.cell? ⟨w2.heap.size, 0, none⟩ = some (.string vg.o) ∧ w'.cell? ⟨w2.heap.size, 1, none⟩ = some (.string vg.nm) ∧ w'.cell? ⟨w2.heap.size, 2, none⟩ = some (.slice vg.A vg.ll vg.cap) ∧ w'.cell? ⟨w2.heap.size, 3, none⟩ = some (.int .i64 vg.p) ∧ w'.cell? ⟨w5.heap.size, 0, none⟩ = some (.slice A n sc) ∧ w'.cell? ⟨w5.heap.size, 1, none⟩ = some (.slice B m lc)) (exact lk.S) (first
                | (go_at_call 19
                   with_reducible refine (names_any _).mono ?_
                   rintro e wA ⟨q, rfl, hN, hbA⟩
                   replace lk := lk.below hbA
                   (try replace HX := Lib.hid (HX.out.below hbA))
                   have HN := Lib.hid hN
                   clear hN hbA)
                | (go_at_call 22
                   with_reducible refine (two_any _ lk.f.fs lk.g.fs).mono ?_
                   rintro e wC ⟨v2, rfl, hx, hbC⟩
                   replace lk := lk.below hbC
                   (try replace HN := Lib.hid (HN.out.below hbC))
                   have HX := Lib.hid (show FS wC 27 TT (fBin [87] f g) v2.c from hx)
                   clear hx hbC)
                | (go_at_call 17
                   with_reducible refine (H4.out _ _ _ lk.k HX.out HN.out).mono ?_
                   rintro e wB ⟨rfl, hbB⟩
                   replace lk := lk.below hbB
                   clear hbB))
              all_goals
                have HLK := Lib.hid lk
                clear lk
                go_wp2
                go_meet
                exact ⟨rfl, rfl, HLK.out⟩
            clear lk
            obtain ⟨rfl, rfl, lk⟩ := hcut
            go_upto_region 14 with fail
            go_cut [22, 23] from 98 to 106 (fun r e W => r = .bool u5 ∧ e = .nilIface ∧ LEV w f g vf vg w1.heap.size w2.heap.size w5.heap.size A n sc B m lc sl ll W)
            case first =>
              replace lk := lk.drew
              go_region_held3 (fun w' : World => w'.cell? ⟨w1.heap.size, 0, none⟩ = some (.string vf.o) ∧ w'.cell? ⟨w1.heap.size, 1, none⟩ = some (.string vf.nm) ∧ w'.cell? ⟨w1.heap.size, 2, none⟩ = some (.slice vf.A vf.ll vf.cap) ∧ w'.cell? ⟨w1.heap.size, 3, none⟩ = some (.int .i64 vf.p) ∧ w'.cell? ⟨w2.heap.size, 0, none⟩ = some (.string vg.o) ∧ w'.cell? ⟨w2.heap.size, 1, none⟩ = some (.string vg.nm) ∧ w'.cell? ⟨w2.heap.size, 2, none⟩ = some (.slice vg.A vg.ll vg.cap) ∧ w'.cell? ⟨w2.heap.size, 3, none⟩ = some (.int .i64 vg.p) ∧ w'.cell? ⟨w5.heap.size, 0, none⟩ = some (.slice A n sc) ∧ w'.cell? ⟨w5.heap.size, 1, none⟩ = some (.slice B m lc)) (exact lk.S) (first
                | (go_at_call 19
                   with_reducible refine (names_any _).mono ?_
                   rintro e wA ⟨q, rfl, hN, hbA⟩
                   replace lk := lk.below hbA
                   (try replace HX := Lib.hid (HX.out.below hbA))
                   have HN := Lib.hid hN
                   clear hN hbA)
                | (go_at_call 22
                   with_reducible refine (two_any _ lk.f.fs lk.g.fs).mono ?_
                   rintro e wC ⟨v2, rfl, hx, hbC⟩
                   replace lk := lk.below hbC
                   (try replace HN := Lib.hid (HN.out.below hbC))
                   have HX := Lib.hid (show FS wC 27 TT (fBin [82] f g) v2.c from hx)
                   clear hx hbC)
                | (go_at_call 17
                   with_reducible refine (H5.out _ _ _ lk.k HX.out HN.out).mono ?_
                   rintro e wB ⟨rfl, hbB⟩
                   replace lk := lk.below hbB
                   clear hbB))
              all_goals
                have HLK := Lib.hid lk
                clear lk
                go_wp2
                go_meet
                exact ⟨rfl, rfl, HLK.out⟩
            clear lk
            obtain ⟨rfl, rfl, lk⟩ := hcut
            have HSH := Lib.hid (show Calls Tryz.prog 20 #[.agg #[.slice A n sc, .slice B m lc]] wc (LaP (shS sl) (shL sl ll) wc) by
              obtain ⟨_, wm, h1, h2, h3, h4, h5, h6⟩ := lk.k
              subst h1 h2
              exact shift_any wc wm h3 h4 (by omega) (by omega))
            obtain ⟨-, -, -, -, -, -, -, -, b0, b1⟩ := lk.S
            have LK := Lib.hid lk
            clear lk H1 H2 H3 H4 H5
            go_wp2_with fail
            refine (HSH.out).mono ?_
            rintro e w6 ⟨A2, n2, sc2, B2, m2, lc2, rfl, hn2, hm2, hwm2, hc3, hc4, hb6⟩
            have lk0 := LK.out.below hb6
            have lk : LEV w f g vf vg w1.heap.size w2.heap.size w6.heap.size A2 n2 sc2 B2 m2 lc2 (shS sl) (shL sl ll) (w6.alloc (.cells #[.slice A2 n2 sc2, .slice B2 m2 lc2] 42)) :=
              ⟨lk0.f.below (below_alloc _ _), lk0.g.below (below_alloc _ _), ⟨Bx.new w6 42 [.slice A2 n2 sc2, .slice B2 m2 lc2], hwm2.below (below_alloc _ _), hn2, hm2, hc3, hc4, by have := HLEN.out.1; omega, by have := HLEN.out.2.1; omega⟩, below_t lk0.low (below_alloc _ _)⟩
            have H6 := Lib.hid (fun (W : World) (N : Option Addr) (v : FV) (lk : WB W w6.heap.size A2 n2 sc2 B2 m2 lc2 (shS sl) (shL sl ll)) (hx : FS W 27 TT (fBin [85] f g) v.c) (hN : SSl W N NMS) => lk.holds (nc := 3) hN hx (HHB.out [85] (by decide)).1 (HHB.out [85] (by decide)).2.1 HLEN.out.2.2 (HHB.out [85] (by decide)).2.2 HU6.out)
            have H7 := Lib.hid (fun (W : World) (N : Option Addr) (v : FV) (lk : WB W w6.heap.size A2 n2 sc2 B2 m2 lc2 (shS sl) (shL sl ll)) (hx : FS W 27 TT (fBin [87] f g) v.c) (hN : SSl W N NMS) => lk.holds (nc := 3) hN hx (HHB.out [87] (by decide)).1 (HHB.out [87] (by decide)).2.1 HLEN.out.2.2 (HHB.out [87] (by decide)).2.2 HU7.out)
            have H8 := Lib.hid (fun (W : World) (N : Option Addr) (v : FV) (lk : WB W w6.heap.size A2 n2 sc2 B2 m2 lc2 (shS sl) (shL sl ll)) (hx : FS W 27 TT (fBin [82] f g) v.c) (hN : SSl W N NMS) => lk.holds (nc := 3) hN hx (HHB.out [82] (by decide)).1 (HHB.out [82] (by decide)).2.1 HLEN.out.2.2 (HHB.out [82] (by decide)).2.2 HU8.out)
            clear lk0 hn2 hm2 hwm2 hc3 hc4 hb6 LK HSH b0 b1
            go_upto_region 16 with fail
            go_cut [25, 26] from 109 to 117 (fun r e W => r = .bool u6 ∧ e = .nilIface ∧ LEV w f g vf vg w1.heap.size w2.heap.size w6.heap.size A2 n2 sc2 B2 m2 lc2 (shS sl) (shL sl ll) W)
            case first =>
              replace lk := lk.drew
              go_region_held3 (fun w' : World => w'.cell? ⟨w1.heap.size, 0, none⟩ = some (.string vf.o) ∧ w'.cell? ⟨w1.heap.size, 1, none⟩ = some (.string vf.nm) ∧ w'.cell? ⟨w1.heap.size, 2, none⟩ = some (.slice vf.A vf.ll vf.cap) ∧ w'.cell? ⟨w1.heap.size, 3, none⟩ = some (.int .i64 vf.p) ∧ w'.cell? ⟨w2.heap.size, 0, none⟩ = some (.string vg.o) ∧ w'.cell? ⟨w2.heap.size, 1, none⟩ = some (.string vg.nm) ∧ w'.cell? ⟨w2.heap.size, 2, none⟩ = some (.slice vg.A vg.ll vg.cap) ∧ w'.cell? ⟨w2.heap.size, 3, none⟩ = some (.int .i64 vg.p) ∧ w'.cell? ⟨w6.heap.size, 0, none⟩ = some (.slice A2 n2 sc2) ∧ w'.cell? ⟨w6.heap.size, 1, none⟩ = some (.slice B2 m2 lc2)) (exact lk.S) (first
                | (go_at_call 19
                   with_reducible refine (names_any _).mono ?_
                   rintro e wA ⟨q, rfl, hN, hbA⟩
                   replace lk := lk.below hbA
                   (try replace HX := Lib.hid (HX.out.below hbA))
                   have HN := Lib.hid hN
                   clear hN hbA)
                | (go_at_call 22
                   with_reducible refine (two_any _ lk.f.fs lk.g.fs).mono ?_
                   rintro e wC ⟨v2, rfl, hx, hbC⟩
                   replace lk := lk.below hbC
                   (try replace HN := Lib.hid (HN.out.below hbC))
                   have HX := Lib.hid (show FS wC 27 TT (fBin [85] f g) v2.c from hx)
                   clear hx hbC)
                | (go_at_call 17
                   with_reducible refine (H6.out _ _ _ lk.k HX.out HN.out).mono ?_
                   rintro e wB ⟨rfl, hbB⟩
                   replace lk := lk.below hbB
                   clear hbB))
              all_goals
                have HLK := Lib.hid lk
                clear lk
                go_wp2
                go_meet
                exact ⟨rfl, rfl, HLK.out⟩
            clear lk
            obtain ⟨rfl, rfl, lk⟩ := hcut
            go_upto_region 17 with fail
            go_cut [27, 28] from 118 to 126 (fun r e W => r = .bool u7 ∧ e = .nilIface ∧ LEV w f g vf vg w1.heap.size w2.heap.size w6.heap.size A2 n2 sc2 B2 m2 lc2 (shS sl) (shL sl ll) W)
            case first =>
              replace lk := lk.drew
              go_region_held3 (fun w' : World => w'.cell? ⟨w1.heap.size, 0, none⟩ = some (.string vf.o) ∧ w'.cell? ⟨w1.heap.size, 1, none⟩ = some (.string vf.nm) ∧ w'.cell? ⟨w1.heap.size, 2, none⟩ = some (.slice vf.A vf.ll vf.cap) ∧ w'.cell? ⟨w1.heap.size, 3, none⟩ = some (.int .i64 vf.p) ∧ w'.cell? ⟨w2.heap.size, 0, none⟩ = some (.string vg.o) ∧ w'.cell? ⟨w2.heap.size, 1, none⟩ = some (.string vg.nm) ∧ w'.cell? ⟨w2.heap.size, 2, none⟩ = some (.slice vg.A vg.ll vg.cap) ∧ w'.cell? ⟨w2.heap.size, 3, none⟩ = some (.int .i64 vg.p) ∧ w'.cell? ⟨w6.heap.size, 0, none⟩ = some (.slice A2 n2 sc2) ∧ w'.cell? ⟨w6.heap.size, 1, none⟩ = some (.slice B2 m2 lc2)) (exact lk.S) (first
                | (go_at_call 19
                   with_reducible refine (names_any _).mono ?_
                   rintro e wA ⟨q, rfl, hN, hbA⟩
                   replace lk := lk.below hbA
                   (try replace HX := Lib.hid (HX.out.below hbA))
                   have HN := Lib.hid hN
                   clear hN hbA)
                | (go_at_call 22
                   with_reducible refine (two_any _ lk.f.fs lk.g.fs).mono ?_
                   rintro e wC ⟨v2, rfl, hx, hbC⟩
                   replace lk := lk.below hbC
                   (try replace HN := Lib.hid (HN.out.below hbC))
                   have HX := Lib.hid (show FS wC 27 TT (fBin [87] f g) v2.c from hx)
                   clear hx hbC)
                | (go_at_call 17
                   with_reducible refine (H7.out _ _ _ lk.k HX.out HN.out).mono ?_
                   rintro e wB ⟨rfl, hbB⟩
                   replace lk := lk.below hbB
                   clear hbB))
              all_goals
                have HLK := Lib.hid lk
                clear lk
                go_wp2
                go_meet
                exact ⟨rfl, rfl, HLK.out⟩
            clear lk
            obtain ⟨rfl, rfl, lk⟩ := hcut
            go_upto_region 18 with fail
            go_cut [29, 30] from 127 to 135 (fun r e W => r = .bool u8 ∧ e = .nilIface ∧ LEV w f g vf vg w1.heap.size w2.heap.size w6.heap.size A2 n2 sc2 B2 m2 lc2 (shS sl) (shL sl ll) W)
            case first =>
              replace lk := lk.drew
              go_region_held3 (fun w' : World => w'.cell? ⟨w1.heap.size, 0, none⟩ = some (.string vf.o) ∧ w'.cell? ⟨w1.heap.size, 1, none⟩ = some (.string vf.nm) ∧ w'.cell? ⟨w1.heap.size, 2, none⟩ = some (.slice vf.A vf.ll vf.cap) ∧ w'.cell? ⟨w1.heap.size, 3, none⟩ = some (.int .i64 vf.p) ∧ w'.cell? ⟨w2.heap.size, 0, none⟩ = some (.string vg.o) ∧ w'.cell? ⟨w2.heap.size, 1, none⟩ = some (.string vg.nm) ∧ w'.cell? ⟨w2.heap.size, 2, none⟩ = some (.slice vg.A vg.ll vg.cap) ∧ w'.cell? ⟨w2.heap.size, 3, none⟩ = some (.int .i64 vg.p) ∧ w'.cell? ⟨w6.heap.size, 0, none⟩ = some (.slice A2 n2 sc2) ∧ w'.cell? ⟨w6.heap.size, 1, none⟩ = some (.slice B2 m2 lc2)) (exact lk.S) (first
                | (go_at_call 19
                   with_reducible refine (names_any _).mono ?_
                   rintro e wA ⟨q, rfl, hN, hbA⟩
                   replace lk := lk.below hbA
                   (try replace HX := Lib.hid (HX.out.below hbA))
                   have HN := Lib.hid hN
                   clear hN hbA)
                | (go_at_call 22
                   with_reducible refine (two_any _ lk.f.fs lk.g.fs).mono ?_
                   rintro e wC ⟨v2, rfl, hx, hbC⟩
                   replace lk := lk.below hbC
                   (try replace HN := Lib.hid (HN.out.below hbC))
                   have HX := Lib.hid (show FS wC 27 TT (fBin [82] f g) v2.c from hx)
                   clear hx hbC)
                | (go_at_call 17
                   with_reducible refine (H8.out _ _ _ lk.k HX.out HN.out).mono ?_
                   rintro e wB ⟨rfl, hbB⟩
                   replace lk := lk.below hbB
                   clear hbB))
              all_goals
                have HLK := Lib.hid lk
                clear lk
                go_wp2
                go_meet
                exact ⟨rfl, rfl, HLK.out⟩
            clear lk
            obtain ⟨rfl, rfl, lk⟩ := hcut
            have HLOW := Lib.hid lk.low
            clear lk H6 H7 H8 HU6 HU7 HU8 HHB HHR HLEN HDF HDG HF HG HFZ HGZ d1 d1' hbig
            obtain ⟨q3, q4, q5, q6⟩ := HLAW.out
            clear HLAW
            subst q3 q4 q5
            have HQ := Lib.hid q6
            clear q6
            cases u1 <;> cases u2 <;> cases u6 <;> cases u7 <;> cases u8
            all_goals first
              | exact absurd HQ.out (by decide)
              | (go_wp2
                 go_ret
                 exact ⟨rfl, HLOW.out⟩)
end Go.Proofs.YtkddaobbjfnckaaGreatDoor
