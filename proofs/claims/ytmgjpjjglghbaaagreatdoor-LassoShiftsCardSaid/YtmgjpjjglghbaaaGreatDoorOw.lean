/-
  LassoShifts, walked.
-/
import Derived.Test.YtmgjpjjglghbaaaGreatDoorOX
import Derived.Test.YtmgjpjjglghbaaaGreatDoorOA2
import Derived.Deep.CutRange
namespace Go.Proofs.YtmgjpjjglghbaaaGreatDoor
open Go.RowKit Go.Sort Go.Maps

def LkRel (w0 : World) (i : Value) (wr : World) : Prop := ∃ k : Nat, i = .int .i64 (k : Int) ∧ k ≤ 40 ∧ Below w0.heap.size w0 wr
def LtQ (c : Int) (w : World) (e : Ending) (w' : World) : Prop := e = .returned (.tuple #[.int .i64 c, .bool true]) ∧ Below w.heap.size w w'
theorem letterQ {W : World} {A B : Option Addr} {n sc m lc : Nat} {s l : List Int} (k : Nat) (c : Int) (h : WM W A B s l) (hn : s.length = n) (hm : l.length = m) (n6 : n ≤ 1000) (m6 : m ≤ 1000) (hk : k ≤ 40) (hne : l ≠ []) (hc : c = wl s l k) : Calls Tryz.prog 24 #[.agg #[.slice A n sc, .slice B m lc], .int .i64 (k : Int)] W (LtQ c W) := by
  subst hn hm hc
  refine (letter_any (sc := sc) (lc := lc) (k : Int) W h (by omega) (by omega) (by omega)).mono ?_
  rintro e w1 ⟨rfl, hb⟩
  refine ⟨?_, hb⟩
  rw [ltO, if_neg (by omega), Int.toNat_natCast, decide_eq_true (.inr hne)]
set_option maxHeartbeats 16000000 in
set_option maxRecDepth 100000 in
theorem lshifts_yes {A0 B0 : Option Addr} {a b : List Int} {ac bc : Nat} (s t : ByteArray) (w : World) (hG : GlobS w) (hA : USl w A0 a) (hB : USl w B0 b) (hs : s.size ≤ 140737488355328) (ht : t.size ≤ 140737488355328) :
    Calls Tryz.prog 4 #[.string s, .string t, .slice A0 a.length ac, .slice B0 b.length bc] w (LawF w) := by
  have HAL := Lib.hid (lalive_yes w hG)
  by_cases hbig : 200 < s.size + t.size
  · have d1 : decide ((200 : Int) < (s.size : Int) + (t.size : Int)) = true := by simp; omega
    clear hG hA hB
    go_enter Tryz.func4, Tryz.ntmps4
    go_wp2_with fail
    with_reducible refine (HAL.out).mono ?_
    rintro e w1 ⟨rfl, hb1⟩
    have HB1 := Lib.hid hb1
    clear hb1
    go_wp2_with fail
    go_ret
    exact ⟨rfl, HB1.out⟩
  · have d1 : decide ((200 : Int) < (s.size : Int) + (t.size : Int)) = false := by simp; omega
    have d1' : ¬ (200 : Int) < (s.size : Int) + (t.size : Int) := by omega
    have HPS := Lib.hid (fun (W : World) (hb : Below w.heap.size w W) => pparse_any (s := s) (D := 64) W (hG.below hb) (by omega) (by decide) (by decide))
    have HPT := Lib.hid (fun (W : World) (hb : Below w.heap.size w W) => pparse_any (s := t) (D := 64) W (hG.below hb) (by omega) (by decide) (by decide))
    have HWD := Lib.hid (fun (W : World) (hb : Below w.heap.size w W) => word_any (ac := ac) (bc := bc) W (hA.below hb) (hB.below hb) rfl rfl)
    have HOF := Lib.hid (fun (f : Fo) (h : parseF 64 s.data.toList = .ok f) => parse_okf (l := s.data.toList) (by have : s.data.toList.length = s.size := (by simp); omega) h)
    have HOG := Lib.hid (fun (f : Fo) (h : parseF 64 t.data.toList = .ok f) => parse_okf (l := t.data.toList) (by have : t.data.toList.length = t.size := (by simp); omega) h)
    have HLS := Lib.hid (show s.data.toList.length ≤ 200 by have : s.data.toList.length = s.size := (by simp); omega)
    have HLT := Lib.hid (show t.data.toList.length ≤ 200 by have : t.data.toList.length = t.size := (by simp); omega)
    obtain ⟨rs, hrs⟩ : ∃ rs, rs = parseF 64 s.data.toList := ⟨_, rfl⟩
    obtain ⟨rt, hrt⟩ : ∃ rt, rt = parseF 64 t.data.toList := ⟨_, rfl⟩
    rw [← hrs] at HPS HOF
    rw [← hrt] at HPT HOG
    clear hrs hrt
    generalize a.length = N at *
    generalize b.length = M at *
    clear hA hB hG
    cases rs with
    | er c p =>
      go_enter Tryz.func4, Tryz.ntmps4
      go_wp2_with fail
      with_reducible refine (HAL.out).mono ?_
      rintro e w1 ⟨rfl, hb1⟩
      have HB1 := Lib.hid hb1
      clear hb1
      go_wp2_with fail
      refine (HPS.out _ HB1.out).mono ?_
      rintro e w2 hq
      obtain ⟨bb, rfl, hb2⟩ := hq.no
      have HB2 := Lib.hid (HB1.out.trans (hb2.mono HB1.out.size))
      clear hq hb2
      go_wp2_with fail
      refine (HPT.out _ (HB2.out.alloc HB2.out.size _)).mono ?_
      rintro e w3 hq
      obtain ⟨⟨o, nm, A, ll, cap, pp⟩, er, rfl, hb3⟩ := hq.low
      have HB3 := Lib.hid (below_t (HB2.out.alloc HB2.out.size _) hb3)
      clear hq hb3
      go_wp2_with fail
      go_ret
      exact ⟨rfl, HB3.out.alloc HB3.out.size _⟩
    | ok f =>
      cases rt with
      | er c p =>
        go_enter Tryz.func4, Tryz.ntmps4
        go_wp2_with fail
        with_reducible refine (HAL.out).mono ?_
        rintro e w1 ⟨rfl, hb1⟩
        have HB1 := Lib.hid hb1
        clear hb1
        go_wp2_with fail
        refine (HPS.out _ HB1.out).mono ?_
        rintro e w2 hq
        obtain ⟨vf, rfl, hf, hb2⟩ := hq.yes
        have HB2 := Lib.hid (HB1.out.trans (hb2.mono HB1.out.size))
        clear hq hb2 hf
        go_wp2_with fail
        refine (HPT.out _ (HB2.out.alloc HB2.out.size _)).mono ?_
        rintro e w3 hq
        obtain ⟨bb, rfl, hb3⟩ := hq.no
        have HB3 := Lib.hid (below_t (HB2.out.alloc HB2.out.size _) hb3)
        clear hq hb3
        go_wp2_with fail
        go_ret
        exact ⟨rfl, HB3.out.alloc HB3.out.size _⟩
      | ok g =>
        have HF := Lib.hid (HOF.out f rfl)
        have HG := Lib.hid (HOG.out g rfl)
        have HFZ := Lib.hid (show f.size ≤ 201 by have := HF.out.2; have := HLS.out; omega)
        have HGZ := Lib.hid (show g.size ≤ 201 by have := HG.out.2; have := HLT.out; omega)
        clear HOF HOG HLS HLT
        go_enter Tryz.func4, Tryz.ntmps4
        go_wp2_with fail
        with_reducible refine (HAL.out).mono ?_
        rintro e w0 ⟨rfl, hb1⟩
        have HB1 := Lib.hid hb1
        clear hb1
        go_wp2_with fail
        refine (HPS.out _ HB1.out).mono ?_
        rintro e w1 hq
        obtain ⟨vf, rfl, hf, hb2⟩ := hq.yes
        have HB2 := Lib.hid (HB1.out.trans (hb2.mono HB1.out.size))
        have HFB := Lib.hid (FB.new hf)
        clear hq hb2 hf HPS
        go_wp2_with fail
        refine (HPT.out _ (HB2.out.alloc HB2.out.size _)).mono ?_
        rintro e w2 hq
        obtain ⟨vg, rfl, hg, hb3⟩ := hq.yes
        have HB3 := Lib.hid ((below_t (HB2.out.alloc HB2.out.size _) hb3).alloc (below_t (HB2.out.alloc HB2.out.size _) hb3).size (.cells #[.string vg.o, .string vg.nm, .slice vg.A vg.ll vg.cap, .int .i64 vg.p] 27))
        have HFB2 := Lib.hid ((HFB.out.below hb3).below (below_alloc _ (.cells #[.string vg.o, .string vg.nm, .slice vg.A vg.ll vg.cap, .int .i64 vg.p] 27)))
        have HGB2 := Lib.hid (FB.new hg)
        clear hq hb3 hg HPT HFB
        go_wp2_with fail
        refine (HWD.out _ HB3.out).mono ?_
        rintro e w5 ⟨sl, ll, hgs, hgl, hne, hs8, hl8, A, n, sc, B, m, lc, rfl, hn, hm, hwm, hc1, hc2, hb5⟩
        have hr : wR NMS sl ll := wR_nms hne (by omega) hgs hgl
        have lk : LEV w f g vf vg w1.heap.size w2.heap.size w5.heap.size A n sc B m lc sl ll (w5.alloc (.cells #[.slice A n sc, .slice B m lc] 42)) :=
          ⟨(HFB2.out.below hb5).below (below_alloc _ _), (HGB2.out.below hb5).below (below_alloc _ _), ⟨Bx.new w5 42 [.slice A n sc, .slice B m lc], hwm.below (below_alloc _ _), hn, hm, hc1, hc2, by omega, by omega⟩, below_t (below_t HB3.out hb5) (below_alloc _ _)⟩
        have hn8 : n ≤ 8 := by omega
        have hm8 : m ≤ 8 := by omega
        have hrs : wR NMS (shS sl) (shL sl ll) := by
          have e1 : (shS sl).length ≤ 8 := by rw [shS, List.length_tail]; omega
          have e2 : (shL sl ll).length ≤ 8 := by rw [shL_len]; exact hl8
          exact wR_nms (fun h => hne (List.length_eq_zero_iff.1 (by rw [← shL_len (s := sl), h]; rfl))) (by omega) (fun x hx => hgs x (List.mem_of_mem_tail hx)) (fun x hx => hgl x (shL_mem hx))
        have hrl : wR NMS (sl ++ ll) (ll ++ ll) := wR_nms (fun h => hne (List.append_eq_nil_iff.1 h).1) (by simp only [List.length_append]; omega) (fun x hx => (List.mem_append.1 hx).elim (hgs x) (hgl x)) (fun x hx => (List.mem_append.1 hx).elim (hgl x) (hgl x))
        obtain ⟨hdf, hdfe⟩ : ∃ b, b = hdO NMS f := ⟨_, rfl⟩
        obtain ⟨hdg, hdge⟩ : ∃ b, b = hdO NMS g := ⟨_, rfl⟩
        obtain ⟨u1, hu1⟩ : ∃ u, u = hoV NMS sl ll (fUn [88] f) := ⟨_, rfl⟩
        obtain ⟨u3, hu3⟩ : ∃ u, u = hoV NMS sl ll (fBin [85] f g) := ⟨_, rfl⟩
        obtain ⟨u4, hu4⟩ : ∃ u, u = hoV NMS sl ll (fBin [87] f g) := ⟨_, rfl⟩
        obtain ⟨u5, hu5⟩ : ∃ u, u = hoV NMS sl ll (fBin [82] (fUn [33] f) (fUn [33] g)) := ⟨_, rfl⟩
        obtain ⟨u6, hu6⟩ : ∃ u, u = hoV NMS sl ll (fUn [70] g) := ⟨_, rfl⟩
        obtain ⟨u7, hu7⟩ : ∃ u, u = hoV NMS sl ll (fUn [71] f) := ⟨_, rfl⟩
        have hu2 : u1 = hoV NMS (shS sl) (shL sl ll) f := by rw [hu1, ho_hv hr, ho_hv hrs, hv_next (fun i => wl_shift (.inr hne) i)]
        have hu8 : u3 = hoV NMS (sl ++ ll) (ll ++ ll) (fBin [85] f g) := by rw [hu3, ho_hv hr, ho_hv hrl]; exact hv_word (fun i => (wl_long hne i).symm)
        have hlaw : hdf = true → hdg = true → u3 ≠ u5 ∧ u4 = (u3 || u7) ∧ (u3 = true → u6 = true) := fun h1 h2 => by
          rw [hu3, hu4, hu5, hu6, hu7, ho_hv hr, ho_hv hr, ho_hv hr, ho_hv hr, ho_hv hr]
          exact law_shifts (hdfe.symm.trans h1) (hdge.symm.trans h2)
        have hoff : hdg = false → u3 = false ∧ u5 = false := fun h => by
          have hb : ∀ op, hdO NMS (fBin op f g) = false := fun op => by rw [hd_bin, ← hdge, h, Bool.and_false]
          have hb2 : hdO NMS (fBin [82] (fUn [33] f) (fUn [33] g)) = false := by rw [hd_bin, hd_un, hd_un, ← hdge, h, Bool.and_false]
          exact ⟨by rw [hu3, ho_hv hr, hv_not (hb _)], by rw [hu5, ho_hv hr, hv_not hb2]⟩
        obtain ⟨er, her⟩ : ∃ er, er = erO hdf := ⟨_, rfl⟩
        obtain ⟨e3, he3⟩ : ∃ er, er = erO (hdf && hdg) := ⟨_, rfl⟩
        obtain ⟨e6, he6⟩ : ∃ er, er = erO hdg := ⟨_, rfl⟩
        have tf : ∀ op, er = tuE NMS sl ll (fUn op f) := fun op => by rw [tu_er hr, hd_un, ← hdfe, her]
        have ts : er = tuE NMS (shS sl) (shL sl ll) f := by rw [tu_er hrs, ← hdfe, her]
        have tb : ∀ op, e3 = tuE NMS sl ll (fBin op f g) := fun op => by rw [tu_er hr, hd_bin, ← hdfe, ← hdge, he3]
        have tn : e3 = tuE NMS sl ll (fBin [82] (fUn [33] f) (fUn [33] g)) := by rw [tu_er hr, hd_bin, hd_un, hd_un, ← hdfe, ← hdge, he3]
        have tg : e6 = tuE NMS sl ll (fUn [70] g) := by rw [tu_er hr, hd_un, ← hdge, he6]
        have tl : e3 = tuE NMS (sl ++ ll) (ll ++ ll) (fBin [85] f g) := by rw [tu_er hrl, hd_bin, ← hdfe, ← hdge, he3]
        have zf : f.size ≤ 201 := HFZ.out
        have zg : g.size ≤ 201 := HGZ.out
        have of : OkF f := HF.out.1
        have og : OkF g := HG.out.1
        have H1 := Lib.hid (fun (W : World) (N : Option Addr) (v : FV) (lk : WB W w5.heap.size A n sc B m lc sl ll) (hx : FS W 27 TT (fUn [88] f) v.c) (hN : SSl W N NMS) => holdsQ (nc := 3) lk.wm hn hm hc1 hc2 (by omega) (by omega) hN hx (show OkF (fUn [88] f) from ⟨by decide, of⟩) (by simp only [fUn, Fo.size]; omega) hu1 (tf _))
        have H2 := Lib.hid (fun (W : World) (N A2 B2 : Option Addr) (n2 sc2 m2 lc2 : Nat) (lk : WM W A2 B2 (shS sl) (shL sl ll)) (q1 : (shS sl).length = n2) (q2 : (shL sl ll).length = m2) (q3 : CapOk A2 n2 sc2) (q4 : CapOk B2 m2 lc2) (hx : FS W 27 TT f vf.c) (hN : SSl W N NMS) => holdsQ (nc := 3) lk q1 q2 q3 q4 (by rw [← q1, shS, List.length_tail]; omega) (by rw [← q2, shL_len]; omega) hN hx of (by omega) hu2 ts)
        have H3 := Lib.hid (fun (W : World) (N : Option Addr) (v : FV) (lk : WB W w5.heap.size A n sc B m lc sl ll) (hx : FS W 27 TT (fBin [85] f g) v.c) (hN : SSl W N NMS) => holdsQ (nc := 3) lk.wm hn hm hc1 hc2 (by omega) (by omega) hN hx (show OkF (fBin [85] f g) from ⟨by decide, of, og⟩) (by simp only [fBin, Fo.size]; omega) hu3 (tb _))
        have H4 := Lib.hid (fun (W : World) (N : Option Addr) (v : FV) (lk : WB W w5.heap.size A n sc B m lc sl ll) (hx : FS W 27 TT (fBin [87] f g) v.c) (hN : SSl W N NMS) => holdsQ (nc := 3) lk.wm hn hm hc1 hc2 (by omega) (by omega) hN hx (show OkF (fBin [87] f g) from ⟨by decide, of, og⟩) (by simp only [fBin, Fo.size]; omega) hu4 (tb _))
        have H5 := Lib.hid (fun (W : World) (N : Option Addr) (v : FV) (lk : WB W w5.heap.size A n sc B m lc sl ll) (hx : FS W 27 TT (fBin [82] (fUn [33] f) (fUn [33] g)) v.c) (hN : SSl W N NMS) => holdsQ (nc := 3) lk.wm hn hm hc1 hc2 (by omega) (by omega) hN hx (show OkF (fBin [82] (fUn [33] f) (fUn [33] g)) from ⟨by decide, ⟨by decide, of⟩, ⟨by decide, og⟩⟩) (by simp only [fBin, fUn, Fo.size]; omega) hu5 tn)
        have H6 := Lib.hid (fun (W : World) (N : Option Addr) (v : FV) (lk : WB W w5.heap.size A n sc B m lc sl ll) (hx : FS W 27 TT (fUn [70] g) v.c) (hN : SSl W N NMS) => holdsQ (nc := 3) lk.wm hn hm hc1 hc2 (by omega) (by omega) hN hx (show OkF (fUn [70] g) from ⟨by decide, og⟩) (by simp only [fUn, Fo.size]; omega) hu6 tg)
        have H7 := Lib.hid (fun (W : World) (N : Option Addr) (v : FV) (lk : WB W w5.heap.size A n sc B m lc sl ll) (hx : FS W 27 TT (fUn [71] f) v.c) (hN : SSl W N NMS) => holdsQ (nc := 3) lk.wm hn hm hc1 hc2 (by omega) (by omega) hN hx (show OkF (fUn [71] f) from ⟨by decide, of⟩) (by simp only [fUn, Fo.size]; omega) hu7 (tf _))
        have HK1 := Lib.hid (fun (W : World) (lk : WB W w5.heap.size A n sc B m lc sl ll) (k : Nat) (c : Int) (hk : k ≤ 40) (hc : c = wl sl ll k) => letterQ (sc := sc) (lc := lc) k c lk.wm hn hm (by omega) (by omega) hk hne hc)
        have HK2 := Lib.hid (fun (W : World) (q A2 B2) (n2 sc2 m2 lc2 : Nat) (lk : WB W q A2 n2 sc2 B2 m2 lc2 (sl ++ ll) (ll ++ ll)) (k : Nat) (c : Int) (hk : k ≤ 40) (hc : c = wl sl ll k) => letterQ (sc := sc2) (lc := lc2) k c lk.wm lk.hn lk.hm lk.n6 lk.m6 hk (fun h => hne (List.append_eq_nil_iff.1 h).1) (by rw [hc, wl_long hne]))
        have HOT := Lib.hid (fun (W : World) (hx : FS W 27 TT g vg.c) => other_any W hx og (by omega))
        unfold LtQ at HK1 HK2
        unfold OthP at HOT
        have H8 := Lib.hid (fun (W : World) (N : Option Addr) (v : FV) (q A2 B2) (n2 sc2 m2 lc2 : Nat) (lk : WB W q A2 n2 sc2 B2 m2 lc2 (sl ++ ll) (ll ++ ll)) (hx : FS W 27 TT (fBin [85] f g) v.c) (hN : SSl W N NMS) => holdsQ (nc := 3) lk.wm lk.hn lk.hm lk.c1 lk.c2 lk.n6 lk.m6 hN hx (show OkF (fBin [85] f g) from ⟨by decide, of, og⟩) (by simp only [fBin, Fo.size]; omega) hu8 tl)
        have HSH := Lib.hid (fun (W : World) (lk : WB W w5.heap.size A n sc B m lc sl ll) => (show Calls Tryz.prog 23 #[.agg #[.slice A n sc, .slice B m lc]] W (LaP (shS sl) (shL sl ll) W) by
          obtain ⟨_, wm, h1, h2, h3, h4, h5, h6⟩ := lk
          subst h1 h2
          exact shift_any W wm h3 h4 (by omega) (by omega)))
        have HLAW := Lib.hid hlaw
        have HOFF := Lib.hid hoff
        have HER := Lib.hid her
        have HDG := Lib.hid hdge
        have HNE := Lib.hid hne
        clear hr hrs hrl hdfe hdge hu1 hu2 hu3 hu4 hu5 hu6 hu7 hu8 hlaw hoff her he3 he6 tf ts tb tn tg tl zf zg of og hgs hgl hne hs8 hl8 hwm hb5 HWD HFB2 HGB2 HB3 HAL
        unfold HvQ at H1 H2 H3 H4 H5 H6 H7 H8
        unfold erO at HER
        have HX0 := Lib.hid (fun (W : World) (h : FS W 27 TT f vf.c) => (show FS (W.alloc (.cells #[.string vf.o, .string vf.nm, .slice vf.A vf.ll vf.cap, .int .i64 vf.p] 27)) 27 TT (fUn [88] f) (FV.c ⟨⟨#[88]⟩, ⟨#[]⟩, some ⟨W.heap.size, 0, none⟩, 1, 1, 0⟩) from fs_un (op := ⟨#[88]⟩) (Bx.new W 27 vf.c) (FS.alloc h _)))
        obtain ⟨WX, hWX⟩ : ∃ W, W = w5.alloc (.cells #[.slice A n sc, .slice B m lc] 42) := ⟨_, rfl⟩
        go_upto_region 10 with fail
        rw [← hWX] at lk ⊢
        clear hWX
        go_cut [14, 15] from 63 to 71 (fun r e W => r = .bool u1 ∧ er = e ∧ LEV w f g vf vg w1.heap.size w2.heap.size w5.heap.size A n sc B m lc sl ll W)
        case first =>
          have lk0 := lk
          replace lk := lk.drew
          go_region_held3 (fun w' : World => w'.cell? ⟨w1.heap.size, 0, none⟩ = some (.string vf.o) ∧ w'.cell? ⟨w1.heap.size, 1, none⟩ = some (.string vf.nm) ∧ w'.cell? ⟨w1.heap.size, 2, none⟩ = some (.slice vf.A vf.ll vf.cap) ∧ w'.cell? ⟨w1.heap.size, 3, none⟩ = some (.int .i64 vf.p) ∧ w'.cell? ⟨w2.heap.size, 0, none⟩ = some (.string vg.o) ∧ w'.cell? ⟨w2.heap.size, 1, none⟩ = some (.string vg.nm) ∧ w'.cell? ⟨w2.heap.size, 2, none⟩ = some (.slice vg.A vg.ll vg.cap) ∧ w'.cell? ⟨w2.heap.size, 3, none⟩ = some (.int .i64 vg.p) ∧ w'.cell? ⟨w5.heap.size, 0, none⟩ = some (.slice A n sc) ∧ w'.cell? ⟨w5.heap.size, 1, none⟩ = some (.slice B m lc)) (first | exact lk.S | exact (LEV.below lk (below_alloc _ _)).S | exact (LEV.below lk0 (below_alloc _ _).drew).S) (first
            | (go_at_call 22
               with_reducible refine (names_any WX.drew).mono ?_
               rintro e wA ⟨q, rfl, hN, hbA⟩
               replace lk := lk.below hbA
               have HN := Lib.hid hN
               clear hN hbA)
            | (go_at_call 22
               with_reducible refine (names_any (WX.alloc (.cells #[.string vf.o, .string vf.nm, .slice vf.A vf.ll vf.cap, .int .i64 vf.p] 27)).drew).mono ?_
               rintro e wA ⟨q, rfl, hN, hbA⟩
               have HX := Lib.hid (FS.below (FS.below (HX0.out WX lk0.f.fs) (Below.refl _ _).drew) hbA)
               replace lk := LEV.below lk0 (below_t (below_alloc _ _).drew hbA)
               have HN := Lib.hid hN
               clear hN hbA)
            | (go_at_call 20
               with_reducible refine (H1.out _ _ ⟨⟨#[88]⟩, ⟨#[]⟩, some ⟨WX.heap.size, 0, none⟩, 1, 1, 0⟩ lk.k HX.out HN.out).mono ?_
               rintro e wB ⟨rfl, hbB⟩
               replace lk := lk.below hbB
               clear hbB)
            | (go_at_call 20
               with_reducible refine (H1.out (wA.alloc (.cells #[.string vf.o, .string vf.nm, .slice vf.A vf.ll vf.cap, .int .i64 vf.p] 27)) _ ⟨⟨#[88]⟩, ⟨#[]⟩, some ⟨wA.heap.size, 0, none⟩, 1, 1, 0⟩ (lk.k.below (below_alloc _ _)) (HX0.out wA lk.f.fs) (HN.out.below (below_alloc _ _))).mono ?_
               rintro e wB ⟨rfl, hbB⟩
               replace lk := LEV.below lk (below_t (below_alloc _ _) hbB)
               clear hbB))
          all_goals
            have HLK := Lib.hid lk
            clear lk
            go_wp2
            go_meet
            exact ⟨rfl, rfl, HLK.out⟩
        clear lk
        obtain ⟨rfl, rfl, lk⟩ := hcut
        go_upto_region 11 with fail
        go_cut [16, 17] from 72 to 79 (fun r e W => r = .bool u1 ∧ er = e ∧ LEV w f g vf vg w1.heap.size w2.heap.size w5.heap.size A n sc B m lc sl ll W)
        case first =>
          replace lk := lk.drew
          go_region_held3 (fun w' : World => w'.cell? ⟨w1.heap.size, 0, none⟩ = some (.string vf.o) ∧ w'.cell? ⟨w1.heap.size, 1, none⟩ = some (.string vf.nm) ∧ w'.cell? ⟨w1.heap.size, 2, none⟩ = some (.slice vf.A vf.ll vf.cap) ∧ w'.cell? ⟨w1.heap.size, 3, none⟩ = some (.int .i64 vf.p) ∧ w'.cell? ⟨w2.heap.size, 0, none⟩ = some (.string vg.o) ∧ w'.cell? ⟨w2.heap.size, 1, none⟩ = some (.string vg.nm) ∧ w'.cell? ⟨w2.heap.size, 2, none⟩ = some (.slice vg.A vg.ll vg.cap) ∧ w'.cell? ⟨w2.heap.size, 3, none⟩ = some (.int .i64 vg.p) ∧ w'.cell? ⟨w5.heap.size, 0, none⟩ = some (.slice A n sc) ∧ w'.cell? ⟨w5.heap.size, 1, none⟩ = some (.slice B m lc)) (exact lk.S) (first
            | (go_at_call 22
               with_reducible refine (names_any _).mono ?_
               rintro e wA ⟨q, rfl, hN, hbA⟩
               replace lk := lk.below hbA
               (try replace HW2 := Lib.hid (HW2.out.below hbA))
               have HN := Lib.hid hN
               clear hN hbA)
            | (go_at_call 23
               with_reducible refine (HSH.out _ lk.k).mono ?_
               rintro e wC ⟨A2, n2, sc2, B2, m2, lc2, rfl, hn2, hm2, hwm2, hc3, hc4, hbC⟩
               replace lk := lk.below hbC
               (try replace HN := Lib.hid (HN.out.below hbC))
               have HW2 := Lib.hid hwm2
               have HN2 := Lib.hid hn2
               have HM2 := Lib.hid hm2
               have HC3 := Lib.hid hc3
               have HC4 := Lib.hid hc4
               clear hwm2 hn2 hm2 hc3 hc4 hbC)
            | (go_at_call 20
               with_reducible refine (H2.out _ _ _ _ _ _ _ _ HW2.out HN2.out HM2.out HC3.out HC4.out lk.f.fs HN.out).mono ?_
               rintro e wB ⟨rfl, hbB⟩
               replace lk := lk.below hbB
               clear hbB))
          all_goals
            have HLK := Lib.hid lk
            clear lk
            go_wp2
            go_meet
            exact ⟨rfl, rfl, HLK.out⟩
        clear lk
        obtain ⟨rfl, rfl, lk⟩ := hcut
        clear H1 H2 HX0 HSH
        go_upto_region 12 with fail
        go_cut [89] from 80 to 89 (fun b W => b = .bool false ∧ LEV w f g vf vg w1.heap.size w2.heap.size w5.heap.size A n sc B m lc sl ll W)
        case first =>
          have q0 : (u1 != u1) = false := by simp
          have HLK := Lib.hid lk
          clear lk
          have hq := HER.out
          clear HER
          cases hdf
          all_goals
            first
              | (simp only [if_true] at hq)
              | (simp only [Bool.false_eq_true, if_false] at hq)
            subst hq
            go_wp2
            go_region
            all_goals
              go_wp2
              go_meet
              exact ⟨rfl, HLK.out.drew⟩
        clear lk
        obtain ⟨rfl, lk⟩ := hcut
        go_upto_region 14 with fail
        go_cut [18] from 90 to 104 (fun p W => ∃ (q2 : Nat) (A2 : Option Addr) (n2 sc2 : Nat) (B2 : Option Addr) (m2 lc2 : Nat), p = .pointer (some ⟨q2, 0, none⟩) ∧ LEV w f g vf vg w1.heap.size w2.heap.size w5.heap.size A n sc B m lc sl ll W ∧ LEV w f g vf vg w1.heap.size w2.heap.size q2 A2 n2 sc2 B2 m2 lc2 (sl ++ ll) (ll ++ ll) W)
        case first =>
          have lk0 := lk
          clear lk
          have hsA := lk0.k.wm.st
          have hsB := lk0.k.wm.lp
          have hnn := lk0.k.n6
          have hmm := lk0.k.m6
          have hcA := lk0.k.c1
          have hcB := lk0.k.c2
          have hlA := lk0.k.hn
          have hlB := lk0.k.hm
          have HBX := Lib.hid (fun (W : World) (hb : Below wc.heap.size wc W) => And.intro (show W.cell? ⟨w5.heap.size, 0, none⟩ = some (.slice A n sc) from (lk0.k.bx.below hb).cell 0) (show W.cell? ⟨w5.heap.size, 1, none⟩ = some (.slice B m lc) from (lk0.k.bx.below hb).cell 1))
          obtain ⟨T, hT⟩ : ∃ T : RTab, T = ⟨fun i => if i = 1 then some (.pointer (some ⟨w5.heap.size, 0, none⟩)) else if i = 2 then some (.slice A n sc) else if i = 4 then some (.pointer (some ⟨w5.heap.size, 1, none⟩)) else if i = 5 then some (.slice B m lc) else if i = 8 then some (.pointer (some ⟨w5.heap.size, 1, none⟩)) else if i = 9 then some (.slice B m lc) else if i = 11 then some (.pointer (some ⟨w5.heap.size, 1, none⟩)) else if i = 12 then some (.slice B m lc) else none, fun i => if i = 0 then some (3, []) else if i = 3 then some (6, sl) else if i = 6 then some (99, sl ++ ll) else if i = 7 then some (10, []) else if i = 10 then some (13, ll) else if i = 13 then some (99, ll ++ ll) else none, fun i => if i < 15 then 90 + i else if i = 15 then 18 else 1000 + i, 15, 14, 16, 6, 13⟩ := ⟨_, rfl⟩
          have HD := Lib.hid (show ∀ i j, j ≠ i → T.D j ≠ T.D i from by subst hT; intro i j h; simp only; (repeat' split) <;> omega)
          refine region_rows T [18, 90, 91, 92, 93, 94, 95, 96, 97, 98, 99, 100, 101, 102, 103, 104] (by kernel_rfl) (by kernel_rfl) (by intro d hd; simp at hd ⊢; omega) ?hstep ?hend
          case hstep =>
            intro L vs w' i o hLs hev hex hI ho hun hdep
            have hbel := hI.bel
            have hf := getD_both hun
            obtain ⟨hc0, hc1⟩ := HBX.out w' hbel
            have hdi := HD.out i
            rcases i with _ | _ | _ | _ | _ | _ | _ | _ | _ | _ | _ | _ | _ | _ | _ | _ | _ | i
            · have ho' := Option.some.inj (show some _ = some o from ho)
              subst ho'
              subst hT
              refine wpOp_run (d := 90) (v := .slice (some ⟨w'.heap.size, 0, none⟩) 0 0) (w' := w'.alloc (.cells #[] 3)) ho rfl rfl (by go_simp) ⟨upd vs 90 (.slice (some ⟨w'.heap.size, 0, none⟩) 0 0), put_mkA (by decide) (by decide), hI.row hun rfl rfl (show _ ≠ 15 from by omega) (show _ ≠ 16 from by omega) (show _ ≠ 14 from by omega) hdi (row := none) (World.grownBy_alloc w' _ none) (hbel.alloc hbel.size _) (own_mt (heap_alloc_new _ _) hbel.size) (.inr rfl) (fun j c' l' _ _ _ _ _ k _ e => by cases e) (fun q cs e => by cases e)⟩
            · have ho' := Option.some.inj (show some _ = some o from ho)
              subst ho'
              subst hT
              have e1 := (hex 13 (by decide)).trans (show _ = Value.pointer (some ⟨w5.heap.size, 0, none⟩) from rfl)
              refine wpOp_run (d := 91) (v := .pointer (some ⟨w5.heap.size, 0, none⟩)) ho rfl rfl ?_ ⟨upd vs 91 (.pointer (some ⟨w5.heap.size, 0, none⟩)), put_mkA (by decide) (by decide), hI.pure hun rfl rfl (show _ ≠ 15 from by omega) (show _ ≠ 16 from by omega) (show _ ≠ 14 from by omega) hdi⟩
              simp only [Act.eval, Array.getD_eq_getD_getElem?] at e1
              go_simp
            · have ho' := Option.some.inj (show some _ = some o from ho)
              subst ho'
              subst hT
              have d1 : L.getD 1 false = true := hdep ⟨1, .data⟩ (by simp) rfl
              have e1 := (hev 91 (by decide)).trans (show vs 91 = _ from hI.val 1 _ rfl d1)
              refine wpOp_run (d := 92) (v := .slice A n sc) ho rfl rfl ?_ ⟨upd vs 92 (.slice A n sc), put_mkA (by decide) (by decide), hI.pure hun rfl rfl (show _ ≠ 15 from by omega) (show _ ≠ 16 from by omega) (show _ ≠ 14 from by omega) hdi⟩
              simp only [Act.eval, Array.getD_eq_getD_getElem?] at e1
              go_simp
            · have ho' := Option.some.inj (show some _ = some o from ho)
              subst ho'
              subst hT
              have d0 : L.getD 0 false = true := hdep ⟨0, .data⟩ (by simp) rfl
              have d2 : L.getD 2 false = true := hdep ⟨2, .data⟩ (by simp) rfl
              have hown := hI.own 0 3 ([]) rfl d0 hf
              replace hown : w'.ownsRow wc.heap.size 3 1 (vs 90) 0 (([]).map iv) := hown
              have e1 := (hev 92 (by decide)).trans (show vs 92 = _ from hI.val 2 _ rfl d2)
              refine wpOp_app ho rfl rfl (.tmp 90) (.tmp 92) rfl wc.heap.size 0 n sc (vs 90) ([]) sl A (hev 90 (by decide)) e1 hown hlA hcA (ISl.below hsA hbel) (by omega) hbel.size fun v2 w2 h1 h2 h3 => ⟨upd vs 93 v2, put_mkA (by decide) (by decide), hI.row hun rfl rfl (show _ ≠ 15 from by omega) (show _ ≠ 16 from by omega) (show _ ≠ 14 from by omega) hdi (row := (vs 90).ownBlock) h2 (hbel.grown h2 hbel.size (fun k hk => (hown.lt k hk).1)) (by have h := h1; simpa [hlA, hlB] using h) h3 ?_ (fun q cs e hb => own_not_las hown e hb)⟩
              intro j c' l' hji hR hLj hLc hci k hk e
              refine hI.apt j 0 c' l' 3 ([]) hR rfl ?_ hLj d0 hLc hf k hk e.symm
              rintro rfl
              have hcc := Option.some.inj (show some (3, _) = some (c', l') from hR)
              exact hci (congrArg Prod.fst hcc).symm
            · have ho' := Option.some.inj (show some _ = some o from ho)
              subst ho'
              subst hT
              have e1 := (hex 13 (by decide)).trans (show _ = Value.pointer (some ⟨w5.heap.size, 0, none⟩) from rfl)
              refine wpOp_run (d := 94) (v := .pointer (some ⟨w5.heap.size, 1, none⟩)) ho rfl rfl ?_ ⟨upd vs 94 (.pointer (some ⟨w5.heap.size, 1, none⟩)), put_mkA (by decide) (by decide), hI.pure hun rfl rfl (show _ ≠ 15 from by omega) (show _ ≠ 16 from by omega) (show _ ≠ 14 from by omega) hdi⟩
              simp only [Act.eval, Array.getD_eq_getD_getElem?] at e1
              go_simp
            · have ho' := Option.some.inj (show some _ = some o from ho)
              subst ho'
              subst hT
              have d4 : L.getD 4 false = true := hdep ⟨4, .data⟩ (by simp) rfl
              have e1 := (hev 94 (by decide)).trans (show vs 94 = _ from hI.val 4 _ rfl d4)
              refine wpOp_run (d := 95) (v := .slice B m lc) ho rfl rfl ?_ ⟨upd vs 95 (.slice B m lc), put_mkA (by decide) (by decide), hI.pure hun rfl rfl (show _ ≠ 15 from by omega) (show _ ≠ 16 from by omega) (show _ ≠ 14 from by omega) hdi⟩
              simp only [Act.eval, Array.getD_eq_getD_getElem?] at e1
              go_simp
            · have ho' := Option.some.inj (show some _ = some o from ho)
              subst ho'
              subst hT
              have d3 : L.getD 3 false = true := hdep ⟨3, .data⟩ (by simp) rfl
              have d5 : L.getD 5 false = true := hdep ⟨5, .data⟩ (by simp) rfl
              have hown := hI.own 3 6 (sl) rfl d3 hf
              replace hown : w'.ownsRow wc.heap.size 3 1 (vs 93) n ((sl).map iv) := by have h := hown; rw [hlA] at h; exact h
              have e1 := (hev 95 (by decide)).trans (show vs 95 = _ from hI.val 5 _ rfl d5)
              refine wpOp_app ho rfl rfl (.tmp 93) (.tmp 95) rfl wc.heap.size n m lc (vs 93) (sl) ll B (hev 93 (by decide)) e1 hown hlB hcB (ISl.below hsB hbel) (by omega) hbel.size fun v2 w2 h1 h2 h3 => ⟨upd vs 96 v2, put_mkA (by decide) (by decide), hI.row hun rfl rfl (show _ ≠ 15 from by omega) (show _ ≠ 16 from by omega) (show _ ≠ 14 from by omega) hdi (row := (vs 93).ownBlock) h2 (hbel.grown h2 hbel.size (fun k hk => (hown.lt k hk).1)) (by have h := h1; simpa [hlA, hlB] using h) h3 ?_ (fun q cs e hb => own_not_las hown e hb)⟩
              intro j c' l' hji hR hLj hLc hci k hk e
              refine hI.apt j 3 c' l' 6 (sl) hR rfl ?_ hLj d3 hLc hf k hk e.symm
              rintro rfl
              have hcc := Option.some.inj (show some (6, _) = some (c', l') from hR)
              exact hci (congrArg Prod.fst hcc).symm
            · have ho' := Option.some.inj (show some _ = some o from ho)
              subst ho'
              subst hT
              refine wpOp_run (d := 97) (v := .slice (some ⟨w'.heap.size, 0, none⟩) 0 0) (w' := w'.alloc (.cells #[] 3)) ho rfl rfl (by go_simp) ⟨upd vs 97 (.slice (some ⟨w'.heap.size, 0, none⟩) 0 0), put_mkA (by decide) (by decide), hI.row hun rfl rfl (show _ ≠ 15 from by omega) (show _ ≠ 16 from by omega) (show _ ≠ 14 from by omega) hdi (row := none) (World.grownBy_alloc w' _ none) (hbel.alloc hbel.size _) (own_mt (heap_alloc_new _ _) hbel.size) (.inr rfl) (fun j c' l' _ _ _ _ _ k _ e => by cases e) (fun q cs e => by cases e)⟩
            · have ho' := Option.some.inj (show some _ = some o from ho)
              subst ho'
              subst hT
              have e1 := (hex 13 (by decide)).trans (show _ = Value.pointer (some ⟨w5.heap.size, 0, none⟩) from rfl)
              refine wpOp_run (d := 98) (v := .pointer (some ⟨w5.heap.size, 1, none⟩)) ho rfl rfl ?_ ⟨upd vs 98 (.pointer (some ⟨w5.heap.size, 1, none⟩)), put_mkA (by decide) (by decide), hI.pure hun rfl rfl (show _ ≠ 15 from by omega) (show _ ≠ 16 from by omega) (show _ ≠ 14 from by omega) hdi⟩
              simp only [Act.eval, Array.getD_eq_getD_getElem?] at e1
              go_simp
            · have ho' := Option.some.inj (show some _ = some o from ho)
              subst ho'
              subst hT
              have d8 : L.getD 8 false = true := hdep ⟨8, .data⟩ (by simp) rfl
              have e1 := (hev 98 (by decide)).trans (show vs 98 = _ from hI.val 8 _ rfl d8)
              refine wpOp_run (d := 99) (v := .slice B m lc) ho rfl rfl ?_ ⟨upd vs 99 (.slice B m lc), put_mkA (by decide) (by decide), hI.pure hun rfl rfl (show _ ≠ 15 from by omega) (show _ ≠ 16 from by omega) (show _ ≠ 14 from by omega) hdi⟩
              simp only [Act.eval, Array.getD_eq_getD_getElem?] at e1
              go_simp
            · have ho' := Option.some.inj (show some _ = some o from ho)
              subst ho'
              subst hT
              have d7 : L.getD 7 false = true := hdep ⟨7, .data⟩ (by simp) rfl
              have d9 : L.getD 9 false = true := hdep ⟨9, .data⟩ (by simp) rfl
              have hown := hI.own 7 10 ([]) rfl d7 hf
              replace hown : w'.ownsRow wc.heap.size 3 1 (vs 97) 0 (([]).map iv) := hown
              have e1 := (hev 99 (by decide)).trans (show vs 99 = _ from hI.val 9 _ rfl d9)
              refine wpOp_app ho rfl rfl (.tmp 97) (.tmp 99) rfl wc.heap.size 0 m lc (vs 97) ([]) ll B (hev 97 (by decide)) e1 hown hlB hcB (ISl.below hsB hbel) (by omega) hbel.size fun v2 w2 h1 h2 h3 => ⟨upd vs 100 v2, put_mkA (by decide) (by decide), hI.row hun rfl rfl (show _ ≠ 15 from by omega) (show _ ≠ 16 from by omega) (show _ ≠ 14 from by omega) hdi (row := (vs 97).ownBlock) h2 (hbel.grown h2 hbel.size (fun k hk => (hown.lt k hk).1)) (by have h := h1; simpa [hlA, hlB] using h) h3 ?_ (fun q cs e hb => own_not_las hown e hb)⟩
              intro j c' l' hji hR hLj hLc hci k hk e
              refine hI.apt j 7 c' l' 10 ([]) hR rfl ?_ hLj d7 hLc hf k hk e.symm
              rintro rfl
              have hcc := Option.some.inj (show some (10, _) = some (c', l') from hR)
              exact hci (congrArg Prod.fst hcc).symm
            · have ho' := Option.some.inj (show some _ = some o from ho)
              subst ho'
              subst hT
              have e1 := (hex 13 (by decide)).trans (show _ = Value.pointer (some ⟨w5.heap.size, 0, none⟩) from rfl)
              refine wpOp_run (d := 101) (v := .pointer (some ⟨w5.heap.size, 1, none⟩)) ho rfl rfl ?_ ⟨upd vs 101 (.pointer (some ⟨w5.heap.size, 1, none⟩)), put_mkA (by decide) (by decide), hI.pure hun rfl rfl (show _ ≠ 15 from by omega) (show _ ≠ 16 from by omega) (show _ ≠ 14 from by omega) hdi⟩
              simp only [Act.eval, Array.getD_eq_getD_getElem?] at e1
              go_simp
            · have ho' := Option.some.inj (show some _ = some o from ho)
              subst ho'
              subst hT
              have d11 : L.getD 11 false = true := hdep ⟨11, .data⟩ (by simp) rfl
              have e1 := (hev 101 (by decide)).trans (show vs 101 = _ from hI.val 11 _ rfl d11)
              refine wpOp_run (d := 102) (v := .slice B m lc) ho rfl rfl ?_ ⟨upd vs 102 (.slice B m lc), put_mkA (by decide) (by decide), hI.pure hun rfl rfl (show _ ≠ 15 from by omega) (show _ ≠ 16 from by omega) (show _ ≠ 14 from by omega) hdi⟩
              simp only [Act.eval, Array.getD_eq_getD_getElem?] at e1
              go_simp
            · have ho' := Option.some.inj (show some _ = some o from ho)
              subst ho'
              subst hT
              have d10 : L.getD 10 false = true := hdep ⟨10, .data⟩ (by simp) rfl
              have d12 : L.getD 12 false = true := hdep ⟨12, .data⟩ (by simp) rfl
              have hown := hI.own 10 13 (ll) rfl d10 hf
              replace hown : w'.ownsRow wc.heap.size 3 1 (vs 100) m ((ll).map iv) := by have h := hown; rw [hlB] at h; exact h
              have e1 := (hev 102 (by decide)).trans (show vs 102 = _ from hI.val 12 _ rfl d12)
              refine wpOp_app ho rfl rfl (.tmp 100) (.tmp 102) rfl wc.heap.size m m lc (vs 100) (ll) ll B (hev 100 (by decide)) e1 hown hlB hcB (ISl.below hsB hbel) (by omega) hbel.size fun v2 w2 h1 h2 h3 => ⟨upd vs 103 v2, put_mkA (by decide) (by decide), hI.row hun rfl rfl (show _ ≠ 15 from by omega) (show _ ≠ 16 from by omega) (show _ ≠ 14 from by omega) hdi (row := (vs 100).ownBlock) h2 (hbel.grown h2 hbel.size (fun k hk => (hown.lt k hk).1)) (by have h := h1; simpa [hlA, hlB] using h) h3 ?_ (fun q cs e hb => own_not_las hown e hb)⟩
              intro j c' l' hji hR hLj hLc hci k hk e
              refine hI.apt j 10 c' l' 13 (ll) hR rfl ?_ hLj d10 hLc hf k hk e.symm
              rintro rfl
              have hcc := Option.some.inj (show some (13, _) = some (c', l') from hR)
              exact hci (congrArg Prod.fst hcc).symm
            · have ho' := Option.some.inj (show some _ = some o from ho)
              subst ho'
              subst hT
              have d6 : L.getD 6 false = true := hdep ⟨6, .data⟩ (by simp) rfl
              have d13 : L.getD 13 false = true := hdep ⟨13, .data⟩ (by simp) rfl
              have e1 := hev 96 (by decide)
              have e2 := hev 103 (by decide)
              have hvs : ∀ j, j ≠ _ → upd vs 104 (.agg #[vs 96, vs 103]) _ = _ := fun j hj => upd_ne (hdi j hj)
              have h99 : L.getD 99 false = false := by simp [Array.getD, hLs]
              obtain ⟨A2, c2, hv1, -, -, -⟩ := isl_owns (show w'.ownsRow wc.heap.size 3 1 (vs 96) _ _ from hI.own 6 99 (sl ++ ll) rfl d6 h99)
              obtain ⟨B2, c3, hv2, -, -, -⟩ := isl_owns (show w'.ownsRow wc.heap.size 3 1 (vs 103) _ _ from hI.own 13 99 (ll ++ ll) rfl d13 h99)
              refine wpOp_run (d := 104) (v := .agg #[vs 96, vs 103]) ho rfl rfl (by simp only [Act.eval, Array.getD_eq_getD_getElem?] at e1 e2; rw [hv1] at e1 ⊢; rw [hv2] at e2 ⊢; go_simp) ⟨upd vs 104 (.agg #[vs 96, vs 103]), put_mkA (by decide) (by decide), hI.step hun hvs hbel (fun v hv => by cases hv) (fun c l hr => by cases hr) (fun j c l _ hr x y _ => hI.own j c l hr x y) (fun c l hr => by cases hr) (fun _ => ⟨show (6 : Nat) ≠ 14 by decide, show (13 : Nat) ≠ 14 by decide, upd_same, d6, d13⟩) (fun e => absurd (show (14 : Nat) = 16 from e) (by decide)) (hI.bxk hun (show (14 : Nat) ≠ 15 by decide) (show (14 : Nat) ≠ 16 by decide) hvs (fun _ _ _ h => h))⟩
            · have ho' := Option.some.inj (show some _ = some o from ho)
              subst ho'
              subst hT
              have hvs : ∀ j, j ≠ _ → upd vs 18 (.pointer (some ⟨w'.heap.size, 0, none⟩)) _ = _ := fun j hj => upd_ne (hdi j hj)
              have hns : L.getD 16 false = false := by cases h : L.getD 16 false with | false => rfl | true => exact absurd ((hI.sd h).2.symm.trans hf) (by decide)
              refine wpOp_run (d := 18) (v := .pointer (some ⟨w'.heap.size, 0, none⟩)) (w' := w'.alloc (.cells #[.slice none 0 0, .slice none 0 0] 42)) ho rfl rfl (by go_simp) ⟨upd vs 18 (.pointer (some ⟨w'.heap.size, 0, none⟩)), put_mkA (by decide) (by decide), hI.step hun hvs (hbel.alloc hbel.size _) (fun v hv => by cases hv) (fun c l hr => by cases hr) (fun j c l _ hr x y _ => (hI.own j c l hr x y).alloc _) (fun c l hr => by cases hr) (fun e => absurd (show (15 : Nat) = 14 from e) (by decide)) (fun e => absurd (show (15 : Nat) = 16 from e) (by decide)) (fun _ => ⟨w'.heap.size, upd_same, hbel.size, ?_⟩)⟩
              unfold bxC
              rw [if_neg (by rw [getD_set_ne false (show (15 : Nat) ≠ 16 by decide)]; exact fun h => absurd (h.symm.trans hns) (by decide))]
              exact Bx.new w' 42 _
            · have ho' := Option.some.inj (show some _ = some o from ho)
              subst ho'
              subst hT
              have d15 : L.getD 15 false = true := hdep ⟨15, .data⟩ (by simp) rfl
              have d14 : L.getD 14 false = true := hdep ⟨14, .data⟩ (by simp) rfl
              obtain ⟨q2, e18, hq2, hbq⟩ := hI.bx d15
              replace e18 : vs 18 = _ := e18
              obtain ⟨e104, d6, d13⟩ := hI.bd d14
              replace e104 : vs 104 = .agg #[vs 96, vs 103] := e104
              have h99 : L.getD 99 false = false := by simp [Array.getD, hLs]
              obtain ⟨A2, c2, hv1, -, -, -⟩ := isl_owns (show w'.ownsRow wc.heap.size 3 1 (vs 96) _ _ from hI.own 6 99 (sl ++ ll) rfl d6 h99)
              obtain ⟨B2, c3, hv2, -, -, -⟩ := isl_owns (show w'.ownsRow wc.heap.size 3 1 (vs 103) _ _ from hI.own 13 99 (ll ++ ll) rfl d13 h99)
              have hbq' : Bx w' q2 42 [.slice none 0 0, .slice none 0 0] := by have h := hbq; unfold bxC at h; rw [if_neg (by rw [hf]; decide)] at h; exact h
              have e1 := (hev 18 (by decide)).trans e18
              have e2 := (hev 104 (by decide)).trans e104
              rw [hv1, hv2] at e2
              have hz0 := (hbq'.cell 0).trans (show _ = some (Value.slice none 0 0) from rfl)
              have hz1 := (hbq'.cell 1).trans (show _ = some (Value.slice none 0 0) from rfl)
              have hf0 := hbq'.frozen 0
              have hf1 := hbq'.frozen 1
              have hql := hbq'.lt
              refine wpOp_run0 (w' := (w'.setCell ⟨q2, 0, none⟩ (vs 96)).setCell ⟨q2, 1, none⟩ (vs 103)) ho rfl rfl (by simp only [Act.eval, Array.getD_eq_getD_getElem?] at e1 e2; rw [hv1, hv2]; go_simp) ⟨vs, rfl, hI.step (vs' := vs) hun (fun _ _ => rfl) (below_two hbel hq2) (fun v hv => by cases hv) (fun c l hr => by cases hr) (fun j c l _ hr x y _ => (hI.own j c l hr x y).kept grown_two (.inr fun e => own_not_las (hI.own j c l hr x y) e hbq)) (fun c l hr => by cases hr) (fun e => absurd (show (16 : Nat) = 14 from e) (by decide)) (fun _ => ⟨d14, d15⟩) (fun _ => ⟨q2, e18, hq2, ?_⟩)⟩
              unfold bxC
              rw [if_pos (by simp [Array.getD, hLs])]
              exact (hbq'.set 0 _).set 1 _
            · exact absurd ho (by simp)
          case hend =>
            intro L vs w' hall hsz hI
            subst hT
            obtain ⟨q2, e18, hq2, hbq⟩ := hI.bx (hall 15 (by decide))
            have h99 : L.getD 99 false = false := by simp [Array.getD, hsz]
            have o1 := hI.own 6 99 (sl ++ ll) rfl (hall 6 (by decide)) h99
            have o2 := hI.own 13 99 (ll ++ ll) rfl (hall 13 (by decide)) h99
            replace e18 : vs 18 = _ := e18
            replace o1 : w'.ownsRow wc.heap.size 3 1 (vs 96) _ _ := o1
            replace o2 : w'.ownsRow wc.heap.size 3 1 (vs 103) _ _ := o2
            have hbq' : Bx w' q2 42 [vs 96, vs 103] := by have h := hbq; unfold bxC at h; rw [if_pos (hall 16 (by decide))] at h; exact h
            obtain ⟨A2, c2, hv1, hc2, hi2, -⟩ := isl_owns o1
            obtain ⟨B2, c3, hv2, hc3, hi3, -⟩ := isl_owns o2
            have hlk := lk0.below hI.bel
            rw [hv1, hv2] at hbq'
            have hlen1 : (sl ++ ll).length = n + m := by rw [List.length_append, hlA, hlB]
            have hlen2 : (ll ++ ll).length = m + m := by rw [List.length_append, hlB]
            rw [hlen1] at hbq' hc2
            rw [hlen2] at hbq' hc3
            have hlm : LEV w f g vf vg w1.heap.size w2.heap.size q2 A2 (n + m) c2 B2 (m + m) c3 (sl ++ ll) (ll ++ ll) w' := ⟨hlk.f, hlk.g, ⟨hbq', ⟨hi2, hi3⟩, hlen1, hlen2, hc2, hc3, by omega, by omega⟩, hlk.low⟩
            have HLK := Lib.hid hlk
            have HLM := Lib.hid hlm
            clear hlk hlm hI hbq hbq' hi2 hi3 o1 o2 hall
            simp only [mkA, Act.put, List.setIfInBounds_toArray, List.set_cons_zero, List.set_cons_succ]
            go_wp2
            go_meet
            exact ⟨q2, A2, n + m, c2, B2, m + m, c3, rfl, HLK.out, HLM.out⟩
        clear lk
        obtain ⟨q2, A2, n2, sc2, B2, m2, lc2, rfl, lk, lm⟩ := hcut
        have HLL := Lib.hid (show ∀ W, Below wc.heap.size wc W → LEV w f g vf vg w1.heap.size w2.heap.size w5.heap.size A n sc B m lc sl ll W ∧ LEV w f g vf vg w1.heap.size w2.heap.size q2 A2 n2 sc2 B2 m2 lc2 (sl ++ ll) (ll ++ ll) W from fun W hW => ⟨lk.below hW, lm.below hW⟩)
        clear lk lm
        go_wp2_with fail
        obtain ⟨wb, hwb⟩ : ∃ wb, wb = wc := ⟨_, rfl⟩
        subst hwb
        go_loopw [19] (fun i wr => LkRel wb i wr) (fun i _ => 40 - (intOf i).toNat)
        case atStart => exact ⟨0, rfl, by omega, Below.refl _ _⟩
        case round =>
          obtain ⟨k, rfl, hk, hb⟩ := hrel
          obtain ⟨lk, lm⟩ := HLL.out _ hb
          have HB := Lib.hid hb
          by_cases hlt : k < 40
          · have e1 : decide (k < 40) = true := by simpa using hlt
            have e1' : decide ((k : Int) < 40) = true := by simp; omega
            obtain ⟨c, hc⟩ : ∃ c, c = wl sl ll k := ⟨_, rfl⟩
            have c0 : (c != c) = false := by simp
            have HC := Lib.hid (HK1.out _ lk.k k c hk hc)
            have HCC := Lib.hid hc
            obtain ⟨-, -, -, -, -, -, -, -, a0, a1⟩ := lk.S
            clear lk lm hb hc
            go_wp2_with fail
            refine (HC.out).mono ?_
            rintro e w6 ⟨rfl, hb6⟩
            have HB6 := Lib.hid (HB.out.trans (hb6.mono HB.out.size))
            obtain ⟨lk, lm⟩ := HLL.out _ HB6.out
            have HC2 := Lib.hid (HK2.out _ _ _ _ _ _ _ _ lm.k k c hk HCC.out)
            clear a0 a1
            obtain ⟨-, -, -, -, -, -, -, -, a0, a1⟩ := lm.S
            clear lk lm hb6
            go_wp2_with fail
            refine (HC2.out).mono ?_
            rintro e w7 ⟨rfl, hb7⟩
            have HB7 := Lib.hid (HB6.out.trans (hb7.mono HB6.out.size))
            clear hb7 a0 a1
            go_wp2_with fail
            go_roundw
            case rel => exact ⟨k + 1, by go_num, by omega, HB7.out⟩
            case measure => simp [intOf]; omega
          · have e1 : decide (k < 40) = false := by simpa using hlt
            have e1' : decide ((k : Int) < 40) = false := by simp; omega
            have HLM := Lib.hid lm
            clear hb HLL HK1 HK2
            replace lm := HLM.out
            clear HLM
            go_upto_region 22 with fail
            go_cut [24, 25] from 132 to 140 (fun r e W => r = .bool u3 ∧ e3 = e ∧ LEV w f g vf vg w1.heap.size w2.heap.size w5.heap.size A n sc B m lc sl ll W ∧ LEV w f g vf vg w1.heap.size w2.heap.size q2 A2 n2 sc2 B2 m2 lc2 (sl ++ ll) (ll ++ ll) W)
            case first =>
              replace lk := lk.drew
              replace lm := lm.drew
              go_region_held3 (fun w' : World => w'.cell? ⟨w1.heap.size, 0, none⟩ = some (.string vf.o) ∧ w'.cell? ⟨w1.heap.size, 1, none⟩ = some (.string vf.nm) ∧ w'.cell? ⟨w1.heap.size, 2, none⟩ = some (.slice vf.A vf.ll vf.cap) ∧ w'.cell? ⟨w1.heap.size, 3, none⟩ = some (.int .i64 vf.p) ∧ w'.cell? ⟨w2.heap.size, 0, none⟩ = some (.string vg.o) ∧ w'.cell? ⟨w2.heap.size, 1, none⟩ = some (.string vg.nm) ∧ w'.cell? ⟨w2.heap.size, 2, none⟩ = some (.slice vg.A vg.ll vg.cap) ∧ w'.cell? ⟨w2.heap.size, 3, none⟩ = some (.int .i64 vg.p) ∧ w'.cell? ⟨w5.heap.size, 0, none⟩ = some (.slice A n sc) ∧ w'.cell? ⟨w5.heap.size, 1, none⟩ = some (.slice B m lc)) (exact lk.S) (first
                | (go_at_call 22
                   with_reducible refine (names_any _).mono ?_
                   rintro e wA ⟨q, rfl, hN, hbA⟩
                   replace lk := lk.below hbA
                   (try replace lm := lm.below hbA)
                   (try replace HX := Lib.hid (HX.out.below hbA))
                   (try replace HY := Lib.hid (HY.out.below hbA))
                   (try replace HZ := Lib.hid (HZ.out.below hbA))
                   have HN := Lib.hid hN
                   clear hN hbA)
                | (go_at_call 25
                   with_reducible refine (two_any _ lk.f.fs lk.g.fs).mono ?_
                   rintro e wC ⟨v2, rfl, hx, hbC⟩
                   replace lk := lk.below hbC
                   replace lm := lm.below hbC
                   (try replace HN := Lib.hid (HN.out.below hbC))
                   (try replace HY := Lib.hid (HY.out.below hbC))
                   (try replace HZ := Lib.hid (HZ.out.below hbC))
                   have HX := Lib.hid (show FS wC 27 TT (fBin [85] f g) v2.c from hx)
                   clear hx hbC)
                | (go_at_call 20
                   with_reducible refine (H3.out _ _ _ lk.k HX.out HN.out).mono ?_
                   rintro e wB ⟨rfl, hbB⟩
                   replace lk := lk.below hbB
                   replace lm := lm.below hbB
                   clear hbB))
              all_goals
                have HLK := Lib.hid lk
                have HLM := Lib.hid lm
                clear lk lm
                go_wp2
                go_meet
                exact ⟨rfl, rfl, HLK.out, HLM.out⟩
            clear lk lm
            obtain ⟨rfl, rfl, lk, lm⟩ := hcut
            go_upto_region 23 with fail
            go_cut [26, 27] from 141 to 149 (fun r e W => r = .bool u4 ∧ e3 = e ∧ LEV w f g vf vg w1.heap.size w2.heap.size w5.heap.size A n sc B m lc sl ll W ∧ LEV w f g vf vg w1.heap.size w2.heap.size q2 A2 n2 sc2 B2 m2 lc2 (sl ++ ll) (ll ++ ll) W)
            case first =>
              replace lk := lk.drew
              replace lm := lm.drew
              go_region_held3 (fun w' : World => w'.cell? ⟨w1.heap.size, 0, none⟩ = some (.string vf.o) ∧ w'.cell? ⟨w1.heap.size, 1, none⟩ = some (.string vf.nm) ∧ w'.cell? ⟨w1.heap.size, 2, none⟩ = some (.slice vf.A vf.ll vf.cap) ∧ w'.cell? ⟨w1.heap.size, 3, none⟩ = some (.int .i64 vf.p) ∧ w'.cell? ⟨w2.heap.size, 0, none⟩ = some (.string vg.o) ∧ w'.cell? ⟨w2.heap.size, 1, none⟩ = some (.string vg.nm) ∧ w'.cell? ⟨w2.heap.size, 2, none⟩ = some (.slice vg.A vg.ll vg.cap) ∧ w'.cell? ⟨w2.heap.size, 3, none⟩ = some (.int .i64 vg.p) ∧ w'.cell? ⟨w5.heap.size, 0, none⟩ = some (.slice A n sc) ∧ w'.cell? ⟨w5.heap.size, 1, none⟩ = some (.slice B m lc)) (exact lk.S) (first
                | (go_at_call 22
                   with_reducible refine (names_any _).mono ?_
                   rintro e wA ⟨q, rfl, hN, hbA⟩
                   replace lk := lk.below hbA
                   (try replace lm := lm.below hbA)
                   (try replace HX := Lib.hid (HX.out.below hbA))
                   (try replace HY := Lib.hid (HY.out.below hbA))
                   (try replace HZ := Lib.hid (HZ.out.below hbA))
                   have HN := Lib.hid hN
                   clear hN hbA)
                | (go_at_call 25
                   with_reducible refine (two_any _ lk.f.fs lk.g.fs).mono ?_
                   rintro e wC ⟨v2, rfl, hx, hbC⟩
                   replace lk := lk.below hbC
                   replace lm := lm.below hbC
                   (try replace HN := Lib.hid (HN.out.below hbC))
                   (try replace HY := Lib.hid (HY.out.below hbC))
                   (try replace HZ := Lib.hid (HZ.out.below hbC))
                   have HX := Lib.hid (show FS wC 27 TT (fBin [87] f g) v2.c from hx)
                   clear hx hbC)
                | (go_at_call 20
                   with_reducible refine (H4.out _ _ _ lk.k HX.out HN.out).mono ?_
                   rintro e wB ⟨rfl, hbB⟩
                   replace lk := lk.below hbB
                   replace lm := lm.below hbB
                   clear hbB))
              all_goals
                have HLK := Lib.hid lk
                have HLM := Lib.hid lm
                clear lk lm
                go_wp2
                go_meet
                exact ⟨rfl, rfl, HLK.out, HLM.out⟩
            clear lk lm
            obtain ⟨rfl, rfl, lk, lm⟩ := hcut
            go_upto_region 24 with fail
            go_cut [28, 29] from 150 to 160 (fun r e W => r = .bool u5 ∧ e3 = e ∧ LEV w f g vf vg w1.heap.size w2.heap.size w5.heap.size A n sc B m lc sl ll W ∧ LEV w f g vf vg w1.heap.size w2.heap.size q2 A2 n2 sc2 B2 m2 lc2 (sl ++ ll) (ll ++ ll) W)
            case first =>
              replace lk := lk.drew
              replace lm := lm.drew
              go_region_held3 (fun w' : World => w'.cell? ⟨w1.heap.size, 0, none⟩ = some (.string vf.o) ∧ w'.cell? ⟨w1.heap.size, 1, none⟩ = some (.string vf.nm) ∧ w'.cell? ⟨w1.heap.size, 2, none⟩ = some (.slice vf.A vf.ll vf.cap) ∧ w'.cell? ⟨w1.heap.size, 3, none⟩ = some (.int .i64 vf.p) ∧ w'.cell? ⟨w2.heap.size, 0, none⟩ = some (.string vg.o) ∧ w'.cell? ⟨w2.heap.size, 1, none⟩ = some (.string vg.nm) ∧ w'.cell? ⟨w2.heap.size, 2, none⟩ = some (.slice vg.A vg.ll vg.cap) ∧ w'.cell? ⟨w2.heap.size, 3, none⟩ = some (.int .i64 vg.p) ∧ w'.cell? ⟨w5.heap.size, 0, none⟩ = some (.slice A n sc) ∧ w'.cell? ⟨w5.heap.size, 1, none⟩ = some (.slice B m lc)) (exact lk.S) (first
                | (go_at_call 22
                   with_reducible refine (names_any _).mono ?_
                   rintro e wA ⟨q, rfl, hN, hbA⟩
                   replace lk := lk.below hbA
                   (try replace lm := lm.below hbA)
                   (try replace HX := Lib.hid (HX.out.below hbA))
                   (try replace HY := Lib.hid (HY.out.below hbA))
                   (try replace HZ := Lib.hid (HZ.out.below hbA))
                   have HN := Lib.hid hN
                   clear hN hbA)
                | (go_at_call 26
                   with_reducible refine (not_any _ lk.f.fs).mono ?_
                   rintro e wC ⟨v2, rfl, hx, hbC⟩
                   replace lk := lk.below hbC
                   replace lm := lm.below hbC
                   (try replace HN := Lib.hid (HN.out.below hbC))
                   (try replace HY := Lib.hid (HY.out.below hbC))
                   (try replace HZ := Lib.hid (HZ.out.below hbC))
                   have HY := Lib.hid (show FS wC 27 TT (fUn [33] f) v2.c from hx)
                   clear hx hbC)
                | (go_at_call 26
                   with_reducible refine (not_any _ lk.g.fs).mono ?_
                   rintro e wC ⟨v2, rfl, hx, hbC⟩
                   replace lk := lk.below hbC
                   replace lm := lm.below hbC
                   (try replace HN := Lib.hid (HN.out.below hbC))
                   (try replace HY := Lib.hid (HY.out.below hbC))
                   (try replace HZ := Lib.hid (HZ.out.below hbC))
                   have HZ := Lib.hid (show FS wC 27 TT (fUn [33] g) v2.c from hx)
                   clear hx hbC)
                | (go_at_call 25
                   with_reducible refine (two_any _ HY.out HZ.out).mono ?_
                   rintro e wC ⟨v2, rfl, hx, hbC⟩
                   replace lk := lk.below hbC
                   replace lm := lm.below hbC
                   (try replace HN := Lib.hid (HN.out.below hbC))
                   (try replace HY := Lib.hid (HY.out.below hbC))
                   (try replace HZ := Lib.hid (HZ.out.below hbC))
                   have HX := Lib.hid (show FS wC 27 TT (fBin [82] (fUn [33] f) (fUn [33] g)) v2.c from hx)
                   clear hx hbC)
                | (go_at_call 20
                   with_reducible refine (H5.out _ _ _ lk.k HX.out HN.out).mono ?_
                   rintro e wB ⟨rfl, hbB⟩
                   replace lk := lk.below hbB
                   replace lm := lm.below hbB
                   clear hbB))
              all_goals
                have HLK := Lib.hid lk
                have HLM := Lib.hid lm
                clear lk lm
                go_wp2
                go_meet
                exact ⟨rfl, rfl, HLK.out, HLM.out⟩
            clear lk lm
            obtain ⟨rfl, rfl, lk, lm⟩ := hcut
            go_upto_region 25 with fail
            go_cut [30, 31] from 161 to 168 (fun r e W => r = .bool u6 ∧ e6 = e ∧ LEV w f g vf vg w1.heap.size w2.heap.size w5.heap.size A n sc B m lc sl ll W ∧ LEV w f g vf vg w1.heap.size w2.heap.size q2 A2 n2 sc2 B2 m2 lc2 (sl ++ ll) (ll ++ ll) W)
            case first =>
              replace lk := lk.drew
              replace lm := lm.drew
              go_region_held3 (fun w' : World => w'.cell? ⟨w1.heap.size, 0, none⟩ = some (.string vf.o) ∧ w'.cell? ⟨w1.heap.size, 1, none⟩ = some (.string vf.nm) ∧ w'.cell? ⟨w1.heap.size, 2, none⟩ = some (.slice vf.A vf.ll vf.cap) ∧ w'.cell? ⟨w1.heap.size, 3, none⟩ = some (.int .i64 vf.p) ∧ w'.cell? ⟨w2.heap.size, 0, none⟩ = some (.string vg.o) ∧ w'.cell? ⟨w2.heap.size, 1, none⟩ = some (.string vg.nm) ∧ w'.cell? ⟨w2.heap.size, 2, none⟩ = some (.slice vg.A vg.ll vg.cap) ∧ w'.cell? ⟨w2.heap.size, 3, none⟩ = some (.int .i64 vg.p) ∧ w'.cell? ⟨w5.heap.size, 0, none⟩ = some (.slice A n sc) ∧ w'.cell? ⟨w5.heap.size, 1, none⟩ = some (.slice B m lc)) (exact lk.S) (first
                | (go_at_call 22
                   with_reducible refine (names_any _).mono ?_
                   rintro e wA ⟨q, rfl, hN, hbA⟩
                   replace lk := lk.below hbA
                   (try replace lm := lm.below hbA)
                   (try replace HX := Lib.hid (HX.out.below hbA))
                   (try replace HY := Lib.hid (HY.out.below hbA))
                   (try replace HZ := Lib.hid (HZ.out.below hbA))
                   have HN := Lib.hid hN
                   clear hN hbA)
                | (go_at_call 27
                   with_reducible refine (one_any _ lk.g.fs).mono ?_
                   rintro e wC ⟨v2, rfl, hx, hbC⟩
                   replace lk := lk.below hbC
                   replace lm := lm.below hbC
                   (try replace HN := Lib.hid (HN.out.below hbC))
                   (try replace HY := Lib.hid (HY.out.below hbC))
                   (try replace HZ := Lib.hid (HZ.out.below hbC))
                   have HX := Lib.hid (show FS wC 27 TT (fUn [70] g) v2.c from hx)
                   clear hx hbC)
                | (go_at_call 20
                   with_reducible refine (H6.out _ _ _ lk.k HX.out HN.out).mono ?_
                   rintro e wB ⟨rfl, hbB⟩
                   replace lk := lk.below hbB
                   replace lm := lm.below hbB
                   clear hbB))
              all_goals
                have HLK := Lib.hid lk
                have HLM := Lib.hid lm
                clear lk lm
                go_wp2
                go_meet
                exact ⟨rfl, rfl, HLK.out, HLM.out⟩
            clear lk lm
            obtain ⟨rfl, rfl, lk, lm⟩ := hcut
            go_upto_region 26 with fail
            go_cut [32, 33] from 169 to 176 (fun r e W => r = .bool u7 ∧ er = e ∧ LEV w f g vf vg w1.heap.size w2.heap.size w5.heap.size A n sc B m lc sl ll W ∧ LEV w f g vf vg w1.heap.size w2.heap.size q2 A2 n2 sc2 B2 m2 lc2 (sl ++ ll) (ll ++ ll) W)
            case first =>
              replace lk := lk.drew
              replace lm := lm.drew
              go_region_held3 (fun w' : World => w'.cell? ⟨w1.heap.size, 0, none⟩ = some (.string vf.o) ∧ w'.cell? ⟨w1.heap.size, 1, none⟩ = some (.string vf.nm) ∧ w'.cell? ⟨w1.heap.size, 2, none⟩ = some (.slice vf.A vf.ll vf.cap) ∧ w'.cell? ⟨w1.heap.size, 3, none⟩ = some (.int .i64 vf.p) ∧ w'.cell? ⟨w2.heap.size, 0, none⟩ = some (.string vg.o) ∧ w'.cell? ⟨w2.heap.size, 1, none⟩ = some (.string vg.nm) ∧ w'.cell? ⟨w2.heap.size, 2, none⟩ = some (.slice vg.A vg.ll vg.cap) ∧ w'.cell? ⟨w2.heap.size, 3, none⟩ = some (.int .i64 vg.p) ∧ w'.cell? ⟨w5.heap.size, 0, none⟩ = some (.slice A n sc) ∧ w'.cell? ⟨w5.heap.size, 1, none⟩ = some (.slice B m lc)) (exact lk.S) (first
                | (go_at_call 22
                   with_reducible refine (names_any _).mono ?_
                   rintro e wA ⟨q, rfl, hN, hbA⟩
                   replace lk := lk.below hbA
                   (try replace lm := lm.below hbA)
                   (try replace HX := Lib.hid (HX.out.below hbA))
                   (try replace HY := Lib.hid (HY.out.below hbA))
                   (try replace HZ := Lib.hid (HZ.out.below hbA))
                   have HN := Lib.hid hN
                   clear hN hbA)
                | (go_at_call 27
                   with_reducible refine (one_any _ lk.f.fs).mono ?_
                   rintro e wC ⟨v2, rfl, hx, hbC⟩
                   replace lk := lk.below hbC
                   replace lm := lm.below hbC
                   (try replace HN := Lib.hid (HN.out.below hbC))
                   (try replace HY := Lib.hid (HY.out.below hbC))
                   (try replace HZ := Lib.hid (HZ.out.below hbC))
                   have HX := Lib.hid (show FS wC 27 TT (fUn [71] f) v2.c from hx)
                   clear hx hbC)
                | (go_at_call 20
                   with_reducible refine (H7.out _ _ _ lk.k HX.out HN.out).mono ?_
                   rintro e wB ⟨rfl, hbB⟩
                   replace lk := lk.below hbB
                   replace lm := lm.below hbB
                   clear hbB))
              all_goals
                have HLK := Lib.hid lk
                have HLM := Lib.hid lm
                clear lk lm
                go_wp2
                go_meet
                exact ⟨rfl, rfl, HLK.out, HLM.out⟩
            clear lk lm
            obtain ⟨rfl, rfl, lk, lm⟩ := hcut
            go_upto_region 27 with fail
            go_cut [34, 35] from 177 to 185 (fun r e W => r = .bool u3 ∧ e3 = e ∧ LEV w f g vf vg w1.heap.size w2.heap.size w5.heap.size A n sc B m lc sl ll W ∧ LEV w f g vf vg w1.heap.size w2.heap.size q2 A2 n2 sc2 B2 m2 lc2 (sl ++ ll) (ll ++ ll) W)
            case first =>
              replace lk := lk.drew
              replace lm := lm.drew
              go_region_held3 (fun w' : World => w'.cell? ⟨w1.heap.size, 0, none⟩ = some (.string vf.o) ∧ w'.cell? ⟨w1.heap.size, 1, none⟩ = some (.string vf.nm) ∧ w'.cell? ⟨w1.heap.size, 2, none⟩ = some (.slice vf.A vf.ll vf.cap) ∧ w'.cell? ⟨w1.heap.size, 3, none⟩ = some (.int .i64 vf.p) ∧ w'.cell? ⟨w2.heap.size, 0, none⟩ = some (.string vg.o) ∧ w'.cell? ⟨w2.heap.size, 1, none⟩ = some (.string vg.nm) ∧ w'.cell? ⟨w2.heap.size, 2, none⟩ = some (.slice vg.A vg.ll vg.cap) ∧ w'.cell? ⟨w2.heap.size, 3, none⟩ = some (.int .i64 vg.p) ∧ w'.cell? ⟨q2, 0, none⟩ = some (.slice A2 n2 sc2) ∧ w'.cell? ⟨q2, 1, none⟩ = some (.slice B2 m2 lc2)) (exact lm.S) (first
                | (go_at_call 22
                   with_reducible refine (names_any _).mono ?_
                   rintro e wA ⟨q, rfl, hN, hbA⟩
                   replace lk := lk.below hbA
                   (try replace lm := lm.below hbA)
                   (try replace HX := Lib.hid (HX.out.below hbA))
                   (try replace HY := Lib.hid (HY.out.below hbA))
                   (try replace HZ := Lib.hid (HZ.out.below hbA))
                   have HN := Lib.hid hN
                   clear hN hbA)
                | (go_at_call 25
                   with_reducible refine (two_any _ lk.f.fs lk.g.fs).mono ?_
                   rintro e wC ⟨v2, rfl, hx, hbC⟩
                   replace lk := lk.below hbC
                   replace lm := lm.below hbC
                   (try replace HN := Lib.hid (HN.out.below hbC))
                   (try replace HY := Lib.hid (HY.out.below hbC))
                   (try replace HZ := Lib.hid (HZ.out.below hbC))
                   have HX := Lib.hid (show FS wC 27 TT (fBin [85] f g) v2.c from hx)
                   clear hx hbC)
                | (go_at_call 20
                   with_reducible refine (H8.out _ _ _ _ _ _ _ _ _ _ lm.k HX.out HN.out).mono ?_
                   rintro e wB ⟨rfl, hbB⟩
                   replace lk := lk.below hbB
                   replace lm := lm.below hbB
                   clear hbB))
              all_goals
                have HLK := Lib.hid lk
                have HLM := Lib.hid lm
                clear lk lm
                go_wp2
                go_meet
                exact ⟨rfl, rfl, HLK.out, HLM.out⟩
            clear lk lm
            obtain ⟨rfl, rfl, lk, lm⟩ := hcut
            have HLOW := Lib.hid lk.low
            have HOO := Lib.hid (HOT.out _ lk.g.fs)
            rw [← HDG.out] at HOO
            obtain ⟨-, -, -, -, b0, b1, b2, b3, -, -⟩ := lk.S
            clear lk lm H3 H4 H5 H6 H7 H8 HOT HDG HF HG HFZ HGZ
            have hq := HER.out
            clear HER
            cases hdf with
            | false =>
              simp only [Bool.false_eq_true, if_false] at hq
              subst hq
              clear HLAW HOFF HOO
              go_wp2_with fail
              go_ret
              exact ⟨rfl, HLOW.out⟩
            | true =>
              simp only [if_true] at hq
              subst hq
              cases hdg with
              | true =>
                obtain ⟨x1, x2, x3⟩ := HLAW.out rfl rfl
                subst x2
                have X1 := Lib.hid x1
                have X3 := Lib.hid x3
                clear HLAW HOFF HOO x1 x3
                cases u3 <;> cases u5 <;> cases u6 <;> cases u7
                all_goals first
                  | exact absurd X1.out (by decide)
                  | exact absurd X3.out (by decide)
                  | (go_wp2_with fail
                     go_ret
                     exact ⟨rfl, HLOW.out⟩)
              | false =>
                obtain ⟨x1, x2⟩ := HOFF.out rfl
                subst x1 x2
                clear HLAW HOFF
                go_wp2_with fail
                refine (HOO.out).mono ?_
                rintro e w9 ⟨rfl, hb9⟩
                have HB9 := Lib.hid (below_t HLOW.out hb9)
                clear hb9 b0 b1 b2 b3
                go_wp2_with fail
                go_ret
                exact ⟨rfl, HB9.out⟩
end Go.Proofs.YtmgjpjjglghbaaaGreatDoor
