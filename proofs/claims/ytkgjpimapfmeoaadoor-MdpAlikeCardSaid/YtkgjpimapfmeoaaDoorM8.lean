/-
  Letters, walked.
-/
import Derived.Test.YtkgjpimapfmeoaaDoorM7
import Derived.RegionTactic
namespace Go.Proofs.YtkgjpimapfmeoaaDoor
open Go.RowKit

def errV (n : Nat) : Value := if n = 0 then .nilIface else .iface 67 (.int .i64 (n : Int))
/-- What Letters tells. -/
def LtP (p : PrO) (labels : List ByteArray) (w : World) (e : Ending) (w' : World) : Prop :=
  ∃ A cap, e = .returned (.tuple #[.slice A (letO p labels).length cap, errV (letE p labels)]) ∧ ISl w' A (letO p labels) ∧ Below w.heap.size w w'
theorem ltP_bad {p : PrO} {labels : List ByteArray} {w w' : World} {n : Nat} (he : letE p labels = n) (h0 : n ≠ 0) (hb : Below w.heap.size w w') : LtP p labels w (.returned (.tuple #[.slice none 0 0, .iface 67 (.int .i64 (n : Int))])) w' := by
  have h1 : letO p labels = [] := by rw [letO, if_neg (by rw [he]; exact h0)]
  refine ⟨none, 0, ?_, by rw [h1]; exact ISl.nil, hb⟩
  rw [h1, he, errV, if_neg h0]
  rfl
theorem letE_bad {p : PrO} {labels : List ByteArray} (h : ¬ (p.right ∧ labels.length ≤ 6 ∧ labels.Nodup)) : letE p labels = 1 := if_neg h
theorem letE_name {p : PrO} {labels : List ByteArray} (h : p.right ∧ labels.length ≤ 6 ∧ labels.Nodup) (h2 : ¬ ∀ x ∈ labels, x ∈ p.nms) : letE p labels = 30 := (if_pos h).trans (if_neg h2)
theorem letE_ok {p : PrO} {labels : List ByteArray} (h : p.right ∧ labels.length ≤ 6 ∧ labels.Nodup) (h2 : ∀ x ∈ labels, x ∈ p.nms) : letE p labels = 0 := (if_pos h).trans (if_pos h2)
theorem ltP_good {p : PrO} {labels : List ByteArray} {w w' : World} {q N : Nat} (he : letE p labels = 0) (hN : N = p.hds.length) (hv : Vals w' q N (fun s => sO (atsO p.nms labels) (p.hds.getD s []))) (hb : Below w.heap.size w w') : LtP p labels w (.returned (.tuple #[.slice (some ⟨q, 0, none⟩) N N, .nilIface])) w' := by
  subst hN
  have h1 : letO p labels = p.hds.map (sO (atsO p.nms labels)) := if_pos he
  refine ⟨some ⟨q, 0, none⟩, p.hds.length, ?_, ?_, hb⟩
  · rw [h1, he, List.length_map]; rfl
  · rw [h1]
    intro i hi
    have hi' : i < p.hds.length := by simpa using hi
    refine ⟨q, 0, rfl, ?_⟩
    rw [Nat.zero_add, hv.cell hi', List.getElem_map, List.getD_eq_getElem?_getD, List.getElem?_eq_getElem hi']
    rfl
def accS (ats : List Nat) (hds : List (List Int)) (i j s : Nat) : Int := if s < i then sO ats (hds.getD s []) else if s = i then sO ats ((hds.getD s []).take j) else 0
def LtRel (ats : List Nat) (hds : List (List Int)) (N qv m : Nat) (w0 : World) (i : Value) (q : Nat) (wr : World) : Prop :=
  ∃ k : Nat, i = .int .i64 (k : Int) ∧ k ≤ N ∧ Vals wr q N (accS ats hds k 0) ∧ Vals wr qv m (vO 1 ats) ∧ Below w0.heap.size w0 wr
def LtIn (ats : List Nat) (hds : List (List Int)) (N qv m k L : Nat) (w0 : World) (j : Value) (q : Nat) (wr : World) : Prop :=
  ∃ t : Nat, j = .int .i64 (t : Int) ∧ t ≤ L ∧ Vals wr q N (accS ats hds k t) ∧ Vals wr qv m (vO 1 ats) ∧ Below w0.heap.size w0 wr
theorem accS_zero {ats : List Nat} {hds : List (List Int)} (s : Nat) : accS ats hds 0 0 s = 0 := by
  unfold accS
  split
  · omega
  · split <;> rfl
theorem accS_end {ats : List Nat} {hds : List (List Int)} {k L : Nat} (hL : L = (hds.getD k []).length) (s : Nat) : accS ats hds (k + 1) 0 s = accS ats hds k L s := by
  unfold accS
  by_cases h1 : s < k
  · rw [if_pos h1, if_pos (by omega)]
  · rw [if_neg h1]
    by_cases h2 : s = k
    · subst h2
      rw [if_pos rfl, if_pos (by omega), List.take_of_length_le (by omega)]
    · rw [if_neg h2, if_neg (by omega)]
      split <;> rfl
theorem accS_step {ats : List Nat} {hds : List (List Int)} {k t : Nat} {h : List Int} (hh : hds.getD k [] = h) (ht : t < h.length) (s : Nat) : accS ats hds k (t + 1) s = if k = s then sO ats (h.take t) + vO 1 ats h[t].toNat else accS ats hds k t s := by
  unfold accS
  by_cases h1 : k = s
  · subst h1
    rw [if_neg (by omega), if_pos rfl, if_pos rfl, hh, take_snoc ht, sO_snoc]
  · rw [if_neg h1]
    by_cases h2 : s < k
    · rw [if_pos h2, if_pos h2]
    · rw [if_neg h2, if_neg h2, if_neg (by omega), if_neg (by omega)]
theorem holdR_in {n : Nat} : ∀ {l : List Int} {a : Int}, 0 ≤ a → holdR n a l → ∀ i ∈ l, 0 ≤ i ∧ i < (n : Int)
  | [], _, _, _, i, h => absurd h (by simp)
  | b :: r, a, ha, h, i, hi => by
    obtain ⟨h1, h2, h3⟩ := h
    rcases List.mem_cons.1 hi with rfl | hi
    · exact ⟨by omega, h2⟩
    · exact holdR_in (by omega) h3 i hi

open Classical in
set_option maxHeartbeats 8000000 in
set_option maxRecDepth 100000 in
theorem letters_any {p : PrO} {v : PV} {A : Option Addr} {labels : List ByteArray} {cl : Nat} (w : World) (hp : PrM w v p) (hs : Sml p) (hl : SSl w A labels) (hll : labels.length ≤ 1000000) : Calls Tryd.prog 10 #[.agg (v.l p).toArray, .slice A labels.length cl] w (LtP p labels w) := by
  obtain ⟨i0, hi0, hz⟩ := Option.map_eq_some_iff.1 infoI
  simp only [Prod.mk.injEq] at hz
  obtain ⟨hz0, hz1, hz2⟩ := hz
  have HI := Lib.hid hi0
  have HZ0 := Lib.hid hz0
  have HZ1 := Lib.hid hz1
  have HZ2 := Lib.hid hz2
  have HHD := Lib.hid hp.hd
  have HS := Lib.hid hs
  obtain ⟨n, hn⟩ : ∃ n, n = p.chs.length := ⟨_, rfl⟩
  obtain ⟨m, hm⟩ : ∃ m, m = p.nms.length := ⟨_, rfl⟩
  obtain ⟨N, hN⟩ : ∃ N, N = p.hds.length := ⟨_, rfl⟩
  obtain ⟨L, hL⟩ : ∃ L, L = labels.length := ⟨_, rfl⟩
  have hn1 : n ≤ 1000000 := by rw [hn]; exact hs.ch
  have hm1 : m ≤ 1000000 := by rw [hm]; exact hs.nm
  have hN1 : N ≤ 1000000 := by rw [hN]; exact hs.hd
  have HNN := Lib.hid hN
  have HMM := Lib.hid hm
  have HLL := Lib.hid hL
  have HRI := Lib.hid (fun (W : World) (hb : Below w.heap.size w W) => right_any W (hp.below hb) hs)
  have HDI := Lib.hid (fun (W : World) (hb : Below w.heap.size w W) => differ_any (cap := cl) W (hl.below hb) hll)
  have HVA := Lib.hid (fun (W : World) (hb : Below w.heap.size w W) (h6 : labels.length ≤ 6) (hnd : labels.Nodup) => values_any (c1 := v.b) (c2 := cl) W (hp.nm.below hb) (hl.below hb) hs.nm h6 hnd)
  change Hid (∀ (W : World) (hb : Below w.heap.size w W), Calls Tryd.prog 21 #[.agg #[.int .i64 p.init, .slice v.A p.chs.length v.a, .slice v.B p.nms.length v.b, .slice v.C p.hds.length v.c]] W (BoolP (decide p.right) W)) at HRI
  show Calls Tryd.prog 10 #[.agg #[.int .i64 p.init, .slice v.A p.chs.length v.a, .slice v.B p.nms.length v.b, .slice v.C p.hds.length v.c], .slice A labels.length cl] w _
  rw [← hn, ← hm, ← hN, ← hL]
  rw [← hn, ← hm, ← hN] at HRI
  rw [← hL] at HDI HVA hll
  rw [← hm] at HVA
  clear hp hs hl hn hm hN hL hi0 hz0 hz1 hz2
  obtain ⟨init, hinit⟩ : ∃ x, x = p.init := ⟨_, rfl⟩
  rw [← hinit] at HRI ⊢
  clear hinit
  generalize v.C = C at *
  generalize v.c = c at *
  have HWA := Lib.hid (below_alloc w (.cells #[.int .i64 init, .slice v.A n v.a, .slice v.B m v.b, .slice C N c] 31))
  have HXA := Lib.hid (Bx.new w 31 [.int .i64 init, .slice v.A n v.a, .slice v.B m v.b, .slice C N c])
  by_cases h1 : 6 < L
  · have d1 : decide (6 < L) = true := by simp; omega
    have d1' : decide ((6 : Int) < (L : Int)) = true := by simp; omega
    have HE := Lib.hid (letE_bad (p := p) (labels := labels) (fun h => by have := h.2.1; have := HLL.out; omega))
    clear h1
    go_enter Tryd.func10, Tryd.ntmps10
    go_wp2
    go_ret2
    exact ltP_bad (n := 1) HE.out (by omega) HWA.out
  · have d1 : decide (6 < L) = false := by simp; omega
    have d1' : decide ((6 : Int) < (L : Int)) = false := by simp; omega
    by_cases h2 : labels.Nodup
    · have H2 := Lib.hid h2
      by_cases h3 : p.right
      · have H3 := Lib.hid h3
        have HOK := Lib.hid (show p.right ∧ labels.length ≤ 6 ∧ labels.Nodup from ⟨h3, by rw [← HLL.out]; omega, h2⟩)
        clear h1 h2 h3
        go_enter Tryd.func10, Tryd.ntmps10
        go_wp2_with fail
        with_reducible refine (HDI.out _ HWA.out).mono ?_
        rintro e w1 ⟨rfl, hb1⟩
        have HB1 := Lib.hid (below_t HWA.out hb1)
        have HX1 := Lib.hid (HXA.out.below hb1)
        obtain ⟨x0, x1, x2, x3⟩ := HX1.out.cells4
        clear hb1
        rw [decide_eq_true H2.out]
        go_wp2_with fail
        with_reducible refine (HRI.out _ HB1.out).mono ?_
        rintro e w2 ⟨rfl, hb2⟩
        have HB2 := Lib.hid (below_t HB1.out hb2)
        have HX2 := Lib.hid (HX1.out.below hb2)
        obtain ⟨y0, y1, y2, y3⟩ := HX2.out.cells4
        clear x0 x1 x2 x3 hb2
        rw [decide_eq_true H3.out]
        go_wp2_with fail
        have hz2 := HB2.out.size
        with_reducible refine (HVA.out _ HB2.out (HLL.out ▸ HOK.out.2.1) H2.out).mono ?_
        rintro e w3 (⟨hal, qv, rfl, hvv, hb3⟩ | ⟨hno, rfl, hb3⟩)
        · have HE := Lib.hid (letE_ok HOK.out hal)
          have HVV := Lib.hid hvv
          have HB3 := Lib.hid (below_t HB2.out hb3)
          have HX3 := Lib.hid (HX2.out.below hb3)
          obtain ⟨z0, z1, z2, z3⟩ := HX3.out.cells4
          have HRT := Lib.hid (show ∀ h ∈ p.hds, holdR p.nms.length 0 h from H3.out.2.2.2.2.2.2)
          have hqv := hvv.lt
          clear hal hvv hb3 y0 y1 y2 y3
          go_wp2_with (at_make; refine wpList_make_full _ rfl _ _ 36 rfl w3.heap.size 3 i0 (.int .i64 0) 1 Tryd.underlying36 HI.out HZ0.out HZ1.out .i64 .i64 (N : Int) (N : Int) N rfl rfl rfl rfl (by rw [HZ2.out]; omega) (by unfold maxLen; omega) (Nat.le_refl _) ?_)
          intro w4 ho4 hg4
          rw [made_one] at ho4
          have HB34 := Lib.hid ((Below.refl w3.heap.size w3).grown hg4 (Nat.le_refl _) (fun k hk => by cases hk))
          have HB4 := Lib.hid (below_t HB3.out HB34.out)
          have HQ4 := Lib.hid (vals_made (owns_full ho4) (f := accS (atsO p.nms labels) p.hds 0 0) accS_zero)
          have HV4 := Lib.hid (HVV.out.below HB34.out)
          have HX4 := Lib.hid (HX3.out.below HB34.out)
          obtain ⟨t0, t1, t2, t3⟩ := HX4.out.cells4
          have hz3 := HB3.out.size
          clear ho4 hg4 z0 z1 z2 z3
          generalize w3.heap.size = q at *
          go_wp2
          go_loopw [44] (fun i wr => LtRel (atsO p.nms labels) p.hds N qv m w i q wr) (fun i _ => N - (intOf i).toNat)
          case atStart => exact ⟨0, rfl, Nat.zero_le _, HQ4.out, HV4.out, HB4.out⟩
          case round =>
            obtain ⟨k, rfl, hk, hq, hv, hb⟩ := hrel
            have HQ := Lib.hid hq
            have HV := Lib.hid hv
            have HB := Lib.hid hb
            clear hq hv hb t0 t1 t2 t3
            by_cases hlt : k < N
            · have d2 : decide (k < N) = true := by simp; omega
              have kk : k < p.hds.length := by rw [← HNN.out]; exact hlt
              obtain ⟨g, o, B, cap1, rfl, c1, hc1, hil⟩ := HHD.out k kk
              replace c1 := cell_blw HB.out c1
              have HIL := Lib.hid hil
              have hlk : p.hds[k].length ≤ 1000000 := HS.out.hs _ (List.getElem_mem kk)
              have HRH := Lib.hid (holdR_in (Int.le_refl 0) (HRT.out _ (List.getElem_mem kk)))
              have HGD := Lib.hid (show p.hds.getD k [] = p.hds[k] by rw [List.getD_eq_getElem?_getD, List.getElem?_eq_getElem kk]; rfl)
              generalize p.hds[k] = h at *
              obtain ⟨Lk, hLk⟩ : ∃ Lk, Lk = h.length := ⟨_, rfl⟩
              have HLK := Lib.hid hLk
              rw [← hLk] at c1 hc1 hlk
              clear hil hLk
              have HDD := Lib.hid HHD
              clear HHD
              go_wp2_with fail
              go_loopw [51] (fun j wr => LtIn (atsO p.nms labels) p.hds N qv m k Lk w j q wr) (fun j _ => Lk - (intOf j).toNat)
              case atStart => exact ⟨0, rfl, Nat.zero_le _, HQ.out, HV.out, HB.out⟩
              case round =>
                obtain ⟨t, rfl, ht, hq, hv, hb⟩ := hrel
                have HQ := Lib.hid hq
                have HV := Lib.hid hv
                have HB := Lib.hid hb
                have hqz := Bx.lt hq
                clear hq hv hb
                by_cases htl : t < Lk
                · have d3 : decide (t < Lk) = true := by simp; omega
                  have tt : t < h.length := by rw [← HLK.out]; exact htl
                  obtain ⟨g2, o2, rfl, e1⟩ := HIL.out t tt
                  replace e1 := cell_blw HB.out e1
                  have HII := Lib.hid HIL
                  clear HIL
                  have hx := HRH.out _ (List.getElem_mem tt)
                  have HAT := Lib.hid (accS_step (ats := atsO p.nms labels) HGD.out tt)
                  have hab := sO_bd (atsO p.nms labels) (by rw [atsO, List.length_map]; exact HOK.out.2.1) (h.take t)
                  have htk : (h.take t).length ≤ 1000000 := by rw [List.length_take]; omega
                  have HAC := Lib.hid (show accS (atsO p.nms labels) p.hds k t k = sO (atsO p.nms labels) (h.take t) by rw [accS, if_neg (by omega), if_pos rfl, HGD.out])
                  generalize h[t] = x at *
                  obtain ⟨y, rfl⟩ := Int.eq_ofNat_of_zero_le hx.1
                  have hy : y < m := by rw [HMM.out]; omega
                  have hbb := vO_64 y (atsO p.nms labels) (by rw [atsO, List.length_map]; exact HOK.out.2.1)
                  have c4 := HQ.out.cell hlt
                  have c5 := HV.out.cell hy
                  have f4 := Bx.frozen HQ.out k
                  rw [HAC.out] at c4
                  have HST := Lib.hid (fun s (_ : s < N) => HAT.out s)
                  rw [show ((y : Nat) : Int).toNat = y from rfl] at HST
                  generalize sO (atsO p.nms labels) (h.take t) = a at *
                  generalize vO 1 (atsO p.nms labels) y = b at *
                  generalize (h.take t).length = lt at *
                  have a0 : 0 ≤ a := hab.1
                  have a1 : a ≤ 63000000 := by omega
                  have b0 : 0 ≤ b := hbb.1
                  have b1 : b ≤ 63 := hbb.2
                  clear hab hbb hx HAT HAC ht
                  go_wp2_with fail
                  go_region
                  go_wp2
                  go_roundw
                  case rel =>
                    refine ⟨t + 1, by go_num, by omega, (HQ.out.set k (a + b) HST.out).below ((Below.refl _ _).drew), ?_, (HB.out.setCell (by omega) _).drew⟩
                    have h5 : (wr.setCell ⟨q, k, none⟩ (.int .i64 (a + b))).heap[qv]? = wr.heap[qv]? := Below.heap_setCell _ _ _ _ (by show qv ≠ q; omega)
                    exact Vals.below (show Vals (wr.setCell ⟨q, k, none⟩ (.int .i64 (a + b))) qv m _ from h5.trans HV.out) ((Below.refl _ _).drew)
                  case measure => simp [intOf]; omega
                · have d3 : decide (t < Lk) = false := by simp; omega
                  have htL : t = Lk := by omega
                  have HF := Lib.hid (show Vals wr q N (accS (atsO p.nms labels) p.hds (k + 1) 0) from by
                    have h := HQ.out
                    rw [htL] at h
                    unfold Vals at h ⊢
                    rw [show ((List.range N).map fun i => iv (accS (atsO p.nms labels) p.hds (k + 1) 0 i)) = (List.range N).map fun i => iv (accS (atsO p.nms labels) p.hds k Lk i) from List.map_congr_left fun s _ => by rw [accS_end (L := Lk) (by rw [HGD.out]; exact HLK.out)]]
                    exact h)
                  clear htl ht htL
                  go_wp2
                  go_roundw
                  case rel => exact ⟨k + 1, by go_num, by omega, HF.out, HV.out, HB.out⟩
                  case measure => simp [intOf]; omega
            · have d2 : decide (k < N) = false := by simp; omega
              have hkN : k = N := by omega
              have HF := Lib.hid (show Vals wr q N (fun s => sO (atsO p.nms labels) (p.hds.getD s [])) from by
                have h := HQ.out
                unfold Vals at h ⊢
                rw [show ((List.range N).map fun i => iv (sO (atsO p.nms labels) (p.hds.getD i []))) = (List.range N).map fun i => iv (accS (atsO p.nms labels) p.hds k 0 i) from List.map_congr_left fun s hs => by rw [accS, if_pos (by rw [hkN]; exact List.mem_range.1 hs)]]
                exact h)
              clear hlt hk hkN
              go_wp2
              go_ret2
              exact ltP_good HE.out HNN.out HF.out HB.out
        · have HE := Lib.hid (letE_name HOK.out hno)
          have HB3 := Lib.hid (below_t HB2.out hb3)
          clear hno hb3 y0 y1 y2 y3
          go_wp2
          go_ret2
          exact ltP_bad (n := 30) HE.out (by omega) HB3.out
      · have H3 := Lib.hid h3
        have HE := Lib.hid (letE_bad (p := p) (labels := labels) (fun h => h3 h.1))
        clear h1 h2 h3
        go_enter Tryd.func10, Tryd.ntmps10
        go_wp2_with fail
        with_reducible refine (HDI.out _ HWA.out).mono ?_
        rintro e w1 ⟨rfl, hb1⟩
        have HB1 := Lib.hid (below_t HWA.out hb1)
        have HX1 := Lib.hid (HXA.out.below hb1)
        obtain ⟨x0, x1, x2, x3⟩ := HX1.out.cells4
        clear hb1
        rw [decide_eq_true H2.out]
        go_wp2_with fail
        with_reducible refine (HRI.out _ HB1.out).mono ?_
        rintro e w2 ⟨rfl, hb2⟩
        have HB2 := Lib.hid (below_t HB1.out hb2)
        have HX2 := Lib.hid (HX1.out.below hb2)
        obtain ⟨y0, y1, y2, y3⟩ := HX2.out.cells4
        clear x0 x1 x2 x3 hb2
        rw [decide_eq_false H3.out]
        go_wp2
        go_ret2
        exact ltP_bad (n := 1) HE.out (by omega) HB2.out
    · have H2 := Lib.hid h2
      have HE := Lib.hid (letE_bad (p := p) (labels := labels) (fun h => h2 h.2.2))
      clear h1 h2
      go_enter Tryd.func10, Tryd.ntmps10
      go_wp2_with fail
      with_reducible refine (HDI.out _ HWA.out).mono ?_
      rintro e w1 ⟨rfl, hb1⟩
      have HB1 := Lib.hid (below_t HWA.out hb1)
      have HX1 := Lib.hid (HXA.out.below hb1)
      obtain ⟨x0, x1, x2, x3⟩ := HX1.out.cells4
      clear hb1
      rw [decide_eq_false H2.out]
      go_wp2
      go_ret2
      exact ltP_bad (n := 1) HE.out (by omega) HB1.out
end Go.Proofs.YtkgjpimapfmeoaaDoor
