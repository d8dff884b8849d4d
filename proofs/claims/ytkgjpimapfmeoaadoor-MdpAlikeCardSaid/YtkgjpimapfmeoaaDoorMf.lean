/-
  The document's Letters, walked: the walk.
-/
import Derived.Test.YtkgjpimapfmeoaaDoorMd
import Derived.Test.YtkgjpimapfmeoaaDoorMb
namespace Go.Proofs.YtkgjpimapfmeoaaDoor
open Go.RowKit

open Classical in
set_option maxHeartbeats 16000000 in
set_option maxRecDepth 100000 in
theorem rletters_any {p : PrO} {v : PV} {A : Option Addr} {labels : List ByteArray} {cl : Nat} (w : World) (hp : PrM w v p) (hs : Sml p) (hl : SSl w A labels) (hll : labels.length ≤ 1000000) : Calls Tryd.prog 11 #[.agg (v.l p).toArray, .slice A labels.length cl] w (RlP p labels w) := by
  obtain ⟨i0, hi0, hz⟩ := Option.map_eq_some_iff.1 infoI
  simp only [Prod.mk.injEq] at hz
  obtain ⟨hz0, hz1, hz2⟩ := hz
  have HI := Lib.hid hi0
  have HZ0 := Lib.hid hz0
  have HZ1 := Lib.hid hz1
  have HZ2 := Lib.hid hz2
  have HNM := Lib.hid hp.nm
  have HHD := Lib.hid hp.hd
  have HLB := Lib.hid hl
  have HS := Lib.hid hs
  obtain ⟨n, hn⟩ : ∃ n, n = p.chs.length := ⟨_, rfl⟩
  obtain ⟨m, hm⟩ : ∃ m, m = p.nms.length := ⟨_, rfl⟩
  obtain ⟨N, hN⟩ : ∃ N, N = p.hds.length := ⟨_, rfl⟩
  obtain ⟨L, hL⟩ : ∃ L, L = labels.length := ⟨_, rfl⟩
  have hn1 : n ≤ 1000000 := by rw [hn]; exact hs.ch
  have hm1 : m ≤ 1000000 := by rw [hm]; exact hs.nm
  have hN1 : N ≤ 1000000 := by rw [hN]; exact hs.hd
  have HNC := Lib.hid hn
  have HNN := Lib.hid hN
  have HMM := Lib.hid hm
  have HLL := Lib.hid hL
  have HRI := Lib.hid (fun (W : World) (hb : Below w.heap.size w W) => rright_any W (hp.below hb) hs)
  change Hid (∀ (W : World) (hb : Below w.heap.size w W), Calls Tryd.prog 12 #[.agg #[.int .i64 p.init, .slice v.A p.chs.length v.a, .slice v.B p.nms.length v.b, .slice v.C p.hds.length v.c]] W (BoolP (decide p.right) W)) at HRI
  show Calls Tryd.prog 11 #[.agg #[.int .i64 p.init, .slice v.A p.chs.length v.a, .slice v.B p.nms.length v.b, .slice v.C p.hds.length v.c], .slice A labels.length cl] w _
  rw [← hn, ← hm, ← hN, ← hL]
  rw [← hn, ← hm, ← hN] at HRI
  rw [← hL] at hll
  clear hp hs hl hn hm hN hL hi0 hz0 hz1 hz2
  obtain ⟨init, hinit⟩ : ∃ x, x = p.init := ⟨_, rfl⟩
  rw [← hinit] at HRI ⊢
  clear hinit
  generalize v.A = vA at *
  generalize v.a = va at *
  generalize v.B = vB at *
  generalize v.b = vb at *
  generalize v.C = vC at *
  generalize v.c = vc at *
  have HWA := Lib.hid (below_alloc w (.cells #[.int .i64 init, .slice vA n va, .slice vB m vb, .slice vC N vc] 26))
  have HXA := Lib.hid (Bx.new w 26 [.int .i64 init, .slice vA n va, .slice vB m vb, .slice vC N vc])
  by_cases h1 : p.right
  · have H1 := Lib.hid h1
    by_cases h2 : 6 < L
    · have d1 : decide (6 < L) = true := by simp; omega
      have d1' : decide ((6 : Int) < (L : Int)) = true := by simp; omega
      have HE := Lib.hid (letE_bad (p := p) (labels := labels) (fun h => by have := h.2.1; have := HLL.out; omega))
      clear h1 h2
      go_enter Tryd.func11, Tryd.ntmps11
      go_wp2_with fail
      with_reducible refine (HRI.out _ HWA.out).mono ?_
      rintro e w1 ⟨rfl, hb1⟩
      have HB1 := Lib.hid (below_t HWA.out hb1)
      clear hb1
      rw [decide_eq_true H1.out]
      go_wp2
      go_ret2
      exact rlP_bad (n := 1) HE.out (by omega) HB1.out
    · have d1 : decide (6 < L) = false := by simp; omega
      have d1' : decide ((6 : Int) < (L : Int)) = false := by simp; omega
      have hL6 : L ≤ 6 := by omega
      clear h1 h2
      go_enter Tryd.func11, Tryd.ntmps11
      go_wp2_with fail
      with_reducible refine (HRI.out _ HWA.out).mono ?_
      rintro e w1 ⟨rfl, hb1⟩
      have HB1 := Lib.hid (below_t HWA.out hb1)
      have HX1 := Lib.hid (HXA.out.below hb1)
      have hx1 := HX1.out.lt
      clear hb1
      rw [decide_eq_true H1.out]
      go_wp2
      go_loopw [6] (fun i wr => QN labels w1 i wr) (fun i _ => L - (intOf i).toNat)
      case atStart => exact ⟨0, rfl, Nat.zero_le _, by simp, Below.refl _ _⟩
      case round =>
        clear d1 d1'
        obtain ⟨k, rfl, hk, hnd, hb⟩ := hrel
        have HND := Lib.hid hnd
        have HB := Lib.hid hb
        clear hnd hb
        by_cases hlt : k < L
        · have e1 : decide (k < L) = true := by simp; omega
          have kk : k < labels.length := by rw [← HLL.out]; exact hlt
          go_wp2
          go_loopw [7] (fun i wr => QNi labels k labels[k] w1 i wr) (fun i _ => k - (intOf i).toNat)
          case atStart => exact ⟨0, rfl, Nat.zero_le _, fun y hy => absurd hy (by simp), HB.out⟩
          case round =>
            clear HB
            obtain ⟨j, rfl, hj, hne, hb⟩ := hrel
            have HNE := Lib.hid hne
            have HB := Lib.hid hb
            clear hne hb
            by_cases hjk : j < k
            · have e2 : decide (j < k) = true := by simp; omega
              have jj : j < labels.length := by omega
              have hjm : j < L := by omega
              obtain ⟨g, o, hA, c1⟩ := HLB.out k kk
              obtain ⟨g', o', hA', c2⟩ := HLB.out j jj
              rw [hA] at hA'
              injection hA' with hA'
              injection hA' with hA1 hA2
              subst hA1 hA2 hA
              replace c1 := cell_blw HB.out (cell_blw HB1.out c1)
              replace c2 := cell_blw HB.out (cell_blw HB1.out c2)
              by_cases he : labels[j] = labels[k]
              · have HE := Lib.hid (letE_bad (p := p) (labels := labels) (fun h => dup_no kk jj hjk he h.2.2))
                have q := (Lib.bytes_beq_iff labels[k] labels[j]).2 he.symm
                clear he hj hk
                obtain ⟨s1, hs1⟩ : ∃ s1, s1 = labels[k] := ⟨_, rfl⟩
                rw [← hs1] at c1 q
                clear hs1
                obtain ⟨s2, hs2⟩ : ∃ s2, s2 = labels[j] := ⟨_, rfl⟩
                rw [← hs2] at c2 q
                clear hs2
                go_wp2_with fail
                go_quiet (fail)
                go_wp2
                go_ret2
                exact rlP_bad (n := 1) HE.out (by omega) (below_drewN (below_t HB1.out HB.out) _)
              · have HE := Lib.hid (all_snoc (P := fun y => y ≠ labels[k]) jj HNE.out he)
                have q := (Lib.bytes_beq_false_iff labels[k] labels[j]).2 (fun e => he e.symm)
                clear he hj hk
                obtain ⟨s1, hs1⟩ : ∃ s1, s1 = labels[k] := ⟨_, rfl⟩
                rw [← hs1] at c1 q
                clear hs1
                obtain ⟨s2, hs2⟩ : ∃ s2, s2 = labels[j] := ⟨_, rfl⟩
                rw [← hs2] at c2 q
                clear hs2
                go_wp2_with fail
                go_quiet (fail)
                go_wp2
                go_roundw
                case rel => exact ⟨j + 1, by go_num, by omega, HE.out, below_drewN HB.out _⟩
                case measure => simp [intOf]; omega
            · have e2 : decide (j < k) = false := by simp; omega
              have hjk' : j = k := by omega
              have HE := Lib.hid (show (labels.take (k + 1)).Nodup from nodup_snoc kk HND.out (by have h := HNE.out; rw [hjk'] at h; exact h))
              clear hjk hj hjk'
              go_wp2
              go_roundw
              case rel => exact ⟨k + 1, by go_num, by omega, HE.out, HB.out⟩
              case measure => simp [intOf]; omega
        · have e1 : decide (k < L) = false := by simp; omega
          have HOK := Lib.hid (show p.right ∧ labels.length ≤ 6 ∧ labels.Nodup from ⟨H1.out, by rw [← HLL.out]; exact hL6, by have h := HND.out; rwa [List.take_of_length_le (by rw [← HLL.out]; omega)] at h⟩)
          have HX := Lib.hid (HX1.out.below HB.out)
          obtain ⟨x0, x1, x2, x3⟩ := HX.out.cells4
          have HBW := Lib.hid (below_t HB1.out HB.out)
          have hxl := HX.out.lt
          clear hlt hk HND HX1 hx1
          go_wp2_with (at_make; refine wpList_make_full _ rfl _ _ 36 rfl wr.heap.size 3 i0 (.int .i64 0) 1 Tryd.underlying36 HI.out HZ0.out HZ1.out .i64 .i64 (n : Int) (n : Int) n rfl rfl rfl rfl (by rw [HZ2.out]; omega) (by unfold maxLen; omega) (Nat.le_refl _) ?_)
          intro w4 ho4 hg4
          rw [made_one] at ho4
          have HB34 := Lib.hid ((Below.refl wr.heap.size wr).grown hg4 (Nat.le_refl _) (fun k hk => by cases hk))
          have HB4 := Lib.hid (below_t HBW.out HB34.out)
          have HQ4 := Lib.hid (vals_made (owns_full ho4) (f := fun s => sO (atsO p.nms (labels.take 0)) (p.hds.getD s [])) (fun s => by
            have : ∀ l : List Int, sO [] l = 0 := fun l => by induction l with
              | nil => rfl
              | cons a l ih => rw [sO, ih]; rfl
            exact this _))
          have HX4 := Lib.hid (HX.out.below HB34.out)
          have hz3 := HBW.out.size
          clear ho4 hg4 x0 x1 x2 x3 HB HX
          generalize wr.heap.size = q at *
          go_wp2
          go_loopw [9, 10] (fun pw i W => WL p labels q w pw i W ∧ Bx W w.heap.size 26 [.int .i64 init, .slice vA n va, .slice vB m vb, .slice vC N vc]) (fun _ i _ => L - (intOf i).toNat)
          case atStart => exact ⟨⟨0, rfl, rfl, Nat.zero_le _, fun x hx => absurd hx (by simp), by rw [← HNC.out]; exact HQ4.out, HB4.out⟩, HX4.out⟩
          case round =>
            clear HQ4 HX4 HB4 HB34 e1
            obtain ⟨⟨j, rfl, rfl, hj, hin, hvq, hb⟩, hx⟩ := hrel
            rw [← HNC.out] at hvq
            have HIN := Lib.hid hin
            have HQ := Lib.hid hvq
            have HB := Lib.hid hb
            have HX := Lib.hid hx
            clear hin hvq hb hx
            by_cases hjL : j < L
            · have e1 : decide (j < L) = true := by simp; omega
              have jj : j < labels.length := by rw [← HLL.out]; exact hjL
              obtain ⟨g, o, hA, c0⟩ := HLB.out j jj
              subst hA
              have HLX := Lib.hid HLB
              clear HLB
              have HX0 := Lib.hid (show labels[j] = labels[j] from rfl)
              go_wp2
              go_loopw [11, 12] (fun a i W => WA p.nms labels[j] wr a i W) (fun _ i _ => m - (intOf i).toNat)
              case atStart => exact ⟨0, rfl, Nat.zero_le _, by simp, Below.refl _ _⟩
              case round =>
                obtain ⟨i, rfl, hi, rfl, hb⟩ := hrel
                have HBj := Lib.hid hb
                clear hb
                have HB2 := Lib.hid (below_t HB.out HBj.out)
                have HX2 := Lib.hid (HX.out.below HBj.out)
                have HQ2 := Lib.hid (HQ.out.below HBj.out)
                obtain ⟨x0, x1, x2, x3⟩ := HX2.out.cells4
                by_cases him : i < m
                · have e2 : decide (i < m) = true := by simp; omega
                  have ii : i < p.nms.length := by rw [← HMM.out]; exact him
                  obtain ⟨g2, o2, rfl, c2⟩ := HNM.out i ii
                  have HNX := Lib.hid HNM
                  clear HNM
                  replace c2 := cell_blw HB2.out c2
                  have c1 := cell_blw HB2.out c0
                  by_cases he : p.nms[i] = labels[j]
                  · have q1 := (Lib.bytes_beq_iff p.nms[i] labels[j]).2 he
                    have HIF := Lib.hid (show (if labels[j] ∈ p.nms.take (i + 1) then ((posO p.nms labels[j] : Nat) : Int) else -1) = (i : Int) by
                      rw [if_pos (by rw [← he]; exact mem_take_get ii (by omega)), ← he, pos_uniq H1.out.2.2.2.2.2.1 ii])
                    clear he hi hj
                    generalize (if labels[j] ∈ p.nms.take i then ((posO p.nms labels[j] : Nat) : Int) else -1) = av at *
                    obtain ⟨s1, hs1⟩ : ∃ s1, s1 = labels[j] := ⟨_, rfl⟩
                    rw [← hs1] at c1 q1
                    obtain ⟨s2, hs2⟩ : ∃ s2, s2 = p.nms[i] := ⟨_, rfl⟩
                    rw [← hs2] at c2 q1
                    clear hs1 hs2
                    go_wp2_with fail
                    go_quiet (fail)
                    go_wp2
                    go_roundw
                    case rel => exact ⟨i + 1, by go_num, by rw [← HMM.out]; omega, by rw [HIF.out], below_drewN HBj.out _⟩
                    case measure => simp [intOf]; omega
                  · have q1 := (Lib.bytes_beq_false_iff p.nms[i] labels[j]).2 he
                    have HIF := Lib.hid (show (if labels[j] ∈ p.nms.take (i + 1) then ((posO p.nms labels[j] : Nat) : Int) else -1) = (if labels[j] ∈ p.nms.take i then ((posO p.nms labels[j] : Nat) : Int) else -1) by
                      by_cases hm : labels[j] ∈ p.nms.take i
                      · rw [if_pos hm, if_pos (by rw [take_snoc ii, List.mem_append]; exact .inl hm)]
                      · rw [if_neg hm, if_neg (by rw [take_snoc ii, List.mem_append, List.mem_singleton]; exact fun h => h.elim hm (fun h => he h.symm))])
                    clear he hi hj
                    generalize (if labels[j] ∈ p.nms.take i then ((posO p.nms labels[j] : Nat) : Int) else -1) = av at *
                    obtain ⟨s1, hs1⟩ : ∃ s1, s1 = labels[j] := ⟨_, rfl⟩
                    rw [← hs1] at c1 q1
                    obtain ⟨s2, hs2⟩ : ∃ s2, s2 = p.nms[i] := ⟨_, rfl⟩
                    rw [← hs2] at c2 q1
                    clear hs1 hs2
                    go_wp2_with fail
                    go_quiet (fail)
                    go_wp2
                    go_roundw
                    case rel => exact ⟨i + 1, by go_num, by rw [← HMM.out]; omega, by rw [HIF.out], below_drewN HBj.out _⟩
                    case measure => simp [intOf]; omega
                · have e2 : decide (i < m) = false := by simp; omega
                  have hall : p.nms.take i = p.nms := List.take_of_length_le (by rw [← HMM.out]; omega)
                  rw [hall]
                  by_cases hin : labels[j] ∈ p.nms
                  · rw [if_pos hin]
                    have HIN2 := Lib.hid (all_snoc (P := fun x => x ∈ p.nms) jj HIN.out hin)
                    have HATS := Lib.hid (atsO_snoc (nms := p.nms) jj)
                    have HLEN := Lib.hid (atsO_len (nms := p.nms) (show j ≤ labels.length by omega))
                    have htm : posO p.nms labels[j] < m := by rw [HMM.out]; exact posO_lt hin
                    generalize posO p.nms labels[j] = t at *
                    generalize atsO p.nms (labels.take j) = ats at *
                    have HQ3 := Lib.hid (show Vals wr q n (accL ats t p.hds 0 0) by
                      have h := HQ2.out
                      unfold Vals at h ⊢
                      rw [show ((List.range n).map fun i => iv (accL ats t p.hds 0 0 i)) = (List.range n).map fun s => iv (sO ats (p.hds.getD s [])) from List.map_congr_left fun s _ => by rw [accL_zero]]
                      exact h)
                    clear him hi hj hall hin
                    go_wp2
                    go_loopw [13] (fun i W => WS ats t p.hds q n w.heap.size [.int .i64 init, .slice vA n va, .slice vB m vb, .slice vC N vc] w i W) (fun i _ => n - (intOf i).toNat)
                    case atStart => exact ⟨0, rfl, Nat.zero_le _, HQ3.out, HX2.out, HB2.out⟩
                    case round =>
                      clear HQ3 HX2 HB2 x0 x1 x2 x3 HQ2 HBj HX HB HQ e2
                      obtain ⟨s, rfl, hs, hvq, hx, hb⟩ := hrel
                      have HQ := Lib.hid hvq
                      have HB := Lib.hid hb
                      have HX := Lib.hid hx
                      clear hvq hb hx
                      by_cases hsn : s < n
                      · have e3 : decide (s < n) = true := by simp; omega
                        have kh : s < p.hds.length := by have := H1.out.2.2.2.1; have := HNC.out; omega
                        have hsN : s < N := by rw [HNN.out]; exact kh
                        obtain ⟨gC, oC, C, cap2, rfl, a2, hc2, hil⟩ := HHD.out s kh
                        have HHX := Lib.hid HHD
                        clear HHD hs
                        have HIL := Lib.hid hil
                        have hlh : p.hds[s].length ≤ 1000000 := HS.out.hs _ (List.getElem_mem kh)
                        have HPOS := Lib.hid (holdR_in0 (Int.le_refl 0) (H1.out.2.2.2.2.2.2 _ (List.getElem_mem kh)))
                        have HGD := Lib.hid (show p.hds.getD s [] = p.hds[s] by rw [List.getD_eq_getElem?_getD, List.getElem?_eq_getElem kh]; rfl)
                        generalize p.hds[s] = h at *
                        obtain ⟨K, hK⟩ : ∃ K, K = h.length := ⟨_, rfl⟩
                        have HKK := Lib.hid hK
                        rw [← hK] at a2 hc2 hlh
                        clear hil hK
                        have A2 := Lib.hid a2
                        clear a2
                        go_wp2
                        go_loopw [14] (fun i W => WI ats t p.hds q n w.heap.size s K [.int .i64 init, .slice vA n va, .slice vB m vb, .slice (some ⟨gC, oC, none⟩) N vc] w i W) (fun i _ => K - (intOf i).toNat)
                        case atStart => exact ⟨0, rfl, Nat.zero_le _, HQ.out, HX.out, HB.out⟩
                        case round =>
                          clear HQ HX HB
                          obtain ⟨i2, rfl, hi2, hvq, hx, hb⟩ := hrel
                          have HQ := Lib.hid hvq
                          have HB := Lib.hid hb
                          have HX := Lib.hid hx
                          have hqz := Bx.lt hvq
                          clear hvq hb hx
                          obtain ⟨x0, x1, x2, x3⟩ := HX.out.cells4
                          have a2 := cell_blw HB.out A2.out
                          by_cases hiK : i2 < K
                          · have e4 : decide (i2 < K) = true := by simp; omega
                            have ki : i2 < h.length := by rw [← HKK.out]; exact hiK
                            obtain ⟨g5, o5, rfl, b1⟩ := HIL.out i2 ki
                            have HIX := Lib.hid HIL
                            clear HIL hi2
                            replace b1 := cell_blw HB.out b1
                            have HAT := Lib.hid (accL_step (ats := ats) (a := t) HGD.out ki)
                            have c4 := HQ.out.cell hsn
                            have f4 := Bx.frozen HQ.out s
                            rw [show accL ats t p.hds s i2 s = sO ats h + accR ((2 : Int) ^ ats.length) t (h.take i2) by rw [accL, if_neg (by omega), if_pos rfl, HGD.out]] at c4
                            have hb1 := sO_bd ats (by rw [HLEN.out]; omega) h
                            have hp0 : (0 : Int) ≤ (2 : Int) ^ ats.length := by rw [HLEN.out]; exact Int.le_of_lt (Int.pow_pos (by omega))
                            have hp6 : (2 : Int) ^ ats.length ≤ 64 := pow_le6 (by rw [HLEN.out]; omega)
                            have hb2 := accR_bd ((2 : Int) ^ ats.length) t hp0 hp6 (h.take i2)
                            have hb3 : (h.take i2).length ≤ 1000000 := by rw [List.length_take]; omega
                            have hb4 : h.length ≤ 1000000 := by rw [← HKK.out]; exact hlh
                            rw [HLEN.out] at c4 hp0 hp6 hb2 HAT
                            obtain ⟨pv, hpv⟩ : ∃ pv, pv = (2 : Int) ^ j := ⟨_, rfl⟩
                            rw [← hpv] at c4 hp0 hp6 hb2 HAT ⊢
                            have HPV := Lib.hid hpv
                            have ha0 : 0 ≤ sO ats h + accR pv t (h.take i2) := by omega
                            have ha1 : sO ats h + accR pv t (h.take i2) ≤ 130000000 := by omega
                            clear hb1 hb2 hb3 hb4 hpv
                            generalize sO ats h + accR pv t (h.take i2) = a at *
                            by_cases he : h[i2] = (t : Int)
                            · have q2 : (h[i2] == (t : Int)) = true := by simp [he]
                              have HST := Lib.hid (show ∀ r, r < n → accL ats t p.hds s (i2 + 1) r = if s = r then a + pv else accL ats t p.hds s i2 r from fun r _ => by rw [HAT.out r, if_pos he])
                              clear HAT
                              obtain ⟨x, hx⟩ : ∃ x, x = h[i2] := ⟨_, rfl⟩
                              rw [← hx] at b1 q2
                              clear hx he
                              go_wp2_with fail
                              go_roundw
                              case rel => exact ⟨i2 + 1, by go_num, by omega, HQ.out.set s (a + pv) HST.out, HX.out.put (by omega), HB.out.setCell (by omega) _⟩
                              case measure => simp [intOf]; omega
                            · have q2 : (h[i2] == (t : Int)) = false := by simp [he]
                              have HF := Lib.hid (show Vals wr q n (accL ats t p.hds s (i2 + 1)) by
                                have h7 := HQ.out
                                unfold Vals at h7 ⊢
                                rw [show ((List.range n).map fun i => iv (accL ats t p.hds s (i2 + 1) i)) = (List.range n).map fun i => iv (accL ats t p.hds s i2 i) from List.map_congr_left fun r hr => by
                                  rw [HAT.out r, if_neg he, Int.add_zero]
                                  by_cases e : s = r
                                  · subst e
                                    rw [if_pos rfl]
                                    have h8 := HQ.out.cell (List.mem_range.1 hr)
                                    rw [c4] at h8
                                    injection h8 with h8
                                  · rw [if_neg e]]
                                exact h7)
                              clear HAT
                              obtain ⟨x, hx⟩ : ∃ x, x = h[i2] := ⟨_, rfl⟩
                              rw [← hx] at b1 q2
                              clear hx he
                              go_wp2_with fail
                              go_roundw
                              case rel => exact ⟨i2 + 1, by go_num, by omega, HF.out, HX.out, HB.out⟩
                              case measure => simp [intOf]; omega
                          · have e4 : decide (i2 < K) = false := by simp; omega
                            have hiK' : i2 = K := by omega
                            have HF := Lib.hid (show Vals wr q n (accL ats t p.hds (s + 1) 0) by
                              have h := HQ.out
                              rw [hiK'] at h
                              unfold Vals at h ⊢
                              rw [show ((List.range n).map fun i => iv (accL ats t p.hds (s + 1) 0 i)) = (List.range n).map fun i => iv (accL ats t p.hds s K i) from List.map_congr_left fun r _ => by rw [accL_end (L := K) (by rw [HGD.out]; exact HKK.out) (by rw [HGD.out]; exact fun i hi => (HPOS.out i hi).1)]]
                              exact h)
                            clear hiK hi2 hiK'
                            go_wp2
                            go_roundw
                            case rel => exact ⟨s + 1, by go_num, by omega, HF.out, HX.out, HB.out⟩
                            case measure => simp [intOf]; omega
                      · have e3 : decide (s < n) = false := by simp; omega
                        have hsn' : s = n := by omega
                        have HF := Lib.hid (show Vals wr q n (fun s => sO (atsO p.nms (labels.take (j + 1))) (p.hds.getD s [])) by
                          have h := HQ.out
                          rw [hsn'] at h
                          unfold Vals at h ⊢
                          rw [show ((List.range n).map fun i => iv (sO (atsO p.nms (labels.take (j + 1))) (p.hds.getD i []))) = (List.range n).map fun i => iv (accL ats t p.hds n 0 i) from List.map_congr_left fun r hr => by rw [accL_all (List.mem_range.1 hr), HATS.out]]
                          exact h)
                        have HPW := Lib.hid (pow_succ_wrap (show j ≤ 5 by omega))
                        clear hsn hs hsn'
                        go_wp2
                        go_roundw
                        case rel => exact ⟨⟨j + 1, by go_num, by rw [HPW.out], by rw [← HLL.out]; omega, HIN2.out, by rw [← HNC.out]; exact HF.out, HB.out⟩, HX.out⟩
                        case measure => simp [intOf]; omega
                  · rw [if_neg hin]
                    have HE := Lib.hid (letE_name HOK.out (fun h => hin (h _ (List.getElem_mem jj))))
                    clear him hi hj hall hin
                    go_wp2
                    go_ret2
                    exact rlP_bad (n := 30) HE.out (by omega) HB2.out
            · have e1 : decide (j < L) = false := by simp; omega
              have HAL := Lib.hid (show ∀ x ∈ labels, x ∈ p.nms from all_end (by rw [← HLL.out]; omega) HIN.out)
              have HF := Lib.hid (show Vals wr q n (fun s => sO (atsO p.nms labels) (p.hds.getD s [])) by have h := HQ.out; rwa [List.take_of_length_le (by rw [← HLL.out]; omega)] at h)
              have HE := Lib.hid (letE_ok HOK.out HAL.out)
              clear hjL hj
              go_wp2
              go_ret2
              exact rlP_good HE.out (by have := HOK.out.1.2.2.2.1; have := HNC.out; omega) HF.out HB.out
  · have H1 := Lib.hid h1
    have HE := Lib.hid (letE_bad (p := p) (labels := labels) (fun h => h1 h.1))
    clear h1
    go_enter Tryd.func11, Tryd.ntmps11
    go_wp2_with fail
    with_reducible refine (HRI.out _ HWA.out).mono ?_
    rintro e w1 ⟨rfl, hb1⟩
    have HB1 := Lib.hid (below_t HWA.out hb1)
    clear hb1
    rw [decide_eq_false H1.out]
    go_wp2
    go_ret2
    exact rlP_bad (n := 1) HE.out (by omega) HB1.out
end Go.Proofs.YtkgjpimapfmeoaaDoor
