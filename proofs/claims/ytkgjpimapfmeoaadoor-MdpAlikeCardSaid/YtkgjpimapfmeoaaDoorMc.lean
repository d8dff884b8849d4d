/-
  The document's Right, walked.
-/
import Derived.Test.YtkgjpimapfmeoaaDoorM6
import Derived.BigQuiet
import Derived.Lib.SlicesS
namespace Go.Proofs.YtkgjpimapfmeoaaDoor
open Go.RowKit

def QN (nms : List ByteArray) (W : World) (i : Value) (wr : World) : Prop := ∃ k : Nat, i = .int .i64 (k : Int) ∧ k ≤ nms.length ∧ (nms.take k).Nodup ∧ Below W.heap.size W wr
def QNi (nms : List ByteArray) (k : Nat) (x : ByteArray) (W : World) (i : Value) (wr : World) : Prop := ∃ j : Nat, i = .int .i64 (j : Int) ∧ j ≤ k ∧ (∀ y ∈ nms.take j, y ≠ x) ∧ Below W.heap.size W wr
def QS (p : PrO) (n m : Nat) (W : World) (i : Value) (wr : World) : Prop := ∃ s : Nat, i = .int .i64 (s : Int) ∧ s ≤ n ∧ (∀ cs ∈ p.chs.take s, chR n cs) ∧ (∀ h ∈ p.hds.take s, holdR m 0 h) ∧ Below W.heap.size W wr
def lastH (h : List Int) (j : Nat) : Int := if j = 0 then 0 else h.getD (j - 1) 0 + 1
def QH (h : List Int) (m : Nat) (W : World) (i : Value) (wr : World) : Prop := ∃ j : Nat, i = .int .i64 (j : Int) ∧ j ≤ h.length ∧ (holdR m 0 h ↔ holdR m (lastH h j) (h.drop j)) ∧ Below W.heap.size W wr
def QC (cs : List ChO) (n : Nat) (W : World) (i : Value) (wr : World) : Prop := ∃ c : Nat, i = .int .i64 (c : Int) ∧ c ≤ cs.length ∧ (∀ ch ∈ cs.take c, movR n ch.mv) ∧ Below W.heap.size W wr
def QM (mv : List MvO) (n : Nat) (W : World) (i : Value) (wr : World) : Prop := ∃ k : Nat, i = .int .i64 (k : Int) ∧ k ≤ mv.length ∧ (∀ m ∈ mv.take k, 0 ≤ m.to ∧ m.to < (n : Int) ∧ 1 ≤ m.wt) ∧ ((mv.take k).map MvO.to).Nodup ∧ Below W.heap.size W wr
def QK (mv : List MvO) (k : Nat) (to : Int) (W : World) (i : Value) (wr : World) : Prop := ∃ j : Nat, i = .int .i64 (j : Int) ∧ j ≤ k ∧ (∀ m ∈ mv.take j, m.to ≠ to) ∧ Below W.heap.size W wr
theorem nodup_snoc {α : Type} {l : List α} {k : Nat} (hk : k < l.length) (h : (l.take k).Nodup) (hn : ∀ y ∈ l.take k, y ≠ l[k]) : (l.take (k + 1)).Nodup := by
  rw [take_snoc hk, List.nodup_append]
  refine ⟨h, by simp, fun a ha b hb => ?_⟩
  simp only [List.mem_singleton] at hb
  subst hb
  exact hn a ha
theorem mem_take_get {α : Type} {l : List α} {j k : Nat} (hj : j < l.length) (hjk : j < k) : l[j] ∈ l.take k := by
  rw [List.mem_take_iff_getElem]
  exact ⟨j, by omega, rfl⟩
theorem dup_no {α : Type} {l : List α} {j k : Nat} (hk : k < l.length) (hj : j < l.length) (hjk : j < k) (he : l[j] = l[k]) : ¬ l.Nodup := by
  intro h
  rw [List.nodup_iff_pairwise_ne, List.pairwise_iff_getElem] at h
  exact h j k hj hk hjk he
theorem all_snoc {α : Type} {P : α → Prop} {l : List α} {k : Nat} (hk : k < l.length) (h : ∀ y ∈ l.take k, P y) (hn : P l[k]) : ∀ y ∈ l.take (k + 1), P y := by
  intro y hy
  rw [take_snoc hk, List.mem_append, List.mem_singleton] at hy
  rcases hy with hy | hy
  · exact h y hy
  · subst hy; exact hn
theorem all_end {α : Type} {P : α → Prop} {l : List α} {k : Nat} (hk : l.length ≤ k) (h : ∀ y ∈ l.take k, P y) : ∀ y ∈ l, P y := by rwa [List.take_of_length_le hk] at h
theorem holdR_in0 {n : Nat} : ∀ {l : List Int} {a : Int}, 0 ≤ a → holdR n a l → ∀ i ∈ l, 0 ≤ i ∧ i < (n : Int)
  | [], _, _, _, i, h => absurd h (by simp)
  | b :: r, a, ha, h, i, hi => by
    obtain ⟨h1, h2, h3⟩ := h
    rcases List.mem_cons.1 hi with rfl | hi
    · exact ⟨by omega, h2⟩
    · exact holdR_in0 (by omega) h3 i hi
set_option maxHeartbeats 16000000 in
set_option maxRecDepth 100000 in
theorem rright_any {p : PrO} {v : PV} (w : World) (hp : PrM w v p) (hs : Sml p) : Calls Tryd.prog 12 #[.agg (v.l p).toArray] w (BoolP (decide p.right) w) := by
  have HCH := Lib.hid (hp.ch.below (below_alloc w (.cells (v.l p).toArray 26)))
  have HNM := Lib.hid (hp.nm.below (below_alloc w (.cells (v.l p).toArray 26)))
  have HHD := Lib.hid (hp.hd.below (below_alloc w (.cells (v.l p).toArray 26)))
  have HX := Lib.hid (Bx.new w 26 (v.l p))
  have HW := Lib.hid (below_alloc w (.cells (v.l p).toArray 26))
  have HS := Lib.hid hs
  obtain ⟨n, hn⟩ : ∃ n, n = p.chs.length := ⟨_, rfl⟩
  obtain ⟨m, hm⟩ : ∃ m, m = p.nms.length := ⟨_, rfl⟩
  obtain ⟨N, hN⟩ : ∃ N, N = p.hds.length := ⟨_, rfl⟩
  have hn1 : n ≤ 1000000 := by rw [hn]; exact hs.ch
  have hm1 : m ≤ 1000000 := by rw [hm]; exact hs.nm
  have hN1 : N ≤ 1000000 := by rw [hN]; exact hs.hd
  have HN := Lib.hid hn
  have HM := Lib.hid hm
  have HNN := Lib.hid hN
  have HR := Lib.hid (show p.right ↔ ((1 : Int) ≤ (n : Int) ∧ (n : Int) ≤ 4096 ∧ (0 ≤ p.init ∧ p.init < (n : Int)) ∧ (N : Int) = (n : Int) ∧ leadR n p.chs ∧ p.nms.Nodup ∧ holdsR m p.hds) by rw [hn, hm, hN]; exact Iff.rfl)
  change Hid (Bx (w.alloc (.cells #[.int .i64 p.init, .slice v.A p.chs.length v.a, .slice v.B p.nms.length v.b, .slice v.C p.hds.length v.c] 26)) w.heap.size 26 [.int .i64 p.init, .slice v.A p.chs.length v.a, .slice v.B p.nms.length v.b, .slice v.C p.hds.length v.c]) at HX
  change Hid (Below w.heap.size w (w.alloc (.cells #[.int .i64 p.init, .slice v.A p.chs.length v.a, .slice v.B p.nms.length v.b, .slice v.C p.hds.length v.c] 26))) at HW
  change Hid (LSl (w.alloc (.cells #[.int .i64 p.init, .slice v.A p.chs.length v.a, .slice v.B p.nms.length v.b, .slice v.C p.hds.length v.c] 26)) v.A p.chs) at HCH
  change Hid (SSl (w.alloc (.cells #[.int .i64 p.init, .slice v.A p.chs.length v.a, .slice v.B p.nms.length v.b, .slice v.C p.hds.length v.c] 26)) v.B p.nms) at HNM
  change Hid (HSl (w.alloc (.cells #[.int .i64 p.init, .slice v.A p.chs.length v.a, .slice v.B p.nms.length v.b, .slice v.C p.hds.length v.c] 26)) v.C p.hds) at HHD
  show Calls Tryd.prog 12 #[.agg #[.int .i64 p.init, .slice v.A p.chs.length v.a, .slice v.B p.nms.length v.b, .slice v.C p.hds.length v.c]] w _
  rw [← hn, ← hm, ← hN] at HX HW HCH HNM HHD ⊢
  clear hp hs hn hm hN
  obtain ⟨init, hinit⟩ : ∃ x, x = p.init := ⟨_, rfl⟩
  rw [← hinit] at HX HW HCH HNM HHD HR ⊢
  clear hinit
  generalize v.A = vA at *
  generalize v.a = va at *
  generalize v.B = vB at *
  generalize v.b = vb at *
  generalize v.C = vC at *
  generalize v.c = vc at *
  obtain ⟨x0, x1, x2, x3⟩ := HX.out.cells4
  have hbl := HX.out.lt
  by_cases h1 : (1 : Int) ≤ (n : Int)
  · have d1 : decide ((n : Int) < 1) = false := by simp; omega
    have d1' : decide (n < 1) = false := by simp; omega
    by_cases h2 : (n : Int) ≤ 4096
    · have d2 : decide ((4096 : Int) < (n : Int)) = false := by simp; omega
      have d2' : decide (4096 < n) = false := by simp; omega
      by_cases h3 : 0 ≤ init
      · have d3 : decide (init < 0) = false := by simp; omega
        by_cases h4 : init < (n : Int)
        · have d4 : decide ((n : Int) ≤ init) = false := by simp; omega
          by_cases h5 : (N : Int) = (n : Int)
          · have d5 : ((N : Int) != (n : Int)) = false := by rw [bne_eq_false_iff_eq]; omega
            have HC := Lib.hid (And.intro h1 (And.intro h2 (And.intro (And.intro h3 h4) h5)))
            clear h1 h2 h3 h4 h5
            go_enter Tryd.func12, Tryd.ntmps12
            go_wp2
            generalize w.alloc (.cells #[.int .i64 init, .slice vA n va, .slice vB m vb, .slice vC N vc] 26) = W at *
            go_loopw [4] (fun i wr => QN p.nms W i wr) (fun i _ => m - (intOf i).toNat)
            case atStart => exact ⟨0, rfl, Nat.zero_le _, by simp, Below.refl _ _⟩
            case round =>
              clear d1 d1' d2 d2' d3 d4 d5
              obtain ⟨k, rfl, hk, hnd, hb⟩ := hrel
              have HND := Lib.hid hnd
              have HB := Lib.hid hb
              clear hnd hb
              have y1 := cell_blw HB.out x1
              have y2 := cell_blw HB.out x2
              have y3 := cell_blw HB.out x3
              by_cases hlt : k < m
              · have e1 : decide (k < m) = true := by simp; omega
                have kk : k < p.nms.length := by rw [← HM.out]; exact hlt
                go_wp2
                go_loopw [5] (fun i wr => QNi p.nms k p.nms[k] W i wr) (fun i _ => k - (intOf i).toNat)
                case atStart => exact ⟨0, rfl, Nat.zero_le _, fun y hy => absurd hy (by simp), HB.out⟩
                case round =>
                  clear HB y1 y2 y3
                  obtain ⟨j, rfl, hj, hne, hb⟩ := hrel
                  have HNE := Lib.hid hne
                  have HB := Lib.hid hb
                  clear hne hb
                  have y2 := cell_blw HB.out x2
                  by_cases hjk : j < k
                  · have e2 : decide (j < k) = true := by simp; omega
                    have jj : j < p.nms.length := by omega
                    have hjm : j < m := by omega
                    obtain ⟨g, o, hA, c1⟩ := HNM.out k kk
                    obtain ⟨g', o', hA', c2⟩ := HNM.out j jj
                    rw [hA] at hA'
                    injection hA' with hA'
                    injection hA' with hA1 hA2
                    subst hA1 hA2 hA
                    replace c1 := cell_blw HB.out c1
                    replace c2 := cell_blw HB.out c2
                    by_cases he : p.nms[j] = p.nms[k]
                    · have HE := Lib.hid (show false = decide p.right from (decide_eq_false fun h => dup_no kk jj hjk he (HR.out.1 h).2.2.2.2.2.1).symm)
                      have q := (Lib.bytes_beq_iff p.nms[k] p.nms[j]).2 he.symm
                      clear he hj hk
                      generalize p.nms[k] = s1 at *
                      generalize p.nms[j] = s2 at *
                      go_wp2_with fail
                      go_quiet (fail)
                      go_wp2
                      go_ret
                      exact ⟨ret_bool HE.out, below_drewN (below_t HW.out HB.out) _⟩
                    · have HE := Lib.hid (all_snoc (P := fun y => y ≠ p.nms[k]) jj HNE.out he)
                      have q := (Lib.bytes_beq_false_iff p.nms[k] p.nms[j]).2 (fun e => he e.symm)
                      clear he hj hk
                      obtain ⟨s1, hs1⟩ : ∃ s1, s1 = p.nms[k] := ⟨_, rfl⟩
                      have HS1 := Lib.hid hs1
                      rw [← hs1] at c1 q
                      clear hs1
                      obtain ⟨s2, hs2⟩ : ∃ s2, s2 = p.nms[j] := ⟨_, rfl⟩
                      rw [← hs2] at c2 q
                      clear hs2
                      go_wp2_with fail
                      go_quiet (fail)
                      go_wp2
                      go_roundw
                      case rel => exact ⟨j + 1, by go_num, by omega, HE.out, below_drewN HB.out _⟩
                      case measure => simp [intOf]; omega
                  · have e2 : decide (j < k) = false := by simp; omega
                    have hjk' : j = k := by omega
                    have HE := Lib.hid (show (p.nms.take (k + 1)).Nodup from nodup_snoc kk HND.out (by have h := HNE.out; rw [hjk'] at h; exact h))
                    clear hjk hj hjk'
                    go_wp2
                    go_roundw
                    case rel => exact ⟨k + 1, by go_num, by omega, HE.out, HB.out⟩
                    case measure => simp [intOf]; omega
              · have e1 : decide (k < m) = false := by simp; omega
                have HNDA := Lib.hid (show p.nms.Nodup by have h := HND.out; rwa [List.take_of_length_le (by rw [← HM.out]; omega)] at h)
                clear hlt hk HND
                go_wp2
                go_loopw [6] (fun i wr => QS p n m W i wr) (fun i _ => n - (intOf i).toNat)
                case atStart => exact ⟨0, rfl, Nat.zero_le _, fun y hy => absurd hy (by simp), fun y hy => absurd hy (by simp), HB.out⟩
                case round =>
                  clear HB y1 y2 y3 e1
                  obtain ⟨s, rfl, hs, hcg, hhg, hb⟩ := hrel
                  have HCG := Lib.hid hcg
                  have HHG := Lib.hid hhg
                  have HB := Lib.hid hb
                  clear hcg hhg hb
                  by_cases hsn : s < n
                  · have e1 : decide (s < n) = true := by simp; omega
                    have ks : s < p.chs.length := by rw [← HN.out]; exact hsn
                    have kh : s < p.hds.length := by rw [← HNN.out]; have := HC.out.2.2.2; omega
                    have hsN : s < N := by rw [HNN.out]; exact kh
                    obtain ⟨gA, oA, B, cap1, rfl, a1, hc1, hcl⟩ := HCH.out s ks
                    obtain ⟨gC, oC, C, cap2, rfl, a2, hc2, hil⟩ := HHD.out s kh
                    have HCC := Lib.hid HCH
                    have HHH := Lib.hid HHD
                    clear HCH HHD hs
                    have HCL := Lib.hid hcl
                    have HIL := Lib.hid hil
                    have HNX1 := Lib.hid (fun h => all_snoc (P := fun y => chR n y) ks HCG.out h)
                    have HNX2 := Lib.hid (fun h => all_snoc (P := fun y => holdR m 0 y) kh HHG.out h)
                    have HBAD1 := Lib.hid (fun (h : ¬ chR n p.chs[s]) => show false = decide p.right from (decide_eq_false fun hr => h ((HR.out.1 hr).2.2.2.2.1 _ (List.getElem_mem ks))).symm)
                    have HBAD2 := Lib.hid (fun (h : ¬ holdR m 0 p.hds[s]) => show false = decide p.right from (decide_eq_false fun hr => h ((HR.out.1 hr).2.2.2.2.2.2 _ (List.getElem_mem kh))).symm)
                    have hlc : p.chs[s].length ≤ 1000000 := HS.out.cs _ (List.getElem_mem ks)
                    have hlh : p.hds[s].length ≤ 1000000 := HS.out.hs _ (List.getElem_mem kh)
                    have HMV := Lib.hid (HS.out.mv _ (List.getElem_mem ks))
                    generalize p.chs[s] = cs at *
                    generalize p.hds[s] = h at *
                    obtain ⟨L, hL⟩ : ∃ L, L = cs.length := ⟨_, rfl⟩
                    have HLL := Lib.hid hL
                    rw [← hL] at a1 hc1 hlc
                    obtain ⟨K, hK⟩ : ∃ K, K = h.length := ⟨_, rfl⟩
                    have HKK := Lib.hid hK
                    rw [← hK] at a2 hc2 hlh
                    clear hcl hil hL hK
                    have y1 := cell_blw HB.out x1
                    have b1 := cell_blw HB.out a1
                    have y3 := cell_blw HB.out x3
                    by_cases hL0 : L = 0
                    · subst hL0
                      have HE := Lib.hid (HBAD1.out fun hm => hm.1 (List.eq_nil_of_length_eq_zero HLL.out.symm))
                      go_wp2_with fail
                      go_ret
                      exact ⟨ret_bool HE.out, below_t HW.out HB.out⟩
                    · have e2 : ((L : Int) == 0) = false := by simp; omega
                      have HL0 := Lib.hid hL0
                      clear hL0
                      go_wp2_with fail
                      go_loopw [7] (fun i wr => QH h m W i wr) (fun i _ => K - (intOf i).toNat)
                      case atStart => exact ⟨0, rfl, Nat.zero_le _, Iff.rfl, HB.out⟩
                      case round =>
                        clear HB y1 y3 b1 e2
                        obtain ⟨j, rfl, hj, hiff, hb⟩ := hrel
                        have HIFF := Lib.hid hiff
                        have HB := Lib.hid hb
                        clear hiff hb
                        have y2 := cell_blw HB.out x2
                        have y3 := cell_blw HB.out x3
                        have b2 := cell_blw HB.out a2
                        by_cases hjk : j < K
                        · have e2 : decide (j < K) = true := by simp; omega
                          have jj : j < h.length := by rw [← HKK.out]; exact hjk
                          obtain ⟨g5, o5, rfl, c1⟩ := HIL.out j jj
                          have c1' := c1
                          replace c1 := cell_blw HB.out c1
                          have HST := Lib.hid (hold_step (n := m) (a := lastH h j) jj)
                          by_cases q1 : h[j] < 0
                          · have f1 : decide (h[j] < 0) = true := by simp; omega
                            have HE := Lib.hid (HBAD2.out fun hh => by
                              have h3 := holdR_in0 (Int.le_refl 0) hh _ (List.getElem_mem jj)
                              omega)
                            clear q1 hj
                            generalize h[j] = x at *
                            go_wp2_with fail
                            go_quiet (fail)
                            go_wp2
                            go_ret
                            exact ⟨ret_bool HE.out, below_drewN (below_t HW.out HB.out) _⟩
                          · have f1 : decide (h[j] < 0) = false := by simp; omega
                            by_cases q2 : (m : Int) ≤ h[j]
                            · have f2 : decide ((m : Int) ≤ h[j]) = true := by simp; omega
                              have HE := Lib.hid (HBAD2.out fun hh => by
                                have h3 := holdR_in0 (Int.le_refl 0) hh _ (List.getElem_mem jj)
                                omega)
                              clear q1 q2 hj
                              generalize h[j] = x at *
                              go_wp2_with fail
                              go_quiet (fail)
                              go_wp2
                              go_ret
                              exact ⟨ret_bool HE.out, below_drewN (below_t HW.out HB.out) _⟩
                            · have f2 : decide ((m : Int) ≤ h[j]) = false := by simp; omega
                              by_cases q3 : j = 0
                              · subst q3
                                have HE := Lib.hid (show holdR m 0 h ↔ holdR m (lastH h 1) (h.drop 1) by
                                  rw [HIFF.out, HST.out]
                                  have e9 : lastH h 1 = h[0] + 1 := by simp [lastH, List.getD_eq_getElem?_getD, jj]
                                  rw [e9]
                                  exact ⟨fun hh => hh.2, fun hh => ⟨⟨by simp [lastH]; omega, by omega⟩, hh⟩⟩)
                                clear q1 q2 hj
                                obtain ⟨x, hx⟩ : ∃ x, x = h[0] := ⟨_, rfl⟩
                                rw [← hx] at c1 f1 f2
                                rw [Nat.add_zero] at c1
                                clear hx HST c1'
                                go_wp2_with fail
                                go_quiet (fail)
                                go_wp2
                                go_roundw
                                case rel => exact ⟨1, by go_num, by rw [← HKK.out]; omega, HE.out, below_drewN HB.out _⟩
                                case measure => simp [intOf]; omega
                              · have f3 : decide (0 < j) = true := by simp; omega
                                obtain ⟨i, rfl⟩ : ∃ i, j = i + 1 := ⟨j - 1, by omega⟩
                                have ii : i < h.length := by omega
                                have hiK : i < K := by omega
                                obtain ⟨g6, o6, hg6, c2⟩ := HIL.out i ii
                                injection hg6 with hg6
                                injection hg6 with hg6 ho6
                                subst hg6 ho6
                                replace c2 := cell_blw HB.out c2
                                have e8 : lastH h (i + 1) = h[i] + 1 := by simp [lastH, List.getD_eq_getElem?_getD, ii]
                                by_cases q4 : h[i + 1] ≤ h[i]
                                · have f4 : decide (h[i + 1] ≤ h[i]) = true := by simp; omega
                                  have HE := Lib.hid (HBAD2.out fun hh => by
                                    have h3 := (HST.out.1 (HIFF.out.1 hh)).1
                                    rw [e8] at h3
                                    omega)
                                  clear q1 q2 q3 q4 hj e8
                                  obtain ⟨x, hx⟩ : ∃ x, x = h[i + 1] := ⟨_, rfl⟩
                                  obtain ⟨z, hz⟩ : ∃ z, z = h[i] := ⟨_, rfl⟩
                                  rw [← hx] at c1 f1 f2 f4
                                  rw [← hz] at c2 f4
                                  clear hx hz HST
                                  go_wp2_with fail
                                  go_quiet (fail)
                                  go_wp2
                                  go_ret
                                  exact ⟨ret_bool HE.out, below_drewN (below_t HW.out HB.out) _⟩
                                · have f4 : decide (h[i + 1] ≤ h[i]) = false := by simp; omega
                                  have HE := Lib.hid (show holdR m 0 h ↔ holdR m (lastH h (i + 1 + 1)) (h.drop (i + 1 + 1)) by
                                    rw [HIFF.out, HST.out, e8]
                                    have e9 : lastH h (i + 1 + 1) = h[i + 1] + 1 := by simp [lastH, List.getD_eq_getElem?_getD, jj]
                                    rw [e9]
                                    exact ⟨fun hh => hh.2, fun hh => ⟨⟨by omega, by omega⟩, hh⟩⟩)
                                  clear q1 q2 q3 q4 hj e8
                                  obtain ⟨x, hx⟩ : ∃ x, x = h[i + 1] := ⟨_, rfl⟩
                                  obtain ⟨z, hz⟩ : ∃ z, z = h[i] := ⟨_, rfl⟩
                                  rw [← hx] at c1 f1 f2 f4
                                  rw [← hz] at c2 f4
                                  clear hx hz HST
                                  go_wp2_with fail
                                  go_quiet (fail)
                                  go_wp2
                                  go_roundw
                                  case rel => exact ⟨i + 1 + 1, by go_num, by rw [← HKK.out]; omega, HE.out, below_drewN HB.out _⟩
                                  case measure => simp [intOf]; omega
                        · have e2 : decide (j < K) = false := by simp; omega
                          have HE2 := Lib.hid (HNX2.out (HIFF.out.2 (hold_end (by rw [← HKK.out]; omega))))
                          clear hjk hj
                          go_wp2
                          go_loopw [8] (fun i wr => QC cs n W i wr) (fun i _ => L - (intOf i).toNat)
                          case atStart => exact ⟨0, rfl, Nat.zero_le _, fun y hy => absurd hy (by simp), HB.out⟩
                          case round =>
                            clear HB y2 y3 b2 e2
                            obtain ⟨c, rfl, hc, hcg, hb⟩ := hrel
                            have HCG2 := Lib.hid hcg
                            have HB := Lib.hid hb
                            clear hcg hb
                            have y1 := cell_blw HB.out x1
                            have b1 := cell_blw HB.out a1
                            by_cases hcl : c < L
                            · have e2 : decide (c < L) = true := by simp; omega
                              have kc : c < cs.length := by rw [← HLL.out]; exact hcl
                              obtain ⟨g7, o7, B7, cap7, rfl, c1, c2, hc7, hml⟩ := HCL.out c kc
                              replace c1 := cell_blw HB.out c1
                              replace c2 := cell_blw HB.out c2
                              have c2' := c2
                              rw [← Nat.add_assoc] at c2'
                              have HML := Lib.hid hml
                              have HNX3 := Lib.hid (fun h => all_snoc (P := fun (y : ChO) => movR n y.mv) kc HCG2.out h)
                              have HBAD3 := Lib.hid (fun (h : ¬ movR n cs[c].mv) => HBAD1.out (ch_no kc h))
                              have hlm : cs[c].mv.length ≤ 1000000 := HMV.out _ (List.getElem_mem kc)
                              generalize cs[c] = ch at *
                              obtain ⟨act, mv⟩ := ch
                              simp only at c1 c2 c2' hc7 HML HNX3 HBAD3 hlm hml
                              obtain ⟨M, hM⟩ : ∃ M, M = mv.length := ⟨_, rfl⟩
                              have HMM := Lib.hid hM
                              rw [← hM] at c2 c2' hc7 hlm
                              clear hml hM hc
                              by_cases hM0 : M = 0
                              · subst hM0
                                have HE := Lib.hid (HBAD3.out fun hm => hm.1 (List.eq_nil_of_length_eq_zero HMM.out.symm))
                                go_wp2_with fail
                                go_ret
                                exact ⟨ret_bool HE.out, below_t HW.out HB.out⟩
                              · have e3 : ((M : Int) == 0) = false := by simp; omega
                                have HM0 := Lib.hid hM0
                                clear hM0
                                go_wp2_with fail
                                go_loopw [10] (fun i wr => QM mv n W i wr) (fun i _ => M - (intOf i).toNat)
                                case atStart => exact ⟨0, rfl, Nat.zero_le _, fun y hy => absurd hy (by simp), by simp, HB.out⟩
                                case round =>
                                  clear HB y1 b1 c1 c2 c2' e3
                                  obtain ⟨i, rfl, hi, hgd, hnd, hb⟩ := hrel
                                  have HGD := Lib.hid hgd
                                  have HND := Lib.hid hnd
                                  have HB := Lib.hid hb
                                  clear hgd hnd hb
                                  by_cases hiM : i < M
                                  · have e3 : decide (i < M) = true := by simp; omega
                                    have ki : i < mv.length := by rw [← HMM.out]; exact hiM
                                    obtain ⟨g8, o8, rfl, m1, m2⟩ := HML.out i ki
                                    replace m1 := cell_blw HB.out m1
                                    replace m2 := cell_blw HB.out m2
                                    have m2' := m2
                                    rw [← Nat.add_assoc] at m2'
                                    have HNG := Lib.hid (fun (h : ¬ (0 ≤ mv[i].to ∧ mv[i].to < (n : Int) ∧ 1 ≤ mv[i].wt)) => HBAD3.out fun hm => h (hm.2.2 _ (List.getElem_mem ki)))
                                    obtain ⟨to, hto⟩ : ∃ to, to = mv[i].to := ⟨_, rfl⟩
                                    obtain ⟨wt, hwt⟩ : ∃ wt, wt = mv[i].wt := ⟨_, rfl⟩
                                    rw [← hto] at m1 HNG
                                    rw [← hwt] at m2 m2' HNG
                                    have HTO := Lib.hid hto
                                    have HWT := Lib.hid hwt
                                    clear hto hwt hi
                                    by_cases q1 : to < 0
                                    · have f1 : decide (to < 0) = true := by simp; omega
                                      have HE := Lib.hid (HNG.out (by omega))
                                      clear q1
                                      go_wp2_with fail
                                      go_ret
                                      exact ⟨ret_bool HE.out, below_t HW.out HB.out⟩
                                    · have f1 : decide (to < 0) = false := by simp; omega
                                      by_cases q2 : (n : Int) ≤ to
                                      · have f2 : decide ((n : Int) ≤ to) = true := by simp; omega
                                        have HE := Lib.hid (HNG.out (by omega))
                                        clear q1 q2
                                        go_wp2_with fail
                                        go_ret
                                        exact ⟨ret_bool HE.out, below_t HW.out HB.out⟩
                                      · have f2 : decide ((n : Int) ≤ to) = false := by simp; omega
                                        by_cases q3 : wt < 1
                                        · have f3 : decide (wt < 1) = true := by simp; omega
                                          have HE := Lib.hid (HNG.out (by omega))
                                          clear q1 q2 q3
                                          go_wp2_with fail
                                          go_ret
                                          exact ⟨ret_bool HE.out, below_t HW.out HB.out⟩
                                        · have f3 : decide (wt < 1) = false := by simp; omega
                                          have HGD2 := Lib.hid (all_snoc (P := fun (m : MvO) => 0 ≤ m.to ∧ m.to < (n : Int) ∧ 1 ≤ m.wt) ki HGD.out (by rw [← HTO.out, ← HWT.out]; omega))
                                          clear q1 q2 q3
                                          go_wp2_with fail
                                          go_loopw [11] (fun k wr => QK mv i to W k wr) (fun k _ => i - (intOf k).toNat)
                                          case atStart => exact ⟨0, rfl, Nat.zero_le _, fun y hy => absurd hy (by simp), HB.out⟩
                                          case round =>
                                            clear HB m1 m2 m2' f1 f2 f3
                                            obtain ⟨k2, rfl, hk2, hne, hb⟩ := hrel
                                            have HNE := Lib.hid hne
                                            have HB := Lib.hid hb
                                            clear hne hb
                                            by_cases hki : k2 < i
                                            · have e4 : decide (k2 < i) = true := by simp; omega
                                              have kk2 : k2 < mv.length := by omega
                                              have hkM : k2 < M := by omega
                                              obtain ⟨g9, o9, hg9, n1, n2⟩ := HML.out k2 kk2
                                              obtain ⟨g8', o8', hg8, m1, m2⟩ := HML.out i ki
                                              injection hg9 with hg9
                                              injection hg9 with hg9 ho9
                                              subst hg9 ho9
                                              injection hg8 with hg8
                                              injection hg8 with hg8 ho8
                                              subst hg8 ho8
                                              replace n1 := cell_blw HB.out n1
                                              replace m1 := cell_blw HB.out m1
                                              rw [← HTO.out] at m1
                                              clear n2 m2
                                              obtain ⟨t2, ht2⟩ : ∃ t2, t2 = mv[k2].to := ⟨_, rfl⟩
                                              rw [← ht2] at n1
                                              by_cases q5 : t2 = to
                                              · have f5 : (t2 == to) = true := by simp; omega
                                                have HE := Lib.hid (HBAD3.out fun hm => dup_no (l := mv.map MvO.to) (j := k2) (k := i) (by simpa using ki) (by simpa using kk2) hki (by rw [List.getElem_map, List.getElem_map, ← ht2, ← HTO.out, q5]) hm.2.1)
                                                clear q5 ht2 hk2
                                                go_wp2_with fail
                                                go_quiet (fail)
                                                go_wp2
                                                go_ret
                                                exact ⟨ret_bool HE.out, below_drewN (below_t HW.out HB.out) _⟩
                                              · have f5 : (t2 == to) = false := by simp; omega
                                                have HE := Lib.hid (all_snoc (P := fun (m : MvO) => m.to ≠ to) kk2 HNE.out (by rw [← ht2]; exact q5))
                                                clear q5 ht2 hk2
                                                go_wp2_with fail
                                                go_quiet (fail)
                                                go_wp2
                                                go_roundw
                                                case rel => exact ⟨k2 + 1, by go_num, by omega, HE.out, below_drewN HB.out _⟩
                                                case measure => simp [intOf]; omega
                                            · have e4 : decide (k2 < i) = false := by simp; omega
                                              have hki' : k2 = i := by omega
                                              have HE := Lib.hid (show ((mv.take (i + 1)).map MvO.to).Nodup by
                                                have h1 := HND.out
                                                have h2 := HNE.out
                                                rw [hki'] at h2
                                                rw [List.map_take] at h1 ⊢
                                                refine nodup_snoc (by simpa using ki) h1 fun y hy => ?_
                                                rw [← List.map_take] at hy
                                                obtain ⟨m, hm1, rfl⟩ := List.mem_map.1 hy
                                                rw [List.getElem_map, ← HTO.out]
                                                exact h2 m hm1)
                                              clear hki hki' hk2
                                              go_wp2
                                              go_roundw
                                              case rel => exact ⟨i + 1, by go_num, by rw [← HMM.out]; omega, HGD2.out, HE.out, HB.out⟩
                                              case measure => simp [intOf]; omega
                                  · have e3 : decide (i < M) = false := by simp; omega
                                    have HE := Lib.hid (HNX3.out ⟨fun e => HM0.out (by rw [HMM.out, e]; rfl), by have h := HND.out; rwa [List.take_of_length_le (by rw [← HMM.out]; omega)] at h, all_end (by rw [← HMM.out]; omega) HGD.out⟩)
                                    clear hiM hi
                                    go_wp2
                                    go_roundw
                                    case rel => exact ⟨c + 1, by go_num, by rw [← HLL.out]; omega, HE.out, HB.out⟩
                                    case measure => simp [intOf]; omega
                            · have e2 : decide (c < L) = false := by simp; omega
                              have HE1 := Lib.hid (HNX1.out ⟨fun e => HL0.out (by rw [HLL.out, e]; rfl), all_end (by rw [← HLL.out]; omega) HCG2.out⟩)
                              clear hcl hc
                              go_wp2
                              go_roundw
                              case rel => exact ⟨s + 1, by go_num, by omega, HE1.out, HE2.out, HB.out⟩
                              case measure => simp [intOf]; omega
                  · have e1 : decide (s < n) = false := by simp; omega
                    have HE := Lib.hid (show true = decide p.right from (decide_eq_true (HR.out.2 ⟨HC.out.1, HC.out.2.1, HC.out.2.2.1, HC.out.2.2.2, all_end (by rw [← HN.out]; omega) HCG.out, HNDA.out, all_end (by rw [← HNN.out]; have := HC.out.2.2.2; omega) HHG.out⟩)).symm)
                    clear hsn hs
                    go_wp2
                    go_ret
                    exact ⟨ret_bool HE.out, below_t HW.out HB.out⟩
          · have d5 : ((N : Int) != (n : Int)) = true := by rw [bne_iff_ne]; omega
            have HE := Lib.hid (show false = decide p.right from (decide_eq_false (fun h => h5 (HR.out.1 h).2.2.2.1)).symm)
            clear h1 h2 h3 h4 h5
            go_enter Tryd.func12, Tryd.ntmps12
            go_wp2
            go_ret
            exact ⟨ret_bool HE.out, HW.out⟩
        · have d4 : decide ((n : Int) ≤ init) = true := by simp; omega
          have HE := Lib.hid (show false = decide p.right from (decide_eq_false (fun h => h4 (HR.out.1 h).2.2.1.2)).symm)
          clear h1 h2 h3 h4
          go_enter Tryd.func12, Tryd.ntmps12
          go_wp2
          go_ret
          exact ⟨ret_bool HE.out, HW.out⟩
      · have d3 : decide (init < 0) = true := by simp; omega
        have HE := Lib.hid (show false = decide p.right from (decide_eq_false (fun h => h3 (HR.out.1 h).2.2.1.1)).symm)
        clear h1 h2 h3
        go_enter Tryd.func12, Tryd.ntmps12
        go_wp2
        go_ret
        exact ⟨ret_bool HE.out, HW.out⟩
    · have d2 : decide ((4096 : Int) < (n : Int)) = true := by simp; omega
      have d2' : decide (4096 < n) = true := by simp; omega
      have HE := Lib.hid (show false = decide p.right from (decide_eq_false (fun h => h2 (HR.out.1 h).2.1)).symm)
      clear h1 h2
      go_enter Tryd.func12, Tryd.ntmps12
      go_wp2
      go_ret
      exact ⟨ret_bool HE.out, HW.out⟩
  · have d1 : decide ((n : Int) < 1) = true := by simp; omega
    have d1' : decide (n < 1) = true := by simp; omega
    have HE := Lib.hid (show false = decide p.right from (decide_eq_false (fun h => h1 (HR.out.1 h).1)).symm)
    clear h1
    go_enter Tryd.func12, Tryd.ntmps12
    go_wp2
    go_ret
    exact ⟨ret_bool HE.out, HW.out⟩
end Go.Proofs.YtkgjpimapfmeoaaDoor
