/-
  Far, Ints, Has, walked.
-/
import Derived.Test.YtkgjpimapfmeoaaDoorM6
import Derived.BigQuiet
namespace Go.Proofs.YtkgjpimapfmeoaaDoor
open Go.RowKit

def farC (l : List (List ChO)) : Prop := ∃ cs ∈ l, 10 < cs.length ∨ ∃ c ∈ cs, 20 < c.mv.length
def farH (l : List (List Int)) : Prop := ∃ h ∈ l, 20 < h.length
/-- More than is looked at. -/
def farO (p : PrO) : Prop := 40 < p.chs.length ∨ 40 < p.hds.length ∨ 12 < p.nms.length ∨ farC p.chs ∨ farH p.hds
theorem sml_of {p : PrO} (h : ¬ farO p) : Sml p := by
  have h1 : ¬ 40 < p.chs.length := fun e => h (.inl e)
  have h2 : ¬ 40 < p.hds.length := fun e => h (.inr (.inl e))
  have h3 : ¬ 12 < p.nms.length := fun e => h (.inr (.inr (.inl e)))
  have h4 : ¬ farC p.chs := fun e => h (.inr (.inr (.inr (.inl e))))
  have h5 : ¬ farH p.hds := fun e => h (.inr (.inr (.inr (.inr e))))
  refine ⟨by omega, fun cs hc => ?_, fun cs hc c hcc => ?_, by omega, by omega, fun h hh => ?_⟩
  · by_cases e : 10 < cs.length
    · exact absurd ⟨cs, hc, .inl e⟩ h4
    · omega
  · by_cases e : 20 < c.mv.length
    · exact absurd ⟨cs, hc, .inr ⟨c, hcc, e⟩⟩ h4
    · omega
  · by_cases e : 20 < h.length
    · exact absurd ⟨h, hh, e⟩ h5
    · omega
theorem all_snocF {α : Type} {P : α → Prop} {l : List α} {k : Nat} (hk : k < l.length) (h : ∀ y ∈ l.take k, P y) (hn : P l[k]) : ∀ y ∈ l.take (k + 1), P y := by
  intro y hy
  rw [take_snoc hk, List.mem_append, List.mem_singleton] at hy
  rcases hy with hy | hy
  · exact h y hy
  · subst hy; exact hn
theorem all_endF {α : Type} {P : α → Prop} {l : List α} {k : Nat} (hk : l.length ≤ k) (h : ∀ y ∈ l.take k, P y) : ∀ y ∈ l, P y := by rwa [List.take_of_length_le hk] at h
def FcRel (l : List (List ChO)) (W : World) (i : Value) (wr : World) : Prop := ∃ k : Nat, i = .int .i64 (k : Int) ∧ k ≤ l.length ∧ (∀ cs ∈ l.take k, ¬ (10 < cs.length ∨ ∃ c ∈ cs, 20 < c.mv.length)) ∧ Below W.heap.size W wr
def FmRel (l : List ChO) (W : World) (i : Value) (wr : World) : Prop := ∃ k : Nat, i = .int .i64 (k : Int) ∧ k ≤ l.length ∧ (∀ c ∈ l.take k, ¬ 20 < c.mv.length) ∧ Below W.heap.size W wr
def FhRel (l : List (List Int)) (W : World) (i : Value) (wr : World) : Prop := ∃ k : Nat, i = .int .i64 (k : Int) ∧ k ≤ l.length ∧ (∀ c ∈ l.take k, ¬ 20 < c.length) ∧ Below W.heap.size W wr
open Classical in
set_option maxHeartbeats 8000000 in
set_option maxRecDepth 100000 in
theorem far_any {p : PrO} {v : PV} (w : World) (hp : PrM w v p) : Calls Tryd.prog 7 #[.agg (v.l p).toArray] w (BoolP (decide (farO p)) w) := by
  have HCH := Lib.hid (hp.ch.below (below_alloc w (.cells (v.l p).toArray 26)))
  have HHD := Lib.hid (hp.hd.below (below_alloc w (.cells (v.l p).toArray 26)))
  have HX := Lib.hid (Bx.new w 26 (v.l p))
  have HW := Lib.hid (below_alloc w (.cells (v.l p).toArray 26))
  obtain ⟨n, hn⟩ : ∃ n, n = p.chs.length := ⟨_, rfl⟩
  obtain ⟨m, hm⟩ : ∃ m, m = p.nms.length := ⟨_, rfl⟩
  obtain ⟨N, hN⟩ : ∃ N, N = p.hds.length := ⟨_, rfl⟩
  have HN := Lib.hid hn
  have HNN := Lib.hid hN
  have HR := Lib.hid (show farO p ↔ (40 < n ∨ 40 < N ∨ 12 < m ∨ farC p.chs ∨ farH p.hds) by rw [hn, hm, hN]; exact Iff.rfl)
  change Hid (Bx (w.alloc (.cells #[.int .i64 p.init, .slice v.A p.chs.length v.a, .slice v.B p.nms.length v.b, .slice v.C p.hds.length v.c] 26)) w.heap.size 26 [.int .i64 p.init, .slice v.A p.chs.length v.a, .slice v.B p.nms.length v.b, .slice v.C p.hds.length v.c]) at HX
  change Hid (Below w.heap.size w (w.alloc (.cells #[.int .i64 p.init, .slice v.A p.chs.length v.a, .slice v.B p.nms.length v.b, .slice v.C p.hds.length v.c] 26))) at HW
  change Hid (LSl (w.alloc (.cells #[.int .i64 p.init, .slice v.A p.chs.length v.a, .slice v.B p.nms.length v.b, .slice v.C p.hds.length v.c] 26)) v.A p.chs) at HCH
  change Hid (HSl (w.alloc (.cells #[.int .i64 p.init, .slice v.A p.chs.length v.a, .slice v.B p.nms.length v.b, .slice v.C p.hds.length v.c] 26)) v.C p.hds) at HHD
  show Calls Tryd.prog 7 #[.agg #[.int .i64 p.init, .slice v.A p.chs.length v.a, .slice v.B p.nms.length v.b, .slice v.C p.hds.length v.c]] w _
  rw [← hn, ← hm, ← hN] at HX HW HCH HHD ⊢
  clear hp hn hm hN
  generalize p.init = init at *
  generalize v.A = vA at *
  generalize v.a = va at *
  generalize v.B = vB at *
  generalize v.b = vb at *
  generalize v.C = vC at *
  generalize v.c = vc at *
  obtain ⟨x0, x1, x2, x3⟩ := HX.out.cells4
  have hbl := HX.out.lt
  by_cases h1 : 40 < n
  · have d1 : decide (40 < n) = true := by simp; omega
    have d1' : decide ((40 : Int) < (n : Int)) = true := by simp; omega
    have HE := Lib.hid (show true = decide (farO p) from (decide_eq_true (HR.out.2 (.inl h1))).symm)
    clear h1
    go_enter Tryd.func7, Tryd.ntmps7
    go_wp2
    go_ret
    exact ⟨ret_bool HE.out, HW.out⟩
  · have d1 : decide (40 < n) = false := by simp; omega
    have d1' : decide ((40 : Int) < (n : Int)) = false := by simp; omega
    by_cases h2 : 40 < N
    · have d2 : decide (40 < N) = true := by simp; omega
      have d2' : decide ((40 : Int) < (N : Int)) = true := by simp; omega
      have HE := Lib.hid (show true = decide (farO p) from (decide_eq_true (HR.out.2 (.inr (.inl h2)))).symm)
      clear h1 h2
      go_enter Tryd.func7, Tryd.ntmps7
      go_wp2
      go_ret
      exact ⟨ret_bool HE.out, HW.out⟩
    · have d2 : decide (40 < N) = false := by simp; omega
      have d2' : decide ((40 : Int) < (N : Int)) = false := by simp; omega
      by_cases h3 : 12 < m
      · have d3 : decide (12 < m) = true := by simp; omega
        have d3' : decide ((12 : Int) < (m : Int)) = true := by simp; omega
        have HE := Lib.hid (show true = decide (farO p) from (decide_eq_true (HR.out.2 (.inr (.inr (.inl h3))))).symm)
        clear h1 h2 h3
        go_enter Tryd.func7, Tryd.ntmps7
        go_wp2
        go_ret
        exact ⟨ret_bool HE.out, HW.out⟩
      · have d3 : decide (12 < m) = false := by simp; omega
        have d3' : decide ((12 : Int) < (m : Int)) = false := by simp; omega
        have H3 := Lib.hid h3
        go_enter Tryd.func7, Tryd.ntmps7
        go_wp2
        generalize w.alloc (.cells #[.int .i64 init, .slice vA n va, .slice vB m vb, .slice vC N vc] 26) = W at *
        go_loopw [3] (fun i wr => FcRel p.chs W i wr) (fun i _ => n - (intOf i).toNat)
        case atStart => exact ⟨0, rfl, Nat.zero_le _, fun y hy => absurd hy (by simp), Below.refl _ _⟩
        case round =>
          clear d1 d2 d3 d1' d2' d3'
          obtain ⟨k, rfl, hk, hgd, hb⟩ := hrel
          have HGD := Lib.hid hgd
          have HB := Lib.hid hb
          clear hgd hb
          have y1 := cell_blw HB.out x1
          have y3 := cell_blw HB.out x3
          by_cases hlt : k < n
          · have e1 : decide (k < n) = true := by simp; omega
            have kk : k < p.chs.length := by rw [← HN.out]; exact hlt
            obtain ⟨gA, oA, B, cap1, rfl, a0, hc1, hcl⟩ := HCH.out k kk
            have HCC := Lib.hid HCH
            clear HCH hk
            have HCL := Lib.hid hcl
            have HYES := Lib.hid (fun (h : 10 < p.chs[k].length ∨ ∃ c ∈ p.chs[k], 20 < c.mv.length) => show true = decide (farO p) from (decide_eq_true (HR.out.2 (.inr (.inr (.inr (.inl ⟨_, List.getElem_mem kk, h⟩)))))).symm)
            have HNX := Lib.hid (fun h => all_snocF (P := fun (y : List ChO) => ¬ (10 < y.length ∨ ∃ c ∈ y, 20 < c.mv.length)) kk HGD.out h)
            generalize p.chs[k] = cs at *
            obtain ⟨L, hL⟩ : ∃ L, L = cs.length := ⟨_, rfl⟩
            have HLL := Lib.hid hL
            rw [← hL] at a0 hc1
            have A0 := Lib.hid a0
            have a1 := cell_blw HB.out a0
            clear hcl hL a0
            by_cases hl : 10 < L
            · have e2 : decide (10 < L) = true := by simp; omega
              have e2' : decide ((10 : Int) < (L : Int)) = true := by simp; omega
              have HE := Lib.hid (HYES.out (.inl (by rw [← HLL.out]; exact hl)))
              clear hl
              go_wp2_with fail
              go_ret
              exact ⟨ret_bool HE.out, below_t HW.out HB.out⟩
            · have e2 : decide (10 < L) = false := by simp; omega
              have e2' : decide ((10 : Int) < (L : Int)) = false := by simp; omega
              go_wp2_with fail
              go_loopw [4] (fun i wr => FmRel cs W i wr) (fun i _ => L - (intOf i).toNat)
              case atStart => exact ⟨0, rfl, Nat.zero_le _, fun y hy => absurd hy (by simp), HB.out⟩
              case round =>
                clear HB y1 y3 e2 e2' a1
                obtain ⟨j, rfl, hj, hgd, hb⟩ := hrel
                have HGD2 := Lib.hid hgd
                have HB := Lib.hid hb
                clear hgd hb
                have y1 := cell_blw HB.out x1
                have a1 := cell_blw HB.out A0.out
                by_cases hjl : j < L
                · have e2 : decide (j < L) = true := by simp; omega
                  have jj : j < cs.length := by rw [← HLL.out]; exact hjl
                  obtain ⟨g2, o2, B2, cap2, rfl, b1, b2, hc2, -⟩ := HCL.out j jj
                  have HCX := Lib.hid HCL
                  clear HCL hj
                  replace b2 := cell_blw HB.out b2
                  have b2' := b2
                  rw [← Nat.add_assoc] at b2'
                  have HYES2 := Lib.hid (fun (h : 20 < cs[j].mv.length) => HYES.out (.inr ⟨_, List.getElem_mem jj, h⟩))
                  have HNX2 := Lib.hid (fun h => all_snocF (P := fun (y : ChO) => ¬ 20 < y.mv.length) jj HGD2.out h)
                  obtain ⟨M, hM⟩ : ∃ M, M = cs[j].mv.length := ⟨_, rfl⟩
                  rw [← hM] at b2 b2' hc2 HYES2 HNX2
                  clear hM b1
                  by_cases hm : 20 < M
                  · have e3 : decide (20 < M) = true := by simp; omega
                    have e3' : decide ((20 : Int) < (M : Int)) = true := by simp; omega
                    have HE := Lib.hid (HYES2.out hm)
                    clear hm
                    go_wp2_with fail
                    go_ret
                    exact ⟨ret_bool HE.out, below_t HW.out HB.out⟩
                  · have e3 : decide (20 < M) = false := by simp; omega
                    have e3' : decide ((20 : Int) < (M : Int)) = false := by simp; omega
                    have HE := Lib.hid (HNX2.out hm)
                    clear hm
                    go_wp2_with fail
                    go_roundw
                    case rel => exact ⟨j + 1, by go_num, by rw [← HLL.out]; omega, HE.out, HB.out⟩
                    case measure => simp [intOf]; omega
                · have e2 : decide (j < L) = false := by simp; omega
                  have HE := Lib.hid (HNX.out (by
                    rintro (h | ⟨c, hc, h⟩)
                    · exact hl (by rw [HLL.out]; exact h)
                    · exact all_endF (by rw [← HLL.out]; omega) HGD2.out c hc h))
                  clear hjl hj
                  go_wp2
                  go_roundw
                  case rel => exact ⟨k + 1, by go_num, by omega, HE.out, HB.out⟩
                  case measure => simp [intOf]; omega
          · have e1 : decide (k < n) = false := by simp; omega
            have HNF := Lib.hid (show ¬ farC p.chs from fun ⟨cs, hc, h⟩ => all_endF (by rw [← HN.out]; omega) HGD.out cs hc h)
            clear hlt hk
            go_wp2
            go_loopw [5] (fun i wr => FhRel p.hds W i wr) (fun i _ => N - (intOf i).toNat)
            case atStart => exact ⟨0, rfl, Nat.zero_le _, fun y hy => absurd hy (by simp), HB.out⟩
            case round =>
              clear HB y1 y3 e1
              obtain ⟨j, rfl, hj, hgd, hb⟩ := hrel
              have HGD2 := Lib.hid hgd
              have HB := Lib.hid hb
              clear hgd hb
              have y3 := cell_blw HB.out x3
              by_cases hjn : j < N
              · have e1 : decide (j < N) = true := by simp; omega
                have jj : j < p.hds.length := by rw [← HNN.out]; exact hjn
                obtain ⟨gA, oA, B, cap1, rfl, a1, hc1, -⟩ := HHD.out j jj
                have HCC := Lib.hid HHD
                clear HHD hj
                replace a1 := cell_blw HB.out a1
                have HYES := Lib.hid (fun (h : 20 < p.hds[j].length) => show true = decide (farO p) from (decide_eq_true (HR.out.2 (.inr (.inr (.inr (.inr ⟨_, List.getElem_mem jj, h⟩)))))).symm)
                have HNX := Lib.hid (fun h => all_snocF (P := fun (y : List Int) => ¬ 20 < y.length) jj HGD2.out h)
                generalize p.hds[j] = cs at *
                obtain ⟨L, hL⟩ : ∃ L, L = cs.length := ⟨_, rfl⟩
                rw [← hL] at a1 hc1 HYES HNX
                clear hL
                by_cases hl : 20 < L
                · have e2 : decide (20 < L) = true := by simp; omega
                  have e2' : decide ((20 : Int) < (L : Int)) = true := by simp; omega
                  have HE := Lib.hid (HYES.out hl)
                  clear hl
                  go_wp2_with fail
                  go_ret
                  exact ⟨ret_bool HE.out, below_t HW.out HB.out⟩
                · have e2 : decide (20 < L) = false := by simp; omega
                  have e2' : decide ((20 : Int) < (L : Int)) = false := by simp; omega
                  have HE := Lib.hid (HNX.out hl)
                  clear hl
                  go_wp2_with fail
                  go_roundw
                  case rel => exact ⟨j + 1, by go_num, by omega, HE.out, HB.out⟩
                  case measure => simp [intOf]; omega
              · have e1 : decide (j < N) = false := by simp; omega
                have HE := Lib.hid (show false = decide (farO p) from (decide_eq_false fun h => by
                  rcases HR.out.1 h with h | h | h | h | ⟨cs, hc, h⟩
                  · exact h1 h
                  · exact h2 h
                  · exact H3.out h
                  · exact HNF.out h
                  · exact all_endF (by rw [← HNN.out]; omega) HGD2.out cs hc h).symm)
                clear hjn hj
                go_wp2
                go_ret
                exact ⟨ret_bool HE.out, below_t HW.out HB.out⟩
def EqRel (la lb : List Int) (w : World) (i : Value) (wr : World) : Prop := ∃ k : Nat, i = .int .i64 (k : Int) ∧ k ≤ la.length ∧ la.take k = lb.take k ∧ Below w.heap.size w wr
set_option maxHeartbeats 4000000 in
theorem ints_any {A B : Option Addr} {la lb : List Int} {c1 c2 : Nat} (w : World) (hA : ISl w A la) (hB : ISl w B lb) (hl : la.length ≤ 1000000) : Calls Tryd.prog 14 #[.slice A la.length c1, .slice B lb.length c2] w (BoolP (decide (la = lb)) w) := by
  by_cases hlen : la.length = lb.length
  · have g1 : ((la.length : Int) != (la.length : Int)) = false := by simp
    rw [← hlen]
    have HL := Lib.hid hlen
    have HA := Lib.hid hA
    have HB := Lib.hid hB
    obtain ⟨n, hn⟩ : ∃ n, n = la.length := ⟨_, rfl⟩
    rw [← hn] at hl g1 ⊢
    have HN := Lib.hid hn
    clear hlen hA hB hn
    go_enter Tryd.func14, Tryd.ntmps14
    go_wp2
    go_loopw [5] (fun i wr => EqRel la lb w i wr) (fun i _ => n - (intOf i).toNat)
    case atStart => exact ⟨0, rfl, Nat.zero_le _, rfl, Below.refl _ _⟩
    case round =>
      obtain ⟨k, rfl, hk, ht, hb⟩ := hrel
      by_cases hlt : k < n
      · have g2 : decide (k < n) = true := by simp; omega
        have k1 : k < la.length := by rw [← HN.out]; exact hlt
        have k2 : k < lb.length := by rw [← HL.out]; exact k1
        obtain ⟨g, o, rfl, a0⟩ := HA.out k k1
        obtain ⟨g', o', rfl, d0⟩ := HB.out k k2
        replace a0 := cell_blw hb a0
        replace d0 := cell_blw hb d0
        have HT := Lib.hid ht
        have HBb := Lib.hid hb
        have HA2 := Lib.hid HA
        have HB2 := Lib.hid HB
        clear ht hb hk HA HB
        by_cases he : la[k] = lb[k]
        · have HR := Lib.hid (show la.take (k + 1) = lb.take (k + 1) by rw [take_snoc k1, take_snoc k2, HT.out, he])
          rw [he] at a0
          clear he
          generalize lb[k] = x at *
          have q : (x != x) = false := by simp
          go_wp2_with fail
          go_quiet (fail)
          go_wp2
          go_roundw
          case rel => exact ⟨k + 1, by go_num, by omega, HR.out, below_drewN HBb.out _⟩
          case measure => simp [intOf]; omega
        · have HR := Lib.hid (show la ≠ lb from fun e => he (by subst e; rfl))
          have q : (la[k] != lb[k]) = true := by simp [he]
          clear he
          generalize lb[k] = x at *
          generalize la[k] = y at *
          go_wp2_with fail
          go_quiet (fail)
          go_wp2
          go_ret
          exact ⟨ret_bool (decide_eq_false HR.out).symm, below_drewN HBb.out _⟩
      · have g2 : decide (k < n) = false := by simp; omega
        have HR := Lib.hid (show la = lb by
          have h1 : la.take k = la := List.take_of_length_le (by rw [← HN.out]; omega)
          have h2 : lb.take k = lb := List.take_of_length_le (by rw [← HL.out, ← HN.out]; omega)
          rw [h1, h2] at ht; exact ht)
        have HBb := Lib.hid hb
        clear ht hb hk
        go_wp2
        go_ret
        exact ⟨ret_bool (decide_eq_true HR.out).symm, HBb.out⟩
  · have g1 : ((la.length : Int) != (lb.length : Int)) = true := by rw [bne_iff_ne]; omega
    have HR := Lib.hid (show la ≠ lb from fun h => hlen (by rw [h]))
    clear hlen hA hB
    go_enter Tryd.func14, Tryd.ntmps14
    go_wp2
    go_ret
    exact ⟨ret_bool (decide_eq_false HR.out).symm, Below.refl _ _⟩
def HsRel (l : List MvO) (to : Int) (W : World) (i : Value) (wr : World) : Prop := ∃ k : Nat, i = .int .i64 (k : Int) ∧ k ≤ l.length ∧ (∀ m ∈ l.take k, m.to ≠ to) ∧ Below W.heap.size W wr
open Classical in
set_option maxHeartbeats 4000000 in
theorem has_any {A : Option Addr} {l : List MvO} {cap : Nat} {act : ByteArray} (to : Int) (w : World) (hA : MSl w A l) (hl : l.length ≤ 1000000) : Calls Tryd.prog 18 #[.agg #[.string act, .slice A l.length cap], .int .i64 to] w (BoolP (decide (to ∈ l.map MvO.to)) w) := by
  have HA := Lib.hid (hA.below (below_alloc w (.cells #[.string act, .slice A l.length cap] 54)))
  have HX := Lib.hid (Bx.new w 54 [.string act, .slice A l.length cap])
  have HW := Lib.hid (below_alloc w (.cells #[.string act, .slice A l.length cap] 54))
  change Hid (Bx (w.alloc (.cells #[.string act, .slice A l.length cap] 54)) w.heap.size 54 [.string act, .slice A l.length cap]) at HX
  obtain ⟨n, hn⟩ : ∃ n, n = l.length := ⟨_, rfl⟩
  have HN := Lib.hid hn
  rw [← hn] at HA HX HW hl ⊢
  clear hA hn
  have x1 : (w.alloc (.cells #[.string act, .slice A n cap] 54)).cell? ⟨w.heap.size, 1, none⟩ = some (.slice A n cap) := HX.out.cell 1
  go_enter Tryd.func18, Tryd.ntmps18
  go_wp2
  generalize w.alloc (.cells #[.string act, .slice A n cap] 54) = W at *
  go_loopw [5] (fun i wr => HsRel l to W i wr) (fun i _ => n - (intOf i).toNat)
  case atStart => exact ⟨0, rfl, Nat.zero_le _, fun y hy => absurd hy (by simp), Below.refl _ _⟩
  case round =>
    obtain ⟨k, rfl, hk, hgd, hb⟩ := hrel
    have HGD := Lib.hid hgd
    have HB := Lib.hid hb
    clear hgd hb
    have y1 := cell_blw HB.out x1
    by_cases hlt : k < n
    · have e1 : decide (k < n) = true := by simp; omega
      have kk : k < l.length := by rw [← HN.out]; exact hlt
      obtain ⟨g, o, rfl, c1, -⟩ := HA.out k kk
      have HA2 := Lib.hid HA
      clear HA hk
      replace c1 := cell_blw HB.out c1
      by_cases he : l[k].to = to
      · have HR := Lib.hid (show true = decide (to ∈ l.map MvO.to) from (decide_eq_true (List.mem_map.2 ⟨_, List.getElem_mem kk, he⟩)).symm)
        have q : (to == to) = true := by simp
        rw [he] at c1
        clear he
        go_wp2_with fail
        go_ret
        exact ⟨ret_bool HR.out, below_t HW.out HB.out⟩
      · have HR := Lib.hid (all_snocF (P := fun (m : MvO) => m.to ≠ to) kk HGD.out he)
        have q : (l[k].to == to) = false := by simp [he]
        clear he
        obtain ⟨x, hx⟩ : ∃ x, x = l[k].to := ⟨_, rfl⟩
        rw [← hx] at c1 q
        clear hx
        go_wp2_with fail
        go_roundw
        case rel => exact ⟨k + 1, by go_num, by omega, HR.out, HB.out⟩
        case measure => simp [intOf]; omega
    · have e1 : decide (k < n) = false := by simp; omega
      have HR := Lib.hid (show false = decide (to ∈ l.map MvO.to) from (decide_eq_false fun h => by
        obtain ⟨m, hm, he⟩ := List.mem_map.1 h
        exact all_endF (by rw [← HN.out]; omega) HGD.out m hm he).symm)
      clear hlt hk
      go_wp2
      go_ret
      exact ⟨ret_bool HR.out, below_t HW.out HB.out⟩
end Go.Proofs.YtkgjpimapfmeoaaDoor
