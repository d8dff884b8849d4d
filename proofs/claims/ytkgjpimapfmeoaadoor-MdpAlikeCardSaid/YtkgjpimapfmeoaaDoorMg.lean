/-
  The document's Reach, walked: by widening till nothing turns.
-/
import Derived.Test.YtkgjpimapfmeoaaDoorMc
import Derived.Test.YtkgjpimapfmeoaaDoorMb
namespace Go.Proofs.YtkgjpimapfmeoaaDoor
open Go.RowKit

theorem marks_reach {p : PrO} {f : Nat → Bool} (hr : p.right) (h1 : f p.init.toNat = true) (h2 : ∀ s, s < p.chs.length → f s = true → Rch p s) (h3 : ∀ s, s < p.chs.length → f s = true → ∀ t, Edg p s t → f t = true) : marks f p.chs.length = reachO p :=
  Dfs.all ⟨h1, h2, fun x hx => absurd hx (by simp), fun s hs hf => .inr (h3 s hs hf)⟩ hr
/-- One widening: what holds while it goes on. -/
structure Wid (p : PrO) (f : Nat → Bool) (u0 n : Nat) (T : Bool) : Prop where
  init : f p.init.toNat = true
  come : ∀ s, s < p.chs.length → f s = true → Rch p s
  yes : T = true → uns f n < u0
  no : T = false → uns f n ≤ u0
def Clo (p : PrO) (f : Nat → Bool) (s : Nat) : Prop := ∀ r, r < s → f r = true → ∀ t, Edg p r t → f t = true
def Pst (cs : List ChO) (f : Nat → Bool) (c : Nat) : Prop := ∀ i (h : i < cs.length), i < c → ∀ m ∈ cs[i].mv, ∀ t : Nat, m.to = (t : Int) → f t = true
def Nw (mv : List MvO) (f : Nat → Bool) (i : Nat) : Prop := ∀ m ∈ mv.take i, ∀ t : Nat, m.to = (t : Int) → f t = true
theorem upd_same {f : Nat → Bool} {t : Nat} (h : f t = true) : upd f t = f := by
  funext j
  unfold upd
  split
  · subst_vars; exact h.symm
  · rfl
def VT (p : PrO) (n q : Nat) (cs : List Value) (w0 : World) (gk : Nat) (T : Value) (wr : World) : Prop :=
  ∃ f b, T = .bool b ∧ gk = uns f n + (if b then 1 else 0) ∧ f p.init.toNat = true ∧ (∀ s, s < p.chs.length → f s = true → Rch p s) ∧ (b = false → Clo p f n) ∧ Bools wr q n f ∧ Bx wr w0.heap.size 26 cs ∧ Below w0.heap.size w0 wr
def VS (p : PrO) (n q u0 : Nat) (cs : List Value) (w0 : World) (T i : Value) (wr : World) : Prop :=
  ∃ f b s, T = .bool b ∧ i = .int .i64 ((s : Nat) : Int) ∧ s ≤ n ∧ Wid p f u0 n b ∧ (b = false → Clo p f s) ∧ Bools wr q n f ∧ Bx wr w0.heap.size 26 cs ∧ Below w0.heap.size w0 wr
def VC (p : PrO) (n q u0 s : Nat) (ks : List ChO) (cs : List Value) (w0 : World) (T i : Value) (wr : World) : Prop :=
  ∃ f b c, T = .bool b ∧ i = .int .i64 ((c : Nat) : Int) ∧ c ≤ ks.length ∧ Wid p f u0 n b ∧ (b = false → Clo p f s ∧ Pst ks f c) ∧ Bools wr q n f ∧ Bx wr w0.heap.size 26 cs ∧ Below w0.heap.size w0 wr
def VI (p : PrO) (n q u0 s c : Nat) (ks : List ChO) (mv : List MvO) (cs : List Value) (w0 : World) (T i : Value) (wr : World) : Prop :=
  ∃ f b j, T = .bool b ∧ i = .int .i64 ((j : Nat) : Int) ∧ j ≤ mv.length ∧ f s = true ∧ Wid p f u0 n b ∧ (b = false → Clo p f s ∧ Pst ks f c ∧ Nw mv f j) ∧ Bools wr q n f ∧ Bx wr w0.heap.size 26 cs ∧ Below w0.heap.size w0 wr
theorem nw_step {mv : List MvO} {f : Nat → Bool} {j t : Nat} (hj : j < mv.length) (ht : mv[j].to = (t : Int)) (hf : f t = true) (h : Nw mv f j) : Nw mv f (j + 1) := by
  intro m hm t' ht'
  rw [take_snoc hj, List.mem_append, List.mem_singleton] at hm
  rcases hm with hm | hm
  · exact h m hm t' ht'
  · subst hm
    have : t' = t := by omega
    rw [this]; exact hf
theorem pst_step {cs : List ChO} {f : Nat → Bool} {c : Nat} (hc : c < cs.length) (h : Pst cs f c) (hn : Nw cs[c].mv f cs[c].mv.length) : Pst cs f (c + 1) := by
  intro i hi hic m hm t ht
  by_cases e : i = c
  · subst e
    exact hn m (by rw [List.take_of_length_le (Nat.le_refl _)]; exact hm) t ht
  · exact h i hi (by omega) m hm t ht
theorem clo_step {p : PrO} {cs : List ChO} {f : Nat → Bool} {s : Nat} (hs : p.chs[s]? = some cs) (h : Clo p f s) (hp : f s = true → Pst cs f cs.length) : Clo p f (s + 1) := by
  intro r hr hf t he
  by_cases e : r = s
  · subst e
    obtain ⟨cs', h2, c, h3, m, h4, h5⟩ := he
    rw [hs] at h2
    injection h2 with h2
    subst h2
    obtain ⟨i, hi, rfl⟩ := List.mem_iff_getElem.1 h3
    exact hp hf i hi hi m h4 t h5
  · exact h r (by omega) hf t he
theorem wid_mark {p : PrO} {f : Nat → Bool} {u0 n t : Nat} {b : Bool} (h : Wid p f u0 n b) (hf : f t = false) (hn : t < n) (hr : Rch p t) (hb : uns f n ≤ u0) : Wid p (upd f t) u0 n true where
  init := upd_mono h.init
  come := fun r hrl hfr => by
    rcases upd_inv hfr with rfl | h1
    · exact hr
    · exact h.come r hrl h1
  yes := fun _ => by have := uns_upd hf hn; omega
  no := fun e => by cases e
theorem Wid.le {p : PrO} {f : Nat → Bool} {u0 n : Nat} {b : Bool} (h : Wid p f u0 n b) : uns f n ≤ u0 := by
  cases b with
  | true => exact Nat.le_of_lt (h.yes rfl)
  | false => exact h.no rfl
set_option maxHeartbeats 16000000 in
set_option maxRecDepth 100000 in
theorem rreach_any {p : PrO} {v : PV} (w : World) (hp : PrM w v p) (hs : Sml p) : Calls Tryd.prog 16 #[.agg (v.l p).toArray] w (fun e w' => ∃ u, e = .returned u ∧ IR w' w.heap.size u (reachO p) ∧ Below w.heap.size w w') := by
  obtain ⟨i0, hi0, hz⟩ := Option.map_eq_some_iff.1 infoI
  simp only [Prod.mk.injEq] at hz
  obtain ⟨hz0, hz1, hz2⟩ := hz
  have HI := Lib.hid hi0
  have HZ0 := Lib.hid hz0
  have HZ1 := Lib.hid hz1
  have HZ2 := Lib.hid hz2
  obtain ⟨i1, hi1, hy⟩ := Option.map_eq_some_iff.1 infoB
  simp only [Prod.mk.injEq] at hy
  obtain ⟨hy0, hy1, hy2⟩ := hy
  have HJ := Lib.hid hi1
  have HY0 := Lib.hid hy0
  have HY1 := Lib.hid hy1
  have HY2 := Lib.hid hy2
  have HCH := Lib.hid hp.ch
  have HS := Lib.hid hs
  obtain ⟨n, hn⟩ : ∃ n, n = p.chs.length := ⟨_, rfl⟩
  have hn1 : n ≤ 1000000 := by rw [hn]; exact hs.ch
  have HN := Lib.hid hn
  have HRI := Lib.hid (fun (W : World) (hb : Below w.heap.size w W) => rright_any W (hp.below hb) hs)
  change Hid (∀ (W : World) (hb : Below w.heap.size w W), Calls Tryd.prog 12 #[.agg #[.int .i64 p.init, .slice v.A p.chs.length v.a, .slice v.B p.nms.length v.b, .slice v.C p.hds.length v.c]] W (BoolP (decide p.right) W)) at HRI
  show Calls Tryd.prog 16 #[.agg #[.int .i64 p.init, .slice v.A p.chs.length v.a, .slice v.B p.nms.length v.b, .slice v.C p.hds.length v.c]] w _
  rw [← hn] at HRI ⊢
  clear hp hs hn hi0 hz0 hz1 hz2 hi1 hy0 hy1 hy2
  generalize p.nms.length = m at *
  generalize p.hds.length = N at *
  generalize v.B = vB at *
  generalize v.b = vb at *
  generalize v.C = vC at *
  generalize v.c = vc at *
  generalize v.a = va at *
  generalize v.A = vA at *
  obtain ⟨init, hinit⟩ : ∃ x, x = p.init := ⟨_, rfl⟩
  rw [← hinit] at HRI ⊢
  have HIN := Lib.hid hinit
  clear hinit
  have HWA := Lib.hid (below_alloc w (.cells #[.int .i64 init, .slice vA n va, .slice vB m vb, .slice vC N vc] 26))
  have HXA := Lib.hid (Bx.new w 26 [.int .i64 init, .slice vA n va, .slice vB m vb, .slice vC N vc])
  by_cases hr : p.right
  · have HR := Lib.hid hr
    have h0 := hr.2.2.1
    obtain ⟨s0, hs0⟩ := Int.eq_ofNat_of_zero_le (show 0 ≤ init by rw [HIN.out]; exact h0.1)
    subst hs0
    have hs0n : s0 < n := by have := HIN.out; have := HN.out; omega
    have HST := Lib.hid (Dfs.start hr HIN.out.symm)
    clear hr h0
    go_enter Tryd.func16, Tryd.ntmps16
    go_wp2_with fail
    with_reducible refine (HRI.out _ HWA.out).mono ?_
    rintro e w1 ⟨rfl, hb1⟩
    have HB1 := Lib.hid (below_t HWA.out hb1)
    have HX1 := Lib.hid (HXA.out.below hb1)
    obtain ⟨x0, x1, -, -⟩ := HX1.out.cells4
    have hz1 := HB1.out.size
    have hx1 := HX1.out.lt
    clear hb1
    rw [decide_eq_true HR.out]
    go_wp2_with (at_make; refine wpList_make_full _ rfl _ _ 73 rfl w1.heap.size 4 i1 (.bool false) 1 Tryd.underlying73 HJ.out HY0.out HY1.out .i64 .i64 (n : Int) (n : Int) n rfl rfl rfl rfl (by rw [HY2.out]; omega) (by unfold maxLen; omega) (Nat.le_refl _) ?_)
    intro w2 ho2 hg2
    rw [made_one] at ho2
    have HB12 := Lib.hid ((Below.refl w1.heap.size w1).grown hg2 (Nat.le_refl _) (fun k hk => by cases hk))
    have HB2 := Lib.hid (below_t HB1.out HB12.out)
    have HQ2 := Lib.hid (bools_made (owns_full ho2))
    have HX2 := Lib.hid (HX1.out.below HB12.out)
    obtain ⟨y0, y1, -, -⟩ := HX2.out.cells4
    have hqz := Bx.lt HQ2.out
    have c1 := HQ2.out.cell hs0n
    have f1 := Bx.frozen HQ2.out s0
    have hwq : w.heap.size < w1.heap.size := hx1
    clear ho2 hg2 x0 x1
    generalize w1.heap.size = q at *
    have HQ3 := Lib.hid (HQ2.out.set s0)
    have HX3 := Lib.hid (HX2.out.put (q' := q) (i := s0) (u := .bool true) (by omega))
    have HB3 := Lib.hid (HB2.out.setCell (p := ⟨q, s0, none⟩) hz1 (.bool true))
    go_wp2
    go_loopg [5] (uns (upd (fun _ => false) s0) n + 1) (fun gk T wr => VT p n q [.int .i64 (s0 : Int), .slice vA n va, .slice vB m vb, .slice vC N vc] w gk T wr)
    case atStart => exact ⟨_, true, rfl, rfl, HST.out.init, HST.out.come, fun h => (by cases h), HQ3.out, HX3.out, HB3.out⟩
    case round =>
      obtain ⟨f, b, rfl, hgk, hfi, hfc, hcl, hq, hx, hb⟩ := hrel
      clear HX1 HX2 HX3 HB1 HB2 HB3 HQ2 HQ3 HST y0 y1 c1 f1 hqz
      have HFI := Lib.hid hfi
      have HFC := Lib.hid hfc
      have HQ := Lib.hid hq
      have HX := Lib.hid hx
      have HB := Lib.hid hb
      clear hfi hfc hq hx hb
      cases b with
      | true =>
        have hgk : gk = uns f n + 1 := hgk
        clear hcl
        go_wp2
        go_loopw [5, 6] (fun T i wr => VS p n q (uns f n) [.int .i64 (s0 : Int), .slice vA n va, .slice vB m vb, .slice vC N vc] w T i wr) (fun _ i _ => n - (intOf i).toNat)
        case atStart => exact ⟨f, false, 0, rfl, rfl, Nat.zero_le _, ⟨HFI.out, HFC.out, fun h => (by cases h), fun _ => Nat.le_refl _⟩, fun _ r hr => absurd hr (by omega), HQ.out, HX.out, HB.out⟩
        case round =>
          clear HFI HFC HQ HX HB
          obtain ⟨f2, b, s, rfl, rfl, hs, hw, hcl, hq, hx, hb⟩ := hrel
          have HWD := Lib.hid hw
          have HCL := Lib.hid hcl
          have HQ := Lib.hid hq
          have HX := Lib.hid hx
          have HB := Lib.hid hb
          clear hw hcl hq hx hb
          by_cases hsn : s < n
          · have e1 : decide (s < n) = true := by simp; omega
            have ks : s < p.chs.length := by rw [← HN.out]; exact hsn
            obtain ⟨gA, oA, B, cap1, rfl, d0, hc1, hcl⟩ := HCH.out s ks
            have HCC := Lib.hid HCH
            clear HCH hs
            have HSC := Lib.hid (show p.chs[s]? = some p.chs[s] from List.getElem?_eq_getElem ks)
            have HCS := Lib.hid hcl
            have HMV := Lib.hid (HS.out.mv _ (List.getElem_mem ks))
            have hlk : p.chs[s].length ≤ 1000000 := HS.out.cs _ (List.getElem_mem ks)
            have HRM := Lib.hid (HR.out.2.2.2.2.1 _ (List.getElem_mem ks)).2
            generalize p.chs[s] = cs at *
            obtain ⟨L, hL⟩ : ∃ L, L = cs.length := ⟨_, rfl⟩
            have HLL := Lib.hid hL
            rw [← hL] at d0 hc1 hlk
            have D0 := Lib.hid d0
            clear hcl hL d0
            go_wp2
            go_loopw [5, 7] (fun T i wr => VC p n q (uns f n) s cs [.int .i64 (s0 : Int), .slice (some ⟨gA, oA, none⟩) n va, .slice vB m vb, .slice vC N vc] w T i wr) (fun _ i _ => L - (intOf i).toNat)
            case atStart => exact ⟨f2, b, 0, rfl, rfl, Nat.zero_le _, HWD.out, fun h => ⟨HCL.out h, fun i _ hi => absurd hi (by omega)⟩, HQ.out, HX.out, HB.out⟩
            case round =>
              clear HWD HCL HQ HX HB
              obtain ⟨f3, b, c, rfl, rfl, hc, hw, hcl, hq, hx, hb⟩ := hrel
              have HWD := Lib.hid hw
              have HCL := Lib.hid hcl
              have HQ := Lib.hid hq
              have HX := Lib.hid hx
              have HB := Lib.hid hb
              clear hw hcl hq hx hb
              obtain ⟨x0, x1, -, -⟩ := HX.out.cells4
              have d1 := cell_blw HB.out D0.out
              have c3 := HQ.out.cell hsn
              by_cases hcL : c < L
              · have e2 : decide (c < L) = true := by simp; omega
                have kc : c < cs.length := by rw [← HLL.out]; exact hcL
                cases hf : f3 s with
                | true =>
                  rw [hf] at c3
                  have HFS := Lib.hid hf
                  obtain ⟨g2, o2, B2, cap2, rfl, k1, k2, hc2, hml⟩ := HCS.out c kc
                  have HCX := Lib.hid HCS
                  clear HCS hc hf
                  have HML := Lib.hid hml
                  have hmk : cs[c].mv.length ≤ 1000000 := HMV.out _ (List.getElem_mem kc)
                  have HMR := Lib.hid (HRM.out _ (List.getElem_mem kc)).2.2
                  have HPS := Lib.hid (fun (f : Nat → Bool) => pst_step (f := f) kc)
                  have HED := Lib.hid (fun (k t : Nat) (hk : k < cs[c].mv.length) (ht : cs[c].mv[k].to = (t : Int)) => show Edg p s t from ⟨cs, HSC.out, cs[c], List.getElem_mem kc, _, List.getElem_mem hk, ht⟩)
                  generalize cs[c] = ch at *
                  obtain ⟨M, hM⟩ : ∃ M, M = ch.mv.length := ⟨_, rfl⟩
                  have HMM := Lib.hid hM
                  rw [← hM] at k2 hc2 hmk
                  have K2 := Lib.hid k2
                  clear hM hml k1 k2
                  go_wp2_with fail
                  go_loopw [5, 8] (fun T i wr => VI p n q (uns f n) s c cs ch.mv [.int .i64 (s0 : Int), .slice (some ⟨gA, oA, none⟩) n va, .slice vB m vb, .slice vC N vc] w T i wr) (fun _ i _ => M - (intOf i).toNat)
                  case atStart => exact ⟨f3, b, 0, rfl, rfl, Nat.zero_le _, HFS.out, HWD.out, fun h => ⟨(HCL.out h).1, (HCL.out h).2, fun m hm => absurd hm (by simp)⟩, HQ.out, HX.out, HB.out⟩
                  case round =>
                    clear HWD HCL HQ HX HB HFS x0 x1 d1 c3
                    obtain ⟨f4, b, j, rfl, rfl, hj, hfs, hw, hcl, hq, hx, hb⟩ := hrel
                    have HFS := Lib.hid hfs
                    have HWD := Lib.hid hw
                    have HCL := Lib.hid hcl
                    have HQ := Lib.hid hq
                    have HX := Lib.hid hx
                    have HB := Lib.hid hb
                    have hqz := Bx.lt hq
                    clear hfs hw hcl hq hx hb
                    obtain ⟨x0, x1, -, -⟩ := HX.out.cells4
                    have d1 := cell_blw HB.out D0.out
                    have k2 := cell_blw HB.out K2.out
                    have k2' := k2
                    rw [← Nat.add_assoc] at k2'
                    by_cases hjM : j < M
                    · have e3 : decide (j < M) = true := by simp; omega
                      have kj : j < ch.mv.length := by rw [← HMM.out]; exact hjM
                      obtain ⟨g4, o4, rfl, m1, -⟩ := HML.out j kj
                      have HMX := Lib.hid HML
                      clear HML hj
                      replace m1 := cell_blw HB.out m1
                      have hto := HMR.out _ (List.getElem_mem kj)
                      obtain ⟨t, ht⟩ := Int.eq_ofNat_of_zero_le hto.1
                      rw [ht] at m1 hto
                      have htn : t < n := by have := HN.out; omega
                      have HNW := Lib.hid (fun (f : Nat → Bool) => nw_step (f := f) kj ht)
                      have HRT := Lib.hid (Rch.step (HWD.out.come s ks HFS.out) (HED.out j t kj ht))
                      have c5 := HQ.out.cell htn
                      have f5 := Bx.frozen HQ.out t
                      have HQ5 := Lib.hid (HQ.out.set t)
                      have HX5 := Lib.hid (HX.out.put (q' := q) (i := t) (u := .bool true) (by omega))
                      have HB5 := Lib.hid (HB.out.setCell (p := ⟨q, t, none⟩) hz1 (.bool true))
                      clear hto ht
                      cases hf : f4 t with
                      | true =>
                        rw [hf] at c5
                        have HN5 := Lib.hid (fun h => HNW.out f4 hf (HCL.out h).2.2)
                        have HSM := Lib.hid (show (fun j => if t = j then true else f4 j) = f4 from upd_same hf)
                        rw [HSM.out] at HQ5
                        clear hf
                        cases b with
                        | true =>
                          go_wp2_with fail
                          go_roundw
                          case rel => exact ⟨f4, true, j + 1, rfl, by go_num, by omega, HFS.out, HWD.out, fun h => (by cases h), HQ5.out, HX5.out, HB5.out⟩
                          case measure => simp [intOf]; omega
                        | false =>
                          go_wp2_with fail
                          go_roundw
                          case rel => exact ⟨f4, false, j + 1, rfl, by go_num, by omega, HFS.out, HWD.out, fun h => ⟨(HCL.out h).1, (HCL.out h).2.1, HN5.out h⟩, HQ5.out, HX5.out, HB5.out⟩
                          case measure => simp [intOf]; omega
                      | false =>
                        rw [hf] at c5
                        have HW5 := Lib.hid (wid_mark HWD.out hf htn HRT.out HWD.out.le)
                        have HF5 := Lib.hid (show upd f4 t s = true from upd_mono HFS.out)
                        clear hf
                        cases b with
                        | true =>
                          go_wp2_with fail
                          go_roundw
                          case rel => exact ⟨upd f4 t, true, j + 1, rfl, by go_num, by omega, HF5.out, HW5.out, fun h => (by cases h), HQ5.out, HX5.out, HB5.out⟩
                          case measure => simp [intOf]; omega
                        | false =>
                          go_wp2_with fail
                          go_roundw
                          case rel => exact ⟨upd f4 t, true, j + 1, rfl, by go_num, by omega, HF5.out, HW5.out, fun h => (by cases h), HQ5.out, HX5.out, HB5.out⟩
                          case measure => simp [intOf]; omega
                    · have e3 : decide (j < M) = false := by simp; omega
                      have HP5 := Lib.hid (fun h => HPS.out f4 (HCL.out h).2.1 (by have h9 := (HCL.out h).2.2; rwa [show j = ch.mv.length by have := HMM.out; omega] at h9))
                      clear hjM hj
                      go_wp2
                      go_roundw
                      case rel => exact ⟨f4, b, c + 1, rfl, by go_num, by omega, HWD.out, fun h => ⟨(HCL.out h).1, HP5.out h⟩, HQ.out, HX.out, HB.out⟩
                      case measure => simp [intOf]; omega
                | false =>
                  rw [hf] at c3
                  have HC5 := Lib.hid (fun h => clo_step HSC.out (HCL.out h).1 (fun e => by rw [hf] at e; cases e))
                  clear hf hcL hc
                  go_wp2
                  go_roundw
                  case rel => exact ⟨f3, b, s + 1, rfl, by go_num, by omega, HWD.out, HC5.out, HQ.out, HX.out, HB.out⟩
                  case measure => simp [intOf]; omega
              · have e2 : decide (c < L) = false := by simp; omega
                have HC5 := Lib.hid (fun h => clo_step HSC.out (HCL.out h).1 (fun _ => by have h9 := (HCL.out h).2; rwa [show c = cs.length by have := HLL.out; omega] at h9))
                clear hcL hc
                go_wp2
                go_roundw
                case rel => exact ⟨f3, b, s + 1, rfl, by go_num, by omega, HWD.out, HC5.out, HQ.out, HX.out, HB.out⟩
                case measure => simp [intOf]; omega
          · have e1 : decide (s < n) = false := by simp; omega
            have hsn' : s = n := by omega
            have HC5 := Lib.hid (show b = false → Clo p f2 n by rw [← hsn']; exact HCL.out)
            clear hsn hs hsn'
            cases b with
            | true =>
              have hlt := HWD.out.yes rfl
              go_wp2
              go_roundg (uns f2 n + 1)
              case measure => omega
              case rel => exact ⟨f2, true, rfl, rfl, HWD.out.init, HWD.out.come, HC5.out, HQ.out, HX.out, HB.out⟩
            | false =>
              have hlt := HWD.out.no rfl
              go_wp2
              go_roundg (uns f2 n + 0)
              case measure => omega
              case rel => exact ⟨f2, false, rfl, rfl, HWD.out.init, HWD.out.come, fun _ => HC5.out trivial, HQ.out, HX.out, HB.out⟩
      | false =>
        have HM := Lib.hid (show marks f n = reachO p by rw [HN.out]; exact marks_reach HR.out HFI.out HFC.out (by rw [← HN.out]; exact hcl rfl))
        clear hcl hgk
        go_wp2
        go_loopw [3, 10] (fun v i wr' => MkRel f n wr v i wr') (fun _ i _ => n - (intOf i).toNat)
        case atStart => exact ⟨0, rfl, Nat.zero_le _, IR.nil _ _, Below.refl _ _⟩
        case round =>
          obtain ⟨k, rfl, hk, hr, hb⟩ := hrel
          have HRR := Lib.hid hr
          have HBk := Lib.hid hb
          have hz := hb.size
          clear hr hb
          by_cases hlt : k < n
          · have d1 : decide (k < n) = true := by simp; omega
            have c1 := cell_blw HBk.out (HQ.out.cell hlt)
            cases hf : f k with
            | true =>
              rw [hf] at c1
              have HMK := Lib.hid (show marks f (k + 1) = marks f k ++ [(k : Int)] by rw [marks, hf]; rfl)
              have HO := Lib.hid (HRR.out.below (below_alloc wr (.cells #[.int .i64 (k : Int)] 3)))
              have hml := marks_len f k
              generalize marks f k = l at *
              unfold IR at HO
              clear hf hk
              go_wp2_with (at_builtin; refine wpList_append_lies _ rfl _ _ 36 rfl _ 3 i0 (.int .i64 0) 1 8 Tryd.underlying36 HI.out HZ0.out HZ1.out HZ2.out rfl (by decide) _ _ _ rfl HO.out ⟨wr.heap.size, 0, none⟩ 1 1 [.int .i64 (k : Int)] rfl rfl ?c1 ?c2 (by omega) ?c3 ?c4 ?c5 (wr.heap.size + 1) (by simp) ?_)
              case c1 => exact lies_int
              case c2 => exact one_int
              case c3 => unfold maxLen; omega
              case c4 => omega
              case c5 => simp; omega
              intro g cap2 w3 hown hgrow hat hlt3
              have HR3 := Lib.hid (IR.snoc hown)
              have HB3 := Lib.hid ((HBk.out.alloc hz (.cells #[.int .i64 (k : Int)] 3)).grown hgrow (by simp; omega) (fun j hj => (HO.out.lt j hj).1))
              clear hown hgrow hat
              go_wp2
              go_roundw
              case rel => exact ⟨k + 1, by go_num, by omega, by rw [HMK.out]; exact HR3.out, HB3.out⟩
              case measure => simp [intOf]; omega
            | false =>
              rw [hf] at c1
              have HMK := Lib.hid (show marks f (k + 1) = marks f k by rw [marks, hf]; simp)
              clear hf hk
              go_wp2
              go_roundw
              case rel => exact ⟨k + 1, by go_num, by omega, by rw [HMK.out]; exact HRR.out, HBk.out⟩
              case measure => simp [intOf]; omega
          · have d1 : decide (k < n) = false := by simp; omega
            have hkn : k = n := by omega
            subst hkn
            clear hlt hk
            have hzz := HB.out.size
            go_wp2
            go_ret
            exact ⟨_, rfl, by rw [← HM.out]; exact ownsRow_base_m HRR.out hzz, below_t HB.out HBk.out⟩
  · have HR := Lib.hid (show reachO p = [] from if_neg hr)
    have HD := Lib.hid (decide_eq_false hr)
    clear hr
    rw [HR.out]
    go_enter Tryd.func16, Tryd.ntmps16
    go_wp2_with fail
    with_reducible refine (HRI.out _ HWA.out).mono ?_
    rintro e w1 ⟨rfl, hb1⟩
    have HB1 := Lib.hid (below_t HWA.out hb1)
    clear hb1
    rw [HD.out]
    go_wp2
    go_ret
    exact ⟨_, rfl, IR.nil _ _, HB1.out⟩
end Go.Proofs.YtkgjpimapfmeoaaDoor
