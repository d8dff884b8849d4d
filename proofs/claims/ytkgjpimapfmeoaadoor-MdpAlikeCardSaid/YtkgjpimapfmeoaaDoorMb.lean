/-
  Reach, walked.
-/
import Derived.Test.YtkgjpimapfmeoaaDoorMa
namespace Go.Proofs.YtkgjpimapfmeoaaDoor
open Go.RowKit

theorem own_other {w : World} {b q : Nat} {e t : TypeId} {sz n : Nat} {v : Value} {xs : List Value} {cs : Array Value} (h : w.ownsRow b e sz v n xs) (hq : w.heap[q]? = some (.cells cs t (0, 0))) (ht : e ≠ t) : some q ≠ v.ownBlock := by
  intro hv
  rcases h.2 with ⟨rfl, _⟩ | ⟨g, cap, cur, rfl, _, hg, _⟩
  · simp [Value.ownBlock] at hv
  · have : q = g := by simpa [Value.ownBlock] using hv
    subst this
    rw [hg] at hq
    injection hq with hq
    injection hq with _ h2
    exact ht h2
theorem own_kept {w w' : World} {b : Nat} {e : TypeId} {sz n : Nat} {v : Value} {xs : List Value} (h : w.ownsRow b e sz v n xs) (hk : ∀ g, v.ownBlock = some g → w'.heap[g]? = w.heap[g]?) : w'.ownsRow b e sz v n xs := by
  refine ⟨h.1, ?_⟩
  rcases h.2 with h | ⟨g, cap, cur, rfl, h2, h3, h4⟩
  · exact .inl h
  · exact .inr ⟨g, cap, cur, rfl, h2, (hk g rfl).trans h3, h4⟩
theorem IR.put {w : World} {b q : Nat} {t : TypeId} {v u : Value} {l : List Int} {cs : List Value} {i : Nat} (h : IR w b v l) (hq : Bx w q t cs) (ht : 3 ≠ t) : IR (w.setCell ⟨q, i, none⟩ u) b v l := by
  refine own_kept h fun g hg => Below.heap_setCell _ _ _ _ ?_
  rintro rfl
  exact own_other h hq ht hg.symm
theorem Bx.put {w : World} {q q' i : Nat} {t : TypeId} {u : Value} {cs : List Value} (h : Bx w q t cs) (hne : q ≠ q') : Bx (w.setCell ⟨q', i, none⟩ u) q t cs := (Below.heap_setCell _ _ _ _ hne).trans h
theorem Bx.grown {w w' : World} {q b : Nat} {t e : TypeId} {cs xs : List Value} {sz n : Nat} {v : Value} (h : Bx w q t cs) (ho : w.ownsRow b e sz v n xs) (hg : w.grownBy w' v.ownBlock) (ht : e ≠ t) : Bx w' q t cs := (hg.block q h.lt (own_other ho h ht)).trans h
theorem IR.pop {w : World} {b : Nat} {A : Option Addr} {l : List Int} {x : Int} {cap : Nat} (h : IR w b (.slice A (l.length + 1) cap) (l ++ [x])) : ∃ g, A = some ⟨g, 0, none⟩ ∧ l.length + 1 ≤ cap ∧ IR w b (.slice A l.length cap) l ∧ w.cell? ⟨g, l.length, none⟩ = some (.int .i64 x) := by
  have h' : w.ownsRow b 3 1 (.slice A (l.length + 1) cap) (l.length + 1) ((l ++ [x]).map iv) := by
    have := h; unfold IR at this; rw [List.length_append] at this; exact this
  rcases h'.2 with ⟨hv, h0⟩ | ⟨g, cap', cur, hv, h2, h3, h4, h5, h6, h7⟩
  · omega
  · simp only [Value.slice.injEq] at hv
    obtain ⟨rfl, _, rfl⟩ := hv
    refine ⟨g, rfl, h4, ⟨by simp, .inr ⟨g, cap, cur, rfl, h2, h3, by omega, h5, h6, ?_⟩⟩, ?_⟩
    · have e := congrArg (List.take l.length) h7
      rw [List.take_take, Nat.min_eq_left (by omega), ← List.map_take, List.take_left'  rfl] at e
      rw [Nat.mul_one]
      exact e
    · have := h'.cells (g := g) rfl l.length (iv x) (by simp)
      rw [own_addM] at this
      exact this
theorem IR.first {w : World} {b : Nat} (x : Int) (hb : b ≤ w.heap.size) : IR (w.alloc (.cells #[.int .i64 x] 3)) b (.slice (some ⟨w.heap.size, 0, none⟩) 1 1) [x] :=
  ⟨rfl, .inr ⟨w.heap.size, 1, #[.int .i64 x], rfl, hb, heap_alloc_new w _, Nat.le_refl _, by unfold maxLen; omega, rfl, rfl⟩⟩
theorem ownsRow_base_m {w : World} {b b' : Nat} {v : Value} {l : List Int} (h : IR w b v l) (hb : b' ≤ b) : IR w b' v l :=
  ⟨h.1, h.2.imp id fun ⟨g, cap, cur, h1, h2, h3⟩ => ⟨g, cap, cur, h1, Nat.le_trans hb h2, h3⟩⟩
def RcRel (p : PrO) (n q : Nat) (cs : List Value) (w0 : World) (gk : Nat) (v : Value) (wr : World) : Prop :=
  ∃ f st, gk = 2 * uns f n + st.length ∧ gk ≤ 2 * n + 1 ∧ Dfs p f st ∧ Bools wr q n f ∧ IR wr w0.heap.size v st ∧ Bx wr w0.heap.size 31 cs ∧ Below w0.heap.size w0 wr
def RcIn (p : PrO) (n q s : Nat) (ks : List ChO) (cs : List Value) (w0 : World) (gk : Nat) (v i : Value) (wr : World) : Prop :=
  ∃ j f st, i = .int .i64 ((j : Nat) : Int) ∧ j ≤ ks.length ∧ 2 * uns f n + st.length < gk ∧ DfsIn p s ks f st j 0 ∧ Bools wr q n f ∧ IR wr w0.heap.size v st ∧ Bx wr w0.heap.size 31 cs ∧ Below w0.heap.size w0 wr
def RcMv (p : PrO) (n q s j L : Nat) (ks : List ChO) (cs : List Value) (w0 : World) (gk : Nat) (v i : Value) (wr : World) : Prop :=
  ∃ k f st, i = .int .i64 ((k : Nat) : Int) ∧ k ≤ L ∧ 2 * uns f n + st.length < gk ∧ DfsIn p s ks f st j k ∧ Bools wr q n f ∧ IR wr w0.heap.size v st ∧ Bx wr w0.heap.size 31 cs ∧ Below w0.heap.size w0 wr
set_option maxHeartbeats 8000000 in
set_option maxRecDepth 100000 in
theorem reach_any {p : PrO} {v : PV} (w : World) (hp : PrM w v p) (hs : Sml p) : Calls Tryd.prog 15 #[.agg (v.l p).toArray] w (fun e w' => ∃ u, e = .returned u ∧ IR w' w.heap.size u (reachO p) ∧ Below w.heap.size w w') := by
  obtain ⟨i0, hi0, hz⟩ := Option.map_eq_some_iff.1 infoI
  simp only [Prod.mk.injEq] at hz
  obtain ⟨hz0, hz1, hz2⟩ := hz
  have HI := Lib.hid hi0
  have HZ0 := Lib.hid hz0
  have HZ1 := Lib.hid hz1
  have HZ2 := Lib.hid hz2
  obtain ⟨i1, hi1, hy⟩ := Option.map_eq_some_iff.1 infoB
  simp only [Prod.mk.injEq] at hy
  obtain ⟨hy0, hy1, hy2⟩ := hy
  have HJ := Lib.hid hi1
  have HY0 := Lib.hid hy0
  have HY1 := Lib.hid hy1
  have HY2 := Lib.hid hy2
  have HCH := Lib.hid hp.ch
  have HS := Lib.hid hs
  obtain ⟨n, hn⟩ : ∃ n, n = p.chs.length := ⟨_, rfl⟩
  have hn1 : n ≤ 1000000 := by rw [hn]; exact hs.ch
  have HN := Lib.hid hn
  have HRI := Lib.hid (fun (W : World) (hb : Below w.heap.size w W) => right_any W (hp.below hb) hs)
  change Hid (∀ (W : World) (hb : Below w.heap.size w W), Calls Tryd.prog 21 #[.agg #[.int .i64 p.init, .slice v.A p.chs.length v.a, .slice v.B p.nms.length v.b, .slice v.C p.hds.length v.c]] W (BoolP (decide p.right) W)) at HRI
  show Calls Tryd.prog 15 #[.agg #[.int .i64 p.init, .slice v.A p.chs.length v.a, .slice v.B p.nms.length v.b, .slice v.C p.hds.length v.c]] w _
  rw [← hn] at HRI ⊢
  clear hp hs hn hi0 hz0 hz1 hz2 hi1 hy0 hy1 hy2
  generalize p.nms.length = m at *
  generalize p.hds.length = N at *
  generalize v.B = vB at *
  generalize v.b = vb at *
  generalize v.C = vC at *
  generalize v.c = vc at *
  generalize v.a = va at *
  generalize v.A = vA at *
  obtain ⟨init, hinit⟩ : ∃ x, x = p.init := ⟨_, rfl⟩
  rw [← hinit] at HRI ⊢
  have HIN := Lib.hid hinit
  clear hinit
  have HWA := Lib.hid (below_alloc w (.cells #[.int .i64 init, .slice vA n va, .slice vB m vb, .slice vC N vc] 31))
  have HXA := Lib.hid (Bx.new w 31 [.int .i64 init, .slice vA n va, .slice vB m vb, .slice vC N vc])
  by_cases hr : p.right
  · have HR := Lib.hid hr
    have h0 := hr.2.2.1
    obtain ⟨s0, hs0⟩ := Int.eq_ofNat_of_zero_le (show 0 ≤ init by rw [HIN.out]; exact h0.1)
    subst hs0
    have hs0n : s0 < n := by have := HIN.out; have := HN.out; omega
    have HST := Lib.hid (Dfs.start hr HIN.out.symm)
    clear hr h0
    go_enter Tryd.func15, Tryd.ntmps15
    go_wp2_with fail
    with_reducible refine (HRI.out _ HWA.out).mono ?_
    rintro e w1 ⟨rfl, hb1⟩
    have HB1 := Lib.hid (below_t HWA.out hb1)
    have HX1 := Lib.hid (HXA.out.below hb1)
    obtain ⟨x0, x1, -, -⟩ := HX1.out.cells4
    have hz1 := HB1.out.size
    have hx1 := HX1.out.lt
    clear hb1
    rw [decide_eq_true HR.out]
    go_wp2_with (at_make; refine wpList_make_full _ rfl _ _ 73 rfl w1.heap.size 4 i1 (.bool false) 1 Tryd.underlying73 HJ.out HY0.out HY1.out .i64 .i64 (n : Int) (n : Int) n rfl rfl rfl rfl (by rw [HY2.out]; omega) (by unfold maxLen; omega) (Nat.le_refl _) ?_)
    intro w2 ho2 hg2
    rw [made_one] at ho2
    have HB12 := Lib.hid ((Below.refl w1.heap.size w1).grown hg2 (Nat.le_refl _) (fun k hk => by cases hk))
    have HB2 := Lib.hid (below_t HB1.out HB12.out)
    have HQ2 := Lib.hid (bools_made (owns_full ho2))
    have HX2 := Lib.hid (HX1.out.below HB12.out)
    obtain ⟨y0, y1, -, -⟩ := HX2.out.cells4
    have hqz := Bx.lt HQ2.out
    have c1 := HQ2.out.cell hs0n
    have f1 := Bx.frozen HQ2.out s0
    have hwq : w.heap.size < w1.heap.size := hx1
    clear ho2 hg2 x0 x1
    generalize w1.heap.size = q at *
    have HQ3 := Lib.hid (HQ2.out.set s0)
    have HX3 := Lib.hid (HX2.out.put (q' := q) (i := s0) (u := .bool true) (by omega))
    have HB3 := Lib.hid (HB2.out.setCell (p := ⟨q, s0, none⟩) hz1 (.bool true))
    have HF3 := Lib.hid (IR.first (w := w2.setCell ⟨q, s0, none⟩ (.bool true)) (b := w.heap.size) (s0 : Int) (by simp; omega))
    go_wp2
    go_loopg [4] (2 * uns (upd (fun _ => false) s0) n + 1) (fun gk v wr => RcRel p n q [.int .i64 (s0 : Int), .slice vA n va, .slice vB m vb, .slice vC N vc] w gk v wr)
    case atStart => exact ⟨_, _, rfl, by have := uns_le (upd (fun _ => false) s0) n; omega, HST.out, HQ3.out.below (below_alloc _ _), by have := HF3.out; simpa using this, HX3.out.below (below_alloc _ _), HB3.out.alloc (by simp; omega) _⟩
    case round =>
      obtain ⟨f, st, hgk, hgn, hdf, hq, hir, hx, hb⟩ := hrel
      clear HX1 HX2 HX3 HB1 HB2 HB3 HQ2 HQ3 HF3 HST y0 y1 c1 f1 hqz
      rcases List.eq_nil_or_concat st with rfl | ⟨st', x, rfl⟩
      · have HE := Lib.hid (show marks f n = reachO p by rw [HN.out]; exact hdf.all HR.out)
        obtain ⟨A, cap, rfl, -, -⟩ := own_isl hir
        have HQ := Lib.hid hq
        have HB := Lib.hid hb
        have HM := Lib.hid (marked_any (cap := n) wr hq hn1)
        clear hgk hgn hdf hq hir hx hb
        go_wp2_with fail
        with_reducible refine (HM.out).mono ?_
        rintro e w5 ⟨u, rfl, hu, hb5⟩
        have HU := Lib.hid hu
        have HB5 := Lib.hid (below_t HB.out hb5)
        have hz := HB.out.size
        clear hu hb5
        go_wp2
        go_ret
        exact ⟨_, rfl, by rw [← HE.out]; exact ownsRow_base_m HU.out hz, HB5.out⟩
      · rw [List.concat_eq_append] at hgk hdf hir
        obtain ⟨A0, cap, rfl, hcap, -⟩ := own_isl hir
        rw [List.length_append, List.length_singleton] at hir hgk ⊢
        obtain ⟨g, rfl, hcap2, hir', c4⟩ := hir.pop
        obtain ⟨s, rfl, hsn, hsf⟩ := hdf.on x (by simp)
        rw [← HN.out] at hsn
        have ks : s < p.chs.length := by rw [← HN.out]; exact hsn
        obtain ⟨gA, oA, B, cap1, hA, d1, hc1, hcl⟩ := HCH.out s ks
        subst hA
        have HCC := Lib.hid HCH
        clear HCH
        replace d1 := cell_blw hb d1
        have HSC := Lib.hid (show p.chs[s]? = some p.chs[s] from List.getElem?_eq_getElem ks)
        have HCL := Lib.hid hcl
        have HMV := Lib.hid (HS.out.mv _ (List.getElem_mem ks))
        have hlk : p.chs[s].length ≤ 1000000 := HS.out.cs _ (List.getElem_mem ks)
        have HRM := Lib.hid (HR.out.2.2.2.2.1 _ (List.getElem_mem ks)).2
        generalize p.chs[s] = cs at *
        have HDF := Lib.hid (hdf.enter (cs := cs))
        have HQ := Lib.hid hq
        have HIR := Lib.hid hir'
        have HX := Lib.hid hx
        have HB := Lib.hid hb
        obtain ⟨y0, y1, -, -⟩ := hx.cells4
        obtain ⟨ln, hln⟩ : ∃ ln, ln = st'.length := ⟨_, rfl⟩
        have HLN := Lib.hid hln
        obtain ⟨L, hL⟩ : ∃ L, L = cs.length := ⟨_, rfl⟩
        have HLL := Lib.hid hL
        rw [← hln] at c4 hcap2 hgk HIR ⊢
        rw [← hL] at d1 hc1 hlk
        clear hdf hq hir hir' hx hb hcl hln hL hcap hsf
        go_wp2_with fail
        go_loopw [4, 44] (fun v i wr => RcIn p n q s cs [.int .i64 (s0 : Int), .slice (some ⟨gA, oA, none⟩) n va, .slice vB m vb, .slice vC N vc] w gk v i wr) (fun _ i _ => L - (intOf i).toNat)
        case atStart => exact ⟨0, f, st', rfl, Nat.zero_le _, by have := HLN.out; omega, HDF.out, HQ.out, HIR.out, HX.out, HB.out⟩
        case round =>
          clear HIR HX HB HQ HDF HLN c4 hcap2 d1 y0 y1 hgk
          obtain ⟨j, f2, st2, rfl, hj, hms, hdf, hq, hir, hx, hb⟩ := hrel
          have HDF := Lib.hid hdf
          have HQ := Lib.hid hq
          have HIR := Lib.hid hir
          have HX := Lib.hid hx
          have HB := Lib.hid hb
          have hwz := hb.size
          clear hdf hq hx hb
          obtain ⟨A2, cap2, rfl, -, -⟩ := own_isl hir
          clear hir
          by_cases hjl : j < L
          · have e1 : decide (j < L) = true := by simp; omega
            have jj : j < cs.length := by rw [← HLL.out]; exact hjl
            obtain ⟨g2, o2, B2, cap3, rfl, k1, k2, hc3, hml⟩ := HCL.out j jj
            replace k1 := cell_blw HB.out k1
            replace k2 := cell_blw HB.out k2
            have k2' := k2
            rw [← Nat.add_assoc] at k2'
            have HML := Lib.hid hml
            have hmk : cs[j].mv.length ≤ 1000000 := HMV.out _ (List.getElem_mem jj)
            have HMR := Lib.hid (HRM.out _ (List.getElem_mem jj)).2.2
            have HNX := Lib.hid (fun (f : Nat → Bool) (st : List Int) (k : Nat) (h : DfsIn p s cs f st j k) => h.next jj)
            have HSK := Lib.hid (fun (f : Nat → Bool) (st : List Int) (k : Nat) (h : DfsIn p s cs f st j k) => h.skip jj)
            have HMA := Lib.hid (fun (f : Nat → Bool) (st : List Int) (k : Nat) (h : DfsIn p s cs f st j k) => h.mark HSC.out ks jj)
            have HCX := Lib.hid HCL
            clear HCL hml
            generalize cs[j] = ch at *
            obtain ⟨M, hM⟩ : ∃ M, M = ch.mv.length := ⟨_, rfl⟩
            have HMM := Lib.hid hM
            rw [← hM] at k2 k2' hc3 hmk
            clear hM hj
            go_wp2_with fail
            go_loopw [4, 51] (fun v i wr => RcMv p n q s j M cs [.int .i64 (s0 : Int), .slice (some ⟨gA, oA, none⟩) n va, .slice vB m vb, .slice vC N vc] w gk v i wr) (fun _ i _ => M - (intOf i).toNat)
            case atStart => exact ⟨0, f2, st2, rfl, Nat.zero_le _, hms, HDF.out, HQ.out.below (below_alloc _ _), HIR.out.below (below_alloc _ _), HX.out.below (below_alloc _ _), HB.out.alloc hwz _⟩
            case round =>
              clear HIR HX HB HQ HDF k1 k2 k2' hms hwz
              obtain ⟨k, f3, st3, rfl, hk, hms, hdf, hq, hir, hx, hb⟩ := hrel
              have HDF := Lib.hid hdf
              have HQ := Lib.hid hq
              have HIR := Lib.hid hir
              have HX := Lib.hid hx
              have HB := Lib.hid hb
              have hwz := hb.size
              have hqz := Bx.lt hq
              clear hdf hq hx hb
              obtain ⟨A3, cap5, rfl, -, -⟩ := own_isl hir
              clear hir
              by_cases hkl : k < M
              · have e2 : decide (k < M) = true := by simp; omega
                have kk : k < ch.mv.length := by rw [← HMM.out]; exact hkl
                obtain ⟨g4, o4, rfl, m1, m2⟩ := HML.out k kk
                replace m1 := cell_blw HB.out m1
                replace m2 := cell_blw HB.out m2
                have m2' := m2
                rw [← Nat.add_assoc] at m2'
                have hto := HMR.out _ (List.getElem_mem kk)
                have HSK2 := Lib.hid (fun t ht hf => HSK.out f3 st3 k HDF.out kk (t := t) ht hf)
                have HMA2 := Lib.hid (fun t ht htl => HMA.out f3 st3 k HDF.out kk (t := t) ht htl)
                have HMX := Lib.hid HML
                clear HML
                generalize ch.mv[k] = mv at *
                obtain ⟨mto, mwt⟩ := mv
                simp only at m1 m2 m2' hto HSK2 HMA2
                obtain ⟨t, rfl⟩ := Int.eq_ofNat_of_zero_le hto.1
                have htn : t < n := by have := HN.out; omega
                have c5 := HQ.out.cell htn
                have f5 := Bx.frozen HQ.out t
                clear hto
                cases hf : f3 t with
                | true =>
                  rw [hf] at c5
                  have HD2 := Lib.hid (HSK2.out t rfl hf)
                  clear hf hk
                  go_wp2_with fail
                  go_roundw
                  case rel => exact ⟨k + 1, f3, st3, by go_num, by omega, hms, HD2.out, HQ.out.below (below_alloc _ _), HIR.out.below (below_alloc _ _), HX.out.below (below_alloc _ _), HB.out.alloc hwz _⟩
                  case measure => simp [intOf]; omega
                | false =>
                  rw [hf] at c5
                  have HD2 := Lib.hid (HMA2.out t rfl (by rw [← HN.out]; exact htn))
                  have hun := uns_upd hf htn
                  have HQ5 := Lib.hid (HQ.out.set t)
                  have HX5 := Lib.hid (HX.out.put (q' := q) (i := t) (u := .bool true) (by omega))
                  have HB5 := Lib.hid (HB.out.setCell (p := ⟨q, t, none⟩) hz1 (.bool true))
                  have hz5 : w.heap.size ≤ (wr.setCell ⟨q, t, none⟩ (.bool true)).heap.size := HB5.out.size
                  have HBA := Lib.hid ((below_alloc (wr.setCell ⟨q, t, none⟩ (.bool true)) (.cells #[.int .i64 (t : Int), .int .i64 mwt] 60)))
                  have HIA := Lib.hid ((HIR.out.put (i := t) (u := .bool true) HQ.out (by decide)).below HBA.out)
                  have HQA := Lib.hid (HQ5.out.below HBA.out)
                  have HXA5 := Lib.hid (HX5.out.below HBA.out)
                  have HBB := Lib.hid (below_t HB5.out HBA.out)
                  have hsz : ((wr.setCell ⟨q, t, none⟩ (.bool true)).alloc (.cells #[.int .i64 (t : Int), .int .i64 mwt] 60)).heap.size = wr.heap.size + 1 := by simp
                  have HO := Lib.hid (show (((wr.setCell ⟨q, t, none⟩ (.bool true)).alloc (.cells #[.int .i64 (t : Int), .int .i64 mwt] 60)).alloc (.cells #[.int .i64 (t : Int)] 3)).ownsRow w.heap.size 3 1 (.slice A3 st3.length cap5) st3.length (st3.map iv) from HIA.out.below (below_alloc _ _))
                  have hstl : st3.length ≤ 2000001 := by omega
                  clear hf hk
                  go_wp2_with (at_builtin; refine wpList_append_lies _ rfl _ _ 36 rfl w.heap.size 3 i0 (.int .i64 0) 1 8 Tryd.underlying36 HI.out HZ0.out HZ1.out HZ2.out rfl (by decide) _ _ _ rfl HO.out ⟨wr.heap.size + 1, 0, none⟩ 1 1 [.int .i64 (t : Int)] rfl rfl ?c1 ?c2 (by omega) ?c3 ?c4 ?c5 (wr.heap.size + 1 + 1) (by simp) ?_)
                  case c1 => rw [← hsz]; exact lies_int
                  case c2 => exact one_int
                  case c3 => unfold maxLen; omega
                  case c4 => omega
                  case c5 => simp; omega
                  intro g7 cap7 w7 hown hgrow hat hlt7
                  have HQ7 := Lib.hid (Bx.grown (HQA.out.below (below_alloc _ _)) HO.out hgrow (by decide))
                  have HX7 := Lib.hid (Bx.grown (HXA5.out.below (below_alloc _ _)) HO.out hgrow (by decide))
                  have HB7 := Lib.hid ((below_t HBB.out (below_alloc _ (.cells #[.int .i64 (t : Int)] 3))).grown hgrow (by simp; omega) (fun y hy => (HO.out.lt y hy).1))
                  have HI7 := Lib.hid (IR.snoc hown)
                  clear hown hgrow hat HO HQ5 HX5 HB5 HBA HIA HQA HXA5 HBB HSK2 HMA2
                  go_wp2
                  go_roundw
                  case rel => exact ⟨k + 1, upd f3 t, st3 ++ [(t : Int)], by go_num, by omega, by rw [List.length_append, List.length_singleton]; omega, HD2.out, HQ7.out, HI7.out, HX7.out, HB7.out⟩
                  case measure => simp [intOf]; omega
              · have e2 : decide (k < M) = false := by simp; omega
                have HD2 := Lib.hid (HNX.out f3 st3 k HDF.out (by rw [← HMM.out]; omega))
                clear hkl hk
                go_wp2
                go_roundw
                case rel => exact ⟨j + 1, f3, st3, by go_num, by omega, hms, HD2.out, HQ.out, HIR.out, HX.out, HB.out⟩
                case measure => simp [intOf]; omega
          · have e1 : decide (j < L) = false := by simp; omega
            have HD2 := Lib.hid (HDF.out.leave HSC.out (by rw [← HLL.out]; omega))
            clear hjl hj
            go_wp2
            go_roundg (2 * uns f2 n + st2.length)
            case measure => exact hms
            case rel => exact ⟨f2, st2, rfl, by omega, HD2.out, HQ.out, HIR.out, HX.out, HB.out⟩
  · have HR := Lib.hid (show reachO p = [] from if_neg hr)
    have HD := Lib.hid (decide_eq_false hr)
    clear hr
    rw [HR.out]
    go_enter Tryd.func15, Tryd.ntmps15
    go_wp2_with fail
    with_reducible refine (HRI.out _ HWA.out).mono ?_
    rintro e w1 ⟨rfl, hb1⟩
    have HB1 := Lib.hid (below_t HWA.out hb1)
    clear hb1
    rw [HD.out]
    go_wp2
    go_ret
    exact ⟨_, rfl, IR.nil _ _, HB1.out⟩
end Go.Proofs.YtkgjpimapfmeoaaDoor
