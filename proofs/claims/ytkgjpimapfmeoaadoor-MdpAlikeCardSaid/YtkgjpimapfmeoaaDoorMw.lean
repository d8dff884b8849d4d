/-
  One choice of an owned process stored anew, then read only; one more choice, one that is there.
-/
import Derived.Test.YtkgjpimapfmeoaaDoorMu
namespace Go.Proofs.YtkgjpimapfmeoaaDoor
open Go.RowKit

theorem MSl.wr {w w' : World} {g : Nat} {A : Option Addr} {l : List MvO} (h : MSl w A l) (hw : Wr g w w') (hA : ∀ a, A = some a → a.block ≠ g) : MSl w' A l := fun i hi => by
  obtain ⟨g', o, h1, h2, h3⟩ := h i hi
  have hne : g' ≠ g := hA _ h1
  exact ⟨g', o, h1, (World.cell?_of_block (w := w) (a := ⟨g', o + i * 2, none⟩) (hw.2 g' hne)).trans h2, (World.cell?_of_block (w := w) (a := ⟨g', o + (i * 2 + 1), none⟩) (hw.2 g' hne)).trans h3⟩
theorem PrI.put {w : World} {lo hi i j : Nat} {v : PV} {p : PrO} (h : PrI w lo hi v p) (hi' : i < p.chs.length) (hj : j < p.chs[i].length) :
    ∃ g gc cap A3 cap3, v.A = some ⟨g, 0, none⟩ ∧ lo ≤ gc ∧ gc < hi ∧ w.cell? ⟨g, i, none⟩ = some (.slice (some ⟨gc, 0, none⟩) p.chs[i].length cap) ∧ w.cell? ⟨gc, j * 2, none⟩ = some (.string p.chs[i][j].act) ∧
      w.cell? ⟨gc, j * 2 + 1, none⟩ = some (.slice A3 p.chs[i][j].mv.length cap3) ∧ p.chs[i][j].mv.length ≤ cap3 ∧ MSl w A3 p.chs[i][j].mv ∧ (∃ cur, w.heap[gc]? = some (.cells cur 49 (0, 0))) ∧ (∀ a, A3 = some a → a.block ≠ gc) ∧ g ≠ gc ∧ (0 < p.chs[i][j].mv.length → ∃ gm, A3 = some ⟨gm, 0, none⟩) ∧
      ∀ w' (c' : ChO) cap', Wr gc w w' → (∀ x, x ≠ j * 2 → x ≠ j * 2 + 1 → w'.cell? ⟨gc, x, none⟩ = w.cell? ⟨gc, x, none⟩) → w'.cell? ⟨gc, j * 2, none⟩ = some (.string c'.act) → w'.cell? ⟨gc, j * 2 + 1, none⟩ = some (.slice A3 c'.mv.length cap') → c'.mv.length ≤ cap' → MSl w' A3 c'.mv →
        PrM w' v (rowO p i (p.chs[i].set j c')) := by
  obtain ⟨g, l, r, B, cap, rc, cur0, hg, hlg, hgh, b1, b2, b3, hc, hcur0, hm, hob, hli, hre⟩ := h.row hi'
  obtain ⟨a1, _, a2, a3⟩ := own_cells hm
  obtain ⟨gc, rfl⟩ := a2 (by omega)
  obtain ⟨cur, hgc⟩ := own_heap hm
  have hgl := (hm.lt gc rfl).1
  have hgr := hob gc rfl
  obtain ⟨l2, r2', c, s1, s2, c1, c2, c3, ⟨A3, cap3, rfl, hmv, hob3⟩, hrc, hr, hre2⟩ := hli.at2 chI_len hj
  have hA3 : ∀ a, A3 = some a → a.block ≠ gc := by
    rintro a rfl e
    have := own_other (cs := cur) hmv hgc (by decide)
    exact this (by rw [← e]; rfl)
  have hggc : g ≠ gc := by
    rintro rfl
    rw [hcur0] at hgc
    injection hgc with hgc
    injection hgc with _ hgc
    exact absurd hgc (by decide)
  obtain ⟨d1, _, d2, _⟩ := own_cells hmv
  refine ⟨g, gc, cap, A3, cap3, hg, by omega, by omega, hc, ?_, ?_, d1, msl_of hmv, ⟨cur, hgc⟩, hA3, hggc, d2, fun w' c' cap' hw hoth h1 h2 h3 h4 => ?_⟩
  · exact a3 gc rfl (j * 2 + 0) _ (by rw [hrc]; exact (mid_get hr (by simp)).trans rfl)
  · exact a3 gc rfl (j * 2 + 1) _ (by rw [hrc]; exact (mid_get hr (by simp)).trans rfl)
  · have hgsame := hw.2 g hggc
    refine hre w' (some ⟨gc, 0, none⟩) (p.chs[i].set j c') cap ?_ (fun x _ => World.cell?_of_block (w := w) (a := ⟨g, x, none⟩) hgsame) ?_ (by rw [List.length_set]; exact a1) ?_
    · intro k cur' t k1 k2 k3 k4 k5
      refine (hw.2 k ?_).trans k3
      rintro rfl
      rw [hgc] at k3
      injection k3 with k3
      injection k3 with _ k3
      exact (k5 hgl hgr).1 k3.symm
    · rw [List.length_set]
      exact (World.cell?_of_block (w := w) (a := ⟨g, i, none⟩) hgsame).trans hc
    · intro x hx
      have hx' : x < p.chs[i].length := by simpa using hx
      by_cases e : j = x
      · subst e
        rw [List.getElem_set_self]
        exact ⟨gc, 0, A3, cap', rfl, by rw [Nat.zero_add]; exact h1, by rw [Nat.zero_add]; exact h2, h3, h4⟩
      · rw [List.getElem_set_ne e]
        obtain ⟨l3, r3, c3', t1, t2, _, _, _, ⟨A4, cap4, rfl, hm4, _⟩, hrc4, hr4, _⟩ := hli.at2 chI_len hx'
        have hm4' := hw.own hm4 hgc (by decide)
        refine ⟨gc, 0, A4, cap4, rfl, ?_, ?_, (own_cells hm4).1, msl_of hm4'⟩
        · rw [Nat.zero_add, hoth _ (by omega) (by omega)]
          exact a3 gc rfl (x * 2 + 0) _ (by rw [hrc4]; exact (mid_get hr4 (by simp)).trans rfl)
        · rw [Nat.zero_add, hoth _ (by omega) (by omega)]
          exact a3 gc rfl (x * 2 + 1) _ (by rw [hrc4]; exact (mid_get hr4 (by simp)).trans rfl)
theorem bx_set {w : World} {gc : Nat} {t : TypeId} {cur : Array Value} (hcur : w.heap[gc]? = some (.cells cur t (0, 0))) (k : Nat) (u : Value) : (∀ x, x ≠ k → (w.setCell ⟨gc, k, none⟩ u).drew.cell? ⟨gc, x, none⟩ = w.cell? ⟨gc, x, none⟩) ∧ (∀ v, w.cell? ⟨gc, k, none⟩ = some v → (w.setCell ⟨gc, k, none⟩ u).drew.cell? ⟨gc, k, none⟩ = some u) := by
  have hb : Bx w gc t cur.toList := hcur
  have hb2 : Bx (w.setCell ⟨gc, k, none⟩ u).drew gc t (cur.toList.set k u) := (hb.set k u).below ((Below.refl _ _).drew)
  refine ⟨fun x hx => ?_, fun v hv => ?_⟩
  · rw [hb2.cell x, hb.cell x, List.getElem?_set_ne (Ne.symm hx)]
  · rw [hb.cell k] at hv
    rw [hb2.cell k, List.getElem?_set_self (List.getElem?_eq_some_iff.1 hv).1]
theorem sml_rowO {p : PrO} {i : Nat} {cs : List ChO} (h : Sml p) (h1 : cs.length ≤ 1000000) (h2 : ∀ c ∈ cs, c.mv.length ≤ 1000000) : Sml (rowO p i cs) := by
  refine ⟨by simp [rowO]; exact h.ch, fun cs' hc => ?_, fun cs' hc c hcc => ?_, h.nm, h.hd, h.hs⟩
  · rcases List.mem_or_eq_of_mem_set hc with hc | rfl
    · exact h.cs cs' hc
    · exact h1
  · rcases List.mem_or_eq_of_mem_set hc with hc | rfl
    · exact h.mv cs' hc c hcc
    · exact h2 c hcc
theorem sml_chO {p : PrO} {i j : Nat} (hi : i < p.chs.length) {c : ChO} (h : Sml p) (h2 : c.mv.length ≤ 1000000) : Sml (rowO p i (p.chs[i].set j c)) := by
  refine sml_rowO h (by rw [List.length_set]; exact h.cs _ (List.getElem_mem hi)) fun c' hc' => ?_
  rcases List.mem_or_eq_of_mem_set hc' with hc' | rfl
  · exact h.mv _ (List.getElem_mem hi) _ hc'
  · exact h2
theorem MSl.take {w : World} {A : Option Addr} {l : List MvO} (h : MSl w A l) (n : Nat) : MSl w A (l.take n) := fun i hi => by
  have hi' : i < l.length := by rw [List.length_take] at hi; omega
  obtain ⟨g, o, h1, h2, h3⟩ := h i hi'
  exact ⟨g, o, h1, by rw [List.getElem_take]; exact h2, by rw [List.getElem_take]; exact h3⟩
/-- One choice more, one that is there already. -/
theorem more_mem {w wA w5 : World} {lo hi i g g5 cap5 l r cap cap0 : Nat} {B A0 : Option Addr} {rc : List Value} {cur : Array Value} {v : PV} {p : PrO}
    (hA : Below w.heap.size w wA) (hh : hi ≤ w.heap.size) (hlo : lo ≤ l) (hrh : r ≤ hi) (hlg : lo ≤ g) (hgh : g < hi) (hcur : w.heap[g]? = some (.cells cur 50 (0, 0))) (hi' : i < p.chs.length) (h0 : 0 < p.chs[i].length)
    (hc : w.cell? ⟨g, i, none⟩ = some (.slice B p.chs[i].length cap)) (hm : w.ownsRow l 49 2 (.slice B p.chs[i].length cap) p.chs[i].length rc) (hob : OwnB (.slice B p.chs[i].length cap) r) (hli : LI (ChI w) l r p.chs[i] rc)
    (hr1 : rc[1]? = some (.slice A0 p.chs[i][0].mv.length cap0))
    (hre : ∀ w' B' cs' cap', Fr l r lo hi w w' → (∀ j, j ≠ i → w'.cell? ⟨g, j, none⟩ = w.cell? ⟨g, j, none⟩) → w'.cell? ⟨g, i, none⟩ = some (.slice B' (List.length cs') cap') → cs'.length ≤ cap' → CSl w' B' cs' → PrM w' v (rowO p i cs'))
    (hg5 : wA.grownBy w5 (Value.slice B p.chs[i].length cap).ownBlock)
    (ho5 : w5.ownsRow l 49 2 (.slice (some ⟨g5, 0, none⟩) (p.chs[i].length + 1) cap5) (p.chs[i].length + 1) (rc ++ [.string p.chs[i][0].act, .slice A0 p.chs[i][0].mv.length cap0])) :
    PrM (w5.setCell ⟨g, i, none⟩ (.slice (some ⟨g5, 0, none⟩) (p.chs[i].length + 1) cap5)) v (rowO p i (p.chs[i] ++ [p.chs[i][0]])) ∧ Below lo w (w5.setCell ⟨g, i, none⟩ (.slice (some ⟨g5, 0, none⟩) (p.chs[i].length + 1) cap5)) := by
  obtain ⟨f1, f2, f3, f4, f5, f6⟩ := grow_frame (k := i) (u := .slice (some ⟨g5, 0, none⟩) (p.chs[i].length + 1) cap5) hA hh hlo hlg hgh hcur hm hob hg5
  refine ⟨?_, f5⟩
  have hbx : Bx w5 g 50 cur.toList := f6
  have ho6 : (w5.setCell ⟨g, i, none⟩ (.slice (some ⟨g5, 0, none⟩) (p.chs[i].length + 1) cap5)).ownsRow l 49 2 (.slice (some ⟨g5, 0, none⟩) (p.chs[i].length + 1) cap5) (p.chs[i].length + 1) (rc ++ [.string p.chs[i][0].act, .slice A0 p.chs[i][0].mv.length cap0]) :=
    own_kept ho5 fun q hq => Below.heap_setCell _ _ _ _ (by
      show q ≠ g
      rintro rfl
      exact own_other ho5 hbx (by decide) hq.symm)
  have hli6 : LI (ChI (w5.setCell ⟨g, i, none⟩ (.slice (some ⟨g5, 0, none⟩) (p.chs[i].length + 1) cap5))) l r p.chs[i] rc := hli.imp fun l' h' a c hl hh' hp => hp.keep fun q cs t q1 q2 q3 q4 => f2 q cs t (by omega) (by have : t = 60 := q3; rw [this]; decide) (by have : t = 60 := q3; rw [this]; decide) q4
  have hcell := f4 _ hc
  clear f2 f4 f5
  generalize w5.setCell ⟨g, i, none⟩ (.slice (some ⟨g5, 0, none⟩) (p.chs[i].length + 1) cap5) = w6 at *
  have hrl : rc.length = p.chs[i].length * 2 := hm.1
  obtain ⟨k1, _, _, k3⟩ := own_cells ho6
  have hat : ∀ x (hx : x < p.chs[i].length), ∃ A4 cap4, rc[x * 2]? = some (.string p.chs[i][x].act) ∧ rc[x * 2 + 1]? = some (.slice A4 p.chs[i][x].mv.length cap4) ∧ p.chs[i][x].mv.length ≤ cap4 ∧ MSl w6 A4 p.chs[i][x].mv := fun x hx => by
    obtain ⟨l3, r3, c3', t1, t2, _, _, _, ⟨A4, cap4, rfl, hm4, _⟩, hrc4, hr4, _⟩ := hli6.at2 chI_len hx
    exact ⟨A4, cap4, by rw [hrc4]; exact (mid_get (j := 0) hr4 (by simp)).trans rfl, by rw [hrc4]; exact (mid_get hr4 (by simp)).trans rfl, (own_cells hm4).1, msl_of hm4⟩
  obtain ⟨A1, cap1, e0, e1, e2, e3⟩ := hat 0 h0
  rw [hr1] at e1
  injection e1 with e1
  simp only [Value.slice.injEq] at e1
  obtain ⟨rfl, _, rfl⟩ := e1
  refine hre w6 (some ⟨g5, 0, none⟩) (p.chs[i] ++ [p.chs[i][0]]) cap5 f1 f3 (by rw [hcell]; simp) (by simpa using k1) ?_
  intro x hx
  by_cases hxl : x < p.chs[i].length
  · obtain ⟨A4, cap4, q1, q2, q3, q4⟩ := hat x hxl
    rw [List.getElem_append_left hxl]
    refine ⟨g5, 0, A4, cap4, rfl, ?_, ?_, q3, q4⟩
    · rw [Nat.zero_add]
      exact k3 g5 rfl _ _ (by rw [List.getElem?_append_left (by omega)]; exact q1)
    · rw [Nat.zero_add]
      exact k3 g5 rfl _ _ (by rw [List.getElem?_append_left (by omega)]; exact q2)
  · have hxe : x = p.chs[i].length := by simp at hx; omega
    subst hxe
    have e : (p.chs[i] ++ [p.chs[i][0]])[p.chs[i].length]'hx = p.chs[i][0] := by rw [List.getElem_append_right (Nat.le_refl _)]; simp
    rw [e]
    refine ⟨g5, 0, A0, cap0, rfl, ?_, ?_, e2, e3⟩
    · rw [Nat.zero_add]
      exact k3 g5 rfl _ _ (by rw [List.getElem?_append_right (by omega), hrl, Nat.sub_self]; rfl)
    · rw [Nat.zero_add]
      exact k3 g5 rfl _ _ (by rw [List.getElem?_append_right (by omega), hrl, show p.chs[i].length * 2 + 1 - p.chs[i].length * 2 = 1 by omega]; rfl)
end Go.Proofs.YtkgjpimapfmeoaaDoor
