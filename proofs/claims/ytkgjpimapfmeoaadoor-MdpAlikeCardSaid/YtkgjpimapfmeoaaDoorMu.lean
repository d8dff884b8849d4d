/-
  One choice of an owned process laid anew: in place, or read only.
-/
import Derived.Test.YtkgjpimapfmeoaaDoorMo
import Derived.Test.YtkgjpimapfmeoaaDoorMt
namespace Go.Proofs.YtkgjpimapfmeoaaDoor
open Go.RowKit

/-- A cell of a row of one's own, stored anew. -/
theorem own_set {w : World} {b g n cap sz i : Nat} {t : TypeId} {cs : List Value} {u : Value} (h : w.ownsRow b t sz (.slice (some ⟨g, 0, none⟩) n cap) n cs) (hi : i < cs.length) : (w.setCell ⟨g, i, none⟩ u).ownsRow b t sz (.slice (some ⟨g, 0, none⟩) n cap) n (cs.set i u) := by
  refine ⟨by rw [List.length_set]; exact h.1, ?_⟩
  rcases h.2 with ⟨hv, _⟩ | ⟨g', cap', cur, hv, hb, hh, hn, hm, hs, ht⟩
  · cases hv
  · simp only [Value.slice.injEq, Option.some.injEq, Addr.mk.injEq] at hv
    obtain ⟨⟨rfl, _, _⟩, _, rfl⟩ := hv
    have hx : Bx w g t cur.toList := hh
    have hy := hx.set i u
    refine .inr ⟨g, cap, (cur.toList.set i u).toArray, rfl, hb, hy, hn, hm, by simp [hs], ?_⟩
    rw [← ht]
    have hi' : i < n * sz := by rw [← h.1]; exact hi
    simp only [List.take_set]
/-- All blocks but one are as they were. -/
def Wr (g : Nat) (w w' : World) : Prop := Below 0 w w' ∧ ∀ q, q ≠ g → w'.heap[q]? = w.heap[q]?
section
variable {g : Nat} {w w' w'' : World}
theorem Wr.refl (g : Nat) (w : World) : Wr g w w := ⟨Below.refl _ _, fun _ _ => rfl⟩
theorem Wr.trans (h : Wr g w w') (k : Wr g w' w'') : Wr g w w'' := ⟨h.1.trans k.1, fun q hq => (k.2 q hq).trans (h.2 q hq)⟩
theorem Wr.drew (h : Wr g w w') : Wr g w w'.drew := ⟨h.1.drew, h.2⟩
theorem Wr.set (h : Wr g w w') (i : Nat) (u : Value) : Wr g w (w'.setCell ⟨g, i, none⟩ u) := ⟨h.1.setCell (Nat.zero_le _) u, fun q hq => (Below.heap_setCell _ _ _ _ hq).trans (h.2 q hq)⟩
theorem Wr.below (h : Wr g w w') {B : Nat} (hB : B ≤ g) : Below B w w' := ⟨h.1.os, h.1.tape, h.1.output, h.1.size, fun k hk => h.2 k (by omega)⟩
theorem Wr.bx (h : Wr g w w') {q : Nat} {t : TypeId} {cs : List Value} (hb : Bx w q t cs) (hq : q ≠ g) : Bx w' q t cs := (h.2 q hq).trans hb
theorem Wr.own (h : Wr g w w') {b sz n : Nat} {t e : TypeId} {v : Value} {cs : List Value} {cur : Array Value} (ho : w.ownsRow b t sz v n cs) (hg : w.heap[g]? = some (.cells cur e (0, 0))) (hte : t ≠ e) : w'.ownsRow b t sz v n cs :=
  own_kept ho fun q hq => h.2 q (by rintro rfl; exact own_other (cs := cur) ho hg hte hq.symm)
end
theorem own_heap {w : World} {b g n cap sz : Nat} {t : TypeId} {cs : List Value} (h : w.ownsRow b t sz (.slice (some ⟨g, 0, none⟩) n cap) n cs) : ∃ cur, w.heap[g]? = some (.cells cur t (0, 0)) := by
  rcases h.2 with ⟨hv, _⟩ | ⟨g', cap', cur, hv, _, hh, _, _, _, _⟩
  · cases hv
  · simp only [Value.slice.injEq, Option.some.injEq, Addr.mk.injEq] at hv
    obtain ⟨⟨rfl, _, _⟩, _, rfl⟩ := hv
    exact ⟨cur, hh⟩
/-- One state's row of an owned process, and the process with that row anew, its choices where they were. -/
theorem PrI.rowI {w : World} {lo hi i : Nat} {v : PV} {p : PrO} (h : PrI w lo hi v p) (hi' : i < p.chs.length) :
    ∃ g l r B cap rc, v.A = some ⟨g, 0, none⟩ ∧ lo ≤ l ∧ l ≤ r ∧ r ≤ hi ∧ w.cell? ⟨g, i, none⟩ = some (.slice B p.chs[i].length cap) ∧
      w.ownsRow l 49 2 (.slice B p.chs[i].length cap) p.chs[i].length rc ∧ OwnB (.slice B p.chs[i].length cap) r ∧ LI (ChI w) l r p.chs[i] rc ∧
      ∀ w' cs' gm cur, lo ≤ l → Wr gm w w' → l ≤ gm → gm < r → w.heap[gm]? = some (.cells cur 60 (0, 0)) → List.length cs' = p.chs[i].length → LI (ChI w') l r cs' rc → PrI w' lo hi v (rowO p i cs') := by
  obtain ⟨⟨rc0, h1, h2, h3⟩, ⟨h4, h5⟩, ⟨rh, h6, h7, h8⟩⟩ := h
  obtain ⟨a1, _, a2, a3⟩ := own_cells h1
  obtain ⟨g, hg⟩ := a2 (by omega)
  obtain ⟨l, r, c, r1, r2, b1, b2, b3, ⟨B, cap, rc, rfl, hm, hob2, hli⟩, rfl, hr, hre⟩ := h3.at2 stI_len hi'
  rw [Nat.mul_one] at hr
  refine ⟨g, l, r, B, cap, rc, hg, b1, b2, b3, ?_, hm, hob2, hli, fun w' cs' gm cur hlo hw hgl hgr hgm hlen hli' => ?_⟩
  · exact a3 g hg (i + 0) _ ((mid_get hr (by simp)).trans rfl)
  · have hne : ∀ k cur' t, w.heap[k]? = some (.cells cur' t (0, 0)) → (t ≠ 60 ∨ k < l ∨ r ≤ k) → w'.heap[k]? = some (.cells cur' t (0, 0)) := fun k cur' t hk ht => by
      refine (hw.2 k ?_).trans hk
      rintro rfl
      rw [hgm] at hk
      injection hk with hk
      injection hk with _ hk
      rcases ht with ht | ht
      · exact ht hk.symm
      · omega
    have hL := hre (StI w') cs' [.slice B p.chs[i].length cap] (fun l' h' a c ho hl hh hp => hp.keep fun k cur t k1 k2 k3 k4 => hne k cur t k4 (by omega)) ⟨B, cap, rc, by rw [hlen], by rw [hlen]; exact hw.own hm hgm (by decide), by rw [hlen]; exact hob2, hli'⟩
    have e : (p.chs.set i cs').length = p.chs.length := by simp
    refine ⟨⟨_, ?_, ?_, hL⟩, ⟨hw.own h4 hgm (by decide), h5⟩, ⟨rh, hw.own h6 hgm (by decide), h7, h8.imp fun l h a c hl hh hp => hp.keep fun k cur t k1 k2 k3 k4 => hne k cur t k4 (.inl (by rw [k3]; decide))⟩⟩
    · show w'.ownsRow lo 50 1 (.slice v.A (p.chs.set i cs').length v.a) (p.chs.set i cs').length _
      rw [e]
      exact hw.own h1 hgm (by decide)
    · show OwnB (.slice v.A (p.chs.set i cs').length v.a) hi
      rw [e]
      exact h2
/-- One choice of an owned process: where it lies, and the process with its moves stored anew in their place. -/
theorem PrI.focus {w : World} {lo hi i j : Nat} {v : PV} {p : PrO} (h : PrI w lo hi v p) (hi' : i < p.chs.length) (hj : j < p.chs[i].length) (h0 : 0 < p.chs[i][j].mv.length) :
    ∃ g gc cap gm l2 cap3, v.A = some ⟨g, 0, none⟩ ∧ lo ≤ gm ∧ gm < hi ∧ w.cell? ⟨g, i, none⟩ = some (.slice (some ⟨gc, 0, none⟩) p.chs[i].length cap) ∧ w.cell? ⟨gc, j * 2 + 1, none⟩ = some (.slice (some ⟨gm, 0, none⟩) p.chs[i][j].mv.length cap3) ∧
      w.ownsRow l2 60 2 (.slice (some ⟨gm, 0, none⟩) p.chs[i][j].mv.length cap3) p.chs[i][j].mv.length (mvc p.chs[i][j].mv) ∧
      ∀ w' (mv' : List MvO), Wr gm w w' → mv'.length = p.chs[i][j].mv.length → w'.ownsRow l2 60 2 (.slice (some ⟨gm, 0, none⟩) p.chs[i][j].mv.length cap3) p.chs[i][j].mv.length (mvc mv') → PrI w' lo hi v (rowO p i (p.chs[i].set j ⟨p.chs[i][j].act, mv'⟩)) := by
  obtain ⟨g, l, r, B, cap, rc, hg, b1, b2, b3, hc, hm, hob, hli, hre⟩ := h.rowI hi'
  obtain ⟨_, _, a2, a3⟩ := own_cells hm
  obtain ⟨gc, rfl⟩ := a2 (by omega)
  obtain ⟨l2, r2', c, s1, s2, c1, c2, c3, ⟨A3, cap3, rfl, hmv, hob3⟩, rfl, hr, hre2⟩ := hli.at2 chI_len hj
  obtain ⟨_, _, d2, _⟩ := own_cells hmv
  obtain ⟨gm, rfl⟩ := d2 h0
  obtain ⟨cur, hgm⟩ := own_heap hmv
  have hgl := (hmv.lt gm rfl).1
  have hgr := hob3 gm rfl
  refine ⟨g, gc, cap, gm, l2, cap3, hg, by omega, by omega, hc, ?_, hmv, fun w' mv' hw hlen ho => ?_⟩
  · exact a3 gc rfl (j * 2 + 1) _ ((mid_get hr (by simp)).trans rfl)
  · refine hre w' _ gm cur b1 hw (by omega) (by omega) hgm (by simp) ?_
    refine hre2 (ChI w') ⟨p.chs[i][j].act, mv'⟩ [.string p.chs[i][j].act, .slice (some ⟨gm, 0, none⟩) p.chs[i][j].mv.length cap3] (fun l' h' a c ho hl hh hp => hp.keep fun k cur' t k1 k2 k3 k4 => (hw.2 k (by omega)).trans k4) ⟨some ⟨gm, 0, none⟩, cap3, by rw [hlen], by rw [hlen]; exact ho, by rw [hlen]; exact hob3⟩
end Go.Proofs.YtkgjpimapfmeoaaDoor
