/-
  What becomes of memory when a state has one choice more; the law MdpGrows.
-/
import Derived.Test.YtkgjpimapfmeoaaDoorMn
import Derived.Test.YtkgjpimapfmeoaaDoorMm
import Derived.Deep.RegionHeld3
namespace Go.Proofs.YtkgjpimapfmeoaaDoor
open Go.RowKit

/-- A row one's own anew, of one move. -/
theorem own_new (w : World) (b : Nat) (hb : b ≤ w.heap.size) (x y : Int) : (w.alloc (.cells #[.int .i64 x, .int .i64 y] 60)).ownsRow b 60 2 (.slice (some ⟨w.heap.size, 0, none⟩) 1 1) 1 (mvc [⟨x, y⟩]) :=
  ⟨rfl, .inr ⟨w.heap.size, 1, #[.int .i64 x, .int .i64 y], rfl, hb, heap_alloc_new w _, Nat.le_refl _, by unfold maxLen; omega, rfl, rfl⟩⟩
/-- What a step does to memory that lays the k-th row of choices anew, behind an append. -/
theorem grow_frame {w wA w5 : World} {lo hi l r k g L : Nat} {B : Option Addr} {cap : Nat} {rc : List Value} {cur : Array Value} {u : Value}
    (hA : Below w.heap.size w wA) (hh : hi ≤ w.heap.size) (hlo : lo ≤ l) (hlg : lo ≤ g) (hgh : g < hi) (hcur : w.heap[g]? = some (.cells cur 50 (0, 0)))
    (hm : w.ownsRow l 49 2 (.slice B L cap) L rc) (hob : OwnB (.slice B L cap) r) (hg5 : wA.grownBy w5 (Value.slice B L cap).ownBlock) :
    Fr l r lo hi w (w5.setCell ⟨g, k, none⟩ u) ∧ (∀ q cs t, q < w.heap.size → t ≠ 50 → t ≠ 49 → w.heap[q]? = some (.cells cs t (0, 0)) → (w5.setCell ⟨g, k, none⟩ u).heap[q]? = some (.cells cs t (0, 0))) ∧
      (∀ j, j ≠ k → (w5.setCell ⟨g, k, none⟩ u).cell? ⟨g, j, none⟩ = w.cell? ⟨g, j, none⟩) ∧ (∀ v, w.cell? ⟨g, k, none⟩ = some v → (w5.setCell ⟨g, k, none⟩ u).cell? ⟨g, k, none⟩ = some u) ∧ Below lo w (w5.setCell ⟨g, k, none⟩ u) ∧ w5.heap[g]? = some (.cells cur 50 (0, 0)) := by
  have hmA := own_belowM hm hA
  have hsz := hA.size
  have hge : ∀ q, (Value.slice B L cap).ownBlock = some q → l ≤ q ∧ q < r := fun q hq => ⟨(hm.lt q hq).1, hob q hq⟩
  have h5 : ∀ q cs t, q < w.heap.size → t ≠ 49 → w.heap[q]? = some (.cells cs t (0, 0)) → w5.heap[q]? = some (.cells cs t (0, 0)) := fun q cs t hq ht h0 => by
    have h1 := (hA.block q hq).trans h0
    exact (hg5.block q (by omega) (own_other hmA h1 (Ne.symm ht))).trans h1
  have hneg : ∀ q cs t, t ≠ 50 → w.heap[q]? = some (.cells cs t (0, 0)) → q ≠ g := fun q cs t ht h0 e => by
    subst e
    rw [hcur] at h0
    injection h0 with h0
    injection h0 with _ h0
    exact ht h0.symm
  have hg5' := h5 g cur 50 (by omega) (by decide) hcur
  have hbx : Bx w5 g 50 cur.toList := hg5'
  have hbw : Bx w g 50 cur.toList := hcur
  refine ⟨fun q cs t q1 q2 q3 q4 q5 => ?_, fun q cs t q1 q2 q3 q4 => (Below.heap_setCell _ _ _ _ (hneg q cs t q2 q4)).trans (h5 q cs t q1 q3 q4), fun j hj => ?_, fun v hv => ?_, ?_, hg5'⟩
  · refine (Below.heap_setCell _ _ _ _ (hneg q cs t q4 q3)).trans ?_
    by_cases hq : (Value.slice B L cap).ownBlock = some q
    · obtain ⟨e1, e2⟩ := hge q hq
      exact h5 q cs t (by omega) (q5 e1 e2).1 q3
    · have h1 := (hA.block q (by omega)).trans q3
      exact (hg5.block q (by omega) (fun e => hq e.symm)).trans h1
  · rw [(hbx.set k u).cell j, hbw.cell j, List.getElem?_set_ne (Ne.symm hj)]
  · rw [hbw.cell k] at hv
    rw [(hbx.set k u).cell k, List.getElem?_set_self (List.getElem?_eq_some_iff.1 hv).1]
  · exact ((hA.mono (by omega)).grown hg5 (by omega) (fun q hq => by have := (hge q hq).1; omega)).setCell hlg _
theorem grow_mem {w wB w5 : World} {lo hi l r k g g5 cap5 cap : Nat} {B : Option Addr} {rc : List Value} {cur : Array Value} {v : PV} {p : PrO} {t : Int}
    (hB : Below w.heap.size w wB) (hBs : wB.heap.size = w.heap.size) (hh : hi ≤ w.heap.size) (hlo : lo ≤ l) (hlr : l ≤ r) (hrh : r ≤ hi) (hlg : lo ≤ g) (hgh : g < hi) (hcur : w.heap[g]? = some (.cells cur 50 (0, 0))) (hk : k < p.chs.length)
    (hc : w.cell? ⟨g, k, none⟩ = some (.slice B p.chs[k].length cap)) (hm : w.ownsRow l 49 2 (.slice B p.chs[k].length cap) p.chs[k].length rc) (hob : OwnB (.slice B p.chs[k].length cap) r) (hli : LI (ChI w) l r p.chs[k] rc)
    (hre : ∀ w' B' cs' cap', Fr l r lo hi w w' → (∀ j, j ≠ k → w'.cell? ⟨g, j, none⟩ = w.cell? ⟨g, j, none⟩) → w'.cell? ⟨g, k, none⟩ = some (.slice B' (List.length cs') cap') → cs'.length ≤ cap' → CSl w' B' cs' → PrM w' v (rowO p k cs'))
    (hg5 : ((wB.alloc (.cells #[.int .i64 t, .int .i64 3] 60)).alloc (.cells #[.string ⟨#[]⟩, .slice (some ⟨w.heap.size, 0, none⟩) 1 1] 49)).grownBy w5 (Value.slice B p.chs[k].length cap).ownBlock)
    (ho5 : w5.ownsRow l 49 2 (.slice (some ⟨g5, 0, none⟩) (p.chs[k].length + 1) cap5) (p.chs[k].length + 1) (rc ++ [.string ⟨#[]⟩, .slice (some ⟨w.heap.size, 0, none⟩) 1 1])) :
    PrM (w5.setCell ⟨g, k, none⟩ (.slice (some ⟨g5, 0, none⟩) (p.chs[k].length + 1) cap5)) v (growO p k t) ∧ Below lo w (w5.setCell ⟨g, k, none⟩ (.slice (some ⟨g5, 0, none⟩) (p.chs[k].length + 1) cap5)) := by
  have hA : Below w.heap.size w ((wB.alloc (.cells #[.int .i64 t, .int .i64 3] 60)).alloc (.cells #[.string ⟨#[]⟩, .slice (some ⟨w.heap.size, 0, none⟩) 1 1] 49)) := below_t (below_t hB (below_alloc _ _)) (below_alloc _ _)
  obtain ⟨f1, f2, f3, f4, f5, f6⟩ := grow_frame (k := k) (u := .slice (some ⟨g5, 0, none⟩) (p.chs[k].length + 1) cap5) hA hh hlo hlg hgh hcur hm hob hg5
  refine ⟨?_, f5⟩
  have hnew := own_new wB w.heap.size (by omega) t 3
  have hnA : ((wB.alloc (.cells #[.int .i64 t, .int .i64 3] 60)).alloc (.cells #[.string ⟨#[]⟩, .slice (some ⟨w.heap.size, 0, none⟩) 1 1] 49)).ownsRow w.heap.size 60 2 (.slice (some ⟨w.heap.size, 0, none⟩) 1 1) 1 (mvc [⟨t, 3⟩]) := by
    rw [← hBs]
    rw [hBs] at hnew ⊢
    exact own_belowM hnew (below_alloc _ _)
  have hmA := own_belowM hm hA
  have hn5 := own_kp hnA (own_hi hnA) (kp_grown (lo := w.heap.size) (T := TM) hmA hg5 (fun t ht => by have : t = 60 := ht; subst this; decide) (Nat.le_refl _)) rfl
  have hsA : ((wB.alloc (.cells #[.int .i64 t, .int .i64 3] 60)).alloc (.cells #[.string ⟨#[]⟩, .slice (some ⟨w.heap.size, 0, none⟩) 1 1] 49)).heap.size = w.heap.size + 1 + 1 := by simp [hBs]
  have hn6 : (w5.setCell ⟨g, k, none⟩ (.slice (some ⟨g5, 0, none⟩) (p.chs[k].length + 1) cap5)).ownsRow w.heap.size 60 2 (.slice (some ⟨w.heap.size, 0, none⟩) 1 1) 1 (mvc [⟨t, 3⟩]) :=
    own_kept hn5 fun q hq => Below.heap_setCell _ _ _ _ (by
      have : w.heap.size = q := by injection hq
      show q ≠ g
      omega)
  have hbx : Bx w5 g 50 cur.toList := f6
  have ho6 : (w5.setCell ⟨g, k, none⟩ (.slice (some ⟨g5, 0, none⟩) (p.chs[k].length + 1) cap5)).ownsRow l 49 2 (.slice (some ⟨g5, 0, none⟩) (p.chs[k].length + 1) cap5) (p.chs[k].length + 1) (rc ++ [.string ⟨#[]⟩, .slice (some ⟨w.heap.size, 0, none⟩) 1 1]) :=
    own_kept ho5 fun q hq => Below.heap_setCell _ _ _ _ (by
      show q ≠ g
      rintro rfl
      exact own_other ho5 hbx (by decide) hq.symm)
  have hli6 : LI (ChI (w5.setCell ⟨g, k, none⟩ (.slice (some ⟨g5, 0, none⟩) (p.chs[k].length + 1) cap5))) l r p.chs[k] rc := hli.imp fun l' h' a c hl hh' hp => hp.keep fun q cs t q1 q2 q3 q4 => f2 q cs t (by omega) (by have : t = 60 := q3; rw [this]; decide) (by have : t = 60 := q3; rw [this]; decide) q4
  have hli7 := LI.snoc (P := ChI (w5.setCell ⟨g, k, none⟩ (.slice (some ⟨g5, 0, none⟩) (p.chs[k].length + 1) cap5))) (fun _ _ _ _ _ hx hy => ChI.wk hy hx) (l2 := w.heap.size) (h2 := w.heap.size + 1) (a := newO t) (c := [.string ⟨#[]⟩, .slice (some ⟨w.heap.size, 0, none⟩) 1 1]) hli6 (by omega) (by omega) (by omega) ⟨some ⟨w.heap.size, 0, none⟩, 1, rfl, hn6, fun q hq => by
    have : w.heap.size = q := by injection hq
    omega⟩
  have hcell := f4 _ hc
  clear f2 f4 f5 hn6
  generalize w5.setCell ⟨g, k, none⟩ (.slice (some ⟨g5, 0, none⟩) (p.chs[k].length + 1) cap5) = w6 at *
  have e : p.chs[k].length + 1 = (p.chs[k] ++ [newO t]).length := by simp
  have ho7 := ho6
  rw [e] at ho7
  have hcs := csl_of ho7 hli7
  rw [growO, getD_of hk]
  refine hre _ (some ⟨g5, 0, none⟩) (p.chs[k] ++ [newO t]) cap5 f1 f3 (by rw [hcell, e]) ?_ ?_
  · exact (own_cells ho7).1
  · exact hcs
end Go.Proofs.YtkgjpimapfmeoaaDoor
