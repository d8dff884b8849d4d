/-
  Of: what holds while the copy is made.
-/
import Derived.Test.YtkgjpimapfmeoaaDoorMi
import Derived.Deep.RegionLaw
namespace Go.Proofs.YtkgjpimapfmeoaaDoor
open Go.RowKit

theorem infoStr : (Tryd.prog.info? 9).map (fun i => (i.zero, i.size, i.bytes)) = some (some (.string ⟨#[]⟩), 1, 16) := by kernel_rfl
theorem infoMv : (Tryd.prog.info? 60).map (fun i => (i.zero, i.size, i.bytes)) = some (some (.agg #[.int .i64 0, .int .i64 0]), 2, 16) := by kernel_rfl
theorem infoCh : (Tryd.prog.info? 49).map (fun i => (i.zero, i.size, i.bytes)) = some (some (.agg #[.string ⟨#[]⟩, .slice none 0 0]), 2, 40) := by kernel_rfl
theorem infoChs : (Tryd.prog.info? 50).map (fun i => (i.zero, i.size, i.bytes)) = some (some (.slice none 0 0), 1, 24) := by kernel_rfl
theorem infoInts : (Tryd.prog.info? 36).map (fun i => (i.zero, i.size, i.bytes)) = some (some (.slice none 0 0), 1, 24) := by kernel_rfl
/-- What grows in one row keeps all blocks of other kinds. -/
theorem kp_grown {wA w' : World} {b : Nat} {e : TypeId} {sz n : Nat} {v : Value} {xs : List Value} {lo hi : Nat} {T : TypeId → Prop} (ho : wA.ownsRow b e sz v n xs) (hg : wA.grownBy w' v.ownBlock) (hT : ∀ t, T t → e ≠ t) (hh : hi ≤ wA.heap.size) : Kp lo hi T wA w' :=
  fun k _ t _ hk ht h0 => (hg.block k (by omega) (own_other ho h0 (hT t ht))).trans h0
theorem Kp.trans {a b c : World} {lo hi : Nat} {T : TypeId → Prop} (h : Kp lo hi T a b) (k : Kp lo hi T b c) : Kp lo hi T a c := fun i cur t h1 h2 h3 h4 => k i cur t h1 h2 h3 (h i cur t h1 h2 h3 h4)
theorem OwnB.mono {v : Value} {a b : Nat} (h : OwnB v a) (hb : a ≤ b) : OwnB v b := fun g hg => Nat.lt_of_lt_of_le (h g hg) hb
theorem chI_mono {w : World} {l h h' : Nat} {a : ChO} {c : List Value} (hh : h ≤ h') (hp : ChI w l h a c) : ChI w l h' a c := by
  obtain ⟨A, cap, h1, h2, h3⟩ := hp
  exact ⟨A, cap, h1, h2, h3.mono hh⟩
theorem stI_mono {w : World} {l h h' : Nat} {a : List ChO} {c : List Value} (hh : h ≤ h') (hp : StI w l h a c) : StI w l h' a c := by
  obtain ⟨A, cap, rc, h1, h2, h3, h4⟩ := hp
  exact ⟨A, cap, rc, h1, h2, h3.mono hh, h4.mono hh⟩
theorem hdI_mono {w : World} {l h h' : Nat} {a : List Int} {c : List Value} (hh : h ≤ h') (hp : HdI w l h a c) : HdI w l h' a c := by
  obtain ⟨A, cap, h1, h2, h3⟩ := hp
  exact ⟨A, cap, h1, h2, h3.mono hh⟩
/-- The copy with its first k states' choices and its first r states' labels. -/
structure OS (p : PrO) (w : World) (mc : List Value) (B : Option Addr) (b k r : Nat) (A : Option Addr) (a : Nat) (C : Option Addr) (c : Nat) (wr : World) : Prop where
  x : Bx wr (w.heap.size + 1 + 1) 31 [.int .i64 p.init, .slice A k a, .slice B p.nms.length b, .slice C r c]
  ch : ∃ rc, wr.ownsRow (w.heap.size + 1 + 1 + 1) 50 1 (.slice A k a) k rc ∧ LI (StI wr) (w.heap.size + 1 + 1 + 1) wr.heap.size (p.chs.take k) rc
  nm : wr.ownsRow (w.heap.size + 1 + 1 + 1) 9 1 (.slice B p.nms.length b) p.nms.length (p.nms.map Value.string)
  hd : ∃ rh, wr.ownsRow (w.heap.size + 1 + 1 + 1) 36 1 (.slice C r c) r rh ∧ LI (HdI wr) (w.heap.size + 1 + 1 + 1) wr.heap.size (p.hds.take r) rh
  bm : Bx wr w.heap.size 26 mc
  br : Bx wr (w.heap.size + 1) 31 [.int .i64 0, .slice none 0 0, .slice none 0 0, .slice none 0 0]
  blw : Below w.heap.size w wr
section
variable {p : PrO} {w : World} {mc : List Value} {B : Option Addr} {b k r : Nat} {A : Option Addr} {a : Nat} {C : Option Addr} {c : Nat} {wr w' : World}
theorem OS.below (h : OS p w mc B b k r A a C c wr) (hb : Below wr.heap.size wr w') : OS p w mc B b k r A a C c w' := by
  obtain ⟨h1, ⟨rc, h2, h3⟩, h4, ⟨rh, h5, h6⟩, h7, h8, h9⟩ := h
  have hz := hb.size
  exact ⟨h1.below hb, ⟨rc, own_belowM h2 hb, (h3.imp fun l h a c hl hh hp => hp.keep (Kp.of hb (by omega))).mono hz⟩, own_belowM h4 hb, ⟨rh, own_belowM h5 hb, (h6.imp fun l h a c hl hh hp => hp.keep (Kp.of hb (by omega))).mono hz⟩, h7.below hb, h8.below hb, below_t h9 hb⟩
/-- One more state's choices. -/
theorem OS.more (h : OS p w mc B b k r A a C c wr) {lo1 : Nat} {wA : World} (hb : Below wr.heap.size wr wA) (hk : k < p.chs.length) {st : List Value} (hs : StI wA lo1 wA.heap.size p.chs[k] st) (hl : wr.heap.size ≤ lo1) (hl2 : lo1 ≤ wA.heap.size)
    {g cap : Nat} {rc : List Value} {wB : World} (hr : wr.ownsRow (w.heap.size + 1 + 1 + 1) 50 1 (.slice A k a) k rc) (hli : LI (StI wr) (w.heap.size + 1 + 1 + 1) wr.heap.size (p.chs.take k) rc)
    (hown : wB.ownsRow (w.heap.size + 1 + 1 + 1) 50 1 (.slice (some ⟨g, 0, none⟩) (k + 1) cap) (k + 1) (rc ++ st)) (hg : (wA.alloc (.cells st.toArray 50)).grownBy wB (Value.slice A k a).ownBlock) (hlo : w.heap.size + 1 + 1 + 1 ≤ wr.heap.size) :
    OS p w mc B b (k + 1) r (some ⟨g, 0, none⟩) cap C c (wB.setCell ⟨w.heap.size + 1 + 1, 1, none⟩ (.slice (some ⟨g, 0, none⟩) (k + 1) cap)) := by
  have hA := h.below hb
  have hA2 := hA.below (below_alloc wA (.cells st.toArray 50))
  obtain ⟨h1, ⟨rc0, _, _⟩, h4, ⟨rh, h5, h6⟩, h7, h8, h9⟩ := hA2
  have hr2 := own_belowM (own_belowM hr hb) (below_alloc wA (.cells st.toArray 50))
  have hzA := hb.size
  have hzB := hg.size
  have hsz : (wA.alloc (.cells st.toArray 50)).heap.size = wA.heap.size + 1 := by simp
  have hgb : ∀ g', (Value.slice A k a).ownBlock = some g' → w.heap.size + 1 + 1 + 1 ≤ g' := fun g' e => (hr.lt g' e).1
  have hx := h1.grown hr2 hg (by decide)
  have hm := h7.grown hr2 hg (by decide)
  have hrb := h8.grown hr2 hg (by decide)
  have kpB : ∀ {T : TypeId → Prop} {lo hi : Nat}, (∀ t, T t → 50 ≠ t) → hi ≤ wA.heap.size + 1 → Kp lo hi T (wA.alloc (.cells st.toArray 50)) wB := fun hT hh => kp_grown hr2 hg hT (by omega)
  have kpS : ∀ {T : TypeId → Prop} {lo hi : Nat}, (∀ t, T t → 31 ≠ t) → Kp lo hi T wB (wB.setCell ⟨w.heap.size + 1 + 1, 1, none⟩ (.slice (some ⟨g, 0, none⟩) (k + 1) cap)) := fun {T} _ _ hT k' cur t _ _ ht h0 =>
    (Below.heap_setCell _ _ _ _ (by
      rintro rfl
      have hx' : wB.heap[w.heap.size + 1 + 1]? = _ := hx
      have h0' : wB.heap[w.heap.size + 1 + 1]? = _ := h0
      rw [hx'] at h0'
      injection h0' with h0'
      injection h0' with _ e
      exact hT t ht e)).trans h0
  refine ⟨hx.set 1 _, ⟨rc ++ st, ?_, ?_⟩, ?_, ⟨rh, ?_, ?_⟩, hm.put (by omega), hrb.put (by omega), ?_⟩
  · exact own_kp hown (own_hi hown) (kpS (T := fun t => t = 50) (fun t ht => by subst ht; decide)) rfl
  · rw [take_snoc hk]
    refine LI.snoc (P := StI _) (fun _ _ _ _ _ hx hy => StI.wk hy hx) (hi := wr.heap.size) (l2 := lo1) ?_ (by omega) hl (by simp; omega) ?_
    · refine hli.imp fun l h a c hl' hh hp => ?_
      refine ((hp.keep (Kp.of hb (by omega))).keep (Kp.of (below_alloc wA (.cells st.toArray 50)) (by omega))).keep ((kpB (fun t ht => ?_) (by omega)).trans (kpS (fun t ht => ?_)))
      · rcases ht with rfl | rfl <;> decide
      · rcases ht with rfl | rfl <;> decide
    · refine stI_mono (h := wA.heap.size) (by simp; omega) ?_
      refine (hs.keep (Kp.of (below_alloc wA (.cells st.toArray 50)) (Nat.le_refl _))).keep ((kpB (fun t ht => ?_) (by omega)).trans (kpS (fun t ht => ?_)))
      · rcases ht with rfl | rfl <;> decide
      · rcases ht with rfl | rfl <;> decide
  · exact own_kp h4 (own_hi h4) ((kpB (T := fun t => t = 9) (fun t ht => by subst ht; decide) (by omega)).trans (kpS (fun t ht => by subst ht; decide))) rfl
  · exact own_kp h5 (own_hi h5) ((kpB (T := fun t => t = 36) (fun t ht => by subst ht; decide) (by omega)).trans (kpS (fun t ht => by subst ht; decide))) rfl
  · refine (h6.imp fun l h a c hl' hh hp => ?_).mono (by simp; omega)
    exact hp.keep ((kpB (fun t ht => by subst ht; decide) (by omega)).trans (kpS (fun t ht => by subst ht; decide)))
  · exact (h9.grown hg (by omega) (fun g' e => by have := hgb g' e; omega)).setCell (by show w.heap.size ≤ w.heap.size + 1 + 1; omega) _
/-- One more state's labels. -/
theorem OS.hold (h : OS p w mc B b k r A a C c wr) {lo1 : Nat} {wA : World} (hb : Below wr.heap.size wr wA) (hk : r < p.hds.length) {st : List Value} (hs : HdI wA lo1 wA.heap.size p.hds[r] st) (hl : wr.heap.size ≤ lo1) (hl2 : lo1 ≤ wA.heap.size)
    {g cap : Nat} {rc : List Value} {wB : World} (hr : wr.ownsRow (w.heap.size + 1 + 1 + 1) 36 1 (.slice C r c) r rc) (hli : LI (HdI wr) (w.heap.size + 1 + 1 + 1) wr.heap.size (p.hds.take r) rc)
    (hown : wB.ownsRow (w.heap.size + 1 + 1 + 1) 36 1 (.slice (some ⟨g, 0, none⟩) (r + 1) cap) (r + 1) (rc ++ st)) (hg : (wA.alloc (.cells st.toArray 36)).grownBy wB (Value.slice C r c).ownBlock) (hlo : w.heap.size + 1 + 1 + 1 ≤ wr.heap.size) :
    OS p w mc B b k (r + 1) A a (some ⟨g, 0, none⟩) cap (wB.setCell ⟨w.heap.size + 1 + 1, 3, none⟩ (.slice (some ⟨g, 0, none⟩) (r + 1) cap)) := by
  have hA := h.below hb
  have hA2 := hA.below (below_alloc wA (.cells st.toArray 36))
  obtain ⟨h1, ⟨rc0, h2, h3⟩, h4, ⟨rh, _, _⟩, h7, h8, h9⟩ := hA2
  have hr2 := own_belowM (own_belowM hr hb) (below_alloc wA (.cells st.toArray 36))
  have hzA := hb.size
  have hzB := hg.size
  have hsz : (wA.alloc (.cells st.toArray 36)).heap.size = wA.heap.size + 1 := by simp
  have hgb : ∀ g', (Value.slice C r c).ownBlock = some g' → w.heap.size + 1 + 1 + 1 ≤ g' := fun g' e => (hr.lt g' e).1
  have hx := h1.grown hr2 hg (by decide)
  have hm := h7.grown hr2 hg (by decide)
  have hrb := h8.grown hr2 hg (by decide)
  have kpB : ∀ {T : TypeId → Prop} {lo hi : Nat}, (∀ t, T t → 36 ≠ t) → hi ≤ wA.heap.size + 1 → Kp lo hi T (wA.alloc (.cells st.toArray 36)) wB := fun hT hh => kp_grown hr2 hg hT (by omega)
  have kpS : ∀ {T : TypeId → Prop} {lo hi : Nat}, (∀ t, T t → 31 ≠ t) → Kp lo hi T wB (wB.setCell ⟨w.heap.size + 1 + 1, 3, none⟩ (.slice (some ⟨g, 0, none⟩) (r + 1) cap)) := fun {T} _ _ hT k' cur t _ _ ht h0 =>
    (Below.heap_setCell _ _ _ _ (by
      rintro rfl
      have hx' : wB.heap[w.heap.size + 1 + 1]? = _ := hx
      have h0' : wB.heap[w.heap.size + 1 + 1]? = _ := h0
      rw [hx'] at h0'
      injection h0' with h0'
      injection h0' with _ e
      exact hT t ht e)).trans h0
  refine ⟨hx.set 3 _, ⟨rc0, ?_, ?_⟩, ?_, ⟨rc ++ st, ?_, ?_⟩, hm.put (by omega), hrb.put (by omega), ?_⟩
  · exact own_kp h2 (own_hi h2) ((kpB (T := fun t => t = 50) (fun t ht => by subst ht; decide) (by omega)).trans (kpS (fun t ht => by subst ht; decide))) rfl
  · refine (h3.imp fun l h a c hl' hh hp => ?_).mono (by simp; omega)
    refine hp.keep ((kpB (fun t ht => ?_) (by omega)).trans (kpS (fun t ht => ?_)))
    · rcases ht with rfl | rfl <;> decide
    · rcases ht with rfl | rfl <;> decide
  · exact own_kp h4 (own_hi h4) ((kpB (T := fun t => t = 9) (fun t ht => by subst ht; decide) (by omega)).trans (kpS (fun t ht => by subst ht; decide))) rfl
  · exact own_kp hown (own_hi hown) (kpS (T := fun t => t = 36) (fun t ht => by subst ht; decide)) rfl
  · rw [take_snoc hk]
    refine LI.snoc (P := HdI _) (fun _ _ _ _ _ hx hy => HdI.wk hy hx) (hi := wr.heap.size) (l2 := lo1) ?_ (by omega) hl (by simp; omega) ?_
    · refine hli.imp fun l h a c hl' hh hp => ?_
      exact ((hp.keep (Kp.of hb (by omega))).keep (Kp.of (below_alloc wA (.cells st.toArray 36)) (by omega))).keep ((kpB (fun t ht => by subst ht; decide) (by omega)).trans (kpS (fun t ht => by subst ht; decide)))
    · refine hdI_mono (h := wA.heap.size) (by simp; omega) ?_
      exact (hs.keep (Kp.of (below_alloc wA (.cells st.toArray 36)) (Nat.le_refl _))).keep ((kpB (fun t ht => by subst ht; decide) (by omega)).trans (kpS (fun t ht => by subst ht; decide)))
  · exact (h9.grown hg (by omega) (fun g' e => by have := hgb g' e; omega)).setCell (by show w.heap.size ≤ w.heap.size + 1 + 1; omega) _
end
end Go.Proofs.YtkgjpimapfmeoaaDoor
