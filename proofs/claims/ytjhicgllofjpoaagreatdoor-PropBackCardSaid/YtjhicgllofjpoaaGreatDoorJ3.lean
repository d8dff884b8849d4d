/-
  A reader of formulas in memory.
-/
import Derived.Test.YtjhicgllofjpoaaGreatDoorJ2
namespace Go.Proofs.YtjhicgllofjpoaaGreatDoor
open Go.RowKit

/-- A reader of formulas in memory. -/
structure PRd (w : World) (xb rb b D : Nat) (st : St) : Prop where
  blk : ∃ v, Bx w xb 105 [.pointer (st.ptr rb), .int .i64 (D : Int), v] ∧ st.ErV w v
  tr : st.Tr w rb
  glob : GlobS w
  d64 : D ≤ 64
  lo : 2 < b ∧ 0 < b
  hx : b ≤ xb ∧ b ≤ rb
  hr : rb < w.heap.size
section
variable {w w' : World} {xb rb b D : Nat} {st : St}
theorem PRd.ltx (h : PRd w xb rb b D st) : xb < w.heap.size := by obtain ⟨v, h1, _⟩ := h.blk; exact h1.lt
/-- The types that a reader lies in. -/
def RpT (e : TypeId) : Prop := e = 105 ∨ e = 134 ∨ e = 135 ∨ e = 82
theorem TR.keepP {us : List Tok} (h : TR w rb us) (hk : ∀ (k : Nat) (cs : Array Value) (e : TypeId), w.heap[k]? = some (.cells cs e (0, 0)) → RpT e → w'.heap[k]? = w.heap[k]?) (hg : GlobS w') : TR w' rb us := by
  refine ⟨?_, h.fine, hg, h.hi⟩
  obtain ⟨ts, k, h1, g, cap, q1, q2, q3, q4⟩ := h.rd
  refine ⟨ts, k, h1, g, cap, (hk _ _ _ q1 (.inr (.inl rfl))).trans q1, ⟨q2.1, ?_⟩, q3, q4⟩
  rcases q2.2 with ⟨hx, _⟩ | ⟨g', cap', cur, hx, h2, hh, h3⟩
  · cases hx
  · exact .inr ⟨g', cap', cur, hx, h2, (hk _ _ _ hh (.inr (.inr (.inl rfl)))).trans hh, h3⟩
theorem PRd.keep (h : PRd w xb rb b D st) (hk : ∀ (k : Nat) (cs : Array Value) (e : TypeId), w.heap[k]? = some (.cells cs e (0, 0)) → RpT e → w'.heap[k]? = w.heap[k]?) (hg : ∀ k : Nat, k < b → w'.heap[k]? = w.heap[k]?) (hs : w.heap.size ≤ w'.heap.size) : PRd w' xb rb b D st := by
  have hG : GlobS w' := glob_keep h.glob (hg 0 h.lo.2) (hg 2 h.lo.1)
  refine ⟨?_, ?_, hG, h.d64, h.lo, h.hx, Nat.lt_of_lt_of_le h.hr hs⟩
  · obtain ⟨v, h1, h2⟩ := h.blk
    refine ⟨v, (hk _ _ _ h1 (.inl rfl)).trans h1, ?_⟩
    cases st with
    | good us => exact h2
    | bad c p =>
      obtain ⟨eb, h3, h4⟩ := h2
      obtain ⟨cs, h5⟩ := h4.typ
      exact ⟨eb, h3, h4.keep (hk _ _ _ h5 (.inr (.inr (.inr rfl))))⟩
  · cases st with
    | good us => exact TR.keepP (us := us) h.tr hk hG
    | bad c p => trivial
theorem PRd.below (h : PRd w xb rb b D st) (hb : Below w.heap.size w w') : PRd w' xb rb b D st :=
  h.keep (fun k cs e hk _ => hb.block k (blk_lt hk)) (fun k hk => hb.block k (by have := h.hx; have := h.ltx; omega)) hb.size
theorem PRd.alloc (h : PRd w xb rb b D st) (o : Obj) : PRd (w.alloc o) xb rb b D st := h.below ((Below.refl _ _).alloc (Nat.le_refl _) _)
theorem PRd.drew (h : PRd w xb rb b D st) : PRd w.drew xb rb b D st := h.below (Below.refl _ _).drew
/-- A store to a box of the call's own. -/
theorem PRd.set {q i : Nat} {t : TypeId} {cs : List Value} (h : PRd w xb rb b D st) (hb : Bx w q t cs) (ht : ¬ RpT t) (hq : b ≤ q) (u : Value) : PRd (w.setCell ⟨q, i, none⟩ u) xb rb b D st := by
  refine h.keep (fun k cs' e hk he => Below.heap_setCell w ⟨q, i, none⟩ u k ?_) (fun k hk => Below.heap_setCell w ⟨q, i, none⟩ u k (by show k ≠ q; omega)) (by simp)
  intro ek
  have ek : k = q := ek
  subst ek
  rw [show w.heap[k]? = _ from hb] at hk
  injection hk with hk
  injection hk with _ e1
  exact ht (e1 ▸ he)
theorem PRd.setL {q : Nat} {t : TypeId} (ht : ¬ RpT t) (hq : b ≤ q) : ∀ {us : List Value} {w : World} {cs : List Value} {i : Nat}, PRd w xb rb b D st → Bx w q t cs → PRd (Go.Proofs.YtjhicgllofjpoaaGreatDoor.setL w q i us) xb rb b D st
  | [], _, _, _, h, _ => h
  | u :: _, _, _, i, h, hb => (h.set hb ht hq u).setL ht hq (hb.set i u)
/-- A row grows that is no reader's. -/
theorem PRd.grown {row : Option Nat} (h : PRd w xb rb b D st) (hg : w.grownBy w' row) (hr : ∀ g, row = some g → b ≤ g ∧ ∃ (cs : Array Value) (e : TypeId), w.heap[g]? = some (.cells cs e (0, 0)) ∧ ¬ RpT e) : PRd w' xb rb b D st := by
  refine h.keep (fun k cs e hk he => hg.block k (blk_lt hk) ?_) (fun k hk => hg.block k (by have := h.hx; have := h.ltx; omega) ?_) hg.size
  · intro e1
    obtain ⟨_, cs', e', h2, h3⟩ := hr k e1.symm
    rw [hk] at h2
    injection h2 with h2
    injection h2 with _ h2
    exact h3 (h2 ▸ he)
  · intro e1
    have := (hr k e1.symm).1
    omega
theorem PRd.cells (h : PRd w xb rb b D st) : ∃ v, w.cell? ⟨xb, 0, none⟩ = some (.pointer (st.ptr rb)) ∧ w.cell? ⟨xb, 1, none⟩ = some (.int .i64 (D : Int)) ∧ w.cell? ⟨xb, 2, none⟩ = some v ∧ w.frozen? ⟨xb, 0, none⟩ = false ∧ w.frozen? ⟨xb, 2, none⟩ = false ∧ st.ErV w v := by
  obtain ⟨v, h1, h2⟩ := h.blk
  exact ⟨v, h1.cell 0, h1.cell 1, h1.cell 2, h1.frozen 0, h1.frozen 2, h2⟩
theorem PRd.c0 (h : PRd w xb rb b D st) : w.cell? ⟨xb, 0, none⟩ = some (.pointer (st.ptr rb)) := by
  obtain ⟨v, h1, _⟩ := h.cells; exact h1
theorem PRd.peeks (h : PRd w xb rb b D st) : Peeks (.pointer (st.ptr rb)) st.hd w := by
  cases st with
  | bad c p => exact peeks_nil w
  | good us =>
    obtain ⟨ts, k, h1, h2, h3⟩ := TR.get (us := us) h.tr
    exact peeks_at h2 h3
theorem PRd.peek (h : PRd w xb rb b D st) : Calls Tryz.prog 66 #[.pointer (st.ptr rb)] w fun e w' => e = .returned (.agg #[.int .i64 st.hd.kind, .string ⟨st.hd.text.toArray⟩, .int .i64 st.hd.pos]) ∧ Below w.heap.size w w' := h.peeks.now
theorem PRd.is_ (h : PRd w xb rb b D st) (x : ByteArray) : Calls Tryz.prog 114 #[.pointer (st.ptr rb), .string x] w fun e w' => e = .returned (.bool (isT st.hd x.data.toList)) ∧ Below w.heap.size w w' := is_any x h.peeks
theorem PRd.skip_no (h : PRd w xb rb b D st) (x : ByteArray) (hi : isT st.hd x.data.toList = false) : Calls Tryz.prog 90 #[.pointer (st.ptr rb), .string x] w fun e w' => e = .returned (.bool false) ∧ Below w.heap.size w w' := Go.Proofs.YtjhicgllofjpoaaGreatDoor.skip_no x h.peeks hi
/-- The tokens' reader has gone on by one. -/
theorem PRd.on {us ts : List Tok} {k : Nat} (h : PRd w xb rb b D (.good us)) (h1 : us = ts.drop k) (h0 : (hd us).kind ≠ 0) (hR : RD w' rb ts (k + 1)) (hg : w.grownBy w' (some rb)) : PRd w' xb rb b D (.good us.tail) ∧ Fx (X2 xb rb) w w' := by
  have hT : TR w rb us := h.tr
  have hf := (hT.fine.more h0).1
  have hF : Fr w.heap.size rb w w' := Fr.ofGrown hg
  obtain ⟨v, hb, hv⟩ := h.blk
  have hne : xb ≠ rb := by
    rintro rfl
    obtain ⟨ts', k', _, g, cap, q1, _⟩ := hT.rd
    rw [show w.heap[xb]? = _ from hb] at q1
    injection q1 with q1
    injection q1 with _ q1
    exact absurd q1 (by decide)
  have hG : GlobS w' := glob_keep h.glob (hF.block 0 (by have := h.lo; have := h.hx; have := h.ltx; omega) (by have := h.lo; have := h.hx; omega)) (hF.block 2 (by have := h.lo; have := h.hx; have := h.ltx; omega) (by have := h.lo; have := h.hx; omega))
  refine ⟨⟨⟨v, (hF.block xb h.ltx hne).trans hb, hv⟩, ⟨⟨ts, k + 1, by rw [h1, List.tail_drop], hR⟩, hf, hG, hT.hi⟩, hG, h.d64, h.lo, h.hx, Nat.lt_of_lt_of_le h.hr hg.size⟩, Fx.ofFr hF⟩
theorem PRd.skip_yes (h : PRd w xb rb b D st) (x : ByteArray) (hi : isT st.hd x.data.toList = true) : Calls Tryz.prog 90 #[.pointer (st.ptr rb), .string x] w fun e w' => e = .returned (.bool true) ∧ PRd w' xb rb b D st.tl ∧ Fx (X2 xb rb) w w' := by
  have h0 := isT_kind hi
  obtain ⟨us, rfl⟩ := hd_good h0
  have hT : TR w rb us := h.tr
  obtain ⟨ts, k, h1, h2, h3⟩ := hT.get
  exact (Go.Proofs.YtjhicgllofjpoaaGreatDoor.skip_yes x h2 h3 hi (tr_len hT h1 h0)).mono fun _ _ ⟨he, hR, hg⟩ => ⟨he, h.on h1 h0 hR hg⟩
theorem PRd.take_on (h : PRd w xb rb b D st) (h0 : st.hd.kind ≠ 0) : Calls Tryz.prog 115 #[.pointer (st.ptr rb)] w fun e w' => e = .returned (.agg #[.int .i64 st.hd.kind, .string ⟨st.hd.text.toArray⟩, .int .i64 st.hd.pos]) ∧ PRd w' xb rb b D st.tl ∧ Fx (X2 xb rb) w w' := by
  obtain ⟨us, rfl⟩ := hd_good h0
  have hT : TR w rb us := h.tr
  obtain ⟨ts, k, h1, h2, h3⟩ := hT.get
  exact (Go.Proofs.YtjhicgllofjpoaaGreatDoor.take_on h2 h3 h0 (tr_len hT h1 h0)).mono fun _ _ ⟨he, hR, hg⟩ => ⟨he, h.on h1 h0 hR hg⟩
theorem PRd.take_end (h : PRd w xb rb b D st) (h0 : st.hd.kind = 0) : Calls Tryz.prog 115 #[.pointer (st.ptr rb)] w fun e w' => e = .returned (.agg #[.int .i64 st.hd.kind, .string ⟨st.hd.text.toArray⟩, .int .i64 st.hd.pos]) ∧ Below w.heap.size w w' := Go.Proofs.YtjhicgllofjpoaaGreatDoor.take_end h.peeks h0
end
end Go.Proofs.YtjhicgllofjpoaaGreatDoor
