/-
  A reader of models in memory; the parts of a model in memory.
-/
import Derived.Test.YtddeplbgihcdkaaGreatDoorG1
import Derived.Test.YtddeplbgihcdkaaGreatDoorKV
import Derived.Test.YtddeplbgihcdkaaGreatDoorSZ
namespace Go.Proofs.YtddeplbgihcdkaaGreatDoor
open Go.RowKit

/-- All is as it was, but for some blocks. -/
structure Fx (X : Nat → Prop) (w w' : World) : Prop where
  os : w'.os = w.os
  tape : w'.tape = w.tape
  output : w'.output = w.output
  size : w.heap.size ≤ w'.heap.size
  block : ∀ k, k < w.heap.size → ¬ X k → w'.heap[k]? = w.heap[k]?
section
variable {X Y : Nat → Prop} {a b c w w' : World}
theorem Fx.refl (X : Nat → Prop) (w : World) : Fx X w w := ⟨rfl, rfl, rfl, Nat.le_refl _, fun _ _ _ => rfl⟩
theorem Fx.trans (h : Fx X a b) (k : Fx X b c) : Fx X a c :=
  ⟨k.os.trans h.os, k.tape.trans h.tape, k.output.trans h.output, Nat.le_trans h.size k.size, fun i hi hn => (k.block i (Nat.lt_of_lt_of_le hi h.size) hn).trans (h.block i hi hn)⟩
theorem Fx.of (h : Below w.heap.size w w') : Fx X w w' := ⟨h.os, h.tape, h.output, h.size, fun k hk _ => h.block k hk⟩
theorem Fx.wide (h : Fx X a w) (hxy : ∀ k, k < a.heap.size → X k → Y k) : Fx Y a w := ⟨h.os, h.tape, h.output, h.size, fun k hk hn => h.block k hk (fun hx => hn (hxy k hk hx))⟩
theorem Fx.below (h : Fx X w w') (hx : ∀ k, X k → w.heap.size ≤ k) : Below w.heap.size w w' := ⟨h.os, h.tape, h.output, h.size, fun k hk => h.block k hk (fun e => absurd (hx k e) (by omega))⟩
theorem Fx.on (h : Fx X a w) (k : Below w.heap.size w w') : Fx X a w' := h.trans (Fx.of k)
theorem Fx.alloc (h : Fx X a w) (o : Obj) : Fx X a (w.alloc o) := h.on ((Below.refl _ _).alloc (Nat.le_refl _) o)
theorem Fx.drew (h : Fx X a w) : Fx X a w.drew := h.on (Below.refl _ _).drew
theorem Fx.setCell (h : Fx X a w) {p : Addr} (hp : a.heap.size ≤ p.block ∨ X p.block) (u : Value) : Fx X a (w.setCell p u) :=
  ⟨h.os, h.tape, h.output, by simpa using h.size, fun k hk hn => (Below.heap_setCell w p u k (by rcases hp with hp | hp; omega; intro e; exact hn (e ▸ hp))).trans (h.block k hk hn)⟩
end
def X2 (xb rb k : Nat) : Prop := k = xb ∨ k = rb
theorem Fx.ofFr {xb rb : Nat} {w w' : World} (h : Fr w.heap.size rb w w') : Fx (X2 xb rb) w w' := ⟨h.os, h.tape, h.output, h.size, fun k hk hn => h.block k hk (fun e => hn (.inr e))⟩

/-- A box of the call's own, its cells by name. -/
def Bx (w : World) (q : Nat) (t : TypeId) (cs : List Value) : Prop := w.heap[q]? = some (.cells cs.toArray t (0, 0))
section
variable {w w' : World} {q : Nat} {t : TypeId} {cs : List Value}
theorem Bx.lt (h : Bx w q t cs) : q < w.heap.size := blk_lt h
theorem Bx.cell (h : Bx w q t cs) (i : Nat) : w.cell? ⟨q, i, none⟩ = cs[i]? := (rd_cell h i).trans (by simp)
theorem Bx.frozen (h : Bx w q t cs) (i : Nat) : w.frozen? ⟨q, i, none⟩ = false := rd_frozen h i
theorem Bx.new (w : World) (t : TypeId) (cs : List Value) : Bx (w.alloc (.cells cs.toArray t)) w.heap.size t cs := heap_alloc_new w _
theorem Bx.newAt {k : Nat} (hk : k = w.heap.size) (t : TypeId) (cs : List Value) : Bx (w.alloc (.cells cs.toArray t)) k t cs := by subst hk; exact Bx.new w t cs
theorem Bx.below (h : Bx w q t cs) (hb : Below w.heap.size w w') : Bx w' q t cs := (hb.block q h.lt).trans h
theorem Bx.alloc (h : Bx w q t cs) (o : Obj) : Bx (w.alloc o) q t cs := h.below ((Below.refl _ _).alloc (Nat.le_refl _) _)
theorem Bx.fx {X : Nat → Prop} (h : Bx w q t cs) (hf : Fx X w w') (hx : ¬ X q) : Bx w' q t cs := (hf.block q h.lt hx).trans h
theorem Bx.far (h : Bx w q t cs) {p : Addr} (hp : q ≠ p.block) (u : Value) : Bx (w.setCell p u) q t cs := (Below.heap_setCell w p u q hp).trans h
theorem Bx.set (h : Bx w q t cs) (i : Nat) (u : Value) : Bx (w.setCell ⟨q, i, none⟩ u) q t (cs.set i u) := by
  have := blk_set (i := i) h u
  unfold Bx
  rw [this]
  simp
theorem Bx.ne {q' : Nat} {t' : TypeId} {cs' : List Value} (h : Bx w q t cs) (h' : Bx w q' t' cs') (hne : t ≠ t') : q ≠ q' := by
  rintro rfl
  unfold Bx at h h'
  rw [h] at h'
  injection h' with h'
  injection h' with _ ht
  exact hne ht
end
/-- Cells of a box, one behind the other. -/
def setL (w : World) (q : Nat) : Nat → List Value → World
  | _, [] => w
  | i, u :: us => setL (w.setCell ⟨q, i, none⟩ u) q (i + 1) us
def setLs : List Value → Nat → List Value → List Value
  | cs, _, [] => cs
  | cs, i, u :: us => setLs (cs.set i u) (i + 1) us
section
variable {q : Nat} {t : TypeId}
theorem Bx.setL : ∀ {us : List Value} {w : World} {cs : List Value} {i : Nat}, Bx w q t cs → Bx (setL w q i us) q t (setLs cs i us)
  | [], _, _, _, h => h
  | u :: _, _, _, i, h => (h.set i u).setL
theorem Bx.farL {q' : Nat} (hne : q ≠ q') : ∀ {us : List Value} {w : World} {cs : List Value} {i : Nat}, Bx w q t cs → Bx (Go.Proofs.YtddeplbgihcdkaaGreatDoor.setL w q' i us) q t cs
  | [], _, _, _, h => h
  | u :: _, _, _, i, h => (h.far (p := ⟨q', i, none⟩) hne u).farL hne
theorem Fx.setL {X : Nat → Prop} {a : World} (hq : a.heap.size ≤ q ∨ X q) : ∀ {us : List Value} {w : World} {i : Nat}, Fx X a w → Fx X a (Go.Proofs.YtddeplbgihcdkaaGreatDoor.setL w q i us)
  | [], _, _, h => h
  | u :: _, _, i, h => (h.setCell (p := ⟨q, i, none⟩) hq u).setL hq
theorem setL_heap {k : Nat} (hk : k ≠ q) : ∀ (us : List Value) (w : World) (i : Nat), (Go.Proofs.YtddeplbgihcdkaaGreatDoor.setL w q i us).heap[k]? = w.heap[k]?
  | [], _, _ => rfl
  | u :: us, w, i => (setL_heap hk us _ _).trans (Below.heap_setCell w ⟨q, i, none⟩ u k hk)
theorem setL_size : ∀ (us : List Value) (w : World) (i : Nat), (Go.Proofs.YtddeplbgihcdkaaGreatDoor.setL w q i us).heap.size = w.heap.size
  | [], _, _ => rfl
  | u :: us, w, i => (setL_size us _ _).trans (by simp)
end

/-- Where a reader is, as a pointer. -/
def St.ptr (rb : Nat) : St → Option Addr
  | .good _ => some ⟨rb, 0, none⟩
  | .bad _ _ => none
def St.ErV (w : World) : St → Value → Prop
  | .good _, v => v = .nilIface
  | .bad c p, v => ∃ eb, v = .iface 116 (.pointer (some ⟨eb, 0, none⟩)) ∧ AtE w eb p c
def St.Tr (w : World) (rb : Nat) : St → Prop
  | .good us => TR w rb us
  | .bad _ _ => True
/-- A reader of models in memory. -/
structure MRd (w : World) (xb rb b D : Nat) (st : St) : Prop where
  blk : ∃ v, Bx w xb 164 [.pointer (st.ptr rb), .int .i64 (D : Int), v] ∧ st.ErV w v
  tr : st.Tr w rb
  glob : GlobS w
  d1 : 1 ≤ D
  d64 : D ≤ 64
  lo : 3 < b ∧ 0 < b
  hx : b ≤ xb ∧ b ≤ rb
  hr : rb < w.heap.size
section
variable {w w' : World} {xb rb b D : Nat} {st : St}
theorem MRd.ltx (h : MRd w xb rb b D st) : xb < w.heap.size := by obtain ⟨v, h1, _⟩ := h.blk; exact h1.lt
/-- The types that a reader lies in. -/
def RdT (e : TypeId) : Prop := e = 164 ∨ e = 226 ∨ e = 89 ∨ e = 119
theorem TR.keepT {us : List Tok} (h : TR w rb us) (hk : ∀ (k : Nat) (cs : Array Value) (e : TypeId), w.heap[k]? = some (.cells cs e (0, 0)) → RdT e → w'.heap[k]? = w.heap[k]?) (hg : GlobS w') : TR w' rb us := by
  refine ⟨?_, h.fine, hg, h.hi⟩
  obtain ⟨ts, k, h1, g, cap, q1, q2, q3, q4⟩ := h.rd
  refine ⟨ts, k, h1, g, cap, (hk _ _ _ q1 (.inr (.inl rfl))).trans q1, ⟨q2.1, ?_⟩, q3, q4⟩
  rcases q2.2 with ⟨hx, _⟩ | ⟨g', cap', cur, hx, h2, hh, h3⟩
  · cases hx
  · exact .inr ⟨g', cap', cur, hx, h2, (hk _ _ _ hh (.inr (.inr (.inl rfl)))).trans hh, h3⟩
theorem MRd.keep (h : MRd w xb rb b D st) (hk : ∀ (k : Nat) (cs : Array Value) (e : TypeId), w.heap[k]? = some (.cells cs e (0, 0)) → RdT e → w'.heap[k]? = w.heap[k]?) (hg : ∀ k : Nat, k < b → w'.heap[k]? = w.heap[k]?) (hs : w.heap.size ≤ w'.heap.size) : MRd w' xb rb b D st := by
  have hG : GlobS w' := glob_keep h.glob (hg 0 h.lo.2) (hg 3 h.lo.1)
  refine ⟨?_, ?_, hG, h.d1, h.d64, h.lo, h.hx, Nat.lt_of_lt_of_le h.hr hs⟩
  · obtain ⟨v, h1, h2⟩ := h.blk
    refine ⟨v, (hk _ _ _ h1 (.inl rfl)).trans h1, ?_⟩
    cases st with
    | good us => exact h2
    | bad c p =>
      obtain ⟨eb, h3, h4⟩ := h2
      obtain ⟨cs, h5⟩ := h4.typ
      exact ⟨eb, h3, h4.keep (hk _ _ _ h5 (.inr (.inr (.inr rfl))))⟩
  · cases st with
    | good us => exact TR.keepT (us := us) h.tr hk hG
    | bad c p => trivial
theorem MRd.below (h : MRd w xb rb b D st) (hb : Below w.heap.size w w') : MRd w' xb rb b D st :=
  h.keep (fun k cs e hk _ => hb.block k (blk_lt hk)) (fun k hk => hb.block k (by have := h.hx; have := h.ltx; omega)) hb.size
theorem MRd.alloc (h : MRd w xb rb b D st) (o : Obj) : MRd (w.alloc o) xb rb b D st := h.below ((Below.refl _ _).alloc (Nat.le_refl _) _)
theorem MRd.drew (h : MRd w xb rb b D st) : MRd w.drew xb rb b D st := h.below (Below.refl _ _).drew
/-- A store to a box of the call's own. -/
theorem MRd.set {q i : Nat} {t : TypeId} {cs : List Value} (h : MRd w xb rb b D st) (hb : Bx w q t cs) (ht : ¬ RdT t) (hq : b ≤ q) (u : Value) : MRd (w.setCell ⟨q, i, none⟩ u) xb rb b D st := by
  refine h.keep (fun k cs' e hk he => Below.heap_setCell w ⟨q, i, none⟩ u k ?_) (fun k hk => Below.heap_setCell w ⟨q, i, none⟩ u k (by show k ≠ q; omega)) (by simp)
  intro ek
  have ek : k = q := ek
  subst ek
  rw [show w.heap[k]? = _ from hb] at hk
  injection hk with hk
  injection hk with _ e1
  exact ht (e1 ▸ he)
theorem MRd.setL {q : Nat} {t : TypeId} (ht : ¬ RdT t) (hq : b ≤ q) : ∀ {us : List Value} {w : World} {cs : List Value} {i : Nat}, MRd w xb rb b D st → Bx w q t cs → MRd (Go.Proofs.YtddeplbgihcdkaaGreatDoor.setL w q i us) xb rb b D st
  | [], _, _, _, h, _ => h
  | u :: _, _, _, i, h, hb => (h.set hb ht hq u).setL ht hq (hb.set i u)
/-- A row grows that is no reader's. -/
theorem MRd.grown {row : Option Nat} (h : MRd w xb rb b D st) (hg : w.grownBy w' row) (hr : ∀ g, row = some g → b ≤ g ∧ ∃ (cs : Array Value) (e : TypeId), w.heap[g]? = some (.cells cs e (0, 0)) ∧ ¬ RdT e) : MRd w' xb rb b D st := by
  refine h.keep (fun k cs e hk he => hg.block k (blk_lt hk) ?_) (fun k hk => hg.block k (by have := h.hx; have := h.ltx; omega) ?_) hg.size
  · intro e1
    obtain ⟨_, cs', e', h2, h3⟩ := hr k e1.symm
    rw [hk] at h2
    injection h2 with h2
    injection h2 with _ h2
    exact h3 (h2 ▸ he)
  · intro e1
    have := (hr k e1.symm).1
    omega
theorem MRd.cells (h : MRd w xb rb b D st) : ∃ v, w.cell? ⟨xb, 0, none⟩ = some (.pointer (st.ptr rb)) ∧ w.cell? ⟨xb, 1, none⟩ = some (.int .i64 (D : Int)) ∧ w.cell? ⟨xb, 2, none⟩ = some v ∧ w.frozen? ⟨xb, 0, none⟩ = false ∧ w.frozen? ⟨xb, 2, none⟩ = false ∧ st.ErV w v := by
  obtain ⟨v, h1, h2⟩ := h.blk
  exact ⟨v, h1.cell 0, h1.cell 1, h1.cell 2, h1.frozen 0, h1.frozen 2, h2⟩
theorem MRd.c0 (h : MRd w xb rb b D st) : w.cell? ⟨xb, 0, none⟩ = some (.pointer (st.ptr rb)) := by
  obtain ⟨v, h1, _⟩ := h.cells; exact h1
theorem MRd.peeks (h : MRd w xb rb b D st) : Peeks (.pointer (st.ptr rb)) st.hd w := by
  cases st with
  | bad c p => exact peeks_nil w
  | good us =>
    obtain ⟨ts, k, h1, h2, h3⟩ := TR.get (us := us) h.tr
    exact peeks_at h2 h3
theorem MRd.peek (h : MRd w xb rb b D st) : Calls Tryz.prog 73 #[.pointer (st.ptr rb)] w fun e w' => e = .returned (.agg #[.int .i64 st.hd.kind, .string ⟨st.hd.text.toArray⟩, .int .i64 st.hd.pos]) ∧ Below w.heap.size w w' := h.peeks.now
theorem MRd.is_ (h : MRd w xb rb b D st) (x : ByteArray) : Calls Tryz.prog 169 #[.pointer (st.ptr rb), .string x] w fun e w' => e = .returned (.bool (isT st.hd x.data.toList)) ∧ Below w.heap.size w w' := is_any x h.peeks
theorem MRd.skip_no (h : MRd w xb rb b D st) (x : ByteArray) (hi : isT st.hd x.data.toList = false) : Calls Tryz.prog 120 #[.pointer (st.ptr rb), .string x] w fun e w' => e = .returned (.bool false) ∧ Below w.heap.size w w' := Go.Proofs.YtddeplbgihcdkaaGreatDoor.skip_no x h.peeks hi
/-- The tokens' reader has gone on by one. -/
theorem MRd.on {us ts : List Tok} {k : Nat} (h : MRd w xb rb b D (.good us)) (h1 : us = ts.drop k) (h0 : (hd us).kind ≠ 0) (hR : RD w' rb ts (k + 1)) (hg : w.grownBy w' (some rb)) : MRd w' xb rb b D (.good us.tail) ∧ Fx (X2 xb rb) w w' := by
  have hT : TR w rb us := h.tr
  have hf := (hT.fine.more h0).1
  have hF : Fr w.heap.size rb w w' := Fr.ofGrown hg
  obtain ⟨v, hb, hv⟩ := h.blk
  have hne : xb ≠ rb := by
    rintro rfl
    obtain ⟨ts', k', _, g, cap, q1, _⟩ := hT.rd
    rw [show w.heap[xb]? = _ from hb] at q1
    injection q1 with q1
    injection q1 with _ q1
    exact absurd q1 (by decide)
  have hG : GlobS w' := glob_keep h.glob (hF.block 0 (by have := h.lo; have := h.hx; have := h.ltx; omega) (by have := h.lo; have := h.hx; omega)) (hF.block 3 (by have := h.lo; have := h.hx; have := h.ltx; omega) (by have := h.lo; have := h.hx; omega))
  refine ⟨⟨⟨v, (hF.block xb h.ltx hne).trans hb, hv⟩, ⟨⟨ts, k + 1, by rw [h1, List.tail_drop], hR⟩, hf, hG, hT.hi⟩, hG, h.d1, h.d64, h.lo, h.hx, Nat.lt_of_lt_of_le h.hr hg.size⟩, Fx.ofFr hF⟩
theorem hd_good {st : St} (h : st.hd.kind ≠ 0) : ∃ us, st = .good us := by
  obtain ⟨us, h, _⟩ := hd_bad h; exact ⟨us, h⟩
theorem tr_len {us ts : List Tok} {k : Nat} (h : TR w rb us) (h1 : us = ts.drop k) (h0 : (hd us).kind ≠ 0) : k + 1 < ts.length := by
  have hm := (h.fine.more h0).2
  rw [h1, List.tail_drop] at hm
  apply Classical.byContradiction
  intro hx
  exact hm (List.drop_eq_nil_of_le (by omega))
theorem MRd.skip_yes (h : MRd w xb rb b D st) (x : ByteArray) (hi : isT st.hd x.data.toList = true) : Calls Tryz.prog 120 #[.pointer (st.ptr rb), .string x] w fun e w' => e = .returned (.bool true) ∧ MRd w' xb rb b D st.tl ∧ Fx (X2 xb rb) w w' := by
  have h0 := isT_kind hi
  obtain ⟨us, rfl⟩ := hd_good h0
  have hT : TR w rb us := h.tr
  obtain ⟨ts, k, h1, h2, h3⟩ := hT.get
  exact (Go.Proofs.YtddeplbgihcdkaaGreatDoor.skip_yes x h2 h3 hi (tr_len hT h1 h0)).mono fun _ _ ⟨he, hR, hg⟩ => ⟨he, h.on h1 h0 hR hg⟩
theorem MRd.take_on (h : MRd w xb rb b D st) (h0 : st.hd.kind ≠ 0) : Calls Tryz.prog 170 #[.pointer (st.ptr rb)] w fun e w' => e = .returned (.agg #[.int .i64 st.hd.kind, .string ⟨st.hd.text.toArray⟩, .int .i64 st.hd.pos]) ∧ MRd w' xb rb b D st.tl ∧ Fx (X2 xb rb) w w' := by
  obtain ⟨us, rfl⟩ := hd_good h0
  have hT : TR w rb us := h.tr
  obtain ⟨ts, k, h1, h2, h3⟩ := hT.get
  exact (Go.Proofs.YtddeplbgihcdkaaGreatDoor.take_on h2 h3 h0 (tr_len hT h1 h0)).mono fun _ _ ⟨he, hR, hg⟩ => ⟨he, h.on h1 h0 hR hg⟩
theorem MRd.take_end (h : MRd w xb rb b D st) (h0 : st.hd.kind = 0) : Calls Tryz.prog 170 #[.pointer (st.ptr rb)] w fun e w' => e = .returned (.agg #[.int .i64 st.hd.kind, .string ⟨st.hd.text.toArray⟩, .int .i64 st.hd.pos]) ∧ Below w.heap.size w w' := Go.Proofs.YtddeplbgihcdkaaGreatDoor.take_end h.peeks h0
end
end Go.Proofs.YtddeplbgihcdkaaGreatDoor
