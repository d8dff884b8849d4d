/-
  A reader of models in memory; the parts of a model in memory. What a reader of models does: fail, refuse, want, isWord, isName, name, text and expression, walked. Names, texts and expressions of a reader of models, walked; expressions in memory.
-/
import Derived.Test.YtodijgndbjfbgaaGreatDoorG1
import Derived.Test.YtodijgndbjfbgaaGreatDoorKV
import Derived.Test.YtodijgndbjfbgaaGreatDoorSZ
import Derived.Deep.RegionHeld3
import Derived.BigQuiet
namespace Go.Proofs.YtodijgndbjfbgaaGreatDoor
section
open Go.RowKit

/-- All is as it was, but for some blocks. -/
structure Fx (X : Nat → Prop) (w w' : World) : Prop where
  os : w'.os = w.os
  tape : w'.tape = w.tape
  output : w'.output = w.output
  size : w.heap.size ≤ w'.heap.size
  block : ∀ k, k < w.heap.size → ¬ X k → w'.heap[k]? = w.heap[k]?
section
variable {X Y : Nat → Prop} {a b c w w' : World}
theorem Fx.refl (X : Nat → Prop) (w : World) : Fx X w w := ⟨rfl, rfl, rfl, Nat.le_refl _, fun _ _ _ => rfl⟩
theorem Fx.trans (h : Fx X a b) (k : Fx X b c) : Fx X a c :=
  ⟨k.os.trans h.os, k.tape.trans h.tape, k.output.trans h.output, Nat.le_trans h.size k.size, fun i hi hn => (k.block i (Nat.lt_of_lt_of_le hi h.size) hn).trans (h.block i hi hn)⟩
theorem Fx.of (h : Below w.heap.size w w') : Fx X w w' := ⟨h.os, h.tape, h.output, h.size, fun k hk _ => h.block k hk⟩
theorem Fx.wide (h : Fx X a w) (hxy : ∀ k, k < a.heap.size → X k → Y k) : Fx Y a w := ⟨h.os, h.tape, h.output, h.size, fun k hk hn => h.block k hk (fun hx => hn (hxy k hk hx))⟩
theorem Fx.below (h : Fx X w w') (hx : ∀ k, X k → w.heap.size ≤ k) : Below w.heap.size w w' := ⟨h.os, h.tape, h.output, h.size, fun k hk => h.block k hk (fun e => absurd (hx k e) (by omega))⟩
theorem Fx.on (h : Fx X a w) (k : Below w.heap.size w w') : Fx X a w' := h.trans (Fx.of k)
theorem Fx.alloc (h : Fx X a w) (o : Obj) : Fx X a (w.alloc o) := h.on ((Below.refl _ _).alloc (Nat.le_refl _) o)
theorem Fx.drew (h : Fx X a w) : Fx X a w.drew := h.on (Below.refl _ _).drew
theorem Fx.setCell (h : Fx X a w) {p : Addr} (hp : a.heap.size ≤ p.block ∨ X p.block) (u : Value) : Fx X a (w.setCell p u) :=
  ⟨h.os, h.tape, h.output, by simpa using h.size, fun k hk hn => (Below.heap_setCell w p u k (by rcases hp with hp | hp; omega; intro e; exact hn (e ▸ hp))).trans (h.block k hk hn)⟩
end
def X2 (xb rb k : Nat) : Prop := k = xb ∨ k = rb
theorem Fx.ofFr {xb rb : Nat} {w w' : World} (h : Fr w.heap.size rb w w') : Fx (X2 xb rb) w w' := ⟨h.os, h.tape, h.output, h.size, fun k hk hn => h.block k hk (fun e => hn (.inr e))⟩

/-- A box of the call's own, its cells by name. -/
def Bx (w : World) (q : Nat) (t : TypeId) (cs : List Value) : Prop := w.heap[q]? = some (.cells cs.toArray t (0, 0))
section
variable {w w' : World} {q : Nat} {t : TypeId} {cs : List Value}
theorem Bx.lt (h : Bx w q t cs) : q < w.heap.size := blk_lt h
theorem Bx.cell (h : Bx w q t cs) (i : Nat) : w.cell? ⟨q, i, none⟩ = cs[i]? := (rd_cell h i).trans (by simp)
theorem Bx.frozen (h : Bx w q t cs) (i : Nat) : w.frozen? ⟨q, i, none⟩ = false := rd_frozen h i
theorem Bx.new (w : World) (t : TypeId) (cs : List Value) : Bx (w.alloc (.cells cs.toArray t)) w.heap.size t cs := heap_alloc_new w _
theorem Bx.newAt {k : Nat} (hk : k = w.heap.size) (t : TypeId) (cs : List Value) : Bx (w.alloc (.cells cs.toArray t)) k t cs := by subst hk; exact Bx.new w t cs
theorem Bx.below (h : Bx w q t cs) (hb : Below w.heap.size w w') : Bx w' q t cs := (hb.block q h.lt).trans h
theorem Bx.alloc (h : Bx w q t cs) (o : Obj) : Bx (w.alloc o) q t cs := h.below ((Below.refl _ _).alloc (Nat.le_refl _) _)
theorem Bx.fx {X : Nat → Prop} (h : Bx w q t cs) (hf : Fx X w w') (hx : ¬ X q) : Bx w' q t cs := (hf.block q h.lt hx).trans h
theorem Bx.far (h : Bx w q t cs) {p : Addr} (hp : q ≠ p.block) (u : Value) : Bx (w.setCell p u) q t cs := (Below.heap_setCell w p u q hp).trans h
theorem Bx.set (h : Bx w q t cs) (i : Nat) (u : Value) : Bx (w.setCell ⟨q, i, none⟩ u) q t (cs.set i u) := by
  have := blk_set (i := i) h u
  unfold Bx
  rw [this]
  simp
theorem Bx.ne {q' : Nat} {t' : TypeId} {cs' : List Value} (h : Bx w q t cs) (h' : Bx w q' t' cs') (hne : t ≠ t') : q ≠ q' := by
  rintro rfl
  unfold Bx at h h'
  rw [h] at h'
  injection h' with h'
  injection h' with _ ht
  exact hne ht
end
/-- Cells of a box, one behind the other. -/
def setL (w : World) (q : Nat) : Nat → List Value → World
  | _, [] => w
  | i, u :: us => setL (w.setCell ⟨q, i, none⟩ u) q (i + 1) us
def setLs : List Value → Nat → List Value → List Value
  | cs, _, [] => cs
  | cs, i, u :: us => setLs (cs.set i u) (i + 1) us
section
variable {q : Nat} {t : TypeId}
theorem Bx.setL : ∀ {us : List Value} {w : World} {cs : List Value} {i : Nat}, Bx w q t cs → Bx (setL w q i us) q t (setLs cs i us)
  | [], _, _, _, h => h
  | u :: _, _, _, i, h => (h.set i u).setL
theorem Bx.farL {q' : Nat} (hne : q ≠ q') : ∀ {us : List Value} {w : World} {cs : List Value} {i : Nat}, Bx w q t cs → Bx (Go.Proofs.YtodijgndbjfbgaaGreatDoor.setL w q' i us) q t cs
  | [], _, _, _, h => h
  | u :: _, _, _, i, h => (h.far (p := ⟨q', i, none⟩) hne u).farL hne
theorem Fx.setL {X : Nat → Prop} {a : World} (hq : a.heap.size ≤ q ∨ X q) : ∀ {us : List Value} {w : World} {i : Nat}, Fx X a w → Fx X a (Go.Proofs.YtodijgndbjfbgaaGreatDoor.setL w q i us)
  | [], _, _, h => h
  | u :: _, _, i, h => (h.setCell (p := ⟨q, i, none⟩) hq u).setL hq
theorem setL_heap {k : Nat} (hk : k ≠ q) : ∀ (us : List Value) (w : World) (i : Nat), (Go.Proofs.YtodijgndbjfbgaaGreatDoor.setL w q i us).heap[k]? = w.heap[k]?
  | [], _, _ => rfl
  | u :: us, w, i => (setL_heap hk us _ _).trans (Below.heap_setCell w ⟨q, i, none⟩ u k hk)
theorem setL_size : ∀ (us : List Value) (w : World) (i : Nat), (Go.Proofs.YtodijgndbjfbgaaGreatDoor.setL w q i us).heap.size = w.heap.size
  | [], _, _ => rfl
  | u :: us, w, i => (setL_size us _ _).trans (by simp)
end

/-- Where a reader is, as a pointer. -/
def St.ptr (rb : Nat) : St → Option Addr
  | .good _ => some ⟨rb, 0, none⟩
  | .bad _ _ => none
def St.ErV (w : World) : St → Value → Prop
  | .good _, v => v = .nilIface
  | .bad c p, v => ∃ eb, v = .iface 101 (.pointer (some ⟨eb, 0, none⟩)) ∧ AtE w eb p c
def St.Tr (w : World) (rb : Nat) : St → Prop
  | .good us => TR w rb us
  | .bad _ _ => True
/-- A reader of models in memory. -/
structure MRd (w : World) (xb rb b D : Nat) (st : St) : Prop where
  blk : ∃ v, Bx w xb 67 [.pointer (st.ptr rb), .int .i64 (D : Int), v] ∧ st.ErV w v
  tr : st.Tr w rb
  glob : GlobS w
  d1 : 1 ≤ D
  d64 : D ≤ 64
  lo : 3 < b ∧ 0 < b
  hx : b ≤ xb ∧ b ≤ rb
  hr : rb < w.heap.size
section
variable {w w' : World} {xb rb b D : Nat} {st : St}
theorem MRd.ltx (h : MRd w xb rb b D st) : xb < w.heap.size := by obtain ⟨v, h1, _⟩ := h.blk; exact h1.lt
/-- The types that a reader lies in. -/
def RdT (e : TypeId) : Prop := e = 67 ∨ e = 127 ∨ e = 46 ∨ e = 104
theorem TR.keepT {us : List Tok} (h : TR w rb us) (hk : ∀ (k : Nat) (cs : Array Value) (e : TypeId), w.heap[k]? = some (.cells cs e (0, 0)) → RdT e → w'.heap[k]? = w.heap[k]?) (hg : GlobS w') : TR w' rb us := by
  refine ⟨?_, h.fine, hg, h.hi⟩
  obtain ⟨ts, k, h1, g, cap, q1, q2, q3, q4⟩ := h.rd
  refine ⟨ts, k, h1, g, cap, (hk _ _ _ q1 (.inr (.inl rfl))).trans q1, ⟨q2.1, ?_⟩, q3, q4⟩
  rcases q2.2 with ⟨hx, _⟩ | ⟨g', cap', cur, hx, h2, hh, h3⟩
  · cases hx
  · exact .inr ⟨g', cap', cur, hx, h2, (hk _ _ _ hh (.inr (.inr (.inl rfl)))).trans hh, h3⟩
theorem MRd.keep (h : MRd w xb rb b D st) (hk : ∀ (k : Nat) (cs : Array Value) (e : TypeId), w.heap[k]? = some (.cells cs e (0, 0)) → RdT e → w'.heap[k]? = w.heap[k]?) (hg : ∀ k : Nat, k < b → w'.heap[k]? = w.heap[k]?) (hs : w.heap.size ≤ w'.heap.size) : MRd w' xb rb b D st := by
  have hG : GlobS w' := glob_keep h.glob (hg 0 h.lo.2) (hg 3 h.lo.1)
  refine ⟨?_, ?_, hG, h.d1, h.d64, h.lo, h.hx, Nat.lt_of_lt_of_le h.hr hs⟩
  · obtain ⟨v, h1, h2⟩ := h.blk
    refine ⟨v, (hk _ _ _ h1 (.inl rfl)).trans h1, ?_⟩
    cases st with
    | good us => exact h2
    | bad c p =>
      obtain ⟨eb, h3, h4⟩ := h2
      obtain ⟨cs, h5⟩ := h4.typ
      exact ⟨eb, h3, h4.keep (hk _ _ _ h5 (.inr (.inr (.inr rfl))))⟩
  · cases st with
    | good us => exact TR.keepT (us := us) h.tr hk hG
    | bad c p => trivial
theorem MRd.below (h : MRd w xb rb b D st) (hb : Below w.heap.size w w') : MRd w' xb rb b D st :=
  h.keep (fun k cs e hk _ => hb.block k (blk_lt hk)) (fun k hk => hb.block k (by have := h.hx; have := h.ltx; omega)) hb.size
theorem MRd.alloc (h : MRd w xb rb b D st) (o : Obj) : MRd (w.alloc o) xb rb b D st := h.below ((Below.refl _ _).alloc (Nat.le_refl _) _)
theorem MRd.drew (h : MRd w xb rb b D st) : MRd w.drew xb rb b D st := h.below (Below.refl _ _).drew
/-- A store to a box of the call's own. -/
theorem MRd.set {q i : Nat} {t : TypeId} {cs : List Value} (h : MRd w xb rb b D st) (hb : Bx w q t cs) (ht : ¬ RdT t) (hq : b ≤ q) (u : Value) : MRd (w.setCell ⟨q, i, none⟩ u) xb rb b D st := by
  refine h.keep (fun k cs' e hk he => Below.heap_setCell w ⟨q, i, none⟩ u k ?_) (fun k hk => Below.heap_setCell w ⟨q, i, none⟩ u k (by show k ≠ q; omega)) (by simp)
  intro ek
  have ek : k = q := ek
  subst ek
  rw [show w.heap[k]? = _ from hb] at hk
  injection hk with hk
  injection hk with _ e1
  exact ht (e1 ▸ he)
theorem MRd.setL {q : Nat} {t : TypeId} (ht : ¬ RdT t) (hq : b ≤ q) : ∀ {us : List Value} {w : World} {cs : List Value} {i : Nat}, MRd w xb rb b D st → Bx w q t cs → MRd (Go.Proofs.YtodijgndbjfbgaaGreatDoor.setL w q i us) xb rb b D st
  | [], _, _, _, h, _ => h
  | u :: _, _, _, i, h, hb => (h.set hb ht hq u).setL ht hq (hb.set i u)
/-- A row grows that is no reader's. -/
theorem MRd.grown {row : Option Nat} (h : MRd w xb rb b D st) (hg : w.grownBy w' row) (hr : ∀ g, row = some g → b ≤ g ∧ ∃ (cs : Array Value) (e : TypeId), w.heap[g]? = some (.cells cs e (0, 0)) ∧ ¬ RdT e) : MRd w' xb rb b D st := by
  refine h.keep (fun k cs e hk he => hg.block k (blk_lt hk) ?_) (fun k hk => hg.block k (by have := h.hx; have := h.ltx; omega) ?_) hg.size
  · intro e1
    obtain ⟨_, cs', e', h2, h3⟩ := hr k e1.symm
    rw [hk] at h2
    injection h2 with h2
    injection h2 with _ h2
    exact h3 (h2 ▸ he)
  · intro e1
    have := (hr k e1.symm).1
    omega
theorem MRd.cells (h : MRd w xb rb b D st) : ∃ v, w.cell? ⟨xb, 0, none⟩ = some (.pointer (st.ptr rb)) ∧ w.cell? ⟨xb, 1, none⟩ = some (.int .i64 (D : Int)) ∧ w.cell? ⟨xb, 2, none⟩ = some v ∧ w.frozen? ⟨xb, 0, none⟩ = false ∧ w.frozen? ⟨xb, 2, none⟩ = false ∧ st.ErV w v := by
  obtain ⟨v, h1, h2⟩ := h.blk
  exact ⟨v, h1.cell 0, h1.cell 1, h1.cell 2, h1.frozen 0, h1.frozen 2, h2⟩
theorem MRd.c0 (h : MRd w xb rb b D st) : w.cell? ⟨xb, 0, none⟩ = some (.pointer (st.ptr rb)) := by
  obtain ⟨v, h1, _⟩ := h.cells; exact h1
theorem MRd.peeks (h : MRd w xb rb b D st) : Peeks (.pointer (st.ptr rb)) st.hd w := by
  cases st with
  | bad c p => exact peeks_nil w
  | good us =>
    obtain ⟨ts, k, h1, h2, h3⟩ := TR.get (us := us) h.tr
    exact peeks_at h2 h3
theorem MRd.peek (h : MRd w xb rb b D st) : Calls Tryz.prog 45 #[.pointer (st.ptr rb)] w fun e w' => e = .returned (.agg #[.int .i64 st.hd.kind, .string ⟨st.hd.text.toArray⟩, .int .i64 st.hd.pos]) ∧ Below w.heap.size w w' := h.peeks.now
theorem MRd.is_ (h : MRd w xb rb b D st) (x : ByteArray) : Calls Tryz.prog 77 #[.pointer (st.ptr rb), .string x] w fun e w' => e = .returned (.bool (isT st.hd x.data.toList)) ∧ Below w.heap.size w w' := is_any x h.peeks
theorem MRd.skip_no (h : MRd w xb rb b D st) (x : ByteArray) (hi : isT st.hd x.data.toList = false) : Calls Tryz.prog 101 #[.pointer (st.ptr rb), .string x] w fun e w' => e = .returned (.bool false) ∧ Below w.heap.size w w' := Go.Proofs.YtodijgndbjfbgaaGreatDoor.skip_no x h.peeks hi
/-- The tokens' reader has gone on by one. -/
theorem MRd.on {us ts : List Tok} {k : Nat} (h : MRd w xb rb b D (.good us)) (h1 : us = ts.drop k) (h0 : (hd us).kind ≠ 0) (hR : RD w' rb ts (k + 1)) (hg : w.grownBy w' (some rb)) : MRd w' xb rb b D (.good us.tail) ∧ Fx (X2 xb rb) w w' := by
  have hT : TR w rb us := h.tr
  have hf := (hT.fine.more h0).1
  have hF : Fr w.heap.size rb w w' := Fr.ofGrown hg
  obtain ⟨v, hb, hv⟩ := h.blk
  have hne : xb ≠ rb := by
    rintro rfl
    obtain ⟨ts', k', _, g, cap, q1, _⟩ := hT.rd
    rw [show w.heap[xb]? = _ from hb] at q1
    injection q1 with q1
    injection q1 with _ q1
    exact absurd q1 (by decide)
  have hG : GlobS w' := glob_keep h.glob (hF.block 0 (by have := h.lo; have := h.hx; have := h.ltx; omega) (by have := h.lo; have := h.hx; omega)) (hF.block 3 (by have := h.lo; have := h.hx; have := h.ltx; omega) (by have := h.lo; have := h.hx; omega))
  refine ⟨⟨⟨v, (hF.block xb h.ltx hne).trans hb, hv⟩, ⟨⟨ts, k + 1, by rw [h1, List.tail_drop], hR⟩, hf, hG, hT.hi⟩, hG, h.d1, h.d64, h.lo, h.hx, Nat.lt_of_lt_of_le h.hr hg.size⟩, Fx.ofFr hF⟩
theorem hd_good {st : St} (h : st.hd.kind ≠ 0) : ∃ us, st = .good us := by
  obtain ⟨us, h, _⟩ := hd_bad h; exact ⟨us, h⟩
theorem tr_len {us ts : List Tok} {k : Nat} (h : TR w rb us) (h1 : us = ts.drop k) (h0 : (hd us).kind ≠ 0) : k + 1 < ts.length := by
  have hm := (h.fine.more h0).2
  rw [h1, List.tail_drop] at hm
  apply Classical.byContradiction
  intro hx
  exact hm (List.drop_eq_nil_of_le (by omega))
theorem MRd.skip_yes (h : MRd w xb rb b D st) (x : ByteArray) (hi : isT st.hd x.data.toList = true) : Calls Tryz.prog 101 #[.pointer (st.ptr rb), .string x] w fun e w' => e = .returned (.bool true) ∧ MRd w' xb rb b D st.tl ∧ Fx (X2 xb rb) w w' := by
  have h0 := isT_kind hi
  obtain ⟨us, rfl⟩ := hd_good h0
  have hT : TR w rb us := h.tr
  obtain ⟨ts, k, h1, h2, h3⟩ := hT.get
  exact (Go.Proofs.YtodijgndbjfbgaaGreatDoor.skip_yes x h2 h3 hi (tr_len hT h1 h0)).mono fun _ _ ⟨he, hR, hg⟩ => ⟨he, h.on h1 h0 hR hg⟩
theorem MRd.take_on (h : MRd w xb rb b D st) (h0 : st.hd.kind ≠ 0) : Calls Tryz.prog 123 #[.pointer (st.ptr rb)] w fun e w' => e = .returned (.agg #[.int .i64 st.hd.kind, .string ⟨st.hd.text.toArray⟩, .int .i64 st.hd.pos]) ∧ MRd w' xb rb b D st.tl ∧ Fx (X2 xb rb) w w' := by
  obtain ⟨us, rfl⟩ := hd_good h0
  have hT : TR w rb us := h.tr
  obtain ⟨ts, k, h1, h2, h3⟩ := hT.get
  exact (Go.Proofs.YtodijgndbjfbgaaGreatDoor.take_on h2 h3 h0 (tr_len hT h1 h0)).mono fun _ _ ⟨he, hR, hg⟩ => ⟨he, h.on h1 h0 hR hg⟩
theorem MRd.take_end (h : MRd w xb rb b D st) (h0 : st.hd.kind = 0) : Calls Tryz.prog 123 #[.pointer (st.ptr rb)] w fun e w' => e = .returned (.agg #[.int .i64 st.hd.kind, .string ⟨st.hd.text.toArray⟩, .int .i64 st.hd.pos]) ∧ Below w.heap.size w w' := Go.Proofs.YtodijgndbjfbgaaGreatDoor.take_end h.peeks h0
end
end
section
open Go.RowKit

/-- What a method without a result leaves. -/
def MU (xb rb b D : Nat) (st : St) (w : World) (e : Ending) (w' : World) : Prop := e = .returned (.tuple #[]) ∧ MRd w' xb rb b D st ∧ Fx (X2 xb rb) w w'
section
variable {xb rb b D : Nat} {st : St}
theorem mfail_nil (w : World) (h : MRd w xb rb b D st) : Calls Tryz.prog 75 #[.pointer (some ⟨xb, 0, none⟩), .nilIface] w (MU xb rb b D st w) := by
  have H := Lib.hid h
  clear h
  go_enter Tryz.func75, Tryz.ntmps75
  go_wp2
  exact bodyPost_ret (v := .tuple #[]) (results_none rfl _ _ _) rfl ⟨rfl, H.out, Fx.refl _ _⟩
theorem mfail_bad {c p : Nat} (w : World) (h : MRd w xb rb b D (.bad c p)) (t : TypeId) (u : Value) : Calls Tryz.prog 75 #[.pointer (some ⟨xb, 0, none⟩), .iface t u] w (MU xb rb b D (.bad c p) w) := by
  obtain ⟨v, c0, c1, c2, z0, z2, eb, rfl, hA⟩ := h.cells
  have hx := h.ltx
  have H := Lib.hid h
  clear h hA
  go_enter Tryz.func75, Tryz.ntmps75
  go_wp2
  exact bodyPost_ret (v := .tuple #[]) (results_none rfl _ _ _) rfl ⟨rfl, H.out, Fx.refl _ _⟩
/-- A reader that has not failed, wherever its tokens are. -/
structure MR0 (w : World) (xb rb b D : Nat) : Prop where
  blk : Bx w xb 67 [.pointer (some ⟨rb, 0, none⟩), .int .i64 (D : Int), .nilIface]
  glob : GlobS w
  d1 : 1 ≤ D
  d64 : D ≤ 64
  lo : 3 < b ∧ 0 < b
  hx : b ≤ xb ∧ b ≤ rb
  hr : rb < w.heap.size
theorem MRd.mr0 {us : List Tok} {w : World} (h : MRd w xb rb b D (.good us)) : MR0 w xb rb b D := by
  obtain ⟨v, h1, h2⟩ := h.blk
  obtain rfl : v = .nilIface := h2
  exact ⟨h1, h.glob, h.d1, h.d64, h.lo, h.hx, h.hr⟩
theorem mfail_good {c p eb : Nat} (w : World) (h : MR0 w xb rb b D) (hA : AtE w eb p c) : Calls Tryz.prog 75 #[.pointer (some ⟨xb, 0, none⟩), .iface 101 (.pointer (some ⟨eb, 0, none⟩))] w (MU xb rb b D (.bad c p) w) := by
  have hx := h.blk.lt
  have c0 := h.blk.cell 0
  have c2 := h.blk.cell 2
  have z0 := h.blk.frozen 0
  have z2 := h.blk.frozen 2
  simp only [List.getElem?_cons_zero, List.getElem?_cons_succ] at c0 c2
  have H := Lib.hid h
  have HA := Lib.hid hA
  clear h hA
  go_enter Tryz.func75, Tryz.ntmps75
  go_wp2
  refine bodyPost_ret (v := .tuple #[]) (results_none rfl _ _ _) rfl ⟨rfl, ?_, ((Fx.refl _ _).setCell (p := ⟨xb, 0, none⟩) (.inr (.inl rfl)) _).setCell (p := ⟨xb, 2, none⟩) (.inr (.inl rfl)) _⟩
  have hb := H.out.blk
  have hne : eb ≠ xb := by
    rintro rfl
    obtain ⟨cs, ht⟩ := HA.out.typ
    rw [show w.heap[eb]? = _ from hb] at ht
    injection ht with ht
    injection ht with _ ht
    exact absurd ht (by decide)
  have h2 := ((hb.set 0 (.pointer none)).set 2 (.iface 101 (.pointer (some ⟨eb, 0, none⟩))))
  have hg : ∀ k, k < b → ((w.setCell ⟨xb, 0, none⟩ (.pointer none)).setCell ⟨xb, 2, none⟩ (.iface 101 (.pointer (some ⟨eb, 0, none⟩)))).heap[k]? = w.heap[k]? := fun k hk => (Below.heap_setCell _ ⟨xb, 2, none⟩ _ k (by show k ≠ xb; have := H.out.hx; omega)).trans (Below.heap_setCell w ⟨xb, 0, none⟩ _ k (by show k ≠ xb; have := H.out.hx; omega))
  refine ⟨⟨_, h2, eb, rfl, (HA.out.far (a := ⟨xb, 0, none⟩) hne _).far (a := ⟨xb, 2, none⟩) hne _⟩, trivial, glob_keep H.out.glob (hg 0 H.out.lo.2) (hg 3 H.out.lo.1), H.out.d1, H.out.d64, H.out.lo, H.out.hx, by simpa using H.out.hr⟩

theorem MU.of {st' : St} {w w1 w' : World} {e : Ending} (h : MU xb rb b D st' w1 e w') (k : Fx (X2 xb rb) w w1) : MU xb rb b D st' w e w' := ⟨h.1, h.2.1, k.trans h.2.2⟩
set_option maxHeartbeats 1000000 in
theorem mwant_any (w : World) (h : MRd w xb rb b D st) (x : ByteArray) : Calls Tryz.prog 44 #[.pointer (some ⟨xb, 0, none⟩), .string x] w (MU xb rb b D (st.want x.data.toList) w) := by
  have hx := h.ltx
  have c0 := h.c0
  have H := Lib.hid h
  cases st with
  | bad c p =>
    have e : (St.bad c p).want x.data.toList = .bad c p := rfl
    rw [e]
    have HW := Lib.hid (want_nil x w)
    clear h e
    simp only [St.ptr] at c0
    go_enter Tryz.func44, Tryz.ntmps44
    go_wp2_with fail
    with_reducible refine (HW.out).mono ?_
    rintro e w1 ⟨rfl, hb1⟩
    have HB := Lib.hid hb1
    clear hb1
    go_wp2_with fail
    refine (mfail_bad w1 (H.out.below HB.out) _ _).mono ?_
    rintro e w2 ⟨rfl, hM, hF⟩
    go_wp2
    go_end0
    exact ⟨rfl, hM, (Fx.of HB.out).trans hF⟩
  | good us =>
    have hT : TR w rb us := h.tr
    obtain ⟨ts, k, h1, h2, h3⟩ := hT.get
    simp only [St.ptr] at c0
    by_cases hi : isT (hd us) x.data.toList = true
    · have e : (St.good us).want x.data.toList = .good us.tail := by simp [St.want, St.hd, hi, St.tl]
      rw [e]
      have HW := Lib.hid (want_yes x h2 h3 hi (tr_len hT h1 (isT_kind hi)))
      have HO := Lib.hid (fun (w' : World) (hR : RD w' rb ts (k + 1)) (hg : w.grownBy w' (some rb)) => h.on h1 (isT_kind hi) hR hg)
      clear h e h2 h3 hi h1 hT
      go_enter Tryz.func44, Tryz.ntmps44
      go_wp2_with fail
      with_reducible refine (HW.out).mono ?_
      rintro e w1 ⟨rfl, hR, hg⟩
      have HM := Lib.hid (HO.out w1 hR hg)
      clear hR hg
      go_wp2_with fail
      refine (mfail_nil w1 HM.out.1).mono ?_
      rintro e w2 ⟨rfl, hM, hF⟩
      go_wp2
      go_end0
      exact ⟨rfl, hM, HM.out.2.trans hF⟩
    · have hi' : isT (hd us) x.data.toList = false := by simpa using hi
      have e : (St.good us).want x.data.toList = .bad 20 (hd us).pos := by simp [St.want, St.hd, hi', St.fail]
      rw [e]
      have HW := Lib.hid (want_no x (peeks_at h2 h3) hi')
      clear h e h2 h3 hi hi' h1 hT
      go_enter Tryz.func44, Tryz.ntmps44
      go_wp2_with fail
      with_reducible refine (HW.out).mono ?_
      rintro e w1 ⟨eb, rfl, hle, hA, hb⟩
      have HB := Lib.hid hb
      have HA := Lib.hid hA
      clear hb hA
      go_wp2_with fail
      refine (mfail_good w1 (H.out.below HB.out).mr0 HA.out).mono ?_
      rintro e w2 ⟨rfl, hM, hF⟩
      go_wp2
      go_end0
      exact ⟨rfl, hM, (Fx.of HB.out).trans hF⟩
set_option maxHeartbeats 1000000 in
theorem mrefuse_any (w : World) (h : MRd w xb rb b D st) : Calls Tryz.prog 84 #[.pointer (some ⟨xb, 0, none⟩)] w (MU xb rb b D (st.fail 20) w) := by
  have hx := h.ltx
  have c0 := h.c0
  have H := Lib.hid h
  have HP := Lib.hid h.peek
  have hf0 := field0
  have hf1 := field1
  have hf2 := field2
  cases st with
  | bad c p =>
    have e : (St.bad c p).fail 20 = .bad c p := rfl
    rw [e]
    clear h e
    simp only [St.ptr] at c0 HP
    go_enter Tryz.func84, Tryz.ntmps84
    go_wp2_with fail
    with_reducible refine (HP.out).mono ?_
    rintro e w1 ⟨rfl, hb1⟩
    have HB := Lib.hid hb1
    clear hb1
    go_wp2_with fail
    refine (mfail_bad _ ((H.out.below HB.out).alloc _) _ _).mono ?_
    rintro e w2 ⟨rfl, hM, hF⟩
    go_wp2
    go_end0
    exact ⟨rfl, hM, ((Fx.of HB.out).alloc _).trans hF⟩
  | good us =>
    have e : (St.good us).fail 20 = .bad 20 (hd us).pos := rfl
    rw [e]
    clear h e
    simp only [St.ptr, St.hd] at c0 HP
    go_enter Tryz.func84, Tryz.ntmps84
    go_wp2_with fail
    with_reducible refine (HP.out).mono ?_
    rintro e w1 ⟨rfl, hb1⟩
    have HB := Lib.hid hb1
    clear hb1
    go_wp2_with fail
    refine (mfail_good (c := 20) (p := (hd us).pos) _ ((H.out.below HB.out).alloc _).mr0 (AtE.new rfl _ _)).mono ?_
    rintro e w2 ⟨rfl, hM, hF⟩
    go_wp2
    go_end0
    exact ⟨rfl, hM, ((Fx.of HB.out).alloc _).trans hF⟩
end
def WdP (v : Bool) (w : World) (e : Ending) (w' : World) : Prop := e = .returned (.bool v) ∧ w = w'
theorem isword_any (s : ByteArray) (w : World) : Calls Tryz.prog 125 #[.string s] w (WdP (isWd s.data.toList) w) := by
  rw [← ByteArray.toList_eq]
  by_cases h0 : s.toList = [109, 100, 112]
  · have h := h0
    clear h0
    have g0 : (s.toList == [109, 100, 112]) = true := by rw [h]; rfl
    have g1 : (s.toList == [99, 111, 110, 115, 116]) = false := by rw [h]; rfl
    have g2 : (s.toList == [102, 111, 114, 109, 117, 108, 97]) = false := by rw [h]; rfl
    have g3 : (s.toList == [108, 97, 98, 101, 108]) = false := by rw [h]; rfl
    have g4 : (s.toList == [109, 111, 100, 117, 108, 101]) = false := by rw [h]; rfl
    have g5 : (s.toList == [101, 110, 100, 109, 111, 100, 117, 108, 101]) = false := by rw [h]; rfl
    have g6 : (s.toList == [98, 111, 111, 108]) = false := by rw [h]; rfl
    have g7 : (s.toList == [105, 110, 105, 116]) = false := by rw [h]; rfl
    have g8 : (s.toList == [116, 114, 117, 101]) = false := by rw [h]; rfl
    have g9 : (s.toList == [102, 97, 108, 115, 101]) = false := by rw [h]; rfl
    have HK := Lib.hid (show isWd s.toList = true by rw [h]; rfl)
    clear h
    go_enter Tryz.func125, Tryz.ntmps125
    go_wp2
    go_ret
    exact ⟨ret_bool HK.out.symm, rfl⟩
  by_cases h1 : s.toList = [99, 111, 110, 115, 116]
  · have h := h1
    clear h1 h0
    have g0 : (s.toList == [109, 100, 112]) = false := by rw [h]; rfl
    have g1 : (s.toList == [99, 111, 110, 115, 116]) = true := by rw [h]; rfl
    have g2 : (s.toList == [102, 111, 114, 109, 117, 108, 97]) = false := by rw [h]; rfl
    have g3 : (s.toList == [108, 97, 98, 101, 108]) = false := by rw [h]; rfl
    have g4 : (s.toList == [109, 111, 100, 117, 108, 101]) = false := by rw [h]; rfl
    have g5 : (s.toList == [101, 110, 100, 109, 111, 100, 117, 108, 101]) = false := by rw [h]; rfl
    have g6 : (s.toList == [98, 111, 111, 108]) = false := by rw [h]; rfl
    have g7 : (s.toList == [105, 110, 105, 116]) = false := by rw [h]; rfl
    have g8 : (s.toList == [116, 114, 117, 101]) = false := by rw [h]; rfl
    have g9 : (s.toList == [102, 97, 108, 115, 101]) = false := by rw [h]; rfl
    have HK := Lib.hid (show isWd s.toList = true by rw [h]; rfl)
    clear h
    go_enter Tryz.func125, Tryz.ntmps125
    go_wp2
    go_ret
    exact ⟨ret_bool HK.out.symm, rfl⟩
  by_cases h2 : s.toList = [102, 111, 114, 109, 117, 108, 97]
  · have h := h2
    clear h2 h1 h0
    have g0 : (s.toList == [109, 100, 112]) = false := by rw [h]; rfl
    have g1 : (s.toList == [99, 111, 110, 115, 116]) = false := by rw [h]; rfl
    have g2 : (s.toList == [102, 111, 114, 109, 117, 108, 97]) = true := by rw [h]; rfl
    have g3 : (s.toList == [108, 97, 98, 101, 108]) = false := by rw [h]; rfl
    have g4 : (s.toList == [109, 111, 100, 117, 108, 101]) = false := by rw [h]; rfl
    have g5 : (s.toList == [101, 110, 100, 109, 111, 100, 117, 108, 101]) = false := by rw [h]; rfl
    have g6 : (s.toList == [98, 111, 111, 108]) = false := by rw [h]; rfl
    have g7 : (s.toList == [105, 110, 105, 116]) = false := by rw [h]; rfl
    have g8 : (s.toList == [116, 114, 117, 101]) = false := by rw [h]; rfl
    have g9 : (s.toList == [102, 97, 108, 115, 101]) = false := by rw [h]; rfl
    have HK := Lib.hid (show isWd s.toList = true by rw [h]; rfl)
    clear h
    go_enter Tryz.func125, Tryz.ntmps125
    go_wp2
    go_ret
    exact ⟨ret_bool HK.out.symm, rfl⟩
  by_cases h3 : s.toList = [108, 97, 98, 101, 108]
  · have h := h3
    clear h3 h2 h1 h0
    have g0 : (s.toList == [109, 100, 112]) = false := by rw [h]; rfl
    have g1 : (s.toList == [99, 111, 110, 115, 116]) = false := by rw [h]; rfl
    have g2 : (s.toList == [102, 111, 114, 109, 117, 108, 97]) = false := by rw [h]; rfl
    have g3 : (s.toList == [108, 97, 98, 101, 108]) = true := by rw [h]; rfl
    have g4 : (s.toList == [109, 111, 100, 117, 108, 101]) = false := by rw [h]; rfl
    have g5 : (s.toList == [101, 110, 100, 109, 111, 100, 117, 108, 101]) = false := by rw [h]; rfl
    have g6 : (s.toList == [98, 111, 111, 108]) = false := by rw [h]; rfl
    have g7 : (s.toList == [105, 110, 105, 116]) = false := by rw [h]; rfl
    have g8 : (s.toList == [116, 114, 117, 101]) = false := by rw [h]; rfl
    have g9 : (s.toList == [102, 97, 108, 115, 101]) = false := by rw [h]; rfl
    have HK := Lib.hid (show isWd s.toList = true by rw [h]; rfl)
    clear h
    go_enter Tryz.func125, Tryz.ntmps125
    go_wp2
    go_ret
    exact ⟨ret_bool HK.out.symm, rfl⟩
  by_cases h4 : s.toList = [109, 111, 100, 117, 108, 101]
  · have h := h4
    clear h4 h3 h2 h1 h0
    have g0 : (s.toList == [109, 100, 112]) = false := by rw [h]; rfl
    have g1 : (s.toList == [99, 111, 110, 115, 116]) = false := by rw [h]; rfl
    have g2 : (s.toList == [102, 111, 114, 109, 117, 108, 97]) = false := by rw [h]; rfl
    have g3 : (s.toList == [108, 97, 98, 101, 108]) = false := by rw [h]; rfl
    have g4 : (s.toList == [109, 111, 100, 117, 108, 101]) = true := by rw [h]; rfl
    have g5 : (s.toList == [101, 110, 100, 109, 111, 100, 117, 108, 101]) = false := by rw [h]; rfl
    have g6 : (s.toList == [98, 111, 111, 108]) = false := by rw [h]; rfl
    have g7 : (s.toList == [105, 110, 105, 116]) = false := by rw [h]; rfl
    have g8 : (s.toList == [116, 114, 117, 101]) = false := by rw [h]; rfl
    have g9 : (s.toList == [102, 97, 108, 115, 101]) = false := by rw [h]; rfl
    have HK := Lib.hid (show isWd s.toList = true by rw [h]; rfl)
    clear h
    go_enter Tryz.func125, Tryz.ntmps125
    go_wp2
    go_ret
    exact ⟨ret_bool HK.out.symm, rfl⟩
  by_cases h5 : s.toList = [101, 110, 100, 109, 111, 100, 117, 108, 101]
  · have h := h5
    clear h5 h4 h3 h2 h1 h0
    have g0 : (s.toList == [109, 100, 112]) = false := by rw [h]; rfl
    have g1 : (s.toList == [99, 111, 110, 115, 116]) = false := by rw [h]; rfl
    have g2 : (s.toList == [102, 111, 114, 109, 117, 108, 97]) = false := by rw [h]; rfl
    have g3 : (s.toList == [108, 97, 98, 101, 108]) = false := by rw [h]; rfl
    have g4 : (s.toList == [109, 111, 100, 117, 108, 101]) = false := by rw [h]; rfl
    have g5 : (s.toList == [101, 110, 100, 109, 111, 100, 117, 108, 101]) = true := by rw [h]; rfl
    have g6 : (s.toList == [98, 111, 111, 108]) = false := by rw [h]; rfl
    have g7 : (s.toList == [105, 110, 105, 116]) = false := by rw [h]; rfl
    have g8 : (s.toList == [116, 114, 117, 101]) = false := by rw [h]; rfl
    have g9 : (s.toList == [102, 97, 108, 115, 101]) = false := by rw [h]; rfl
    have HK := Lib.hid (show isWd s.toList = true by rw [h]; rfl)
    clear h
    go_enter Tryz.func125, Tryz.ntmps125
    go_wp2
    go_ret
    exact ⟨ret_bool HK.out.symm, rfl⟩
  by_cases h6 : s.toList = [98, 111, 111, 108]
  · have h := h6
    clear h6 h5 h4 h3 h2 h1 h0
    have g0 : (s.toList == [109, 100, 112]) = false := by rw [h]; rfl
    have g1 : (s.toList == [99, 111, 110, 115, 116]) = false := by rw [h]; rfl
    have g2 : (s.toList == [102, 111, 114, 109, 117, 108, 97]) = false := by rw [h]; rfl
    have g3 : (s.toList == [108, 97, 98, 101, 108]) = false := by rw [h]; rfl
    have g4 : (s.toList == [109, 111, 100, 117, 108, 101]) = false := by rw [h]; rfl
    have g5 : (s.toList == [101, 110, 100, 109, 111, 100, 117, 108, 101]) = false := by rw [h]; rfl
    have g6 : (s.toList == [98, 111, 111, 108]) = true := by rw [h]; rfl
    have g7 : (s.toList == [105, 110, 105, 116]) = false := by rw [h]; rfl
    have g8 : (s.toList == [116, 114, 117, 101]) = false := by rw [h]; rfl
    have g9 : (s.toList == [102, 97, 108, 115, 101]) = false := by rw [h]; rfl
    have HK := Lib.hid (show isWd s.toList = true by rw [h]; rfl)
    clear h
    go_enter Tryz.func125, Tryz.ntmps125
    go_wp2
    go_ret
    exact ⟨ret_bool HK.out.symm, rfl⟩
  by_cases h7 : s.toList = [105, 110, 105, 116]
  · have h := h7
    clear h7 h6 h5 h4 h3 h2 h1 h0
    have g0 : (s.toList == [109, 100, 112]) = false := by rw [h]; rfl
    have g1 : (s.toList == [99, 111, 110, 115, 116]) = false := by rw [h]; rfl
    have g2 : (s.toList == [102, 111, 114, 109, 117, 108, 97]) = false := by rw [h]; rfl
    have g3 : (s.toList == [108, 97, 98, 101, 108]) = false := by rw [h]; rfl
    have g4 : (s.toList == [109, 111, 100, 117, 108, 101]) = false := by rw [h]; rfl
    have g5 : (s.toList == [101, 110, 100, 109, 111, 100, 117, 108, 101]) = false := by rw [h]; rfl
    have g6 : (s.toList == [98, 111, 111, 108]) = false := by rw [h]; rfl
    have g7 : (s.toList == [105, 110, 105, 116]) = true := by rw [h]; rfl
    have g8 : (s.toList == [116, 114, 117, 101]) = false := by rw [h]; rfl
    have g9 : (s.toList == [102, 97, 108, 115, 101]) = false := by rw [h]; rfl
    have HK := Lib.hid (show isWd s.toList = true by rw [h]; rfl)
    clear h
    go_enter Tryz.func125, Tryz.ntmps125
    go_wp2
    go_ret
    exact ⟨ret_bool HK.out.symm, rfl⟩
  by_cases h8 : s.toList = [116, 114, 117, 101]
  · have h := h8
    clear h8 h7 h6 h5 h4 h3 h2 h1 h0
    have g0 : (s.toList == [109, 100, 112]) = false := by rw [h]; rfl
    have g1 : (s.toList == [99, 111, 110, 115, 116]) = false := by rw [h]; rfl
    have g2 : (s.toList == [102, 111, 114, 109, 117, 108, 97]) = false := by rw [h]; rfl
    have g3 : (s.toList == [108, 97, 98, 101, 108]) = false := by rw [h]; rfl
    have g4 : (s.toList == [109, 111, 100, 117, 108, 101]) = false := by rw [h]; rfl
    have g5 : (s.toList == [101, 110, 100, 109, 111, 100, 117, 108, 101]) = false := by rw [h]; rfl
    have g6 : (s.toList == [98, 111, 111, 108]) = false := by rw [h]; rfl
    have g7 : (s.toList == [105, 110, 105, 116]) = false := by rw [h]; rfl
    have g8 : (s.toList == [116, 114, 117, 101]) = true := by rw [h]; rfl
    have g9 : (s.toList == [102, 97, 108, 115, 101]) = false := by rw [h]; rfl
    have HK := Lib.hid (show isWd s.toList = true by rw [h]; rfl)
    clear h
    go_enter Tryz.func125, Tryz.ntmps125
    go_wp2
    go_ret
    exact ⟨ret_bool HK.out.symm, rfl⟩
  by_cases h9 : s.toList = [102, 97, 108, 115, 101]
  · have h := h9
    clear h9 h8 h7 h6 h5 h4 h3 h2 h1 h0
    have g0 : (s.toList == [109, 100, 112]) = false := by rw [h]; rfl
    have g1 : (s.toList == [99, 111, 110, 115, 116]) = false := by rw [h]; rfl
    have g2 : (s.toList == [102, 111, 114, 109, 117, 108, 97]) = false := by rw [h]; rfl
    have g3 : (s.toList == [108, 97, 98, 101, 108]) = false := by rw [h]; rfl
    have g4 : (s.toList == [109, 111, 100, 117, 108, 101]) = false := by rw [h]; rfl
    have g5 : (s.toList == [101, 110, 100, 109, 111, 100, 117, 108, 101]) = false := by rw [h]; rfl
    have g6 : (s.toList == [98, 111, 111, 108]) = false := by rw [h]; rfl
    have g7 : (s.toList == [105, 110, 105, 116]) = false := by rw [h]; rfl
    have g8 : (s.toList == [116, 114, 117, 101]) = false := by rw [h]; rfl
    have g9 : (s.toList == [102, 97, 108, 115, 101]) = true := by rw [h]; rfl
    have HK := Lib.hid (show isWd s.toList = true by rw [h]; rfl)
    clear h
    go_enter Tryz.func125, Tryz.ntmps125
    go_wp2
    go_ret
    exact ⟨ret_bool HK.out.symm, rfl⟩
  have g0 : (s.toList == [109, 100, 112]) = false := by simpa using h0
  have g1 : (s.toList == [99, 111, 110, 115, 116]) = false := by simpa using h1
  have g2 : (s.toList == [102, 111, 114, 109, 117, 108, 97]) = false := by simpa using h2
  have g3 : (s.toList == [108, 97, 98, 101, 108]) = false := by simpa using h3
  have g4 : (s.toList == [109, 111, 100, 117, 108, 101]) = false := by simpa using h4
  have g5 : (s.toList == [101, 110, 100, 109, 111, 100, 117, 108, 101]) = false := by simpa using h5
  have g6 : (s.toList == [98, 111, 111, 108]) = false := by simpa using h6
  have g7 : (s.toList == [105, 110, 105, 116]) = false := by simpa using h7
  have g8 : (s.toList == [116, 114, 117, 101]) = false := by simpa using h8
  have g9 : (s.toList == [102, 97, 108, 115, 101]) = false := by simpa using h9
  have HK := Lib.hid (show isWd s.toList = false by simp [isWd, wMdp, wConst, wFormula, wLabel, wModule, wEnd, wBool, wInit, opTrue, opFalse, h0, h1, h2, h3, h4, h5, h6, h7, h8, h9])
  clear h9 h8 h7 h6 h5 h4 h3 h2 h1 h0
  go_enter Tryz.func125, Tryz.ntmps125
  go_wp2
  go_ret
  exact ⟨ret_bool HK.out.symm, rfl⟩
section
variable {xb rb b D : Nat} {st : St}
set_option maxHeartbeats 1000000 in
theorem misname_any (w : World) (h : MRd w xb rb b D st) : Calls Tryz.prog 108 #[.pointer (some ⟨xb, 0, none⟩)] w fun e w' => e = .returned (.bool (isNm st.hd)) ∧ Below w.heap.size w w' := by
  have hx := h.ltx
  have c0 := h.c0
  have HP := Lib.hid h.peek
  clear h
  by_cases hk : st.hd.kind = 1
  · have g1 : (((st.hd.kind : Nat) : Int) == 1) = true := by rw [hk]; rfl
    have HI := Lib.hid (fun W : World => isword_any ⟨st.hd.text.toArray⟩ W)
    have HK := Lib.hid (show isNm st.hd = !isWd st.hd.text by simp [isNm, hk])
    clear hk
    cases hw : isWd st.hd.text with
    | true =>
      rw [show isWd (⟨st.hd.text.toArray⟩ : ByteArray).data.toList = true from hw] at HI
      rw [hw] at HK
      clear hw
      go_enter Tryz.func108, Tryz.ntmps108
      go_wp2_with fail
      with_reducible refine (HP.out).mono ?_
      rintro e w1 ⟨rfl, hb1⟩
      have HB := Lib.hid hb1
      clear hb1
      go_wp2_with fail
      with_reducible refine (HI.out _).mono ?_
      rintro e w2 ⟨rfl, rfl⟩
      go_wp2
      go_ret
      exact ⟨ret_bool HK.out.symm, HB.out.alloc HB.out.size _⟩
    | false =>
      rw [show isWd (⟨st.hd.text.toArray⟩ : ByteArray).data.toList = false from hw] at HI
      rw [hw] at HK
      clear hw
      go_enter Tryz.func108, Tryz.ntmps108
      go_wp2_with fail
      with_reducible refine (HP.out).mono ?_
      rintro e w1 ⟨rfl, hb1⟩
      have HB := Lib.hid hb1
      clear hb1
      go_wp2_with fail
      with_reducible refine (HI.out _).mono ?_
      rintro e w2 ⟨rfl, rfl⟩
      go_wp2
      go_ret
      exact ⟨ret_bool HK.out.symm, HB.out.alloc HB.out.size _⟩
  · have g1 : (((st.hd.kind : Nat) : Int) == 1) = false := by rw [beq_eq_false_iff_ne]; omega
    have HK := Lib.hid (show isNm st.hd = false by simp [isNm, hk])
    clear hk
    go_enter Tryz.func108, Tryz.ntmps108
    go_wp2_with fail
    with_reducible refine (HP.out).mono ?_
    rintro e w1 ⟨rfl, hb1⟩
    have HB := Lib.hid hb1
    clear hb1
    go_wp2
    go_ret
    exact ⟨ret_bool HK.out.symm, HB.out.alloc HB.out.size _⟩
end
end
section
open Go.RowKit

def XV.c (v : XV) : List Value := exC v.o v.nm v.n v.A v.ll v.cap v.p
def xv0 : XV := ⟨⟨#[]⟩, ⟨#[]⟩, 0, none, 0, 0, 0⟩
theorem Arr.keepY {w w' : World} {e : TypeId} {S : Nat → Prop} {g : Nat} {xs : List Value} (h : Arr w e S g xs) (hk : ∀ (k : Nat) (cs : Array Value), S k → w.heap[k]? = some (.cells cs e (0, 0)) → w'.heap[k]? = w.heap[k]?) : Arr w' e S g xs := by
  obtain ⟨h2, cs, h3, h4⟩ := h
  exact ⟨h2, cs, (hk _ _ h2 h3).trans h3, h4⟩
theorem HS.keepY {w w' : World} {e : TypeId} {S : Nat → Prop} (hk : ∀ (k : Nat) (cs : Array Value), S k → w.heap[k]? = some (.cells cs e (0, 0)) → w'.heap[k]? = w.heap[k]?) : ∀ {x : Ex} {c : List Value}, HS w e S x c → HS w' e S x c
  | .leaf _ _ _ _, _, h => h
  | .un _ _ _, _, ⟨ad, cap, ca, h1, h2, h3⟩ => ⟨ad, cap, ca, h1, h2.keepY hk, HS.keepY hk h3⟩
  | .bin _ _ _ _, _, ⟨ad, cap, ca, cb, h1, h2, h3, h4⟩ => ⟨ad, cap, ca, cb, h1, h2.keepY hk, HS.keepY hk h3, HS.keepY hk h4⟩
  | .cond _ _ _ _, _, ⟨ad, cap, ca, cb, cd, h1, h2, h3, h4, h5⟩ => ⟨ad, cap, ca, cb, cd, h1, h2.keepY hk, HS.keepY hk h3, HS.keepY hk h4, HS.keepY hk h5⟩
/-- From b on, all blocks but those of some types are as they were. -/
def Kt (b : Nat) (E : TypeId → Prop) (w w' : World) : Prop := ∀ (k : Nat) (cs : Array Value) (e : TypeId), b ≤ k → w.heap[k]? = some (.cells cs e (0, 0)) → ¬ E e → w'.heap[k]? = w.heap[k]?
def E0 (_ : TypeId) : Prop := False
section
variable {b b' : Nat} {E : TypeId → Prop} {w w' : World}
theorem Kt.mono (h : Kt b E w w') (hb : b ≤ b') : Kt b' E w w' := fun k cs e hk h1 h2 => h k cs e (Nat.le_trans hb hk) h1 h2
theorem Kt.below (h : Below w.heap.size w w') : Kt b E w w' := fun k _ _ _ h1 _ => h.block k (blk_lt h1)
theorem Kt.fx {X : Nat → Prop} (h : Fx X w w') (hx : ∀ k, X k → k < b) : Kt b E w w' := fun k _ _ hk h1 _ => h.block k (blk_lt h1) (fun e => absurd (hx k e) (by omega))
theorem Kt.setL {q i : Nat} {us : List Value} (hq : q < b) : Kt b E w (Go.Proofs.YtodijgndbjfbgaaGreatDoor.setL w q i us) := fun k _ _ hk _ _ => setL_heap (by omega) us w i
theorem Kt.set {q i : Nat} {u : Value} (hq : q < b) : Kt b E w (w.setCell ⟨q, i, none⟩ u) := fun k _ _ hk _ _ => Below.heap_setCell w ⟨q, i, none⟩ u k (by show k ≠ q; omega)
theorem Kt.grown {row : Option Nat} {t : TypeId} (hg : w.grownBy w' row) (hr : ∀ g, row = some g → ∃ cs : Array Value, w.heap[g]? = some (.cells cs t (0, 0))) : Kt b (fun e => e = t) w w' := by
  intro k cs e hk h1 h2
  refine hg.block k (blk_lt h1) (fun e1 => ?_)
  obtain ⟨cs', h3⟩ := hr k e1.symm
  rw [h1] at h3
  injection h3 with h3
  injection h3 with _ h3
  exact h2 h3
end
/-- An expression in memory from b on, or none. -/
def XO (w : World) (b : Nat) : Option Ex → List Value → Prop
  | some x, c => HS w 57 (fun k => b ≤ k) x c
  | none, c => c = xv0.c
section
variable {b b' : Nat} {E : TypeId → Prop} {w w' : World} {o : Option Ex} {c : List Value}
theorem XO.keep (h : XO w b o c) (hk : Kt b E w w') (he : ¬ E 57) : XO w' b o c := by
  cases o with
  | none => exact h
  | some x => exact HS.keepY (fun k cs hb hc => hk k cs 57 hb hc he) (show HS w 57 (fun k => b ≤ k) x c from h)
theorem XO.mono (h : XO w b o c) (hb : b' ≤ b) : XO w b' o c := by
  cases o with
  | none => exact h
  | some x => exact HS.wide (fun k _ hk => Nat.le_trans hb hk) (show HS w 57 (fun k => b ≤ k) x c from h)
theorem XO.below (h : XO w b o c) (hb : Below w.heap.size w w') : XO w' b o c := h.keep (E := E0) (Kt.below hb) id
theorem XO.alloc (h : XO w b o c) (ob : Obj) : XO (w.alloc ob) b o c := h.below ((Below.refl _ _).alloc (Nat.le_refl _) _)
theorem XO.fx {X : Nat → Prop} (h : XO w b o c) (hf : Fx X w w') (hx : ∀ k, X k → k < b) : XO w' b o c := h.keep (E := E0) (Kt.fx hf hx) id
theorem XO.setL {q i : Nat} {us : List Value} (h : XO w b o c) (hq : q < b) : XO (Go.Proofs.YtodijgndbjfbgaaGreatDoor.setL w q i us) b o c := h.keep (E := E0) (Kt.setL hq) id
end
section
variable {xb rb b D : Nat} {st : St}
theorem fail_hd (c : Nat) (st : St) : (st.fail c).hd = ⟨0, [], 0⟩ := by cases st <;> rfl
def NmP (xb rb b D : Nat) (r : (List UInt8 × Nat) × St) (w : World) (e : Ending) (w' : World) : Prop := e = .returned (.tuple #[.string ⟨r.1.1.toArray⟩, .int .i64 ((r.1.2 : Nat) : Int)]) ∧ MRd w' xb rb b D r.2 ∧ Fx (X2 xb rb) w w'
set_option maxHeartbeats 1000000 in
theorem mname_any (w : World) (h : MRd w xb rb b D st) : Calls Tryz.prog 104 #[.pointer (some ⟨xb, 0, none⟩)] w (NmP xb rb b D st.name w) := by
  have hx := h.ltx
  have H := Lib.hid h
  have H1 := Lib.hid (misname_any w h)
  cases hn : isNm st.hd with
  | true =>
    rw [hn] at H1
    have hk0 : st.hd.kind ≠ 0 := by rw [(nm_kind hn).1]; decide
    have HT := Lib.hid (fun (W : World) (hW : MRd W xb rb b D st) => hW.take_on hk0)
    rw [show st.name = ((st.hd.text, st.hd.pos), st.tl) by simp [St.name, hn]]
    clear h hn hk0
    go_enter Tryz.func104, Tryz.ntmps104
    go_wp2_with fail
    with_reducible refine (H1.out).mono ?_
    rintro e w1 ⟨rfl, hb1⟩
    have c0 := (H.out.below hb1).c0
    have hx1 := (H.out.below hb1).ltx
    have HB := Lib.hid hb1
    clear hb1
    go_wp2_with fail
    refine (HT.out _ (H.out.below HB.out)).mono ?_
    rintro e w2 ⟨rfl, hM, hF⟩
    have HM := Lib.hid hM
    have HF := Lib.hid hF
    clear hM hF
    go_wp2_with fail
    go_quiet (fail)
    go_wp2
    go_ret2
    exact ⟨rfl, (HM.out.alloc _).below (below_drewN (Below.refl _ _) _), (((Fx.of HB.out).trans HF.out).alloc _).on (below_drewN (Below.refl _ _) _)⟩
  | false =>
    rw [hn] at H1
    have HR := Lib.hid (fun (W : World) (hW : MRd W xb rb b D st) => mrefuse_any W hW)
    have HT := Lib.hid (fun (W : World) (hW : MRd W xb rb b D (st.fail 20)) => hW.take_end (by rw [fail_hd]))
    rw [show st.name = (([], 0), st.fail 20) by simp [St.name, hn]]
    rw [fail_hd] at HT
    clear h hn
    go_enter Tryz.func104, Tryz.ntmps104
    go_wp2_with fail
    with_reducible refine (H1.out).mono ?_
    rintro e w1 ⟨rfl, hb1⟩
    have HB := Lib.hid hb1
    clear hb1
    go_wp2_with fail
    refine (HR.out _ (H.out.below HB.out)).mono ?_
    rintro e w2 ⟨rfl, hM, hF⟩
    have c0 := hM.c0
    have hx1 := hM.ltx
    have HM := Lib.hid hM
    have HF := Lib.hid hF
    clear hM hF
    go_wp2_with fail
    refine (HT.out _ HM.out).mono ?_
    rintro e w3 ⟨rfl, hb3⟩
    have HB3 := Lib.hid hb3
    clear hb3
    go_wp2_with fail
    go_quiet (fail)
    go_wp2
    go_ret2
    exact ⟨rfl, ((HM.out.below HB3.out).alloc _).below (below_drewN (Below.refl _ _) _), (((((Fx.of HB.out).trans HF.out).on HB3.out)).alloc _).on (below_drewN (Below.refl _ _) _)⟩
set_option maxHeartbeats 1000000 in
theorem mtext_any (w : World) (h : MRd w xb rb b D st) : Calls Tryz.prog 106 #[.pointer (some ⟨xb, 0, none⟩)] w (NmP xb rb b D st.text w) := by
  have hx := h.ltx
  have c0 := h.c0
  have H := Lib.hid h
  have H1 := Lib.hid h.peek
  have hf0 := field0
  have hf1 := field1
  have hf2 := field2
  by_cases hn : st.hd.kind = 3
  · have g1 : (((st.hd.kind : Nat) : Int) != 3) = false := by rw [hn]; rfl
    have hk0 : st.hd.kind ≠ 0 := by rw [hn]; decide
    have HT := Lib.hid (fun (W : World) (hW : MRd W xb rb b D st) => hW.take_on hk0)
    rw [show st.text = ((st.hd.text, st.hd.pos), st.tl) by simp [St.text, hn]]
    clear h hn hk0
    go_enter Tryz.func106, Tryz.ntmps106
    go_wp2_with fail
    with_reducible refine (H1.out).mono ?_
    rintro e w1 ⟨rfl, hb1⟩
    have c1 := (H.out.below hb1).c0
    have hx1 := (H.out.below hb1).ltx
    have HB := Lib.hid hb1
    clear hb1
    go_wp2_with fail
    refine (HT.out _ (H.out.below HB.out)).mono ?_
    rintro e w2 ⟨rfl, hM, hF⟩
    have HM := Lib.hid hM
    have HF := Lib.hid hF
    clear hM hF
    go_wp2_with fail
    go_quiet (fail)
    go_wp2
    go_ret2
    exact ⟨rfl, (HM.out.alloc _).below (below_drewN (Below.refl _ _) _), (((Fx.of HB.out).trans HF.out).alloc _).on (below_drewN (Below.refl _ _) _)⟩
  · have g1 : (((st.hd.kind : Nat) : Int) != 3) = true := by rw [bne_iff_ne]; omega
    have HR := Lib.hid (fun (W : World) (hW : MRd W xb rb b D st) => mrefuse_any W hW)
    have HT := Lib.hid (fun (W : World) (hW : MRd W xb rb b D (st.fail 20)) => hW.take_end (by rw [fail_hd]))
    rw [show st.text = (([], 0), st.fail 20) by simp [St.text, hn]]
    rw [fail_hd] at HT
    clear h hn
    go_enter Tryz.func106, Tryz.ntmps106
    go_wp2_with fail
    with_reducible refine (H1.out).mono ?_
    rintro e w1 ⟨rfl, hb1⟩
    have HB := Lib.hid hb1
    clear hb1
    go_wp2_with fail
    refine (HR.out _ (H.out.below HB.out)).mono ?_
    rintro e w2 ⟨rfl, hM, hF⟩
    have c1 := hM.c0
    have hx1 := hM.ltx
    have HM := Lib.hid hM
    have HF := Lib.hid hF
    clear hM hF
    go_wp2_with fail
    refine (HT.out _ HM.out).mono ?_
    rintro e w3 ⟨rfl, hb3⟩
    have HB3 := Lib.hid hb3
    clear hb3
    go_wp2_with fail
    go_quiet (fail)
    go_wp2
    go_ret2
    exact ⟨rfl, ((HM.out.below HB3.out).alloc _).below (below_drewN (Below.refl _ _) _), (((((Fx.of HB.out).trans HF.out).on HB3.out)).alloc _).on (below_drewN (Below.refl _ _) _)⟩
end
end
end Go.Proofs.YtodijgndbjfbgaaGreatDoor
