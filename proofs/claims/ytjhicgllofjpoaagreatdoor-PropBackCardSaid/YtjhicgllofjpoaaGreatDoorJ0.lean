/-
  Frames, boxes, where a reader is.
-/
import Derived.Test.YtjhicgllofjpoaaGreatDoorG1
import Derived.Test.YtjhicgllofjpoaaGreatDoorWC
namespace Go.Proofs.YtjhicgllofjpoaaGreatDoor
open Go.RowKit

/-- A tokens' reader in memory, at the tokens that are left. -/
structure TR (w : World) (rb : Nat) (us : List Tok) : Prop where
  rd : ∃ ts k, us = ts.drop k ∧ RD w rb ts k
  fine : Fine us
  glob : GlobS w
  hi : 0 < rb ∧ 2 < rb
theorem TR.below {w w' : World} {rb : Nat} {us : List Tok} (h : TR w rb us) (hb : Below w.heap.size w w') : TR w' rb us := by
  refine ⟨?_, h.fine, h.glob.below hb, h.hi⟩
  obtain ⟨ts, k, h1, h2⟩ := h.rd
  exact ⟨ts, k, h1, h2.below hb⟩
theorem TR.ltr {w : World} {rb : Nat} {us : List Tok} (h : TR w rb us) : rb < w.heap.size := by
  obtain ⟨ts, k, _, h1⟩ := h.rd
  exact h1.lt
/-- A reader of expressions at it. -/
theorem TR.get {w : World} {rb : Nat} {us : List Tok} (h : TR w rb us) : ∃ ts k, us = ts.drop k ∧ RD w rb ts k ∧ ts[k]? = some (hd us) := by
  obtain ⟨ts, k, h1, h2⟩ := h.rd
  have hk : k < ts.length := by obtain ⟨_, _, _, _, h3, _⟩ := h2; exact h3
  exact ⟨ts, k, h1, h2, by rw [h1, List.drop_eq_getElem_cons hk, List.getElem?_eq_getElem hk]; rfl⟩
theorem new_erX {s : ByteArray} {x p : Nat} (w : World) (hG : GlobS w) (hs : s.size ≤ 65536) (h : toks s.data.toList = .error (x, p)) :
    Calls Tryz.prog 43 #[.string s] w fun e w' => ∃ b, e = .returned (.tuple #[.pointer none, .iface 79 (.pointer (some ⟨b, 0, none⟩))]) ∧ w.heap.size ≤ b ∧ x ≠ 0 ∧ AtE w' b p x ∧ Below w.heap.size w w' := by
  have H := Lib.hid (tokens_er w hG hs h)
  clear hG h
  go_enter Tryz.func43, Tryz.ntmps43
  go_wp2_with fail
  with_reducible refine (H.out).mono ?_
  rintro e w1 ⟨b, rfl, hbb, hx, hA, hb⟩
  go_wp2
  go_ret2
  exact ⟨b, rfl, hbb, hx, hA, hb⟩
theorem new_tr {s : ByteArray} {ts : List Tok} (w : World) (hG : GlobS w) (hs : s.size ≤ 65536) (h : toks s.data.toList = .ok ts) :
    Calls Tryz.prog 43 #[.string s] w fun e w' => ∃ rb, e = .returned (.tuple #[.pointer (some ⟨rb, 0, none⟩), .nilIface]) ∧ w.heap.size ≤ rb ∧ TR w' rb ts ∧ Below w.heap.size w w' := by
  refine (new_ok w hG hs h).mono ?_
  rintro e w1 ⟨rb, rfl, hrb, hR, hb⟩
  refine ⟨rb, rfl, hrb, ⟨⟨ts, 0, rfl, hR⟩, fine_toks (by simpa using hs) h, hG.below hb, ?_⟩, hb⟩
  have h0 := World.block_lt_of_cell? w _ hG.glob.err
  obtain ⟨te, pe, he⟩ := hG.rng
  have h1 := World.block_lt_of_cell? w _ he
  exact ⟨by have : 0 < w.heap.size := h0; omega, by have : 2 < w.heap.size := h1; omega⟩
/-- All is as it was, but for some blocks. -/
structure Fx (X : Nat → Prop) (w w' : World) : Prop where
  os : w'.os = w.os
  tape : w'.tape = w.tape
  output : w'.output = w.output
  size : w.heap.size ≤ w'.heap.size
  block : ∀ k, k < w.heap.size → ¬ X k → w'.heap[k]? = w.heap[k]?
section
variable {X Y : Nat → Prop} {a b c w w' : World}
theorem Fx.refl (X : Nat → Prop) (w : World) : Fx X w w := ⟨rfl, rfl, rfl, Nat.le_refl _, fun _ _ _ => rfl⟩
theorem Fx.trans (h : Fx X a b) (k : Fx X b c) : Fx X a c :=
  ⟨k.os.trans h.os, k.tape.trans h.tape, k.output.trans h.output, Nat.le_trans h.size k.size, fun i hi hn => (k.block i (Nat.lt_of_lt_of_le hi h.size) hn).trans (h.block i hi hn)⟩
theorem Fx.of (h : Below w.heap.size w w') : Fx X w w' := ⟨h.os, h.tape, h.output, h.size, fun k hk _ => h.block k hk⟩
theorem Fx.wide (h : Fx X a w) (hxy : ∀ k, k < a.heap.size → X k → Y k) : Fx Y a w := ⟨h.os, h.tape, h.output, h.size, fun k hk hn => h.block k hk (fun hx => hn (hxy k hk hx))⟩
theorem Fx.below (h : Fx X w w') (hx : ∀ k, X k → w.heap.size ≤ k) : Below w.heap.size w w' := ⟨h.os, h.tape, h.output, h.size, fun k hk => h.block k hk (fun e => absurd (hx k e) (by omega))⟩
theorem Fx.on (h : Fx X a w) (k : Below w.heap.size w w') : Fx X a w' := h.trans (Fx.of k)
theorem Fx.alloc (h : Fx X a w) (o : Obj) : Fx X a (w.alloc o) := h.on ((Below.refl _ _).alloc (Nat.le_refl _) o)
theorem Fx.drew (h : Fx X a w) : Fx X a w.drew := h.on (Below.refl _ _).drew
theorem Fx.setCell (h : Fx X a w) {p : Addr} (hp : a.heap.size ≤ p.block ∨ X p.block) (u : Value) : Fx X a (w.setCell p u) :=
  ⟨h.os, h.tape, h.output, by simpa using h.size, fun k hk hn => (Below.heap_setCell w p u k (by rcases hp with hp | hp; omega; intro e; exact hn (e ▸ hp))).trans (h.block k hk hn)⟩
end
def X2 (xb rb k : Nat) : Prop := k = xb ∨ k = rb
theorem Fx.ofFr {xb rb : Nat} {w w' : World} (h : Fr w.heap.size rb w w') : Fx (X2 xb rb) w w' := ⟨h.os, h.tape, h.output, h.size, fun k hk hn => h.block k hk (fun e => hn (.inr e))⟩

/-- A box of the call's own, its cells by name. -/
def Bx (w : World) (q : Nat) (t : TypeId) (cs : List Value) : Prop := w.heap[q]? = some (.cells cs.toArray t (0, 0))
section
variable {w w' : World} {q : Nat} {t : TypeId} {cs : List Value}
theorem Bx.lt (h : Bx w q t cs) : q < w.heap.size := blk_lt h
theorem Bx.cell (h : Bx w q t cs) (i : Nat) : w.cell? ⟨q, i, none⟩ = cs[i]? := (rd_cell h i).trans (by simp)
theorem Bx.frozen (h : Bx w q t cs) (i : Nat) : w.frozen? ⟨q, i, none⟩ = false := rd_frozen h i
theorem Bx.new (w : World) (t : TypeId) (cs : List Value) : Bx (w.alloc (.cells cs.toArray t)) w.heap.size t cs := heap_alloc_new w _
theorem Bx.newAt {k : Nat} (hk : k = w.heap.size) (t : TypeId) (cs : List Value) : Bx (w.alloc (.cells cs.toArray t)) k t cs := by subst hk; exact Bx.new w t cs
theorem Bx.below (h : Bx w q t cs) (hb : Below w.heap.size w w') : Bx w' q t cs := (hb.block q h.lt).trans h
theorem Bx.alloc (h : Bx w q t cs) (o : Obj) : Bx (w.alloc o) q t cs := h.below ((Below.refl _ _).alloc (Nat.le_refl _) _)
theorem Bx.fx {X : Nat → Prop} (h : Bx w q t cs) (hf : Fx X w w') (hx : ¬ X q) : Bx w' q t cs := (hf.block q h.lt hx).trans h
theorem Bx.far (h : Bx w q t cs) {p : Addr} (hp : q ≠ p.block) (u : Value) : Bx (w.setCell p u) q t cs := (Below.heap_setCell w p u q hp).trans h
theorem Bx.set (h : Bx w q t cs) (i : Nat) (u : Value) : Bx (w.setCell ⟨q, i, none⟩ u) q t (cs.set i u) := by
  have := blk_set (i := i) h u
  unfold Bx
  rw [this]
  simp
theorem Bx.ne {q' : Nat} {t' : TypeId} {cs' : List Value} (h : Bx w q t cs) (h' : Bx w q' t' cs') (hne : t ≠ t') : q ≠ q' := by
  rintro rfl
  unfold Bx at h h'
  rw [h] at h'
  injection h' with h'
  injection h' with _ ht
  exact hne ht
end
/-- Cells of a box, one behind the other. -/
def setL (w : World) (q : Nat) : Nat → List Value → World
  | _, [] => w
  | i, u :: us => setL (w.setCell ⟨q, i, none⟩ u) q (i + 1) us
def setLs : List Value → Nat → List Value → List Value
  | cs, _, [] => cs
  | cs, i, u :: us => setLs (cs.set i u) (i + 1) us
section
variable {q : Nat} {t : TypeId}
theorem Bx.setL : ∀ {us : List Value} {w : World} {cs : List Value} {i : Nat}, Bx w q t cs → Bx (setL w q i us) q t (setLs cs i us)
  | [], _, _, _, h => h
  | u :: _, _, _, i, h => (h.set i u).setL
theorem Bx.farL {q' : Nat} (hne : q ≠ q') : ∀ {us : List Value} {w : World} {cs : List Value} {i : Nat}, Bx w q t cs → Bx (Go.Proofs.YtjhicgllofjpoaaGreatDoor.setL w q' i us) q t cs
  | [], _, _, _, h => h
  | u :: _, _, _, i, h => (h.far (p := ⟨q', i, none⟩) hne u).farL hne
theorem Fx.setL {X : Nat → Prop} {a : World} (hq : a.heap.size ≤ q ∨ X q) : ∀ {us : List Value} {w : World} {i : Nat}, Fx X a w → Fx X a (Go.Proofs.YtjhicgllofjpoaaGreatDoor.setL w q i us)
  | [], _, _, h => h
  | u :: _, _, i, h => (h.setCell (p := ⟨q, i, none⟩) hq u).setL hq
theorem setL_heap {k : Nat} (hk : k ≠ q) : ∀ (us : List Value) (w : World) (i : Nat), (Go.Proofs.YtjhicgllofjpoaaGreatDoor.setL w q i us).heap[k]? = w.heap[k]?
  | [], _, _ => rfl
  | u :: us, w, i => (setL_heap hk us _ _).trans (Below.heap_setCell w ⟨q, i, none⟩ u k hk)
theorem setL_size : ∀ (us : List Value) (w : World) (i : Nat), (Go.Proofs.YtjhicgllofjpoaaGreatDoor.setL w q i us).heap.size = w.heap.size
  | [], _, _ => rfl
  | u :: us, w, i => (setL_size us _ _).trans (by simp)
end

/-- Where a reader is, as a pointer. -/
def St.ptr (rb : Nat) : St → Option Addr
  | .good _ => some ⟨rb, 0, none⟩
  | .bad _ _ => none
def St.ErV (w : World) : St → Value → Prop
  | .good _, v => v = .nilIface
  | .bad c p, v => ∃ eb, v = .iface 79 (.pointer (some ⟨eb, 0, none⟩)) ∧ AtE w eb p c
def St.Tr (w : World) (rb : Nat) : St → Prop
  | .good us => TR w rb us
  | .bad _ _ => True
section
variable {w : World} {rb : Nat}
theorem hd_good {st : St} (h : st.hd.kind ≠ 0) : ∃ us, st = .good us := by
  obtain ⟨us, h, _⟩ := hd_bad h; exact ⟨us, h⟩
theorem tr_len {us ts : List Tok} {k : Nat} (h : TR w rb us) (h1 : us = ts.drop k) (h0 : (hd us).kind ≠ 0) : k + 1 < ts.length := by
  have hm := (h.fine.more h0).2
  rw [h1, List.tail_drop] at hm
  apply Classical.byContradiction
  intro hx
  exact hm (List.drop_eq_nil_of_le (by omega))
end
theorem Arr.keepY {w w' : World} {e : TypeId} {S : Nat → Prop} {g : Nat} {xs : List Value} (h : Arr w e S g xs) (hk : ∀ (k : Nat) (cs : Array Value), S k → w.heap[k]? = some (.cells cs e (0, 0)) → w'.heap[k]? = w.heap[k]?) : Arr w' e S g xs := by
  obtain ⟨h2, cs, h3, h4⟩ := h
  exact ⟨h2, cs, (hk _ _ h2 h3).trans h3, h4⟩
end Go.Proofs.YtjhicgllofjpoaaGreatDoor
