/-
  Frames, boxes, where a reader is. Formulas in memory. A reader of formulas in memory. The rank of an Op, walked. What a reader of formulas does: fail, refuse, want, isEnd, sign, walked.
-/
import Derived.Test.YtmgjpjjglghbaaaGreatDoorG1
import Derived.Test.YtmgjpjjglghbaaaGreatDoorWC
import Derived.Test.YtmgjpjjglghbaaaGreatDoorJA
namespace Go.Proofs.YtmgjpjjglghbaaaGreatDoor
section
open Go.RowKit

/-- A tokens' reader in memory, at the tokens that are left. -/
structure TR (w : World) (rb : Nat) (us : List Tok) : Prop where
  rd : ∃ ts k, us = ts.drop k ∧ RD w rb ts k
  fine : Fine us
  glob : GlobS w
  hi : 0 < rb ∧ 2 < rb
theorem TR.below {w w' : World} {rb : Nat} {us : List Tok} (h : TR w rb us) (hb : Below w.heap.size w w') : TR w' rb us := by
  refine ⟨?_, h.fine, h.glob.below hb, h.hi⟩
  obtain ⟨ts, k, h1, h2⟩ := h.rd
  exact ⟨ts, k, h1, h2.below hb⟩
theorem TR.ltr {w : World} {rb : Nat} {us : List Tok} (h : TR w rb us) : rb < w.heap.size := by
  obtain ⟨ts, k, _, h1⟩ := h.rd
  exact h1.lt
/-- A reader of expressions at it. -/
theorem TR.get {w : World} {rb : Nat} {us : List Tok} (h : TR w rb us) : ∃ ts k, us = ts.drop k ∧ RD w rb ts k ∧ ts[k]? = some (hd us) := by
  obtain ⟨ts, k, h1, h2⟩ := h.rd
  have hk : k < ts.length := by obtain ⟨_, _, _, _, h3, _⟩ := h2; exact h3
  exact ⟨ts, k, h1, h2, by rw [h1, List.drop_eq_getElem_cons hk, List.getElem?_eq_getElem hk]; rfl⟩
theorem new_erX {s : ByteArray} {x p : Nat} (w : World) (hG : GlobS w) (hs : s.size ≤ 65536) (h : toks s.data.toList = .error (x, p)) :
    Calls Tryz.prog 65 #[.string s] w fun e w' => ∃ b, e = .returned (.tuple #[.pointer none, .iface 190 (.pointer (some ⟨b, 0, none⟩))]) ∧ w.heap.size ≤ b ∧ x ≠ 0 ∧ AtE w' b p x ∧ Below w.heap.size w w' := by
  have H := Lib.hid (tokens_er w hG hs h)
  clear hG h
  go_enter Tryz.func65, Tryz.ntmps65
  go_wp2_with fail
  with_reducible refine (H.out).mono ?_
  rintro e w1 ⟨b, rfl, hbb, hx, hA, hb⟩
  go_wp2
  go_ret2
  exact ⟨b, rfl, hbb, hx, hA, hb⟩
theorem new_tr {s : ByteArray} {ts : List Tok} (w : World) (hG : GlobS w) (hs : s.size ≤ 65536) (h : toks s.data.toList = .ok ts) :
    Calls Tryz.prog 65 #[.string s] w fun e w' => ∃ rb, e = .returned (.tuple #[.pointer (some ⟨rb, 0, none⟩), .nilIface]) ∧ w.heap.size ≤ rb ∧ TR w' rb ts ∧ Below w.heap.size w w' := by
  refine (new_ok w hG hs h).mono ?_
  rintro e w1 ⟨rb, rfl, hrb, hR, hb⟩
  refine ⟨rb, rfl, hrb, ⟨⟨ts, 0, rfl, hR⟩, fine_toks (by simpa using hs) h, hG.below hb, ?_⟩, hb⟩
  have h0 := World.block_lt_of_cell? w _ hG.glob.err
  obtain ⟨te, pe, he⟩ := hG.rng
  have h1 := World.block_lt_of_cell? w _ he
  exact ⟨by have : 0 < w.heap.size := h0; omega, by have : 2 < w.heap.size := h1; omega⟩
/-- All is as it was, but for some blocks. -/
structure Fx (X : Nat → Prop) (w w' : World) : Prop where
  os : w'.os = w.os
  tape : w'.tape = w.tape
  output : w'.output = w.output
  size : w.heap.size ≤ w'.heap.size
  block : ∀ k, k < w.heap.size → ¬ X k → w'.heap[k]? = w.heap[k]?
section
variable {X Y : Nat → Prop} {a b c w w' : World}
theorem Fx.refl (X : Nat → Prop) (w : World) : Fx X w w := ⟨rfl, rfl, rfl, Nat.le_refl _, fun _ _ _ => rfl⟩
theorem Fx.trans (h : Fx X a b) (k : Fx X b c) : Fx X a c :=
  ⟨k.os.trans h.os, k.tape.trans h.tape, k.output.trans h.output, Nat.le_trans h.size k.size, fun i hi hn => (k.block i (Nat.lt_of_lt_of_le hi h.size) hn).trans (h.block i hi hn)⟩
theorem Fx.of (h : Below w.heap.size w w') : Fx X w w' := ⟨h.os, h.tape, h.output, h.size, fun k hk _ => h.block k hk⟩
theorem Fx.wide (h : Fx X a w) (hxy : ∀ k, k < a.heap.size → X k → Y k) : Fx Y a w := ⟨h.os, h.tape, h.output, h.size, fun k hk hn => h.block k hk (fun hx => hn (hxy k hk hx))⟩
theorem Fx.below (h : Fx X w w') (hx : ∀ k, X k → w.heap.size ≤ k) : Below w.heap.size w w' := ⟨h.os, h.tape, h.output, h.size, fun k hk => h.block k hk (fun e => absurd (hx k e) (by omega))⟩
theorem Fx.on (h : Fx X a w) (k : Below w.heap.size w w') : Fx X a w' := h.trans (Fx.of k)
theorem Fx.alloc (h : Fx X a w) (o : Obj) : Fx X a (w.alloc o) := h.on ((Below.refl _ _).alloc (Nat.le_refl _) o)
theorem Fx.drew (h : Fx X a w) : Fx X a w.drew := h.on (Below.refl _ _).drew
theorem Fx.setCell (h : Fx X a w) {p : Addr} (hp : a.heap.size ≤ p.block ∨ X p.block) (u : Value) : Fx X a (w.setCell p u) :=
  ⟨h.os, h.tape, h.output, by simpa using h.size, fun k hk hn => (Below.heap_setCell w p u k (by rcases hp with hp | hp; omega; intro e; exact hn (e ▸ hp))).trans (h.block k hk hn)⟩
end
def X2 (xb rb k : Nat) : Prop := k = xb ∨ k = rb
theorem Fx.ofFr {xb rb : Nat} {w w' : World} (h : Fr w.heap.size rb w w') : Fx (X2 xb rb) w w' := ⟨h.os, h.tape, h.output, h.size, fun k hk hn => h.block k hk (fun e => hn (.inr e))⟩

/-- A box of the call's own, its cells by name. -/
def Bx (w : World) (q : Nat) (t : TypeId) (cs : List Value) : Prop := w.heap[q]? = some (.cells cs.toArray t (0, 0))
section
variable {w w' : World} {q : Nat} {t : TypeId} {cs : List Value}
theorem Bx.lt (h : Bx w q t cs) : q < w.heap.size := blk_lt h
theorem Bx.cell (h : Bx w q t cs) (i : Nat) : w.cell? ⟨q, i, none⟩ = cs[i]? := (rd_cell h i).trans (by simp)
theorem Bx.frozen (h : Bx w q t cs) (i : Nat) : w.frozen? ⟨q, i, none⟩ = false := rd_frozen h i
theorem Bx.new (w : World) (t : TypeId) (cs : List Value) : Bx (w.alloc (.cells cs.toArray t)) w.heap.size t cs := heap_alloc_new w _
theorem Bx.newAt {k : Nat} (hk : k = w.heap.size) (t : TypeId) (cs : List Value) : Bx (w.alloc (.cells cs.toArray t)) k t cs := by subst hk; exact Bx.new w t cs
theorem Bx.below (h : Bx w q t cs) (hb : Below w.heap.size w w') : Bx w' q t cs := (hb.block q h.lt).trans h
theorem Bx.alloc (h : Bx w q t cs) (o : Obj) : Bx (w.alloc o) q t cs := h.below ((Below.refl _ _).alloc (Nat.le_refl _) _)
theorem Bx.fx {X : Nat → Prop} (h : Bx w q t cs) (hf : Fx X w w') (hx : ¬ X q) : Bx w' q t cs := (hf.block q h.lt hx).trans h
theorem Bx.far (h : Bx w q t cs) {p : Addr} (hp : q ≠ p.block) (u : Value) : Bx (w.setCell p u) q t cs := (Below.heap_setCell w p u q hp).trans h
theorem Bx.set (h : Bx w q t cs) (i : Nat) (u : Value) : Bx (w.setCell ⟨q, i, none⟩ u) q t (cs.set i u) := by
  have := blk_set (i := i) h u
  unfold Bx
  rw [this]
  simp
theorem Bx.ne {q' : Nat} {t' : TypeId} {cs' : List Value} (h : Bx w q t cs) (h' : Bx w q' t' cs') (hne : t ≠ t') : q ≠ q' := by
  rintro rfl
  unfold Bx at h h'
  rw [h] at h'
  injection h' with h'
  injection h' with _ ht
  exact hne ht
end
/-- Cells of a box, one behind the other. -/
def setL (w : World) (q : Nat) : Nat → List Value → World
  | _, [] => w
  | i, u :: us => setL (w.setCell ⟨q, i, none⟩ u) q (i + 1) us
def setLs : List Value → Nat → List Value → List Value
  | cs, _, [] => cs
  | cs, i, u :: us => setLs (cs.set i u) (i + 1) us
section
variable {q : Nat} {t : TypeId}
theorem Bx.setL : ∀ {us : List Value} {w : World} {cs : List Value} {i : Nat}, Bx w q t cs → Bx (setL w q i us) q t (setLs cs i us)
  | [], _, _, _, h => h
  | u :: _, _, _, i, h => (h.set i u).setL
theorem Bx.farL {q' : Nat} (hne : q ≠ q') : ∀ {us : List Value} {w : World} {cs : List Value} {i : Nat}, Bx w q t cs → Bx (Go.Proofs.YtmgjpjjglghbaaaGreatDoor.setL w q' i us) q t cs
  | [], _, _, _, h => h
  | u :: _, _, _, i, h => (h.far (p := ⟨q', i, none⟩) hne u).farL hne
theorem Fx.setL {X : Nat → Prop} {a : World} (hq : a.heap.size ≤ q ∨ X q) : ∀ {us : List Value} {w : World} {i : Nat}, Fx X a w → Fx X a (Go.Proofs.YtmgjpjjglghbaaaGreatDoor.setL w q i us)
  | [], _, _, h => h
  | u :: _, _, i, h => (h.setCell (p := ⟨q, i, none⟩) hq u).setL hq
theorem setL_heap {k : Nat} (hk : k ≠ q) : ∀ (us : List Value) (w : World) (i : Nat), (Go.Proofs.YtmgjpjjglghbaaaGreatDoor.setL w q i us).heap[k]? = w.heap[k]?
  | [], _, _ => rfl
  | u :: us, w, i => (setL_heap hk us _ _).trans (Below.heap_setCell w ⟨q, i, none⟩ u k hk)
theorem setL_size : ∀ (us : List Value) (w : World) (i : Nat), (Go.Proofs.YtmgjpjjglghbaaaGreatDoor.setL w q i us).heap.size = w.heap.size
  | [], _, _ => rfl
  | u :: us, w, i => (setL_size us _ _).trans (by simp)
end

/-- Where a reader is, as a pointer. -/
def St.ptr (rb : Nat) : St → Option Addr
  | .good _ => some ⟨rb, 0, none⟩
  | .bad _ _ => none
def St.ErV (w : World) : St → Value → Prop
  | .good _, v => v = .nilIface
  | .bad c p, v => ∃ eb, v = .iface 190 (.pointer (some ⟨eb, 0, none⟩)) ∧ AtE w eb p c
def St.Tr (w : World) (rb : Nat) : St → Prop
  | .good us => TR w rb us
  | .bad _ _ => True
section
variable {w : World} {rb : Nat}
theorem hd_good {st : St} (h : st.hd.kind ≠ 0) : ∃ us, st = .good us := by
  obtain ⟨us, h, _⟩ := hd_bad h; exact ⟨us, h⟩
theorem tr_len {us ts : List Tok} {k : Nat} (h : TR w rb us) (h1 : us = ts.drop k) (h0 : (hd us).kind ≠ 0) : k + 1 < ts.length := by
  have hm := (h.fine.more h0).2
  rw [h1, List.tail_drop] at hm
  apply Classical.byContradiction
  intro hx
  exact hm (List.drop_eq_nil_of_le (by omega))
end
theorem Arr.keepY {w w' : World} {e : TypeId} {S : Nat → Prop} {g : Nat} {xs : List Value} (h : Arr w e S g xs) (hk : ∀ (k : Nat) (cs : Array Value), S k → w.heap[k]? = some (.cells cs e (0, 0)) → w'.heap[k]? = w.heap[k]?) : Arr w' e S g xs := by
  obtain ⟨h2, cs, h3, h4⟩ := h
  exact ⟨h2, cs, (hk _ _ h2 h3).trans h3, h4⟩
end
section
open Go.RowKit

/-- A formula's four cells; its kids lie in blocks of S. -/
def FS (w : World) (e : TypeId) (S : Nat → Prop) : Fo → List Value → Prop
  | .leaf op nm p, c => c = [strV op, strV nm, .slice none 0 0, .int .i64 (p : Int)]
  | .un op a p, c => ∃ g cap ca, c = [strV op, strV [], .slice (some ⟨g, 0, none⟩) 1 cap, .int .i64 (p : Int)] ∧ Arr w e S g ca ∧ FS w e S a ca
  | .bin op a b p, c => ∃ g cap ca cb, c = [strV op, strV [], .slice (some ⟨g, 0, none⟩) 2 cap, .int .i64 (p : Int)] ∧ Arr w e S g (ca ++ cb) ∧ FS w e S a ca ∧ FS w e S b cb
/-- The four cells, by name. -/
structure FV where
  o : ByteArray
  nm : ByteArray
  A : Option Addr
  ll : Nat
  cap : Nat
  p : Int
def FV.c (v : FV) : List Value := [.string v.o, .string v.nm, .slice v.A v.ll v.cap, .int .i64 v.p]
def fv0 : FV := ⟨⟨#[]⟩, ⟨#[]⟩, none, 0, 0, 0⟩
section
variable {w w' : World} {e : TypeId} {S T : Nat → Prop}
theorem FS.keepY (hk : ∀ (k : Nat) (cs : Array Value), S k → w.heap[k]? = some (.cells cs e (0, 0)) → w'.heap[k]? = w.heap[k]?) : ∀ {x : Fo} {c : List Value}, FS w e S x c → FS w' e S x c
  | .leaf _ _ _, _, h => h
  | .un _ _ _, _, ⟨ad, cap, ca, h1, h2, h3⟩ => ⟨ad, cap, ca, h1, h2.keepY hk, FS.keepY hk h3⟩
  | .bin _ _ _ _, _, ⟨ad, cap, ca, cb, h1, h2, h3, h4⟩ => ⟨ad, cap, ca, cb, h1, h2.keepY hk, FS.keepY hk h3, FS.keepY hk h4⟩
theorem FS.wide (hb : ∀ k, k < w.heap.size → S k → T k) : ∀ {x : Fo} {c : List Value}, FS w e S x c → FS w e T x c
  | .leaf _ _ _, _, h => h
  | .un _ _ _, _, ⟨ad, cap, ca, h1, h2, h3⟩ => ⟨ad, cap, ca, h1, h2.mono hb, FS.wide hb h3⟩
  | .bin _ _ _ _, _, ⟨ad, cap, ca, cb, h1, h2, h3, h4⟩ => ⟨ad, cap, ca, cb, h1, h2.mono hb, FS.wide hb h3, FS.wide hb h4⟩
theorem FS.below {x : Fo} {c : List Value} (h : FS w e S x c) (hb : Below w.heap.size w w') : FS w' e S x c := h.keepY fun k _ _ h1 => hb.block k (blk_lt h1)
theorem FS.alloc {x : Fo} {c : List Value} (h : FS w e S x c) (o : Obj) : FS (w.alloc o) e S x c := h.below ((Below.refl _ _).alloc (Nat.le_refl _) _)
theorem FS.drew {x : Fo} {c : List Value} (h : FS w e S x c) : FS w.drew e S x c := h.below (Below.refl _ _).drew
theorem FS.fx {X : Nat → Prop} {x : Fo} {c : List Value} (h : FS w e S x c) (hf : Fx X w w') (hx : ∀ k, S k → X k → False) : FS w' e S x c := h.keepY fun k _ h0 h1 => hf.block k (blk_lt h1) (fun h => hx k h0 h)
theorem FS.setL {x : Fo} {c : List Value} {q i : Nat} {us : List Value} (h : FS w e S x c) (hq : ¬ S q) : FS (Go.Proofs.YtmgjpjjglghbaaaGreatDoor.setL w q i us) e S x c := h.keepY fun k _ h0 _ => setL_heap (by rintro rfl; exact hq h0) us w i
theorem FS.form : ∀ {x : Fo} {c : List Value}, FS w e S x c → ∃ nm A l cap, c = FV.c ⟨⟨x.op.toArray⟩, nm, A, l, cap, (x.pos : Int)⟩
  | .leaf _ _ _, _, h => ⟨_, _, _, _, h⟩
  | .un _ _ _, _, ⟨_, _, _, h1, _⟩ => ⟨_, _, _, _, h1⟩
  | .bin _ _ _ _, _, ⟨_, _, _, _, h1, _⟩ => ⟨_, _, _, _, h1⟩
theorem FS.opn {x : Fo} {v : FV} (h : FS w e S x v.c) : v.o = ⟨x.op.toArray⟩ := by
  obtain ⟨nm, A, l, cap, h1⟩ := h.form
  simp only [FV.c, List.cons.injEq, Value.string.injEq] at h1
  exact h1.1
theorem FS.posn {x : Fo} {v : FV} (h : FS w e S x v.c) : v.p = (x.pos : Int) := by
  obtain ⟨nm, A, l, cap, h1⟩ := h.form
  simp only [FV.c, List.cons.injEq, Value.int.injEq, true_and, and_true] at h1
  exact h1.2.2.2
theorem FS.move (q : Nat) : ∀ {x : Fo} {v : FV}, FS w e S x v.c → FS w e S (x.move q) (FV.c { v with p := (q : Int) })
  | .leaf op nm p, v, h => by
    simp only [FS, FV.c, List.cons.injEq] at h
    simp only [FS, FV.c, Fo.move, h]
  | .un _ _ _, v, ⟨ad, cap, ca, h1, h2⟩ => by
    simp only [FV.c, List.cons.injEq] at h1
    exact ⟨ad, cap, ca, by simp only [FV.c, h1], h2⟩
  | .bin _ _ _ _, v, ⟨ad, cap, ca, cb, h1, h2⟩ => by
    simp only [FV.c, List.cons.injEq] at h1
    exact ⟨ad, cap, ca, cb, by simp only [FV.c, h1], h2⟩
theorem FS.len4 {x : Fo} {c : List Value} (h : FS w e S x c) : c.length = 4 := by
  obtain ⟨_, _, _, _, rfl⟩ := h.form; rfl
/-- A slice's cells read as formulas. -/
def FK (w : World) (e : TypeId) (S : Nat → Prop) (A : Option Addr) (ks : List Fo) : Prop :=
  ∀ i (h : i < ks.length), ∃ (g : Nat) (v : FV), A = some ⟨g, 0, none⟩ ∧ g < w.heap.size ∧ FS w e S ks[i] v.c ∧ w.cell? ⟨g, i * 4, none⟩ = some (.string v.o) ∧ w.cell? ⟨g, i * 4 + 1, none⟩ = some (.string v.nm) ∧ w.cell? ⟨g, i * 4 + 2, none⟩ = some (.slice v.A v.ll v.cap) ∧ w.cell? ⟨g, i * 4 + 3, none⟩ = some (.int .i64 v.p)
theorem fk_one {g : Nat} {xs : List Value} (h : Arr w e S g xs) {k : Fo} {c : List Value} {i : Nat} (hk : FS w e S k c) (hx : ∀ j, j < 4 → xs[i * 4 + j]? = c[j]?) : ∃ (g' : Nat) (v : FV), (some ⟨g, 0, none⟩ : Option Addr) = some ⟨g', 0, none⟩ ∧ g' < w.heap.size ∧ FS w e S k v.c ∧ w.cell? ⟨g', i * 4, none⟩ = some (.string v.o) ∧ w.cell? ⟨g', i * 4 + 1, none⟩ = some (.string v.nm) ∧ w.cell? ⟨g', i * 4 + 2, none⟩ = some (.slice v.A v.ll v.cap) ∧ w.cell? ⟨g', i * 4 + 3, none⟩ = some (.int .i64 v.p) := by
  obtain ⟨nm, B, l, cap, rfl⟩ := hk.form
  have hl : g < w.heap.size := by obtain ⟨_, cs, h3, _⟩ := h; exact blk_lt h3
  exact ⟨g, _, rfl, hl, hk, h.cell ((hx 0 (by omega)).trans rfl), h.cell ((hx 1 (by omega)).trans rfl), h.cell ((hx 2 (by omega)).trans rfl), h.cell ((hx 3 (by omega)).trans rfl)⟩
theorem FS.view : ∀ {x : Fo} {c : List Value}, FS w e S x c → ∃ A cap, c = FV.c ⟨⟨x.op.toArray⟩, ⟨x.nm.toArray⟩, A, x.kids.length, cap, (x.pos : Int)⟩ ∧ FK w e S A x.kids
  | .leaf _ _ _, _, h => ⟨none, 0, h, fun i hi => absurd hi (by simp [Fo.kids])⟩
  | .un _ a _, _, ⟨g, cap, ca, h1, h2, h3⟩ => by
    refine ⟨_, cap, h1, fun i hi => ?_⟩
    match i, hi with
    | 0, _ => exact fk_one h2 h3 (fun j hj => by simp)
  | .bin _ a b _, _, ⟨g, cap, ca, cb, h1, h2, h3, h4⟩ => by
    have l1 := h3.len4
    refine ⟨_, cap, h1, fun i hi => ?_⟩
    match i, hi with
    | 0, _ => exact fk_one h2 h3 (fun j hj => by rw [Nat.zero_mul, Nat.zero_add, List.getElem?_append_left (by omega)])
    | 1, _ => exact fk_one h2 h4 (fun j hj => by rw [Nat.one_mul, List.getElem?_append_right (by omega), l1]; congr 1; omega)
theorem FS.kr {x : Fo} {v : FV} (h : FS w e S x v.c) : FK w e S v.A x.kids ∧ v.ll = x.kids.length ∧ v.nm = ⟨x.nm.toArray⟩ := by
  obtain ⟨A', cap', h1, h2⟩ := h.view
  simp only [FV.c, List.cons.injEq, Value.slice.injEq, Value.string.injEq] at h1
  rw [h1.2.2.1.1]
  exact ⟨h2, h1.2.2.1.2.1, h1.2.1⟩
theorem FK.below {A : Option Addr} {ks : List Fo} (h : FK w e S A ks) (hb : Below w.heap.size w w') : FK w' e S A ks := by
  intro i hi
  obtain ⟨g, v, h1, h2, h3, c0, c1, c2, c3⟩ := h i hi
  exact ⟨g, v, h1, by have := hb.size; omega, h3.below hb, (hb.cell (p := ⟨g, i * 4, none⟩) h2).trans c0, (hb.cell (p := ⟨g, i * 4 + 1, none⟩) h2).trans c1, (hb.cell (p := ⟨g, i * 4 + 2, none⟩) h2).trans c2, (hb.cell (p := ⟨g, i * 4 + 3, none⟩) h2).trans c3⟩
end
theorem fo_bare_eq (a b : Fo) : a.bare = b.bare ↔ a.op = b.op ∧ a.nm = b.nm ∧ a.kids.map Fo.bare = b.kids.map Fo.bare := by
  cases a <;> cases b <;> simp [Fo.bare, Fo.op, Fo.nm, Fo.kids]
/-- A formula in memory, its kids in blocks of S, or none: then anything of that shape. -/
def FOS (w : World) (S : Nat → Prop) : Option Fo → FV → Prop
  | some x, v => FS w 27 S x v.c
  | none, _ => True
/-- .. from b0 on up to b1. -/
abbrev FO (w : World) (b0 b1 : Nat) (o : Option Fo) (v : FV) : Prop := FOS w (Rg b0 b1) o v
section
variable {b0 b1 d0 d1 : Nat} {S T : Nat → Prop} {w w' : World} {o : Option Fo} {v : FV}
theorem FOS.keepY (h : FOS w S o v) (hk : ∀ (k : Nat) (cs : Array Value), S k → w.heap[k]? = some (.cells cs 27 (0, 0)) → w'.heap[k]? = w.heap[k]?) : FOS w' S o v := by
  cases o with
  | none => trivial
  | some x => exact FS.keepY hk (show FS w 27 S x v.c from h)
theorem FOS.wide (h : FOS w S o v) (hS : ∀ k, k < w.heap.size → S k → T k) : FOS w T o v := by
  cases o with
  | none => trivial
  | some x => exact FS.wide hS (show FS w 27 S x v.c from h)
theorem FOS.mono (h : FO w b0 b1 o v) (h0 : d0 ≤ b0) (h1 : b1 ≤ d1) : FO w d0 d1 o v := FOS.wide h fun _ _ hk => ⟨Nat.le_trans h0 hk.1, Nat.lt_of_lt_of_le hk.2 h1⟩
theorem FOS.below (h : FOS w S o v) (hb : Below w.heap.size w w') : FOS w' S o v := h.keepY fun k _ _ h1 => hb.block k (blk_lt h1)
theorem FOS.alloc (h : FOS w S o v) (ob : Obj) : FOS (w.alloc ob) S o v := h.below ((Below.refl _ _).alloc (Nat.le_refl _) _)
theorem FOS.drew (h : FOS w S o v) : FOS w.drew S o v := h.below (Below.refl _ _).drew
theorem FOS.fx {X : Nat → Prop} (h : FOS w S o v) (hf : Fx X w w') (hx : ∀ k, S k → ¬ X k) : FOS w' S o v := h.keepY fun k _ h0 h1 => hf.block k (blk_lt h1) (hx k h0)
theorem FOS.setS (h : FOS w S o v) {q i : Nat} (hq : ¬ S q) (u : Value) : FOS (w.setCell ⟨q, i, none⟩ u) S o v := h.keepY fun k _ h0 _ => Below.heap_setCell w ⟨q, i, none⟩ u k (by show k ≠ q; rintro rfl; exact hq h0)
theorem FOS.set (h : FO w b0 b1 o v) {q i : Nat} (hq : q < b0 ∨ b1 ≤ q) (u : Value) : FO (w.setCell ⟨q, i, none⟩ u) b0 b1 o v := FOS.setS h (by unfold Rg; omega) u
theorem FOS.setL {q i : Nat} {us : List Value} (h : FOS w S o v) (hq : ¬ S q) : FOS (Go.Proofs.YtmgjpjjglghbaaaGreatDoor.setL w q i us) S o v := h.keepY fun k _ h0 _ => setL_heap (by rintro rfl; exact hq h0) us w i
theorem FOS.mv (q : Nat) (h : FOS w S o v) : FOS w S (mvO q o) { v with p := (q : Int) } := by
  cases o with
  | none => trivial
  | some x => exact FS.move q (show FS w 27 S x v.c from h)
end
end
section
open Go.RowKit

/-- A reader of formulas in memory. -/
structure PRd (w : World) (xb rb b D : Nat) (st : St) : Prop where
  blk : ∃ v, Bx w xb 102 [.pointer (st.ptr rb), .int .i64 (D : Int), v] ∧ st.ErV w v
  tr : st.Tr w rb
  glob : GlobS w
  d64 : D ≤ 64
  lo : 2 < b ∧ 0 < b
  hx : b ≤ xb ∧ b ≤ rb
  hr : rb < w.heap.size
section
variable {w w' : World} {xb rb b D : Nat} {st : St}
theorem PRd.ltx (h : PRd w xb rb b D st) : xb < w.heap.size := by obtain ⟨v, h1, _⟩ := h.blk; exact h1.lt
/-- The types that a reader lies in. -/
def RpT (e : TypeId) : Prop := e = 102 ∨ e = 150 ∨ e = 152 ∨ e = 192
theorem TR.keepP {us : List Tok} (h : TR w rb us) (hk : ∀ (k : Nat) (cs : Array Value) (e : TypeId), w.heap[k]? = some (.cells cs e (0, 0)) → RpT e → w'.heap[k]? = w.heap[k]?) (hg : GlobS w') : TR w' rb us := by
  refine ⟨?_, h.fine, hg, h.hi⟩
  obtain ⟨ts, k, h1, g, cap, q1, q2, q3, q4⟩ := h.rd
  refine ⟨ts, k, h1, g, cap, (hk _ _ _ q1 (.inr (.inl rfl))).trans q1, ⟨q2.1, ?_⟩, q3, q4⟩
  rcases q2.2 with ⟨hx, _⟩ | ⟨g', cap', cur, hx, h2, hh, h3⟩
  · cases hx
  · exact .inr ⟨g', cap', cur, hx, h2, (hk _ _ _ hh (.inr (.inr (.inl rfl)))).trans hh, h3⟩
theorem PRd.keep (h : PRd w xb rb b D st) (hk : ∀ (k : Nat) (cs : Array Value) (e : TypeId), w.heap[k]? = some (.cells cs e (0, 0)) → RpT e → w'.heap[k]? = w.heap[k]?) (hg : ∀ k : Nat, k < b → w'.heap[k]? = w.heap[k]?) (hs : w.heap.size ≤ w'.heap.size) : PRd w' xb rb b D st := by
  have hG : GlobS w' := glob_keep h.glob (hg 0 h.lo.2) (hg 2 h.lo.1)
  refine ⟨?_, ?_, hG, h.d64, h.lo, h.hx, Nat.lt_of_lt_of_le h.hr hs⟩
  · obtain ⟨v, h1, h2⟩ := h.blk
    refine ⟨v, (hk _ _ _ h1 (.inl rfl)).trans h1, ?_⟩
    cases st with
    | good us => exact h2
    | bad c p =>
      obtain ⟨eb, h3, h4⟩ := h2
      obtain ⟨cs, h5⟩ := h4.typ
      exact ⟨eb, h3, h4.keep (hk _ _ _ h5 (.inr (.inr (.inr rfl))))⟩
  · cases st with
    | good us => exact TR.keepP (us := us) h.tr hk hG
    | bad c p => trivial
theorem PRd.below (h : PRd w xb rb b D st) (hb : Below w.heap.size w w') : PRd w' xb rb b D st :=
  h.keep (fun k cs e hk _ => hb.block k (blk_lt hk)) (fun k hk => hb.block k (by have := h.hx; have := h.ltx; omega)) hb.size
theorem PRd.alloc (h : PRd w xb rb b D st) (o : Obj) : PRd (w.alloc o) xb rb b D st := h.below ((Below.refl _ _).alloc (Nat.le_refl _) _)
theorem PRd.drew (h : PRd w xb rb b D st) : PRd w.drew xb rb b D st := h.below (Below.refl _ _).drew
/-- A store to a box of the call's own. -/
theorem PRd.set {q i : Nat} {t : TypeId} {cs : List Value} (h : PRd w xb rb b D st) (hb : Bx w q t cs) (ht : ¬ RpT t) (hq : b ≤ q) (u : Value) : PRd (w.setCell ⟨q, i, none⟩ u) xb rb b D st := by
  refine h.keep (fun k cs' e hk he => Below.heap_setCell w ⟨q, i, none⟩ u k ?_) (fun k hk => Below.heap_setCell w ⟨q, i, none⟩ u k (by show k ≠ q; omega)) (by simp)
  intro ek
  have ek : k = q := ek
  subst ek
  rw [show w.heap[k]? = _ from hb] at hk
  injection hk with hk
  injection hk with _ e1
  exact ht (e1 ▸ he)
theorem PRd.setL {q : Nat} {t : TypeId} (ht : ¬ RpT t) (hq : b ≤ q) : ∀ {us : List Value} {w : World} {cs : List Value} {i : Nat}, PRd w xb rb b D st → Bx w q t cs → PRd (Go.Proofs.YtmgjpjjglghbaaaGreatDoor.setL w q i us) xb rb b D st
  | [], _, _, _, h, _ => h
  | u :: _, _, _, i, h, hb => (h.set hb ht hq u).setL ht hq (hb.set i u)
/-- A row grows that is no reader's. -/
theorem PRd.grown {row : Option Nat} (h : PRd w xb rb b D st) (hg : w.grownBy w' row) (hr : ∀ g, row = some g → b ≤ g ∧ ∃ (cs : Array Value) (e : TypeId), w.heap[g]? = some (.cells cs e (0, 0)) ∧ ¬ RpT e) : PRd w' xb rb b D st := by
  refine h.keep (fun k cs e hk he => hg.block k (blk_lt hk) ?_) (fun k hk => hg.block k (by have := h.hx; have := h.ltx; omega) ?_) hg.size
  · intro e1
    obtain ⟨_, cs', e', h2, h3⟩ := hr k e1.symm
    rw [hk] at h2
    injection h2 with h2
    injection h2 with _ h2
    exact h3 (h2 ▸ he)
  · intro e1
    have := (hr k e1.symm).1
    omega
theorem PRd.cells (h : PRd w xb rb b D st) : ∃ v, w.cell? ⟨xb, 0, none⟩ = some (.pointer (st.ptr rb)) ∧ w.cell? ⟨xb, 1, none⟩ = some (.int .i64 (D : Int)) ∧ w.cell? ⟨xb, 2, none⟩ = some v ∧ w.frozen? ⟨xb, 0, none⟩ = false ∧ w.frozen? ⟨xb, 2, none⟩ = false ∧ st.ErV w v := by
  obtain ⟨v, h1, h2⟩ := h.blk
  exact ⟨v, h1.cell 0, h1.cell 1, h1.cell 2, h1.frozen 0, h1.frozen 2, h2⟩
theorem PRd.c0 (h : PRd w xb rb b D st) : w.cell? ⟨xb, 0, none⟩ = some (.pointer (st.ptr rb)) := by
  obtain ⟨v, h1, _⟩ := h.cells; exact h1
theorem PRd.peeks (h : PRd w xb rb b D st) : Peeks (.pointer (st.ptr rb)) st.hd w := by
  cases st with
  | bad c p => exact peeks_nil w
  | good us =>
    obtain ⟨ts, k, h1, h2, h3⟩ := TR.get (us := us) h.tr
    exact peeks_at h2 h3
theorem PRd.peek (h : PRd w xb rb b D st) : Calls Tryz.prog 104 #[.pointer (st.ptr rb)] w fun e w' => e = .returned (.agg #[.int .i64 st.hd.kind, .string ⟨st.hd.text.toArray⟩, .int .i64 st.hd.pos]) ∧ Below w.heap.size w w' := h.peeks.now
theorem PRd.is_ (h : PRd w xb rb b D st) (x : ByteArray) : Calls Tryz.prog 164 #[.pointer (st.ptr rb), .string x] w fun e w' => e = .returned (.bool (isT st.hd x.data.toList)) ∧ Below w.heap.size w w' := is_any x h.peeks
theorem PRd.skip_no (h : PRd w xb rb b D st) (x : ByteArray) (hi : isT st.hd x.data.toList = false) : Calls Tryz.prog 137 #[.pointer (st.ptr rb), .string x] w fun e w' => e = .returned (.bool false) ∧ Below w.heap.size w w' := Go.Proofs.YtmgjpjjglghbaaaGreatDoor.skip_no x h.peeks hi
/-- The tokens' reader has gone on by one. -/
theorem PRd.on {us ts : List Tok} {k : Nat} (h : PRd w xb rb b D (.good us)) (h1 : us = ts.drop k) (h0 : (hd us).kind ≠ 0) (hR : RD w' rb ts (k + 1)) (hg : w.grownBy w' (some rb)) : PRd w' xb rb b D (.good us.tail) ∧ Fx (X2 xb rb) w w' := by
  have hT : TR w rb us := h.tr
  have hf := (hT.fine.more h0).1
  have hF : Fr w.heap.size rb w w' := Fr.ofGrown hg
  obtain ⟨v, hb, hv⟩ := h.blk
  have hne : xb ≠ rb := by
    rintro rfl
    obtain ⟨ts', k', _, g, cap, q1, _⟩ := hT.rd
    rw [show w.heap[xb]? = _ from hb] at q1
    injection q1 with q1
    injection q1 with _ q1
    exact absurd q1 (by decide)
  have hG : GlobS w' := glob_keep h.glob (hF.block 0 (by have := h.lo; have := h.hx; have := h.ltx; omega) (by have := h.lo; have := h.hx; omega)) (hF.block 2 (by have := h.lo; have := h.hx; have := h.ltx; omega) (by have := h.lo; have := h.hx; omega))
  refine ⟨⟨⟨v, (hF.block xb h.ltx hne).trans hb, hv⟩, ⟨⟨ts, k + 1, by rw [h1, List.tail_drop], hR⟩, hf, hG, hT.hi⟩, hG, h.d64, h.lo, h.hx, Nat.lt_of_lt_of_le h.hr hg.size⟩, Fx.ofFr hF⟩
theorem PRd.skip_yes (h : PRd w xb rb b D st) (x : ByteArray) (hi : isT st.hd x.data.toList = true) : Calls Tryz.prog 137 #[.pointer (st.ptr rb), .string x] w fun e w' => e = .returned (.bool true) ∧ PRd w' xb rb b D st.tl ∧ Fx (X2 xb rb) w w' := by
  have h0 := isT_kind hi
  obtain ⟨us, rfl⟩ := hd_good h0
  have hT : TR w rb us := h.tr
  obtain ⟨ts, k, h1, h2, h3⟩ := hT.get
  exact (Go.Proofs.YtmgjpjjglghbaaaGreatDoor.skip_yes x h2 h3 hi (tr_len hT h1 h0)).mono fun _ _ ⟨he, hR, hg⟩ => ⟨he, h.on h1 h0 hR hg⟩
theorem PRd.take_on (h : PRd w xb rb b D st) (h0 : st.hd.kind ≠ 0) : Calls Tryz.prog 165 #[.pointer (st.ptr rb)] w fun e w' => e = .returned (.agg #[.int .i64 st.hd.kind, .string ⟨st.hd.text.toArray⟩, .int .i64 st.hd.pos]) ∧ PRd w' xb rb b D st.tl ∧ Fx (X2 xb rb) w w' := by
  obtain ⟨us, rfl⟩ := hd_good h0
  have hT : TR w rb us := h.tr
  obtain ⟨ts, k, h1, h2, h3⟩ := hT.get
  exact (Go.Proofs.YtmgjpjjglghbaaaGreatDoor.take_on h2 h3 h0 (tr_len hT h1 h0)).mono fun _ _ ⟨he, hR, hg⟩ => ⟨he, h.on h1 h0 hR hg⟩
theorem PRd.take_end (h : PRd w xb rb b D st) (h0 : st.hd.kind = 0) : Calls Tryz.prog 165 #[.pointer (st.ptr rb)] w fun e w' => e = .returned (.agg #[.int .i64 st.hd.kind, .string ⟨st.hd.text.toArray⟩, .int .i64 st.hd.pos]) ∧ Below w.heap.size w w' := Go.Proofs.YtmgjpjjglghbaaaGreatDoor.take_end h.peeks h0
end
end
section
open Go.RowKit

def PkP (x : List UInt8) (w : World) (e : Ending) (w' : World) : Prop := e = .returned (.int .i64 (pk x : Int)) ∧ w = w'
theorem prank_any (s : ByteArray) (w : World) : Calls Tryz.prog 120 #[.string s] w (PkP s.data.toList w) := by
  rw [← ByteArray.toList_eq]
  by_cases h0 : s.toList = [61, 62]
  · have h := h0
    clear h0
    have g0 : (s.toList == [61, 62]) = true := by rw [h]; rfl
    have g1 : (s.toList == [124]) = false := by rw [h]; rfl
    have g2 : (s.toList == [38]) = false := by rw [h]; rfl
    have g3 : (s.toList == [85]) = false := by rw [h]; rfl
    have g4 : (s.toList == [87]) = false := by rw [h]; rfl
    have g5 : (s.toList == [82]) = false := by rw [h]; rfl
    have g6 : (s.toList == [33]) = false := by rw [h]; rfl
    have g7 : (s.toList == [88]) = false := by rw [h]; rfl
    have g8 : (s.toList == [70]) = false := by rw [h]; rfl
    have g9 : (s.toList == [71]) = false := by rw [h]; rfl
    have HK := Lib.hid (show pk s.toList = 0 by rw [h]; decide)
    clear h
    go_enter Tryz.func120, Tryz.ntmps120
    go_wp2
    go_ret
    exact ⟨by rw [HK.out]; rfl, rfl⟩
  by_cases h1 : s.toList = [124]
  · have h := h1
    clear h1 h0
    have g0 : (s.toList == [61, 62]) = false := by rw [h]; rfl
    have g1 : (s.toList == [124]) = true := by rw [h]; rfl
    have g2 : (s.toList == [38]) = false := by rw [h]; rfl
    have g3 : (s.toList == [85]) = false := by rw [h]; rfl
    have g4 : (s.toList == [87]) = false := by rw [h]; rfl
    have g5 : (s.toList == [82]) = false := by rw [h]; rfl
    have g6 : (s.toList == [33]) = false := by rw [h]; rfl
    have g7 : (s.toList == [88]) = false := by rw [h]; rfl
    have g8 : (s.toList == [70]) = false := by rw [h]; rfl
    have g9 : (s.toList == [71]) = false := by rw [h]; rfl
    have HK := Lib.hid (show pk s.toList = 1 by rw [h]; decide)
    clear h
    go_enter Tryz.func120, Tryz.ntmps120
    go_wp2
    go_ret
    exact ⟨by rw [HK.out]; rfl, rfl⟩
  by_cases h2 : s.toList = [38]
  · have h := h2
    clear h2 h1 h0
    have g0 : (s.toList == [61, 62]) = false := by rw [h]; rfl
    have g1 : (s.toList == [124]) = false := by rw [h]; rfl
    have g2 : (s.toList == [38]) = true := by rw [h]; rfl
    have g3 : (s.toList == [85]) = false := by rw [h]; rfl
    have g4 : (s.toList == [87]) = false := by rw [h]; rfl
    have g5 : (s.toList == [82]) = false := by rw [h]; rfl
    have g6 : (s.toList == [33]) = false := by rw [h]; rfl
    have g7 : (s.toList == [88]) = false := by rw [h]; rfl
    have g8 : (s.toList == [70]) = false := by rw [h]; rfl
    have g9 : (s.toList == [71]) = false := by rw [h]; rfl
    have HK := Lib.hid (show pk s.toList = 2 by rw [h]; decide)
    clear h
    go_enter Tryz.func120, Tryz.ntmps120
    go_wp2
    go_ret
    exact ⟨by rw [HK.out]; rfl, rfl⟩
  by_cases h3 : s.toList = [85]
  · have h := h3
    clear h3 h2 h1 h0
    have g0 : (s.toList == [61, 62]) = false := by rw [h]; rfl
    have g1 : (s.toList == [124]) = false := by rw [h]; rfl
    have g2 : (s.toList == [38]) = false := by rw [h]; rfl
    have g3 : (s.toList == [85]) = true := by rw [h]; rfl
    have g4 : (s.toList == [87]) = false := by rw [h]; rfl
    have g5 : (s.toList == [82]) = false := by rw [h]; rfl
    have g6 : (s.toList == [33]) = false := by rw [h]; rfl
    have g7 : (s.toList == [88]) = false := by rw [h]; rfl
    have g8 : (s.toList == [70]) = false := by rw [h]; rfl
    have g9 : (s.toList == [71]) = false := by rw [h]; rfl
    have HK := Lib.hid (show pk s.toList = 3 by rw [h]; decide)
    clear h
    go_enter Tryz.func120, Tryz.ntmps120
    go_wp2
    go_ret
    exact ⟨by rw [HK.out]; rfl, rfl⟩
  by_cases h4 : s.toList = [87]
  · have h := h4
    clear h4 h3 h2 h1 h0
    have g0 : (s.toList == [61, 62]) = false := by rw [h]; rfl
    have g1 : (s.toList == [124]) = false := by rw [h]; rfl
    have g2 : (s.toList == [38]) = false := by rw [h]; rfl
    have g3 : (s.toList == [85]) = false := by rw [h]; rfl
    have g4 : (s.toList == [87]) = true := by rw [h]; rfl
    have g5 : (s.toList == [82]) = false := by rw [h]; rfl
    have g6 : (s.toList == [33]) = false := by rw [h]; rfl
    have g7 : (s.toList == [88]) = false := by rw [h]; rfl
    have g8 : (s.toList == [70]) = false := by rw [h]; rfl
    have g9 : (s.toList == [71]) = false := by rw [h]; rfl
    have HK := Lib.hid (show pk s.toList = 3 by rw [h]; decide)
    clear h
    go_enter Tryz.func120, Tryz.ntmps120
    go_wp2
    go_ret
    exact ⟨by rw [HK.out]; rfl, rfl⟩
  by_cases h5 : s.toList = [82]
  · have h := h5
    clear h5 h4 h3 h2 h1 h0
    have g0 : (s.toList == [61, 62]) = false := by rw [h]; rfl
    have g1 : (s.toList == [124]) = false := by rw [h]; rfl
    have g2 : (s.toList == [38]) = false := by rw [h]; rfl
    have g3 : (s.toList == [85]) = false := by rw [h]; rfl
    have g4 : (s.toList == [87]) = false := by rw [h]; rfl
    have g5 : (s.toList == [82]) = true := by rw [h]; rfl
    have g6 : (s.toList == [33]) = false := by rw [h]; rfl
    have g7 : (s.toList == [88]) = false := by rw [h]; rfl
    have g8 : (s.toList == [70]) = false := by rw [h]; rfl
    have g9 : (s.toList == [71]) = false := by rw [h]; rfl
    have HK := Lib.hid (show pk s.toList = 3 by rw [h]; decide)
    clear h
    go_enter Tryz.func120, Tryz.ntmps120
    go_wp2
    go_ret
    exact ⟨by rw [HK.out]; rfl, rfl⟩
  by_cases h6 : s.toList = [33]
  · have h := h6
    clear h6 h5 h4 h3 h2 h1 h0
    have g0 : (s.toList == [61, 62]) = false := by rw [h]; rfl
    have g1 : (s.toList == [124]) = false := by rw [h]; rfl
    have g2 : (s.toList == [38]) = false := by rw [h]; rfl
    have g3 : (s.toList == [85]) = false := by rw [h]; rfl
    have g4 : (s.toList == [87]) = false := by rw [h]; rfl
    have g5 : (s.toList == [82]) = false := by rw [h]; rfl
    have g6 : (s.toList == [33]) = true := by rw [h]; rfl
    have g7 : (s.toList == [88]) = false := by rw [h]; rfl
    have g8 : (s.toList == [70]) = false := by rw [h]; rfl
    have g9 : (s.toList == [71]) = false := by rw [h]; rfl
    have HK := Lib.hid (show pk s.toList = 4 by rw [h]; decide)
    clear h
    go_enter Tryz.func120, Tryz.ntmps120
    go_wp2
    go_ret
    exact ⟨by rw [HK.out]; rfl, rfl⟩
  by_cases h7 : s.toList = [88]
  · have h := h7
    clear h7 h6 h5 h4 h3 h2 h1 h0
    have g0 : (s.toList == [61, 62]) = false := by rw [h]; rfl
    have g1 : (s.toList == [124]) = false := by rw [h]; rfl
    have g2 : (s.toList == [38]) = false := by rw [h]; rfl
    have g3 : (s.toList == [85]) = false := by rw [h]; rfl
    have g4 : (s.toList == [87]) = false := by rw [h]; rfl
    have g5 : (s.toList == [82]) = false := by rw [h]; rfl
    have g6 : (s.toList == [33]) = false := by rw [h]; rfl
    have g7 : (s.toList == [88]) = true := by rw [h]; rfl
    have g8 : (s.toList == [70]) = false := by rw [h]; rfl
    have g9 : (s.toList == [71]) = false := by rw [h]; rfl
    have HK := Lib.hid (show pk s.toList = 4 by rw [h]; decide)
    clear h
    go_enter Tryz.func120, Tryz.ntmps120
    go_wp2
    go_ret
    exact ⟨by rw [HK.out]; rfl, rfl⟩
  by_cases h8 : s.toList = [70]
  · have h := h8
    clear h8 h7 h6 h5 h4 h3 h2 h1 h0
    have g0 : (s.toList == [61, 62]) = false := by rw [h]; rfl
    have g1 : (s.toList == [124]) = false := by rw [h]; rfl
    have g2 : (s.toList == [38]) = false := by rw [h]; rfl
    have g3 : (s.toList == [85]) = false := by rw [h]; rfl
    have g4 : (s.toList == [87]) = false := by rw [h]; rfl
    have g5 : (s.toList == [82]) = false := by rw [h]; rfl
    have g6 : (s.toList == [33]) = false := by rw [h]; rfl
    have g7 : (s.toList == [88]) = false := by rw [h]; rfl
    have g8 : (s.toList == [70]) = true := by rw [h]; rfl
    have g9 : (s.toList == [71]) = false := by rw [h]; rfl
    have HK := Lib.hid (show pk s.toList = 4 by rw [h]; decide)
    clear h
    go_enter Tryz.func120, Tryz.ntmps120
    go_wp2
    go_ret
    exact ⟨by rw [HK.out]; rfl, rfl⟩
  by_cases h9 : s.toList = [71]
  · have h := h9
    clear h9 h8 h7 h6 h5 h4 h3 h2 h1 h0
    have g0 : (s.toList == [61, 62]) = false := by rw [h]; rfl
    have g1 : (s.toList == [124]) = false := by rw [h]; rfl
    have g2 : (s.toList == [38]) = false := by rw [h]; rfl
    have g3 : (s.toList == [85]) = false := by rw [h]; rfl
    have g4 : (s.toList == [87]) = false := by rw [h]; rfl
    have g5 : (s.toList == [82]) = false := by rw [h]; rfl
    have g6 : (s.toList == [33]) = false := by rw [h]; rfl
    have g7 : (s.toList == [88]) = false := by rw [h]; rfl
    have g8 : (s.toList == [70]) = false := by rw [h]; rfl
    have g9 : (s.toList == [71]) = true := by rw [h]; rfl
    have HK := Lib.hid (show pk s.toList = 4 by rw [h]; decide)
    clear h
    go_enter Tryz.func120, Tryz.ntmps120
    go_wp2
    go_ret
    exact ⟨by rw [HK.out]; rfl, rfl⟩
  have g0 : (s.toList == [61, 62]) = false := by rw [beq_eq_false_iff_ne]; exact h0
  have g1 : (s.toList == [124]) = false := by rw [beq_eq_false_iff_ne]; exact h1
  have g2 : (s.toList == [38]) = false := by rw [beq_eq_false_iff_ne]; exact h2
  have g3 : (s.toList == [85]) = false := by rw [beq_eq_false_iff_ne]; exact h3
  have g4 : (s.toList == [87]) = false := by rw [beq_eq_false_iff_ne]; exact h4
  have g5 : (s.toList == [82]) = false := by rw [beq_eq_false_iff_ne]; exact h5
  have g6 : (s.toList == [33]) = false := by rw [beq_eq_false_iff_ne]; exact h6
  have g7 : (s.toList == [88]) = false := by rw [beq_eq_false_iff_ne]; exact h7
  have g8 : (s.toList == [70]) = false := by rw [beq_eq_false_iff_ne]; exact h8
  have g9 : (s.toList == [71]) = false := by rw [beq_eq_false_iff_ne]; exact h9
  have HK := Lib.hid (show pk s.toList = 5 by simp [pk, h0, h1, h2, h3, h4, h5, h6, h7, h8, h9])
  clear h0 h1 h2 h3 h4 h5 h6 h7 h8 h9
  go_enter Tryz.func120, Tryz.ntmps120
  go_wp2
  go_ret
  exact ⟨by rw [HK.out]; rfl, rfl⟩
end
section
open Go.RowKit

def PU (xb rb b D : Nat) (st : St) (w : World) (e : Ending) (w' : World) : Prop := e = .returned (.tuple #[]) ∧ PRd w' xb rb b D st ∧ Fx (X2 xb rb) w w'
section
variable {xb rb b D : Nat} {st : St}
theorem PU.of {st' : St} {w w1 w' : World} {e : Ending} (h : PU xb rb b D st' w1 e w') (k : Fx (X2 xb rb) w w1) : PU xb rb b D st' w e w' := ⟨h.1, h.2.1, k.trans h.2.2⟩
/-- The tokens are let go, the error is kept. -/
theorem PRd.failed {us : List Tok} {w : World} {c p : Nat} (h : PRd w xb rb b D (.good us)) :
    PRd (((w.setCell ⟨xb, 0, none⟩ (.pointer none)).setCell ⟨xb, 2, none⟩ (.iface 190 (.pointer (some ⟨w.heap.size, 0, none⟩)))).alloc (.cells #[.int .i64 (p : Int), .iface 78 (.int .i64 (c : Int))] 192)) xb rb b D (.bad c p) ∧ Fx (X2 xb rb) w (((w.setCell ⟨xb, 0, none⟩ (.pointer none)).setCell ⟨xb, 2, none⟩ (.iface 190 (.pointer (some ⟨w.heap.size, 0, none⟩)))).alloc (.cells #[.int .i64 (p : Int), .iface 78 (.int .i64 (c : Int))] 192)) := by
  obtain ⟨v, hb, hv⟩ := h.blk
  refine ⟨?_, (((Fx.refl _ _).setCell (p := ⟨xb, 0, none⟩) (.inr (.inl rfl)) _).setCell (p := ⟨xb, 2, none⟩) (.inr (.inl rfl)) _).alloc _⟩
  have h2 := ((hb.set 0 (.pointer none)).set 2 (.iface 190 (.pointer (some ⟨w.heap.size, 0, none⟩)))).alloc (.cells #[.int .i64 (p : Int), .iface 78 (.int .i64 (c : Int))] 192)
  have hg : ∀ k, k < b → (((w.setCell ⟨xb, 0, none⟩ (.pointer none)).setCell ⟨xb, 2, none⟩ (.iface 190 (.pointer (some ⟨w.heap.size, 0, none⟩)))).alloc (.cells #[.int .i64 (p : Int), .iface 78 (.int .i64 (c : Int))] 192)).heap[k]? = w.heap[k]? := fun k hk => (Below.heap_alloc _ _ k (by simp; have := h.hx; have := h.ltx; omega)).trans ((Below.heap_setCell _ ⟨xb, 2, none⟩ _ k (by show k ≠ xb; have := h.hx; omega)).trans (Below.heap_setCell w ⟨xb, 0, none⟩ _ k (by show k ≠ xb; have := h.hx; omega)))
  exact ⟨⟨_, h2, w.heap.size, rfl, AtE.new (by simp) _ _⟩, trivial, glob_keep h.glob (hg 0 h.lo.2) (hg 2 h.lo.1), h.d64, h.lo, h.hx, by simpa using Nat.lt_succ_of_lt h.hr⟩
theorem pfail_bad {c c' p : Nat} (w : World) (h : PRd w xb rb b D (.bad c' p)) : Calls Tryz.prog 105 #[.pointer (some ⟨xb, 0, none⟩), .iface 78 (.int .i64 (c : Int))] w (PU xb rb b D (.bad c' p) w) := by
  obtain ⟨v, c0, c1, c2, z0, z2, eb, rfl, hA⟩ := h.cells
  have hx := h.ltx
  have H := Lib.hid h
  clear h hA
  go_enter Tryz.func105, Tryz.ntmps105
  go_wp2
  exact bodyPost_ret (v := .tuple #[]) (results_none rfl _ _ _) rfl ⟨rfl, H.out, Fx.refl _ _⟩
set_option maxHeartbeats 1000000 in
theorem pfail_good {us : List Tok} {c : Nat} (w : World) (h : PRd w xb rb b D (.good us)) : Calls Tryz.prog 105 #[.pointer (some ⟨xb, 0, none⟩), .iface 78 (.int .i64 (c : Int))] w (PU xb rb b D (.bad c (hd us).pos) w) := by
  obtain ⟨v, c0, c1, c2, z0, z2, hv⟩ := h.cells
  obtain rfl : v = .nilIface := hv
  have hx := h.ltx
  have H := Lib.hid h
  have HP := Lib.hid h.peek
  have hf0 := field0
  have hf1 := field1
  have hf2 := field2
  clear h
  simp only [St.ptr, St.hd] at c0 HP
  go_enter Tryz.func105, Tryz.ntmps105
  go_wp2_with fail
  with_reducible refine (HP.out).mono ?_
  rintro e w1 ⟨rfl, hb1⟩
  have HF1 := Lib.hid (Fx.of (X := X2 xb rb) hb1)
  have HQ := Lib.hid ((H.out.below hb1).failed (c := c) (p := (hd us).pos))
  have hx1 := (H.out.below hb1).ltx
  obtain ⟨v', c0, c1, c2, z0, z2, _⟩ := (H.out.below hb1).cells
  simp only [St.ptr] at c0
  clear hb1
  go_wp2
  exact bodyPost_ret (v := .tuple #[]) (results_none rfl _ _ _) rfl ⟨rfl, HQ.out.1, HF1.out.trans HQ.out.2⟩
theorem pfail_any (c : Nat) (w : World) (h : PRd w xb rb b D st) : Calls Tryz.prog 105 #[.pointer (some ⟨xb, 0, none⟩), .iface 78 (.int .i64 (c : Int))] w (PU xb rb b D (st.fail c) w) := by
  cases st with
  | bad c' p => exact pfail_bad w h
  | good us => exact pfail_good w h
theorem prefuse_any (w : World) (h : PRd w xb rb b D st) : Calls Tryz.prog 67 #[.pointer (some ⟨xb, 0, none⟩)] w (PU xb rb b D (st.fail 20) w) := by
  have H := Lib.hid (pfail_any 20 w h)
  clear h
  go_enter Tryz.func67, Tryz.ntmps67
  go_wp2_with fail
  refine (H.out).mono ?_
  rintro e w1 ⟨rfl, hM, hF⟩
  go_wp2
  go_end0
  exact ⟨rfl, hM, hF⟩
set_option maxHeartbeats 1000000 in
theorem pwant_any (x : ByteArray) (w : World) (h : PRd w xb rb b D st) : Calls Tryz.prog 188 #[.pointer (some ⟨xb, 0, none⟩), .string x] w (PU xb rb b D (st.want x.data.toList) w) := by
  have hx := h.ltx
  have c0 := h.c0
  cases hi : isT st.hd x.data.toList with
  | true =>
    have H1 := Lib.hid (h.skip_yes x hi)
    rw [show st.want x.data.toList = st.tl by unfold St.want; rw [if_pos hi]]
    clear h hi
    go_enter Tryz.func188, Tryz.ntmps188
    go_wp2_with fail
    with_reducible refine (H1.out).mono ?_
    rintro e w1 ⟨rfl, hM, hF⟩
    go_wp2
    go_end0
    exact ⟨rfl, hM, hF⟩
  | false =>
    have H1 := Lib.hid (h.skip_no x hi)
    have H := Lib.hid h
    rw [show st.want x.data.toList = st.fail 20 by unfold St.want; rw [if_neg (by rw [hi]; simp)]]
    clear h hi
    go_enter Tryz.func188, Tryz.ntmps188
    go_wp2_with fail
    with_reducible refine (H1.out).mono ?_
    rintro e w1 ⟨rfl, hb1⟩
    have HB := Lib.hid hb1
    clear hb1
    go_wp2_with fail
    refine (prefuse_any w1 (H.out.below HB.out)).mono ?_
    rintro e w2 ⟨rfl, hM, hF⟩
    go_wp2
    go_end0
    exact ⟨rfl, hM, (Fx.of HB.out).trans hF⟩
theorem pisend_any (w : World) (h : PRd w xb rb b D st) : Calls Tryz.prog 66 #[.pointer (some ⟨xb, 0, none⟩)] w fun e w' => e = .returned (.bool (decide (st.hd.kind = 0))) ∧ Below w.heap.size w w' := by
  have hx := h.ltx
  have c0 := h.c0
  have HP := Lib.hid h.peek
  have hf0 := field0
  have hf1 := field1
  have hf2 := field2
  clear h
  go_enter Tryz.func66, Tryz.ntmps66
  go_wp2_with fail
  with_reducible refine (HP.out).mono ?_
  rintro e w1 ⟨rfl, hb1⟩
  go_wp2
  go_ret
  have HR : (((st.hd.kind : Nat) : Int) == 0) = decide (st.hd.kind = 0) := by rw [Bool.eq_iff_iff]; simp
  exact ⟨by rw [← HR]; rfl, hb1⟩
set_option maxHeartbeats 1000000 in
theorem psign_yes {k : Nat} (w : World) (h : PRd w xb rb b D st) (hs : sp k st.hd = true) : Calls Tryz.prog 106 #[.pointer (some ⟨xb, 0, none⟩), .int .i64 (k : Int)] w fun e w' => e = .returned (.tuple #[.string ⟨st.hd.text.toArray⟩, .bool true]) ∧ PRd w' xb rb b D st.tl ∧ Fx (X2 xb rb) w w' := by
  have hx := h.ltx
  have c0 := h.c0
  have HP := Lib.hid h.peek
  have HK := Lib.hid (prank_any ⟨st.hd.text.toArray⟩)
  have hk : pk st.hd.text = k := (sp_kind hs).2
  have hi : isT st.hd (⟨st.hd.text.toArray⟩ : ByteArray).data.toList = true := by
    simp only [sp, Bool.and_eq_true] at hs
    simp only [isT, hs.1, Bool.true_and]
    simp
  have HS := Lib.hid (fun (W : World) (hb : Below w.heap.size w W) => (h.below hb).skip_yes ⟨st.hd.text.toArray⟩ hi)
  have HC := Lib.hid (fun (W : World) (hb : Below w.heap.size w W) => (⟨(h.below hb).c0, (h.below hb).ltx⟩ : W.cell? ⟨xb, 0, none⟩ = some (.pointer (st.ptr rb)) ∧ xb < W.heap.size))
  unfold PkP at HK
  rw [show (⟨st.hd.text.toArray⟩ : ByteArray).data.toList = st.hd.text from rfl, hk] at HK
  have g1 : (((k : Nat) : Int) != (k : Int)) = false := by simp
  have hf0 := field0
  have hf1 := field1
  have hf2 := field2
  clear h hs hi hk
  go_enter Tryz.func106, Tryz.ntmps106
  go_wp2_with fail
  with_reducible refine (HP.out).mono ?_
  rintro e w1 ⟨rfl, hb1⟩
  have HB := Lib.hid hb1
  obtain ⟨c0, hx1⟩ := HC.out w1 hb1
  clear hb1
  go_wp2_with fail
  with_reducible refine (HK.out _).mono ?_
  rintro e w2 ⟨rfl, rfl⟩
  go_wp2_with fail
  with_reducible refine (HS.out _ HB.out).mono ?_
  rintro e w3 ⟨rfl, hM, hF⟩
  have HM := Lib.hid hM
  have HF := Lib.hid ((Fx.of (X := X2 xb rb) HB.out).trans hF)
  clear hM hF
  go_wp2
  go_ret2
  exact ⟨rfl, HM.out, HF.out⟩
set_option maxHeartbeats 1000000 in
theorem psign_no {k : Nat} (w : World) (h : PRd w xb rb b D st) (hs : sp k st.hd = false) : Calls Tryz.prog 106 #[.pointer (some ⟨xb, 0, none⟩), .int .i64 (k : Int)] w fun e w' => e = .returned (.tuple #[.string ⟨#[]⟩, .bool false]) ∧ Below w.heap.size w w' := by
  have hx := h.ltx
  have c0 := h.c0
  have HP := Lib.hid h.peek
  have HK := Lib.hid (prank_any ⟨st.hd.text.toArray⟩)
  unfold PkP at HK
  rw [show (⟨st.hd.text.toArray⟩ : ByteArray).data.toList = st.hd.text from rfl] at HK
  have hf0 := field0
  have hf1 := field1
  have hf2 := field2
  by_cases hk : pk st.hd.text = k
  · have hi : isT st.hd (⟨st.hd.text.toArray⟩ : ByteArray).data.toList = false := by
      simp only [sp, hk, beq_self_eq_true, Bool.and_true] at hs
      simp only [isT, hs, Bool.false_and]
    have HS := Lib.hid (fun (W : World) (hb : Below w.heap.size w W) => (h.below hb).skip_no ⟨st.hd.text.toArray⟩ hi)
    have HC := Lib.hid (fun (W : World) (hb : Below w.heap.size w W) => (⟨(h.below hb).c0, (h.below hb).ltx⟩ : W.cell? ⟨xb, 0, none⟩ = some (.pointer (st.ptr rb)) ∧ xb < W.heap.size))
    rw [hk] at HK
    have g1 : (((k : Nat) : Int) != (k : Int)) = false := by simp
    clear h hs hi hk
    go_enter Tryz.func106, Tryz.ntmps106
    go_wp2_with fail
    with_reducible refine (HP.out).mono ?_
    rintro e w1 ⟨rfl, hb1⟩
    have HB := Lib.hid hb1
    obtain ⟨c0, hx1⟩ := HC.out w1 hb1
    clear hb1
    go_wp2_with fail
    with_reducible refine (HK.out _).mono ?_
    rintro e w2 ⟨rfl, rfl⟩
    go_wp2_with fail
    with_reducible refine (HS.out _ HB.out).mono ?_
    rintro e w3 ⟨rfl, hb3⟩
    have HB3 := Lib.hid (HB.out.trans (hb3.mono HB.out.size))
    clear hb3
    go_wp2
    go_ret2
    exact ⟨rfl, HB3.out⟩
  · have g1 : (((pk st.hd.text : Nat) : Int) != (k : Int)) = true := by rw [bne_iff_ne]; omega
    clear h hs hk
    go_enter Tryz.func106, Tryz.ntmps106
    go_wp2_with fail
    with_reducible refine (HP.out).mono ?_
    rintro e w1 ⟨rfl, hb1⟩
    have HB := Lib.hid hb1
    clear hb1
    go_wp2_with fail
    with_reducible refine (HK.out _).mono ?_
    rintro e w2 ⟨rfl, rfl⟩
    go_wp2
    go_ret2
    exact ⟨rfl, HB.out⟩
end
end
end Go.Proofs.YtmgjpjjglghbaaaGreatDoor
