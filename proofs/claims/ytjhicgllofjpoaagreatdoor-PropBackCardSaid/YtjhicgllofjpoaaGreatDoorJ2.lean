/-
  Formulas in memory.
-/
import Derived.Test.YtjhicgllofjpoaaGreatDoorJ1
import Derived.Test.YtjhicgllofjpoaaGreatDoorJ0
namespace Go.Proofs.YtjhicgllofjpoaaGreatDoor
open Go.RowKit

/-- A formula's four cells; its kids lie in blocks of S. -/
def FS (w : World) (e : TypeId) (S : Nat → Prop) : Fo → List Value → Prop
  | .leaf op nm p, c => c = [strV op, strV nm, .slice none 0 0, .int .i64 (p : Int)]
  | .un op a p, c => ∃ g cap ca, c = [strV op, strV [], .slice (some ⟨g, 0, none⟩) 1 cap, .int .i64 (p : Int)] ∧ Arr w e S g ca ∧ FS w e S a ca
  | .bin op a b p, c => ∃ g cap ca cb, c = [strV op, strV [], .slice (some ⟨g, 0, none⟩) 2 cap, .int .i64 (p : Int)] ∧ Arr w e S g (ca ++ cb) ∧ FS w e S a ca ∧ FS w e S b cb
/-- The four cells, by name. -/
structure FV where
  o : ByteArray
  nm : ByteArray
  A : Option Addr
  ll : Nat
  cap : Nat
  p : Int
def FV.c (v : FV) : List Value := [.string v.o, .string v.nm, .slice v.A v.ll v.cap, .int .i64 v.p]
def fv0 : FV := ⟨⟨#[]⟩, ⟨#[]⟩, none, 0, 0, 0⟩
section
variable {w w' : World} {e : TypeId} {S T : Nat → Prop}
theorem FS.keepY (hk : ∀ (k : Nat) (cs : Array Value), S k → w.heap[k]? = some (.cells cs e (0, 0)) → w'.heap[k]? = w.heap[k]?) : ∀ {x : Fo} {c : List Value}, FS w e S x c → FS w' e S x c
  | .leaf _ _ _, _, h => h
  | .un _ _ _, _, ⟨ad, cap, ca, h1, h2, h3⟩ => ⟨ad, cap, ca, h1, h2.keepY hk, FS.keepY hk h3⟩
  | .bin _ _ _ _, _, ⟨ad, cap, ca, cb, h1, h2, h3, h4⟩ => ⟨ad, cap, ca, cb, h1, h2.keepY hk, FS.keepY hk h3, FS.keepY hk h4⟩
theorem FS.wide (hb : ∀ k, k < w.heap.size → S k → T k) : ∀ {x : Fo} {c : List Value}, FS w e S x c → FS w e T x c
  | .leaf _ _ _, _, h => h
  | .un _ _ _, _, ⟨ad, cap, ca, h1, h2, h3⟩ => ⟨ad, cap, ca, h1, h2.mono hb, FS.wide hb h3⟩
  | .bin _ _ _ _, _, ⟨ad, cap, ca, cb, h1, h2, h3, h4⟩ => ⟨ad, cap, ca, cb, h1, h2.mono hb, FS.wide hb h3, FS.wide hb h4⟩
theorem FS.below {x : Fo} {c : List Value} (h : FS w e S x c) (hb : Below w.heap.size w w') : FS w' e S x c := h.keepY fun k _ _ h1 => hb.block k (blk_lt h1)
theorem FS.alloc {x : Fo} {c : List Value} (h : FS w e S x c) (o : Obj) : FS (w.alloc o) e S x c := h.below ((Below.refl _ _).alloc (Nat.le_refl _) _)
theorem FS.drew {x : Fo} {c : List Value} (h : FS w e S x c) : FS w.drew e S x c := h.below (Below.refl _ _).drew
theorem FS.fx {X : Nat → Prop} {x : Fo} {c : List Value} (h : FS w e S x c) (hf : Fx X w w') (hx : ∀ k, S k → X k → False) : FS w' e S x c := h.keepY fun k _ h0 h1 => hf.block k (blk_lt h1) (fun h => hx k h0 h)
theorem FS.setL {x : Fo} {c : List Value} {q i : Nat} {us : List Value} (h : FS w e S x c) (hq : ¬ S q) : FS (Go.Proofs.YtjhicgllofjpoaaGreatDoor.setL w q i us) e S x c := h.keepY fun k _ h0 _ => setL_heap (by rintro rfl; exact hq h0) us w i
theorem FS.form : ∀ {x : Fo} {c : List Value}, FS w e S x c → ∃ nm A l cap, c = FV.c ⟨⟨x.op.toArray⟩, nm, A, l, cap, (x.pos : Int)⟩
  | .leaf _ _ _, _, h => ⟨_, _, _, _, h⟩
  | .un _ _ _, _, ⟨_, _, _, h1, _⟩ => ⟨_, _, _, _, h1⟩
  | .bin _ _ _ _, _, ⟨_, _, _, _, h1, _⟩ => ⟨_, _, _, _, h1⟩
theorem FS.opn {x : Fo} {v : FV} (h : FS w e S x v.c) : v.o = ⟨x.op.toArray⟩ := by
  obtain ⟨nm, A, l, cap, h1⟩ := h.form
  simp only [FV.c, List.cons.injEq, Value.string.injEq] at h1
  exact h1.1
theorem FS.posn {x : Fo} {v : FV} (h : FS w e S x v.c) : v.p = (x.pos : Int) := by
  obtain ⟨nm, A, l, cap, h1⟩ := h.form
  simp only [FV.c, List.cons.injEq, Value.int.injEq, true_and, and_true] at h1
  exact h1.2.2.2
theorem FS.move (q : Nat) : ∀ {x : Fo} {v : FV}, FS w e S x v.c → FS w e S (x.move q) (FV.c { v with p := (q : Int) })
  | .leaf op nm p, v, h => by
    simp only [FS, FV.c, List.cons.injEq] at h
    simp only [FS, FV.c, Fo.move, h]
  | .un _ _ _, v, ⟨ad, cap, ca, h1, h2⟩ => by
    simp only [FV.c, List.cons.injEq] at h1
    exact ⟨ad, cap, ca, by simp only [FV.c, h1], h2⟩
  | .bin _ _ _ _, v, ⟨ad, cap, ca, cb, h1, h2⟩ => by
    simp only [FV.c, List.cons.injEq] at h1
    exact ⟨ad, cap, ca, cb, by simp only [FV.c, h1], h2⟩
theorem FS.len4 {x : Fo} {c : List Value} (h : FS w e S x c) : c.length = 4 := by
  obtain ⟨_, _, _, _, rfl⟩ := h.form; rfl
/-- A slice's cells read as formulas. -/
def FK (w : World) (e : TypeId) (S : Nat → Prop) (A : Option Addr) (ks : List Fo) : Prop :=
  ∀ i (h : i < ks.length), ∃ (g : Nat) (v : FV), A = some ⟨g, 0, none⟩ ∧ g < w.heap.size ∧ FS w e S ks[i] v.c ∧ w.cell? ⟨g, i * 4, none⟩ = some (.string v.o) ∧ w.cell? ⟨g, i * 4 + 1, none⟩ = some (.string v.nm) ∧ w.cell? ⟨g, i * 4 + 2, none⟩ = some (.slice v.A v.ll v.cap) ∧ w.cell? ⟨g, i * 4 + 3, none⟩ = some (.int .i64 v.p)
theorem fk_one {g : Nat} {xs : List Value} (h : Arr w e S g xs) {k : Fo} {c : List Value} {i : Nat} (hk : FS w e S k c) (hx : ∀ j, j < 4 → xs[i * 4 + j]? = c[j]?) : ∃ (g' : Nat) (v : FV), (some ⟨g, 0, none⟩ : Option Addr) = some ⟨g', 0, none⟩ ∧ g' < w.heap.size ∧ FS w e S k v.c ∧ w.cell? ⟨g', i * 4, none⟩ = some (.string v.o) ∧ w.cell? ⟨g', i * 4 + 1, none⟩ = some (.string v.nm) ∧ w.cell? ⟨g', i * 4 + 2, none⟩ = some (.slice v.A v.ll v.cap) ∧ w.cell? ⟨g', i * 4 + 3, none⟩ = some (.int .i64 v.p) := by
  obtain ⟨nm, B, l, cap, rfl⟩ := hk.form
  have hl : g < w.heap.size := by obtain ⟨_, cs, h3, _⟩ := h; exact blk_lt h3
  exact ⟨g, _, rfl, hl, hk, h.cell ((hx 0 (by omega)).trans rfl), h.cell ((hx 1 (by omega)).trans rfl), h.cell ((hx 2 (by omega)).trans rfl), h.cell ((hx 3 (by omega)).trans rfl)⟩
theorem FS.view : ∀ {x : Fo} {c : List Value}, FS w e S x c → ∃ A cap, c = FV.c ⟨⟨x.op.toArray⟩, ⟨x.nm.toArray⟩, A, x.kids.length, cap, (x.pos : Int)⟩ ∧ FK w e S A x.kids
  | .leaf _ _ _, _, h => ⟨none, 0, h, fun i hi => absurd hi (by simp [Fo.kids])⟩
  | .un _ a _, _, ⟨g, cap, ca, h1, h2, h3⟩ => by
    refine ⟨_, cap, h1, fun i hi => ?_⟩
    match i, hi with
    | 0, _ => exact fk_one h2 h3 (fun j hj => by simp)
  | .bin _ a b _, _, ⟨g, cap, ca, cb, h1, h2, h3, h4⟩ => by
    have l1 := h3.len4
    refine ⟨_, cap, h1, fun i hi => ?_⟩
    match i, hi with
    | 0, _ => exact fk_one h2 h3 (fun j hj => by rw [Nat.zero_mul, Nat.zero_add, List.getElem?_append_left (by omega)])
    | 1, _ => exact fk_one h2 h4 (fun j hj => by rw [Nat.one_mul, List.getElem?_append_right (by omega), l1]; congr 1; omega)
theorem FS.kr {x : Fo} {v : FV} (h : FS w e S x v.c) : FK w e S v.A x.kids ∧ v.ll = x.kids.length ∧ v.nm = ⟨x.nm.toArray⟩ := by
  obtain ⟨A', cap', h1, h2⟩ := h.view
  simp only [FV.c, List.cons.injEq, Value.slice.injEq, Value.string.injEq] at h1
  rw [h1.2.2.1.1]
  exact ⟨h2, h1.2.2.1.2.1, h1.2.1⟩
theorem FK.below {A : Option Addr} {ks : List Fo} (h : FK w e S A ks) (hb : Below w.heap.size w w') : FK w' e S A ks := by
  intro i hi
  obtain ⟨g, v, h1, h2, h3, c0, c1, c2, c3⟩ := h i hi
  exact ⟨g, v, h1, by have := hb.size; omega, h3.below hb, (hb.cell (p := ⟨g, i * 4, none⟩) h2).trans c0, (hb.cell (p := ⟨g, i * 4 + 1, none⟩) h2).trans c1, (hb.cell (p := ⟨g, i * 4 + 2, none⟩) h2).trans c2, (hb.cell (p := ⟨g, i * 4 + 3, none⟩) h2).trans c3⟩
end
theorem fo_bare_eq (a b : Fo) : a.bare = b.bare ↔ a.op = b.op ∧ a.nm = b.nm ∧ a.kids.map Fo.bare = b.kids.map Fo.bare := by
  cases a <;> cases b <;> simp [Fo.bare, Fo.op, Fo.nm, Fo.kids]
/-- A formula in memory, its kids in blocks of S, or none: then anything of that shape. -/
def FOS (w : World) (S : Nat → Prop) : Option Fo → FV → Prop
  | some x, v => FS w 25 S x v.c
  | none, _ => True
/-- .. from b0 on up to b1. -/
abbrev FO (w : World) (b0 b1 : Nat) (o : Option Fo) (v : FV) : Prop := FOS w (Rg b0 b1) o v
section
variable {b0 b1 d0 d1 : Nat} {S T : Nat → Prop} {w w' : World} {o : Option Fo} {v : FV}
theorem FOS.keepY (h : FOS w S o v) (hk : ∀ (k : Nat) (cs : Array Value), S k → w.heap[k]? = some (.cells cs 25 (0, 0)) → w'.heap[k]? = w.heap[k]?) : FOS w' S o v := by
  cases o with
  | none => trivial
  | some x => exact FS.keepY hk (show FS w 25 S x v.c from h)
theorem FOS.wide (h : FOS w S o v) (hS : ∀ k, k < w.heap.size → S k → T k) : FOS w T o v := by
  cases o with
  | none => trivial
  | some x => exact FS.wide hS (show FS w 25 S x v.c from h)
theorem FOS.mono (h : FO w b0 b1 o v) (h0 : d0 ≤ b0) (h1 : b1 ≤ d1) : FO w d0 d1 o v := FOS.wide h fun _ _ hk => ⟨Nat.le_trans h0 hk.1, Nat.lt_of_lt_of_le hk.2 h1⟩
theorem FOS.below (h : FOS w S o v) (hb : Below w.heap.size w w') : FOS w' S o v := h.keepY fun k _ _ h1 => hb.block k (blk_lt h1)
theorem FOS.alloc (h : FOS w S o v) (ob : Obj) : FOS (w.alloc ob) S o v := h.below ((Below.refl _ _).alloc (Nat.le_refl _) _)
theorem FOS.drew (h : FOS w S o v) : FOS w.drew S o v := h.below (Below.refl _ _).drew
theorem FOS.fx {X : Nat → Prop} (h : FOS w S o v) (hf : Fx X w w') (hx : ∀ k, S k → ¬ X k) : FOS w' S o v := h.keepY fun k _ h0 h1 => hf.block k (blk_lt h1) (hx k h0)
theorem FOS.setS (h : FOS w S o v) {q i : Nat} (hq : ¬ S q) (u : Value) : FOS (w.setCell ⟨q, i, none⟩ u) S o v := h.keepY fun k _ h0 _ => Below.heap_setCell w ⟨q, i, none⟩ u k (by show k ≠ q; rintro rfl; exact hq h0)
theorem FOS.set (h : FO w b0 b1 o v) {q i : Nat} (hq : q < b0 ∨ b1 ≤ q) (u : Value) : FO (w.setCell ⟨q, i, none⟩ u) b0 b1 o v := FOS.setS h (by unfold Rg; omega) u
theorem FOS.setL {q i : Nat} {us : List Value} (h : FOS w S o v) (hq : ¬ S q) : FOS (Go.Proofs.YtjhicgllofjpoaaGreatDoor.setL w q i us) S o v := h.keepY fun k _ h0 _ => setL_heap (by rintro rfl; exact hq h0) us w i
theorem FOS.mv (q : Nat) (h : FOS w S o v) : FOS w S (mvO q o) { v with p := (q : Int) } := by
  cases o with
  | none => trivial
  | some x => exact FS.move q (show FS w 25 S x v.c from h)
end
end Go.Proofs.YtjhicgllofjpoaaGreatDoor
