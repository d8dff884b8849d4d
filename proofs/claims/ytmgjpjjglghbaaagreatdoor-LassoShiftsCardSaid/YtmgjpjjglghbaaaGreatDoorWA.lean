/-
  Expressions in memory; a reader of expressions. Ranks, depths and words of expressions, walked. What a reader of expressions is asked: contracts of the tokens' reader at it; what each kind tells.
-/
import Derived.Test.YtmgjpjjglghbaaaGreatDoorQQ
import Derived.Test.YtmgjpjjglghbaaaGreatDoorLC
import Derived.Test.YtmgjpjjglghbaaaGreatDoorMM
namespace Go.Proofs.YtmgjpjjglghbaaaGreatDoor
section
open Go.RowKit

theorem isT_isB (t : Tok) (x : List UInt8) : isB t x = isT t x := rfl

/-- Below B all is as it was, but for one block. -/
structure Fr (B rb : Nat) (w w' : World) : Prop where
  os : w'.os = w.os
  tape : w'.tape = w.tape
  output : w'.output = w.output
  size : w.heap.size ≤ w'.heap.size
  block : ∀ k, k < B → k ≠ rb → w'.heap[k]? = w.heap[k]?
section
variable {B B' rb : Nat} {a b c w w' : World}
theorem Fr.refl (B rb : Nat) (w : World) : Fr B rb w w := ⟨rfl, rfl, rfl, Nat.le_refl _, fun _ _ _ => rfl⟩
theorem Fr.trans (h : Fr B rb a b) (k : Fr B rb b c) : Fr B rb a c :=
  ⟨k.os.trans h.os, k.tape.trans h.tape, k.output.trans h.output, Nat.le_trans h.size k.size, fun i hi hn => (k.block i hi hn).trans (h.block i hi hn)⟩
theorem Fr.mono (h : Fr B rb w w') (hB : B' ≤ B) : Fr B' rb w w' := ⟨h.os, h.tape, h.output, h.size, fun k hk hn => h.block k (Nat.lt_of_lt_of_le hk hB) hn⟩
theorem Fr.of (h : Below B w w') : Fr B rb w w' := ⟨h.os, h.tape, h.output, h.size, fun k hk _ => h.block k hk⟩
theorem Fr.ofGrown (h : w.grownBy w' (some rb)) : Fr w.heap.size rb w w' := ⟨h.os, h.tape, h.output, h.size, fun k hk hn => h.block k hk (fun e => hn (by injection e))⟩
theorem Fr.below (h : Fr B rb w w') (hr : B ≤ rb) : Below B w w' := ⟨h.os, h.tape, h.output, h.size, fun k hk => h.block k hk (by omega)⟩
theorem Fr.drew (h : Fr B rb a w) : Fr B rb a w.drew := ⟨h.os, h.tape, h.output, h.size, h.block⟩
theorem Fr.drewN (h : Fr B rb a w) (n : Nat) : Fr B rb a (w.drewN n) := ⟨h.os, h.tape, h.output, h.size, h.block⟩
theorem Fr.alloc (h : Fr B rb a w) (hB : B ≤ w.heap.size) (o : Obj) : Fr B rb a (w.alloc o) :=
  h.trans (Fr.of ((Below.refl B w).alloc hB o))
theorem Fr.setCell (h : Fr B rb a w) {p : Addr} (hp : B ≤ p.block ∨ p.block = rb) (u : Value) : Fr B rb a (w.setCell p u) :=
  h.trans ⟨rfl, rfl, rfl, by simp, fun k hk hn => Below.heap_setCell w p u k (by rcases hp with hp | hp <;> omega)⟩
theorem Fr.on (h : Fr B rb a w) (hB : B ≤ w.heap.size) (k : Fr w.heap.size rb w w') : Fr B rb a w' := h.trans (k.mono hB)
theorem Fr.onB (h : Fr B rb a w) (hB : B ≤ w.heap.size) (k : Below w.heap.size w w') : Fr B rb a w' := h.on hB (Fr.of k)
theorem Fr.cell (h : Fr B rb w w') {p : Addr} (hp : p.block < B) (hn : p.block ≠ rb) : w'.cell? p = w.cell? p := World.cell?_of_block (w := w) (h.block p.block hp hn)
theorem Fr.frozen (h : Fr B rb w w') {p : Addr} (hp : p.block < B) (hn : p.block ≠ rb) : w'.frozen? p = w.frozen? p := World.frozen?_of_block (w := w) (h.block p.block hp hn)
end

/-- A block's first cells; in which blocks it may lie. -/
def Arr (w : World) (e : TypeId) (S : Nat → Prop) (g : Nat) (xs : List Value) : Prop :=
  S g ∧ ∃ cs : Array Value, w.heap[g]? = some (.cells cs e (0, 0)) ∧ ∀ (j : Nat) (u : Value), xs[j]? = some u → cs[j]? = some u
/-- An expression's five cells; its kids lie in blocks of S. -/
def HS (w : World) (e : TypeId) (S : Nat → Prop) : Ex → List Value → Prop
  | .leaf op nm n p, c => c = [strV op, strV nm, .int .i64 (n : Int), .slice none 0 0, .int .i64 (p : Int)]
  | .un op a p, c => ∃ g cap ca, c = [strV op, strV [], .int .i64 0, .slice (some ⟨g, 0, none⟩) 1 cap, .int .i64 (p : Int)] ∧ Arr w e S g ca ∧ HS w e S a ca
  | .bin op a b p, c => ∃ g cap ca cb, c = [strV op, strV [], .int .i64 0, .slice (some ⟨g, 0, none⟩) 2 cap, .int .i64 (p : Int)] ∧ Arr w e S g (ca ++ cb) ∧ HS w e S a ca ∧ HS w e S b cb
  | .cond a b d p, c => ∃ g cap ca cb cd, c = [strV [63], strV [], .int .i64 0, .slice (some ⟨g, 0, none⟩) 3 cap, .int .i64 (p : Int)] ∧ Arr w e S g (ca ++ (cb ++ cd)) ∧ HS w e S a ca ∧ HS w e S b cb ∧ HS w e S d cd
def Rg (b0 b1 k : Nat) : Prop := b0 ≤ k ∧ k < b1
abbrev HC (w : World) (e : TypeId) (b0 b1 : Nat) (x : Ex) (c : List Value) : Prop := HS w e (Rg b0 b1) x c
section
variable {w w' : World} {e : TypeId} {S T : Nat → Prop} {b0 b1 d0 d1 : Nat} {xs : List Value}
theorem blk_lt {w : World} {b : Nat} {o : Obj} (h : w.heap[b]? = some o) : b < w.heap.size := by
  rcases Nat.lt_or_ge b w.heap.size with hlt | hge
  · exact hlt
  · rw [Array.getElem?_eq_none hge] at h; cases h
theorem Arr.keep {g : Nat} (h : Arr w e S g xs) (hk : ∀ k, S k → k < w.heap.size → w'.heap[k]? = w.heap[k]?) : Arr w' e S g xs := by
  obtain ⟨h2, cs, h3, h4⟩ := h
  exact ⟨h2, cs, (hk _ h2 (blk_lt h3)).trans h3, h4⟩
theorem Arr.mono {g : Nat} (h : Arr w e S g xs) (hb : ∀ k, k < w.heap.size → S k → T k) : Arr w e T g xs := by
  obtain ⟨h2, cs, h3, h4⟩ := h
  exact ⟨hb _ (blk_lt h3) h2, cs, h3, h4⟩
theorem Arr.cell {g : Nat} (h : Arr w e S g xs) {j : Nat} {u : Value} (hu : xs[j]? = some u) : w.cell? ⟨g, j, none⟩ = some u := by
  obtain ⟨h2, cs, h3, h4⟩ := h
  rw [rd_cell h3]; exact h4 j u hu
theorem HS.keep (hk : ∀ k, S k → k < w.heap.size → w'.heap[k]? = w.heap[k]?) : ∀ {x : Ex} {c : List Value}, HS w e S x c → HS w' e S x c
  | .leaf _ _ _ _, _, h => h
  | .un _ _ _, _, ⟨ad, cap, ca, h1, h2, h3⟩ => ⟨ad, cap, ca, h1, h2.keep hk, HS.keep hk h3⟩
  | .bin _ _ _ _, _, ⟨ad, cap, ca, cb, h1, h2, h3, h4⟩ => ⟨ad, cap, ca, cb, h1, h2.keep hk, HS.keep hk h3, HS.keep hk h4⟩
  | .cond _ _ _ _, _, ⟨ad, cap, ca, cb, cd, h1, h2, h3, h4, h5⟩ => ⟨ad, cap, ca, cb, cd, h1, h2.keep hk, HS.keep hk h3, HS.keep hk h4, HS.keep hk h5⟩
theorem HS.wide (hb : ∀ k, k < w.heap.size → S k → T k) : ∀ {x : Ex} {c : List Value}, HS w e S x c → HS w e T x c
  | .leaf _ _ _ _, _, h => h
  | .un _ _ _, _, ⟨ad, cap, ca, h1, h2, h3⟩ => ⟨ad, cap, ca, h1, h2.mono hb, HS.wide hb h3⟩
  | .bin _ _ _ _, _, ⟨ad, cap, ca, cb, h1, h2, h3, h4⟩ => ⟨ad, cap, ca, cb, h1, h2.mono hb, HS.wide hb h3, HS.wide hb h4⟩
  | .cond _ _ _ _, _, ⟨ad, cap, ca, cb, cd, h1, h2, h3, h4, h5⟩ => ⟨ad, cap, ca, cb, cd, h1, h2.mono hb, HS.wide hb h3, HS.wide hb h4, HS.wide hb h5⟩
theorem HS.mono {x : Ex} {c : List Value} (hb : d0 ≤ b0) (hd : b1 ≤ d1) (h : HC w e b0 b1 x c) : HC w e d0 d1 x c := h.wide fun k _ hk => by unfold Rg at *; omega
theorem HS.below {x : Ex} {c : List Value} (h : HS w e S x c) (hb : Below w.heap.size w w') : HS w' e S x c := h.keep fun k _ hk => hb.block k hk
theorem HS.frS {rb : Nat} {x : Ex} {c : List Value} (h : HS w e S x c) (hb : Fr w.heap.size rb w w') (hr : ¬ S rb) : HS w' e S x c := h.keep fun k h0 hk => hb.block k hk (fun e => hr (e ▸ h0))
theorem HS.fr {rb : Nat} {x : Ex} {c : List Value} (h : HC w e b0 b1 x c) (hb : Fr w.heap.size rb w w') (hr : rb < b0) : HC w' e b0 b1 x c := h.frS hb (by unfold Rg; omega)
theorem HS.alloc {x : Ex} {c : List Value} (h : HS w e S x c) (o : Obj) : HS (w.alloc o) e S x c := h.below ((Below.refl _ _).alloc (Nat.le_refl _) _)
theorem HS.setCellS {x : Ex} {c : List Value} (h : HS w e S x c) {p : Addr} (hp : ¬ S p.block) (u : Value) : HS (w.setCell p u) e S x c :=
  h.keep fun k h0 _ => Below.heap_setCell w p u k (fun e => hp (e ▸ h0))
theorem HS.setCell {x : Ex} {c : List Value} (h : HC w e b0 b1 x c) {p : Addr} (hp : p.block < b0 ∨ b1 ≤ p.block) (u : Value) : HC (w.setCell p u) e b0 b1 x c := h.setCellS (by unfold Rg; omega) u
/-- The five cells, by name. -/
def exC (o nm : ByteArray) (n : Int) (A : Option Addr) (l cap : Nat) (p : Int) : List Value := [.string o, .string nm, .int .i64 n, .slice A l cap, .int .i64 p]
theorem HS.form : ∀ {x : Ex} {c : List Value}, HS w e S x c → ∃ nm n A l cap, c = exC ⟨x.op.toArray⟩ nm n A l cap (x.pos : Int)
  | .leaf _ _ _ _, _, h => ⟨_, _, _, _, _, h⟩
  | .un _ _ _, _, ⟨_, _, _, h1, _⟩ => ⟨_, _, _, _, _, h1⟩
  | .bin _ _ _ _, _, ⟨_, _, _, _, h1, _⟩ => ⟨_, _, _, _, _, h1⟩
  | .cond _ _ _ _, _, ⟨_, _, _, _, _, h1, _⟩ => ⟨_, _, _, _, _, h1⟩
theorem HS.move (q : Nat) : ∀ {x : Ex} {o nm : ByteArray} {n : Int} {A : Option Addr} {l cap : Nat} {p : Int}, HS w e S x (exC o nm n A l cap p) → HS w e S (x.move q) (exC o nm n A l cap (q : Int))
  | .leaf op nm n p, _, _, _, _, _, _, _, h => by
    simp only [HS, exC, List.cons.injEq] at h
    simp only [HS, exC, Ex.move, h]
  | .un _ _ _, _, _, _, _, _, _, _, ⟨ad, cap, ca, h1, h2⟩ => by
    simp only [exC, List.cons.injEq] at h1
    exact ⟨ad, cap, ca, by simp only [exC, h1], h2⟩
  | .bin _ _ _ _, _, _, _, _, _, _, _, ⟨ad, cap, ca, cb, h1, h2⟩ => by
    simp only [exC, List.cons.injEq] at h1
    exact ⟨ad, cap, ca, cb, by simp only [exC, h1], h2⟩
  | .cond _ _ _ _, _, _, _, _, _, _, _, ⟨ad, cap, ca, cb, cd, h1, h2⟩ => by
    simp only [exC, List.cons.injEq] at h1
    exact ⟨ad, cap, ca, cb, cd, by simp only [exC, h1], h2⟩
end

section
variable {w w' : World} {xb rb lv : Nat} {us : List Tok}
/-- A store elsewhere: to a block of the call's own. -/
theorem RD.set {ts : List Tok} {k b i : Nat} (h : RD w rb ts k) {cs : Array Value} {e : TypeId} (hb : w.heap[b]? = some (.cells cs e (0, 0))) (h1 : e ≠ 150) (h2 : e ≠ 152) (u : Value) : RD (w.setCell ⟨b, i, none⟩ u) rb ts k := by
  obtain ⟨g, cap, q1, q2, q3, q4⟩ := h
  have hrb : rb ≠ b := by
    rintro rfl
    rw [q1] at hb
    injection hb with hb
    injection hb with _ hb
    exact h1 hb.symm
  have hg : g ≠ b := by
    rintro rfl
    rcases q2.2 with ⟨hx, _⟩ | ⟨g', _, cur, hx, _, hh, _⟩
    · cases hx
    · injection hx with hx
      injection hx with hx
      injection hx with hx
      subst hx
      rw [hb] at hh
      injection hh with hh
      injection hh with _ hh
      exact h2 hh
  have hgr : w.grownBy (w.setCell ⟨b, i, none⟩ u) (some b) := ⟨rfl, rfl, rfl, by simp, fun k _ hn => Below.heap_setCell w ⟨b, i, none⟩ u k (fun e => hn (by rw [e]))⟩
  refine ⟨g, cap, (Below.heap_setCell w ⟨b, i, none⟩ u rb hrb).trans q1, q2.kept hgr (.inr ?_), q3, q4⟩
  intro e
  exact hg (by simpa [Value.ownBlock] using e)
theorem glob_keep (h : GlobS w) (h0 : w'.heap[0]? = w.heap[0]?) (h1 : w'.heap[2]? = w.heap[2]?) : GlobS w' := by
  refine ⟨⟨(World.cell?_of_block (w := w) h0).trans h.glob.err⟩, ?_⟩
  obtain ⟨te, pe, he⟩ := h.rng
  exact ⟨te, pe, (World.cell?_of_block (w := w) h1).trans he⟩
end

section
variable {w w' : World} {b : Nat} {c0 c1 c2 c3 c4 : Value}
theorem blk_set {w : World} {b i : Nat} {cs : Array Value} {e : TypeId} (h : w.heap[b]? = some (.cells cs e (0, 0))) (u : Value) : (w.setCell ⟨b, i, none⟩ u).heap[b]? = some (.cells (cs.setIfInBounds i u) e (0, 0)) := by
  simp [World.setCell, Array.getElem?_modify, h]
theorem Fr.set5 {B rb : Nat} {a : World} (h : Fr B rb a w) (hb : B ≤ b) (x0 x1 x2 x3 x4 : Value) : Fr B rb a (((((w.setCell ⟨b, 0, none⟩ x0).setCell ⟨b, 1, none⟩ x1).setCell ⟨b, 2, none⟩ x2).setCell ⟨b, 3, none⟩ x3).setCell ⟨b, 4, none⟩ x4) :=
  ((((h.setCell (p := ⟨b, 0, none⟩) (.inl hb) _).setCell (p := ⟨b, 1, none⟩) (.inl hb) _).setCell (p := ⟨b, 2, none⟩) (.inl hb) _).setCell (p := ⟨b, 3, none⟩) (.inl hb) _).setCell (p := ⟨b, 4, none⟩) (.inl hb) _
theorem HS.far5S {e : TypeId} {S : Nat → Prop} {x : Ex} {c : List Value} (h : HS w e S x c) (hb : ¬ S b) (x0 x1 x2 x3 x4 : Value) : HS (((((w.setCell ⟨b, 0, none⟩ x0).setCell ⟨b, 1, none⟩ x1).setCell ⟨b, 2, none⟩ x2).setCell ⟨b, 3, none⟩ x3).setCell ⟨b, 4, none⟩ x4) e S x c :=
  ((((h.setCellS (p := ⟨b, 0, none⟩) hb _).setCellS (p := ⟨b, 1, none⟩) hb _).setCellS (p := ⟨b, 2, none⟩) hb _).setCellS (p := ⟨b, 3, none⟩) hb _).setCellS (p := ⟨b, 4, none⟩) hb _
theorem HS.far5 {e : TypeId} {b0 b1 : Nat} {x : Ex} {c : List Value} (h : HC w e b0 b1 x c) (hb : b < b0 ∨ b1 ≤ b) (x0 x1 x2 x3 x4 : Value) : HC (((((w.setCell ⟨b, 0, none⟩ x0).setCell ⟨b, 1, none⟩ x1).setCell ⟨b, 2, none⟩ x2).setCell ⟨b, 3, none⟩ x3).setCell ⟨b, 4, none⟩ x4) e b0 b1 x c :=
  h.far5S (by unfold Rg; omega) _ _ _ _ _
end
/-- The world of a call under a new name, with what is known of it. -/
theorem calls_gen {P : World → Prop} {f : FuncId} {args : Array Value} {W : World} {Q : Ending → World → Prop} (h : P W) (k : ∀ W, P W → Calls Tryz.prog f args W Q) : Calls Tryz.prog f args W Q := k W h
end
section
open Go.RowKit

theorem to_bytesX (x : ByteArray) (l : List UInt8) (h : x.data.toList = l) : x = ⟨l.toArray⟩ := by rw [← h]
def RkP (x : List UInt8) (w : World) (e : Ending) (w' : World) : Prop := e = .returned (.int .i64 (rk x : Int)) ∧ w = w'
end
section
open Go.RowKit

section
variable {w : World} {xb rb lv : Nat} {us : List Tok}
end

theorem AtE.keep {w w' : World} {b : Nat} {p n : Int} (h : AtE w b p n) (hk : w'.heap[b]? = w.heap[b]?) : AtE w' b p n :=
  ⟨(World.cell?_of_block (w := w) hk).trans h.pos, (World.cell?_of_block (w := w) hk).trans h.err, h.typ.imp fun _ q => hk.trans q⟩
end
end Go.Proofs.YtmgjpjjglghbaaaGreatDoor
