/-
  Expressions in memory; a reader of expressions. Ranks, depths and words of expressions, walked. What a reader of expressions is asked: contracts of the tokens' reader at it; what each kind tells.
-/
import Derived.Test.YtodijgndbjfbgaaGreatDoorQQ
import Derived.Test.YtodijgndbjfbgaaGreatDoorLC
import Derived.Test.YtodijgndbjfbgaaGreatDoorMM
namespace Go.Proofs.YtodijgndbjfbgaaGreatDoor
section
open Go.RowKit

theorem isT_isB (t : Tok) (x : List UInt8) : isB t x = isT t x := rfl

/-- Below B all is as it was, but for one block. -/
structure Fr (B rb : Nat) (w w' : World) : Prop where
  os : w'.os = w.os
  tape : w'.tape = w.tape
  output : w'.output = w.output
  size : w.heap.size ≤ w'.heap.size
  block : ∀ k, k < B → k ≠ rb → w'.heap[k]? = w.heap[k]?
section
variable {B B' rb : Nat} {a b c w w' : World}
theorem Fr.refl (B rb : Nat) (w : World) : Fr B rb w w := ⟨rfl, rfl, rfl, Nat.le_refl _, fun _ _ _ => rfl⟩
theorem Fr.trans (h : Fr B rb a b) (k : Fr B rb b c) : Fr B rb a c :=
  ⟨k.os.trans h.os, k.tape.trans h.tape, k.output.trans h.output, Nat.le_trans h.size k.size, fun i hi hn => (k.block i hi hn).trans (h.block i hi hn)⟩
theorem Fr.mono (h : Fr B rb w w') (hB : B' ≤ B) : Fr B' rb w w' := ⟨h.os, h.tape, h.output, h.size, fun k hk hn => h.block k (Nat.lt_of_lt_of_le hk hB) hn⟩
theorem Fr.of (h : Below B w w') : Fr B rb w w' := ⟨h.os, h.tape, h.output, h.size, fun k hk _ => h.block k hk⟩
theorem Fr.ofGrown (h : w.grownBy w' (some rb)) : Fr w.heap.size rb w w' := ⟨h.os, h.tape, h.output, h.size, fun k hk hn => h.block k hk (fun e => hn (by injection e))⟩
theorem Fr.below (h : Fr B rb w w') (hr : B ≤ rb) : Below B w w' := ⟨h.os, h.tape, h.output, h.size, fun k hk => h.block k hk (by omega)⟩
theorem Fr.drew (h : Fr B rb a w) : Fr B rb a w.drew := ⟨h.os, h.tape, h.output, h.size, h.block⟩
theorem Fr.drewN (h : Fr B rb a w) (n : Nat) : Fr B rb a (w.drewN n) := ⟨h.os, h.tape, h.output, h.size, h.block⟩
theorem Fr.alloc (h : Fr B rb a w) (hB : B ≤ w.heap.size) (o : Obj) : Fr B rb a (w.alloc o) :=
  h.trans (Fr.of ((Below.refl B w).alloc hB o))
theorem Fr.setCell (h : Fr B rb a w) {p : Addr} (hp : B ≤ p.block ∨ p.block = rb) (u : Value) : Fr B rb a (w.setCell p u) :=
  h.trans ⟨rfl, rfl, rfl, by simp, fun k hk hn => Below.heap_setCell w p u k (by rcases hp with hp | hp <;> omega)⟩
theorem Fr.on (h : Fr B rb a w) (hB : B ≤ w.heap.size) (k : Fr w.heap.size rb w w') : Fr B rb a w' := h.trans (k.mono hB)
theorem Fr.onB (h : Fr B rb a w) (hB : B ≤ w.heap.size) (k : Below w.heap.size w w') : Fr B rb a w' := h.on hB (Fr.of k)
theorem Fr.cell (h : Fr B rb w w') {p : Addr} (hp : p.block < B) (hn : p.block ≠ rb) : w'.cell? p = w.cell? p := World.cell?_of_block (w := w) (h.block p.block hp hn)
theorem Fr.frozen (h : Fr B rb w w') {p : Addr} (hp : p.block < B) (hn : p.block ≠ rb) : w'.frozen? p = w.frozen? p := World.frozen?_of_block (w := w) (h.block p.block hp hn)
end

/-- A block's first cells; in which blocks it may lie. -/
def Arr (w : World) (e : TypeId) (S : Nat → Prop) (g : Nat) (xs : List Value) : Prop :=
  S g ∧ ∃ cs : Array Value, w.heap[g]? = some (.cells cs e (0, 0)) ∧ ∀ (j : Nat) (u : Value), xs[j]? = some u → cs[j]? = some u
/-- An expression's five cells; its kids lie in blocks of S. -/
def HS (w : World) (e : TypeId) (S : Nat → Prop) : Ex → List Value → Prop
  | .leaf op nm n p, c => c = [strV op, strV nm, .int .i64 (n : Int), .slice none 0 0, .int .i64 (p : Int)]
  | .un op a p, c => ∃ g cap ca, c = [strV op, strV [], .int .i64 0, .slice (some ⟨g, 0, none⟩) 1 cap, .int .i64 (p : Int)] ∧ Arr w e S g ca ∧ HS w e S a ca
  | .bin op a b p, c => ∃ g cap ca cb, c = [strV op, strV [], .int .i64 0, .slice (some ⟨g, 0, none⟩) 2 cap, .int .i64 (p : Int)] ∧ Arr w e S g (ca ++ cb) ∧ HS w e S a ca ∧ HS w e S b cb
  | .cond a b d p, c => ∃ g cap ca cb cd, c = [strV [63], strV [], .int .i64 0, .slice (some ⟨g, 0, none⟩) 3 cap, .int .i64 (p : Int)] ∧ Arr w e S g (ca ++ (cb ++ cd)) ∧ HS w e S a ca ∧ HS w e S b cb ∧ HS w e S d cd
def Rg (b0 b1 k : Nat) : Prop := b0 ≤ k ∧ k < b1
abbrev HC (w : World) (e : TypeId) (b0 b1 : Nat) (x : Ex) (c : List Value) : Prop := HS w e (Rg b0 b1) x c
section
variable {w w' : World} {e : TypeId} {S T : Nat → Prop} {b0 b1 d0 d1 : Nat} {xs : List Value}
theorem blk_lt {w : World} {b : Nat} {o : Obj} (h : w.heap[b]? = some o) : b < w.heap.size := by
  rcases Nat.lt_or_ge b w.heap.size with hlt | hge
  · exact hlt
  · rw [Array.getElem?_eq_none hge] at h; cases h
theorem Arr.keep {g : Nat} (h : Arr w e S g xs) (hk : ∀ k, S k → k < w.heap.size → w'.heap[k]? = w.heap[k]?) : Arr w' e S g xs := by
  obtain ⟨h2, cs, h3, h4⟩ := h
  exact ⟨h2, cs, (hk _ h2 (blk_lt h3)).trans h3, h4⟩
theorem Arr.mono {g : Nat} (h : Arr w e S g xs) (hb : ∀ k, k < w.heap.size → S k → T k) : Arr w e T g xs := by
  obtain ⟨h2, cs, h3, h4⟩ := h
  exact ⟨hb _ (blk_lt h3) h2, cs, h3, h4⟩
theorem Arr.cell {g : Nat} (h : Arr w e S g xs) {j : Nat} {u : Value} (hu : xs[j]? = some u) : w.cell? ⟨g, j, none⟩ = some u := by
  obtain ⟨h2, cs, h3, h4⟩ := h
  rw [rd_cell h3]; exact h4 j u hu
theorem HS.keep (hk : ∀ k, S k → k < w.heap.size → w'.heap[k]? = w.heap[k]?) : ∀ {x : Ex} {c : List Value}, HS w e S x c → HS w' e S x c
  | .leaf _ _ _ _, _, h => h
  | .un _ _ _, _, ⟨ad, cap, ca, h1, h2, h3⟩ => ⟨ad, cap, ca, h1, h2.keep hk, HS.keep hk h3⟩
  | .bin _ _ _ _, _, ⟨ad, cap, ca, cb, h1, h2, h3, h4⟩ => ⟨ad, cap, ca, cb, h1, h2.keep hk, HS.keep hk h3, HS.keep hk h4⟩
  | .cond _ _ _ _, _, ⟨ad, cap, ca, cb, cd, h1, h2, h3, h4, h5⟩ => ⟨ad, cap, ca, cb, cd, h1, h2.keep hk, HS.keep hk h3, HS.keep hk h4, HS.keep hk h5⟩
theorem HS.wide (hb : ∀ k, k < w.heap.size → S k → T k) : ∀ {x : Ex} {c : List Value}, HS w e S x c → HS w e T x c
  | .leaf _ _ _ _, _, h => h
  | .un _ _ _, _, ⟨ad, cap, ca, h1, h2, h3⟩ => ⟨ad, cap, ca, h1, h2.mono hb, HS.wide hb h3⟩
  | .bin _ _ _ _, _, ⟨ad, cap, ca, cb, h1, h2, h3, h4⟩ => ⟨ad, cap, ca, cb, h1, h2.mono hb, HS.wide hb h3, HS.wide hb h4⟩
  | .cond _ _ _ _, _, ⟨ad, cap, ca, cb, cd, h1, h2, h3, h4, h5⟩ => ⟨ad, cap, ca, cb, cd, h1, h2.mono hb, HS.wide hb h3, HS.wide hb h4, HS.wide hb h5⟩
theorem HS.mono {x : Ex} {c : List Value} (hb : d0 ≤ b0) (hd : b1 ≤ d1) (h : HC w e b0 b1 x c) : HC w e d0 d1 x c := h.wide fun k _ hk => by unfold Rg at *; omega
theorem HS.below {x : Ex} {c : List Value} (h : HS w e S x c) (hb : Below w.heap.size w w') : HS w' e S x c := h.keep fun k _ hk => hb.block k hk
theorem HS.frS {rb : Nat} {x : Ex} {c : List Value} (h : HS w e S x c) (hb : Fr w.heap.size rb w w') (hr : ¬ S rb) : HS w' e S x c := h.keep fun k h0 hk => hb.block k hk (fun e => hr (e ▸ h0))
theorem HS.fr {rb : Nat} {x : Ex} {c : List Value} (h : HC w e b0 b1 x c) (hb : Fr w.heap.size rb w w') (hr : rb < b0) : HC w' e b0 b1 x c := h.frS hb (by unfold Rg; omega)
theorem HS.alloc {x : Ex} {c : List Value} (h : HS w e S x c) (o : Obj) : HS (w.alloc o) e S x c := h.below ((Below.refl _ _).alloc (Nat.le_refl _) _)
theorem HS.setCellS {x : Ex} {c : List Value} (h : HS w e S x c) {p : Addr} (hp : ¬ S p.block) (u : Value) : HS (w.setCell p u) e S x c :=
  h.keep fun k h0 _ => Below.heap_setCell w p u k (fun e => hp (e ▸ h0))
theorem HS.setCell {x : Ex} {c : List Value} (h : HC w e b0 b1 x c) {p : Addr} (hp : p.block < b0 ∨ b1 ≤ p.block) (u : Value) : HC (w.setCell p u) e b0 b1 x c := h.setCellS (by unfold Rg; omega) u
/-- The five cells, by name. -/
def exC (o nm : ByteArray) (n : Int) (A : Option Addr) (l cap : Nat) (p : Int) : List Value := [.string o, .string nm, .int .i64 n, .slice A l cap, .int .i64 p]
theorem HS.form : ∀ {x : Ex} {c : List Value}, HS w e S x c → ∃ nm n A l cap, c = exC ⟨x.op.toArray⟩ nm n A l cap (x.pos : Int)
  | .leaf _ _ _ _, _, h => ⟨_, _, _, _, _, h⟩
  | .un _ _ _, _, ⟨_, _, _, h1, _⟩ => ⟨_, _, _, _, _, h1⟩
  | .bin _ _ _ _, _, ⟨_, _, _, _, h1, _⟩ => ⟨_, _, _, _, _, h1⟩
  | .cond _ _ _ _, _, ⟨_, _, _, _, _, h1, _⟩ => ⟨_, _, _, _, _, h1⟩
theorem HS.move (q : Nat) : ∀ {x : Ex} {o nm : ByteArray} {n : Int} {A : Option Addr} {l cap : Nat} {p : Int}, HS w e S x (exC o nm n A l cap p) → HS w e S (x.move q) (exC o nm n A l cap (q : Int))
  | .leaf op nm n p, _, _, _, _, _, _, _, h => by
    simp only [HS, exC, List.cons.injEq] at h
    simp only [HS, exC, Ex.move, h]
  | .un _ _ _, _, _, _, _, _, _, _, ⟨ad, cap, ca, h1, h2⟩ => by
    simp only [exC, List.cons.injEq] at h1
    exact ⟨ad, cap, ca, by simp only [exC, h1], h2⟩
  | .bin _ _ _ _, _, _, _, _, _, _, _, ⟨ad, cap, ca, cb, h1, h2⟩ => by
    simp only [exC, List.cons.injEq] at h1
    exact ⟨ad, cap, ca, cb, by simp only [exC, h1], h2⟩
  | .cond _ _ _ _, _, _, _, _, _, _, _, ⟨ad, cap, ca, cb, cd, h1, h2⟩ => by
    simp only [exC, List.cons.injEq] at h1
    exact ⟨ad, cap, ca, cb, cd, by simp only [exC, h1], h2⟩
end

/-- A reader of expressions in memory, at the tokens that are left. -/
structure XR (w : World) (xb rb : Nat) (us : List Tok) (lv : Nat) : Prop where
  rd : ∃ ts k, us = ts.drop k ∧ RD w rb ts k
  fine : Fine us
  blk : w.heap[xb]? = some (.cells #[.pointer (some ⟨rb, 0, none⟩), .int .i64 (lv : Int)] 246 (0, 0))
  glob : GlobS w
  lv64 : lv ≤ 64
  hi : 0 < rb ∧ 3 < rb ∧ 0 < xb ∧ 3 < xb
section
variable {w w' : World} {xb rb lv : Nat} {us : List Tok}
theorem XR.get (h : XR w xb rb us lv) : ∃ ts k, us = ts.drop k ∧ RD w rb ts k ∧ ts[k]? = some (hd us) ∧ ((hd us).kind ≠ 0 → k + 1 < ts.length) := by
  obtain ⟨ts, k, h1, h2⟩ := h.rd
  have hk : k < ts.length := by obtain ⟨_, _, _, _, h3, _⟩ := h2; exact h3
  have hf := h.fine
  refine ⟨ts, k, h1, h2, ?_, fun h0 => ?_⟩
  · rw [h1, List.drop_eq_getElem_cons hk, List.getElem?_eq_getElem hk]; rfl
  · have hm := (hf.more h0).2
    rw [h1, List.tail_drop] at hm
    have : k + 1 < ts.length := by
      apply Classical.byContradiction
      intro hx
      exact hm (List.drop_eq_nil_of_le (by omega))
    exact this
theorem XR.ne (h : XR w xb rb us lv) : xb ≠ rb := by
  rintro rfl
  obtain ⟨ts, k, _, g, cap, h1, _⟩ := h.rd
  rw [h.blk] at h1
  injection h1 with h1
  injection h1 with _ h1
  exact absurd h1 (by decide)
theorem XR.ltx (h : XR w xb rb us lv) : xb < w.heap.size := blk_lt h.blk
theorem XR.ltr (h : XR w xb rb us lv) : rb < w.heap.size := by
  obtain ⟨ts, k, _, h1⟩ := h.rd
  exact h1.lt
theorem XR.below (h : XR w xb rb us lv) (hb : Below w.heap.size w w') : XR w' xb rb us lv := by
  refine ⟨?_, h.fine, (hb.block xb h.ltx).trans h.blk, h.glob.below hb, h.lv64, h.hi⟩
  obtain ⟨ts, k, h1, h2⟩ := h.rd
  exact ⟨ts, k, h1, h2.below hb⟩
theorem XR.alloc (h : XR w xb rb us lv) (o : Obj) : XR (w.alloc o) xb rb us lv := h.below ((Below.refl _ _).alloc (Nat.le_refl _) _)
theorem XR.drew (h : XR w xb rb us lv) : XR w.drew xb rb us lv := h.below (Below.refl _ _).drew
theorem XR.drewN (h : XR w xb rb us lv) (n : Nat) : XR (w.drewN n) xb rb us lv := h.below (below_drewN (Below.refl _ _) n)
/-- A store elsewhere: to a block of the call's own. -/
theorem RD.set {ts : List Tok} {k b i : Nat} (h : RD w rb ts k) {cs : Array Value} {e : TypeId} (hb : w.heap[b]? = some (.cells cs e (0, 0))) (h1 : e ≠ 127) (h2 : e ≠ 46) (u : Value) : RD (w.setCell ⟨b, i, none⟩ u) rb ts k := by
  obtain ⟨g, cap, q1, q2, q3, q4⟩ := h
  have hrb : rb ≠ b := by
    rintro rfl
    rw [q1] at hb
    injection hb with hb
    injection hb with _ hb
    exact h1 hb.symm
  have hg : g ≠ b := by
    rintro rfl
    rcases q2.2 with ⟨hx, _⟩ | ⟨g', _, cur, hx, _, hh, _⟩
    · cases hx
    · injection hx with hx
      injection hx with hx
      injection hx with hx
      subst hx
      rw [hb] at hh
      injection hh with hh
      injection hh with _ hh
      exact h2 hh
  have hgr : w.grownBy (w.setCell ⟨b, i, none⟩ u) (some b) := ⟨rfl, rfl, rfl, by simp, fun k _ hn => Below.heap_setCell w ⟨b, i, none⟩ u k (fun e => hn (by rw [e]))⟩
  refine ⟨g, cap, (Below.heap_setCell w ⟨b, i, none⟩ u rb hrb).trans q1, q2.kept hgr (.inr ?_), q3, q4⟩
  intro e
  exact hg (by simpa [Value.ownBlock] using e)
theorem glob_keep (h : GlobS w) (h0 : w'.heap[0]? = w.heap[0]?) (h1 : w'.heap[3]? = w.heap[3]?) : GlobS w' := by
  refine ⟨⟨(World.cell?_of_block (w := w) h0).trans h.glob.err⟩, ?_⟩
  obtain ⟨te, pe, he⟩ := h.rng
  exact ⟨te, pe, (World.cell?_of_block (w := w) h1).trans he⟩
/-- A store to a block of the call's own. -/
theorem XR.set {b i : Nat} (h : XR w xb rb us lv) {cs : Array Value} (hb : w.heap[b]? = some (.cells cs 57 (0, 0))) (hl : 3 < b ∧ 0 < b) (u : Value) : XR (w.setCell ⟨b, i, none⟩ u) xb rb us lv := by
  have hx : xb ≠ b := by
    rintro rfl
    rw [h.blk] at hb
    injection hb with hb
    injection hb with _ hb
    exact absurd hb (by decide)
  refine ⟨?_, h.fine, (Below.heap_setCell w ⟨b, i, none⟩ u xb hx).trans h.blk, ?_, h.lv64, h.hi⟩
  · obtain ⟨ts, k, h1, h2⟩ := h.rd
    exact ⟨ts, k, h1, h2.set hb (by decide) (by decide) u⟩
  · exact glob_keep h.glob (Below.heap_setCell w ⟨b, i, none⟩ u 0 (by show 0 ≠ b; omega)) (Below.heap_setCell w ⟨b, i, none⟩ u 3 (by show 3 ≠ b; omega))
/-- The tokens' reader has gone on. -/
theorem XR.step {ts : List Tok} {k : Nat} (h : XR w xb rb us lv) (hR : RD w' rb ts k) (hf : Fine (ts.drop k)) (hb : Fr w.heap.size rb w w') : XR w' xb rb (ts.drop k) lv := by
  refine ⟨⟨ts, k, rfl, hR⟩, hf, (hb.block xb h.ltx h.ne).trans h.blk, ?_, h.lv64, h.hi⟩
  have h0 := World.block_lt_of_cell? w _ h.glob.glob.err
  obtain ⟨te, pe, he⟩ := h.glob.rng
  have h1 := World.block_lt_of_cell? w _ he
  exact glob_keep h.glob (hb.block 0 h0 (by have := h.hi; omega)) (hb.block 3 h1 (by have := h.hi; omega))
end

/-- A struct's box of the call's own. -/
def Box (w : World) (b : Nat) (c0 c1 c2 c3 c4 : Value) : Prop := w.heap[b]? = some (.cells #[c0, c1, c2, c3, c4] 57 (0, 0))
section
variable {w w' : World} {b : Nat} {c0 c1 c2 c3 c4 : Value}
theorem Box.lt (h : Box w b c0 c1 c2 c3 c4) : b < w.heap.size := blk_lt h
theorem Box.cells (h : Box w b c0 c1 c2 c3 c4) : w.cell? ⟨b, 0, none⟩ = some c0 ∧ w.cell? ⟨b, 1, none⟩ = some c1 ∧ w.cell? ⟨b, 2, none⟩ = some c2 ∧ w.cell? ⟨b, 3, none⟩ = some c3 ∧ w.cell? ⟨b, 4, none⟩ = some c4 :=
  ⟨(rd_cell h 0).trans rfl, (rd_cell h 1).trans rfl, (rd_cell h 2).trans rfl, (rd_cell h 3).trans rfl, (rd_cell h 4).trans rfl⟩
theorem Box.frozen (h : Box w b c0 c1 c2 c3 c4) : w.frozen? ⟨b, 0, none⟩ = false ∧ w.frozen? ⟨b, 1, none⟩ = false ∧ w.frozen? ⟨b, 2, none⟩ = false ∧ w.frozen? ⟨b, 3, none⟩ = false ∧ w.frozen? ⟨b, 4, none⟩ = false :=
  ⟨rd_frozen h 0, rd_frozen h 1, rd_frozen h 2, rd_frozen h 3, rd_frozen h 4⟩
theorem Box.new (w : World) (c0 c1 c2 c3 c4 : Value) : Box (w.alloc (.cells #[c0, c1, c2, c3, c4] 57)) w.heap.size c0 c1 c2 c3 c4 := heap_alloc_new w _
theorem Box.below (h : Box w b c0 c1 c2 c3 c4) (hb : Below w.heap.size w w') : Box w' b c0 c1 c2 c3 c4 := (hb.block b h.lt).trans h
theorem Box.alloc (h : Box w b c0 c1 c2 c3 c4) (o : Obj) : Box (w.alloc o) b c0 c1 c2 c3 c4 := h.below ((Below.refl _ _).alloc (Nat.le_refl _) _)
theorem Box.fr {rb : Nat} (h : Box w b c0 c1 c2 c3 c4) (hb : Fr w.heap.size rb w w') (hr : b ≠ rb) : Box w' b c0 c1 c2 c3 c4 := (hb.block b h.lt hr).trans h
theorem Box.far (h : Box w b c0 c1 c2 c3 c4) {p : Addr} (hp : b ≠ p.block) (u : Value) : Box (w.setCell p u) b c0 c1 c2 c3 c4 := (Below.heap_setCell w p u b hp).trans h
theorem blk_set {w : World} {b i : Nat} {cs : Array Value} {e : TypeId} (h : w.heap[b]? = some (.cells cs e (0, 0))) (u : Value) : (w.setCell ⟨b, i, none⟩ u).heap[b]? = some (.cells (cs.setIfInBounds i u) e (0, 0)) := by
  simp [World.setCell, Array.getElem?_modify, h]
theorem Box.set4 (h : Box w b c0 c1 c2 c3 c4) (u : Value) : Box (w.setCell ⟨b, 4, none⟩ u) b c0 c1 c2 c3 u := by
  have := blk_set (i := 4) h u; simpa [Box] using this
theorem Box.set5 (h : Box w b c0 c1 c2 c3 c4) (x0 x1 x2 x3 x4 : Value) : Box (((((w.setCell ⟨b, 0, none⟩ x0).setCell ⟨b, 1, none⟩ x1).setCell ⟨b, 2, none⟩ x2).setCell ⟨b, 3, none⟩ x3).setCell ⟨b, 4, none⟩ x4) b x0 x1 x2 x3 x4 := by
  have h0 := blk_set (i := 0) h x0
  have h1 := blk_set (i := 1) h0 x1
  have h2 := blk_set (i := 2) h1 x2
  have h3 := blk_set (i := 3) h2 x3
  have h4 := blk_set (i := 4) h3 x4
  simpa [Box] using h4
theorem Box.far5 {b' : Nat} (h : Box w b c0 c1 c2 c3 c4) (hp : b ≠ b') (x0 x1 x2 x3 x4 : Value) : Box (((((w.setCell ⟨b', 0, none⟩ x0).setCell ⟨b', 1, none⟩ x1).setCell ⟨b', 2, none⟩ x2).setCell ⟨b', 3, none⟩ x3).setCell ⟨b', 4, none⟩ x4) b c0 c1 c2 c3 c4 :=
  ((((h.far (p := ⟨b', 0, none⟩) hp _).far (p := ⟨b', 1, none⟩) hp _).far (p := ⟨b', 2, none⟩) hp _).far (p := ⟨b', 3, none⟩) hp _).far (p := ⟨b', 4, none⟩) hp _
theorem XR.set5 {xb rb lv : Nat} {us : List Tok} (h : XR w xb rb us lv) (hb : Box w b c0 c1 c2 c3 c4) (hl : rb < b) (x0 x1 x2 x3 x4 : Value) : XR (((((w.setCell ⟨b, 0, none⟩ x0).setCell ⟨b, 1, none⟩ x1).setCell ⟨b, 2, none⟩ x2).setCell ⟨b, 3, none⟩ x3).setCell ⟨b, 4, none⟩ x4) xb rb us lv := by
  have hl : 3 < b ∧ 0 < b := by have := h.hi; omega
  have h0 := blk_set (i := 0) hb x0
  have h1 := blk_set (i := 1) h0 x1
  have h2 := blk_set (i := 2) h1 x2
  have h3 := blk_set (i := 3) h2 x3
  exact ((((h.set hb hl x0).set h0 hl x1).set h1 hl x2).set h2 hl x3).set h3 hl x4
theorem Fr.set5 {B rb : Nat} {a : World} (h : Fr B rb a w) (hb : B ≤ b) (x0 x1 x2 x3 x4 : Value) : Fr B rb a (((((w.setCell ⟨b, 0, none⟩ x0).setCell ⟨b, 1, none⟩ x1).setCell ⟨b, 2, none⟩ x2).setCell ⟨b, 3, none⟩ x3).setCell ⟨b, 4, none⟩ x4) :=
  ((((h.setCell (p := ⟨b, 0, none⟩) (.inl hb) _).setCell (p := ⟨b, 1, none⟩) (.inl hb) _).setCell (p := ⟨b, 2, none⟩) (.inl hb) _).setCell (p := ⟨b, 3, none⟩) (.inl hb) _).setCell (p := ⟨b, 4, none⟩) (.inl hb) _
theorem HS.far5S {e : TypeId} {S : Nat → Prop} {x : Ex} {c : List Value} (h : HS w e S x c) (hb : ¬ S b) (x0 x1 x2 x3 x4 : Value) : HS (((((w.setCell ⟨b, 0, none⟩ x0).setCell ⟨b, 1, none⟩ x1).setCell ⟨b, 2, none⟩ x2).setCell ⟨b, 3, none⟩ x3).setCell ⟨b, 4, none⟩ x4) e S x c :=
  ((((h.setCellS (p := ⟨b, 0, none⟩) hb _).setCellS (p := ⟨b, 1, none⟩) hb _).setCellS (p := ⟨b, 2, none⟩) hb _).setCellS (p := ⟨b, 3, none⟩) hb _).setCellS (p := ⟨b, 4, none⟩) hb _
theorem HS.far5 {e : TypeId} {b0 b1 : Nat} {x : Ex} {c : List Value} (h : HC w e b0 b1 x c) (hb : b < b0 ∨ b1 ≤ b) (x0 x1 x2 x3 x4 : Value) : HC (((((w.setCell ⟨b, 0, none⟩ x0).setCell ⟨b, 1, none⟩ x1).setCell ⟨b, 2, none⟩ x2).setCell ⟨b, 3, none⟩ x3).setCell ⟨b, 4, none⟩ x4) e b0 b1 x c :=
  h.far5S (by unfold Rg; omega) _ _ _ _ _
end
/-- The world of a call under a new name, with what is known of it. -/
theorem calls_gen {P : World → Prop} {f : FuncId} {args : Array Value} {W : World} {Q : Ending → World → Prop} (h : P W) (k : ∀ W, P W → Calls Tryz.prog f args W Q) : Calls Tryz.prog f args W Q := k W h
end
section
open Go.RowKit

theorem isdepth_any (n : Int) (w : World) : Calls Tryz.prog 158 #[.int .i64 n] w fun e w' => e = .returned (.bool (decide (1 ≤ n) && decide (n ≤ 64))) ∧ w = w' := by
  by_cases h1 : 1 ≤ n
  · have g1 : decide (1 ≤ n) = true := by simpa using h1
    rw [g1]
    go_enter Tryz.func158, Tryz.ntmps158
    go_wp2
    go_ret
    exact ⟨by simp, rfl⟩
  · have g1 : decide (1 ≤ n) = false := by simpa using h1
    rw [g1]
    go_enter Tryz.func158, Tryz.ntmps158
    go_wp2
    go_ret
    exact ⟨by simp, rfl⟩
theorem to_bytesX (x : ByteArray) (l : List UInt8) (h : x.data.toList = l) : x = ⟨l.toArray⟩ := by rw [← h]
def RkP (x : List UInt8) (w : World) (e : Ending) (w' : World) : Prop := e = .returned (.int .i64 (rk x : Int)) ∧ w = w'
theorem rankof_any (s : ByteArray) (w : World) : Calls Tryz.prog 135 #[.string s] w (RkP s.data.toList w) := by
  rw [← ByteArray.toList_eq]
  by_cases h0 : s.toList = [63]
  · have h := h0
    clear h0
    have g0 : (s.toList == [63]) = true := by rw [h]; rfl
    have g1 : (s.toList == [61, 62]) = false := by rw [h]; rfl
    have g2 : (s.toList == [124]) = false := by rw [h]; rfl
    have g3 : (s.toList == [38]) = false := by rw [h]; rfl
    have g4 : (s.toList == [33]) = false := by rw [h]; rfl
    have g5 : (s.toList == [61]) = false := by rw [h]; rfl
    have g6 : (s.toList == [33, 61]) = false := by rw [h]; rfl
    have g7 : (s.toList == [60]) = false := by rw [h]; rfl
    have g8 : (s.toList == [60, 61]) = false := by rw [h]; rfl
    have g9 : (s.toList == [62]) = false := by rw [h]; rfl
    have g10 : (s.toList == [62, 61]) = false := by rw [h]; rfl
    have g11 : (s.toList == [43]) = false := by rw [h]; rfl
    have g12 : (s.toList == [45]) = false := by rw [h]; rfl
    have g13 : (s.toList == [42]) = false := by rw [h]; rfl
    have g14 : (s.toList == [110, 101, 103]) = false := by rw [h]; rfl
    have HK := Lib.hid (show (0 : Int) = (rk s.toList : Int) by rw [h]; rfl)
    clear h
    go_enter Tryz.func135, Tryz.ntmps135
    go_wp2
    go_ret
    exact ⟨ret_int HK.out, rfl⟩
  by_cases h1 : s.toList = [61, 62]
  · have h := h1
    clear h1 h0
    have g0 : (s.toList == [63]) = false := by rw [h]; rfl
    have g1 : (s.toList == [61, 62]) = true := by rw [h]; rfl
    have g2 : (s.toList == [124]) = false := by rw [h]; rfl
    have g3 : (s.toList == [38]) = false := by rw [h]; rfl
    have g4 : (s.toList == [33]) = false := by rw [h]; rfl
    have g5 : (s.toList == [61]) = false := by rw [h]; rfl
    have g6 : (s.toList == [33, 61]) = false := by rw [h]; rfl
    have g7 : (s.toList == [60]) = false := by rw [h]; rfl
    have g8 : (s.toList == [60, 61]) = false := by rw [h]; rfl
    have g9 : (s.toList == [62]) = false := by rw [h]; rfl
    have g10 : (s.toList == [62, 61]) = false := by rw [h]; rfl
    have g11 : (s.toList == [43]) = false := by rw [h]; rfl
    have g12 : (s.toList == [45]) = false := by rw [h]; rfl
    have g13 : (s.toList == [42]) = false := by rw [h]; rfl
    have g14 : (s.toList == [110, 101, 103]) = false := by rw [h]; rfl
    have HK := Lib.hid (show (1 : Int) = (rk s.toList : Int) by rw [h]; rfl)
    clear h
    go_enter Tryz.func135, Tryz.ntmps135
    go_wp2
    go_ret
    exact ⟨ret_int HK.out, rfl⟩
  by_cases h2 : s.toList = [124]
  · have h := h2
    clear h2 h1 h0
    have g0 : (s.toList == [63]) = false := by rw [h]; rfl
    have g1 : (s.toList == [61, 62]) = false := by rw [h]; rfl
    have g2 : (s.toList == [124]) = true := by rw [h]; rfl
    have g3 : (s.toList == [38]) = false := by rw [h]; rfl
    have g4 : (s.toList == [33]) = false := by rw [h]; rfl
    have g5 : (s.toList == [61]) = false := by rw [h]; rfl
    have g6 : (s.toList == [33, 61]) = false := by rw [h]; rfl
    have g7 : (s.toList == [60]) = false := by rw [h]; rfl
    have g8 : (s.toList == [60, 61]) = false := by rw [h]; rfl
    have g9 : (s.toList == [62]) = false := by rw [h]; rfl
    have g10 : (s.toList == [62, 61]) = false := by rw [h]; rfl
    have g11 : (s.toList == [43]) = false := by rw [h]; rfl
    have g12 : (s.toList == [45]) = false := by rw [h]; rfl
    have g13 : (s.toList == [42]) = false := by rw [h]; rfl
    have g14 : (s.toList == [110, 101, 103]) = false := by rw [h]; rfl
    have HK := Lib.hid (show (2 : Int) = (rk s.toList : Int) by rw [h]; rfl)
    clear h
    go_enter Tryz.func135, Tryz.ntmps135
    go_wp2
    go_ret
    exact ⟨ret_int HK.out, rfl⟩
  by_cases h3 : s.toList = [38]
  · have h := h3
    clear h3 h2 h1 h0
    have g0 : (s.toList == [63]) = false := by rw [h]; rfl
    have g1 : (s.toList == [61, 62]) = false := by rw [h]; rfl
    have g2 : (s.toList == [124]) = false := by rw [h]; rfl
    have g3 : (s.toList == [38]) = true := by rw [h]; rfl
    have g4 : (s.toList == [33]) = false := by rw [h]; rfl
    have g5 : (s.toList == [61]) = false := by rw [h]; rfl
    have g6 : (s.toList == [33, 61]) = false := by rw [h]; rfl
    have g7 : (s.toList == [60]) = false := by rw [h]; rfl
    have g8 : (s.toList == [60, 61]) = false := by rw [h]; rfl
    have g9 : (s.toList == [62]) = false := by rw [h]; rfl
    have g10 : (s.toList == [62, 61]) = false := by rw [h]; rfl
    have g11 : (s.toList == [43]) = false := by rw [h]; rfl
    have g12 : (s.toList == [45]) = false := by rw [h]; rfl
    have g13 : (s.toList == [42]) = false := by rw [h]; rfl
    have g14 : (s.toList == [110, 101, 103]) = false := by rw [h]; rfl
    have HK := Lib.hid (show (3 : Int) = (rk s.toList : Int) by rw [h]; rfl)
    clear h
    go_enter Tryz.func135, Tryz.ntmps135
    go_wp2
    go_ret
    exact ⟨ret_int HK.out, rfl⟩
  by_cases h4 : s.toList = [33]
  · have h := h4
    clear h4 h3 h2 h1 h0
    have g0 : (s.toList == [63]) = false := by rw [h]; rfl
    have g1 : (s.toList == [61, 62]) = false := by rw [h]; rfl
    have g2 : (s.toList == [124]) = false := by rw [h]; rfl
    have g3 : (s.toList == [38]) = false := by rw [h]; rfl
    have g4 : (s.toList == [33]) = true := by rw [h]; rfl
    have g5 : (s.toList == [61]) = false := by rw [h]; rfl
    have g6 : (s.toList == [33, 61]) = false := by rw [h]; rfl
    have g7 : (s.toList == [60]) = false := by rw [h]; rfl
    have g8 : (s.toList == [60, 61]) = false := by rw [h]; rfl
    have g9 : (s.toList == [62]) = false := by rw [h]; rfl
    have g10 : (s.toList == [62, 61]) = false := by rw [h]; rfl
    have g11 : (s.toList == [43]) = false := by rw [h]; rfl
    have g12 : (s.toList == [45]) = false := by rw [h]; rfl
    have g13 : (s.toList == [42]) = false := by rw [h]; rfl
    have g14 : (s.toList == [110, 101, 103]) = false := by rw [h]; rfl
    have HK := Lib.hid (show (4 : Int) = (rk s.toList : Int) by rw [h]; rfl)
    clear h
    go_enter Tryz.func135, Tryz.ntmps135
    go_wp2
    go_ret
    exact ⟨ret_int HK.out, rfl⟩
  by_cases h5 : s.toList = [61]
  · have h := h5
    clear h5 h4 h3 h2 h1 h0
    have g0 : (s.toList == [63]) = false := by rw [h]; rfl
    have g1 : (s.toList == [61, 62]) = false := by rw [h]; rfl
    have g2 : (s.toList == [124]) = false := by rw [h]; rfl
    have g3 : (s.toList == [38]) = false := by rw [h]; rfl
    have g4 : (s.toList == [33]) = false := by rw [h]; rfl
    have g5 : (s.toList == [61]) = true := by rw [h]; rfl
    have g6 : (s.toList == [33, 61]) = false := by rw [h]; rfl
    have g7 : (s.toList == [60]) = false := by rw [h]; rfl
    have g8 : (s.toList == [60, 61]) = false := by rw [h]; rfl
    have g9 : (s.toList == [62]) = false := by rw [h]; rfl
    have g10 : (s.toList == [62, 61]) = false := by rw [h]; rfl
    have g11 : (s.toList == [43]) = false := by rw [h]; rfl
    have g12 : (s.toList == [45]) = false := by rw [h]; rfl
    have g13 : (s.toList == [42]) = false := by rw [h]; rfl
    have g14 : (s.toList == [110, 101, 103]) = false := by rw [h]; rfl
    have HK := Lib.hid (show (5 : Int) = (rk s.toList : Int) by rw [h]; rfl)
    clear h
    go_enter Tryz.func135, Tryz.ntmps135
    go_wp2
    go_ret
    exact ⟨ret_int HK.out, rfl⟩
  by_cases h6 : s.toList = [33, 61]
  · have h := h6
    clear h6 h5 h4 h3 h2 h1 h0
    have g0 : (s.toList == [63]) = false := by rw [h]; rfl
    have g1 : (s.toList == [61, 62]) = false := by rw [h]; rfl
    have g2 : (s.toList == [124]) = false := by rw [h]; rfl
    have g3 : (s.toList == [38]) = false := by rw [h]; rfl
    have g4 : (s.toList == [33]) = false := by rw [h]; rfl
    have g5 : (s.toList == [61]) = false := by rw [h]; rfl
    have g6 : (s.toList == [33, 61]) = true := by rw [h]; rfl
    have g7 : (s.toList == [60]) = false := by rw [h]; rfl
    have g8 : (s.toList == [60, 61]) = false := by rw [h]; rfl
    have g9 : (s.toList == [62]) = false := by rw [h]; rfl
    have g10 : (s.toList == [62, 61]) = false := by rw [h]; rfl
    have g11 : (s.toList == [43]) = false := by rw [h]; rfl
    have g12 : (s.toList == [45]) = false := by rw [h]; rfl
    have g13 : (s.toList == [42]) = false := by rw [h]; rfl
    have g14 : (s.toList == [110, 101, 103]) = false := by rw [h]; rfl
    have HK := Lib.hid (show (5 : Int) = (rk s.toList : Int) by rw [h]; rfl)
    clear h
    go_enter Tryz.func135, Tryz.ntmps135
    go_wp2
    go_ret
    exact ⟨ret_int HK.out, rfl⟩
  by_cases h7 : s.toList = [60]
  · have h := h7
    clear h7 h6 h5 h4 h3 h2 h1 h0
    have g0 : (s.toList == [63]) = false := by rw [h]; rfl
    have g1 : (s.toList == [61, 62]) = false := by rw [h]; rfl
    have g2 : (s.toList == [124]) = false := by rw [h]; rfl
    have g3 : (s.toList == [38]) = false := by rw [h]; rfl
    have g4 : (s.toList == [33]) = false := by rw [h]; rfl
    have g5 : (s.toList == [61]) = false := by rw [h]; rfl
    have g6 : (s.toList == [33, 61]) = false := by rw [h]; rfl
    have g7 : (s.toList == [60]) = true := by rw [h]; rfl
    have g8 : (s.toList == [60, 61]) = false := by rw [h]; rfl
    have g9 : (s.toList == [62]) = false := by rw [h]; rfl
    have g10 : (s.toList == [62, 61]) = false := by rw [h]; rfl
    have g11 : (s.toList == [43]) = false := by rw [h]; rfl
    have g12 : (s.toList == [45]) = false := by rw [h]; rfl
    have g13 : (s.toList == [42]) = false := by rw [h]; rfl
    have g14 : (s.toList == [110, 101, 103]) = false := by rw [h]; rfl
    have HK := Lib.hid (show (5 : Int) = (rk s.toList : Int) by rw [h]; rfl)
    clear h
    go_enter Tryz.func135, Tryz.ntmps135
    go_wp2
    go_ret
    exact ⟨ret_int HK.out, rfl⟩
  by_cases h8 : s.toList = [60, 61]
  · have h := h8
    clear h8 h7 h6 h5 h4 h3 h2 h1 h0
    have g0 : (s.toList == [63]) = false := by rw [h]; rfl
    have g1 : (s.toList == [61, 62]) = false := by rw [h]; rfl
    have g2 : (s.toList == [124]) = false := by rw [h]; rfl
    have g3 : (s.toList == [38]) = false := by rw [h]; rfl
    have g4 : (s.toList == [33]) = false := by rw [h]; rfl
    have g5 : (s.toList == [61]) = false := by rw [h]; rfl
    have g6 : (s.toList == [33, 61]) = false := by rw [h]; rfl
    have g7 : (s.toList == [60]) = false := by rw [h]; rfl
    have g8 : (s.toList == [60, 61]) = true := by rw [h]; rfl
    have g9 : (s.toList == [62]) = false := by rw [h]; rfl
    have g10 : (s.toList == [62, 61]) = false := by rw [h]; rfl
    have g11 : (s.toList == [43]) = false := by rw [h]; rfl
    have g12 : (s.toList == [45]) = false := by rw [h]; rfl
    have g13 : (s.toList == [42]) = false := by rw [h]; rfl
    have g14 : (s.toList == [110, 101, 103]) = false := by rw [h]; rfl
    have HK := Lib.hid (show (5 : Int) = (rk s.toList : Int) by rw [h]; rfl)
    clear h
    go_enter Tryz.func135, Tryz.ntmps135
    go_wp2
    go_ret
    exact ⟨ret_int HK.out, rfl⟩
  by_cases h9 : s.toList = [62]
  · have h := h9
    clear h9 h8 h7 h6 h5 h4 h3 h2 h1 h0
    have g0 : (s.toList == [63]) = false := by rw [h]; rfl
    have g1 : (s.toList == [61, 62]) = false := by rw [h]; rfl
    have g2 : (s.toList == [124]) = false := by rw [h]; rfl
    have g3 : (s.toList == [38]) = false := by rw [h]; rfl
    have g4 : (s.toList == [33]) = false := by rw [h]; rfl
    have g5 : (s.toList == [61]) = false := by rw [h]; rfl
    have g6 : (s.toList == [33, 61]) = false := by rw [h]; rfl
    have g7 : (s.toList == [60]) = false := by rw [h]; rfl
    have g8 : (s.toList == [60, 61]) = false := by rw [h]; rfl
    have g9 : (s.toList == [62]) = true := by rw [h]; rfl
    have g10 : (s.toList == [62, 61]) = false := by rw [h]; rfl
    have g11 : (s.toList == [43]) = false := by rw [h]; rfl
    have g12 : (s.toList == [45]) = false := by rw [h]; rfl
    have g13 : (s.toList == [42]) = false := by rw [h]; rfl
    have g14 : (s.toList == [110, 101, 103]) = false := by rw [h]; rfl
    have HK := Lib.hid (show (5 : Int) = (rk s.toList : Int) by rw [h]; rfl)
    clear h
    go_enter Tryz.func135, Tryz.ntmps135
    go_wp2
    go_ret
    exact ⟨ret_int HK.out, rfl⟩
  by_cases h10 : s.toList = [62, 61]
  · have h := h10
    clear h10 h9 h8 h7 h6 h5 h4 h3 h2 h1 h0
    have g0 : (s.toList == [63]) = false := by rw [h]; rfl
    have g1 : (s.toList == [61, 62]) = false := by rw [h]; rfl
    have g2 : (s.toList == [124]) = false := by rw [h]; rfl
    have g3 : (s.toList == [38]) = false := by rw [h]; rfl
    have g4 : (s.toList == [33]) = false := by rw [h]; rfl
    have g5 : (s.toList == [61]) = false := by rw [h]; rfl
    have g6 : (s.toList == [33, 61]) = false := by rw [h]; rfl
    have g7 : (s.toList == [60]) = false := by rw [h]; rfl
    have g8 : (s.toList == [60, 61]) = false := by rw [h]; rfl
    have g9 : (s.toList == [62]) = false := by rw [h]; rfl
    have g10 : (s.toList == [62, 61]) = true := by rw [h]; rfl
    have g11 : (s.toList == [43]) = false := by rw [h]; rfl
    have g12 : (s.toList == [45]) = false := by rw [h]; rfl
    have g13 : (s.toList == [42]) = false := by rw [h]; rfl
    have g14 : (s.toList == [110, 101, 103]) = false := by rw [h]; rfl
    have HK := Lib.hid (show (5 : Int) = (rk s.toList : Int) by rw [h]; rfl)
    clear h
    go_enter Tryz.func135, Tryz.ntmps135
    go_wp2
    go_ret
    exact ⟨ret_int HK.out, rfl⟩
  by_cases h11 : s.toList = [43]
  · have h := h11
    clear h11 h10 h9 h8 h7 h6 h5 h4 h3 h2 h1 h0
    have g0 : (s.toList == [63]) = false := by rw [h]; rfl
    have g1 : (s.toList == [61, 62]) = false := by rw [h]; rfl
    have g2 : (s.toList == [124]) = false := by rw [h]; rfl
    have g3 : (s.toList == [38]) = false := by rw [h]; rfl
    have g4 : (s.toList == [33]) = false := by rw [h]; rfl
    have g5 : (s.toList == [61]) = false := by rw [h]; rfl
    have g6 : (s.toList == [33, 61]) = false := by rw [h]; rfl
    have g7 : (s.toList == [60]) = false := by rw [h]; rfl
    have g8 : (s.toList == [60, 61]) = false := by rw [h]; rfl
    have g9 : (s.toList == [62]) = false := by rw [h]; rfl
    have g10 : (s.toList == [62, 61]) = false := by rw [h]; rfl
    have g11 : (s.toList == [43]) = true := by rw [h]; rfl
    have g12 : (s.toList == [45]) = false := by rw [h]; rfl
    have g13 : (s.toList == [42]) = false := by rw [h]; rfl
    have g14 : (s.toList == [110, 101, 103]) = false := by rw [h]; rfl
    have HK := Lib.hid (show (6 : Int) = (rk s.toList : Int) by rw [h]; rfl)
    clear h
    go_enter Tryz.func135, Tryz.ntmps135
    go_wp2
    go_ret
    exact ⟨ret_int HK.out, rfl⟩
  by_cases h12 : s.toList = [45]
  · have h := h12
    clear h12 h11 h10 h9 h8 h7 h6 h5 h4 h3 h2 h1 h0
    have g0 : (s.toList == [63]) = false := by rw [h]; rfl
    have g1 : (s.toList == [61, 62]) = false := by rw [h]; rfl
    have g2 : (s.toList == [124]) = false := by rw [h]; rfl
    have g3 : (s.toList == [38]) = false := by rw [h]; rfl
    have g4 : (s.toList == [33]) = false := by rw [h]; rfl
    have g5 : (s.toList == [61]) = false := by rw [h]; rfl
    have g6 : (s.toList == [33, 61]) = false := by rw [h]; rfl
    have g7 : (s.toList == [60]) = false := by rw [h]; rfl
    have g8 : (s.toList == [60, 61]) = false := by rw [h]; rfl
    have g9 : (s.toList == [62]) = false := by rw [h]; rfl
    have g10 : (s.toList == [62, 61]) = false := by rw [h]; rfl
    have g11 : (s.toList == [43]) = false := by rw [h]; rfl
    have g12 : (s.toList == [45]) = true := by rw [h]; rfl
    have g13 : (s.toList == [42]) = false := by rw [h]; rfl
    have g14 : (s.toList == [110, 101, 103]) = false := by rw [h]; rfl
    have HK := Lib.hid (show (6 : Int) = (rk s.toList : Int) by rw [h]; rfl)
    clear h
    go_enter Tryz.func135, Tryz.ntmps135
    go_wp2
    go_ret
    exact ⟨ret_int HK.out, rfl⟩
  by_cases h13 : s.toList = [42]
  · have h := h13
    clear h13 h12 h11 h10 h9 h8 h7 h6 h5 h4 h3 h2 h1 h0
    have g0 : (s.toList == [63]) = false := by rw [h]; rfl
    have g1 : (s.toList == [61, 62]) = false := by rw [h]; rfl
    have g2 : (s.toList == [124]) = false := by rw [h]; rfl
    have g3 : (s.toList == [38]) = false := by rw [h]; rfl
    have g4 : (s.toList == [33]) = false := by rw [h]; rfl
    have g5 : (s.toList == [61]) = false := by rw [h]; rfl
    have g6 : (s.toList == [33, 61]) = false := by rw [h]; rfl
    have g7 : (s.toList == [60]) = false := by rw [h]; rfl
    have g8 : (s.toList == [60, 61]) = false := by rw [h]; rfl
    have g9 : (s.toList == [62]) = false := by rw [h]; rfl
    have g10 : (s.toList == [62, 61]) = false := by rw [h]; rfl
    have g11 : (s.toList == [43]) = false := by rw [h]; rfl
    have g12 : (s.toList == [45]) = false := by rw [h]; rfl
    have g13 : (s.toList == [42]) = true := by rw [h]; rfl
    have g14 : (s.toList == [110, 101, 103]) = false := by rw [h]; rfl
    have HK := Lib.hid (show (7 : Int) = (rk s.toList : Int) by rw [h]; rfl)
    clear h
    go_enter Tryz.func135, Tryz.ntmps135
    go_wp2
    go_ret
    exact ⟨ret_int HK.out, rfl⟩
  by_cases h14 : s.toList = [110, 101, 103]
  · have h := h14
    clear h14 h13 h12 h11 h10 h9 h8 h7 h6 h5 h4 h3 h2 h1 h0
    have g0 : (s.toList == [63]) = false := by rw [h]; rfl
    have g1 : (s.toList == [61, 62]) = false := by rw [h]; rfl
    have g2 : (s.toList == [124]) = false := by rw [h]; rfl
    have g3 : (s.toList == [38]) = false := by rw [h]; rfl
    have g4 : (s.toList == [33]) = false := by rw [h]; rfl
    have g5 : (s.toList == [61]) = false := by rw [h]; rfl
    have g6 : (s.toList == [33, 61]) = false := by rw [h]; rfl
    have g7 : (s.toList == [60]) = false := by rw [h]; rfl
    have g8 : (s.toList == [60, 61]) = false := by rw [h]; rfl
    have g9 : (s.toList == [62]) = false := by rw [h]; rfl
    have g10 : (s.toList == [62, 61]) = false := by rw [h]; rfl
    have g11 : (s.toList == [43]) = false := by rw [h]; rfl
    have g12 : (s.toList == [45]) = false := by rw [h]; rfl
    have g13 : (s.toList == [42]) = false := by rw [h]; rfl
    have g14 : (s.toList == [110, 101, 103]) = true := by rw [h]; rfl
    have HK := Lib.hid (show (8 : Int) = (rk s.toList : Int) by rw [h]; rfl)
    clear h
    go_enter Tryz.func135, Tryz.ntmps135
    go_wp2
    go_ret
    exact ⟨ret_int HK.out, rfl⟩
  have g0 : (s.toList == [63]) = false := by simpa using h0
  have g1 : (s.toList == [61, 62]) = false := by simpa using h1
  have g2 : (s.toList == [124]) = false := by simpa using h2
  have g3 : (s.toList == [38]) = false := by simpa using h3
  have g4 : (s.toList == [33]) = false := by simpa using h4
  have g5 : (s.toList == [61]) = false := by simpa using h5
  have g6 : (s.toList == [33, 61]) = false := by simpa using h6
  have g7 : (s.toList == [60]) = false := by simpa using h7
  have g8 : (s.toList == [60, 61]) = false := by simpa using h8
  have g9 : (s.toList == [62]) = false := by simpa using h9
  have g10 : (s.toList == [62, 61]) = false := by simpa using h10
  have g11 : (s.toList == [43]) = false := by simpa using h11
  have g12 : (s.toList == [45]) = false := by simpa using h12
  have g13 : (s.toList == [42]) = false := by simpa using h13
  have g14 : (s.toList == [110, 101, 103]) = false := by simpa using h14
  have HK := Lib.hid (show (9 : Int) = (rk s.toList : Int) by simp [rk, cmpB, h0, h1, h2, h3, h4, h5, h6, h7, h8, h9, h10, h11, h12, h13, h14])
  clear h0 h1 h2 h3 h4 h5 h6 h7 h8 h9 h10 h11 h12 h13 h14
  go_enter Tryz.func135, Tryz.ntmps135
  go_wp2
  go_ret
  exact ⟨ret_int HK.out, rfl⟩
theorem word_any (s : ByteArray) (p : Nat) (w : World) : Calls Tryz.prog 187 #[.string s, .int .i64 (p : Int)] w fun e w' => ∃ c, e = .returned (.agg c.toArray) ∧ HC w' 57 w.heap.size w'.heap.size (wordX s.data.toList p) c ∧ Below w.heap.size w w' := by
  by_cases h0 : s.data.toList = [116, 114, 117, 101]
  · have hs : s = ⟨#[116, 114, 117, 101]⟩ := to_bytesX s _ h0
    subst hs
    clear h0
    go_enter Tryz.func187, Tryz.ntmps187
    go_wp2
    exact bodyPost_ret (v := .agg (exC ⟨#[116, 114, 117, 101]⟩ ⟨#[]⟩ 0 none 0 0 p).toArray) (by simp [results, Tryz.results187, go_sem, exC]) rfl ⟨_, rfl, rfl, ((Below.refl _ _).alloc (Nat.le_refl _) _)⟩
  by_cases h1 : s.data.toList = [102, 97, 108, 115, 101]
  · have hs : s = ⟨#[102, 97, 108, 115, 101]⟩ := to_bytesX s _ h1
    subst hs
    clear h1 h0
    go_enter Tryz.func187, Tryz.ntmps187
    go_wp2
    exact bodyPost_ret (v := .agg (exC ⟨#[102, 97, 108, 115, 101]⟩ ⟨#[]⟩ 0 none 0 0 p).toArray) (by simp [results, Tryz.results187, go_sem, exC]) rfl ⟨_, rfl, rfl, ((Below.refl _ _).alloc (Nat.le_refl _) _)⟩
  have g0 : (s.toList == [116, 114, 117, 101]) = false := by simpa [ByteArray.toList_eq] using h0
  have g1 : (s.toList == [102, 97, 108, 115, 101]) = false := by simpa [ByteArray.toList_eq] using h1
  have HW := Lib.hid (show HC w 57 w.heap.size w.heap.size (wordX s.data.toList p) (exC ⟨#[110, 97, 109, 101]⟩ s 0 none 0 0 p) by
    simp [wordX, opTrue, opFalse, h0, h1, HS, exC, strV, opName])
  clear h0 h1
  go_enter Tryz.func187, Tryz.ntmps187
  go_wp2
  exact bodyPost_ret (v := .agg (exC ⟨#[110, 97, 109, 101]⟩ s 0 none 0 0 p).toArray) (by simp [results, Tryz.results187, go_sem, exC]) rfl ⟨_, rfl, (HW.out.below ((Below.refl _ _).alloc (Nat.le_refl _) _)).mono (Nat.le_refl _) (by simp), ((Below.refl _ _).alloc (Nat.le_refl _) _)⟩
end
section
open Go.RowKit

/-- What each kind's method tells. -/
def PP (xb rb lv : Nat) (res : PR) (w : World) (e : Ending) (w' : World) : Prop :=
  match res with
  | .ok x r => ∃ o nm n A l cap p, e = .returned (.tuple #[.agg #[.string o, .string nm, .int .i64 n, .slice A l cap, .int .i64 p], .nilIface]) ∧ HC w' 57 w.heap.size w'.heap.size x (exC o nm n A l cap p) ∧ XR w' xb rb r lv ∧ Fr w.heap.size rb w w'
  | .er c q => ∃ b, e = .returned (.tuple #[.agg #[.string ⟨#[]⟩, .string ⟨#[]⟩, .int .i64 0, .slice none 0 0, .int .i64 0], .iface 101 (.pointer (some ⟨b, 0, none⟩))]) ∧ w.heap.size ≤ b ∧ AtE w' b q c ∧ Fr w.heap.size rb w w'
/-- A method that reads so. -/
def RC (f : FuncId) (F : List Tok → PR) (lv : Nat) : Prop := ∀ xb rb w us, XR w xb rb us lv → Calls Tryz.prog f #[.pointer (some ⟨xb, 0, none⟩)] w (PP xb rb lv (F us) w)

section
variable {w : World} {xb rb lv : Nat} {us : List Tok}
theorem XR.cells (h : XR w xb rb us lv) : w.cell? ⟨xb, 0, none⟩ = some (.pointer (some ⟨rb, 0, none⟩)) ∧ w.cell? ⟨xb, 1, none⟩ = some (.int .i64 (lv : Int)) ∧ w.frozen? ⟨xb, 1, none⟩ = false :=
  ⟨(rd_cell h.blk 0).trans rfl, (rd_cell h.blk 1).trans rfl, rd_frozen h.blk 1⟩
theorem XR.peek (h : XR w xb rb us lv) : Calls Tryz.prog 45 #[.pointer (some ⟨rb, 0, none⟩)] w fun e w' => e = .returned (.agg #[.int .i64 (hd us).kind, .string ⟨(hd us).text.toArray⟩, .int .i64 (hd us).pos]) ∧ Below w.heap.size w w' := by
  obtain ⟨ts, k, h1, h2, h3, h4⟩ := h.get
  exact peek_at h2 h3
theorem XR.is_ (h : XR w xb rb us lv) (x : ByteArray) : Calls Tryz.prog 77 #[.pointer (some ⟨rb, 0, none⟩), .string x] w fun e w' => e = .returned (.bool (isT (hd us) x.data.toList)) ∧ Below w.heap.size w w' := by
  obtain ⟨ts, k, h1, h2, h3, h4⟩ := h.get
  exact is_any x (peeks_at h2 h3)
theorem XR.skip_no (h : XR w xb rb us lv) (x : ByteArray) (hi : isT (hd us) x.data.toList = false) : Calls Tryz.prog 101 #[.pointer (some ⟨rb, 0, none⟩), .string x] w fun e w' => e = .returned (.bool false) ∧ Below w.heap.size w w' := by
  obtain ⟨ts, k, h1, h2, h3, h4⟩ := h.get
  exact Go.Proofs.YtodijgndbjfbgaaGreatDoor.skip_no x (peeks_at h2 h3) hi
theorem XR.on (h : XR w xb rb us lv) {ts : List Tok} {k : Nat} {w' : World} (h1 : us = ts.drop k) (h0 : (hd us).kind ≠ 0) (hR : RD w' rb ts (k + 1)) (hg : w.grownBy w' (some rb)) : XR w' xb rb us.tail lv ∧ Fr w.heap.size rb w w' := by
  have hf := (h.fine.more h0).1
  have e : us.tail = ts.drop (k + 1) := by rw [h1, List.tail_drop]
  rw [e] at hf ⊢
  exact ⟨h.step hR hf (Fr.ofGrown hg), Fr.ofGrown hg⟩
theorem XR.skip_yes (h : XR w xb rb us lv) (x : ByteArray) (hi : isT (hd us) x.data.toList = true) : Calls Tryz.prog 101 #[.pointer (some ⟨rb, 0, none⟩), .string x] w fun e w' => e = .returned (.bool true) ∧ XR w' xb rb us.tail lv ∧ Fr w.heap.size rb w w' := by
  obtain ⟨ts, k, h1, h2, h3, h4⟩ := h.get
  have h0 := isT_kind hi
  exact (Go.Proofs.YtodijgndbjfbgaaGreatDoor.skip_yes x h2 h3 hi (h4 h0)).mono fun _ _ ⟨he, hR, hg⟩ => ⟨he, h.on h1 h0 hR hg⟩
theorem XR.want_no (h : XR w xb rb us lv) (x : ByteArray) (hi : isT (hd us) x.data.toList = false) : Calls Tryz.prog 76 #[.pointer (some ⟨rb, 0, none⟩), .string x] w fun e w' => ∃ b, e = .returned (.iface 101 (.pointer (some ⟨b, 0, none⟩))) ∧ w.heap.size ≤ b ∧ AtE w' b (hd us).pos 20 ∧ Below w.heap.size w w' := by
  obtain ⟨ts, k, h1, h2, h3, h4⟩ := h.get
  exact Go.Proofs.YtodijgndbjfbgaaGreatDoor.want_no x (peeks_at h2 h3) hi
theorem XR.want_yes (h : XR w xb rb us lv) (x : ByteArray) (hi : isT (hd us) x.data.toList = true) : Calls Tryz.prog 76 #[.pointer (some ⟨rb, 0, none⟩), .string x] w fun e w' => e = .returned .nilIface ∧ XR w' xb rb us.tail lv ∧ Fr w.heap.size rb w w' := by
  obtain ⟨ts, k, h1, h2, h3, h4⟩ := h.get
  have h0 := isT_kind hi
  exact (Go.Proofs.YtodijgndbjfbgaaGreatDoor.want_yes x h2 h3 hi (h4 h0)).mono fun _ _ ⟨he, hR, hg⟩ => ⟨he, h.on h1 h0 hR hg⟩
theorem XR.take (h : XR w xb rb us lv) (h0 : (hd us).kind ≠ 0) : Calls Tryz.prog 123 #[.pointer (some ⟨rb, 0, none⟩)] w fun e w' => e = .returned (.agg #[.int .i64 (hd us).kind, .string ⟨(hd us).text.toArray⟩, .int .i64 (hd us).pos]) ∧ XR w' xb rb us.tail lv ∧ Fr w.heap.size rb w w' := by
  obtain ⟨ts, k, h1, h2, h3, h4⟩ := h.get
  exact (take_on h2 h3 h0 (h4 h0)).mono fun _ _ ⟨he, hR, hg⟩ => ⟨he, h.on h1 h0 hR hg⟩
theorem XR.name_no (h : XR w xb rb us lv) (hk : (hd us).kind ≠ 1) : Calls Tryz.prog 186 #[.pointer (some ⟨rb, 0, none⟩)] w fun e w' => ∃ b, e = .returned (.tuple #[.string ⟨#[]⟩, .iface 101 (.pointer (some ⟨b, 0, none⟩))]) ∧ w.heap.size ≤ b ∧ AtE w' b (hd us).pos 20 ∧ Below w.heap.size w w' := by
  obtain ⟨ts, k, h1, h2, h3, h4⟩ := h.get
  exact Go.Proofs.YtodijgndbjfbgaaGreatDoor.name_no (peeks_at h2 h3) hk
theorem XR.name_yes (h : XR w xb rb us lv) (hk : (hd us).kind = 1) : Calls Tryz.prog 186 #[.pointer (some ⟨rb, 0, none⟩)] w fun e w' => e = .returned (.tuple #[.string ⟨(hd us).text.toArray⟩, .nilIface]) ∧ XR w' xb rb us.tail lv ∧ Fr w.heap.size rb w w' := by
  obtain ⟨ts, k, h1, h2, h3, h4⟩ := h.get
  have h0 : (hd us).kind ≠ 0 := by omega
  exact (Go.Proofs.YtodijgndbjfbgaaGreatDoor.name_yes h2 h3 hk (h4 h0)).mono fun _ _ ⟨he, hR, hg⟩ => ⟨he, h.on h1 h0 hR hg⟩
theorem XR.number_no (h : XR w xb rb us lv) (hk : (hd us).kind ≠ 2) : Calls Tryz.prog 161 #[.pointer (some ⟨rb, 0, none⟩)] w fun e w' => ∃ b, e = .returned (.tuple #[.int .i64 0, .iface 101 (.pointer (some ⟨b, 0, none⟩))]) ∧ w.heap.size ≤ b ∧ AtE w' b (hd us).pos 20 ∧ Below w.heap.size w w' := by
  obtain ⟨ts, k, h1, h2, h3, h4⟩ := h.get
  exact Go.Proofs.YtodijgndbjfbgaaGreatDoor.number_no (peeks_at h2 h3) hk
theorem XR.number_yes (h : XR w xb rb us lv) (hk : (hd us).kind = 2) : Calls Tryz.prog 161 #[.pointer (some ⟨rb, 0, none⟩)] w fun e w' => e = .returned (.tuple #[.int .i64 (valOf (hd us).text), .nilIface]) ∧ XR w' xb rb us.tail lv ∧ Fr w.heap.size rb w w' := by
  obtain ⟨ts, k, h1, h2, h3, h4⟩ := h.get
  have h0 : (hd us).kind ≠ 0 := by omega
  obtain ⟨n0, n1, n2⟩ := h.fine.numb hk
  exact (Go.Proofs.YtodijgndbjfbgaaGreatDoor.number_yes h.glob h2 h3 hk (h4 h0) h.fine.len n0 n1 n2).mono fun _ _ ⟨he, hR, hg⟩ => ⟨he, h.on h1 h0 hR hg⟩
end

theorem AtE.keep {w w' : World} {b : Nat} {p n : Int} (h : AtE w b p n) (hk : w'.heap[b]? = w.heap[b]?) : AtE w' b p n :=
  ⟨(World.cell?_of_block (w := w) hk).trans h.pos, (World.cell?_of_block (w := w) hk).trans h.err, h.typ.imp fun _ q => hk.trans q⟩
end
end Go.Proofs.YtodijgndbjfbgaaGreatDoor
