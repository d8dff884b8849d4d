/-
  A table of vectors in memory: how it lies, what keeps it, and what is kept where it changes.
-/
import Derived.Test.YtoppjkdlloddmaaDoorL2
import Derived.Deep.AppendLies
import Derived.Laws.Rows
namespace Go.Proofs.YtoppjkdlloddmaaDoor
open Go.RowKit

def Blk (w : World) (g : Nat) (t : TypeId) (cs : Array Value) : Prop := w.heap[g]? = some (.cells cs t (0, 0))
section
variable {w w' : World} {g : Nat} {t : TypeId} {cs : Array Value}
theorem Blk.lt (h : Blk w g t cs) : g < w.heap.size := (Array.getElem?_eq_some_iff.1 h).1
theorem Blk.cell (h : Blk w g t cs) (i : Nat) : w.cell? ⟨g, i, none⟩ = cs[i]? := cell_of_row w g i cs t (0, 0) h
theorem Blk.frozen (h : Blk w g t cs) (i : Nat) : w.frozen? ⟨g, i, none⟩ = false := by
  unfold Blk at h
  simp [World.frozen?, h]
theorem Blk.set_ (h : Blk w g t cs) (i : Nat) (u : Value) : Blk (w.setCell ⟨g, i, none⟩ u) g t (cs.setIfInBounds i u) := by
  unfold Blk at h ⊢
  simp [World.setCell, Array.getElem?_modify, h]
theorem Blk.ne_ {g' : Nat} {t' : TypeId} {cs' : Array Value} (h : Blk w g t cs) (h' : Blk w g' t' cs') (hne : t ≠ t') : g ≠ g' := by
  rintro rfl
  unfold Blk at h h'
  rw [h] at h'
  injection h' with h'
  injection h' with _ ht
  exact hne ht
end
/-- The block of a row of one's own. -/
theorem owns_blk {w : World} {base : Nat} {e : TypeId} {size n : Nat} {v : Value} {xs : List Value} (h : w.ownsRow base e size v n xs) {g : Nat} (hg : v.ownBlock = some g) : base ≤ g ∧ ∃ cs, Blk w g e cs := by
  rcases h.2 with ⟨rfl, _⟩ | ⟨g', cap, cur, rfl, hb, hh, _⟩
  · simp [Value.ownBlock] at hg
  · have : g' = g := by simpa [Value.ownBlock] using hg
    subst this
    exact ⟨hb, cur, hh⟩
theorem owns_of {w w' : World} {base : Nat} {e : TypeId} {size n : Nat} {v : Value} {xs : List Value} (h : w.ownsRow base e size v n xs) (hk : ∀ g, v.ownBlock = some g → w'.heap[g]? = w.heap[g]?) : w'.ownsRow base e size v n xs := by
  refine ⟨h.1, ?_⟩
  rcases h.2 with hn | ⟨g, cap, cur, rfl, hb, hgg, rest⟩
  · exact .inl hn
  · exact .inr ⟨g, cap, cur, rfl, hb, (hk g rfl).trans hgg, rest⟩
theorem owns_mono {w : World} {base base' : Nat} {e : TypeId} {size n : Nat} {v : Value} {xs : List Value} (h : w.ownsRow base e size v n xs) (hb : base' ≤ base) : w.ownsRow base' e size v n xs := by
  refine ⟨h.1, ?_⟩
  rcases h.2 with hn | ⟨g, cap, cur, rfl, hb', rest⟩
  · exact .inl hn
  · exact .inr ⟨g, cap, cur, rfl, by omega, rest⟩

/-- What a change of a table keeps: all below B but the table's own head, and all that is neither of a table's kinds. -/
structure Keep (b B : Nat) (w w' : World) : Prop where
  os : w'.os = w.os
  tape : w'.tape = w.tape
  output : w'.output = w.output
  size : w.heap.size ≤ w'.heap.size
  low : ∀ k, k < w.heap.size → k < B → k ≠ b → w'.heap[k]? = w.heap[k]?
  typ : ∀ k cs t, Blk w k t cs → t ≠ 43 → t ≠ 46 → t ≠ 3 → Blk w' k t cs
section
variable {b B : Nat} {w w' w'' : World}
theorem Keep.refl (b B : Nat) (w : World) : Keep b B w w := ⟨rfl, rfl, rfl, Nat.le_refl _, fun _ _ _ _ => rfl, fun _ _ _ h _ _ _ => h⟩
theorem Keep.trans (h : Keep b B w w') (k : Keep b B w' w'') : Keep b B w w'' :=
  ⟨k.os.trans h.os, k.tape.trans h.tape, k.output.trans h.output, Nat.le_trans h.size k.size,
   fun i h1 h2 h3 => (k.low i (Nat.lt_of_lt_of_le h1 h.size) h2 h3).trans (h.low i h1 h2 h3),
   fun i cs t hb h1 h2 h3 => k.typ i cs t (h.typ i cs t hb h1 h2 h3) h1 h2 h3⟩
theorem Keep.drewN (h : Keep b B w w') (n : Nat) : Keep b B w (w'.drewN n) := ⟨h.os, h.tape, h.output, h.size, h.low, h.typ⟩
theorem Keep.of_below (h : Below w.heap.size w w') : Keep b B w w' :=
  ⟨h.os, h.tape, h.output, h.size, fun k h1 _ _ => h.block k h1, fun k _ _ hb _ _ _ => (h.block k hb.lt).trans hb⟩
theorem Keep.alloc (h : Keep b B w w') (o : Obj) : Keep b B w (w'.alloc o) :=
  h.trans (Keep.of_below ((Below.refl _ _).alloc (Nat.le_refl _) o))
/-- One block of a table's kind has changed: its head, or one from B on. -/
theorem Keep.of_grown {row : Option Nat} (h : w.grownBy w' row) (hr : ∀ g, row = some g → (g = b ∨ B ≤ g) ∧ ∃ t cs, Blk w g t cs ∧ (t = 43 ∨ t = 46 ∨ t = 3)) : Keep b B w w' := by
  refine ⟨h.os, h.tape, h.output, h.size, fun k h1 h2 h3 => h.block k h1 fun e => ?_, fun k cs t hb h1 h2 h3 => (h.block k hb.lt fun e => ?_).trans hb⟩
  · have := (hr k e.symm).1; omega
  · obtain ⟨_, t', cs', hb', ht⟩ := hr k e.symm
    exact hb.ne_ hb' (by rintro rfl; rcases ht with h | h | h <;> contradiction) rfl
theorem Keep.setCell (h : Keep b B w w') {g i : Nat} {u : Value} {t : TypeId} {cs : Array Value} (hg : g = b ∨ B ≤ g) (hb : Blk w' g t cs) (ht : t = 43 ∨ t = 46 ∨ t = 3) : Keep b B w (w'.setCell ⟨g, i, none⟩ u) :=
  h.trans (Keep.of_grown (row := some g) ⟨rfl, rfl, rfl, by simp, fun k _ hk => heap_setCell_other w' ⟨g, i, none⟩ k u (fun e => hk (by simp [e]))⟩ (fun g' hg' => by injection hg' with hg'; subst hg'; exact ⟨hg, t, cs, hb, ht⟩))
theorem Keep.below {B0 : Nat} {a : World} (h : Keep b B w w') (hb : Below B0 a w) (h1 : B0 ≤ b) (h2 : B0 ≤ B) (h3 : B0 ≤ w.heap.size) : Below B0 a w' :=
  ⟨h.os.trans hb.os, h.tape.trans hb.tape, h.output.trans hb.output, Nat.le_trans hb.size h.size, fun k hk => (h.low k (by omega) (by omega) (by omega)).trans (hb.block k hk)⟩
end

/-- A slice that a change of a table keeps. -/
def Vok (w : World) (b B : Nat) (v : Value) : Prop := ∀ a n c, v = .slice (some a) n c → 0 < n → (a.block < B ∧ a.block ≠ b) ∨ ∃ cs, Blk w a.block 21 cs
theorem R32.keep {w w' : World} {b B : Nat} {v : Value} {xs : List Int} (h : R32 w v xs) (hv : Vok w b B v) (hk : Keep b B w w') : R32 w' v xs := by
  obtain ⟨ad, cap, rfl, h2⟩ := h
  refine ⟨ad, cap, rfl, fun k hlt => ?_⟩
  obtain ⟨p, rfl, hp, hc⟩ := h2 k hlt
  refine ⟨p, rfl, hp, ?_⟩
  have hpl := World.block_lt_of_cell? w _ hc
  refine (World.cell?_of_block (w := w) (a := ⟨p.block, p.off + k, none⟩) ?_).trans hc
  rcases hv p _ _ rfl (by omega) with ⟨h3, h4⟩ | ⟨cs, hb⟩
  · exact hk.low _ hpl h3 h4
  · exact (hk.typ _ _ _ hb (by decide) (by decide) (by decide)).trans hb.symm

/-- How a table lies: its head at b, all else from B on. -/
structure Tb (w : World) (B b n m : Nat) (ev hv : Value) (vl : Nat → Value) (vs : List (List Int)) (nx hs : Nat → Int) : Prop where
  len : vs.length = n
  blk : Blk w b 43 #[ev, hv]
  ent : ∃ cs, w.ownsRow B 46 2 ev n cs ∧ ∀ j, j < n → cs[j * 2]? = some (vl j) ∧ cs[j * 2 + 1]? = some (.int .i64 (nx j))
  hea : ∃ cs, w.ownsRow B 3 1 hv m cs ∧ ∀ p, p < m → cs[p]? = some (.int .i64 (hs p))
  vec : ∀ j, j < n → w.ownsRow B 21 1 (vl j) (vs.getD j []).length ((vs.getD j []).map V32)
section
variable {w w' : World} {B b n m : Nat} {ev hv : Value} {vl : Nat → Value} {vs : List (List Int)} {nx hs : Nat → Int}
theorem Tb.of (h : Tb w B b n m ev hv vl vs nx hs) (hb : w'.heap[b]? = w.heap[b]?) (hk : ∀ k, k < w.heap.size → B ≤ k → w'.heap[k]? = w.heap[k]?) : Tb w' B b n m ev hv vl vs nx hs := by
  have hh : ∀ {e : TypeId} {size k : Nat} {v : Value} {xs : List Value}, w.ownsRow B e size v k xs → w'.ownsRow B e size v k xs := fun ho =>
    owns_of ho fun g hg => hk g (ho.lt g hg).2 (ho.lt g hg).1
  obtain ⟨cs, h1, h2⟩ := h.ent
  obtain ⟨ds, h3, h4⟩ := h.hea
  exact ⟨h.len, hb.trans h.blk, ⟨cs, hh h1, h2⟩, ⟨ds, hh h3, h4⟩, fun j hj => hh (h.vec j hj)⟩
theorem Tb.drewN (h : Tb w B b n m ev hv vl vs nx hs) (k : Nat) : Tb (w.drewN k) B b n m ev hv vl vs nx hs := h.of rfl fun _ _ _ => rfl
theorem Tb.below (h : Tb w B b n m ev hv vl vs nx hs) (hb : Below w.heap.size w w') : Tb w' B b n m ev hv vl vs nx hs := h.of (hb.block b h.blk.lt) fun k hk _ => hb.block k hk
theorem Tb.far (h : Tb w B b n m ev hv vl vs nx hs) {p : Addr} (hp : p.block < B) (hb : p.block ≠ b) (u : Value) : Tb (w.setCell p u) B b n m ev hv vl vs nx hs :=
  h.of (heap_setCell_other w p b u (fun e => hb e.symm)) fun k _ hk => heap_setCell_other w p k u (fun e => by omega)
theorem Tb.c0 (h : Tb w B b n m ev hv vl vs nx hs) : w.cell? ⟨b, 0, none⟩ = some ev := h.blk.cell 0
theorem Tb.c1 (h : Tb w B b n m ev hv vl vs nx hs) : w.cell? ⟨b, 1, none⟩ = some hv := h.blk.cell 1
theorem Tb.entAt (h : Tb w B b n m ev hv vl vs nx hs) (hn : 0 < n) : ∃ g cap, ev = .slice (some ⟨g, 0, none⟩) n cap ∧ B ≤ g ∧ g ≠ b ∧ (∃ cs, Blk w g 46 cs) ∧
    ∀ j, j < n → w.cell? ⟨g, j * 2, none⟩ = some (vl j) ∧ w.cell? ⟨g, j * 2 + 1, none⟩ = some (.int .i64 (nx j)) ∧ w.frozen? ⟨g, j * 2 + 1, none⟩ = false := by
  obtain ⟨cs, h1, h2⟩ := h.ent
  obtain ⟨g, cap, rfl, hb, _⟩ := h1.form hn
  obtain ⟨_, cs', hbl⟩ := owns_blk h1 (g := g) rfl
  refine ⟨g, cap, rfl, hb, hbl.ne_ h.blk (by decide), ⟨cs', hbl⟩, fun j hj => ⟨?_, ?_, h1.frozenAt _⟩⟩
  · rw [h1.cellAt _ (by omega)]; exact (h2 j hj).1
  · rw [h1.cellAt _ (by omega)]; exact (h2 j hj).2
theorem Tb.heaAt (h : Tb w B b n m ev hv vl vs nx hs) (hm : 0 < m) : ∃ g cap, hv = .slice (some ⟨g, 0, none⟩) m cap ∧ B ≤ g ∧ g ≠ b ∧ (∃ cs, Blk w g 3 cs) ∧
    ∀ p, p < m → w.cell? ⟨g, p, none⟩ = some (.int .i64 (hs p)) ∧ w.frozen? ⟨g, p, none⟩ = false := by
  obtain ⟨cs, h1, h2⟩ := h.hea
  obtain ⟨g, cap, rfl, hb, _⟩ := h1.form hm
  obtain ⟨_, cs', hbl⟩ := owns_blk h1 (g := g) rfl
  refine ⟨g, cap, rfl, hb, hbl.ne_ h.blk (by decide), ⟨cs', hbl⟩, fun p hp => ⟨?_, h1.frozenAt _⟩⟩
  rw [h1.cellAt _ (by omega)]; exact h2 p hp
theorem Tb.r32 (h : Tb w B b n m ev hv vl vs nx hs) (j : Nat) (hj : j < n) : R32 w (vl j) (vs.getD j []) := R32.of_owns (h.vec j hj)
theorem Tb.slices (h : Tb w B b n m ev hv vl vs nx hs) : (∃ ad cap, ev = .slice ad n cap) ∧ ∃ ad cap, hv = .slice ad m cap := by
  obtain ⟨cs, h1, _⟩ := h.ent
  obtain ⟨ds, h2, _⟩ := h.hea
  constructor
  · rcases h1.2 with ⟨rfl, rfl⟩ | ⟨g, cap, cur, rfl, _⟩
    · exact ⟨_, _, rfl⟩
    · exact ⟨_, _, rfl⟩
  · rcases h2.2 with ⟨rfl, rfl⟩ | ⟨g, cap, cur, rfl, _⟩
    · exact ⟨_, _, rfl⟩
    · exact ⟨_, _, rfl⟩
end

/-- The table of these vectors. -/
def Tab (w : World) (B b : Nat) (vs : List (List Int)) : Prop :=
  ∃ m ev hv vl nx hs, Tb w B b vs.length m ev hv vl vs nx hs ∧ Chained vs m nx hs vs.length ∧ vs.length ≤ m ∧ m ≤ 16 + 2 * vs.length ∧ vs.Nodup ∧ ∀ j, (vs.getD j []).length ≤ 64
section
variable {w w' : World} {B b : Nat} {vs : List (List Int)}
theorem Tab.drewN (h : Tab w B b vs) (k : Nat) : Tab (w.drewN k) B b vs := by
  obtain ⟨m, ev, hv, vl, nx, hs, h1, h2⟩ := h
  exact ⟨m, ev, hv, vl, nx, hs, h1.drewN k, h2⟩
theorem Tab.below (h : Tab w B b vs) (hb : Below w.heap.size w w') : Tab w' B b vs := by
  obtain ⟨m, ev, hv, vl, nx, hs, h1, h2⟩ := h
  exact ⟨m, ev, hv, vl, nx, hs, h1.below hb, h2⟩
theorem Tab.far (h : Tab w B b vs) {p : Addr} (hp : p.block < B) (hb : p.block ≠ b) (u : Value) : Tab (w.setCell p u) B b vs := by
  obtain ⟨m, ev, hv, vl, nx, hs, h1, h2⟩ := h
  exact ⟨m, ev, hv, vl, nx, hs, h1.far hp hb u, h2⟩
theorem Tab.lt (h : Tab w B b vs) : b < w.heap.size := by
  obtain ⟨m, ev, hv, vl, nx, hs, h1, h2⟩ := h
  exact h1.blk.lt
theorem Tab.new {B : Nat} (h : Blk w b 43 #[.slice none 0 0, .slice none 0 0]) : Tab w B b [] :=
  ⟨0, _, _, fun _ => .slice none 0 0, fun _ => 0, fun _ => 0, ⟨rfl, h, ⟨[], World.ownsRow_nil _ _ _ _, fun j hj => absurd hj (Nat.not_lt_zero j)⟩, ⟨[], World.ownsRow_nil _ _ _ _, fun j hj => absurd hj (Nat.not_lt_zero j)⟩, fun j hj => absurd hj (Nat.not_lt_zero j)⟩, ⟨fun p hp => absurd hp (Nat.not_lt_zero p), fun j hj => absurd hj (Nat.not_lt_zero j)⟩, Nat.le_refl _, by simp, List.nodup_nil, fun j => by simp⟩
end
end Go.Proofs.YtoppjkdlloddmaaDoor
