/-
  Processes as plain data: when they are right; how they lie in memory, read.
-/
import Derived.Test.YtkgjpimapfmeoaaDoorE2
namespace Go.Proofs.YtkgjpimapfmeoaaDoor
open Go.RowKit

structure MvO where
  to : Int
  wt : Int
deriving DecidableEq
structure ChO where
  act : ByteArray
  mv : List MvO
deriving DecidableEq
structure PrO where
  init : Int
  chs : List (List ChO)
  nms : List ByteArray
  hds : List (List Int)
/-- Moves that may be, of one choice, among n states. -/
def movR (n : Nat) (l : List MvO) : Prop := l ≠ [] ∧ (l.map MvO.to).Nodup ∧ ∀ m ∈ l, 0 ≤ m.to ∧ m.to < (n : Int) ∧ 1 ≤ m.wt
instance (n : Nat) (l : List MvO) : Decidable (movR n l) := inferInstanceAs (Decidable (_ ∧ _ ∧ _))
def chR (n : Nat) (l : List ChO) : Prop := l ≠ [] ∧ ∀ c ∈ l, movR n c.mv
instance (n : Nat) (l : List ChO) : Decidable (chR n l) := inferInstanceAs (Decidable (_ ∧ _))
def leadR (n : Nat) (l : List (List ChO)) : Prop := ∀ cs ∈ l, chR n cs
instance (n : Nat) (l : List (List ChO)) : Decidable (leadR n l) := inferInstanceAs (Decidable (∀ _ ∈ _, _))
/-- Places among n that rise, from one on. -/
def holdR (n : Nat) : Int → List Int → Prop
  | _, [] => True
  | a, i :: r => a ≤ i ∧ i < (n : Int) ∧ holdR n (i + 1) r
instance holdR.dec (n : Nat) : ∀ (a : Int) (l : List Int), Decidable (holdR n a l)
  | _, [] => isTrue trivial
  | _, i :: r => have := holdR.dec n (i + 1) r; inferInstanceAs (Decidable (_ ∧ _ ∧ _))
def holdsR (n : Nat) (l : List (List Int)) : Prop := ∀ h ∈ l, holdR n 0 h
instance (n : Nat) (l : List (List Int)) : Decidable (holdsR n l) := inferInstanceAs (Decidable (∀ _ ∈ _, _))
def PrO.right (p : PrO) : Prop :=
  (1 : Int) ≤ (p.chs.length : Int) ∧ (p.chs.length : Int) ≤ 4096 ∧ (0 ≤ p.init ∧ p.init < (p.chs.length : Int)) ∧ (p.hds.length : Int) = (p.chs.length : Int) ∧ leadR p.chs.length p.chs ∧ p.nms.Nodup ∧ holdsR p.nms.length p.hds
instance (p : PrO) : Decidable p.right := inferInstanceAs (Decidable (_ ∧ _))

/-- Slices read as lists: of numbers, truths, texts, moves, choices, lists of choices, lists of numbers. -/
def ISl (w : World) (A : Option Addr) (l : List Int) : Prop := ∀ i (h : i < l.length), ∃ g o, A = some ⟨g, o, none⟩ ∧ w.cell? ⟨g, o + i, none⟩ = some (.int .i64 l[i])
def SSl (w : World) (A : Option Addr) (l : List ByteArray) : Prop := ∀ i (h : i < l.length), ∃ g o, A = some ⟨g, o, none⟩ ∧ w.cell? ⟨g, o + i, none⟩ = some (.string l[i])
def MSl (w : World) (A : Option Addr) (l : List MvO) : Prop := ∀ i (h : i < l.length), ∃ g o, A = some ⟨g, o, none⟩ ∧ w.cell? ⟨g, o + i * 2, none⟩ = some (.int .i64 l[i].to) ∧ w.cell? ⟨g, o + (i * 2 + 1), none⟩ = some (.int .i64 l[i].wt)
def CSl (w : World) (A : Option Addr) (l : List ChO) : Prop := ∀ i (h : i < l.length), ∃ g o B cap, A = some ⟨g, o, none⟩ ∧ w.cell? ⟨g, o + i * 2, none⟩ = some (.string l[i].act) ∧ w.cell? ⟨g, o + (i * 2 + 1), none⟩ = some (.slice B l[i].mv.length cap) ∧ l[i].mv.length ≤ cap ∧ MSl w B l[i].mv
def LSl (w : World) (A : Option Addr) (l : List (List ChO)) : Prop := ∀ i (h : i < l.length), ∃ g o B cap, A = some ⟨g, o, none⟩ ∧ w.cell? ⟨g, o + i, none⟩ = some (.slice B l[i].length cap) ∧ l[i].length ≤ cap ∧ CSl w B l[i]
def CapOk (B : Option Addr) (n cap : Nat) : Prop := n ≤ cap ∧ (B = none → cap = 0)
def HSl (w : World) (A : Option Addr) (l : List (List Int)) : Prop := ∀ i (h : i < l.length), ∃ g o B cap, A = some ⟨g, o, none⟩ ∧ w.cell? ⟨g, o + i, none⟩ = some (.slice B l[i].length cap) ∧ CapOk B l[i].length cap ∧ ISl w B l[i]
section
variable {w w' : World} {A : Option Addr}
theorem cell_blw {a : Addr} {v : Value} (hb : Below w.heap.size w w') (h : w.cell? a = some v) : w'.cell? a = some v := (hb.cell (World.block_lt_of_cell? w _ h)).trans h
theorem ISl.below {l : List Int} (h : ISl w A l) (hb : Below w.heap.size w w') : ISl w' A l := fun i hi => by
  obtain ⟨g, o, h1, h2⟩ := h i hi
  exact ⟨g, o, h1, cell_blw hb h2⟩
theorem SSl.below {l : List ByteArray} (h : SSl w A l) (hb : Below w.heap.size w w') : SSl w' A l := fun i hi => by
  obtain ⟨g, o, h1, h2⟩ := h i hi
  exact ⟨g, o, h1, cell_blw hb h2⟩
theorem MSl.below {l : List MvO} (h : MSl w A l) (hb : Below w.heap.size w w') : MSl w' A l := fun i hi => by
  obtain ⟨g, o, h1, h2, h3⟩ := h i hi
  exact ⟨g, o, h1, cell_blw hb h2, cell_blw hb h3⟩
theorem CSl.below {l : List ChO} (h : CSl w A l) (hb : Below w.heap.size w w') : CSl w' A l := fun i hi => by
  obtain ⟨g, o, B, cap, h1, h2, h3, h4, h5⟩ := h i hi
  exact ⟨g, o, B, cap, h1, cell_blw hb h2, cell_blw hb h3, h4, h5.below hb⟩
theorem LSl.below {l : List (List ChO)} (h : LSl w A l) (hb : Below w.heap.size w w') : LSl w' A l := fun i hi => by
  obtain ⟨g, o, B, cap, h1, h2, h3, h4⟩ := h i hi
  exact ⟨g, o, B, cap, h1, cell_blw hb h2, h3, h4.below hb⟩
theorem HSl.below {l : List (List Int)} (h : HSl w A l) (hb : Below w.heap.size w w') : HSl w' A l := fun i hi => by
  obtain ⟨g, o, B, cap, h1, h2, h3, h4⟩ := h i hi
  exact ⟨g, o, B, cap, h1, cell_blw hb h2, h3, h4.below hb⟩
theorem ISl.nil : ISl w A [] := fun i h => absurd h (by simp)
theorem SSl.nil : SSl w A [] := fun i h => absurd h (by simp)
theorem MSl.nil : MSl w A [] := fun i h => absurd h (by simp)
theorem CSl.nil : CSl w A [] := fun i h => absurd h (by simp)
theorem LSl.nil : LSl w A [] := fun i h => absurd h (by simp)
theorem HSl.nil : HSl w A [] := fun i h => absurd h (by simp)
end
/-- A process, laid flat. -/
structure PV where
  A : Option Addr
  a : Nat
  B : Option Addr
  b : Nat
  C : Option Addr
  c : Nat
def PV.l (v : PV) (p : PrO) : List Value := [.int .i64 p.init, .slice v.A p.chs.length v.a, .slice v.B p.nms.length v.b, .slice v.C p.hds.length v.c]
structure PrM (w : World) (v : PV) (p : PrO) : Prop where
  ch : LSl w v.A p.chs
  cha : p.chs.length ≤ v.a
  nm : SSl w v.B p.nms
  nmb : CapOk v.B p.nms.length v.b
  hd : HSl w v.C p.hds
  hdc : p.hds.length ≤ v.c
theorem PrM.below {w w' : World} {v : PV} {p : PrO} (h : PrM w v p) (hb : Below w.heap.size w w') : PrM w' v p := ⟨h.ch.below hb, h.cha, h.nm.below hb, h.nmb, h.hd.below hb, h.hdc⟩

/-- A box of the call's own, its cells by name. -/
theorem blk_lt {w : World} {b : Nat} {o : Obj} (h : w.heap[b]? = some o) : b < w.heap.size := (Array.getElem?_eq_some_iff.1 h).1
def Bx (w : World) (q : Nat) (t : TypeId) (cs : List Value) : Prop := w.heap[q]? = some (.cells cs.toArray t (0, 0))
section
variable {w w' : World} {q : Nat} {t : TypeId} {cs : List Value}
theorem Bx.lt (h : Bx w q t cs) : q < w.heap.size := blk_lt h
theorem Bx.cell (h : Bx w q t cs) (i : Nat) : w.cell? ⟨q, i, none⟩ = cs[i]? := (cell_of_row w q i cs.toArray t (0, 0) h).trans (by simp)
theorem Bx.frozen (h : Bx w q t cs) (i : Nat) : w.frozen? ⟨q, i, none⟩ = false := by
  unfold Bx at h
  simp [World.frozen?, h]
theorem Bx.new (w : World) (t : TypeId) (cs : List Value) : Bx (w.alloc (.cells cs.toArray t)) w.heap.size t cs := heap_alloc_new w _
theorem Bx.below (h : Bx w q t cs) (hb : Below w.heap.size w w') : Bx w' q t cs := (hb.block q h.lt).trans h
theorem Bx.set (h : Bx w q t cs) (i : Nat) (u : Value) : Bx (w.setCell ⟨q, i, none⟩ u) q t (cs.set i u) := by
  unfold Bx at h ⊢
  simp [World.setCell, Array.getElem?_modify, h]
end
theorem below_alloc (w : World) (o : Obj) : Below w.heap.size w (w.alloc o) := (Below.refl _ _).alloc (Nat.le_refl _) o
theorem ret_bool {a b : Bool} (h : a = b) : Ending.returned (.bool a) = .returned (.bool b) := by rw [h]
def BoolP (b : Bool) (w : World) (e : Ending) (w' : World) : Prop := e = .returned (.bool b) ∧ Below w.heap.size w w'
theorem below_t {a b c : World} (h : Below a.heap.size a b) (k : Below b.heap.size b c) : Below a.heap.size a c := h.trans (k.mono h.size)
end Go.Proofs.YtkgjpimapfmeoaaDoor
