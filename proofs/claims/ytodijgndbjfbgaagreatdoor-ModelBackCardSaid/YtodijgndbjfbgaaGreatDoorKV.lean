/-
  Texts that fail; an expression at a place in memory.
-/
import Derived.Test.YtodijgndbjfbgaaGreatDoorKA
namespace Go.Proofs.YtodijgndbjfbgaaGreatDoor
open Go.RowKit Go.Sort
def FailP (w : World) (e : Ending) (w' : World) : Prop := ∃ t v, e = .returned (.tuple #[.agg #[.string ⟨#[]⟩, .string ⟨#[]⟩, .int .i64 0, .slice none 0 0, .int .i64 0], .iface t v]) ∧ Below w.heap.size w w'
/-- A text that isn't read at that depth. -/
def Fails (s : ByteArray) (d : Int) : Prop := (d < 1 ∨ 64 < d) ∨ ∃ (D : Nat) (c q : Nat), d = (D : Int) ∧ 1 ≤ D ∧ D ≤ 64 ∧ parseX D s.data.toList = .er c q
theorem fails_or (s : ByteArray) (d : Int) : Fails s d ∨ ∃ (D : Nat) (e : Ex) (r : List Tok), d = (D : Int) ∧ 1 ≤ D ∧ D ≤ 64 ∧ parseX D s.data.toList = .ok e r := by
  by_cases h : d < 1 ∨ 64 < d
  · exact .inl (.inl h)
  · obtain ⟨D, rfl⟩ : ∃ D : Nat, d = (D : Int) := ⟨d.toNat, by omega⟩
    cases hp : parseX D s.data.toList with
    | er c q => exact .inl (.inr ⟨D, c, q, rfl, by omega, by omega, hp⟩)
    | ok e r => exact .inr ⟨D, e, r, rfl, by omega, by omega, hp⟩
structure XV where
  o : ByteArray
  nm : ByteArray
  n : Int
  A : Option Addr
  ll : Nat
  cap : Nat
  p : Int
/-- An expression at a place. -/
def At5 (W : World) (g i : Nat) (v : XV) (x : Ex) (S : Nat → Prop) : Prop :=
  g < W.heap.size ∧ W.cell? ⟨g, i, none⟩ = some (.string v.o) ∧ W.cell? ⟨g, i + 1, none⟩ = some (.string v.nm) ∧ W.cell? ⟨g, i + 2, none⟩ = some (.int .i64 v.n) ∧ W.cell? ⟨g, i + 3, none⟩ = some (.slice v.A v.ll v.cap) ∧ W.cell? ⟨g, i + 4, none⟩ = some (.int .i64 v.p) ∧ HS W 57 S x (exC v.o v.nm v.n v.A v.ll v.cap v.p)
section
variable {W W' : World}
theorem At5.below {g i : Nat} {v : XV} {x : Ex} {S : Nat → Prop} (h : At5 W g i v x S) (hb : Below W.heap.size W W') : At5 W' g i v x S := by
  obtain ⟨h1, a0, a1, a2, a3, a4, hH⟩ := h
  exact ⟨Nat.lt_of_lt_of_le h1 hb.size, (hb.cell h1).trans a0, (hb.cell h1).trans a1, (hb.cell h1).trans a2, (hb.cell h1).trans a3, (hb.cell h1).trans a4, hH.below hb⟩
theorem At5.hs {g i : Nat} {v : XV} {x : Ex} {S : Nat → Prop} (h : At5 W g i v x S) : HS W 57 S x (exC v.o v.nm v.n v.A v.ll v.cap v.p) := h.2.2.2.2.2.2
theorem Box.at5 {b : Nat} {v : XV} {x : Ex} {S : Nat → Prop} (h : Box W b (.string v.o) (.string v.nm) (.int .i64 v.n) (.slice v.A v.ll v.cap) (.int .i64 v.p)) (hH : HS W 57 S x (exC v.o v.nm v.n v.A v.ll v.cap v.p)) : At5 W b 0 v x S := by
  obtain ⟨b0, b1, b2, b3, b4⟩ := h.cells
  exact ⟨h.lt, b0, b1, b2, b3, b4, hH⟩
end
end Go.Proofs.YtodijgndbjfbgaaGreatDoor
