/-
  The tokens of any text, as the program finds them.
-/
import Derived.Test.YtfemddchaihokaaDoorL6
namespace Go.Proofs.YtfemddchaihokaaDoor
open Go.RowKit

theorem infoT : (Tryd.prog.info? 34).map (fun i => (i.zero, i.size, i.bytes)) = some (some (.agg #[.int .i64 0, .string ⟨#[]⟩, .int .i64 0]), 3, 32) := by kernel_rfl

def tokC (t : Tok) : List Value := [.int .i64 t.kind, strV t.text, .int .i64 t.pos]
def cellsT (ts : List Tok) : List Value := ts.flatMap tokC
theorem cellsT_snoc (ts : List Tok) (t : Tok) : cellsT (ts ++ [t]) = cellsT ts ++ tokC t := by simp [cellsT]
theorem cellsT_len (ts : List Tok) : (cellsT ts).length = ts.length * 3 := by
  induction ts with
  | nil => rfl
  | cons t r ih => simp only [cellsT, List.flatMap_cons, List.length_append, List.length_cons] at *; rw [ih]; simp [tokC]; omega

theorem grown_of_below {a w : World} (h : Below a.heap.size a w) (row : Option Nat) : a.grownBy w row := ⟨h.os, h.tape, h.output, h.size, fun i hi _ => h.block i hi⟩
theorem owns_below {w w' : World} {base : Nat} {e : TypeId} {size : Nat} {v : Value} {n : Nat} {xs : List Value} (h : w.ownsRow base e size v n xs) (hb : Below w.heap.size w w') : w'.ownsRow base e size v n xs := by
  refine h.kept (grown_of_below hb none) ?_
  cases v.ownBlock with
  | none => exact .inl rfl
  | some g => exact .inr (by simp)
theorem owns_lt {w : World} {base : Nat} {e : TypeId} {size : Nat} {v : Value} {n : Nat} {xs : List Value} (h : w.ownsRow base e size v n xs) : ∀ k, v.ownBlock = some k → base ≤ k := fun k hk => (h.lt k hk).1

/-- What the program's loop keeps. -/
def TokRel (l : List UInt8) (w0 : World) (v i : Value) (wr : World) : Prop :=
  ∃ (acc : List Tok) (k : Nat), i = .int .i64 (k : Int) ∧ k ≤ l.length ∧ blanks false (l.drop k) = 0 ∧ toks l = onto acc (scanG l k) ∧ acc.length ≤ k ∧ wr.ownsRow w0.heap.size 34 3 v acc.length (cellsT acc) ∧ Below w0.heap.size w0 wr
/-- What is told of a text. -/
def TokP (r : Res) (w : World) (e : Ending) (w' : World) : Prop :=
  (∃ ts v, r = .ok ts ∧ e = .returned (.tuple #[v, .nilIface]) ∧ 0 < ts.length ∧ ts.length ≤ 65537 ∧ w'.ownsRow w.heap.size 34 3 v ts.length (cellsT ts) ∧ Below w.heap.size w w') ∨
  (∃ x p b, r = .error (x, p) ∧ e = .returned (.tuple #[.slice none 0 0, .iface 60 (.pointer (some ⟨b, 0, none⟩))]) ∧ w.heap.size ≤ b ∧ x ≠ 0 ∧ w'.cell? ⟨b, 0, none⟩ = some (.int .i64 (p : Int)) ∧ w'.cell? ⟨b, 1, none⟩ = some (.iface 55 (.int .i64 (x : Int))) ∧ Below w.heap.size w w')

theorem tok_er {l : List UInt8} {acc : List Tok} {k : Nat} (hk : k < l.length) (hb : blanks false (l.drop k) = 0) (ht : toks l = onto acc (scanG l k)) (he : (meas (l.drop k)).2.2 ≠ 0) : toks l = .error ((meas (l.drop k)).2.2, k) := by
  rw [ht, scanG_at (by omega) hb, tokG, if_neg (drop_ne hk), if_neg he]; rfl
theorem tok_on {l : List UInt8} {acc : List Tok} {k : Nat} (hk : k < l.length) (hb : blanks false (l.drop k) = 0) (ht : toks l = onto acc (scanG l k)) (he : (meas (l.drop k)).2.2 = 0) :
    toks l = onto (acc ++ [⟨(meas (l.drop k)).1, bareL (meas (l.drop k)).1 ((l.drop k).take (meas (l.drop k)).2.1), k⟩]) (scanG l (k + (meas (l.drop k)).2.1 + blanks false (l.drop (k + (meas (l.drop k)).2.1)))) := by
  have hm := meas_le (l.drop k)
  rw [List.length_drop] at hm
  have hb2 := blanks_le false (l.drop (k + (meas (l.drop k)).2.1))
  rw [List.length_drop] at hb2
  have e : blanks false (l.drop (k + (meas (l.drop k)).2.1)) = blanks false (l.drop (k + (meas (l.drop k)).2.1)) + blanks false (l.drop (k + (meas (l.drop k)).2.1 + blanks false (l.drop (k + (meas (l.drop k)).2.1)))) := by
    rw [blanks_twice]
    rfl
  rw [ht, scanG_at (by omega) hb, tokG, if_neg (drop_ne hk), if_pos he, onto_onto, scanG_skip (by omega) e]
theorem tok_end {l : List UInt8} {acc : List Tok} (ht : toks l = onto acc (scanG l l.length)) : toks l = .ok (acc ++ [⟨0, [], l.length⟩]) := by
  rw [ht, scanG_at (Nat.le_refl _) (blanks_end l), tokG_end]; rfl
theorem quote_len {l : List UInt8} {k : Nat} (hk : k < l.length) (he : (meas (l.drop k)).2.2 = 0) (h3 : (meas (l.drop k)).1 = 3) : 2 ≤ (meas (l.drop k)).2.1 := by
  rw [drop_cons l k hk] at *
  simp only [meas] at *
  split at h3
  · simp at h3
  · split at h3
    · simp at h3
    · split at h3
      · rename_i h1 h2 h4
        rw [if_neg h1, if_neg h2, if_pos h4] at he ⊢
        simp only at he ⊢
        split at he
        · cases he
        · rename_i hx
          unfold labN at hx ⊢
          split
          · rename_i hy; rw [if_pos hy] at hx; exact absurd rfl hx
          · omega
      · simp at h3
end Go.Proofs.YtfemddchaihokaaDoor
