/-
  The numbers under package safe: which fit 64 bits, what a call tells of a number, sums of lists one behind the other. No run of the program is in this text.
-/
import Derived.Test.YtcaognakjigmbaaDoorB0
namespace Go.Proofs.YtcaognakjigmbaaDoor
open Go.RowKit

/-- A number of 64 bits, with its sign. -/
def Fits (z : Int) : Prop := -9223372036854775808 ≤ z ∧ z ≤ 9223372036854775807
instance (z : Int) : Decidable (Fits z) := inferInstanceAs (Decidable (_ ∧ _))
/-- What is told of a number: itself, or 0 where it doesn't fit; whether it fits; the error. -/
def val (z : Int) : Int := if Fits z then z else 0
def ok (z : Int) : Bool := decide (Fits z)
def er (z : Int) : Value := if Fits z then .nilIface else .iface 40 (.int .i64 10)
/-- The two results of a call that tells a number, and those of the document's answer. -/
def told (z : Int) : Value := .tuple #[.int .i64 (val z), er z]
def rtold (z : Int) : Value := .tuple #[.int .i64 (val z), .bool (ok z)]
theorem val_fits {z : Int} (h : Fits z) : val z = z := if_pos h
theorem val_not {z : Int} (h : ¬ Fits z) : val z = 0 := if_neg h
theorem er_fits {z : Int} (h : Fits z) : er z = .nilIface := if_pos h
theorem er_not {z : Int} (h : ¬ Fits z) : er z = .iface 40 (.int .i64 10) := if_neg h
theorem ok_fits {z : Int} (h : Fits z) : ok z = true := decide_eq_true h
theorem ok_not {z : Int} (h : ¬ Fits z) : ok z = false := decide_eq_false h
theorem fits_val (z : Int) : Fits (val z) := by
  by_cases h : Fits z
  · rw [val_fits h]; exact h
  · rw [val_not h]; exact ⟨by omega, by omega⟩
theorem wrap_fits {z : Int} (h : Fits z) : wrap64 z = z := by unfold Fits at h; unfold wrap64; omega
theorem fits_zero : Fits 0 := ⟨by omega, by omega⟩
theorem told_fits {z : Int} (h : Fits z) : told z = .tuple #[.int .i64 z, .nilIface] := by rw [told, val_fits h, er_fits h]
theorem told_not {z : Int} (h : ¬ Fits z) : told z = .tuple #[.int .i64 0, .iface 40 (.int .i64 10)] := by rw [told, val_not h, er_not h]
theorem rtold_fits {z : Int} (h : Fits z) : rtold z = .tuple #[.int .i64 z, .bool true] := by rw [rtold, val_fits h, ok_fits h]
theorem rtold_not {z : Int} (h : ¬ Fits z) : rtold z = .tuple #[.int .i64 0, .bool false] := by rw [rtold, val_not h, ok_not h]

/-- A product that went round isn't told by dividing it again. -/
theorem mul_back {a b : Int} (hb : Fits b) (h0 : b ≠ 0) (hf : ¬ Fits (a * b)) : (wrap64 (a * b)).tdiv b ≠ a := by
  intro h
  have e := Int.mul_tdiv_add_tmod (wrap64 (a * b)) b
  rw [h] at e
  have hm : ((wrap64 (a * b)).tmod b).natAbs < b.natAbs := by
    rw [Int.natAbs_tmod]
    exact Nat.mod_lt _ (by omega)
  rw [Int.mul_comm b a] at e
  generalize (wrap64 (a * b)).tmod b = r at *
  unfold Fits at hb hf
  unfold wrap64 at e
  generalize a * b = p at *
  omega

theorem tdiv_fits {p b : Int} (hp : Fits p) (h0 : b ≠ 0) (h1 : b ≠ -1) : Fits (p.tdiv b) := by
  have e : (p.tdiv b).natAbs = p.natAbs / b.natAbs := Int.natAbs_tdiv p b
  unfold Fits at *
  by_cases hp' : p = -9223372036854775808
  · have hb : b = 1 ∨ 2 ≤ b.natAbs := by omega
    rcases hb with rfl | hb
    · rw [Int.tdiv_one]; exact hp
    · have h2 : p.natAbs / b.natAbs ≤ p.natAbs / 2 := Nat.div_le_div_left hb (by omega)
      have h3 : (p.tdiv b).natAbs ≤ p.natAbs / 2 := by rw [e]; exact h2
      clear e h2
      generalize p.tdiv b = d at *
      omega
  · have h3 : (p.tdiv b).natAbs ≤ p.natAbs := by rw [e]; exact Nat.div_le_self _ _
    clear e
    generalize p.tdiv b = d at *
    omega

/-- The sum of a list, one behind the other, from a number on: none, if it passes an end on the way. -/
def sums : Int → List Int → Option Int
  | t, [] => some t
  | t, x :: xs => if Fits (t + x) then sums (t + x) xs else none
theorem sums_append (xs ys : List Int) : ∀ t, sums t (xs ++ ys) = (sums t xs).bind fun u => sums u ys := by
  induction xs with
  | nil => intro t; rfl
  | cons x xs ih =>
    intro t
    simp only [List.cons_append, sums]
    split
    · exact ih _
    · rfl
theorem sums_is : ∀ (xs : List Int) (t u : Int), sums t xs = some u → u = t + xs.sum
  | [], t, u, h => by simp [sums] at h; simp [h]
  | x :: xs, t, u, h => by
    simp only [sums] at h
    split at h
    · have := sums_is xs _ u h
      rw [this, List.sum_cons]; omega
    · cases h
theorem sums_fits : ∀ (xs : List Int) (t u : Int), Fits t → sums t xs = some u → Fits u
  | [], t, u, hf, h => by simp [sums] at h; rw [← h]; exact hf
  | x :: xs, t, u, _, h => by
    simp only [sums] at h
    split at h
    · rename_i h1; exact sums_fits xs _ u h1 h
    · cases h
theorem drop_cons (xs : List Int) (k : Nat) (h : k < xs.length) : xs.drop k = xs.getD k 0 :: xs.drop (k + 1) := by
  rw [List.drop_eq_getElem_cons h]
  simp [List.getD_eq_getElem?_getD, List.getElem?_eq_getElem h]
theorem sums_step (xs : List Int) (k : Nat) (t : Int) (h : k < xs.length) : sums t (xs.drop k) = if Fits (t + xs.getD k 0) then sums (t + xs.getD k 0) (xs.drop (k + 1)) else none := by
  rw [drop_cons xs k h]; rfl
/-- A number that stands for a sum: the sum itself, or one that doesn't fit. -/
def far (o : Option Int) : Int := o.getD 9223372036854775808
theorem far_not : ¬ Fits (far none) := by decide
end Go.Proofs.YtcaognakjigmbaaDoor
