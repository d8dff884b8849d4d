/-
  The number that digits stand for, as the library's parser finds it.
-/
import Derived.Test.YtfemddchaihokaaDoorM1
import Derived.Lib.ParseIntB
namespace Go.Proofs.YtfemddchaihokaaDoor

def foldV (n : Nat) (l : List UInt8) : Nat := l.foldl (fun n c => n * 10 + (c.toNat - 48)) n
theorem valOf_fold (l : List UInt8) : valOf l = foldV 0 l := rfl
theorem foldV_cons (n : Nat) (c : UInt8) (l : List UInt8) : foldV n (c :: l) = foldV (n * 10 + (c.toNat - 48)) l := by unfold foldV; rw [List.foldl_cons]
theorem foldV_le (l : List UInt8) : ∀ n : Nat, n ≤ foldV n l := by
  induction l with
  | nil => intro n; exact Nat.le_refl _
  | cons c l ih =>
    intro n
    have h := ih (n * 10 + (c.toNat - 48))
    rw [foldV_cons]
    omega
theorem foldV_snoc (n : Nat) (l : List UInt8) (c : UInt8) : foldV n (l ++ [c]) = foldV n l * 10 + (c.toNat - 48) := by
  simp [foldV]
theorem parseM_digits (M : Nat) (hM : M < 18446744073709551616) : ∀ (l : List UInt8) (acc : Nat), acc ≤ M → (∀ c ∈ l, digitB c = true) →
    Lib.parseUintM M acc l = if foldV acc l ≤ M then .ok (foldV acc l) else .range
  | [], acc, h, _ => by
    have e : foldV acc [] = acc := rfl
    rw [Lib.parseUintM, e, if_pos h]
  | c :: l, acc, h, hd => by
    have hc := hd c List.mem_cons_self
    simp only [digitB, Bool.and_eq_true, decide_eq_true_eq] at hc
    have hle := foldV_le l (acc * 10 + (c.toNat - 48))
    rw [Lib.parseUintM, if_pos hc, foldV_cons]
    by_cases h1 : 1844674407370955162 ≤ acc
    · rw [if_pos h1, if_neg (by omega)]
    · rw [if_neg h1]
      by_cases h2 : M < acc * 10 + (c.toNat - 48)
      · rw [if_pos h2, if_neg (by omega)]
      · rw [if_neg h2, parseM_digits M hM l _ (by omega) (fun x hx => hd x (List.mem_cons_of_mem _ hx))]
theorem parse_digits (l : List UInt8) (h0 : l ≠ []) (hd : ∀ c ∈ l, digitB c = true) :
    Lib.parseIntB 64 l = if valOf l < 9223372036854775808 then .ok (valOf l : Int) else .range := by
  cases l with
  | nil => exact absurd rfl h0
  | cons c r =>
    have hc := hd c List.mem_cons_self
    simp only [digitB, Bool.and_eq_true, decide_eq_true_eq] at hc
    have e1 : ¬ (c.toNat = 43 ∨ c.toNat = 45) := by omega
    have e2 : ¬ c.toNat = 45 := by omega
    simp only [Lib.parseIntB]
    rw [if_neg e1, Lib.parseUintB, if_neg (by simp), parseM_digits _ (by decide) (c :: r) 0 (by decide) hd, ← valOf_fold]
    generalize valOf (c :: r) = v
    by_cases h1 : v ≤ 2 ^ 64 - 1
    · rw [if_pos h1]
      simp only [e2, not_false_eq_true, true_and, false_and, if_false]
      by_cases h2 : v < 9223372036854775808
      · rw [if_pos h2, if_neg (by omega)]
      · rw [if_neg h2, if_pos (by omega)]
    · rw [if_neg h1, if_neg (by omega)]
theorem while_digits (l : List UInt8) : ∀ c ∈ l.takeWhile digitB, digitB c = true := by
  intro c hc
  induction l with
  | nil => simp at hc
  | cons d r ih =>
    by_cases h : digitB d = true
    · rw [List.takeWhile_cons, if_pos h] at hc
      rcases List.mem_cons.1 hc with rfl | hc
      · exact h
      · exact ih hc
    · rw [List.takeWhile_cons, if_neg h] at hc
      simp at hc
end Go.Proofs.YtfemddchaihokaaDoor
