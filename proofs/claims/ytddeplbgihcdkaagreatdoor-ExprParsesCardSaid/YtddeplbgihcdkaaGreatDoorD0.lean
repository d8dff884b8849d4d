/-
  The document's ranks, numbers and shapes: plain lists.
-/
import Derived.Test.YtddeplbgihcdkaaGreatDoorQW
namespace Go.Proofs.YtddeplbgihcdkaaGreatDoor

def rkL : Nat → List (List UInt8)
  | 0 => [[63]]
  | 1 => [[61, 62]]
  | 2 => [[124]]
  | 3 => [[38]]
  | 4 => [[33]]
  | 5 => [[61], [33, 61], [60], [60, 61], [62], [62, 61]]
  | 6 => [[43], [45]]
  | 7 => [[42]]
  | 8 => [[110, 101, 103]]
  | _ => []
theorem rk_mem (x : List UInt8) (k : Nat) (hk : k < 9) : x ∈ rkL k ↔ rk x = k := by
  constructor
  · intro h
    have : k = 0 ∨ k = 1 ∨ k = 2 ∨ k = 3 ∨ k = 4 ∨ k = 5 ∨ k = 6 ∨ k = 7 ∨ k = 8 := by omega
    rcases this with rfl | rfl | rfl | rfl | rfl | rfl | rfl | rfl | rfl <;>
      (simp only [rkL, List.mem_cons, List.not_mem_nil, or_false] at h) <;>
      (repeat' (rcases h with rfl | h)) <;> (first | (subst h; decide) | decide)
  · intro h
    unfold rk at h
    split at h
    · subst h; rename_i e; subst e; decide
    split at h
    · subst h; rename_i e; subst e; decide
    split at h
    · subst h; rename_i e; subst e; decide
    split at h
    · subst h; rename_i e; subst e; decide
    split at h
    · subst h; rename_i e; subst e; decide
    split at h
    · subst h; rename_i e
      simp only [cmpB, Bool.or_eq_true, beq_iff_eq] at e
      rcases e with ((((rfl | rfl) | rfl) | rfl) | rfl) | rfl <;> decide
    split at h
    · subst h; rename_i e
      rcases e with rfl | rfl <;> decide
    split at h
    · subst h; rename_i e; subst e; decide
    split at h
    · subst h; rename_i e; subst e; decide
    omega
theorem dgs_lt {n : Nat} (h : n < 10) (t : List UInt8) : UInt8.ofNat (48 + n) :: t = dgs n ++ t := by rw [dgs_small h]; rfl
theorem dgs_ge {n : Nat} (h : ¬ n < 10) (t : List UInt8) : dgs (n / 10) ++ UInt8.ofNat (48 + n % 10) :: t = dgs n ++ t := by
  have e : dgs n = dgs (n / 10) ++ [UInt8.ofNat (48 + n % 10)] := by unfold dgs; rw [Lib.decDigits, dif_neg h]
  rw [e, List.append_assoc]; rfl
/-- All of an expression, with places. -/
def shp : Ex → List UInt8
  | .leaf op nm n p => 40 :: (op ++ 32 :: (nm ++ 32 :: (dgs n ++ 32 :: (dgs p ++ [41]))))
  | .un op a p => 40 :: (op ++ 32 :: 32 :: (dgs 0 ++ 32 :: (dgs p ++ (shp a ++ [41]))))
  | .bin op a b p => 40 :: (op ++ 32 :: 32 :: (dgs 0 ++ 32 :: (dgs p ++ (shp a ++ (shp b ++ [41])))))
  | .cond a b c p => 40 :: ([63] ++ 32 :: 32 :: (dgs 0 ++ 32 :: (dgs p ++ (shp a ++ (shp b ++ (shp c ++ [41]))))))
end Go.Proofs.YtddeplbgihcdkaaGreatDoor
