/-
  Who looks as far ahead as there are places has looked far enough.
-/
import Derived.Test.YtkddaobbjfnckaaGreatDoorO2
namespace Go.Proofs.YtkddaobbjfnckaaGreatDoor

section
variable {A B : Nat → Prop} {n a i k : Nat}
theorem Per.norm {p : Nat} (hA : Per a p A) : ∀ (d i : Nat), i = a + d → (A i ↔ A (a + d % p)) := by
  intro d
  induction d using Nat.strongRecOn with
  | _ d ih =>
    rintro i rfl
    by_cases hp : p = 0
    · subst hp; rw [Nat.mod_zero]
    · by_cases hd : d < p
      · rw [Nat.mod_eq_of_lt hd]
      · rw [Nat.mod_eq_sub_mod (by omega), ← ih (d - p) (by omega) _ rfl, ← hA (a + (d - p)) (by omega), show a + (d - p) + p = a + d by omega]
theorem unt_yes (h : ∀ j, j < k → A (i + j)) (hb : B (i + k)) : unt A B i := ⟨i + k, by omega, hb, fun j h1 h2 => by
  have := h (j - i) (by omega)
  rwa [show i + (j - i) = j by omega] at this⟩
theorem wnt_no (h : ∀ j, j < k → ¬ B (i + j)) (hb : ¬ B (i + k)) (ha : ¬ A (i + k)) : ¬ wnt A B i := by
  rintro (⟨m, h1, h2, h3⟩ | h1)
  · rcases Nat.lt_or_ge (i + k) m with h4 | h4
    · exact ha (h3 _ (by omega) h4)
    · rcases Nat.eq_or_lt_of_le h4 with h5 | h5
      · subst h5; exact hb h2
      · have := h (m - i) (by omega)
        rw [show i + (m - i) = m by omega] at this
        exact this h2
  · exact ha (h1 _ (by omega))
theorem unt_no (h : ∀ j, j < k → ¬ B (i + j)) (hb : ¬ B (i + k)) (ha : ¬ A (i + k)) : ¬ unt A B i := fun h1 => wnt_no h hb ha (.inl h1)
theorem unt_end (ha : a < n) (hB : Per a (n - a) B) (h : ∀ j, j < n → ¬ B (i + j)) : ¬ unt A B i := by
  intro h1
  obtain ⟨k, h2, h3, h4, _⟩ := hB.soon (by omega) h1
  have := h (k - i) (by omega)
  rw [show i + (k - i) = k by omega] at this
  exact this h4
theorem all_end (ha : a < n) (hA : Per a (n - a) A) (h : ∀ j, j < n → A (i + j)) : ∀ k, i ≤ k → A k := by
  refine hA.ever (by omega) fun k h1 h2 => ?_
  have := h (k - i) (by omega)
  rwa [show i + (k - i) = k by omega] at this
theorem wnt_end (ha : a < n) (hA : Per a (n - a) A) (h : ∀ j, j < n → A (i + j)) : wnt A B i := .inr (all_end ha hA h)
end
end Go.Proofs.YtkddaobbjfnckaaGreatDoor
