/-
  What is told, and how many there are, depends on no place.
-/
import Derived.Test.YtmgjpjjglghbaaaGreatDoorQV
namespace Go.Proofs.YtmgjpjjglghbaaaGreatDoor
theorem op_bare (e : Ex) : e.bare.op = e.op := by cases e <;> rfl
theorem shw_bare : ∀ e : Ex, shw e.bare = shw e
  | .leaf _ _ _ _ => rfl
  | .un op a p => by simp only [Ex.bare, shw]; rw [op_bare, shw_bare a]
  | .bin op a b p => by simp only [Ex.bare, shw]; rw [op_bare, op_bare, shw_bare a, shw_bare b]
  | .cond a b c p => by simp only [Ex.bare, shw]; rw [op_bare, shw_bare a, shw_bare b, shw_bare c]
theorem size_bare : ∀ e : Ex, e.bare.size = e.size
  | .leaf _ _ _ _ => rfl
  | .un op a p => by simp only [Ex.bare, Ex.size]; rw [size_bare a]
  | .bin op a b p => by simp only [Ex.bare, Ex.size]; rw [size_bare a, size_bare b]
  | .cond a b c p => by simp only [Ex.bare, Ex.size]; rw [size_bare a, size_bare b, size_bare c]
theorem shw_same {a b : Ex} (h : a.bare = b.bare) : shw a = shw b := by rw [← shw_bare a, h, shw_bare]
theorem size_same {a b : Ex} (h : a.bare = b.bare) : a.size = b.size := by rw [← size_bare a, h, size_bare]
theorem nd_bare : ∀ e : Ex, nd e.bare = nd e
  | .leaf _ _ _ _ => rfl
  | .un op a p => by simp only [Ex.bare, nd]; rw [op_bare, nd_bare a]
  | .bin op a b p => by simp only [Ex.bare, nd]; rw [op_bare, op_bare, nd_bare a, nd_bare b]
  | .cond a b c p => by simp only [Ex.bare, nd]; rw [op_bare, nd_bare a, nd_bare b, nd_bare c]
/-- Two that are told alike, of which both can be read, are the same but for places. -/
theorem shw_inj {a b : Ex} (ha : Ok a) (hb : Ok b) (h : shw a = shw b) : a.bare = b.bare := by
  obtain ⟨x, r, h1, h2⟩ := parse_shw (D := 1 + nd a + nd b) ha (by omega)
  obtain ⟨y, r', h3, h4⟩ := parse_shw (D := 1 + nd a + nd b) hb (by omega)
  rw [h, h3] at h1
  injection h1 with h5 _
  rw [← h2, ← h5, h4]
end Go.Proofs.YtmgjpjjglghbaaaGreatDoor
