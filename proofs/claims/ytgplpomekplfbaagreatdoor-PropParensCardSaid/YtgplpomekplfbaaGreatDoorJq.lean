/-
  PropParens at every input.
-/
import Derived.Test.YtgplpomekplfbaaGreatDoorJp
namespace Go.Proofs.YtgplpomekplfbaaGreatDoor
open Go.RowKit Go.Sort
theorem pparens_yes (s t : ByteArray) (d : Int) (w : World) (hG : GlobS w) (hs : s.size ≤ 140737488355328) (ht : t.size ≤ 140737488355328) : Calls Tryz.prog 6 #[.string s, .string t, .int .i64 d] w (LawF w) := by
  cases h : skipF s t d with
  | true => exact pparens_skip s t d w hG hs ht h
  | false =>
    simp only [skipF, Bool.or_eq_false_iff, decide_eq_false_iff_not] at h
    obtain ⟨⟨⟨⟨h1, h2⟩, h3⟩, h4⟩, h5⟩ := h
    obtain ⟨D, rfl⟩ : ∃ D : Nat, d = (D : Int) := ⟨d.toNat, by omega⟩
    have hx : GoesF s t D := ⟨by omega, by omega, by omega, h4, h5⟩
    cases hp : parseF D s.data.toList with
    | er c q => exact pparens_fail s t D w hG hx hp
    | ok f =>
      cases hq : parseF D t.data.toList with
      | er c q => exact pparens_mid s t D w hG hx hp hq
      | ok y => exact pparens_ok s t D w hG hx hp hq
end Go.Proofs.YtgplpomekplfbaaGreatDoor
