/-
  A formula's labels as a set, and in order.
-/
import Derived.Test.YtjhicgllofjpoaaGreatDoorJa
import Derived.Sort.KeysCollected
import Derived.Maps.OwnSet
namespace Go.Proofs.YtjhicgllofjpoaaGreatDoor
open Go.RowKit Go.Maps Go.Sort

/-- Texts as a set. -/
def lbD (l : List (List UInt8)) : DataW Unit := setOf (.agg []) (l.map Lit.string)
theorem lbD_nil : lbD [] = .map [] := rfl
theorem lbD_snoc (l : List (List UInt8)) (x : List UInt8) : lbD (l ++ [x]) = (lbD l).put (.string x) (.agg []) := by
  unfold lbD
  rw [List.map_append, List.map_cons, List.map_nil, setOf_snoc]
/-- .. and in order. -/
def lbK (l : List (List UInt8)) : List (List UInt8) := (strKeys (lbD l)).mergeSort (fun x y => decide (x ≤ y))
theorem lbK_perm {l ss : List (List UInt8)} (h : ss.Perm (strKeys (lbD l))) : ss.mergeSort (fun x y => decide (x ≤ y)) = lbK l := mergeSort_of_perm h
theorem lbK_len {l ss : List (List UInt8)} (h : ss.Perm (strKeys (lbD l))) : ss.length = (lbK l).length := by
  rw [h.length_eq, lbK, List.length_mergeSort]
theorem lbK_asc {P : Program} {k : TypeId} {R : Value → Option (DataW Unit × List MemPlace)} {w : World} {b n : Nat} {l : List (List UInt8)} (hown : w.ownsMap P k R b n (lbD l)) (K : Keyed P k) (hk : P.underlying k = some .string) : (lbK l).Pairwise (fun x y => x < y) := by
  obtain ⟨es, he, hkeys⟩ := hown.keysOf
  obtain ⟨es', he', hp⟩ := hown.tidy K
  have e0 : es' = es := by rw [he] at he'; injection he' with h; exact h.symm
  subst e0
  have hstr : ∀ p ∈ es', ∃ x : List UInt8, p.1 = .string x := by
    intro p hp'
    obtain ⟨key, hkey⟩ := hkeys p hp'
    obtain ⟨x, _, h2, _⟩ := keyOf_str hk hkey
    exact ⟨x, h2⟩
  have hnd : (strKeys (lbD l)).Nodup := by
    rw [he]
    show (es'.map fun p => strOf p.1).Nodup
    refine List.pairwise_map.2 (hp.imp_of_mem fun {p q} hp' hq' hne e => hne ?_)
    obtain ⟨a, ha⟩ := hstr p hp'
    obtain ⟨b, hb⟩ := hstr q hq'
    rw [ha, hb] at e ⊢
    exact congrArg _ e
  have tr : ∀ a b c : List UInt8, decide (a ≤ b) = true → decide (b ≤ c) = true → decide (a ≤ c) = true := fun a b c h1 h2 => by simp only [decide_eq_true_eq] at *; exact List.le_trans h1 h2
  have to : ∀ a b : List UInt8, (decide (a ≤ b) || decide (b ≤ a)) = true := fun a b => by simp only [Bool.or_eq_true, decide_eq_true_eq]; exact List.le_total a b
  have h1 : (lbK l).Pairwise (fun x y => decide (x ≤ y) = true) := List.pairwise_mergeSort tr to _
  have h2 : (lbK l).Nodup := (List.mergeSort_perm (strKeys (lbD l)) (fun x y => decide (x ≤ y))).nodup_iff.2 hnd
  refine (h1.and h2).imp fun {a b} h => ?_
  have h3 : a ≤ b := by simpa using h.1
  rcases Classical.em (a < b) with h4 | h4
  · exact h4
  · exact absurd (List.le_antisymm h3 (List.not_lt.1 h4)) h.2
theorem lbs_ab : lbK [[97], [98]] = [[97], [98]] := by
  have e : strKeys (lbD [[97], [98]]) = [[97], [98]] := rfl
  unfold lbK
  rw [e]
  exact List.mergeSort_of_pairwise (by decide)
end Go.Proofs.YtjhicgllofjpoaaGreatDoor
