/-
  The document's labels of a formula: each put in its place; they are the program's. Plain lists, nothing of the program.
-/
import Derived.Test.YtjhicgllofjpoaaGreatDoorJD
namespace Go.Proofs.YtjhicgllofjpoaaGreatDoor
open Go.Maps

/-- A text in its place, once. -/
def putL : List (List UInt8) → List UInt8 → List (List UInt8)
  | [], s => [s]
  | x :: r, s => if x < s then x :: putL r s else if x = s then x :: r else s :: x :: r
/-- What the loop of put finds: all ahead are less, the one there is not. -/
theorem putL_at : ∀ (l : List (List UInt8)) (s : List UInt8) (i : Nat), i ≤ l.length → (∀ j (h : j < l.length), j < i → l[j] < s) → (∀ h : i < l.length, ¬ l[i] < s) → putL l s = if ∃ h : i < l.length, l[i] = s then l else l.take i ++ [s] ++ l.drop i
  | [], s, i, hi, _, _ => by
    have : i = 0 := by simpa using hi
    subst this
    rw [if_neg (by rintro ⟨h, _⟩; exact absurd h (by simp))]
    rfl
  | x :: r, s, 0, _, _, h2 => by
    have h2 : ¬ x < s := h2 (by simp)
    by_cases he : x = s
    · rw [if_pos ⟨by simp, he⟩, putL, if_neg h2, if_pos he]
    · rw [if_neg (by rintro ⟨_, h⟩; exact he h), putL, if_neg h2, if_neg he]
      rfl
  | x :: r, s, i + 1, hi, h1, h2 => by
    have hx : x < s := h1 0 (by simp) (by omega)
    have ih := putL_at r s i (by simpa using hi) (fun j h hj => h1 (j + 1) (by simpa using h) (by omega)) (fun h => h2 (by simpa using h))
    rw [putL, if_pos hx, ih]
    by_cases he : ∃ h : i < r.length, r[i] = s
    · rw [if_pos he, if_pos (by obtain ⟨h, h'⟩ := he; exact ⟨by simpa using h, h'⟩)]
    · rw [if_neg he, if_neg (by rintro ⟨h, h'⟩; exact he ⟨by simpa using h, h'⟩)]
      rfl
theorem putL_mem : ∀ (l : List (List UInt8)) (s y : List UInt8), y ∈ putL l s ↔ y = s ∨ y ∈ l
  | [], s, y => by simp [putL]
  | x :: r, s, y => by
    rw [putL]
    split
    · rw [List.mem_cons, putL_mem r s y, List.mem_cons]
      constructor
      · rintro (h | h | h)
        · exact .inr (.inl h)
        · exact .inl h
        · exact .inr (.inr h)
      · rintro (h | h | h)
        · exact .inr (.inl h)
        · exact .inl h
        · exact .inr (.inr h)
    · split
      · next h => subst h; simp
      · simp
theorem putL_asc : ∀ (l : List (List UInt8)) (s : List UInt8), l.Pairwise (fun x y => x < y) → (putL l s).Pairwise (fun x y => x < y)
  | [], s, _ => by simp [putL]
  | x :: r, s, h => by
    obtain ⟨h1, h2⟩ := List.pairwise_cons.1 h
    rw [putL]
    split
    · next hx =>
      refine List.pairwise_cons.2 ⟨fun y hy => ?_, putL_asc r s h2⟩
      rcases (putL_mem r s y).1 hy with rfl | hy
      · exact hx
      · exact h1 y hy
    · next hx =>
      split
      · exact h
      · next he =>
        have hs : s < x := by
          rcases Classical.em (s < x) with h' | h'
          · exact h'
          · exact absurd (List.le_antisymm (List.not_lt.1 h') (List.not_lt.1 hx)) he
        refine List.pairwise_cons.2 ⟨fun y hy => ?_, h⟩
        rcases List.mem_cons.1 hy with rfl | hy
        · exact hs
        · exact List.lt_trans hs (h1 y hy)
theorem putL_len : ∀ (l : List (List UInt8)) (s : List UInt8), (putL l s).length ≤ l.length + 1
  | [], s => by simp [putL]
  | x :: r, s => by
    have := putL_len r s
    rw [putL]
    split
    · simp only [List.length_cons]; omega
    · split <;> simp only [List.length_cons] <;> omega
/-- The document's labels. -/
def lbR : Fo → List (List UInt8)
  | .leaf op nm _ => if op = opLab then [nm] else []
  | .un _ a _ => (lbR a).foldl putL []
  | .bin _ a b _ => (lbR b).foldl putL ((lbR a).foldl putL [])
theorem fold_mem : ∀ (l acc : List (List UInt8)) (y : List UInt8), y ∈ l.foldl putL acc ↔ y ∈ acc ∨ y ∈ l
  | [], acc, y => by simp
  | x :: l, acc, y => by
    rw [List.foldl_cons, fold_mem l, putL_mem, List.mem_cons]
    constructor
    · rintro ((h | h) | h)
      · exact .inr (.inl h)
      · exact .inl h
      · exact .inr (.inr h)
    · rintro (h | h | h)
      · exact .inl (.inr h)
      · exact .inl (.inl h)
      · exact .inr h
theorem fold_asc : ∀ (l acc : List (List UInt8)), acc.Pairwise (fun x y => x < y) → (l.foldl putL acc).Pairwise (fun x y => x < y)
  | [], _, h => h
  | x :: l, acc, h => fold_asc l _ (putL_asc acc x h)
theorem fold_len : ∀ (l acc : List (List UInt8)), (l.foldl putL acc).length ≤ acc.length + l.length
  | [], acc => by simp
  | x :: l, acc => by
    have h1 := fold_len l (putL acc x)
    have h2 := putL_len acc x
    rw [List.foldl_cons, List.length_cons]
    omega
theorem lbR_mem : ∀ (x : Fo) (y : List UInt8), y ∈ lbR x ↔ y ∈ lbs x
  | .leaf op nm p, y => by rw [lbR, lbs]
  | .un _ a _, y => by rw [lbR, lbs, fold_mem, lbR_mem a y]; simp
  | .bin _ a b _, y => by rw [lbR, lbs, fold_mem, fold_mem, lbR_mem a y, lbR_mem b y]; simp
theorem lbR_asc : ∀ (x : Fo), (lbR x).Pairwise (fun x y => x < y)
  | .leaf op nm p => by rw [lbR]; split <;> simp
  | .un _ a _ => fold_asc _ _ List.Pairwise.nil
  | .bin _ a b _ => fold_asc _ _ (fold_asc _ _ List.Pairwise.nil)
theorem lbR_len : ∀ (x : Fo), (lbR x).length ≤ x.size
  | .leaf op nm p => by rw [lbR, Fo.size]; split <;> simp
  | .un _ a _ => by
    have h1 := fold_len (lbR a) []
    have h2 := lbR_len a
    rw [lbR, Fo.size]
    simp only [List.length_nil] at h1
    omega
  | .bin _ a b _ => by
    have h1 := fold_len (lbR a) []
    have h2 := fold_len (lbR b) ((lbR a).foldl putL [])
    have h3 := lbR_len a
    have h4 := lbR_len b
    rw [lbR, Fo.size]
    simp only [List.length_nil] at h1
    omega
theorem keys_str {H : Type} (u : DataW H) : ∀ (l : List (List UInt8)) (es : List (Lit × DataW H)), (∀ p ∈ es, ∃ x, p.1 = .string x) → ∃ es', (l.map Lit.string).foldl (fun m x => DataW.put m x u) (.map es) = .map es' ∧ ∀ p ∈ es', ∃ x, p.1 = .string x
  | [], es, h => ⟨es, rfl, h⟩
  | x :: l, es, h => by
    rw [List.map_cons, List.foldl_cons]
    refine keys_str u l _ fun p hp => ?_
    rcases List.mem_cons.1 ((Go.WideShapes.insert_perm _ _).mem_iff.1 hp) with rfl | hp
    · exact ⟨x, rfl⟩
    · exact h p (List.mem_filter.1 hp).1
theorem lbR_lbK (x : Fo) : lbK (lbs x) = lbR x := by
  have hk : ∀ y ∈ (lbs x).map Lit.string, WideAt.IsKeyLit y := fun y hy => by
    obtain ⟨z, _, rfl⟩ := List.mem_map.1 hy
    trivial
  obtain ⟨es, he, hp⟩ := tidy_setOf (.agg [] : DataW Unit) ((lbs x).map Lit.string) hk
  obtain ⟨es', he', hs⟩ := keys_str (.agg [] : DataW Unit) (lbs x) [] (fun p hp => absurd hp (by simp))
  have e0 : es' = es := by
    have : DataW.map es' = DataW.map es := he'.symm.trans he
    injection this
  subst e0
  have hD : lbD (lbs x) = .map es' := he
  have hnd : (lbR x).Nodup := (lbR_asc x).imp fun {a b} h e => by subst e; exact absurd h (List.lt_irrefl _)
  have hperm := perm_strKeys hp hs hnd (fun y => by
    rw [lbR_mem, ← he, has_setOf _ _ _ hk, List.any_map, List.any_eq_true]
    constructor
    · intro h
      exact ⟨y, h, by simp [Lit.sameKey]⟩
    · rintro ⟨z, hz, h⟩
      have : z = y := by simpa [Lit.sameKey] using h
      rw [← this]
      exact hz)
  rw [← hD] at hperm
  rw [← lbK_perm hperm]
  exact List.mergeSort_of_pairwise ((lbR_asc x).imp fun {a b} h => by simpa using List.le_of_lt h)
end Go.Proofs.YtjhicgllofjpoaaGreatDoor
