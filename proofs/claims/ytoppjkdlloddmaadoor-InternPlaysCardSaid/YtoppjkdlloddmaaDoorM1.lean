/-
  Plain mathematics under the table of vectors: a vector's hash, the last number below one that has a property, and what it is that the chains of a table hold; no program is named here.
-/
import Derived.Lib.Hide
namespace Go.Proofs.YtoppjkdlloddmaaDoor

def hstep (h : Nat) (x : Int) : Nat := (h + (x % 4294967296).toNat) * 1640531527 % 4294967311
def hashN (xs : List Int) : Nat := xs.foldl hstep 1
theorem hstep_lt (h : Nat) (x : Int) : hstep h x < 4294967311 := by
  unfold hstep
  generalize (h + (x % 4294967296).toNat) * 1640531527 = y
  omega
theorem hashN_snoc (xs : List Int) (x : Int) : hashN (xs ++ [x]) = hstep (hashN xs) x := by
  unfold hashN
  rw [List.foldl_append, List.foldl_cons, List.foldl_nil]
theorem hashN_lt (xs : List Int) : hashN xs < 4294967311 := by
  rcases List.eq_nil_or_concat xs with rfl | ⟨l, x, rfl⟩
  · rw [show hashN [] = 1 from rfl]; omega
  · rw [List.concat_eq_append, hashN_snoc]; exact hstep_lt _ _

/-- The last one below n that has p; none: -1. -/
def lastP (p : Nat → Bool) : Nat → Int
  | 0 => -1
  | n + 1 => if p n then (n : Int) else lastP p n
theorem lastP_cases (p : Nat → Bool) : ∀ n, (lastP p n = -1 ∧ ∀ j, j < n → p j = false) ∨ (∃ k : Nat, lastP p n = (k : Int) ∧ k < n ∧ p k = true ∧ ∀ j, k < j → j < n → p j = false) := by
  intro n
  induction n with
  | zero => exact .inl ⟨rfl, fun j hj => by omega⟩
  | succ n ih =>
    unfold lastP
    cases hp : p n with
    | true => exact .inr ⟨n, by simp, by omega, hp, fun j h1 h2 => by omega⟩
    | false =>
      rcases ih with ⟨h1, h2⟩ | ⟨k, h1, h2, h3, h4⟩
      · refine .inl ⟨by simpa using h1, fun j hj => ?_⟩
        rcases Nat.lt_or_ge j n with h | h
        · exact h2 j h
        · rw [show j = n by omega]; exact hp
      · refine .inr ⟨k, by simpa using h1, by omega, h3, fun j h5 h6 => ?_⟩
        rcases Nat.lt_or_ge j n with h | h
        · exact h4 j h5 h
        · rw [show j = n by omega]; exact hp
theorem lastP_congr {p q : Nat → Bool} : ∀ {n : Nat}, (∀ j, j < n → p j = q j) → lastP p n = lastP q n := by
  intro n
  induction n with
  | zero => intro _; rfl
  | succ n ih =>
    intro h
    unfold lastP
    rw [h n (by omega), ih fun j hj => h j (by omega)]

/-- The chain of a number's vector. -/
def plf (vs : List (List Int)) (m j : Nat) : Nat := hashN (vs.getD j []) % m
def Chained (vs : List (List Int)) (m : Nat) (nx hs : Nat → Int) (k : Nat) : Prop :=
  (∀ p, p < m → hs p = lastP (fun j => decide (plf vs m j = p)) k) ∧ ∀ j, j < k → nx j = lastP (fun i => decide (plf vs m i = plf vs m j)) j
def upd (f : Nat → Int) (k : Nat) (x : Int) : Nat → Int := fun j => if j = k then x else f j
theorem upd_same (f : Nat → Int) (k : Nat) (x : Int) : upd f k x k = x := by simp [upd]
theorem upd_far (f : Nat → Int) (k j : Nat) (x : Int) (h : j ≠ k) : upd f k x j = f j := by simp [upd, h]

theorem Chained.zero (vs : List (List Int)) (m : Nat) (nx : Nat → Int) {hs : Nat → Int} (h : ∀ p, p < m → hs p = -1) : Chained vs m nx hs 0 :=
  ⟨fun p hp => by rw [h p hp]; rfl, fun j hj => by omega⟩
theorem Chained.step {vs : List (List Int)} {m : Nat} {nx hs : Nat → Int} {k : Nat} (h : Chained vs m nx hs k) (hm : 0 < m) :
    Chained vs m (upd nx k (hs (plf vs m k))) (upd hs (plf vs m k) (k : Int)) (k + 1) := by
  have hlt : plf vs m k < m := Nat.mod_lt _ hm
  constructor
  · intro p hp
    unfold lastP
    by_cases he : plf vs m k = p
    · subst he; rw [upd_same]; simp
    · rw [upd_far _ _ _ _ (fun e => he e.symm), h.1 p hp]; simp [he]
  · intro j hj
    by_cases he : j = k
    · subst he; rw [upd_same, h.1 _ hlt]
    · rw [upd_far _ _ _ _ he]; exact h.2 j (by omega)
theorem getD_snoc_lt (vs : List (List Int)) (xs : List Int) (j : Nat) (h : j < vs.length) : (vs ++ [xs]).getD j [] = vs.getD j [] := by
  simp [List.getD_eq_getElem?_getD, List.getElem?_append_left h]
theorem getD_snoc_at (vs : List (List Int)) (xs : List Int) : (vs ++ [xs]).getD vs.length [] = xs := by
  simp [List.getD_eq_getElem?_getD]
theorem plf_snoc (vs : List (List Int)) (xs : List Int) (m j : Nat) (h : j < vs.length) : plf (vs ++ [xs]) m j = plf vs m j := by
  unfold plf; rw [getD_snoc_lt vs xs j h]
theorem Chained.snoc {vs : List (List Int)} {m : Nat} {nx hs nx' : Nat → Int} (h : Chained vs m nx hs vs.length) (xs : List Int) (hn : ∀ j, j < vs.length → nx' j = nx j) : Chained (vs ++ [xs]) m nx' hs vs.length := by
  constructor
  · intro p hp
    rw [h.1 p hp]
    exact lastP_congr fun j hj => by rw [plf_snoc vs xs m j hj]
  · intro j hj
    rw [hn j hj, h.2 j hj]
    exact lastP_congr fun i hi => by rw [plf_snoc vs xs m i (by omega), plf_snoc vs xs m j hj]

/-- What a look along a chain has come to. -/
def Passed (vs : List (List Int)) (xs : List Int) (k : Nat) : Prop := ∀ j, k ≤ j → j < vs.length → vs.getD j [] ≠ xs
theorem passed_end {vs : List (List Int)} {xs : List Int} {m k : Nat} (hp : Passed vs xs k) (hl : ∀ j, j < k → decide (plf vs m j = hashN xs % m) = false) : ∀ j, j < vs.length → vs.getD j [] ≠ xs := by
  intro j hj he
  rcases Nat.lt_or_ge j k with h | h
  · have := hl j h
    rw [decide_eq_false_iff_not] at this
    exact this (by unfold plf; rw [he])
  · exact hp j h hj he
theorem passed_step {vs : List (List Int)} {xs : List Int} {m k i : Nat} (hp : Passed vs xs k) (hne : vs.getD i [] ≠ xs) (hl : ∀ j, i < j → j < k → decide (plf vs m j = hashN xs % m) = false) : Passed vs xs i := by
  intro j hj hlt he
  rcases Nat.lt_or_ge j k with h | h
  · rcases Nat.eq_or_lt_of_le hj with rfl | hij
    · exact hne he
    · have := hl j hij h
      rw [decide_eq_false_iff_not] at this
      exact this (by unfold plf; rw [he])
  · exact hp j h hlt he
end Go.Proofs.YtoppjkdlloddmaaDoor
