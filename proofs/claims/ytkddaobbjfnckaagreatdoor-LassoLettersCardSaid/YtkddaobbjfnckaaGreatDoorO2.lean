/-
  The word of a stem and a loop; the same word told otherwise; which formulas can be asked over names; what follows of it all.
-/
import Derived.Test.YtkddaobbjfnckaaGreatDoorO1
namespace Go.Proofs.YtkddaobbjfnckaaGreatDoor

/-- The i-th letter. -/
def wl (s l : List Int) (i : Nat) : Int := if i < s.length then s.getD i 0 else l.getD ((i - s.length) % l.length) 0
def shS (s : List Int) : List Int := s.tail
def shL (s l : List Int) : List Int := if s = [] then l.tail ++ l.take 1 else l
theorem getD_app {α : Type} {l r : List α} {i : Nat} {x : α} : (l ++ r).getD i x = if i < l.length then l.getD i x else r.getD (i - l.length) x := by
  simp only [List.getD_eq_getElem?_getD, List.getElem?_append]
  split <;> rfl
theorem getD_tail {α : Type} {l : List α} {i : Nat} {x : α} : l.tail.getD i x = l.getD (i + 1) x := by
  simp only [List.getD_eq_getElem?_getD, List.getElem?_tail]
theorem mod_dbl (k m : Nat) : k % (m + m) = k % m ∨ k % (m + m) = k % m + m := by
  have h : k % (m + m) % m = k % m := by rw [show m + m = 2 * m by omega]; exact Nat.mod_mul_left_mod _ _ _
  rcases Nat.eq_zero_or_pos m with rfl | hm
  · left; rfl
  · have h1 : k % (m + m) < m + m := Nat.mod_lt _ (by omega)
    by_cases h2 : k % (m + m) < m
    · left; rw [← h, Nat.mod_eq_of_lt h2]
    · right
      generalize k % (m + m) = q at *
      rw [← h, Nat.mod_eq_sub_mod (by omega), Nat.mod_eq_of_lt (by omega)]; omega
theorem loop_dbl {l : List Int} (hl : l ≠ []) (k : Nat) : (l ++ l).getD (k % (l ++ l).length) 0 = l.getD (k % l.length) 0 := by
  have hm : 0 < l.length := List.length_pos_iff.2 hl
  have h0 := Nat.mod_lt k hm
  rw [List.length_append, getD_app]
  rcases mod_dbl k l.length with h | h
  · rw [h, if_pos h0]
  · rw [h, if_neg (by omega), Nat.add_sub_cancel]
theorem mod_succ (k m : Nat) (hm : 0 < m) : (k + 1) % m = if k % m + 1 = m then 0 else k % m + 1 := by
  have h0 := Nat.mod_lt k hm
  rw [Nat.add_mod]
  split
  · next h =>
    rcases Nat.lt_or_ge 1 m with h1 | h1
    · rw [Nat.mod_eq_of_lt h1, h, Nat.mod_self]
    · obtain rfl : m = 1 := by omega
      omega
  · next h =>
    rw [Nat.mod_eq_of_lt (show 1 < m by omega), Nat.mod_eq_of_lt (by omega)]
theorem loop_turn {l : List Int} (hl : l ≠ []) (k : Nat) : (l.tail ++ l.take 1).getD (k % l.length) 0 = l.getD ((k + 1) % l.length) 0 := by
  obtain ⟨x, r, rfl⟩ := List.exists_cons_of_ne_nil hl
  have h0 := Nat.mod_lt k (show 0 < r.length + 1 by omega)
  show (r ++ [x]).getD (k % (r.length + 1)) 0 = (x :: r).getD ((k + 1) % (r.length + 1)) 0
  rw [mod_succ _ _ (by omega), getD_app]
  by_cases h : k % (r.length + 1) < r.length
  · rw [if_pos h, if_neg (by omega)]
    rfl
  · rw [if_neg h, if_pos (by omega), show k % (r.length + 1) - r.length = 0 by omega]
    rfl
theorem turn_len {l : List Int} (hl : l ≠ []) : (l.tail ++ l.take 1).length = l.length := by
  obtain ⟨x, r, rfl⟩ := List.exists_cons_of_ne_nil hl
  simp
theorem wl_shift {s l : List Int} (h : s ≠ [] ∨ l ≠ []) (i : Nat) : wl (shS s) (shL s l) i = wl s l (i + 1) := by
  unfold wl shS shL
  cases s with
  | nil =>
    have hl : l ≠ [] := h.resolve_left (fun h => h rfl)
    simp only [if_true, List.tail_nil, List.length_nil, Nat.not_lt_zero, if_false, Nat.sub_zero]
    rw [turn_len hl, loop_turn hl]
  | cons x s =>
    simp only [List.tail_cons, List.length_cons, List.getD_cons_succ, reduceCtorEq, if_false]
    by_cases hi : i < s.length
    · rw [if_pos hi, if_pos (by omega)]
    · rw [if_neg hi, if_neg (by omega), show i + 1 - (s.length + 1) = i - s.length by omega]
theorem shL_len {s l : List Int} : (shL s l).length = l.length := by
  unfold shL
  split
  · rcases List.eq_nil_or_concat l with rfl | h
    · rfl
    · exact turn_len (by rintro rfl; obtain ⟨_, _, h⟩ := h; simp at h)
  · rfl
theorem wl_turn {s l : List Int} (hl : l ≠ []) (i : Nat) : wl (s ++ l.take 1) (l.tail ++ l.take 1) i = wl s l i := by
  have h1 : (l.take 1).length = 1 := by
    obtain ⟨x, r, rfl⟩ := List.exists_cons_of_ne_nil hl
    rfl
  unfold wl
  rw [List.length_append, h1, turn_len hl, getD_app]
  by_cases hi : i < s.length
  · rw [if_pos hi, if_pos (by omega), if_pos hi]
  · rw [if_neg hi, if_neg hi]
    split
    · next h =>
      have : i = s.length := by omega
      subst this
      obtain ⟨x, r, rfl⟩ := List.exists_cons_of_ne_nil hl
      simp
    · next h =>
      rw [loop_turn hl, show i - (s.length + 1) + 1 = i - s.length by omega]
theorem wl_dbl {s l : List Int} (hl : l ≠ []) (i : Nat) : wl s (l ++ l) i = wl s l i := by
  unfold wl
  rw [loop_dbl hl]
theorem wl_long {s l : List Int} (hl : l ≠ []) (i : Nat) : wl (s ++ l) (l ++ l) i = wl s l i := by
  unfold wl
  have hm : 0 < l.length := List.length_pos_iff.2 hl
  rw [loop_dbl hl, List.length_append, getD_app]
  by_cases hi : i < s.length
  · rw [if_pos hi, if_pos (by omega), if_pos hi]
  · rw [if_neg hi, if_neg hi]
    split
    · next h => rw [Nat.mod_eq_of_lt (show i - s.length < l.length by omega)]
    · next h => rw [show i - (s.length + l.length) = i - s.length - l.length by omega, ← Nat.mod_eq_sub_mod (by omega)]
theorem wl_per {s l : List Int} (i : Nat) (hi : s.length ≤ i) : wl s l (i + l.length) = wl s l i := by
  unfold wl
  rw [if_neg (by omega), if_neg (by omega), show i + l.length - s.length = i - s.length + l.length by omega, Nat.add_mod_right]
/-- The letters one behind the other. -/
theorem wl_app {s l : List Int} (i : Nat) (hi : i < s.length + l.length) : (s ++ l).getD i 0 = wl s l i := by
  unfold wl
  rw [getD_app]
  split
  · rfl
  · rw [Nat.mod_eq_of_lt (by omega)]
/-- A name holds. -/
def posO (l : List ByteArray) (x : ByteArray) : Nat := l.findIdx fun y => decide (y = x)
def LN (N : List ByteArray) (σ : Nat → Int) (nm : List UInt8) (i : Nat) : Prop := (σ i).toNat.testBit (posO N ⟨nm.toArray⟩) = true
theorem ln_per {N : List ByteArray} {s l : List Int} (nm : List UInt8) : Per s.length l.length (LN N (wl s l) nm) := fun i hi => by
  unfold LN
  rw [wl_per i hi]
/-- Are a formula's labels among names? -/
noncomputable def hdO (N : List ByteArray) (f : Fo) : Bool := @decide (∀ nm ∈ lbs f, (⟨nm.toArray⟩ : ByteArray) ∈ N) (Classical.propDecidable _)
theorem hd_iff {N : List ByteArray} {f : Fo} : hdO N f = true ↔ ∀ nm ∈ lbs f, (⟨nm.toArray⟩ : ByteArray) ∈ N := by
  unfold hdO
  exact @decide_eq_true_iff _ (Classical.propDecidable _)
/-- Does it hold of a word? -/
noncomputable def hv (N : List ByteArray) (σ : Nat → Int) (f : Fo) : Bool := @decide (hdO N f = true ∧ sem (LN N σ) f 0) (Classical.propDecidable _)
theorem hv_iff {N : List ByteArray} {σ : Nat → Int} {f : Fo} : hv N σ f = true ↔ hdO N f = true ∧ sem (LN N σ) f 0 := by
  unfold hv
  exact @decide_eq_true_iff _ (Classical.propDecidable _)
def fUn (op : List UInt8) (f : Fo) : Fo := .un op f 0
def fBin (op : List UInt8) (f g : Fo) : Fo := .bin op f g 0
theorem hd_un {N : List ByteArray} {op : List UInt8} {f : Fo} : hdO N (fUn op f) = hdO N f := rfl
theorem hd_bin {N : List ByteArray} {op : List UInt8} {f g : Fo} : hdO N (fBin op f g) = (hdO N f && hdO N g) := by
  rw [Bool.eq_iff_iff, Bool.and_eq_true, hd_iff, hd_iff, hd_iff]
  simp only [fBin, lbs, List.mem_append]
  exact ⟨fun h => ⟨fun nm hn => h nm (.inl hn), fun nm hn => h nm (.inr hn)⟩, fun h nm hn => hn.elim (h.1 nm) (h.2 nm)⟩
theorem hv_word {N : List ByteArray} {σ τ : Nat → Int} {f : Fo} (h : ∀ i, σ i = τ i) : hv N σ f = hv N τ f := by
  rw [show σ = τ from funext h]
/-- X f of a word, f of the word without its first letter. -/
theorem hv_next {N : List ByteArray} {σ τ : Nat → Int} {f : Fo} (h : ∀ i, τ i = σ (i + 1)) : hv N σ (fUn [88] f) = hv N τ f := by
  rw [Bool.eq_iff_iff, hv_iff, hv_iff, hd_un]
  have h1 : sem (LN N σ) (fUn [88] f) 0 ↔ sem (LN N σ) f (0 + 1) := by simp [fUn, sem]
  rw [h1, sem_add]
  have h2 : (fun nm k => LN N σ nm (k + 1)) = LN N τ := by
    funext nm k
    unfold LN
    rw [h]
  rw [h2]
section
variable {A B : Nat → Prop} {i : Nat}
theorem unt_dual : ¬ unt A B i ↔ wnt (fun k => ¬ B k) (fun k => ¬ A k ∧ ¬ B k) i := by
  constructor
  · intro h
    by_cases hB : ∀ k, i ≤ k → ¬ B k
    · exact .inr hB
    · left
      simp only [Classical.not_forall, Classical.not_not] at hB
      obtain ⟨k, hk, hb⟩ := hB
      induction k using Nat.strongRecOn with
      | _ k ih =>
        by_cases h1 : ∃ j, i ≤ j ∧ j < k ∧ B j
        · obtain ⟨j, h2, h3, h4⟩ := h1
          exact ih j h3 h2 h4
        · have h2 : ∃ j, i ≤ j ∧ j < k ∧ ¬ A j := by
            apply Classical.byContradiction
            intro h2
            exact h ⟨k, hk, hb, fun j h3 h4 => Classical.byContradiction fun h5 => h2 ⟨j, h3, h4, h5⟩⟩
          obtain ⟨j, h3, h4, h5⟩ := h2
          exact ⟨j, h3, ⟨h5, fun h6 => h1 ⟨j, h3, h4, h6⟩⟩, fun m h6 h7 h8 => h1 ⟨m, h6, by omega, h8⟩⟩
  · rintro h ⟨k, h1, h2, h3⟩
    rcases h with ⟨m, h4, ⟨h5, h6⟩, h7⟩ | h
    · rcases Nat.lt_or_ge k m with h8 | h8
      · exact h7 k h1 h8 h2
      · rcases Nat.eq_or_lt_of_le h8 with h9 | h9
        · subst h9; exact h6 h2
        · exact h5 (h3 m h4 h9)
    · exact h k h1 h2
theorem wnt_false : wnt A (fun _ => False) i ↔ ∀ k, i ≤ k → A k := by
  constructor
  · rintro (⟨_, _, h, _⟩ | h)
    · exact h.elim
    · exact h
  · exact .inr
theorem unt_true : unt (fun _ => True) B i ↔ ∃ k, i ≤ k ∧ B k := ⟨fun ⟨k, h1, h2, _⟩ => ⟨k, h1, h2⟩, fun ⟨k, h1, h2⟩ => ⟨k, h1, h2, fun _ _ _ => trivial⟩⟩
end
section
variable {N : List ByteArray} {σ τ : Nat → Int} {f g : Fo}
/-- The laws of U, W, R, F, G. -/
theorem law_shifts (hf : hdO N f = true) (hg : hdO N g = true) :
    hv N σ (fBin [85] f g) ≠ hv N σ (fBin [82] (fUn [33] f) (fUn [33] g)) ∧ hv N σ (fBin [87] f g) = (hv N σ (fBin [85] f g) || hv N σ (fUn [71] f)) ∧ (hv N σ (fBin [85] f g) = true → hv N σ (fUn [70] g) = true) := by
  have e1 : hv N σ (fBin [85] f g) = true ↔ unt (sem (LN N σ) f) (sem (LN N σ) g) 0 := by rw [hv_iff, hd_bin, hf, hg]; simp [fBin, sem]
  have e2 : hv N σ (fBin [82] (fUn [33] f) (fUn [33] g)) = true ↔ wnt (fun k => ¬ sem (LN N σ) g k) (fun k => ¬ sem (LN N σ) f k ∧ ¬ sem (LN N σ) g k) 0 := by
    rw [hv_iff, hd_bin, hd_un, hd_un, hf, hg]; simp [fBin, fUn, sem]
  have e3 : hv N σ (fBin [87] f g) = true ↔ wnt (sem (LN N σ) f) (sem (LN N σ) g) 0 := by rw [hv_iff, hd_bin, hf, hg]; simp [fBin, sem]
  have e4 : hv N σ (fUn [71] f) = true ↔ ∀ k, 0 ≤ k → sem (LN N σ) f k := by rw [hv_iff, hd_un, hf, ← wnt_false]; simp [fUn, sem]
  have e5 : hv N σ (fUn [70] g) = true ↔ ∃ k, 0 ≤ k ∧ sem (LN N σ) g k := by rw [hv_iff, hd_un, hg, ← unt_true]; simp [fUn, sem]
  refine ⟨fun h => ?_, ?_, fun h => ?_⟩
  · rw [← unt_dual, ← e1, ← h] at e2
    exact absurd e2 (by cases hv N σ (fBin [85] f g) <;> simp)
  · rw [Bool.eq_iff_iff, Bool.or_eq_true, e1, e3, e4]; rfl
  · obtain ⟨k, h1, h2, _⟩ := e1.1 h
    exact e5.2 ⟨k, h1, h2⟩
theorem law_turns (hf : hdO N f = true) :
    hv N σ (fUn [70] f) ≠ hv N σ (fUn [71] (fUn [33] f)) ∧ hv N σ (fUn [70] f) = hv N σ (fUn [70] (fUn [70] f)) ∧ hv N σ (fUn [71] f) = hv N σ (fBin [38] f (fUn [88] (fUn [71] f))) ∧
      hv N σ (fUn [70] f) = hv N σ (fBin [124] f (fUn [88] (fUn [70] f))) ∧ (hv N σ (fUn [71] f) = true → hv N σ f = true) ∧ (hv N σ f = true → hv N σ (fUn [70] f) = true) := by
  have e0 : hv N σ f = true ↔ sem (LN N σ) f 0 := by rw [hv_iff, hf]; simp
  have e1 : hv N σ (fUn [70] f) = true ↔ ∃ k, 0 ≤ k ∧ sem (LN N σ) f k := by rw [hv_iff, hd_un, hf, ← unt_true]; simp [fUn, sem]
  have e2 : hv N σ (fUn [71] (fUn [33] f)) = true ↔ ∀ k, 0 ≤ k → ¬ sem (LN N σ) f k := by rw [hv_iff, hd_un, hd_un, hf, ← wnt_false]; simp [fUn, sem]
  have e3 : hv N σ (fUn [70] (fUn [70] f)) = true ↔ ∃ k, 0 ≤ k ∧ ∃ m, k ≤ m ∧ sem (LN N σ) f m := by
    rw [hv_iff, hd_un, hd_un, hf]
    simp only [fUn, sem, true_and]
    simp only [show ([70] : List UInt8) ≠ [33] by decide, show ([70] : List UInt8) ≠ [88] by decide, if_false, if_true, unt_true]
  have e4 : hv N σ (fUn [71] f) = true ↔ ∀ k, 0 ≤ k → sem (LN N σ) f k := by rw [hv_iff, hd_un, hf, ← wnt_false]; simp [fUn, sem]
  have e5 : hv N σ (fBin [38] f (fUn [88] (fUn [71] f))) = true ↔ sem (LN N σ) f 0 ∧ ∀ k, 1 ≤ k → sem (LN N σ) f k := by
    rw [hv_iff, hd_bin, hd_un, hd_un, hf, ← wnt_false (i := 1)]; simp [fBin, fUn, sem]
  have e6 : hv N σ (fBin [124] f (fUn [88] (fUn [70] f))) = true ↔ sem (LN N σ) f 0 ∨ ∃ k, 1 ≤ k ∧ sem (LN N σ) f k := by
    rw [hv_iff, hd_bin, hd_un, hd_un, hf, ← unt_true (i := 1)]; simp [fBin, fUn, sem]
  refine ⟨fun h => ?_, ?_, ?_, ?_, fun h => ?_, fun h => ?_⟩
  · rw [← h, e1] at e2
    by_cases hx : ∃ k, 0 ≤ k ∧ sem (LN N σ) f k
    · obtain ⟨k, h1, h2⟩ := hx
      exact e2.1 ⟨k, h1, h2⟩ k h1 h2
    · exact hx (e2.2 fun k h1 h2 => hx ⟨k, h1, h2⟩)
  · rw [Bool.eq_iff_iff, e1, e3]
    exact ⟨fun ⟨k, h1, h2⟩ => ⟨k, h1, k, Nat.le_refl _, h2⟩, fun ⟨k, h1, m, h2, h3⟩ => ⟨m, by omega, h3⟩⟩
  · rw [Bool.eq_iff_iff, e4, e5]
    refine ⟨fun h => ⟨h 0 (Nat.le_refl _), fun k _ => h k (by omega)⟩, fun h k _ => ?_⟩
    by_cases hk : k = 0
    · subst hk; exact h.1
    · exact h.2 k (by omega)
  · rw [Bool.eq_iff_iff, e1, e6]
    constructor
    · rintro ⟨k, _, h⟩
      by_cases hk : k = 0
      · subst hk; exact .inl h
      · exact .inr ⟨k, by omega, h⟩
    · rintro (h | ⟨k, _, h⟩)
      · exact ⟨0, Nat.le_refl _, h⟩
      · exact ⟨k, by omega, h⟩
  · exact e0.2 (e4.1 h 0 (Nat.le_refl _))
  · exact e1.2 ⟨0, Nat.le_refl _, e0.1 h⟩
theorem law_steps (hf : hdO N f = true) (hg : hdO N g = true) (h : ∀ i, τ i = σ (i + 1)) :
    hv N σ (fBin [85] f g) = (hv N σ g || hv N σ f && hv N τ (fBin [85] f g)) ∧ hv N σ (fBin [87] f g) = (hv N σ g || hv N σ f && hv N τ (fBin [87] f g)) ∧
      hv N σ (fBin [82] f g) = (hv N σ g && (hv N σ f || hv N τ (fBin [82] f g))) ∧ (hv N σ (fBin [85] f g) = true → hv N σ (fBin [87] f g) = true) := by
  have a0 : hv N σ f = true ↔ sem (LN N σ) f 0 := by rw [hv_iff, hf]; simp
  have b0 : hv N σ g = true ↔ sem (LN N σ) g 0 := by rw [hv_iff, hg]; simp
  have u0 : hv N σ (fBin [85] f g) = true ↔ unt (sem (LN N σ) f) (sem (LN N σ) g) 0 := by rw [hv_iff, hd_bin, hf, hg]; simp [fBin, sem]
  have w0 : hv N σ (fBin [87] f g) = true ↔ wnt (sem (LN N σ) f) (sem (LN N σ) g) 0 := by rw [hv_iff, hd_bin, hf, hg]; simp [fBin, sem]
  have r0 : hv N σ (fBin [82] f g) = true ↔ wnt (sem (LN N σ) g) (fun k => sem (LN N σ) f k ∧ sem (LN N σ) g k) 0 := by rw [hv_iff, hd_bin, hf, hg]; simp [fBin, sem]
  have nx : ∀ q, hv N τ q = true ↔ hdO N q = true ∧ sem (LN N σ) q 1 := fun q => by rw [← hv_next h, hv_iff, hd_un]; simp [fUn, sem]
  have u1 : hv N τ (fBin [85] f g) = true ↔ unt (sem (LN N σ) f) (sem (LN N σ) g) 1 := by rw [nx, hd_bin, hf, hg]; simp [fBin, sem]
  have w1 : hv N τ (fBin [87] f g) = true ↔ wnt (sem (LN N σ) f) (sem (LN N σ) g) 1 := by rw [nx, hd_bin, hf, hg]; simp [fBin, sem]
  have r1 : hv N τ (fBin [82] f g) = true ↔ wnt (sem (LN N σ) g) (fun k => sem (LN N σ) f k ∧ sem (LN N σ) g k) 1 := by rw [nx, hd_bin, hf, hg]; simp [fBin, sem]
  refine ⟨?_, ?_, ?_, fun h => ?_⟩
  · rw [Bool.eq_iff_iff, Bool.or_eq_true, Bool.and_eq_true, a0, b0, u0, u1]; exact unt_now
  · rw [Bool.eq_iff_iff, Bool.or_eq_true, Bool.and_eq_true, a0, b0, w0, w1]; exact wnt_now
  · rw [Bool.eq_iff_iff, Bool.and_eq_true, Bool.or_eq_true, a0, b0, r0, r1, wnt_now]
    by_cases hx : sem (LN N σ) f 0 <;> by_cases hy : sem (LN N σ) g 0 <;> simp [hx, hy]
  · exact w0.2 (.inl (u0.1 h))
end
end Go.Proofs.YtkddaobbjfnckaaGreatDoor
