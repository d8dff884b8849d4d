/-
  Words without an end: what holds of them from a place on; the same by lists of truths at the places of a word that ends in a loop. Plain lists, nothing of the program. The word of a stem and a loop; the same word told otherwise; which formulas can be asked over names; what follows of it all. Who looks as far ahead as there are places has looked far enough.
-/
import Derived.Test.YtmgjpjjglghbaaaGreatDoorJA
namespace Go.Proofs.YtmgjpjjglghbaaaGreatDoor
section
/-- A at all places until B. -/
def unt (A B : Nat → Prop) (i : Nat) : Prop := ∃ k, i ≤ k ∧ B k ∧ ∀ j, i ≤ j → j < k → A j
/-- .. or A forever. -/
def wnt (A B : Nat → Prop) (i : Nat) : Prop := unt A B i ∨ ∀ k, i ≤ k → A k
def sem (L : List UInt8 → Nat → Prop) : Fo → Nat → Prop
  | .leaf op nm _, i => if op = opTrue then True else if op = opLab then L nm i else False
  | .un op a _, i =>
    if op = [33] then ¬ sem L a i else if op = [88] then sem L a (i + 1)
    else if op = [70] then unt (fun _ => True) (sem L a) i else if op = [71] then wnt (sem L a) (fun _ => False) i else False
  | .bin op a b _, i =>
    if op = [61, 62] then (sem L a i → sem L b i) else if op = [124] then (sem L a i ∨ sem L b i) else if op = [38] then (sem L a i ∧ sem L b i)
    else if op = [85] then unt (sem L a) (sem L b) i else if op = [82] then wnt (sem L b) (fun k => sem L a k ∧ sem L b k) i
    else if op = [87] then wnt (sem L a) (sem L b) i else False
section
variable {A B A' B' : Nat → Prop} {i p a : Nat}
theorem unt_now : unt A B i ↔ B i ∨ A i ∧ unt A B (i + 1) := by
  constructor
  · rintro ⟨k, h1, h2, h3⟩
    by_cases hk : k = i
    · subst hk; exact .inl h2
    · exact .inr ⟨h3 i (Nat.le_refl _) (by omega), k, by omega, h2, fun j h4 h5 => h3 j (by omega) h5⟩
  · rintro (h | ⟨h, k, h1, h2, h3⟩)
    · exact ⟨i, Nat.le_refl _, h, fun j h1 h2 => absurd h1 (by omega)⟩
    · refine ⟨k, by omega, h2, fun j h4 h5 => ?_⟩
      by_cases hj : j = i
      · subst hj; exact h
      · exact h3 j (by omega) h5
theorem wnt_now : wnt A B i ↔ B i ∨ A i ∧ wnt A B (i + 1) := by
  unfold wnt
  constructor
  · rintro (h | h)
    · rcases unt_now.1 h with h | ⟨h, h'⟩
      · exact .inl h
      · exact .inr ⟨h, .inl h'⟩
    · exact .inr ⟨h i (Nat.le_refl _), .inr fun k hk => h k (by omega)⟩
  · rintro (h | ⟨h, h' | h'⟩)
    · exact .inl (unt_now.2 (.inl h))
    · exact .inl (unt_now.2 (.inr ⟨h, h'⟩))
    · refine .inr fun k hk => ?_
      by_cases hj : k = i
      · subst hj; exact h
      · exact h' k (by omega)
theorem unt_congr (hA : ∀ k, A k ↔ A' k) (hB : ∀ k, B k ↔ B' k) : unt A B i ↔ unt A' B' i := by
  rw [show A = A' from funext fun k => propext (hA k), show B = B' from funext fun k => propext (hB k)]
theorem wnt_congr (hA : ∀ k, A k ↔ A' k) (hB : ∀ k, B k ↔ B' k) : wnt A B i ↔ wnt A' B' i := by
  rw [show A = A' from funext fun k => propext (hA k), show B = B' from funext fun k => propext (hB k)]
theorem unt_add (d : Nat) : unt A B (i + d) ↔ unt (fun k => A (k + d)) (fun k => B (k + d)) i := by
  constructor
  · rintro ⟨k, h1, h2, h3⟩
    refine ⟨k - d, by omega, ?_, fun j h4 h5 => h3 (j + d) (by omega) (by omega)⟩
    show B (k - d + d)
    rw [Nat.sub_add_cancel (by omega)]; exact h2
  · rintro ⟨k, h1, h2, h3⟩
    refine ⟨k + d, by omega, h2, fun j h4 h5 => ?_⟩
    have := h3 (j - d) (by omega) (by omega)
    simp only at this
    rwa [Nat.sub_add_cancel (by omega)] at this
theorem all_add (d : Nat) : (∀ k, i + d ≤ k → A k) ↔ ∀ k, i ≤ k → A (k + d) := by
  constructor
  · exact fun h k hk => h _ (by omega)
  · intro h k hk
    have := h (k - d) (by omega)
    rwa [Nat.sub_add_cancel (by omega)] at this
theorem wnt_add (d : Nat) : wnt A B (i + d) ↔ wnt (fun k => A (k + d)) (fun k => B (k + d)) i := by
  unfold wnt
  rw [unt_add d, all_add d]
end
/-- Of the word without its first letters. -/
theorem sem_add (L : List UInt8 → Nat → Prop) (d : Nat) : ∀ (f : Fo) (i : Nat), sem L f (i + d) ↔ sem (fun nm k => L nm (k + d)) f i
  | .leaf op nm _, i => by simp only [sem]
  | .un op f _, i => by
    have h := sem_add L d f
    have h1 : (sem L f (i + d + 1)) ↔ sem (fun nm k => L nm (k + d)) f (i + 1) := by rw [← h (i + 1), show i + 1 + d = i + d + 1 by omega]
    have h2 := fun k => (h k)
    simp only [sem, unt_add d, wnt_add d, h, h1]
  | .bin op f g _, i => by
    have h := sem_add L d f
    have h' := sem_add L d g
    simp only [sem, unt_add d, wnt_add d, h, h']
/-- It comes again, from a place on. -/
def Per (a p : Nat) (A : Nat → Prop) : Prop := ∀ i, a ≤ i → (A (i + p) ↔ A i)
section
variable {A B : Nat → Prop} {i p a : Nat}
theorem Per.unt (hA : Per a p A) (hB : Per a p B) : Per a p (unt A B) := by
  intro i hi
  rw [unt_add p]
  constructor
  · rintro ⟨k, h1, h2, h3⟩
    exact ⟨k, h1, (hB k (by omega)).1 h2, fun j h4 h5 => (hA j (by omega)).1 (h3 j h4 h5)⟩
  · rintro ⟨k, h1, h2, h3⟩
    exact ⟨k, h1, (hB k (by omega)).2 h2, fun j h4 h5 => (hA j (by omega)).2 (h3 j h4 h5)⟩
theorem Per.all (hA : Per a p A) : Per a p (fun i => ∀ k, i ≤ k → A k) := by
  intro i hi
  show (∀ k, i + p ≤ k → A k) ↔ _
  rw [all_add p]
  exact ⟨fun h k hk => (hA k (by omega)).1 (h k hk), fun h k hk => (hA k (by omega)).2 (h k hk)⟩
theorem Per.wnt (hA : Per a p A) (hB : Per a p B) : Per a p (wnt A B) := fun i hi => by
  have h := hA.all i hi
  simp only at h
  unfold Go.Proofs.YtmgjpjjglghbaaaGreatDoor.wnt
  rw [(hA.unt hB) i hi, h]
theorem per_const (P : Prop) : Per a p (fun _ => P) := fun _ _ => Iff.rfl
theorem Per.and (hA : Per a p A) (hB : Per a p B) : Per a p (fun k => A k ∧ B k) := fun i hi => by
  show A (i + p) ∧ B (i + p) ↔ _
  rw [hA i hi, hB i hi]
theorem per_sem {L : List UInt8 → Nat → Prop} (hL : ∀ nm, Per a p (L nm)) : ∀ f : Fo, Per a p (sem L f)
  | .leaf op nm _ => fun i hi => by simp only [sem, hL nm i hi]
  | .un op f _ => fun i hi => by
    have h := per_sem hL f
    have h1 : sem L f (i + p + 1) ↔ sem L f (i + 1) := by rw [show i + p + 1 = i + 1 + p by omega]; exact h _ (by omega)
    simp only [sem, h i hi, h1, (Per.unt (per_const True) h) i hi, (h.wnt (per_const False)) i hi]
  | .bin op f g _ => fun i hi => by
    have h := per_sem hL f
    have h' := per_sem hL g
    simp only [sem, h i hi, h' i hi, (h.unt h') i hi, (h.wnt h') i hi, (h'.wnt (h.and h')) i hi]
/-- Who waits long enough needn't. -/
theorem Per.soon (hB : Per a p B) (hp : 0 < p) (h : Go.Proofs.YtmgjpjjglghbaaaGreatDoor.unt A B i) : ∃ k, i ≤ k ∧ k < max i a + p ∧ B k ∧ ∀ j, i ≤ j → j < k → A j := by
  obtain ⟨k, h1, h2, h3⟩ := h
  induction k using Nat.strongRecOn with
  | _ k ih =>
    by_cases hk : k < max i a + p
    · exact ⟨k, h1, hk, h2, h3⟩
    · refine ih (k - p) (by omega) (by omega) ?_ (fun j h4 h5 => h3 j h4 (by omega))
      have := hB (k - p) (by omega)
      rw [Nat.sub_add_cancel (by omega)] at this
      exact this.1 h2
theorem Per.ever (hp : 0 < p) (hA : Per a p A) (h : ∀ k, i ≤ k → k < max i a + p → A k) : ∀ k, i ≤ k → A k := by
  intro k
  induction k using Nat.strongRecOn with
  | _ k ih =>
    intro hi
    by_cases hk : k < max i a + p
    · exact h k hi hk
    · have h1 := ih (k - p) (by omega) (by omega)
      have := hA (k - p) (by omega)
      rw [Nat.sub_add_cancel (by omega)] at this
      exact this.2 h1
end
/-- From the back: b, or a and what comes behind. -/
def swp : List Bool → List Bool → Bool → List Bool
  | a :: as, b :: bs, x => (b || a && (swp as bs x).headD x) :: swp as bs x
  | _, _, _ => []
def untL (again : Nat) (l r : List Bool) (x : Bool) : List Bool := swp l r ((swp l r x).getD again false)
def bothL (l r : List Bool) : List Bool := List.zipWith (· && ·) l r
def eithL (l r : List Bool) : List Bool := List.zipWith (· || ·) l r
def nextL (again : Nat) (l : List Bool) : List Bool := l.tail ++ [l.getD again false]
/-- At which places a formula holds. -/
def trO (n again : Nat) (lab : List UInt8 → List Bool) : Fo → List Bool
  | .leaf op nm _ => if op = opTrue then List.replicate n true else if op = opLab then lab nm else List.replicate n false
  | .un op f _ =>
    if op = [33] then (trO n again lab f).map (!·) else if op = [88] then nextL again (trO n again lab f)
    else if op = [70] then untL again (List.replicate n true) (trO n again lab f) false
    else if op = [71] then untL again (trO n again lab f) (bothL (List.replicate n false) (trO n again lab f)) true else List.replicate n false
  | .bin op f g _ =>
    if op = [61, 62] then eithL ((trO n again lab f).map (!·)) (trO n again lab g) else if op = [124] then eithL (trO n again lab f) (trO n again lab g)
    else if op = [38] then bothL (trO n again lab f) (trO n again lab g) else if op = [85] then untL again (trO n again lab f) (trO n again lab g) false
    else if op = [82] then untL again (trO n again lab g) (bothL (trO n again lab f) (trO n again lab g)) true
    else if op = [87] then untL again (trO n again lab f) (trO n again lab g) true else List.replicate n false
theorem swp_len : ∀ {l r : List Bool} {x : Bool}, l.length = r.length → (swp l r x).length = l.length
  | [], [], _, _ => rfl
  | _ :: l, _ :: r, x, h => by simp only [swp, List.length_cons, swp_len (l := l) (r := r) (x := x) (by simpa using h)]
theorem swp_now : ∀ {l r : List Bool} {x : Bool} {i : Nat}, l.length = r.length → i < l.length → (swp l r x).getD i false = (r.getD i false || l.getD i false && (swp l r x).getD (i + 1) x)
  | [], [], _, _, _, hi => absurd hi (by simp)
  | a :: l, b :: r, x, 0, h, _ => by
    have h' : l.length = r.length := by simpa using h
    simp only [swp, List.getD_cons_zero, List.getD_cons_succ]
    cases hs : swp l r x <;> simp
  | a :: l, b :: r, x, i + 1, h, hi => by
    have := swp_now (l := l) (r := r) (x := x) (i := i) (by simpa using h) (by simpa using hi)
    simp only [swp, List.getD_cons_succ, this]
theorem getD_ge {α : Type} {l : List α} {i : Nat} {x : α} (h : l.length ≤ i) : l.getD i x = x := by
  rw [List.getD_eq_getElem?_getD, List.getElem?_eq_none h]; rfl
theorem getD_lt {α : Type} {l : List α} {i : Nat} {x y : α} (h : i < l.length) : l.getD i x = l.getD i y := by
  rw [List.getD_eq_getElem?_getD, List.getD_eq_getElem?_getD, List.getElem?_eq_getElem h]; rfl
/-- A list of truths says where something holds, at the first n places. -/
def Tells (n : Nat) (l : List Bool) (A : Nat → Prop) : Prop := l.length = n ∧ ∀ i, i < n → (l.getD i false = true ↔ A i)
section
variable {n a : Nat} {l r : List Bool} {A B V : Nat → Prop}
theorem Tells.len (h : Tells n l A) : l.length = n := h.1
/-- A round from the back, if what is said of the place behind is so. -/
theorem Tells.swp {x : Bool} (hl : Tells n l A) (hr : Tells n r B) (hV : ∀ i, i < n → (V i ↔ B i ∨ A i ∧ V (i + 1))) (hx : x = true ↔ V n) : Tells n (swp l r x) V := by
  have hlr : l.length = r.length := hl.1.trans hr.1.symm
  have hs := swp_len (x := x) hlr
  refine ⟨hs.trans hl.1, fun i hi => ?_⟩
  have key : ∀ d i, i + d = n → ((Go.Proofs.YtmgjpjjglghbaaaGreatDoor.swp l r x).getD i x = true ↔ V i) := by
    intro d
    induction d with
    | zero =>
      intro i hi
      rw [getD_ge (by rw [hs, hl.1]; omega), hx, show n = i by omega]
    | succ d ih =>
      intro i hi
      have hin : i < n := by omega
      rw [getD_lt (y := false) (by rw [hs, hl.1]; exact hin), swp_now hlr (by rw [hl.1]; exact hin), hV i hin]
      simp only [Bool.or_eq_true, Bool.and_eq_true]
      rw [hr.2 i hin, hl.2 i hin, ih (i + 1) (by omega)]
  rw [getD_lt (y := x) (by rw [hs, hl.1]; exact hi)]
  exact key (n - i) i (by omega)
theorem Tells.replicate (P : Prop) (x : Bool) (h : x = true ↔ P) : Tells n (List.replicate n x) (fun _ => P) := by
  refine ⟨by simp, fun i hi => ?_⟩
  rw [List.getD_eq_getElem?_getD, List.getElem?_replicate, if_pos hi]; exact h
theorem Tells.congr (h : Tells n l A) (hA : ∀ i, A i ↔ V i) : Tells n l V := ⟨h.1, fun i hi => (h.2 i hi).trans (hA i)⟩
theorem Tells.congr2 (h : Tells n l A) (hA : ∀ i, i < n → (A i ↔ V i)) : Tells n l V := ⟨h.1, fun i hi => (h.2 i hi).trans (hA i hi)⟩
theorem Tells.not (h : Tells n l A) : Tells n (l.map (!·)) (fun i => ¬ A i) := by
  refine ⟨by simp [h.1], fun i hi => ?_⟩
  have h1 := h.2 i hi
  have hil : i < l.length := by rw [h.1]; exact hi
  rw [List.getD_eq_getElem?_getD, List.getElem?_eq_getElem hil] at h1
  rw [List.getD_eq_getElem?_getD, List.getElem?_map, List.getElem?_eq_getElem hil]
  simp only [Option.getD_some, Option.map_some] at h1 ⊢
  rw [← h1]; cases l[i] <;> simp
theorem Tells.both (hl : Tells n l A) (hr : Tells n r B) : Tells n (bothL l r) (fun i => A i ∧ B i) := by
  refine ⟨by simp [bothL, hl.1, hr.1], fun i hi => ?_⟩
  have h1 := hl.2 i hi
  have h2 := hr.2 i hi
  have hil : i < l.length := by rw [hl.1]; exact hi
  have hir : i < r.length := by rw [hr.1]; exact hi
  rw [List.getD_eq_getElem?_getD, List.getElem?_eq_getElem hil] at h1
  rw [List.getD_eq_getElem?_getD, List.getElem?_eq_getElem hir] at h2
  simp only [Option.getD_some] at h1 h2
  rw [bothL, List.getD_eq_getElem?_getD, List.getElem?_zipWith, List.getElem?_eq_getElem hil, List.getElem?_eq_getElem hir]
  simp [h1, h2]
theorem Tells.either (hl : Tells n l A) (hr : Tells n r B) : Tells n (eithL l r) (fun i => A i ∨ B i) := by
  refine ⟨by simp [eithL, hl.1, hr.1], fun i hi => ?_⟩
  have h1 := hl.2 i hi
  have h2 := hr.2 i hi
  have hil : i < l.length := by rw [hl.1]; exact hi
  have hir : i < r.length := by rw [hr.1]; exact hi
  rw [List.getD_eq_getElem?_getD, List.getElem?_eq_getElem hil] at h1
  rw [List.getD_eq_getElem?_getD, List.getElem?_eq_getElem hir] at h2
  simp only [Option.getD_some] at h1 h2
  rw [eithL, List.getD_eq_getElem?_getD, List.getElem?_zipWith, List.getElem?_eq_getElem hil, List.getElem?_eq_getElem hir]
  simp [h1, h2]
theorem Tells.next (ha : a < n) (hA : Per a (n - a) A) (hl : Tells n l A) : Tells n (nextL a l) (fun i => A (i + 1)) := by
  have hlen := hl.1
  refine ⟨by simp [nextL, hl.1]; omega, fun i hi => ?_⟩
  rw [nextL, List.getD_eq_getElem?_getD]
  by_cases h : i + 1 < n
  · rw [List.getElem?_append_left (by simp; omega), List.getElem?_tail, ← List.getD_eq_getElem?_getD]
    exact hl.2 _ h
  · rw [List.getElem?_append_right (by simp; omega), show i - l.tail.length = 0 by simp; omega]
    have h1 := hA a (Nat.le_refl _)
    rw [show a + (n - a) = i + 1 by omega] at h1
    exact (hl.2 a ha).trans h1.symm
theorem Tells.until (ha : a < n) (hA : Per a (n - a) A) (hB : Per a (n - a) B) (hl : Tells n l A) (hr : Tells n r B) : Tells n (untL a l r false) (unt A B) := by
  have hV := hA.unt hB
  have h1 : Tells n (Go.Proofs.YtmgjpjjglghbaaaGreatDoor.swp l r false) (fun i => ∃ k, i ≤ k ∧ k < n ∧ B k ∧ ∀ j, i ≤ j → j < k → A j) := by
    refine hl.swp hr (fun i hi => ⟨?_, ?_⟩) ?_
    · rintro ⟨k, h1, h2, h3, h4⟩
      by_cases hk : k = i
      · subst hk; exact .inl h3
      · exact .inr ⟨h4 i (Nat.le_refl _) (by omega), k, by omega, h2, h3, fun j h5 h6 => h4 j (by omega) h6⟩
    · rintro (h | ⟨h, k, h1, h2, h3, h4⟩)
      · exact ⟨i, Nat.le_refl _, hi, h, fun j h1 h2 => absurd h1 (by omega)⟩
      · refine ⟨k, by omega, h2, h3, fun j h5 h6 => ?_⟩
        by_cases hj : j = i
        · subst hj; exact h
        · exact h4 j (by omega) h6
    · constructor
      · intro h; cases h
      · rintro ⟨k, h1, h2, _⟩; omega
  refine hl.swp hr (fun i _ => unt_now) ?_
  rw [h1.2 a ha]
  have h2 := hV a (Nat.le_refl _)
  rw [show a + (n - a) = n by omega] at h2
  rw [h2]
  constructor
  · rintro ⟨k, h1, _, h3, h4⟩; exact ⟨k, h1, h3, h4⟩
  · intro h
    obtain ⟨k, h1, h2, h3, h4⟩ := hB.soon (by omega) h
    exact ⟨k, h1, by omega, h3, h4⟩
theorem Tells.weak (ha : a < n) (hA : Per a (n - a) A) (hB : Per a (n - a) B) (hl : Tells n l A) (hr : Tells n r B) : Tells n (untL a l r true) (wnt A B) := by
  have hV := hA.wnt hB
  have h1 : Tells n (Go.Proofs.YtmgjpjjglghbaaaGreatDoor.swp l r true) (fun i => (∃ k, i ≤ k ∧ k < n ∧ B k ∧ ∀ j, i ≤ j → j < k → A j) ∨ ∀ k, i ≤ k → k < n → A k) := by
    refine hl.swp hr (fun i hi => ⟨?_, ?_⟩) ?_
    · rintro (⟨k, h1, h2, h3, h4⟩ | h)
      · by_cases hk : k = i
        · subst hk; exact .inl h3
        · exact .inr ⟨h4 i (Nat.le_refl _) (by omega), .inl ⟨k, by omega, h2, h3, fun j h5 h6 => h4 j (by omega) h6⟩⟩
      · exact .inr ⟨h i (Nat.le_refl _) hi, .inr fun k hk => h k (by omega)⟩
    · rintro (h | ⟨h, ⟨k, h1, h2, h3, h4⟩ | h'⟩)
      · exact .inl ⟨i, Nat.le_refl _, hi, h, fun j h1 h2 => absurd h1 (by omega)⟩
      · refine .inl ⟨k, by omega, h2, h3, fun j h5 h6 => ?_⟩
        by_cases hj : j = i
        · subst hj; exact h
        · exact h4 j (by omega) h6
      · refine .inr fun k h5 h6 => ?_
        by_cases hj : k = i
        · subst hj; exact h
        · exact h' k (by omega) h6
    · simp only [true_iff]
      exact .inr fun k h1 h2 => absurd h1 (by omega)
  refine hl.swp hr (fun i _ => wnt_now) ?_
  rw [h1.2 a ha]
  have h2 := hV a (Nat.le_refl _)
  rw [show a + (n - a) = n by omega] at h2
  rw [h2]
  constructor
  · rintro (⟨k, h1, _, h3, h4⟩ | h)
    · exact .inl ⟨k, h1, h3, h4⟩
    · exact .inr (hA.ever (p := n - a) (by omega) fun k h1 h2 => h k h1 (by omega))
  · rintro (h | h)
    · obtain ⟨k, h1, h2, h3, h4⟩ := hB.soon (by omega) h
      exact .inl ⟨k, h1, by omega, h3, h4⟩
    · exact .inr fun k h1 _ => h k h1
end
theorem pk_un {op : List UInt8} (h : pk op = 4) : op = [33] ∨ op = [88] ∨ op = [70] ∨ op = [71] := by
  unfold pk at h
  repeat' split at h
  all_goals first | omega | assumption
theorem pk_bin {op : List UInt8} (h : pk op < 4) : op = [61, 62] ∨ op = [124] ∨ op = [38] ∨ op = [85] ∨ op = [87] ∨ op = [82] := by
  unfold pk at h
  repeat' split at h
  all_goals first | omega | simp_all
theorem tells_sem {n a : Nat} {lab : List UInt8 → List Bool} {L : List UInt8 → Nat → Prop} (ha : a < n) (hL : ∀ nm, Per a (n - a) (L nm)) :
    ∀ f : Fo, OkF f → (∀ nm ∈ lbs f, Tells n (lab nm) (L nm)) → Tells n (trO n a lab f) (sem L f)
  | .leaf op nm q, h, hl => by
    rcases h with ⟨rfl, _⟩ | ⟨rfl | rfl, _⟩
    · simp only [trO, show opLab ≠ opTrue by decide, if_false, if_true]
      exact (hl nm (by simp [lbs])).congr (fun i => by simp [sem, show opLab ≠ opTrue by decide])
    · exact (Tells.replicate True true (by simp)).congr (fun i => by simp [sem])
    · have : trO n a lab (.leaf opFalse nm q) = List.replicate n false := by simp [trO, show opFalse ≠ opTrue by decide, show opFalse ≠ opLab by decide]
      rw [this]
      exact (Tells.replicate False false (by simp)).congr (fun i => by simp [sem, show opFalse ≠ opTrue by decide, show opFalse ≠ opLab by decide])
  | .un op f _, h, hl => by
    have hf := tells_sem ha hL f h.2 (fun nm hn => hl nm (by simpa [lbs] using hn))
    have hp := per_sem hL f
    rcases pk_un h.1 with rfl | rfl | rfl | rfl
    · exact hf.not.congr (fun i => by simp [sem])
    · exact (hf.next ha hp).congr (fun i => by simp [sem])
    · exact ((Tells.replicate True true (by simp)).until ha (per_const True) hp hf).congr (fun i => by simp [sem])
    · refine (hf.weak ha hp ((per_const False).and hp) ((Tells.replicate False false (by simp)).both hf)).congr (fun i => ?_)
      simp only [sem]
      exact wnt_congr (fun _ => Iff.rfl) (fun k => by simp)
  | .bin op f g _, h, hl => by
    have hf := tells_sem ha hL f h.2.1 (fun nm hn => hl nm (by simp [lbs, hn]))
    have hg := tells_sem ha hL g h.2.2 (fun nm hn => hl nm (by simp [lbs, hn]))
    have hp := per_sem hL f
    have hq := per_sem hL g
    rcases pk_bin h.1 with rfl | rfl | rfl | rfl | rfl | rfl
    · refine (hf.not.either hg).congr (fun i => ?_)
      simp only [sem, if_true]
      by_cases hx : sem L f i <;> simp [hx]
    · exact (hf.either hg).congr (fun i => by simp [sem])
    · exact (hf.both hg).congr (fun i => by simp [sem])
    · exact (hf.until ha hp hq hg).congr (fun i => by simp [sem])
    · exact (hf.weak ha hp hq hg).congr (fun i => by simp [sem])
    · exact (hg.weak ha hq (hp.and hq) (hf.both hg)).congr (fun i => by simp [sem])
end
section
/-- The i-th letter. -/
def wl (s l : List Int) (i : Nat) : Int := if i < s.length then s.getD i 0 else l.getD ((i - s.length) % l.length) 0
def shS (s : List Int) : List Int := s.tail
def shL (s l : List Int) : List Int := if s = [] then l.tail ++ l.take 1 else l
theorem getD_app {α : Type} {l r : List α} {i : Nat} {x : α} : (l ++ r).getD i x = if i < l.length then l.getD i x else r.getD (i - l.length) x := by
  simp only [List.getD_eq_getElem?_getD, List.getElem?_append]
  split <;> rfl
theorem getD_tail {α : Type} {l : List α} {i : Nat} {x : α} : l.tail.getD i x = l.getD (i + 1) x := by
  simp only [List.getD_eq_getElem?_getD, List.getElem?_tail]
theorem mod_dbl (k m : Nat) : k % (m + m) = k % m ∨ k % (m + m) = k % m + m := by
  have h : k % (m + m) % m = k % m := by rw [show m + m = 2 * m by omega]; exact Nat.mod_mul_left_mod _ _ _
  rcases Nat.eq_zero_or_pos m with rfl | hm
  · left; rfl
  · have h1 : k % (m + m) < m + m := Nat.mod_lt _ (by omega)
    by_cases h2 : k % (m + m) < m
    · left; rw [← h, Nat.mod_eq_of_lt h2]
    · right
      generalize k % (m + m) = q at *
      rw [← h, Nat.mod_eq_sub_mod (by omega), Nat.mod_eq_of_lt (by omega)]; omega
theorem loop_dbl {l : List Int} (hl : l ≠ []) (k : Nat) : (l ++ l).getD (k % (l ++ l).length) 0 = l.getD (k % l.length) 0 := by
  have hm : 0 < l.length := List.length_pos_iff.2 hl
  have h0 := Nat.mod_lt k hm
  rw [List.length_append, getD_app]
  rcases mod_dbl k l.length with h | h
  · rw [h, if_pos h0]
  · rw [h, if_neg (by omega), Nat.add_sub_cancel]
theorem mod_succ (k m : Nat) (hm : 0 < m) : (k + 1) % m = if k % m + 1 = m then 0 else k % m + 1 := by
  have h0 := Nat.mod_lt k hm
  rw [Nat.add_mod]
  split
  · next h =>
    rcases Nat.lt_or_ge 1 m with h1 | h1
    · rw [Nat.mod_eq_of_lt h1, h, Nat.mod_self]
    · obtain rfl : m = 1 := by omega
      omega
  · next h =>
    rw [Nat.mod_eq_of_lt (show 1 < m by omega), Nat.mod_eq_of_lt (by omega)]
theorem loop_turn {l : List Int} (hl : l ≠ []) (k : Nat) : (l.tail ++ l.take 1).getD (k % l.length) 0 = l.getD ((k + 1) % l.length) 0 := by
  obtain ⟨x, r, rfl⟩ := List.exists_cons_of_ne_nil hl
  have h0 := Nat.mod_lt k (show 0 < r.length + 1 by omega)
  show (r ++ [x]).getD (k % (r.length + 1)) 0 = (x :: r).getD ((k + 1) % (r.length + 1)) 0
  rw [mod_succ _ _ (by omega), getD_app]
  by_cases h : k % (r.length + 1) < r.length
  · rw [if_pos h, if_neg (by omega)]
    rfl
  · rw [if_neg h, if_pos (by omega), show k % (r.length + 1) - r.length = 0 by omega]
    rfl
theorem turn_len {l : List Int} (hl : l ≠ []) : (l.tail ++ l.take 1).length = l.length := by
  obtain ⟨x, r, rfl⟩ := List.exists_cons_of_ne_nil hl
  simp
theorem wl_shift {s l : List Int} (h : s ≠ [] ∨ l ≠ []) (i : Nat) : wl (shS s) (shL s l) i = wl s l (i + 1) := by
  unfold wl shS shL
  cases s with
  | nil =>
    have hl : l ≠ [] := h.resolve_left (fun h => h rfl)
    simp only [if_true, List.tail_nil, List.length_nil, Nat.not_lt_zero, if_false, Nat.sub_zero]
    rw [turn_len hl, loop_turn hl]
  | cons x s =>
    simp only [List.tail_cons, List.length_cons, List.getD_cons_succ, reduceCtorEq, if_false]
    by_cases hi : i < s.length
    · rw [if_pos hi, if_pos (by omega)]
    · rw [if_neg hi, if_neg (by omega), show i + 1 - (s.length + 1) = i - s.length by omega]
theorem shL_len {s l : List Int} : (shL s l).length = l.length := by
  unfold shL
  split
  · rcases List.eq_nil_or_concat l with rfl | h
    · rfl
    · exact turn_len (by rintro rfl; obtain ⟨_, _, h⟩ := h; simp at h)
  · rfl
theorem wl_turn {s l : List Int} (hl : l ≠ []) (i : Nat) : wl (s ++ l.take 1) (l.tail ++ l.take 1) i = wl s l i := by
  have h1 : (l.take 1).length = 1 := by
    obtain ⟨x, r, rfl⟩ := List.exists_cons_of_ne_nil hl
    rfl
  unfold wl
  rw [List.length_append, h1, turn_len hl, getD_app]
  by_cases hi : i < s.length
  · rw [if_pos hi, if_pos (by omega), if_pos hi]
  · rw [if_neg hi, if_neg hi]
    split
    · next h =>
      have : i = s.length := by omega
      subst this
      obtain ⟨x, r, rfl⟩ := List.exists_cons_of_ne_nil hl
      simp
    · next h =>
      rw [loop_turn hl, show i - (s.length + 1) + 1 = i - s.length by omega]
theorem wl_dbl {s l : List Int} (hl : l ≠ []) (i : Nat) : wl s (l ++ l) i = wl s l i := by
  unfold wl
  rw [loop_dbl hl]
theorem wl_long {s l : List Int} (hl : l ≠ []) (i : Nat) : wl (s ++ l) (l ++ l) i = wl s l i := by
  unfold wl
  have hm : 0 < l.length := List.length_pos_iff.2 hl
  rw [loop_dbl hl, List.length_append, getD_app]
  by_cases hi : i < s.length
  · rw [if_pos hi, if_pos (by omega), if_pos hi]
  · rw [if_neg hi, if_neg hi]
    split
    · next h => rw [Nat.mod_eq_of_lt (show i - s.length < l.length by omega)]
    · next h => rw [show i - (s.length + l.length) = i - s.length - l.length by omega, ← Nat.mod_eq_sub_mod (by omega)]
theorem wl_per {s l : List Int} (i : Nat) (hi : s.length ≤ i) : wl s l (i + l.length) = wl s l i := by
  unfold wl
  rw [if_neg (by omega), if_neg (by omega), show i + l.length - s.length = i - s.length + l.length by omega, Nat.add_mod_right]
/-- The letters one behind the other. -/
theorem wl_app {s l : List Int} (i : Nat) (hi : i < s.length + l.length) : (s ++ l).getD i 0 = wl s l i := by
  unfold wl
  rw [getD_app]
  split
  · rfl
  · rw [Nat.mod_eq_of_lt (by omega)]
/-- A name holds. -/
def posO (l : List ByteArray) (x : ByteArray) : Nat := l.findIdx fun y => decide (y = x)
def LN (N : List ByteArray) (σ : Nat → Int) (nm : List UInt8) (i : Nat) : Prop := (σ i).toNat.testBit (posO N ⟨nm.toArray⟩) = true
theorem ln_per {N : List ByteArray} {s l : List Int} (nm : List UInt8) : Per s.length l.length (LN N (wl s l) nm) := fun i hi => by
  unfold LN
  rw [wl_per i hi]
/-- Are a formula's labels among names? -/
noncomputable def hdO (N : List ByteArray) (f : Fo) : Bool := @decide (∀ nm ∈ lbs f, (⟨nm.toArray⟩ : ByteArray) ∈ N) (Classical.propDecidable _)
theorem hd_iff {N : List ByteArray} {f : Fo} : hdO N f = true ↔ ∀ nm ∈ lbs f, (⟨nm.toArray⟩ : ByteArray) ∈ N := by
  unfold hdO
  exact @decide_eq_true_iff _ (Classical.propDecidable _)
/-- Does it hold of a word? -/
noncomputable def hv (N : List ByteArray) (σ : Nat → Int) (f : Fo) : Bool := @decide (hdO N f = true ∧ sem (LN N σ) f 0) (Classical.propDecidable _)
theorem hv_iff {N : List ByteArray} {σ : Nat → Int} {f : Fo} : hv N σ f = true ↔ hdO N f = true ∧ sem (LN N σ) f 0 := by
  unfold hv
  exact @decide_eq_true_iff _ (Classical.propDecidable _)
def fUn (op : List UInt8) (f : Fo) : Fo := .un op f 0
def fBin (op : List UInt8) (f g : Fo) : Fo := .bin op f g 0
theorem hd_un {N : List ByteArray} {op : List UInt8} {f : Fo} : hdO N (fUn op f) = hdO N f := rfl
theorem hd_bin {N : List ByteArray} {op : List UInt8} {f g : Fo} : hdO N (fBin op f g) = (hdO N f && hdO N g) := by
  rw [Bool.eq_iff_iff, Bool.and_eq_true, hd_iff, hd_iff, hd_iff]
  simp only [fBin, lbs, List.mem_append]
  exact ⟨fun h => ⟨fun nm hn => h nm (.inl hn), fun nm hn => h nm (.inr hn)⟩, fun h nm hn => hn.elim (h.1 nm) (h.2 nm)⟩
theorem hv_word {N : List ByteArray} {σ τ : Nat → Int} {f : Fo} (h : ∀ i, σ i = τ i) : hv N σ f = hv N τ f := by
  rw [show σ = τ from funext h]
/-- X f of a word, f of the word without its first letter. -/
theorem hv_next {N : List ByteArray} {σ τ : Nat → Int} {f : Fo} (h : ∀ i, τ i = σ (i + 1)) : hv N σ (fUn [88] f) = hv N τ f := by
  rw [Bool.eq_iff_iff, hv_iff, hv_iff, hd_un]
  have h1 : sem (LN N σ) (fUn [88] f) 0 ↔ sem (LN N σ) f (0 + 1) := by simp [fUn, sem]
  rw [h1, sem_add]
  have h2 : (fun nm k => LN N σ nm (k + 1)) = LN N τ := by
    funext nm k
    unfold LN
    rw [h]
  rw [h2]
section
variable {A B : Nat → Prop} {i : Nat}
theorem unt_dual : ¬ unt A B i ↔ wnt (fun k => ¬ B k) (fun k => ¬ A k ∧ ¬ B k) i := by
  constructor
  · intro h
    by_cases hB : ∀ k, i ≤ k → ¬ B k
    · exact .inr hB
    · left
      simp only [Classical.not_forall, Classical.not_not] at hB
      obtain ⟨k, hk, hb⟩ := hB
      induction k using Nat.strongRecOn with
      | _ k ih =>
        by_cases h1 : ∃ j, i ≤ j ∧ j < k ∧ B j
        · obtain ⟨j, h2, h3, h4⟩ := h1
          exact ih j h3 h2 h4
        · have h2 : ∃ j, i ≤ j ∧ j < k ∧ ¬ A j := by
            apply Classical.byContradiction
            intro h2
            exact h ⟨k, hk, hb, fun j h3 h4 => Classical.byContradiction fun h5 => h2 ⟨j, h3, h4, h5⟩⟩
          obtain ⟨j, h3, h4, h5⟩ := h2
          exact ⟨j, h3, ⟨h5, fun h6 => h1 ⟨j, h3, h4, h6⟩⟩, fun m h6 h7 h8 => h1 ⟨m, h6, by omega, h8⟩⟩
  · rintro h ⟨k, h1, h2, h3⟩
    rcases h with ⟨m, h4, ⟨h5, h6⟩, h7⟩ | h
    · rcases Nat.lt_or_ge k m with h8 | h8
      · exact h7 k h1 h8 h2
      · rcases Nat.eq_or_lt_of_le h8 with h9 | h9
        · subst h9; exact h6 h2
        · exact h5 (h3 m h4 h9)
    · exact h k h1 h2
theorem wnt_false : wnt A (fun _ => False) i ↔ ∀ k, i ≤ k → A k := by
  constructor
  · rintro (⟨_, _, h, _⟩ | h)
    · exact h.elim
    · exact h
  · exact .inr
theorem unt_true : unt (fun _ => True) B i ↔ ∃ k, i ≤ k ∧ B k := ⟨fun ⟨k, h1, h2, _⟩ => ⟨k, h1, h2⟩, fun ⟨k, h1, h2⟩ => ⟨k, h1, h2, fun _ _ _ => trivial⟩⟩
end
section
variable {N : List ByteArray} {σ τ : Nat → Int} {f g : Fo}
/-- The laws of U, W, R, F, G. -/
theorem law_shifts (hf : hdO N f = true) (hg : hdO N g = true) :
    hv N σ (fBin [85] f g) ≠ hv N σ (fBin [82] (fUn [33] f) (fUn [33] g)) ∧ hv N σ (fBin [87] f g) = (hv N σ (fBin [85] f g) || hv N σ (fUn [71] f)) ∧ (hv N σ (fBin [85] f g) = true → hv N σ (fUn [70] g) = true) := by
  have e1 : hv N σ (fBin [85] f g) = true ↔ unt (sem (LN N σ) f) (sem (LN N σ) g) 0 := by rw [hv_iff, hd_bin, hf, hg]; simp [fBin, sem]
  have e2 : hv N σ (fBin [82] (fUn [33] f) (fUn [33] g)) = true ↔ wnt (fun k => ¬ sem (LN N σ) g k) (fun k => ¬ sem (LN N σ) f k ∧ ¬ sem (LN N σ) g k) 0 := by
    rw [hv_iff, hd_bin, hd_un, hd_un, hf, hg]; simp [fBin, fUn, sem]
  have e3 : hv N σ (fBin [87] f g) = true ↔ wnt (sem (LN N σ) f) (sem (LN N σ) g) 0 := by rw [hv_iff, hd_bin, hf, hg]; simp [fBin, sem]
  have e4 : hv N σ (fUn [71] f) = true ↔ ∀ k, 0 ≤ k → sem (LN N σ) f k := by rw [hv_iff, hd_un, hf, ← wnt_false]; simp [fUn, sem]
  have e5 : hv N σ (fUn [70] g) = true ↔ ∃ k, 0 ≤ k ∧ sem (LN N σ) g k := by rw [hv_iff, hd_un, hg, ← unt_true]; simp [fUn, sem]
  refine ⟨fun h => ?_, ?_, fun h => ?_⟩
  · rw [← unt_dual, ← e1, ← h] at e2
    exact absurd e2 (by cases hv N σ (fBin [85] f g) <;> simp)
  · rw [Bool.eq_iff_iff, Bool.or_eq_true, e1, e3, e4]; rfl
  · obtain ⟨k, h1, h2, _⟩ := e1.1 h
    exact e5.2 ⟨k, h1, h2⟩
theorem law_turns (hf : hdO N f = true) :
    hv N σ (fUn [70] f) ≠ hv N σ (fUn [71] (fUn [33] f)) ∧ hv N σ (fUn [70] f) = hv N σ (fUn [70] (fUn [70] f)) ∧ hv N σ (fUn [71] f) = hv N σ (fBin [38] f (fUn [88] (fUn [71] f))) ∧
      hv N σ (fUn [70] f) = hv N σ (fBin [124] f (fUn [88] (fUn [70] f))) ∧ (hv N σ (fUn [71] f) = true → hv N σ f = true) ∧ (hv N σ f = true → hv N σ (fUn [70] f) = true) := by
  have e0 : hv N σ f = true ↔ sem (LN N σ) f 0 := by rw [hv_iff, hf]; simp
  have e1 : hv N σ (fUn [70] f) = true ↔ ∃ k, 0 ≤ k ∧ sem (LN N σ) f k := by rw [hv_iff, hd_un, hf, ← unt_true]; simp [fUn, sem]
  have e2 : hv N σ (fUn [71] (fUn [33] f)) = true ↔ ∀ k, 0 ≤ k → ¬ sem (LN N σ) f k := by rw [hv_iff, hd_un, hd_un, hf, ← wnt_false]; simp [fUn, sem]
  have e3 : hv N σ (fUn [70] (fUn [70] f)) = true ↔ ∃ k, 0 ≤ k ∧ ∃ m, k ≤ m ∧ sem (LN N σ) f m := by
    rw [hv_iff, hd_un, hd_un, hf]
    simp only [fUn, sem, true_and]
    simp only [show ([70] : List UInt8) ≠ [33] by decide, show ([70] : List UInt8) ≠ [88] by decide, if_false, if_true, unt_true]
  have e4 : hv N σ (fUn [71] f) = true ↔ ∀ k, 0 ≤ k → sem (LN N σ) f k := by rw [hv_iff, hd_un, hf, ← wnt_false]; simp [fUn, sem]
  have e5 : hv N σ (fBin [38] f (fUn [88] (fUn [71] f))) = true ↔ sem (LN N σ) f 0 ∧ ∀ k, 1 ≤ k → sem (LN N σ) f k := by
    rw [hv_iff, hd_bin, hd_un, hd_un, hf, ← wnt_false (i := 1)]; simp [fBin, fUn, sem]
  have e6 : hv N σ (fBin [124] f (fUn [88] (fUn [70] f))) = true ↔ sem (LN N σ) f 0 ∨ ∃ k, 1 ≤ k ∧ sem (LN N σ) f k := by
    rw [hv_iff, hd_bin, hd_un, hd_un, hf, ← unt_true (i := 1)]; simp [fBin, fUn, sem]
  refine ⟨fun h => ?_, ?_, ?_, ?_, fun h => ?_, fun h => ?_⟩
  · rw [← h, e1] at e2
    by_cases hx : ∃ k, 0 ≤ k ∧ sem (LN N σ) f k
    · obtain ⟨k, h1, h2⟩ := hx
      exact e2.1 ⟨k, h1, h2⟩ k h1 h2
    · exact hx (e2.2 fun k h1 h2 => hx ⟨k, h1, h2⟩)
  · rw [Bool.eq_iff_iff, e1, e3]
    exact ⟨fun ⟨k, h1, h2⟩ => ⟨k, h1, k, Nat.le_refl _, h2⟩, fun ⟨k, h1, m, h2, h3⟩ => ⟨m, by omega, h3⟩⟩
  · rw [Bool.eq_iff_iff, e4, e5]
    refine ⟨fun h => ⟨h 0 (Nat.le_refl _), fun k _ => h k (by omega)⟩, fun h k _ => ?_⟩
    by_cases hk : k = 0
    · subst hk; exact h.1
    · exact h.2 k (by omega)
  · rw [Bool.eq_iff_iff, e1, e6]
    constructor
    · rintro ⟨k, _, h⟩
      by_cases hk : k = 0
      · subst hk; exact .inl h
      · exact .inr ⟨k, by omega, h⟩
    · rintro (h | ⟨k, _, h⟩)
      · exact ⟨0, Nat.le_refl _, h⟩
      · exact ⟨k, by omega, h⟩
  · exact e0.2 (e4.1 h 0 (Nat.le_refl _))
  · exact e1.2 ⟨0, Nat.le_refl _, e0.1 h⟩
theorem law_steps (hf : hdO N f = true) (hg : hdO N g = true) (h : ∀ i, τ i = σ (i + 1)) :
    hv N σ (fBin [85] f g) = (hv N σ g || hv N σ f && hv N τ (fBin [85] f g)) ∧ hv N σ (fBin [87] f g) = (hv N σ g || hv N σ f && hv N τ (fBin [87] f g)) ∧
      hv N σ (fBin [82] f g) = (hv N σ g && (hv N σ f || hv N τ (fBin [82] f g))) ∧ (hv N σ (fBin [85] f g) = true → hv N σ (fBin [87] f g) = true) := by
  have a0 : hv N σ f = true ↔ sem (LN N σ) f 0 := by rw [hv_iff, hf]; simp
  have b0 : hv N σ g = true ↔ sem (LN N σ) g 0 := by rw [hv_iff, hg]; simp
  have u0 : hv N σ (fBin [85] f g) = true ↔ unt (sem (LN N σ) f) (sem (LN N σ) g) 0 := by rw [hv_iff, hd_bin, hf, hg]; simp [fBin, sem]
  have w0 : hv N σ (fBin [87] f g) = true ↔ wnt (sem (LN N σ) f) (sem (LN N σ) g) 0 := by rw [hv_iff, hd_bin, hf, hg]; simp [fBin, sem]
  have r0 : hv N σ (fBin [82] f g) = true ↔ wnt (sem (LN N σ) g) (fun k => sem (LN N σ) f k ∧ sem (LN N σ) g k) 0 := by rw [hv_iff, hd_bin, hf, hg]; simp [fBin, sem]
  have nx : ∀ q, hv N τ q = true ↔ hdO N q = true ∧ sem (LN N σ) q 1 := fun q => by rw [← hv_next h, hv_iff, hd_un]; simp [fUn, sem]
  have u1 : hv N τ (fBin [85] f g) = true ↔ unt (sem (LN N σ) f) (sem (LN N σ) g) 1 := by rw [nx, hd_bin, hf, hg]; simp [fBin, sem]
  have w1 : hv N τ (fBin [87] f g) = true ↔ wnt (sem (LN N σ) f) (sem (LN N σ) g) 1 := by rw [nx, hd_bin, hf, hg]; simp [fBin, sem]
  have r1 : hv N τ (fBin [82] f g) = true ↔ wnt (sem (LN N σ) g) (fun k => sem (LN N σ) f k ∧ sem (LN N σ) g k) 1 := by rw [nx, hd_bin, hf, hg]; simp [fBin, sem]
  refine ⟨?_, ?_, ?_, fun h => ?_⟩
  · rw [Bool.eq_iff_iff, Bool.or_eq_true, Bool.and_eq_true, a0, b0, u0, u1]; exact unt_now
  · rw [Bool.eq_iff_iff, Bool.or_eq_true, Bool.and_eq_true, a0, b0, w0, w1]; exact wnt_now
  · rw [Bool.eq_iff_iff, Bool.and_eq_true, Bool.or_eq_true, a0, b0, r0, r1, wnt_now]
    by_cases hx : sem (LN N σ) f 0 <;> by_cases hy : sem (LN N σ) g 0 <;> simp [hx, hy]
  · exact w0.2 (.inl (u0.1 h))
end
end
section
section
variable {A B : Nat → Prop} {n a i k : Nat}
theorem Per.norm {p : Nat} (hA : Per a p A) : ∀ (d i : Nat), i = a + d → (A i ↔ A (a + d % p)) := by
  intro d
  induction d using Nat.strongRecOn with
  | _ d ih =>
    rintro i rfl
    by_cases hp : p = 0
    · subst hp; rw [Nat.mod_zero]
    · by_cases hd : d < p
      · rw [Nat.mod_eq_of_lt hd]
      · rw [Nat.mod_eq_sub_mod (by omega), ← ih (d - p) (by omega) _ rfl, ← hA (a + (d - p)) (by omega), show a + (d - p) + p = a + d by omega]
theorem unt_yes (h : ∀ j, j < k → A (i + j)) (hb : B (i + k)) : unt A B i := ⟨i + k, by omega, hb, fun j h1 h2 => by
  have := h (j - i) (by omega)
  rwa [show i + (j - i) = j by omega] at this⟩
theorem wnt_no (h : ∀ j, j < k → ¬ B (i + j)) (hb : ¬ B (i + k)) (ha : ¬ A (i + k)) : ¬ wnt A B i := by
  rintro (⟨m, h1, h2, h3⟩ | h1)
  · rcases Nat.lt_or_ge (i + k) m with h4 | h4
    · exact ha (h3 _ (by omega) h4)
    · rcases Nat.eq_or_lt_of_le h4 with h5 | h5
      · subst h5; exact hb h2
      · have := h (m - i) (by omega)
        rw [show i + (m - i) = m by omega] at this
        exact this h2
  · exact ha (h1 _ (by omega))
theorem unt_no (h : ∀ j, j < k → ¬ B (i + j)) (hb : ¬ B (i + k)) (ha : ¬ A (i + k)) : ¬ unt A B i := fun h1 => wnt_no h hb ha (.inl h1)
theorem unt_end (ha : a < n) (hB : Per a (n - a) B) (h : ∀ j, j < n → ¬ B (i + j)) : ¬ unt A B i := by
  intro h1
  obtain ⟨k, h2, h3, h4, _⟩ := hB.soon (by omega) h1
  have := h (k - i) (by omega)
  rw [show i + (k - i) = k by omega] at this
  exact this h4
theorem all_end (ha : a < n) (hA : Per a (n - a) A) (h : ∀ j, j < n → A (i + j)) : ∀ k, i ≤ k → A k := by
  refine hA.ever (by omega) fun k h1 h2 => ?_
  have := h (k - i) (by omega)
  rwa [show i + (k - i) = k by omega] at this
theorem wnt_end (ha : a < n) (hA : Per a (n - a) A) (h : ∀ j, j < n → A (i + j)) : wnt A B i := .inr (all_end ha hA h)
end
end
end Go.Proofs.YtmgjpjjglghbaaaGreatDoor
