/-
  A set in memory: the words that it holds, what it has, and how it lies; what a store into a word makes of it.
-/
import Derived.Test.YtmdmanhjgbpgoaaDoorL3
import Derived.Deep.Draws
namespace Go.Proofs.YtmdmanhjgbpgoaaDoor
open Go.RowKit

def W64 (x : Nat) : Value := .int .u64 (x : Int)

/-- The set of this size with these words lies at block b, its words in block c. -/
structure SetAt (w : World) (b c size : Nat) (ws : List Nat) : Prop where
  ne : b ≠ c
  le : size ≤ 4096
  len : ws.length = (size + 63) / 64
  lt : ∀ k, ws.getD k 0 < 18446744073709551616
  room : ∀ i, mem ws i = true → i < size
  lies : ∃ cap cur, w.heap[b]? = some (.cells #[.int .i64 (size : Int), .slice (some ⟨c, 0, none⟩) ws.length cap] 64 (0, 0)) ∧ w.heap[c]? = some (.cells cur 60 (0, 0)) ∧ ws.length ≤ cap ∧ cap ≤ maxLen ∧ cur.size = cap ∧ ∀ k, k < ws.length → cur[k]? = some (W64 (ws.getD k 0))

theorem SetAt.of_heap {w w' : World} {b c size : Nat} {ws : List Nat} (h : SetAt w b c size ws) (hb : w'.heap[b]? = w.heap[b]?) (hc : w'.heap[c]? = w.heap[c]?) : SetAt w' b c size ws := by
  obtain ⟨h1, h2, h3, h4, h5, cap, cur, h6, h7, h8⟩ := h
  exact ⟨h1, h2, h3, h4, h5, cap, cur, hb.trans h6, hc.trans h7, h8⟩
theorem SetAt.drewN {w : World} {b c size : Nat} {ws : List Nat} (h : SetAt w b c size ws) (k : Nat) : SetAt (w.drewN k) b c size ws := h.of_heap rfl rfl
theorem SetAt.csize {w : World} {b c size : Nat} {ws : List Nat} (h : SetAt w b c size ws) : w.cell? ⟨b, 0, none⟩ = some (.int .i64 (size : Int)) := by
  obtain ⟨cap, cur, h6, h7, h8⟩ := h.lies
  simp [World.cell?, h6]
theorem SetAt.cslice {w : World} {b c size : Nat} {ws : List Nat} (h : SetAt w b c size ws) : ∃ cap, w.cell? ⟨b, 1, none⟩ = some (.slice (some ⟨c, 0, none⟩) ws.length cap) ∧ ws.length ≤ cap ∧ cap ≤ maxLen := by
  obtain ⟨cap, cur, h6, h7, h8, h9, h10⟩ := h.lies
  exact ⟨cap, by simp [World.cell?, h6], h8, h9⟩
theorem SetAt.cword {w : World} {b c size : Nat} {ws : List Nat} (h : SetAt w b c size ws) (k : Nat) (hk : k < ws.length) : w.cell? ⟨c, k, none⟩ = some (.int .u64 ((ws.getD k 0 : Nat) : Int)) := by
  obtain ⟨cap, cur, h6, h7, h8, h9, h10, h11⟩ := h.lies
  have := h11 k hk
  simp only [World.cell?, h7]
  simpa [W64] using this
theorem SetAt.fword {w : World} {b c size : Nat} {ws : List Nat} (h : SetAt w b c size ws) (k : Nat) : w.frozen? ⟨c, k, none⟩ = false := by
  obtain ⟨cap, cur, h6, h7, h8, h9, h10, h11⟩ := h.lies
  simp [World.frozen?, h7]
theorem SetAt.lt_b {w : World} {b c size : Nat} {ws : List Nat} (h : SetAt w b c size ws) : b < w.heap.size ∧ c < w.heap.size := by
  obtain ⟨cap, cur, h6, h7, h8⟩ := h.lies
  exact ⟨(Array.getElem?_eq_some_iff.1 h6).1, (Array.getElem?_eq_some_iff.1 h7).1⟩

theorem mem_def (ws : List Nat) (i : Nat) : mem ws i = (ws.getD (i / 64) 0).testBit (i % 64) := rfl
theorem getD_set (ws : List Nat) (q y k : Nat) (hq : q < ws.length) : (ws.set q y).getD k 0 = if k = q then y else ws.getD k 0 := by
  simp only [List.getD_eq_getElem?_getD, List.getElem?_set]
  by_cases h : q = k
  · subst h; simp [hq]
  · rw [if_neg h, if_neg (fun e => h e.symm)]
theorem mem_set (ws : List Nat) (q y j : Nat) (hq : q < ws.length) : mem (ws.set q y) j = if j / 64 = q then y.testBit (j % 64) else mem ws j := by
  unfold mem
  rw [getD_set _ _ _ _ hq]
  split <;> rfl

theorem SetAt.setWord {w : World} {b c size : Nat} {ws : List Nat} (h : SetAt w b c size ws) (q y : Nat) (hq : q < ws.length) (hy : y < 18446744073709551616)
    (hr : ∀ i, i / 64 = q → y.testBit (i % 64) = true → i < size) : SetAt (w.setCell ⟨c, q, none⟩ (.int .u64 (y : Int))) b c size (ws.set q y) := by
  obtain ⟨h1, h2, h3, h4, h5, cap, cur, h6, h7, h8, h9, h10, h11⟩ := h
  refine ⟨h1, h2, by simpa using h3, ?_, ?_, cap, cur.setIfInBounds q (.int .u64 (y : Int)), ?_, ?_, ?_, h9, ?_, ?_⟩
  · intro k; rw [getD_set _ _ _ _ hq]; split
    · exact hy
    · exact h4 k
  · intro i hi
    rw [mem_set _ _ _ _ hq] at hi
    by_cases he : i / 64 = q
    · rw [if_pos he] at hi; exact hr i he hi
    · rw [if_neg he] at hi; exact h5 i hi
  · rw [Below.heap_setCell _ _ _ _ h1]; simpa using h6
  · simp only [World.setCell, Array.getElem?_modify, h7]; simp
  · simpa using h8
  · simpa using h10
  · intro k hk
    rw [getD_set _ _ _ _ hq]
    simp only [List.length_set] at hk
    rw [Array.getElem?_setIfInBounds]
    by_cases he : q = k
    · subst he
      rw [if_pos rfl, if_pos (by omega), if_pos rfl]; rfl
    · rw [if_neg he, if_neg (fun e => he e.symm)]; exact h11 k hk

/-- Two sets of one size that have the same have the same words. -/
theorem words_ext {w w' : World} {b c b' c' size : Nat} {ws vs : List Nat} (h : SetAt w b c size ws) (h' : SetAt w' b' c' size vs) (hm : ∀ i, mem ws i = mem vs i) : ws = vs := by
  have hl : ws.length = vs.length := by rw [h.len, h'.len]
  apply List.ext_getElem hl
  intro k h1 h2
  have a1 := h.lt k
  have a2 := h'.lt k
  rw [List.getD_eq_getElem?_getD, List.getElem?_eq_getElem h1, Option.getD_some] at a1
  rw [List.getD_eq_getElem?_getD, List.getElem?_eq_getElem h2, Option.getD_some] at a2
  apply Nat.eq_of_testBit_eq
  intro i
  by_cases hi : i < 64
  · have := hm (k * 64 + i)
    unfold mem at this
    rw [show (k * 64 + i) / 64 = k by omega, show (k * 64 + i) % 64 = i by omega] at this
    simpa [List.getD_eq_getElem?_getD, List.getElem?_eq_getElem h1, List.getElem?_eq_getElem h2] using this
  · have hp : 2 ^ 64 ≤ 2 ^ i := Nat.pow_le_pow_right (by omega) (by omega)
    rw [Nat.testBit_lt_two_pow (Nat.lt_of_lt_of_le a1 hp), Nat.testBit_lt_two_pow (Nat.lt_of_lt_of_le a2 hp)]

/-- A set that has just what f says. -/
def SetF (w : World) (b c size : Nat) (f : Nat → Bool) : Prop := ∃ ws, SetAt w b c size ws ∧ ∀ i, mem ws i = f i

/-- What a set of a size has, rising. -/
def its (size : Nat) (f : Nat → Bool) : List Nat := (List.range size).filter f

/-- What has turned is block c alone, or is new. -/
abbrev Only (c : Nat) (w w' : World) : Prop := w.grownBy w' (some c)
theorem only_refl (c : Nat) (w : World) : Only c w w := ⟨rfl, rfl, rfl, Nat.le_refl _, fun _ _ _ => rfl⟩
theorem only_drewN {a w : World} {row : Option Nat} (h : a.grownBy w row) (n : Nat) : a.grownBy (w.drewN n) row := ⟨h.os, h.tape, h.output, h.size, h.block⟩
theorem only_setCell {a w : World} {g : Nat} (h : a.grownBy w (some g)) {p : Addr} (hp : p.block = g) (u : Value) : a.grownBy (w.setCell p u) (some g) :=
  ⟨h.os, h.tape, h.output, by simpa [World.setCell] using h.size, fun i hi hne => (Below.heap_setCell w p u i (by
    rintro rfl
    exact hne (by rw [hp]))).trans (h.block i hi hne)⟩
theorem SetF.only {w w' : World} {b c g size : Nat} {f : Nat → Bool} (h : SetF w b c size f) (ho : Only g w w') (hb : b ≠ g) (hc : c ≠ g) : SetF w' b c size f := by
  obtain ⟨ws, hw, hm⟩ := h
  exact ⟨ws, hw.of_heap (ho.block b hw.lt_b.1 (by simpa using hb)) (ho.block c hw.lt_b.2 (by simpa using hc)), hm⟩
theorem SetF.below {w w' : World} {b c size : Nat} {f : Nat → Bool} (h : SetF w b c size f) (ho : Below w.heap.size w w') : SetF w' b c size f := by
  obtain ⟨ws, hw, hm⟩ := h
  exact ⟨ws, hw.of_heap (ho.block b hw.lt_b.1) (ho.block c hw.lt_b.2), hm⟩
theorem SetF.drewN {w : World} {b c size : Nat} {f : Nat → Bool} (h : SetF w b c size f) (k : Nat) : SetF (w.drewN k) b c size f := by
  obtain ⟨ws, hw, hm⟩ := h
  exact ⟨ws, hw.drewN k, hm⟩

/-- Has, at any number. -/
def memI (f : Nat → Bool) (i : Int) : Bool := decide (0 ≤ i) && f i.toNat

theorem SetF.out {w : World} {b c size : Nat} {f : Nat → Bool} (h : SetF w b c size f) (i : Nat) (hi : f i = true) : i < size := by
  obtain ⟨ws, hw, hm⟩ := h
  exact hw.room i (by rw [hm]; exact hi)

theorem has_set {w : World} {b c size : Nat} {f : Nat → Bool} (h : SetF w b c size f) (i : Int) :
    Calls Tryd.prog 24 #[.pointer (some ⟨b, 0, none⟩), .int .i64 i] w fun e w' => e = .returned (.bool (memI f i)) ∧ ∃ k, w' = w.drewN k := by
  obtain ⟨ws, hw, hm⟩ := h
  by_cases hi : 0 ≤ i ∧ i < size
  · obtain ⟨n, rfl⟩ := Int.eq_ofNat_of_zero_le hi.1
    obtain ⟨cap, hs, hcap⟩ := hw.cslice
    have hq : n / 64 < ws.length := by have := hw.len; omega
    have e : memI f (n : Int) = (ws.getD (n / 64) 0).testBit (n % 64) := by
      rw [← mem_def ws n, hm]; simp [memI]
    rw [e]
    exact has_yes b c ws.length cap n _ w size hw.csize hs (hw.cword _ hq) hi.2 (by have := hw.le; omega) hq (hw.lt _)
  · have e : memI f i = false := by
      unfold memI
      by_cases h0 : 0 ≤ i
      · have : f i.toNat = false := by
          cases hf : f i.toNat with
          | false => rfl
          | true => have := hw.room i.toNat (by rw [hm]; exact hf); omega
        rw [this]; simp
      · simp [h0]
    rw [e]
    exact has_no b i size w hw.csize (by omega)

theorem bit_lt {x k : Nat} (hx : x < 18446744073709551616) : x ||| 2 ^ (k % 64) < 18446744073709551616 := Nat.or_lt_two_pow (n := 64) hx (pow_lt k)

/-- Add, at any number. -/
def addF (f : Nat → Bool) (size : Nat) (i : Int) : Nat → Bool := fun j => f j || decide ((j : Int) = i ∧ j < size)
def delF (f : Nat → Bool) (i : Int) : Nat → Bool := fun j => f j && !decide ((j : Int) = i)

theorem add_set {w : World} {b c size : Nat} {f : Nat → Bool} (h : SetF w b c size f) (i : Int) :
    Calls Tryd.prog 17 #[.pointer (some ⟨b, 0, none⟩), .int .i64 i] w fun e w' => e = .returned (.bool (decide (0 ≤ i ∧ i < size) && !memI f i)) ∧ Only c w w' ∧ SetF w' b c size (addF f size i) := by
  obtain ⟨ws, hw, hm⟩ := h
  by_cases hi : 0 ≤ i ∧ i < size
  · obtain ⟨n, rfl⟩ := Int.eq_ofNat_of_zero_le hi.1
    obtain ⟨cap, hs, hcap⟩ := hw.cslice
    have hq : n / 64 < ws.length := by have := hw.len; omega
    have e : memI f (n : Int) = (ws.getD (n / 64) 0).testBit (n % 64) := by
      rw [← mem_def ws n, hm]; simp [memI]
    cases hb : (ws.getD (n / 64) 0).testBit (n % 64) with
    | false =>
      refine (add_new b c ws.length cap n (n / 64) _ w size hw.csize hs rfl (hw.cword _ hq) (hw.fword _) hi.2 (by have := hw.le; omega) hq (hw.lt _) hb).mono ?_
      rintro ev w' ⟨rfl, k, rfl⟩
      refine ⟨by rw [e, hb]; simp [hi], only_setCell (only_drewN (only_refl c w) k) rfl _, _, (hw.drewN k).setWord _ _ hq (bit_lt (hw.lt _)) ?_, ?_⟩
      · intro j hj ht
        rw [Nat.testBit_or, Nat.testBit_two_pow, Bool.or_eq_true] at ht
        rcases ht with ht | ht
        · exact hw.room j (by unfold mem; rw [hj]; exact ht)
        · have := of_decide_eq_true ht; omega
      · intro j
        rw [mem_set _ _ _ _ hq]
        unfold addF
        by_cases hj : j / 64 = n / 64
        · rw [if_pos hj, Nat.testBit_or, Nat.testBit_two_pow, ← hj, ← mem_def ws j, hm]
          congr 1
          rw [decide_eq_decide]
          constructor
          · intro _; omega
          · intro _; omega
        · rw [if_neg hj, hm]
          have : decide ((j : Int) = (n : Int) ∧ j < size) = false := by rw [decide_eq_false_iff_not]; omega
          rw [this]; simp
    | true =>
      refine (add_old b c ws.length cap n (n / 64) _ w size hw.csize hs rfl (hw.cword _ hq) hi.2 (by have := hw.le; omega) hq (hw.lt _) hb).mono ?_
      rintro ev w' ⟨rfl, k, rfl⟩
      refine ⟨by rw [e, hb]; simp, only_drewN (only_refl c w) k, _, hw.drewN k, ?_⟩
      intro j
      rw [hm]
      unfold addF
      by_cases hj : (j : Int) = (n : Int) ∧ j < size
      · have : j = n := by omega
        subst this
        rw [← hm]
        rw [show mem ws j = true from hb]; simp
      · simp [hj]
  · refine (add_no b i size w hw.csize (by omega)).mono ?_
    rintro ev w' ⟨rfl, rfl⟩
    refine ⟨by simp [hi], only_refl c _, ws, hw, ?_⟩
    intro j
    rw [hm]; unfold addF
    have : decide ((j : Int) = i ∧ j < size) = false := by rw [decide_eq_false_iff_not]; omega
    rw [this]; simp

theorem del_set {w : World} {b c size : Nat} {f : Nat → Bool} (h : SetF w b c size f) (i : Int) :
    Calls Tryd.prog 19 #[.pointer (some ⟨b, 0, none⟩), .int .i64 i] w fun e w' => e = .returned (.bool (memI f i)) ∧ Only c w w' ∧ SetF w' b c size (delF f i) := by
  obtain ⟨ws, hw, hm⟩ := h
  by_cases hi : 0 ≤ i ∧ i < size
  · obtain ⟨n, rfl⟩ := Int.eq_ofNat_of_zero_le hi.1
    obtain ⟨cap, hs, hcap⟩ := hw.cslice
    have hq : n / 64 < ws.length := by have := hw.len; omega
    have e : memI f (n : Int) = (ws.getD (n / 64) 0).testBit (n % 64) := by
      rw [← mem_def ws n, hm]; simp [memI]
    cases hb : (ws.getD (n / 64) 0).testBit (n % 64) with
    | true =>
      refine (del_yes b c ws.length cap n (n / 64) _ w size hw.csize hs rfl (hw.cword _ hq) (hw.fword _) hi.2 (by have := hw.le; omega) hq (hw.lt _) hb).mono ?_
      rintro ev w' ⟨rfl, k, rfl⟩
      have htb : ∀ j, ((ws.getD (n / 64) 0) &&& (18446744073709551615 - 2 ^ (n % 64))).testBit (j % 64) = ((ws.getD (n / 64) 0).testBit (j % 64) && !decide (n % 64 = j % 64)) := by
        intro j
        rw [Nat.testBit_and, show 18446744073709551615 - 2 ^ (n % 64) = 2 ^ 64 - (2 ^ (n % 64) + 1) by omega, Nat.testBit_two_pow_sub_succ (pow_lt n), Nat.testBit_two_pow]
        have : j % 64 < 64 := by omega
        simp [this]
      refine ⟨by rw [e, hb], only_setCell (only_drewN (only_refl c w) k) rfl _, _, (hw.drewN k).setWord _ _ hq (Nat.lt_of_le_of_lt Nat.and_le_left (hw.lt _)) ?_, ?_⟩
      · intro j hj ht
        rw [htb, Bool.and_eq_true] at ht
        exact hw.room j (by unfold mem; rw [hj]; exact ht.1)
      · intro j
        rw [mem_set _ _ _ _ hq]
        unfold delF
        by_cases hj : j / 64 = n / 64
        · rw [if_pos hj, htb, ← hj, ← mem_def ws j, hm]
          congr 2
          rw [decide_eq_decide]
          constructor
          · intro _; omega
          · intro _; omega
        · rw [if_neg hj, hm]
          have : decide ((j : Int) = (n : Int)) = false := by rw [decide_eq_false_iff_not]; omega
          rw [this]; simp
    | false =>
      refine (del_old b c ws.length cap n (n / 64) _ w size hw.csize hs rfl (hw.cword _ hq) hi.2 (by have := hw.le; omega) hq (hw.lt _) hb).mono ?_
      rintro ev w' ⟨rfl, k, rfl⟩
      refine ⟨by rw [e, hb], only_drewN (only_refl c w) k, _, hw.drewN k, ?_⟩
      intro j
      rw [hm]
      unfold delF
      by_cases hj : (j : Int) = (n : Int)
      · have : j = n := by omega
        subst this
        rw [← hm]
        rw [show mem ws j = false from hb]; simp
      · simp [hj]
  · refine (del_no b i size w hw.csize (by omega)).mono ?_
    rintro ev w' ⟨rfl, k, rfl⟩
    have e : ∀ j, f j = true → (j : Int) ≠ i := by
      intro j hj
      have := hw.room j (by rw [hm]; exact hj)
      omega
    refine ⟨?_, only_drewN (only_refl c w) k, ws, hw.drewN k, ?_⟩
    · unfold memI
      cases hf : f i.toNat with
      | false => simp
      | true => have := e _ hf; have h0 : ¬ 0 ≤ i := by omega
                simp [h0]
    · intro j
      rw [hm]; unfold delF
      cases hf : f j with
      | false => simp
      | true => have := e j hf; simp [this]
end Go.Proofs.YtmdmanhjgbpgoaaDoor
