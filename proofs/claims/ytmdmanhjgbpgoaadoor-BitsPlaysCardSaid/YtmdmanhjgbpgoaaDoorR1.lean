/-
  The document's own sets, a truth for each number: Has, Put and Items over such a set in memory.
-/
import Derived.Test.YtmdmanhjgbpgoaaDoorS4
namespace Go.Proofs.YtmdmanhjgbpgoaaDoor
open Go.RowKit

/-- The document's set of this size with these truths lies in block c. -/
structure RefAt (w : World) (L : Value) (c n : Nat) (f : Nat → Bool) : Prop where
  val : L = .slice (some ⟨c, 0, none⟩) n n
  le : n ≤ 4096
  out : ∀ k, n ≤ k → f k = false
  lies : ∃ cur, w.heap[c]? = some (.cells cur 4 (0, 0)) ∧ cur.size = n ∧ ∀ k, k < n → cur[k]? = some (.bool (f k))
theorem RefAt.of_heap {w w' : World} {L : Value} {c n : Nat} {f : Nat → Bool} (h : RefAt w L c n f) (hc : w'.heap[c]? = w.heap[c]?) : RefAt w' L c n f := by
  obtain ⟨h1, h2, h3, cur, h4, h5⟩ := h
  exact ⟨h1, h2, h3, cur, hc.trans h4, h5⟩
theorem RefAt.lt_c {w : World} {L : Value} {c n : Nat} {f : Nat → Bool} (h : RefAt w L c n f) : c < w.heap.size := by
  obtain ⟨cur, h4, h5⟩ := h.lies
  exact (Array.getElem?_eq_some_iff.1 h4).1
theorem RefAt.below {w w' : World} {L : Value} {c n : Nat} {f : Nat → Bool} (h : RefAt w L c n f) (hb : Below w.heap.size w w') : RefAt w' L c n f := h.of_heap (hb.block c h.lt_c)
theorem RefAt.only {w w' : World} {L : Value} {c n g : Nat} {f : Nat → Bool} (h : RefAt w L c n f) (ho : Only g w w') (hne : c ≠ g) : RefAt w' L c n f := h.of_heap (ho.block c h.lt_c (by simpa using hne))
theorem RefAt.drewN {w : World} {L : Value} {c n : Nat} {f : Nat → Bool} (h : RefAt w L c n f) (k : Nat) : RefAt (w.drewN k) L c n f := h.of_heap rfl
theorem RefAt.cell {w : World} {L : Value} {c n : Nat} {f : Nat → Bool} (h : RefAt w L c n f) (k : Nat) (hk : k < n) : w.cell? ⟨c, k, none⟩ = some (.bool (f k)) := by
  obtain ⟨cur, h4, h5, h6⟩ := h.lies
  simp only [World.cell?, h4]
  simpa using h6 k hk
theorem RefAt.frozen {w : World} {L : Value} {c n : Nat} {f : Nat → Bool} (h : RefAt w L c n f) (k : Nat) : w.frozen? ⟨c, k, none⟩ = false := by
  obtain ⟨cur, h4, h5, h6⟩ := h.lies
  simp [World.frozen?, h4]
/-- One truth turned. -/
def setF (f : Nat → Bool) (i : Nat) (b : Bool) : Nat → Bool := fun j => if j = i then b else f j
theorem RefAt.set {w : World} {L : Value} {c n : Nat} {f : Nat → Bool} (h : RefAt w L c n f) (i : Nat) (b : Bool) (hi : i < n) : RefAt (w.setCell ⟨c, i, none⟩ (.bool b)) L c n (setF f i b) := by
  obtain ⟨h1, h2, h3, cur, h4, h5, h6⟩ := h
  refine ⟨h1, h2, ?_, cur.setIfInBounds i (.bool b), ?_, ?_, ?_⟩
  · intro k hk; unfold setF; rw [if_neg (by omega)]; exact h3 k hk
  · simp only [World.setCell, Array.getElem?_modify, h4]; simp
  · simpa using h5
  · intro k hk
    rw [Array.getElem?_setIfInBounds]
    unfold setF
    by_cases he : i = k
    · subst he; rw [if_pos rfl, if_pos (by omega), if_pos rfl]
    · rw [if_neg he, if_neg (fun e => he e.symm)]; exact h6 k hk

theorem only_alloc {a w : World} {row : Option Nat} (h : a.grownBy w row) (o : Obj) : a.grownBy (w.alloc o) row :=
  ⟨h.os, h.tape, h.output, Nat.le_trans h.size (by simp), fun i hi hne => (Below.heap_alloc w o i (Nat.lt_of_lt_of_le hi h.size)).trans (h.block i hi hne)⟩

/-- A set that may be none. -/
def RefT (w : World) (T : Value) (g : Nat → Bool) : Prop := (T = .slice none 0 0 ∧ ∀ j, g j = false) ∨ ∃ c n, RefAt w T c n g
theorem RefT.below {w w' : World} {T : Value} {g : Nat → Bool} (h : RefT w T g) (hb : Below w.heap.size w w') : RefT w' T g := by
  rcases h with h | ⟨c, n, h⟩
  · exact .inl h
  · exact .inr ⟨c, n, h.below hb⟩

set_option maxHeartbeats 400000 in
theorem refHas_any {w : World} {T : Value} {g : Nat → Bool} (h : RefT w T g) (i : Int) :
    Calls Tryd.prog 21 #[.agg #[T], .int .i64 i] w fun e w' => e = .returned (.bool (memI g i)) ∧ w' = w.alloc (.cells #[T] 33) := by
  by_cases hi : 0 ≤ i
  · obtain ⟨k, rfl⟩ := Int.eq_ofNat_of_zero_le hi
    rcases h with ⟨rfl, hg⟩ | ⟨c, n, h⟩
    · have e : memI g (k : Int) = false := by simp [memI, hg]
      rw [e]
      have hd : decide ((k : Int) < 0) = false := by simp
      clear hg e hi
      go_enter Tryd.func21, Tryd.ntmps21
      go_wp2
      go_ret
      exact ⟨rfl, rfl⟩
    · have hv := h.val
      subst hv
      have e : memI g (k : Int) = g k := by simp [memI]
      rw [e]
      by_cases hk : k < n
      · have hc := h.cell k hk
        have hcl := h.lt_c
        have hc' := (World.cell?_alloc_lt w (.cells #[.slice (some ⟨c, 0, none⟩) n n] 33) ⟨c, k, none⟩ hcl).trans hc
        have k0 : (0 : Int) ≤ (k : Int) := by omega
        have k1 : (k : Int) < (n : Int) := by omega
        generalize g k = b at *
        clear h e hi hc
        go_enter Tryd.func21, Tryd.ntmps21
        go_wp2
        go_ret
        exact ⟨rfl, rfl⟩
      · have hd : decide ((k : Int) < (n : Int)) = false := by simp; omega
        have hd2 : ¬ (k : Int) < (n : Int) := by omega
        have eg := h.out k (by omega)
        rw [eg]
        clear h e hi eg
        go_enter Tryd.func21, Tryd.ntmps21
        go_wp2
        go_ret
        exact ⟨rfl, rfl⟩
  · have e : memI g i = false := by simp [memI, hi]
    rw [e]
    have hd : decide (0 ≤ i) = false := by simp; omega
    clear h e
    go_enter Tryd.func21, Tryd.ntmps21
    go_wp2
    go_ret
    exact ⟨rfl, rfl⟩

/-- What Put leaves. -/
def putF (f : Nat → Bool) (n : Nat) (i : Int) (b : Bool) : Nat → Bool := fun j => if (j : Int) = i ∧ j < n then b else f j
def PutPost (f : Nat → Bool) (n c : Nat) (L : Value) (i : Int) (b : Bool) (w : World) (e : Ending) (w' : World) : Prop :=
  e = .returned (.bool (decide (0 ≤ i ∧ i < n) && (memI f i != b))) ∧ Only c w w' ∧ RefAt w' L c n (putF f n i b)
theorem RefAt.congr {w : World} {L : Value} {c n : Nat} {f g : Nat → Bool} (h : RefAt w L c n f) (hfg : ∀ j, f j = g j) : RefAt w L c n g := by
  rw [← show f = g from funext hfg]; exact h

set_option maxHeartbeats 400000 in
theorem put_any {w : World} {L : Value} {c n : Nat} {f : Nat → Bool} (h : RefAt w L c n f) (i : Int) (b : Bool) :
    Calls Tryd.prog 18 #[.agg #[L], .int .i64 i, .bool b] w (PutPost f n c L i b w) := by
  have HR := Lib.hid h
  have hv := h.val
  have hcl := h.lt_c
  by_cases hi : 0 ≤ i ∧ i < n
  · obtain ⟨k, rfl⟩ := Int.eq_ofNat_of_zero_le hi.1
    have hk : k < n := by omega
    have hc := h.cell k hk
    have hf := h.frozen k
    have hc' := (World.cell?_alloc_lt w (.cells #[L] 33) ⟨c, k, none⟩ hcl).trans hc
    have hf' := (World.frozen?_alloc_old w (.cells #[L] 33) ⟨c, k, none⟩ (Nat.ne_of_lt hcl)).trans hf
    have hd1 : decide ((k : Int) < 0) = false := by simp
    have hd2 : decide ((n : Int) ≤ (k : Int)) = false := by simp; omega
    have k0 : (0 : Int) ≤ (k : Int) := by omega
    have k1 : (k : Int) < (n : Int) := by omega
    have em : memI f (k : Int) = f k := by simp [memI]
    by_cases hb : f k = b
    · have HB := Lib.hid hb
      have HEM := Lib.hid em
      have hbb : (f k == b) = true := by simp [hb]
      rw [hb] at hc'
      clear h hc hf hb em hbb hf' hi
      subst hv
      go_enter Tryd.func18, Tryd.ntmps18
      go_wp2
      go_ret
      refine ⟨?_, ⟨rfl, rfl, rfl, by simp, fun j hj _ => Below.heap_alloc _ _ _ hj⟩, (HR.out.of_heap (Below.heap_alloc _ _ _ hcl)).congr ?_⟩
      · rw [HEM.out, HB.out]; simp
      · intro j
        unfold putF
        split
        · rename_i hj; rw [show j = k by omega]; exact HB.out
        · rfl
    · have HB := Lib.hid hb
      have HEM := Lib.hid em
      have hnb : f k = !b := by cases hx : f k <;> cases b <;> simp_all
      rw [hnb] at hc'
      have hbb : ((!b) == b) = false := by cases b <;> rfl
      clear h hc hf hb em hnb hi
      subst hv
      go_enter Tryd.func18, Tryd.ntmps18
      go_wp2
      go_ret
      refine ⟨?_, ?_, ?_⟩
      · rw [HEM.out]
        have hx := HB.out
        cases hfk : f k <;> cases b <;> simp_all
      · exact only_alloc (only_setCell (g := c) (p := ⟨c, k, none⟩) (only_refl c w) rfl _) _
      · refine ((HR.out.set k b hk).of_heap (Below.heap_alloc _ _ _ (by simpa [World.setCell] using hcl))).congr ?_
        intro j
        unfold putF setF
        by_cases hj : j = k
        · rw [if_pos hj, if_pos ⟨by omega, by omega⟩]
        · rw [if_neg hj, if_neg (by omega)]
  · have hneg : i < 0 ∨ (n : Int) ≤ i := by omega
    have HE := Lib.hid hi
    have fin : Only c w (w.alloc (.cells #[L] 33)) ∧ RefAt (w.alloc (.cells #[L] 33)) L c n (putF f n i b) := by
      refine ⟨⟨rfl, rfl, rfl, by simp, fun j hj _ => Below.heap_alloc _ _ _ hj⟩, (HR.out.of_heap (Below.heap_alloc _ _ _ hcl)).congr ?_⟩
      intro j
      unfold putF
      rw [if_neg (by omega)]
    have HF := Lib.hid fin
    clear fin h hi
    by_cases h0 : i < 0
    · have hd1 : decide (i < 0) = true := by simp; omega
      subst hv
      clear hneg
      go_enter Tryd.func18, Tryd.ntmps18
      go_wp2
      go_ret
      exact ⟨by rw [decide_eq_false HE.out]; rfl, HF.out⟩
    · have hd1 : decide (i < 0) = false := by simp; omega
      have hd2 : (n : Int) ≤ i := by omega
      subst hv
      clear hneg
      go_enter Tryd.func18, Tryd.ntmps18
      go_wp2
      go_ret
      exact ⟨by rw [decide_eq_false HE.out]; rfl, HF.out⟩
end Go.Proofs.YtmdmanhjgbpgoaaDoor
