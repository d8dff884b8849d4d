/-
  Letter, walked.
-/
import Derived.Test.YtkddaobbjfnckaaGreatDoorOd
import Derived.BigQuiet
namespace Go.Proofs.YtkddaobbjfnckaaGreatDoor
open Go.RowKit

/-- The i-th letter, if there is one. -/
def ltO (s l : List Int) (i : Int) : Int × Bool := if i < 0 then (0, false) else (wl s l i.toNat, decide (i.toNat < s.length ∨ l ≠ []))
def LtP (s l : List Int) (i : Int) (w : World) (e : Ending) (w' : World) : Prop := e = .returned (.tuple #[.int .i64 (ltO s l i).1, .bool (ltO s l i).2]) ∧ Below w.heap.size w w'
theorem lt_neg {s l : List Int} {i : Int} (h : i < 0) : ltO s l i = (0, false) := by rw [ltO, if_pos h]
theorem lt_stem {s l : List Int} {k : Nat} (h : k < s.length) : ltO s l (k : Int) = (s[k], true) := by
  rw [ltO, if_neg (by omega), Int.toNat_natCast, decide_eq_true (.inl h), wl, if_pos h, List.getD_eq_getElem?_getD, List.getElem?_eq_getElem h]; rfl
theorem lt_none {s : List Int} {k : Nat} (h : s.length ≤ k) : ltO s [] (k : Int) = (0, false) := by
  rw [ltO, if_neg (by omega), Int.toNat_natCast, decide_eq_false (by rintro (h1 | h1); omega; exact h1 rfl), wl, if_neg (by omega)]; rfl
theorem lt_loop {s l : List Int} {d : Nat} (h : d % l.length < l.length) : ltO s l ((s.length + d : Nat) : Int) = (l[d % l.length], true) := by
  have hl : l ≠ [] := by rintro rfl; simp at h
  rw [ltO, if_neg (by omega), Int.toNat_natCast, decide_eq_true (.inr hl), wl, if_neg (by omega), Nat.add_sub_cancel_left, List.getD_eq_getElem?_getD, List.getElem?_eq_getElem h]; rfl
set_option maxHeartbeats 4000000 in
theorem letter_any {A B : Option Addr} {s l : List Int} {sc lc : Nat} (i : Int) (w : World) (h : WM w A B s l) (h1 : s.length ≤ 1000000) (h2 : l.length ≤ 1000000) (hi : -9223372036854775808 ≤ i ∧ i ≤ 9223372036854775807) : Calls Tryz.prog 21 #[lav A s.length sc B l.length lc, .int .i64 i] w (LtP s l i w) := by
  by_cases h0 : i < 0
  · have HE := Lib.hid (lt_neg (s := s) (l := l) h0)
    have d0 : decide (i < 0) = true := by simpa using h0
    unfold LtP
    rw [HE.out]
    generalize s.length = n at *
    generalize l.length = m at *
    clear h h0
    show Calls Tryz.prog 21 #[.agg #[.slice A n sc, .slice B m lc], .int .i64 i] w _
    go_enter Tryz.func21, Tryz.ntmps21
    go_wp2
    go_ret2
    exact ⟨rfl, below_alloc _ _⟩
  · obtain ⟨k, rfl⟩ := Int.eq_ofNat_of_zero_le (show 0 ≤ i by omega)
    by_cases hk : k < s.length
    · have HE := Lib.hid (lt_stem (l := l) hk)
      unfold LtP
      rw [HE.out]
      have c1 := (h.st.below (below_alloc w (.cells #[.slice A s.length sc, .slice B l.length lc] 42))) k hk
      obtain ⟨g, o, hA, c1⟩ := c1
      generalize s[k] = c at *
      obtain ⟨n, hn⟩ : ∃ n, n = s.length := ⟨_, rfl⟩
      rw [← hn] at hk h1 c1 ⊢
      have d1 : decide (k < n) = true := by simp; omega
      generalize l.length = m at *
      subst hA
      clear h h0 HE hn
      show Calls Tryz.prog 21 #[.agg #[.slice (some ⟨g, o, none⟩) n sc, .slice B m lc], .int .i64 (k : Int)] w _
      go_enter Tryz.func21, Tryz.ntmps21
      go_wp2
      go_ret2
      exact ⟨rfl, below_alloc _ _⟩
    · cases hl : l with
      | nil =>
        have HE := Lib.hid (lt_none (s := s) (k := k) (by omega))
        unfold LtP
        rw [HE.out]
        have d1 : decide (k < s.length) = false := by simp; omega
        generalize s.length = n at *
        clear h h0 HE hl h2
        show Calls Tryz.prog 21 #[.agg #[.slice A n sc, .slice B 0 lc], .int .i64 (k : Int)] w _
        go_enter Tryz.func21, Tryz.ntmps21
        go_wp2
        go_ret2
        exact ⟨rfl, below_alloc _ _⟩
      | cons x r =>
        rw [← hl]
        have hm : 0 < l.length := by rw [hl]; simp
        obtain ⟨d, rfl⟩ : ∃ d, k = s.length + d := ⟨k - s.length, by omega⟩
        have hd := Nat.mod_lt d hm
        have HE := Lib.hid (lt_loop (s := s) hd)
        unfold LtP
        rw [HE.out]
        have c1 := (h.lp.below (below_alloc w (.cells #[.slice A s.length sc, .slice B l.length lc] 42))) _ hd
        obtain ⟨g, o, hA, c1⟩ := c1
        generalize l[d % l.length] = c at *
        have hj : Int.tmod (d : Int) (l.length : Int) = ((d % l.length : Nat) : Int) := rfl
        obtain ⟨j, hjj⟩ : ∃ j, j = d % l.length := ⟨_, rfl⟩
        rw [← hjj] at hd c1 hj
        obtain ⟨m, hmm⟩ : ∃ m, m = l.length := ⟨_, rfl⟩
        rw [← hmm] at hm hd h2 c1 hj ⊢
        generalize s.length = n at *
        subst hA
        have d1 : decide (n + d < n) = false := by simp
        have d2 : decide ((m : Int) = 0) = false := by simp; omega
        have d3 : ((m : Int) == 0) = false := by simp; omega
        have hs : ((n + d : Nat) : Int) - (n : Int) = (d : Int) := by omega
        have hm0 : (m : Int) ≠ 0 := by omega
        have hw : IntKind.i64.wrap ((n : Int) + (d : Int) - (n : Int)) = (d : Int) := by rw [IntKind.wrap_i64]; omega
        have hwj : IntKind.i64.wrap (j : Int) = (j : Int) := by rw [IntKind.wrap_i64]; omega
        have k0 : (0 : Int) ≤ (j : Int) := by omega
        have k1 : (j : Int) < (m : Int) := by omega
        clear h HE hl hjj hmm
        show Calls Tryz.prog 21 #[.agg #[.slice A n sc, .slice (some ⟨g, o, none⟩) m lc], .int .i64 ((n + d : Nat) : Int)] w _
        go_enter Tryz.func21, Tryz.ntmps21
        go_wp2_with fail
        go_quiet (fail)
        go_wp2
        go_ret2
        exact ⟨rfl, below_drewN (below_alloc _ _) _⟩
end Go.Proofs.YtkddaobbjfnckaaGreatDoor
