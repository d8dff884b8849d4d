/-
  Next of any set in memory, from any number on: the least one that the set has from there on, or none.
-/
import Derived.Test.YtmdmanhjgbpgoaaDoorL5
namespace Go.Proofs.YtmdmanhjgbpgoaaDoor
open Go.RowKit

theorem low_bit {x k : Nat} (h : Low x k) : x.testBit k = true ∧ ∀ j, j < k → x.testBit j = false := by
  have e : ∀ j, j < k + 1 → x.testBit j = (2 ^ k).testBit j := by
    intro j hj
    have := congrArg (fun y => Nat.testBit y j) h
    simp only [Nat.testBit_mod_two_pow] at this
    simpa [hj] using this
  constructor
  · rw [e k (by omega), Nat.testBit_two_pow]; simp
  · intro j hj; rw [e j (by omega), Nat.testBit_two_pow]; simp; omega

def NextF (f : Nat → Bool) (m : Nat) (w : World) (e : Ending) (w' : World) : Prop :=
  ((∃ k, f k = true ∧ m ≤ k ∧ (∀ j, m ≤ j → j < k → f j = false) ∧ e = .returned (.tuple #[.int .i64 (k : Int), .bool true]))
    ∨ ((∀ j, m ≤ j → f j = false) ∧ e = .returned (.tuple #[.int .i64 0, .bool false]))) ∧ ∃ n, w' = w.drewN n

theorem next_of_raw {w : World} {b c size : Nat} {ws : List Nat} (h : SetAt w b c size ws) (m q r0 : Nat)
    (hm : ∀ j, m ≤ j → mem ws j = (restW ws q r0 (j / 64)).testBit (j % 64)) (hq : ∀ j, m ≤ j → q ≤ j / 64) (hlow : ∀ k, k < 64 → r0.testBit k = true → m ≤ q * 64 + k) (hqm : m < (q + 1) * 64)
    {e : Ending} {w' : World} (hn : NextRaw ws q r0 w e w') : NextF (mem ws) m w e w' := by
  obtain ⟨hn, hw'⟩ := hn
  refine ⟨?_, hw'⟩
  rcases hn with ⟨a, k, ha1, ha2, hk, hl, hz, rfl⟩ | ⟨hz, rfl⟩
  · left
    have hb := low_bit hl
    have hge : m ≤ a * 64 + k := by
      rcases Nat.eq_or_lt_of_le ha1 with rfl | h1
      · have h2 := hb.1
        unfold restW at h2
        rw [if_pos rfl] at h2
        exact hlow k hk h2
      · omega
    refine ⟨a * 64 + k, ?_, hge, ?_, by simp⟩
    · rw [hm _ hge, show (a * 64 + k) / 64 = a by omega, show (a * 64 + k) % 64 = k by omega]; exact hb.1
    · intro j h1 h2
      rw [hm _ h1]
      rcases Nat.lt_or_ge (j / 64) a with h3 | h3
      · rw [hz _ (hq j h1) h3]; simp
      · rw [show j / 64 = a by omega]; exact hb.2 _ (by omega)
  · right
    refine ⟨?_, rfl⟩
    intro j h1
    rw [hm _ h1]
    rcases Nat.lt_or_ge (j / 64) ws.length with h3 | h3
    · rw [hz _ (hq j h1) h3]; simp
    · have h4 := hm j h1
      rw [← h4]
      cases h5 : mem ws j with
      | false => rfl
      | true => have h6 := h.room j h5; have h7 := h.len; omega

theorem next_set {w : World} {b c size : Nat} {f : Nat → Bool} (h : SetF w b c size f) (ht : Tab w) (i : Int) :
    Calls Tryd.prog 20 #[.pointer (some ⟨b, 0, none⟩), .int .i64 i] w (NextF f i.toNat w) := by
  obtain ⟨ws, hw, hm⟩ := h
  obtain rfl : mem ws = f := funext hm
  by_cases hi : 0 ≤ i
  · obtain ⟨m, rfl⟩ := Int.eq_ofNat_of_zero_le hi
    rw [Int.toNat_natCast]
    by_cases hs : m < size
    · have hlt := hw.lt (m / 64)
      have hp := Nat.two_pow_pos (m % 64)
      have hpl := pow_lt m
      have hr : bits .andNot .u64 ((ws.getD (m / 64) 0 : Nat) : Int) ((2 ^ (m % 64) - 1 : Nat) : Int) = ((ws.getD (m / 64) 0 &&& (18446744073709551615 - (2 ^ (m % 64) - 1)) : Nat) : Int) := u64_andNot_nat _ _ hlt (by omega)
      have htb : ∀ t, t < 64 → (ws.getD (m / 64) 0 &&& (18446744073709551615 - (2 ^ (m % 64) - 1))).testBit t = ((ws.getD (m / 64) 0).testBit t && !decide (t < m % 64)) := by
        intro t h64
        rw [Nat.testBit_and, show 18446744073709551615 - (2 ^ (m % 64) - 1) = 2 ^ 64 - (2 ^ (m % 64) - 1 + 1) by omega, Nat.testBit_two_pow_sub_succ (by omega), Nat.testBit_two_pow_sub_one]
        simp [h64]
      refine (next_at hw ht m (m / 64) _ _ hs rfl rfl hr (Nat.lt_of_le_of_lt Nat.and_le_left hlt)).mono ?_
      intro e w' hn
      refine next_of_raw hw m (m / 64) _ ?_ (fun j hj => by omega) ?_ (by omega) hn
      · intro j hj
        unfold restW
        by_cases he : j / 64 = m / 64
        · rw [if_pos he, htb _ (by omega), mem_def, he]
          have : decide (j % 64 < m % 64) = false := by rw [decide_eq_false_iff_not]; omega
          rw [this]; simp
        · rw [if_neg he, mem_def]
      · intro k hk hb
        rw [htb k hk] at hb
        have := (Bool.and_eq_true _ _ ▸ hb).2
        simp at this
        omega
    · refine (next_no b _ size w hw.csize (by omega) (by omega)).mono ?_
      rintro e w' ⟨rfl, rfl⟩
      refine ⟨.inr ⟨?_, rfl⟩, 0, rfl⟩
      intro j hj
      cases h5 : mem ws j with
      | false => rfl
      | true => have h6 := hw.room j h5; omega
  · rw [show i.toNat = 0 by omega]
    by_cases hs : 0 < size
    · have hlt := hw.lt 0
      have hr : bits .andNot .u64 ((ws.getD 0 0 : Nat) : Int) 0 = ((ws.getD 0 0 : Nat) : Int) := by
        have := u64_andNot_nat (ws.getD 0 0) 0 hlt (by omega)
        rw [show ((0 : Nat) : Int) = 0 from rfl] at this
        rw [this, show 18446744073709551615 - 0 = 2 ^ 64 - 1 by omega, Nat.and_two_pow_sub_one_of_lt_two_pow hlt]
      refine (next_at0 hw ht i _ (by omega) hs rfl hr hlt).mono ?_
      intro e w' hn
      refine next_of_raw hw 0 0 _ ?_ (fun j hj => by omega) (fun _ _ _ => by omega) (by omega) hn
      intro j _
      unfold restW
      by_cases he : j / 64 = 0
      · rw [if_pos he, mem_def, he]
      · rw [if_neg he, mem_def]
    · have h0 : size = 0 := by omega
      subst h0
      refine (next_no0 b i w hw.csize (by omega)).mono ?_
      rintro e w' ⟨rfl, rfl⟩
      refine ⟨.inr ⟨?_, rfl⟩, 0, rfl⟩
      intro j hj
      cases h5 : mem ws j with
      | false => rfl
      | true => have h6 := hw.room j h5; omega
end Go.Proofs.YtmdmanhjgbpgoaaDoor
