/-
  Next: the least number of a set from one on, for each set that lies in memory, and for nil.
-/
import Derived.Test.YtmdmanhjgbpgoaaDoorL4
namespace Go.Proofs.YtmdmanhjgbpgoaaDoor
open Go.RowKit

set_option maxHeartbeats 400000 in
theorem next_nil (i : Int) (w : World) :
    Calls Tryd.prog 20 #[.pointer none, .int .i64 i] w fun e w' => e = .returned (.tuple #[.int .i64 0, .bool false]) ∧ w' = w := by
  by_cases hi : 0 ≤ i
  all_goals
    go_enter Tryd.func20, Tryd.ntmps20
    go_wp2_with (go_at_call 32; refine (fits_nil _ _).mono ?_; rintro e w' ⟨rfl, rfl⟩)
    go_ret2
    exact ⟨rfl, rfl⟩

set_option maxHeartbeats 400000 in
theorem next_no (b : Nat) (i size : Int) (w : World) (hc : w.cell? ⟨b, 0, none⟩ = some (.int .i64 size)) (h0 : 0 ≤ i) (h : size ≤ i) :
    Calls Tryd.prog 20 #[.pointer (some ⟨b, 0, none⟩), .int .i64 i] w fun e w' => e = .returned (.tuple #[.int .i64 0, .bool false]) ∧ w' = w := by
  go_enter Tryd.func20, Tryd.ntmps20
  go_wp2_with (go_at_call 32; refine (fits_no b size _ _ hc (by omega)).mono ?_; rintro e w' ⟨rfl, rfl⟩)
  go_ret2
  exact ⟨rfl, rfl⟩

set_option maxHeartbeats 400000 in
theorem next_no0 (b : Nat) (i : Int) (w : World) (hc : w.cell? ⟨b, 0, none⟩ = some (.int .i64 0)) (h0 : i < 0) :
    Calls Tryd.prog 20 #[.pointer (some ⟨b, 0, none⟩), .int .i64 i] w fun e w' => e = .returned (.tuple #[.int .i64 0, .bool false]) ∧ w' = w := by
  go_enter Tryd.func20, Tryd.ntmps20
  go_wp2_with (go_at_call 32; refine (fits_no b 0 _ _ hc (by omega)).mono ?_; rintro e w' ⟨rfl, rfl⟩)
  go_ret2
  exact ⟨rfl, rfl⟩

/-- What is left of the words behind a place. -/
def restW (ws : List Nat) (q r0 : Nat) (j : Nat) : Nat := if j = q then r0 else ws.getD j 0

theorem low_exists : ∀ n x : Nat, x < 2 ^ n → x ≠ 0 → ∃ k, k < n ∧ Low x k := by
  intro n
  induction n with
  | zero => intro x h h0; omega
  | succ n ih =>
    intro x h h0
    rcases Nat.mod_two_eq_zero_or_one x with hx | hx
    · obtain ⟨k, hk, hl⟩ := ih (x / 2) (by rw [Nat.pow_succ] at h; omega) (by omega)
      refine ⟨k + 1, by omega, ?_⟩
      unfold Low at *
      have e := Nat.mod_mul (x := x) (a := 2) (b := 2 ^ (k + 1))
      rw [hx, hl] at e
      rw [Nat.pow_succ' (n := k + 1), e, Nat.pow_succ']; omega
    · exact ⟨0, by omega, by unfold Low; simpa using hx⟩

def NextRaw (ws : List Nat) (q r0 : Nat) (w : World) (e : Ending) (w' : World) : Prop :=
  ((∃ a k, q ≤ a ∧ a < ws.length ∧ k < 64 ∧ Low (restW ws q r0 a) k ∧ (∀ j, q ≤ j → j < a → restW ws q r0 j = 0) ∧ e = .returned (.tuple #[.int .i64 ((a : Int) * 64 + (k : Int)), .bool true]))
    ∨ ((∀ j, q ≤ j → j < ws.length → restW ws q r0 j = 0) ∧ e = .returned (.tuple #[.int .i64 0, .bool false]))) ∧ ∃ n, w' = w.drewN n

set_option maxHeartbeats 400000 in
theorem next_at {w : World} {b c size : Nat} {ws : List Nat} (h : SetAt w b c size ws) (ht : Tab w) (m q x r0 : Nat) (hm : m < size) (hq : m / 64 = q) (hx : ws.getD q 0 = x)
    (hr : bits .andNot .u64 (x : Int) ((2 ^ (m % 64) - 1 : Nat) : Int) = (r0 : Int)) (hr0 : r0 < 18446744073709551616) :
    Calls Tryd.prog 20 #[.pointer (some ⟨b, 0, none⟩), .int .i64 (m : Int)] w (NextRaw ws q r0 w) := by
  have hsz := h.csize
  obtain ⟨cap, hs, hcap, _⟩ := h.cslice
  have hl : ws.length ≤ 64 := by have := h.len; have := h.le; omega
  have hql : q < ws.length := by have := h.len; omega
  have hw := h.cword q hql
  rw [hx] at hw
  have h4 := h.le
  have HW := Lib.hid h
  have HM := Lib.hid hm
  have HR := Lib.hid hr
  have HQ := Lib.hid hq
  clear hr h hq hx
  have HP := Lib.hid (show IntKind.u64.wrap ((2 : Int) ^ (m % 64) - 1) = ((2 ^ (m % 64) - 1 : Nat) : Int) by
    have := Nat.two_pow_pos (m % 64)
    have h2 := pow_lt m
    rw [pow_cast]
    generalize 2 ^ (m % 64) = z at *
    simp [IntKind.wrap, IntKind.bits, IntKind.signed]; omega)
  have m0 : (0 : Int) ≤ (m : Int) := by omega
  have Q1 := Lib.hid (show (m : Int) / 64 = (q : Int) by have := HQ.out; omega)
  go_enter Tryd.func20, Tryd.ntmps20
  go_wp2_with fail
  refine (fits_yes b size _ _ hsz (by omega) (by omega)).mono ?_
  rintro e w1 ⟨rfl, hw1⟩
  rw [hw1]
  clear hw1 w1
  have q1 := Q1.out
  have q2 : (0 : Int) ≤ (q : Int) := by omega
  have q3 : (q : Int) < (ws.length : Int) := by omega
  have hp := HP.out
  have hr := HR.out
  have m4 : (m : Int) ≤ 4096 := by omega
  go_wp2_with fail
  go_quiet ((go_at_call 38; exact Calls.quiet_of_same (bit_any _ _ m0 m4)))
  go_wp2
  clear hp hr
  go_loop [6, 7] (fun u v => ∃ a r : Nat, q ≤ a ∧ a < ws.length ∧ u = .int .i64 (a : Int) ∧ v = .int .u64 (r : Int) ∧ r = restW ws q r0 a ∧ Hid (∀ j, q ≤ j → j < a → restW ws q r0 j = 0)) (fun u _ => ws.length - (intOf u).toNat)
  case atStart => exact ⟨q, r0, Nat.le_refl _, hql, rfl, rfl, by simp [restW], fun j h1 h2 => by omega⟩
  case round =>
    obtain ⟨a, r, ha1, ha2, rfl, rfl, hr, hz⟩ := hrel
    have HRR := Lib.hid hr
    have hr1 : r < 18446744073709551616 := by
      rw [hr]; unfold restW; split
      · exact hr0
      · exact HW.out.lt _
    clear hr
    by_cases h0 : r = 0
    · by_cases hlast : a + 1 = ws.length
      · have HL := Lib.hid hlast
        subst h0
        have hb : (((a : Int) + 1) == (ws.length : Int)) = true := by rw [beq_iff_eq]; omega
        clear hlast
        go_wp2
        go_ret2
        refine ⟨.inr ⟨?_, rfl⟩, _, rfl⟩
        intro j h1 h2
        have := HL.out
        rcases Nat.lt_or_ge j a with h3 | h3
        · exact hz.out j h1 h3
        · rw [show j = a by omega]; exact HRR.out.symm
      · have hb : (((a : Int) + 1) == (ws.length : Int)) = false := by rw [beq_eq_false_iff_ne]; omega
        have hlt : a + 1 < ws.length := by omega
        have hcell := HW.out.cword (a + 1) hlt
        generalize hy : ws.getD (a + 1) 0 = y at hcell
        have HY := Lib.hid hy
        clear hy
        subst h0
        clear hlast
        go_wp2
        go_round
        case rel =>
          refine ⟨a + 1, y, by omega, hlt, by go_num, rfl, by unfold restW; rw [if_neg (by omega)]; exact HY.out.symm, ?_⟩
          intro j h1 h2
          rcases Nat.lt_or_ge j a with h3 | h3
          · exact hz.out j h1 h3
          · rw [show j = a by omega]; exact HRR.out.symm
        case measure => simp [intOf]; omega
    · have hb : ((r : Int) == 0) = false := by rw [beq_eq_false_iff_ne]; omega
      obtain ⟨k, hk, hlow⟩ := low_exists 64 r hr1 h0
      go_wp2_with (go_at_call 39; refine (tz_at r k _ hk hlow hr1 (by exact ht)).mono ?_; rintro e w' ⟨rfl, rfl⟩)
      go_ret2
      refine ⟨.inl ⟨a, k, ha1, ha2, hk, ?_, hz, ?_⟩, _, rfl⟩
      · rw [← HRR.out]; exact hlow
      · rfl
set_option maxHeartbeats 400000 in
theorem next_at0 {w : World} {b c size : Nat} {ws : List Nat} (h : SetAt w b c size ws) (ht : Tab w) (i : Int) (r0 : Nat) (hi : i < 0) (hm : 0 < size) (hx : ws.getD 0 0 = r0)
    (hr : bits .andNot .u64 (r0 : Int) 0 = (r0 : Int)) (hr0 : r0 < 18446744073709551616) :
    Calls Tryd.prog 20 #[.pointer (some ⟨b, 0, none⟩), .int .i64 i] w (NextRaw ws 0 r0 w) := by
  have hsz := h.csize
  obtain ⟨cap, hs, hcap, _⟩ := h.cslice
  have hl : ws.length ≤ 64 := by have := h.len; have := h.le; omega
  have hql : 0 < ws.length := by have := h.len; omega
  have hw := h.cword 0 hql
  rw [hx] at hw
  have h4 := h.le
  have HW := Lib.hid h
  have HR := Lib.hid hr
  clear hr h hx
  go_enter Tryd.func20, Tryd.ntmps20
  go_wp2_with fail
  refine (fits_yes b size _ _ hsz (by omega) (by omega)).mono ?_
  rintro e w1 ⟨rfl, hw1⟩
  rw [hw1]
  clear hw1 w1
  have q3 : (0 : Int) < (ws.length : Int) := by omega
  have hr := HR.out
  go_wp2_with fail
  go_quiet ((go_at_call 38; exact Calls.quiet_of_same (bit_any _ _ (by omega) (by omega))))
  go_wp2
  clear hr
  go_loop [6, 7] (fun u v => ∃ a r : Nat, 0 ≤ a ∧ a < ws.length ∧ u = .int .i64 (a : Int) ∧ v = .int .u64 (r : Int) ∧ r = restW ws 0 r0 a ∧ Hid (∀ j, 0 ≤ j → j < a → restW ws 0 r0 j = 0)) (fun u _ => ws.length - (intOf u).toNat)
  case atStart => exact ⟨0, r0, Nat.le_refl _, hql, rfl, rfl, by simp [restW], fun j h1 h2 => by omega⟩
  case round =>
    obtain ⟨a, r, ha1, ha2, rfl, rfl, hr, hz⟩ := hrel
    have HRR := Lib.hid hr
    have hr1 : r < 18446744073709551616 := by
      rw [hr]; unfold restW; split
      · exact hr0
      · exact HW.out.lt _
    clear hr
    by_cases h0 : r = 0
    · by_cases hlast : a + 1 = ws.length
      · have HL := Lib.hid hlast
        subst h0
        have hb : (((a : Int) + 1) == (ws.length : Int)) = true := by rw [beq_iff_eq]; omega
        clear hlast
        go_wp2
        go_ret2
        refine ⟨.inr ⟨?_, rfl⟩, _, rfl⟩
        intro j h1 h2
        have := HL.out
        rcases Nat.lt_or_ge j a with h3 | h3
        · exact hz.out j h1 h3
        · rw [show j = a by omega]; exact HRR.out.symm
      · have hb : (((a : Int) + 1) == (ws.length : Int)) = false := by rw [beq_eq_false_iff_ne]; omega
        have hlt : a + 1 < ws.length := by omega
        have hcell := HW.out.cword (a + 1) hlt
        generalize hy : ws.getD (a + 1) 0 = y at hcell
        have HY := Lib.hid hy
        clear hy
        subst h0
        clear hlast
        go_wp2
        go_round
        case rel =>
          refine ⟨a + 1, y, by omega, hlt, by go_num, rfl, by unfold restW; rw [if_neg (by omega)]; exact HY.out.symm, ?_⟩
          intro j h1 h2
          rcases Nat.lt_or_ge j a with h3 | h3
          · exact hz.out j h1 h3
          · rw [show j = a by omega]; exact HRR.out.symm
        case measure => simp [intOf]; omega
    · have hb : ((r : Int) == 0) = false := by rw [beq_eq_false_iff_ne]; omega
      obtain ⟨k, hk, hlow⟩ := low_exists 64 r hr1 h0
      go_wp2_with (go_at_call 39; refine (tz_at r k _ hk hlow hr1 (by exact ht)).mono ?_; rintro e w' ⟨rfl, rfl⟩)
      go_ret2
      refine ⟨.inl ⟨a, k, ha1, ha2, hk, ?_, hz, ?_⟩, _, rfl⟩
      · rw [← HRR.out]; exact hlow
      · rfl
end Go.Proofs.YtmdmanhjgbpgoaaDoor
