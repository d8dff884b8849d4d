/-
  Join, Minus and Meet of any set in memory with another that lies apart from it, or with none: what it has then, number by number, and whether something was otherwise.
-/
import Derived.Test.YtmdmanhjgbpgoaaDoorL7
import Derived.Test.YtmdmanhjgbpgoaaDoorN1
namespace Go.Proofs.YtmdmanhjgbpgoaaDoor
open Go.RowKit

/-- Was something otherwise? -/
def chgF (size : Nat) (f f' : Nat → Bool) : Bool := (List.range size).any (fun j => f j != f' j)

theorem mix_full (ws : List Nat) (u : Nat → Nat) (j : Nat) : mem (mix ws u ws.length) j = if j / 64 < ws.length then (u (j / 64)).testBit (j % 64) else false := by
  rw [mem_def, mix_getD]
  by_cases h : j / 64 < ws.length
  · rw [if_pos h, if_pos h, if_pos h]
  · rw [if_neg h, if_neg h]; simp

theorem chg_eq {w w' : World} {b c size : Nat} {ws : List Nat} {u : Nat → Nat} (h : SetAt w b c size ws) (h' : SetAt w' b c size (mix ws u ws.length)) :
    chg ws u ws.length = chgF size (mem ws) (mem (mix ws u ws.length)) := by
  rw [Bool.eq_iff_iff]
  unfold chg chgF
  rw [List.any_eq_true, List.any_eq_true]
  constructor
  · rintro ⟨k, hk, hne⟩
    have hk' := List.mem_range.1 hk
    have hne' : u k ≠ ws.getD k 0 := by simpa using hne
    have hl := h'.lt k
    rw [mix_getD, if_pos hk', if_pos hk'] at hl
    have hx : ∃ i, (u k).testBit i ≠ (ws.getD k 0).testBit i := by
      apply Classical.byContradiction
      intro hno
      apply hne'
      apply Nat.eq_of_testBit_eq
      intro i
      apply Classical.byContradiction
      intro hc
      exact hno ⟨i, hc⟩
    obtain ⟨i, hi⟩ := hx
    have hi64 : i < 64 := by
      rcases Nat.lt_or_ge i 64 with h1 | h1
      · exact h1
      · exfalso; apply hi
        have hp : 2 ^ 64 ≤ 2 ^ i := Nat.pow_le_pow_right (by omega) h1
        rw [Nat.testBit_lt_two_pow (Nat.lt_of_lt_of_le hl hp), Nat.testBit_lt_two_pow (Nat.lt_of_lt_of_le (h.lt k) hp)]
    have m1 : mem (mix ws u ws.length) (k * 64 + i) = (u k).testBit i := by
      rw [mix_full, show (k * 64 + i) / 64 = k by omega, show (k * 64 + i) % 64 = i by omega, if_pos hk']
    have m2 : mem ws (k * 64 + i) = (ws.getD k 0).testBit i := by
      rw [mem_def, show (k * 64 + i) / 64 = k by omega, show (k * 64 + i) % 64 = i by omega]
    refine ⟨k * 64 + i, List.mem_range.2 ?_, by rw [m1, m2, bne_iff_ne]; exact fun e => hi e.symm⟩
    cases ha : (u k).testBit i with
    | true => exact h'.room _ (m1.trans ha)
    | false =>
      cases hb : (ws.getD k 0).testBit i with
      | true => exact h.room _ (m2.trans hb)
      | false => exact absurd (ha.trans hb.symm) hi
  · rintro ⟨j, hj, hne⟩
    have hj' := List.mem_range.1 hj
    have hk : j / 64 < ws.length := by have := h.len; omega
    refine ⟨j / 64, List.mem_range.2 hk, ?_⟩
    rw [mix_full, if_pos hk, mem_def] at hne
    rw [bne_iff_ne] at hne ⊢
    intro e
    exact hne (by rw [e])

/-- The other one, by what it has. -/
def OtherF (c : Nat) (w : World) (tv : Value) (g : Nat → Bool) : Prop :=
  (tv = .pointer none ∧ ∀ j, g j = false) ∨ ∃ bt ct st, tv = .pointer (some ⟨bt, 0, none⟩) ∧ SetF w bt ct st g ∧ bt ≠ c ∧ ct ≠ c
theorem OtherF.words {c : Nat} {w : World} {tv : Value} {g : Nat → Bool} (h : OtherF c w tv g) : ∃ tw, Apart c w tv tw ∧ (∀ j, tw j < 18446744073709551616) ∧ ∀ j, g j = (tw (j / 64)).testBit (j % 64) := by
  rcases h with ⟨rfl, hg⟩ | ⟨bt, ct, st, rfl, ⟨vs, hv, hm⟩, hb, hc⟩
  · exact ⟨fun _ => 0, apart_nil c w, fun _ => by show 0 < 18446744073709551616; omega, fun j => by rw [hg]; simp⟩
  · exact ⟨fun j => vs.getD j 0, apart_set hv hb hc, hv.lt, fun j => by rw [← hm, mem_def]⟩

theorem room_in {w : World} {b c size : Nat} {ws : List Nat} (h : SetAt w b c size ws) (i : Nat) (hi : i / 64 < ws.length) : (roomN size (i / 64)).testBit (i % 64) = decide (i < size) := by
  rw [roomN_bit size (i / 64) (i % 64) (by omega) (by have := h.len; omega), show i / 64 * 64 + i % 64 = i by omega]
theorem not_bit (y i : Nat) (hy : y < 18446744073709551616) (hi : i < 64) : (18446744073709551615 - y).testBit i = !y.testBit i := by
  rw [show 18446744073709551615 - y = 2 ^ 64 - (y + 1) by omega, Nat.testBit_two_pow_sub_succ hy]; simp [hi]
theorem and_lt (x y : Nat) (h : x < 18446744073709551616) : x &&& y < 18446744073709551616 := Nat.lt_of_le_of_lt Nat.and_le_left h

def joinF (f g : Nat → Bool) (size j : Nat) : Bool := f j || (g j && decide (j < size))
set_option maxHeartbeats 400000 in
theorem join_set {w : World} {b c size : Nat} {f g : Nat → Bool} {tv : Value} (h : SetF w b c size f) (hT : OtherF c w tv g) :
    Calls Tryd.prog 14 #[.pointer (some ⟨b, 0, none⟩), tv] w fun e w' => e = .returned (.bool (chgF size f (joinF f g size))) ∧ Only c w w' ∧ SetF w' b c size (joinF f g size) := by
  obtain ⟨ws, hw, hm⟩ := h
  obtain rfl : mem ws = f := funext hm
  obtain ⟨tw, hA, htl, hg⟩ := hT.words
  have hbit : ∀ i, i / 64 < ws.length → (joinU ws tw size (i / 64)).testBit (i % 64) = joinF (mem ws) g size i := by
    intro i hi
    unfold joinU joinW joinF
    rw [mem_def, hg]
    rw [Nat.testBit_or, Nat.testBit_and, room_in hw i hi]
  have hout : ∀ i, joinF (mem ws) g size i = true → i < size := by
    intro i hi
    unfold joinF at hi
    rcases (Bool.or_eq_true _ _).mp hi with h1 | h1
    · exact hw.room i h1
    · exact of_decide_eq_true ((Bool.and_eq_true _ _).mp h1).2
  have hu : ∀ j, joinU ws tw size j < 18446744073709551616 := fun j => by unfold joinU joinW; exact Nat.or_lt_two_pow (n := 64) (hw.lt j) (and_lt _ _ (htl j))
  have hr : ∀ i, (joinU ws tw size (i / 64)).testBit (i % 64) = true → i / 64 < ws.length → i < size := fun i h1 h2 => hout i (by rw [← hbit i h2]; exact h1)
  have hc := join_change hw hA hu hr
  have hfull : ∀ j, mem (mix ws (joinU ws tw size) ws.length) j = joinF (mem ws) g size j := by
    intro j
    rw [mix_full]
    by_cases hj : j / 64 < ws.length
    · rw [if_pos hj, hbit j hj]
    · rw [if_neg hj]
      cases hx : joinF (mem ws) g size j with
      | false => rfl
      | true => have := hout j hx; have := hw.len; omega
  have HC := Lib.hid hc
  have HF := Lib.hid hfull
  have HW := Lib.hid hw
  clear hA htl hg hbit hout hu hr hc hfull hm hw hT
  go_enter Tryd.func14, Tryd.ntmps14
  go_wp2_with fail
  refine HC.out.mono ?_
  rintro e w' ⟨rfl, ho, hs⟩
  have HB := Lib.hid (chg_eq HW.out hs)
  have HO := Lib.hid ho
  have HS := Lib.hid hs
  clear ho hs
  go_wp2
  go_ret
  refine ⟨?_, HO.out, _, HS.out, HF.out⟩
  rw [HB.out, show mem (mix ws (joinU ws tw size) ws.length) = joinF (mem ws) g size from funext HF.out]
  rfl

def minusF (f g : Nat → Bool) (size j : Nat) : Bool := f j && !(g j && decide (j < size))
set_option maxHeartbeats 400000 in
theorem minus_set {w : World} {b c size : Nat} {f g : Nat → Bool} {tv : Value} (h : SetF w b c size f) (hT : OtherF c w tv g) :
    Calls Tryd.prog 15 #[.pointer (some ⟨b, 0, none⟩), tv] w fun e w' => e = .returned (.bool (chgF size f (minusF f g size))) ∧ Only c w w' ∧ SetF w' b c size (minusF f g size) := by
  obtain ⟨ws, hw, hm⟩ := h
  obtain rfl : mem ws = f := funext hm
  obtain ⟨tw, hA, htl, hg⟩ := hT.words
  have hbit : ∀ i, i / 64 < ws.length → (minusU ws tw size (i / 64)).testBit (i % 64) = minusF (mem ws) g size i := by
    intro i hi
    unfold minusU minusW minusF
    rw [mem_def, hg]
    rw [Nat.testBit_and, not_bit _ _ (and_lt _ _ (htl _)) (by omega), Nat.testBit_and, room_in hw i hi]
  have hout : ∀ i, minusF (mem ws) g size i = true → i < size := by
    intro i hi
    unfold minusF at hi
    exact hw.room i ((Bool.and_eq_true _ _).mp hi).1
  have hu : ∀ j, minusU ws tw size j < 18446744073709551616 := fun j => by unfold minusU minusW; exact and_lt _ _ (hw.lt j)
  have hr : ∀ i, (minusU ws tw size (i / 64)).testBit (i % 64) = true → i / 64 < ws.length → i < size := fun i h1 h2 => hout i (by rw [← hbit i h2]; exact h1)
  have hc := minus_change hw hA hu hr
  have hfull : ∀ j, mem (mix ws (minusU ws tw size) ws.length) j = minusF (mem ws) g size j := by
    intro j
    rw [mix_full]
    by_cases hj : j / 64 < ws.length
    · rw [if_pos hj, hbit j hj]
    · rw [if_neg hj]
      cases hx : minusF (mem ws) g size j with
      | false => rfl
      | true => have := hout j hx; have := hw.len; omega
  have HC := Lib.hid hc
  have HF := Lib.hid hfull
  have HW := Lib.hid hw
  clear hA htl hg hbit hout hu hr hc hfull hm hw hT
  go_enter Tryd.func15, Tryd.ntmps15
  go_wp2_with fail
  refine HC.out.mono ?_
  rintro e w' ⟨rfl, ho, hs⟩
  have HB := Lib.hid (chg_eq HW.out hs)
  have HO := Lib.hid ho
  have HS := Lib.hid hs
  clear ho hs
  go_wp2
  go_ret
  refine ⟨?_, HO.out, _, HS.out, HF.out⟩
  rw [HB.out, show mem (mix ws (minusU ws tw size) ws.length) = minusF (mem ws) g size from funext HF.out]
  rfl

def meetF (f g : Nat → Bool) (size j : Nat) : Bool := f j && (g j && decide (j < size))
set_option maxHeartbeats 400000 in
theorem meet_set {w : World} {b c size : Nat} {f g : Nat → Bool} {tv : Value} (h : SetF w b c size f) (hT : OtherF c w tv g) :
    Calls Tryd.prog 16 #[.pointer (some ⟨b, 0, none⟩), tv] w fun e w' => e = .returned (.bool (chgF size f (meetF f g size))) ∧ Only c w w' ∧ SetF w' b c size (meetF f g size) := by
  obtain ⟨ws, hw, hm⟩ := h
  obtain rfl : mem ws = f := funext hm
  obtain ⟨tw, hA, htl, hg⟩ := hT.words
  have hbit : ∀ i, i / 64 < ws.length → (meetU ws tw size (i / 64)).testBit (i % 64) = meetF (mem ws) g size i := by
    intro i hi
    unfold meetU meetW meetF
    rw [mem_def, hg]
    rw [Nat.testBit_and, Nat.testBit_and, room_in hw i hi]
  have hout : ∀ i, meetF (mem ws) g size i = true → i < size := by
    intro i hi
    unfold meetF at hi
    exact hw.room i ((Bool.and_eq_true _ _).mp hi).1
  have hu : ∀ j, meetU ws tw size j < 18446744073709551616 := fun j => by unfold meetU meetW; exact and_lt _ _ (hw.lt j)
  have hr : ∀ i, (meetU ws tw size (i / 64)).testBit (i % 64) = true → i / 64 < ws.length → i < size := fun i h1 h2 => hout i (by rw [← hbit i h2]; exact h1)
  have hc := meet_change hw hA hu hr
  have hfull : ∀ j, mem (mix ws (meetU ws tw size) ws.length) j = meetF (mem ws) g size j := by
    intro j
    rw [mix_full]
    by_cases hj : j / 64 < ws.length
    · rw [if_pos hj, hbit j hj]
    · rw [if_neg hj]
      cases hx : meetF (mem ws) g size j with
      | false => rfl
      | true => have := hout j hx; have := hw.len; omega
  have HC := Lib.hid hc
  have HF := Lib.hid hfull
  have HW := Lib.hid hw
  clear hA htl hg hbit hout hu hr hc hfull hm hw hT
  go_enter Tryd.func16, Tryd.ntmps16
  go_wp2_with fail
  refine HC.out.mono ?_
  rintro e w' ⟨rfl, ho, hs⟩
  have HB := Lib.hid (chg_eq HW.out hs)
  have HO := Lib.hid ho
  have HS := Lib.hid hs
  clear ho hs
  go_wp2
  go_ret
  refine ⟨?_, HO.out, _, HS.out, HF.out⟩
  rw [HB.out, show mem (mix ws (meetU ws tw size) ws.length) = meetF (mem ws) g size from funext HF.out]
  rfl
end Go.Proofs.YtmdmanhjgbpgoaaDoor
