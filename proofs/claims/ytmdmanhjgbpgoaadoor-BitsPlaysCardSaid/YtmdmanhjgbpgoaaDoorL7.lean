/-
  Join, Minus and Meet of a set with another one or with none: what the set has then, and whether something was otherwise; for each set in memory and each other set that lies apart from it.
-/
import Derived.Test.YtmdmanhjgbpgoaaDoorS2
namespace Go.Proofs.YtmdmanhjgbpgoaaDoor
open Go.RowKit

/-- The other one: nil, or a set in memory; its words. -/
def TIs (w : World) (tv : Value) (tw : Nat → Nat) : Prop :=
  (tv = .pointer none ∧ ∀ j, tw j = 0) ∨ ∃ bt ct st vs, tv = .pointer (some ⟨bt, 0, none⟩) ∧ SetAt w bt ct st vs ∧ ∀ j, tw j = vs.getD j 0
theorem TIs.lt {w : World} {tv : Value} {tw : Nat → Nat} (h : TIs w tv tw) (j : Nat) : tw j < 18446744073709551616 := by
  rcases h with ⟨_, h⟩ | ⟨bt, ct, st, vs, _, h, hj⟩
  · rw [h]; omega
  · rw [hj]; exact h.lt j

set_option maxHeartbeats 400000 in
theorem word_any {w : World} {tv : Value} {tw : Nat → Nat} (h : TIs w tv tw) (k : Nat) (hk : k ≤ 4096) :
    Calls Tryd.prog 47 #[tv, .int .i64 (k : Int)] w fun e w' => e = .returned (.int .u64 ((tw k : Nat) : Int)) ∧ w' = w := by
  rcases h with ⟨rfl, h⟩ | ⟨bt, ct, st, vs, rfl, h, hj⟩
  · rw [h]
    clear h
    go_enter Tryd.func47, Tryd.ntmps47
    go_wp2
    go_ret
    exact ⟨rfl, rfl⟩
  · rw [hj]
    clear hj
    obtain ⟨cap, hs, hcap, _⟩ := h.cslice
    by_cases hlt : k < vs.length
    · have hw := h.cword k hlt
      have hd : decide (vs.length ≤ k) = false := by simp; omega
      generalize vs.getD k 0 = x at *
      have k0 : (0 : Int) ≤ (k : Int) := by omega
      have k1 : (k : Int) < (vs.length : Int) := by omega
      clear h
      go_enter Tryd.func47, Tryd.ntmps47
      go_wp2
      go_ret
      exact ⟨rfl, rfl⟩
    · have hd : decide (vs.length ≤ k) = true := by simp; omega
      have e : vs.getD k 0 = 0 := by rw [List.getD_eq_getElem?_getD, List.getElem?_eq_none (by omega)]; rfl
      rw [e]
      clear h e
      go_enter Tryd.func47, Tryd.ntmps47
      go_wp2
      go_ret
      exact ⟨rfl, rfl⟩

/-- The bits of a word that lie within a size. -/
def roomN (size at_ : Nat) : Nat := if at_ < size / 64 then 18446744073709551615 else 2 ^ (size % 64) - 1
theorem roomN_lt (size k : Nat) : roomN size k < 18446744073709551616 := by
  unfold roomN; split
  · omega
  · have := pow_lt size; omega
theorem roomN_bit (size k i : Nat) (hi : i < 64) (hk : k ≤ size / 64) : (roomN size k).testBit i = decide (k * 64 + i < size) := by
  unfold roomN; split
  · rename_i h
    rw [show 18446744073709551615 = 2 ^ 64 - 1 by omega, Nat.testBit_two_pow_sub_one, decide_eq_decide]
    constructor
    · intro _; omega
    · intro _; omega
  · rename_i h
    rw [Nat.testBit_two_pow_sub_one, decide_eq_decide]
    constructor
    · intro _; omega
    · intro _; omega

set_option maxHeartbeats 400000 in
theorem room_at (b size k : Nat) (w : World) (hc : w.cell? ⟨b, 0, none⟩ = some (.int .i64 (size : Int))) (hs : size ≤ 4096) :
    Calls Tryd.prog 48 #[.pointer (some ⟨b, 0, none⟩), .int .i64 (k : Int)] w fun e w' => e = .returned (.int .u64 ((roomN size k : Nat) : Int)) ∧ w' = w := by
  by_cases h : k < size / 64
  · have e : roomN size k = 18446744073709551615 := by unfold roomN; rw [if_pos h]
    rw [e]
    have hd : decide ((k : Int) < (size : Int) / 64) = true := by simp; omega
    have hd2 : (k : Int) < (size : Int) / 64 := by omega
    clear e
    go_enter Tryd.func48, Tryd.ntmps48
    go_wp2
    go_ret
    exact ⟨rfl, rfl⟩
  · have e : roomN size k = 2 ^ (size % 64) - 1 := by unfold roomN; rw [if_neg h]
    have HE := Lib.hid e
    have hd2 : ¬ (k : Int) < (size : Int) / 64 := by omega
    have HP := Lib.hid (show IntKind.u64.wrap ((2 : Int) ^ (size % 64) - 1) = ((2 ^ (size % 64) - 1 : Nat) : Int) by
      have := Nat.two_pow_pos (size % 64)
      have h2 := pow_lt size
      rw [pow_cast]
      generalize 2 ^ (size % 64) = z at *
      simp [IntKind.wrap, IntKind.bits, IntKind.signed]; omega)
    clear e
    go_enter Tryd.func48, Tryd.ntmps48
    go_wp2_with (go_at_call 38; refine (bit_any _ _ (by omega) (by omega)).mono ?_; rintro e w' ⟨rfl, rfl⟩)
    go_ret
    refine ⟨?_, rfl⟩
    rw [HE.out]
    exact ret_int HP.out

/-! ### The words as they turn, one behind the other -/
def mix (ws : List Nat) (u : Nat → Nat) (k : Nat) : List Nat := (List.range ws.length).map (fun j => if j < k then u j else ws.getD j 0)
theorem mix_len (ws : List Nat) (u : Nat → Nat) (k : Nat) : (mix ws u k).length = ws.length := by simp [mix]
theorem mix_getD (ws : List Nat) (u : Nat → Nat) (k j : Nat) : (mix ws u k).getD j 0 = if j < ws.length then (if j < k then u j else ws.getD j 0) else 0 := by
  unfold mix
  rw [List.getD_eq_getElem?_getD, List.getElem?_map]
  by_cases h : j < ws.length
  · rw [List.getElem?_range h, if_pos h]; rfl
  · rw [List.getElem?_eq_none (by simpa using h), if_neg h]; rfl
theorem mix_zero (ws : List Nat) (u : Nat → Nat) : mix ws u 0 = ws := by
  apply List.ext_getElem (mix_len ws u 0)
  intro j h1 h2
  have := mix_getD ws u 0 j
  rw [if_pos h2, if_neg (by omega)] at this
  simpa [List.getD_eq_getElem?_getD, List.getElem?_eq_getElem h1, List.getElem?_eq_getElem h2] using this
theorem mix_succ (ws : List Nat) (u : Nat → Nat) (k : Nat) (hk : k < ws.length) : (mix ws u k).set k (u k) = mix ws u (k + 1) := by
  apply List.ext_getElem (by simp [mix_len])
  intro j h1 h2
  have hj : j < ws.length := by simpa [mix_len] using h2
  have a := getD_set (mix ws u k) k (u k) j (by rw [mix_len]; exact hk)
  have b := mix_getD ws u (k + 1) j
  have c := mix_getD ws u k j
  rw [List.getD_eq_getElem?_getD, List.getElem?_eq_getElem h1, Option.getD_some] at a
  rw [List.getD_eq_getElem?_getD, List.getElem?_eq_getElem h2, Option.getD_some] at b
  rw [a, b, c, if_pos hj, if_pos hj]
  by_cases e : j = k
  · subst e; rw [if_pos rfl, if_pos (by omega)]
  · rw [if_neg e]
    by_cases h3 : j < k
    · rw [if_pos h3, if_pos (by omega)]
    · rw [if_neg h3, if_neg (by omega)]
def chg (ws : List Nat) (u : Nat → Nat) (k : Nat) : Bool := (List.range k).any (fun j => u j != ws.getD j 0)
theorem chg_succ (ws : List Nat) (u : Nat → Nat) (k : Nat) : chg ws u (k + 1) = (chg ws u k || (u k != ws.getD k 0)) := by
  unfold chg; rw [List.range_succ, List.any_append]; simp
theorem chg_true_succ (ws : List Nat) (u : Nat → Nat) (k : Nat) (h : chg ws u k = true) : chg ws u (k + 1) = true := by rw [chg_succ, h]; rfl

theorem and_room (x size k : Nat) (hx : x < 18446744073709551616) : bits .and .u64 (x : Int) ((roomN size k : Nat) : Int) = ((x &&& roomN size k : Nat) : Int) := u64_and_nat _ _ hx (roomN_lt size k)

def ChangeRel (ws : List Nat) (u : Nat → Nat) (b c size : Nat) (w : World) (g i : Value) (wr : World) : Prop :=
  ∃ k : Nat, k ≤ ws.length ∧ i = .int .i64 (k : Int) ∧ g = .bool (chg ws u k) ∧ Only c w wr ∧ SetAt wr b c size (mix ws u k)
def ChangePost (ws : List Nat) (u : Nat → Nat) (b c size : Nat) (w : World) (e : Ending) (w' : World) : Prop :=
  e = .returned (.bool (chg ws u ws.length)) ∧ Only c w w' ∧ SetAt w' b c size (mix ws u ws.length)
/-- The other one lies apart from the words of the set. -/
def Apart (c : Nat) (w : World) (tv : Value) (tw : Nat → Nat) : Prop := ∀ w', Only c w w' → TIs w' tv tw
theorem apart_nil (c : Nat) (w : World) : Apart c w (.pointer none) (fun _ => 0) := fun _ _ => .inl ⟨rfl, fun _ => rfl⟩
theorem apart_set {w : World} {b ct st c : Nat} {vs : List Nat} (h : SetAt w b ct st vs) (hb : b ≠ c) (hc : ct ≠ c) : Apart c w (.pointer (some ⟨b, 0, none⟩)) (fun j => vs.getD j 0) :=
  fun w' ho => .inr ⟨b, ct, st, vs, rfl, h.of_heap (ho.block b h.lt_b.1 (by simpa using hb)) (ho.block ct h.lt_b.2 (by simpa using hc)), fun _ => rfl⟩

/-! ### Join -/
def joinW (x y : Nat) : Nat := x ||| y
theorem join_val (x y : Nat) (hx : x < 18446744073709551616) (hy : y < 18446744073709551616) : bits .or .u64 (x : Int) (y : Int) = ((joinW x y : Nat) : Int) := u64_or_nat _ _ hx hy
set_option maxHeartbeats 400000 in
theorem join_one (x y : Nat) (w : World) (hx : x < 18446744073709551616) (hy : y < 18446744073709551616) :
    Calls Tryd.prog 35 #[.int .u64 (x : Int), .int .u64 (y : Int)] w fun e w' => e = .returned (.int .u64 ((joinW x y : Nat) : Int)) ∧ w' = w := by
  have HV := Lib.hid (join_val x y hx hy)
  go_enter Tryd.func35, Tryd.ntmps35
  go_wp2
  go_ret
  exact ⟨ret_int HV.out, rfl⟩
def joinU (ws : List Nat) (tw : Nat → Nat) (size j : Nat) : Nat := joinW (ws.getD j 0) (tw j &&& roomN size j)

set_option maxHeartbeats 400000 in
theorem join_change {w : World} {b c size : Nat} {ws : List Nat} {tv : Value} {tw : Nat → Nat} (h : SetAt w b c size ws) (hT : Apart c w tv tw)
    (hu : ∀ j, joinU ws tw size j < 18446744073709551616) (hr : ∀ i, (joinU ws tw size (i / 64)).testBit (i % 64) = true → i / 64 < ws.length → i < size) :
    Calls Tryd.prog 34 #[.pointer (some ⟨b, 0, none⟩), tv, .func (.func 35) #[] #[]] w (ChangePost ws (joinU ws tw size) b c size w) := by
  obtain ⟨cap, hs, hcap, _⟩ := h.cslice
  have hl : ws.length ≤ 64 := by have := h.len; have := h.le; omega
  have hle := h.le
  have HW := Lib.hid h
  have HT := Lib.hid hT
  have HU := Lib.hid hu
  have HR := Lib.hid hr
  clear h hT hu hr
  go_enter Tryd.func34, Tryd.ntmps34
  go_wp2
  go_loopw [7, 18] (fun g i wr => ChangeRel ws (joinU ws tw size) b c size w g i wr) (fun _ i _ => ws.length - (intOf i).toNat)
  case atStart => exact ⟨0, Nat.zero_le _, rfl, rfl, only_refl c w, by rw [mix_zero]; exact HW.out⟩
  case round =>
    obtain ⟨k, hk, rfl, rfl, ho, hset⟩ := hrel
    have HO := Lib.hid ho
    have HS := Lib.hid hset
    obtain ⟨cap2, hs2, hcap2, _⟩ := hset.cslice
    rw [mix_len] at hs2
    have hsz := hset.csize
    by_cases hlt : k < ws.length
    · have hw := hset.cword k (by rw [mix_len]; exact hlt)
      have hf := hset.fword k
      have e0 : (mix ws (joinU ws tw size) k).getD k 0 = ws.getD k 0 := by rw [mix_getD, if_pos hlt, if_neg (by omega)]
      rw [e0] at hw
      have hlx := HW.out.lt k
      have HCS := Lib.hid (chg_succ ws (joinU ws tw size) k)
      have hut : joinU ws tw size k = joinW (ws.getD k 0) (tw k &&& roomN size k) := rfl
      have HUT := Lib.hid hut
      generalize hxk : ws.getD k 0 = x at *
      have HXK := Lib.hid hxk
      clear ho hset e0 hut hxk
      have hTr := HT.out wr HO.out
      have htl := hTr.lt k
      have HTr := Lib.hid hTr
      have HAR := Lib.hid (and_room (tw k) size k htl)
      have hal : tw k &&& roomN size k < 18446744073709551616 := Nat.lt_of_le_of_lt Nat.and_le_left htl
      clear hTr
      have k0 : (0 : Int) ≤ (k : Int) := by omega
      have k1 : (k : Int) < (ws.length : Int) := by omega
      go_wp2_with fail
      refine (word_any HTr.out k (by omega)).mono ?_
      rintro e w2 ⟨rfl, hw2⟩
      rw [hw2]
      clear hw2 w2
      go_wp2_with fail
      refine (room_at b size k _ hsz hle).mono ?_
      rintro e w2 ⟨rfl, hw2⟩
      rw [hw2]
      clear hw2 w2
      have har := HAR.out
      generalize tw k &&& roomN size k = y at *
      go_wp2_with fail
      clear har
      refine (join_one x y _ hlx hal).mono ?_
      rintro e w2 ⟨rfl, hw2⟩
      rw [hw2]
      clear hw2 w2
      have hun := HU.out k
      rw [HUT.out] at hun
      generalize hz : joinW x y = z at *
      have HZ := Lib.hid hz
      clear hz
      cases hc : chg ws (joinU ws tw size) k with
      | true =>
        have HC := Lib.hid hc
        clear hc
        go_wp2
        go_roundw
        case rel =>
          refine ⟨k + 1, by omega, by go_num, by rw [chg_true_succ _ _ _ HC.out], only_setCell HO.out rfl _, ?_⟩
          rw [← mix_succ _ _ _ hlt, HUT.out]
          refine HS.out.setWord k z (by rw [mix_len]; exact hlt) hun ?_
          intro i hi ht
          refine HR.out i ?_ (by omega)
          rw [hi, HUT.out]; exact ht
        case measure => simp [intOf]; omega
      | false =>
        have HC := Lib.hid hc
        clear hc
        have hne : ((z : Int) != (x : Int)) = (z != x) := by
          rw [Bool.eq_iff_iff, bne_iff_ne, bne_iff_ne]; omega
        have HNE := Lib.hid hne
        clear hne
        go_wp2
        go_roundw
        case rel =>
          refine ⟨k + 1, by omega, by go_num, ?_, only_setCell HO.out rfl _, ?_⟩
          · rw [HCS.out, HC.out, Bool.false_or, HUT.out]
            first | rw [← HNE.out] | skip
            try rfl
          · rw [← mix_succ _ _ _ hlt, HUT.out]
            refine HS.out.setWord k z (by rw [mix_len]; exact hlt) hun ?_
            intro i hi ht
            refine HR.out i ?_ (by omega)
            rw [hi, HUT.out]; exact ht
        case measure => simp [intOf]; omega
    · have hd : decide (k < ws.length) = false := by simp; omega
      have e : k = ws.length := by omega
      subst e
      go_wp2
      go_ret
      exact ⟨rfl, HO.out, HS.out⟩

/-! ### Minus -/
def minusW (x y : Nat) : Nat := x &&& (18446744073709551615 - y)
theorem minus_val (x y : Nat) (hx : x < 18446744073709551616) (hy : y < 18446744073709551616) : bits .andNot .u64 (x : Int) (y : Int) = ((minusW x y : Nat) : Int) := u64_andNot_nat _ _ hx hy
set_option maxHeartbeats 400000 in
theorem minus_one (x y : Nat) (w : World) (hx : x < 18446744073709551616) (hy : y < 18446744073709551616) :
    Calls Tryd.prog 36 #[.int .u64 (x : Int), .int .u64 (y : Int)] w fun e w' => e = .returned (.int .u64 ((minusW x y : Nat) : Int)) ∧ w' = w := by
  have HV := Lib.hid (minus_val x y hx hy)
  go_enter Tryd.func36, Tryd.ntmps36
  go_wp2
  go_ret
  exact ⟨ret_int HV.out, rfl⟩
def minusU (ws : List Nat) (tw : Nat → Nat) (size j : Nat) : Nat := minusW (ws.getD j 0) (tw j &&& roomN size j)

set_option maxHeartbeats 400000 in
theorem minus_change {w : World} {b c size : Nat} {ws : List Nat} {tv : Value} {tw : Nat → Nat} (h : SetAt w b c size ws) (hT : Apart c w tv tw)
    (hu : ∀ j, minusU ws tw size j < 18446744073709551616) (hr : ∀ i, (minusU ws tw size (i / 64)).testBit (i % 64) = true → i / 64 < ws.length → i < size) :
    Calls Tryd.prog 34 #[.pointer (some ⟨b, 0, none⟩), tv, .func (.func 36) #[] #[]] w (ChangePost ws (minusU ws tw size) b c size w) := by
  obtain ⟨cap, hs, hcap, _⟩ := h.cslice
  have hl : ws.length ≤ 64 := by have := h.len; have := h.le; omega
  have hle := h.le
  have HW := Lib.hid h
  have HT := Lib.hid hT
  have HU := Lib.hid hu
  have HR := Lib.hid hr
  clear h hT hu hr
  go_enter Tryd.func34, Tryd.ntmps34
  go_wp2
  go_loopw [7, 18] (fun g i wr => ChangeRel ws (minusU ws tw size) b c size w g i wr) (fun _ i _ => ws.length - (intOf i).toNat)
  case atStart => exact ⟨0, Nat.zero_le _, rfl, rfl, only_refl c w, by rw [mix_zero]; exact HW.out⟩
  case round =>
    obtain ⟨k, hk, rfl, rfl, ho, hset⟩ := hrel
    have HO := Lib.hid ho
    have HS := Lib.hid hset
    obtain ⟨cap2, hs2, hcap2, _⟩ := hset.cslice
    rw [mix_len] at hs2
    have hsz := hset.csize
    by_cases hlt : k < ws.length
    · have hw := hset.cword k (by rw [mix_len]; exact hlt)
      have hf := hset.fword k
      have e0 : (mix ws (minusU ws tw size) k).getD k 0 = ws.getD k 0 := by rw [mix_getD, if_pos hlt, if_neg (by omega)]
      rw [e0] at hw
      have hlx := HW.out.lt k
      have HCS := Lib.hid (chg_succ ws (minusU ws tw size) k)
      have hut : minusU ws tw size k = minusW (ws.getD k 0) (tw k &&& roomN size k) := rfl
      have HUT := Lib.hid hut
      generalize hxk : ws.getD k 0 = x at *
      have HXK := Lib.hid hxk
      clear ho hset e0 hut hxk
      have hTr := HT.out wr HO.out
      have htl := hTr.lt k
      have HTr := Lib.hid hTr
      have HAR := Lib.hid (and_room (tw k) size k htl)
      have hal : tw k &&& roomN size k < 18446744073709551616 := Nat.lt_of_le_of_lt Nat.and_le_left htl
      clear hTr
      have k0 : (0 : Int) ≤ (k : Int) := by omega
      have k1 : (k : Int) < (ws.length : Int) := by omega
      go_wp2_with fail
      refine (word_any HTr.out k (by omega)).mono ?_
      rintro e w2 ⟨rfl, hw2⟩
      rw [hw2]
      clear hw2 w2
      go_wp2_with fail
      refine (room_at b size k _ hsz hle).mono ?_
      rintro e w2 ⟨rfl, hw2⟩
      rw [hw2]
      clear hw2 w2
      have har := HAR.out
      generalize tw k &&& roomN size k = y at *
      go_wp2_with fail
      clear har
      refine (minus_one x y _ hlx hal).mono ?_
      rintro e w2 ⟨rfl, hw2⟩
      rw [hw2]
      clear hw2 w2
      have hun := HU.out k
      rw [HUT.out] at hun
      generalize hz : minusW x y = z at *
      have HZ := Lib.hid hz
      clear hz
      cases hc : chg ws (minusU ws tw size) k with
      | true =>
        have HC := Lib.hid hc
        clear hc
        go_wp2
        go_roundw
        case rel =>
          refine ⟨k + 1, by omega, by go_num, by rw [chg_true_succ _ _ _ HC.out], only_setCell HO.out rfl _, ?_⟩
          rw [← mix_succ _ _ _ hlt, HUT.out]
          refine HS.out.setWord k z (by rw [mix_len]; exact hlt) hun ?_
          intro i hi ht
          refine HR.out i ?_ (by omega)
          rw [hi, HUT.out]; exact ht
        case measure => simp [intOf]; omega
      | false =>
        have HC := Lib.hid hc
        clear hc
        have hne : ((z : Int) != (x : Int)) = (z != x) := by
          rw [Bool.eq_iff_iff, bne_iff_ne, bne_iff_ne]; omega
        have HNE := Lib.hid hne
        clear hne
        go_wp2
        go_roundw
        case rel =>
          refine ⟨k + 1, by omega, by go_num, ?_, only_setCell HO.out rfl _, ?_⟩
          · rw [HCS.out, HC.out, Bool.false_or, HUT.out]
            first | rw [← HNE.out] | skip
            try rfl
          · rw [← mix_succ _ _ _ hlt, HUT.out]
            refine HS.out.setWord k z (by rw [mix_len]; exact hlt) hun ?_
            intro i hi ht
            refine HR.out i ?_ (by omega)
            rw [hi, HUT.out]; exact ht
        case measure => simp [intOf]; omega
    · have hd : decide (k < ws.length) = false := by simp; omega
      have e : k = ws.length := by omega
      subst e
      go_wp2
      go_ret
      exact ⟨rfl, HO.out, HS.out⟩

/-! ### Meet -/
def meetW (x y : Nat) : Nat := x &&& y
theorem meet_val (x y : Nat) (hx : x < 18446744073709551616) (hy : y < 18446744073709551616) : bits .and .u64 (x : Int) (y : Int) = ((meetW x y : Nat) : Int) := u64_and_nat _ _ hx hy
set_option maxHeartbeats 400000 in
theorem meet_one (x y : Nat) (w : World) (hx : x < 18446744073709551616) (hy : y < 18446744073709551616) :
    Calls Tryd.prog 37 #[.int .u64 (x : Int), .int .u64 (y : Int)] w fun e w' => e = .returned (.int .u64 ((meetW x y : Nat) : Int)) ∧ w' = w := by
  have HV := Lib.hid (meet_val x y hx hy)
  go_enter Tryd.func37, Tryd.ntmps37
  go_wp2
  go_ret
  exact ⟨ret_int HV.out, rfl⟩
def meetU (ws : List Nat) (tw : Nat → Nat) (size j : Nat) : Nat := meetW (ws.getD j 0) (tw j &&& roomN size j)

set_option maxHeartbeats 400000 in
theorem meet_change {w : World} {b c size : Nat} {ws : List Nat} {tv : Value} {tw : Nat → Nat} (h : SetAt w b c size ws) (hT : Apart c w tv tw)
    (hu : ∀ j, meetU ws tw size j < 18446744073709551616) (hr : ∀ i, (meetU ws tw size (i / 64)).testBit (i % 64) = true → i / 64 < ws.length → i < size) :
    Calls Tryd.prog 34 #[.pointer (some ⟨b, 0, none⟩), tv, .func (.func 37) #[] #[]] w (ChangePost ws (meetU ws tw size) b c size w) := by
  obtain ⟨cap, hs, hcap, _⟩ := h.cslice
  have hl : ws.length ≤ 64 := by have := h.len; have := h.le; omega
  have hle := h.le
  have HW := Lib.hid h
  have HT := Lib.hid hT
  have HU := Lib.hid hu
  have HR := Lib.hid hr
  clear h hT hu hr
  go_enter Tryd.func34, Tryd.ntmps34
  go_wp2
  go_loopw [7, 18] (fun g i wr => ChangeRel ws (meetU ws tw size) b c size w g i wr) (fun _ i _ => ws.length - (intOf i).toNat)
  case atStart => exact ⟨0, Nat.zero_le _, rfl, rfl, only_refl c w, by rw [mix_zero]; exact HW.out⟩
  case round =>
    obtain ⟨k, hk, rfl, rfl, ho, hset⟩ := hrel
    have HO := Lib.hid ho
    have HS := Lib.hid hset
    obtain ⟨cap2, hs2, hcap2, _⟩ := hset.cslice
    rw [mix_len] at hs2
    have hsz := hset.csize
    by_cases hlt : k < ws.length
    · have hw := hset.cword k (by rw [mix_len]; exact hlt)
      have hf := hset.fword k
      have e0 : (mix ws (meetU ws tw size) k).getD k 0 = ws.getD k 0 := by rw [mix_getD, if_pos hlt, if_neg (by omega)]
      rw [e0] at hw
      have hlx := HW.out.lt k
      have HCS := Lib.hid (chg_succ ws (meetU ws tw size) k)
      have hut : meetU ws tw size k = meetW (ws.getD k 0) (tw k &&& roomN size k) := rfl
      have HUT := Lib.hid hut
      generalize hxk : ws.getD k 0 = x at *
      have HXK := Lib.hid hxk
      clear ho hset e0 hut hxk
      have hTr := HT.out wr HO.out
      have htl := hTr.lt k
      have HTr := Lib.hid hTr
      have HAR := Lib.hid (and_room (tw k) size k htl)
      have hal : tw k &&& roomN size k < 18446744073709551616 := Nat.lt_of_le_of_lt Nat.and_le_left htl
      clear hTr
      have k0 : (0 : Int) ≤ (k : Int) := by omega
      have k1 : (k : Int) < (ws.length : Int) := by omega
      go_wp2_with fail
      refine (word_any HTr.out k (by omega)).mono ?_
      rintro e w2 ⟨rfl, hw2⟩
      rw [hw2]
      clear hw2 w2
      go_wp2_with fail
      refine (room_at b size k _ hsz hle).mono ?_
      rintro e w2 ⟨rfl, hw2⟩
      rw [hw2]
      clear hw2 w2
      have har := HAR.out
      generalize tw k &&& roomN size k = y at *
      go_wp2_with fail
      clear har
      refine (meet_one x y _ hlx hal).mono ?_
      rintro e w2 ⟨rfl, hw2⟩
      rw [hw2]
      clear hw2 w2
      have hun := HU.out k
      rw [HUT.out] at hun
      generalize hz : meetW x y = z at *
      have HZ := Lib.hid hz
      clear hz
      cases hc : chg ws (meetU ws tw size) k with
      | true =>
        have HC := Lib.hid hc
        clear hc
        go_wp2
        go_roundw
        case rel =>
          refine ⟨k + 1, by omega, by go_num, by rw [chg_true_succ _ _ _ HC.out], only_setCell HO.out rfl _, ?_⟩
          rw [← mix_succ _ _ _ hlt, HUT.out]
          refine HS.out.setWord k z (by rw [mix_len]; exact hlt) hun ?_
          intro i hi ht
          refine HR.out i ?_ (by omega)
          rw [hi, HUT.out]; exact ht
        case measure => simp [intOf]; omega
      | false =>
        have HC := Lib.hid hc
        clear hc
        have hne : ((z : Int) != (x : Int)) = (z != x) := by
          rw [Bool.eq_iff_iff, bne_iff_ne, bne_iff_ne]; omega
        have HNE := Lib.hid hne
        clear hne
        go_wp2
        go_roundw
        case rel =>
          refine ⟨k + 1, by omega, by go_num, ?_, only_setCell HO.out rfl _, ?_⟩
          · rw [HCS.out, HC.out, Bool.false_or, HUT.out]
            first | rw [← HNE.out] | skip
            try rfl
          · rw [← mix_succ _ _ _ hlt, HUT.out]
            refine HS.out.setWord k z (by rw [mix_len]; exact hlt) hun ?_
            intro i hi ht
            refine HR.out i ?_ (by omega)
            rw [hi, HUT.out]; exact ht
        case measure => simp [intOf]; omega
    · have hd : decide (k < ws.length) = false := by simp; omega
      have e : k = ws.length := by omega
      subst e
      go_wp2
      go_ret
      exact ⟨rfl, HO.out, HS.out⟩
end Go.Proofs.YtmdmanhjgbpgoaaDoor
