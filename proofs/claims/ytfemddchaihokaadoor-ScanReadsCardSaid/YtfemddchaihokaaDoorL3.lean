/-
  HasPrefix of two slashes; what blanks and comments are skipped.
-/
import Derived.Test.YtfemddchaihokaaDoorL2
namespace Go.Proofs.YtfemddchaihokaaDoor
open Go.RowKit

theorem size_list (s : ByteArray) : s.data.toList.length = s.size := by simp
theorem ext_list (s : ByteArray) (a b : Nat) : (s.extract a b).data.toList = (s.data.toList.drop a).take (b - a) := by
  simp [ByteArray.data_extract, List.extract_eq_take_drop]
theorem ext_end (s : ByteArray) (a : Nat) : (s.extract a s.size).data.toList = s.data.toList.drop a := by
  rw [ext_list, List.take_of_length_le (by simp)]
theorem byte_list (s : ByteArray) (k : Nat) (h : k < s.size) : s[k] = s.data.toList[k]'(by simpa using h) := rfl
theorem bytes_eq (s : ByteArray) : s = ⟨s.data.toList.toArray⟩ := by simp

/-- Do two slashes stand at the beginning? -/
def slashB (l : List UInt8) : Bool := l.take 2 == [47, 47]

theorem prefix_any (s : ByteArray) (w : World) : Calls Tryd.prog 36 #[.string s, .string ⟨#[47, 47]⟩] w fun e w' => e = .returned (.bool (slashB s.data.toList)) ∧ w = w' := by
  by_cases h : 2 ≤ s.size
  · have HS := Lib.hid (show ((s.extract 0 2).toList == [47, 47]) = slashB s.data.toList by rw [ByteArray.toList_eq, ext_list]; rfl)
    go_enter Tryd.func36, Tryd.ntmps36
    go_wp2
    go_ret
    exact ⟨by rw [← HS.out]; rfl, rfl⟩
  · have HS := Lib.hid (show slashB s.data.toList = false by
      unfold slashB
      rw [beq_eq_false_iff_ne]
      intro hx
      have := congrArg List.length hx
      simp at this
      omega)
    have g : decide (2 ≤ s.size) = false := by simpa using h
    go_enter Tryd.func36, Tryd.ntmps36
    go_wp2
    go_ret
    exact ⟨by rw [HS.out]; rfl, rfl⟩

theorem slash_yes {l : List UInt8} {i : Nat} (h : slashB (l.drop i) = true) : ∃ h : i + 1 < l.length, l[i].toNat = 47 ∧ l[i + 1].toNat = 47 := by
  unfold slashB at h
  have hx : (l.drop i).take 2 = [47, 47] := by simpa using h
  have hl := congrArg List.length hx
  simp at hl
  have h1 : i + 1 < l.length := by omega
  rw [drop_cons l i (by omega), drop_cons l (i + 1) h1] at hx
  simp only [List.take_succ_cons, List.cons.injEq] at hx
  exact ⟨h1, by rw [hx.1]; rfl, by rw [hx.2.1]; rfl⟩
theorem slash_no {l : List UInt8} {i : Nat} (h : slashB (l.drop i) = false) : ¬ ∃ h : i + 1 < l.length, l[i].toNat = 47 ∧ l[i + 1].toNat = 47 := by
  rintro ⟨h1, h2, h3⟩
  unfold slashB at h
  rw [drop_cons l i (by omega), drop_cons l (i + 1) h1] at h
  have e2 : l[i] = 47 := UInt8.toNat_inj.1 h2
  have e3 : l[i + 1] = 47 := UInt8.toNat_inj.1 h3
  rw [e2, e3] at h
  simp at h

set_option maxHeartbeats 2000000 in
theorem skipb_any (s : ByteArray) (at0 : Nat) (w : World) (hs : s.size ≤ 65536) (hat : at0 ≤ s.size) :
    Calls Tryd.prog 24 #[.string s, .int .i64 at0] w fun e w' => e = .returned (.int .i64 ((at0 + blanks false (s.data.toList.drop at0) : Nat) : Int)) ∧ w = w' := by
  have HZ := Lib.hid (size_list s)
  go_enter Tryd.func24, Tryd.ntmps24
  go_wp2
  go_loop [1] (fun i => ∃ k : Nat, k ≤ s.size ∧ Hid (k + blanks false (s.data.toList.drop k) = at0 + blanks false (s.data.toList.drop at0)) ∧ i = .int .i64 k) (fun i => s.size - (intOf i).toNat)
  case atStart => exact ⟨at0, hat, Lib.hid rfl, rfl⟩
  case round =>
    obtain ⟨k, hk, HK, rfl⟩ := hrel
    by_cases hlt : k < s.size
    · have H := Lib.hid (blank_any (s[k]'hlt) w)
      cases hp : blankB (s[k]'hlt) with
      | true =>
        have HB := Lib.hid (blanks_one (l := s.data.toList) (i := k) (by rw [HZ.out]; exact hlt) hp)
        rw [hp] at H
        clear hp
        go_wp2_with ((with_reducible refine (H.out).mono ?_); rintro e w' ⟨rfl, rfl⟩)
        go_round
        case rel => exact ⟨k + 1, by omega, Lib.hid (by have h1 := HK.out; have h2 := HB.out; omega), by go_num⟩
        case measure => simp [intOf]; omega
      | false =>
        rw [hp] at H
        have HP := Lib.hid (prefix_any (s.extract k s.size) w)
        cases hq : slashB (s.extract k s.size).data.toList with
        | true =>
          rw [hq] at HP
          rw [ext_end] at hq
          obtain ⟨h1, h2, h3⟩ := slash_yes hq
          have HB := Lib.hid (blanks_line h1 h2 h3)
          have hc1 : cnt commB (s.data.toList.drop k) + k ≤ s.size := by
            have := cnt_le commB (s.data.toList.drop k)
            rw [List.length_drop, HZ.out] at this
            omega
          have hc0 : 0 < cnt commB (s.data.toList.drop k) := by
            rw [drop_cons _ k (by omega), cnt_cons_pos _ (by unfold commB; rw [h2]; rfl)]
            omega
          have HC := Lib.hid (count_comm (s.extract k s.size) w (by simp only [ByteArray.size_extract]; omega))
          rw [ext_end] at HC
          clear hp hq h1 h2 h3
          generalize cnt commB (s.data.toList.drop k) = m at *
          go_wp2_with (first
            | ((with_reducible refine (H.out).mono ?_); rintro e w' ⟨rfl, rfl⟩)
            | ((with_reducible refine (HP.out).mono ?_); rintro e w' ⟨rfl, rfl⟩)
            | ((with_reducible refine (HC.out).mono ?_); rintro e w' ⟨rfl, rfl⟩))
          go_round
          case rel => exact ⟨k + m, by omega, Lib.hid (by have h1 := HK.out; have h2 := HB.out; omega), by go_num⟩
          case measure => simp [intOf]; omega
        | false =>
          rw [hq] at HP
          rw [ext_end] at hq
          have HB := Lib.hid (blanks_none (l := s.data.toList) (i := k) (by rw [HZ.out]; exact hlt) hp (fun hx => slash_no hq ⟨hx.2.1, hx.1, hx.2.2⟩))
          clear hp hq
          go_wp2_with (first
            | ((with_reducible refine (H.out).mono ?_); rintro e w' ⟨rfl, rfl⟩)
            | ((with_reducible refine (HP.out).mono ?_); rintro e w' ⟨rfl, rfl⟩))
          go_ret
          exact ⟨ret_int (by have h1 := HK.out; have h2 := HB.out; omega), rfl⟩
    · have HB := Lib.hid (show blanks false (s.data.toList.drop k) = 0 by rw [List.drop_eq_nil_of_le (by rw [HZ.out]; omega)]; rfl)
      have g : decide (k < s.size) = false := by simpa using hlt
      go_wp2
      go_ret
      exact ⟨ret_int (by have h1 := HK.out; have h2 := HB.out; omega), rfl⟩
end Go.Proofs.YtfemddchaihokaaDoor
