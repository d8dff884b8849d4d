/-
  How many bytes go on at a text's beginning; what blanks and comments are skipped.
-/
import Derived.Test.YtfemddchaihokaaDoorL1
import Derived.IntWalk
namespace Go.Proofs.YtfemddchaihokaaDoor
open Go.RowKit

/-- A call that asks a byte. -/
def Asks (f : FuncId) (p : UInt8 → Bool) : Prop := ∀ (c : UInt8) (w : World), Calls Tryd.prog f #[.int .u8 c.toNat] w fun e w' => e = .returned (.bool (p c)) ∧ w = w'
theorem asks_comm : Asks 38 commB := comm_any
theorem asks_name : Asks 40 nameB := name_any
theorem asks_numb : Asks 41 digitB := numb_any
theorem asks_lab : Asks 50 labelB := lab_any

theorem cnt_at {p : UInt8 → Bool} {l : List UInt8} {k : Nat} (hk : k < l.length) (hb : k ≤ cnt p l) (h : p l[k] = true) : k + 1 ≤ cnt p l := by
  induction l generalizing k with
  | nil => simp at hk
  | cons c r ih =>
    cases k with
    | zero =>
      rw [cnt_cons_pos r (by simpa using h)]; omega
    | succ k =>
      by_cases hc : p c = true
      · rw [cnt_cons_pos r hc] at hb ⊢
        have := ih (k := k) (by simpa using hk) (by omega) (by simpa using h)
        omega
      · rw [cnt_cons_neg r (by simpa using hc)] at hb; omega
theorem cnt_stop {p : UInt8 → Bool} {l : List UInt8} {k : Nat} (hk : k < l.length) (hb : k ≤ cnt p l) (h : p l[k] = false) : k = cnt p l := by
  induction l generalizing k with
  | nil => simp at hk
  | cons c r ih =>
    cases k with
    | zero =>
      rw [cnt_cons_neg r (by simpa using h)]
    | succ k =>
      by_cases hc : p c = true
      · rw [cnt_cons_pos r hc] at hb ⊢
        have := ih (k := k) (by simpa using hk) (by omega) (by simpa using h)
        omega
      · rw [cnt_cons_neg r (by simpa using hc)] at hb; omega
theorem cnt_lt {p : UInt8 → Bool} {l : List UInt8} (hk : cnt p l < l.length) : p l[cnt p l] = false := by
  cases h : p l[cnt p l] with
  | false => rfl
  | true => have := cnt_at hk (Nat.le_refl _) h; omega
theorem cnt_yes {p : UInt8 → Bool} {l : List UInt8} {k : Nat} (hk : k < cnt p l) (hl : k < l.length) : p l[k] = true := by
  cases h : p l[k] with
  | true => rfl
  | false => have := cnt_stop hl (by omega) h; omega

set_option maxHeartbeats 1000000 in
theorem count_comm (s : ByteArray) (w : World) (hs : s.size ≤ 65536) :
    Calls Tryd.prog 37 #[.string s, .func (.func 38) #[] #[]] w fun e w' => e = .returned (.int .i64 (cnt commB s.data.toList)) ∧ w = w' := by
  have hle := cnt_le commB s.data.toList
  have hsz : s.data.toList.length = s.size := by simp
  rw [hsz] at hle
  have HZ := Lib.hid hsz
  clear hsz
  have HF := Lib.hid asks_comm
  go_enter Tryd.func37, Tryd.ntmps37
  go_wp2
  go_loop [5] (fun i => ∃ k : Nat, k ≤ cnt commB s.data.toList ∧ i = .int .i64 k) (fun i => s.size - (intOf i).toNat)
  case atStart => exact ⟨0, Nat.zero_le _, rfl⟩
  case round =>
    obtain ⟨k, hk, rfl⟩ := hrel
    by_cases hlt : k < s.size
    · have hl : k < s.data.toList.length := by rw [HZ.out]; exact hlt
      have H := Lib.hid (HF.out (s[k]'hlt) w)
      cases hp : commB (s[k]'hlt) with
      | true =>
        have hn : k + 1 ≤ cnt commB s.data.toList := cnt_at hl hk hp
        rw [hp] at H
        clear hp hl
        go_wp2_with ((with_reducible refine (H.out).mono ?_); rintro e w' ⟨rfl, rfl⟩)
        go_round
        case rel => exact ⟨k + 1, hn, by go_num⟩
        case measure => simp [intOf]; omega
      | false =>
        have hn : k = cnt commB s.data.toList := cnt_stop hl hk hp
        rw [hp] at H
        clear hp hl
        have HN := Lib.hid hn
        clear hn
        go_wp2_with ((with_reducible refine (H.out).mono ?_); rintro e w' ⟨rfl, rfl⟩)
        go_ret
        exact ⟨ret_int (by rw [← HN.out]), rfl⟩
    · have HN := Lib.hid (show k = cnt commB s.data.toList by omega)
      have g : decide (k < s.size) = false := by simpa using hlt
      go_wp2
      go_ret
      exact ⟨ret_int (by rw [← HN.out]), rfl⟩
set_option maxHeartbeats 1000000 in
theorem count_name (s : ByteArray) (w : World) (hs : s.size ≤ 65536) :
    Calls Tryd.prog 37 #[.string s, .func (.func 40) #[] #[]] w fun e w' => e = .returned (.int .i64 (cnt nameB s.data.toList)) ∧ w = w' := by
  have hle := cnt_le nameB s.data.toList
  have hsz : s.data.toList.length = s.size := by simp
  rw [hsz] at hle
  have HZ := Lib.hid hsz
  clear hsz
  have HF := Lib.hid asks_name
  go_enter Tryd.func37, Tryd.ntmps37
  go_wp2
  go_loop [5] (fun i => ∃ k : Nat, k ≤ cnt nameB s.data.toList ∧ i = .int .i64 k) (fun i => s.size - (intOf i).toNat)
  case atStart => exact ⟨0, Nat.zero_le _, rfl⟩
  case round =>
    obtain ⟨k, hk, rfl⟩ := hrel
    by_cases hlt : k < s.size
    · have hl : k < s.data.toList.length := by rw [HZ.out]; exact hlt
      have H := Lib.hid (HF.out (s[k]'hlt) w)
      cases hp : nameB (s[k]'hlt) with
      | true =>
        have hn : k + 1 ≤ cnt nameB s.data.toList := cnt_at hl hk hp
        rw [hp] at H
        clear hp hl
        go_wp2_with ((with_reducible refine (H.out).mono ?_); rintro e w' ⟨rfl, rfl⟩)
        go_round
        case rel => exact ⟨k + 1, hn, by go_num⟩
        case measure => simp [intOf]; omega
      | false =>
        have hn : k = cnt nameB s.data.toList := cnt_stop hl hk hp
        rw [hp] at H
        clear hp hl
        have HN := Lib.hid hn
        clear hn
        go_wp2_with ((with_reducible refine (H.out).mono ?_); rintro e w' ⟨rfl, rfl⟩)
        go_ret
        exact ⟨ret_int (by rw [← HN.out]), rfl⟩
    · have HN := Lib.hid (show k = cnt nameB s.data.toList by omega)
      have g : decide (k < s.size) = false := by simpa using hlt
      go_wp2
      go_ret
      exact ⟨ret_int (by rw [← HN.out]), rfl⟩
set_option maxHeartbeats 1000000 in
theorem count_numb (s : ByteArray) (w : World) (hs : s.size ≤ 65536) :
    Calls Tryd.prog 37 #[.string s, .func (.func 41) #[] #[]] w fun e w' => e = .returned (.int .i64 (cnt digitB s.data.toList)) ∧ w = w' := by
  have hle := cnt_le digitB s.data.toList
  have hsz : s.data.toList.length = s.size := by simp
  rw [hsz] at hle
  have HZ := Lib.hid hsz
  clear hsz
  have HF := Lib.hid asks_numb
  go_enter Tryd.func37, Tryd.ntmps37
  go_wp2
  go_loop [5] (fun i => ∃ k : Nat, k ≤ cnt digitB s.data.toList ∧ i = .int .i64 k) (fun i => s.size - (intOf i).toNat)
  case atStart => exact ⟨0, Nat.zero_le _, rfl⟩
  case round =>
    obtain ⟨k, hk, rfl⟩ := hrel
    by_cases hlt : k < s.size
    · have hl : k < s.data.toList.length := by rw [HZ.out]; exact hlt
      have H := Lib.hid (HF.out (s[k]'hlt) w)
      cases hp : digitB (s[k]'hlt) with
      | true =>
        have hn : k + 1 ≤ cnt digitB s.data.toList := cnt_at hl hk hp
        rw [hp] at H
        clear hp hl
        go_wp2_with ((with_reducible refine (H.out).mono ?_); rintro e w' ⟨rfl, rfl⟩)
        go_round
        case rel => exact ⟨k + 1, hn, by go_num⟩
        case measure => simp [intOf]; omega
      | false =>
        have hn : k = cnt digitB s.data.toList := cnt_stop hl hk hp
        rw [hp] at H
        clear hp hl
        have HN := Lib.hid hn
        clear hn
        go_wp2_with ((with_reducible refine (H.out).mono ?_); rintro e w' ⟨rfl, rfl⟩)
        go_ret
        exact ⟨ret_int (by rw [← HN.out]), rfl⟩
    · have HN := Lib.hid (show k = cnt digitB s.data.toList by omega)
      have g : decide (k < s.size) = false := by simpa using hlt
      go_wp2
      go_ret
      exact ⟨ret_int (by rw [← HN.out]), rfl⟩
set_option maxHeartbeats 1000000 in
theorem count_lab (s : ByteArray) (w : World) (hs : s.size ≤ 65536) :
    Calls Tryd.prog 37 #[.string s, .func (.func 50) #[] #[]] w fun e w' => e = .returned (.int .i64 (cnt labelB s.data.toList)) ∧ w = w' := by
  have hle := cnt_le labelB s.data.toList
  have hsz : s.data.toList.length = s.size := by simp
  rw [hsz] at hle
  have HZ := Lib.hid hsz
  clear hsz
  have HF := Lib.hid asks_lab
  go_enter Tryd.func37, Tryd.ntmps37
  go_wp2
  go_loop [5] (fun i => ∃ k : Nat, k ≤ cnt labelB s.data.toList ∧ i = .int .i64 k) (fun i => s.size - (intOf i).toNat)
  case atStart => exact ⟨0, Nat.zero_le _, rfl⟩
  case round =>
    obtain ⟨k, hk, rfl⟩ := hrel
    by_cases hlt : k < s.size
    · have hl : k < s.data.toList.length := by rw [HZ.out]; exact hlt
      have H := Lib.hid (HF.out (s[k]'hlt) w)
      cases hp : labelB (s[k]'hlt) with
      | true =>
        have hn : k + 1 ≤ cnt labelB s.data.toList := cnt_at hl hk hp
        rw [hp] at H
        clear hp hl
        go_wp2_with ((with_reducible refine (H.out).mono ?_); rintro e w' ⟨rfl, rfl⟩)
        go_round
        case rel => exact ⟨k + 1, hn, by go_num⟩
        case measure => simp [intOf]; omega
      | false =>
        have hn : k = cnt labelB s.data.toList := cnt_stop hl hk hp
        rw [hp] at H
        clear hp hl
        have HN := Lib.hid hn
        clear hn
        go_wp2_with ((with_reducible refine (H.out).mono ?_); rintro e w' ⟨rfl, rfl⟩)
        go_ret
        exact ⟨ret_int (by rw [← HN.out]), rfl⟩
    · have HN := Lib.hid (show k = cnt labelB s.data.toList by omega)
      have g : decide (k < s.size) = false := by simpa using hlt
      go_wp2
      go_ret
      exact ⟨ret_int (by rw [← HN.out]), rfl⟩
end Go.Proofs.YtfemddchaihokaaDoor
