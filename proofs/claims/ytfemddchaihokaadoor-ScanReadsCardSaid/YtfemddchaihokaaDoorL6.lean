/-
  What a text begins with; a token's bare text.
-/
import Derived.Test.YtfemddchaihokaaDoorL5
namespace Go.Proofs.YtfemddchaihokaaDoor
open Go.RowKit

def erV (e : Nat) : Value := if e = 0 then .nilIface else .iface 55 (.int .i64 e)
def measT (l : List UInt8) : Value := .tuple #[.int .i64 (meas l).1, .int .i64 (meas l).2.1, erV (meas l).2.2]
def measP (l : List UInt8) (w : World) (e : Ending) (w' : World) : Prop := e = .returned (measT l) ∧ Below w.heap.size w w'

theorem measT_digit {c : UInt8} {r : List UInt8} (h : digitB c = true) : measT (c :: r) = .tuple #[.int .i64 2, .int .i64 (cnt digitB (c :: r)), erV (if valOf ((c :: r).takeWhile digitB) < 9223372036854775808 then 0 else 10)] := by
  have e : meas (c :: r) = (2, cnt digitB (c :: r), if valOf ((c :: r).takeWhile digitB) < 9223372036854775808 then 0 else 10) := by simp only [meas]; rw [if_pos h]
  unfold measT; rw [e]; rfl
theorem measT_letter {c : UInt8} {r : List UInt8} (hd : digitB c = false) (h : letterB c = true) : measT (c :: r) = .tuple #[.int .i64 1, .int .i64 (cnt nameB (c :: r)), .nilIface] := by
  have e : meas (c :: r) = (1, cnt nameB (c :: r), 0) := by simp only [meas]; rw [if_neg (by simp [hd]), if_pos h]
  unfold measT; rw [e]; rfl
theorem measT_quote {c : UInt8} {r : List UInt8} (h : quoteB c = true) : measT (c :: r) = .tuple #[.int .i64 3, .int .i64 (labN r), erV (if labN r = 0 then 20 else 0)] := by
  obtain ⟨hd, hl⟩ := quote_digit h
  have e : meas (c :: r) = (3, labN r, if labN r = 0 then 20 else 0) := by simp only [meas]; rw [if_neg (by simp [hd]), if_neg (by simp [hl]), if_pos h]
  unfold measT; rw [e]; rfl
theorem measT_sign {c : UInt8} {r : List UInt8} (hd : digitB c = false) (hl : letterB c = false) (h : quoteB c = false) : measT (c :: r) = .tuple #[.int .i64 4, .int .i64 (signN (c :: r)), erV (if signN (c :: r) = 0 then 20 else 0)] := by
  have e : meas (c :: r) = (4, signN (c :: r), if signN (c :: r) = 0 then 20 else 0) := by simp only [meas]; rw [if_neg (by simp [hd]), if_neg (by simp [hl]), if_neg (by simp [h])]
  unfold measT; rw [e]; rfl
theorem labT_er (r : List UInt8) : labT r = .tuple #[.int .i64 (labN r), erV (if labN r = 0 then 20 else 0)] := by
  unfold labT erV
  by_cases h : labN r = 0
  · rw [if_pos h, if_pos h, if_neg (by omega), h]; rfl
  · rw [if_neg h, if_neg h, if_pos rfl]
theorem sigT_er (l : List UInt8) : sigT l = .tuple #[.int .i64 (signN l), erV (if signN l = 0 then 20 else 0)] := by
  unfold sigT erV
  by_cases h : signN l = 0
  · rw [if_pos h, if_pos h, if_neg (by omega), h]; rfl
  · rw [if_neg h, if_neg h, if_pos rfl]
theorem numT_er (l : List UInt8) : ∃ v : Int, numT l = .tuple #[.int .i64 v, erV (if valOf l < 9223372036854775808 then 0 else 10)] := by
  unfold numT erV
  by_cases h : valOf l < 9223372036854775808
  · exact ⟨valOf l, by rw [if_pos h, if_pos h, if_pos rfl]⟩
  · exact ⟨0, by rw [if_neg h, if_neg h, if_neg (by omega)]; rfl⟩

set_option maxHeartbeats 1000000 in
theorem measure_any (s : ByteArray) (w : World) (hG : GlobS w) (hs : s.size ≤ 65536) (h0 : 0 < s.size) : Calls Tryd.prog 25 #[.string s] w (measP s.data.toList w) := by
  have HB := Lib.hid (begins_any ((s[0]'h0).toNat : Int) w)
  have hcons : s.data.toList = (s[0]'h0) :: s.data.toList.drop 1 := drop_cons s.data.toList 0 (by simp; omega)
  by_cases hd : digitB (s[0]'h0) = true
  · have HT := Lib.hid (begT_digit hd)
    have hm := measT_digit (r := s.data.toList.drop 1) hd
    rw [← hcons] at hm
    have HC := Lib.hid (count_numb s w hs)
    have hcl := cnt_le digitB s.data.toList
    rw [size_list] at hcl
    have hx : (s.extract 0 (cnt digitB s.data.toList)).data.toList = s.data.toList.takeWhile digitB := by
      rw [ext_list, List.drop_zero, Nat.sub_zero, take_cnt]
    have hne : (s.extract 0 (cnt digitB s.data.toList)).data.toList ≠ [] := by
      rw [hx, hcons, List.takeWhile_cons, if_pos hd]; simp
    have HN := Lib.hid (number_any (s.extract 0 (cnt digitB s.data.toList)) w hG (by simp only [ByteArray.size_extract]; omega) hne (by rw [hx]; exact while_digits _))
    rw [hx] at HN
    obtain ⟨v, hv⟩ := numT_er (s.data.toList.takeWhile digitB)
    have HV := Lib.hid hv
    have HM := Lib.hid hm
    clear hv hm hx hne hd hcons hG
    generalize cnt digitB s.data.toList = m at *
    generalize (if valOf (s.data.toList.takeWhile digitB) < 9223372036854775808 then 0 else 10) = er at *
    go_enter Tryd.func25, Tryd.ntmps25
    go_wp2_with fail
    with_reducible refine (HB.out).mono ?_
    rintro e w' ⟨rfl, rfl⟩
    rw [HT.out]
    go_wp2_with fail
    with_reducible refine (HC.out).mono ?_
    rintro e w' ⟨rfl, rfl⟩
    go_wp2_with fail
    with_reducible refine (HN.out).mono ?_
    rintro e w' ⟨rfl, hb⟩
    rw [HV.out]
    go_wp2
    go_ret3
    exact ⟨by rw [HM.out]; rfl, hb⟩
  have hd' : digitB (s[0]'h0) = false := by simpa using hd
  by_cases hl : letterB (s[0]'h0) = true
  · have HT := Lib.hid (begT_letter hl)
    have hm := measT_letter (r := s.data.toList.drop 1) hd' hl
    rw [← hcons] at hm
    have HC := Lib.hid (count_name s w hs)
    have HM := Lib.hid hm
    clear hm hd hd' hl hcons hG
    generalize cnt nameB s.data.toList = m at *
    go_enter Tryd.func25, Tryd.ntmps25
    go_wp2_with fail
    with_reducible refine (HB.out).mono ?_
    rintro e w' ⟨rfl, rfl⟩
    rw [HT.out]
    go_wp2_with fail
    with_reducible refine (HC.out).mono ?_
    rintro e w' ⟨rfl, rfl⟩
    go_wp2
    go_ret3
    exact ⟨by rw [HM.out]; rfl, Below.refl _ _⟩
  have hl' : letterB (s[0]'h0) = false := by simpa using hl
  by_cases hq : quoteB (s[0]'h0) = true
  · have HT := Lib.hid (begT_quote hq)
    have hm := measT_quote (r := s.data.toList.drop 1) hq
    rw [← hcons] at hm
    have HC := Lib.hid (label_any s w hs h0)
    have HL := Lib.hid (labT_er (s.data.toList.drop 1))
    have HM := Lib.hid hm
    clear hm hd hd' hl hl' hq hcons hG
    generalize s.data.toList.drop 1 = r at *
    generalize (if labN r = 0 then 20 else 0) = er at *
    go_enter Tryd.func25, Tryd.ntmps25
    go_wp2_with fail
    with_reducible refine (HB.out).mono ?_
    rintro e w' ⟨rfl, rfl⟩
    rw [HT.out]
    go_wp2_with fail
    with_reducible refine (HC.out).mono ?_
    rintro e w' ⟨rfl, rfl⟩
    rw [HL.out]
    go_wp2
    go_ret3
    exact ⟨by rw [HM.out]; rfl, Below.refl _ _⟩
  · have HT := Lib.hid (begT_sign hd' hl' (by simpa using hq))
    have hm := measT_sign (r := s.data.toList.drop 1) hd' hl' (by simpa using hq)
    rw [← hcons] at hm
    have HC := Lib.hid (sign_any s w hs h0)
    have HL := Lib.hid (sigT_er s.data.toList)
    have HM := Lib.hid hm
    clear hm hd hd' hl hl' hq hcons hG
    generalize (if signN s.data.toList = 0 then 20 else 0) = er at *
    go_enter Tryd.func25, Tryd.ntmps25
    go_wp2_with fail
    with_reducible refine (HB.out).mono ?_
    rintro e w' ⟨rfl, rfl⟩
    rw [HT.out]
    go_wp2_with fail
    with_reducible refine (HC.out).mono ?_
    rintro e w' ⟨rfl, rfl⟩
    rw [HL.out]
    go_wp2
    go_ret3
    exact ⟨by rw [HM.out]; rfl, Below.refl _ _⟩

/-- A string out of its bytes. -/
def strV (l : List UInt8) : Value := .string ⟨l.toArray⟩
theorem strV_eq {s : ByteArray} {l : List UInt8} (h : s.data.toList = l) : Value.string s = strV l := by
  unfold strV; rw [← h]
theorem bare_any (k : Nat) (s : ByteArray) (w : World) (hs : s.size ≤ 65536) (h3 : k = 3 → 2 ≤ s.size) : Calls Tryd.prog 26 #[.int .i64 k, .string s] w fun e w' => e = .returned (strV (bareL k s.data.toList)) ∧ w = w' := by
  by_cases hk : k = 3
  · have h2 := h3 hk
    subst hk
    have HB := Lib.hid (show Value.string (s.extract 1 (s.size - 1)) = strV (bareL 3 s.data.toList) from strV_eq (by
      rw [ext_list]
      unfold bareL
      rw [if_pos rfl, size_list]
      congr 1))
    have g : ((s.size : Int) - 1).toNat = s.size - 1 := by omega
    clear h3
    go_enter Tryd.func26, Tryd.ntmps26
    go_wp2
    go_ret
    exact ⟨by rw [← HB.out]; rfl, rfl⟩
  · have HB := Lib.hid (show Value.string s = strV (bareL k s.data.toList) from strV_eq (by unfold bareL; rw [if_neg hk]))
    have g : ((k : Int) == 3) = false := by simp; omega
    clear h3 hk
    go_enter Tryd.func26, Tryd.ntmps26
    go_wp2
    go_ret
    exact ⟨by rw [← HB.out]; rfl, rfl⟩
end Go.Proofs.YtfemddchaihokaaDoor
