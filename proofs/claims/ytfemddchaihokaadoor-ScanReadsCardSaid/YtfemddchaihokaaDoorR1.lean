/-
  The document's own letters, figures and values.
-/
import Derived.Test.YtfemddchaihokaaDoorN0
namespace Go.Proofs.YtfemddchaihokaaDoor
open Go.RowKit

def letP (c : UInt8) (w : World) (e : Ending) (w' : World) : Prop := e = .returned (.bool (letterB c)) ∧ w = w'
theorem letter_any (c : UInt8) (w : World) : Calls Tryd.prog 27 #[.int .u8 c.toNat] w (letP c w) := by
  obtain ⟨n, hn⟩ : ∃ n : Int, n = c.toNat := ⟨_, rfl⟩
  have hT : (n = 95 ∨ 65 ≤ n ∧ n ≤ 90 ∨ 97 ≤ n ∧ n ≤ 122) → letterB c = true := fun h => by
    simp only [letterB, Bool.or_eq_true, Bool.and_eq_true, decide_eq_true_eq, beq_iff_eq]; omega
  have hF : ¬ (n = 95 ∨ 65 ≤ n ∧ n ≤ 90 ∨ 97 ≤ n ∧ n ≤ 122) → letterB c = false := fun h => by
    simp only [letterB, Bool.or_eq_false_iff, Bool.and_eq_false_iff, decide_eq_false_iff_not, beq_eq_false_iff_ne]; omega
  rw [← hn]
  clear hn
  by_cases h1 : n = 95
  · have HN := Lib.hid (hT (.inl h1))
    subst h1
    clear hT hF
    go_enter Tryd.func27, Tryd.ntmps27
    go_wp2
    go_ret
    exact ⟨by rw [HN.out]; rfl, rfl⟩
  have g1 : (n == 95) = false := by rw [beq_eq_false_iff_ne]; exact h1
  by_cases h2 : 65 ≤ n
  · by_cases h3 : n ≤ 90
    · have HN := Lib.hid (hT (by omega))
      clear hT hF h1
      go_enter Tryd.func27, Tryd.ntmps27
      go_wp2
      go_ret
      exact ⟨by rw [HN.out]; rfl, rfl⟩
    · have g3 : decide (n ≤ 90) = false := by simp; omega
      by_cases h4 : 97 ≤ n
      · by_cases h5 : n ≤ 122
        · have HN := Lib.hid (hT (by omega))
          clear hT hF h1 h3
          go_enter Tryd.func27, Tryd.ntmps27
          go_wp2
          go_ret
          exact ⟨by rw [HN.out]; rfl, rfl⟩
        · have g5 : decide (n ≤ 122) = false := by simp; omega
          have HN := Lib.hid (hF (by omega))
          clear hT hF h1 h3 h5
          go_enter Tryd.func27, Tryd.ntmps27
          go_wp2
          go_ret
          exact ⟨by rw [HN.out]; rfl, rfl⟩
      · have g4 : decide (97 ≤ n) = false := by simp; omega
        have HN := Lib.hid (hF (by omega))
        clear hT hF h1 h3 h4
        go_enter Tryd.func27, Tryd.ntmps27
        go_wp2
        go_ret
        exact ⟨by rw [HN.out]; rfl, rfl⟩
  · have g2 : decide (65 ≤ n) = false := by simp; omega
    have g4 : decide (97 ≤ n) = false := by simp; omega
    have HN := Lib.hid (hF (by omega))
    clear hT hF h1 h2
    go_enter Tryd.func27, Tryd.ntmps27
    go_wp2
    go_ret
    exact ⟨by rw [HN.out]; rfl, rfl⟩

def figP (c : UInt8) (w : World) (e : Ending) (w' : World) : Prop := e = .returned (.bool (digitB c)) ∧ w = w'
theorem figure_any (c : UInt8) (w : World) : Calls Tryd.prog 28 #[.int .u8 c.toNat] w (figP c w) := by
  obtain ⟨n, hn⟩ : ∃ n : Int, n = c.toNat := ⟨_, rfl⟩
  have hT : (48 ≤ n ∧ n ≤ 57) → digitB c = true := fun h => by
    simp only [digitB, Bool.and_eq_true, decide_eq_true_eq]; omega
  have hF : ¬ (48 ≤ n ∧ n ≤ 57) → digitB c = false := fun h => by
    simp only [digitB, Bool.and_eq_false_iff, decide_eq_false_iff_not]; omega
  rw [← hn]
  clear hn
  by_cases h2 : 48 ≤ n
  · by_cases h3 : n ≤ 57
    · have HN := Lib.hid (hT (by omega))
      clear hT hF
      go_enter Tryd.func28, Tryd.ntmps28
      go_wp2
      go_ret
      exact ⟨by rw [HN.out]; rfl, rfl⟩
    · have g3 : decide (n ≤ 57) = false := by simp; omega
      have HN := Lib.hid (hF (by omega))
      clear hT hF h3
      go_enter Tryd.func28, Tryd.ntmps28
      go_wp2
      go_ret
      exact ⟨by rw [HN.out]; rfl, rfl⟩
  · have g2 : decide (48 ≤ n) = false := by simp; omega
    have HN := Lib.hid (hF (by omega))
    clear hT hF h2
    go_enter Tryd.func28, Tryd.ntmps28
    go_wp2
    go_ret
    exact ⟨by rw [HN.out]; rfl, rfl⟩

def valT (l : List UInt8) : Value := if valOf l < 9223372036854775808 then .tuple #[.int .i64 (valOf l), .bool true] else .tuple #[.int .i64 0, .bool false]
def valP (l : List UInt8) (w : World) (e : Ending) (w' : World) : Prop := e = .returned (valT l) ∧ w = w'
def ValRel (l : List UInt8) (n i : Value) : Prop := ∃ (a : Int) (k : Nat), n = .int .u64 a ∧ i = .int .i64 (k : Int) ∧ k ≤ l.length ∧ 0 ≤ a ∧ a < 11529215046068469770 ∧ a = foldV 0 (l.take k)
theorem take_more (l : List UInt8) (k : Nat) (h : k < l.length) : l.take (k + 1) = l.take k ++ [l[k]] := by
  rw [List.take_succ_eq_append_getElem h]
theorem fold_split (l : List UInt8) (k : Nat) : foldV 0 l = foldV (foldV 0 (l.take k)) (l.drop k) := by
  conv => lhs; rw [← List.take_append_drop k l]
  unfold foldV
  rw [List.foldl_append]
set_option maxHeartbeats 1000000 in
theorem value_any (s : ByteArray) (w : World) (hs : s.size ≤ 65536) (hd : ∀ c ∈ s.data.toList, digitB c = true) : Calls Tryd.prog 22 #[.string s] w (valP s.data.toList w) := by
  have HZ := Lib.hid (size_list s)
  have HD := Lib.hid hd
  clear hd
  go_enter Tryd.func22, Tryd.ntmps22
  go_wp2
  go_loop [4, 5] (fun n i => ValRel s.data.toList n i) (fun _ i => s.size - (intOf i).toNat)
  case atStart => exact ⟨0, 0, rfl, rfl, Nat.zero_le _, by omega, by omega, rfl⟩
  case round =>
    obtain ⟨a, k, rfl, rfl, hk, ha0, ha1, hav⟩ := hrel
    rw [HZ.out] at hk
    by_cases hlt : k < s.size
    · have hl : k < s.data.toList.length := by rw [HZ.out]; exact hlt
      have hdg := HD.out _ (List.getElem_mem hl)
      have hb : s[k]'hlt = s.data.toList[k] := rfl
      have hsp := fold_split s.data.toList k
      rw [drop_cons _ k hl, foldV_cons] at hsp
      have hge := foldV_le (s.data.toList.drop (k + 1)) (foldV 0 (s.data.toList.take k) * 10 + (s.data.toList[k].toNat - 48))
      have hnx : foldV 0 (s.data.toList.take (k + 1)) = foldV 0 (s.data.toList.take k) * 10 + (s.data.toList[k].toNat - 48) := by rw [take_more _ k hl, foldV_snoc]
      rw [← hsp] at hge
      simp only [digitB, Bool.and_eq_true, decide_eq_true_eq] at hdg
      rw [← hb] at hdg hge hnx
      by_cases hbig : 1152921504606846976 ≤ a
      · have HT := Lib.hid (show valT s.data.toList = .tuple #[.int .i64 0, .bool false] by
          unfold valT; rw [if_neg]; rw [valOf_fold]; omega)
        clear hav hsp hge hnx hdg hl hb
        go_wp2
        go_ret2
        exact ⟨by rw [HT.out]; rfl, rfl⟩
      · have HNX := Lib.hid (show a * 10 + ((s[k]'hlt).toNat - 48 : Int) = foldV 0 (s.data.toList.take (k + 1)) by rw [hnx, hav]; omega)
        have hd1 := hdg.1
        have hd2 := hdg.2
        have g : decide (1152921504606846976 ≤ a) = false := by simp; omega
        clear hav hsp hge hnx hdg hl hb
        have hd3 : (48 : Int) ≤ (s[k]'hlt).toNat := by omega
        have hd4 : ((s[k]'hlt).toNat : Int) ≤ 57 := by omega
        have hb1 : a * 10 + ((s[k]'hlt).toNat - 48 : Int) < 11529215046068469770 := by omega
        have hb0 : 0 ≤ a * 10 + ((s[k]'hlt).toNat - 48 : Int) := by omega
        have HB1 := Lib.hid hb1
        have HB0 := Lib.hid hb0
        clear hb1 hb0 hd1 hd2
        go_wp2
        go_round
        case rel => exact ⟨_, k + 1, rfl, by go_num, by rw [HZ.out]; omega, HB0.out, HB1.out, HNX.out⟩
        case measure => simp [intOf]; omega
    · have hke : s.data.toList.take k = s.data.toList := List.take_of_length_le (by rw [HZ.out]; omega)
      rw [hke, ← valOf_fold] at hav
      have g : decide (k < s.size) = false := by simpa using hlt
      by_cases hbig : 9223372036854775808 ≤ a
      · have HT := Lib.hid (show valT s.data.toList = .tuple #[.int .i64 0, .bool false] by
          unfold valT; rw [if_neg (by omega)])
        clear hav hke
        go_wp2
        go_ret2
        exact ⟨by rw [HT.out]; rfl, rfl⟩
      · have HT := Lib.hid (show valT s.data.toList = .tuple #[.int .i64 a, .bool true] by
          unfold valT; rw [if_pos (by omega), hav])
        have g2 : decide (9223372036854775808 ≤ a) = false := by simp; omega
        clear hav hke
        go_wp2
        go_ret2
        exact ⟨by rw [HT.out]; rfl, rfl⟩
end Go.Proofs.YtfemddchaihokaaDoor
