/-
  What a byte is: blank, in a comment, in a name, in a number, in a label, and what it begins. How many bytes go on at a text's beginning; what blanks and comments are skipped. HasPrefix of two slashes; what blanks and comments are skipped.
-/
import Derived.Test.YtmgjpjjglghbaaaGreatDoorA0
import Derived.Test.YtmgjpjjglghbaaaGreatDoorMM
import Derived.IntWalk
namespace Go.Proofs.YtmgjpjjglghbaaaGreatDoor
section
open Go.RowKit

theorem blank_any (c : UInt8) (w : World) : Calls Tryz.prog 154 #[.int .u8 c.toNat] w fun e w' => e = .returned (.bool (blankB c)) ∧ w = w' := by
  have hc := c.toNat_lt
  by_cases h1 : c.toNat = 32
  · have e : blankB c = true := by simp [blankB, h1]
    rw [e, h1]
    go_enter Tryz.func154, Tryz.ntmps154
    go_wp2
    go_ret
    exact ⟨rfl, rfl⟩
  by_cases h2 : c.toNat = 9
  · have e : blankB c = true := by simp [blankB, h2]
    rw [e, h2]
    go_enter Tryz.func154, Tryz.ntmps154
    go_wp2
    go_ret
    exact ⟨rfl, rfl⟩
  by_cases h3 : c.toNat = 10
  · have e : blankB c = true := by simp [blankB, h3]
    rw [e, h3]
    go_enter Tryz.func154, Tryz.ntmps154
    go_wp2
    go_ret
    exact ⟨rfl, rfl⟩
  by_cases h4 : c.toNat = 13
  · have e : blankB c = true := by simp [blankB, h4]
    rw [e, h4]
    go_enter Tryz.func154, Tryz.ntmps154
    go_wp2
    go_ret
    exact ⟨rfl, rfl⟩
  have e : blankB c = false := by simp [blankB, h1, h2, h3, h4]
  rw [e]
  generalize c.toNat = n at *
  have g1 : ((n : Int) == 32) = false := by simp; omega
  have g2 : ((n : Int) == 9) = false := by simp; omega
  have g3 : ((n : Int) == 10) = false := by simp; omega
  have g4 : ((n : Int) == 13) = false := by simp; omega
  clear e
  go_enter Tryz.func154, Tryz.ntmps154
  go_wp2
  go_ret
  exact ⟨rfl, rfl⟩

theorem comm_any (c : UInt8) (w : World) : Calls Tryz.prog 157 #[.int .u8 c.toNat] w fun e w' => e = .returned (.bool (commB c)) ∧ w = w' := by
  by_cases h : c.toNat = 10
  · have e : commB c = false := by simp [commB, h]
    rw [e, h]
    go_enter Tryz.func157, Tryz.ntmps157
    go_wp2
    go_ret
    exact ⟨rfl, rfl⟩
  · have e : commB c = true := by simp [commB, h]
    rw [e]
    generalize c.toNat = n at *
    have g : ((n : Int) != 10) = true := by simp; omega
    clear e
    go_enter Tryz.func157, Tryz.ntmps157
    go_wp2
    go_ret
    exact ⟨rfl, rfl⟩

/-- What a byte begins, and whether it goes on in a name. -/
def begT (n : Int) : Value :=
  if 48 ≤ n ∧ n ≤ 57 then .tuple #[.int .i64 2, .bool true]
  else if (97 ≤ n ∧ n ≤ 122) ∨ (65 ≤ n ∧ n ≤ 90) ∨ n = 95 then .tuple #[.int .i64 1, .bool true]
  else if n = 34 then .tuple #[.int .i64 3, .bool false] else .tuple #[.int .i64 4, .bool false]
def begP (n : Int) (w : World) (e : Ending) (w' : World) : Prop := e = .returned (begT n) ∧ w = w'
theorem begins_any (n : Int) (w : World) : Calls Tryz.prog 158 #[.int .u8 n] w (begP n w) := by
  by_cases h1 : 48 ≤ n
  · by_cases h2 : n ≤ 57
    · go_enter Tryz.func158, Tryz.ntmps158
      go_wp2
      go_ret2
      refine ⟨?_, rfl⟩
      unfold begT
      rw [if_pos (by omega)]
      rfl
    · by_cases h3 : 97 ≤ n
      · by_cases h4 : n ≤ 122
        · have g0 : decide (n ≤ 57) = false := by simp; omega
          go_enter Tryz.func158, Tryz.ntmps158
          go_wp2
          go_ret2
          refine ⟨?_, rfl⟩
          unfold begT
          rw [if_neg (by omega), if_pos (by omega)]
          rfl
        · have g0 : decide (n ≤ 57) = false := by simp; omega
          have g1 : decide (n ≤ 122) = false := by simp; omega
          have g2 : decide (n ≤ 90) = false := by simp; omega
          have g3 : (n == 95) = false := by simp; omega
          have g4 : (n == 34) = false := by simp; omega
          have k1 : 65 ≤ n := by omega
          go_enter Tryz.func158, Tryz.ntmps158
          go_wp2
          go_ret2
          refine ⟨?_, rfl⟩
          unfold begT
          rw [if_neg (by omega), if_neg (by omega), if_neg (by omega)]
          rfl
      · by_cases h5 : 65 ≤ n
        · by_cases h6 : n ≤ 90
          · have g0 : decide (n ≤ 57) = false := by simp; omega
            have g1 : decide (97 ≤ n) = false := by simp; omega
            go_enter Tryz.func158, Tryz.ntmps158
            go_wp2
            go_ret2
            refine ⟨?_, rfl⟩
            unfold begT
            rw [if_neg (by omega), if_pos (by omega)]
            rfl
          · by_cases h7 : n = 95
            · subst h7
              go_enter Tryz.func158, Tryz.ntmps158
              go_wp2
              go_ret2
              refine ⟨?_, rfl⟩
              unfold begT
              rw [if_neg (by omega), if_pos (by omega)]
              rfl
            · have g0 : decide (n ≤ 57) = false := by simp; omega
              have g1 : decide (97 ≤ n) = false := by simp; omega
              have g2 : decide (n ≤ 90) = false := by simp; omega
              have g3 : (n == 95) = false := by simp; omega
              have g4 : (n == 34) = false := by simp; omega
              go_enter Tryz.func158, Tryz.ntmps158
              go_wp2
              go_ret2
              refine ⟨?_, rfl⟩
              unfold begT
              rw [if_neg (by omega), if_neg (by omega), if_neg (by omega)]
              rfl
        · have g0 : decide (n ≤ 57) = false := by simp; omega
          have g1 : decide (97 ≤ n) = false := by simp; omega
          have g2 : decide (65 ≤ n) = false := by simp; omega
          have g3 : (n == 95) = false := by simp; omega
          have g4 : (n == 34) = false := by simp; omega
          go_enter Tryz.func158, Tryz.ntmps158
          go_wp2
          go_ret2
          refine ⟨?_, rfl⟩
          unfold begT
          rw [if_neg (by omega), if_neg (by omega), if_neg (by omega)]
          rfl
  · by_cases h8 : n = 34
    · subst h8
      go_enter Tryz.func158, Tryz.ntmps158
      go_wp2
      go_ret2
      refine ⟨?_, rfl⟩
      unfold begT
      rw [if_neg (by omega), if_neg (by omega), if_pos (by omega)]
      rfl
    · have g0 : decide (48 ≤ n) = false := by simp; omega
      have g1 : decide (97 ≤ n) = false := by simp; omega
      have g2 : decide (65 ≤ n) = false := by simp; omega
      have g3 : (n == 95) = false := by simp; omega
      have g4 : (n == 34) = false := by simp; omega
      go_enter Tryz.func158, Tryz.ntmps158
      go_wp2
      go_ret2
      refine ⟨?_, rfl⟩
      unfold begT
      rw [if_neg (by omega), if_neg (by omega), if_neg (by omega)]
      rfl

theorem begT_digit {c : UInt8} (h : digitB c = true) : begT c.toNat = .tuple #[.int .i64 2, .bool true] := by
  simp only [digitB, Bool.and_eq_true, decide_eq_true_eq] at h
  unfold begT; rw [if_pos (by omega)]
theorem begT_letter {c : UInt8} (h : letterB c = true) : begT c.toNat = .tuple #[.int .i64 1, .bool true] := by
  simp only [letterB, Bool.or_eq_true, Bool.and_eq_true, decide_eq_true_eq, beq_iff_eq] at h
  unfold begT; rw [if_neg (by omega), if_pos (by omega)]
theorem begT_quote {c : UInt8} (h : quoteB c = true) : begT c.toNat = .tuple #[.int .i64 3, .bool false] := by
  simp only [quoteB, beq_iff_eq] at h
  unfold begT; rw [if_neg (by omega), if_neg (by omega), if_pos (by omega)]
theorem begT_sign {c : UInt8} (hd : digitB c = false) (hl : letterB c = false) (h : quoteB c = false) : begT c.toNat = .tuple #[.int .i64 4, .bool false] := by
  simp only [digitB, Bool.and_eq_false_iff, decide_eq_false_iff_not] at hd
  simp only [letterB, Bool.or_eq_false_iff, Bool.and_eq_false_iff, decide_eq_false_iff_not, beq_eq_false_iff_ne] at hl
  simp only [quoteB, beq_eq_false_iff_ne] at h
  unfold begT; rw [if_neg (by omega), if_neg (by omega), if_neg (by omega)]
theorem quote_digit {c : UInt8} (h : quoteB c = true) : digitB c = false ∧ letterB c = false := by
  simp only [quoteB, beq_iff_eq] at h
  simp [digitB, letterB, h]

def nameP (c : UInt8) (w : World) (e : Ending) (w' : World) : Prop := e = .returned (.bool (nameB c)) ∧ w = w'
theorem name_any (c : UInt8) (w : World) : Calls Tryz.prog 159 #[.int .u8 c.toNat] w (nameP c w) := by
  have H := Lib.hid (begins_any c.toNat w)
  by_cases hd : digitB c = true
  · have HT := Lib.hid (begT_digit hd)
    have HN := Lib.hid (show nameB c = true by simp [nameB, hd])
    clear hd
    generalize (c.toNat : Int) = n at *
    go_enter Tryz.func159, Tryz.ntmps159
    go_wp2_with fail
    with_reducible refine (H.out).mono ?_
    rintro e w' ⟨rfl, rfl⟩
    rw [HT.out]
    go_wp2
    go_ret
    exact ⟨by rw [HN.out]; rfl, rfl⟩
  · have hd' : digitB c = false := by simpa using hd
    by_cases hl : letterB c = true
    · have HT := Lib.hid (begT_letter hl)
      have HN := Lib.hid (show nameB c = true by simp [nameB, hl])
      clear hd hd' hl
      generalize (c.toNat : Int) = n at *
      go_enter Tryz.func159, Tryz.ntmps159
      go_wp2_with fail
      with_reducible refine (H.out).mono ?_
      rintro e w' ⟨rfl, rfl⟩
      rw [HT.out]
      go_wp2
      go_ret
      exact ⟨by rw [HN.out]; rfl, rfl⟩
    · have hl' : letterB c = false := by simpa using hl
      have HN := Lib.hid (show nameB c = false by simp [nameB, hl', hd'])
      have hk : ∃ k : Int, begT c.toNat = .tuple #[.int .i64 k, .bool false] := by
        by_cases hq : quoteB c = true
        · exact ⟨3, begT_quote hq⟩
        · exact ⟨4, begT_sign hd' hl' (by simpa using hq)⟩
      obtain ⟨k, hk⟩ := hk
      have HT := Lib.hid hk
      clear hd hd' hl hl' hk
      generalize (c.toNat : Int) = n at *
      go_enter Tryz.func159, Tryz.ntmps159
      go_wp2_with fail
      with_reducible refine (H.out).mono ?_
      rintro e w' ⟨rfl, rfl⟩
      rw [HT.out]
      go_wp2
      go_ret
      exact ⟨by rw [HN.out]; rfl, rfl⟩
def numbP (c : UInt8) (w : World) (e : Ending) (w' : World) : Prop := e = .returned (.bool (digitB c)) ∧ w = w'
theorem numb_any (c : UInt8) (w : World) : Calls Tryz.prog 160 #[.int .u8 c.toNat] w (numbP c w) := by
  have H := Lib.hid (begins_any c.toNat w)
  by_cases hd : digitB c = true
  · have HT := Lib.hid (begT_digit hd)
    have HN := Lib.hid hd
    clear hd
    generalize (c.toNat : Int) = n at *
    go_enter Tryz.func160, Tryz.ntmps160
    go_wp2_with fail
    with_reducible refine (H.out).mono ?_
    rintro e w' ⟨rfl, rfl⟩
    rw [HT.out]
    go_wp2
    go_ret
    exact ⟨by rw [HN.out]; rfl, rfl⟩
  · have hd' : digitB c = false := by simpa using hd
    have hk : ∃ (k : Int) (b : Bool), begT c.toNat = .tuple #[.int .i64 k, .bool b] ∧ (k == 2) = false := by
      by_cases hl : letterB c = true
      · exact ⟨1, true, begT_letter hl, rfl⟩
      · by_cases hq : quoteB c = true
        · exact ⟨3, false, begT_quote hq, rfl⟩
        · exact ⟨4, false, begT_sign hd' (by simpa using hl) (by simpa using hq), rfl⟩
    obtain ⟨k, b, hk, hk2⟩ := hk
    have HT := Lib.hid hk
    have HN := Lib.hid hd'
    clear hd hd' hk
    generalize (c.toNat : Int) = n at *
    go_enter Tryz.func160, Tryz.ntmps160
    go_wp2_with fail
    with_reducible refine (H.out).mono ?_
    rintro e w' ⟨rfl, rfl⟩
    rw [HT.out]
    go_wp2
    go_ret
    exact ⟨by rw [HN.out]; rfl, rfl⟩
def labP (c : UInt8) (w : World) (e : Ending) (w' : World) : Prop := e = .returned (.bool (labelB c)) ∧ w = w'
theorem lab_any (c : UInt8) (w : World) : Calls Tryz.prog 177 #[.int .u8 c.toNat] w (labP c w) := by
  obtain ⟨n, hn⟩ : ∃ n : Int, n = c.toNat := ⟨_, rfl⟩
  by_cases h1 : 32 ≤ n
  · by_cases h2 : n ≤ 126
    · by_cases h3 : n = 34
      · have HN := Lib.hid (show labelB c = false by simp [labelB]; omega)
        rw [← hn, h3]
        clear h1 h2 hn h3
        go_enter Tryz.func177, Tryz.ntmps177
        go_wp2
        go_ret
        exact ⟨by rw [HN.out]; rfl, rfl⟩
      · have HN := Lib.hid (show labelB c = true by simp [labelB]; omega)
        have g : (n != 34) = true := by simp; omega
        rw [← hn]
        clear hn h3
        go_enter Tryz.func177, Tryz.ntmps177
        go_wp2
        go_ret
        exact ⟨by rw [HN.out]; rfl, rfl⟩
    · have HN := Lib.hid (show labelB c = false by simp [labelB]; omega)
      have g : decide (n ≤ 126) = false := by simp; omega
      rw [← hn]
      clear hn
      go_enter Tryz.func177, Tryz.ntmps177
      go_wp2
      go_ret
      exact ⟨by rw [HN.out]; rfl, rfl⟩
  · have HN := Lib.hid (show labelB c = false by simp [labelB]; omega)
    have g : decide (32 ≤ n) = false := by simp; omega
    rw [← hn]
    clear hn
    go_enter Tryz.func177, Tryz.ntmps177
    go_wp2
    go_ret
    exact ⟨by rw [HN.out]; rfl, rfl⟩
end
section
open Go.RowKit

/-- A call that asks a byte. -/
def Asks (f : FuncId) (p : UInt8 → Bool) : Prop := ∀ (c : UInt8) (w : World), Calls Tryz.prog f #[.int .u8 c.toNat] w fun e w' => e = .returned (.bool (p c)) ∧ w = w'
theorem asks_comm : Asks 157 commB := comm_any
theorem asks_name : Asks 159 nameB := name_any
theorem asks_numb : Asks 160 digitB := numb_any
theorem asks_lab : Asks 177 labelB := lab_any

theorem cnt_at {p : UInt8 → Bool} {l : List UInt8} {k : Nat} (hk : k < l.length) (hb : k ≤ cnt p l) (h : p l[k] = true) : k + 1 ≤ cnt p l := by
  induction l generalizing k with
  | nil => simp at hk
  | cons c r ih =>
    cases k with
    | zero =>
      rw [cnt_cons_pos r (by simpa using h)]; omega
    | succ k =>
      by_cases hc : p c = true
      · rw [cnt_cons_pos r hc] at hb ⊢
        have := ih (k := k) (by simpa using hk) (by omega) (by simpa using h)
        omega
      · rw [cnt_cons_neg r (by simpa using hc)] at hb; omega
theorem cnt_stop {p : UInt8 → Bool} {l : List UInt8} {k : Nat} (hk : k < l.length) (hb : k ≤ cnt p l) (h : p l[k] = false) : k = cnt p l := by
  induction l generalizing k with
  | nil => simp at hk
  | cons c r ih =>
    cases k with
    | zero =>
      rw [cnt_cons_neg r (by simpa using h)]
    | succ k =>
      by_cases hc : p c = true
      · rw [cnt_cons_pos r hc] at hb ⊢
        have := ih (k := k) (by simpa using hk) (by omega) (by simpa using h)
        omega
      · rw [cnt_cons_neg r (by simpa using hc)] at hb; omega
theorem cnt_lt {p : UInt8 → Bool} {l : List UInt8} (hk : cnt p l < l.length) : p l[cnt p l] = false := by
  cases h : p l[cnt p l] with
  | false => rfl
  | true => have := cnt_at hk (Nat.le_refl _) h; omega
theorem cnt_yes {p : UInt8 → Bool} {l : List UInt8} {k : Nat} (hk : k < cnt p l) (hl : k < l.length) : p l[k] = true := by
  cases h : p l[k] with
  | true => rfl
  | false => have := cnt_stop hl (by omega) h; omega

set_option maxHeartbeats 1000000 in
theorem count_comm (s : ByteArray) (w : World) (hs : s.size ≤ 65536) :
    Calls Tryz.prog 156 #[.string s, .func (.func 157) #[] #[]] w fun e w' => e = .returned (.int .i64 (cnt commB s.data.toList)) ∧ w = w' := by
  have hle := cnt_le commB s.data.toList
  have hsz : s.data.toList.length = s.size := by simp
  rw [hsz] at hle
  have HZ := Lib.hid hsz
  clear hsz
  have HF := Lib.hid asks_comm
  go_enter Tryz.func156, Tryz.ntmps156
  go_wp2
  go_loop [5] (fun i => ∃ k : Nat, k ≤ cnt commB s.data.toList ∧ i = .int .i64 k) (fun i => s.size - (intOf i).toNat)
  case atStart => exact ⟨0, Nat.zero_le _, rfl⟩
  case round =>
    obtain ⟨k, hk, rfl⟩ := hrel
    by_cases hlt : k < s.size
    · have hl : k < s.data.toList.length := by rw [HZ.out]; exact hlt
      have H := Lib.hid (HF.out (s[k]'hlt) w)
      cases hp : commB (s[k]'hlt) with
      | true =>
        have hn : k + 1 ≤ cnt commB s.data.toList := cnt_at hl hk hp
        rw [hp] at H
        clear hp hl
        go_wp2_with ((with_reducible refine (H.out).mono ?_); rintro e w' ⟨rfl, rfl⟩)
        go_round
        case rel => exact ⟨k + 1, hn, by go_num⟩
        case measure => simp [intOf]; omega
      | false =>
        have hn : k = cnt commB s.data.toList := cnt_stop hl hk hp
        rw [hp] at H
        clear hp hl
        have HN := Lib.hid hn
        clear hn
        go_wp2_with ((with_reducible refine (H.out).mono ?_); rintro e w' ⟨rfl, rfl⟩)
        go_ret
        exact ⟨ret_int (by rw [← HN.out]), rfl⟩
    · have HN := Lib.hid (show k = cnt commB s.data.toList by omega)
      have g : decide (k < s.size) = false := by simpa using hlt
      go_wp2
      go_ret
      exact ⟨ret_int (by rw [← HN.out]), rfl⟩
set_option maxHeartbeats 1000000 in
theorem count_name (s : ByteArray) (w : World) (hs : s.size ≤ 65536) :
    Calls Tryz.prog 156 #[.string s, .func (.func 159) #[] #[]] w fun e w' => e = .returned (.int .i64 (cnt nameB s.data.toList)) ∧ w = w' := by
  have hle := cnt_le nameB s.data.toList
  have hsz : s.data.toList.length = s.size := by simp
  rw [hsz] at hle
  have HZ := Lib.hid hsz
  clear hsz
  have HF := Lib.hid asks_name
  go_enter Tryz.func156, Tryz.ntmps156
  go_wp2
  go_loop [5] (fun i => ∃ k : Nat, k ≤ cnt nameB s.data.toList ∧ i = .int .i64 k) (fun i => s.size - (intOf i).toNat)
  case atStart => exact ⟨0, Nat.zero_le _, rfl⟩
  case round =>
    obtain ⟨k, hk, rfl⟩ := hrel
    by_cases hlt : k < s.size
    · have hl : k < s.data.toList.length := by rw [HZ.out]; exact hlt
      have H := Lib.hid (HF.out (s[k]'hlt) w)
      cases hp : nameB (s[k]'hlt) with
      | true =>
        have hn : k + 1 ≤ cnt nameB s.data.toList := cnt_at hl hk hp
        rw [hp] at H
        clear hp hl
        go_wp2_with ((with_reducible refine (H.out).mono ?_); rintro e w' ⟨rfl, rfl⟩)
        go_round
        case rel => exact ⟨k + 1, hn, by go_num⟩
        case measure => simp [intOf]; omega
      | false =>
        have hn : k = cnt nameB s.data.toList := cnt_stop hl hk hp
        rw [hp] at H
        clear hp hl
        have HN := Lib.hid hn
        clear hn
        go_wp2_with ((with_reducible refine (H.out).mono ?_); rintro e w' ⟨rfl, rfl⟩)
        go_ret
        exact ⟨ret_int (by rw [← HN.out]), rfl⟩
    · have HN := Lib.hid (show k = cnt nameB s.data.toList by omega)
      have g : decide (k < s.size) = false := by simpa using hlt
      go_wp2
      go_ret
      exact ⟨ret_int (by rw [← HN.out]), rfl⟩
set_option maxHeartbeats 1000000 in
theorem count_numb (s : ByteArray) (w : World) (hs : s.size ≤ 65536) :
    Calls Tryz.prog 156 #[.string s, .func (.func 160) #[] #[]] w fun e w' => e = .returned (.int .i64 (cnt digitB s.data.toList)) ∧ w = w' := by
  have hle := cnt_le digitB s.data.toList
  have hsz : s.data.toList.length = s.size := by simp
  rw [hsz] at hle
  have HZ := Lib.hid hsz
  clear hsz
  have HF := Lib.hid asks_numb
  go_enter Tryz.func156, Tryz.ntmps156
  go_wp2
  go_loop [5] (fun i => ∃ k : Nat, k ≤ cnt digitB s.data.toList ∧ i = .int .i64 k) (fun i => s.size - (intOf i).toNat)
  case atStart => exact ⟨0, Nat.zero_le _, rfl⟩
  case round =>
    obtain ⟨k, hk, rfl⟩ := hrel
    by_cases hlt : k < s.size
    · have hl : k < s.data.toList.length := by rw [HZ.out]; exact hlt
      have H := Lib.hid (HF.out (s[k]'hlt) w)
      cases hp : digitB (s[k]'hlt) with
      | true =>
        have hn : k + 1 ≤ cnt digitB s.data.toList := cnt_at hl hk hp
        rw [hp] at H
        clear hp hl
        go_wp2_with ((with_reducible refine (H.out).mono ?_); rintro e w' ⟨rfl, rfl⟩)
        go_round
        case rel => exact ⟨k + 1, hn, by go_num⟩
        case measure => simp [intOf]; omega
      | false =>
        have hn : k = cnt digitB s.data.toList := cnt_stop hl hk hp
        rw [hp] at H
        clear hp hl
        have HN := Lib.hid hn
        clear hn
        go_wp2_with ((with_reducible refine (H.out).mono ?_); rintro e w' ⟨rfl, rfl⟩)
        go_ret
        exact ⟨ret_int (by rw [← HN.out]), rfl⟩
    · have HN := Lib.hid (show k = cnt digitB s.data.toList by omega)
      have g : decide (k < s.size) = false := by simpa using hlt
      go_wp2
      go_ret
      exact ⟨ret_int (by rw [← HN.out]), rfl⟩
set_option maxHeartbeats 1000000 in
theorem count_lab (s : ByteArray) (w : World) (hs : s.size ≤ 65536) :
    Calls Tryz.prog 156 #[.string s, .func (.func 177) #[] #[]] w fun e w' => e = .returned (.int .i64 (cnt labelB s.data.toList)) ∧ w = w' := by
  have hle := cnt_le labelB s.data.toList
  have hsz : s.data.toList.length = s.size := by simp
  rw [hsz] at hle
  have HZ := Lib.hid hsz
  clear hsz
  have HF := Lib.hid asks_lab
  go_enter Tryz.func156, Tryz.ntmps156
  go_wp2
  go_loop [5] (fun i => ∃ k : Nat, k ≤ cnt labelB s.data.toList ∧ i = .int .i64 k) (fun i => s.size - (intOf i).toNat)
  case atStart => exact ⟨0, Nat.zero_le _, rfl⟩
  case round =>
    obtain ⟨k, hk, rfl⟩ := hrel
    by_cases hlt : k < s.size
    · have hl : k < s.data.toList.length := by rw [HZ.out]; exact hlt
      have H := Lib.hid (HF.out (s[k]'hlt) w)
      cases hp : labelB (s[k]'hlt) with
      | true =>
        have hn : k + 1 ≤ cnt labelB s.data.toList := cnt_at hl hk hp
        rw [hp] at H
        clear hp hl
        go_wp2_with ((with_reducible refine (H.out).mono ?_); rintro e w' ⟨rfl, rfl⟩)
        go_round
        case rel => exact ⟨k + 1, hn, by go_num⟩
        case measure => simp [intOf]; omega
      | false =>
        have hn : k = cnt labelB s.data.toList := cnt_stop hl hk hp
        rw [hp] at H
        clear hp hl
        have HN := Lib.hid hn
        clear hn
        go_wp2_with ((with_reducible refine (H.out).mono ?_); rintro e w' ⟨rfl, rfl⟩)
        go_ret
        exact ⟨ret_int (by rw [← HN.out]), rfl⟩
    · have HN := Lib.hid (show k = cnt labelB s.data.toList by omega)
      have g : decide (k < s.size) = false := by simpa using hlt
      go_wp2
      go_ret
      exact ⟨ret_int (by rw [← HN.out]), rfl⟩
end
section
open Go.RowKit

theorem size_list (s : ByteArray) : s.data.toList.length = s.size := by simp
theorem ext_list (s : ByteArray) (a b : Nat) : (s.extract a b).data.toList = (s.data.toList.drop a).take (b - a) := by
  simp [ByteArray.data_extract, List.extract_eq_take_drop]
theorem ext_end (s : ByteArray) (a : Nat) : (s.extract a s.size).data.toList = s.data.toList.drop a := by
  rw [ext_list, List.take_of_length_le (by simp)]
theorem byte_list (s : ByteArray) (k : Nat) (h : k < s.size) : s[k] = s.data.toList[k]'(by simpa using h) := rfl
theorem bytes_eq (s : ByteArray) : s = ⟨s.data.toList.toArray⟩ := by simp

/-- Do two slashes stand at the beginning? -/
def slashB (l : List UInt8) : Bool := l.take 2 == [47, 47]

theorem prefix_any (s : ByteArray) (w : World) : Calls Tryz.prog 155 #[.string s, .string ⟨#[47, 47]⟩] w fun e w' => e = .returned (.bool (slashB s.data.toList)) ∧ w = w' := by
  by_cases h : 2 ≤ s.size
  · have HS := Lib.hid (show ((s.extract 0 2).toList == [47, 47]) = slashB s.data.toList by rw [ByteArray.toList_eq, ext_list]; rfl)
    go_enter Tryz.func155, Tryz.ntmps155
    go_wp2
    go_ret
    exact ⟨by rw [← HS.out]; rfl, rfl⟩
  · have HS := Lib.hid (show slashB s.data.toList = false by
      unfold slashB
      rw [beq_eq_false_iff_ne]
      intro hx
      have := congrArg List.length hx
      simp at this
      omega)
    have g : decide (2 ≤ s.size) = false := by simpa using h
    go_enter Tryz.func155, Tryz.ntmps155
    go_wp2
    go_ret
    exact ⟨by rw [HS.out]; rfl, rfl⟩

theorem slash_yes {l : List UInt8} {i : Nat} (h : slashB (l.drop i) = true) : ∃ h : i + 1 < l.length, l[i].toNat = 47 ∧ l[i + 1].toNat = 47 := by
  unfold slashB at h
  have hx : (l.drop i).take 2 = [47, 47] := by simpa using h
  have hl := congrArg List.length hx
  simp at hl
  have h1 : i + 1 < l.length := by omega
  rw [drop_cons l i (by omega), drop_cons l (i + 1) h1] at hx
  simp only [List.take_succ_cons, List.cons.injEq] at hx
  exact ⟨h1, by rw [hx.1]; rfl, by rw [hx.2.1]; rfl⟩
theorem slash_no {l : List UInt8} {i : Nat} (h : slashB (l.drop i) = false) : ¬ ∃ h : i + 1 < l.length, l[i].toNat = 47 ∧ l[i + 1].toNat = 47 := by
  rintro ⟨h1, h2, h3⟩
  unfold slashB at h
  rw [drop_cons l i (by omega), drop_cons l (i + 1) h1] at h
  have e2 : l[i] = 47 := UInt8.toNat_inj.1 h2
  have e3 : l[i + 1] = 47 := UInt8.toNat_inj.1 h3
  rw [e2, e3] at h
  simp at h

set_option maxHeartbeats 2000000 in
theorem skipb_any (s : ByteArray) (at0 : Nat) (w : World) (hs : s.size ≤ 65536) (hat : at0 ≤ s.size) :
    Calls Tryz.prog 134 #[.string s, .int .i64 at0] w fun e w' => e = .returned (.int .i64 ((at0 + blanks false (s.data.toList.drop at0) : Nat) : Int)) ∧ w = w' := by
  have HZ := Lib.hid (size_list s)
  go_enter Tryz.func134, Tryz.ntmps134
  go_wp2
  go_loop [1] (fun i => ∃ k : Nat, k ≤ s.size ∧ Hid (k + blanks false (s.data.toList.drop k) = at0 + blanks false (s.data.toList.drop at0)) ∧ i = .int .i64 k) (fun i => s.size - (intOf i).toNat)
  case atStart => exact ⟨at0, hat, Lib.hid rfl, rfl⟩
  case round =>
    obtain ⟨k, hk, HK, rfl⟩ := hrel
    by_cases hlt : k < s.size
    · have H := Lib.hid (blank_any (s[k]'hlt) w)
      cases hp : blankB (s[k]'hlt) with
      | true =>
        have HB := Lib.hid (blanks_one (l := s.data.toList) (i := k) (by rw [HZ.out]; exact hlt) hp)
        rw [hp] at H
        clear hp
        go_wp2_with ((with_reducible refine (H.out).mono ?_); rintro e w' ⟨rfl, rfl⟩)
        go_round
        case rel => exact ⟨k + 1, by omega, Lib.hid (by have h1 := HK.out; have h2 := HB.out; omega), by go_num⟩
        case measure => simp [intOf]; omega
      | false =>
        rw [hp] at H
        have HP := Lib.hid (prefix_any (s.extract k s.size) w)
        cases hq : slashB (s.extract k s.size).data.toList with
        | true =>
          rw [hq] at HP
          rw [ext_end] at hq
          obtain ⟨h1, h2, h3⟩ := slash_yes hq
          have HB := Lib.hid (blanks_line h1 h2 h3)
          have hc1 : cnt commB (s.data.toList.drop k) + k ≤ s.size := by
            have := cnt_le commB (s.data.toList.drop k)
            rw [List.length_drop, HZ.out] at this
            omega
          have hc0 : 0 < cnt commB (s.data.toList.drop k) := by
            rw [drop_cons _ k (by omega), cnt_cons_pos _ (by unfold commB; rw [h2]; rfl)]
            omega
          have HC := Lib.hid (count_comm (s.extract k s.size) w (by simp only [ByteArray.size_extract]; omega))
          rw [ext_end] at HC
          clear hp hq h1 h2 h3
          generalize cnt commB (s.data.toList.drop k) = m at *
          go_wp2_with (first
            | ((with_reducible refine (H.out).mono ?_); rintro e w' ⟨rfl, rfl⟩)
            | ((with_reducible refine (HP.out).mono ?_); rintro e w' ⟨rfl, rfl⟩)
            | ((with_reducible refine (HC.out).mono ?_); rintro e w' ⟨rfl, rfl⟩))
          go_round
          case rel => exact ⟨k + m, by omega, Lib.hid (by have h1 := HK.out; have h2 := HB.out; omega), by go_num⟩
          case measure => simp [intOf]; omega
        | false =>
          rw [hq] at HP
          rw [ext_end] at hq
          have HB := Lib.hid (blanks_none (l := s.data.toList) (i := k) (by rw [HZ.out]; exact hlt) hp (fun hx => slash_no hq ⟨hx.2.1, hx.1, hx.2.2⟩))
          clear hp hq
          go_wp2_with (first
            | ((with_reducible refine (H.out).mono ?_); rintro e w' ⟨rfl, rfl⟩)
            | ((with_reducible refine (HP.out).mono ?_); rintro e w' ⟨rfl, rfl⟩))
          go_ret
          exact ⟨ret_int (by have h1 := HK.out; have h2 := HB.out; omega), rfl⟩
    · have HB := Lib.hid (show blanks false (s.data.toList.drop k) = 0 by rw [List.drop_eq_nil_of_le (by rw [HZ.out]; omega)]; rfl)
      have g : decide (k < s.size) = false := by simpa using hlt
      go_wp2
      go_ret
      exact ⟨ret_int (by have h1 := HK.out; have h2 := HB.out; omega), rfl⟩
end
end Go.Proofs.YtmgjpjjglghbaaaGreatDoor
