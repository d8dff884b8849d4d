/-
  What a byte is: blank, in a comment, in a name, in a number, in a label, and what it begins.
-/
import Derived.Test.YtfemddchaihokaaDoorB0
import Derived.Test.YtfemddchaihokaaDoorM1
namespace Go.Proofs.YtfemddchaihokaaDoor
open Go.RowKit

theorem blank_any (c : UInt8) (w : World) : Calls Tryd.prog 35 #[.int .u8 c.toNat] w fun e w' => e = .returned (.bool (blankB c)) ∧ w = w' := by
  have hc := c.toNat_lt
  by_cases h1 : c.toNat = 32
  · have e : blankB c = true := by simp [blankB, h1]
    rw [e, h1]
    go_enter Tryd.func35, Tryd.ntmps35
    go_wp2
    go_ret
    exact ⟨rfl, rfl⟩
  by_cases h2 : c.toNat = 9
  · have e : blankB c = true := by simp [blankB, h2]
    rw [e, h2]
    go_enter Tryd.func35, Tryd.ntmps35
    go_wp2
    go_ret
    exact ⟨rfl, rfl⟩
  by_cases h3 : c.toNat = 10
  · have e : blankB c = true := by simp [blankB, h3]
    rw [e, h3]
    go_enter Tryd.func35, Tryd.ntmps35
    go_wp2
    go_ret
    exact ⟨rfl, rfl⟩
  by_cases h4 : c.toNat = 13
  · have e : blankB c = true := by simp [blankB, h4]
    rw [e, h4]
    go_enter Tryd.func35, Tryd.ntmps35
    go_wp2
    go_ret
    exact ⟨rfl, rfl⟩
  have e : blankB c = false := by simp [blankB, h1, h2, h3, h4]
  rw [e]
  generalize c.toNat = n at *
  have g1 : ((n : Int) == 32) = false := by simp; omega
  have g2 : ((n : Int) == 9) = false := by simp; omega
  have g3 : ((n : Int) == 10) = false := by simp; omega
  have g4 : ((n : Int) == 13) = false := by simp; omega
  clear e
  go_enter Tryd.func35, Tryd.ntmps35
  go_wp2
  go_ret
  exact ⟨rfl, rfl⟩

theorem comm_any (c : UInt8) (w : World) : Calls Tryd.prog 38 #[.int .u8 c.toNat] w fun e w' => e = .returned (.bool (commB c)) ∧ w = w' := by
  by_cases h : c.toNat = 10
  · have e : commB c = false := by simp [commB, h]
    rw [e, h]
    go_enter Tryd.func38, Tryd.ntmps38
    go_wp2
    go_ret
    exact ⟨rfl, rfl⟩
  · have e : commB c = true := by simp [commB, h]
    rw [e]
    generalize c.toNat = n at *
    have g : ((n : Int) != 10) = true := by simp; omega
    clear e
    go_enter Tryd.func38, Tryd.ntmps38
    go_wp2
    go_ret
    exact ⟨rfl, rfl⟩

/-- What a byte begins, and whether it goes on in a name. -/
def begT (n : Int) : Value :=
  if 48 ≤ n ∧ n ≤ 57 then .tuple #[.int .i64 2, .bool true]
  else if (97 ≤ n ∧ n ≤ 122) ∨ (65 ≤ n ∧ n ≤ 90) ∨ n = 95 then .tuple #[.int .i64 1, .bool true]
  else if n = 34 then .tuple #[.int .i64 3, .bool false] else .tuple #[.int .i64 4, .bool false]
def begP (n : Int) (w : World) (e : Ending) (w' : World) : Prop := e = .returned (begT n) ∧ w = w'
theorem begins_any (n : Int) (w : World) : Calls Tryd.prog 39 #[.int .u8 n] w (begP n w) := by
  by_cases h1 : 48 ≤ n
  · by_cases h2 : n ≤ 57
    · go_enter Tryd.func39, Tryd.ntmps39
      go_wp2
      go_ret2
      refine ⟨?_, rfl⟩
      unfold begT
      rw [if_pos (by omega)]
      rfl
    · by_cases h3 : 97 ≤ n
      · by_cases h4 : n ≤ 122
        · have g0 : decide (n ≤ 57) = false := by simp; omega
          go_enter Tryd.func39, Tryd.ntmps39
          go_wp2
          go_ret2
          refine ⟨?_, rfl⟩
          unfold begT
          rw [if_neg (by omega), if_pos (by omega)]
          rfl
        · have g0 : decide (n ≤ 57) = false := by simp; omega
          have g1 : decide (n ≤ 122) = false := by simp; omega
          have g2 : decide (n ≤ 90) = false := by simp; omega
          have g3 : (n == 95) = false := by simp; omega
          have g4 : (n == 34) = false := by simp; omega
          have k1 : 65 ≤ n := by omega
          go_enter Tryd.func39, Tryd.ntmps39
          go_wp2
          go_ret2
          refine ⟨?_, rfl⟩
          unfold begT
          rw [if_neg (by omega), if_neg (by omega), if_neg (by omega)]
          rfl
      · by_cases h5 : 65 ≤ n
        · by_cases h6 : n ≤ 90
          · have g0 : decide (n ≤ 57) = false := by simp; omega
            have g1 : decide (97 ≤ n) = false := by simp; omega
            go_enter Tryd.func39, Tryd.ntmps39
            go_wp2
            go_ret2
            refine ⟨?_, rfl⟩
            unfold begT
            rw [if_neg (by omega), if_pos (by omega)]
            rfl
          · by_cases h7 : n = 95
            · subst h7
              go_enter Tryd.func39, Tryd.ntmps39
              go_wp2
              go_ret2
              refine ⟨?_, rfl⟩
              unfold begT
              rw [if_neg (by omega), if_pos (by omega)]
              rfl
            · have g0 : decide (n ≤ 57) = false := by simp; omega
              have g1 : decide (97 ≤ n) = false := by simp; omega
              have g2 : decide (n ≤ 90) = false := by simp; omega
              have g3 : (n == 95) = false := by simp; omega
              have g4 : (n == 34) = false := by simp; omega
              go_enter Tryd.func39, Tryd.ntmps39
              go_wp2
              go_ret2
              refine ⟨?_, rfl⟩
              unfold begT
              rw [if_neg (by omega), if_neg (by omega), if_neg (by omega)]
              rfl
        · have g0 : decide (n ≤ 57) = false := by simp; omega
          have g1 : decide (97 ≤ n) = false := by simp; omega
          have g2 : decide (65 ≤ n) = false := by simp; omega
          have g3 : (n == 95) = false := by simp; omega
          have g4 : (n == 34) = false := by simp; omega
          go_enter Tryd.func39, Tryd.ntmps39
          go_wp2
          go_ret2
          refine ⟨?_, rfl⟩
          unfold begT
          rw [if_neg (by omega), if_neg (by omega), if_neg (by omega)]
          rfl
  · by_cases h8 : n = 34
    · subst h8
      go_enter Tryd.func39, Tryd.ntmps39
      go_wp2
      go_ret2
      refine ⟨?_, rfl⟩
      unfold begT
      rw [if_neg (by omega), if_neg (by omega), if_pos (by omega)]
      rfl
    · have g0 : decide (48 ≤ n) = false := by simp; omega
      have g1 : decide (97 ≤ n) = false := by simp; omega
      have g2 : decide (65 ≤ n) = false := by simp; omega
      have g3 : (n == 95) = false := by simp; omega
      have g4 : (n == 34) = false := by simp; omega
      go_enter Tryd.func39, Tryd.ntmps39
      go_wp2
      go_ret2
      refine ⟨?_, rfl⟩
      unfold begT
      rw [if_neg (by omega), if_neg (by omega), if_neg (by omega)]
      rfl

theorem begT_digit {c : UInt8} (h : digitB c = true) : begT c.toNat = .tuple #[.int .i64 2, .bool true] := by
  simp only [digitB, Bool.and_eq_true, decide_eq_true_eq] at h
  unfold begT; rw [if_pos (by omega)]
theorem begT_letter {c : UInt8} (h : letterB c = true) : begT c.toNat = .tuple #[.int .i64 1, .bool true] := by
  simp only [letterB, Bool.or_eq_true, Bool.and_eq_true, decide_eq_true_eq, beq_iff_eq] at h
  unfold begT; rw [if_neg (by omega), if_pos (by omega)]
theorem begT_quote {c : UInt8} (h : quoteB c = true) : begT c.toNat = .tuple #[.int .i64 3, .bool false] := by
  simp only [quoteB, beq_iff_eq] at h
  unfold begT; rw [if_neg (by omega), if_neg (by omega), if_pos (by omega)]
theorem begT_sign {c : UInt8} (hd : digitB c = false) (hl : letterB c = false) (h : quoteB c = false) : begT c.toNat = .tuple #[.int .i64 4, .bool false] := by
  simp only [digitB, Bool.and_eq_false_iff, decide_eq_false_iff_not] at hd
  simp only [letterB, Bool.or_eq_false_iff, Bool.and_eq_false_iff, decide_eq_false_iff_not, beq_eq_false_iff_ne] at hl
  simp only [quoteB, beq_eq_false_iff_ne] at h
  unfold begT; rw [if_neg (by omega), if_neg (by omega), if_neg (by omega)]
theorem quote_digit {c : UInt8} (h : quoteB c = true) : digitB c = false ∧ letterB c = false := by
  simp only [quoteB, beq_iff_eq] at h
  simp [digitB, letterB, h]

def nameP (c : UInt8) (w : World) (e : Ending) (w' : World) : Prop := e = .returned (.bool (nameB c)) ∧ w = w'
theorem name_any (c : UInt8) (w : World) : Calls Tryd.prog 40 #[.int .u8 c.toNat] w (nameP c w) := by
  have H := Lib.hid (begins_any c.toNat w)
  by_cases hd : digitB c = true
  · have HT := Lib.hid (begT_digit hd)
    have HN := Lib.hid (show nameB c = true by simp [nameB, hd])
    clear hd
    generalize (c.toNat : Int) = n at *
    go_enter Tryd.func40, Tryd.ntmps40
    go_wp2_with fail
    with_reducible refine (H.out).mono ?_
    rintro e w' ⟨rfl, rfl⟩
    rw [HT.out]
    go_wp2
    go_ret
    exact ⟨by rw [HN.out]; rfl, rfl⟩
  · have hd' : digitB c = false := by simpa using hd
    by_cases hl : letterB c = true
    · have HT := Lib.hid (begT_letter hl)
      have HN := Lib.hid (show nameB c = true by simp [nameB, hl])
      clear hd hd' hl
      generalize (c.toNat : Int) = n at *
      go_enter Tryd.func40, Tryd.ntmps40
      go_wp2_with fail
      with_reducible refine (H.out).mono ?_
      rintro e w' ⟨rfl, rfl⟩
      rw [HT.out]
      go_wp2
      go_ret
      exact ⟨by rw [HN.out]; rfl, rfl⟩
    · have hl' : letterB c = false := by simpa using hl
      have HN := Lib.hid (show nameB c = false by simp [nameB, hl', hd'])
      have hk : ∃ k : Int, begT c.toNat = .tuple #[.int .i64 k, .bool false] := by
        by_cases hq : quoteB c = true
        · exact ⟨3, begT_quote hq⟩
        · exact ⟨4, begT_sign hd' hl' (by simpa using hq)⟩
      obtain ⟨k, hk⟩ := hk
      have HT := Lib.hid hk
      clear hd hd' hl hl' hk
      generalize (c.toNat : Int) = n at *
      go_enter Tryd.func40, Tryd.ntmps40
      go_wp2_with fail
      with_reducible refine (H.out).mono ?_
      rintro e w' ⟨rfl, rfl⟩
      rw [HT.out]
      go_wp2
      go_ret
      exact ⟨by rw [HN.out]; rfl, rfl⟩
def numbP (c : UInt8) (w : World) (e : Ending) (w' : World) : Prop := e = .returned (.bool (digitB c)) ∧ w = w'
theorem numb_any (c : UInt8) (w : World) : Calls Tryd.prog 41 #[.int .u8 c.toNat] w (numbP c w) := by
  have H := Lib.hid (begins_any c.toNat w)
  by_cases hd : digitB c = true
  · have HT := Lib.hid (begT_digit hd)
    have HN := Lib.hid hd
    clear hd
    generalize (c.toNat : Int) = n at *
    go_enter Tryd.func41, Tryd.ntmps41
    go_wp2_with fail
    with_reducible refine (H.out).mono ?_
    rintro e w' ⟨rfl, rfl⟩
    rw [HT.out]
    go_wp2
    go_ret
    exact ⟨by rw [HN.out]; rfl, rfl⟩
  · have hd' : digitB c = false := by simpa using hd
    have hk : ∃ (k : Int) (b : Bool), begT c.toNat = .tuple #[.int .i64 k, .bool b] ∧ (k == 2) = false := by
      by_cases hl : letterB c = true
      · exact ⟨1, true, begT_letter hl, rfl⟩
      · by_cases hq : quoteB c = true
        · exact ⟨3, false, begT_quote hq, rfl⟩
        · exact ⟨4, false, begT_sign hd' (by simpa using hl) (by simpa using hq), rfl⟩
    obtain ⟨k, b, hk, hk2⟩ := hk
    have HT := Lib.hid hk
    have HN := Lib.hid hd'
    clear hd hd' hk
    generalize (c.toNat : Int) = n at *
    go_enter Tryd.func41, Tryd.ntmps41
    go_wp2_with fail
    with_reducible refine (H.out).mono ?_
    rintro e w' ⟨rfl, rfl⟩
    rw [HT.out]
    go_wp2
    go_ret
    exact ⟨by rw [HN.out]; rfl, rfl⟩
def labP (c : UInt8) (w : World) (e : Ending) (w' : World) : Prop := e = .returned (.bool (labelB c)) ∧ w = w'
theorem lab_any (c : UInt8) (w : World) : Calls Tryd.prog 50 #[.int .u8 c.toNat] w (labP c w) := by
  obtain ⟨n, hn⟩ : ∃ n : Int, n = c.toNat := ⟨_, rfl⟩
  by_cases h1 : 32 ≤ n
  · by_cases h2 : n ≤ 126
    · by_cases h3 : n = 34
      · have HN := Lib.hid (show labelB c = false by simp [labelB]; omega)
        rw [← hn, h3]
        clear h1 h2 hn h3
        go_enter Tryd.func50, Tryd.ntmps50
        go_wp2
        go_ret
        exact ⟨by rw [HN.out]; rfl, rfl⟩
      · have HN := Lib.hid (show labelB c = true by simp [labelB]; omega)
        have g : (n != 34) = true := by simp; omega
        rw [← hn]
        clear hn h3
        go_enter Tryd.func50, Tryd.ntmps50
        go_wp2
        go_ret
        exact ⟨by rw [HN.out]; rfl, rfl⟩
    · have HN := Lib.hid (show labelB c = false by simp [labelB]; omega)
      have g : decide (n ≤ 126) = false := by simp; omega
      rw [← hn]
      clear hn
      go_enter Tryd.func50, Tryd.ntmps50
      go_wp2
      go_ret
      exact ⟨by rw [HN.out]; rfl, rfl⟩
  · have HN := Lib.hid (show labelB c = false by simp [labelB]; omega)
    have g : decide (32 ≤ n) = false := by simp; omega
    rw [← hn]
    clear hn
    go_enter Tryd.func50, Tryd.ntmps50
    go_wp2
    go_ret
    exact ⟨by rw [HN.out]; rfl, rfl⟩
end Go.Proofs.YtfemddchaihokaaDoor
