/-
  The number of digits, the length of a label and of a sign, a token's bare text, a copy. The length of a sign. What a text begins with; a token's bare text. The tokens of any text, as the program finds them. The program's Tokens, walked.
-/
import Derived.Test.YtmgjpjjglghbaaaGreatDoorLA
import Derived.Test.YtmgjpjjglghbaaaGreatDoorMM
import Derived.Test.YtmgjpjjglghbaaaGreatDoorA0
import Derived.Test.YtmgjpjjglghbaaaGreatDoorH1
namespace Go.Proofs.YtmgjpjjglghbaaaGreatDoor
section
open Go.RowKit

/-- The package variables as the program's text lays them. -/
structure GlobS (w : World) : Prop where
  glob : Glob w
  rng : ∃ te pe, w.cell? ⟨2, 0, none⟩ = some (.iface te pe)
theorem GlobS.below {w w' : World} (h : GlobS w) (hb : Below w.heap.size w w') : GlobS w' :=
  ⟨h.glob.below hb, by
    obtain ⟨te, pe, he⟩ := h.rng
    exact ⟨te, pe, (hb.cell (p := ⟨2, 0, none⟩) (World.block_lt_of_cell? w _ he)).trans he⟩⟩

def numT (l : List UInt8) : Value := if valOf l < 9223372036854775808 then .tuple #[.int .i64 (valOf l), .nilIface] else .tuple #[.int .i64 0, .iface 78 (.int .i64 10)]
def numP (l : List UInt8) (w : World) (e : Ending) (w' : World) : Prop := e = .returned (numT l) ∧ Below w.heap.size w w'
theorem number_any (s : ByteArray) (w : World) (hG : GlobS w) (hs : s.size ≤ 65536) (h0 : s.data.toList ≠ []) (hd : ∀ c ∈ s.data.toList, digitB c = true) :
    Calls Tryz.prog 161 #[.string s] w (numP s.data.toList w) := by
  have hp := parse_digits s.data.toList h0 hd
  by_cases hv : valOf s.data.toList < 9223372036854775808
  · rw [if_pos hv] at hp
    have HT := Lib.hid (show numT s.data.toList = .tuple #[.int .i64 (valOf s.data.toList), .nilIface] by unfold numT; rw [if_pos hv])
    have H := Lib.hid (Tryz.strconv_ParseInt_10_at64_ok s (by omega) _ hp w)
    clear hp hv hd h0
    generalize ((valOf s.data.toList : Nat) : Int) = v at *
    go_enter Tryz.func161, Tryz.ntmps161
    go_wp2_with fail
    with_reducible refine (H.out).mono ?_
    rintro e w' ⟨rfl, hw⟩
    have hb : Below w.heap.size w w' := by
      rcases hw with rfl | ⟨t, rfl⟩
      · exact Below.refl _ _
      · exact Lib.bytesWorld_below w _ t
    clear hw
    go_wp2
    go_ret2
    exact ⟨by rw [HT.out]; rfl, hb⟩
  · rw [if_neg hv] at hp
    have HT := Lib.hid (show numT s.data.toList = .tuple #[.int .i64 0, .iface 78 (.int .i64 10)] by unfold numT; rw [if_neg hv])
    obtain ⟨te, pe, he⟩ := hG.rng
    have H := Lib.hid (Tryz.strconv_ParseInt_10_at64_range s (by omega) hp _ w he (.inr ⟨te, pe, rfl⟩))
    clear hp hv hd h0 he
    go_enter Tryz.func161, Tryz.ntmps161
    go_wp2_with fail
    with_reducible refine (H.out).mono ?_
    rintro e w' ⟨N, rfl, _, _, hb⟩
    go_wp2
    go_ret2
    exact ⟨by rw [HT.out]; rfl, hb⟩

theorem clone_any (s : ByteArray) (w : World) (hs : s.size ≤ 65536) : Calls Tryz.prog 112 #[.string s] w fun e w' => e = .returned (.string s) ∧ Below w.heap.size w w' := by
  have H := Lib.hid (Tryz.stringslite_Clone s w (by omega))
  go_enter Tryz.func112, Tryz.ntmps112
  go_wp2_with fail
  with_reducible refine (H.out).mono ?_
  rintro e w' ⟨rfl, hb⟩
  go_wp2
  go_ret
  exact ⟨rfl, hb⟩

def labT (r : List UInt8) : Value := if labN r = 0 then .tuple #[.int .i64 0, .iface 78 (.int .i64 20)] else .tuple #[.int .i64 (labN r), .nilIface]
def labQ (r : List UInt8) (w : World) (e : Ending) (w' : World) : Prop := e = .returned (labT r) ∧ w = w'
set_option maxHeartbeats 1000000 in
theorem label_any (s : ByteArray) (w : World) (hs : s.size ≤ 65536) (h0 : 0 < s.size) : Calls Tryz.prog 162 #[.string s] w (labQ (s.data.toList.drop 1) w) := by
  have HZ := Lib.hid (size_list s)
  have HC := Lib.hid (count_lab (s.extract 1 s.size) w (by simp only [ByteArray.size_extract]; omega))
  rw [ext_end] at HC
  have hle := cnt_le labelB (s.data.toList.drop 1)
  rw [List.length_drop, HZ.out] at hle
  have hL : (s.data.toList.drop 1)[cnt labelB (s.data.toList.drop 1)]? = s.data.toList[1 + cnt labelB (s.data.toList.drop 1)]? := by rw [List.getElem?_drop]
  have hN : labN (s.data.toList.drop 1) = if cnt labelB (s.data.toList.drop 1) = 0 ∨ 32 < cnt labelB (s.data.toList.drop 1) ∨ ((s.data.toList.drop 1)[cnt labelB (s.data.toList.drop 1)]?).map (·.toNat) ≠ some 34 then 0 else cnt labelB (s.data.toList.drop 1) + 2 := rfl
  have hbad : labN (s.data.toList.drop 1) = 0 → labT (s.data.toList.drop 1) = .tuple #[.int .i64 0, .iface 78 (.int .i64 20)] := fun h => by unfold labT; rw [if_pos h]
  have hgood : labN (s.data.toList.drop 1) ≠ 0 → labT (s.data.toList.drop 1) = .tuple #[.int .i64 (labN (s.data.toList.drop 1)), .nilIface] := fun h => by unfold labT; rw [if_neg h]
  rw [hL] at hN
  clear hL
  generalize cnt labelB (s.data.toList.drop 1) = m at *
  generalize s.data.toList.drop 1 = r at *
  by_cases h1 : m = 0
  · have HT := Lib.hid (hbad (by rw [hN, if_pos (.inl h1)]))
    clear hN hbad hgood
    subst h1
    go_enter Tryz.func162, Tryz.ntmps162
    go_wp2_with fail
    with_reducible refine (HC.out).mono ?_
    rintro e w' ⟨rfl, rfl⟩
    go_wp2
    go_ret2
    exact ⟨by rw [HT.out]; rfl, rfl⟩
  have g1 : ((m : Int) == 0) = false := by simp; omega
  by_cases h2 : 32 < m
  · have HT := Lib.hid (hbad (by rw [hN, if_pos (.inr (.inl h2))]))
    have g2 : decide (32 < (m : Int)) = true := by simp; omega
    clear hN hbad hgood h1
    go_enter Tryz.func162, Tryz.ntmps162
    go_wp2_with fail
    with_reducible refine (HC.out).mono ?_
    rintro e w' ⟨rfl, rfl⟩
    go_wp2
    go_ret2
    exact ⟨by rw [HT.out]; rfl, rfl⟩
  have g2 : decide (32 < (m : Int)) = false := by simp; omega
  by_cases h3 : 1 + m = s.size
  · have HT := Lib.hid (hbad (by rw [hN, if_pos (.inr (.inr (by rw [List.getElem?_eq_none (by rw [HZ.out]; omega)]; simp)))]))
    have g3 : (1 + (m : Int) == (s.size : Int)) = true := by simp; omega
    clear hN hbad hgood h1 h2 h3
    go_enter Tryz.func162, Tryz.ntmps162
    go_wp2_with fail
    with_reducible refine (HC.out).mono ?_
    rintro e w' ⟨rfl, rfl⟩
    go_wp2
    go_ret2
    exact ⟨by rw [HT.out]; rfl, rfl⟩
  have g3 : (1 + (m : Int) == (s.size : Int)) = false := by simp; omega
  have hlt : 1 + m < s.size := by omega
  have hb : s.data.toList[1 + m]? = some (s[1 + m]'hlt) := by rw [List.getElem?_eq_getElem (by rw [HZ.out]; exact hlt)]; rfl
  rw [hb] at hN
  by_cases h4 : (s[1 + m]'hlt).toNat = 34
  · have hn2 : labN r = m + 2 := by rw [hN, if_neg]; simp [h1, h2, h4]
    have HT := Lib.hid (hgood (by omega))
    have HN := Lib.hid hn2
    have g4 : (((s[1 + m]'hlt).toNat : Int) != 34) = false := by rw [h4]; rfl
    clear hN hbad hgood h1 h2 h3 h4 hb hn2
    go_enter Tryz.func162, Tryz.ntmps162
    go_wp2_with fail
    with_reducible refine (HC.out).mono ?_
    rintro e w' ⟨rfl, rfl⟩
    go_wp2
    go_ret2
    exact ⟨by rw [HT.out]; rw [HN.out]; exact congrArg Ending.returned (congrArg Value.tuple (by congr 2; go_num)), rfl⟩
  · have HT := Lib.hid (hbad (by rw [hN, if_pos (.inr (.inr (by simp [h4])))]))
    have g4 : (((s[1 + m]'hlt).toNat : Int) != 34) = true := by simp; omega
    clear hN hbad hgood h1 h2 h3 h4 hb
    go_enter Tryz.func162, Tryz.ntmps162
    go_wp2_with fail
    with_reducible refine (HC.out).mono ?_
    rintro e w' ⟨rfl, rfl⟩
    go_wp2
    go_ret2
    exact ⟨by rw [HT.out]; rfl, rfl⟩
end
section
open Go.RowKit

def sigT (l : List UInt8) : Value := if signN l = 0 then .tuple #[.int .i64 0, .iface 78 (.int .i64 20)] else .tuple #[.int .i64 (signN l), .nilIface]
def sigQ (l : List UInt8) (w : World) (e : Ending) (w' : World) : Prop := e = .returned (sigT l) ∧ w = w'
theorem twoB_take (l : List UInt8) : twoB l = (l.take 2 == [45, 62] || l.take 2 == [60, 61] || l.take 2 == [62, 61] || l.take 2 == [33, 61] || l.take 2 == [61, 62] || l.take 2 == [46, 46]) := by
  match l with
  | [] => rfl
  | [a] => simp [twoB]
  | a :: b :: r =>
    have e : ∀ p q : UInt8, ((a :: b :: r).take 2 == [p, q]) = (a.toNat == p.toNat && b.toNat == q.toNat) := by
      intro p q
      rw [Bool.eq_iff_iff]
      simp [UInt8.toNat_inj]
    simp only [e]
    rfl
theorem sig_two {l : List UInt8} (h : twoB l = true) : sigT l = .tuple #[.int .i64 2, .nilIface] := by
  cases l with
  | nil => cases h
  | cons c r =>
    have e : signN (c :: r) = 2 := by simp [signN, h]
    unfold sigT; rw [e]; rfl
theorem sig_one {c : UInt8} {r : List UInt8} (h : twoB (c :: r) = false) (h1 : oneB c = true) : sigT (c :: r) = .tuple #[.int .i64 1, .nilIface] := by
  have e : signN (c :: r) = 1 := by simp [signN, h, h1]
  unfold sigT; rw [e]; rfl
theorem sig_none {c : UInt8} {r : List UInt8} (h : twoB (c :: r) = false) (h1 : oneB c = false) : sigT (c :: r) = .tuple #[.int .i64 0, .iface 78 (.int .i64 20)] := by
  have e : signN (c :: r) = 0 := by simp [signN, h, h1]
  unfold sigT; rw [e]; rfl
theorem ne_nat {c : UInt8} {n : Nat} (h : ¬ c.toNat = n) : (((c.toNat : Nat) : Int) == (n : Int)) = false := by
  rw [beq_eq_false_iff_ne]; omega

set_option maxHeartbeats 4000000 in
theorem sign_any (s : ByteArray) (w : World) (hs : s.size ≤ 65536) (h0 : 0 < s.size) : Calls Tryz.prog 163 #[.string s] w (sigQ s.data.toList w) := by
  have hx : (s.extract 0 (min 2 (s.size : Int)).toNat).toList = s.data.toList.take 2 := by
    rw [ByteArray.toList_eq, ext_list, List.drop_zero, Nat.sub_zero]
    by_cases h : 2 ≤ s.size
    · have e : (min 2 (s.size : Int)).toNat = 2 := by omega
      rw [e]
    · have e : (min 2 (s.size : Int)).toNat = s.size := by omega
      rw [e, List.take_of_length_le (by simp), List.take_of_length_le (by simp; omega)]
  have htw := twoB_take s.data.toList
  rw [← hx] at htw
  have hcons : s.data.toList = (s[0]'(by omega)) :: s.data.toList.drop 1 := drop_cons s.data.toList 0 (by simp; omega)
  clear hx
  by_cases q0 : ((s.extract 0 (min 2 (s.size : Int)).toNat).toList == [45, 62]) = true
  · have HT := Lib.hid (sig_two (l := s.data.toList) (by rw [htw]; simp [q0]))
    clear htw hcons
    go_enter Tryz.func163, Tryz.ntmps163
    go_wp2
    go_ret2
    exact ⟨by rw [HT.out]; rfl, rfl⟩
  replace q0 : ((s.extract 0 (min 2 (s.size : Int)).toNat).toList == [45, 62]) = false := by simpa using q0
  by_cases q1 : ((s.extract 0 (min 2 (s.size : Int)).toNat).toList == [60, 61]) = true
  · have HT := Lib.hid (sig_two (l := s.data.toList) (by rw [htw]; simp [q1]))
    clear htw hcons
    go_enter Tryz.func163, Tryz.ntmps163
    go_wp2
    go_ret2
    exact ⟨by rw [HT.out]; rfl, rfl⟩
  replace q1 : ((s.extract 0 (min 2 (s.size : Int)).toNat).toList == [60, 61]) = false := by simpa using q1
  by_cases q2 : ((s.extract 0 (min 2 (s.size : Int)).toNat).toList == [62, 61]) = true
  · have HT := Lib.hid (sig_two (l := s.data.toList) (by rw [htw]; simp [q2]))
    clear htw hcons
    go_enter Tryz.func163, Tryz.ntmps163
    go_wp2
    go_ret2
    exact ⟨by rw [HT.out]; rfl, rfl⟩
  replace q2 : ((s.extract 0 (min 2 (s.size : Int)).toNat).toList == [62, 61]) = false := by simpa using q2
  by_cases q3 : ((s.extract 0 (min 2 (s.size : Int)).toNat).toList == [33, 61]) = true
  · have HT := Lib.hid (sig_two (l := s.data.toList) (by rw [htw]; simp [q3]))
    clear htw hcons
    go_enter Tryz.func163, Tryz.ntmps163
    go_wp2
    go_ret2
    exact ⟨by rw [HT.out]; rfl, rfl⟩
  replace q3 : ((s.extract 0 (min 2 (s.size : Int)).toNat).toList == [33, 61]) = false := by simpa using q3
  by_cases q4 : ((s.extract 0 (min 2 (s.size : Int)).toNat).toList == [61, 62]) = true
  · have HT := Lib.hid (sig_two (l := s.data.toList) (by rw [htw]; simp [q4]))
    clear htw hcons
    go_enter Tryz.func163, Tryz.ntmps163
    go_wp2
    go_ret2
    exact ⟨by rw [HT.out]; rfl, rfl⟩
  replace q4 : ((s.extract 0 (min 2 (s.size : Int)).toNat).toList == [61, 62]) = false := by simpa using q4
  by_cases q5 : ((s.extract 0 (min 2 (s.size : Int)).toNat).toList == [46, 46]) = true
  · have HT := Lib.hid (sig_two (l := s.data.toList) (by rw [htw]; simp [q5]))
    clear htw hcons
    go_enter Tryz.func163, Tryz.ntmps163
    go_wp2
    go_ret2
    exact ⟨by rw [HT.out]; rfl, rfl⟩
  replace q5 : ((s.extract 0 (min 2 (s.size : Int)).toNat).toList == [46, 46]) = false := by simpa using q5
  have ht : twoB s.data.toList = false := by rw [htw, q0, q1, q2, q3, q4, q5]; rfl
  clear htw
  rw [hcons] at ht
  have HH := Lib.hid hcons
  clear hcons
  by_cases o0 : (s[0]'(by omega)).toNat = 91
  · have HT := Lib.hid (sig_one ht (by simp [oneB, o0]))
    have k0 : ((((s[0]'(by omega))).toNat : Int) == 91) = true := by rw [o0]; rfl
    clear o0 ht
    go_enter Tryz.func163, Tryz.ntmps163
    go_wp2
    go_ret2
    exact ⟨by rw [HH.out, HT.out]; rfl, rfl⟩
  have k0 : ((((s[0]'(by omega))).toNat : Int) == 91) = false := ne_nat o0
  by_cases o1 : (s[0]'(by omega)).toNat = 93
  · have HT := Lib.hid (sig_one ht (by simp [oneB, o1]))
    have k1 : ((((s[0]'(by omega))).toNat : Int) == 93) = true := by rw [o1]; rfl
    clear o1 ht
    go_enter Tryz.func163, Tryz.ntmps163
    go_wp2
    go_ret2
    exact ⟨by rw [HH.out, HT.out]; rfl, rfl⟩
  have k1 : ((((s[0]'(by omega))).toNat : Int) == 93) = false := ne_nat o1
  by_cases o2 : (s[0]'(by omega)).toNat = 40
  · have HT := Lib.hid (sig_one ht (by simp [oneB, o2]))
    have k2 : ((((s[0]'(by omega))).toNat : Int) == 40) = true := by rw [o2]; rfl
    clear o2 ht
    go_enter Tryz.func163, Tryz.ntmps163
    go_wp2
    go_ret2
    exact ⟨by rw [HH.out, HT.out]; rfl, rfl⟩
  have k2 : ((((s[0]'(by omega))).toNat : Int) == 40) = false := ne_nat o2
  by_cases o3 : (s[0]'(by omega)).toNat = 41
  · have HT := Lib.hid (sig_one ht (by simp [oneB, o3]))
    have k3 : ((((s[0]'(by omega))).toNat : Int) == 41) = true := by rw [o3]; rfl
    clear o3 ht
    go_enter Tryz.func163, Tryz.ntmps163
    go_wp2
    go_ret2
    exact ⟨by rw [HH.out, HT.out]; rfl, rfl⟩
  have k3 : ((((s[0]'(by omega))).toNat : Int) == 41) = false := ne_nat o3
  by_cases o4 : (s[0]'(by omega)).toNat = 58
  · have HT := Lib.hid (sig_one ht (by simp [oneB, o4]))
    have k4 : ((((s[0]'(by omega))).toNat : Int) == 58) = true := by rw [o4]; rfl
    clear o4 ht
    go_enter Tryz.func163, Tryz.ntmps163
    go_wp2
    go_ret2
    exact ⟨by rw [HH.out, HT.out]; rfl, rfl⟩
  have k4 : ((((s[0]'(by omega))).toNat : Int) == 58) = false := ne_nat o4
  by_cases o5 : (s[0]'(by omega)).toNat = 59
  · have HT := Lib.hid (sig_one ht (by simp [oneB, o5]))
    have k5 : ((((s[0]'(by omega))).toNat : Int) == 59) = true := by rw [o5]; rfl
    clear o5 ht
    go_enter Tryz.func163, Tryz.ntmps163
    go_wp2
    go_ret2
    exact ⟨by rw [HH.out, HT.out]; rfl, rfl⟩
  have k5 : ((((s[0]'(by omega))).toNat : Int) == 59) = false := ne_nat o5
  by_cases o6 : (s[0]'(by omega)).toNat = 44
  · have HT := Lib.hid (sig_one ht (by simp [oneB, o6]))
    have k6 : ((((s[0]'(by omega))).toNat : Int) == 44) = true := by rw [o6]; rfl
    clear o6 ht
    go_enter Tryz.func163, Tryz.ntmps163
    go_wp2
    go_ret2
    exact ⟨by rw [HH.out, HT.out]; rfl, rfl⟩
  have k6 : ((((s[0]'(by omega))).toNat : Int) == 44) = false := ne_nat o6
  by_cases o7 : (s[0]'(by omega)).toNat = 43
  · have HT := Lib.hid (sig_one ht (by simp [oneB, o7]))
    have k7 : ((((s[0]'(by omega))).toNat : Int) == 43) = true := by rw [o7]; rfl
    clear o7 ht
    go_enter Tryz.func163, Tryz.ntmps163
    go_wp2
    go_ret2
    exact ⟨by rw [HH.out, HT.out]; rfl, rfl⟩
  have k7 : ((((s[0]'(by omega))).toNat : Int) == 43) = false := ne_nat o7
  by_cases o8 : (s[0]'(by omega)).toNat = 45
  · have HT := Lib.hid (sig_one ht (by simp [oneB, o8]))
    have k8 : ((((s[0]'(by omega))).toNat : Int) == 45) = true := by rw [o8]; rfl
    clear o8 ht
    go_enter Tryz.func163, Tryz.ntmps163
    go_wp2
    go_ret2
    exact ⟨by rw [HH.out, HT.out]; rfl, rfl⟩
  have k8 : ((((s[0]'(by omega))).toNat : Int) == 45) = false := ne_nat o8
  by_cases o9 : (s[0]'(by omega)).toNat = 42
  · have HT := Lib.hid (sig_one ht (by simp [oneB, o9]))
    have k9 : ((((s[0]'(by omega))).toNat : Int) == 42) = true := by rw [o9]; rfl
    clear o9 ht
    go_enter Tryz.func163, Tryz.ntmps163
    go_wp2
    go_ret2
    exact ⟨by rw [HH.out, HT.out]; rfl, rfl⟩
  have k9 : ((((s[0]'(by omega))).toNat : Int) == 42) = false := ne_nat o9
  by_cases o10 : (s[0]'(by omega)).toNat = 38
  · have HT := Lib.hid (sig_one ht (by simp [oneB, o10]))
    have k10 : ((((s[0]'(by omega))).toNat : Int) == 38) = true := by rw [o10]; rfl
    clear o10 ht
    go_enter Tryz.func163, Tryz.ntmps163
    go_wp2
    go_ret2
    exact ⟨by rw [HH.out, HT.out]; rfl, rfl⟩
  have k10 : ((((s[0]'(by omega))).toNat : Int) == 38) = false := ne_nat o10
  by_cases o11 : (s[0]'(by omega)).toNat = 124
  · have HT := Lib.hid (sig_one ht (by simp [oneB, o11]))
    have k11 : ((((s[0]'(by omega))).toNat : Int) == 124) = true := by rw [o11]; rfl
    clear o11 ht
    go_enter Tryz.func163, Tryz.ntmps163
    go_wp2
    go_ret2
    exact ⟨by rw [HH.out, HT.out]; rfl, rfl⟩
  have k11 : ((((s[0]'(by omega))).toNat : Int) == 124) = false := ne_nat o11
  by_cases o12 : (s[0]'(by omega)).toNat = 33
  · have HT := Lib.hid (sig_one ht (by simp [oneB, o12]))
    have k12 : ((((s[0]'(by omega))).toNat : Int) == 33) = true := by rw [o12]; rfl
    clear o12 ht
    go_enter Tryz.func163, Tryz.ntmps163
    go_wp2
    go_ret2
    exact ⟨by rw [HH.out, HT.out]; rfl, rfl⟩
  have k12 : ((((s[0]'(by omega))).toNat : Int) == 33) = false := ne_nat o12
  by_cases o13 : (s[0]'(by omega)).toNat = 61
  · have HT := Lib.hid (sig_one ht (by simp [oneB, o13]))
    have k13 : ((((s[0]'(by omega))).toNat : Int) == 61) = true := by rw [o13]; rfl
    clear o13 ht
    go_enter Tryz.func163, Tryz.ntmps163
    go_wp2
    go_ret2
    exact ⟨by rw [HH.out, HT.out]; rfl, rfl⟩
  have k13 : ((((s[0]'(by omega))).toNat : Int) == 61) = false := ne_nat o13
  by_cases o14 : (s[0]'(by omega)).toNat = 60
  · have HT := Lib.hid (sig_one ht (by simp [oneB, o14]))
    have k14 : ((((s[0]'(by omega))).toNat : Int) == 60) = true := by rw [o14]; rfl
    clear o14 ht
    go_enter Tryz.func163, Tryz.ntmps163
    go_wp2
    go_ret2
    exact ⟨by rw [HH.out, HT.out]; rfl, rfl⟩
  have k14 : ((((s[0]'(by omega))).toNat : Int) == 60) = false := ne_nat o14
  by_cases o15 : (s[0]'(by omega)).toNat = 62
  · have HT := Lib.hid (sig_one ht (by simp [oneB, o15]))
    have k15 : ((((s[0]'(by omega))).toNat : Int) == 62) = true := by rw [o15]; rfl
    clear o15 ht
    go_enter Tryz.func163, Tryz.ntmps163
    go_wp2
    go_ret2
    exact ⟨by rw [HH.out, HT.out]; rfl, rfl⟩
  have k15 : ((((s[0]'(by omega))).toNat : Int) == 62) = false := ne_nat o15
  by_cases o16 : (s[0]'(by omega)).toNat = 63
  · have HT := Lib.hid (sig_one ht (by simp [oneB, o16]))
    have k16 : ((((s[0]'(by omega))).toNat : Int) == 63) = true := by rw [o16]; rfl
    clear o16 ht
    go_enter Tryz.func163, Tryz.ntmps163
    go_wp2
    go_ret2
    exact ⟨by rw [HH.out, HT.out]; rfl, rfl⟩
  have k16 : ((((s[0]'(by omega))).toNat : Int) == 63) = false := ne_nat o16
  by_cases o17 : (s[0]'(by omega)).toNat = 39
  · have HT := Lib.hid (sig_one ht (by simp [oneB, o17]))
    have k17 : ((((s[0]'(by omega))).toNat : Int) == 39) = true := by rw [o17]; rfl
    clear o17 ht
    go_enter Tryz.func163, Tryz.ntmps163
    go_wp2
    go_ret2
    exact ⟨by rw [HH.out, HT.out]; rfl, rfl⟩
  have k17 : ((((s[0]'(by omega))).toNat : Int) == 39) = false := ne_nat o17
  have HT := Lib.hid (sig_none ht (by simp [oneB, o0, o1, o2, o3, o4, o5, o6, o7, o8, o9, o10, o11, o12, o13, o14, o15, o16, o17]))
  clear o0 o1 o2 o3 o4 o5 o6 o7 o8 o9 o10 o11 o12 o13 o14 o15 o16 o17 ht
  go_enter Tryz.func163, Tryz.ntmps163
  go_wp2
  go_ret2
  exact ⟨by rw [HH.out, HT.out]; rfl, rfl⟩
end
section
open Go.RowKit

def erV (e : Nat) : Value := if e = 0 then .nilIface else .iface 78 (.int .i64 e)
def measT (l : List UInt8) : Value := .tuple #[.int .i64 (meas l).1, .int .i64 (meas l).2.1, erV (meas l).2.2]
def measP (l : List UInt8) (w : World) (e : Ending) (w' : World) : Prop := e = .returned (measT l) ∧ Below w.heap.size w w'

theorem measT_digit {c : UInt8} {r : List UInt8} (h : digitB c = true) : measT (c :: r) = .tuple #[.int .i64 2, .int .i64 (cnt digitB (c :: r)), erV (if valOf ((c :: r).takeWhile digitB) < 9223372036854775808 then 0 else 10)] := by
  have e : meas (c :: r) = (2, cnt digitB (c :: r), if valOf ((c :: r).takeWhile digitB) < 9223372036854775808 then 0 else 10) := by simp only [meas]; rw [if_pos h]
  unfold measT; rw [e]; rfl
theorem measT_letter {c : UInt8} {r : List UInt8} (hd : digitB c = false) (h : letterB c = true) : measT (c :: r) = .tuple #[.int .i64 1, .int .i64 (cnt nameB (c :: r)), .nilIface] := by
  have e : meas (c :: r) = (1, cnt nameB (c :: r), 0) := by simp only [meas]; rw [if_neg (by simp [hd]), if_pos h]
  unfold measT; rw [e]; rfl
theorem measT_quote {c : UInt8} {r : List UInt8} (h : quoteB c = true) : measT (c :: r) = .tuple #[.int .i64 3, .int .i64 (labN r), erV (if labN r = 0 then 20 else 0)] := by
  obtain ⟨hd, hl⟩ := quote_digit h
  have e : meas (c :: r) = (3, labN r, if labN r = 0 then 20 else 0) := by simp only [meas]; rw [if_neg (by simp [hd]), if_neg (by simp [hl]), if_pos h]
  unfold measT; rw [e]; rfl
theorem measT_sign {c : UInt8} {r : List UInt8} (hd : digitB c = false) (hl : letterB c = false) (h : quoteB c = false) : measT (c :: r) = .tuple #[.int .i64 4, .int .i64 (signN (c :: r)), erV (if signN (c :: r) = 0 then 20 else 0)] := by
  have e : meas (c :: r) = (4, signN (c :: r), if signN (c :: r) = 0 then 20 else 0) := by simp only [meas]; rw [if_neg (by simp [hd]), if_neg (by simp [hl]), if_neg (by simp [h])]
  unfold measT; rw [e]; rfl
theorem labT_er (r : List UInt8) : labT r = .tuple #[.int .i64 (labN r), erV (if labN r = 0 then 20 else 0)] := by
  unfold labT erV
  by_cases h : labN r = 0
  · rw [if_pos h, if_pos h, if_neg (by omega), h]; rfl
  · rw [if_neg h, if_neg h, if_pos rfl]
theorem sigT_er (l : List UInt8) : sigT l = .tuple #[.int .i64 (signN l), erV (if signN l = 0 then 20 else 0)] := by
  unfold sigT erV
  by_cases h : signN l = 0
  · rw [if_pos h, if_pos h, if_neg (by omega), h]; rfl
  · rw [if_neg h, if_neg h, if_pos rfl]
theorem numT_er (l : List UInt8) : ∃ v : Int, numT l = .tuple #[.int .i64 v, erV (if valOf l < 9223372036854775808 then 0 else 10)] := by
  unfold numT erV
  by_cases h : valOf l < 9223372036854775808
  · exact ⟨valOf l, by rw [if_pos h, if_pos h, if_pos rfl]⟩
  · exact ⟨0, by rw [if_neg h, if_neg h, if_neg (by omega)]; rfl⟩

set_option maxHeartbeats 1000000 in
theorem measure_any (s : ByteArray) (w : World) (hG : GlobS w) (hs : s.size ≤ 65536) (h0 : 0 < s.size) : Calls Tryz.prog 135 #[.string s] w (measP s.data.toList w) := by
  have HB := Lib.hid (begins_any ((s[0]'h0).toNat : Int) w)
  have hcons : s.data.toList = (s[0]'h0) :: s.data.toList.drop 1 := drop_cons s.data.toList 0 (by simp; omega)
  by_cases hd : digitB (s[0]'h0) = true
  · have HT := Lib.hid (begT_digit hd)
    have hm := measT_digit (r := s.data.toList.drop 1) hd
    rw [← hcons] at hm
    have HC := Lib.hid (count_numb s w hs)
    have hcl := cnt_le digitB s.data.toList
    rw [size_list] at hcl
    have hx : (s.extract 0 (cnt digitB s.data.toList)).data.toList = s.data.toList.takeWhile digitB := by
      rw [ext_list, List.drop_zero, Nat.sub_zero, take_cnt]
    have hne : (s.extract 0 (cnt digitB s.data.toList)).data.toList ≠ [] := by
      rw [hx, hcons, List.takeWhile_cons, if_pos hd]; simp
    have HN := Lib.hid (number_any (s.extract 0 (cnt digitB s.data.toList)) w hG (by simp only [ByteArray.size_extract]; omega) hne (by rw [hx]; exact while_digits _))
    rw [hx] at HN
    obtain ⟨v, hv⟩ := numT_er (s.data.toList.takeWhile digitB)
    have HV := Lib.hid hv
    have HM := Lib.hid hm
    clear hv hm hx hne hd hcons hG
    generalize cnt digitB s.data.toList = m at *
    generalize (if valOf (s.data.toList.takeWhile digitB) < 9223372036854775808 then 0 else 10) = er at *
    go_enter Tryz.func135, Tryz.ntmps135
    go_wp2_with fail
    with_reducible refine (HB.out).mono ?_
    rintro e w' ⟨rfl, rfl⟩
    rw [HT.out]
    go_wp2_with fail
    with_reducible refine (HC.out).mono ?_
    rintro e w' ⟨rfl, rfl⟩
    go_wp2_with fail
    with_reducible refine (HN.out).mono ?_
    rintro e w' ⟨rfl, hb⟩
    rw [HV.out]
    go_wp2
    go_ret3
    exact ⟨by rw [HM.out]; rfl, hb⟩
  have hd' : digitB (s[0]'h0) = false := by simpa using hd
  by_cases hl : letterB (s[0]'h0) = true
  · have HT := Lib.hid (begT_letter hl)
    have hm := measT_letter (r := s.data.toList.drop 1) hd' hl
    rw [← hcons] at hm
    have HC := Lib.hid (count_name s w hs)
    have HM := Lib.hid hm
    clear hm hd hd' hl hcons hG
    generalize cnt nameB s.data.toList = m at *
    go_enter Tryz.func135, Tryz.ntmps135
    go_wp2_with fail
    with_reducible refine (HB.out).mono ?_
    rintro e w' ⟨rfl, rfl⟩
    rw [HT.out]
    go_wp2_with fail
    with_reducible refine (HC.out).mono ?_
    rintro e w' ⟨rfl, rfl⟩
    go_wp2
    go_ret3
    exact ⟨by rw [HM.out]; rfl, Below.refl _ _⟩
  have hl' : letterB (s[0]'h0) = false := by simpa using hl
  by_cases hq : quoteB (s[0]'h0) = true
  · have HT := Lib.hid (begT_quote hq)
    have hm := measT_quote (r := s.data.toList.drop 1) hq
    rw [← hcons] at hm
    have HC := Lib.hid (label_any s w hs h0)
    have HL := Lib.hid (labT_er (s.data.toList.drop 1))
    have HM := Lib.hid hm
    clear hm hd hd' hl hl' hq hcons hG
    generalize s.data.toList.drop 1 = r at *
    generalize (if labN r = 0 then 20 else 0) = er at *
    go_enter Tryz.func135, Tryz.ntmps135
    go_wp2_with fail
    with_reducible refine (HB.out).mono ?_
    rintro e w' ⟨rfl, rfl⟩
    rw [HT.out]
    go_wp2_with fail
    with_reducible refine (HC.out).mono ?_
    rintro e w' ⟨rfl, rfl⟩
    rw [HL.out]
    go_wp2
    go_ret3
    exact ⟨by rw [HM.out]; rfl, Below.refl _ _⟩
  · have HT := Lib.hid (begT_sign hd' hl' (by simpa using hq))
    have hm := measT_sign (r := s.data.toList.drop 1) hd' hl' (by simpa using hq)
    rw [← hcons] at hm
    have HC := Lib.hid (sign_any s w hs h0)
    have HL := Lib.hid (sigT_er s.data.toList)
    have HM := Lib.hid hm
    clear hm hd hd' hl hl' hq hcons hG
    generalize (if signN s.data.toList = 0 then 20 else 0) = er at *
    go_enter Tryz.func135, Tryz.ntmps135
    go_wp2_with fail
    with_reducible refine (HB.out).mono ?_
    rintro e w' ⟨rfl, rfl⟩
    rw [HT.out]
    go_wp2_with fail
    with_reducible refine (HC.out).mono ?_
    rintro e w' ⟨rfl, rfl⟩
    rw [HL.out]
    go_wp2
    go_ret3
    exact ⟨by rw [HM.out]; rfl, Below.refl _ _⟩

/-- A string out of its bytes. -/
def strV (l : List UInt8) : Value := .string ⟨l.toArray⟩
theorem strV_eq {s : ByteArray} {l : List UInt8} (h : s.data.toList = l) : Value.string s = strV l := by
  unfold strV; rw [← h]
theorem bare_any (k : Nat) (s : ByteArray) (w : World) (hs : s.size ≤ 65536) (h3 : k = 3 → 2 ≤ s.size) : Calls Tryz.prog 136 #[.int .i64 k, .string s] w fun e w' => e = .returned (strV (bareL k s.data.toList)) ∧ w = w' := by
  by_cases hk : k = 3
  · have h2 := h3 hk
    subst hk
    have HB := Lib.hid (show Value.string (s.extract 1 (s.size - 1)) = strV (bareL 3 s.data.toList) from strV_eq (by
      rw [ext_list]
      unfold bareL
      rw [if_pos rfl, size_list]
      congr 1))
    have g : ((s.size : Int) - 1).toNat = s.size - 1 := by omega
    clear h3
    go_enter Tryz.func136, Tryz.ntmps136
    go_wp2
    go_ret
    exact ⟨by rw [← HB.out]; rfl, rfl⟩
  · have HB := Lib.hid (show Value.string s = strV (bareL k s.data.toList) from strV_eq (by unfold bareL; rw [if_neg hk]))
    have g : ((k : Int) == 3) = false := by simp; omega
    clear h3 hk
    go_enter Tryz.func136, Tryz.ntmps136
    go_wp2
    go_ret
    exact ⟨by rw [← HB.out]; rfl, rfl⟩
end
section
open Go.RowKit

theorem infoT : (Tryz.prog.info? 152).map (fun i => (i.zero, i.size, i.bytes)) = some (some (.agg #[.int .i64 0, .string ⟨#[]⟩, .int .i64 0]), 3, 32) := by kernel_rfl

def tokC (t : Tok) : List Value := [.int .i64 t.kind, strV t.text, .int .i64 t.pos]
def cellsT (ts : List Tok) : List Value := ts.flatMap tokC
theorem cellsT_snoc (ts : List Tok) (t : Tok) : cellsT (ts ++ [t]) = cellsT ts ++ tokC t := by simp [cellsT]
theorem cellsT_len (ts : List Tok) : (cellsT ts).length = ts.length * 3 := by
  induction ts with
  | nil => rfl
  | cons t r ih => simp only [cellsT, List.flatMap_cons, List.length_append, List.length_cons] at *; rw [ih]; simp [tokC]; omega

theorem grown_of_below {a w : World} (h : Below a.heap.size a w) (row : Option Nat) : a.grownBy w row := ⟨h.os, h.tape, h.output, h.size, fun i hi _ => h.block i hi⟩
theorem owns_below {w w' : World} {base : Nat} {e : TypeId} {size : Nat} {v : Value} {n : Nat} {xs : List Value} (h : w.ownsRow base e size v n xs) (hb : Below w.heap.size w w') : w'.ownsRow base e size v n xs := by
  refine h.kept (grown_of_below hb none) ?_
  cases v.ownBlock with
  | none => exact .inl rfl
  | some g => exact .inr (by simp)
theorem owns_lt {w : World} {base : Nat} {e : TypeId} {size : Nat} {v : Value} {n : Nat} {xs : List Value} (h : w.ownsRow base e size v n xs) : ∀ k, v.ownBlock = some k → base ≤ k := fun k hk => (h.lt k hk).1

/-- What the program's loop keeps. -/
def TokRel (l : List UInt8) (w0 : World) (v i : Value) (wr : World) : Prop :=
  ∃ (acc : List Tok) (k : Nat), i = .int .i64 (k : Int) ∧ k ≤ l.length ∧ blanks false (l.drop k) = 0 ∧ toks l = onto acc (scanG l k) ∧ acc.length ≤ k ∧ wr.ownsRow w0.heap.size 152 3 v acc.length (cellsT acc) ∧ Below w0.heap.size w0 wr
/-- What is told of a text. -/
def TokP (r : Res) (w : World) (e : Ending) (w' : World) : Prop :=
  (∃ ts v, r = .ok ts ∧ e = .returned (.tuple #[v, .nilIface]) ∧ 0 < ts.length ∧ ts.length ≤ 65537 ∧ w'.ownsRow w.heap.size 152 3 v ts.length (cellsT ts) ∧ Below w.heap.size w w') ∨
  (∃ x p b, r = .error (x, p) ∧ e = .returned (.tuple #[.slice none 0 0, .iface 190 (.pointer (some ⟨b, 0, none⟩))]) ∧ w.heap.size ≤ b ∧ x ≠ 0 ∧ w'.cell? ⟨b, 0, none⟩ = some (.int .i64 (p : Int)) ∧ w'.cell? ⟨b, 1, none⟩ = some (.iface 78 (.int .i64 (x : Int))) ∧ (∃ cs, w'.heap[b]? = some (.cells cs 192 (0, 0))) ∧ Below w.heap.size w w')

theorem tok_er {l : List UInt8} {acc : List Tok} {k : Nat} (hk : k < l.length) (hb : blanks false (l.drop k) = 0) (ht : toks l = onto acc (scanG l k)) (he : (meas (l.drop k)).2.2 ≠ 0) : toks l = .error ((meas (l.drop k)).2.2, k) := by
  rw [ht, scanG_at (by omega) hb, tokG, if_neg (drop_ne hk), if_neg he]; rfl
theorem tok_on {l : List UInt8} {acc : List Tok} {k : Nat} (hk : k < l.length) (hb : blanks false (l.drop k) = 0) (ht : toks l = onto acc (scanG l k)) (he : (meas (l.drop k)).2.2 = 0) :
    toks l = onto (acc ++ [⟨(meas (l.drop k)).1, bareL (meas (l.drop k)).1 ((l.drop k).take (meas (l.drop k)).2.1), k⟩]) (scanG l (k + (meas (l.drop k)).2.1 + blanks false (l.drop (k + (meas (l.drop k)).2.1)))) := by
  have hm := meas_le (l.drop k)
  rw [List.length_drop] at hm
  have hb2 := blanks_le false (l.drop (k + (meas (l.drop k)).2.1))
  rw [List.length_drop] at hb2
  have e : blanks false (l.drop (k + (meas (l.drop k)).2.1)) = blanks false (l.drop (k + (meas (l.drop k)).2.1)) + blanks false (l.drop (k + (meas (l.drop k)).2.1 + blanks false (l.drop (k + (meas (l.drop k)).2.1)))) := by
    rw [blanks_twice]
    rfl
  rw [ht, scanG_at (by omega) hb, tokG, if_neg (drop_ne hk), if_pos he, onto_onto, scanG_skip (by omega) e]
theorem tok_end {l : List UInt8} {acc : List Tok} (ht : toks l = onto acc (scanG l l.length)) : toks l = .ok (acc ++ [⟨0, [], l.length⟩]) := by
  rw [ht, scanG_at (Nat.le_refl _) (blanks_end l), tokG_end]; rfl
theorem quote_len {l : List UInt8} {k : Nat} (hk : k < l.length) (he : (meas (l.drop k)).2.2 = 0) (h3 : (meas (l.drop k)).1 = 3) : 2 ≤ (meas (l.drop k)).2.1 := by
  rw [drop_cons l k hk] at *
  simp only [meas] at *
  split at h3
  · simp at h3
  · split at h3
    · simp at h3
    · split at h3
      · rename_i h1 h2 h4
        rw [if_neg h1, if_neg h2, if_pos h4] at he ⊢
        simp only at he ⊢
        split at he
        · cases he
        · rename_i hx
          unfold labN at hx ⊢
          split
          · rename_i hy; rw [if_pos hy] at hx; exact absurd rfl hx
          · omega
      · simp at h3
end
section
open Go.RowKit

set_option maxHeartbeats 2000000 in
theorem tokens_any (s : ByteArray) (w : World) (hG : GlobS w) (hs : s.size ≤ 65536) : Calls Tryz.prog 103 #[.string s] w (TokP (toks s.data.toList) w) := by
  have HZ := Lib.hid (size_list s)
  have HG := Lib.hid hG
  obtain ⟨i0, hi0, hz⟩ := Option.map_eq_some_iff.1 infoT
  simp only [Prod.mk.injEq] at hz
  obtain ⟨hz0, hz1, hz2⟩ := hz
  have HZ0 := Lib.hid hz0
  have HZ1 := Lib.hid hz1
  have HZ2 := Lib.hid hz2
  have HI := Lib.hid hi0
  have H1 := Lib.hid (clone_any s w hs)
  obtain ⟨b0, hb0⟩ : ∃ b0, b0 = blanks false (s.data.toList.drop 0) := ⟨_, rfl⟩
  have h2 : ∀ W : World, Calls Tryz.prog 134 #[.string s, .int .i64 0] W fun e w' => e = .returned (.int .i64 (b0 : Int)) ∧ W = w' := fun W => by
    have h := skipb_any s 0 W hs (by omega)
    rw [← hb0, Nat.zero_add] at h
    exact h
  have H2 := Lib.hid h2
  have hbl := blanks_le false (s.data.toList.drop 0)
  rw [List.length_drop, HZ.out, ← hb0] at hbl
  have hbt := blanks_twice s.data.toList 0
  rw [← hb0, Nat.zero_add] at hbt
  have HS := Lib.hid (show scanG s.data.toList 0 = scanG s.data.toList b0 by
    have h := scanG_skip (l := s.data.toList) (i := 0) (b := b0) (by rw [HZ.out]; omega) (by rw [Nat.zero_add, hbt, ← hb0]; rfl)
    rw [Nat.zero_add] at h
    exact h)
  have HB0 := Lib.hid hbt
  have hbl0 : b0 ≤ s.size := by omega
  have g65 : decide (65536 < (s.size : Int)) = false := by simp; omega
  clear hz0 hz1 hz2 hi0 hG hbl hb0 hbt h2
  go_enter Tryz.func103, Tryz.ntmps103
  go_wp2_with fail
  with_reducible refine (H1.out).mono ?_
  rintro e w1 ⟨rfl, hb1⟩
  have HB1 := Lib.hid hb1
  clear hb1
  go_wp2_with fail
  with_reducible refine (H2.out w1).mono ?_
  rintro e w' ⟨rfl, rfl⟩
  clear H1 H2 g65
  go_wp2_with fail
  go_loopw [4, 5] (fun v i wr => TokRel s.data.toList w v i wr) (fun _ i _ => s.size - (intOf i).toNat)
  case atStart => exact ⟨[], b0, rfl, by rw [HZ.out]; omega, HB0.out, by rw [toks_eq, HS.out, onto_nil], Nat.zero_le _, World.ownsRow_nil _ _ _ _, HB1.out⟩
  case round =>
    obtain ⟨acc, k, rfl, hk, hbk, htk, hacc, hown, hbw⟩ := hrel
    rw [HZ.out] at hk
    by_cases hlt : k < s.size
    · have hGr : GlobS wr := HG.out.below hbw
      have hkl : k < s.data.toList.length := by rw [HZ.out]; exact hlt
      have hm := measure_any (s.extract k s.size) wr hGr (by simp only [ByteArray.size_extract]; omega) (by simp only [ByteArray.size_extract]; omega)
      rw [ext_end] at hm
      have hml := meas_le (s.data.toList.drop k)
      rw [List.length_drop, HZ.out] at hml
      have hmp := meas_pos (s.data.toList.drop k) (drop_ne hkl)
      have hql := quote_len hkl
      have her := tok_er hkl hbk htk
      have hon := tok_on hkl hbk htk
      have hacc' : acc.length ≤ 65536 := by omega
      unfold measP measT at hm
      by_cases he : (meas (s.data.toList.drop k)).2.2 = 0
      · have hmp := hmp he
        have hql := hql he
        have hon := hon he
        rw [he] at hm
        have HM := Lib.hid hm
        have HON := Lib.hid hon
        have hx : (s.extract k (k + (meas (s.data.toList.drop k)).2.1)).data.toList = (s.data.toList.drop k).take (meas (s.data.toList.drop k)).2.1 := by
          rw [ext_list, Nat.add_sub_cancel_left]
        have hbr := fun W : World => bare_any (meas (s.data.toList.drop k)).1 (s.extract k (k + (meas (s.data.toList.drop k)).2.1)) W (by simp only [ByteArray.size_extract]; omega) (fun h => by simp only [ByteArray.size_extract]; have := hql h; omega)
        rw [hx] at hbr
        have HBR := Lib.hid hbr
        have hsk : ∀ W : World, Calls Tryz.prog 134 #[.string s, .int .i64 ((k : Int) + ((meas (s.data.toList.drop k)).2.1 : Int))] W fun e w' => e = .returned (.int .i64 ((k + (meas (s.data.toList.drop k)).2.1 + blanks false (s.data.toList.drop (k + (meas (s.data.toList.drop k)).2.1)) : Nat) : Int)) ∧ W = w' := fun W => skipb_any s (k + (meas (s.data.toList.drop k)).2.1) W hs (by omega)
        have HSK := Lib.hid hsk
        have hbl2 := blanks_le false (s.data.toList.drop (k + (meas (s.data.toList.drop k)).2.1))
        rw [List.length_drop, HZ.out] at hbl2
        have HT2 := Lib.hid (blanks_twice s.data.toList (k + (meas (s.data.toList.drop k)).2.1))
        have HOW := Lib.hid hown
        have HBW := Lib.hid hbw
        clear hon hm her hx hbr hsk hown hbw htk hbk hGr hql he hkl
        generalize bareL (meas (s.data.toList.drop k)).1 ((s.data.toList.drop k).take (meas (s.data.toList.drop k)).2.1) = tx at *
        generalize (meas (s.data.toList.drop k)).1 = kd at *
        generalize (meas (s.data.toList.drop k)).2.1 = n at *
        generalize hbn : blanks false (s.data.toList.drop (k + n)) = bn at *
        have HBN := Lib.hid hbn
        clear hbn
        go_wp2_with fail
        with_reducible refine (HM.out).mono ?_
        rintro e w2 ⟨rfl, hb2⟩
        have e0 : erV 0 = .nilIface := rfl
        rw [e0]
        clear e0
        have HB2 := Lib.hid hb2
        clear hb2
        go_wp2_with fail
        with_reducible refine (HBR.out w2).mono ?_
        rintro e w' ⟨rfl, rfl⟩
        have e1 : strV tx = .string ⟨tx.toArray⟩ := rfl
        rw [e1]
        clear e1
        generalize htb : (⟨tx.toArray⟩ : ByteArray) = tb
        have HTB := Lib.hid htb
        clear htb
        have HO2 := Lib.hid (owns_below HOW.out HB2.out)
        have hz2 : w.heap.size ≤ w2.heap.size := Nat.le_trans HBW.out.size HB2.out.size
        go_wp2_with (at_builtin; refine wpList_append_own _ rfl _ _ 146 rfl w.heap.size 152 i0 (.agg #[.int .i64 0, .string ⟨#[]⟩, .int .i64 0]) 3 32 Tryz.underlying146 HI.out HZ0.out HZ1.out HZ2.out rfl (by decide) _ _ _ rfl (HO2.out.alloc _) ⟨w2.heap.size, 0, none⟩ 1 1 [.int .i64 kd, .string tb, .int .i64 k] rfl rfl ?c1 ?c2 ?c3 ?c4 ?c5 ?_)
        case c1 =>
          intro j x hj
          match j, hj with
          | 0, hj => simp at hj; subst hj; simp [Addr.add]
          | 1, hj => simp at hj; subst hj; simp [Addr.add]
          | 2, hj => simp at hj; subst hj; simp [Addr.add]
        case c2 => intro x hx; simp at hx; rcases hx with rfl | rfl | rfl <;> rfl
        case c3 => unfold maxLen; omega
        case c4 => omega
        case c5 => simp; omega
        intro v3 w3 hown3 hgrow3 _
        have HB3 := Lib.hid (((HBW.out.trans (HB2.out.mono HBW.out.size)).alloc hz2 _).grown hgrow3 (by simp; omega) (fun g hg => owns_lt HO2.out g hg))
        have HO3 := Lib.hid hown3
        clear hown3 hgrow3
        go_wp2_with fail
        with_reducible refine (HSK.out w3).mono ?_
        rintro e w' ⟨rfl, rfl⟩
        go_wp2_with fail
        go_roundw
        case rel =>
          refine ⟨acc ++ [⟨kd, tx, k⟩], k + n + bn, rfl, by rw [HZ.out]; omega, HT2.out, HON.out, by simp; omega, ?_, HB3.out⟩
          have h := HO3.out
          rw [← HTB.out] at h
          rw [cellsT_snoc, List.length_append]
          exact h
        case measure => simp [intOf]; omega
      · have her := her he
        have hv : erV (meas (s.data.toList.drop k)).2.2 = .iface 78 (.int .i64 (meas (s.data.toList.drop k)).2.2) := by unfold erV; rw [if_neg he]
        rw [hv] at hm
        have HM := Lib.hid hm
        have HER := Lib.hid her
        have HNE := Lib.hid he
        have HBW := Lib.hid hbw
        clear hm her hv hon hql hmp hown hbw htk hbk hGr he hkl
        generalize (meas (s.data.toList.drop k)).1 = kd at *
        generalize (meas (s.data.toList.drop k)).2.1 = n at *
        generalize (meas (s.data.toList.drop k)).2.2 = er at *
        go_wp2_with fail
        with_reducible refine (HM.out).mono ?_
        rintro e w2 ⟨rfl, hb2⟩
        have HB2 := Lib.hid hb2
        clear hb2
        go_wp2
        go_ret2
        have hb := HBW.out.trans (HB2.out.mono HBW.out.size)
        refine .inr ⟨er, k, w2.heap.size, HER.out, rfl, hb.size, HNE.out, by simp, by simp, ⟨_, heap_alloc_new _ _⟩, hb.alloc hb.size _⟩
    · have hkl : k = s.data.toList.length := by rw [HZ.out]; omega
      have g : decide (k < s.size) = false := by simpa using hlt
      have HEND := Lib.hid (tok_end (l := s.data.toList) (acc := acc) (by rw [← hkl]; exact htk))
      have HKL := Lib.hid hkl
      have HOW := Lib.hid hown
      have HBW := Lib.hid hbw
      clear hown hbw htk hbk hkl
      have hz2 : w.heap.size ≤ wr.heap.size := HBW.out.size
      go_wp2_with (at_builtin; refine wpList_append_own _ rfl _ _ 146 rfl w.heap.size 152 i0 (.agg #[.int .i64 0, .string ⟨#[]⟩, .int .i64 0]) 3 32 Tryz.underlying146 HI.out HZ0.out HZ1.out HZ2.out rfl (by decide) _ _ _ rfl (HOW.out.alloc _) ⟨wr.heap.size, 0, none⟩ 1 1 [.int .i64 0, .string ⟨#[]⟩, .int .i64 s.size] rfl rfl ?c1 ?c2 ?c3 ?c4 ?c5 ?_)
      case c1 =>
        intro j x hj
        match j, hj with
        | 0, hj => simp at hj; subst hj; simp [Addr.add]
        | 1, hj => simp at hj; subst hj; simp [Addr.add]
        | 2, hj => simp at hj; subst hj; simp [Addr.add]
      case c2 => intro x hx; simp at hx; rcases hx with rfl | rfl | rfl <;> rfl
      case c3 => unfold maxLen; omega
      case c4 => omega
      case c5 => simp; omega
      intro v3 w3 hown3 hgrow3 _
      have HB3 := Lib.hid ((HBW.out.alloc hz2 _).grown hgrow3 (by simp; omega) (fun g hg => owns_lt HOW.out g hg))
      have HO3 := Lib.hid hown3
      clear hown3 hgrow3
      go_wp2
      go_ret2
      refine .inl ⟨acc ++ [⟨0, [], s.data.toList.length⟩], v3, HEND.out, rfl, by simp, by simp; omega, ?_, HB3.out⟩
      rw [cellsT_snoc, List.length_append, HZ.out]
      exact HO3.out
end
end Go.Proofs.YtmgjpjjglghbaaaGreatDoor
