/-
  The length of a sign.
-/
import Derived.Test.YtfemddchaihokaaDoorL4
namespace Go.Proofs.YtfemddchaihokaaDoor
open Go.RowKit

def sigT (l : List UInt8) : Value := if signN l = 0 then .tuple #[.int .i64 0, .iface 55 (.int .i64 20)] else .tuple #[.int .i64 (signN l), .nilIface]
def sigQ (l : List UInt8) (w : World) (e : Ending) (w' : World) : Prop := e = .returned (sigT l) ∧ w = w'
theorem twoB_take (l : List UInt8) : twoB l = (l.take 2 == [45, 62] || l.take 2 == [60, 61] || l.take 2 == [62, 61] || l.take 2 == [33, 61] || l.take 2 == [61, 62] || l.take 2 == [46, 46]) := by
  match l with
  | [] => rfl
  | [a] => simp [twoB]
  | a :: b :: r =>
    have e : ∀ p q : UInt8, ((a :: b :: r).take 2 == [p, q]) = (a.toNat == p.toNat && b.toNat == q.toNat) := by
      intro p q
      rw [Bool.eq_iff_iff]
      simp [UInt8.toNat_inj]
    simp only [e]
    rfl
theorem sig_two {l : List UInt8} (h : twoB l = true) : sigT l = .tuple #[.int .i64 2, .nilIface] := by
  cases l with
  | nil => cases h
  | cons c r =>
    have e : signN (c :: r) = 2 := by simp [signN, h]
    unfold sigT; rw [e]; rfl
theorem sig_one {c : UInt8} {r : List UInt8} (h : twoB (c :: r) = false) (h1 : oneB c = true) : sigT (c :: r) = .tuple #[.int .i64 1, .nilIface] := by
  have e : signN (c :: r) = 1 := by simp [signN, h, h1]
  unfold sigT; rw [e]; rfl
theorem sig_none {c : UInt8} {r : List UInt8} (h : twoB (c :: r) = false) (h1 : oneB c = false) : sigT (c :: r) = .tuple #[.int .i64 0, .iface 55 (.int .i64 20)] := by
  have e : signN (c :: r) = 0 := by simp [signN, h, h1]
  unfold sigT; rw [e]; rfl
theorem ne_nat {c : UInt8} {n : Nat} (h : ¬ c.toNat = n) : (((c.toNat : Nat) : Int) == (n : Int)) = false := by
  rw [beq_eq_false_iff_ne]; omega

set_option maxHeartbeats 4000000 in
theorem sign_any (s : ByteArray) (w : World) (hs : s.size ≤ 65536) (h0 : 0 < s.size) : Calls Tryd.prog 43 #[.string s] w (sigQ s.data.toList w) := by
  have hx : (s.extract 0 (min 2 (s.size : Int)).toNat).toList = s.data.toList.take 2 := by
    rw [ByteArray.toList_eq, ext_list, List.drop_zero, Nat.sub_zero]
    by_cases h : 2 ≤ s.size
    · have e : (min 2 (s.size : Int)).toNat = 2 := by omega
      rw [e]
    · have e : (min 2 (s.size : Int)).toNat = s.size := by omega
      rw [e, List.take_of_length_le (by simp), List.take_of_length_le (by simp; omega)]
  have htw := twoB_take s.data.toList
  rw [← hx] at htw
  have hcons : s.data.toList = (s[0]'(by omega)) :: s.data.toList.drop 1 := drop_cons s.data.toList 0 (by simp; omega)
  clear hx
  by_cases q0 : ((s.extract 0 (min 2 (s.size : Int)).toNat).toList == [45, 62]) = true
  · have HT := Lib.hid (sig_two (l := s.data.toList) (by rw [htw]; simp [q0]))
    clear htw hcons
    go_enter Tryd.func43, Tryd.ntmps43
    go_wp2
    go_ret2
    exact ⟨by rw [HT.out]; rfl, rfl⟩
  replace q0 : ((s.extract 0 (min 2 (s.size : Int)).toNat).toList == [45, 62]) = false := by simpa using q0
  by_cases q1 : ((s.extract 0 (min 2 (s.size : Int)).toNat).toList == [60, 61]) = true
  · have HT := Lib.hid (sig_two (l := s.data.toList) (by rw [htw]; simp [q1]))
    clear htw hcons
    go_enter Tryd.func43, Tryd.ntmps43
    go_wp2
    go_ret2
    exact ⟨by rw [HT.out]; rfl, rfl⟩
  replace q1 : ((s.extract 0 (min 2 (s.size : Int)).toNat).toList == [60, 61]) = false := by simpa using q1
  by_cases q2 : ((s.extract 0 (min 2 (s.size : Int)).toNat).toList == [62, 61]) = true
  · have HT := Lib.hid (sig_two (l := s.data.toList) (by rw [htw]; simp [q2]))
    clear htw hcons
    go_enter Tryd.func43, Tryd.ntmps43
    go_wp2
    go_ret2
    exact ⟨by rw [HT.out]; rfl, rfl⟩
  replace q2 : ((s.extract 0 (min 2 (s.size : Int)).toNat).toList == [62, 61]) = false := by simpa using q2
  by_cases q3 : ((s.extract 0 (min 2 (s.size : Int)).toNat).toList == [33, 61]) = true
  · have HT := Lib.hid (sig_two (l := s.data.toList) (by rw [htw]; simp [q3]))
    clear htw hcons
    go_enter Tryd.func43, Tryd.ntmps43
    go_wp2
    go_ret2
    exact ⟨by rw [HT.out]; rfl, rfl⟩
  replace q3 : ((s.extract 0 (min 2 (s.size : Int)).toNat).toList == [33, 61]) = false := by simpa using q3
  by_cases q4 : ((s.extract 0 (min 2 (s.size : Int)).toNat).toList == [61, 62]) = true
  · have HT := Lib.hid (sig_two (l := s.data.toList) (by rw [htw]; simp [q4]))
    clear htw hcons
    go_enter Tryd.func43, Tryd.ntmps43
    go_wp2
    go_ret2
    exact ⟨by rw [HT.out]; rfl, rfl⟩
  replace q4 : ((s.extract 0 (min 2 (s.size : Int)).toNat).toList == [61, 62]) = false := by simpa using q4
  by_cases q5 : ((s.extract 0 (min 2 (s.size : Int)).toNat).toList == [46, 46]) = true
  · have HT := Lib.hid (sig_two (l := s.data.toList) (by rw [htw]; simp [q5]))
    clear htw hcons
    go_enter Tryd.func43, Tryd.ntmps43
    go_wp2
    go_ret2
    exact ⟨by rw [HT.out]; rfl, rfl⟩
  replace q5 : ((s.extract 0 (min 2 (s.size : Int)).toNat).toList == [46, 46]) = false := by simpa using q5
  have ht : twoB s.data.toList = false := by rw [htw, q0, q1, q2, q3, q4, q5]; rfl
  clear htw
  rw [hcons] at ht
  have HH := Lib.hid hcons
  clear hcons
  by_cases o0 : (s[0]'(by omega)).toNat = 91
  · have HT := Lib.hid (sig_one ht (by simp [oneB, o0]))
    have k0 : ((((s[0]'(by omega))).toNat : Int) == 91) = true := by rw [o0]; rfl
    clear o0 ht
    go_enter Tryd.func43, Tryd.ntmps43
    go_wp2
    go_ret2
    exact ⟨by rw [HH.out, HT.out]; rfl, rfl⟩
  have k0 : ((((s[0]'(by omega))).toNat : Int) == 91) = false := ne_nat o0
  by_cases o1 : (s[0]'(by omega)).toNat = 93
  · have HT := Lib.hid (sig_one ht (by simp [oneB, o1]))
    have k1 : ((((s[0]'(by omega))).toNat : Int) == 93) = true := by rw [o1]; rfl
    clear o1 ht
    go_enter Tryd.func43, Tryd.ntmps43
    go_wp2
    go_ret2
    exact ⟨by rw [HH.out, HT.out]; rfl, rfl⟩
  have k1 : ((((s[0]'(by omega))).toNat : Int) == 93) = false := ne_nat o1
  by_cases o2 : (s[0]'(by omega)).toNat = 40
  · have HT := Lib.hid (sig_one ht (by simp [oneB, o2]))
    have k2 : ((((s[0]'(by omega))).toNat : Int) == 40) = true := by rw [o2]; rfl
    clear o2 ht
    go_enter Tryd.func43, Tryd.ntmps43
    go_wp2
    go_ret2
    exact ⟨by rw [HH.out, HT.out]; rfl, rfl⟩
  have k2 : ((((s[0]'(by omega))).toNat : Int) == 40) = false := ne_nat o2
  by_cases o3 : (s[0]'(by omega)).toNat = 41
  · have HT := Lib.hid (sig_one ht (by simp [oneB, o3]))
    have k3 : ((((s[0]'(by omega))).toNat : Int) == 41) = true := by rw [o3]; rfl
    clear o3 ht
    go_enter Tryd.func43, Tryd.ntmps43
    go_wp2
    go_ret2
    exact ⟨by rw [HH.out, HT.out]; rfl, rfl⟩
  have k3 : ((((s[0]'(by omega))).toNat : Int) == 41) = false := ne_nat o3
  by_cases o4 : (s[0]'(by omega)).toNat = 58
  · have HT := Lib.hid (sig_one ht (by simp [oneB, o4]))
    have k4 : ((((s[0]'(by omega))).toNat : Int) == 58) = true := by rw [o4]; rfl
    clear o4 ht
    go_enter Tryd.func43, Tryd.ntmps43
    go_wp2
    go_ret2
    exact ⟨by rw [HH.out, HT.out]; rfl, rfl⟩
  have k4 : ((((s[0]'(by omega))).toNat : Int) == 58) = false := ne_nat o4
  by_cases o5 : (s[0]'(by omega)).toNat = 59
  · have HT := Lib.hid (sig_one ht (by simp [oneB, o5]))
    have k5 : ((((s[0]'(by omega))).toNat : Int) == 59) = true := by rw [o5]; rfl
    clear o5 ht
    go_enter Tryd.func43, Tryd.ntmps43
    go_wp2
    go_ret2
    exact ⟨by rw [HH.out, HT.out]; rfl, rfl⟩
  have k5 : ((((s[0]'(by omega))).toNat : Int) == 59) = false := ne_nat o5
  by_cases o6 : (s[0]'(by omega)).toNat = 44
  · have HT := Lib.hid (sig_one ht (by simp [oneB, o6]))
    have k6 : ((((s[0]'(by omega))).toNat : Int) == 44) = true := by rw [o6]; rfl
    clear o6 ht
    go_enter Tryd.func43, Tryd.ntmps43
    go_wp2
    go_ret2
    exact ⟨by rw [HH.out, HT.out]; rfl, rfl⟩
  have k6 : ((((s[0]'(by omega))).toNat : Int) == 44) = false := ne_nat o6
  by_cases o7 : (s[0]'(by omega)).toNat = 43
  · have HT := Lib.hid (sig_one ht (by simp [oneB, o7]))
    have k7 : ((((s[0]'(by omega))).toNat : Int) == 43) = true := by rw [o7]; rfl
    clear o7 ht
    go_enter Tryd.func43, Tryd.ntmps43
    go_wp2
    go_ret2
    exact ⟨by rw [HH.out, HT.out]; rfl, rfl⟩
  have k7 : ((((s[0]'(by omega))).toNat : Int) == 43) = false := ne_nat o7
  by_cases o8 : (s[0]'(by omega)).toNat = 45
  · have HT := Lib.hid (sig_one ht (by simp [oneB, o8]))
    have k8 : ((((s[0]'(by omega))).toNat : Int) == 45) = true := by rw [o8]; rfl
    clear o8 ht
    go_enter Tryd.func43, Tryd.ntmps43
    go_wp2
    go_ret2
    exact ⟨by rw [HH.out, HT.out]; rfl, rfl⟩
  have k8 : ((((s[0]'(by omega))).toNat : Int) == 45) = false := ne_nat o8
  by_cases o9 : (s[0]'(by omega)).toNat = 42
  · have HT := Lib.hid (sig_one ht (by simp [oneB, o9]))
    have k9 : ((((s[0]'(by omega))).toNat : Int) == 42) = true := by rw [o9]; rfl
    clear o9 ht
    go_enter Tryd.func43, Tryd.ntmps43
    go_wp2
    go_ret2
    exact ⟨by rw [HH.out, HT.out]; rfl, rfl⟩
  have k9 : ((((s[0]'(by omega))).toNat : Int) == 42) = false := ne_nat o9
  by_cases o10 : (s[0]'(by omega)).toNat = 38
  · have HT := Lib.hid (sig_one ht (by simp [oneB, o10]))
    have k10 : ((((s[0]'(by omega))).toNat : Int) == 38) = true := by rw [o10]; rfl
    clear o10 ht
    go_enter Tryd.func43, Tryd.ntmps43
    go_wp2
    go_ret2
    exact ⟨by rw [HH.out, HT.out]; rfl, rfl⟩
  have k10 : ((((s[0]'(by omega))).toNat : Int) == 38) = false := ne_nat o10
  by_cases o11 : (s[0]'(by omega)).toNat = 124
  · have HT := Lib.hid (sig_one ht (by simp [oneB, o11]))
    have k11 : ((((s[0]'(by omega))).toNat : Int) == 124) = true := by rw [o11]; rfl
    clear o11 ht
    go_enter Tryd.func43, Tryd.ntmps43
    go_wp2
    go_ret2
    exact ⟨by rw [HH.out, HT.out]; rfl, rfl⟩
  have k11 : ((((s[0]'(by omega))).toNat : Int) == 124) = false := ne_nat o11
  by_cases o12 : (s[0]'(by omega)).toNat = 33
  · have HT := Lib.hid (sig_one ht (by simp [oneB, o12]))
    have k12 : ((((s[0]'(by omega))).toNat : Int) == 33) = true := by rw [o12]; rfl
    clear o12 ht
    go_enter Tryd.func43, Tryd.ntmps43
    go_wp2
    go_ret2
    exact ⟨by rw [HH.out, HT.out]; rfl, rfl⟩
  have k12 : ((((s[0]'(by omega))).toNat : Int) == 33) = false := ne_nat o12
  by_cases o13 : (s[0]'(by omega)).toNat = 61
  · have HT := Lib.hid (sig_one ht (by simp [oneB, o13]))
    have k13 : ((((s[0]'(by omega))).toNat : Int) == 61) = true := by rw [o13]; rfl
    clear o13 ht
    go_enter Tryd.func43, Tryd.ntmps43
    go_wp2
    go_ret2
    exact ⟨by rw [HH.out, HT.out]; rfl, rfl⟩
  have k13 : ((((s[0]'(by omega))).toNat : Int) == 61) = false := ne_nat o13
  by_cases o14 : (s[0]'(by omega)).toNat = 60
  · have HT := Lib.hid (sig_one ht (by simp [oneB, o14]))
    have k14 : ((((s[0]'(by omega))).toNat : Int) == 60) = true := by rw [o14]; rfl
    clear o14 ht
    go_enter Tryd.func43, Tryd.ntmps43
    go_wp2
    go_ret2
    exact ⟨by rw [HH.out, HT.out]; rfl, rfl⟩
  have k14 : ((((s[0]'(by omega))).toNat : Int) == 60) = false := ne_nat o14
  by_cases o15 : (s[0]'(by omega)).toNat = 62
  · have HT := Lib.hid (sig_one ht (by simp [oneB, o15]))
    have k15 : ((((s[0]'(by omega))).toNat : Int) == 62) = true := by rw [o15]; rfl
    clear o15 ht
    go_enter Tryd.func43, Tryd.ntmps43
    go_wp2
    go_ret2
    exact ⟨by rw [HH.out, HT.out]; rfl, rfl⟩
  have k15 : ((((s[0]'(by omega))).toNat : Int) == 62) = false := ne_nat o15
  by_cases o16 : (s[0]'(by omega)).toNat = 63
  · have HT := Lib.hid (sig_one ht (by simp [oneB, o16]))
    have k16 : ((((s[0]'(by omega))).toNat : Int) == 63) = true := by rw [o16]; rfl
    clear o16 ht
    go_enter Tryd.func43, Tryd.ntmps43
    go_wp2
    go_ret2
    exact ⟨by rw [HH.out, HT.out]; rfl, rfl⟩
  have k16 : ((((s[0]'(by omega))).toNat : Int) == 63) = false := ne_nat o16
  by_cases o17 : (s[0]'(by omega)).toNat = 39
  · have HT := Lib.hid (sig_one ht (by simp [oneB, o17]))
    have k17 : ((((s[0]'(by omega))).toNat : Int) == 39) = true := by rw [o17]; rfl
    clear o17 ht
    go_enter Tryd.func43, Tryd.ntmps43
    go_wp2
    go_ret2
    exact ⟨by rw [HH.out, HT.out]; rfl, rfl⟩
  have k17 : ((((s[0]'(by omega))).toNat : Int) == 39) = false := ne_nat o17
  have HT := Lib.hid (sig_none ht (by simp [oneB, o0, o1, o2, o3, o4, o5, o6, o7, o8, o9, o10, o11, o12, o13, o14, o15, o16, o17]))
  clear o0 o1 o2 o3 o4 o5 o6 o7 o8 o9 o10 o11 o12 o13 o14 o15 o16 o17 ht
  go_enter Tryd.func43, Tryd.ntmps43
  go_wp2
  go_ret2
  exact ⟨by rw [HH.out, HT.out]; rfl, rfl⟩
end Go.Proofs.YtfemddchaihokaaDoor
