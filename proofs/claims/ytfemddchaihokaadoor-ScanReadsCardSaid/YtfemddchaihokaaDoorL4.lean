/-
  The number of digits, the length of a label and of a sign, a token's bare text, a copy.
-/
import Derived.Test.YtfemddchaihokaaDoorL3
import Derived.Test.YtfemddchaihokaaDoorM2
import Derived.Test.YtfemddchaihokaaDoorE2
import Derived.Test.YtfemddchaihokaaDoorH1
namespace Go.Proofs.YtfemddchaihokaaDoor
open Go.RowKit

/-- The package variables as the program's text lays them. -/
structure GlobS (w : World) : Prop where
  glob : Glob w
  rng : ∃ te pe, w.cell? ⟨2, 0, none⟩ = some (.iface te pe)
theorem GlobS.below {w w' : World} (h : GlobS w) (hb : Below w.heap.size w w') : GlobS w' :=
  ⟨h.glob.below hb, by
    obtain ⟨te, pe, he⟩ := h.rng
    exact ⟨te, pe, (hb.cell (p := ⟨2, 0, none⟩) (World.block_lt_of_cell? w _ he)).trans he⟩⟩

def numT (l : List UInt8) : Value := if valOf l < 9223372036854775808 then .tuple #[.int .i64 (valOf l), .nilIface] else .tuple #[.int .i64 0, .iface 55 (.int .i64 10)]
def numP (l : List UInt8) (w : World) (e : Ending) (w' : World) : Prop := e = .returned (numT l) ∧ Below w.heap.size w w'
theorem number_any (s : ByteArray) (w : World) (hG : GlobS w) (hs : s.size ≤ 65536) (h0 : s.data.toList ≠ []) (hd : ∀ c ∈ s.data.toList, digitB c = true) :
    Calls Tryd.prog 33 #[.string s] w (numP s.data.toList w) := by
  have hp := parse_digits s.data.toList h0 hd
  by_cases hv : valOf s.data.toList < 9223372036854775808
  · rw [if_pos hv] at hp
    have HT := Lib.hid (show numT s.data.toList = .tuple #[.int .i64 (valOf s.data.toList), .nilIface] by unfold numT; rw [if_pos hv])
    have H := Lib.hid (Tryd.strconv_ParseInt_10_at64_ok s (by omega) _ hp w)
    clear hp hv hd h0
    generalize ((valOf s.data.toList : Nat) : Int) = v at *
    go_enter Tryd.func33, Tryd.ntmps33
    go_wp2_with fail
    with_reducible refine (H.out).mono ?_
    rintro e w' ⟨rfl, hw⟩
    have hb : Below w.heap.size w w' := by
      rcases hw with rfl | ⟨t, rfl⟩
      · exact Below.refl _ _
      · exact Lib.bytesWorld_below w _ t
    clear hw
    go_wp2
    go_ret2
    exact ⟨by rw [HT.out]; rfl, hb⟩
  · rw [if_neg hv] at hp
    have HT := Lib.hid (show numT s.data.toList = .tuple #[.int .i64 0, .iface 55 (.int .i64 10)] by unfold numT; rw [if_neg hv])
    obtain ⟨te, pe, he⟩ := hG.rng
    have H := Lib.hid (Tryd.strconv_ParseInt_10_at64_range s (by omega) hp _ w he (.inr ⟨te, pe, rfl⟩))
    clear hp hv hd h0 he
    go_enter Tryd.func33, Tryd.ntmps33
    go_wp2_with fail
    with_reducible refine (H.out).mono ?_
    rintro e w' ⟨N, rfl, _, _, hb⟩
    go_wp2
    go_ret2
    exact ⟨by rw [HT.out]; rfl, hb⟩

theorem clone_any (s : ByteArray) (w : World) (hs : s.size ≤ 65536) : Calls Tryd.prog 23 #[.string s] w fun e w' => e = .returned (.string s) ∧ Below w.heap.size w w' := by
  have H := Lib.hid (Tryd.stringslite_Clone s w (by omega))
  go_enter Tryd.func23, Tryd.ntmps23
  go_wp2_with fail
  with_reducible refine (H.out).mono ?_
  rintro e w' ⟨rfl, hb⟩
  go_wp2
  go_ret
  exact ⟨rfl, hb⟩

def labT (r : List UInt8) : Value := if labN r = 0 then .tuple #[.int .i64 0, .iface 55 (.int .i64 20)] else .tuple #[.int .i64 (labN r), .nilIface]
def labQ (r : List UInt8) (w : World) (e : Ending) (w' : World) : Prop := e = .returned (labT r) ∧ w = w'
set_option maxHeartbeats 1000000 in
theorem label_any (s : ByteArray) (w : World) (hs : s.size ≤ 65536) (h0 : 0 < s.size) : Calls Tryd.prog 42 #[.string s] w (labQ (s.data.toList.drop 1) w) := by
  have HZ := Lib.hid (size_list s)
  have HC := Lib.hid (count_lab (s.extract 1 s.size) w (by simp only [ByteArray.size_extract]; omega))
  rw [ext_end] at HC
  have hle := cnt_le labelB (s.data.toList.drop 1)
  rw [List.length_drop, HZ.out] at hle
  have hL : (s.data.toList.drop 1)[cnt labelB (s.data.toList.drop 1)]? = s.data.toList[1 + cnt labelB (s.data.toList.drop 1)]? := by rw [List.getElem?_drop]
  have hN : labN (s.data.toList.drop 1) = if cnt labelB (s.data.toList.drop 1) = 0 ∨ 32 < cnt labelB (s.data.toList.drop 1) ∨ ((s.data.toList.drop 1)[cnt labelB (s.data.toList.drop 1)]?).map (·.toNat) ≠ some 34 then 0 else cnt labelB (s.data.toList.drop 1) + 2 := rfl
  have hbad : labN (s.data.toList.drop 1) = 0 → labT (s.data.toList.drop 1) = .tuple #[.int .i64 0, .iface 55 (.int .i64 20)] := fun h => by unfold labT; rw [if_pos h]
  have hgood : labN (s.data.toList.drop 1) ≠ 0 → labT (s.data.toList.drop 1) = .tuple #[.int .i64 (labN (s.data.toList.drop 1)), .nilIface] := fun h => by unfold labT; rw [if_neg h]
  rw [hL] at hN
  clear hL
  generalize cnt labelB (s.data.toList.drop 1) = m at *
  generalize s.data.toList.drop 1 = r at *
  by_cases h1 : m = 0
  · have HT := Lib.hid (hbad (by rw [hN, if_pos (.inl h1)]))
    clear hN hbad hgood
    subst h1
    go_enter Tryd.func42, Tryd.ntmps42
    go_wp2_with fail
    with_reducible refine (HC.out).mono ?_
    rintro e w' ⟨rfl, rfl⟩
    go_wp2
    go_ret2
    exact ⟨by rw [HT.out]; rfl, rfl⟩
  have g1 : ((m : Int) == 0) = false := by simp; omega
  by_cases h2 : 32 < m
  · have HT := Lib.hid (hbad (by rw [hN, if_pos (.inr (.inl h2))]))
    have g2 : decide (32 < (m : Int)) = true := by simp; omega
    clear hN hbad hgood h1
    go_enter Tryd.func42, Tryd.ntmps42
    go_wp2_with fail
    with_reducible refine (HC.out).mono ?_
    rintro e w' ⟨rfl, rfl⟩
    go_wp2
    go_ret2
    exact ⟨by rw [HT.out]; rfl, rfl⟩
  have g2 : decide (32 < (m : Int)) = false := by simp; omega
  by_cases h3 : 1 + m = s.size
  · have HT := Lib.hid (hbad (by rw [hN, if_pos (.inr (.inr (by rw [List.getElem?_eq_none (by rw [HZ.out]; omega)]; simp)))]))
    have g3 : (1 + (m : Int) == (s.size : Int)) = true := by simp; omega
    clear hN hbad hgood h1 h2 h3
    go_enter Tryd.func42, Tryd.ntmps42
    go_wp2_with fail
    with_reducible refine (HC.out).mono ?_
    rintro e w' ⟨rfl, rfl⟩
    go_wp2
    go_ret2
    exact ⟨by rw [HT.out]; rfl, rfl⟩
  have g3 : (1 + (m : Int) == (s.size : Int)) = false := by simp; omega
  have hlt : 1 + m < s.size := by omega
  have hb : s.data.toList[1 + m]? = some (s[1 + m]'hlt) := by rw [List.getElem?_eq_getElem (by rw [HZ.out]; exact hlt)]; rfl
  rw [hb] at hN
  by_cases h4 : (s[1 + m]'hlt).toNat = 34
  · have hn2 : labN r = m + 2 := by rw [hN, if_neg]; simp [h1, h2, h4]
    have HT := Lib.hid (hgood (by omega))
    have HN := Lib.hid hn2
    have g4 : (((s[1 + m]'hlt).toNat : Int) != 34) = false := by rw [h4]; rfl
    clear hN hbad hgood h1 h2 h3 h4 hb hn2
    go_enter Tryd.func42, Tryd.ntmps42
    go_wp2_with fail
    with_reducible refine (HC.out).mono ?_
    rintro e w' ⟨rfl, rfl⟩
    go_wp2
    go_ret2
    exact ⟨by rw [HT.out]; rw [HN.out]; exact congrArg Ending.returned (congrArg Value.tuple (by congr 2; go_num)), rfl⟩
  · have HT := Lib.hid (hbad (by rw [hN, if_pos (.inr (.inr (by simp [h4])))]))
    have g4 : (((s[1 + m]'hlt).toNat : Int) != 34) = true := by simp; omega
    clear hN hbad hgood h1 h2 h3 h4 hb
    go_enter Tryd.func42, Tryd.ntmps42
    go_wp2_with fail
    with_reducible refine (HC.out).mono ?_
    rintro e w' ⟨rfl, rfl⟩
    go_wp2
    go_ret2
    exact ⟨by rw [HT.out]; rfl, rfl⟩
end Go.Proofs.YtfemddchaihokaaDoor
