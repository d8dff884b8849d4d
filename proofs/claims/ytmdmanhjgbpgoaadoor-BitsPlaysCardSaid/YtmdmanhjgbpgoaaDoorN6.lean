/-
  BitsPlays where no call is made: acts or numbers that are too many, sizes that are passed by, numbers that cannot be.
-/
import Derived.Test.YtmdmanhjgbpgoaaDoorR4
namespace Go.Proofs.YtmdmanhjgbpgoaaDoor
open Go.RowKit

theorem acts_below {w w' : World} {v : Value} {l : List ActV} (h : ReadsActs w v l) (hb : Below w.heap.size w w') : ReadsActs w' v l := by
  obtain ⟨ad, cap, rfl, h2⟩ := h
  refine ⟨ad, cap, rfl, fun k hk => ?_⟩
  obtain ⟨p, h1, h2, h3⟩ := h2 k hk
  exact ⟨p, h1, h2, h3.below hb⟩

set_option maxHeartbeats 800000 in
set_option maxRecDepth 100000 in
theorem plays_far {w : World} (i : Int) {fa : Option Addr} {fl fc : Nat} {vl : Value} {l : List ActV} (hG : Glob w) (hvl : ReadsActs w vl l) (hl : l.length ≤ maxLen) (hfar : farB l = true ∨ 200 < fl ∨ (300 < i ∧ i ≤ 4096)) (hfl : fl ≤ maxLen) :
    Calls Tryd.prog 3 #[.int .i64 i, .slice fa fl fc, vl] w fun e w' => e = .returned (.bool true) ∧ Below w.heap.size w w' := by
  unfold maxLen at hl hfl
  have HG := Lib.hid hG
  have HVL := Lib.hid hvl
  have HFAR := Lib.hid hfar
  clear hG hvl hfar
  cases hfb : farB l with
  | true =>
    have HFB := Lib.hid hfb
    clear hfb HFAR
    go_enter Tryd.func3, Tryd.ntmps3
    go_wp2_with fail
    refine (alive_yes _ HG.out).mono ?_
    rintro e w1 ⟨rfl, hb1⟩
    have HB1 := Lib.hid hb1
    have HV1 := Lib.hid (acts_below HVL.out hb1)
    clear hb1
    go_wp2_with fail
    refine (far_any HV1.out (by omega)).mono ?_
    rintro e wq ⟨rfl, hwq⟩
    rw [hwq, HFB.out]
    clear hwq wq
    go_wp2_with fail
    go_ret
    exact ⟨rfl, HB1.out⟩
  | false =>
    have HFB := Lib.hid hfb
    clear hfb
    by_cases h2 : 200 < fl
    · clear HFAR
      go_enter Tryd.func3, Tryd.ntmps3
      go_wp2_with fail
      refine (alive_yes _ HG.out).mono ?_
      rintro e w1 ⟨rfl, hb1⟩
      have HB1 := Lib.hid hb1
      have HV1 := Lib.hid (acts_below HVL.out hb1)
      clear hb1
      go_wp2_with fail
      refine (far_any HV1.out (by omega)).mono ?_
      rintro e wq ⟨rfl, hwq⟩
      rw [hwq, HFB.out]
      clear hwq wq
      go_wp2_with fail
      go_ret
      exact ⟨rfl, HB1.out⟩
    · have hs : 300 < i ∧ i ≤ 4096 := by
        rcases HFAR.out with h | h | h
        · rw [HFB.out] at h; cases h
        · exact absurd h h2
        · exact h
      obtain ⟨h3, h4⟩ := hs
      have hd : decide ((200 : Int) < (fl : Int)) = false := by simp; omega
      clear HFAR
      go_enter Tryd.func3, Tryd.ntmps3
      go_wp2_with fail
      refine (alive_yes _ HG.out).mono ?_
      rintro e w1 ⟨rfl, hb1⟩
      have HB1 := Lib.hid hb1
      have HV1 := Lib.hid (acts_below HVL.out hb1)
      clear hb1
      go_wp2_with fail
      refine (far_any HV1.out (by omega)).mono ?_
      rintro e wq ⟨rfl, hwq⟩
      rw [hwq, HFB.out]
      clear hwq wq
      go_wp2_with fail
      go_ret
      exact ⟨rfl, HB1.out⟩

set_option maxHeartbeats 800000 in
set_option maxRecDepth 100000 in
theorem plays_size {w : World} (i : Int) {fa : Option Addr} {fl fc : Nat} {vl : Value} {l : List ActV} (hG : Glob w) (hvl : ReadsActs w vl l) (hl : l.length ≤ maxLen) (hfb : farB l = false) (hfl : fl ≤ 200) (hi : i < 0 ∨ 4096 < i) :
    Calls Tryd.prog 3 #[.int .i64 i, .slice fa fl fc, vl] w fun e w' => e = .returned (.bool true) ∧ Below w.heap.size w w' := by
  unfold maxLen at hl
  have HG := Lib.hid hG
  have HVL := Lib.hid hvl
  have HFB := Lib.hid hfb
  have hd : decide ((200 : Int) < (fl : Int)) = false := by simp; omega
  have hd2 : decide ((300 : Int) < i) = false ∨ (300 < i ∧ decide (i ≤ 4096) = false) := by
    rcases hi with h | h
    · left; simp; omega
    · right; exact ⟨by omega, by simp; omega⟩
  clear hG hvl hfb
  rcases hd2 with hd2 | ⟨hd2, hd3⟩
  all_goals
    go_enter Tryd.func3, Tryd.ntmps3
    go_wp2_with fail
    refine (alive_yes _ HG.out).mono ?_
    rintro e w1 ⟨rfl, hb1⟩
    have HB1 := Lib.hid hb1
    have hz1 := hb1.size
    have HV1 := Lib.hid (acts_below HVL.out hb1)
    clear hb1
    go_wp2_with fail
    refine (far_any HV1.out (by omega)).mono ?_
    rintro e wq ⟨rfl, hwq⟩
    rw [hwq, HFB.out]
    clear hwq wq
    go_wp2_with fail
    refine (of_size _ _ _ hi).mono ?_
    rintro e wq ⟨rfl, hwq⟩
    rw [hwq]
    clear hwq wq
    go_wp2_with fail
    refine (refOf_size _ _ _ hi).mono ?_
    rintro e w2 ⟨rfl, hb2⟩
    have HB2 := Lib.hid ((HB1.out.trans (hb2.mono hz1)).alloc (Nat.le_trans hz1 hb2.size) (.cells #[.slice none 0 0] 33))
    clear hb2
    go_wp2_with fail
    generalize w2.alloc (.cells #[.slice none 0 0] 33) = w3 at *
    refine (num_errno 1 _ (HG.out.below HB2.out)).mono ?_
    rintro e w4 ⟨rfl, hb4⟩
    have HB4 := Lib.hid (HB2.out.trans (hb4.mono HB2.out.size))
    clear hb4
    go_wp2
    go_ret
    exact ⟨rfl, HB4.out⟩

set_option maxHeartbeats 800000 in
set_option maxRecDepth 100000 in
theorem plays_not {w : World} (n : Nat) {vf vl : Value} {xs : List Int} {l : List ActV} (hn : n ≤ 300) (hG : Glob w) (hvf : Reads w vf xs) (hvl : ReadsActs w vl l) (hl : l.length ≤ maxLen) (hfb : farB l = false) (hxl : xs.length ≤ 200) (hin : ¬ Within n xs) :
    Calls Tryd.prog 3 #[.int .i64 (n : Int), vf, vl] w fun e w' => e = .returned (.bool true) ∧ Below w.heap.size w w' := by
  unfold maxLen at hl
  have HG := Lib.hid hG
  have HVL := Lib.hid hvl
  have HVF := Lib.hid hvf
  have HFB := Lib.hid hfb
  have HIN := Lib.hid hin
  obtain ⟨fa, fc, rfl, _⟩ := hvf
  have hd : decide ((200 : Int) < (xs.length : Int)) = false := by simp; omega
  have hd2 : decide ((300 : Int) < (n : Int)) = false := by simp; omega
  clear hG hvl hfb hin
  go_enter Tryd.func3, Tryd.ntmps3
  go_wp2_with fail
  refine (alive_yes _ HG.out).mono ?_
  rintro e w1 ⟨rfl, hb1⟩
  have HB1 := Lib.hid hb1
  have hz1 := hb1.size
  have HV1 := Lib.hid (acts_below HVL.out hb1)
  have HF1 := Lib.hid (HVF.out.below hb1)
  clear hb1
  go_wp2_with fail
  refine (far_any HV1.out (by omega)).mono ?_
  rintro e wq ⟨rfl, hwq⟩
  rw [hwq, HFB.out]
  clear hwq wq
  go_wp2_with fail
  refine (of_set n (by omega) HF1.out (by omega)).mono ?_
  rintro e w2 ⟨hb2, hcase⟩
  obtain ⟨_, rfl⟩ := hcase.resolve_left (fun h => HIN.out h.1)
  have HB2 := Lib.hid (HB1.out.trans (hb2.mono hz1))
  have hz2 := hb2.size
  have HF2 := Lib.hid (HF1.out.below hb2)
  clear hb2 hcase
  go_wp2_with fail
  refine (refOf_set n (by omega) HF2.out (by omega)).mono ?_
  rintro e w3 ⟨hb3, hcase⟩
  obtain ⟨_, rfl⟩ := hcase.resolve_left (fun h => HIN.out h.1)
  have HB3 := Lib.hid ((HB2.out.trans (hb3.mono (by omega))).alloc (by have := hb3.size; omega) (.cells #[.slice none 0 0] 33))
  clear hb3 hcase
  go_wp2_with fail
  generalize w3.alloc (.cells #[.slice none 0 0] 33) = w4 at *
  refine (num_errno 1 _ (HG.out.below HB3.out)).mono ?_
  rintro e w5 ⟨rfl, hb5⟩
  have HB5 := Lib.hid (HB3.out.trans (hb5.mono HB3.out.size))
  clear hb5
  go_wp2
  go_ret
  exact ⟨rfl, HB5.out⟩
end Go.Proofs.YtmdmanhjgbpgoaaDoor
