/-
  The rank of an Op, walked.
-/
import Derived.Test.YtjhicgllofjpoaaGreatDoorJ2
namespace Go.Proofs.YtjhicgllofjpoaaGreatDoor
open Go.RowKit

def PkP (x : List UInt8) (w : World) (e : Ending) (w' : World) : Prop := e = .returned (.int .i64 (pk x : Int)) ∧ w = w'
theorem prank_any (s : ByteArray) (w : World) : Calls Tryz.prog 55 #[.string s] w (PkP s.data.toList w) := by
  rw [← ByteArray.toList_eq]
  by_cases h0 : s.toList = [61, 62]
  · have h := h0
    clear h0
    have g0 : (s.toList == [61, 62]) = true := by rw [h]; rfl
    have g1 : (s.toList == [124]) = false := by rw [h]; rfl
    have g2 : (s.toList == [38]) = false := by rw [h]; rfl
    have g3 : (s.toList == [85]) = false := by rw [h]; rfl
    have g4 : (s.toList == [87]) = false := by rw [h]; rfl
    have g5 : (s.toList == [82]) = false := by rw [h]; rfl
    have g6 : (s.toList == [33]) = false := by rw [h]; rfl
    have g7 : (s.toList == [88]) = false := by rw [h]; rfl
    have g8 : (s.toList == [70]) = false := by rw [h]; rfl
    have g9 : (s.toList == [71]) = false := by rw [h]; rfl
    have HK := Lib.hid (show pk s.toList = 0 by rw [h]; decide)
    clear h
    go_enter Tryz.func55, Tryz.ntmps55
    go_wp2
    go_ret
    exact ⟨by rw [HK.out]; rfl, rfl⟩
  by_cases h1 : s.toList = [124]
  · have h := h1
    clear h1 h0
    have g0 : (s.toList == [61, 62]) = false := by rw [h]; rfl
    have g1 : (s.toList == [124]) = true := by rw [h]; rfl
    have g2 : (s.toList == [38]) = false := by rw [h]; rfl
    have g3 : (s.toList == [85]) = false := by rw [h]; rfl
    have g4 : (s.toList == [87]) = false := by rw [h]; rfl
    have g5 : (s.toList == [82]) = false := by rw [h]; rfl
    have g6 : (s.toList == [33]) = false := by rw [h]; rfl
    have g7 : (s.toList == [88]) = false := by rw [h]; rfl
    have g8 : (s.toList == [70]) = false := by rw [h]; rfl
    have g9 : (s.toList == [71]) = false := by rw [h]; rfl
    have HK := Lib.hid (show pk s.toList = 1 by rw [h]; decide)
    clear h
    go_enter Tryz.func55, Tryz.ntmps55
    go_wp2
    go_ret
    exact ⟨by rw [HK.out]; rfl, rfl⟩
  by_cases h2 : s.toList = [38]
  · have h := h2
    clear h2 h1 h0
    have g0 : (s.toList == [61, 62]) = false := by rw [h]; rfl
    have g1 : (s.toList == [124]) = false := by rw [h]; rfl
    have g2 : (s.toList == [38]) = true := by rw [h]; rfl
    have g3 : (s.toList == [85]) = false := by rw [h]; rfl
    have g4 : (s.toList == [87]) = false := by rw [h]; rfl
    have g5 : (s.toList == [82]) = false := by rw [h]; rfl
    have g6 : (s.toList == [33]) = false := by rw [h]; rfl
    have g7 : (s.toList == [88]) = false := by rw [h]; rfl
    have g8 : (s.toList == [70]) = false := by rw [h]; rfl
    have g9 : (s.toList == [71]) = false := by rw [h]; rfl
    have HK := Lib.hid (show pk s.toList = 2 by rw [h]; decide)
    clear h
    go_enter Tryz.func55, Tryz.ntmps55
    go_wp2
    go_ret
    exact ⟨by rw [HK.out]; rfl, rfl⟩
  by_cases h3 : s.toList = [85]
  · have h := h3
    clear h3 h2 h1 h0
    have g0 : (s.toList == [61, 62]) = false := by rw [h]; rfl
    have g1 : (s.toList == [124]) = false := by rw [h]; rfl
    have g2 : (s.toList == [38]) = false := by rw [h]; rfl
    have g3 : (s.toList == [85]) = true := by rw [h]; rfl
    have g4 : (s.toList == [87]) = false := by rw [h]; rfl
    have g5 : (s.toList == [82]) = false := by rw [h]; rfl
    have g6 : (s.toList == [33]) = false := by rw [h]; rfl
    have g7 : (s.toList == [88]) = false := by rw [h]; rfl
    have g8 : (s.toList == [70]) = false := by rw [h]; rfl
    have g9 : (s.toList == [71]) = false := by rw [h]; rfl
    have HK := Lib.hid (show pk s.toList = 3 by rw [h]; decide)
    clear h
    go_enter Tryz.func55, Tryz.ntmps55
    go_wp2
    go_ret
    exact ⟨by rw [HK.out]; rfl, rfl⟩
  by_cases h4 : s.toList = [87]
  · have h := h4
    clear h4 h3 h2 h1 h0
    have g0 : (s.toList == [61, 62]) = false := by rw [h]; rfl
    have g1 : (s.toList == [124]) = false := by rw [h]; rfl
    have g2 : (s.toList == [38]) = false := by rw [h]; rfl
    have g3 : (s.toList == [85]) = false := by rw [h]; rfl
    have g4 : (s.toList == [87]) = true := by rw [h]; rfl
    have g5 : (s.toList == [82]) = false := by rw [h]; rfl
    have g6 : (s.toList == [33]) = false := by rw [h]; rfl
    have g7 : (s.toList == [88]) = false := by rw [h]; rfl
    have g8 : (s.toList == [70]) = false := by rw [h]; rfl
    have g9 : (s.toList == [71]) = false := by rw [h]; rfl
    have HK := Lib.hid (show pk s.toList = 3 by rw [h]; decide)
    clear h
    go_enter Tryz.func55, Tryz.ntmps55
    go_wp2
    go_ret
    exact ⟨by rw [HK.out]; rfl, rfl⟩
  by_cases h5 : s.toList = [82]
  · have h := h5
    clear h5 h4 h3 h2 h1 h0
    have g0 : (s.toList == [61, 62]) = false := by rw [h]; rfl
    have g1 : (s.toList == [124]) = false := by rw [h]; rfl
    have g2 : (s.toList == [38]) = false := by rw [h]; rfl
    have g3 : (s.toList == [85]) = false := by rw [h]; rfl
    have g4 : (s.toList == [87]) = false := by rw [h]; rfl
    have g5 : (s.toList == [82]) = true := by rw [h]; rfl
    have g6 : (s.toList == [33]) = false := by rw [h]; rfl
    have g7 : (s.toList == [88]) = false := by rw [h]; rfl
    have g8 : (s.toList == [70]) = false := by rw [h]; rfl
    have g9 : (s.toList == [71]) = false := by rw [h]; rfl
    have HK := Lib.hid (show pk s.toList = 3 by rw [h]; decide)
    clear h
    go_enter Tryz.func55, Tryz.ntmps55
    go_wp2
    go_ret
    exact ⟨by rw [HK.out]; rfl, rfl⟩
  by_cases h6 : s.toList = [33]
  · have h := h6
    clear h6 h5 h4 h3 h2 h1 h0
    have g0 : (s.toList == [61, 62]) = false := by rw [h]; rfl
    have g1 : (s.toList == [124]) = false := by rw [h]; rfl
    have g2 : (s.toList == [38]) = false := by rw [h]; rfl
    have g3 : (s.toList == [85]) = false := by rw [h]; rfl
    have g4 : (s.toList == [87]) = false := by rw [h]; rfl
    have g5 : (s.toList == [82]) = false := by rw [h]; rfl
    have g6 : (s.toList == [33]) = true := by rw [h]; rfl
    have g7 : (s.toList == [88]) = false := by rw [h]; rfl
    have g8 : (s.toList == [70]) = false := by rw [h]; rfl
    have g9 : (s.toList == [71]) = false := by rw [h]; rfl
    have HK := Lib.hid (show pk s.toList = 4 by rw [h]; decide)
    clear h
    go_enter Tryz.func55, Tryz.ntmps55
    go_wp2
    go_ret
    exact ⟨by rw [HK.out]; rfl, rfl⟩
  by_cases h7 : s.toList = [88]
  · have h := h7
    clear h7 h6 h5 h4 h3 h2 h1 h0
    have g0 : (s.toList == [61, 62]) = false := by rw [h]; rfl
    have g1 : (s.toList == [124]) = false := by rw [h]; rfl
    have g2 : (s.toList == [38]) = false := by rw [h]; rfl
    have g3 : (s.toList == [85]) = false := by rw [h]; rfl
    have g4 : (s.toList == [87]) = false := by rw [h]; rfl
    have g5 : (s.toList == [82]) = false := by rw [h]; rfl
    have g6 : (s.toList == [33]) = false := by rw [h]; rfl
    have g7 : (s.toList == [88]) = true := by rw [h]; rfl
    have g8 : (s.toList == [70]) = false := by rw [h]; rfl
    have g9 : (s.toList == [71]) = false := by rw [h]; rfl
    have HK := Lib.hid (show pk s.toList = 4 by rw [h]; decide)
    clear h
    go_enter Tryz.func55, Tryz.ntmps55
    go_wp2
    go_ret
    exact ⟨by rw [HK.out]; rfl, rfl⟩
  by_cases h8 : s.toList = [70]
  · have h := h8
    clear h8 h7 h6 h5 h4 h3 h2 h1 h0
    have g0 : (s.toList == [61, 62]) = false := by rw [h]; rfl
    have g1 : (s.toList == [124]) = false := by rw [h]; rfl
    have g2 : (s.toList == [38]) = false := by rw [h]; rfl
    have g3 : (s.toList == [85]) = false := by rw [h]; rfl
    have g4 : (s.toList == [87]) = false := by rw [h]; rfl
    have g5 : (s.toList == [82]) = false := by rw [h]; rfl
    have g6 : (s.toList == [33]) = false := by rw [h]; rfl
    have g7 : (s.toList == [88]) = false := by rw [h]; rfl
    have g8 : (s.toList == [70]) = true := by rw [h]; rfl
    have g9 : (s.toList == [71]) = false := by rw [h]; rfl
    have HK := Lib.hid (show pk s.toList = 4 by rw [h]; decide)
    clear h
    go_enter Tryz.func55, Tryz.ntmps55
    go_wp2
    go_ret
    exact ⟨by rw [HK.out]; rfl, rfl⟩
  by_cases h9 : s.toList = [71]
  · have h := h9
    clear h9 h8 h7 h6 h5 h4 h3 h2 h1 h0
    have g0 : (s.toList == [61, 62]) = false := by rw [h]; rfl
    have g1 : (s.toList == [124]) = false := by rw [h]; rfl
    have g2 : (s.toList == [38]) = false := by rw [h]; rfl
    have g3 : (s.toList == [85]) = false := by rw [h]; rfl
    have g4 : (s.toList == [87]) = false := by rw [h]; rfl
    have g5 : (s.toList == [82]) = false := by rw [h]; rfl
    have g6 : (s.toList == [33]) = false := by rw [h]; rfl
    have g7 : (s.toList == [88]) = false := by rw [h]; rfl
    have g8 : (s.toList == [70]) = false := by rw [h]; rfl
    have g9 : (s.toList == [71]) = true := by rw [h]; rfl
    have HK := Lib.hid (show pk s.toList = 4 by rw [h]; decide)
    clear h
    go_enter Tryz.func55, Tryz.ntmps55
    go_wp2
    go_ret
    exact ⟨by rw [HK.out]; rfl, rfl⟩
  have g0 : (s.toList == [61, 62]) = false := by rw [beq_eq_false_iff_ne]; exact h0
  have g1 : (s.toList == [124]) = false := by rw [beq_eq_false_iff_ne]; exact h1
  have g2 : (s.toList == [38]) = false := by rw [beq_eq_false_iff_ne]; exact h2
  have g3 : (s.toList == [85]) = false := by rw [beq_eq_false_iff_ne]; exact h3
  have g4 : (s.toList == [87]) = false := by rw [beq_eq_false_iff_ne]; exact h4
  have g5 : (s.toList == [82]) = false := by rw [beq_eq_false_iff_ne]; exact h5
  have g6 : (s.toList == [33]) = false := by rw [beq_eq_false_iff_ne]; exact h6
  have g7 : (s.toList == [88]) = false := by rw [beq_eq_false_iff_ne]; exact h7
  have g8 : (s.toList == [70]) = false := by rw [beq_eq_false_iff_ne]; exact h8
  have g9 : (s.toList == [71]) = false := by rw [beq_eq_false_iff_ne]; exact h9
  have HK := Lib.hid (show pk s.toList = 5 by simp [pk, h0, h1, h2, h3, h4, h5, h6, h7, h8, h9])
  clear h0 h1 h2 h3 h4 h5 h6 h7 h8 h9
  go_enter Tryz.func55, Tryz.ntmps55
  go_wp2
  go_ret
  exact ⟨by rw [HK.out]; rfl, rfl⟩
end Go.Proofs.YtjhicgllofjpoaaGreatDoor
