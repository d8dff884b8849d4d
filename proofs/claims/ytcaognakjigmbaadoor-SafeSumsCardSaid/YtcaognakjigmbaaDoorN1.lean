/-
  The walk of SafeTells.
-/
import Derived.Test.YtcaognakjigmbaaDoorL5
namespace Go.Proofs.YtcaognakjigmbaaDoor
open Go.RowKit

/-- The law answers true, and all that was there is as it was. -/
def LawF (w : World) (e : Ending) (w' : World) : Prop := e = .returned (.bool true) ∧ Below w.heap.size w w'

set_option maxHeartbeats 1000000 in
set_option maxRecDepth 100000 in
theorem tells_yes (a b : Int) (ha : Fits a) (hb : Fits b) (w : World) (hG : Glob w) : Calls Tryd.prog 3 #[.int .i64 a, .int .i64 b] w (LawF w) := by
  have HL := Lib.hid (alive_yes w hG)
  have HG := Lib.hid hG
  have H1 := Lib.hid (add_any a b ha hb)
  have H2 := Lib.hid (sub_any a b ha hb)
  have H3 := Lib.hid (mul_any a b ha hb)
  have h4 := neg_any a ha
  have e4 : -a = 0 - a := by omega
  rw [e4] at h4
  have H4 := Lib.hid h4
  have R1 := Lib.hid (radd_any a b ha hb)
  have R2 := Lib.hid (rsub_any a b ha hb)
  have R3 := Lib.hid (rmul_any a b ha hb)
  have R4 := Lib.hid (rsub_any 0 a fits_zero ha)
  clear ha hb hG h4 e4
  generalize a + b = z1 at *
  generalize a * b = z3 at *
  generalize 0 - a = z4 at *
  generalize a - b = z2 at *
  go_enter Tryd.func3, Tryd.ntmps3
  go_wp2_with fail
  (with_reducible refine HL.out.mono ?_)
  rintro e w1 ⟨rfl, hb1⟩
  have HB1 := Lib.hid hb1
  have HG1 := Lib.hid (HG.out.below hb1)
  clear hb1
  go_wp2_with fail
  (with_reducible refine (H1.out _).mono ?_)
  rintro e w' ⟨rfl, rfl⟩
  unfold told
  go_wp2_with fail
  (with_reducible refine (H2.out _).mono ?_)
  rintro e w' ⟨rfl, rfl⟩
  unfold told
  go_wp2_with fail
  (with_reducible refine (H3.out _).mono ?_)
  rintro e w' ⟨rfl, rfl⟩
  unfold told
  go_wp2_with fail
  (with_reducible refine (H4.out _).mono ?_)
  rintro e w' ⟨rfl, rfl⟩
  unfold told
  go_wp2_with fail
  (with_reducible refine (R1.out _).mono ?_)
  rintro e w2 ⟨rfl, hb2⟩
  have HB2 := Lib.hid (HB1.out.trans (hb2.mono HB1.out.size))
  have HG2 := Lib.hid (HG1.out.below hb2)
  clear hb2 HB1 HG1
  unfold rtold
  go_wp2_with fail
  (with_reducible refine (R2.out _).mono ?_)
  rintro e w3 ⟨rfl, hb3⟩
  have HB3 := Lib.hid (HB2.out.trans (hb3.mono HB2.out.size))
  have HG3 := Lib.hid (HG2.out.below hb3)
  clear hb3 HB2 HG2
  unfold rtold
  go_wp2_with fail
  (with_reducible refine (R3.out _).mono ?_)
  rintro e w4 ⟨rfl, hb4⟩
  have HB4 := Lib.hid (HB3.out.trans (hb4.mono HB3.out.size))
  have HG4 := Lib.hid (HG3.out.below hb4)
  clear hb4 HB3 HG3
  unfold rtold
  go_wp2_with fail
  (with_reducible refine (R4.out _).mono ?_)
  rintro e w5 ⟨rfl, hb5⟩
  have HB5 := Lib.hid (HB4.out.trans (hb5.mono HB4.out.size))
  have HG5 := Lib.hid (HG4.out.below hb5)
  clear hb5 HB4 HG4
  unfold rtold
  go_wp2_with fail
  (with_reducible refine (is_any z1 _ HG5.out).mono ?_)
  rintro e w6 ⟨rfl, hb6⟩
  have HB6 := Lib.hid (HB5.out.trans (hb6.mono HB5.out.size))
  have HG6 := Lib.hid (HG5.out.below hb6)
  clear hb6 HB5 HG5
  go_wp2_with fail
  (with_reducible refine (is_any z2 _ HG6.out).mono ?_)
  rintro e w7 ⟨rfl, hb7⟩
  have HB7 := Lib.hid (HB6.out.trans (hb7.mono HB6.out.size))
  have HG7 := Lib.hid (HG6.out.below hb7)
  clear hb7 HB6 HG6
  go_wp2_with fail
  (with_reducible refine (is_any z3 _ HG7.out).mono ?_)
  rintro e w8 ⟨rfl, hb8⟩
  have HB8 := Lib.hid (HB7.out.trans (hb8.mono HB7.out.size))
  have HG8 := Lib.hid (HG7.out.below hb8)
  clear hb8 HB7 HG7
  go_wp2_with fail
  (with_reducible refine (is_any z4 _ HG8.out).mono ?_)
  rintro e w9 ⟨rfl, hb9⟩
  have HB9 := Lib.hid (HB8.out.trans (hb9.mono HB8.out.size))
  clear hb9 HB8
  go_wp2
  go_ret
  exact ⟨rfl, HB9.out⟩
end Go.Proofs.YtcaognakjigmbaaDoor
