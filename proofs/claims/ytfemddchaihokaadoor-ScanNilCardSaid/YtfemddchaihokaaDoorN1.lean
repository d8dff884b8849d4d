/-
  ScanNil, walked.
-/
import Derived.Test.YtfemddchaihokaaDoorLa
namespace Go.Proofs.YtfemddchaihokaaDoor
open Go.RowKit

set_option maxHeartbeats 1000000 in
theorem lnil_yes (s : ByteArray) (w : World) (hG : GlobS w) : Calls Tryd.prog 6 #[.string s] w (LawF w) := by
  have hf0 := field0
  have hf2 := field2
  have H0 := Lib.hid (alive_yes w hG)
  have HG := Lib.hid hG
  clear hG
  go_enter Tryd.func6, Tryd.ntmps6
  go_wp2_with fail
  with_reducible refine (H0.out).mono ?_
  rintro e w1 ⟨rfl, hb1⟩
  have H1 := Lib.hid (name_nil w1)
  have HB1 := Lib.hid hb1
  clear hb1
  go_wp2_with fail
  with_reducible refine (H1.out).mono ?_
  rintro e w2 ⟨rfl, hb2⟩
  have H2 := Lib.hid (number_nil w2)
  have HB2 := Lib.hid (HB1.out.trans (hb2.mono HB1.out.size))
  clear hb2
  go_wp2_with fail
  with_reducible refine (H2.out).mono ?_
  rintro e w3 ⟨rfl, hb3⟩
  have hn := peek_nil w3
  unfold PeekIs tokV at hn
  have H3 := Lib.hid hn
  have HB3 := Lib.hid (HB2.out.trans (hb3.mono HB2.out.size))
  clear hb3 hn
  go_wp2_with fail
  with_reducible refine (H3.out).mono ?_
  rintro e w4 ⟨rfl, hb4⟩
  have ht := take_end (peeks_nil w4) rfl
  unfold tokV at ht
  have H4 := Lib.hid ht
  have HB4 := Lib.hid (HB3.out.trans (hb4.mono HB3.out.size))
  clear hb4 ht
  go_wp2_with fail
  with_reducible refine (H4.out).mono ?_
  rintro e w5 ⟨rfl, hb5⟩
  have hi := is_any s (peeks_nil w5)
  rw [show isB ⟨0, [], 0⟩ s.data.toList = false from rfl] at hi
  have H5 := Lib.hid hi
  have HB5 := Lib.hid (HB4.out.trans (hb5.mono HB4.out.size))
  clear hb5 hi
  go_wp2_with fail
  with_reducible refine (H5.out).mono ?_
  rintro e w6 ⟨rfl, hb6⟩
  have H6 := Lib.hid (skip_no s (peeks_nil w6) rfl)
  have HB6 := Lib.hid (HB5.out.trans (hb6.mono HB5.out.size))
  clear hb6
  go_wp2_with fail
  with_reducible refine (H6.out).mono ?_
  rintro e w7 ⟨rfl, hb7⟩
  have H7 := Lib.hid (want_nil s w7)
  have HB7 := Lib.hid (HB6.out.trans (hb7.mono HB6.out.size))
  clear hb7
  go_wp2_with fail
  with_reducible refine (H7.out).mono ?_
  rintro e w8 ⟨rfl, hb8⟩
  have HB8 := Lib.hid (HB7.out.trans (hb8.mono HB7.out.size))
  have H8 := Lib.hid (num_errno 3 w8 (HG.out.below HB8.out).glob)
  clear hb8
  go_wp2_with fail
  with_reducible refine (H8.out).mono ?_
  rintro e w9 ⟨rfl, hb9⟩
  have HB9 := Lib.hid (HB8.out.trans (hb9.mono HB8.out.size))
  have H9 := Lib.hid (num_errno 3 w9 (HG.out.below HB9.out).glob)
  clear hb9
  go_wp2_with fail
  with_reducible refine (H9.out).mono ?_
  rintro e wa ⟨rfl, hba⟩
  have HBa := Lib.hid (HB9.out.trans (hba.mono HB9.out.size))
  have Ha := Lib.hid (num_errno 3 wa (HG.out.below HBa.out).glob)
  clear hba
  go_wp2_with fail
  with_reducible refine (Ha.out).mono ?_
  rintro e wb ⟨rfl, hbb⟩
  have HBb := Lib.hid (HBa.out.trans (hbb.mono HBa.out.size))
  clear hbb
  go_wp2
  go_ret
  exact ⟨rfl, HBb.out⟩
end Go.Proofs.YtfemddchaihokaaDoor
