/-
  The walk of SafeOrder.
-/
import Derived.Test.YtcaognakjigmbaaDoorN1
namespace Go.Proofs.YtcaognakjigmbaaDoor
open Go.RowKit

set_option maxHeartbeats 2000000 in
set_option maxRecDepth 100000 in
theorem order_yes (a b c : Int) (ha : Fits a) (hb : Fits b) (hc : Fits c) (w : World) (hG : Glob w) : Calls Tryd.prog 6 #[.int .i64 a, .int .i64 b, .int .i64 c] w (LawF w) := by
  have HL := Lib.hid (alive_yes w hG)
  have H1 := Lib.hid (add_any a b ha hb)
  have h2 := add_any b a hb ha
  rw [Int.add_comm b a] at h2
  have H2 := Lib.hid h2
  have H3 := Lib.hid (mul_any a b ha hb)
  have h4 := mul_any b a hb ha
  rw [Int.mul_comm b a] at h4
  have H4 := Lib.hid h4
  have h5 := neg_any a ha
  rw [show -a = 0 - a by omega] at h5
  have H5 := Lib.hid h5
  have H6 := Lib.hid (sub_any 0 a fits_zero ha)
  have H7 := Lib.hid (fun hf : Fits (a + b) => mul_any (a + b) c hf hc)
  have H8 := Lib.hid (mul_any a c ha hc)
  have H9 := Lib.hid (mul_any b c hb hc)
  have h10 := fun (h1 : Fits (a * c)) (h2 : Fits (b * c)) => add_any (a * c) (b * c) h1 h2
  rw [← Int.add_mul] at h10
  have H10 := Lib.hid h10
  clear ha hb hc hG h2 h4 h5 h10
  generalize (a + b) * c = p at *
  generalize a * c = q at *
  generalize b * c = r at *
  generalize a + b = x at *
  generalize a * b = z at *
  generalize 0 - a = n at *
  go_enter Tryd.func6, Tryd.ntmps6
  go_wp2_with fail
  (with_reducible refine HL.out.mono ?_)
  rintro e w1 ⟨rfl, hb1⟩
  have HB1 := Lib.hid hb1
  clear hb1
  by_cases hx : Fits x
  case neg =>
    have HX0 := Lib.hid hx
    clear hx
    by_cases hz : Fits z
    all_goals by_cases hn : Fits n
    all_goals
      go_wp2_with fail
      (with_reducible refine (H1.out _).mono ?_)
      rintro e w' ⟨rfl, rfl⟩
      rw [told_not HX0.out]
      go_wp2_with fail
      (with_reducible refine (H2.out _).mono ?_)
      rintro e w' ⟨rfl, rfl⟩
      rw [told_not HX0.out]
      go_wp2_with fail
      (with_reducible refine (H3.out _).mono ?_)
      rintro e w' ⟨rfl, rfl⟩
      first | rw [told_fits hz] | rw [told_not hz]
      go_wp2_with fail
      (with_reducible refine (H4.out _).mono ?_)
      rintro e w' ⟨rfl, rfl⟩
      first | rw [told_fits hz] | rw [told_not hz]
      clear H1 H2 H3 H4
      go_wp2
      go_quiet (fail)
      have HB2 := Lib.hid (below_drewN HB1.out nq)
      clear HB1
      generalize w1.drewN nq = w2 at *
      go_wp2_with fail
      (with_reducible refine (H5.out _).mono ?_)
      rintro e w' ⟨rfl, rfl⟩
      first | rw [told_fits hn] | rw [told_not hn]
      go_wp2_with fail
      (with_reducible refine (H6.out _).mono ?_)
      rintro e w' ⟨rfl, rfl⟩
      first | rw [told_fits hn] | rw [told_not hn]
      clear hn hz H5 H6
      go_wp2
      go_quiet (fail)
      have HB3 := Lib.hid (below_drewN HB2.out nq)
      clear HB2
      generalize w2.drewN nq = w3 at *
      go_wp2
      go_ret
      exact ⟨rfl, HB3.out⟩
  case pos =>
    have HX0 := Lib.hid hx
    clear hx
    by_cases hz : Fits z
    all_goals by_cases hn : Fits n
    all_goals
      go_wp2_with fail
      (with_reducible refine (H1.out _).mono ?_)
      rintro e w' ⟨rfl, rfl⟩
      rw [told_fits HX0.out]
      go_wp2_with fail
      (with_reducible refine (H2.out _).mono ?_)
      rintro e w' ⟨rfl, rfl⟩
      rw [told_fits HX0.out]
      go_wp2_with fail
      (with_reducible refine (H3.out _).mono ?_)
      rintro e w' ⟨rfl, rfl⟩
      first | rw [told_fits hz] | rw [told_not hz]
      go_wp2_with fail
      (with_reducible refine (H4.out _).mono ?_)
      rintro e w' ⟨rfl, rfl⟩
      first | rw [told_fits hz] | rw [told_not hz]
      clear H1 H2 H3 H4
      go_wp2
      go_quiet (fail)
      have HB2 := Lib.hid (below_drewN HB1.out nq)
      clear HB1
      generalize w1.drewN nq = w2 at *
      go_wp2_with fail
      (with_reducible refine (H5.out _).mono ?_)
      rintro e w' ⟨rfl, rfl⟩
      first | rw [told_fits hn] | rw [told_not hn]
      go_wp2_with fail
      (with_reducible refine (H6.out _).mono ?_)
      rintro e w' ⟨rfl, rfl⟩
      first | rw [told_fits hn] | rw [told_not hn]
      clear hn hz H5 H6
      go_wp2
      go_quiet (fail)
      have HB3 := Lib.hid (below_drewN HB2.out nq)
      clear HB2
      generalize w2.drewN nq = w3 at *
      go_wp2_with fail
      (with_reducible refine (H7.out HX0.out _).mono ?_)
      rintro e w' ⟨rfl, rfl⟩
      clear H7 HX0
      by_cases hf : Fits p ∧ Fits q ∧ Fits r
      case pos =>
        have HP := Lib.hid hf
        have HA := Lib.hid (H10.out hf.2.1 hf.2.2)
        clear hf H10
        rw [told_fits HP.out.1]
        go_wp2_with fail
        (with_reducible refine (H8.out _).mono ?_)
        rintro e w' ⟨rfl, rfl⟩
        rw [told_fits HP.out.2.1]
        go_wp2_with fail
        (with_reducible refine (H9.out _).mono ?_)
        rintro e w' ⟨rfl, rfl⟩
        rw [told_fits HP.out.2.2]
        go_wp2_with fail
        (with_reducible refine (HA.out _).mono ?_)
        rintro e w' ⟨rfl, rfl⟩
        rw [told_fits HP.out.1]
        go_wp2
        go_ret
        exact ⟨rfl, HB3.out⟩
      case neg =>
        clear H10
        by_cases hp : Fits p
        all_goals by_cases hq : Fits q
        all_goals by_cases hr : Fits r
        all_goals first | (exfalso; exact hf ⟨hp, hq, hr⟩) | skip
        all_goals
          clear hf
          first | rw [told_fits hp] | rw [told_not hp]
          go_wp2_with fail
          (with_reducible refine (H8.out _).mono ?_)
          rintro e w' ⟨rfl, rfl⟩
          first | rw [told_fits hq] | rw [told_not hq]
          go_wp2_with fail
          (with_reducible refine (H9.out _).mono ?_)
          rintro e w' ⟨rfl, rfl⟩
          first | rw [told_fits hr] | rw [told_not hr]
          clear H8 H9 hp hq hr
          go_wp2
          go_ret
          exact ⟨rfl, HB3.out⟩
end Go.Proofs.YtcaognakjigmbaaDoor
