/-
  What below, Add, Sub, Neg and Mul of package safe do, for all numbers of 64 bits.
-/
import Derived.Test.YtcaognakjigmbaaDoorM1
namespace Go.Proofs.YtcaognakjigmbaaDoor
open Go.RowKit

theorem below_any (a : Int) (w : World) : Calls Tryd.prog 21 #[.int .i64 a] w fun e w' => e = .returned (.bool (decide (a < 0))) ∧ w = w' := by
  go_enter Tryd.func21, Tryd.ntmps21
  go_wp2
  go_ret
  exact ⟨rfl, rfl⟩

theorem add_at (a b s : Int) (p q r : Bool) (hp : decide (a < 0) = p) (hq : decide (b < 0) = q) (hs : wrap64 (a + b) = s) (hr : decide (s < 0) = r) (w : World) :
    Calls Tryd.prog 9 #[.int .i64 a, .int .i64 b] w fun e w' => e = .returned (if p = q ∧ r ≠ p then .tuple #[.int .i64 0, .iface 40 (.int .i64 10)] else .tuple #[.int .i64 s, .nilIface]) ∧ w = w' := by
  cases p <;> cases q <;> cases r <;>
  · go_enter Tryd.func9, Tryd.ntmps9
    go_wp2
    go_ret2
    exact ⟨rfl, rfl⟩
theorem add_any (a b : Int) (ha : Fits a) (hb : Fits b) (w : World) : Calls Tryd.prog 9 #[.int .i64 a, .int .i64 b] w fun e w' => e = .returned (told (a + b)) ∧ w = w' := by
  refine (add_at a b _ _ _ _ rfl rfl rfl rfl w).mono ?_
  rintro e w' ⟨rfl, rfl⟩
  refine ⟨congrArg _ ?_, rfl⟩
  by_cases h : Fits (a + b)
  · have e : wrap64 (a + b) = a + b := wrap_fits h
    rw [told_fits h, e, if_neg]
    simp only [decide_eq_decide, ne_eq]
    omega
  · rw [told_not h, if_pos]
    unfold Fits wrap64 at *
    simp only [decide_eq_decide, ne_eq]
    omega

theorem sub_at (a b s : Int) (p q r : Bool) (hp : decide (a < 0) = p) (hq : decide (b < 0) = q) (hs : wrap64 (a - b) = s) (hr : decide (s < 0) = r) (w : World) :
    Calls Tryd.prog 10 #[.int .i64 a, .int .i64 b] w fun e w' => e = .returned (if p ≠ q ∧ r ≠ p then .tuple #[.int .i64 0, .iface 40 (.int .i64 10)] else .tuple #[.int .i64 s, .nilIface]) ∧ w = w' := by
  cases p <;> cases q <;> cases r <;>
  · go_enter Tryd.func10, Tryd.ntmps10
    go_wp2
    go_ret2
    exact ⟨rfl, rfl⟩
theorem sub_any (a b : Int) (ha : Fits a) (hb : Fits b) (w : World) : Calls Tryd.prog 10 #[.int .i64 a, .int .i64 b] w fun e w' => e = .returned (told (a - b)) ∧ w = w' := by
  refine (sub_at a b _ _ _ _ rfl rfl rfl rfl w).mono ?_
  rintro e w' ⟨rfl, rfl⟩
  refine ⟨congrArg _ ?_, rfl⟩
  by_cases h : Fits (a - b)
  · have e : wrap64 (a - b) = a - b := wrap_fits h
    rw [told_fits h, e, if_neg]
    simp only [decide_eq_decide, ne_eq]
    omega
  · rw [told_not h, if_pos]
    unfold Fits wrap64 at *
    simp only [decide_eq_decide, ne_eq]
    omega

theorem neg_any (a : Int) (ha : Fits a) (w : World) : Calls Tryd.prog 12 #[.int .i64 a] w fun e w' => e = .returned (told (-a)) ∧ w = w' := by
  have hs := sub_any 0 a fits_zero ha w
  rw [Int.zero_sub] at hs
  have HS := Lib.hid hs
  clear hs
  go_enter Tryd.func12, Tryd.ntmps12
  go_wp2_with fail
  refine HS.out.mono ?_
  rintro e w' ⟨rfl, rfl⟩
  unfold told
  go_wp2
  go_ret2
  exact ⟨rfl, rfl⟩

theorem mul_zero' (a : Int) (w : World) : Calls Tryd.prog 11 #[.int .i64 a, .int .i64 0] w fun e w' => e = .returned (told (a * 0)) ∧ w = w' := by
  rw [Int.mul_zero, told_fits fits_zero]
  go_enter Tryd.func11, Tryd.ntmps11
  go_wp2
  go_ret2
  exact ⟨rfl, rfl⟩
theorem mul_minus (a : Int) (ha : Fits a) (w : World) : Calls Tryd.prog 11 #[.int .i64 a, .int .i64 (-1)] w fun e w' => e = .returned (told (a * -1)) ∧ w = w' := by
  have ea : a * -1 = -a := by omega
  rw [ea]
  clear ea
  go_enter Tryd.func11, Tryd.ntmps11
  go_wp2_with fail
  refine (neg_any a ha _).mono ?_
  rintro e w' ⟨rfl, rfl⟩
  unfold told
  go_wp2
  go_ret2
  exact ⟨rfl, rfl⟩
theorem mul_at (a b p d : Int) (t : Bool) (h0 : (b == 0) = false) (h1 : (b == -1) = false) (hn : b ≠ 0) (hp : wrap64 (a * b) = p) (hd : wrap64 (p.tdiv b) = d) (ht : (d != a) = t) (w : World) :
    Calls Tryd.prog 11 #[.int .i64 a, .int .i64 b] w fun e w' => e = .returned (if t then .tuple #[.int .i64 0, .iface 40 (.int .i64 10)] else .tuple #[.int .i64 p, .nilIface]) ∧ w = w' := by
  cases t <;>
  · go_enter Tryd.func11, Tryd.ntmps11
    go_wp2
    go_ret2
    exact ⟨rfl, rfl⟩
theorem mul_any (a b : Int) (ha : Fits a) (hb : Fits b) (w : World) : Calls Tryd.prog 11 #[.int .i64 a, .int .i64 b] w fun e w' => e = .returned (told (a * b)) ∧ w = w' := by
  by_cases h0 : b = 0
  · subst h0; exact mul_zero' a w
  by_cases h1 : b = -1
  · subst h1; exact mul_minus a ha w
  refine (mul_at a b _ _ _ (by simp [h0]) (by simp [h1]) h0 rfl rfl rfl w).mono ?_
  rintro e w' ⟨rfl, rfl⟩
  refine ⟨congrArg _ ?_, rfl⟩
  by_cases h : Fits (a * b)
  · have e : wrap64 (a * b) = a * b := wrap_fits h
    have e2 : (a * b).tdiv b = a := Int.mul_tdiv_cancel a h0
    have e3 : wrap64 a = a := wrap_fits ha
    rw [told_fits h, e, e2, e3]
    simp
  · have hw : Fits (wrap64 (a * b)) := by unfold Fits wrap64; omega
    have e3 : wrap64 ((wrap64 (a * b)).tdiv b) = (wrap64 (a * b)).tdiv b := wrap_fits (tdiv_fits hw h0 h1)
    rw [told_not h, e3, if_pos]
    simpa using mul_back hb h0 h
end Go.Proofs.YtcaognakjigmbaaDoor
