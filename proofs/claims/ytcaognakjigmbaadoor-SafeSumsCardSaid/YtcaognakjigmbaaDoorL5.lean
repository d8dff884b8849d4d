/-
  The document's Mul, Add and Sub of layer 3.
-/
import Derived.Test.YtcaognakjigmbaaDoorL4
namespace Go.Proofs.YtcaognakjigmbaaDoor
open Go.RowKit

theorem fits_at {hi lo : Nat} {b : Bool} {z : Int} (hh : hi < 18446744073709551616) (hl : lo < 18446744073709551616) (hz : wide hi lo b = z) (w : World) :
    Calls Tryd.prog 24 #[.agg #[.int .u64 (hi : Int), .int .u64 (lo : Int), .bool b]] w (WideF z w) := by
  subst hz; exact fits_any hi lo b hh hl w

theorem fits_lo {lo : Nat} {b : Bool} {z : Int} (hl : lo < 18446744073709551616) (hz : wide 0 lo b = z) (w : World) :
    Calls Tryd.prog 24 #[.agg #[.int .u64 0, .int .u64 (lo : Int), .bool b]] w (WideF z w) := by
  subst hz; exact fits_any 0 lo b (by decide) hl w

theorem wide_mul (a b : Int) : wide (a.natAbs * b.natAbs / 18446744073709551616) (a.natAbs * b.natAbs % 18446744073709551616) (decide (a < 0) != decide (b < 0)) = a * b := by
  have e := Int.natAbs_mul a b
  have hd : a.natAbs * b.natAbs / 18446744073709551616 * 18446744073709551616 + a.natAbs * b.natAbs % 18446744073709551616 = a.natAbs * b.natAbs := Nat.div_add_mod' _ _
  unfold wide
  rw [hd, ← e]
  by_cases ha : a < 0 <;> by_cases hb : b < 0
  · have := Int.mul_pos_of_neg_of_neg ha hb
    simp [ha, hb]; omega
  · have := Int.mul_nonpos_of_nonpos_of_nonneg (Int.le_of_lt ha) (Int.not_lt.1 hb)
    simp [ha, hb]; omega
  · have := Int.mul_nonpos_of_nonneg_of_nonpos (Int.not_lt.1 ha) (Int.le_of_lt hb)
    simp [ha, hb]; omega
  · have := Int.mul_nonneg (Int.not_lt.1 ha) (Int.not_lt.1 hb)
    simp [ha, hb]; omega

theorem abs_lt {a : Int} (h : Fits a) : a.natAbs < 18446744073709551616 := by unfold Fits at h; omega

set_option maxHeartbeats 400000 in
theorem rmul_any (a b : Int) (ha : Fits a) (hb : Fits b) (w : World) : Calls Tryd.prog 15 #[.int .i64 a, .int .i64 b] w (WideF (a * b) w) := by
  have HW := Lib.hid (wide_mul a b)
  have H1 := Lib.hid (size_any a ha)
  have H2 := Lib.hid (size_any b hb)
  have hx := abs_lt ha
  have hy := abs_lt hb
  clear ha hb
  generalize a.natAbs = x at *
  generalize b.natAbs = y at *
  have HM := Lib.hid (mulsf_any x y hx hy)
  have hq : x * y / 18446744073709551616 < 18446744073709551616 := by
    have : x * y < 18446744073709551616 * 18446744073709551616 := Nat.mul_lt_mul'' hx hy
    exact Nat.div_lt_of_lt_mul this
  have hr : x * y % 18446744073709551616 < 18446744073709551616 := Nat.mod_lt _ (by decide)
  clear hx hy
  generalize x * y / 18446744073709551616 = hi at *
  generalize x * y % 18446744073709551616 = lo at *
  generalize hp : decide (a < 0) = p at *
  generalize hpq : decide (b < 0) = q at *
  go_enter Tryd.func15, Tryd.ntmps15
  go_wp2_with fail
  refine (H1.out _).mono ?_
  rintro e w' ⟨rfl, rfl⟩
  go_wp2_with fail
  refine (H2.out _).mono ?_
  rintro e w' ⟨rfl, rfl⟩
  go_wp2_with fail
  refine (HM.out _).mono ?_
  rintro e w' ⟨rfl, rfl⟩
  cases p <;> cases q
  all_goals
    go_wp2_with fail
    refine (fits_at hq hr HW.out _).mono ?_
    rintro e w' ⟨rfl, hbl⟩
    have HB := Lib.hid hbl
    clear hbl
    unfold rtold
    go_wp2
    go_ret2
    exact ⟨rfl, HB.out⟩

theorem wide_same (a b : Int) (h : decide (a < 0) = decide (b < 0)) : wide ((a.natAbs + b.natAbs) / 18446744073709551616) ((a.natAbs + b.natAbs) % 18446744073709551616) (decide (a < 0)) = a + b := by
  unfold wide
  by_cases ha : a < 0 <;> by_cases hb : b < 0 <;> simp [ha, hb] at h ⊢ <;> omega

set_option maxHeartbeats 400000 in
theorem radd_same (a b : Int) (ha : Fits a) (hb : Fits b) (h : decide (a < 0) = decide (b < 0)) (w : World) : Calls Tryd.prog 13 #[.int .i64 a, .int .i64 b] w (WideF (a + b) w) := by
  have HW := Lib.hid (wide_same a b h)
  have H1 := Lib.hid (size_any a ha)
  have H2 := Lib.hid (size_any b hb)
  have hx := abs_lt ha
  have hy := abs_lt hb
  clear ha hb
  generalize a.natAbs = x at *
  generalize b.natAbs = y at *
  have hq : (x + y) / 18446744073709551616 < 18446744073709551616 := by omega
  have hr : (x + y) % 18446744073709551616 < 18446744073709551616 := by omega
  clear hx hy
  have HA := addsf_run x y
  generalize (x + y) / 18446744073709551616 = hi at *
  generalize (x + y) % 18446744073709551616 = lo at *
  generalize hp : decide (a < 0) = p at *
  have hpq := h.symm
  clear h
  cases p
  all_goals
    go_enter Tryd.func13, Tryd.ntmps13
    go_wp2_with fail
    refine (H1.out _).mono ?_
    rintro e w' ⟨rfl, rfl⟩
    go_wp2_with fail
    refine (H2.out _).mono ?_
    rintro e w' ⟨rfl, rfl⟩
    go_wp2_with fail
    refine (fits_at hq hr HW.out _).mono ?_
    rintro e w' ⟨rfl, hbl⟩
    have HB := Lib.hid hbl
    clear hbl
    unfold rtold
    go_wp2
    go_ret2
    exact ⟨rfl, HB.out⟩

theorem wide_diff (a b : Int) (h : decide (a < 0) ≠ decide (b < 0)) :
    (b.natAbs ≤ a.natAbs → wide 0 (a.natAbs - b.natAbs) (decide (a < 0)) = a + b) ∧ (a.natAbs < b.natAbs → wide 0 (b.natAbs - a.natAbs) (decide (b < 0)) = a + b) := by
  unfold wide
  by_cases ha : a < 0 <;> by_cases hb : b < 0 <;> simp [ha, hb] at h ⊢ <;> omega

set_option maxHeartbeats 400000 in
theorem radd_diff (a b : Int) (ha : Fits a) (hb : Fits b) (h : decide (a < 0) ≠ decide (b < 0)) (w : World) : Calls Tryd.prog 13 #[.int .i64 a, .int .i64 b] w (WideF (a + b) w) := by
  have HW := Lib.hid (wide_diff a b h)
  have H1 := Lib.hid (size_any a ha)
  have H2 := Lib.hid (size_any b hb)
  have hx := abs_lt ha
  have hy := abs_lt hb
  clear ha hb
  generalize a.natAbs = x at *
  generalize b.natAbs = y at *
  generalize hp : decide (a < 0) = p at *
  generalize hpq : decide (b < 0) = q at *
  by_cases hxy : y ≤ x
  · have HV := Lib.hid (HW.out.1 hxy)
    clear HW
    obtain ⟨d, rfl⟩ : ∃ d, x = y + d := ⟨x - y, by omega⟩
    have hd : d < 18446744073709551616 := by omega
    have he : y + d - y = d := by omega
    rw [he] at HV
    clear he
    have hle : decide (y ≤ y + d) = true := by simp
    have hs : (y : Int) + (d : Int) - (y : Int) = (d : Int) := by omega
    cases p <;> cases q <;> try (exfalso; exact h rfl)
    all_goals
      clear h
      go_enter Tryd.func13, Tryd.ntmps13
      go_wp2_with fail
      refine (H1.out _).mono ?_
      rintro e w' ⟨rfl, rfl⟩
      go_wp2_with fail
      refine (H2.out _).mono ?_
      rintro e w' ⟨rfl, rfl⟩
      go_wp2_with fail
      (with_reducible refine (fits_lo hd HV.out _).mono ?_)
      rintro e w' ⟨rfl, hbl⟩
      have HB := Lib.hid hbl
      clear hbl
      unfold rtold
      go_wp2
      go_ret2
      exact ⟨rfl, HB.out⟩
  · have HV := Lib.hid (HW.out.2 (by omega))
    clear HW
    obtain ⟨d, rfl⟩ : ∃ d, y = x + d := ⟨y - x, by omega⟩
    have hd : d < 18446744073709551616 := by omega
    have he : x + d - x = d := by omega
    rw [he] at HV
    clear he
    have hle : decide (x + d ≤ x) = false := by simp; omega
    have hs : (x : Int) + (d : Int) - (x : Int) = (d : Int) := by omega
    cases p <;> cases q <;> try (exfalso; exact h rfl)
    all_goals
      clear h
      go_enter Tryd.func13, Tryd.ntmps13
      go_wp2_with fail
      refine (H1.out _).mono ?_
      rintro e w' ⟨rfl, rfl⟩
      go_wp2_with fail
      refine (H2.out _).mono ?_
      rintro e w' ⟨rfl, rfl⟩
      go_wp2_with fail
      (with_reducible refine (fits_lo hd HV.out _).mono ?_)
      rintro e w' ⟨rfl, hbl⟩
      have HB := Lib.hid hbl
      clear hbl
      unfold rtold
      go_wp2
      go_ret2
      exact ⟨rfl, HB.out⟩

theorem radd_any (a b : Int) (ha : Fits a) (hb : Fits b) (w : World) : Calls Tryd.prog 13 #[.int .i64 a, .int .i64 b] w (WideF (a + b) w) := by
  by_cases h : decide (a < 0) = decide (b < 0)
  · exact radd_same a b ha hb h w
  · exact radd_diff a b ha hb h w

set_option maxHeartbeats 400000 in
theorem rsub_any (a b : Int) (ha : Fits a) (hb : Fits b) (w : World) : Calls Tryd.prog 14 #[.int .i64 a, .int .i64 b] w (WideF (a - b) w) := by
  by_cases hm : b = -9223372036854775808
  · subst hm
    by_cases h0 : 0 ≤ a
    · have hn : ¬ Fits (a - -9223372036854775808) := by unfold Fits; omega
      unfold WideF
      rw [rtold_not hn]
      have hd : decide (0 ≤ a) = true := by simp [h0]
      clear hn ha hb h0
      go_enter Tryd.func14, Tryd.ntmps14
      go_wp2
      go_ret2
      exact ⟨rfl, Below.refl _ _⟩
    · obtain ⟨x, hx⟩ : ∃ x : Nat, x = (a + 9223372036854775808).toNat := ⟨_, rfl⟩
      have hn : wide 0 x false = a - -9223372036854775808 := by unfold wide Fits at *; simp; omega
      have H1 := Lib.hid (size_any a ha)
      have HN := Lib.hid hn
      have hd : decide (0 ≤ a) = false := by simp; omega
      have hq : x < 18446744073709551616 := by unfold Fits at *; omega
      have hs : (9223372036854775808 : Int) - (a.natAbs : Int) = x := by unfold Fits at *; omega
      clear hn ha hb h0 hx
      generalize a.natAbs = y at *
      go_enter Tryd.func14, Tryd.ntmps14
      go_wp2_with fail
      refine (H1.out _).mono ?_
      rintro e w' ⟨rfl, rfl⟩
      go_wp2_with fail
      refine (fits_lo hq HN.out _).mono ?_
      rintro e w' ⟨rfl, hbl⟩
      have HB := Lib.hid hbl
      clear hbl
      unfold rtold
      go_wp2
      go_ret2
      exact ⟨rfl, HB.out⟩
  · have hf : Fits (-b) := by unfold Fits at *; omega
    have hA := radd_any a (-b) ha hf
    have hr : a + -b = a - b := by omega
    rw [hr] at hA
    have HA := Lib.hid hA
    have hne : (b == -9223372036854775808) = false := by simp [hm]
    have hwr : wrap64 (-b) = -b := wrap_fits hf
    clear hA hr hf ha hb hm
    go_enter Tryd.func14, Tryd.ntmps14
    go_wp2_with fail
    (with_reducible refine (HA.out _).mono ?_)
    rintro e w' ⟨rfl, hbl⟩
    have HB := Lib.hid hbl
    clear hbl
    unfold rtold
    go_wp2
    go_ret2
    exact ⟨rfl, HB.out⟩
end Go.Proofs.YtcaognakjigmbaaDoor
