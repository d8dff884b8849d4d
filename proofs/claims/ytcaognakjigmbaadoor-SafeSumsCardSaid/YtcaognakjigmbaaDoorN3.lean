/-
  The walk of SafeBack.
-/
import Derived.Test.YtcaognakjigmbaaDoorN1
namespace Go.Proofs.YtcaognakjigmbaaDoor
open Go.RowKit

/-- What Gcd tells. -/
def GcdG (n : Int) (er : Value) (w : World) (e : Ending) (w' : World) : Prop := e = .returned (.tuple #[.int .i64 n, er]) ∧ Below w.heap.size w w'
theorem gcd_of_neg (a b : Int) (h : a < 0 ∨ b < 0) (w : World) : Calls Tryd.prog 17 #[.int .i64 a, .int .i64 b] w (GcdG 0 (.iface 40 (.int .i64 1)) w) := by
  refine (gcd_neg a b h w).mono ?_
  rintro e w' ⟨rfl, rfl⟩
  exact ⟨rfl, Below.refl _ _⟩
theorem gcd_of_pos (a b : Int) (ha : Fits a) (hb : Fits b) (h1 : 0 ≤ a) (h2 : 0 ≤ b) (w : World) : Calls Tryd.prog 17 #[.int .i64 a, .int .i64 b] w (GcdG ((Nat.gcd a.toNat b.toNat : Nat) : Int) .nilIface w) := by
  obtain ⟨x, rfl⟩ := Int.eq_ofNat_of_zero_le h1
  obtain ⟨y, rfl⟩ := Int.eq_ofNat_of_zero_le h2
  unfold Fits at *
  refine (gcd_any x y (by omega) (by omega) w).mono ?_
  rintro e w' ⟨rfl, n, rfl⟩
  exact ⟨rfl, below_drewN (Below.refl _ _) n⟩

/-- Product, remainder, quotient: nothing is said against it. -/
def MulOk (a b z : Int) : Prop := b = 0 ∨ (b ≠ 0 ∧ z.tmod b = 0 ∧ (b = -1 ∨ (b ≠ -1 ∧ wrap64 (z.tdiv b) = a)))
theorem mul_ok (a b : Int) (ha : Fits a) : MulOk a b (a * b) := by
  by_cases h0 : b = 0
  · exact Or.inl h0
  · refine Or.inr ⟨h0, Int.mul_tmod_left _ _, ?_⟩
    by_cases h1 : b = -1
    · exact Or.inl h1
    · exact Or.inr ⟨h1, by rw [Int.mul_tdiv_cancel a h0, wrap_fits ha]⟩

/-- What Gcd tells, and that it divides. -/
def GcdOk (a b n : Int) (er : Value) : Prop := (n = 0 ∧ er = .iface 40 (.int .i64 1)) ∨ (n = 0 ∧ a = 0 ∧ b = 0 ∧ er = .nilIface) ∨ (er = .nilIface ∧ 0 < n ∧ a.tmod n = 0 ∧ b.tmod n = 0)
theorem gcd_ok (a b : Int) (ha : Fits a) (hb : Fits b) : ∃ n er, (∀ w, Calls Tryd.prog 17 #[.int .i64 a, .int .i64 b] w (GcdG n er w)) ∧ GcdOk a b n er := by
  by_cases h : a < 0 ∨ b < 0
  · exact ⟨_, _, gcd_of_neg a b h, Or.inl ⟨rfl, rfl⟩⟩
  · refine ⟨_, _, gcd_of_pos a b ha hb (by omega) (by omega), Or.inr ?_⟩
    obtain ⟨x, rfl⟩ := Int.eq_ofNat_of_zero_le (show 0 ≤ a by omega)
    obtain ⟨y, rfl⟩ := Int.eq_ofNat_of_zero_le (show 0 ≤ b by omega)
    simp only [Int.toNat_natCast]
    by_cases h0 : Nat.gcd x y = 0
    · have := Nat.gcd_eq_zero_iff.1 h0
      exact Or.inl ⟨by omega, by omega, by omega, trivial⟩
    · refine Or.inr ⟨trivial, by omega, ?_, ?_⟩
      · exact Int.tmod_eq_zero_of_dvd (Int.natCast_dvd_natCast.2 (Nat.gcd_dvd_left x y))
      · exact Int.tmod_eq_zero_of_dvd (Int.natCast_dvd_natCast.2 (Nat.gcd_dvd_right x y))

set_option maxHeartbeats 2000000 in
set_option maxRecDepth 100000 in
theorem back_yes (a b : Int) (ha : Fits a) (hb : Fits b) (w : World) (hG : Glob w) : Calls Tryd.prog 5 #[.int .i64 a, .int .i64 b] w (LawF w) := by
  have HL := Lib.hid (alive_yes w hG)
  have H1 := Lib.hid (add_any a b ha hb)
  have h2 := fun hf : Fits (a + b) => sub_any (a + b) b hf hb
  rw [show a + b - b = a by omega] at h2
  have H2 := Lib.hid h2
  have HA := Lib.hid ha
  have H3 := Lib.hid (mul_any a b ha hb)
  obtain ⟨n, er, h4, hk⟩ := gcd_ok a b ha hb
  have H4 := Lib.hid h4
  have HK := Lib.hid hk
  have HM := Lib.hid (mul_ok a b ha)
  clear ha hb hG h2 h4 hk
  generalize a + b = x at *
  generalize a * b = z at *
  go_enter Tryd.func5, Tryd.ntmps5
  go_wp2_with fail
  (with_reducible refine HL.out.mono ?_)
  rintro e w1 ⟨rfl, hb1⟩
  have HB1 := Lib.hid hb1
  clear hb1
  go_wp2_with fail
  (with_reducible refine (H1.out _).mono ?_)
  rintro e w' ⟨rfl, rfl⟩
  by_cases hx : Fits x
  case' pos =>
    have HX := Lib.hid (H2.out hx)
    rw [told_fits hx]
    clear hx
    go_wp2_with fail
    (with_reducible refine (HX.out _).mono ?_)
    rintro e w' ⟨rfl, rfl⟩
    rw [told_fits HA.out]
    clear HX
  case' neg =>
    rw [told_not hx]
    clear hx
  all_goals
    clear H1 H2 HL
    go_wp2_with fail
    (with_reducible refine (H3.out _).mono ?_)
    rintro e w' ⟨rfl, rfl⟩
    clear H3
    by_cases hz : Fits z
  all_goals first | rw [told_fits hz] | rw [told_not hz]
  all_goals clear hz
  all_goals rcases HM.out with h0 | ⟨h0, hr, h1 | ⟨h1, hq⟩⟩
  all_goals first | (have hne : (b != -1) = true := by simp [h1]) | (subst h1) | skip
  all_goals first | (have hnz : (b != 0) = true := by simp [h0]) | (subst h0) | skip
  all_goals
    clear HM
    go_wp2_with fail
    (with_reducible refine (H4.out _).mono ?_)
    rintro e w2 ⟨rfl, hb2⟩
    have HB2 := Lib.hid (HB1.out.trans (hb2.mono HB1.out.size))
    clear hb2 HB1 H4
    rcases HK.out with ⟨rfl, rfl⟩ | ⟨rfl, ha0, hb0, rfl⟩ | ⟨rfl, hn, hm1, hm2⟩
  all_goals clear HK
  all_goals first | (exfalso; omega) | skip
  all_goals first | (subst ha0) | skip
  all_goals first | (subst hb0) | (clear hb0) | skip
  all_goals first | (have hnp : decide (0 < n) = true := by simp [hn]) | skip
  all_goals first | (have hnn : (n == 0) = false := by simp; omega) | skip
  all_goals first | (have hnq : n ≠ 0 := by omega) | skip
  all_goals
    go_wp2
    go_ret
    exact ⟨rfl, HB2.out⟩
end Go.Proofs.YtcaognakjigmbaaDoor
