/-
  Gcd of package safe and the document's own: both tell the greatest divisor of numbers from 0 on.
-/
import Derived.Test.YtcaognakjigmbaaDoorL1
namespace Go.Proofs.YtcaognakjigmbaaDoor
open Go.RowKit

theorem gcd_neg (a b : Int) (h : a < 0 ∨ b < 0) (w : World) : Calls Tryd.prog 17 #[.int .i64 a, .int .i64 b] w fun e w' => e = .returned (.tuple #[.int .i64 0, .iface 40 (.int .i64 1)]) ∧ w = w' := by
  by_cases ha : a < 0
  · clear h
    have h1 : decide (a < 0) = true := by simp [ha]
    go_enter Tryd.func17, Tryd.ntmps17
    go_wp2
    go_ret2
    exact ⟨rfl, rfl⟩
  · have h1 : decide (a < 0) = false := by simp; omega
    have h2 : decide (b < 0) = true := by simp; omega
    clear h ha
    go_enter Tryd.func17, Tryd.ntmps17
    go_wp2
    go_ret2
    exact ⟨rfl, rfl⟩

def GcdRel (a b : Nat) (w : World) (u v : Value) (wr : World) : Prop := ∃ x y : Nat, u = .int .i64 (x : Int) ∧ v = .int .i64 (y : Int) ∧ Nat.gcd x y = Nat.gcd a b ∧ x < 9223372036854775808 ∧ y < 9223372036854775808 ∧ ∃ n, wr = w.drewN n
def GcdF (a b : Nat) (w : World) (e : Ending) (w' : World) : Prop := e = .returned (.tuple #[.int .i64 ((Nat.gcd a b : Nat) : Int), .nilIface]) ∧ ∃ n, w' = w.drewN n

set_option maxHeartbeats 400000 in
theorem gcd_any (a b : Nat) (ha : a < 9223372036854775808) (hb : b < 9223372036854775808) (w : World) : Calls Tryd.prog 17 #[.int .i64 (a : Int), .int .i64 (b : Int)] w (GcdF a b w) := by
  have h1 : decide ((a : Int) < 0) = false := by simp
  have h2 : decide ((b : Int) < 0) = false := by simp
  go_enter Tryd.func17, Tryd.ntmps17
  go_wp2
  clear h1 h2
  go_loopw [0, 1] (fun u v wr => GcdRel a b w u v wr) (fun _ v _ => (intOf v).toNat)
  case atStart => exact ⟨a, b, rfl, rfl, rfl, ha, hb, 0, rfl⟩
  case round =>
    obtain ⟨x, y, rfl, rfl, hg, hx, hy, n, rfl⟩ := hrel
    have HG := Lib.hid hg
    clear hg
    by_cases h0 : y = 0
    · have HH := Lib.hid h0
      have hne : ((y : Int) != 0) = false := by simp [h0]
      clear h0
      go_wp2
      go_ret2
      refine ⟨?_, n, rfl⟩
      have : Nat.gcd a b = x := by rw [← HG.out, HH.out, Nat.gcd_zero_right]
      rw [this]; rfl
    · have hne : ((y : Int) != 0) = true := by simp [h0]
      have hy1 : (y : Int) ≠ 0 := by omega
      go_wp2
      go_quiet (fail)
      go_wp2
      go_roundw
      case rel =>
        refine ⟨y, x % y, rfl, rfl, ?_, hy, ?_, n + nq, World.drewN_drewN _ _ _⟩
        · rw [Nat.gcd_comm, ← Nat.gcd_rec, Nat.gcd_comm]; exact HG.out
        · have := Nat.mod_lt x (Nat.pos_of_ne_zero h0); omega
      case measure =>
        have := Nat.mod_lt x (Nat.pos_of_ne_zero h0)
        simp only [intOf]
        omega

def RgcdRel (a b : Nat) (u v : Value) : Prop := ∃ x y : Nat, u = .int .i64 (x : Int) ∧ v = .int .i64 (y : Int) ∧ Nat.gcd x y = Nat.gcd a b ∧ x < 9223372036854775808 ∧ y < 9223372036854775808
def RgcdF (a b : Nat) (w : World) (e : Ending) (w' : World) : Prop := e = .returned (.int .i64 ((Nat.gcd a b : Nat) : Int)) ∧ w = w'

set_option maxHeartbeats 400000 in
theorem rgcd_any (a b : Nat) (ha : a < 9223372036854775808) (hb : b < 9223372036854775808) (w : World) : Calls Tryd.prog 19 #[.int .i64 (a : Int), .int .i64 (b : Int)] w (RgcdF a b w) := by
  go_enter Tryd.func19, Tryd.ntmps19
  go_wp2
  go_loop [0, 1] (fun u v => RgcdRel a b u v) (fun u v => (intOf u).toNat + (intOf v).toNat)
  case atStart => exact ⟨a, b, rfl, rfl, rfl, ha, hb⟩
  case round =>
    obtain ⟨x, y, rfl, rfl, hg, hx, hy⟩ := hrel
    have HG := Lib.hid hg
    clear hg
    by_cases h0 : x = 0
    · subst h0
      have hne : (((0 : Nat) : Int) != 0) = false := by simp
      go_wp2
      go_ret
      refine ⟨ret_int ?_, rfl⟩
      have := HG.out
      rw [Nat.gcd_zero_left] at this
      rw [← this]
    by_cases h1 : y = 0
    · subst h1
      have hne : ((x : Int) != 0) = true := by simp [h0]
      go_wp2
      go_ret
      refine ⟨ret_int ?_, rfl⟩
      have := HG.out
      rw [Nat.gcd_zero_right] at this
      rw [← this]
    have hne : ((x : Int) != 0) = true := by simp [h0]
    have hnf : ((y : Int) != 0) = true := by simp [h1]
    have hx1 : (x : Int) ≠ 0 := by omega
    have hy1 : (y : Int) ≠ 0 := by omega
    by_cases h2 : y ≤ x
    · have hd : decide (y ≤ x) = true := by simp [h2]
      go_wp2
      go_round
      case rel =>
        refine ⟨x % y, y, rfl, rfl, ?_, ?_, hy⟩
        · rw [← Nat.gcd_rec, Nat.gcd_comm]; exact HG.out
        · have := Nat.mod_lt x (Nat.pos_of_ne_zero h1); omega
      case measure =>
        have := Nat.mod_lt x (Nat.pos_of_ne_zero h1)
        simp only [intOf]
        omega
    · have hd : decide (y ≤ x) = false := by simp; omega
      go_wp2
      go_round
      case rel =>
        refine ⟨x, y % x, rfl, rfl, ?_, hx, ?_⟩
        · rw [Nat.gcd_comm, ← Nat.gcd_rec]; exact HG.out
        · have := Nat.mod_lt y (Nat.pos_of_ne_zero h0); omega
      case measure =>
        have := Nat.mod_lt y (Nat.pos_of_ne_zero h0)
        simp only [intOf]
        omega
end Go.Proofs.YtcaognakjigmbaaDoor
