/-
  The document's own sums and products: bits.Mul64, bits.Add64, the size of a number, a number of 128 bits that fits.
-/
import Derived.Test.YtcaognakjigmbaaDoorL3
import Derived.Lib.Mul64
import Derived.Laws.Bits64b
import Derived.Laws.Externs
namespace Go.Proofs.YtcaognakjigmbaaDoor
open Go.RowKit

theorem maskN (a : Nat) (ha : a < 18446744073709551616) : bits .and .u64 (a : Int) 4294967295 = ((a % 4294967296 : Nat) : Int) := by
  have h := bits_and_u64_nat a 4294967295 ha (by omega)
  have e : a &&& 4294967295 = a % 4294967296 := Nat.and_two_pow_sub_one_eq_mod a 32
  rw [e] at h
  exact h
theorem divN (a : Nat) : (a : Int) / 4294967296 = ((a / 4294967296 : Nat) : Int) := by omega
theorem mulN (a b : Nat) : (a : Int) * (b : Int) = ((a * b : Nat) : Int) := (Int.natCast_mul a b).symm
theorem addN (a b : Nat) : (a : Int) + (b : Int) = ((a + b : Nat) : Int) := (Int.natCast_add a b).symm
theorem wrapN (a : Nat) (ha : a < 18446744073709551616) : IntKind.u64.wrap (a : Int) = (a : Int) := by rw [IntKind.wrap_u64]; omega
theorem wrapM (a : Nat) : IntKind.u64.wrap (a : Int) = ((a % 18446744073709551616 : Nat) : Int) := by rw [IntKind.wrap_u64]; omega

set_option maxHeartbeats 1000000 in
theorem mulsf_any (x y : Nat) (hx : x < 18446744073709551616) (hy : y < 18446744073709551616) (w : World) :
    Calls Tryd.prog 25 #[.int .u64 x, .int .u64 y] w fun e w' => e = .returned (.tuple #[.int .u64 ((x * y / 18446744073709551616 : Nat) : Int), .int .u64 ((x * y % 18446744073709551616 : Nat) : Int)]) ∧ w = w' := by
  obtain ⟨bd, bt, bw, hhi⟩ := Lib.mul64_hi x y hx hy
  have ba := Lib.half_mul_le (a := x / 4294967296) (b := y / 4294967296) (by omega) (by omega)
  have bb := Lib.half_mul_le (a := x / 4294967296) (b := y % 4294967296) (by omega) (by omega)
  have bc := Lib.half_mul_le (a := x % 4294967296) (b := y / 4294967296) (by omega) (by omega)
  have ba' : x / 4294967296 * (y / 4294967296) < 18446744073709551616 := by omega
  have bb' : x / 4294967296 * (y % 4294967296) < 18446744073709551616 := by omega
  have bc' : x % 4294967296 * (y / 4294967296) < 18446744073709551616 := by omega
  have bh1 : x / 4294967296 * (y / 4294967296) + (x / 4294967296 * (y % 4294967296) + x % 4294967296 * (y % 4294967296) / 4294967296) / 4294967296 < 18446744073709551616 := by omega
  have bh : x / 4294967296 * (y / 4294967296) + (x / 4294967296 * (y % 4294967296) + x % 4294967296 * (y % 4294967296) / 4294967296) / 4294967296 + ((x / 4294967296 * (y % 4294967296) + x % 4294967296 * (y % 4294967296) / 4294967296) % 4294967296 + x % 4294967296 * (y / 4294967296)) / 4294967296 < 18446744073709551616 := by omega
  go_enter Tryd.func25, Tryd.ntmps25
  go_wp2
  simp only [maskN x hx, maskN y hy, divN, mulN, addN, wrapN _ bd, wrapN _ bb', wrapN _ bt, maskN _ bt, wrapN _ bc', wrapN _ bw, wrapN _ ba', wrapN _ bh1, wrapN _ bh, wrapM (x * y)]
  rw [hhi]
  go_ret2
  exact ⟨rfl, rfl⟩

theorem addsf_run (x y : Nat) (w : World) : (callFunc 22 #[.int .u64 (x : Int), .int .u64 (y : Int), .int .u64 0]).run Tryd.prog w =
    .ok (.value (.tuple #[.int .u64 (((x + y) % 18446744073709551616 : Nat) : Int), .int .u64 (((x + y) / 18446744073709551616 : Nat) : Int)])) w := by
  rw [run_callFunc_extern Tryd.func22 (by kernel_rfl) (by kernel_rfl) (by kernel_rfl) (e := add64Entry) (by kernel_rfl), run_add64 x y 0 (by omega) (by omega) (by omega) (by omega)]
  simp only [Result.andThen]
  congr 5 <;> omega

theorem size_any (a : Int) (ha : Fits a) (w : World) : Calls Tryd.prog 23 #[.int .i64 a] w fun e w' => e = .returned (.int .u64 (a.natAbs : Int)) ∧ w = w' := by
  obtain ⟨h1, h2⟩ := ha
  by_cases h : a < 0
  · go_enter Tryd.func23, Tryd.ntmps23
    go_wp2
    go_ret
    refine ⟨ret_int ?_, rfl⟩
    first | omega | (simp only [IntKind.wrap_u64]; omega) | trace_state
  · go_enter Tryd.func23, Tryd.ntmps23
    go_wp2
    go_ret
    refine ⟨ret_int ?_, rfl⟩
    first | omega | (simp only [IntKind.wrap_u64]; omega) | trace_state

/-- The number of 128 bits behind a Wide. -/
def wide (hi lo : Nat) (b : Bool) : Int := if b then -((hi * 18446744073709551616 + lo : Nat) : Int) else ((hi * 18446744073709551616 + lo : Nat) : Int)
def WideF (z : Int) (w : World) (e : Ending) (w' : World) : Prop := e = .returned (rtold z) ∧ Below w.heap.size w w'

set_option maxHeartbeats 400000 in
theorem fits_any (hi lo : Nat) (b : Bool) (hh : hi < 18446744073709551616) (hl : lo < 18446744073709551616) (w : World) :
    Calls Tryd.prog 24 #[.agg #[.int .u64 (hi : Int), .int .u64 (lo : Int), .bool b]] w (WideF (wide hi lo b) w) := by
  by_cases h0 : 0 < hi
  · have hn : ¬ Fits (wide hi lo b) := by unfold Fits wide; split <;> omega
    unfold WideF
    rw [rtold_not hn]
    clear hn
    have hd : decide (0 < hi) = true := by simp [h0]
    go_enter Tryd.func24, Tryd.ntmps24
    go_wp2
    go_ret2
    exact ⟨rfl, (Below.refl _ _).alloc (Nat.le_refl _) _⟩
  obtain rfl : hi = 0 := by omega
  clear h0 hh
  cases b
  · by_cases h1 : 9223372036854775808 ≤ lo
    · have hn : ¬ Fits (wide 0 lo false) := by unfold Fits wide; simp; omega
      unfold WideF
      rw [rtold_not hn]
      clear hn
      have hd : decide ((9223372036854775808 : Int) ≤ lo) = true := by simp; omega
      go_enter Tryd.func24, Tryd.ntmps24
      go_wp2
      go_ret2
      exact ⟨rfl, (Below.refl _ _).alloc (Nat.le_refl _) _⟩
    · have hn : Fits (wide 0 lo false) := by unfold Fits wide; simp; omega
      have e : wide 0 lo false = lo := by simp [wide]
      unfold WideF
      rw [rtold_fits hn, e]
      clear hn e
      have hd : decide ((9223372036854775808 : Int) ≤ lo) = false := by simp; omega
      go_enter Tryd.func24, Tryd.ntmps24
      go_wp2
      go_ret2
      exact ⟨rfl, (Below.refl _ _).alloc (Nat.le_refl _) _⟩
  · by_cases h1 : 9223372036854775808 < lo
    · have hn : ¬ Fits (wide 0 lo true) := by unfold Fits wide; simp; omega
      unfold WideF
      rw [rtold_not hn]
      clear hn
      have hd : decide ((9223372036854775808 : Int) < lo) = true := by simp; omega
      go_enter Tryd.func24, Tryd.ntmps24
      go_wp2
      go_ret2
      exact ⟨rfl, (Below.refl _ _).alloc (Nat.le_refl _) _⟩
    by_cases h2 : lo = 9223372036854775808
    · subst h2
      clear h1
      have hn : Fits (wide 0 9223372036854775808 true) := by decide
      have e : wide 0 9223372036854775808 true = -9223372036854775808 := by decide
      unfold WideF
      rw [rtold_fits hn, e]
      clear hn e
      go_enter Tryd.func24, Tryd.ntmps24
      go_wp2
      go_ret2
      exact ⟨rfl, (Below.refl _ _).alloc (Nat.le_refl _) _⟩
    · have hn : Fits (wide 0 lo true) := by unfold Fits wide; simp; omega
      have e : wide 0 lo true = -(lo : Int) := by simp [wide]
      unfold WideF
      rw [rtold_fits hn, e]
      clear hn e
      have hd : decide ((9223372036854775808 : Int) < lo) = false := by simp; omega
      have hq : ((lo : Int) == 9223372036854775808) = false := by simp; omega
      go_enter Tryd.func24, Tryd.ntmps24
      go_wp2
      go_ret2
      exact ⟨rfl, (Below.refl _ _).alloc (Nat.le_refl _) _⟩
end Go.Proofs.YtcaognakjigmbaaDoor
