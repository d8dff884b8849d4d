/-
  OnesCount64, TrailingZeros64, Has, Add and Del over a set's words.
-/
import Derived.Test.YtmdmanhjgbpgoaaDoorL1
namespace Go.Proofs.YtmdmanhjgbpgoaaDoor
open Go.RowKit

theorem bm85 : bmask 85 8 = 6148914691236517205 := by decide
theorem bm51 : bmask 51 8 = 3689348814741910323 := by decide
theorem bm15 : bmask 15 8 = 1085102592571150095 := by decide
theorem z1_nat (x : Nat) (h : x < 18446744073709551616) (h' : n1 8 x < 18446744073709551616) : z1 (x : Int) = (n1 8 x : Nat) := by
  unfold z1 n1 at *
  rw [bm85] at *
  rw [show ((x : Int) / 2) = ((x / 2 : Nat) : Int) by omega, show (6148914691236517205 : Int) = ((6148914691236517205 : Nat) : Int) by rfl, u64_and_nat _ _ (by omega) (by omega), u64_and_nat _ _ (by omega) (by omega), ← Int.natCast_add, wrap_nat _ h']
theorem z2_nat (x : Nat) (h : x < 18446744073709551616) (h' : n2 8 x < 18446744073709551616) : z2 (x : Int) = (n2 8 x : Nat) := by
  unfold z2 n2 at *
  rw [bm51] at *
  rw [show ((x : Int) / 4) = ((x / 4 : Nat) : Int) by omega, show (3689348814741910323 : Int) = ((3689348814741910323 : Nat) : Int) by rfl, u64_and_nat _ _ (by omega) (by omega), u64_and_nat _ _ (by omega) (by omega), ← Int.natCast_add, wrap_nat _ h']
theorem z3_nat (x : Nat) (h' : x / 16 + x < 18446744073709551616) : z3 (x : Int) = (n3 8 x : Nat) := by
  unfold z3 n3 at *
  rw [bm15] at *
  rw [show ((x : Int) / 16 + x) = ((x / 16 + x : Nat) : Int) by omega, show (1085102592571150095 : Int) = ((1085102592571150095 : Nat) : Int) by rfl, wrap_nat _ h', u64_and_nat _ _ h' (by omega)]
theorem z4_nat (d x : Nat) (h' : x + x / d < 18446744073709551616) : z4 (d : Int) (x : Int) = ((x + x / d : Nat) : Int) := by
  unfold z4
  rw [show ((x : Int) + x / d) = ((x + x / d : Nat) : Int) by simp, wrap_nat _ h']

theorem wrap_mod (m : Nat) : wrap64 (m : Int) % 128 = ((m % 128 : Nat) : Int) := by unfold wrap64; omega
theorem ones_any (x : Nat) (w : World) (h : x < 18446744073709551616) :
    Calls Tryd.prog 40 #[.int .u64 (x : Int)] w fun e w' => e = .returned (.int .i64 ((pop x : Nat) : Int)) ∧ w' = w := by
  refine (ones_z (x : Int) w (by omega) (by omega)).mono ?_
  rintro e w' ⟨rfl, rfl⟩
  refine ⟨ret_int ?_, rfl⟩
  have hall := swar_all x h
  dsimp only at hall
  obtain ⟨a1, a2, a3, a4, a5, a6, a7, a8⟩ := hall
  rw [z1_nat x h a1, z2_nat _ a1 a2, z3_nat _ a3]
  rw [show (256 : Int) = ((256 : Nat) : Int) by rfl, z4_nat _ _ a5, show (65536 : Int) = ((65536 : Nat) : Int) by rfl, z4_nat _ _ a6, show (4294967296 : Int) = ((4294967296 : Nat) : Int) by rfl, z4_nat _ _ a7]
  rw [i64_and127, wrap_mod]
  exact congrArg Int.ofNat a8

/-- The place that Go's own product finds. -/
theorem tz_idx (x k : Nat) (hk : k < 64) (h : Low x k) (hx : x < 18446744073709551616) :
    IntKind.u64.wrap (bits BinOp.and IntKind.u64 (x : Int) (IntKind.u64.wrap (-(x : Int))) * 285870213051353865) / 288230376151711744 = ((2 ^ k * 285870213051353865 % 18446744073709551616 / 288230376151711744 : Nat) : Int) := by
  have h0 : 1 ≤ x := by
    rcases Nat.eq_zero_or_pos x with rfl | h0
    · exact absurd h.symm (by have := Nat.two_pow_pos k; simp)
    · exact h0
  have e1 : IntKind.u64.wrap (-(x : Int)) = ((18446744073709551616 - x : Nat) : Int) := by
    simp [IntKind.wrap, IntKind.bits, IntKind.signed]; omega
  rw [e1, u64_and_nat _ _ hx (by omega), and_neg hk h hx]
  have e2 : ((2 ^ k : Nat) : Int) * 285870213051353865 = ((2 ^ k * 285870213051353865 : Nat) : Int) := by simp
  rw [e2]
  generalize 2 ^ k * 285870213051353865 = m
  simp [IntKind.wrap, IntKind.bits, IntKind.signed]

/-- The table of the library, as it lies in memory. -/
def Tab (w : World) : Prop := ∀ j, j < 64 → w.cell? ⟨1, j, none⟩ = some (.int .u8 ((dbTab.getD j 0 : Nat) : Int))

set_option maxHeartbeats 400000 in
theorem tz_at (x k : Nat) (w : World) (hk : k < 64) (h : Low x k) (hx : x < 18446744073709551616) (ht : Tab w) :
    Calls Tryd.prog 39 #[.int .u64 (x : Int)] w fun e w' => e = .returned (.int .i64 (k : Int)) ∧ w' = w := by
  have hJ := tz_idx x k hk h hx
  have hd := db_get ⟨k, hk⟩
  have hcell : w.cell? ⟨1, (IntKind.u64.wrap (bits BinOp.and IntKind.u64 (x : Int) (IntKind.u64.wrap (-(x : Int))) * 285870213051353865) / 288230376151711744).toNat, none⟩ = some (.int .u8 (k : Int)) := by
    rw [hJ, Int.toNat_natCast, ht _ hd.2, hd.1]
  have hJ0 : 0 ≤ IntKind.u64.wrap (bits BinOp.and IntKind.u64 (x : Int) (IntKind.u64.wrap (-(x : Int))) * 285870213051353865) / 288230376151711744 := by rw [hJ]; exact Int.natCast_nonneg _
  have hJ1 : IntKind.u64.wrap (bits BinOp.and IntKind.u64 (x : Int) (IntKind.u64.wrap (-(x : Int))) * 285870213051353865) / 288230376151711744 < 64 := by
    rw [hJ]; have := hd.2; simp only at this; exact Int.ofNat_lt.2 this
  have h0 : 1 ≤ (x : Int) := by
    rcases Nat.eq_zero_or_pos x with rfl | h0
    · exact absurd h.symm (by have := Nat.two_pow_pos k; simp)
    · omega
  clear hJ hd ht h
  go_enter Tryd.func39, Tryd.ntmps39
  go_wp2
  go_ret
  exact ⟨rfl, rfl⟩

/-- i is in the set of these words. -/
def mem (ws : List Nat) (i : Nat) : Bool := (ws.getD (i / 64) 0).testBit (i % 64)

theorem pow_cast (k : Nat) : (2 : Int) ^ k = ((2 ^ k : Nat) : Int) := by simp
theorem pow_lt (k : Nat) : 2 ^ (k % 64) < 18446744073709551616 :=
  Nat.lt_of_lt_of_le (Nat.pow_lt_pow_right (by omega) (Nat.mod_lt k (by omega : 0 < 64))) (by decide)
theorem and_bit_ne (x k : Nat) (hx : x < 18446744073709551616) : (bits .and .u64 (x : Int) ((2 : Int) ^ (k % 64)) != 0) = x.testBit (k % 64) := by
  rw [pow_cast, u64_and_nat _ _ hx (pow_lt k), nat_bit, Nat.testBit_eq_decide_div_mod_eq]
  have hp : 0 < 2 ^ (k % 64) := Nat.two_pow_pos _
  rcases Nat.mod_two_eq_zero_or_one (x / 2 ^ (k % 64)) with h | h
  · rw [h]; simp
  · rw [h]; generalize 2 ^ (k % 64) = m at *; simp; omega

set_option maxHeartbeats 400000 in
theorem has_yes (b c n cap : Nat) (i : Nat) (x : Nat) (w : World) (size : Int) (hc : w.cell? ⟨b, 0, none⟩ = some (.int .i64 size)) (hs : w.cell? ⟨b, 1, none⟩ = some (.slice (some ⟨c, 0, none⟩) n cap))
    (hx : w.cell? ⟨c, i / 64, none⟩ = some (.int .u64 (x : Int))) (hi : (i : Int) < size) (h4 : size ≤ 4096) (hn : i / 64 < n) (hx1 : x < 18446744073709551616) :
    Calls Tryd.prog 24 #[.pointer (some ⟨b, 0, none⟩), .int .i64 (i : Int)] w fun e w' => e = .returned (.bool (x.testBit (i % 64))) ∧ ∃ k, w' = w.drewN k := by
  have hb := Lib.hid (and_bit_ne x i hx1)
  go_enter Tryd.func24, Tryd.ntmps24
  go_wp2
  go_quiet (first | (go_at_call 32; exact Calls.quiet_of_same (fits_yes b size _ _ hc (by omega) hi)) | (go_at_call 38; exact Calls.quiet_of_same (bit_any _ _ (by omega) (by omega))))
  go_wp2
  go_ret
  refine ⟨?_, _, rfl⟩
  rw [← hb.out]; rfl

set_option maxHeartbeats 400000 in
theorem has_no (b : Nat) (i size : Int) (w : World) (hc : w.cell? ⟨b, 0, none⟩ = some (.int .i64 size)) (h : i < 0 ∨ size ≤ i) :
    Calls Tryd.prog 24 #[.pointer (some ⟨b, 0, none⟩), .int .i64 i] w fun e w' => e = .returned (.bool false) ∧ ∃ k, w' = w.drewN k := by
  go_enter Tryd.func24, Tryd.ntmps24
  go_wp2
  go_quiet ((go_at_call 32; exact Calls.quiet_of_same (fits_no b size _ _ hc h)))
  go_wp2
  go_ret
  exact ⟨rfl, _, rfl⟩

set_option maxHeartbeats 400000 in
theorem has_nil (i : Int) (w : World) :
    Calls Tryd.prog 24 #[.pointer none, .int .i64 i] w fun e w' => e = .returned (.bool false) ∧ ∃ k, w' = w.drewN k := by
  go_enter Tryd.func24, Tryd.ntmps24
  go_wp2
  go_quiet ((go_at_call 32; exact Calls.quiet_of_same (fits_nil _ _)))
  go_wp2
  go_ret
  exact ⟨rfl, _, rfl⟩
end Go.Proofs.YtmdmanhjgbpgoaaDoor
