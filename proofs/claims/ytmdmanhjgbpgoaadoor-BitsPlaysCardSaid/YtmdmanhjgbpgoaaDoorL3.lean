/-
  Add and Del, said of the cells of a set in memory, and of nil.
-/
import Derived.Test.YtmdmanhjgbpgoaaDoorL2
import Derived.Deep.RegionWith
namespace Go.Proofs.YtmdmanhjgbpgoaaDoor
open Go.RowKit

theorem or_bit (x k : Nat) (hx : x < 18446744073709551616) : bits .or .u64 (x : Int) ((2 : Int) ^ (k % 64)) = ((x ||| 2 ^ (k % 64) : Nat) : Int) := by
  rw [pow_cast, u64_or_nat _ _ hx (pow_lt k)]
theorem andNot_bit (x k : Nat) (hx : x < 18446744073709551616) : bits .andNot .u64 (x : Int) ((2 : Int) ^ (k % 64)) = ((x &&& (18446744073709551615 - 2 ^ (k % 64)) : Nat) : Int) := by
  rw [pow_cast, u64_andNot_nat _ _ hx (pow_lt k)]

set_option maxHeartbeats 400000 in
theorem add_new (b c n cap i q x : Nat) (w : World) (size : Int) (hc : w.cell? ⟨b, 0, none⟩ = some (.int .i64 size)) (hs : w.cell? ⟨b, 1, none⟩ = some (.slice (some ⟨c, 0, none⟩) n cap)) (hq : i / 64 = q)
    (hx : w.cell? ⟨c, q, none⟩ = some (.int .u64 (x : Int))) (hf : w.frozen? ⟨c, q, none⟩ = false) (hi : (i : Int) < size) (h4 : size ≤ 4096) (hn : q < n) (hx1 : x < 18446744073709551616) (hno : x.testBit (i % 64) = false) :
    Calls Tryd.prog 17 #[.pointer (some ⟨b, 0, none⟩), .int .i64 (i : Int)] w fun e w' => e = .returned (.bool true) ∧ ∃ k, w' = (w.drewN k).setCell ⟨c, q, none⟩ (.int .u64 ((x ||| 2 ^ (i % 64) : Nat) : Int)) := by
  have HN := Lib.hid hno
  have HQ := Lib.hid hq
  have HV := Lib.hid (or_bit x i hx1)
  have q1 : IntKind.i64.wrap (q : Int) = (q : Int) := IntWalk.i64_in _ (by omega)
  have q5 : (i : Int).tdiv 64 = (q : Int) := by rw [Int.tdiv_eq_ediv_of_nonneg (by omega)]; omega
  have Q1 := Lib.hid q1
  have Q5 := Lib.hid q5
  clear hno hq q1 q5
  go_enter Tryd.func17, Tryd.ntmps17
  go_wp2_with fail
  refine (fits_yes b size _ _ hc (by omega) hi).mono ?_
  rintro e w1 ⟨rfl, hw1⟩
  rw [hw1]
  clear hw1 w1
  go_wp2_with fail
  refine (has_yes b c n cap i x _ size hc hs (by rw [HQ.out]; exact hx) hi h4 (by rw [HQ.out]; exact hn) hx1).mono ?_
  rintro e w' ⟨rfl, k, rfl⟩
  rw [HN.out]
  go_wp2_with fail
  have q1 := Q1.out
  have q5 := Q5.out
  have q6 : (i : Int) / 64 = (q : Int) := by have := HQ.out; omega
  have q2 : (0 : Int) ≤ (q : Int) := by omega
  have q3 : (q : Int) < (n : Int) := by omega
  go_region_with ((go_at_call 38; refine (bit_any _ _ (by omega) (by omega)).mono ?_; rintro e w' ⟨rfl, rfl⟩))
  all_goals go_wp2
  all_goals go_ret
  all_goals exact ⟨rfl, k + 1, by rw [HV.out]⟩

set_option maxHeartbeats 400000 in
theorem add_old (b c n cap i q x : Nat) (w : World) (size : Int) (hc : w.cell? ⟨b, 0, none⟩ = some (.int .i64 size)) (hs : w.cell? ⟨b, 1, none⟩ = some (.slice (some ⟨c, 0, none⟩) n cap)) (hq : i / 64 = q)
    (hx : w.cell? ⟨c, q, none⟩ = some (.int .u64 (x : Int))) (hi : (i : Int) < size) (h4 : size ≤ 4096) (hn : q < n) (hx1 : x < 18446744073709551616) (hno : x.testBit (i % 64) = true) :
    Calls Tryd.prog 17 #[.pointer (some ⟨b, 0, none⟩), .int .i64 (i : Int)] w fun e w' => e = .returned (.bool false) ∧ ∃ k, w' = w.drewN k := by
  have HN := Lib.hid hno
  have HQ := Lib.hid hq
  clear hno hq
  go_enter Tryd.func17, Tryd.ntmps17
  go_wp2_with fail
  refine (fits_yes b size _ _ hc (by omega) hi).mono ?_
  rintro e w1 ⟨rfl, hw1⟩
  rw [hw1]
  clear hw1 w1
  go_wp2_with fail
  refine (has_yes b c n cap i x _ size hc hs (by rw [HQ.out]; exact hx) hi h4 (by rw [HQ.out]; exact hn) hx1).mono ?_
  rintro e w' ⟨rfl, k, rfl⟩
  rw [HN.out]
  go_wp2_with fail
  go_ret
  exact ⟨rfl, k, rfl⟩

set_option maxHeartbeats 400000 in
theorem add_no (b : Nat) (i size : Int) (w : World) (hc : w.cell? ⟨b, 0, none⟩ = some (.int .i64 size)) (h : i < 0 ∨ size ≤ i) :
    Calls Tryd.prog 17 #[.pointer (some ⟨b, 0, none⟩), .int .i64 i] w fun e w' => e = .returned (.bool false) ∧ w' = w := by
  go_enter Tryd.func17, Tryd.ntmps17
  go_wp2_with fail
  refine (fits_no b size _ _ hc h).mono ?_
  rintro e w1 ⟨rfl, rfl⟩
  go_wp2_with fail
  go_ret
  exact ⟨rfl, rfl⟩

set_option maxHeartbeats 400000 in
theorem add_nil (i : Int) (w : World) :
    Calls Tryd.prog 17 #[.pointer none, .int .i64 i] w fun e w' => e = .returned (.bool false) ∧ w' = w := by
  go_enter Tryd.func17, Tryd.ntmps17
  go_wp2_with fail
  refine (fits_nil _ _).mono ?_
  rintro e w1 ⟨rfl, rfl⟩
  go_wp2_with fail
  go_ret
  exact ⟨rfl, rfl⟩

set_option maxHeartbeats 400000 in
theorem del_yes (b c n cap i q x : Nat) (w : World) (size : Int) (hc : w.cell? ⟨b, 0, none⟩ = some (.int .i64 size)) (hs : w.cell? ⟨b, 1, none⟩ = some (.slice (some ⟨c, 0, none⟩) n cap)) (hq : i / 64 = q)
    (hx : w.cell? ⟨c, q, none⟩ = some (.int .u64 (x : Int))) (hf : w.frozen? ⟨c, q, none⟩ = false) (hi : (i : Int) < size) (h4 : size ≤ 4096) (hn : q < n) (hx1 : x < 18446744073709551616) (hno : x.testBit (i % 64) = true) :
    Calls Tryd.prog 19 #[.pointer (some ⟨b, 0, none⟩), .int .i64 (i : Int)] w fun e w' => e = .returned (.bool true) ∧ ∃ k, w' = (w.drewN k).setCell ⟨c, q, none⟩ (.int .u64 ((x &&& (18446744073709551615 - 2 ^ (i % 64)) : Nat) : Int)) := by
  have HN := Lib.hid hno
  have HQ := Lib.hid hq
  have HV := Lib.hid (andNot_bit x i hx1)
  have Q1 := Lib.hid (show IntKind.i64.wrap (q : Int) = (q : Int) from IntWalk.i64_in _ (by omega))
  have Q5 := Lib.hid (show (i : Int).tdiv 64 = (q : Int) by rw [Int.tdiv_eq_ediv_of_nonneg (by omega)]; omega)
  clear hno hq
  go_enter Tryd.func19, Tryd.ntmps19
  go_wp2_with fail
  refine (has_yes b c n cap i x _ size hc hs (by rw [HQ.out]; exact hx) hi h4 (by rw [HQ.out]; exact hn) hx1).mono ?_
  rintro e w' ⟨rfl, k, rfl⟩
  rw [HN.out]
  go_wp2_with fail
  have q1 := Q1.out
  have q5 := Q5.out
  have q6 : (i : Int) / 64 = (q : Int) := by have := HQ.out; omega
  have q2 : (0 : Int) ≤ (q : Int) := by omega
  have q3 : (q : Int) < (n : Int) := by omega
  go_region_with ((go_at_call 38; refine (bit_any _ _ (by omega) (by omega)).mono ?_; rintro e w' ⟨rfl, rfl⟩))
  all_goals go_wp2
  all_goals go_ret
  all_goals exact ⟨rfl, k + 1, by rw [HV.out]⟩

set_option maxHeartbeats 400000 in
theorem del_old (b c n cap i q x : Nat) (w : World) (size : Int) (hc : w.cell? ⟨b, 0, none⟩ = some (.int .i64 size)) (hs : w.cell? ⟨b, 1, none⟩ = some (.slice (some ⟨c, 0, none⟩) n cap)) (hq : i / 64 = q)
    (hx : w.cell? ⟨c, q, none⟩ = some (.int .u64 (x : Int))) (hi : (i : Int) < size) (h4 : size ≤ 4096) (hn : q < n) (hx1 : x < 18446744073709551616) (hno : x.testBit (i % 64) = false) :
    Calls Tryd.prog 19 #[.pointer (some ⟨b, 0, none⟩), .int .i64 (i : Int)] w fun e w' => e = .returned (.bool false) ∧ ∃ k, w' = w.drewN k := by
  have HN := Lib.hid hno
  have HQ := Lib.hid hq
  clear hno hq
  go_enter Tryd.func19, Tryd.ntmps19
  go_wp2_with fail
  refine (has_yes b c n cap i x _ size hc hs (by rw [HQ.out]; exact hx) hi h4 (by rw [HQ.out]; exact hn) hx1).mono ?_
  rintro e w' ⟨rfl, k, rfl⟩
  rw [HN.out]
  go_wp2_with fail
  go_ret
  exact ⟨rfl, k, rfl⟩

set_option maxHeartbeats 400000 in
theorem del_no (b : Nat) (i size : Int) (w : World) (hc : w.cell? ⟨b, 0, none⟩ = some (.int .i64 size)) (h : i < 0 ∨ size ≤ i) :
    Calls Tryd.prog 19 #[.pointer (some ⟨b, 0, none⟩), .int .i64 i] w fun e w' => e = .returned (.bool false) ∧ ∃ k, w' = w.drewN k := by
  go_enter Tryd.func19, Tryd.ntmps19
  go_wp2_with fail
  refine (has_no b _ size _ hc h).mono ?_
  rintro e w1 ⟨rfl, k, rfl⟩
  go_wp2_with fail
  go_ret
  exact ⟨rfl, k, rfl⟩

set_option maxHeartbeats 400000 in
theorem del_nil (i : Int) (w : World) :
    Calls Tryd.prog 19 #[.pointer none, .int .i64 i] w fun e w' => e = .returned (.bool false) ∧ ∃ k, w' = w.drewN k := by
  go_enter Tryd.func19, Tryd.ntmps19
  go_wp2_with fail
  refine (has_nil _ _).mono ?_
  rintro e w1 ⟨rfl, k, rfl⟩
  go_wp2_with fail
  go_ret
  exact ⟨rfl, k, rfl⟩
end Go.Proofs.YtmdmanhjgbpgoaaDoor
