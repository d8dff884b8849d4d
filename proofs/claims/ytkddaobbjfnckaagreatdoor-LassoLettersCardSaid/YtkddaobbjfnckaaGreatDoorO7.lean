/-
  Repeat of a truth, all; walked.
-/
import Derived.Test.YtkddaobbjfnckaaGreatDoorO6
import Derived.Lib.Mul64
import Derived.Laws.Bits64b
import Derived.Laws.Externs
import Derived.Laws.CopyOwn
import Derived.Deep.RegionLaw
namespace Go.Proofs.YtkddaobbjfnckaaGreatDoor
open Go.RowKit

theorem maskN (a : Nat) (ha : a < 18446744073709551616) : bits .and .u64 (a : Int) 4294967295 = ((a % 4294967296 : Nat) : Int) := by
  have h := bits_and_u64_nat a 4294967295 ha (by omega)
  have e : a &&& 4294967295 = a % 4294967296 := Nat.and_two_pow_sub_one_eq_mod a 32
  rw [e] at h
  exact h
theorem divN (a : Nat) : (a : Int) / 4294967296 = ((a / 4294967296 : Nat) : Int) := by omega
theorem mulN (a b : Nat) : (a : Int) * (b : Int) = ((a * b : Nat) : Int) := (Int.natCast_mul a b).symm
theorem addN (a b : Nat) : (a : Int) + (b : Int) = ((a + b : Nat) : Int) := (Int.natCast_add a b).symm
theorem wrapN (a : Nat) (ha : a < 18446744073709551616) : IntKind.u64.wrap (a : Int) = (a : Int) := by rw [IntKind.wrap_u64]; omega
theorem wrapM (a : Nat) : IntKind.u64.wrap (a : Int) = ((a % 18446744073709551616 : Nat) : Int) := by rw [IntKind.wrap_u64]; omega
set_option maxHeartbeats 1000000 in
theorem mulsf_any (x y : Nat) (hx : x < 18446744073709551616) (hy : y < 18446744073709551616) (w : World) :
    Calls Tryz.prog 127 #[.int .u64 x, .int .u64 y] w fun e w' => e = .returned (.tuple #[.int .u64 ((x * y / 18446744073709551616 : Nat) : Int), .int .u64 ((x * y % 18446744073709551616 : Nat) : Int)]) ∧ w = w' := by
  obtain ⟨bd, bt, bw, hhi⟩ := Lib.mul64_hi x y hx hy
  have ba := Lib.half_mul_le (a := x / 4294967296) (b := y / 4294967296) (by omega) (by omega)
  have bb := Lib.half_mul_le (a := x / 4294967296) (b := y % 4294967296) (by omega) (by omega)
  have bc := Lib.half_mul_le (a := x % 4294967296) (b := y / 4294967296) (by omega) (by omega)
  have ba' : x / 4294967296 * (y / 4294967296) < 18446744073709551616 := by omega
  have bb' : x / 4294967296 * (y % 4294967296) < 18446744073709551616 := by omega
  have bc' : x % 4294967296 * (y / 4294967296) < 18446744073709551616 := by omega
  have bh1 : x / 4294967296 * (y / 4294967296) + (x / 4294967296 * (y % 4294967296) + x % 4294967296 * (y % 4294967296) / 4294967296) / 4294967296 < 18446744073709551616 := by omega
  have bh : x / 4294967296 * (y / 4294967296) + (x / 4294967296 * (y % 4294967296) + x % 4294967296 * (y % 4294967296) / 4294967296) / 4294967296 + ((x / 4294967296 * (y % 4294967296) + x % 4294967296 * (y % 4294967296) / 4294967296) % 4294967296 + x % 4294967296 * (y / 4294967296)) / 4294967296 < 18446744073709551616 := by omega
  go_enter Tryz.func127, Tryz.ntmps127
  go_wp2
  simp only [maskN x hx, maskN y hy, divN, mulN, addN, wrapN _ bd, wrapN _ bb', wrapN _ bt, maskN _ bt, wrapN _ bc', wrapN _ bw, wrapN _ ba', wrapN _ bh1, wrapN _ bh, wrapM (x * y)]
  rw [hhi]
  go_ret2
  exact ⟨rfl, rfl⟩
theorem bmul_one (n : Nat) (hn : n ≤ 1000000) (w : World) : Calls Tryz.prog 100 #[.int .u64 1, .int .u64 n] w fun e w' => e = .returned (.tuple #[.int .u64 0, .int .u64 n]) ∧ w = w' := by
  have H := Lib.hid (mulsf_any 1 n (by omega) (by omega) w)
  rw [show 1 * n / 18446744073709551616 = 0 by omega, show 1 * n % 18446744073709551616 = n by omega] at H
  go_enter Tryz.func100, Tryz.ntmps100
  go_wp2_with fail
  refine (H.out).mono ?_
  rintro e w1 ⟨rfl, rfl⟩
  go_wp2
  go_ret2
  exact ⟨rfl, rfl⟩
def RpRel (q n : Nat) (b : Bool) (w0 : World) (i : Value) (wr : World) : Prop := ∃ k : Nat, i = .int .i64 (k : Int) ∧ 1 ≤ k ∧ k ≤ n ∧ Bx wr q 4 (List.replicate k (bv b) ++ List.replicate (n - k) (bv false)) ∧ Below w0.heap.size w0 wr
theorem rp_step {n k : Nat} {b : Bool} (hk : 1 ≤ k) (hn : k < n) : splice (List.replicate k (bv b) ++ List.replicate (n - k) (bv false)) k (List.replicate (min k (n - k)) (bv b)) = List.replicate (k + min k (n - k)) (bv b) ++ List.replicate (n - (k + min k (n - k))) (bv false) := by
  unfold splice
  rw [List.take_append_of_le_length (by simp), List.take_of_length_le (by simp), List.drop_append, List.length_replicate, List.length_replicate, List.drop_eq_nil_of_le (by simp), List.nil_append, List.drop_replicate, ← List.append_assoc, List.replicate_append_replicate]
  congr 2
  omega
set_option maxHeartbeats 400000 in
set_option maxRecDepth 100000 in
theorem repeat_any {g c n : Nat} {b : Bool} (w : World) (h : w.cell? ⟨g, 0, none⟩ = some (.bool b)) (hn0 : 1 ≤ n) (hlen : n ≤ 1000000) : Calls Tryz.prog 83 #[.slice (some ⟨g, 0, none⟩) 1 c, .int .i64 (n : Int)] w (BLP (List.replicate n b) w) := by
  obtain ⟨i0, hi0, hz⟩ := Option.map_eq_some_iff.1 infoBo
  simp only [Prod.mk.injEq] at hz
  obtain ⟨hz0, hz1, hz2⟩ := hz
  have HI := Lib.hid hi0
  have HZ0 := Lib.hid hz0
  have HZ1 := Lib.hid hz1
  have HZ2 := Lib.hid hz2
  have HSZ := Lib.hid (show (Tryz.prog.info? 4).map (·.size) = some 1 by rw [hi0]; exact congrArg some hz1)
  have HM := Lib.hid (fun W => bmul_one n hlen W)
  have HC := Lib.hid h
  clear hi0 hz0 hz1 hz2 h
  have d0 : decide ((n : Int) < 0) = false := by simp
  have d1 : IntKind.u64.wrap (n : Int) = (n : Int) := wrapN n (by omega)
  go_enter Tryz.func83, Tryz.ntmps83
  go_wp2_with fail
  refine (HM.out w).mono ?_
  rintro e w1 ⟨rfl, rfl⟩
  have d2 : decide ((9223372036854775807 : Int) < (n : Int)) = false := by simp; omega
  have d3 : decide (9223372036854775807 < n) = false := by simp; omega
  clear HM
  go_wp2_with (at_make; refine wpList_make_full _ rfl _ _ 39 rfl w.heap.size 4 i0 (.bool false) 1 Tryz.underlying39 HI.out HZ0.out HZ1.out .i64 .i64 (n : Int) (n : Int) n rfl rfl rfl rfl (by rw [HZ2.out]; omega) (by unfold maxLen; omega) (Nat.le_refl _) ?_)
  intro w1 ho1 hg1
  rw [made_one] at ho1
  have hb1 := ((Below.refl w.heap.size w).grown hg1 (Nat.le_refl _) (fun k hk => by cases hk))
  have HC1 := Lib.hid (cell_blw hb1 HC.out)
  have HB1 := Lib.hid hb1
  have HX1 := Lib.hid (show w1.heap[w.heap.size]? = some (.cells (List.replicate n (Value.bool false)).toArray 4 (0, 0)) from owns_full ho1)
  clear ho1 hg1 hb1
  have HNM := Lib.hid (show ([Value.bool b] : List Value).length = Nat.min 1 n from (Nat.min_eq_left hn0).symm)
  have HFT := Lib.hid (show 0 + ([Value.bool b] : List Value).length ≤ (List.replicate n (Value.bool false)).length by simpa using hn0)
  have HOC := Lib.hid (show ∀ v ∈ ([Value.bool b] : List Value), v.oneCell' = true by intro v hv; simp only [List.mem_singleton] at hv; subst hv; rfl)
  have HSR := Lib.hid (show ∀ (j : Nat) (v : Value), ([Value.bool b] : List Value)[j]? = some v → w1.cell? ((⟨g, 0, none⟩ : Addr).add j) = some v from fun j v hv => by
    match j with
    | 0 =>
      injection hv with hv
      subst hv
      exact HC1.out)
  go_wp2_with (refine wpList_copy_splice rfl (.tmp 31) (.tmp 32) 39 39 rfl 4 Tryz.underlying39 HSZ.out _ _ _ _ _ _ rfl rfl w.heap.size 0 (List.replicate n (.bool false)) 4 HX1.out [.bool b] HNM.out (fun _ => ⟨rfl, _, rfl, HSR.out⟩) HFT.out HOC.out w.heap.size w HB1.out (Nat.le_refl _) ?_)
  intro w2 hg2 hb2
  have HX2 := Lib.hid (show Bx w2 w.heap.size 4 (List.replicate 1 (bv b) ++ List.replicate (n - 1) (bv false)) by
    have h := hg2.out
    rw [show splice (List.replicate n (Value.bool false)) 0 [Value.bool b] = List.replicate 1 (bv b) ++ List.replicate (n - 1) (bv false) by simp [splice, bv, List.replicate_one]] at h
    exact h)
  have HB2 := Lib.hid hb2
  clear hg2 hb2 HX1 HB1 HC1 HSR HNM HFT
  go_wp2
  go_loopw [8] (fun i wr => RpRel w.heap.size n b w i wr) (fun i _ => n - (intOf i).toNat)
  case atStart => exact ⟨1, rfl, Nat.le_refl _, hn0, HX2.out, HB2.out⟩
  case round =>
    obtain ⟨k, rfl, hk1, hk, hX, hb⟩ := hrel
    have hzb := hX.lt
    by_cases hlt : k < n
    · have e1 : decide (k < n) = true := by simp; omega
      have HNM := Lib.hid (show (List.replicate (min k (n - k)) (bv b)).length = Nat.min k (n - k) by rw [List.length_replicate])
      have HFT := Lib.hid (show k + (List.replicate (min k (n - k)) (bv b)).length ≤ (List.replicate k (bv b) ++ List.replicate (n - k) (bv false)).length by simp; omega)
      have HOC2 := Lib.hid (show ∀ v ∈ List.replicate (min k (n - k)) (bv b), v.oneCell' = true by intro v hv; rw [List.mem_replicate] at hv; rw [hv.2]; rfl)
      have HSR := Lib.hid (show ∀ (j : Nat) (v : Value), (List.replicate (min k (n - k)) (bv b))[j]? = some v → wr.cell? ((⟨w.heap.size, 0, none⟩ : Addr).add j) = some v from fun j v hv => by
        rw [List.getElem?_replicate] at hv
        split at hv
        · next hj =>
          injection hv with hv
          subst hv
          have e : (⟨w.heap.size, 0, none⟩ : Addr).add j = ⟨w.heap.size, j, none⟩ := by
            unfold Addr.add
            by_cases hj : j = 0 <;> simp [hj]
          rw [e, hX.cell j, List.getElem?_append_left (by simp; omega), List.getElem?_replicate, if_pos (by omega)]
        · cases hv)
      have HX := Lib.hid hX
      have HB := Lib.hid hb
      have hm : min k (n - k) ≤ n - k := Nat.min_le_right _ _
      have hm1 : 1 ≤ min k (n - k) := by omega
      obtain ⟨m, hmm⟩ : ∃ m, m = min k (n - k) := ⟨_, rfl⟩
      rw [← hmm] at hm hm1 HNM HFT HOC2 HSR
      have HMM := Lib.hid hmm
      have hnk : ¬ n = k := by omega
      clear hX hb hmm
      go_wp2_with fail
      go_region_law (refine step_copy_splice rfl (.tmp 41) (.tmp 44) 39 39 rfl 4 Tryz.underlying39 HSZ.out (some ⟨w.heap.size, k, none⟩) (some ⟨w.heap.size, 0, none⟩) (n - k) (n - k) k n ?_ ?_ w.heap.size k (List.replicate k (bv b) ++ List.replicate (n - k) (bv false)) 4 HX.out (List.replicate m (bv b)) HNM.out (fun _ => ⟨rfl, _, rfl, HSR.out⟩) HFT.out HOC2.out w.heap.size w HB.out.drew (Nat.le_refl _) ?_
                     · simp [Act.eval, Act.put]
                     · simp [Act.eval, Act.put]
                     intro w4 hg4 hb4)
      all_goals
        have HX4 := Lib.hid (show Bx w4 w.heap.size 4 (List.replicate (k + m) (bv b) ++ List.replicate (n - (k + m)) (bv false)) by
          have h := hg4.out
          rw [HMM.out, rp_step hk1 hlt, ← HMM.out] at h
          exact h)
        have HB4 := Lib.hid hb4
        clear hg4 hb4 HX HSR HNM HFT
        simp only [Act.put, List.setIfInBounds_toArray, List.set_cons_zero, List.set_cons_succ, List.getElem_toArray, List.getElem_cons_succ, List.getElem_cons_zero]
        rw [show IntKind.i64.wrap ((k : Int) + (m : Int)) = ((k + m : Nat) : Int) by rw [IntKind.wrap_i64]; omega]
        go_wp2
        go_roundw
        case rel => exact ⟨k + m, by go_num, by omega, by omega, HX4.out, HB4.out⟩
        case measure => simp [intOf]; omega
    · have e1 : decide (k < n) = false := by simp; omega
      obtain rfl : k = n := by omega
      have HX := Lib.hid hX
      have HB := Lib.hid hb
      clear hX hb
      go_wp2_with fail
      go_ret
      exact blp_ret (bsl_bx (by have := HX.out; simpa [bv, List.map_replicate] using this)) (List.length_replicate) HB.out
end Go.Proofs.YtkddaobbjfnckaaGreatDoor
