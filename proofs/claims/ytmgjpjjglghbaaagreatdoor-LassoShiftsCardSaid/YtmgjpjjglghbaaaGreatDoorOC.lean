/-
  Repeat of a truth, all; walked. Index, all, label; walked. Clone of truths, next; walked. next, walked.
-/
import Derived.Test.YtmgjpjjglghbaaaGreatDoorOB
import Derived.Lib.Mul64
import Derived.Laws.Bits64b
import Derived.Laws.Externs
import Derived.Laws.CopyOwn
import Derived.Deep.RegionLaw
import Derived.Test.YtmgjpjjglghbaaaGreatDoorH4
import Derived.Lib.OwnBridge
import Derived.Deep.AppendLies
import Derived.Laws.AppendOwnNone
import Derived.Maps.AppendAt
import Derived.Lib.SliceRun
import Derived.Deep.RegionHeld3
namespace Go.Proofs.YtmgjpjjglghbaaaGreatDoor
section
open Go.RowKit

theorem maskN (a : Nat) (ha : a < 18446744073709551616) : bits .and .u64 (a : Int) 4294967295 = ((a % 4294967296 : Nat) : Int) := by
  have h := bits_and_u64_nat a 4294967295 ha (by omega)
  have e : a &&& 4294967295 = a % 4294967296 := Nat.and_two_pow_sub_one_eq_mod a 32
  rw [e] at h
  exact h
theorem divN (a : Nat) : (a : Int) / 4294967296 = ((a / 4294967296 : Nat) : Int) := by omega
theorem mulN (a b : Nat) : (a : Int) * (b : Int) = ((a * b : Nat) : Int) := (Int.natCast_mul a b).symm
theorem addN (a b : Nat) : (a : Int) + (b : Int) = ((a + b : Nat) : Int) := (Int.natCast_add a b).symm
theorem wrapN (a : Nat) (ha : a < 18446744073709551616) : IntKind.u64.wrap (a : Int) = (a : Int) := by rw [IntKind.wrap_u64]; omega
theorem wrapM (a : Nat) : IntKind.u64.wrap (a : Int) = ((a % 18446744073709551616 : Nat) : Int) := by rw [IntKind.wrap_u64]; omega
set_option maxHeartbeats 1000000 in
theorem mulsf_any (x y : Nat) (hx : x < 18446744073709551616) (hy : y < 18446744073709551616) (w : World) :
    Calls Tryz.prog 168 #[.int .u64 x, .int .u64 y] w fun e w' => e = .returned (.tuple #[.int .u64 ((x * y / 18446744073709551616 : Nat) : Int), .int .u64 ((x * y % 18446744073709551616 : Nat) : Int)]) ∧ w = w' := by
  obtain ⟨bd, bt, bw, hhi⟩ := Lib.mul64_hi x y hx hy
  have ba := Lib.half_mul_le (a := x / 4294967296) (b := y / 4294967296) (by omega) (by omega)
  have bb := Lib.half_mul_le (a := x / 4294967296) (b := y % 4294967296) (by omega) (by omega)
  have bc := Lib.half_mul_le (a := x % 4294967296) (b := y / 4294967296) (by omega) (by omega)
  have ba' : x / 4294967296 * (y / 4294967296) < 18446744073709551616 := by omega
  have bb' : x / 4294967296 * (y % 4294967296) < 18446744073709551616 := by omega
  have bc' : x % 4294967296 * (y / 4294967296) < 18446744073709551616 := by omega
  have bh1 : x / 4294967296 * (y / 4294967296) + (x / 4294967296 * (y % 4294967296) + x % 4294967296 * (y % 4294967296) / 4294967296) / 4294967296 < 18446744073709551616 := by omega
  have bh : x / 4294967296 * (y / 4294967296) + (x / 4294967296 * (y % 4294967296) + x % 4294967296 * (y % 4294967296) / 4294967296) / 4294967296 + ((x / 4294967296 * (y % 4294967296) + x % 4294967296 * (y % 4294967296) / 4294967296) % 4294967296 + x % 4294967296 * (y / 4294967296)) / 4294967296 < 18446744073709551616 := by omega
  go_enter Tryz.func168, Tryz.ntmps168
  go_wp2
  simp only [maskN x hx, maskN y hy, divN, mulN, addN, wrapN _ bd, wrapN _ bb', wrapN _ bt, maskN _ bt, wrapN _ bc', wrapN _ bw, wrapN _ ba', wrapN _ bh1, wrapN _ bh, wrapM (x * y)]
  rw [hhi]
  go_ret2
  exact ⟨rfl, rfl⟩
theorem bmul_one (n : Nat) (hn : n ≤ 1000000) (w : World) : Calls Tryz.prog 141 #[.int .u64 1, .int .u64 n] w fun e w' => e = .returned (.tuple #[.int .u64 0, .int .u64 n]) ∧ w = w' := by
  have H := Lib.hid (mulsf_any 1 n (by omega) (by omega) w)
  rw [show 1 * n / 18446744073709551616 = 0 by omega, show 1 * n % 18446744073709551616 = n by omega] at H
  go_enter Tryz.func141, Tryz.ntmps141
  go_wp2_with fail
  refine (H.out).mono ?_
  rintro e w1 ⟨rfl, rfl⟩
  go_wp2
  go_ret2
  exact ⟨rfl, rfl⟩
def RpRel (q n : Nat) (b : Bool) (w0 : World) (i : Value) (wr : World) : Prop := ∃ k : Nat, i = .int .i64 (k : Int) ∧ 1 ≤ k ∧ k ≤ n ∧ Bx wr q 4 (List.replicate k (bv b) ++ List.replicate (n - k) (bv false)) ∧ Below w0.heap.size w0 wr
theorem rp_step {n k : Nat} {b : Bool} (hk : 1 ≤ k) (hn : k < n) : splice (List.replicate k (bv b) ++ List.replicate (n - k) (bv false)) k (List.replicate (min k (n - k)) (bv b)) = List.replicate (k + min k (n - k)) (bv b) ++ List.replicate (n - (k + min k (n - k))) (bv false) := by
  unfold splice
  rw [List.take_append_of_le_length (by simp), List.take_of_length_le (by simp), List.drop_append, List.length_replicate, List.length_replicate, List.drop_eq_nil_of_le (by simp), List.nil_append, List.drop_replicate, ← List.append_assoc, List.replicate_append_replicate]
  congr 2
  omega
set_option maxHeartbeats 400000 in
set_option maxRecDepth 100000 in
theorem repeat_any {g c n : Nat} {b : Bool} (w : World) (h : w.cell? ⟨g, 0, none⟩ = some (.bool b)) (hn0 : 1 ≤ n) (hlen : n ≤ 1000000) : Calls Tryz.prog 115 #[.slice (some ⟨g, 0, none⟩) 1 c, .int .i64 (n : Int)] w (BLP (List.replicate n b) w) := by
  obtain ⟨i0, hi0, hz⟩ := Option.map_eq_some_iff.1 infoBo
  simp only [Prod.mk.injEq] at hz
  obtain ⟨hz0, hz1, hz2⟩ := hz
  have HI := Lib.hid hi0
  have HZ0 := Lib.hid hz0
  have HZ1 := Lib.hid hz1
  have HZ2 := Lib.hid hz2
  have HSZ := Lib.hid (show (Tryz.prog.info? 4).map (·.size) = some 1 by rw [hi0]; exact congrArg some hz1)
  have HM := Lib.hid (fun W => bmul_one n hlen W)
  have HC := Lib.hid h
  clear hi0 hz0 hz1 hz2 h
  have d0 : decide ((n : Int) < 0) = false := by simp
  have d1 : IntKind.u64.wrap (n : Int) = (n : Int) := wrapN n (by omega)
  go_enter Tryz.func115, Tryz.ntmps115
  go_wp2_with fail
  refine (HM.out w).mono ?_
  rintro e w1 ⟨rfl, rfl⟩
  have d2 : decide ((9223372036854775807 : Int) < (n : Int)) = false := by simp; omega
  have d3 : decide (9223372036854775807 < n) = false := by simp; omega
  clear HM
  go_wp2_with (at_make; refine wpList_make_full _ rfl _ _ 39 rfl w.heap.size 4 i0 (.bool false) 1 Tryz.underlying39 HI.out HZ0.out HZ1.out .i64 .i64 (n : Int) (n : Int) n rfl rfl rfl rfl (by rw [HZ2.out]; omega) (by unfold maxLen; omega) (Nat.le_refl _) ?_)
  intro w1 ho1 hg1
  rw [made_one] at ho1
  have hb1 := ((Below.refl w.heap.size w).grown hg1 (Nat.le_refl _) (fun k hk => by cases hk))
  have HC1 := Lib.hid (cell_blw hb1 HC.out)
  have HB1 := Lib.hid hb1
  have HX1 := Lib.hid (show w1.heap[w.heap.size]? = some (.cells (List.replicate n (Value.bool false)).toArray 4 (0, 0)) from owns_full ho1)
  clear ho1 hg1 hb1
  have HNM := Lib.hid (show ([Value.bool b] : List Value).length = Nat.min 1 n from (Nat.min_eq_left hn0).symm)
  have HFT := Lib.hid (show 0 + ([Value.bool b] : List Value).length ≤ (List.replicate n (Value.bool false)).length by simpa using hn0)
  have HOC := Lib.hid (show ∀ v ∈ ([Value.bool b] : List Value), v.oneCell' = true by intro v hv; simp only [List.mem_singleton] at hv; subst hv; rfl)
  have HSR := Lib.hid (show ∀ (j : Nat) (v : Value), ([Value.bool b] : List Value)[j]? = some v → w1.cell? ((⟨g, 0, none⟩ : Addr).add j) = some v from fun j v hv => by
    match j with
    | 0 =>
      injection hv with hv
      subst hv
      exact HC1.out)
  go_wp2_with (refine wpList_copy_splice rfl (.tmp 31) (.tmp 32) 39 39 rfl 4 Tryz.underlying39 HSZ.out _ _ _ _ _ _ rfl rfl w.heap.size 0 (List.replicate n (.bool false)) 4 HX1.out [.bool b] HNM.out (fun _ => ⟨rfl, _, rfl, HSR.out⟩) HFT.out HOC.out w.heap.size w HB1.out (Nat.le_refl _) ?_)
  intro w2 hg2 hb2
  have HX2 := Lib.hid (show Bx w2 w.heap.size 4 (List.replicate 1 (bv b) ++ List.replicate (n - 1) (bv false)) by
    have h := hg2.out
    rw [show splice (List.replicate n (Value.bool false)) 0 [Value.bool b] = List.replicate 1 (bv b) ++ List.replicate (n - 1) (bv false) by simp [splice, bv, List.replicate_one]] at h
    exact h)
  have HB2 := Lib.hid hb2
  clear hg2 hb2 HX1 HB1 HC1 HSR HNM HFT
  go_wp2
  go_loopw [8] (fun i wr => RpRel w.heap.size n b w i wr) (fun i _ => n - (intOf i).toNat)
  case atStart => exact ⟨1, rfl, Nat.le_refl _, hn0, HX2.out, HB2.out⟩
  case round =>
    obtain ⟨k, rfl, hk1, hk, hX, hb⟩ := hrel
    have hzb := hX.lt
    by_cases hlt : k < n
    · have e1 : decide (k < n) = true := by simp; omega
      have HNM := Lib.hid (show (List.replicate (min k (n - k)) (bv b)).length = Nat.min k (n - k) by rw [List.length_replicate])
      have HFT := Lib.hid (show k + (List.replicate (min k (n - k)) (bv b)).length ≤ (List.replicate k (bv b) ++ List.replicate (n - k) (bv false)).length by simp; omega)
      have HOC2 := Lib.hid (show ∀ v ∈ List.replicate (min k (n - k)) (bv b), v.oneCell' = true by intro v hv; rw [List.mem_replicate] at hv; rw [hv.2]; rfl)
      have HSR := Lib.hid (show ∀ (j : Nat) (v : Value), (List.replicate (min k (n - k)) (bv b))[j]? = some v → wr.cell? ((⟨w.heap.size, 0, none⟩ : Addr).add j) = some v from fun j v hv => by
        rw [List.getElem?_replicate] at hv
        split at hv
        · next hj =>
          injection hv with hv
          subst hv
          have e : (⟨w.heap.size, 0, none⟩ : Addr).add j = ⟨w.heap.size, j, none⟩ := by
            unfold Addr.add
            by_cases hj : j = 0 <;> simp [hj]
          rw [e, hX.cell j, List.getElem?_append_left (by simp; omega), List.getElem?_replicate, if_pos (by omega)]
        · cases hv)
      have HX := Lib.hid hX
      have HB := Lib.hid hb
      have hm : min k (n - k) ≤ n - k := Nat.min_le_right _ _
      have hm1 : 1 ≤ min k (n - k) := by omega
      obtain ⟨m, hmm⟩ : ∃ m, m = min k (n - k) := ⟨_, rfl⟩
      rw [← hmm] at hm hm1 HNM HFT HOC2 HSR
      have HMM := Lib.hid hmm
      have hnk : ¬ n = k := by omega
      clear hX hb hmm
      go_wp2_with fail
      go_region_law (refine step_copy_splice rfl (.tmp 41) (.tmp 44) 39 39 rfl 4 Tryz.underlying39 HSZ.out (some ⟨w.heap.size, k, none⟩) (some ⟨w.heap.size, 0, none⟩) (n - k) (n - k) k n ?_ ?_ w.heap.size k (List.replicate k (bv b) ++ List.replicate (n - k) (bv false)) 4 HX.out (List.replicate m (bv b)) HNM.out (fun _ => ⟨rfl, _, rfl, HSR.out⟩) HFT.out HOC2.out w.heap.size w HB.out.drew (Nat.le_refl _) ?_
                     · simp [Act.eval, Act.put]
                     · simp [Act.eval, Act.put]
                     intro w4 hg4 hb4)
      all_goals
        have HX4 := Lib.hid (show Bx w4 w.heap.size 4 (List.replicate (k + m) (bv b) ++ List.replicate (n - (k + m)) (bv false)) by
          have h := hg4.out
          rw [HMM.out, rp_step hk1 hlt, ← HMM.out] at h
          exact h)
        have HB4 := Lib.hid hb4
        clear hg4 hb4 HX HSR HNM HFT
        simp only [Act.put, List.setIfInBounds_toArray, List.set_cons_zero, List.set_cons_succ, List.getElem_toArray, List.getElem_cons_succ, List.getElem_cons_zero]
        rw [show IntKind.i64.wrap ((k : Int) + (m : Int)) = ((k + m : Nat) : Int) by rw [IntKind.wrap_i64]; omega]
        go_wp2
        go_roundw
        case rel => exact ⟨k + m, by go_num, by omega, by omega, HX4.out, HB4.out⟩
        case measure => simp [intOf]; omega
    · have e1 : decide (k < n) = false := by simp; omega
      obtain rfl : k = n := by omega
      have HX := Lib.hid hX
      have HB := Lib.hid hb
      clear hX hb
      go_wp2_with fail
      go_ret
      exact blp_ret (bsl_bx (by have := HX.out; simpa [bv, List.map_replicate] using this)) (List.length_replicate) HB.out
end
section
open Go.RowKit

theorem posO_lt {l : List ByteArray} {x : ByteArray} (h : x ∈ l) : posO l x < l.length := List.findIdx_lt_length_of_exists ⟨x, h, by simp⟩
theorem posO_get {l : List ByteArray} {x : ByteArray} (h : x ∈ l) : l[posO l x]'(posO_lt h) = x := by
  have := List.findIdx_getElem (xs := l) (p := fun y => decide (y = x)) (w := posO_lt h)
  unfold posO
  simpa using this
theorem posO_before {l : List ByteArray} {x : ByteArray} {j : Nat} (h : j < posO l x) (hj : j < l.length) : l[j] ≠ x := by
  have := List.not_of_lt_findIdx h
  simpa using this
open Classical in
theorem index_any {A : Option Addr} {l : List ByteArray} {cap : Nat} (x : ByteArray) (w : World) (hl : SSl w A l) (hlen : l.length ≤ 1000000) :
    Calls Tryz.prog 76 #[.slice A l.length cap, .string x] w fun e w' => e = .returned (.int .i64 (if x ∈ l then ((posO l x : Nat) : Int) else -1)) ∧ w' = w := by
  have hv : Lib.idxOfS l x = if x ∈ l then ((posO l x : Nat) : Int) else -1 := by
    by_cases hx : x ∈ l
    · rw [if_pos hx]
      have h1 := posO_lt hx
      have h2 := Lib.idxOfS_hit l l.length (posO l x) x h1 (Nat.le_refl _) (by rw [List.getD_eq_getElem?_getD, List.getElem?_eq_getElem h1]; exact posO_get hx) (fun j hj => by
        rw [List.getD_eq_getElem?_getD, List.getElem?_eq_getElem (by omega)]
        exact posO_before hj (by omega))
      rwa [List.take_of_length_le (Nat.le_refl _)] at h2
    · rw [if_neg hx]
      have h2 := Lib.idxOfS_miss l l.length x (fun j hj => by
        rw [List.getD_eq_getElem?_getD, List.getElem?_eq_getElem hj]
        exact fun e => hx (by rw [← e]; exact List.getElem_mem hj))
      rwa [List.take_of_length_le (Nat.le_refl _)] at h2
  by_cases h0 : l.length = 0
  · have he : l = [] := List.eq_nil_of_length_eq_zero h0
    subst he
    refine (Tryz.slices_Index_string_empty A cap x w).mono ?_
    rintro e w1 ⟨rfl, rfl⟩
    exact ⟨by rw [hv], rfl⟩
  · obtain ⟨g, o, rfl, _⟩ := hl 0 (by omega)
    refine (Tryz.slices_Index_string g o l.length cap l x w (Nat.le_refl _) (by omega) (fun j hj => by
      obtain ⟨g', o', e, hc⟩ := hl j hj
      injection e with e
      injection e with e1 e2
      subst e1 e2
      rw [hc, List.getD_eq_getElem?_getD, List.getElem?_eq_getElem hj]; rfl)).mono ?_
    rintro e w1 ⟨rfl, rfl⟩
    exact ⟨by rw [List.take_of_length_le (Nat.le_refl _), hv], rfl⟩
/-- The word's places in the program's own form. -/
abbrev plv (N : Option Addr) (nl nc : Nat) (P : Option Addr) (pl pc : Nat) (a : Nat) : Value := .agg #[.slice N nl nc, .slice P pl pc, .int .i64 (a : Int)]
theorem all_any {N P : Option Addr} {nl nc pl pc a : Nat} {b : Bool} (w : World) (h1 : 1 ≤ pl) (h2 : pl ≤ 1000000) : Calls Tryz.prog 79 #[plv N nl nc P pl pc a, .bool b] w (BLP (List.replicate pl b) w) := by
  have HB := Lib.hid (fun (W : World) (g : Nat) (h : W.cell? ⟨g, 0, none⟩ = some (.bool b)) => repeat_any (c := 1) W h h1 h2)
  go_enter Tryz.func79, Tryz.ntmps79
  go_wp2_with fail
  refine (HB.out _ _ (by simp)).mono ?_
  rintro e w1 ⟨A, cap, rfl, hc, hB, hb⟩
  have HB1 := Lib.hid hB
  have HBL := Lib.hid hb
  clear hB hb HB
  go_wp2_with fail
  go_ret
  exact ⟨A, cap, by rw [List.length_replicate]; rfl, hc, HB1.out, below_t (below_t (below_alloc _ _) (below_alloc _ _)) HBL.out⟩
theorem bit_test (c : Nat) (p : Nat) (hc : c < 64) (hp : p < 6) : (bits .and .i64 (c : Int) ((2 ^ p : Nat) : Int) != 0) = c.testBit p := by
  have h : ∀ c : Fin 64, ∀ p : Fin 6, (bits .and .i64 ((c.val : Nat) : Int) ((2 ^ p.val : Nat) : Int) != 0) = c.val.testBit p.val := by decide +kernel
  exact h ⟨c, hc⟩ ⟨p, hp⟩
theorem sh_pow (p : Nat) (hp : p < 6) : wrap64 (2 ^ p) = ((2 ^ p : Nat) : Int) := by
  have h : ∀ p : Fin 6, wrap64 (2 ^ p.val) = ((2 ^ p.val : Nat) : Int) := by decide +kernel
  exact h ⟨p, hp⟩
def lbL (ls : List Int) (p : Nat) : List Bool := ls.map fun c => c.toNat.testBit p
set_option maxHeartbeats 4000000 in
set_option maxRecDepth 100000 in
theorem plab_any {N P : Option Addr} {nms : List ByteArray} {ls : List Int} {nc pc a : Nat} {x : ByteArray} (w : World) (hn : SSl w N nms) (hp : ISl w P ls) (hx : x ∈ nms) (h6 : nms.length ≤ 6) (hlen : ls.length ≤ 1000000) (hc : ∀ c ∈ ls, 0 ≤ c ∧ c < 64) :
    Calls Tryz.prog 80 #[plv N nms.length nc P ls.length pc a, .string x] w (BLP (lbL ls (posO nms x)) w) := by
  obtain ⟨i0, hi0, hz⟩ := Option.map_eq_some_iff.1 infoBo
  simp only [Prod.mk.injEq] at hz
  obtain ⟨hz0, hz1, hz2⟩ := hz
  have HI := Lib.hid hi0
  have HZ0 := Lib.hid hz0
  have HZ1 := Lib.hid hz1
  have HZ2 := Lib.hid hz2
  have HN := Lib.hid (fun (W : World) (h : SSl W N nms) => index_any (cap := nc) x W h (by omega))
  have HNS := Lib.hid hn
  have HP := Lib.hid hp
  have HC := Lib.hid hc
  have hpos := posO_lt hx
  have hpos6 : posO nms x < 6 := by omega
  simp only [if_pos hx] at HN
  obtain ⟨p, hpp⟩ : ∃ p, p = posO nms x := ⟨_, rfl⟩
  rw [← hpp] at HN hpos6 ⊢
  obtain ⟨tgt, ht⟩ : ∃ t, t = lbL ls p := ⟨_, rfl⟩
  have HT := Lib.hid ht
  have HTL := Lib.hid (show tgt.length = ls.length by rw [ht]; simp [lbL])
  rw [← ht]
  obtain ⟨n, hnn⟩ : ∃ n, n = ls.length := ⟨_, rfl⟩
  have HNN := Lib.hid hnn
  obtain ⟨m, hmm⟩ : ∃ m, m = nms.length := ⟨_, rfl⟩
  rw [← hnn] at hlen HTL ⊢
  rw [← hmm] at HN ⊢
  have HSH := Lib.hid (show wrap64 (2 ^ p) = ((2 ^ p : Nat) : Int) from sh_pow p hpos6)
  have HP6 := Lib.hid hpos6
  clear hn hp hx h6 hc hpos hpp ht hnn hmm hi0 hz0 hz1 hz2
  go_enter Tryz.func80, Tryz.ntmps80
  go_wp2_with fail
  refine (HN.out _ (HNS.out.below (below_alloc _ _))).mono ?_
  rintro e w1 ⟨rfl, rfl⟩
  go_wp2_with (at_make; refine wpList_make_full _ rfl _ _ 39 rfl (w.heap.size + 1) 4 i0 (.bool false) 1 Tryz.underlying39 HI.out HZ0.out HZ1.out .i64 .i64 (n : Int) (n : Int) n rfl rfl rfl rfl (by rw [HZ2.out]; omega) (by unfold maxLen; omega) (by simp) ?_)
  intro w1 ho1 hg1
  rw [made_one] at ho1
  have HB1 := Lib.hid ((below_alloc w (.cells #[.slice N m nc, .slice P n pc, .int .i64 (a : Int)] 83)).grown hg1 (by simp) (fun k hk => by cases hk))
  have HP1 := Lib.hid (show Bx w1 w.heap.size 83 [.slice N m nc, .slice P n pc, .int .i64 (a : Int)] from (hg1.block w.heap.size (by simp) (by intro e; cases e)).trans (Bx.new w 83 _))
  have HX1 := Lib.hid (FilR.start (w0 := w) (tgt := tgt) (owns_full ho1) (Nat.le_succ _) HB1.out)
  obtain ⟨B, hB⟩ : ∃ B : Int, B = wrap64 (2 ^ p) := ⟨_, rfl⟩
  rw [← hB]
  have HBV := Lib.hid (show B = ((2 ^ p : Nat) : Int) by rw [hB]; exact HSH.out)
  obtain ⟨-, b1, -⟩ := HP1.out.tri
  have hz1 := HP1.out.lt
  clear ho1 hg1 hB
  go_wp2
  go_loopw [21] (fun i wr => FilRel (w.heap.size + 1) n tgt w i wr) (fun i _ => n - (intOf i).toNat)
  case atStart => exact ⟨0, rfl, Nat.zero_le _, HX1.out⟩
  case round =>
    obtain ⟨k, rfl, hk, hF⟩ := hrel
    by_cases hlt : k < n
    · have d1 : decide (k < n) = true := by simp; omega
      have kk : k < ls.length := by rw [← HNN.out]; exact hlt
      obtain ⟨g, o, rfl, c1⟩ := HP.out.below hF.blw k kk
      have HLL := Lib.hid HP
      clear HP
      obtain ⟨⟨b0, c2⟩, f2, g2⟩ := hF.cell hlt
      have HE := Lib.hid (show ls[k].toNat.testBit p = tgt.getD k false by rw [HT.out, lbL, List.getD_eq_getElem?_getD, List.getElem?_map, List.getElem?_eq_getElem kk]; rfl)
      have HCC := Lib.hid (HC.out _ (List.getElem_mem kk))
      generalize ls[k] = c at *
      obtain ⟨cn, rfl⟩ := Int.eq_ofNat_of_zero_le HCC.out.1
      have hcn : cn < 64 := by have := HCC.out.2; omega
      have HF := Lib.hid hF
      clear hF hk
      go_wp2_with fail
      go_roundw
      case rel => exact ⟨k + 1, by go_num, by omega, HF.out.step hlt (by rw [← HE.out, HBV.out, bit_test cn p hcn HP6.out]; rfl)⟩
      case measure => simp [intOf]; omega
    · have d1 : decide (k < n) = false := by simp; omega
      have hkn : k = n := by omega
      subst hkn
      have HF := Lib.hid hF
      clear hF hk
      go_wp2_with fail
      go_ret
      exact blp_ret (HF.out.done HTL.out) HTL.out HF.out.blw
end
section
open Go.RowKit Go.Sort

theorem bsl_news {w : World} {g o : Nat} {l : List Bool} (h : BSl w (some ⟨g, o, none⟩) l) : ∀ (j : Nat) (u : Value), (l.map bv)[j]? = some u → w.cell? ((⟨g, o, none⟩ : Addr).add j) = some u := by
  intro j u hu
  rw [List.getElem?_map] at hu
  by_cases hj : j < l.length
  · rw [List.getElem?_eq_getElem hj] at hu
    injection hu with hu
    subst hu
    obtain ⟨g', o', e, hc⟩ := h j hj
    injection e with e
    injection e with e1 e2
    subst e1 e2
    have e3 : (⟨g, o, none⟩ : Addr).add j = ⟨g, o + j, none⟩ := by
      unfold Addr.add
      by_cases hj : j = 0 <;> simp [hj]
    rw [e3]; exact hc
  · rw [List.getElem?_eq_none (by omega)] at hu; cases hu
theorem bv_one (l : List Bool) : ∀ u ∈ l.map bv, u.oneCell' = true := by
  intro u hu
  obtain ⟨b, _, rfl⟩ := List.mem_map.1 hu
  rfl
set_option maxHeartbeats 4000000 in
theorem cloneb_any {g o : Nat} {l : List Bool} {cap : Nat} (w : World) (h : BSl w (some ⟨g, o, none⟩) l) (hlen : l.length ≤ 1000000) :
    Calls Tryz.prog 116 #[.slice (some ⟨g, o, none⟩) l.length cap] w fun e w' => ∃ v, e = .returned v ∧ w'.ownsRow w.heap.size 4 1 v l.length (l.map bv) ∧ Below w.heap.size w w' := by
  obtain ⟨i0, hi0, hz⟩ := Option.map_eq_some_iff.1 infoBo
  simp only [Prod.mk.injEq] at hz
  obtain ⟨hz0, hz1, hz2⟩ := hz
  have HI := Lib.hid hi0
  have HZ0 := Lib.hid hz0
  have HZ1 := Lib.hid hz1
  have HZ2 := Lib.hid hz2
  have q22 : ∀ (w : World) (a : Option Addr) (n c n' c' : Nat), (binOp .eql 39 (.slice a n c) (.slice none n' c')).run Tryz.prog w = .ok (.bool a.isNone) w := fun w a n c n' c' => Lib.run_eql_slice_nil w _ _ a n c n' c' Tryz.underlying39
  have HNW := Lib.hid (bsl_news (h.below (below_alloc w (.cells #[] 4))))
  obtain ⟨zs, hzs⟩ : ∃ zs, zs = l.map bv := ⟨_, rfl⟩
  have HZL := Lib.hid (show zs.length = l.length * 1 by rw [hzs]; simp)
  have HON := Lib.hid (show ∀ u ∈ zs, u.oneCell' = true by rw [hzs]; exact bv_one l)
  rw [← hzs] at HNW ⊢
  obtain ⟨n, hn⟩ : ∃ n, n = l.length := ⟨_, rfl⟩
  rw [← hn] at hlen HZL ⊢
  clear hi0 hz0 hz1 hz2 h hzs hn
  go_enter Tryz.func116, Tryz.ntmps116
  go_wp2_with (at_builtin; refine wpList_append_own _ rfl _ _ 39 rfl w.heap.size 4 i0 (.bool false) 1 1 Tryz.underlying39 HI.out HZ0.out HZ1.out HZ2.out rfl (by decide) _ _ _ rfl (World.ownsRow_made w #[] 0 (Nat.le_refl _) (Nat.zero_le _) rfl) ⟨g, o, none⟩ n cap zs rfl HZL.out HNW.out HON.out (by unfold maxLen; omega) (by omega) (by simp) ?_)
  intro v' w1 hown hgrow hnil
  have HO := Lib.hid (show w1.ownsRow w.heap.size 4 1 v' n zs by simpa using hown)
  have HB := Lib.hid (((Below.refl _ w).alloc (Nat.le_refl _) _).grown hgrow (by simp) (by intro k hk; simp [Value.ownBlock] at hk; omega))
  clear hown hgrow hnil
  go_wp2
  go_ret
  exact ⟨v', rfl, HO.out, HB.out⟩
end
section
open Go.RowKit Go.Sort

theorem owns_blw {w w' : World} {lo : Nat} {e : TypeId} {sz n : Nat} {v : Value} {cs : List Value} (h : w.ownsRow lo e sz v n cs) (hb : Below w.heap.size w w') : w'.ownsRow lo e sz v n cs := by
  refine ⟨h.1, ?_⟩
  rcases h.2 with h | ⟨g, cap, cur, h1, h2, h3, h4⟩
  · exact .inl h
  · exact .inr ⟨g, cap, cur, h1, h2, (hb.block g (blk_lt h3)).trans h3, h4⟩
theorem own_base {w : World} {lo lo' : Nat} {e : TypeId} {sz n : Nat} {v : Value} {cs : List Value} (h : w.ownsRow lo e sz v n cs) (hl : lo' ≤ lo) : w.ownsRow lo' e sz v n cs := by
  refine ⟨h.1, ?_⟩
  rcases h.2 with h | ⟨g, cap, cur, h1, h2, h3, h4⟩
  · exact .inl h
  · exact .inr ⟨g, cap, cur, h1, Nat.le_trans hl h2, h3, h4⟩
theorem bsl_owns {w : World} {lo : Nat} {v : Value} {l : List Bool} (h : w.ownsRow lo 4 1 v l.length (l.map bv)) : ∃ A cap, v = .slice A l.length cap ∧ l.length ≤ cap ∧ BSl w A l := by
  rcases h.2 with ⟨rfl, hn⟩ | ⟨g, cap, cur, hv, _, hb, hc, _⟩
  · exact ⟨none, 0, by rw [hn], by omega, fun i hi => absurd hi (by omega)⟩
  · subst hv
    refine ⟨_, cap, rfl, hc, fun i hi => ⟨g, 0, rfl, ?_⟩⟩
    have h1 := h.cells (g := g) rfl i (.bool l[i]) (by rw [List.getElem?_map, List.getElem?_eq_getElem hi]; rfl)
    have e : (⟨g, 0, none⟩ : Addr).add i = ⟨g, i, none⟩ := by
      unfold Addr.add
      by_cases hj : i = 0 <;> simp [hj]
    rw [e] at h1
    rw [Nat.zero_add]
    exact h1
/-- One truth more. -/
theorem nx_news {W : World} {q : Nat} {b : Bool} (h : W.cell? ⟨q, 0, none⟩ = some (.bool b)) : ∀ (j : Nat) (u : Value), ([.bool b] : List Value)[j]? = some u → W.cell? ((⟨q, 0, none⟩ : Addr).add j) = some u := by
  intro j u hu
  match j with
  | 0 =>
    injection hu with hu
    subst hu
    exact h
theorem nx_one {b : Bool} : ∀ u ∈ ([.bool b] : List Value), u.oneCell' = true := by
  intro u hu
  simp only [List.mem_singleton] at hu
  subst hu
  rfl
theorem nx_fin {w w5 : World} {r : List Bool} {b : Bool} {lo g5 cap5 : Nat} (ho : w5.ownsRow lo 4 1 (.slice (some ⟨g5, 0, none⟩) (r.length + 1) cap5) (r.length + 1) (r.map bv ++ [.bool b])) (hb : Below w.heap.size w w5) : BLP (r ++ [b]) w (.returned (.slice (some ⟨g5, 0, none⟩) (r.length + 1) cap5)) w5 := by
  have ho' : w5.ownsRow lo 4 1 (.slice (some ⟨g5, 0, none⟩) (r.length + 1) cap5) (r ++ [b]).length ((r ++ [b]).map bv) := by
    rw [List.length_append, List.map_append]; exact ho
  obtain ⟨A, cap, h1, h2, h3⟩ := bsl_owns ho'
  exact ⟨A, cap, by rw [h1], h2, h3, hb⟩
set_option maxHeartbeats 4000000 in
set_option maxRecDepth 100000 in
theorem next_any {N P : Option Addr} {nl nc pl pc a g o cap : Nat} {l : List Bool} (w : World) (h : BSl w (some ⟨g, o, none⟩) l) (ha : a < l.length) (hcap : l.length ≤ cap) (hlen : l.length ≤ 1000000) :
    Calls Tryz.prog 82 #[plv N nl nc P pl pc a, .slice (some ⟨g, o, none⟩) l.length cap] w (BLP (nextL a l) w) := by
  obtain ⟨i0, hi0, hz⟩ := Option.map_eq_some_iff.1 infoBo
  simp only [Prod.mk.injEq] at hz
  obtain ⟨hz0, hz1, hz2⟩ := hz
  have HI := Lib.hid hi0
  have HZ0 := Lib.hid hz0
  have HZ1 := Lib.hid hz1
  have HZ2 := Lib.hid hz2
  obtain ⟨W0, hW0⟩ : ∃ W0, W0 = w.alloc (.cells #[.slice N nl nc, .slice P pl pc, .int .i64 (a : Int)] 83) := ⟨_, rfl⟩
  have hbw : Below w.heap.size w W0 := by rw [hW0]; exact below_alloc _ _
  have hbx : Bx W0 w.heap.size 83 [.slice N nl nc, .slice P pl pc, .int .i64 (a : Int)] := by rw [hW0]; exact Bx.new _ _ _
  obtain ⟨b, hbb⟩ : ∃ b, b = l.getD a false := ⟨_, rfl⟩
  have hca : W0.cell? ⟨g, o + a, none⟩ = some (.bool b) := by
    obtain ⟨g', o', e, hc⟩ := h.below hbw a ha
    injection e with e
    injection e with e1 e2
    subst e1 e2
    rw [hc, hbb, bget ha]
  have HSS := Lib.hid (show ∀ W, Below W0.heap.size W0 W → (W.cell? ⟨w.heap.size, 2, none⟩ = some (.int .i64 (a : Int)) ∧ W.cell? ⟨g, o + a, none⟩ = some (.bool b)) from fun W hW => ⟨((hbx.below hW).cell 2).trans rfl, cell_blw hW hca⟩)
  obtain ⟨cm, rfl⟩ : ∃ cm, cap = cm + 1 := ⟨cap - 1, by omega⟩
  obtain ⟨x, r, rfl⟩ : ∃ x r, l = x :: r := by
    cases l with
    | nil => exact absurd ha (by simp)
    | cons x r => exact ⟨x, r, rfl⟩
  have HT := Lib.hid (show ∀ W, Below W0.heap.size W0 W → ∀ o', (r ≠ [] → o' = o + 1) → BSl W (some ⟨g, o', none⟩) r from fun W hW o' ho' i hi => by
    obtain ⟨g', o2, e, hc⟩ := h.below (below_t hbw hW) (i + 1) (by simp; omega)
    injection e with e
    injection e with e1 e2
    subst e1 e2
    refine ⟨g, o', rfl, ?_⟩
    rw [ho' (by rintro rfl; simp at hi), show o + 1 + i = o + (i + 1) by omega, hc]
    simp)
  have HNL := Lib.hid (show nextL a (x :: r) = r ++ [b] by rw [nextL, hbb]; rfl)
  rw [HNL.out]
  simp only [List.length_cons] at ha hcap hlen ⊢
  obtain ⟨m, hm⟩ : ∃ m, m = r.length := ⟨_, rfl⟩
  have HM := Lib.hid hm
  rw [← hm] at ha hcap hlen ⊢
  have HC := Lib.hid (fun (W : World) (hW : Below W0.heap.size W0 W) (o' : Nat) (ho' : r ≠ [] → o' = o + 1) => cloneb_any (cap := cm) W (HT.out W hW o' ho') (by rw [← hm]; omega))
  rw [← hm] at HC
  have HBW := Lib.hid hbw
  clear hi0 hz0 hz1 hz2 h hm hbw hca hbb hbx
  have lk : Below W0.heap.size W0 W0.drew := (Below.refl _ _).drew
  subst hW0
  have k0 : (0 : Int) ≤ (a : Int) := by omega
  have k1 : (a : Int) < (m : Int) + 1 := by omega
  have k2 : (1 : Int) ≤ (m : Int) + 1 := by omega
  by_cases hc0 : cm = 0
  · subst hc0
    have hm0 : m = 0 := by omega
    have hr0 : r = [] := List.eq_nil_of_length_eq_zero (HM.out.symm.trans hm0)
    have ha0 : a = 0 := by omega
    subst hm0 hr0 ha0
    have HSZ := Lib.hid (show ∀ W, Below (w.alloc (.cells #[.slice N nl nc, .slice P pl pc, .int .i64 0] 83)).heap.size (w.alloc (.cells #[.slice N nl nc, .slice P pl pc, .int .i64 0] 83)) W → (W.cell? ⟨w.heap.size, 2, none⟩ = some (.int .i64 0) ∧ W.cell? ⟨g, o, none⟩ = some (.bool b)) from fun W hW => HSS.out W hW)
    show Calls Tryz.prog 82 #[.agg #[.slice N nl nc, .slice P pl pc, .int .i64 0], .slice (some ⟨g, o, none⟩) 1 1] w (BLP ([] ++ [b]) w)
    clear k0 k1 k2 ha hcap hlen HSS
    replace HBW := Lib.hid (show Below w.heap.size w (w.alloc (.cells #[.slice N nl nc, .slice P pl pc, .int .i64 0] 83)) from below_alloc _ _)
    replace lk : Below (w.alloc (.cells #[.slice N nl nc, .slice P pl pc, .int .i64 0] 83)).heap.size (w.alloc (.cells #[.slice N nl nc, .slice P pl pc, .int .i64 0] 83)) (w.alloc (.cells #[.slice N nl nc, .slice P pl pc, .int .i64 0] 83)).drew := (Below.refl _ _).drew
    go_enter Tryz.func82, Tryz.ntmps82
    go_wp2_with fail
    go_region_held3 (fun w' => w'.cell? ⟨w.heap.size, 2, none⟩ = some (.int .i64 0) ∧ w'.cell? ⟨g, o, none⟩ = some (.bool b)) (first | exact HSZ.out _ lk | exact HSZ.out _ (lk.alloc lk.size _)) (first
      | (go_at_call 116
         refine (HC.out _ (by first | exact lk | exact lk.alloc lk.size _) _ (fun h => absurd rfl h)).mono ?_
         rintro e4 w4 ⟨v4, rfl, hO4, hb4⟩
         have HO4 := Lib.hid hO4
         have HB4 := Lib.hid hb4
         replace lk : Below (w.alloc (.cells #[.slice N nl nc, .slice P pl pc, .int .i64 0] 83)).heap.size (w.alloc (.cells #[.slice N nl nc, .slice P pl pc, .int .i64 0] 83)) w4 := by first | exact lk.trans (hb4.mono lk.size) | exact (lk.alloc lk.size _).trans (hb4.mono (lk.alloc lk.size _).size)
         clear hO4 hb4)
      | ((with_reducible refine step_append_lies (w4.alloc (.cells #[.bool b] 4)) ?za0 (.tmp 7) (.tmp 13) 39 ?za1 (w.heap.size + 1) 4 i0 (.bool false) 1 1 ?za2 ?za3 ?za4 ?za5 ?za6 ?za7 ?za8 v4 0 ([].map bv) ?zb1 ?zb2 ⟨w4.heap.size, 0, none⟩ 1 1 [.bool b] ?zb3 ?zb4 ?zb5 ?zb6 ?zb7 ?zb8 ?zb9 ?zc1 (w4.heap.size + 1) ?zc2 ?zc3)
         case za0 => rfl
         case za1 => rfl
         case za2 => exact Tryz.underlying39
         case za3 => exact HI.out
         case za4 => exact HZ0.out
         case za5 => exact HZ1.out
         case za6 => exact HZ2.out
         case za7 => rfl
         case za8 => exact Nat.one_pos
         case zb1 => simp [Act.eval]
         case zb2 => exact own_base (owns_blw HO4.out (below_alloc _ _)) (by simp)
         case zb3 => simp [Act.eval]
         case zb4 => rfl
         case zb5 => exact nx_news (by simp)
         case zb6 => exact nx_one
         case zb7 => exact Nat.one_pos
         case zb8 => unfold maxLen; omega
         case zb9 => omega
         case zc1 => have := HB4.out.size; simp at this ⊢; omega
         case zc2 => first | rfl | simp
         intro g5 cap5 w5 ho5 hg5 hat5 hlt5
         have HF := Lib.hid (show BLP ([] ++ [b]) w (.returned (.slice (some ⟨g5, 0, none⟩) (0 + 1) cap5)) w5 by
           have ho6 := ho5
           refine nx_fin (r := []) ho6 ?_
           exact ((HBW.out.trans (lk.mono HBW.out.size)).alloc (by have := HBW.out.size; have := lk.size; omega) _).grown hg5 (by have := HBW.out.size; have := lk.size; simp at this ⊢; omega) (fun k hk => by have := (HO4.out.lt k hk).1; have h2 := HBW.out.size; simp at this h2; omega))
         replace lk : Below (w.alloc (.cells #[.slice N nl nc, .slice P pl pc, .int .i64 0] 83)).heap.size (w.alloc (.cells #[.slice N nl nc, .slice P pl pc, .int .i64 0] 83)) w5 := (lk.alloc lk.size _).grown hg5 (by have := lk.size; simp at this ⊢; omega) (fun k hk => by have := (HO4.out.lt k hk).1; simp at this ⊢; omega)
         clear ho5 hg5 hat5)
      | ((with_reducible refine step_append_lies w4 ?zua0 (.tmp 7) (.tmp 13) 39 ?zua1 (w.heap.size + 1) 4 i0 (.bool false) 1 1 ?zua2 ?zua3 ?zua4 ?zua5 ?zua6 ?zua7 ?zua8 v4 0 ([].map bv) ?zub1 ?zub2 ⟨w.heap.size + 1, 0, none⟩ 1 1 [.bool b] ?zub3 ?zub4 ?zub5 ?zub6 ?zub7 ?zub8 ?zub9 ?zuc1 w4.heap.size ?zuc2 ?zuc3)
         case zua0 => rfl
         case zua1 => rfl
         case zua2 => exact Tryz.underlying39
         case zua3 => exact HI.out
         case zua4 => exact HZ0.out
         case zua5 => exact HZ1.out
         case zua6 => exact HZ2.out
         case zua7 => rfl
         case zua8 => exact Nat.one_pos
         case zub1 => simp [Act.eval]
         case zub2 => exact own_base HO4.out (by simp)
         case zub3 => simp [Act.eval]
         case zub4 => rfl
         case zub5 => (refine nx_news (cell_blw HB4.out ?_); simp)
         case zub6 => exact nx_one
         case zub7 => exact Nat.one_pos
         case zub8 => unfold maxLen; omega
         case zub9 => omega
         case zuc1 => have := HB4.out.size; simp at this ⊢; omega
         case zuc2 => first | rfl | simp
         intro g5 cap5 w5 ho5 hg5 hat5 hlt5
         have HF := Lib.hid (show BLP ([] ++ [b]) w (.returned (.slice (some ⟨g5, 0, none⟩) (0 + 1) cap5)) w5 by
           have ho6 := ho5
           refine nx_fin (r := []) ho6 ?_
           exact (HBW.out.trans (lk.mono HBW.out.size)).grown hg5 (by have := HBW.out.size; have := lk.size; simp at this ⊢; omega) (fun k hk => by have := (HO4.out.lt k hk).1; have h2 := HBW.out.size; simp at this h2; omega))
         replace lk : Below (w.alloc (.cells #[.slice N nl nc, .slice P pl pc, .int .i64 0] 83)).heap.size (w.alloc (.cells #[.slice N nl nc, .slice P pl pc, .int .i64 0] 83)) w5 := lk.grown hg5 (by have := lk.size; simp at this ⊢; omega) (fun k hk => by have := (HO4.out.lt k hk).1; simp at this ⊢; omega)
         clear ho5 hg5 hat5)
      | fail)
    all_goals
      go_wp2
      go_ret
      exact HF.out
  · go_enter Tryz.func82, Tryz.ntmps82
    go_wp2_with fail
    go_region_held3 (fun w' => w'.cell? ⟨w.heap.size, 2, none⟩ = some (.int .i64 (a : Int)) ∧ w'.cell? ⟨g, o + a, none⟩ = some (.bool b)) (first | exact HSS.out _ lk | exact HSS.out _ (lk.alloc lk.size _)) (first
      | (go_at_call 116
         refine (HC.out _ (by first | exact lk | exact lk.alloc lk.size _) _ (fun _ => rfl)).mono ?_
         rintro e4 w4 ⟨v4, rfl, hO4, hb4⟩
         have HO4 := Lib.hid hO4
         have HB4 := Lib.hid hb4
         replace lk : Below (w.alloc (.cells #[.slice N nl nc, .slice P pl pc, .int .i64 (a : Int)] 83)).heap.size (w.alloc (.cells #[.slice N nl nc, .slice P pl pc, .int .i64 (a : Int)] 83)) w4 := by first | exact lk.trans (hb4.mono lk.size) | exact (lk.alloc lk.size _).trans (hb4.mono (lk.alloc lk.size _).size)
         clear hO4 hb4)
      | ((with_reducible refine step_append_lies (w4.alloc (.cells #[.bool b] 4)) ?a0 (.tmp 7) (.tmp 13) 39 ?a1 (w.heap.size + 1) 4 i0 (.bool false) 1 1 ?a2 ?a3 ?a4 ?a5 ?a6 ?a7 ?a8 v4 m (r.map bv) ?b1 ?b2 ⟨w4.heap.size, 0, none⟩ 1 1 [.bool b] ?b3 ?b4 ?b5 ?b6 ?b7 ?b8 ?b9 ?c1 (w4.heap.size + 1) ?c2 ?c3)
         case a0 => rfl
         case a1 => rfl
         case a2 => exact Tryz.underlying39
         case a3 => exact HI.out
         case a4 => exact HZ0.out
         case a5 => exact HZ1.out
         case a6 => exact HZ2.out
         case a7 => rfl
         case a8 => exact Nat.one_pos
         case b1 => simp [Act.eval]
         case b2 => exact own_base (owns_blw HO4.out (below_alloc _ _)) (by simp)
         case b3 => simp [Act.eval]
         case b4 => rfl
         case b5 => exact nx_news (by simp)
         case b6 => exact nx_one
         case b7 => exact Nat.one_pos
         case b8 => unfold maxLen; omega
         case b9 => omega
         case c1 => have := HB4.out.size; simp at this ⊢; omega
         case c2 => first | rfl | simp
         intro g5 cap5 w5 ho5 hg5 hat5 hlt5
         have HF := Lib.hid (show BLP (r ++ [b]) w (.returned (.slice (some ⟨g5, 0, none⟩) (m + 1) cap5)) w5 by
           have ho6 := ho5
           rw [HM.out] at ho6 ⊢
           refine nx_fin ho6 ?_
           exact ((HBW.out.trans (lk.mono HBW.out.size)).alloc (by have := HBW.out.size; have := lk.size; omega) _).grown hg5 (by have := HBW.out.size; have := lk.size; simp at this ⊢; omega) (fun k hk => by have := (HO4.out.lt k hk).1; have h2 := HBW.out.size; simp at this h2; omega))
         replace lk : Below (w.alloc (.cells #[.slice N nl nc, .slice P pl pc, .int .i64 (a : Int)] 83)).heap.size (w.alloc (.cells #[.slice N nl nc, .slice P pl pc, .int .i64 (a : Int)] 83)) w5 := (lk.alloc lk.size _).grown hg5 (by have := lk.size; simp at this ⊢; omega) (fun k hk => by have := (HO4.out.lt k hk).1; simp at this ⊢; omega)
         clear ho5 hg5 hat5)
      | ((with_reducible refine step_append_lies w4 ?ua0 (.tmp 7) (.tmp 13) 39 ?ua1 (w.heap.size + 1) 4 i0 (.bool false) 1 1 ?ua2 ?ua3 ?ua4 ?ua5 ?ua6 ?ua7 ?ua8 v4 m (r.map bv) ?ub1 ?ub2 ⟨w.heap.size + 1, 0, none⟩ 1 1 [.bool b] ?ub3 ?ub4 ?ub5 ?ub6 ?ub7 ?ub8 ?ub9 ?uc1 w4.heap.size ?uc2 ?uc3)
         case ua0 => rfl
         case ua1 => rfl
         case ua2 => exact Tryz.underlying39
         case ua3 => exact HI.out
         case ua4 => exact HZ0.out
         case ua5 => exact HZ1.out
         case ua6 => exact HZ2.out
         case ua7 => rfl
         case ua8 => exact Nat.one_pos
         case ub1 => simp [Act.eval]
         case ub2 => exact own_base HO4.out (by simp)
         case ub3 => simp [Act.eval]
         case ub4 => rfl
         case ub5 => (refine nx_news (cell_blw HB4.out ?_); simp)
         case ub6 => exact nx_one
         case ub7 => exact Nat.one_pos
         case ub8 => unfold maxLen; omega
         case ub9 => omega
         case uc1 => have := HB4.out.size; simp at this ⊢; omega
         case uc2 => first | rfl | simp
         intro g5 cap5 w5 ho5 hg5 hat5 hlt5
         have HF := Lib.hid (show BLP (r ++ [b]) w (.returned (.slice (some ⟨g5, 0, none⟩) (m + 1) cap5)) w5 by
           have ho6 := ho5
           rw [HM.out] at ho6 ⊢
           refine nx_fin ho6 ?_
           exact (HBW.out.trans (lk.mono HBW.out.size)).grown hg5 (by have := HBW.out.size; have := lk.size; simp at this ⊢; omega) (fun k hk => by have := (HO4.out.lt k hk).1; have h2 := HBW.out.size; simp at this h2; omega))
         replace lk : Below (w.alloc (.cells #[.slice N nl nc, .slice P pl pc, .int .i64 (a : Int)] 83)).heap.size (w.alloc (.cells #[.slice N nl nc, .slice P pl pc, .int .i64 (a : Int)] 83)) w5 := lk.grown hg5 (by have := lk.size; simp at this ⊢; omega) (fun k hk => by have := (HO4.out.lt k hk).1; simp at this ⊢; omega)
         clear ho5 hg5 hat5)
      | fail)
    all_goals
      go_wp2
      go_ret
      exact HF.out
end
end Go.Proofs.YtmgjpjjglghbaaaGreatDoor
