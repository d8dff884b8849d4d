/-
  The law InternCounts answers true for all vectors: numbers are given from 0 on without a gap, each to one vector alone.
-/
import Derived.Test.YtoppjkdlloddmaaN0
namespace Go.Proofs.Ytoppjkdlloddmaa
open Go.RowKit

def CountsRel (w : World) (ls : List (List Int)) (b : Nat) (most i : Value) (wr : World) : Prop :=
  ∃ (k : Nat) (vs : List (List Int)), k ≤ ls.length ∧ i = .int .i64 (k : Int) ∧ most = .int .i64 (vs.length : Int) ∧ Tab wr b b vs ∧ Has vs (ls.take k) ∧ Below w.heap.size w wr ∧ b ≤ wr.heap.size
def CountsIn (w3 : World) (k : Nat) (q : Value) (wr : World) : Prop := ∃ j : Nat, j ≤ k ∧ q = .int .i64 (j : Int) ∧ ∃ d, wr = w3.drewN d

set_option maxHeartbeats 400000 in
theorem counts_long {w : World} {ad : Option Addr} {n c : Nat} (hn : 100 < n) :
    Calls Try.prog 4 #[.slice ad n c] w fun e w' => e = .returned (.bool true) ∧ Below w.heap.size w w' := by
  have hd : decide ((100 : Int) < (n : Int)) = true := by simp; omega
  go_enter Try.func4, Try.ntmps4
  go_wp2_with fail
  refine (alive_yes _).mono ?_
  rintro e w1 ⟨rfl, hb⟩
  have HB := Lib.hid hb
  clear hb
  go_wp2_with fail
  go_ret
  exact ⟨rfl, HB.out⟩

set_option maxHeartbeats 2000000 in
set_option maxRecDepth 100000 in
theorem counts_yes {w : World} {vl : Value} {ls : List (List Int)} (hl : RL w vl ls) :
    Calls Try.prog 4 #[vl] w fun e w' => e = .returned (.bool true) ∧ Below w.heap.size w w' := by
  obtain ⟨ad, cap, rfl, hl⟩ := hl
  by_cases hbig : 100 < ls.length
  · exact counts_long hbig
  have hll : ls.length ≤ 100 := by omega
  have hd : decide ((100 : Int) < (ls.length : Int)) = false := by simp; omega
  have HL := Lib.hid hl
  clear hl hbig
  go_enter Try.func4, Try.ntmps4
  go_wp2_with fail
  refine (alive_yes _).mono ?_
  rintro e w1 ⟨rfl, hb1⟩
  have HB1 := Lib.hid hb1
  have hz1 := hb1.size
  clear hb1
  go_wp2_with fail
  clear hd
  refine (new_any _).mono ?_
  rintro e w2 ⟨rfl, hw2⟩
  have HB2 := Lib.hid (show Below w.heap.size w w2 by rw [hw2]; exact HB1.out.alloc hz1 _)
  have HT2 := Lib.hid (show Tab w2 w1.heap.size w1.heap.size [] from Tab.new (by rw [hw2]; exact heap_alloc_new w1 _))
  have hz2 : w1.heap.size ≤ w2.heap.size := by rw [hw2]; simp
  clear hw2
  generalize w1.heap.size = b at *
  go_wp2_with fail
  go_loopw [4, 5] (fun m i wr => CountsRel w ls b m i wr) (fun _ i _ => ls.length - (intOf i).toNat)
  case atStart => exact ⟨0, [], Nat.zero_le _, rfl, rfl, HT2.out, Has.nil, HB2.out, hz2⟩
  case round =>
    obtain ⟨k, vs, hk, rfl, rfl, hT, hH, hB, hzr⟩ := hrel
    have HT := Lib.hid hT
    have HH := Lib.hid hH
    have HB := Lib.hid hB
    have hvl : vs.length ≤ 100 := by have := hH.2; rw [List.length_take] at this; omega
    have hzw := hB.size
    clear hT hH hB
    by_cases hlt : k < ls.length
    · have hd : decide (k < ls.length) = true := by simp; omega
      obtain ⟨⟨pb, po, ps⟩, u, hp, hps, hc, hr, hyl⟩ := HL.out k hlt
      simp only at hps hc
      subst hps
      have HHL := Lib.hid HL
      clear HL
      subst hp
      have hpl : pb < w.heap.size := World.block_lt_of_cell? w _ hc
      have HC := Lib.hid hc
      have hc' := (HB.out.cell (p := ⟨pb, po + k, none⟩) hpl).trans hc
      have HSN := Lib.hid (take_snocL ls k hlt)
      have HR := Lib.hid hr
      obtain ⟨ua, uc, hu⟩ := hr.len
      clear hc hr
      generalize hys : ls.getD k [] = ys at *
      have HYS := Lib.hid hys
      clear hys
      subst hu
      have k0 : (0 : Int) ≤ (k : Int) := by omega
      have k1 : (k : Int) < (ls.length : Int) := by omega
      by_cases hlong : 64 < ys.length
      · have hdl : decide ((64 : Int) < (ys.length : Int)) = true := by simp; omega
        go_wp2_with fail
        go_ret
        exact ⟨rfl, HB.out⟩
      · have hdl : decide ((64 : Int) < (ys.length : Int)) = false := by simp; omega
        go_wp2_with fail
        refine (put_any HT.out (HR.out.below HB.out) (vok_old HR.out (by omega) (by omega)) (by omega) (by omega) hzr).mono ?_
        rintro e w3 ⟨hk3, hcase⟩
        have HB3 := Lib.hid (hk3.below HB.out (by omega) (by omega) hzw)
        have hz3 : b ≤ w3.heap.size := Nat.le_trans hzr hk3.size
        clear hk3 hc'
        have hnew : ∃ vs' z f, e = .returned (.tuple #[.int .i64 ((z : Nat) : Int), .bool f, .nilIface]) ∧ Tab w3 b b vs' ∧ Has vs' (ls.take k ++ [ys]) ∧ z < vs'.length ∧ vs'.getD z [] = ys ∧
            ((f = false ∧ vs.length = vs'.length ∧ z < vs.length) ∨ (f = true ∧ z = vs.length ∧ vs.length + 1 = vs'.length)) := by
          rcases hcase with ⟨i, hi, he, rfl, hT3⟩ | ⟨hno, rfl, hT3⟩
          · exact ⟨vs, i, _, rfl, hT3, HH.out.old (he ▸ getD_mem hi), hi, he, .inl ⟨rfl, rfl, hi⟩⟩
          · exact ⟨vs ++ [ys], vs.length, _, rfl, hT3, HH.out.new ys, by simp, getD_snoc_at vs ys, .inr ⟨rfl, rfl, by simp⟩⟩
        clear hcase
        obtain ⟨vs3, z, f3, rfl, hT3, hH3, hzl, hzg, hf⟩ := hnew
        have HT3 := Lib.hid hT3
        have HH3 := Lib.hid hH3
        have HZG := Lib.hid hzg
        have hvl3 : vs3.length ≤ 101 := by have := hH3.2; rw [List.length_append, List.length_take] at this; simp at this; omega
        have HND := Lib.hid hT3.nodup
        clear hT3 hH3 hzg
        rcases hf with ⟨rfl, hvv, hzv⟩ | ⟨rfl, hzv, hvv⟩
        case' inl =>
          have q1 : ((z : Int) == (vs.length : Int)) = false := by rw [beq_eq_false_iff_ne]; omega
          have q2 : decide (vs.length < z) = false := by simp; omega
          have HVV := Lib.hid (show (vs.length : Int) = (vs3.length : Int) by omega)
          clear hvv
          go_wp2_with fail
          clear q1 q2
          rw [HVV.out]
        case' inr =>
          have q1 : ((z : Int) == (vs.length : Int)) = true := by rw [beq_iff_eq]; omega
          have q2 : decide (vs.length < z) = false := by simp; omega
          have HVV := Lib.hid (show (vs.length : Int) + 1 = (vs3.length : Int) by omega)
          clear hvv hzv
          go_wp2_with fail
          clear q1 q2
          rw [HVV.out]
        all_goals
          clear HVV hdl hd
          go_loopw [9] (fun q wr => CountsIn w3 k q wr) (fun q _ => k - (intOf q).toNat)
          case atStart => exact ⟨0, Nat.zero_le _, rfl, 0, rfl⟩
          case round =>
            obtain ⟨j, hj, rfl, d, rfl⟩ := hrel
            by_cases hjk : j < k
            · have hdj : decide (j < k) = true := by simp; omega
              obtain ⟨p2, u2', hp2, _, hc2, hr2, hyl2⟩ := HHL.out.out j (by omega)
              injection hp2 with hp2
              subst hp2
              simp only at hc2
              have HB4 := Lib.hid (below_drewN HB3.out d)
              have HT4 := Lib.hid (HT3.out.drewN d)
              have hc4 := (HB4.out.cell (p := ⟨pb, po + j, none⟩) hpl).trans hc2
              have HC2 := Lib.hid hc2
              have HR2 := Lib.hid hr2
              obtain ⟨ub, ud, hu2⟩ := hr2.len
              have HIN := Lib.hid (show ls.getD j [] ∈ vs3 from (HH3.out.1 _).2 (List.mem_append_left _ (by
                have hjt : j < (ls.take k).length := by rw [List.length_take]; omega
                have := getD_mem hjt
                rwa [show (ls.take k).getD j [] = ls.getD j [] by simp [List.getD_eq_getElem?_getD, hjk]] at this)))
              clear hc2 hr2
              generalize ls.getD j [] = zs at *
              subst hu2
              have HW4 := Lib.hid (show ∃ d', w3.drewN d = w3.drewN d' from ⟨d, rfl⟩)
              generalize w3.drewN d = w4 at *
              have j0 : (0 : Int) ≤ (j : Int) := by omega
              have j1 : (j : Int) < (ls.length : Int) := by omega
              go_wp2_with fail
              refine (find_any HT4.out (HR2.out.below HB4.out) hyl2 (by omega)).mono ?_
              rintro e w5 ⟨hf, k5, rfl⟩
              rcases hf with ⟨mm, hmm, hme, rfl⟩ | ⟨hno, _⟩
              · have HME := Lib.hid hme
                have HB5 := Lib.hid (below_drewN HB4.out k5)
                have HW5 := Lib.hid (show ∃ d', w4.drewN k5 = w3.drewN d' by
                  obtain ⟨d', hd'⟩ := HW4.out
                  exact ⟨d' + k5, by rw [hd']; exact World.drewN_drewN _ _ _⟩)
                clear hme hc4
                generalize w4.drewN k5 = w5 at *
                have hc5 := (HB5.out.cell (p := ⟨pb, po + j, none⟩) hpl).trans HC2.out
                have hc5' := (HB5.out.cell (p := ⟨pb, po + k, none⟩) hpl).trans HC.out
                have HS0 := Lib.hid (fun n : Nat => same_any ((HR.out.below HB5.out).drewN n) ((HR2.out.below HB5.out).drewN n) hyl hyl2)
                by_cases heq : ys = zs
                · have HS := Lib.hid (show ∀ n : Nat, Calls Try.prog 11 #[.slice ua ys.length uc, .slice ub zs.length ud] (w5.drewN n) (fun e w' => e = .returned (.bool true) ∧ ∃ m, w' = (w5.drewN n).drewN m) from fun n => (HS0.out n).mono (by
                    rintro e w' ⟨rfl, hn⟩
                    exact ⟨by rw [decide_eq_true heq], hn⟩))
                  have hmz : mm = z := nodup_inj HND.out hmm hzl (by rw [HME.out, HZG.out, heq])
                  have qq : ((mm : Int) == (z : Int)) = true := by rw [beq_iff_eq]; omega
                  clear HS0 heq hmz
                  go_wp2_with fail
                  go_quiet ((go_at_call 11; exact Calls.quiet_of (HS.out _)))
                  go_wp2_with fail
                  go_roundw
                  case rel =>
                    obtain ⟨d', hd'⟩ := HW5.out
                    exact ⟨j + 1, by omega, by go_num, _, by rw [hd']; exact World.drewN_drewN _ _ _⟩
                  case measure => simp [intOf]; omega
                · have HS := Lib.hid (show ∀ n : Nat, Calls Try.prog 11 #[.slice ua ys.length uc, .slice ub zs.length ud] (w5.drewN n) (fun e w' => e = .returned (.bool false) ∧ ∃ m, w' = (w5.drewN n).drewN m) from fun n => (HS0.out n).mono (by
                    rintro e w' ⟨rfl, hn⟩
                    exact ⟨by rw [decide_eq_false heq], hn⟩))
                  have hmz : mm ≠ z := fun h => heq (by rw [← HME.out, ← HZG.out, h])
                  have qq : ((mm : Int) == (z : Int)) = false := by rw [beq_eq_false_iff_ne]; omega
                  clear HS0 heq hmz
                  go_wp2_with fail
                  go_quiet ((go_at_call 11; exact Calls.quiet_of (HS.out _)))
                  go_wp2_with fail
                  go_roundw
                  case rel =>
                    obtain ⟨d', hd'⟩ := HW5.out
                    exact ⟨j + 1, by omega, by go_num, _, by rw [hd']; exact World.drewN_drewN _ _ _⟩
                  case measure => simp [intOf]; omega
              · exact absurd HIN.out (not_mem_getD.1 hno)
            · have hdj : decide (j < k) = false := by simp; omega
              have HB4 := Lib.hid (below_drewN HB3.out d)
              have HT4 := Lib.hid (HT3.out.drewN d)
              have hz4 : b ≤ (w3.drewN d).heap.size := hz3
              generalize w3.drewN d = w4 at *
              go_wp2_with fail
              go_roundw
              case rel => exact ⟨k + 1, vs3, by omega, by go_num, rfl, HT4.out, by rw [HSN.out]; exact HH3.out, HB4.out, hz4⟩
              case measure => simp [intOf]; omega
    · have hd : decide (k < ls.length) = false := by simp; omega
      go_wp2_with fail
      refine HT.out.len_.mono ?_
      rintro e w3 ⟨rfl, hw3⟩
      rw [hw3]
      clear hw3 w3 hd
      go_wp2_with fail
      go_ret
      exact ⟨by simp, HB.out⟩
end Go.Proofs.Ytoppjkdlloddmaa
