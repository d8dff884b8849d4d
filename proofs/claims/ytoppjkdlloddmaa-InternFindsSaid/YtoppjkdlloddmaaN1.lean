/-
  The law InternFinds answers true for all vectors: what wasn't put isn't found, and looking puts nothing.
-/
import Derived.Test.YtoppjkdlloddmaaN0
namespace Go.Proofs.Ytoppjkdlloddmaa
open Go.RowKit

def FindsRel (w : World) (ls : List (List Int)) (xs : List Int) (b : Nat) (t i : Value) (wr : World) : Prop :=
  ∃ (k : Nat) (vs : List (List Int)) (tb : Bool), k ≤ ls.length ∧ i = .int .i64 (k : Int) ∧ t = .bool tb ∧ (tb = true ↔ xs ∈ ls.take k) ∧ Tab wr b b vs ∧ Has vs (ls.take k) ∧ Below w.heap.size w wr ∧ b ≤ wr.heap.size

set_option maxHeartbeats 400000 in
theorem finds_long {w : World} {ad : Option Addr} {n c : Nat} (va : Value) (hn : 100 < n) :
    Calls Try.prog 5 #[.slice ad n c, va] w fun e w' => e = .returned (.bool true) ∧ Below w.heap.size w w' := by
  have hd : decide ((100 : Int) < (n : Int)) = true := by simp; omega
  go_enter Try.func5, Try.ntmps5
  go_wp2_with fail
  refine (alive_yes _).mono ?_
  rintro e w1 ⟨rfl, hb⟩
  have HB := Lib.hid hb
  clear hb
  go_wp2_with fail
  go_ret
  exact ⟨rfl, HB.out⟩

set_option maxHeartbeats 1000000 in
theorem finds_yes {w : World} {vl va : Value} {ls : List (List Int)} {xs : List Int} (hl : RL w vl ls) (hv : R32 w va xs) (hx : xs.length ≤ 9223372036854775807) :
    Calls Try.prog 5 #[vl, va] w fun e w' => e = .returned (.bool true) ∧ Below w.heap.size w w' := by
  obtain ⟨ad, cap, rfl, hl⟩ := hl
  by_cases hbig : 100 < ls.length
  · exact finds_long va hbig
  have hll : ls.length ≤ 100 := by omega
  have hd : decide ((100 : Int) < (ls.length : Int)) = false := by simp; omega
  have HL := Lib.hid hl
  have HV := Lib.hid hv
  clear hl hv hbig
  go_enter Try.func5, Try.ntmps5
  go_wp2_with fail
  refine (alive_yes _).mono ?_
  rintro e w1 ⟨rfl, hb1⟩
  have HB1 := Lib.hid hb1
  have hz1 := hb1.size
  clear hb1
  go_wp2_with fail
  clear hd
  refine (new_any _).mono ?_
  rintro e w2 ⟨rfl, hw2⟩
  have HB2 := Lib.hid (show Below w.heap.size w w2 by rw [hw2]; exact HB1.out.alloc hz1 _)
  have HT2 := Lib.hid (show Tab w2 w1.heap.size w1.heap.size [] from Tab.new (by rw [hw2]; exact heap_alloc_new w1 _))
  have hz2 : w1.heap.size ≤ w2.heap.size := by rw [hw2]; simp
  clear hw2
  generalize w1.heap.size = b at *
  go_wp2_with fail
  go_loopw [6, 7] (fun t i wr => FindsRel w ls xs b t i wr) (fun _ i _ => ls.length - (intOf i).toNat)
  case atStart => exact ⟨0, [], false, Nat.zero_le _, rfl, rfl, by simp, HT2.out, Has.nil, HB2.out, hz2⟩
  case round =>
    obtain ⟨k, vs, tb, hk, rfl, rfl, htb, hT, hH, hB, hzr⟩ := hrel
    have HT := Lib.hid hT
    have HTB := Lib.hid htb
    have HH := Lib.hid hH
    have HB := Lib.hid hB
    have hvl : vs.length ≤ 100 := by have := hH.2; rw [List.length_take] at this; omega
    have hzw := hB.size
    clear hT htb hH hB
    by_cases hlt : k < ls.length
    · have hd : decide (k < ls.length) = true := by simp; omega
      obtain ⟨⟨pb, po, ps⟩, u, hp, hps, hc, hr, hyl⟩ := HL.out k hlt
      simp only at hps hc
      subst hps
      have HHL := Lib.hid HL
      clear HL
      subst hp
      have hpl : pb < w.heap.size := World.block_lt_of_cell? w _ hc
      have HC := Lib.hid hc
      have hc' := (HB.out.cell (p := ⟨pb, po + k, none⟩) hpl).trans hc
      have HSN := Lib.hid (take_snocL ls k hlt)
      have HR := Lib.hid hr
      obtain ⟨ua, uc, hu⟩ := hr.len
      clear hc hr
      generalize ls.getD k [] = ys at *
      subst hu
      have k0 : (0 : Int) ≤ (k : Int) := by omega
      have k1 : (k : Int) < (ls.length : Int) := by omega
      by_cases hlong : 64 < ys.length
      · have hdl : decide ((64 : Int) < (ys.length : Int)) = true := by simp; omega
        go_wp2_with fail
        go_ret
        exact ⟨rfl, HB.out⟩
      · have hdl : decide ((64 : Int) < (ys.length : Int)) = false := by simp; omega
        go_wp2_with fail
        refine (put_any HT.out (HR.out.below HB.out) (vok_old HR.out (by omega) (by omega)) (by omega) (by omega) hzr).mono ?_
        rintro e w3 ⟨hk3, hcase⟩
        have HB3 := Lib.hid (hk3.below HB.out (by omega) (by omega) hzw)
        have hz3 : b ≤ w3.heap.size := Nat.le_trans hzr hk3.size
        have hc3 := (HB3.out.cell (p := ⟨pb, po + k, none⟩) hpl).trans HC.out
        clear hk3 hc'
        have hnew : ∃ vs' z f, e = .returned (.tuple #[.int .i64 z, .bool f, .nilIface]) ∧ Tab w3 b b vs' ∧ Has vs' (ls.take k ++ [ys]) := by
          rcases hcase with ⟨i, hi, he, rfl, hT3⟩ | ⟨hno, rfl, hT3⟩
          · exact ⟨vs, _, _, rfl, hT3, HH.out.old (he ▸ getD_mem hi)⟩
          · exact ⟨vs ++ [ys], _, _, rfl, hT3, HH.out.new ys⟩
        clear hcase
        obtain ⟨vs3, z3, f3, rfl, hT3, hH3⟩ := hnew
        have HT3 := Lib.hid hT3
        have HH3 := Lib.hid hH3
        clear hT3 hH3
        cases tb with
        | true =>
          go_wp2_with fail
          go_roundw
          case rel =>
            refine ⟨k + 1, vs3, true, by omega, by go_num, rfl, ?_, HT3.out, by rw [HSN.out]; exact HH3.out, HB3.out, hz3⟩
            rw [HSN.out, List.mem_append]
            exact ⟨fun _ => .inl (HTB.out.1 (by simp)), fun _ => rfl⟩
          case measure => simp [intOf]; omega
        | false =>
          go_wp2_with fail
          refine (same_any (HR.out.below HB3.out) (HV.out.below HB3.out) (by omega) hx).mono ?_
          rintro e w4 ⟨rfl, k4, rfl⟩
          have HB4 := Lib.hid (below_drewN HB3.out k4)
          have HT4 := Lib.hid (HT3.out.drewN k4)
          have hz4 : b ≤ (w3.drewN k4).heap.size := hz3
          have HTB4 := Lib.hid (show decide (ys = xs) = true ↔ xs ∈ ls.take k ++ [ys] by
            rw [decide_eq_true_iff, List.mem_append, List.mem_singleton]
            constructor
            · exact fun h => .inr h.symm
            · rintro (h | h)
              · exact absurd (HTB.out.2 h) (by simp)
              · exact h.symm)
          clear hc3
          generalize w3.drewN k4 = w4 at *
          generalize decide (ys = xs) = tb4 at *
          go_wp2_with fail
          go_roundw
          case rel => exact ⟨k + 1, vs3, tb4, by omega, by go_num, rfl, by rw [HSN.out]; exact HTB4.out, HT4.out, by rw [HSN.out]; exact HH3.out, HB4.out, hz4⟩
          case measure => simp [intOf]; omega
    · have hd : decide (k < ls.length) = false := by simp; omega
      have htk : ls.take k = ls := List.take_of_length_le (by omega)
      rw [htk] at HTB HH
      have HM := Lib.hid (show tb = true ↔ xs ∈ vs from HTB.out.trans (HH.out.1 xs).symm)
      clear htk HTB HH
      go_wp2_with fail
      refine HT.out.len_.mono ?_
      rintro e w3 ⟨rfl, hw3⟩
      rw [hw3]
      clear hw3 w3 hd
      go_wp2_with fail
      refine (find_is HT.out (HV.out.below HB.out) hx (by omega) HM.out).mono ?_
      rintro e w3 ⟨z3, rfl, k3, rfl⟩
      have HT3 := Lib.hid (HT.out.drewN k3)
      have HB3 := Lib.hid (below_drewN HB.out k3)
      generalize wr.drewN k3 = w3 at *
      go_wp2_with fail
      refine (find_is HT3.out (HV.out.below HB3.out) hx (by omega) HM.out).mono ?_
      rintro e w4 ⟨z4, rfl, k4, rfl⟩
      have HT4 := Lib.hid (HT3.out.drewN k4)
      have HB4 := Lib.hid (below_drewN HB3.out k4)
      generalize w3.drewN k4 = w4 at *
      cases tb with
      | true =>
        go_wp2_with fail
        refine HT4.out.len_.mono ?_
        rintro e w5 ⟨rfl, hw5⟩
        rw [hw5]
        clear hw5 w5
        go_wp2_with fail
        go_ret
        exact ⟨by simp, HB4.out⟩
      | false =>
        go_wp2_with fail
        refine HT4.out.len_.mono ?_
        rintro e w5 ⟨rfl, hw5⟩
        rw [hw5]
        clear hw5 w5
        go_wp2_with fail
        go_ret
        exact ⟨by simp, HB4.out⟩
end Go.Proofs.Ytoppjkdlloddmaa
