/-
  The walk of SafeGcd.
-/
import Derived.Test.YtcaognakjigmbaaDoorN3
import Derived.Test.YtcaognakjigmbaaDoorN5
namespace Go.Proofs.YtcaognakjigmbaaDoor
open Go.RowKit

/-- What the law's loop over the list keeps. -/
def SGRel (xs : List Int) (w0 : World) (s o i : Value) (wr : World) : Prop :=
  ∃ (k : Nat) (z : Int), k ≤ xs.length ∧ i = .int .i64 (k : Int) ∧ s = .int .i64 (val z) ∧ o = .bool (ok z) ∧ (Fits z → sums 0 xs = sums z (xs.drop k)) ∧ (¬ Fits z → sums 0 xs = none) ∧ Below w0.heap.size w0 wr

theorem rgcd_at (a b : Int) (ha : Fits a) (hb : Fits b) (h1 : 0 ≤ a) (h2 : 0 ≤ b) (w : World) : Calls Tryd.prog 19 #[.int .i64 a, .int .i64 b] w fun e w' => e = .returned (.int .i64 ((Nat.gcd a.toNat b.toNat : Nat) : Int)) ∧ w = w' := by
  obtain ⟨x, rfl⟩ := Int.eq_ofNat_of_zero_le h1
  obtain ⟨y, rfl⟩ := Int.eq_ofNat_of_zero_le h2
  unfold Fits at *
  refine (rgcd_any x y (by omega) (by omega) w).mono ?_
  rintro e w' ⟨rfl, rfl⟩
  exact ⟨rfl, rfl⟩

theorem R64.at_ {w : World} {ad : Option Addr} {n cap : Nat} {xs : List Int} (h : R64 w (.slice ad n cap) xs) (k : Nat) (hk : k < xs.length) : ∃ p, ad = some p ∧ p.spot = none ∧ w.cell? ⟨p.block, p.off + k, none⟩ = some (.int .i64 (xs.getD k 0)) := by
  obtain ⟨ad', cap', e, h2⟩ := h
  injection e with e1 e2 e3
  subst e1
  exact h2 k hk

set_option maxHeartbeats 1000000 in
set_option maxRecDepth 100000 in
theorem lgcd_yes {xs : List Int} {ad : Option Addr} {cap : Nat} (a b : Int) (ha : Fits a) (hb : Fits b) (w : World) (hG : Glob w) (hv : R64 w (.slice ad xs.length cap) xs) (hal : All xs) (hm : xs.length ≤ maxLen) :
    Calls Tryd.prog 4 #[.int .i64 a, .int .i64 b, .slice ad xs.length cap] w (LawF w) := by
  have HL := Lib.hid (alive_yes w hG)
  have HG := Lib.hid hG
  have HV := Lib.hid hv
  have HA := Lib.hid hal
  unfold maxLen at hm
  clear hv hal hG
  by_cases hlen : 1000 < xs.length
  · clear ha hb
    generalize xs.length = n at *
    go_enter Tryd.func4, Tryd.ntmps4
    go_wp2_with fail
    (with_reducible refine HL.out.mono ?_)
    rintro e w1 ⟨rfl, hb1⟩
    have HB1 := Lib.hid hb1
    clear hb1
    go_wp2
    go_ret
    exact ⟨rfl, HB1.out⟩
  have hle : decide (1000 < xs.length) = false := by simp; omega
  by_cases hneg : a < 0 ∨ b < 0
  case' pos =>
    have H1 := Lib.hid (gcd_of_neg a b hneg)
    have hab : (decide (a < 0) = true) ∨ (decide (a < 0) = false ∧ decide (b < 0) = true) := by
      rcases hneg with h | h
      · exact Or.inl (by simp [h])
      · by_cases h2 : a < 0
        · exact Or.inl (by simp [h2])
        · exact Or.inr ⟨by simp; omega, by simp [h]⟩
    clear ha hb hneg
    rcases hab with h1 | ⟨h1, h2⟩
  case' neg =>
    have H1 := Lib.hid (gcd_of_pos a b ha hb (by omega) (by omega))
    have H2 := Lib.hid (rgcd_at a b ha hb (by omega) (by omega))
    have h1 : decide (a < 0) = false := by simp; omega
    have h2 : decide (b < 0) = false := by simp; omega
    generalize ((Nat.gcd a.toNat b.toNat : Nat) : Int) = g at *
    clear ha hb hneg
  all_goals
    go_enter Tryd.func4, Tryd.ntmps4
    go_wp2_with fail
    (with_reducible refine HL.out.mono ?_)
    rintro e w1 ⟨rfl, hb1⟩
    have HB1 := Lib.hid hb1
    have HG1 := Lib.hid (HG.out.below hb1)
    clear hb1 HL
    go_wp2_with fail
    (with_reducible refine (H1.out _).mono ?_)
    rintro e w2 ⟨rfl, hb2⟩
    have HB2 := Lib.hid (HB1.out.trans (hb2.mono HB1.out.size))
    have HG2 := Lib.hid (HG1.out.below hb2)
    clear hb2 H1 HB1 HG1
    go_wp2_with fail
    first
    | ((with_reducible refine (num_errno 1 _ HG2.out).mono ?_)
       rintro e w3 ⟨rfl, hb3⟩
       have HB3 := Lib.hid (HB2.out.trans (hb3.mono HB2.out.size))
       clear hb3 HB2 HG2
       generalize w3 = w2 at *)
    | ((with_reducible refine (H2.out _).mono ?_)
       rintro e w3 ⟨rfl, rfl⟩
       have HB3 := HB2
       clear HB2 HG2 H2)
    go_wp2_with fail
    (with_reducible refine (sum_any (HV.out.below HB3.out) (by omega) HA.out).mono ?_)
    rintro e w' ⟨rfl, rfl⟩
    unfold told
    go_wp2
    go_loopw [11, 12, 13] (fun s o i wr => SGRel xs w s o i wr) (fun _ _ i _ => xs.length - (intOf i).toNat)
    case atStart => exact ⟨0, 0, Nat.zero_le _, rfl, rfl, rfl, fun _ => by rw [List.drop_zero], fun h => absurd fits_zero h, HB3.out⟩
    case round =>
      obtain ⟨k, z, hk, rfl, rfl, rfl, hs1, hs2, hbr⟩ := hrel
      have HS1 := Lib.hid hs1
      have HS2 := Lib.hid hs2
      have HBR := Lib.hid hbr
      clear hs1 hs2 hbr HB3
      by_cases hz : Fits z
      · rw [val_fits hz, ok_fits hz]
        have HZ := Lib.hid hz
        clear hz
        by_cases hlt : k < xs.length
        · obtain ⟨p, hp, hps, hc⟩ := (HV.out.below HBR.out).at_ k hlt
          obtain ⟨pb, po, ps⟩ := p
          simp only at hps hc
          subst hps
          have HST := Lib.hid (sums_step xs k z hlt)
          have hfx := HA.out k hlt
          generalize xs.getD k 0 = x at *
          have HC := Lib.hid (radd_any z x HZ.out hfx)
          have hd : decide (k < xs.length) = true := by simp [hlt]
          clear hfx
          subst hp
          go_wp2_with fail
          (with_reducible refine (HC.out _).mono ?_)
          rintro e w' ⟨rfl, hbq⟩
          have HBQ := Lib.hid (HBR.out.trans (hbq.mono HBR.out.size))
          clear hbq
          unfold rtold
          go_wp2
          go_roundw
          case rel =>
            refine ⟨k + 1, z + x, by omega, by go_num, rfl, rfl, fun hf => ?_, fun hf => ?_, HBQ.out⟩
            · rw [HS1.out HZ.out, HST.out, if_pos hf]
            · rw [HS1.out HZ.out, HST.out, if_neg hf]
          case measure => simp [intOf]; omega
        · have hd : decide (k < xs.length) = false := by simp; omega
          have HE := Lib.hid (show sums 0 xs = some z by rw [HS1.out HZ.out, List.drop_of_length_le (by omega)]; rfl)
          rw [HE.out, far_some, val_fits HZ.out, er_fits HZ.out]
          have HI := Lib.hid (is_any z _ (HG.out.below HBR.out))
          rw [val_fits HZ.out, er_fits HZ.out, ok_fits HZ.out] at HI
          go_wp2_with fail
          (with_reducible refine HI.out.mono ?_)
          rintro e w' ⟨rfl, hbq⟩
          have HBQ := Lib.hid (HBR.out.trans (hbq.mono HBR.out.size))
          clear hbq
          go_wp2
          go_ret
          exact ⟨rfl, HBQ.out⟩
      · rw [val_not hz, ok_not hz]
        have HE := Lib.hid (HS2.out hz)
        have HI := Lib.hid (is_any z _ (HG.out.below HBR.out))
        rw [val_not hz, er_not hz, ok_not hz] at HI
        rw [HE.out, val_not far_not, er_not far_not]
        clear hz
        by_cases hlt : k < xs.length
        case' pos => have hd : decide (k < xs.length) = true := by simp [hlt]
        case' neg => have hd : decide (k < xs.length) = false := by simp; omega
        all_goals
          go_wp2_with fail
          (with_reducible refine HI.out.mono ?_)
          rintro e w' ⟨rfl, hbq⟩
          have HBQ := Lib.hid (HBR.out.trans (hbq.mono HBR.out.size))
          clear hbq
          go_wp2
          go_ret
          exact ⟨rfl, HBQ.out⟩
end Go.Proofs.YtcaognakjigmbaaDoor
