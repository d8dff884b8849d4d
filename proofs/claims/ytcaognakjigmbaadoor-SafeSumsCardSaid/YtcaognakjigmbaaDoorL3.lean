/-
  Sum of package safe over every list; the laws' own 'is' and 'alive'.
-/
import Derived.Test.YtcaognakjigmbaaDoorL2
import Derived.Test.YtcaognakjigmbaaDoorE2
namespace Go.Proofs.YtcaognakjigmbaaDoor
open Go.RowKit

/-- A slice of 64-bit numbers reads as this list. -/
def R64 (w : World) (v : Value) (xs : List Int) : Prop :=
  ∃ ad cap, v = .slice ad xs.length cap ∧ ∀ k, k < xs.length → ∃ p, ad = some p ∧ p.spot = none ∧ w.cell? ⟨p.block, p.off + k, none⟩ = some (.int .i64 (xs.getD k 0))
theorem R64.below {w w' : World} {v : Value} {xs : List Int} (h : R64 w v xs) (hb : Below w.heap.size w w') : R64 w' v xs := by
  obtain ⟨ad, cap, rfl, h2⟩ := h
  refine ⟨ad, cap, rfl, fun k hk => ?_⟩
  obtain ⟨p, rfl, hp, hc⟩ := h2 k hk
  exact ⟨p, rfl, hp, (hb.cell (p := ⟨p.block, p.off + k, none⟩) (World.block_lt_of_cell? w _ hc)).trans hc⟩
/-- All numbers of a list fit. -/
def All (xs : List Int) : Prop := ∀ k, k < xs.length → Fits (xs.getD k 0)

def SumRel (xs : List Int) (i t : Value) : Prop := ∃ (k : Nat) (z : Int), k ≤ xs.length ∧ i = .int .i64 (k : Int) ∧ t = .int .i64 z ∧ Fits z ∧ sums 0 xs = sums z (xs.drop k)
def SumF (xs : List Int) (w : World) (e : Ending) (w' : World) : Prop := e = .returned (told (far (sums 0 xs))) ∧ w = w'

set_option maxHeartbeats 400000 in
theorem sum_any {w : World} {v : Value} {xs : List Int} (hv : R64 w v xs) (hx : xs.length ≤ 9223372036854775807) (hal : All xs) : Calls Tryd.prog 20 #[v] w (SumF xs w) := by
  obtain ⟨ad, cap, rfl, hv⟩ := hv
  have HV := Lib.hid hv
  have HA := Lib.hid hal
  clear hv hal
  go_enter Tryd.func20, Tryd.ntmps20
  go_wp2
  go_loop [10, 4] (fun i t => SumRel xs i t) (fun i _ => xs.length - (intOf i).toNat)
  case atStart => exact ⟨0, 0, Nat.zero_le _, rfl, rfl, fits_zero, by rw [List.drop_zero]⟩
  case round =>
    obtain ⟨k, z, hk, rfl, rfl, hz, hs⟩ := hrel
    have HZ := Lib.hid hz
    have HS := Lib.hid hs
    clear hz hs
    by_cases hlt : k < xs.length
    · obtain ⟨⟨pb, po, ps⟩, hp, hps, hc⟩ := HV.out k hlt
      simp only at hps hc
      subst hps
      have HHV := Lib.hid HV
      clear HV
      subst hp
      have hst := sums_step xs k z hlt
      have hfx := HA.out k hlt
      generalize xs.getD k 0 = x at *
      have HST := Lib.hid hst
      have HC := Lib.hid (add_any z x HZ.out hfx)
      clear hst hfx
      by_cases hf : Fits (z + x)
      · have HF := Lib.hid hf
        clear hf
        go_wp2_with fail
        refine (HC.out _).mono ?_
        rintro e w' ⟨rfl, rfl⟩
        rw [told_fits HF.out]
        go_wp2
        go_round
        case rel => exact ⟨k + 1, z + x, by omega, by go_num, rfl, HF.out, by rw [HS.out, HST.out, if_pos HF.out]⟩
        case measure => simp [intOf]; omega
      · have HF := Lib.hid hf
        clear hf
        go_wp2_with fail
        refine (HC.out _).mono ?_
        rintro e w' ⟨rfl, rfl⟩
        rw [told_not HF.out]
        go_wp2
        go_ret2
        refine ⟨?_, rfl⟩
        rw [HS.out, HST.out, if_neg HF.out, told_not far_not]
        rfl
    · have hd : decide (k < xs.length) = false := by simp; omega
      go_wp2
      go_ret2
      refine ⟨?_, rfl⟩
      have : sums 0 xs = some z := by rw [HS.out, List.drop_of_length_le (by omega)]; rfl
      rw [this, told_fits (show Fits (far (some z)) from HZ.out)]
      rfl

theorem is_any (z : Int) (w : World) (hG : Glob w) : Calls Tryd.prog 16 #[.int .i64 (val z), er z, .int .i64 (val z), .bool (ok z)] w fun e w' => e = .returned (.bool true) ∧ Below w.heap.size w w' := by
  have HG := Lib.hid hG
  clear hG
  by_cases h : Fits z
  · rw [val_fits h, er_fits h, ok_fits h]
    clear h
    go_enter Tryd.func16, Tryd.ntmps16
    go_wp2
    go_ret
    exact ⟨rfl, Below.refl _ _⟩
  · rw [val_not h, er_not h, ok_not h]
    clear h
    go_enter Tryd.func16, Tryd.ntmps16
    go_wp2_with fail
    refine (num_errno 10 _ HG.out).mono ?_
    rintro e w' ⟨rfl, hb⟩
    have HB := Lib.hid hb
    clear hb
    go_wp2
    go_ret
    exact ⟨rfl, HB.out⟩

set_option maxHeartbeats 400000 in
theorem alive_yes (w : World) (hG : Glob w) : Calls Tryd.prog 8 #[] w fun e w' => e = .returned (.bool true) ∧ Below w.heap.size w w' := by
  have HG := Lib.hid hG
  clear hG
  have H1 := Lib.hid (mul_any 4611686018427387904 2 (by decide) (by decide) w)
  have H2 := Lib.hid (add_any 3 4 (by decide) (by decide) w)
  have H3 := Lib.hid (gcd_any 12 18 (by decide) (by decide) w)
  go_enter Tryd.func8, Tryd.ntmps8
  go_wp2_with fail
  refine H1.out.mono ?_
  rintro e w' ⟨rfl, rfl⟩
  rw [told_not (by decide)]
  go_wp2_with fail
  refine H2.out.mono ?_
  rintro e w' ⟨rfl, rfl⟩
  rw [told_fits (by decide)]
  go_wp2_with fail
  refine H3.out.mono ?_
  rintro e w' ⟨rfl, n, rfl⟩
  have hb0 := below_drewN (Below.refl w.heap.size w) n
  have HB0 := Lib.hid hb0
  have HG1 := Lib.hid (HG.out.below hb0)
  clear hb0
  rw [show Nat.gcd 12 18 = 6 by decide]
  go_wp2_with fail
  refine (num_errno 10 _ HG1.out).mono ?_
  rintro e w' ⟨rfl, hb⟩
  have HB := Lib.hid (HB0.out.trans hb)
  clear hb
  go_wp2
  go_ret
  exact ⟨rfl, HB.out⟩
end Go.Proofs.YtcaognakjigmbaaDoor
