/-
  Same and Copy of sets in memory.
-/
import Derived.Test.YtmdmanhjgbpgoaaDoorS3
import Derived.Deep.RegionHeld3
namespace Go.Proofs.YtmdmanhjgbpgoaaDoor
open Go.RowKit

def EqualRel (xs ys : List Nat) (w : World) (i : Value) (wr : World) : Prop := ∃ k : Nat, k ≤ xs.length ∧ i = .int .i64 (k : Int) ∧ (∃ n, wr = w.drewN n) ∧ ∀ j, j < k → xs.getD j 0 = ys.getD j 0
set_option maxHeartbeats 400000 in
theorem equal_at {w : World} {c d cap dap : Nat} {xs ys : List Nat} (hx : xs.length ≤ 64) (hy : ys.length ≤ 64)
    (hv : ∀ k, k < xs.length → w.cell? ⟨c, k, none⟩ = some (.int .u64 ((xs.getD k 0 : Nat) : Int))) (hu : ∀ k, k < ys.length → w.cell? ⟨d, k, none⟩ = some (.int .u64 ((ys.getD k 0 : Nat) : Int))) :
    Calls Tryd.prog 42 #[.slice (some ⟨c, 0, none⟩) xs.length cap, .slice (some ⟨d, 0, none⟩) ys.length dap] w fun e w' => e = .returned (.bool (decide (xs = ys))) ∧ ∃ n, w' = w.drewN n := by
  by_cases hl : xs.length = ys.length
  · have HL := Lib.hid hl
    have hb : ((xs.length : Int) != (ys.length : Int)) = false := by simp [hl]
    have HV := Lib.hid hv
    have HU := Lib.hid hu
    clear hl hv hu
    go_enter Tryd.func42, Tryd.ntmps42
    go_wp2
    clear hb
    go_loopw [13] (fun i wr => EqualRel xs ys w i wr) (fun i _ => xs.length - (intOf i).toNat)
    case atStart => exact ⟨0, Nat.zero_le _, rfl, ⟨0, rfl⟩, fun j hj => by omega⟩
    case round =>
      obtain ⟨k, hk, rfl, ⟨n, rfl⟩, hz⟩ := hrel
      have HZ := Lib.hid hz
      clear hz
      by_cases hlt : k < xs.length
      · have hlt2 : k < ys.length := by have := HL.out; omega
        have hc := HV.out k hlt
        have hd := HU.out k hlt2
        generalize hxk : xs.getD k 0 = x at hc
        generalize hyk : ys.getD k 0 = y at hd
        have HXK := Lib.hid hxk
        have HYK := Lib.hid hyk
        clear hxk hyk
        have k0 : (0 : Int) ≤ (k : Int) := by omega
        have k1 : (k : Int) < (xs.length : Int) := by omega
        have k2 : (k : Int) < (ys.length : Int) := by omega
        by_cases he : x = y
        · have hne : ((x : Int) != (y : Int)) = false := by simp [he]
          have HE := Lib.hid he
          clear he
          go_wp2
          go_quiet (fail)
          go_wp2
          go_roundw
          case rel =>
            refine ⟨k + 1, by omega, by go_num, ⟨_, rfl⟩, fun j hj => ?_⟩
            rcases Nat.lt_or_ge j k with h | h
            · exact HZ.out j h
            · rw [show j = k by omega, HXK.out, HYK.out]; exact HE.out
          case measure => simp [intOf]; omega
        · have hne : ((x : Int) != (y : Int)) = true := by rw [bne_iff_ne]; omega
          have HE := Lib.hid he
          clear he
          go_wp2
          go_quiet (fail)
          go_wp2
          go_ret
          refine ⟨?_, n + nq, World.drewN_drewN _ _ _⟩
          have : decide (xs = ys) = false := by
            rw [decide_eq_false_iff_not]
            intro h
            subst h
            exact HE.out (HXK.out.symm.trans HYK.out)
          rw [this]; rfl
      · have hd : decide (k < xs.length) = false := by simp; omega
        go_wp2
        go_ret
        refine ⟨?_, n, rfl⟩
        have : decide (xs = ys) = true := by
          rw [decide_eq_true_iff]
          apply List.ext_getElem HL.out
          intro j h1 h2
          have := HZ.out j (by omega)
          simpa [List.getD_eq_getElem?_getD, List.getElem?_eq_getElem h1, List.getElem?_eq_getElem h2] using this
        rw [this]; rfl
  · have hb : ((xs.length : Int) != (ys.length : Int)) = true := by simp; omega
    have HL := Lib.hid hl
    clear hv hu hl
    go_enter Tryd.func42, Tryd.ntmps42
    go_wp2
    go_ret
    refine ⟨?_, 0, rfl⟩
    have : decide (xs = ys) = false := by
      rw [decide_eq_false_iff_not]
      intro h
      exact HL.out (by rw [h])
    rw [this]; rfl

set_option maxHeartbeats 400000 in
theorem same_at {w : World} {b c size b' c' size' : Nat} {ws vs : List Nat} (h : SetAt w b c size ws) (h' : SetAt w b' c' size' vs) :
    Calls Tryd.prog 30 #[.pointer (some ⟨b, 0, none⟩), .pointer (some ⟨b', 0, none⟩)] w fun e w' => e = .returned (.bool (decide (size = size') && decide (ws = vs))) ∧ ∃ n, w' = w.drewN n := by
  have hsz := h.csize
  have hsz' := h'.csize
  obtain ⟨cap, hs, hcap, _⟩ := h.cslice
  obtain ⟨cap', hs', hcap', _⟩ := h'.cslice
  have hl : ws.length ≤ 64 := by have := h.len; have := h.le; omega
  have hl' : vs.length ≤ 64 := by have := h'.len; have := h'.le; omega
  have HW := Lib.hid h
  have HV := Lib.hid h'
  clear h h'
  by_cases he : size = size'
  · subst he
    go_enter Tryd.func30, Tryd.ntmps30
    go_wp2
    go_quiet ((go_at_call 42; exact Calls.quiet_of (equal_at hl hl' HW.out.cword HV.out.cword)))
    go_wp2
    go_ret
    exact ⟨by simp, _, rfl⟩
  · have hd : ((size : Int) == (size' : Int)) = false := by rw [beq_eq_false_iff_ne]; omega
    have HE := Lib.hid he
    clear he
    go_enter Tryd.func30, Tryd.ntmps30
    go_wp2
    go_quiet (fail)
    go_wp2
    go_ret
    refine ⟨?_, _, rfl⟩
    have : decide (size = size') = false := by rw [decide_eq_false_iff_not]; exact HE.out
    rw [this]; rfl

set_option maxHeartbeats 400000 in
theorem same_no (b : Nat) (w : World) : Calls Tryd.prog 30 #[.pointer (some ⟨b, 0, none⟩), .pointer none] w fun e w' => e = .returned (.bool false) ∧ w' = w := by
  go_enter Tryd.func30, Tryd.ntmps30
  go_wp2
  go_ret
  exact ⟨rfl, rfl⟩
end Go.Proofs.YtmdmanhjgbpgoaaDoor
