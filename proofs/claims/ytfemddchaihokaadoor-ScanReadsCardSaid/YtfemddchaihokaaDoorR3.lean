/-
  The document's sign, walked.
-/
import Derived.Test.YtfemddchaihokaaDoorR2
namespace Go.Proofs.YtfemddchaihokaaDoor
open Go.RowKit

def SignRel (s : ByteArray) (at0 : Nat) (w : World) (i : Value) (wr : World) : Prop := ∃ (k n : Nat), i = .int .i64 (k : Int) ∧ k ≤ 24 ∧ (∀ j, j < k → hitB (s.data.toList.drop at0) j = false) ∧ wr = (w.alloc (.cells SGV 9)).drewN n
def SignP (s : ByteArray) (at0 : Nat) (w : World) (e : Ending) (w' : World) : Prop := e = .returned (.string ⟨((s.data.toList.drop at0).take (signN (s.data.toList.drop at0))).toArray⟩) ∧ Below w.heap.size w w'
theorem sgv_cell (w : World) (k : Nat) (hk : k < 24) : (w.alloc (.cells SGV 9)).cell? ⟨w.heap.size, k, none⟩ = some (.string ⟨(SG.getD k []).toArray⟩) := by
  rw [World.cell?_alloc_at _ _ _ _ rfl]; exact sg_cell k hk
set_option maxHeartbeats 1000000 in
theorem rsign_any (s : ByteArray) (at0 : Nat) (w : World) (hs : s.size ≤ 65536) (hat : at0 < s.size) : Calls Tryd.prog 29 #[.string s, .int .i64 at0] w (SignP s at0 w) := by
  have HZ := Lib.hid (size_list s)
  go_enter Tryd.func29, Tryd.ntmps29
  go_wp2
  go_loopw [6] (fun i wr => SignRel s at0 w i wr) (fun i _ => 24 - (intOf i).toNat)
  case atStart => exact ⟨0, 0, rfl, by omega, fun j hj => by omega, rfl⟩
  case round =>
    obtain ⟨k, n, rfl, hk, hno, rfl⟩ := hrel
    have HNO := Lib.hid hno
    clear hno
    by_cases hlt : k < 24
    · have hc := sgv_cell w k hlt
      obtain ⟨x, hx⟩ : ∃ x : ByteArray, x = ⟨(SG.getD k []).toArray⟩ := ⟨_, rfl⟩
      rw [← hx] at hc
      have hxs : x.size = (SG.getD k []).length := by rw [hx]; simp [ByteArray.size]
      have hxl : x.toList = SG.getD k [] := by rw [hx, ByteArray.toList_eq]
      have hl := sg_len k hlt
      rw [← hxs] at hl
      have hfit : ¬ at0 + x.size ≤ s.size → hitB (s.data.toList.drop at0) k = false := by
        intro hf
        unfold hitB
        rw [beq_eq_false_iff_ne]
        intro he
        have := congrArg List.length he
        rw [List.length_take, List.length_drop, HZ.out, ← hxs] at this
        omega
      have hex : hitB (s.data.toList.drop at0) k = ((s.extract at0 (at0 + x.size)).toList == x.toList) := by
        unfold hitB
        rw [ByteArray.toList_eq, ext_list, Nat.add_sub_cancel_left, hxl, hxs]
      have HSH := Lib.hid (show hitB (s.data.toList.drop at0) k = true → Value.string x = .string ⟨((s.data.toList.drop at0).take (signN (s.data.toList.drop at0))).toArray⟩ from fun h => by
        rw [(sg_hit hlt h HNO.out).2, hx])
      clear hx hxs hxl
      have w5 : (k : Int) < 24 := by omega
      have w6 : (0 : Int) ≤ k := by omega
      have w7 : decide ((k : Int) < 24) = true := by simp; omega
      have w1 : IntKind.i64.wrap ((at0 : Int) + (x.size : Int)) = (at0 : Int) + x.size := IntWalk.i64_in _ (by omega)
      have w2 : 0 ≤ (at0 : Int) + x.size := by omega
      have w3 : ((at0 : Int) + x.size).toNat = at0 + x.size := by omega
      by_cases hf : at0 + x.size ≤ s.size
      · have w4 : decide ((at0 : Int) + x.size ≤ s.size) = true := by simp; omega
        cases hh : hitB (s.data.toList.drop at0) k with
        | true =>
          rw [hh] at hex
          have HV := Lib.hid (HSH.out hh)
          have hex' := hex.symm
          clear hex hfit hh HSH
          go_wp2_with fail
          go_quiet (fail)
          clear w1 w2 w3 w4 hex'
          go_wp2
          go_ret
          exact ⟨by rw [← HV.out]; rfl, below_drewN ((Below.refl _ _).alloc (Nat.le_refl _) _) _⟩
        | false =>
          rw [hh] at hex
          have hex' := hex.symm
          have HH := Lib.hid hh
          clear hex hfit hh HSH
          go_wp2_with fail
          go_quiet (fail)
          clear w1 w2 w3 w4 hex'
          go_wp2
          go_roundw
          case rel =>
            refine ⟨k + 1, n + nq, by go_num, by omega, fun j hj => ?_, rfl⟩
            by_cases hjk : j = k
            · rw [hjk]; exact HH.out
            · exact HNO.out j (by omega)
          case measure => simp [intOf]; omega
      · have w4 : decide ((at0 : Int) + x.size ≤ s.size) = false := by simp; omega
        have HH := Lib.hid (hfit hf)
        clear hex hfit HSH
        go_wp2_with fail
        go_quiet (fail)
        clear w1 w2 w3 w4
        go_wp2
        go_roundw
        case rel =>
          refine ⟨k + 1, n + nq, by go_num, by omega, fun j hj => ?_, rfl⟩
          by_cases hjk : j = k
          · rw [hjk]; exact HH.out
          · exact HNO.out j (by omega)
        case measure => simp [intOf]; omega
    · have hke : k = 24 := by omega
      subst hke
      have HM := Lib.hid (sg_miss HNO.out)
      go_wp2
      go_ret
      exact ⟨by rw [HM.out]; rfl, below_drewN ((Below.refl _ _).alloc (Nat.le_refl _) _) _⟩
end Go.Proofs.YtfemddchaihokaaDoor
