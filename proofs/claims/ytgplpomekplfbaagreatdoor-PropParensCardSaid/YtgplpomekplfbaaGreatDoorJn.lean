/-
  Whether a text may hold a comment (the law's own): walked.
-/
import Derived.Test.YtgplpomekplfbaaGreatDoorJ6
import Derived.Test.YtgplpomekplfbaaGreatDoorQQ
namespace Go.Proofs.YtgplpomekplfbaaGreatDoor
open Go.RowKit Go.Sort
theorem pcmt_iff : ∀ l : List UInt8, cmt l = true ↔ ∃ i, ∃ h : i + 1 < l.length, l[i] = 47 ∧ l[i + 1] = 47
  | [] => by simp [cmt]
  | [a] => by simp [cmt]
  | a :: b :: r => by
    have ih := pcmt_iff (b :: r)
    simp only [cmt, Bool.or_eq_true, Bool.and_eq_true, beq_iff_eq]
    constructor
    · rintro (⟨h1, h2⟩ | h)
      · exact ⟨0, by simp, h1, h2⟩
      · obtain ⟨i, hi, h1, h2⟩ := ih.1 h
        exact ⟨i + 1, by simp at hi ⊢; omega, h1, h2⟩
    · rintro ⟨i, hi, h1, h2⟩
      match i, hi, h1, h2 with
      | 0, _, h1, h2 => exact .inl ⟨h1, h2⟩
      | i + 1, hi, h1, h2 => exact .inr (ih.2 ⟨i, by simp at hi ⊢; omega, h1, h2⟩)
def PcmRel (s : ByteArray) (i : Value) : Prop := ∃ k : Nat, i = .int .i64 (k : Int) ∧ k ≤ s.size ∧ ∀ j, j < k → ∀ h : j + 1 < s.size, ¬ (s[j] = 47 ∧ s[j + 1] = 47)
set_option maxHeartbeats 1000000 in
theorem pquiet_any (s : ByteArray) (hs : s.size ≤ 3000) (w : World) : Calls Tryz.prog 18 #[.string s] w fun e w' => e = .returned (.bool (cmt s.data.toList)) ∧ w = w' := by
  have HQ := Lib.hid (pcmt_iff s.data.toList)
  go_enter Tryz.func18, Tryz.ntmps18
  go_wp2
  go_loop [3] (fun i => PcmRel s i) (fun i => s.size - (intOf i).toNat)
  case atStart => exact ⟨0, rfl, Nat.zero_le _, fun j hj => absurd hj (by omega)⟩
  case round =>
    obtain ⟨k, rfl, hk, hno⟩ := hrel
    have HNO := Lib.hid hno
    clear hno
    by_cases hlt : k + 1 < s.size
    · have g1 : decide ((k : Int) + 1 < (s.size : Int)) = true := by simp; omega
      have hk1 : k < s.size := by omega
      by_cases h1 : s[k] = 47
      · have q1 : ((s[k].toNat : Int) == 47) = true := by rw [h1]; decide
        by_cases h2 : s[k + 1] = 47
        · have q2 : ((s[k + 1].toNat : Int) == 47) = true := by rw [h2]; decide
          have HY := Lib.hid (show cmt s.data.toList = true from HQ.out.2 ⟨k, by simpa using hlt, h1, h2⟩)
          clear h1 h2
          go_wp2
          go_ret
          exact ⟨ret_boolF HY.out.symm, rfl⟩
        · have q2 : ((s[k + 1].toNat : Int) == 47) = false := by
            rw [beq_eq_false_iff_ne]
            intro e
            exact h2 (UInt8.toNat_inj.1 (by simpa using (by exact_mod_cast e : s[k + 1].toNat = 47)))
          have H2 := Lib.hid h2
          clear h1 h2
          go_wp2
          go_round
          case rel => exact ⟨k + 1, by go_num, by omega, fun j hj h => by
            by_cases e : j = k
            · subst e; exact fun hx => H2.out hx.2
            · exact HNO.out j (by omega) h⟩
          case measure => simp [intOf]; omega
      · have q1 : ((s[k].toNat : Int) == 47) = false := by
          rw [beq_eq_false_iff_ne]
          intro e
          exact h1 (UInt8.toNat_inj.1 (by simpa using (by exact_mod_cast e : s[k].toNat = 47)))
        have H1 := Lib.hid h1
        clear h1
        go_wp2
        go_round
        case rel => exact ⟨k + 1, by go_num, by omega, fun j hj h => by
          by_cases e : j = k
          · subst e; exact fun hx => H1.out hx.1
          · exact HNO.out j (by omega) h⟩
        case measure => simp [intOf]; omega
    · have g1 : decide ((k : Int) + 1 < (s.size : Int)) = false := by simp; omega
      have HY := Lib.hid (show cmt s.data.toList = false by
        cases hc : cmt s.data.toList with
        | false => rfl
        | true =>
          obtain ⟨i, hi, h1, h2⟩ := HQ.out.1 hc
          have hi' : i + 1 < s.size := by simpa using hi
          exact absurd ⟨h1, h2⟩ (HNO.out i (by omega) hi'))
      go_wp2
      go_ret
      exact ⟨ret_boolF HY.out.symm, rfl⟩
end Go.Proofs.YtgplpomekplfbaaGreatDoor
