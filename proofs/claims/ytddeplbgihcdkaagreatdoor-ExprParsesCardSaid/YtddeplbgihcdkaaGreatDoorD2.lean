/-
  The document's digits: walked.
-/
import Derived.Test.YtddeplbgihcdkaaGreatDoorD1
import Derived.Laws.BytesArg
namespace Go.Proofs.YtddeplbgihcdkaaGreatDoor
open Go.RowKit Go.Sort

theorem one_string (w : World) (c : UInt8) : (convert 121 9 (.slice (some ⟨w.heap.size, 0, none⟩) 1 1)).run Tryz.prog (w.alloc (.cells #[.int .u8 (c.toNat : Int)] 5)) = .ok (.string ⟨#[c]⟩) (w.alloc (.cells #[.int .u8 (c.toNat : Int)] 5)) := by
  have h := nums_bytes [c]
  simp only [List.map_cons, List.map_nil] at h
  have e : (⟨[c].toArray⟩ : ByteArray) = ⟨#[c]⟩ := rfl
  rw [← e, ← h]
  refine run_convert_bytes_arg _ 121 5 Tryz.underlying121 Tryz.underlying5 w.heap.size 0 1 1 [(c.toNat : Int)] rfl ?_ 9 Tryz.underlying9
  intro i hi
  obtain rfl : i = 0 := by omega
  exact (rd_cell (heap_alloc_new w _) 0).trans rfl
theorem ret_strD {s : ByteArray} {l : List UInt8} (h : s.data.toList = l) : Ending.returned (.string s) = .returned (strV l) := by rw [strV_eq h]
def DgRel (n : Nat) (w : World) (s u : Value) (wr : World) : Prop := ∃ (m : Nat) (t : List UInt8), u = .int .u64 (m : Int) ∧ s = .string ⟨t.toArray⟩ ∧ dgs m ++ t = dgs n ∧ m ≤ n ∧ Below w.heap.size w wr
def StP (l : List UInt8) (w : World) (e : Ending) (w' : World) : Prop := e = .returned (strV l) ∧ Below w.heap.size w w'
theorem dgs_lenD {n : Nat} (hn : n < 9223372036854775808) : (dgs n).length ≤ 20 := by
  unfold dgs
  rw [Lib.decDigits_length]
  by_cases h : n = 0
  · subst h; rw [Lib.nDigits_small (by omega)]; omega
  · have := Lib.numDigits_eq n (by omega) (by omega); split at this <;> omega
theorem dgs_ne (n : Nat) : 0 < (dgs n).length := dgs_pos n
set_option maxHeartbeats 2000000 in
set_option maxRecDepth 100000 in
theorem digits_any (n : Nat) (hn : n < 9223372036854775808) (w : World) : Calls Tryz.prog 57 #[.int .i64 (n : Int)] w (StP (dgs n) w) := by
  have HLN := Lib.hid (dgs_lenD hn)
  have hc0 : IntKind.u64.wrap (n : Int) = (n : Int) := by rw [IntKind.wrap_u64]; omega
  have g0 : decide ((n : Int) < 0) = false := by simp
  go_enter Tryz.func57, Tryz.ntmps57
  go_wp2
  go_loopw [3, 5] (fun s u wr => DgRel n w s u wr) (fun _ u _ => (intOf u).toNat)
  case atStart => exact ⟨n, [], rfl, rfl, by simp, Nat.le_refl _, Below.refl _ _⟩
  case round =>
    obtain ⟨m, t, rfl, rfl, ht, hm, hb⟩ := hrel
    have HT := Lib.hid ht
    have HB := Lib.hid hb
    clear ht hb
    have htl : t.length ≤ 20 := by have := congrArg List.length HT.out; rw [List.length_append] at this; have := HLN.out; omega
    obtain ⟨c, hc⟩ : ∃ c : UInt8, c = UInt8.ofNat (48 + m % 10) := ⟨_, rfl⟩
    have hq : IntKind.u8.wrap (48 + (m : Int) % 10) = (c.toNat : Int) := by rw [hc, IntKind.wrap_u8]; simp
    have hcv := one_string wr c
    have HC := Lib.hid hc
    clear hc
    by_cases h10 : m < 10
    · have g3 : ((m : Int) / 10 == 0) = true := by rw [beq_iff_eq]; omega
      have HR := Lib.hid (show c :: t = dgs n by rw [HC.out, show m % 10 = m from Nat.mod_eq_of_lt h10, dgs_lt h10, HT.out])
      clear h10
      go_wp2
      go_ret
      exact ⟨ret_strD (by simpa using HR.out), HB.out.alloc HB.out.size _⟩
    · have g3 : ((m : Int) / 10 == 0) = false := by rw [beq_eq_false_iff_ne]; omega
      have HR := Lib.hid (show DgRel n w (.string (⟨#[c]⟩ ++ ⟨t.toArray⟩)) (.int .u64 ((m : Int) / 10)) (wr.alloc (.cells #[.int .u8 (c.toNat : Int)] 5)) from
        ⟨m / 10, c :: t, by rw [show ((m : Int) / 10) = ((m / 10 : Nat) : Int) by omega], by rw [show ((⟨#[c]⟩ : ByteArray) ++ ⟨t.toArray⟩) = ⟨(c :: t).toArray⟩ by apply ByteArray.ext; simp], by rw [HC.out, dgs_ge h10, HT.out], by have : m / 10 ≤ m := Nat.div_le_self _ _; omega, HB.out.alloc HB.out.size _⟩)
      go_wp2
      go_roundw
      case rel => exact HR.out
      case measure => (have : 0 < m := by omega); (have : m / 10 < m := Nat.div_lt_self this (by omega)); simp [intOf]; omega
end Go.Proofs.YtddeplbgihcdkaaGreatDoor
