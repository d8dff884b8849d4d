/-
  holdRight, walked.
-/
import Derived.Test.YtkgjpimapfmeoaaDoorM3
namespace Go.Proofs.YtkgjpimapfmeoaaDoor
open Go.RowKit

theorem hold_step {n m : Nat} {a : Int} {l : List Int} (h : m < l.length) : holdR n a (l.drop m) ↔ (a ≤ l[m] ∧ l[m] < (n : Int)) ∧ holdR n (l[m] + 1) (l.drop (m + 1)) := by
  rw [List.drop_eq_getElem_cons h, holdR, and_assoc]
theorem hold_end {n m : Nat} {a : Int} {l : List Int} (h : l.length ≤ m) : holdR n a (l.drop m) := by rw [List.drop_of_length_le h]; trivial
def HdRel (l : List (List Int)) (n : Nat) (w0 : World) (i : Value) (wr : World) : Prop :=
  ∃ (k : Nat), i = .int .i64 (k : Int) ∧ k ≤ l.length ∧ (∀ h ∈ l.take k, holdR n 0 h) ∧ Below w0.heap.size w0 wr
def HdIn (h : List Int) (n : Nat) (w0 : World) (c j : Value) (wr : World) : Prop :=
  ∃ (m : Nat) (a : Int), c = .int .i64 a ∧ j = .int .i64 (m : Int) ∧ m ≤ h.length ∧ 0 ≤ a ∧ (holdR n 0 h ↔ holdR n a (h.drop m)) ∧ Below w0.heap.size w0 wr
theorem holds_no {l : List (List Int)} {n k : Nat} (hk : k < l.length) (h : ¬ holdR n 0 l[k]) : false = decide (holdsR n l) := (decide_eq_false fun hm => h (hm _ (List.getElem_mem hk))).symm
set_option maxHeartbeats 4000000 in
theorem hold_any {A : Option Addr} {l : List (List Int)} {cap n : Nat} (w : World) (hl : HSl w A l) (hlen : l.length ≤ 1000000) (hcs : ∀ cs ∈ l, cs.length ≤ 1000000) (hn : n ≤ 1000000) :
    Calls Tryd.prog 35 #[.slice A l.length cap, .int .i64 (n : Int)] w (BoolP (decide (holdsR n l)) w) := by
  have HL := Lib.hid hl
  have HCS := Lib.hid hcs
  obtain ⟨N, hN⟩ : ∃ N, N = l.length := ⟨_, rfl⟩
  have HN := Lib.hid hN
  rw [← hN] at hlen ⊢
  clear hl hcs hN
  go_enter Tryd.func35, Tryd.ntmps35
  go_wp2
  go_loopw [12] (fun i wr => HdRel l n w i wr) (fun i _ => N - (intOf i).toNat)
  case atStart => exact ⟨0, rfl, Nat.zero_le _, fun c hc => absurd hc (by simp), Below.refl _ _⟩
  case round =>
    obtain ⟨k, rfl, hk, hgd, hb⟩ := hrel
    have HGD := Lib.hid hgd
    have HB := Lib.hid hb
    clear hgd hb
    by_cases hlt : k < N
    · have d1 : decide (k < N) = true := by simp; omega
      have kk : k < l.length := by rw [← HN.out]; exact hlt
      obtain ⟨g, o, B, cap1, rfl, c1, hc1, hcl⟩ := HL.out k kk
      replace c1 := cell_blw HB.out c1
      have HLL := Lib.hid HL
      clear HL
      have HCL := Lib.hid hcl
      have hlk : l[k].length ≤ 1000000 := HCS.out _ (List.getElem_mem kk)
      have HBAD := Lib.hid (fun h => holds_no (n := n) kk h)
      have HGOOD := Lib.hid (fun (h : holdR n 0 l[k]) => show ∀ cs ∈ l.take (k + 1), holdR n 0 cs from fun cs hcs => by
        rw [take_snoc kk, List.mem_append] at hcs
        rcases hcs with hcs | hcs
        · exact HGD.out cs hcs
        · simp only [List.mem_singleton] at hcs; subst hcs; exact h)
      generalize l[k] = cs at *
      obtain ⟨L, hL⟩ : ∃ L, L = cs.length := ⟨_, rfl⟩
      have HLN := Lib.hid hL
      rw [← hL] at c1 hc1 hlk
      clear hcl hL hk
      go_wp2_with fail
      go_loopw [7, 18] (fun c j wr => HdIn cs n w c j wr) (fun _ j _ => L - (intOf j).toNat)
      case atStart => exact ⟨0, 0, rfl, rfl, Nat.zero_le _, Int.le_refl _, Iff.rfl, HB.out⟩
      case round =>
        obtain ⟨m, a, rfl, rfl, hm, ha, hiff, hb⟩ := hrel
        have HIFF := Lib.hid hiff
        have HB := Lib.hid hb
        clear hiff hb
        by_cases hmt : m < L
        · have d3 : decide (m < L) = true := by simp; omega
          have mm : m < cs.length := by rw [← HLN.out]; exact hmt
          obtain ⟨g2, o2, rfl, e1⟩ := HCL.out m mm
          replace e1 := cell_blw HB.out e1
          have HST := Lib.hid (hold_step (n := n) (a := a) mm)
          have HCC := Lib.hid HCL
          clear HCL
          generalize cs[m] = x at *
          clear hm
          by_cases h1 : x < a
          · have d4 : decide (x < a) = true := by simp; omega
            have HR := Lib.hid (HBAD.out fun h => by have h2 := (HST.out.1 (HIFF.out.1 h)).1; omega)
            clear h1
            go_wp2_with fail
            go_ret
            exact ⟨ret_bool HR.out, HB.out⟩
          · have d4 : decide (x < a) = false := by simp; omega
            by_cases h2 : (n : Int) ≤ x
            · have d5 : decide ((n : Int) ≤ x) = true := by simp; omega
              have HR := Lib.hid (HBAD.out fun h => by have h2 := (HST.out.1 (HIFF.out.1 h)).1; omega)
              clear h1 h2
              go_wp2_with fail
              go_ret
              exact ⟨ret_bool HR.out, HB.out⟩
            · have d5 : decide ((n : Int) ≤ x) = false := by simp; omega
              have hx0 : 0 ≤ x := by omega
              have hx1 : x ≤ 1000000 := by omega
              have HI := Lib.hid (show holdR n 0 cs ↔ holdR n (x + 1) (cs.drop (m + 1)) by
                rw [HIFF.out, HST.out]
                exact ⟨fun h => h.2, fun h => ⟨⟨by omega, by omega⟩, h⟩⟩)
              clear h1 h2
              go_wp2_with fail
              go_roundw
              case rel => exact ⟨m + 1, x + 1, by go_num, by go_num, by rw [← HLN.out]; omega, by omega, HI.out, HB.out⟩
              case measure => simp [intOf]; omega
        · have d3 : decide (m < L) = false := by simp; omega
          have HG := Lib.hid (HGOOD.out (HIFF.out.2 (hold_end (by rw [← HLN.out]; omega))))
          clear hmt
          go_wp2
          go_roundw
          case rel => exact ⟨k + 1, by go_num, by rw [← HN.out]; omega, HG.out, HB.out⟩
          case measure => simp [intOf]; omega
    · have d1 : decide (k < N) = false := by simp; omega
      have HR := Lib.hid (show true = decide (holdsR n l) from (decide_eq_true (by have h := HGD.out; rw [List.take_of_length_le (by rw [← HN.out]; omega)] at h; exact h)).symm)
      clear hlt hk
      go_wp2
      go_ret
      exact ⟨ret_bool HR.out, HB.out⟩
end Go.Proofs.YtkgjpimapfmeoaaDoor
