/-
  areLetters, walked.
-/
import Derived.Test.YtkddaobbjfnckaaGreatDoorO8
namespace Go.Proofs.YtkddaobbjfnckaaGreatDoor
open Go.RowKit

/-- A letter over so many names. -/
def letR (m : Nat) (c : Int) : Prop := 0 ≤ c ∧ c < ((2 ^ m : Nat) : Int)
instance (m : Nat) (c : Int) : Decidable (letR m c) := inferInstanceAs (Decidable (_ ∧ _))
theorem sh_pow7 (p : Nat) (hp : p < 7) : wrap64 (2 ^ p) = ((2 ^ p : Nat) : Int) := by
  have h : ∀ p : Fin 7, wrap64 (2 ^ p.val) = ((2 ^ p.val : Nat) : Int) := by decide +kernel
  exact h ⟨p, hp⟩
set_option maxRecDepth 100000 in
theorem letclo_any {c : Int} {m q : Nat} (hm : m < 7) (w : World) (hq : w.cell? ⟨q, 0, none⟩ = some (.int .i64 (m : Int))) : Calls Tryz.prog 91 #[.int .i64 c, .pointer (some ⟨q, 0, none⟩)] w fun e w' => e = .returned (.bool (!decide (letR m c))) ∧ w' = w := by
  have HP := Lib.hid (sh_pow7 m hm)
  by_cases h0 : c < 0
  · have d0 : decide (c < 0) = true := by simpa using h0
    have HR := Lib.hid (show true = !decide (letR m c) by rw [decide_eq_false (fun h => absurd h.1 (by omega))]; rfl)
    clear h0
    go_enter Tryz.func91, Tryz.ntmps91
    go_wp2
    go_ret
    exact ⟨ret_bool HR.out, rfl⟩
  · have d0 : decide (c < 0) = false := by simpa using h0
    have HR := Lib.hid (show decide (wrap64 (2 ^ m) ≤ c) = !decide (letR m c) by
      rw [HP.out]
      by_cases h1 : ((2 ^ m : Nat) : Int) ≤ c
      · rw [decide_eq_true h1, decide_eq_false (fun h => absurd h.2 (Int.not_lt.2 h1))]; rfl
      · rw [decide_eq_false h1, decide_eq_true ⟨by omega, Int.not_le.1 h1⟩]; rfl)
    clear h0
    go_enter Tryz.func91, Tryz.ntmps91
    go_wp2
    go_ret
    exact ⟨ret_bool HR.out, rfl⟩
def allR (m : Nat) (l : List Int) : Prop := ∀ c ∈ l, letR m c
instance (m : Nat) (l : List Int) : Decidable (allR m l) := inferInstanceAs (Decidable (∀ _ ∈ _, _))
def IxRel (l : List Int) (m : Nat) (i : Value) (w0 wr : World) : Prop := ∃ k : Nat, i = .int .i64 (k : Int) ∧ k ≤ l.length ∧ (∀ c ∈ l.take k, letR m c) ∧ wr = w0
/-- A number at least 0 if there is one that is no letter, else -1. -/
def IxP (b : Bool) (w : World) (e : Ending) (w' : World) : Prop := (∃ i : Int, e = .returned (.int .i64 i) ∧ decide (0 ≤ i) = b) ∧ w' = w
theorem take_snocI {l : List Int} {k : Nat} (h : k < l.length) : l.take (k + 1) = l.take k ++ [l[k]] := List.take_succ_eq_append_getElem h
set_option maxHeartbeats 2000000 in
theorem idxi_any {A : Option Addr} {l : List Int} {cap m q : Nat} (hm : m < 7) (w : World) (h : ISl w A l) (hq : w.cell? ⟨q, 0, none⟩ = some (.int .i64 (m : Int))) (hlen : l.length ≤ 1000000) : Calls Tryz.prog 112 #[.slice A l.length cap, .func (.func 91) #[] #[.pointer (some ⟨q, 0, none⟩)]] w (IxP (!decide (allR m l)) w) := by
  have HL := Lib.hid h
  have HC := Lib.hid (fun c => letclo_any (c := c) hm w hq)
  obtain ⟨n, hn⟩ : ∃ n, n = l.length := ⟨_, rfl⟩
  have HN := Lib.hid hn
  rw [← hn] at hlen ⊢
  clear h hn hq hm
  go_enter Tryz.func112, Tryz.ntmps112
  go_wp2
  go_loopw [8] (fun i wr => IxRel l m i w wr) (fun i _ => n - (intOf i).toNat)
  case atStart => exact ⟨0, rfl, Nat.zero_le _, fun c hc => absurd hc (by simp), rfl⟩
  case round =>
    obtain ⟨k, rfl, hk, hall, rfl⟩ := hrel
    rw [← HN.out] at hk
    by_cases hlt : k < n
    · have g2 : decide (k < n) = true := by simp; omega
      have kk : k < l.length := by rw [← HN.out]; exact hlt
      obtain ⟨g, o, rfl, c1⟩ := HL.out k kk
      have HLL := Lib.hid HL
      clear HL
      have HNO := Lib.hid (show ¬ letR m l[k] → ¬ allR m l from fun h1 h2 => h1 (h2 _ (List.getElem_mem kk)))
      have HYES := Lib.hid (show letR m l[k] → ∀ c ∈ l.take (k + 1), letR m c from fun h1 c hc => by
        rw [take_snocI kk, List.mem_append] at hc
        rcases hc with hc | hc
        · exact hall c hc
        · simp only [List.mem_singleton] at hc; subst hc; exact h1)
      generalize l[k] = c at *
      clear hall hk
      go_wp2_with fail
      refine (HC.out c).mono ?_
      rintro e w1 ⟨rfl, rfl⟩
      by_cases hr : letR m c
      · have HM := Lib.hid (HYES.out hr)
        rw [decide_eq_true hr]
        clear hr
        go_wp2_with fail
        go_roundw
        case rel => exact ⟨k + 1, by go_num, by rw [← HN.out]; omega, HM.out, rfl⟩
        case measure => simp [intOf]; omega
      · have HM := Lib.hid (HNO.out hr)
        rw [decide_eq_false hr]
        clear hr
        go_wp2_with fail
        go_ret
        exact ⟨⟨_, rfl, by rw [decide_eq_false HM.out]; simp⟩, rfl⟩
    · have g2 : decide (k < n) = false := by simp; omega
      have HA := Lib.hid (show allR m l from fun c hc => hall c (by rw [show k = l.length by rw [← HN.out]; omega, List.take_of_length_le (Nat.le_refl _)]; exact hc))
      clear hall hk
      go_wp2
      go_ret
      exact ⟨⟨_, rfl, by rw [decide_eq_true HA.out]; rfl⟩, rfl⟩
theorem confi_any {A : Option Addr} {l : List Int} {cap m q : Nat} (hm : m < 7) (w : World) (h : ISl w A l) (hq : w.cell? ⟨q, 0, none⟩ = some (.int .i64 (m : Int))) (hlen : l.length ≤ 1000000) : Calls Tryz.prog 90 #[.slice A l.length cap, .func (.func 91) #[] #[.pointer (some ⟨q, 0, none⟩)]] w fun e w' => e = .returned (.bool (!decide (allR m l))) ∧ w' = w := by
  have H := Lib.hid (idxi_any (cap := cap) hm w h hq hlen)
  generalize l.length = n at *
  clear h hq
  go_enter Tryz.func90, Tryz.ntmps90
  go_wp2_with fail
  refine (H.out).mono ?_
  rintro e w1 ⟨⟨i, rfl, hi⟩, rfl⟩
  have HI := Lib.hid hi
  clear hi
  go_wp2
  go_ret
  exact ⟨ret_bool HI.out, rfl⟩
theorem letters_any {A : Option Addr} {l : List Int} {cap m : Nat} (hm : m < 7) (w : World) (h : ISl w A l) (hlen : l.length ≤ 1000000) : Calls Tryz.prog 70 #[.slice A l.length cap, .int .i64 (m : Int)] w (BoolP (decide (allR m l)) w) := by
  have H := Lib.hid (confi_any (q := w.heap.size) (cap := cap) hm (w.alloc (.cells #[.int .i64 (m : Int)] 3)) (h.below (below_alloc _ _)) (by simp) hlen)
  generalize l.length = n at *
  clear h
  go_enter Tryz.func70, Tryz.ntmps70
  go_wp2_with fail
  refine (H.out).mono ?_
  rintro e w1 ⟨rfl, rfl⟩
  go_wp2
  go_ret
  exact ⟨rfl, below_alloc _ _⟩
end Go.Proofs.YtkddaobbjfnckaaGreatDoor
