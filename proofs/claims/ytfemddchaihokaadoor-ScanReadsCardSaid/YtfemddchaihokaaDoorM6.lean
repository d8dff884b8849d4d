/-
  A name and a number behind it; a number's digits.
-/
import Derived.Test.YtfemddchaihokaaDoorM4
namespace Go.Proofs.YtfemddchaihokaaDoor

theorem fold_pow (l : List UInt8) : ∀ n : Nat, foldV n l = n * 10 ^ l.length + foldV 0 l := by
  induction l with
  | nil => intro n; simp [foldV]
  | cons c l ih =>
    intro n
    rw [foldV_cons, foldV_cons, ih (n * 10 + (c.toNat - 48)), ih (0 * 10 + (c.toNat - 48)), List.length_cons, Nat.pow_succ, Nat.zero_mul, Nat.zero_add, Nat.add_mul, Nat.mul_assoc, Nat.mul_comm 10 (10 ^ l.length)]
    omega
theorem val_cons (c : UInt8) (l : List UInt8) : valOf (c :: l) = (c.toNat - 48) * 10 ^ l.length + valOf l := by
  rw [valOf_fold, foldV_cons, fold_pow, Nat.zero_mul, Nat.zero_add, valOf_fold]

/-- What the loop over a number's digits keeps. -/
def DigRel (n q : Nat) (d : List UInt8) : Prop := n = q * 10 ^ d.length + valOf d ∧ (∀ c ∈ d, digitB c = true) ∧ d.length ≤ 10 ∧ (d.length = 0 ∨ 1 ≤ q)
def digOf (q : Nat) : UInt8 := UInt8.ofNat (48 + q % 10)
theorem digOf_nat (q : Nat) : (digOf q).toNat = 48 + q % 10 := by
  unfold digOf
  rw [UInt8.toNat_ofNat']
  omega
theorem digOf_digit (q : Nat) : digitB (digOf q) = true := by
  simp only [digitB, Bool.and_eq_true, decide_eq_true_eq]
  rw [digOf_nat]
  omega
theorem dig_start (n : Nat) : DigRel n n [] := ⟨by simp [valOf], by simp, by simp, .inl rfl⟩
theorem dig_val {n q : Nat} {d : List UInt8} (h : DigRel n q d) : n = (q / 10) * 10 ^ (digOf q :: d).length + valOf (digOf q :: d) := by
  rw [val_cons, digOf_nat, List.length_cons, Nat.pow_succ]
  have e : q = 10 * (q / 10) + q % 10 := (Nat.div_add_mod q 10).symm
  have h1 := h.1
  generalize 10 ^ d.length = t at *
  rw [show 48 + q % 10 - 48 = q % 10 by omega]
  have h2 : q * t = (10 * (q / 10) + q % 10) * t := by rw [← e]
  rw [h1, h2, Nat.add_mul, Nat.mul_comm t 10, ← Nat.mul_assoc, Nat.mul_comm (q / 10) 10]
  omega
theorem dig_all {n q : Nat} {d : List UInt8} (h : DigRel n q d) : ∀ c ∈ digOf q :: d, digitB c = true := by
  intro c hc
  rcases List.mem_cons.1 hc with rfl | hc
  · exact digOf_digit q
  · exact h.2.1 c hc
theorem dig_len {n q : Nat} {d : List UInt8} (h : DigRel n q d) (hn : n < 4294967296) : d.length ≤ 9 := by
  rcases h.2.2.2 with h0 | h0
  · omega
  · apply Classical.byContradiction
    intro hx
    have h1 : 10 ^ 10 ≤ 10 ^ d.length := Nat.pow_le_pow_right (by omega) (by omega)
    have h2 : 1 * 10 ^ d.length ≤ q * 10 ^ d.length := Nat.mul_le_mul_right _ h0
    have := h.1
    have e : (10 : Nat) ^ 10 = 10000000000 := rfl
    omega
theorem dig_more {n q : Nat} {d : List UInt8} (h : DigRel n q d) (hn : n < 4294967296) (hq : 10 ≤ q) : DigRel n (q / 10) (digOf q :: d) :=
  ⟨dig_val h, dig_all h, by have := dig_len h hn; simp; omega, .inr (by omega)⟩
theorem dig_last {n q : Nat} {d : List UInt8} (h : DigRel n q d) (hn : n < 4294967296) (hq : q < 10) : valOf (digOf q :: d) = n ∧ (digOf q :: d).length ≤ 10 := by
  have h1 := dig_val h
  rw [show q / 10 = 0 by omega, Nat.zero_mul, Nat.zero_add] at h1
  have := dig_len h hn
  exact ⟨h1.symm, by simp; omega⟩

theorem name_toks (nm dg : List UInt8) (c : UInt8) (r : List UInt8) (hn : nm = c :: r) (hl : letterB c = true) (ha : ∀ x ∈ nm, nameB x = true) (h0 : dg ≠ []) (hd : ∀ x ∈ dg, digitB x = true) (hv : valOf dg < 9223372036854775808) :
    toks (nm ++ 32 :: dg) = .ok [⟨1, nm, 0⟩, ⟨2, dg, nm.length + 1⟩, ⟨0, [], nm.length + 1 + dg.length⟩] := by
  have hdl : digitB c = false := by
    simp only [letterB, Bool.or_eq_true, Bool.and_eq_true, decide_eq_true_eq, beq_iff_eq] at hl
    simp only [digitB, Bool.and_eq_false_iff, decide_eq_false_iff_not]
    omega
  have hw := while_all (p := nameB) (x := 32) (by decide) dg ha
  have hm1 : meas (nm ++ 32 :: dg) = (1, nm.length, 0) := by
    rw [hn, List.cons_append]
    simp only [meas]
    rw [if_neg (by simp [hdl]), if_pos hl]
    unfold cnt
    rw [← List.cons_append, ← hn, hw]
  have hne : nm ++ 32 :: dg ≠ [] := by simp
  have hb1 : blanks false (nm ++ 32 :: dg) = 0 := by
    rw [hn, List.cons_append] at hm1 ⊢
    obtain ⟨hb, hc⟩ := (show blankB c = false ∧ c.toNat ≠ 47 by
      simp only [letterB, Bool.or_eq_true, Bool.and_eq_true, decide_eq_true_eq, beq_iff_eq] at hl
      simp only [blankB, Bool.or_eq_false_iff, beq_eq_false_iff_ne]
      omega)
    rw [blanks, if_neg (by simp [hb]), if_neg (fun hx => hc hx.1)]
  cases dg with
  | nil => exact absurd rfl h0
  | cons a b =>
    have hda := hd a List.mem_cons_self
    have hwd : (a :: b).takeWhile digitB = a :: b := by
      have : ∀ l : List UInt8, (∀ x ∈ l, digitB x = true) → l.takeWhile digitB = l := by
        intro l
        induction l with
        | nil => intro _; rfl
        | cons y z ih => intro hy; rw [List.takeWhile_cons, if_pos (hy y List.mem_cons_self), ih (fun x hx => hy x (List.mem_cons_of_mem _ hx))]
      exact this _ hd
    have hm2 : meas (a :: b) = (2, (a :: b).length, 0) := by
      simp only [meas]
      rw [if_pos hda]
      unfold cnt
      rw [hwd, if_pos hv]
    have hb3 : blanks false (a :: b) = 0 := by
      have hx : blankB a = false ∧ a.toNat ≠ 47 := by
        simp only [digitB, Bool.and_eq_true, decide_eq_true_eq] at hda
        simp only [blankB, Bool.or_eq_false_iff, beq_eq_false_iff_ne]
        omega
      rw [blanks, if_neg (by simp [hx.1]), if_neg (fun h => hx.2 h.1)]
    have hb2 : blanks false (32 :: a :: b) = 1 := by
      simp only [blanks] at hb3 ⊢
      rw [if_pos (by decide), hb3]
    show scanR (nm ++ 32 :: a :: b) 0 = _
    rw [scanR_step, hb1, List.drop_zero, if_neg hne, hm1]
    simp only [if_true]
    rw [List.take_left, List.drop_left, scanR_step, hb2]
    rw [show (32 :: a :: b).drop 1 = a :: b from rfl, hm2, if_neg (by simp)]
    simp only [if_true]
    rw [List.take_length, List.drop_length, scanR_step]
    simp [blanks, onto, bareL]
end Go.Proofs.YtfemddchaihokaaDoor
