/-
  The document's own signs, one behind the other.
-/
import Derived.Test.YtfemddchaihokaaDoorR1
import Derived.Test.YtfemddchaihokaaDoorL5
namespace Go.Proofs.YtfemddchaihokaaDoor
open Go.RowKit

def SG : List (List UInt8) := [[45, 62], [60, 61], [62, 61], [33, 61], [61, 62], [46, 46], [91], [93], [40], [41], [58], [59], [44], [43], [45], [42], [38], [124], [33], [61], [60], [62], [63], [39]]
def SGV : Array Value := #[.string ⟨#[45, 62]⟩, .string ⟨#[60, 61]⟩, .string ⟨#[62, 61]⟩, .string ⟨#[33, 61]⟩, .string ⟨#[61, 62]⟩, .string ⟨#[46, 46]⟩, .string ⟨#[91]⟩, .string ⟨#[93]⟩, .string ⟨#[40]⟩, .string ⟨#[41]⟩, .string ⟨#[58]⟩, .string ⟨#[59]⟩, .string ⟨#[44]⟩, .string ⟨#[43]⟩, .string ⟨#[45]⟩, .string ⟨#[42]⟩, .string ⟨#[38]⟩, .string ⟨#[124]⟩, .string ⟨#[33]⟩, .string ⟨#[61]⟩, .string ⟨#[60]⟩, .string ⟨#[62]⟩, .string ⟨#[63]⟩, .string ⟨#[39]⟩]
theorem sg_cell (k : Nat) (hk : k < 24) : SGV[k]? = some (.string ⟨(SG.getD k []).toArray⟩) := by
  match k, hk with
  | 0, _ => rfl
  | 1, _ => rfl
  | 2, _ => rfl
  | 3, _ => rfl
  | 4, _ => rfl
  | 5, _ => rfl
  | 6, _ => rfl
  | 7, _ => rfl
  | 8, _ => rfl
  | 9, _ => rfl
  | 10, _ => rfl
  | 11, _ => rfl
  | 12, _ => rfl
  | 13, _ => rfl
  | 14, _ => rfl
  | 15, _ => rfl
  | 16, _ => rfl
  | 17, _ => rfl
  | 18, _ => rfl
  | 19, _ => rfl
  | 20, _ => rfl
  | 21, _ => rfl
  | 22, _ => rfl
  | 23, _ => rfl
  | n + 24, h => exact absurd h (by omega)
theorem sg_len (k : Nat) (hk : k < 24) : 1 ≤ (SG.getD k []).length ∧ (SG.getD k []).length ≤ 2 := by
  match k, hk with
  | 0, _ => exact ⟨by decide, by decide⟩
  | 1, _ => exact ⟨by decide, by decide⟩
  | 2, _ => exact ⟨by decide, by decide⟩
  | 3, _ => exact ⟨by decide, by decide⟩
  | 4, _ => exact ⟨by decide, by decide⟩
  | 5, _ => exact ⟨by decide, by decide⟩
  | 6, _ => exact ⟨by decide, by decide⟩
  | 7, _ => exact ⟨by decide, by decide⟩
  | 8, _ => exact ⟨by decide, by decide⟩
  | 9, _ => exact ⟨by decide, by decide⟩
  | 10, _ => exact ⟨by decide, by decide⟩
  | 11, _ => exact ⟨by decide, by decide⟩
  | 12, _ => exact ⟨by decide, by decide⟩
  | 13, _ => exact ⟨by decide, by decide⟩
  | 14, _ => exact ⟨by decide, by decide⟩
  | 15, _ => exact ⟨by decide, by decide⟩
  | 16, _ => exact ⟨by decide, by decide⟩
  | 17, _ => exact ⟨by decide, by decide⟩
  | 18, _ => exact ⟨by decide, by decide⟩
  | 19, _ => exact ⟨by decide, by decide⟩
  | 20, _ => exact ⟨by decide, by decide⟩
  | 21, _ => exact ⟨by decide, by decide⟩
  | 22, _ => exact ⟨by decide, by decide⟩
  | 23, _ => exact ⟨by decide, by decide⟩
  | n + 24, h => exact absurd h (by omega)

def hitB (r : List UInt8) (k : Nat) : Bool := r.take (SG.getD k []).length == SG.getD k []
theorem hit_two {r : List UInt8} {k : Nat} (hk : k < 6) (h : hitB r k = true) : twoB r = true := by
  rw [twoB_take]
  unfold hitB at h
  match k, hk with
  | 0, _ => simp only [SG, List.getD_cons_zero, List.length_cons, List.length_nil, Nat.zero_add, Nat.reduceAdd] at h; simp [h]
  | 1, _ => simp only [SG, List.getD_cons_zero, List.getD_cons_succ, List.length_cons, List.length_nil, Nat.zero_add, Nat.reduceAdd] at h; simp [h]
  | 2, _ => simp only [SG, List.getD_cons_zero, List.getD_cons_succ, List.length_cons, List.length_nil, Nat.zero_add, Nat.reduceAdd] at h; simp [h]
  | 3, _ => simp only [SG, List.getD_cons_zero, List.getD_cons_succ, List.length_cons, List.length_nil, Nat.zero_add, Nat.reduceAdd] at h; simp [h]
  | 4, _ => simp only [SG, List.getD_cons_zero, List.getD_cons_succ, List.length_cons, List.length_nil, Nat.zero_add, Nat.reduceAdd] at h; simp [h]
  | 5, _ => simp only [SG, List.getD_cons_zero, List.getD_cons_succ, List.length_cons, List.length_nil, Nat.zero_add, Nat.reduceAdd] at h; simp [h]
theorem no_two {r : List UInt8} (h : ∀ j, j < 6 → hitB r j = false) : twoB r = false := by
  rw [twoB_take]
  have h0 := h 0 (by omega)
  have h1 := h 1 (by omega)
  have h2 := h 2 (by omega)
  have h3 := h 3 (by omega)
  have h4 := h 4 (by omega)
  have h5 := h 5 (by omega)
  simp only [hitB, SG, List.getD_cons_zero, List.getD_cons_succ, List.length_cons, List.length_nil, Nat.zero_add, Nat.reduceAdd] at h0 h1 h2 h3 h4 h5
  rw [h0, h1, h2, h3, h4, h5]
  rfl
theorem hit_one {r : List UInt8} {k : Nat} (h6 : 6 ≤ k) (hk : k < 24) (h : hitB r k = true) : ∃ c r', r = c :: r' ∧ oneB c = true ∧ SG.getD k [] = [c] := by
  cases r with
  | nil =>
    unfold hitB at h
    have := sg_len k hk
    cases hs : SG.getD k [] with
    | nil => rw [hs] at this; simp at this
    | cons a b => rw [hs] at h; simp at h
  | cons c r' =>
    refine ⟨c, r', rfl, ?_⟩
    unfold hitB at h
    match k, h6, hk with
    | 6, _, _ => simp [SG] at h; subst h; exact ⟨by decide, rfl⟩
    | 7, _, _ => simp [SG] at h; subst h; exact ⟨by decide, rfl⟩
    | 8, _, _ => simp [SG] at h; subst h; exact ⟨by decide, rfl⟩
    | 9, _, _ => simp [SG] at h; subst h; exact ⟨by decide, rfl⟩
    | 10, _, _ => simp [SG] at h; subst h; exact ⟨by decide, rfl⟩
    | 11, _, _ => simp [SG] at h; subst h; exact ⟨by decide, rfl⟩
    | 12, _, _ => simp [SG] at h; subst h; exact ⟨by decide, rfl⟩
    | 13, _, _ => simp [SG] at h; subst h; exact ⟨by decide, rfl⟩
    | 14, _, _ => simp [SG] at h; subst h; exact ⟨by decide, rfl⟩
    | 15, _, _ => simp [SG] at h; subst h; exact ⟨by decide, rfl⟩
    | 16, _, _ => simp [SG] at h; subst h; exact ⟨by decide, rfl⟩
    | 17, _, _ => simp [SG] at h; subst h; exact ⟨by decide, rfl⟩
    | 18, _, _ => simp [SG] at h; subst h; exact ⟨by decide, rfl⟩
    | 19, _, _ => simp [SG] at h; subst h; exact ⟨by decide, rfl⟩
    | 20, _, _ => simp [SG] at h; subst h; exact ⟨by decide, rfl⟩
    | 21, _, _ => simp [SG] at h; subst h; exact ⟨by decide, rfl⟩
    | 22, _, _ => simp [SG] at h; subst h; exact ⟨by decide, rfl⟩
    | 23, _, _ => simp [SG] at h; subst h; exact ⟨by decide, rfl⟩
    | n + 24, _, h => exact absurd h (by omega)
theorem no_one {r : List UInt8} {c : UInt8} (h : ∀ j, 6 ≤ j → j < 24 → hitB (c :: r) j = false) : oneB c = false := by
  cases ho : oneB c with
  | false => rfl
  | true =>
    simp only [oneB, List.contains_iff_mem, List.mem_cons, List.not_mem_nil, or_false] at ho
    rcases ho with h0 | h0 | h0 | h0 | h0 | h0 | h0 | h0 | h0 | h0 | h0 | h0 | h0 | h0 | h0 | h0 | h0 | h0
    · have e : c = 91 := UInt8.toNat_inj.1 h0
      subst e
      have := h 6 (by omega) (by omega)
      simp [hitB, SG] at this
    · have e : c = 93 := UInt8.toNat_inj.1 h0
      subst e
      have := h 7 (by omega) (by omega)
      simp [hitB, SG] at this
    · have e : c = 40 := UInt8.toNat_inj.1 h0
      subst e
      have := h 8 (by omega) (by omega)
      simp [hitB, SG] at this
    · have e : c = 41 := UInt8.toNat_inj.1 h0
      subst e
      have := h 9 (by omega) (by omega)
      simp [hitB, SG] at this
    · have e : c = 58 := UInt8.toNat_inj.1 h0
      subst e
      have := h 10 (by omega) (by omega)
      simp [hitB, SG] at this
    · have e : c = 59 := UInt8.toNat_inj.1 h0
      subst e
      have := h 11 (by omega) (by omega)
      simp [hitB, SG] at this
    · have e : c = 44 := UInt8.toNat_inj.1 h0
      subst e
      have := h 12 (by omega) (by omega)
      simp [hitB, SG] at this
    · have e : c = 43 := UInt8.toNat_inj.1 h0
      subst e
      have := h 13 (by omega) (by omega)
      simp [hitB, SG] at this
    · have e : c = 45 := UInt8.toNat_inj.1 h0
      subst e
      have := h 14 (by omega) (by omega)
      simp [hitB, SG] at this
    · have e : c = 42 := UInt8.toNat_inj.1 h0
      subst e
      have := h 15 (by omega) (by omega)
      simp [hitB, SG] at this
    · have e : c = 38 := UInt8.toNat_inj.1 h0
      subst e
      have := h 16 (by omega) (by omega)
      simp [hitB, SG] at this
    · have e : c = 124 := UInt8.toNat_inj.1 h0
      subst e
      have := h 17 (by omega) (by omega)
      simp [hitB, SG] at this
    · have e : c = 33 := UInt8.toNat_inj.1 h0
      subst e
      have := h 18 (by omega) (by omega)
      simp [hitB, SG] at this
    · have e : c = 61 := UInt8.toNat_inj.1 h0
      subst e
      have := h 19 (by omega) (by omega)
      simp [hitB, SG] at this
    · have e : c = 60 := UInt8.toNat_inj.1 h0
      subst e
      have := h 20 (by omega) (by omega)
      simp [hitB, SG] at this
    · have e : c = 62 := UInt8.toNat_inj.1 h0
      subst e
      have := h 21 (by omega) (by omega)
      simp [hitB, SG] at this
    · have e : c = 63 := UInt8.toNat_inj.1 h0
      subst e
      have := h 22 (by omega) (by omega)
      simp [hitB, SG] at this
    · have e : c = 39 := UInt8.toNat_inj.1 h0
      subst e
      have := h 23 (by omega) (by omega)
      simp [hitB, SG] at this
theorem sg_hit {r : List UInt8} {k : Nat} (hk : k < 24) (h : hitB r k = true) (hno : ∀ j, j < k → hitB r j = false) : signN r = (SG.getD k []).length ∧ r.take (signN r) = SG.getD k [] := by
  have ht : r.take (SG.getD k []).length = SG.getD k [] := by unfold hitB at h; simpa using h
  by_cases h6 : k < 6
  · have h2 := hit_two h6 h
    have hl : (SG.getD k []).length = 2 := by
      match k, h6 with
      | 0, _ => rfl
      | 1, _ => rfl
      | 2, _ => rfl
      | 3, _ => rfl
      | 4, _ => rfl
      | 5, _ => rfl
    have e : signN r = 2 := by
      cases r with
      | nil => cases h2
      | cons c r' => simp [signN, h2]
    rw [e]
    rw [hl] at ht
    exact ⟨hl.symm, ht⟩
  · obtain ⟨c, r', rfl, ho, hs⟩ := hit_one (by omega) hk h
    have h2 := no_two (r := c :: r') (fun j hj => hno j (by omega))
    have e : signN (c :: r') = 1 := by simp [signN, h2, ho]
    rw [e, hs]
    exact ⟨rfl, rfl⟩
theorem sg_miss {r : List UInt8} (hno : ∀ j, j < 24 → hitB r j = false) : signN r = 0 := by
  cases r with
  | nil => rfl
  | cons c r' =>
    have h2 := no_two (r := c :: r') (fun j hj => hno j (by omega))
    have h1 := no_one (r := r') (c := c) (fun j _ hj => hno j hj)
    simp [signN, h2, h1]
end Go.Proofs.YtfemddchaihokaaDoor
