/-
  The document's Letters, walked.
-/
import Derived.Test.YtkgjpimapfmeoaaDoorMc
import Derived.Test.YtkgjpimapfmeoaaDoorM8
namespace Go.Proofs.YtkgjpimapfmeoaaDoor
open Go.RowKit

/-- What is added to a state's letter for a label that stands at place a. -/
def accR (pw : Int) (a : Nat) : List Int → Int
  | [] => 0
  | i :: r => (if i = (a : Int) then pw else 0) + accR pw a r
theorem accR_snoc (pw : Int) (a : Nat) (i : Int) : ∀ l : List Int, accR pw a (l ++ [i]) = accR pw a l + (if i = (a : Int) then pw else 0)
  | [] => by simp [accR]
  | b :: l => by
    rw [List.cons_append, accR, accR, accR_snoc pw a i l]
    omega
theorem accR_bd (pw : Int) (a : Nat) (h : 0 ≤ pw) (h2 : pw ≤ 64) : ∀ l : List Int, 0 ≤ accR pw a l ∧ accR pw a l ≤ 64 * l.length
  | [] => by simp [accR]
  | b :: l => by
    have h1 := accR_bd pw a h h2 l
    rw [accR, List.length_cons]
    push_cast
    split <;> omega
theorem sO_more (ats : List Nat) (a : Nat) : ∀ l : List Int, (∀ i ∈ l, 0 ≤ i) → sO (ats ++ [a]) l = sO ats l + accR ((2 : Int) ^ ats.length) a l
  | [], _ => by simp [sO, accR]
  | b :: l, h => by
    have hb := h b (by simp)
    obtain ⟨c, rfl⟩ := Int.eq_ofNat_of_zero_le hb
    rw [sO, sO, accR, sO_more ats a l (fun i hi => h i (by simp [hi])), vO_snoc, Int.one_mul]
    rw [show ((c : Nat) : Int).toNat = c from rfl]
    by_cases e : a = c
    · subst e; simp; omega
    · rw [if_neg e, if_neg (by omega)]; omega
theorem pos_uniq {l : List ByteArray} (hn : l.Nodup) {i : Nat} (hi : i < l.length) : posO l l[i] = i := by
  have h1 := posO_lt (List.getElem_mem hi)
  have h2 := posO_get (List.getElem_mem hi)
  rw [List.nodup_iff_pairwise_ne, List.pairwise_iff_getElem] at hn
  rcases Nat.lt_trichotomy (posO l l[i]) i with h | h | h
  · exact absurd h2 (hn _ _ h1 hi h)
  · exact h
  · exact absurd h2.symm (hn _ _ hi h1 h)
/-- What the document's Letters tells. -/
def RlP (p : PrO) (labels : List ByteArray) (w : World) (e : Ending) (w' : World) : Prop :=
  ∃ A cap, e = .returned (.tuple #[.slice A (letO p labels).length cap, .int .i64 ((letE p labels : Nat) : Int)]) ∧ ISl w' A (letO p labels) ∧ Below w.heap.size w w'
theorem rlP_bad {p : PrO} {labels : List ByteArray} {w w' : World} {n : Nat} (he : letE p labels = n) (h0 : n ≠ 0) (hb : Below w.heap.size w w') : RlP p labels w (.returned (.tuple #[.slice none 0 0, .int .i64 (n : Int)])) w' := by
  have h1 : letO p labels = [] := by rw [letO, if_neg (by rw [he]; exact h0)]
  refine ⟨none, 0, ?_, by rw [h1]; exact ISl.nil, hb⟩
  rw [h1, he]
  rfl
theorem rlP_good {p : PrO} {labels : List ByteArray} {w w' : World} {q N : Nat} (he : letE p labels = 0) (hN : N = p.hds.length) (hv : Vals w' q N (fun s => sO (atsO p.nms labels) (p.hds.getD s []))) (hb : Below w.heap.size w w') : RlP p labels w (.returned (.tuple #[.slice (some ⟨q, 0, none⟩) N N, .int .i64 0])) w' := by
  obtain ⟨A, cap, h1, h2, h3⟩ := ltP_good he hN hv hb
  refine ⟨A, cap, ?_, h2, h3⟩
  rw [he] at h1 ⊢
  simp only [Ending.returned.injEq, Value.tuple.injEq] at h1 ⊢
  have h4 : Value.slice (some ⟨q, 0, none⟩) N N = .slice A (letO p labels).length cap := by
    have := congrArg (fun a : Array Value => a[0]?) h1
    simpa using this
  rw [h4]
  rfl
/-- The letters while the k-th label is put in: states ahead of s are done, of s the first i places. -/
def accL (ats : List Nat) (a : Nat) (hds : List (List Int)) (s i r : Nat) : Int :=
  if r < s then sO (ats ++ [a]) (hds.getD r []) else if r = s then sO ats (hds.getD r []) + accR ((2 : Int) ^ ats.length) a ((hds.getD r []).take i) else sO ats (hds.getD r [])
theorem accL_zero {ats : List Nat} {a : Nat} {hds : List (List Int)} (r : Nat) : accL ats a hds 0 0 r = sO ats (hds.getD r []) := by
  unfold accL
  rw [if_neg (by omega)]
  split
  · simp [accR]
  · rfl
theorem accL_end {ats : List Nat} {a : Nat} {hds : List (List Int)} {s L : Nat} (hL : L = (hds.getD s []).length) (h0 : ∀ i ∈ hds.getD s [], 0 ≤ i) (r : Nat) : accL ats a hds (s + 1) 0 r = accL ats a hds s L r := by
  unfold accL
  by_cases h1 : r < s
  · rw [if_pos h1, if_pos (by omega)]
  · rw [if_neg h1]
    by_cases h2 : r = s
    · subst h2
      rw [if_pos rfl, if_pos (by omega), List.take_of_length_le (by omega), sO_more _ _ _ h0]
    · rw [if_neg h2, if_neg (by omega)]
      split
      · simp [accR]
      · rfl
theorem accL_all {ats : List Nat} {a : Nat} {hds : List (List Int)} {n r : Nat} (h : r < n) : accL ats a hds n 0 r = sO (ats ++ [a]) (hds.getD r []) := if_pos h
theorem accL_step {ats : List Nat} {a : Nat} {hds : List (List Int)} {s i : Nat} {h : List Int} (hh : hds.getD s [] = h) (hi : i < h.length) (r : Nat) :
    accL ats a hds s (i + 1) r = if s = r then (sO ats h + accR ((2 : Int) ^ ats.length) a (h.take i)) + (if h[i] = (a : Int) then (2 : Int) ^ ats.length else 0) else accL ats a hds s i r := by
  unfold accL
  by_cases h1 : s = r
  · subst h1
    rw [if_neg (by omega), if_pos rfl, if_pos rfl, hh, take_snoc hi, accR_snoc]
    omega
  · rw [if_neg h1]
    by_cases h2 : r < s
    · rw [if_pos h2, if_pos h2]
    · rw [if_neg h2, if_neg h2, if_neg (by omega), if_neg (by omega)]
open Classical in
theorem atsO_snoc {nms labels : List ByteArray} {k : Nat} (hk : k < labels.length) : atsO nms (labels.take (k + 1)) = atsO nms (labels.take k) ++ [posO nms labels[k]] := by
  rw [take_snoc hk, atsO, List.map_append]; rfl
theorem atsO_len {nms labels : List ByteArray} {k : Nat} (hk : k ≤ labels.length) : (atsO nms (labels.take k)).length = k := by
  rw [atsO, List.length_map, List.length_take]; omega
def WL (p : PrO) (labels : List ByteArray) (q : Nat) (W : World) (pw k : Value) (wr : World) : Prop :=
  ∃ j : Nat, k = .int .i64 (j : Int) ∧ pw = .int .i64 ((2 : Int) ^ j) ∧ j ≤ labels.length ∧ (∀ x ∈ labels.take j, x ∈ p.nms) ∧ Vals wr q p.chs.length (fun s => sO (atsO p.nms (labels.take j)) (p.hds.getD s [])) ∧ Below W.heap.size W wr
open Classical in
def WA (nms : List ByteArray) (x : ByteArray) (W : World) (a i : Value) (wr : World) : Prop :=
  ∃ j : Nat, i = .int .i64 (j : Int) ∧ j ≤ nms.length ∧ a = .int .i64 (if x ∈ nms.take j then ((posO nms x : Nat) : Int) else -1) ∧ Below W.heap.size W wr
def WS (ats : List Nat) (a : Nat) (hds : List (List Int)) (q n b : Nat) (cs : List Value) (W : World) (i : Value) (wr : World) : Prop :=
  ∃ s : Nat, i = .int .i64 (s : Int) ∧ s ≤ n ∧ Vals wr q n (accL ats a hds s 0) ∧ Bx wr b 26 cs ∧ Below W.heap.size W wr
def WI (ats : List Nat) (a : Nat) (hds : List (List Int)) (q n b s L : Nat) (cs : List Value) (W : World) (i : Value) (wr : World) : Prop :=
  ∃ j : Nat, i = .int .i64 (j : Int) ∧ j ≤ L ∧ Vals wr q n (accL ats a hds s j) ∧ Bx wr b 26 cs ∧ Below W.heap.size W wr
theorem pow_succ_wrap {k : Nat} (h : k ≤ 5) : wrap64 (2 * (2 : Int) ^ k) = (2 : Int) ^ (k + 1) := by
  match k, h with
  | 0, _ | 1, _ | 2, _ | 3, _ | 4, _ | 5, _ => decide +kernel
end Go.Proofs.YtkgjpimapfmeoaaDoor
