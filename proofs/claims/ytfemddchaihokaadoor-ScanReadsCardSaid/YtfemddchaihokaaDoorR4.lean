/-
  The document's own Tokens: what its rounds keep.
-/
import Derived.Test.YtfemddchaihokaaDoorR3
namespace Go.Proofs.YtfemddchaihokaaDoor
open Go.RowKit

theorem infoR : (Tryd.prog.info? 33).map (fun i => (i.zero, i.size, i.bytes)) = some (some (.agg #[.int .i64 0, .string ⟨#[]⟩, .int .i64 0]), 3, 32) := by kernel_rfl

def RefRel (l : List UInt8) (w0 : World) (v i : Value) (wr : World) : Prop :=
  ∃ (acc : List Tok) (k : Nat), i = .int .i64 (k : Int) ∧ k ≤ l.length ∧ toks l = onto acc (scanG l k) ∧ acc.length ≤ k ∧ wr.ownsRow w0.heap.size 33 3 v acc.length (cellsT acc) ∧ Below w0.heap.size w0 wr
/-- What the document tells of a text. -/
def RefP (r : Res) (w : World) (e : Ending) (w' : World) : Prop :=
  (∃ ts v, r = .ok ts ∧ e = .returned (.tuple #[v, .int .i64 0, .int .i64 (-1)]) ∧ 0 < ts.length ∧ ts.length ≤ 65537 ∧ w'.ownsRow w.heap.size 33 3 v ts.length (cellsT ts) ∧ Below w.heap.size w w') ∨
  (∃ x p : Nat, r = .error (x, p) ∧ e = .returned (.tuple #[.slice none 0 0, .int .i64 x, .int .i64 p]) ∧ x ≠ 0 ∧ Below w.heap.size w w')

theorem ref_blank {l : List UInt8} {acc : List Tok} {k : Nat} (hk : k < l.length) (hb : blankB l[k] = true) (ht : toks l = onto acc (scanG l k)) : toks l = onto acc (scanG l (k + 1)) := by
  rw [ht, scanG_skip (b := 1) (by omega) (blanks_one hk hb)]
theorem ref_line {l : List UInt8} {acc : List Tok} {k : Nat} (hk : k + 1 < l.length) (h1 : l[k].toNat = 47) (h2 : l[k + 1].toNat = 47) (ht : toks l = onto acc (scanG l k)) : toks l = onto acc (scanG l (k + cnt commB (l.drop k))) := by
  have := cnt_le commB (l.drop k)
  rw [List.length_drop] at this
  rw [ht, scanG_skip (by omega) (blanks_line hk h1 h2)]
theorem ref_er {l : List UInt8} {acc : List Tok} {k : Nat} (hk : k < l.length) (hb : blanks false (l.drop k) = 0) (ht : toks l = onto acc (scanG l k)) {kd n x : Nat} (hm : meas (l.drop k) = (kd, n, x)) (hx : x ≠ 0) : toks l = .error (x, k) := by
  have h := tok_er hk hb ht (by rw [hm]; exact hx)
  rw [hm] at h
  exact h
theorem ref_on {l : List UInt8} {acc : List Tok} {k : Nat} (hk : k < l.length) (hb : blanks false (l.drop k) = 0) (ht : toks l = onto acc (scanG l k)) {kd n : Nat} (hm : meas (l.drop k) = (kd, n, 0)) :
    toks l = onto (acc ++ [⟨kd, bareL kd ((l.drop k).take n), k⟩]) (scanG l (k + n)) := by
  rw [ht, scanG_at (by omega) hb, tokG, if_neg (drop_ne hk), hm, if_pos rfl, onto_onto]
theorem meas_digit {l : List UInt8} {k : Nat} (hk : k < l.length) (h : digitB l[k] = true) : meas (l.drop k) = (2, cnt digitB (l.drop k), if valOf ((l.drop k).takeWhile digitB) < 9223372036854775808 then 0 else 10) := by
  rw [drop_cons l k hk]; simp only [meas]; rw [if_pos h]
theorem meas_letter {l : List UInt8} {k : Nat} (hk : k < l.length) (hd : digitB l[k] = false) (h : letterB l[k] = true) : meas (l.drop k) = (1, cnt nameB (l.drop k), 0) := by
  rw [drop_cons l k hk]; simp only [meas]; rw [if_neg (by simp [hd]), if_pos h]
theorem meas_quote {l : List UInt8} {k : Nat} (hk : k < l.length) (h : quoteB l[k] = true) : meas (l.drop k) = (3, labN (l.drop (k + 1)), if labN (l.drop (k + 1)) = 0 then 20 else 0) := by
  obtain ⟨hd, hl⟩ := quote_digit h
  rw [drop_cons l k hk]; simp only [meas]; rw [if_neg (by simp [hd]), if_neg (by simp [hl]), if_pos h]
theorem meas_sign {l : List UInt8} {k : Nat} (hk : k < l.length) (hd : digitB l[k] = false) (hl : letterB l[k] = false) (h : quoteB l[k] = false) : meas (l.drop k) = (4, signN (l.drop k), if signN (l.drop k) = 0 then 20 else 0) := by
  rw [drop_cons l k hk]; simp only [meas]; rw [if_neg (by simp [hd]), if_neg (by simp [hl]), if_neg (by simp [h])]
theorem letter_digit {c : UInt8} (h : letterB c = true) : digitB c = false := by
  simp only [letterB, Bool.or_eq_true, Bool.and_eq_true, decide_eq_true_eq, beq_iff_eq] at h
  simp only [digitB, Bool.and_eq_false_iff, decide_eq_false_iff_not]
  omega
theorem cntd_at {p : UInt8 → Bool} {l : List UInt8} {k m : Nat} (hk : m < l.length) (hkm : k ≤ m) (hb : m - k ≤ cnt p (l.drop k)) (h : p l[m] = true) : m + 1 - k ≤ cnt p (l.drop k) := by
  have := cnt_at (p := p) (l := l.drop k) (k := m - k) (by rw [List.length_drop]; omega) hb (by rw [List.getElem_drop]; simpa [Nat.add_sub_cancel' hkm] using h)
  omega
theorem cntd_stop {p : UInt8 → Bool} {l : List UInt8} {k m : Nat} (hk : m < l.length) (hkm : k ≤ m) (hb : m - k ≤ cnt p (l.drop k)) (h : p l[m] = false) : m = k + cnt p (l.drop k) := by
  have := cnt_stop (p := p) (l := l.drop k) (k := m - k) (by rw [List.length_drop]; omega) hb (by rw [List.getElem_drop]; simpa [Nat.add_sub_cancel' hkm] using h)
  omega
theorem cntd_end {p : UInt8 → Bool} {l : List UInt8} {k m : Nat} (hk : l.length ≤ m) (hkm : k ≤ m) (hml : m ≤ l.length) (hb : m - k ≤ cnt p (l.drop k)) : m = k + cnt p (l.drop k) := by
  have := cnt_le p (l.drop k)
  rw [List.length_drop] at this
  omega
theorem piece {s : ByteArray} {a b : Nat} : Value.string (s.extract a b) = .string ⟨((s.data.toList.drop a).take (b - a)).toArray⟩ := by
  rw [← ext_list]
end Go.Proofs.YtfemddchaihokaaDoor
