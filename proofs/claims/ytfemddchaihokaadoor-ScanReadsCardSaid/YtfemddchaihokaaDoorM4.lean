/-
  What the tokens of a text are: they rise, and don't overlap; the bytes of each are its text; blanks between change nothing.
-/
import Derived.Test.YtfemddchaihokaaDoorM3
import Derived.Test.YtfemddchaihokaaDoorM2
namespace Go.Proofs.YtfemddchaihokaaDoor

theorem er_pos : ∀ (n : Nat) (r : List UInt8) (p x q : Nat), r.length ≤ n → scanR r p = .error (x, q) → q ≤ p + r.length
  | n, r, p, x, q, hn, h => by
    have hb := blanks_le false r
    rw [scanR_step] at h
    by_cases h0 : r.drop (blanks false r) = []
    · rw [if_pos h0] at h; cases h
    · rw [if_neg h0] at h
      by_cases h1 : (meas (r.drop (blanks false r))).2.2 = 0
      · rw [if_pos h1] at h
        have hp := meas_pos _ h0 h1
        have hm := meas_le (r.drop (blanks false r))
        have hl : 0 < (r.drop (blanks false r)).length := List.length_pos_iff.2 h0
        rw [List.length_drop] at hl hm
        cases hr : scanR ((r.drop (blanks false r)).drop (meas (r.drop (blanks false r))).2.1) (p + blanks false r + (meas (r.drop (blanks false r))).2.1) with
        | ok us => rw [hr] at h; cases h
        | error y =>
          rw [hr] at h
          obtain rfl : y = (x, q) := Res.error.inj h
          cases n with
          | zero => omega
          | succ n =>
            have ih := er_pos n _ _ x q (by simp only [List.length_drop]; omega) hr
            simp only [List.length_drop] at ih
            omega
      · rw [if_neg h1] at h
        injection h with h
        injection h with _ h
        omega
theorem toks_pos {l : List UInt8} {x q : Nat} (h : toks l = .error (x, q)) : q ≤ l.length := by
  have := er_pos l.length l 0 x q (Nat.le_refl _) h
  omega

/-- The bytes of a token. -/
def full (t : Tok) : List UInt8 := if t.kind = 3 then 34 :: t.text ++ [34] else t.text
/-- What the tokens of a text are, from a place on. -/
def Good (l : List UInt8) : Nat → List Tok → Prop
  | _, [] => False
  | i, [t] => t.kind = 0 ∧ t.text = [] ∧ i ≤ t.pos ∧ t.pos = l.length
  | i, t :: u :: us => i ≤ t.pos ∧ t.pos < l.length ∧ (∃ n, meas (l.drop t.pos) = (t.kind, n, 0) ∧ t.text = bareL t.kind ((l.drop t.pos).take n) ∧ Good l (t.pos + n) (u :: us)) ∧ blanks false (l.drop t.pos) = 0

theorem good_of (l : List UInt8) : ∀ (n : Nat) (r : List UInt8) (p : Nat) (ts : List Tok), r.length ≤ n → l.drop p = r → p ≤ l.length → scanR r p = .ok ts → Good l p ts
  | n, r, p, ts, hn, hr, hpl, h => by
    have hb := blanks_le false r
    have hrl : r.length = l.length - p := by rw [← hr, List.length_drop]
    rw [scanR_step] at h
    by_cases h0 : r.drop (blanks false r) = []
    · rw [if_pos h0] at h
      obtain rfl := Res.ok.inj h
      exact ⟨rfl, rfl, by simp only; omega, by simp only; omega⟩
    · rw [if_neg h0] at h
      by_cases h1 : (meas (r.drop (blanks false r))).2.2 = 0
      · rw [if_pos h1] at h
        have hp := meas_pos _ h0 h1
        have hm := meas_le (r.drop (blanks false r))
        have hl : 0 < (r.drop (blanks false r)).length := List.length_pos_iff.2 h0
        rw [List.length_drop] at hl hm
        have hdr : r.drop (blanks false r) = l.drop (p + blanks false r) := by rw [← hr, List.drop_drop]
        cases hs : scanR ((r.drop (blanks false r)).drop (meas (r.drop (blanks false r))).2.1) (p + blanks false r + (meas (r.drop (blanks false r))).2.1) with
        | error y => rw [hs] at h; cases h
        | ok us =>
          rw [hs] at h
          obtain rfl := Res.ok.inj h
          cases n with
          | zero => omega
          | succ n =>
            have ih := good_of l n _ _ us (by simp only [List.length_drop]; omega) (by rw [hdr, List.drop_drop]) (by omega) hs
            cases us with
            | nil => exact absurd ih (by simp [Good])
            | cons u us =>
              refine ⟨by simp only; omega, by simp only; omega, ⟨(meas (r.drop (blanks false r))).2.1, ?_, ?_, ih⟩, ?_⟩
              · show meas (l.drop (p + blanks false r)) = _
                rw [← hdr]
                rw [← h1]
              · show bareL _ _ = bareL _ ((l.drop (p + blanks false r)).take _)
                rw [← hdr]
              · show blanks false (l.drop (p + blanks false r)) = 0
                rw [← hdr]
                exact blanks_behind false r
      · rw [if_neg h1] at h; cases h
theorem good_toks {l : List UInt8} {ts : List Tok} (h : toks l = .ok ts) : Good l 0 ts := good_of l l.length l 0 ts (Nat.le_refl _) rfl (Nat.zero_le _) h

/-- The kinds that there are. -/
theorem meas_kinds {r : List UInt8} {k n : Nat} (h0 : r ≠ []) (h : meas r = (k, n, 0)) : (k = 1 ∨ k = 2 ∨ k = 3 ∨ k = 4) ∧ 0 < n ∧ n ≤ r.length := by
  have hp := meas_pos r h0 (by rw [h])
  have hl := meas_le r
  rw [h] at hp hl
  refine ⟨?_, hp, hl⟩
  cases r with
  | nil => exact absurd rfl h0
  | cons c r =>
    simp only [meas] at h
    split at h
    · injection h with h _; omega
    · split at h
      · injection h with h _; omega
      · split at h
        · injection h with h _; omega
        · injection h with h _; omega

/-- A label with both of its signs. -/
theorem full_of {r : List UInt8} {k n : Nat} (h0 : r ≠ []) (h : meas r = (k, n, 0)) (p : Nat) : full ⟨k, bareL k (r.take n), p⟩ = r.take n := by
  unfold full
  by_cases h3 : k = 3
  · subst h3
    simp only [if_true]
    cases r with
    | nil => exact absurd rfl h0
    | cons c r =>
      simp only [meas] at h
      split at h
      · injection h with h _; cases h
      · split at h
        · injection h with h _; cases h
        · split at h
          · rename_i hd hl hq
            injection h with _ h
            injection h with hn he
            split at he
            · cases he
            · rename_i hz
              have hc : c = 34 := by
                have : c.toNat = 34 := by simpa [quoteB] using hq
                exact UInt8.toNat_inj.1 this
              subst hc
              unfold labN at hn hz
              split at hz
              · exact absurd rfl hz
              · rename_i hno
                rw [if_neg hno] at hn
                have hg : (r[cnt labelB r]?).map (·.toNat) = some 34 := by
                  apply Classical.byContradiction
                  intro hx
                  exact hno (.inr (.inr hx))
                have hlt : cnt labelB r < r.length := by
                  apply Classical.byContradiction
                  intro hx
                  rw [List.getElem?_eq_none (by omega)] at hg
                  simp at hg
                rw [List.getElem?_eq_getElem hlt] at hg
                have hg2 : r[cnt labelB r] = 34 := UInt8.toNat_inj.1 (by simpa using hg)
                have ht : (34 :: r).take n = 34 :: (r.take (cnt labelB r) ++ [34]) := by
                  rw [← hn, show cnt labelB r + 2 = (cnt labelB r + 1) + 1 by omega, List.take_succ_cons, List.take_succ_eq_append_getElem hlt, hg2]
                rw [ht]
                unfold bareL
                rw [if_pos rfl, List.drop_succ_cons, List.drop_zero]
                have hlen : (34 :: (r.take (cnt labelB r) ++ [34])).length - 2 = (r.take (cnt labelB r)).length := by simp
                rw [hlen, List.take_left]
                rfl
          · injection h with h _; cases h
  · rw [if_neg h3]
    unfold bareL
    rw [if_neg h3]

theorem while_all {p : UInt8 → Bool} {x : UInt8} (hx : p x = false) (t : List UInt8) {l : List UInt8} (h : ∀ c ∈ l, p c = true) : (l ++ x :: t).takeWhile p = l := by
  rw [while_app hx]
  induction l with
  | nil => rfl
  | cons c r ih =>
    rw [List.takeWhile_cons, if_pos (h c List.mem_cons_self), ih (fun d hd => h d (List.mem_cons_of_mem _ hd))]
theorem all_while (p : UInt8 → Bool) (l : List UInt8) : ∀ c ∈ l.takeWhile p, p c = true := by
  intro c hc
  induction l with
  | nil => simp at hc
  | cons d r ih =>
    by_cases h : p d = true
    · rw [List.takeWhile_cons, if_pos h] at hc
      rcases List.mem_cons.1 hc with rfl | hc
      · exact h
      · exact ih hc
    · rw [List.takeWhile_cons, if_neg h] at hc
      simp at hc
/-- A token and a blank behind it: the same token. -/
theorem re_meas {r : List UInt8} {k n : Nat} (h0 : r ≠ []) (h : meas r = (k, n, 0)) (t : List UInt8) : meas (r.take n ++ 32 :: t) = (k, n, 0) := by
  cases r with
  | nil => exact absurd rfl h0
  | cons c r =>
    by_cases hd : digitB c = true
    · have hm : meas (c :: r) = (2, cnt digitB (c :: r), if valOf ((c :: r).takeWhile digitB) < 9223372036854775808 then 0 else 10) := by simp only [meas]; rw [if_pos hd]
      rw [hm] at h
      injection h with h1 h2
      injection h2 with h2 h3
      subst h1 h2
      rw [take_cnt]
      have hw := while_all (p := digitB) (x := 32) (by decide) t (all_while digitB (c :: r))
      have hc : ((c :: r).takeWhile digitB) = c :: r.takeWhile digitB := by rw [List.takeWhile_cons, if_pos hd]
      rw [hc, List.cons_append] at hw
      rw [hc, List.cons_append]
      simp only [meas]
      rw [if_pos hd]
      unfold cnt
      rw [hw]
      rw [hc] at h3
      rw [h3, hc]
    · by_cases hl : letterB c = true
      · have hm : meas (c :: r) = (1, cnt nameB (c :: r), 0) := by simp only [meas]; rw [if_neg hd, if_pos hl]
        rw [hm] at h
        injection h with h1 h2
        injection h2 with h2 h3
        subst h1 h2
        rw [take_cnt]
        have hn : nameB c = true := by simp [nameB, hl]
        have hw := while_all (p := nameB) (x := 32) (by decide) t (all_while nameB (c :: r))
        have hc : ((c :: r).takeWhile nameB) = c :: r.takeWhile nameB := by rw [List.takeWhile_cons, if_pos hn]
        rw [hc, List.cons_append] at hw
        rw [hc, List.cons_append]
        simp only [meas]
        rw [if_neg hd, if_pos hl]
        unfold cnt
        rw [hw, hc]
      · by_cases hq : quoteB c = true
        · have hfull := full_of h0 h 0
          have hm : meas (c :: r) = (3, labN r, if labN r = 0 then 20 else 0) := by simp only [meas]; rw [if_neg hd, if_neg hl, if_pos hq]
          rw [hm] at h
          injection h with h1 h2
          injection h2 with h2 h3
          subst h1 h2
          have hz : labN r ≠ 0 := by intro hz; rw [if_pos hz] at h3; cases h3
          have hln : labN r = cnt labelB r + 2 := by
            unfold labN at hz ⊢
            split at hz
            · exact absurd rfl hz
            · rename_i hno; rw [if_neg hno]
          have hno : ¬ (cnt labelB r = 0 ∨ 32 < cnt labelB r ∨ (r[cnt labelB r]?).map (·.toNat) ≠ some 34) := by
            intro hx
            unfold labN at hz
            rw [if_pos hx] at hz
            exact hz rfl
          have hg : (r[cnt labelB r]?).map (·.toNat) = some 34 := by
            apply Classical.byContradiction
            intro hx
            exact hno (.inr (.inr hx))
          have hlt : cnt labelB r < r.length := by
            apply Classical.byContradiction
            intro hx
            rw [List.getElem?_eq_none (by omega)] at hg
            simp at hg
          rw [List.getElem?_eq_getElem hlt] at hg
          have hg2 : r[cnt labelB r] = 34 := UInt8.toNat_inj.1 (by simpa using hg)
          have ht : (c :: r).take (labN r) = c :: (r.takeWhile labelB ++ [34]) := by
            rw [hln, show cnt labelB r + 2 = (cnt labelB r + 1) + 1 by omega, List.take_succ_cons, List.take_succ_eq_append_getElem hlt, hg2, take_cnt]
          rw [ht, List.cons_append, List.append_assoc]
          simp only [meas]
          rw [if_neg hd, if_neg hl, if_pos hq]
          have hcw : cnt labelB (r.takeWhile labelB ++ ([34] ++ 32 :: t)) = cnt labelB r := by
            unfold cnt
            rw [show ([34] ++ 32 :: t : List UInt8) = 34 :: 32 :: t from rfl, while_all (by decide) _ (all_while labelB r)]
          have hl2 : labN (r.takeWhile labelB ++ ([34] ++ 32 :: t)) = labN r := by
            rw [hln]
            unfold labN
            rw [hcw, if_neg]
            rintro (h | h | h)
            · exact hno (.inl h)
            · exact hno (.inr (.inl h))
            · apply h
              rw [List.getElem?_append_right (by unfold cnt; omega)]
              unfold cnt
              rw [Nat.sub_self]
              rfl
          rw [hl2, if_neg hz]
        · have hm : meas (c :: r) = (4, signN (c :: r), if signN (c :: r) = 0 then 20 else 0) := by simp only [meas]; rw [if_neg hd, if_neg hl, if_neg hq]
          rw [hm] at h
          injection h with h1 h2
          injection h2 with h2 h3
          subst h1 h2
          have hz : signN (c :: r) ≠ 0 := by intro hz; rw [if_pos hz] at h3; cases h3
          by_cases h2 : twoB (c :: r) = true
          · have hs : signN (c :: r) = 2 := by simp only [signN]; rw [if_pos h2]
            rw [hs]
            cases r with
            | nil => cases h2
            | cons b r =>
              have h2' : twoB (c :: b :: 32 :: t) = true := h2
              show meas (c :: b :: 32 :: t) = _
              have hs' : signN (c :: b :: 32 :: t) = 2 := by simp only [signN]; rw [if_pos h2']
              simp only [meas]
              rw [if_neg hd, if_neg hl, if_neg hq, hs']
              rfl
          · have ho : oneB c = true := by
              apply Classical.byContradiction
              intro hx
              apply hz
              simp only [signN]
              rw [if_neg h2, if_neg hx]
            have hs : signN (c :: r) = 1 := by simp only [signN]; rw [if_neg h2, if_pos ho]
            rw [hs]
            show meas (c :: 32 :: t) = _
            have h2' : twoB (c :: 32 :: t) = false := by
              have := twoB_app (c := c) (x := 32) (.inr rfl) t []
              rw [List.nil_append] at this
              rw [this]
              rfl
            have hs' : signN (c :: 32 :: t) = 1 := by simp only [signN]; rw [if_neg (by simp [h2']), if_pos ho]
            simp only [meas]
            rw [if_neg hd, if_neg hl, if_neg hq, hs']
            rfl
end Go.Proofs.YtfemddchaihokaaDoor
