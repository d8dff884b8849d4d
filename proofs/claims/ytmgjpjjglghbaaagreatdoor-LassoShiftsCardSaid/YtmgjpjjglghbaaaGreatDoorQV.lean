/-
  How long what was read is told.
-/
import Derived.Test.YtmgjpjjglghbaaaGreatDoorQU
namespace Go.Proofs.YtmgjpjjglghbaaaGreatDoor
theorem val_lt : ∀ (n : Nat) (l : List UInt8), l.length = n → (∀ c ∈ l, digitB c = true) → valOf l < 10 ^ l.length
  | 0, l, h, _ => by
    have : l = [] := List.length_eq_zero_iff.1 h
    subst this
    decide
  | n + 1, l, h, ha => by
    have hne : l ≠ [] := by intro e; subst e; cases h
    obtain ⟨m, c, rfl⟩ : ∃ m c, l = m ++ [c] := ⟨l.dropLast, l.getLast hne, (List.dropLast_concat_getLast hne).symm⟩
    have hm : m.length = n := by simpa using h
    have ih := val_lt n m hm (fun d hd => ha d (List.mem_append_left _ hd))
    have hc := ha c (by simp)
    simp only [digitB, Bool.and_eq_true, decide_eq_true_eq] at hc
    rw [val_snoc, List.length_append, List.length_singleton, Nat.pow_succ]
    omega
theorem dgs_len : ∀ (k n : Nat), n < 10 ^ (k + 1) → (dgs n).length ≤ k + 1
  | 0, n, h => by rw [dgs_small (by omega)]; simp
  | k + 1, n, h => by
    unfold dgs
    rw [Lib.decDigits]
    split
    · simp
    · have := dgs_len k (n / 10) (by rw [Nat.pow_succ] at h; omega)
      unfold dgs at this
      simp only [List.length_append, List.length_singleton]
      omega
theorem dgs_val {l : List UInt8} (h0 : l ≠ []) (ha : ∀ c ∈ l, digitB c = true) : (dgs (valOf l)).length ≤ l.length := by
  have h1 := val_lt l.length l rfl ha
  have h2 : l.length ≠ 0 := by intro e; exact h0 (List.length_eq_zero_iff.1 e)
  obtain ⟨k, hk⟩ : ∃ k, l.length = k + 1 := ⟨l.length - 1, by omega⟩
  rw [hk] at h1 ⊢
  exact dgs_len k _ h1
def sumT (us : List Tok) : Nat := (us.map fun t => t.text.length).sum
theorem sumT_hd {us : List Tok} (h : us ≠ []) : sumT us = (hd us).text.length + sumT us.tail := by
  cases us with
  | nil => exact absurd rfl h
  | cons t r => simp [sumT, hd]
theorem ne_of_kind {us : List Tok} (h : (hd us).kind ≠ 0) : us ≠ [] := by rintro rfl; exact h rfl
theorem par_len (b : Bool) (l : List UInt8) : (parX b l).length ≤ l.length + 2 := by cases b <;> simp [parX]
def Sz (F : List Tok → PR) : Prop := ∀ us e r, Fine us → F us = .ok e r → (shw e).length + 2 + 5 * sumT r ≤ 5 * sumT us
structure Sz4 (d : Dp) : Prop where
  c : Sz d.c
  i : Sz d.i
  n : Sz d.n
  m : Sz d.m
theorem shw_move (q : Nat) (e : Ex) : shw (e.move q) = shw e := by cases e <;> rfl
theorem sz_bin {op : List UInt8} {a b : Ex} {p : Nat} : (shw (.bin op a b p)).length ≤ (shw a).length + (shw b).length + op.length + 6 := by
  have h1 := par_len (decide (rk a.op < lo (rk op) 0)) (shw a)
  have h2 := par_len (decide (rk b.op < lo (rk op) 1)) (shw b)
  rw [shw]
  simp only [List.length_append, List.length_cons, List.cons_append]
  omega
theorem sz_un {op : List UInt8} {a : Ex} {p : Nat} : (shw (.un op a p)).length ≤ (shw a).length + 3 := by
  have h1 := par_len (decide (rk a.op < rk op)) (shw a)
  rw [shw]
  simp only [List.length_cons]
  omega
theorem sz_atom {d : Dp} (h4 : Sz4 d) : Sz (atomX d) := by
  intro us e r hf h
  unfold atomX at h
  split at h
  · rename_i hi
    obtain ⟨b, r', h1, h2, rfl, rfl⟩ := enc_ok_iff h
    have h3 := h4.c _ _ _ (hf.more (isT_kind hi)).1 h1
    have e1 := sumT_hd (ne_of_kind (isT_kind hi))
    have e2 := sumT_hd (ne_of_kind (isT_kind h2))
    rw [shw_move]
    omega
  · split at h
    · rename_i _ h1
      injection h with h2 h3
      subst h2 h3
      obtain ⟨c, s, g1, g2, g3⟩ := hf.name h1
      have e1 := sumT_hd hf.ne
      have e2 : 1 ≤ (hd us).text.length := by rw [g1]; simp
      have e3 : (shw (wordX (hd us).text (hd us).pos)).length ≤ (hd us).text.length := by
        unfold wordX
        split
        · rename_i ht
          have n1 : ¬ (hd us).text = opNum := by rcases ht with e | e <;> rw [e] <;> decide
          have n2 : ¬ (hd us).text = opName := by rcases ht with e | e <;> rw [e] <;> decide
          simp [shw, n1, n2]
        · have hne : ¬ opName = opNum := by decide
          simp [shw, hne]
      omega
    · split at h
      · rename_i _ _ h1
        injection h with h2 h3
        subst h2 h3
        obtain ⟨n0, n1, _⟩ := hf.numb h1
        have e1 := sumT_hd hf.ne
        have e2 : 1 ≤ (hd us).text.length := by
          cases ht : (hd us).text with
          | nil => exact absurd ht n0
          | cons c s => simp
        have e3 := dgs_val n0 n1
        have e4 : shw (.leaf opNum [] (valOf (hd us).text) (hd us).pos) = dgs (valOf (hd us).text) := by simp [shw]
        rw [e4]
        omega
      · cases h
theorem sz_pre {us : List Tok} {op x : List UInt8} {p : Nat} {F : List Tok → PR} (hF : Sz F) (hf : Fine us) (hi : isT (hd us) x = true) (hx : 1 ≤ x.length) {e : Ex} {r : List Tok} (h : preX op p (F us.tail) = .ok e r) : (shw e).length + 2 + 5 * sumT r ≤ 5 * sumT us := by
  obtain ⟨b, h1, rfl⟩ := pre_ok_iff h
  have h3 := hF _ _ _ (hf.more (isT_kind hi)).1 h1
  have e1 := sumT_hd (ne_of_kind (isT_kind hi))
  rw [isT_text hi] at e1
  have e2 := sz_un (op := op) (a := b) (p := p)
  omega
theorem sz_minus {d : Dp} (h4 : Sz4 d) : Sz (minusX d) := by
  intro us e r hf h
  unfold minusX at h
  split at h
  · rename_i hi; exact sz_pre h4.m hf hi (by decide) h
  · exact sz_atom h4 us e r hf h
theorem sg_len {k : Nat} (hk : k < 8) {t : Tok} (h : sg k t = true) : 1 ≤ t.text.length := by
  have := (sg_kind h).2
  cases ht : t.text with
  | nil => rw [ht] at this; have : rk [] = 9 := by decide
           omega
  | cons c r => simp
theorem sz_chainF {k : Nat} (hk : k < 8) {F : List Tok → PR} (hS : Shr F) (hF : Sz F) : ∀ (f : Nat) (e : Ex) (us : List Tok) (x : Ex) (r : List Tok), Fine us → chainF k F f e us = .ok x r → (shw x).length + 5 * sumT r ≤ (shw e).length + 5 * sumT us
  | 0, e, us, x, r, _, h => by
    injection h with h1 h2
    subst h1 h2
    exact Nat.le_refl _
  | f + 1, e, us, x, r, hf, h => by
    rw [chainF] at h
    split at h
    · rename_i hs
      split at h
      · cases h
      · rename_i e' r' hj
        obtain ⟨b, h3, rfl⟩ := join_ok_iff hj
        have hk0 : (hd us).kind ≠ 0 := by have := (sg_kind hs).1; omega
        have hft := (hf.more hk0).1
        have h5 := hF _ _ _ hft h3
        have h6 := sz_chainF hk hS hF f _ r' x r ((hS _ _ _ h3).2 hft) h
        have e1 := sumT_hd (ne_of_kind hk0)
        have e2 := sz_bin (op := (hd us).text) (a := e) (b := b) (p := e.pos)
        have e3 := sg_len hk hs
        omega
    · injection h with h1 h2
      subst h1 h2
      exact Nat.le_refl _
theorem sz_chain {k : Nat} (hk : k < 8) {F : List Tok → PR} (hS : Shr F) (hF : Sz F) : Sz (chainX k F) := by
  intro us x r hf h
  unfold chainX at h
  cases h1 : F us with
  | er c p => rw [h1] at h; cases h
  | ok e r' =>
    rw [h1] at h
    have h3 := hF _ _ _ hf h1
    have h4 := sz_chainF hk hS hF _ _ _ _ _ ((hS _ _ _ h1).2 hf) h
    omega
theorem sz_comp {d : Dp} (hS : Shr (sumX d)) (hF : Sz (sumX d)) : Sz (compX d) := by
  intro us x r hf h
  unfold compX at h
  cases h1 : sumX d us with
  | er c p => rw [h1] at h; cases h
  | ok a r1 =>
    rw [h1] at h
    have h3 := hF _ _ _ hf h1
    have hf1 := (hS _ _ _ h1).2 hf
    simp only [compG] at h
    split at h
    · rename_i hs
      obtain ⟨b, h5, rfl⟩ := join_ok_iff h
      have hk0 : (hd r1).kind ≠ 0 := by have := (sg_kind hs).1; omega
      have h6 := hF _ _ _ (hf1.more hk0).1 h5
      have e1 := sumT_hd (ne_of_kind hk0)
      have e2 := sz_bin (op := (hd r1).text) (a := a) (b := b) (p := a.pos)
      have e3 := sg_len (by decide) hs
      omega
    · injection h with h1 h2
      subst h1 h2
      exact h3
theorem sz_neg {d : Dp} (h4 : Sz4 d) (hF : Sz (compX d)) : Sz (negX d) := by
  intro us e r hf h
  unfold negX at h
  split at h
  · rename_i hi; exact sz_pre h4.n hf hi (by decide) h
  · exact hF us e r hf h
theorem sz_impl {d : Dp} (h4 : Sz4 d) (hS : Shr (disjX d)) (hF : Sz (disjX d)) : Sz (implX d) := by
  intro us x r hf h
  unfold implX at h
  cases h1 : disjX d us with
  | er c p => rw [h1] at h; cases h
  | ok a r1 =>
    rw [h1] at h
    have h3 := hF _ _ _ hf h1
    have hf1 := (hS _ _ _ h1).2 hf
    simp only [implG] at h
    split at h
    · rename_i hi
      obtain ⟨b, h5, rfl⟩ := join_ok_iff h
      have h6 := h4.i _ _ _ (hf1.more (isT_kind hi)).1 h5
      have e1 := sumT_hd (ne_of_kind (isT_kind hi))
      rw [isT_text hi] at e1
      have e2 := sz_bin (op := [61, 62]) (a := a) (b := b) (p := a.pos)
      simp only [List.length_cons, List.length_nil] at e1 e2
      omega
    · injection h with h1 h2
      subst h1 h2
      exact h3
theorem sz_cond {d : Dp} (h4 : Sz4 d) (hs4 : Shr4 d) (hS : Shr (implX d)) (hF : Sz (implX d)) : Sz (condX d) := by
  intro us x r hf h
  obtain ⟨a, r1, h1, h2⟩ := cond_ok_iff h
  have h3 := hF _ _ _ hf h1
  have hf1 := (hS _ _ _ h1).2 hf
  rcases h2 with ⟨_, rfl, rfl⟩ | ⟨hi, b, r2, h5, hi2, c, h6, rfl⟩
  · exact h3
  · have hf2 := (hf1.more (isT_kind hi)).1
    have h7 := h4.c _ _ _ hf2 h5
    have hf3 := ((hs4.c _ _ _ h5).2 hf2)
    have h9 := h4.c _ _ _ (hf3.more (isT_kind hi2)).1 h6
    have e1 := sumT_hd (ne_of_kind (isT_kind hi))
    have e2 := sumT_hd (ne_of_kind (isT_kind hi2))
    rw [isT_text hi] at e1
    rw [isT_text hi2] at e2
    have e3 := par_len (decide (rk a.op < 1)) (shw a)
    rw [shw]
    simp only [List.length_append, List.length_cons, List.length_nil] at e1 e2 ⊢
    omega
theorem sz_dp : ∀ l, Sz4 (dp l)
  | 0 => ⟨(fun _ _ _ _ h => nomatch h), (fun _ _ _ _ h => nomatch h), (fun _ _ _ _ h => nomatch h), (fun _ _ _ _ h => nomatch h)⟩
  | l + 1 => by
    have h4 := sz_dp l
    have s := shr_lv l
    have m := sz_minus h4
    have p : Sz (prodX (dp l)) := sz_chain (by decide) s.m m
    have su : Sz (sumX (dp l)) := sz_chain (by decide) s.p p
    have r := sz_comp s.s su
    have n := sz_neg h4 r
    have a : Sz (conjX (dp l)) := sz_chain (by decide) s.n n
    have o : Sz (disjX (dp l)) := sz_chain (by decide) s.a a
    have i := sz_impl h4 s.o o
    exact ⟨sz_cond h4 (shr_dp l) s.i i, i, n, m⟩
theorem sumT_le {l : List UInt8} : ∀ {ts : List Tok} {i : Nat}, Good l i ts → sumT ts + i ≤ l.length
  | [], _, h => by simp [Good] at h
  | [t], i, h => by
    obtain ⟨h1, h2, h3, h4⟩ := h
    simp [sumT, h2]
    omega
  | t :: v :: us, i, h => by
    obtain ⟨h1, h2, ⟨n, hm, ht, hg⟩, _⟩ := h
    obtain ⟨hf, hfl⟩ := good_full h2 hm ht
    have ih := sumT_le hg
    have e : sumT (t :: v :: us) = t.text.length + sumT (v :: us) := sumT_hd (us := t :: v :: us) (by simp)
    have hl : t.text.length ≤ (full t).length := by
      unfold full
      split
      · simp; omega
      · exact Nat.le_refl _
    omega
/-- What was read of a text is told in at most five times its length. -/
theorem shw_len {D : Nat} {l : List UInt8} {e : Ex} {r : List Tok} (hl : l.length ≤ 65536) (h : parseX D l = .ok e r) : (shw e).length ≤ 5 * l.length := by
  cases ht : toks l with
  | error x => rw [parseX, ht] at h; cases h
  | ok ts =>
    rw [parse_ok ht] at h
    cases hc : (dp D).c ts with
    | er c p => rw [hc] at h; cases h
    | ok e' r' =>
      rw [hc] at h
      simp only [endX] at h
      split at h
      · injection h with h1 _
        subst h1
        have h2 := (sz_dp D).c ts _ r' (fine_toks hl ht) hc
        have h3 := sumT_le (good_toks ht)
        omega
      · cases h
end Go.Proofs.YtmgjpjjglghbaaaGreatDoor
