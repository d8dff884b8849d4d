/-
  The tokens of what is told.
-/
import Derived.Test.YtmgjpjjglghbaaaGreatDoorQT
namespace Go.Proofs.YtmgjpjjglghbaaaGreatDoor
/-- Behind a piece: nothing, or a blank or a closing parenthesis. -/
def Beh (t : List UInt8) : Prop := t = [] ∨ ∃ x r, t = x :: r ∧ sepB x
theorem tok_scan {l t : List UInt8} {k : Nat} (h0 : l ≠ []) (hm : meas (l ++ t) = (k, l.length, 0)) (hk : k ≠ 3) (p : Nat) : scanR (l ++ t) p = onto [⟨k, l, p⟩] (scanR t (p + l.length)) := by
  have hb : blanks false (l ++ t) = 0 := by
    cases l with
    | nil => exact absurd rfl h0
    | cons c r =>
      obtain ⟨h1, h2⟩ := first_ok hm
      rw [List.cons_append, blanks, if_neg (by simp [h1]), if_neg (fun hx => h2 hx.1)]
  have hne : l ++ t ≠ [] := by simp [h0]
  rw [scanR_step, hb]
  simp only [List.drop_zero, Nat.add_zero]
  rw [if_neg hne, hm, if_pos rfl]
  simp only
  rw [List.take_left, List.drop_left]
  unfold bareL
  rw [if_neg hk]
theorem while_beh {p : UInt8 → Bool} (hp : ∀ x, sepB x → p x = false) {l t : List UInt8} (h : ∀ c ∈ l, p c = true) (ht : Beh t) : (l ++ t).takeWhile p = l := by
  rcases ht with rfl | ⟨x, r, rfl, hx⟩
  · rw [List.append_nil]
    clear hp
    induction l with
    | nil => rfl
    | cons c r ih => rw [List.takeWhile_cons, if_pos (h c List.mem_cons_self), ih (fun d hd => h d (List.mem_cons_of_mem _ hd))]
  · exact while_all (hp x hx) r h
def Sc (l : List UInt8) (ks : List Key) : Prop := ∀ t p, Beh t → ∃ ini, ini.map key = ks ∧ scanR (l ++ t) p = onto ini (scanR t (p + l.length))
theorem sc_name {l : List UInt8} (h : nameL l) : Sc l [(1, l)] := by
  intro t p ht
  obtain ⟨⟨c, r, rfl, hc⟩, ha⟩ := h
  have hd : digitB c = false := by
    simp only [letterB, Bool.or_eq_true, Bool.and_eq_true, decide_eq_true_eq, beq_iff_eq] at hc
    simp only [digitB, Bool.and_eq_false_iff, decide_eq_false_iff_not]
    omega
  have hw := while_beh (fun x hx => (sep_name hx).1) ha ht
  have hm : meas (c :: r ++ t) = (1, (c :: r).length, 0) := by
    rw [List.cons_append, meas, if_neg (by simp [hd]), if_pos hc]
    unfold cnt
    rw [← List.cons_append, hw]
  exact ⟨[⟨1, c :: r, p⟩], rfl, tok_scan (by simp) hm (by decide) p⟩
theorem sc_numb {l : List UInt8} (h0 : l ≠ []) (ha : ∀ c ∈ l, digitB c = true) (hv : valOf l < 9223372036854775808) : Sc l [(2, l)] := by
  intro t p ht
  have hw := while_beh (fun x hx => (sep_name hx).2) ha ht
  cases l with
  | nil => exact absurd rfl h0
  | cons c r =>
    have hm : meas (c :: r ++ t) = (2, (c :: r).length, 0) := by
      rw [List.cons_append, meas, if_pos (ha c List.mem_cons_self)]
      unfold cnt
      rw [← List.cons_append, hw, if_pos hv]
    exact ⟨[⟨2, c :: r, p⟩], rfl, tok_scan (by simp) hm (by decide) p⟩
theorem dgs_all (n : Nat) : dgs n ≠ [] ∧ ∀ c ∈ dgs n, digitB c = true := by
  unfold dgs
  induction n using Nat.strongRecOn with
  | _ n ih =>
    have key : ∀ m, m < 10 → digitB (UInt8.ofNat (48 + m)) = true := fun m hm => by
      have : (UInt8.ofNat (48 + m)).toNat = 48 + m := by simp; omega
      simp only [digitB, this, Bool.and_eq_true, decide_eq_true_eq]
      omega
    rw [Lib.decDigits]
    split
    · rename_i h
      exact ⟨by simp, fun c hc => by rw [List.mem_singleton.1 hc]; exact key n h⟩
    · rename_i h
      refine ⟨by simp, fun c hc => ?_⟩
      rcases List.mem_append.1 hc with h1 | h1
      · exact (ih (n / 10) (by omega)).2 c h1
      · rw [List.mem_singleton.1 h1]; exact key _ (by omega)
theorem sc_par {l : List UInt8} {ks : List Key} (h : Sc l ks) (b : Bool) : Sc (parX b l) (tkP b ks) := by
  cases b with
  | false => simpa [parX, tkP] using h
  | true =>
    intro t p _
    obtain ⟨ini, h1, h2⟩ := h (41 :: t) (p + 1) (.inr ⟨41, t, rfl, .inr rfl⟩)
    refine ⟨[⟨4, [40], p⟩] ++ ini ++ [⟨4, [41], p + 1 + l.length⟩], by simp [tkP, key, h1], ?_⟩
    have e : parX true l ++ t = 40 :: (l ++ 41 :: t) := by simp [parX]
    rw [e, scan_solo solo_lp, h2, scan_solo solo_rp, onto_onto, onto_onto]
    congr 2
    simp [parX]
    omega
/-- The signs between. -/
def sgnL : List (List UInt8) := [[61, 62], [124], [38], [61], [33, 61], [60], [60, 61], [62], [62, 61], [43], [45], [42], [63], [58]]
theorem rk_sgn {x : List UInt8} (h : rk x = 1 ∨ rk x = 2 ∨ rk x = 3 ∨ rk x = 5 ∨ rk x = 6 ∨ rk x = 7) : x ∈ sgnL := by
  apply Classical.byContradiction
  intro hn
  simp only [sgnL, List.mem_cons, List.not_mem_nil, or_false, not_or] at hn
  obtain ⟨h1, h2, h3, h4, h5, h6, h7, h8, h9, h10, h11, h12, h13, _⟩ := hn
  have hc : cmpB x = false := by simp [cmpB, h4, h5, h6, h7, h8, h9]
  unfold rk at h
  rw [if_neg h13, if_neg h1, if_neg h2, if_neg h3] at h
  split at h
  · omega
  · rw [if_neg (by simp [hc]), if_neg (by simp [h10, h11])] at h
    try rw [if_neg h12] at h
    split at h <;> omega
theorem sgn_scan {x : List UInt8} (h : x ∈ sgnL) (t : List UInt8) (p : Nat) : scanR (32 :: (x ++ 32 :: t)) p = onto [⟨4, x, p + 1⟩] (scanR t (p + x.length + 2)) := by
  have hm : x ≠ [] ∧ meas (x ++ 32 :: t) = (4, x.length, 0) := by
    simp only [sgnL, List.mem_cons, List.not_mem_nil, or_false] at h
    rcases h with rfl | rfl | rfl | rfl | rfl | rfl | rfl | rfl | rfl | rfl | rfl | rfl | rfl | rfl <;> exact ⟨by simp, by simp [meas, digitB, letterB, quoteB, signN, twoB, oneB]⟩
  rw [scan_blank, tok_scan hm.1 hm.2 (by decide), scan_blank]
  congr 2
  omega
theorem dig_ne {c : UInt8} (h : digitB c = true) : c.toNat ≠ 61 ∧ c.toNat ≠ 62 := by
  simp only [digitB, Bool.and_eq_true, decide_eq_true_eq] at h
  omega
theorem let_ne {c : UInt8} (h : letterB c = true) : c.toNat ≠ 61 ∧ c.toNat ≠ 62 := by
  simp only [letterB, Bool.or_eq_true, Bool.and_eq_true, decide_eq_true_eq, beq_iff_eq] at h
  omega
def FstOk (l : List UInt8) : Prop := ∃ c r, l = c :: r ∧ c.toNat ≠ 61 ∧ c.toNat ≠ 62
theorem fst_par {l : List UInt8} (h : FstOk l) (b : Bool) (m : List UInt8) : FstOk (parX b l ++ m) := by
  cases b with
  | true => exact ⟨40, l ++ [41] ++ m, by simp [parX], by decide, by decide⟩
  | false =>
    obtain ⟨c, r, rfl, h⟩ := h
    exact ⟨c, r ++ m, by simp [parX], h⟩
theorem fst_shw : ∀ e, Ok e → FstOk (shw e)
  | .leaf op nm n _, h => by
    rcases h with ⟨rfl, _⟩ | ⟨rfl, _, ⟨⟨c, r, rfl, hc⟩, _⟩, _⟩ | ⟨ho, _⟩
    · obtain ⟨h0, ha⟩ := dgs_all n
      cases hd : dgs n with
      | nil => exact absurd hd h0
      | cons c r => exact ⟨c, r, by simp [shw, hd], dig_ne (ha c (by rw [hd]; exact List.mem_cons_self))⟩
    · have hne : ¬ opName = opNum := by decide
      exact ⟨c, r, by simp [shw, hne], let_ne hc⟩
    · rcases ho with rfl | rfl
      · exact ⟨116, [114, 117, 101], by simp [shw, opTrue, opNum, opName], by decide, by decide⟩
      · exact ⟨102, [97, 108, 115, 101], by simp [shw, opFalse, opNum, opName], by decide, by decide⟩
  | .un op a _, h => by
    rcases h.1 with rfl | rfl
    · have hne : ¬ ([33] : List UInt8) = opNeg := by decide
      exact ⟨33, _, by rw [shw, if_neg hne], by decide, by decide⟩
    · exact ⟨45, _, by rw [shw, if_pos rfl], by decide, by decide⟩
  | .bin op a b _, h => fst_par (fst_shw a h.2.1) _ _
  | .cond a b c _, h => fst_par (fst_shw a h.1) _ _
theorem sc_pre {c : UInt8} (hc : c = 45 ∨ c = 33) {l : List UInt8} {ks : List Key} (h : Sc l ks) (hf : FstOk l) : Sc (c :: l) ((4, [c]) :: ks) := by
  intro t p ht
  obtain ⟨ini, h1, h2⟩ := h t (p + 1) ht
  have hm : meas ([c] ++ (l ++ t)) = (4, ([c] : List UInt8).length, 0) := by
    obtain ⟨d, r, rfl, d1, d2⟩ := hf
    rcases hc with rfl | rfl <;> simp [meas, digitB, letterB, quoteB, signN, twoB, oneB, d1, d2]
  refine ⟨⟨4, [c], p⟩ :: ini, by simp [key, h1], ?_⟩
  have e : c :: l ++ t = [c] ++ (l ++ t) := rfl
  rw [e, tok_scan (by simp) hm (by decide)]
  show onto [⟨4, [c], p⟩] (scanR (l ++ t) (p + 1)) = _
  rw [h2, onto_onto]
  congr 2
  simp
  omega
theorem sc_join {x : List UInt8} (hx : x ∈ sgnL) {l m : List UInt8} {ks ms : List Key} (hl : Sc l ks) (hm : Sc m ms) : Sc (l ++ (32 :: x ++ 32 :: m)) (ks ++ (4, x) :: ms) := by
  intro t p ht
  obtain ⟨i1, h1, h2⟩ := hl (32 :: (x ++ 32 :: (m ++ t))) p (.inr ⟨32, _, rfl, .inl rfl⟩)
  obtain ⟨i2, h3, h4⟩ := hm t (p + l.length + x.length + 2) ht
  refine ⟨i1 ++ [⟨4, x, p + l.length + 1⟩] ++ i2, by simp [key, h1, h3], ?_⟩
  have e : l ++ (32 :: x ++ 32 :: m) ++ t = l ++ 32 :: (x ++ 32 :: (m ++ t)) := by simp
  rw [e, h2, sgn_scan hx, h4, onto_onto, onto_onto]
  congr 2
  simp
  omega
theorem sc_shw : ∀ e, Ok e → Sc (shw e) (tk e)
  | .leaf op nm n p, h => by
    rcases h with ⟨rfl, _, hv⟩ | ⟨rfl, _, hn, _⟩ | ⟨ho, _⟩
    · have e1 : shw (.leaf opNum nm n p) = dgs n := by simp [shw]
      have e2 : tk (.leaf opNum nm n p) = [(2, dgs n)] := by simp [tk]
      rw [e1, e2]
      exact sc_numb (dgs_all n).1 (dgs_all n).2 (by rw [val_dgs]; exact hv)
    · have hne : ¬ opName = opNum := by decide
      have e1 : shw (.leaf opName nm n p) = nm := by simp [shw, hne]
      have e2 : tk (.leaf opName nm n p) = [(1, nm)] := by simp [tk, hne]
      rw [e1, e2]
      exact sc_name hn
    · have n1 : ¬ op = opNum := by rcases ho with rfl | rfl <;> decide
      have n2 : ¬ op = opName := by rcases ho with rfl | rfl <;> decide
      have e1 : shw (.leaf op nm n p) = op := by simp [shw, n1, n2]
      have e2 : tk (.leaf op nm n p) = [(1, op)] := by simp [tk, n1, n2]
      rw [e1, e2]
      refine sc_name ?_
      rcases ho with rfl | rfl
      · exact ⟨⟨116, [114, 117, 101], rfl, by decide⟩, by decide⟩
      · exact ⟨⟨102, [97, 108, 115, 101], rfl, by decide⟩, by decide⟩
  | .un op a p, h => by
    have ha := sc_par (sc_shw a h.2) (decide (rk a.op < rk op))
    have hf : FstOk (parX (decide (rk a.op < rk op)) (shw a)) := by simpa using fst_par (fst_shw a h.2) (decide (rk a.op < rk op)) []
    rcases h.1 with rfl | rfl
    · have hne : ¬ ([33] : List UInt8) = opNeg := by decide
      rw [shw, tk, if_neg hne, if_neg hne]
      exact sc_pre (.inr rfl) ha hf
    · rw [shw, tk, if_pos rfl, if_pos rfl]
      exact sc_pre (.inl rfl) ha hf
  | .bin op a b p, h => sc_join (rk_sgn h.1) (sc_par (sc_shw a h.2.1) _) (sc_par (sc_shw b h.2.2) _)
  | .cond a b c p, h => by
    have h1 := sc_join (x := [58]) (by decide) (sc_shw b h.2.1) (sc_shw c h.2.2)
    exact sc_join (x := [63]) (by decide) (sc_par (sc_shw a h.1) (decide (rk a.op < 1))) h1
/-- The tokens of what is told. -/
theorem toks_shw {e : Ex} (h : Ok e) : ∃ us E, toks (shw e) = .ok (us ++ [E]) ∧ E.kind = 0 ∧ us.map key = tk e := by
  obtain ⟨ini, h1, h2⟩ := sc_shw e h [] 0 (.inl rfl)
  have hl : ∀ q, scanR [] q = .ok [⟨0, [], q⟩] := fun q => by rw [scanR_step]; simp [blanks]
  rw [List.append_nil, hl] at h2
  exact ⟨ini, _, by rw [toks_R, h2]; rfl, rfl, h1⟩
/-- There and back. -/
theorem parse_shw {e : Ex} (h : Ok e) {D : Nat} (hD : 1 + nd e ≤ D) : ∃ e' r, parseX D (shw e) = .ok e' r ∧ e'.bare = e.bare := by
  obtain ⟨us, E, h1, h2, h3⟩ := toks_shw h
  obtain ⟨e', h4, h5⟩ := told_read h hD h2 h3
  exact ⟨e', _, by rw [parse_ok h1, h4], h5⟩
end Go.Proofs.YtmgjpjjglghbaaaGreatDoor
