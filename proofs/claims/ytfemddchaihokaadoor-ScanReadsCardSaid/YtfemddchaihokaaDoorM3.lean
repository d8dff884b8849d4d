/-
  The tokens of two texts with the end of a line between.
-/
import Derived.Test.YtfemddchaihokaaDoorM1
namespace Go.Proofs.YtfemddchaihokaaDoor

theorem blanks_app (t : List UInt8) : ∀ (b : Bool) (r : List UInt8), (blanks b r < r.length → blanks b (r ++ 10 :: t) = blanks b r) ∧ (blanks b r = r.length → blanks b (r ++ 10 :: t) = r.length + 1 + blanks false t)
  | true, [] => by simp [blanks]
  | false, [] => by simp [blanks, blankB]
  | true, c :: r => by
    have h1 := blanks_app t false r
    have h2 := blanks_app t true r
    simp only [List.cons_append, blanks, List.length_cons]
    by_cases hc : c.toNat = 10
    · rw [if_pos hc, if_pos hc]
      refine ⟨fun h => ?_, fun h => ?_⟩
      · rw [h1.1 (by omega)]
      · rw [h1.2 (by omega)]; omega
    · rw [if_neg hc, if_neg hc]
      refine ⟨fun h => ?_, fun h => ?_⟩
      · rw [h2.1 (by omega)]
      · rw [h2.2 (by omega)]; omega
  | false, c :: r => by
    have h1 := blanks_app t false r
    have h2 := blanks_app t true r
    simp only [List.cons_append, blanks, List.length_cons]
    by_cases hb : blankB c = true
    · rw [if_pos hb, if_pos hb]
      refine ⟨fun h => ?_, fun h => ?_⟩
      · rw [h1.1 (by omega)]
      · rw [h1.2 (by omega)]; omega
    · rw [if_neg hb, if_neg hb]
      have hh : (c.toNat = 47 ∧ (r ++ 10 :: t).head?.map (·.toNat) = some 47) ↔ (c.toNat = 47 ∧ r.head?.map (·.toNat) = some 47) := by
        cases r with
        | nil => simp
        | cons a b => simp
      by_cases hc : c.toNat = 47 ∧ r.head?.map (·.toNat) = some 47
      · rw [if_pos hc, if_pos (hh.2 hc)]
        refine ⟨fun h => ?_, fun h => ?_⟩
        · rw [h2.1 (by omega)]
        · rw [h2.2 (by omega)]; omega
      · rw [if_neg hc, if_neg (fun h => hc (hh.1 h))]
        exact ⟨fun _ => rfl, fun h => by omega⟩

theorem while_app {p : UInt8 → Bool} {x : UInt8} (hx : p x = false) (t : List UInt8) (l : List UInt8) : (l ++ x :: t).takeWhile p = l.takeWhile p := by
  induction l with
  | nil => simp [hx]
  | cons c r ih =>
    rw [List.cons_append, List.takeWhile_cons, List.takeWhile_cons, ih]
theorem cnt_app {p : UInt8 → Bool} {x : UInt8} (hx : p x = false) (t : List UInt8) (l : List UInt8) : cnt p (l ++ x :: t) = cnt p l := by
  unfold cnt; rw [while_app hx]
theorem labN_app (t r : List UInt8) : labN (r ++ 10 :: t) = labN r := by
  unfold labN
  rw [cnt_app (by decide)]
  have hl := cnt_le labelB r
  by_cases h : cnt labelB r < r.length
  · rw [List.getElem?_append_left h]
  · have e : cnt labelB r = r.length := by omega
    rw [e, List.getElem?_append_right (Nat.le_refl _), List.getElem?_eq_none (Nat.le_refl _), Nat.sub_self]
    simp
theorem twoB_app {c x : UInt8} (hx : x.toNat = 10 ∨ x.toNat = 32) (t r : List UInt8) : twoB (c :: (r ++ x :: t)) = twoB (c :: r) := by
  cases r with
  | nil =>
    simp only [List.nil_append, twoB]
    rcases hx with h | h <;> rw [h] <;> simp
  | cons b r => rfl
theorem meas_app (t : List UInt8) {r : List UInt8} (h0 : r ≠ []) : meas (r ++ 10 :: t) = meas r := by
  cases r with
  | nil => exact absurd rfl h0
  | cons c r =>
    have e1 := cnt_app (p := digitB) (x := 10) (by decide) t (c :: r)
    have e2 := cnt_app (p := nameB) (x := 10) (by decide) t (c :: r)
    have e3 := while_app (p := digitB) (x := 10) (by decide) t (c :: r)
    have e4 := labN_app t r
    have e5 : signN (c :: (r ++ 10 :: t)) = signN (c :: r) := by simp only [signN]; rw [twoB_app (.inl rfl)]
    rw [List.cons_append] at e1 e2 e3
    simp only [List.cons_append, meas]
    rw [e1, e2, e3, e4, e5]

/-- What is told behind the blanks. -/
def tokF (f : Nat) (r : List UInt8) (q : Nat) : Res :=
  if r = [] then .ok [⟨0, [], q⟩]
  else if (meas r).2.2 = 0 then onto [⟨(meas r).1, bareL (meas r).1 (r.take (meas r).2.1), q⟩] (scanF f (r.drop (meas r).2.1) (q + (meas r).2.1))
  else .error ((meas r).2.2, q)
theorem scanF_tok (f : Nat) (r : List UInt8) (p : Nat) : scanF (f + 1) r p = tokF f (r.drop (blanks false r)) (p + blanks false r) := by
  rw [scanF, tokF]
/-- What is told of a text, from a place on. -/
def scanR (r : List UInt8) (p : Nat) : Res := scanF (r.length + 1) r p
theorem scanR_fuel {f : Nat} {r : List UInt8} (p : Nat) (h : r.length < f) : scanF f r p = scanR r p := scanF_fuel f (r.length + 1) r p h (by omega)
theorem scanR_step (r : List UInt8) (p : Nat) : scanR r p =
    if r.drop (blanks false r) = [] then .ok [⟨0, [], p + r.length⟩]
    else if (meas (r.drop (blanks false r))).2.2 = 0 then onto [⟨(meas (r.drop (blanks false r))).1, bareL (meas (r.drop (blanks false r))).1 ((r.drop (blanks false r)).take (meas (r.drop (blanks false r))).2.1), p + blanks false r⟩]
      (scanR ((r.drop (blanks false r)).drop (meas (r.drop (blanks false r))).2.1) (p + blanks false r + (meas (r.drop (blanks false r))).2.1))
    else .error ((meas (r.drop (blanks false r))).2.2, p + blanks false r) := by
  have hb := blanks_le false r
  unfold scanR
  rw [scanF_tok, tokF]
  by_cases h0 : r.drop (blanks false r) = []
  · rw [if_pos h0, if_pos h0]
    have : r.length ≤ blanks false r := by simpa using h0
    rw [show blanks false r = r.length by omega]
  · rw [if_neg h0, if_neg h0]
    by_cases h1 : (meas (r.drop (blanks false r))).2.2 = 0
    · rw [if_pos h1, if_pos h1]
      have hp := meas_pos _ h0 h1
      have hl : 0 < (r.drop (blanks false r)).length := List.length_pos_iff.2 h0
      rw [List.length_drop] at hl
      rw [scanF_fuel r.length _ _ _ (by simp only [List.length_drop]; omega) (Nat.lt_succ_self _)]
    · rw [if_neg h1, if_neg h1]
theorem scanR_blank (r r2 : List UInt8) (p d : Nat) (h1 : r.drop (blanks false r) = r2.drop (blanks false r2)) (h2 : blanks false r = d + blanks false r2) (h3 : r.length = d + r2.length) : scanR r p = scanR r2 (p + d) := by
  rw [scanR_step r, scanR_step r2, h1, h2, h3]
  simp only [Nat.add_assoc]

def Joined (t : List UInt8) (r : List UInt8) (p : Nat) : Prop :=
  (∀ ts, scanR r p = .ok ts → ∃ ini, ts = ini ++ [⟨0, [], p + r.length⟩] ∧ scanR (r ++ 10 :: t) p = onto ini (scanR t (p + r.length + 1))) ∧
  (∀ x, scanR r p = .error x → scanR (r ++ 10 :: t) p = .error x)
theorem scan_app (t : List UInt8) : ∀ (n : Nat) (r : List UInt8) (p : Nat), r.length ≤ n → Joined t r p
  | n, r, p, hn => by
    have hb := blanks_le false r
    have ha := blanks_app t false r
    by_cases h0 : r.drop (blanks false r) = []
    · have hl : blanks false r = r.length := by have : r.length ≤ blanks false r := by simpa using h0
                                                omega
      have hs := scanR_step r p
      rw [if_pos h0] at hs
      refine ⟨fun ts h => ?_, fun x h => ?_⟩
      · rw [hs] at h
        obtain rfl := Res.ok.inj h
        refine ⟨[], rfl, ?_⟩
        rw [onto_nil, scanR_blank (r ++ 10 :: t) t p (r.length + 1) (by rw [ha.2 hl, List.drop_append, List.drop_eq_nil_of_le (by omega), List.nil_append, show r.length + 1 + blanks false t - r.length = blanks false t + 1 by omega, List.drop_succ_cons]) (by rw [ha.2 hl]) (by simp; omega)]
        rfl
      · rw [hs] at h; cases h
    · have hl : blanks false r < r.length := by simpa using h0
      have hs := scanR_step r p
      have hs2 := scanR_step (r ++ 10 :: t) p
      have hd : (r ++ 10 :: t).drop (blanks false r) = r.drop (blanks false r) ++ 10 :: t := List.drop_append_of_le_length (by omega)
      rw [ha.1 hl, hd, meas_app t h0] at hs2
      rw [if_neg h0] at hs
      rw [if_neg (by simp)] at hs2
      have hm := meas_le (r.drop (blanks false r))
      by_cases h1 : (meas (r.drop (blanks false r))).2.2 = 0
      · rw [if_pos h1] at hs hs2
        have hp := meas_pos _ h0 h1
        rw [List.take_append_of_le_length hm, List.drop_append_of_le_length hm] at hs2
        have hlen : ((r.drop (blanks false r)).drop (meas (r.drop (blanks false r))).2.1).length < r.length := by
          simp only [List.length_drop] at hm ⊢; omega
        have hpos : p + blanks false r + (meas (r.drop (blanks false r))).2.1 + ((r.drop (blanks false r)).drop (meas (r.drop (blanks false r))).2.1).length = p + r.length := by
          simp only [List.length_drop] at hm ⊢; omega
        cases n with
        | zero => omega
        | succ n =>
          have ih := scan_app t n ((r.drop (blanks false r)).drop (meas (r.drop (blanks false r))).2.1) (p + blanks false r + (meas (r.drop (blanks false r))).2.1) (by omega)
          obtain ⟨ih1, ih2⟩ := ih
          rw [hpos] at ih1
          refine ⟨fun ts h => ?_, fun x h => ?_⟩
          · cases hr : scanR ((r.drop (blanks false r)).drop (meas (r.drop (blanks false r))).2.1) (p + blanks false r + (meas (r.drop (blanks false r))).2.1) with
            | error x => rw [hs, hr] at h; cases h
            | ok us =>
              obtain ⟨ini, rfl, hj⟩ := ih1 us hr
              rw [hs, hr] at h
              obtain rfl := Res.ok.inj h
              refine ⟨_ :: ini, rfl, ?_⟩
              rw [hs2, hj, onto_onto]; rfl
          · cases hr : scanR ((r.drop (blanks false r)).drop (meas (r.drop (blanks false r))).2.1) (p + blanks false r + (meas (r.drop (blanks false r))).2.1) with
            | error y =>
              rw [hs, hr] at h
              rw [hs2, ih2 y hr]
              exact h
            | ok us => rw [hs, hr] at h; cases h
      · rw [if_neg h1] at hs hs2
        refine ⟨fun ts h => ?_, fun x h => ?_⟩
        · rw [hs] at h; cases h
        · rw [hs] at h
          rw [hs2]; exact h

def mv (d : Nat) (t : Tok) : Tok := ⟨t.kind, t.text, t.pos + d⟩
def mvR (d : Nat) : Res → Res
  | .ok ts => .ok (ts.map (mv d))
  | .error x => .error (x.1, x.2 + d)
theorem mvR_onto (d : Nat) (a : List Tok) (r : Res) : mvR d (onto a r) = onto (a.map (mv d)) (mvR d r) := by
  cases r <;> simp [onto, mvR]
theorem scan_mv (d : Nat) : ∀ (n : Nat) (r : List UInt8) (p : Nat), r.length ≤ n → scanR r (p + d) = mvR d (scanR r p)
  | n, r, p, hn => by
    have hb := blanks_le false r
    rw [scanR_step r (p + d), scanR_step r p]
    by_cases h0 : r.drop (blanks false r) = []
    · rw [if_pos h0, if_pos h0]
      simp [mvR, mv]
      omega
    · rw [if_neg h0, if_neg h0]
      by_cases h1 : (meas (r.drop (blanks false r))).2.2 = 0
      · rw [if_pos h1, if_pos h1, mvR_onto]
        have hp := meas_pos _ h0 h1
        have hl : 0 < (r.drop (blanks false r)).length := List.length_pos_iff.2 h0
        rw [List.length_drop] at hl
        cases n with
        | zero => omega
        | succ n =>
          rw [show p + d + blanks false r + (meas (r.drop (blanks false r))).2.1 = p + blanks false r + (meas (r.drop (blanks false r))).2.1 + d by omega, scan_mv d n _ _ (by simp only [List.length_drop]; omega)]
          simp only [List.map_cons, List.map_nil, mv]
          rw [show p + d + blanks false r = p + blanks false r + d by omega]
      · rw [if_neg h1, if_neg h1]
        simp only [mvR]
        rw [show p + d + blanks false r = p + blanks false r + d by omega]

/-- The tokens of two texts with the end of a line between. -/
theorem join_er {s t : List UInt8} {x : Nat × Nat} (h : toks s = .error x) : toks (s ++ 10 :: t) = .error x :=
  (scan_app t s.length s 0 (Nat.le_refl _)).2 x h
theorem join_er2 {s t : List UInt8} {ts : List Tok} {x p : Nat} (h : toks s = .ok ts) (h2 : toks t = .error (x, p)) : toks (s ++ 10 :: t) = .error (x, p + (s.length + 1)) := by
  obtain ⟨ini, _, hj⟩ := (scan_app t s.length s 0 (Nat.le_refl _)).1 ts h
  have hm := scan_mv (s.length + 1) t.length t 0 (Nat.le_refl _)
  rw [show scanR t 0 = .error (x, p) from h2] at hm
  rw [show toks (s ++ 10 :: t) = scanR (s ++ 10 :: t) 0 from rfl, hj, show 0 + s.length + 1 = 0 + (s.length + 1) by omega, hm]
  rfl
theorem join_ok {s t : List UInt8} {ts us : List Tok} (h : toks s = .ok ts) (h2 : toks t = .ok us) : ∃ ini, ts = ini ++ [⟨0, [], s.length⟩] ∧ toks (s ++ 10 :: t) = .ok (ini ++ us.map (mv (s.length + 1))) := by
  obtain ⟨ini, hi, hj⟩ := (scan_app t s.length s 0 (Nat.le_refl _)).1 ts h
  have hm := scan_mv (s.length + 1) t.length t 0 (Nat.le_refl _)
  rw [show scanR t 0 = .ok us from h2] at hm
  refine ⟨ini, by rw [hi]; simp, ?_⟩
  rw [show toks (s ++ 10 :: t) = scanR (s ++ 10 :: t) 0 from rfl, hj, show 0 + s.length + 1 = 0 + (s.length + 1) by omega, hm]
  rfl
end Go.Proofs.YtfemddchaihokaaDoor
