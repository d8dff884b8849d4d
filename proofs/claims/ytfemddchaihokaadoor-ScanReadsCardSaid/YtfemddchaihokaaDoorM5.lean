/-
  Tokens with blanks and comments between are the same tokens.
-/
import Derived.Test.YtfemddchaihokaaDoorM4
namespace Go.Proofs.YtfemddchaihokaaDoor

def atK (i : Nat) (ts : List Tok) : Nat → Nat
  | 0 => i
  | k + 1 => match ts[k]? with
    | some t => t.pos + (full t).length
    | none => 0
def Place (l : List UInt8) (i : Nat) (ts : List Tok) (k : Nat) (t : Tok) : Prop :=
  atK i ts k ≤ t.pos ∧ t.pos + (full t).length ≤ l.length ∧ (l.drop t.pos).take (full t).length = full t ∧ (t.kind = 0 ↔ k + 1 = ts.length)
theorem good_full {l : List UInt8} {t : Tok} {n : Nat} (hl : t.pos < l.length) (hm : meas (l.drop t.pos) = (t.kind, n, 0)) (ht : t.text = bareL t.kind ((l.drop t.pos).take n)) : full t = (l.drop t.pos).take n ∧ (full t).length = n := by
  have h0 := drop_ne hl
  have hf := full_of h0 hm t.pos
  rw [← ht] at hf
  have hk := meas_kinds h0 hm
  have e : full t = (l.drop t.pos).take n := hf
  refine ⟨e, ?_⟩
  rw [e, List.length_take]
  omega
theorem good_at {l : List UInt8} : ∀ {ts : List Tok} {i : Nat}, Good l i ts → ∀ (k : Nat) (t : Tok), ts[k]? = some t → Place l i ts k t
  | [], _, h, _, _, _ => by simp [Good] at h
  | [t], i, h, k, u, hu => by
    obtain ⟨h1, h2, h3, h4⟩ := h
    cases k with
    | zero =>
      simp only [List.getElem?_cons_zero, Option.some.injEq] at hu
      subst hu
      have e : full t = [] := by unfold full; rw [if_neg (by omega)]; exact h2
      refine ⟨h3, by rw [e]; simp; omega, by rw [e]; rfl, by simp [h1]⟩
    | succ k => simp at hu
  | t :: v :: us, i, h, k, u, hu => by
    obtain ⟨h1, h2, ⟨n, hm, ht, hg⟩, _⟩ := h
    obtain ⟨hf, hfl⟩ := good_full h2 hm ht
    have hk := meas_kinds (drop_ne h2) hm
    rw [List.length_drop] at hk
    cases k with
    | zero =>
      simp only [List.getElem?_cons_zero, Option.some.injEq] at hu
      subst hu
      refine ⟨h1, by omega, by rw [hfl, hf], ?_⟩
      constructor
      · intro h0; omega
      · intro hx; simp at hx
    | succ k =>
      have ih := good_at hg k u (by simpa using hu)
      obtain ⟨i1, i2, i3, i4⟩ := ih
      refine ⟨?_, i2, i3, by rw [i4]; simp⟩
      cases k with
      | zero =>
        show (match (t :: v :: us)[0]? with | some t => t.pos + (full t).length | none => 0) ≤ _
        simp only [List.getElem?_cons_zero]
        rw [hfl]
        exact i1
      | succ k => exact i1

theorem first_ok {c : UInt8} {r : List UInt8} {k n : Nat} (h : meas (c :: r) = (k, n, 0)) : blankB c = false ∧ c.toNat ≠ 47 := by
  have key : (c.toNat = 32 ∨ c.toNat = 9 ∨ c.toNat = 10 ∨ c.toNat = 13 ∨ c.toNat = 47) → False := by
    intro hc
    have hd : digitB c = false := by simp only [digitB, Bool.and_eq_false_iff, decide_eq_false_iff_not]; omega
    have hl : letterB c = false := by simp only [letterB, Bool.or_eq_false_iff, Bool.and_eq_false_iff, decide_eq_false_iff_not, beq_eq_false_iff_ne]; omega
    have hq : quoteB c = false := by simp only [quoteB, beq_eq_false_iff_ne]; omega
    have ho : oneB c = false := by rcases hc with h | h | h | h | h <;> simp [oneB, h]
    have ht : twoB (c :: r) = false := by
      cases r with
      | nil => rfl
      | cons b r => rcases hc with h | h | h | h | h <;> simp [twoB, h]
    have hs : signN (c :: r) = 0 := by simp only [signN]; rw [ht, ho]; rfl
    simp only [meas] at h
    rw [if_neg (by simp [hd]), if_neg (by simp [hl]), if_neg (by simp [hq]), hs] at h
    injection h with _ h
    injection h with _ h
    cases h
  constructor
  · cases hb : blankB c with
    | false => rfl
    | true => exact (key (by simp only [blankB, Bool.or_eq_true, beq_iff_eq] at hb; omega)).elim
  · intro h47
    exact key (by omega)

def wideL (ts : List Tok) : List UInt8 := ts.flatMap (fun t => 32 :: full t ++ [32, 47, 47, 32, 120, 10])
theorem wideL_snoc (ts : List Tok) (t : Tok) : wideL (ts ++ [t]) = wideL ts ++ (32 :: full t ++ [32, 47, 47, 32, 120, 10]) := by simp [wideL]
theorem wideL_cons (t : Tok) (ts : List Tok) : wideL (t :: ts) = 32 :: (full t ++ (32 :: 47 :: 47 :: 32 :: 120 :: 10 :: wideL ts)) := by simp [wideL]
def Same (ts ms : List Tok) : Prop := ms.length = ts.length ∧ ∀ (k : Nat) (t : Tok), ts[k]? = some t → ∃ m : Tok, ms[k]? = some m ∧ m.kind = t.kind ∧ m.text = t.text
theorem wide_ok {l : List UInt8} : ∀ {ts : List Tok} {i : Nat}, Good l i ts → ∀ p, ∃ ms, scanR (wideL ts) p = .ok ms ∧ Same ts ms
  | [], _, h, _ => by simp [Good] at h
  | [t], i, h, p => by
    obtain ⟨h1, h2, h3, h4⟩ := h
    have e : full t = [] := by unfold full; rw [if_neg (by omega)]; exact h2
    refine ⟨[⟨0, [], p + 7⟩], ?_, rfl, ?_⟩
    · have ew : wideL [t] = [32, 32, 47, 47, 32, 120, 10] := by rw [wideL_cons, e]; rfl
      rw [ew, scanR_step, if_pos (by decide)]
      rfl
    · intro k u hu
      cases k with
      | zero =>
        simp only [List.getElem?_cons_zero, Option.some.injEq] at hu
        subst hu
        exact ⟨_, rfl, h1.symm, h2.symm⟩
      | succ k => simp at hu
  | t :: v :: us, i, h, p => by
    obtain ⟨h1, h2, ⟨n, hm, ht, hg⟩, _⟩ := h
    obtain ⟨hf, hfl⟩ := good_full h2 hm ht
    have h0 := drop_ne h2
    have hk := meas_kinds h0 hm
    have hre := re_meas h0 hm (47 :: 47 :: 32 :: 120 :: 10 :: wideL (v :: us))
    rw [← hf] at hre
    have hbl : blanks false (full t ++ (32 :: 47 :: 47 :: 32 :: 120 :: 10 :: wideL (v :: us))) = 0 := by
      cases hft : full t with
      | nil => rw [hft] at hfl; simp at hfl; omega
      | cons c r =>
        rw [hft, List.cons_append] at hre
        obtain ⟨hb, hc⟩ := first_ok hre
        rw [List.cons_append, blanks, if_neg (by simp [hb]), if_neg (fun hx => hc hx.1)]
    have hb1 : blanks false (wideL (t :: v :: us)) = 1 := by
      rw [wideL_cons]
      simp only [blanks]
      rw [if_pos (by decide), hbl]
    have hd1 : (wideL (t :: v :: us)).drop 1 = full t ++ (32 :: 47 :: 47 :: 32 :: 120 :: 10 :: wideL (v :: us)) := by
      rw [wideL_cons]; rfl
    have hr2 : ∀ q, scanR (32 :: 47 :: 47 :: 32 :: 120 :: 10 :: wideL (v :: us)) q = scanR (wideL (v :: us)) (q + 6) := by
      intro q
      have hb6 : blanks false (32 :: 47 :: 47 :: 32 :: 120 :: 10 :: wideL (v :: us)) = 6 + blanks false (wideL (v :: us)) := by
        simp [blanks, blankB]
        omega
      refine scanR_blank _ _ q 6 ?_ hb6 (by simp; omega)
      rw [hb6, Nat.add_comm]
      rfl
    obtain ⟨ms, hms, hs1, hs2⟩ := wide_ok hg (p + 1 + n + 6)
    have hst := scanR_step (wideL (t :: v :: us)) p
    rw [hb1, hd1, hre, if_neg (by simp)] at hst
    simp only [if_true] at hst
    rw [List.take_left' hfl, List.drop_left' hfl, hr2, hms] at hst
    refine ⟨_, hst, by simp [hs1], ?_⟩
    intro k u hu
    cases k with
    | zero =>
      simp only [List.getElem?_cons_zero, Option.some.injEq] at hu
      subst hu
      exact ⟨_, rfl, rfl, by rw [ht, hf]⟩
    | succ k =>
      obtain ⟨m, e1, e2, e3⟩ := hs2 k u (by simpa using hu)
      exact ⟨m, by simpa using e1, e2, e3⟩
theorem wide_toks {l : List UInt8} {ts : List Tok} (h : toks l = .ok ts) : ∃ ms, toks (wideL ts) = .ok ms ∧ Same ts ms := wide_ok (good_toks h) 0
end Go.Proofs.YtfemddchaihokaaDoor
