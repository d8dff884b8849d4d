/-
  The tokens of a text, as the document says them: plain lists of bytes, nothing of the program.
-/
namespace Go.Proofs.YtfemddchaihokaaDoor

def blankB (c : UInt8) : Bool := c.toNat == 32 || c.toNat == 9 || c.toNat == 10 || c.toNat == 13
def digitB (c : UInt8) : Bool := decide (48 ≤ c.toNat) && decide (c.toNat ≤ 57)
def letterB (c : UInt8) : Bool := c.toNat == 95 || (decide (65 ≤ c.toNat) && decide (c.toNat ≤ 90)) || (decide (97 ≤ c.toNat) && decide (c.toNat ≤ 122))
def nameB (c : UInt8) : Bool := letterB c || digitB c
def labelB (c : UInt8) : Bool := decide (32 ≤ c.toNat) && decide (c.toNat ≤ 126) && c.toNat != 34
def commB (c : UInt8) : Bool := c.toNat != 10
def quoteB (c : UInt8) : Bool := c.toNat == 34

/-- How many bytes that go on stand at the beginning. -/
def cnt (p : UInt8 → Bool) (l : List UInt8) : Nat := (l.takeWhile p).length

/-- How many bytes at the beginning are blanks or in a comment; the first word: are we in a comment? -/
def blanks : Bool → List UInt8 → Nat
  | _, [] => 0
  | true, c :: l => if c.toNat = 10 then 1 + blanks false l else 1 + blanks true l
  | false, c :: l => if blankB c then 1 + blanks false l else if c.toNat = 47 ∧ l.head?.map (·.toNat) = some 47 then 1 + blanks true l else 0

def valOf (l : List UInt8) : Nat := l.foldl (fun n c => n * 10 + (c.toNat - 48)) 0

def twoB : List UInt8 → Bool
  | a :: b :: _ => (a.toNat == 45 && b.toNat == 62) || (a.toNat == 60 && b.toNat == 61) || (a.toNat == 62 && b.toNat == 61) || (a.toNat == 33 && b.toNat == 61) || (a.toNat == 61 && b.toNat == 62) || (a.toNat == 46 && b.toNat == 46)
  | _ => false
def oneB (c : UInt8) : Bool := [91, 93, 40, 41, 58, 59, 44, 43, 45, 42, 38, 124, 33, 61, 60, 62, 63, 39].contains c.toNat
def signN : List UInt8 → Nat
  | [] => 0
  | c :: r => if twoB (c :: r) then 2 else if oneB c then 1 else 0
def labN (r : List UInt8) : Nat := if cnt labelB r = 0 ∨ 32 < cnt labelB r ∨ (r[cnt labelB r]?).map (·.toNat) ≠ some 34 then 0 else cnt labelB r + 2

/-- The kind, the length and the error's number of the token with which a text begins. -/
def meas : List UInt8 → Nat × Nat × Nat
  | [] => (0, 0, 20)
  | c :: r =>
    if digitB c then (2, cnt digitB (c :: r), if valOf ((c :: r).takeWhile digitB) < 9223372036854775808 then 0 else 10)
    else if letterB c then (1, cnt nameB (c :: r), 0)
    else if quoteB c then (3, labN r, if labN r = 0 then 20 else 0)
    else (4, signN (c :: r), if signN (c :: r) = 0 then 20 else 0)

structure Tok where
  kind : Nat
  text : List UInt8
  pos : Nat
  deriving DecidableEq

def bareL (k : Nat) (l : List UInt8) : List UInt8 := if k = 3 then (l.drop 1).take (l.length - 2) else l

inductive Res where
  | ok (ts : List Tok)
  | error (x : Nat × Nat)
  deriving DecidableEq
def onto (a : List Tok) : Res → Res
  | .ok ts => .ok (a ++ ts)
  | .error x => .error x

def scanF : Nat → List UInt8 → Nat → Res
  | 0, _, _ => .error (0, 0)
  | f + 1, r, p =>
    if r.drop (blanks false r) = [] then .ok [⟨0, [], p + blanks false r⟩]
    else if (meas (r.drop (blanks false r))).2.2 = 0 then
      onto [⟨(meas (r.drop (blanks false r))).1, bareL (meas (r.drop (blanks false r))).1 ((r.drop (blanks false r)).take (meas (r.drop (blanks false r))).2.1), p + blanks false r⟩]
        (scanF f ((r.drop (blanks false r)).drop (meas (r.drop (blanks false r))).2.1) (p + blanks false r + (meas (r.drop (blanks false r))).2.1))
    else .error ((meas (r.drop (blanks false r))).2.2, p + blanks false r)

def toks (l : List UInt8) : Res := scanF (l.length + 1) l 0
/-- What is told from a place on. -/
def scanG (l : List UInt8) (i : Nat) : Res := scanF (l.length - i + 1) (l.drop i) i

theorem onto_nil (r : Res) : onto [] r = r := by cases r <;> rfl
theorem onto_onto (a b : List Tok) (r : Res) : onto a (onto b r) = onto (a ++ b) r := by cases r <;> simp [onto]

theorem cnt_le (p : UInt8 → Bool) (l : List UInt8) : cnt p l ≤ l.length := by
  unfold cnt; exact (List.takeWhile_sublist p).length_le
theorem cnt_cons_pos {p : UInt8 → Bool} {c : UInt8} (r : List UInt8) (h : p c = true) : cnt p (c :: r) = cnt p r + 1 := by
  unfold cnt; rw [List.takeWhile_cons, if_pos h]; rfl
theorem cnt_cons_neg {p : UInt8 → Bool} {c : UInt8} (r : List UInt8) (h : p c = false) : cnt p (c :: r) = 0 := by
  unfold cnt; rw [List.takeWhile_cons, if_neg (by simp [h])]; rfl
theorem cnt_nil (p : UInt8 → Bool) : cnt p [] = 0 := rfl
theorem take_cnt (p : UInt8 → Bool) (l : List UInt8) : l.take (cnt p l) = l.takeWhile p := by
  induction l with
  | nil => rfl
  | cons c r ih =>
    by_cases h : p c = true
    · rw [cnt_cons_pos r h, List.takeWhile_cons, if_pos h, List.take_succ_cons, ih]
    · rw [cnt_cons_neg r (by simpa using h), List.takeWhile_cons, if_neg h]; rfl

theorem blanks_le : ∀ (b : Bool) (l : List UInt8), blanks b l ≤ l.length
  | b, [] => by cases b <;> simp [blanks]
  | true, c :: l => by
    have h1 := blanks_le false l
    have h2 := blanks_le true l
    simp only [blanks, List.length_cons]; split <;> omega
  | false, c :: l => by
    have h1 := blanks_le false l
    have h2 := blanks_le true l
    simp only [blanks, List.length_cons]; split
    · omega
    · split <;> omega

/-- A comment goes up to the end of its line. -/
theorem blanks_comm (l : List UInt8) : blanks true l = cnt commB l + blanks false (l.drop (cnt commB l)) := by
  induction l with
  | nil => rfl
  | cons c r ih =>
    by_cases h : c.toNat = 10
    · have hc : commB c = false := by simp [commB, h]
      rw [cnt_cons_neg r hc]
      simp [blanks, h, blankB]
    · have hc : commB c = true := by simp [commB, h]
      rw [cnt_cons_pos r hc, blanks, if_neg h, ih, List.drop_succ_cons]
      omega

/-- Behind all blanks there is none. -/
theorem blanks_behind : ∀ (b : Bool) (l : List UInt8), blanks false (l.drop (blanks b l)) = 0
  | b, [] => by cases b <;> rfl
  | true, c :: l => by
    have h1 := blanks_behind false l
    have h2 := blanks_behind true l
    simp only [blanks]; split
    · rw [Nat.add_comm, List.drop_succ_cons]; exact h1
    · rw [Nat.add_comm, List.drop_succ_cons]; exact h2
  | false, c :: l => by
    have h1 := blanks_behind false l
    have h2 := blanks_behind true l
    by_cases hb : blankB c = true
    · rw [blanks, if_pos hb, Nat.add_comm, List.drop_succ_cons]; exact h1
    · by_cases hc : c.toNat = 47 ∧ l.head?.map (·.toNat) = some 47
      · rw [blanks, if_neg hb, if_pos hc, Nat.add_comm, List.drop_succ_cons]; exact h2
      · have e : blanks false (c :: l) = 0 := by rw [blanks, if_neg hb, if_neg hc]
        rw [e, List.drop_zero, e]
theorem blanks_twice (l : List UInt8) (i : Nat) : blanks false (l.drop (i + blanks false (l.drop i))) = 0 := by
  rw [← List.drop_drop]; exact blanks_behind false (l.drop i)
theorem signN_le (l : List UInt8) : signN l ≤ l.length := by
  cases l with
  | nil => simp [signN]
  | cons c r =>
    cases r with
    | nil => by_cases h : oneB c = true <;> simp [signN, twoB, h]
    | cons d r => simp only [signN, List.length_cons]; split <;> (try split) <;> omega
theorem labN_le (r : List UInt8) : labN r ≤ r.length + 1 := by
  unfold labN
  split
  · omega
  · rename_i h
    have h3 : (r[cnt labelB r]?).map (·.toNat) = some 34 := by
      apply Classical.byContradiction
      intro hx
      exact h (.inr (.inr hx))
    have : cnt labelB r < r.length := by
      apply Classical.byContradiction
      intro hx
      rw [List.getElem?_eq_none (by omega)] at h3
      simp at h3
    omega
theorem meas_le (l : List UInt8) : (meas l).2.1 ≤ l.length := by
  cases l with
  | nil => simp [meas]
  | cons c r =>
    have h1 := cnt_le digitB (c :: r)
    have h2 := cnt_le nameB (c :: r)
    have h3 := labN_le r
    have h4 := signN_le (c :: r)
    simp only [List.length_cons] at *
    simp only [meas]
    split
    · exact h1
    · split
      · exact h2
      · split
        · simpa using h3
        · exact h4
theorem meas_pos (l : List UInt8) (h0 : l ≠ []) (h : (meas l).2.2 = 0) : 0 < (meas l).2.1 := by
  cases l with
  | nil => exact absurd rfl h0
  | cons c r =>
    simp only [meas] at h ⊢
    split
    · rename_i hd
      have := cnt_cons_pos r hd
      simp only; omega
    · rename_i hd
      rw [if_neg hd] at h
      split
      · rename_i hl
        have : nameB c = true := by simp [nameB, hl]
        have := cnt_cons_pos r this
        simp only; omega
      · rename_i hl
        rw [if_neg hl] at h
        split
        · rename_i hq
          rw [if_pos hq] at h
          simp only at h ⊢
          split at h
          · cases h
          · omega
        · rename_i hq
          rw [if_neg hq] at h
          simp only at h ⊢
          split at h
          · cases h
          · omega

/-- How much fuel there is plays no part. -/
theorem scanF_fuel : ∀ (f g : Nat) (r : List UInt8) (p : Nat), r.length < f → r.length < g → scanF f r p = scanF g r p
  | 0, _, _, _, h, _ => by omega
  | _, 0, _, _, _, h => by omega
  | f + 1, g + 1, r, p, hf, hg => by
    unfold scanF
    by_cases h0 : r.drop (blanks false r) = []
    · rw [if_pos h0, if_pos h0]
    · rw [if_neg h0, if_neg h0]
      by_cases h1 : (meas (r.drop (blanks false r))).2.2 = 0
      · rw [if_pos h1, if_pos h1]
        have hp := meas_pos _ h0 h1
        have hl : 0 < (r.drop (blanks false r)).length := List.length_pos_iff.2 h0
        have hd : ((r.drop (blanks false r)).drop (meas (r.drop (blanks false r))).2.1).length < r.length := by
          simp only [List.length_drop] at hl ⊢; omega
        rw [scanF_fuel f g _ _ (by omega) (by omega)]
      · rw [if_neg h1, if_neg h1]

theorem toks_eq (l : List UInt8) : toks l = scanG l 0 := by simp [toks, scanG]

/-- What is told from a place on at which neither a blank nor a comment stands. -/
def tokG (l : List UInt8) (i : Nat) : Res :=
  if l.drop i = [] then .ok [⟨0, [], l.length⟩]
  else if (meas (l.drop i)).2.2 = 0 then onto [⟨(meas (l.drop i)).1, bareL (meas (l.drop i)).1 ((l.drop i).take (meas (l.drop i)).2.1), i⟩] (scanG l (i + (meas (l.drop i)).2.1))
  else .error ((meas (l.drop i)).2.2, i)

theorem scanG_tok (l : List UInt8) (i : Nat) (hi : i ≤ l.length) : scanG l i = tokG l (i + blanks false (l.drop i)) := by
  have hb := blanks_le false (l.drop i)
  simp only [List.length_drop] at hb
  unfold scanG
  rw [scanF]
  unfold tokG
  rw [List.drop_drop]
  by_cases h0 : l.drop (i + blanks false (l.drop i)) = []
  · rw [if_pos h0, if_pos h0]
    have : l.length ≤ i + blanks false (l.drop i) := by simpa using h0
    have e : i + blanks false (l.drop i) = l.length := by omega
    rw [e]
  · rw [if_neg h0, if_neg h0]
    by_cases h1 : (meas (l.drop (i + blanks false (l.drop i)))).2.2 = 0
    · rw [if_pos h1, if_pos h1]
      have hp := meas_pos _ h0 h1
      have hl : 0 < (l.drop (i + blanks false (l.drop i))).length := List.length_pos_iff.2 h0
      have hm := meas_le (l.drop (i + blanks false (l.drop i)))
      simp only [List.length_drop] at hl hm
      rw [List.drop_drop]
      unfold scanG
      rw [scanF_fuel (l.length - i) (l.length - (i + blanks false (l.drop i) + (meas (l.drop (i + blanks false (l.drop i)))).2.1) + 1) _ _ (by simp only [List.length_drop]; omega) (by simp only [List.length_drop]; omega)]
    · rw [if_neg h1, if_neg h1]

theorem drop_cons (l : List UInt8) (i : Nat) (h : i < l.length) : l.drop i = l[i] :: l.drop (i + 1) := List.drop_eq_getElem_cons h
theorem blanks_one {l : List UInt8} {i : Nat} (h : i < l.length) (hb : blankB l[i] = true) : blanks false (l.drop i) = 1 + blanks false (l.drop (i + 1)) := by
  rw [drop_cons l i h]; simp [blanks, hb]
theorem blanks_line {l : List UInt8} {i : Nat} (h : i + 1 < l.length) (h1 : l[i].toNat = 47) (h2 : l[i + 1].toNat = 47) :
    blanks false (l.drop i) = cnt commB (l.drop i) + blanks false (l.drop (i + cnt commB (l.drop i))) := by
  have hb : blankB l[i] = false := by simp [blankB, h1]
  have hc : commB l[i] = true := by simp [commB, h1]
  have e := drop_cons l i (by omega)
  have hd : l.drop (i + cnt commB (l.drop i)) = (l.drop (i + 1)).drop (cnt commB (l.drop (i + 1))) := by
    rw [List.drop_drop, e, cnt_cons_pos _ hc]
    congr 1
    omega
  rw [hd]
  conv => lhs; rw [e]
  rw [blanks, if_neg (by simp [hb]), if_pos ⟨h1, by rw [drop_cons l (i + 1) h, List.head?_cons]; exact congrArg some h2⟩, blanks_comm]
  rw [e, cnt_cons_pos _ hc]
  omega
theorem blanks_none {l : List UInt8} {i : Nat} (h : i < l.length) (hb : blankB l[i] = false) (hc : ¬ (l[i].toNat = 47 ∧ ∃ h' : i + 1 < l.length, l[i + 1].toNat = 47)) : blanks false (l.drop i) = 0 := by
  rw [drop_cons l i h, blanks, if_neg (by simp [hb]), if_neg]
  rintro ⟨h1, h2⟩
  refine hc ⟨h1, ?_⟩
  by_cases hl : i + 1 < l.length
  · refine ⟨hl, ?_⟩
    rw [drop_cons l (i + 1) hl, List.head?_cons] at h2
    exact Option.some.inj h2
  · rw [List.drop_eq_nil_of_le (by omega)] at h2
    simp at h2
theorem scanG_skip {l : List UInt8} {i b : Nat} (hi : i + b ≤ l.length) (h : blanks false (l.drop i) = b + blanks false (l.drop (i + b))) : scanG l i = scanG l (i + b) := by
  rw [scanG_tok l i (by omega), scanG_tok l (i + b) hi, h]
  congr 1
  omega
theorem scanG_at {l : List UInt8} {i : Nat} (hi : i ≤ l.length) (h : blanks false (l.drop i) = 0) : scanG l i = tokG l i := by
  rw [scanG_tok l i hi, h]; rfl
theorem tokG_end (l : List UInt8) : tokG l l.length = .ok [⟨0, [], l.length⟩] := by simp [tokG]
theorem blanks_end (l : List UInt8) : blanks false (l.drop l.length) = 0 := by simp [blanks]
theorem drop_ne {l : List UInt8} {i : Nat} (h : i < l.length) : l.drop i ≠ [] := by simpa using h

theorem toks_ex1 : toks [120, 39, 61, 120, 43, 49] = .ok [⟨1, [120], 0⟩, ⟨4, [39], 1⟩, ⟨4, [61], 2⟩, ⟨1, [120], 3⟩, ⟨4, [43], 4⟩, ⟨2, [49], 5⟩, ⟨0, [], 6⟩] := by decide +kernel
theorem toks_ex2 : toks [97, 32, 36] = .error (20, 2) := by decide +kernel
end Go.Proofs.YtfemddchaihokaaDoor
