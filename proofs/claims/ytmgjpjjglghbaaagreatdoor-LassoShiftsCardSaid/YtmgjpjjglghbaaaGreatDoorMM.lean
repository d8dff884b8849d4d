/-
  The tokens of a text, as the document says them: plain lists of bytes, nothing of the program. The number that digits stand for, as the library's parser finds it. The tokens of two texts with the end of a line between. What the tokens of a text are: they rise, and don't overlap; the bytes of each are its text; blanks between change nothing. Tokens with blanks and comments between are the same tokens. Where a reader can be; what names and numbers are.
-/
import Derived.Lib.ParseIntB
namespace Go.Proofs.YtmgjpjjglghbaaaGreatDoor
section
def blankB (c : UInt8) : Bool := c.toNat == 32 || c.toNat == 9 || c.toNat == 10 || c.toNat == 13
def digitB (c : UInt8) : Bool := decide (48 ≤ c.toNat) && decide (c.toNat ≤ 57)
def letterB (c : UInt8) : Bool := c.toNat == 95 || (decide (65 ≤ c.toNat) && decide (c.toNat ≤ 90)) || (decide (97 ≤ c.toNat) && decide (c.toNat ≤ 122))
def nameB (c : UInt8) : Bool := letterB c || digitB c
def labelB (c : UInt8) : Bool := decide (32 ≤ c.toNat) && decide (c.toNat ≤ 126) && c.toNat != 34
def commB (c : UInt8) : Bool := c.toNat != 10
def quoteB (c : UInt8) : Bool := c.toNat == 34

/-- How many bytes that go on stand at the beginning. -/
def cnt (p : UInt8 → Bool) (l : List UInt8) : Nat := (l.takeWhile p).length

/-- How many bytes at the beginning are blanks or in a comment; the first word: are we in a comment? -/
def blanks : Bool → List UInt8 → Nat
  | _, [] => 0
  | true, c :: l => if c.toNat = 10 then 1 + blanks false l else 1 + blanks true l
  | false, c :: l => if blankB c then 1 + blanks false l else if c.toNat = 47 ∧ l.head?.map (·.toNat) = some 47 then 1 + blanks true l else 0

def valOf (l : List UInt8) : Nat := l.foldl (fun n c => n * 10 + (c.toNat - 48)) 0

def twoB : List UInt8 → Bool
  | a :: b :: _ => (a.toNat == 45 && b.toNat == 62) || (a.toNat == 60 && b.toNat == 61) || (a.toNat == 62 && b.toNat == 61) || (a.toNat == 33 && b.toNat == 61) || (a.toNat == 61 && b.toNat == 62) || (a.toNat == 46 && b.toNat == 46)
  | _ => false
def oneB (c : UInt8) : Bool := [91, 93, 40, 41, 58, 59, 44, 43, 45, 42, 38, 124, 33, 61, 60, 62, 63, 39].contains c.toNat
def signN : List UInt8 → Nat
  | [] => 0
  | c :: r => if twoB (c :: r) then 2 else if oneB c then 1 else 0
def labN (r : List UInt8) : Nat := if cnt labelB r = 0 ∨ 32 < cnt labelB r ∨ (r[cnt labelB r]?).map (·.toNat) ≠ some 34 then 0 else cnt labelB r + 2

/-- The kind, the length and the error's number of the token with which a text begins. -/
def meas : List UInt8 → Nat × Nat × Nat
  | [] => (0, 0, 20)
  | c :: r =>
    if digitB c then (2, cnt digitB (c :: r), if valOf ((c :: r).takeWhile digitB) < 9223372036854775808 then 0 else 10)
    else if letterB c then (1, cnt nameB (c :: r), 0)
    else if quoteB c then (3, labN r, if labN r = 0 then 20 else 0)
    else (4, signN (c :: r), if signN (c :: r) = 0 then 20 else 0)

structure Tok where
  kind : Nat
  text : List UInt8
  pos : Nat
  deriving DecidableEq

def bareL (k : Nat) (l : List UInt8) : List UInt8 := if k = 3 then (l.drop 1).take (l.length - 2) else l

inductive Res where
  | ok (ts : List Tok)
  | error (x : Nat × Nat)
  deriving DecidableEq
def onto (a : List Tok) : Res → Res
  | .ok ts => .ok (a ++ ts)
  | .error x => .error x

def scanF : Nat → List UInt8 → Nat → Res
  | 0, _, _ => .error (0, 0)
  | f + 1, r, p =>
    if r.drop (blanks false r) = [] then .ok [⟨0, [], p + blanks false r⟩]
    else if (meas (r.drop (blanks false r))).2.2 = 0 then
      onto [⟨(meas (r.drop (blanks false r))).1, bareL (meas (r.drop (blanks false r))).1 ((r.drop (blanks false r)).take (meas (r.drop (blanks false r))).2.1), p + blanks false r⟩]
        (scanF f ((r.drop (blanks false r)).drop (meas (r.drop (blanks false r))).2.1) (p + blanks false r + (meas (r.drop (blanks false r))).2.1))
    else .error ((meas (r.drop (blanks false r))).2.2, p + blanks false r)

def toks (l : List UInt8) : Res := scanF (l.length + 1) l 0
/-- What is told from a place on. -/
def scanG (l : List UInt8) (i : Nat) : Res := scanF (l.length - i + 1) (l.drop i) i

theorem onto_nil (r : Res) : onto [] r = r := by cases r <;> rfl
theorem onto_onto (a b : List Tok) (r : Res) : onto a (onto b r) = onto (a ++ b) r := by cases r <;> simp [onto]

theorem cnt_le (p : UInt8 → Bool) (l : List UInt8) : cnt p l ≤ l.length := by
  unfold cnt; exact (List.takeWhile_sublist p).length_le
theorem cnt_cons_pos {p : UInt8 → Bool} {c : UInt8} (r : List UInt8) (h : p c = true) : cnt p (c :: r) = cnt p r + 1 := by
  unfold cnt; rw [List.takeWhile_cons, if_pos h]; rfl
theorem cnt_cons_neg {p : UInt8 → Bool} {c : UInt8} (r : List UInt8) (h : p c = false) : cnt p (c :: r) = 0 := by
  unfold cnt; rw [List.takeWhile_cons, if_neg (by simp [h])]; rfl
theorem cnt_nil (p : UInt8 → Bool) : cnt p [] = 0 := rfl
theorem take_cnt (p : UInt8 → Bool) (l : List UInt8) : l.take (cnt p l) = l.takeWhile p := by
  induction l with
  | nil => rfl
  | cons c r ih =>
    by_cases h : p c = true
    · rw [cnt_cons_pos r h, List.takeWhile_cons, if_pos h, List.take_succ_cons, ih]
    · rw [cnt_cons_neg r (by simpa using h), List.takeWhile_cons, if_neg h]; rfl

theorem blanks_le : ∀ (b : Bool) (l : List UInt8), blanks b l ≤ l.length
  | b, [] => by cases b <;> simp [blanks]
  | true, c :: l => by
    have h1 := blanks_le false l
    have h2 := blanks_le true l
    simp only [blanks, List.length_cons]; split <;> omega
  | false, c :: l => by
    have h1 := blanks_le false l
    have h2 := blanks_le true l
    simp only [blanks, List.length_cons]; split
    · omega
    · split <;> omega

/-- A comment goes up to the end of its line. -/
theorem blanks_comm (l : List UInt8) : blanks true l = cnt commB l + blanks false (l.drop (cnt commB l)) := by
  induction l with
  | nil => rfl
  | cons c r ih =>
    by_cases h : c.toNat = 10
    · have hc : commB c = false := by simp [commB, h]
      rw [cnt_cons_neg r hc]
      simp [blanks, h, blankB]
    · have hc : commB c = true := by simp [commB, h]
      rw [cnt_cons_pos r hc, blanks, if_neg h, ih, List.drop_succ_cons]
      omega

/-- Behind all blanks there is none. -/
theorem blanks_behind : ∀ (b : Bool) (l : List UInt8), blanks false (l.drop (blanks b l)) = 0
  | b, [] => by cases b <;> rfl
  | true, c :: l => by
    have h1 := blanks_behind false l
    have h2 := blanks_behind true l
    simp only [blanks]; split
    · rw [Nat.add_comm, List.drop_succ_cons]; exact h1
    · rw [Nat.add_comm, List.drop_succ_cons]; exact h2
  | false, c :: l => by
    have h1 := blanks_behind false l
    have h2 := blanks_behind true l
    by_cases hb : blankB c = true
    · rw [blanks, if_pos hb, Nat.add_comm, List.drop_succ_cons]; exact h1
    · by_cases hc : c.toNat = 47 ∧ l.head?.map (·.toNat) = some 47
      · rw [blanks, if_neg hb, if_pos hc, Nat.add_comm, List.drop_succ_cons]; exact h2
      · have e : blanks false (c :: l) = 0 := by rw [blanks, if_neg hb, if_neg hc]
        rw [e, List.drop_zero, e]
theorem blanks_twice (l : List UInt8) (i : Nat) : blanks false (l.drop (i + blanks false (l.drop i))) = 0 := by
  rw [← List.drop_drop]; exact blanks_behind false (l.drop i)
theorem signN_le (l : List UInt8) : signN l ≤ l.length := by
  cases l with
  | nil => simp [signN]
  | cons c r =>
    cases r with
    | nil => by_cases h : oneB c = true <;> simp [signN, twoB, h]
    | cons d r => simp only [signN, List.length_cons]; split <;> (try split) <;> omega
theorem labN_le (r : List UInt8) : labN r ≤ r.length + 1 := by
  unfold labN
  split
  · omega
  · rename_i h
    have h3 : (r[cnt labelB r]?).map (·.toNat) = some 34 := by
      apply Classical.byContradiction
      intro hx
      exact h (.inr (.inr hx))
    have : cnt labelB r < r.length := by
      apply Classical.byContradiction
      intro hx
      rw [List.getElem?_eq_none (by omega)] at h3
      simp at h3
    omega
theorem meas_le (l : List UInt8) : (meas l).2.1 ≤ l.length := by
  cases l with
  | nil => simp [meas]
  | cons c r =>
    have h1 := cnt_le digitB (c :: r)
    have h2 := cnt_le nameB (c :: r)
    have h3 := labN_le r
    have h4 := signN_le (c :: r)
    simp only [List.length_cons] at *
    simp only [meas]
    split
    · exact h1
    · split
      · exact h2
      · split
        · simpa using h3
        · exact h4
theorem meas_pos (l : List UInt8) (h0 : l ≠ []) (h : (meas l).2.2 = 0) : 0 < (meas l).2.1 := by
  cases l with
  | nil => exact absurd rfl h0
  | cons c r =>
    simp only [meas] at h ⊢
    split
    · rename_i hd
      have := cnt_cons_pos r hd
      simp only; omega
    · rename_i hd
      rw [if_neg hd] at h
      split
      · rename_i hl
        have : nameB c = true := by simp [nameB, hl]
        have := cnt_cons_pos r this
        simp only; omega
      · rename_i hl
        rw [if_neg hl] at h
        split
        · rename_i hq
          rw [if_pos hq] at h
          simp only at h ⊢
          split at h
          · cases h
          · omega
        · rename_i hq
          rw [if_neg hq] at h
          simp only at h ⊢
          split at h
          · cases h
          · omega

/-- How much fuel there is plays no part. -/
theorem scanF_fuel : ∀ (f g : Nat) (r : List UInt8) (p : Nat), r.length < f → r.length < g → scanF f r p = scanF g r p
  | 0, _, _, _, h, _ => by omega
  | _, 0, _, _, _, h => by omega
  | f + 1, g + 1, r, p, hf, hg => by
    unfold scanF
    by_cases h0 : r.drop (blanks false r) = []
    · rw [if_pos h0, if_pos h0]
    · rw [if_neg h0, if_neg h0]
      by_cases h1 : (meas (r.drop (blanks false r))).2.2 = 0
      · rw [if_pos h1, if_pos h1]
        have hp := meas_pos _ h0 h1
        have hl : 0 < (r.drop (blanks false r)).length := List.length_pos_iff.2 h0
        have hd : ((r.drop (blanks false r)).drop (meas (r.drop (blanks false r))).2.1).length < r.length := by
          simp only [List.length_drop] at hl ⊢; omega
        rw [scanF_fuel f g _ _ (by omega) (by omega)]
      · rw [if_neg h1, if_neg h1]

theorem toks_eq (l : List UInt8) : toks l = scanG l 0 := by simp [toks, scanG]

/-- What is told from a place on at which neither a blank nor a comment stands. -/
def tokG (l : List UInt8) (i : Nat) : Res :=
  if l.drop i = [] then .ok [⟨0, [], l.length⟩]
  else if (meas (l.drop i)).2.2 = 0 then onto [⟨(meas (l.drop i)).1, bareL (meas (l.drop i)).1 ((l.drop i).take (meas (l.drop i)).2.1), i⟩] (scanG l (i + (meas (l.drop i)).2.1))
  else .error ((meas (l.drop i)).2.2, i)

theorem scanG_tok (l : List UInt8) (i : Nat) (hi : i ≤ l.length) : scanG l i = tokG l (i + blanks false (l.drop i)) := by
  have hb := blanks_le false (l.drop i)
  simp only [List.length_drop] at hb
  unfold scanG
  rw [scanF]
  unfold tokG
  rw [List.drop_drop]
  by_cases h0 : l.drop (i + blanks false (l.drop i)) = []
  · rw [if_pos h0, if_pos h0]
    have : l.length ≤ i + blanks false (l.drop i) := by simpa using h0
    have e : i + blanks false (l.drop i) = l.length := by omega
    rw [e]
  · rw [if_neg h0, if_neg h0]
    by_cases h1 : (meas (l.drop (i + blanks false (l.drop i)))).2.2 = 0
    · rw [if_pos h1, if_pos h1]
      have hp := meas_pos _ h0 h1
      have hl : 0 < (l.drop (i + blanks false (l.drop i))).length := List.length_pos_iff.2 h0
      have hm := meas_le (l.drop (i + blanks false (l.drop i)))
      simp only [List.length_drop] at hl hm
      rw [List.drop_drop]
      unfold scanG
      rw [scanF_fuel (l.length - i) (l.length - (i + blanks false (l.drop i) + (meas (l.drop (i + blanks false (l.drop i)))).2.1) + 1) _ _ (by simp only [List.length_drop]; omega) (by simp only [List.length_drop]; omega)]
    · rw [if_neg h1, if_neg h1]

theorem drop_cons (l : List UInt8) (i : Nat) (h : i < l.length) : l.drop i = l[i] :: l.drop (i + 1) := List.drop_eq_getElem_cons h
theorem blanks_one {l : List UInt8} {i : Nat} (h : i < l.length) (hb : blankB l[i] = true) : blanks false (l.drop i) = 1 + blanks false (l.drop (i + 1)) := by
  rw [drop_cons l i h]; simp [blanks, hb]
theorem blanks_line {l : List UInt8} {i : Nat} (h : i + 1 < l.length) (h1 : l[i].toNat = 47) (h2 : l[i + 1].toNat = 47) :
    blanks false (l.drop i) = cnt commB (l.drop i) + blanks false (l.drop (i + cnt commB (l.drop i))) := by
  have hb : blankB l[i] = false := by simp [blankB, h1]
  have hc : commB l[i] = true := by simp [commB, h1]
  have e := drop_cons l i (by omega)
  have hd : l.drop (i + cnt commB (l.drop i)) = (l.drop (i + 1)).drop (cnt commB (l.drop (i + 1))) := by
    rw [List.drop_drop, e, cnt_cons_pos _ hc]
    congr 1
    omega
  rw [hd]
  conv => lhs; rw [e]
  rw [blanks, if_neg (by simp [hb]), if_pos ⟨h1, by rw [drop_cons l (i + 1) h, List.head?_cons]; exact congrArg some h2⟩, blanks_comm]
  rw [e, cnt_cons_pos _ hc]
  omega
theorem blanks_none {l : List UInt8} {i : Nat} (h : i < l.length) (hb : blankB l[i] = false) (hc : ¬ (l[i].toNat = 47 ∧ ∃ h' : i + 1 < l.length, l[i + 1].toNat = 47)) : blanks false (l.drop i) = 0 := by
  rw [drop_cons l i h, blanks, if_neg (by simp [hb]), if_neg]
  rintro ⟨h1, h2⟩
  refine hc ⟨h1, ?_⟩
  by_cases hl : i + 1 < l.length
  · refine ⟨hl, ?_⟩
    rw [drop_cons l (i + 1) hl, List.head?_cons] at h2
    exact Option.some.inj h2
  · rw [List.drop_eq_nil_of_le (by omega)] at h2
    simp at h2
theorem scanG_skip {l : List UInt8} {i b : Nat} (hi : i + b ≤ l.length) (h : blanks false (l.drop i) = b + blanks false (l.drop (i + b))) : scanG l i = scanG l (i + b) := by
  rw [scanG_tok l i (by omega), scanG_tok l (i + b) hi, h]
  congr 1
  omega
theorem scanG_at {l : List UInt8} {i : Nat} (hi : i ≤ l.length) (h : blanks false (l.drop i) = 0) : scanG l i = tokG l i := by
  rw [scanG_tok l i hi, h]; rfl
theorem tokG_end (l : List UInt8) : tokG l l.length = .ok [⟨0, [], l.length⟩] := by simp [tokG]
theorem blanks_end (l : List UInt8) : blanks false (l.drop l.length) = 0 := by simp [blanks]
theorem drop_ne {l : List UInt8} {i : Nat} (h : i < l.length) : l.drop i ≠ [] := by simpa using h

theorem toks_ex1 : toks [120, 39, 61, 120, 43, 49] = .ok [⟨1, [120], 0⟩, ⟨4, [39], 1⟩, ⟨4, [61], 2⟩, ⟨1, [120], 3⟩, ⟨4, [43], 4⟩, ⟨2, [49], 5⟩, ⟨0, [], 6⟩] := by decide +kernel
theorem toks_ex2 : toks [97, 32, 36] = .error (20, 2) := by decide +kernel
end
section
def foldV (n : Nat) (l : List UInt8) : Nat := l.foldl (fun n c => n * 10 + (c.toNat - 48)) n
theorem valOf_fold (l : List UInt8) : valOf l = foldV 0 l := rfl
theorem foldV_cons (n : Nat) (c : UInt8) (l : List UInt8) : foldV n (c :: l) = foldV (n * 10 + (c.toNat - 48)) l := by unfold foldV; rw [List.foldl_cons]
theorem foldV_le (l : List UInt8) : ∀ n : Nat, n ≤ foldV n l := by
  induction l with
  | nil => intro n; exact Nat.le_refl _
  | cons c l ih =>
    intro n
    have h := ih (n * 10 + (c.toNat - 48))
    rw [foldV_cons]
    omega
theorem foldV_snoc (n : Nat) (l : List UInt8) (c : UInt8) : foldV n (l ++ [c]) = foldV n l * 10 + (c.toNat - 48) := by
  simp [foldV]
theorem parseM_digits (M : Nat) (hM : M < 18446744073709551616) : ∀ (l : List UInt8) (acc : Nat), acc ≤ M → (∀ c ∈ l, digitB c = true) →
    Lib.parseUintM M acc l = if foldV acc l ≤ M then .ok (foldV acc l) else .range
  | [], acc, h, _ => by
    have e : foldV acc [] = acc := rfl
    rw [Lib.parseUintM, e, if_pos h]
  | c :: l, acc, h, hd => by
    have hc := hd c List.mem_cons_self
    simp only [digitB, Bool.and_eq_true, decide_eq_true_eq] at hc
    have hle := foldV_le l (acc * 10 + (c.toNat - 48))
    rw [Lib.parseUintM, if_pos hc, foldV_cons]
    by_cases h1 : 1844674407370955162 ≤ acc
    · rw [if_pos h1, if_neg (by omega)]
    · rw [if_neg h1]
      by_cases h2 : M < acc * 10 + (c.toNat - 48)
      · rw [if_pos h2, if_neg (by omega)]
      · rw [if_neg h2, parseM_digits M hM l _ (by omega) (fun x hx => hd x (List.mem_cons_of_mem _ hx))]
theorem parse_digits (l : List UInt8) (h0 : l ≠ []) (hd : ∀ c ∈ l, digitB c = true) :
    Lib.parseIntB 64 l = if valOf l < 9223372036854775808 then .ok (valOf l : Int) else .range := by
  cases l with
  | nil => exact absurd rfl h0
  | cons c r =>
    have hc := hd c List.mem_cons_self
    simp only [digitB, Bool.and_eq_true, decide_eq_true_eq] at hc
    have e1 : ¬ (c.toNat = 43 ∨ c.toNat = 45) := by omega
    have e2 : ¬ c.toNat = 45 := by omega
    simp only [Lib.parseIntB]
    rw [if_neg e1, Lib.parseUintB, if_neg (by simp), parseM_digits _ (by decide) (c :: r) 0 (by decide) hd, ← valOf_fold]
    generalize valOf (c :: r) = v
    by_cases h1 : v ≤ 2 ^ 64 - 1
    · rw [if_pos h1]
      simp only [e2, not_false_eq_true, true_and, false_and, if_false]
      by_cases h2 : v < 9223372036854775808
      · rw [if_pos h2, if_neg (by omega)]
      · rw [if_neg h2, if_pos (by omega)]
    · rw [if_neg h1, if_neg (by omega)]
theorem while_digits (l : List UInt8) : ∀ c ∈ l.takeWhile digitB, digitB c = true := by
  intro c hc
  induction l with
  | nil => simp at hc
  | cons d r ih =>
    by_cases h : digitB d = true
    · rw [List.takeWhile_cons, if_pos h] at hc
      rcases List.mem_cons.1 hc with rfl | hc
      · exact h
      · exact ih hc
    · rw [List.takeWhile_cons, if_neg h] at hc
      simp at hc
end
section
theorem blanks_app (t : List UInt8) : ∀ (b : Bool) (r : List UInt8), (blanks b r < r.length → blanks b (r ++ 10 :: t) = blanks b r) ∧ (blanks b r = r.length → blanks b (r ++ 10 :: t) = r.length + 1 + blanks false t)
  | true, [] => by simp [blanks]
  | false, [] => by simp [blanks, blankB]
  | true, c :: r => by
    have h1 := blanks_app t false r
    have h2 := blanks_app t true r
    simp only [List.cons_append, blanks, List.length_cons]
    by_cases hc : c.toNat = 10
    · rw [if_pos hc, if_pos hc]
      refine ⟨fun h => ?_, fun h => ?_⟩
      · rw [h1.1 (by omega)]
      · rw [h1.2 (by omega)]; omega
    · rw [if_neg hc, if_neg hc]
      refine ⟨fun h => ?_, fun h => ?_⟩
      · rw [h2.1 (by omega)]
      · rw [h2.2 (by omega)]; omega
  | false, c :: r => by
    have h1 := blanks_app t false r
    have h2 := blanks_app t true r
    simp only [List.cons_append, blanks, List.length_cons]
    by_cases hb : blankB c = true
    · rw [if_pos hb, if_pos hb]
      refine ⟨fun h => ?_, fun h => ?_⟩
      · rw [h1.1 (by omega)]
      · rw [h1.2 (by omega)]; omega
    · rw [if_neg hb, if_neg hb]
      have hh : (c.toNat = 47 ∧ (r ++ 10 :: t).head?.map (·.toNat) = some 47) ↔ (c.toNat = 47 ∧ r.head?.map (·.toNat) = some 47) := by
        cases r with
        | nil => simp
        | cons a b => simp
      by_cases hc : c.toNat = 47 ∧ r.head?.map (·.toNat) = some 47
      · rw [if_pos hc, if_pos (hh.2 hc)]
        refine ⟨fun h => ?_, fun h => ?_⟩
        · rw [h2.1 (by omega)]
        · rw [h2.2 (by omega)]; omega
      · rw [if_neg hc, if_neg (fun h => hc (hh.1 h))]
        exact ⟨fun _ => rfl, fun h => by omega⟩

theorem while_app {p : UInt8 → Bool} {x : UInt8} (hx : p x = false) (t : List UInt8) (l : List UInt8) : (l ++ x :: t).takeWhile p = l.takeWhile p := by
  induction l with
  | nil => simp [hx]
  | cons c r ih =>
    rw [List.cons_append, List.takeWhile_cons, List.takeWhile_cons, ih]
theorem cnt_app {p : UInt8 → Bool} {x : UInt8} (hx : p x = false) (t : List UInt8) (l : List UInt8) : cnt p (l ++ x :: t) = cnt p l := by
  unfold cnt; rw [while_app hx]
theorem labN_app (t r : List UInt8) : labN (r ++ 10 :: t) = labN r := by
  unfold labN
  rw [cnt_app (by decide)]
  have hl := cnt_le labelB r
  by_cases h : cnt labelB r < r.length
  · rw [List.getElem?_append_left h]
  · have e : cnt labelB r = r.length := by omega
    rw [e, List.getElem?_append_right (Nat.le_refl _), List.getElem?_eq_none (Nat.le_refl _), Nat.sub_self]
    simp
theorem twoB_app {c x : UInt8} (hx : x.toNat = 10 ∨ x.toNat = 32) (t r : List UInt8) : twoB (c :: (r ++ x :: t)) = twoB (c :: r) := by
  cases r with
  | nil =>
    simp only [List.nil_append, twoB]
    rcases hx with h | h <;> rw [h] <;> simp
  | cons b r => rfl
theorem meas_app (t : List UInt8) {r : List UInt8} (h0 : r ≠ []) : meas (r ++ 10 :: t) = meas r := by
  cases r with
  | nil => exact absurd rfl h0
  | cons c r =>
    have e1 := cnt_app (p := digitB) (x := 10) (by decide) t (c :: r)
    have e2 := cnt_app (p := nameB) (x := 10) (by decide) t (c :: r)
    have e3 := while_app (p := digitB) (x := 10) (by decide) t (c :: r)
    have e4 := labN_app t r
    have e5 : signN (c :: (r ++ 10 :: t)) = signN (c :: r) := by simp only [signN]; rw [twoB_app (.inl rfl)]
    rw [List.cons_append] at e1 e2 e3
    simp only [List.cons_append, meas]
    rw [e1, e2, e3, e4, e5]

/-- What is told behind the blanks. -/
def tokF (f : Nat) (r : List UInt8) (q : Nat) : Res :=
  if r = [] then .ok [⟨0, [], q⟩]
  else if (meas r).2.2 = 0 then onto [⟨(meas r).1, bareL (meas r).1 (r.take (meas r).2.1), q⟩] (scanF f (r.drop (meas r).2.1) (q + (meas r).2.1))
  else .error ((meas r).2.2, q)
theorem scanF_tok (f : Nat) (r : List UInt8) (p : Nat) : scanF (f + 1) r p = tokF f (r.drop (blanks false r)) (p + blanks false r) := by
  rw [scanF, tokF]
/-- What is told of a text, from a place on. -/
def scanR (r : List UInt8) (p : Nat) : Res := scanF (r.length + 1) r p
theorem scanR_fuel {f : Nat} {r : List UInt8} (p : Nat) (h : r.length < f) : scanF f r p = scanR r p := scanF_fuel f (r.length + 1) r p h (by omega)
theorem scanR_step (r : List UInt8) (p : Nat) : scanR r p =
    if r.drop (blanks false r) = [] then .ok [⟨0, [], p + r.length⟩]
    else if (meas (r.drop (blanks false r))).2.2 = 0 then onto [⟨(meas (r.drop (blanks false r))).1, bareL (meas (r.drop (blanks false r))).1 ((r.drop (blanks false r)).take (meas (r.drop (blanks false r))).2.1), p + blanks false r⟩]
      (scanR ((r.drop (blanks false r)).drop (meas (r.drop (blanks false r))).2.1) (p + blanks false r + (meas (r.drop (blanks false r))).2.1))
    else .error ((meas (r.drop (blanks false r))).2.2, p + blanks false r) := by
  have hb := blanks_le false r
  unfold scanR
  rw [scanF_tok, tokF]
  by_cases h0 : r.drop (blanks false r) = []
  · rw [if_pos h0, if_pos h0]
    have : r.length ≤ blanks false r := by simpa using h0
    rw [show blanks false r = r.length by omega]
  · rw [if_neg h0, if_neg h0]
    by_cases h1 : (meas (r.drop (blanks false r))).2.2 = 0
    · rw [if_pos h1, if_pos h1]
      have hp := meas_pos _ h0 h1
      have hl : 0 < (r.drop (blanks false r)).length := List.length_pos_iff.2 h0
      rw [List.length_drop] at hl
      rw [scanF_fuel r.length _ _ _ (by simp only [List.length_drop]; omega) (Nat.lt_succ_self _)]
    · rw [if_neg h1, if_neg h1]
theorem scanR_blank (r r2 : List UInt8) (p d : Nat) (h1 : r.drop (blanks false r) = r2.drop (blanks false r2)) (h2 : blanks false r = d + blanks false r2) (h3 : r.length = d + r2.length) : scanR r p = scanR r2 (p + d) := by
  rw [scanR_step r, scanR_step r2, h1, h2, h3]
  simp only [Nat.add_assoc]

def Joined (t : List UInt8) (r : List UInt8) (p : Nat) : Prop :=
  (∀ ts, scanR r p = .ok ts → ∃ ini, ts = ini ++ [⟨0, [], p + r.length⟩] ∧ scanR (r ++ 10 :: t) p = onto ini (scanR t (p + r.length + 1))) ∧
  (∀ x, scanR r p = .error x → scanR (r ++ 10 :: t) p = .error x)
theorem scan_app (t : List UInt8) : ∀ (n : Nat) (r : List UInt8) (p : Nat), r.length ≤ n → Joined t r p
  | n, r, p, hn => by
    have hb := blanks_le false r
    have ha := blanks_app t false r
    by_cases h0 : r.drop (blanks false r) = []
    · have hl : blanks false r = r.length := by have : r.length ≤ blanks false r := by simpa using h0
                                                omega
      have hs := scanR_step r p
      rw [if_pos h0] at hs
      refine ⟨fun ts h => ?_, fun x h => ?_⟩
      · rw [hs] at h
        obtain rfl := Res.ok.inj h
        refine ⟨[], rfl, ?_⟩
        rw [onto_nil, scanR_blank (r ++ 10 :: t) t p (r.length + 1) (by rw [ha.2 hl, List.drop_append, List.drop_eq_nil_of_le (by omega), List.nil_append, show r.length + 1 + blanks false t - r.length = blanks false t + 1 by omega, List.drop_succ_cons]) (by rw [ha.2 hl]) (by simp; omega)]
        rfl
      · rw [hs] at h; cases h
    · have hl : blanks false r < r.length := by simpa using h0
      have hs := scanR_step r p
      have hs2 := scanR_step (r ++ 10 :: t) p
      have hd : (r ++ 10 :: t).drop (blanks false r) = r.drop (blanks false r) ++ 10 :: t := List.drop_append_of_le_length (by omega)
      rw [ha.1 hl, hd, meas_app t h0] at hs2
      rw [if_neg h0] at hs
      rw [if_neg (by simp)] at hs2
      have hm := meas_le (r.drop (blanks false r))
      by_cases h1 : (meas (r.drop (blanks false r))).2.2 = 0
      · rw [if_pos h1] at hs hs2
        have hp := meas_pos _ h0 h1
        rw [List.take_append_of_le_length hm, List.drop_append_of_le_length hm] at hs2
        have hlen : ((r.drop (blanks false r)).drop (meas (r.drop (blanks false r))).2.1).length < r.length := by
          simp only [List.length_drop] at hm ⊢; omega
        have hpos : p + blanks false r + (meas (r.drop (blanks false r))).2.1 + ((r.drop (blanks false r)).drop (meas (r.drop (blanks false r))).2.1).length = p + r.length := by
          simp only [List.length_drop] at hm ⊢; omega
        cases n with
        | zero => omega
        | succ n =>
          have ih := scan_app t n ((r.drop (blanks false r)).drop (meas (r.drop (blanks false r))).2.1) (p + blanks false r + (meas (r.drop (blanks false r))).2.1) (by omega)
          obtain ⟨ih1, ih2⟩ := ih
          rw [hpos] at ih1
          refine ⟨fun ts h => ?_, fun x h => ?_⟩
          · cases hr : scanR ((r.drop (blanks false r)).drop (meas (r.drop (blanks false r))).2.1) (p + blanks false r + (meas (r.drop (blanks false r))).2.1) with
            | error x => rw [hs, hr] at h; cases h
            | ok us =>
              obtain ⟨ini, rfl, hj⟩ := ih1 us hr
              rw [hs, hr] at h
              obtain rfl := Res.ok.inj h
              refine ⟨_ :: ini, rfl, ?_⟩
              rw [hs2, hj, onto_onto]; rfl
          · cases hr : scanR ((r.drop (blanks false r)).drop (meas (r.drop (blanks false r))).2.1) (p + blanks false r + (meas (r.drop (blanks false r))).2.1) with
            | error y =>
              rw [hs, hr] at h
              rw [hs2, ih2 y hr]
              exact h
            | ok us => rw [hs, hr] at h; cases h
      · rw [if_neg h1] at hs hs2
        refine ⟨fun ts h => ?_, fun x h => ?_⟩
        · rw [hs] at h; cases h
        · rw [hs] at h
          rw [hs2]; exact h

def mv (d : Nat) (t : Tok) : Tok := ⟨t.kind, t.text, t.pos + d⟩
def mvR (d : Nat) : Res → Res
  | .ok ts => .ok (ts.map (mv d))
  | .error x => .error (x.1, x.2 + d)
theorem mvR_onto (d : Nat) (a : List Tok) (r : Res) : mvR d (onto a r) = onto (a.map (mv d)) (mvR d r) := by
  cases r <;> simp [onto, mvR]
theorem scan_mv (d : Nat) : ∀ (n : Nat) (r : List UInt8) (p : Nat), r.length ≤ n → scanR r (p + d) = mvR d (scanR r p)
  | n, r, p, hn => by
    have hb := blanks_le false r
    rw [scanR_step r (p + d), scanR_step r p]
    by_cases h0 : r.drop (blanks false r) = []
    · rw [if_pos h0, if_pos h0]
      simp [mvR, mv]
      omega
    · rw [if_neg h0, if_neg h0]
      by_cases h1 : (meas (r.drop (blanks false r))).2.2 = 0
      · rw [if_pos h1, if_pos h1, mvR_onto]
        have hp := meas_pos _ h0 h1
        have hl : 0 < (r.drop (blanks false r)).length := List.length_pos_iff.2 h0
        rw [List.length_drop] at hl
        cases n with
        | zero => omega
        | succ n =>
          rw [show p + d + blanks false r + (meas (r.drop (blanks false r))).2.1 = p + blanks false r + (meas (r.drop (blanks false r))).2.1 + d by omega, scan_mv d n _ _ (by simp only [List.length_drop]; omega)]
          simp only [List.map_cons, List.map_nil, mv]
          rw [show p + d + blanks false r = p + blanks false r + d by omega]
      · rw [if_neg h1, if_neg h1]
        simp only [mvR]
        rw [show p + d + blanks false r = p + blanks false r + d by omega]

/-- The tokens of two texts with the end of a line between. -/
theorem join_er {s t : List UInt8} {x : Nat × Nat} (h : toks s = .error x) : toks (s ++ 10 :: t) = .error x :=
  (scan_app t s.length s 0 (Nat.le_refl _)).2 x h
theorem join_er2 {s t : List UInt8} {ts : List Tok} {x p : Nat} (h : toks s = .ok ts) (h2 : toks t = .error (x, p)) : toks (s ++ 10 :: t) = .error (x, p + (s.length + 1)) := by
  obtain ⟨ini, _, hj⟩ := (scan_app t s.length s 0 (Nat.le_refl _)).1 ts h
  have hm := scan_mv (s.length + 1) t.length t 0 (Nat.le_refl _)
  rw [show scanR t 0 = .error (x, p) from h2] at hm
  rw [show toks (s ++ 10 :: t) = scanR (s ++ 10 :: t) 0 from rfl, hj, show 0 + s.length + 1 = 0 + (s.length + 1) by omega, hm]
  rfl
theorem join_ok {s t : List UInt8} {ts us : List Tok} (h : toks s = .ok ts) (h2 : toks t = .ok us) : ∃ ini, ts = ini ++ [⟨0, [], s.length⟩] ∧ toks (s ++ 10 :: t) = .ok (ini ++ us.map (mv (s.length + 1))) := by
  obtain ⟨ini, hi, hj⟩ := (scan_app t s.length s 0 (Nat.le_refl _)).1 ts h
  have hm := scan_mv (s.length + 1) t.length t 0 (Nat.le_refl _)
  rw [show scanR t 0 = .ok us from h2] at hm
  refine ⟨ini, by rw [hi]; simp, ?_⟩
  rw [show toks (s ++ 10 :: t) = scanR (s ++ 10 :: t) 0 from rfl, hj, show 0 + s.length + 1 = 0 + (s.length + 1) by omega, hm]
  rfl
end
section
theorem er_pos : ∀ (n : Nat) (r : List UInt8) (p x q : Nat), r.length ≤ n → scanR r p = .error (x, q) → q ≤ p + r.length
  | n, r, p, x, q, hn, h => by
    have hb := blanks_le false r
    rw [scanR_step] at h
    by_cases h0 : r.drop (blanks false r) = []
    · rw [if_pos h0] at h; cases h
    · rw [if_neg h0] at h
      by_cases h1 : (meas (r.drop (blanks false r))).2.2 = 0
      · rw [if_pos h1] at h
        have hp := meas_pos _ h0 h1
        have hm := meas_le (r.drop (blanks false r))
        have hl : 0 < (r.drop (blanks false r)).length := List.length_pos_iff.2 h0
        rw [List.length_drop] at hl hm
        cases hr : scanR ((r.drop (blanks false r)).drop (meas (r.drop (blanks false r))).2.1) (p + blanks false r + (meas (r.drop (blanks false r))).2.1) with
        | ok us => rw [hr] at h; cases h
        | error y =>
          rw [hr] at h
          obtain rfl : y = (x, q) := Res.error.inj h
          cases n with
          | zero => omega
          | succ n =>
            have ih := er_pos n _ _ x q (by simp only [List.length_drop]; omega) hr
            simp only [List.length_drop] at ih
            omega
      · rw [if_neg h1] at h
        injection h with h
        injection h with _ h
        omega
theorem toks_pos {l : List UInt8} {x q : Nat} (h : toks l = .error (x, q)) : q ≤ l.length := by
  have := er_pos l.length l 0 x q (Nat.le_refl _) h
  omega

/-- The bytes of a token. -/
def full (t : Tok) : List UInt8 := if t.kind = 3 then 34 :: t.text ++ [34] else t.text
/-- What the tokens of a text are, from a place on. -/
def Good (l : List UInt8) : Nat → List Tok → Prop
  | _, [] => False
  | i, [t] => t.kind = 0 ∧ t.text = [] ∧ i ≤ t.pos ∧ t.pos = l.length
  | i, t :: u :: us => i ≤ t.pos ∧ t.pos < l.length ∧ (∃ n, meas (l.drop t.pos) = (t.kind, n, 0) ∧ t.text = bareL t.kind ((l.drop t.pos).take n) ∧ Good l (t.pos + n) (u :: us)) ∧ blanks false (l.drop t.pos) = 0

theorem good_of (l : List UInt8) : ∀ (n : Nat) (r : List UInt8) (p : Nat) (ts : List Tok), r.length ≤ n → l.drop p = r → p ≤ l.length → scanR r p = .ok ts → Good l p ts
  | n, r, p, ts, hn, hr, hpl, h => by
    have hb := blanks_le false r
    have hrl : r.length = l.length - p := by rw [← hr, List.length_drop]
    rw [scanR_step] at h
    by_cases h0 : r.drop (blanks false r) = []
    · rw [if_pos h0] at h
      obtain rfl := Res.ok.inj h
      exact ⟨rfl, rfl, by simp only; omega, by simp only; omega⟩
    · rw [if_neg h0] at h
      by_cases h1 : (meas (r.drop (blanks false r))).2.2 = 0
      · rw [if_pos h1] at h
        have hp := meas_pos _ h0 h1
        have hm := meas_le (r.drop (blanks false r))
        have hl : 0 < (r.drop (blanks false r)).length := List.length_pos_iff.2 h0
        rw [List.length_drop] at hl hm
        have hdr : r.drop (blanks false r) = l.drop (p + blanks false r) := by rw [← hr, List.drop_drop]
        cases hs : scanR ((r.drop (blanks false r)).drop (meas (r.drop (blanks false r))).2.1) (p + blanks false r + (meas (r.drop (blanks false r))).2.1) with
        | error y => rw [hs] at h; cases h
        | ok us =>
          rw [hs] at h
          obtain rfl := Res.ok.inj h
          cases n with
          | zero => omega
          | succ n =>
            have ih := good_of l n _ _ us (by simp only [List.length_drop]; omega) (by rw [hdr, List.drop_drop]) (by omega) hs
            cases us with
            | nil => exact absurd ih (by simp [Good])
            | cons u us =>
              refine ⟨by simp only; omega, by simp only; omega, ⟨(meas (r.drop (blanks false r))).2.1, ?_, ?_, ih⟩, ?_⟩
              · show meas (l.drop (p + blanks false r)) = _
                rw [← hdr]
                rw [← h1]
              · show bareL _ _ = bareL _ ((l.drop (p + blanks false r)).take _)
                rw [← hdr]
              · show blanks false (l.drop (p + blanks false r)) = 0
                rw [← hdr]
                exact blanks_behind false r
      · rw [if_neg h1] at h; cases h
theorem good_toks {l : List UInt8} {ts : List Tok} (h : toks l = .ok ts) : Good l 0 ts := good_of l l.length l 0 ts (Nat.le_refl _) rfl (Nat.zero_le _) h

/-- The kinds that there are. -/
theorem meas_kinds {r : List UInt8} {k n : Nat} (h0 : r ≠ []) (h : meas r = (k, n, 0)) : (k = 1 ∨ k = 2 ∨ k = 3 ∨ k = 4) ∧ 0 < n ∧ n ≤ r.length := by
  have hp := meas_pos r h0 (by rw [h])
  have hl := meas_le r
  rw [h] at hp hl
  refine ⟨?_, hp, hl⟩
  cases r with
  | nil => exact absurd rfl h0
  | cons c r =>
    simp only [meas] at h
    split at h
    · injection h with h _; omega
    · split at h
      · injection h with h _; omega
      · split at h
        · injection h with h _; omega
        · injection h with h _; omega

/-- A label with both of its signs. -/
theorem full_of {r : List UInt8} {k n : Nat} (h0 : r ≠ []) (h : meas r = (k, n, 0)) (p : Nat) : full ⟨k, bareL k (r.take n), p⟩ = r.take n := by
  unfold full
  by_cases h3 : k = 3
  · subst h3
    simp only [if_true]
    cases r with
    | nil => exact absurd rfl h0
    | cons c r =>
      simp only [meas] at h
      split at h
      · injection h with h _; cases h
      · split at h
        · injection h with h _; cases h
        · split at h
          · rename_i hd hl hq
            injection h with _ h
            injection h with hn he
            split at he
            · cases he
            · rename_i hz
              have hc : c = 34 := by
                have : c.toNat = 34 := by simpa [quoteB] using hq
                exact UInt8.toNat_inj.1 this
              subst hc
              unfold labN at hn hz
              split at hz
              · exact absurd rfl hz
              · rename_i hno
                rw [if_neg hno] at hn
                have hg : (r[cnt labelB r]?).map (·.toNat) = some 34 := by
                  apply Classical.byContradiction
                  intro hx
                  exact hno (.inr (.inr hx))
                have hlt : cnt labelB r < r.length := by
                  apply Classical.byContradiction
                  intro hx
                  rw [List.getElem?_eq_none (by omega)] at hg
                  simp at hg
                rw [List.getElem?_eq_getElem hlt] at hg
                have hg2 : r[cnt labelB r] = 34 := UInt8.toNat_inj.1 (by simpa using hg)
                have ht : (34 :: r).take n = 34 :: (r.take (cnt labelB r) ++ [34]) := by
                  rw [← hn, show cnt labelB r + 2 = (cnt labelB r + 1) + 1 by omega, List.take_succ_cons, List.take_succ_eq_append_getElem hlt, hg2]
                rw [ht]
                unfold bareL
                rw [if_pos rfl, List.drop_succ_cons, List.drop_zero]
                have hlen : (34 :: (r.take (cnt labelB r) ++ [34])).length - 2 = (r.take (cnt labelB r)).length := by simp
                rw [hlen, List.take_left]
                rfl
          · injection h with h _; cases h
  · rw [if_neg h3]
    unfold bareL
    rw [if_neg h3]

theorem while_all {p : UInt8 → Bool} {x : UInt8} (hx : p x = false) (t : List UInt8) {l : List UInt8} (h : ∀ c ∈ l, p c = true) : (l ++ x :: t).takeWhile p = l := by
  rw [while_app hx]
  induction l with
  | nil => rfl
  | cons c r ih =>
    rw [List.takeWhile_cons, if_pos (h c List.mem_cons_self), ih (fun d hd => h d (List.mem_cons_of_mem _ hd))]
theorem all_while (p : UInt8 → Bool) (l : List UInt8) : ∀ c ∈ l.takeWhile p, p c = true := by
  intro c hc
  induction l with
  | nil => simp at hc
  | cons d r ih =>
    by_cases h : p d = true
    · rw [List.takeWhile_cons, if_pos h] at hc
      rcases List.mem_cons.1 hc with rfl | hc
      · exact h
      · exact ih hc
    · rw [List.takeWhile_cons, if_neg h] at hc
      simp at hc
/-- A token and a blank behind it: the same token. -/
theorem re_meas {r : List UInt8} {k n : Nat} (h0 : r ≠ []) (h : meas r = (k, n, 0)) (t : List UInt8) : meas (r.take n ++ 32 :: t) = (k, n, 0) := by
  cases r with
  | nil => exact absurd rfl h0
  | cons c r =>
    by_cases hd : digitB c = true
    · have hm : meas (c :: r) = (2, cnt digitB (c :: r), if valOf ((c :: r).takeWhile digitB) < 9223372036854775808 then 0 else 10) := by simp only [meas]; rw [if_pos hd]
      rw [hm] at h
      injection h with h1 h2
      injection h2 with h2 h3
      subst h1 h2
      rw [take_cnt]
      have hw := while_all (p := digitB) (x := 32) (by decide) t (all_while digitB (c :: r))
      have hc : ((c :: r).takeWhile digitB) = c :: r.takeWhile digitB := by rw [List.takeWhile_cons, if_pos hd]
      rw [hc, List.cons_append] at hw
      rw [hc, List.cons_append]
      simp only [meas]
      rw [if_pos hd]
      unfold cnt
      rw [hw]
      rw [hc] at h3
      rw [h3, hc]
    · by_cases hl : letterB c = true
      · have hm : meas (c :: r) = (1, cnt nameB (c :: r), 0) := by simp only [meas]; rw [if_neg hd, if_pos hl]
        rw [hm] at h
        injection h with h1 h2
        injection h2 with h2 h3
        subst h1 h2
        rw [take_cnt]
        have hn : nameB c = true := by simp [nameB, hl]
        have hw := while_all (p := nameB) (x := 32) (by decide) t (all_while nameB (c :: r))
        have hc : ((c :: r).takeWhile nameB) = c :: r.takeWhile nameB := by rw [List.takeWhile_cons, if_pos hn]
        rw [hc, List.cons_append] at hw
        rw [hc, List.cons_append]
        simp only [meas]
        rw [if_neg hd, if_pos hl]
        unfold cnt
        rw [hw, hc]
      · by_cases hq : quoteB c = true
        · have hfull := full_of h0 h 0
          have hm : meas (c :: r) = (3, labN r, if labN r = 0 then 20 else 0) := by simp only [meas]; rw [if_neg hd, if_neg hl, if_pos hq]
          rw [hm] at h
          injection h with h1 h2
          injection h2 with h2 h3
          subst h1 h2
          have hz : labN r ≠ 0 := by intro hz; rw [if_pos hz] at h3; cases h3
          have hln : labN r = cnt labelB r + 2 := by
            unfold labN at hz ⊢
            split at hz
            · exact absurd rfl hz
            · rename_i hno; rw [if_neg hno]
          have hno : ¬ (cnt labelB r = 0 ∨ 32 < cnt labelB r ∨ (r[cnt labelB r]?).map (·.toNat) ≠ some 34) := by
            intro hx
            unfold labN at hz
            rw [if_pos hx] at hz
            exact hz rfl
          have hg : (r[cnt labelB r]?).map (·.toNat) = some 34 := by
            apply Classical.byContradiction
            intro hx
            exact hno (.inr (.inr hx))
          have hlt : cnt labelB r < r.length := by
            apply Classical.byContradiction
            intro hx
            rw [List.getElem?_eq_none (by omega)] at hg
            simp at hg
          rw [List.getElem?_eq_getElem hlt] at hg
          have hg2 : r[cnt labelB r] = 34 := UInt8.toNat_inj.1 (by simpa using hg)
          have ht : (c :: r).take (labN r) = c :: (r.takeWhile labelB ++ [34]) := by
            rw [hln, show cnt labelB r + 2 = (cnt labelB r + 1) + 1 by omega, List.take_succ_cons, List.take_succ_eq_append_getElem hlt, hg2, take_cnt]
          rw [ht, List.cons_append, List.append_assoc]
          simp only [meas]
          rw [if_neg hd, if_neg hl, if_pos hq]
          have hcw : cnt labelB (r.takeWhile labelB ++ ([34] ++ 32 :: t)) = cnt labelB r := by
            unfold cnt
            rw [show ([34] ++ 32 :: t : List UInt8) = 34 :: 32 :: t from rfl, while_all (by decide) _ (all_while labelB r)]
          have hl2 : labN (r.takeWhile labelB ++ ([34] ++ 32 :: t)) = labN r := by
            rw [hln]
            unfold labN
            rw [hcw, if_neg]
            rintro (h | h | h)
            · exact hno (.inl h)
            · exact hno (.inr (.inl h))
            · apply h
              rw [List.getElem?_append_right (by unfold cnt; omega)]
              unfold cnt
              rw [Nat.sub_self]
              rfl
          rw [hl2, if_neg hz]
        · have hm : meas (c :: r) = (4, signN (c :: r), if signN (c :: r) = 0 then 20 else 0) := by simp only [meas]; rw [if_neg hd, if_neg hl, if_neg hq]
          rw [hm] at h
          injection h with h1 h2
          injection h2 with h2 h3
          subst h1 h2
          have hz : signN (c :: r) ≠ 0 := by intro hz; rw [if_pos hz] at h3; cases h3
          by_cases h2 : twoB (c :: r) = true
          · have hs : signN (c :: r) = 2 := by simp only [signN]; rw [if_pos h2]
            rw [hs]
            cases r with
            | nil => cases h2
            | cons b r =>
              have h2' : twoB (c :: b :: 32 :: t) = true := h2
              show meas (c :: b :: 32 :: t) = _
              have hs' : signN (c :: b :: 32 :: t) = 2 := by simp only [signN]; rw [if_pos h2']
              simp only [meas]
              rw [if_neg hd, if_neg hl, if_neg hq, hs']
              rfl
          · have ho : oneB c = true := by
              apply Classical.byContradiction
              intro hx
              apply hz
              simp only [signN]
              rw [if_neg h2, if_neg hx]
            have hs : signN (c :: r) = 1 := by simp only [signN]; rw [if_neg h2, if_pos ho]
            rw [hs]
            show meas (c :: 32 :: t) = _
            have h2' : twoB (c :: 32 :: t) = false := by
              have := twoB_app (c := c) (x := 32) (.inr rfl) t []
              rw [List.nil_append] at this
              rw [this]
              rfl
            have hs' : signN (c :: 32 :: t) = 1 := by simp only [signN]; rw [if_neg (by simp [h2']), if_pos ho]
            simp only [meas]
            rw [if_neg hd, if_neg hl, if_neg hq, hs']
            rfl
end
section
def atK (i : Nat) (ts : List Tok) : Nat → Nat
  | 0 => i
  | k + 1 => match ts[k]? with
    | some t => t.pos + (full t).length
    | none => 0
def Place (l : List UInt8) (i : Nat) (ts : List Tok) (k : Nat) (t : Tok) : Prop :=
  atK i ts k ≤ t.pos ∧ t.pos + (full t).length ≤ l.length ∧ (l.drop t.pos).take (full t).length = full t ∧ (t.kind = 0 ↔ k + 1 = ts.length)
theorem good_full {l : List UInt8} {t : Tok} {n : Nat} (hl : t.pos < l.length) (hm : meas (l.drop t.pos) = (t.kind, n, 0)) (ht : t.text = bareL t.kind ((l.drop t.pos).take n)) : full t = (l.drop t.pos).take n ∧ (full t).length = n := by
  have h0 := drop_ne hl
  have hf := full_of h0 hm t.pos
  rw [← ht] at hf
  have hk := meas_kinds h0 hm
  have e : full t = (l.drop t.pos).take n := hf
  refine ⟨e, ?_⟩
  rw [e, List.length_take]
  omega
theorem good_at {l : List UInt8} : ∀ {ts : List Tok} {i : Nat}, Good l i ts → ∀ (k : Nat) (t : Tok), ts[k]? = some t → Place l i ts k t
  | [], _, h, _, _, _ => by simp [Good] at h
  | [t], i, h, k, u, hu => by
    obtain ⟨h1, h2, h3, h4⟩ := h
    cases k with
    | zero =>
      simp only [List.getElem?_cons_zero, Option.some.injEq] at hu
      subst hu
      have e : full t = [] := by unfold full; rw [if_neg (by omega)]; exact h2
      refine ⟨h3, by rw [e]; simp; omega, by rw [e]; rfl, by simp [h1]⟩
    | succ k => simp at hu
  | t :: v :: us, i, h, k, u, hu => by
    obtain ⟨h1, h2, ⟨n, hm, ht, hg⟩, _⟩ := h
    obtain ⟨hf, hfl⟩ := good_full h2 hm ht
    have hk := meas_kinds (drop_ne h2) hm
    rw [List.length_drop] at hk
    cases k with
    | zero =>
      simp only [List.getElem?_cons_zero, Option.some.injEq] at hu
      subst hu
      refine ⟨h1, by omega, by rw [hfl, hf], ?_⟩
      constructor
      · intro h0; omega
      · intro hx; simp at hx
    | succ k =>
      have ih := good_at hg k u (by simpa using hu)
      obtain ⟨i1, i2, i3, i4⟩ := ih
      refine ⟨?_, i2, i3, by rw [i4]; simp⟩
      cases k with
      | zero =>
        show (match (t :: v :: us)[0]? with | some t => t.pos + (full t).length | none => 0) ≤ _
        simp only [List.getElem?_cons_zero]
        rw [hfl]
        exact i1
      | succ k => exact i1

theorem first_ok {c : UInt8} {r : List UInt8} {k n : Nat} (h : meas (c :: r) = (k, n, 0)) : blankB c = false ∧ c.toNat ≠ 47 := by
  have key : (c.toNat = 32 ∨ c.toNat = 9 ∨ c.toNat = 10 ∨ c.toNat = 13 ∨ c.toNat = 47) → False := by
    intro hc
    have hd : digitB c = false := by simp only [digitB, Bool.and_eq_false_iff, decide_eq_false_iff_not]; omega
    have hl : letterB c = false := by simp only [letterB, Bool.or_eq_false_iff, Bool.and_eq_false_iff, decide_eq_false_iff_not, beq_eq_false_iff_ne]; omega
    have hq : quoteB c = false := by simp only [quoteB, beq_eq_false_iff_ne]; omega
    have ho : oneB c = false := by rcases hc with h | h | h | h | h <;> simp [oneB, h]
    have ht : twoB (c :: r) = false := by
      cases r with
      | nil => rfl
      | cons b r => rcases hc with h | h | h | h | h <;> simp [twoB, h]
    have hs : signN (c :: r) = 0 := by simp only [signN]; rw [ht, ho]; rfl
    simp only [meas] at h
    rw [if_neg (by simp [hd]), if_neg (by simp [hl]), if_neg (by simp [hq]), hs] at h
    injection h with _ h
    injection h with _ h
    cases h
  constructor
  · cases hb : blankB c with
    | false => rfl
    | true => exact (key (by simp only [blankB, Bool.or_eq_true, beq_iff_eq] at hb; omega)).elim
  · intro h47
    exact key (by omega)

def wideL (ts : List Tok) : List UInt8 := ts.flatMap (fun t => 32 :: full t ++ [32, 47, 47, 32, 120, 10])
theorem wideL_snoc (ts : List Tok) (t : Tok) : wideL (ts ++ [t]) = wideL ts ++ (32 :: full t ++ [32, 47, 47, 32, 120, 10]) := by simp [wideL]
theorem wideL_cons (t : Tok) (ts : List Tok) : wideL (t :: ts) = 32 :: (full t ++ (32 :: 47 :: 47 :: 32 :: 120 :: 10 :: wideL ts)) := by simp [wideL]
def Same (ts ms : List Tok) : Prop := ms.length = ts.length ∧ ∀ (k : Nat) (t : Tok), ts[k]? = some t → ∃ m : Tok, ms[k]? = some m ∧ m.kind = t.kind ∧ m.text = t.text
theorem wide_ok {l : List UInt8} : ∀ {ts : List Tok} {i : Nat}, Good l i ts → ∀ p, ∃ ms, scanR (wideL ts) p = .ok ms ∧ Same ts ms
  | [], _, h, _ => by simp [Good] at h
  | [t], i, h, p => by
    obtain ⟨h1, h2, h3, h4⟩ := h
    have e : full t = [] := by unfold full; rw [if_neg (by omega)]; exact h2
    refine ⟨[⟨0, [], p + 7⟩], ?_, rfl, ?_⟩
    · have ew : wideL [t] = [32, 32, 47, 47, 32, 120, 10] := by rw [wideL_cons, e]; rfl
      rw [ew, scanR_step, if_pos (by decide)]
      rfl
    · intro k u hu
      cases k with
      | zero =>
        simp only [List.getElem?_cons_zero, Option.some.injEq] at hu
        subst hu
        exact ⟨_, rfl, h1.symm, h2.symm⟩
      | succ k => simp at hu
  | t :: v :: us, i, h, p => by
    obtain ⟨h1, h2, ⟨n, hm, ht, hg⟩, _⟩ := h
    obtain ⟨hf, hfl⟩ := good_full h2 hm ht
    have h0 := drop_ne h2
    have hk := meas_kinds h0 hm
    have hre := re_meas h0 hm (47 :: 47 :: 32 :: 120 :: 10 :: wideL (v :: us))
    rw [← hf] at hre
    have hbl : blanks false (full t ++ (32 :: 47 :: 47 :: 32 :: 120 :: 10 :: wideL (v :: us))) = 0 := by
      cases hft : full t with
      | nil => rw [hft] at hfl; simp at hfl; omega
      | cons c r =>
        rw [hft, List.cons_append] at hre
        obtain ⟨hb, hc⟩ := first_ok hre
        rw [List.cons_append, blanks, if_neg (by simp [hb]), if_neg (fun hx => hc hx.1)]
    have hb1 : blanks false (wideL (t :: v :: us)) = 1 := by
      rw [wideL_cons]
      simp only [blanks]
      rw [if_pos (by decide), hbl]
    have hd1 : (wideL (t :: v :: us)).drop 1 = full t ++ (32 :: 47 :: 47 :: 32 :: 120 :: 10 :: wideL (v :: us)) := by
      rw [wideL_cons]; rfl
    have hr2 : ∀ q, scanR (32 :: 47 :: 47 :: 32 :: 120 :: 10 :: wideL (v :: us)) q = scanR (wideL (v :: us)) (q + 6) := by
      intro q
      have hb6 : blanks false (32 :: 47 :: 47 :: 32 :: 120 :: 10 :: wideL (v :: us)) = 6 + blanks false (wideL (v :: us)) := by
        simp [blanks, blankB]
        omega
      refine scanR_blank _ _ q 6 ?_ hb6 (by simp; omega)
      rw [hb6, Nat.add_comm]
      rfl
    obtain ⟨ms, hms, hs1, hs2⟩ := wide_ok hg (p + 1 + n + 6)
    have hst := scanR_step (wideL (t :: v :: us)) p
    rw [hb1, hd1, hre, if_neg (by simp)] at hst
    simp only [if_true] at hst
    rw [List.take_left' hfl, List.drop_left' hfl, hr2, hms] at hst
    refine ⟨_, hst, by simp [hs1], ?_⟩
    intro k u hu
    cases k with
    | zero =>
      simp only [List.getElem?_cons_zero, Option.some.injEq] at hu
      subst hu
      exact ⟨_, rfl, rfl, by rw [ht, hf]⟩
    | succ k =>
      obtain ⟨m, e1, e2, e3⟩ := hs2 k u (by simpa using hu)
      exact ⟨m, by simpa using e1, e2, e3⟩
theorem wide_toks {l : List UInt8} {ts : List Tok} (h : toks l = .ok ts) : ∃ ms, toks (wideL ts) = .ok ms ∧ Same ts ms := wide_ok (good_toks h) 0
end
section
/-- Where a reader can be: only the last token is the end. -/
theorem more_of {l : List UInt8} {ts : List Tok} (h : toks l = .ok ts) {k : Nat} {t : Tok} (ht : ts[k]? = some t) (h0 : t.kind ≠ 0) : k + 1 < ts.length := by
  have hp := (good_at (good_toks h) k t ht).2.2.2
  have hk := (List.getElem?_eq_some_iff.1 ht).1
  apply Classical.byContradiction
  intro hx
  exact h0 (hp.2 (by omega))
theorem good_num {l : List UInt8} : ∀ {ts : List Tok} {i : Nat}, Good l i ts → ∀ t ∈ ts, t.text.length ≤ l.length ∧ (t.kind = 2 → t.text ≠ [] ∧ (∀ c ∈ t.text, digitB c = true) ∧ valOf t.text < 9223372036854775808)
  | [], _, h, _, _ => by simp [Good] at h
  | [t], _, h, u, hu => by
    obtain ⟨h1, h2, _, _⟩ := h
    obtain rfl := List.mem_singleton.1 hu
    exact ⟨by rw [h2]; exact Nat.zero_le _, fun hk => by omega⟩
  | t :: v :: us, _, h, u, hu => by
    obtain ⟨_, h2, ⟨n, hm, ht, hg⟩, _⟩ := h
    rcases List.mem_cons.1 hu with rfl | hu
    · obtain ⟨hf, hfl⟩ := good_full h2 hm ht
      have hk := meas_kinds (drop_ne h2) hm
      rw [List.length_drop] at hk
      have hle : u.text.length ≤ (full u).length := by
        unfold full
        split
        · simp; omega
        · exact Nat.le_refl _
      refine ⟨by omega, fun h2k => ?_⟩
      rw [h2k] at hm ht
      have ht2 : u.text = (l.drop u.pos).take n := ht
      rw [drop_cons l u.pos h2] at hm ht2
      simp only [meas] at hm
      split at hm
      · rename_i hd
        injection hm with _ hm
        injection hm with hn hv
        rw [← hn, take_cnt] at ht2
        rw [ht2]
        refine ⟨?_, all_while digitB _, ?_⟩
        · rw [List.takeWhile_cons, if_pos hd]; simp
        · apply Classical.byContradiction
          intro hx
          rw [if_neg hx] at hv
          cases hv
      · split at hm
        · injection hm with hm _; cases hm
        · split at hm
          · injection hm with hm _; cases hm
          · injection hm with hm _; cases hm
    · exact good_num hg u hu
end
end Go.Proofs.YtmgjpjjglghbaaaGreatDoor
