/-
  Expressions, as the document says them: how tokens are read, how an expression is told. Plain lists, nothing of the program. How many tokens are left behind what was read; the fuel of chains plays no part. The tokens of a text are such that a reader can go through them; names and numbers among them. What is read is well made, and needs no more levels than there were; how long it is told. What is read of tokens is read of others with the same kinds and texts, whatever stands behind, and with more levels. The tokens of a text with a blank or a closing parenthesis behind it, and more.
-/
import Derived.Test.YtmgjpjjglghbaaaGreatDoorMM
import Derived.Lib.ItoaNum
namespace Go.Proofs.YtmgjpjjglghbaaaGreatDoor
section
/-- An expression that was read. -/
inductive Ex where
  | leaf (op nm : List UInt8) (n : Nat) (p : Nat)
  | un (op : List UInt8) (a : Ex) (p : Nat)
  | bin (op : List UInt8) (a b : Ex) (p : Nat)
  | cond (a b c : Ex) (p : Nat)
  deriving DecidableEq

def Ex.op : Ex → List UInt8
  | .leaf op _ _ _ => op
  | .un op _ _ => op
  | .bin op _ _ _ => op
  | .cond _ _ _ _ => [63]
def Ex.pos : Ex → Nat
  | .leaf _ _ _ p => p
  | .un _ _ p => p
  | .bin _ _ _ p => p
  | .cond _ _ _ p => p
def Ex.move (q : Nat) : Ex → Ex
  | .leaf op nm n _ => .leaf op nm n q
  | .un op a _ => .un op a q
  | .bin op a b _ => .bin op a b q
  | .cond a b c _ => .cond a b c q
/-- But for places. -/
def Ex.bare : Ex → Ex
  | .leaf op nm n _ => .leaf op nm n 0
  | .un op a _ => .un op a.bare 0
  | .bin op a b _ => .bin op a.bare b.bare 0
  | .cond a b c _ => .cond a.bare b.bare c.bare 0
def Ex.size : Ex → Nat
  | .leaf _ _ _ _ => 1
  | .un _ a _ => a.size + 1
  | .bin _ a b _ => a.size + b.size + 1
  | .cond a b c _ => a.size + b.size + c.size + 1

def cmpB (x : List UInt8) : Bool := x == [61] || x == [33, 61] || x == [60] || x == [60, 61] || x == [62] || x == [62, 61]
/-- The rank of an expression with that sign. -/
def rk (x : List UInt8) : Nat :=
  if x = [63] then 0 else if x = [61, 62] then 1 else if x = [124] then 2 else if x = [38] then 3 else if x = [33] then 4
  else if cmpB x then 5 else if x = [43] ∨ x = [45] then 6 else if x = [42] then 7 else if x = [110, 101, 103] then 8 else 9

def isT (t : Tok) (x : List UInt8) : Bool := (t.kind == 1 || t.kind == 4) && t.text == x
def sg (k : Nat) (t : Tok) : Bool := t.kind == 4 && rk t.text == k
def hd (us : List Tok) : Tok := us.headD ⟨0, [], 0⟩

inductive PR where
  | ok (e : Ex) (r : List Tok)
  | er (c p : Nat)
  deriving DecidableEq

/-- What stands a level deeper: a choice, an implication, a negation, a minus. -/
structure Dp where
  c : List Tok → PR
  i : List Tok → PR
  n : List Tok → PR
  m : List Tok → PR

def opNum : List UInt8 := [110, 117, 109]
def opName : List UInt8 := [110, 97, 109, 101]
def opTrue : List UInt8 := [116, 114, 117, 101]
def opFalse : List UInt8 := [102, 97, 108, 115, 101]
def opNeg : List UInt8 := [110, 101, 103]

def wordX (x : List UInt8) (p : Nat) : Ex := if x = opTrue ∨ x = opFalse then .leaf x [] 0 p else .leaf opName x 0 p
/-- What is read behind an opening parenthesis at a place. -/
def enclosedX (p : Nat) : PR → PR
  | .er c q => .er c q
  | .ok e r => if isT (hd r) [41] then .ok (e.move p) r.tail else .er 20 (hd r).pos
def atomX (d : Dp) (us : List Tok) : PR :=
  if isT (hd us) [40] then enclosedX (hd us).pos (d.c us.tail)
  else if (hd us).kind = 1 then .ok (wordX (hd us).text (hd us).pos) us.tail
  else if (hd us).kind = 2 then .ok (.leaf opNum [] (valOf (hd us).text) (hd us).pos) us.tail
  else .er 20 (hd us).pos
def preX (op : List UInt8) (p : Nat) : PR → PR
  | .er c q => .er c q
  | .ok e r => .ok (.un op e p) r
def joinX (op : List UInt8) (a : Ex) : PR → PR
  | .er c q => .er c q
  | .ok b r => .ok (.bin op a b a.pos) r
def minusX (d : Dp) (us : List Tok) : PR := if isT (hd us) [45] then preX opNeg (hd us).pos (d.m us.tail) else atomX d us
def chainF (k : Nat) (rd : List Tok → PR) : Nat → Ex → List Tok → PR
  | 0, e, us => .ok e us
  | f + 1, e, us =>
    if sg k (hd us) then
      match joinX (hd us).text e (rd us.tail) with
      | .er c p => .er c p
      | .ok e' r => chainF k rd f e' r
    else .ok e us
def chainG (k : Nat) (rd : List Tok → PR) : PR → PR
  | .er c p => .er c p
  | .ok e r => chainF k rd r.length e r
def chainX (k : Nat) (rd : List Tok → PR) (us : List Tok) : PR := chainG k rd (rd us)
def prodX (d : Dp) : List Tok → PR := chainX 7 (minusX d)
def sumX (d : Dp) : List Tok → PR := chainX 6 (prodX d)
def compG (d : Dp) : PR → PR
  | .er c p => .er c p
  | .ok a r => if sg 5 (hd r) then joinX (hd r).text a (sumX d r.tail) else .ok a r
def compX (d : Dp) (us : List Tok) : PR := compG d (sumX d us)
def negX (d : Dp) (us : List Tok) : PR := if isT (hd us) [33] then preX [33] (hd us).pos (d.n us.tail) else compX d us
def conjX (d : Dp) : List Tok → PR := chainX 3 (negX d)
def disjX (d : Dp) : List Tok → PR := chainX 2 (conjX d)
def implG (d : Dp) : PR → PR
  | .er c p => .er c p
  | .ok a r => if isT (hd r) [61, 62] then joinX [61, 62] a (d.i r.tail) else .ok a r
def implX (d : Dp) (us : List Tok) : PR := implG d (disjX d us)
def condE (a b : Ex) : PR → PR
  | .er c p => .er c p
  | .ok c r => .ok (.cond a b c a.pos) r
def condH (d : Dp) (a : Ex) : PR → PR
  | .er c p => .er c p
  | .ok b r => if isT (hd r) [58] then condE a b (d.c r.tail) else .er 20 (hd r).pos
def condG (d : Dp) : PR → PR
  | .er c p => .er c p
  | .ok a r => if isT (hd r) [63] then condH d a (d.c r.tail) else .ok a r
def condX (d : Dp) (us : List Tok) : PR := condG d (implX d us)
def deepX (us : List Tok) : PR := .er 21 (hd us).pos
/-- What stands a level deeper, if so many levels may still be gone down. -/
def dp : Nat → Dp
  | 0 => ⟨deepX, deepX, deepX, deepX⟩
  | l + 1 => ⟨condX (dp l), implX (dp l), negX (dp l), minusX (dp l)⟩

def endX : PR → PR
  | .er c p => .er c p
  | .ok e r => if (hd r).kind = 0 then .ok e r else .er 20 (hd r).pos
def parseX (depth : Nat) (l : List UInt8) : PR :=
  match toks l with
  | .error x => .er x.1 x.2
  | .ok ts => endX ((dp depth).c ts)

/-- The loosest rank that may stand at a place without parentheses. -/
def lo (k place : Nat) : Nat := if k = 4 ∨ k = 8 then k else if k = 5 then 6 else if k = 0 ∨ k = 1 then k + 1 - min place 1 else k + place
def parX (b : Bool) (l : List UInt8) : List UInt8 := if b then 40 :: l ++ [41] else l
def dgs (n : Nat) : List UInt8 := Lib.decDigits n
theorem dgs_small {n : Nat} (h : n < 10) : dgs n = [UInt8.ofNat (48 + n)] := by unfold dgs; rw [Lib.decDigits, dif_pos h]
def shw : Ex → List UInt8
  | .leaf op nm n _ => if op = opNum then dgs n else if op = opName then nm else op
  | .un op a _ => (if op = opNeg then 45 else 33) :: parX (decide (rk a.op < rk op)) (shw a)
  | .bin op a b _ => parX (decide (rk a.op < lo (rk op) 0)) (shw a) ++ (32 :: op ++ 32 :: parX (decide (rk b.op < lo (rk op) 1)) (shw b))
  | .cond a b c _ => parX (decide (rk a.op < 1)) (shw a) ++ (32 :: 63 :: 32 :: (shw b ++ (32 :: 58 :: 32 :: shw c)))

/-- The tokens that a reader goes through: the last one, and no other, is the end. -/
def Fine : List Tok → Prop
  | [] => False
  | [t] => t.kind = 0 ∧ t.text = []
  | t :: u :: us => t.kind ≠ 0 ∧ t.text.length ≤ 65536 ∧ (t.kind = 1 → ∃ c r, t.text = c :: r ∧ letterB c = true ∧ ∀ x ∈ t.text, nameB x = true) ∧
      (t.kind = 2 → t.text ≠ [] ∧ (∀ c ∈ t.text, digitB c = true) ∧ valOf t.text < 9223372036854775808) ∧ Fine (u :: us)

theorem Fine.ne {us : List Tok} (h : Fine us) : us ≠ [] := by rintro rfl; exact h
theorem Fine.cons {us : List Tok} (h : Fine us) : us = hd us :: us.tail := by
  cases us with
  | nil => exact absurd rfl h.ne
  | cons t r => rfl
theorem Fine.more {us : List Tok} (h : Fine us) (h0 : (hd us).kind ≠ 0) : Fine us.tail ∧ us.tail ≠ [] := by
  match us, h with
  | [t], h => exact absurd h.1 h0
  | t :: u :: r, h => exact ⟨h.2.2.2.2, by simp⟩
theorem Fine.name {us : List Tok} (h : Fine us) (h1 : (hd us).kind = 1) : ∃ c r, (hd us).text = c :: r ∧ letterB c = true ∧ ∀ x ∈ (hd us).text, nameB x = true := by
  match us, h with
  | [t], h => have := h.1; simp [hd] at h1; omega
  | t :: u :: r, h => exact h.2.2.1 h1
theorem Fine.numb {us : List Tok} (h : Fine us) (h1 : (hd us).kind = 2) : (hd us).text ≠ [] ∧ (∀ c ∈ (hd us).text, digitB c = true) ∧ valOf (hd us).text < 9223372036854775808 := by
  match us, h with
  | [t], h => have := h.1; simp [hd] at h1; omega
  | t :: u :: r, h => exact h.2.2.2.1 h1
theorem Fine.len {us : List Tok} (h : Fine us) : (hd us).text.length ≤ 65536 := by
  match us, h with
  | [t], h => simp [hd, h.2]
  | t :: u :: r, h => exact h.2.1
theorem isT_kind {t : Tok} {x : List UInt8} (h : isT t x = true) : t.kind ≠ 0 := by
  intro h0
  simp [isT, h0] at h
theorem sg_kind {t : Tok} {k : Nat} (h : sg k t = true) : t.kind = 4 ∧ rk t.text = k := by
  simpa [sg] using h
theorem isT_text {t : Tok} {x : List UInt8} (h : isT t x = true) : t.text = x := by
  simp [isT] at h
  exact h.2

theorem ex_one : parseX 9 [33, 120, 32, 61, 32, 49, 32, 38, 32, 45, 40, 121, 32, 43, 32, 50, 41, 32, 42, 32, 51, 32, 60, 32, 122] =
    .ok (.bin [38] (.un [33] (.bin [61] (.leaf opName [120] 0 1) (.leaf opNum [] 1 5) 1) 0)
      (.bin [60] (.bin [42] (.un opNeg (.bin [43] (.leaf opName [121] 0 11) (.leaf opNum [] 2 15) 10) 9) (.leaf opNum [] 3 20) 9) (.leaf opName [122] 0 24) 9) 0) [⟨0, [], 25⟩] := by decide +kernel
theorem ex_two : parseX 9 [49, 32, 43] = .er 20 3 := by decide +kernel
theorem ex_show : shw (.bin [38] (.un [33] (.bin [61] (.leaf opName [120] 0 1) (.leaf opNum [] 1 5) 1) 0)
      (.bin [60] (.bin [42] (.un opNeg (.bin [43] (.leaf opName [121] 0 11) (.leaf opNum [] 2 15) 10) 9) (.leaf opNum [] 3 20) 9) (.leaf opName [122] 0 24) 9) 0) =
    [33, 120, 32, 61, 32, 49, 32, 38, 32, 45, 40, 121, 32, 43, 32, 50, 41, 32, 42, 32, 51, 32, 60, 32, 122] := by
  have d1 : dgs 1 = [49] := dgs_small (by decide)
  have d2 : dgs 2 = [50] := dgs_small (by decide)
  have d3 : dgs 3 = [51] := dgs_small (by decide)
  simp [shw, d1, d2, d3, opNum, opName, opNeg, rk, lo, parX, Ex.op, cmpB]
end
section
/-- What is left is no longer than what there was, and fine if that was. -/
def Shr (F : List Tok → PR) : Prop := ∀ us x r, F us = .ok x r → r.length ≤ us.length ∧ (Fine us → Fine r)
structure Shr4 (d : Dp) : Prop where
  c : Shr d.c
  i : Shr d.i
  n : Shr d.n
  m : Shr d.m
theorem tail_len (us : List Tok) : us.tail.length ≤ us.length := by simp
theorem hd_nil : hd [] = ⟨0, [], 0⟩ := rfl
theorem sg_ne {k : Nat} {us : List Tok} (h : sg k (hd us) = true) : us.tail.length + 1 = us.length := by
  cases us with
  | nil => simp [hd_nil, sg] at h
  | cons t r => rfl
theorem join_ok_iff {op : List UInt8} {a x : Ex} {res : PR} {r : List Tok} (h : joinX op a res = .ok x r) : ∃ b, res = .ok b r ∧ x = .bin op a b a.pos := by
  cases res with
  | er c p => simp [joinX] at h
  | ok b r' =>
    simp [joinX] at h
    exact ⟨b, by rw [h.2], h.1.symm⟩
theorem pre_ok_iff {op : List UInt8} {p : Nat} {x : Ex} {res : PR} {r : List Tok} (h : preX op p res = .ok x r) : ∃ b, res = .ok b r ∧ x = .un op b p := by
  cases res with
  | er c p => simp [preX] at h
  | ok b r' =>
    simp [preX] at h
    exact ⟨b, by rw [h.2], h.1.symm⟩
theorem enc_ok_iff {p : Nat} {x : Ex} {res : PR} {r : List Tok} (h : enclosedX p res = .ok x r) : ∃ b r', res = .ok b r' ∧ isT (hd r') [41] = true ∧ x = b.move p ∧ r = r'.tail := by
  cases res with
  | er c p => simp [enclosedX] at h
  | ok b r' =>
    simp only [enclosedX] at h
    split at h
    · rename_i hi
      injection h with h1 h2
      exact ⟨b, r', rfl, hi, h1.symm, h2.symm⟩
    · cases h
theorem shr_atom {d : Dp} (hd' : Shr d.c) : Shr (atomX d) := by
  intro us x r h
  unfold atomX at h
  split at h
  · rename_i hi
    obtain ⟨b, r', h1, h2, _, rfl⟩ := enc_ok_iff h
    obtain ⟨h3, h4⟩ := hd' _ _ _ h1
    have := tail_len us
    have := tail_len r'
    exact ⟨by omega, fun hf => ((h4 (hf.more (isT_kind hi)).1).more (isT_kind h2)).1⟩
  · split at h
    · rename_i _ h1
      injection h with _ h2
      subst h2
      exact ⟨tail_len us, fun hf => (hf.more (by omega)).1⟩
    · split at h
      · rename_i _ _ h1
        injection h with _ h2
        subst h2
        exact ⟨tail_len us, fun hf => (hf.more (by omega)).1⟩
      · cases h
theorem shr_pre {us : List Tok} {op s : List UInt8} {p : Nat} {F : List Tok → PR} (hF : Shr F) (hi : isT (hd us) s = true) {x : Ex} {r : List Tok} (h : preX op p (F us.tail) = .ok x r) : r.length ≤ us.length ∧ (Fine us → Fine r) := by
  obtain ⟨b, h1, _⟩ := pre_ok_iff h
  obtain ⟨h3, h4⟩ := hF _ _ _ h1
  have := tail_len us
  exact ⟨by omega, fun hf => h4 (hf.more (isT_kind hi)).1⟩
theorem shr_minus {d : Dp} (hs : Shr4 d) : Shr (minusX d) := by
  intro us x r h
  unfold minusX at h
  split at h
  · rename_i hi
    exact shr_pre hs.m hi h
  · exact shr_atom hs.c us x r h
theorem shr_chainF {k : Nat} {F : List Tok → PR} (hF : Shr F) : ∀ (f : Nat) (e : Ex) (us : List Tok) (x : Ex) (r : List Tok), chainF k F f e us = .ok x r → r.length ≤ us.length ∧ (Fine us → Fine r)
  | 0, e, us, x, r, h => by
    injection h with _ h
    subst h
    exact ⟨Nat.le_refl _, id⟩
  | f + 1, e, us, x, r, h => by
    rw [chainF] at h
    split at h
    · rename_i hs
      split at h
      · cases h
      · rename_i e' r' hj
        obtain ⟨b, h1, _⟩ := join_ok_iff hj
        obtain ⟨h3, h4⟩ := hF _ _ _ h1
        obtain ⟨h5, h6⟩ := shr_chainF hF f e' r' x r h
        have := tail_len us
        exact ⟨by omega, fun hf => h6 (h4 (hf.more (by have := (sg_kind hs).1; omega)).1)⟩
    · injection h with _ h
      subst h
      exact ⟨Nat.le_refl _, id⟩
theorem shr_chain {k : Nat} {F : List Tok → PR} (hF : Shr F) : Shr (chainX k F) := by
  intro us x r h
  unfold chainX at h
  cases h1 : F us with
  | er c p => rw [h1] at h; cases h
  | ok e r' =>
    rw [h1] at h
    obtain ⟨h3, h4⟩ := hF _ _ _ h1
    obtain ⟨h5, h6⟩ := shr_chainF hF _ _ _ _ _ h
    exact ⟨by omega, fun hf => h6 (h4 hf)⟩
theorem chainF_fuel {k : Nat} {F : List Tok → PR} (hF : Shr F) : ∀ (f g : Nat) (e : Ex) (us : List Tok), us.length ≤ f → us.length ≤ g → chainF k F f e us = chainF k F g e us
  | f, g, e, [], _, _ => by
    cases f <;> cases g <;> simp [chainF, hd_nil, sg]
  | 0, _, _, t :: r, h, _ => by simp at h
  | _, 0, _, t :: r, _, h => by simp at h
  | f + 1, g + 1, e, t :: r, hf, hg => by
    rw [chainF, chainF]
    split
    · cases hj : joinX (hd (t :: r)).text e (F (t :: r).tail) with
      | er c p => rfl
      | ok e' r' =>
        obtain ⟨b, h1, _⟩ := join_ok_iff hj
        obtain ⟨h3, _⟩ := hF _ _ _ h1
        simp only [List.length_cons, List.tail_cons] at *
        exact chainF_fuel hF f g e' r' (by omega) (by omega)
    · rfl
theorem chain_stop {k : Nat} {F : List Tok → PR} {e : Ex} {r : List Tok} (hs : sg k (hd r) = false) : chainF k F r.length e r = .ok e r := by
  cases r with
  | nil => rfl
  | cons t r => simp [chainF, hs]
theorem chain_er {k : Nat} {F : List Tok → PR} {e : Ex} {r : List Tok} {c p : Nat} (hs : sg k (hd r) = true) (h : F r.tail = .er c p) : chainF k F r.length e r = .er c p := by
  cases r with
  | nil => simp [hd_nil, sg] at hs
  | cons t r => simp [chainF, hs, joinX] at h ⊢; rw [h]
theorem chain_go {k : Nat} {F : List Tok → PR} (hF : Shr F) {e b : Ex} {r r' : List Tok} (hs : sg k (hd r) = true) (h : F r.tail = .ok b r') : chainF k F r.length e r = chainF k F r'.length (.bin (hd r).text e b e.pos) r' ∧ r'.length < r.length := by
  obtain ⟨h3, _⟩ := hF _ _ _ h
  have h4 := sg_ne hs
  refine ⟨?_, by omega⟩
  rw [← chainF_fuel hF r.tail.length r'.length _ r' h3 (Nat.le_refl _), ← h4, chainF, if_pos hs, h]
  rfl
theorem shr_comp {d : Dp} (hF : Shr (sumX d)) : Shr (compX d) := by
  intro us x r h
  unfold compX at h
  cases h1 : sumX d us with
  | er c p => rw [h1] at h; cases h
  | ok a r1 =>
    rw [h1] at h
    obtain ⟨h3, h4⟩ := hF _ _ _ h1
    simp only [compG] at h
    split at h
    · rename_i hs
      obtain ⟨b, h5, _⟩ := join_ok_iff h
      obtain ⟨h6, h7⟩ := hF _ _ _ h5
      have := tail_len r1
      exact ⟨by omega, fun hf => h7 ((h4 hf).more (by have := (sg_kind hs).1; omega)).1⟩
    · injection h with _ h
      subst h
      exact ⟨h3, h4⟩
theorem shr_neg {d : Dp} (hs : Shr4 d) (hF : Shr (compX d)) : Shr (negX d) := by
  intro us x r h
  unfold negX at h
  split at h
  · rename_i hi
    exact shr_pre hs.n hi h
  · exact hF us x r h
theorem shr_impl {d : Dp} (hs : Shr4 d) (hF : Shr (disjX d)) : Shr (implX d) := by
  intro us x r h
  unfold implX at h
  cases h1 : disjX d us with
  | er c p => rw [h1] at h; cases h
  | ok a r1 =>
    rw [h1] at h
    obtain ⟨h3, h4⟩ := hF _ _ _ h1
    simp only [implG] at h
    split at h
    · rename_i hi
      obtain ⟨b, h5, _⟩ := join_ok_iff h
      obtain ⟨h6, h7⟩ := hs.i _ _ _ h5
      have := tail_len r1
      exact ⟨by omega, fun hf => h7 ((h4 hf).more (isT_kind hi)).1⟩
    · injection h with _ h
      subst h
      exact ⟨h3, h4⟩
theorem cond_ok_iff {d : Dp} {x : Ex} {us r : List Tok} (h : condX d us = .ok x r) : ∃ a r1, implX d us = .ok a r1 ∧ ((isT (hd r1) [63] = false ∧ x = a ∧ r = r1) ∨ (isT (hd r1) [63] = true ∧ ∃ b r2, d.c r1.tail = .ok b r2 ∧ isT (hd r2) [58] = true ∧ ∃ c, d.c r2.tail = .ok c r ∧ x = .cond a b c a.pos)) := by
  unfold condX at h
  cases h1 : implX d us with
  | er c p => rw [h1] at h; cases h
  | ok a r1 =>
    rw [h1] at h
    refine ⟨a, r1, rfl, ?_⟩
    simp only [condG] at h
    split at h
    · rename_i hi
      refine .inr ⟨hi, ?_⟩
      cases h2 : d.c r1.tail with
      | er c p => rw [h2] at h; cases h
      | ok b r2 =>
        rw [h2] at h
        simp only [condH] at h
        split at h
        · rename_i hi2
          refine ⟨b, r2, rfl, hi2, ?_⟩
          cases h3 : d.c r2.tail with
          | er c p => rw [h3] at h; cases h
          | ok c r3 =>
            rw [h3] at h
            injection h with h4 h5
            subst h5
            exact ⟨c, rfl, h4.symm⟩
        · cases h
    · rename_i hi
      injection h with h4 h5
      exact .inl ⟨by simpa using hi, h4.symm, h5.symm⟩
theorem shr_cond {d : Dp} (hs : Shr4 d) (hF : Shr (implX d)) : Shr (condX d) := by
  intro us x r h
  obtain ⟨a, r1, h1, h2⟩ := cond_ok_iff h
  obtain ⟨h3, h4⟩ := hF _ _ _ h1
  rcases h2 with ⟨_, _, rfl⟩ | ⟨hi, b, r2, h5, hi2, c, h6, _⟩
  · exact ⟨h3, h4⟩
  · obtain ⟨h7, h8⟩ := hs.c _ _ _ h5
    obtain ⟨h9, h10⟩ := hs.c _ _ _ h6
    have := tail_len r1
    have := tail_len r2
    exact ⟨by omega, fun hf => h10 ((h8 ((h4 hf).more (isT_kind hi)).1).more (isT_kind hi2)).1⟩
structure ShrA (d : Dp) : Prop where
  m : Shr (minusX d)
  p : Shr (prodX d)
  s : Shr (sumX d)
  r : Shr (compX d)
  n : Shr (negX d)
  a : Shr (conjX d)
  o : Shr (disjX d)
  i : Shr (implX d)
  c : Shr (condX d)
theorem shr_all {d : Dp} (hs : Shr4 d) : ShrA d := by
  have m := shr_minus hs
  have p : Shr (prodX d) := shr_chain m
  have s : Shr (sumX d) := shr_chain p
  have r := shr_comp s
  have n := shr_neg hs r
  have a : Shr (conjX d) := shr_chain n
  have o : Shr (disjX d) := shr_chain a
  have i := shr_impl hs o
  exact ⟨m, p, s, r, n, a, o, i, shr_cond hs i⟩
theorem shr_deep : Shr deepX := by intro us x r h; cases h
theorem shr_dp : ∀ l, Shr4 (dp l)
  | 0 => ⟨shr_deep, shr_deep, shr_deep, shr_deep⟩
  | l + 1 => by
    have h := shr_all (shr_dp l)
    exact ⟨h.c, h.i, h.n, h.m⟩
theorem shr_lv (l : Nat) : ShrA (dp l) := shr_all (shr_dp l)
end
section
theorem meas_name {r : List UInt8} {n : Nat} (h0 : r ≠ []) (h : meas r = (1, n, 0)) : ∃ c s, r.take n = c :: s ∧ letterB c = true ∧ ∀ x ∈ r.take n, nameB x = true := by
  cases r with
  | nil => exact absurd rfl h0
  | cons c s =>
    simp only [meas] at h
    split at h
    · injection h with h _; cases h
    · split at h
      · rename_i hl
        injection h with _ h
        injection h with hn _
        rw [← hn, take_cnt]
        have hc : nameB c = true := by simp [nameB, hl]
        refine ⟨c, s.takeWhile nameB, by rw [List.takeWhile_cons, if_pos hc], hl, all_while nameB _⟩
      · split at h
        · injection h with h _; cases h
        · injection h with h _; cases h
theorem fine_of_good {l : List UInt8} (hl : l.length ≤ 65536) : ∀ {ts : List Tok} {i : Nat}, Good l i ts → Fine ts
  | [], _, h => h.elim
  | [t], _, h => ⟨h.1, h.2.1⟩
  | t :: u :: us, i, h => by
    have hn := good_num h t (by simp)
    obtain ⟨_, h2, ⟨n, hm, ht, hg⟩, _⟩ := h
    have hk := meas_kinds (drop_ne h2) hm
    refine ⟨by omega, by omega, fun h1 => ?_, hn.2, fine_of_good hl hg⟩
    rw [h1] at hm ht
    have ht2 : t.text = (l.drop t.pos).take n := ht
    rw [ht2]
    exact meas_name (drop_ne h2) hm
theorem fine_toks {l : List UInt8} {ts : List Tok} (hl : l.length ≤ 65536) (h : toks l = .ok ts) : Fine ts := fine_of_good hl (good_toks h)
theorem parse_ok {D : Nat} {l : List UInt8} {ts : List Tok} (h : toks l = .ok ts) : parseX D l = endX ((dp D).c ts) := by rw [parseX, h]
theorem parse_er {D : Nat} {l : List UInt8} {x p : Nat} (h : toks l = .error (x, p)) : parseX D l = .er x p := by rw [parseX, h]
end
section
def nameL (l : List UInt8) : Prop := (∃ c r, l = c :: r ∧ letterB c = true) ∧ ∀ x ∈ l, nameB x = true
/-- Well made. -/
def Ok : Ex → Prop
  | .leaf op nm n _ => (op = opNum ∧ nm = [] ∧ n < 9223372036854775808) ∨ (op = opName ∧ n = 0 ∧ nameL nm ∧ nm ≠ opTrue ∧ nm ≠ opFalse) ∨ ((op = opTrue ∨ op = opFalse) ∧ nm = [] ∧ n = 0)
  | .un op a _ => (op = [33] ∨ op = opNeg) ∧ Ok a
  | .bin op a b _ => (rk op = 1 ∨ rk op = 2 ∨ rk op = 3 ∨ rk op = 5 ∨ rk op = 6 ∨ rk op = 7) ∧ Ok a ∧ Ok b
  | .cond a b c _ => Ok a ∧ Ok b ∧ Ok c
/-- How many levels it needs: unparenthesized; where just ranks from k on may stand. -/
def nd : Ex → Nat
  | .leaf _ _ _ _ => 0
  | .un op a _ => 1 + (if rk a.op < rk op then 1 + nd a else nd a)
  | .bin op a b _ =>
    if rk op = 1 then max (if rk a.op < 2 then 1 + nd a else nd a) (1 + (if rk b.op < 1 then 1 + nd b else nd b))
    else max (if rk a.op < lo (rk op) 0 then 1 + nd a else nd a) (if rk b.op < lo (rk op) 1 then 1 + nd b else nd b)
  | .cond a b c _ => max (if rk a.op < 1 then 1 + nd a else nd a) (1 + max (nd b) (nd c))
def nk (k : Nat) (e : Ex) : Nat := if rk e.op < k then 1 + nd e else nd e
theorem nk_mono {j k : Nat} (h : j ≤ k) (e : Ex) : nk j e ≤ nk k e := by
  unfold nk
  split <;> split <;> omega
theorem nk_nd (k : Nat) (e : Ex) : nd e ≤ nk k e := by unfold nk; split <;> omega
theorem nk_le (k : Nat) (e : Ex) : nk k e ≤ 1 + nd e := by unfold nk; split <;> omega
theorem nd_move (q : Nat) (e : Ex) : nd (e.move q) = nd e := by cases e <;> rfl
theorem op_move (q : Nat) (e : Ex) : (e.move q).op = e.op := by cases e <;> rfl
theorem ok_move (q : Nat) {e : Ex} (h : Ok e) : Ok (e.move q) := by cases e <;> exact h
theorem nk_move (q k : Nat) (e : Ex) : nk k (e.move q) = nk k e := by unfold nk; rw [nd_move, op_move]
theorem rk_neg : rk opNeg = 8 := by decide
theorem rk_not : rk [33] = 4 := by decide
theorem rk_imp : rk [61, 62] = 1 := by decide
theorem rk_cond : rk [63] = 0 := by decide
theorem nk_top {k : Nat} {e : Ex} (h : k ≤ rk e.op) : nk k e = nd e := by unfold nk; rw [if_neg (by omega)]
theorem nd_un (op : List UInt8) (a : Ex) (p : Nat) : nd (.un op a p) = 1 + nk (rk op) a := rfl
theorem nd_imp {op : List UInt8} (h : rk op = 1) (a b : Ex) (p : Nat) : nd (.bin op a b p) = max (nk 2 a) (1 + nk 1 b) := by unfold nd nk; rw [if_pos h]
theorem nd_cmp {op : List UInt8} (h : rk op = 5) (a b : Ex) (p : Nat) : nd (.bin op a b p) = max (nk 6 a) (nk 6 b) := by unfold nd nk; rw [if_neg (by omega), h]; rfl
theorem nd_cond (a b c : Ex) (p : Nat) : nd (.cond a b c p) = max (nk 1 a) (1 + max (nd b) (nd c)) := rfl
/-- What is read where ranks from k on may stand. -/
def Rd (k lv : Nat) (F : List Tok → PR) : Prop := ∀ us e r, Fine us → F us = .ok e r → Ok e ∧ nk k e ≤ lv
structure Rd4 (d : Dp) (lv : Nat) : Prop where
  c : ∀ us e r, Fine us → d.c us = .ok e r → Ok e ∧ 1 + nd e ≤ lv
  i : ∀ us e r, Fine us → d.i us = .ok e r → Ok e ∧ 1 + nk 1 e ≤ lv
  n : ∀ us e r, Fine us → d.n us = .ok e r → Ok e ∧ 1 + nk 4 e ≤ lv
  m : ∀ us e r, Fine us → d.m us = .ok e r → Ok e ∧ 1 + nk 8 e ≤ lv
theorem rd_word {us : List Tok} (h : Fine us) (h1 : (hd us).kind = 1) : Ok (wordX (hd us).text (hd us).pos) ∧ nk 9 (wordX (hd us).text (hd us).pos) = 0 := by
  obtain ⟨c, r, h2, h3, h4⟩ := h.name h1
  unfold wordX
  split
  · rename_i ht
    refine ⟨.inr (.inr ⟨ht, rfl, rfl⟩), ?_⟩
    have : rk (hd us).text = 9 := by rcases ht with ht | ht <;> rw [ht] <;> decide
    simp [nk, Ex.op, this, nd]
  · rename_i ht
    have hn : ¬ (hd us).text = opTrue ∧ ¬ (hd us).text = opFalse := ⟨fun e => ht (.inl e), fun e => ht (.inr e)⟩
    refine ⟨.inr (.inl ⟨rfl, rfl, ⟨⟨c, r, h2, h3⟩, h4⟩, hn.1, hn.2⟩), ?_⟩
    have : rk opName = 9 := by decide
    simp [nk, Ex.op, this, nd]
theorem rd_atom {d : Dp} {lv : Nat} (hd4 : Rd4 d lv) : Rd 9 lv (atomX d) := by
  intro us e r hf h
  unfold atomX at h
  split at h
  · rename_i hi
    obtain ⟨b, r', h1, h2, rfl, rfl⟩ := enc_ok_iff h
    obtain ⟨h3, h4⟩ := hd4.c _ _ _ (hf.more (isT_kind hi)).1 h1
    refine ⟨ok_move _ h3, ?_⟩
    rw [nk_move]
    have := nk_le 9 b
    omega
  · split at h
    · rename_i _ h1
      injection h with h2 _
      subst h2
      obtain ⟨h3, h4⟩ := rd_word hf h1
      exact ⟨h3, by omega⟩
    · split at h
      · rename_i _ _ h1
        injection h with h2 _
        subst h2
        obtain ⟨n0, n1, n2⟩ := hf.numb h1
        refine ⟨.inl ⟨rfl, rfl, n2⟩, ?_⟩
        have : rk opNum = 9 := by decide
        simp [nk, Ex.op, this, nd]
      · cases h
theorem rd_minus {d : Dp} {lv : Nat} (hd4 : Rd4 d lv) : Rd 8 lv (minusX d) := by
  intro us e r hf h
  unfold minusX at h
  split at h
  · rename_i hi
    obtain ⟨b, h1, rfl⟩ := pre_ok_iff h
    obtain ⟨h3, h4⟩ := hd4.m _ _ _ (hf.more (isT_kind hi)).1 h1
    refine ⟨⟨.inr rfl, h3⟩, ?_⟩
    rw [nk_top (by rw [Ex.op, rk_neg]; omega), nd_un, rk_neg]
    exact h4
  · obtain ⟨h3, h4⟩ := rd_atom hd4 us e r hf h
    exact ⟨h3, Nat.le_trans (nk_mono (by omega) e) h4⟩
/-- A chain's rank. -/
def chK (k : Nat) : Prop := k = 2 ∨ k = 3 ∨ k = 6 ∨ k = 7
theorem nd_chain {k : Nat} (hk : chK k) {op : List UInt8} (h : rk op = k) (a b : Ex) (p : Nat) : nd (.bin op a b p) = max (nk k a) (nk (k + 1) b) := by
  unfold nd nk
  rcases hk with rfl | rfl | rfl | rfl <;> simp [h, lo]
theorem rd_chainF {k lv : Nat} (hk : chK k) {F : List Tok → PR} (hS : Shr F) (hF : Rd (k + 1) lv F) : ∀ (f : Nat) (e : Ex) (us : List Tok) (x : Ex) (r : List Tok), Fine us → Ok e → nk k e ≤ lv → chainF k F f e us = .ok x r → Ok x ∧ nk k x ≤ lv
  | 0, e, us, x, r, _, h1, h2, h => by
    injection h with h _
    subst h
    exact ⟨h1, h2⟩
  | f + 1, e, us, x, r, hf, h1, h2, h => by
    rw [chainF] at h
    split at h
    · rename_i hs
      split at h
      · cases h
      · rename_i e' r' hj
        obtain ⟨b, h3, rfl⟩ := join_ok_iff hj
        have hft := (hf.more (by have := (sg_kind hs).1; omega)).1
        obtain ⟨h5, h6⟩ := hF _ _ _ hft h3
        have hrk := (sg_kind hs).2
        have hok : Ok (.bin (hd us).text e b e.pos) := ⟨by rw [hrk]; unfold chK at hk; omega, h1, h5⟩
        refine rd_chainF hk hS hF f _ r' x r ((hS _ _ _ h3).2 hft) hok ?_ h
        rw [nk_top (by rw [Ex.op, hrk]; omega), nd_chain hk hrk]
        omega
    · injection h with h _
      subst h
      exact ⟨h1, h2⟩
theorem rd_chain {k lv : Nat} (hk : chK k) {F : List Tok → PR} (hS : Shr F) (hF : Rd (k + 1) lv F) : Rd k lv (chainX k F) := by
  intro us x r hf h
  unfold chainX at h
  cases h1 : F us with
  | er c p => rw [h1] at h; cases h
  | ok e r' =>
    rw [h1] at h
    obtain ⟨h3, h4⟩ := hF _ _ _ hf h1
    exact rd_chainF hk hS hF _ _ _ _ _ ((hS _ _ _ h1).2 hf) h3 (Nat.le_trans (nk_mono (by omega) e) h4) h
theorem rd_comp {d : Dp} {lv : Nat} (hS : Shr (sumX d)) (hF : Rd 6 lv (sumX d)) : Rd 5 lv (compX d) := by
  intro us x r hf h
  unfold compX at h
  cases h1 : sumX d us with
  | er c p => rw [h1] at h; cases h
  | ok a r1 =>
    rw [h1] at h
    obtain ⟨h3, h4⟩ := hF _ _ _ hf h1
    have hf1 := (hS _ _ _ h1).2 hf
    simp only [compG] at h
    split at h
    · rename_i hs
      obtain ⟨b, h5, rfl⟩ := join_ok_iff h
      obtain ⟨h6, h7⟩ := hF _ _ _ (hf1.more (by have := (sg_kind hs).1; omega)).1 h5
      have hrk := (sg_kind hs).2
      refine ⟨⟨by omega, h3, h6⟩, ?_⟩
      rw [nk_top (by rw [Ex.op, hrk]; omega), nd_cmp hrk]
      omega
    · injection h with h _
      subst h
      exact ⟨h3, Nat.le_trans (nk_mono (by omega) a) h4⟩
theorem rd_neg {d : Dp} {lv : Nat} (hd4 : Rd4 d lv) (hF : Rd 5 lv (compX d)) : Rd 4 lv (negX d) := by
  intro us e r hf h
  unfold negX at h
  split at h
  · rename_i hi
    obtain ⟨b, h1, rfl⟩ := pre_ok_iff h
    obtain ⟨h3, h4⟩ := hd4.n _ _ _ (hf.more (isT_kind hi)).1 h1
    refine ⟨⟨.inl rfl, h3⟩, ?_⟩
    rw [nk_top (by rw [Ex.op, rk_not]; omega), nd_un, rk_not]
    exact h4
  · obtain ⟨h3, h4⟩ := hF us e r hf h
    exact ⟨h3, Nat.le_trans (nk_mono (by omega) e) h4⟩
theorem rd_impl {d : Dp} {lv : Nat} (hd4 : Rd4 d lv) (hS : Shr (disjX d)) (hF : Rd 2 lv (disjX d)) : Rd 1 lv (implX d) := by
  intro us x r hf h
  unfold implX at h
  cases h1 : disjX d us with
  | er c p => rw [h1] at h; cases h
  | ok a r1 =>
    rw [h1] at h
    obtain ⟨h3, h4⟩ := hF _ _ _ hf h1
    have hf1 := (hS _ _ _ h1).2 hf
    simp only [implG] at h
    split at h
    · rename_i hi
      obtain ⟨b, h5, rfl⟩ := join_ok_iff h
      obtain ⟨h6, h7⟩ := hd4.i _ _ _ (hf1.more (isT_kind hi)).1 h5
      refine ⟨⟨by rw [rk_imp]; omega, h3, h6⟩, ?_⟩
      rw [nk_top (by rw [Ex.op, rk_imp]; omega), nd_imp rk_imp]
      omega
    · injection h with h _
      subst h
      exact ⟨h3, Nat.le_trans (nk_mono (by omega) a) h4⟩
theorem rd_cond {d : Dp} {lv : Nat} (hd4 : Rd4 d lv) (hs4 : Shr4 d) (hS : Shr (implX d)) (hF : Rd 1 lv (implX d)) : Rd 0 lv (condX d) := by
  intro us x r hf h
  obtain ⟨a, r1, h1, h2⟩ := cond_ok_iff h
  obtain ⟨h3, h4⟩ := hF _ _ _ hf h1
  have hf1 := (hS _ _ _ h1).2 hf
  rcases h2 with ⟨_, rfl, rfl⟩ | ⟨hi, b, r2, h5, hi2, c, h6, rfl⟩
  · exact ⟨h3, Nat.le_trans (nk_mono (by omega) x) h4⟩
  · have hf2 := (hf1.more (isT_kind hi)).1
    obtain ⟨h7, h8⟩ := hd4.c _ _ _ hf2 h5
    have hf3 := ((hs4.c _ _ _ h5).2 hf2)
    obtain ⟨h9, h10⟩ := hd4.c _ _ _ (hf3.more (isT_kind hi2)).1 h6
    refine ⟨⟨h3, h7, h9⟩, ?_⟩
    rw [nk_top (Nat.zero_le _), nd_cond]
    omega
structure RdA (d : Dp) (lv : Nat) : Prop where
  m : Rd 8 lv (minusX d)
  n : Rd 4 lv (negX d)
  i : Rd 1 lv (implX d)
  c : Rd 0 lv (condX d)
theorem rd_all {d : Dp} {lv : Nat} (hd4 : Rd4 d lv) (hs4 : Shr4 d) : RdA d lv := by
  have s := shr_all hs4
  have m := rd_minus hd4
  have p : Rd 7 lv (prodX d) := rd_chain (.inr (.inr (.inr rfl))) s.m m
  have su : Rd 6 lv (sumX d) := rd_chain (.inr (.inr (.inl rfl))) s.p p
  have r := rd_comp s.s su
  have n := rd_neg hd4 r
  have a : Rd 3 lv (conjX d) := rd_chain (.inr (.inl rfl)) s.n n
  have o : Rd 2 lv (disjX d) := rd_chain (.inl rfl) s.a a
  have i := rd_impl hd4 s.o o
  exact ⟨m, n, i, rd_cond hd4 hs4 s.i i⟩
theorem rd_dp : ∀ l, Rd4 (dp l) l
  | 0 => ⟨(fun _ _ _ _ h => nomatch h), (fun _ _ _ _ h => nomatch h), (fun _ _ _ _ h => nomatch h), (fun _ _ _ _ h => nomatch h)⟩
  | l + 1 => by
    have h := rd_all (rd_dp l) (shr_dp l)
    refine ⟨fun us e r hf he => ?_, fun us e r hf he => ?_, fun us e r hf he => ?_, fun us e r hf he => ?_⟩
    · obtain ⟨h1, h2⟩ := h.c us e r hf he
      have e0 : nk 0 e = nd e := by simp [nk]
      exact ⟨h1, by omega⟩
    · obtain ⟨h1, h2⟩ := h.i us e r hf he
      exact ⟨h1, by omega⟩
    · obtain ⟨h1, h2⟩ := h.n us e r hf he
      exact ⟨h1, by omega⟩
    · obtain ⟨h1, h2⟩ := h.m us e r hf he
      exact ⟨h1, by omega⟩
/-- What is read of a text is well made, and needs no more levels. -/
theorem parse_good {D : Nat} {l : List UInt8} {e : Ex} {r : List Tok} (hl : l.length ≤ 65536) (h : parseX D l = .ok e r) : Ok e ∧ 1 + nd e ≤ D := by
  unfold parseX at h
  cases ht : toks l with
  | error x => rw [ht] at h; cases h
  | ok ts =>
    rw [ht] at h
    simp only at h
    cases hc : (dp D).c ts with
    | er c p => rw [hc] at h; cases h
    | ok e' r' =>
      rw [hc] at h
      simp only [endX] at h
      split at h
      · injection h with h1 _
        subst h1
        exact (rd_dp D).c ts e' r' (fine_toks hl ht) hc
      · cases h
end
section
/-- A token behind which nothing goes on. -/
def Stop (t : Tok) : Prop := (∀ k, k < 8 → sg k t = false) ∧ isT t [63] = false ∧ isT t [61, 62] = false
/-- The same kinds and texts, up to an end, or to what stops as well. -/
inductive Al (T : List Tok) : List Tok → List Tok → Prop where
  | stop {E : Tok} (h0 : E.kind = 0) (hs : Stop (hd T)) : Al T [E] T
  | cons {t t' : Tok} {us us' : List Tok} (hk : t.kind = t'.kind) (ht : t.text = t'.text) (h : Al T us us') : Al T (t :: us) (t' :: us')
theorem stop_end {E : Tok} (h : E.kind = 0) : Stop E := ⟨fun k _ => by simp [sg, h], by simp [isT, h], by simp [isT, h]⟩
theorem isT_same {t t' : Tok} (hk : t.kind = t'.kind) (ht : t.text = t'.text) (x : List UInt8) : isT t x = isT t' x := by unfold isT; rw [hk, ht]
theorem sg_same {t t' : Tok} (hk : t.kind = t'.kind) (ht : t.text = t'.text) (k : Nat) : sg k t = sg k t' := by unfold sg; rw [hk, ht]
theorem Al.sg {T us us' : List Tok} (h : Al T us us') {k : Nat} (hk : k < 8) : sg k (hd us) = sg k (hd us') := by
  cases h with
  | stop h0 hs => exact ((stop_end h0).1 k hk).trans (hs.1 k hk).symm
  | cons h1 h2 _ => exact sg_same h1 h2 k
theorem Al.opt {T us us' : List Tok} (h : Al T us us') {x : List UInt8} (hx : x = [63] ∨ x = [61, 62]) : isT (hd us) x = isT (hd us') x := by
  cases h with
  | stop h0 hs =>
    rcases hx with rfl | rfl
    · exact (stop_end h0).2.1.trans hs.2.1.symm
    · exact (stop_end h0).2.2.trans hs.2.2.symm
  | cons h1 h2 _ => exact isT_same h1 h2 x
theorem Al.more {T us us' : List Tok} (h : Al T us us') (h0 : (hd us).kind ≠ 0) : (hd us).kind = (hd us').kind ∧ (hd us).text = (hd us').text ∧ Al T us.tail us'.tail := by
  cases h with
  | stop h1 _ => exact absurd h1 h0
  | cons h1 h2 h3 => exact ⟨h1, h2, h3⟩
theorem bare_move (q : Nat) (e : Ex) : (e.move q).bare = e.bare := by cases e <;> rfl

def Ext (F F' : List Tok → PR) : Prop := ∀ T us us', Al T us us' → ∀ e r, F us = .ok e r → ∃ e' r', F' us' = .ok e' r' ∧ e'.bare = e.bare ∧ Al T r r'
def NZ (F : List Tok → PR) : Prop := ∀ us e r, F us = .ok e r → (hd us).kind ≠ 0
structure Ext4 (d d' : Dp) : Prop where
  c : Ext d.c d'.c
  i : Ext d.i d'.i
  n : Ext d.n d'.n
  m : Ext d.m d'.m
theorem nz_atom (d : Dp) : NZ (atomX d) := by
  intro us e r h
  unfold atomX at h
  split at h
  · rename_i hi; exact isT_kind hi
  · split at h
    · omega
    · split at h
      · omega
      · cases h
theorem nz_minus (d : Dp) : NZ (minusX d) := by
  intro us e r h
  unfold minusX at h
  split at h
  · rename_i hi; exact isT_kind hi
  · exact nz_atom d us e r h
theorem nz_chain {k : Nat} {F : List Tok → PR} (hF : NZ F) : NZ (chainX k F) := by
  intro us e r h
  unfold chainX at h
  cases h1 : F us with
  | er c p => rw [h1] at h; cases h
  | ok a r1 => exact hF us a r1 h1
theorem nz_comp {d : Dp} (hF : NZ (sumX d)) : NZ (compX d) := by
  intro us e r h
  unfold compX at h
  cases h1 : sumX d us with
  | er c p => rw [h1] at h; cases h
  | ok a r1 => exact hF us a r1 h1
theorem nz_neg {d : Dp} (hF : NZ (compX d)) : NZ (negX d) := by
  intro us e r h
  unfold negX at h
  split at h
  · rename_i hi; exact isT_kind hi
  · exact hF us e r h
theorem ext_atom {d d' : Dp} (h4 : Ext4 d d') : Ext (atomX d) (atomX d') := by
  intro T us us' ha e r h
  have h0 := nz_atom d us e r h
  obtain ⟨hk, ht, htl⟩ := ha.more h0
  unfold atomX at h ⊢
  rw [← isT_same hk ht, ← hk, ← ht]
  split at h
  · rename_i hi
    rw [if_pos hi]
    obtain ⟨b, r1, h1, h2, rfl, rfl⟩ := enc_ok_iff h
    obtain ⟨b', r1', h3, h5, h6⟩ := h4.c _ _ _ htl _ _ h1
    obtain ⟨hk2, ht2, htl2⟩ := h6.more (isT_kind h2)
    refine ⟨b'.move (hd us').pos, r1'.tail, ?_, by rw [bare_move, bare_move, h5], htl2⟩
    rw [h3, enclosedX, ← isT_same hk2 ht2, if_pos h2]
  · rename_i hi
    rw [if_neg hi]
    split at h
    · rename_i h1
      rw [if_pos h1]
      injection h with h2 h3
      subst h2 h3
      refine ⟨_, _, rfl, ?_, htl⟩
      unfold wordX
      split <;> rfl
    · rename_i h1
      rw [if_neg h1]
      split at h
      · rename_i h2
        rw [if_pos h2]
        injection h with h3 h5
        subst h3 h5
        exact ⟨_, _, rfl, rfl, htl⟩
      · cases h
theorem ext_pre {T us us' : List Tok} {op : List UInt8} {p p' : Nat} {F F' : List Tok → PR} (hF : Ext F F') (htl : Al T us.tail us'.tail) {e : Ex} {r : List Tok} (h : preX op p (F us.tail) = .ok e r) : ∃ e' r', preX op p' (F' us'.tail) = .ok e' r' ∧ e'.bare = e.bare ∧ Al T r r' := by
  obtain ⟨b, h1, rfl⟩ := pre_ok_iff h
  obtain ⟨b', r1', h3, h5, h6⟩ := hF _ _ _ htl _ _ h1
  exact ⟨.un op b' p', r1', by rw [h3]; rfl, by simp [Ex.bare, h5], h6⟩
theorem ext_minus {d d' : Dp} (h4 : Ext4 d d') : Ext (minusX d) (minusX d') := by
  intro T us us' ha e r h
  have h0 := nz_minus d us e r h
  obtain ⟨hk, ht, htl⟩ := ha.more h0
  unfold minusX at h ⊢
  rw [← isT_same hk ht]
  split at h
  · rename_i hi
    rw [if_pos hi]
    exact ext_pre h4.m htl h
  · rename_i hi
    rw [if_neg hi]
    exact ext_atom h4 T us us' ha e r h
theorem ext_chainF {k : Nat} (hk : k < 8) {F F' : List Tok → PR} (hS : Shr F) (hS' : Shr F') (hF : Ext F F') : ∀ (n : Nat) (T us us' : List Tok) (a a' e : Ex) (r : List Tok), us.length ≤ n → Al T us us' → a'.bare = a.bare → chainF k F us.length a us = .ok e r →
    ∃ e' r', chainF k F' us'.length a' us' = .ok e' r' ∧ e'.bare = e.bare ∧ Al T r r'
  | n, T, us, us', a, a', e, r, hn, ha, hb, h => by
    by_cases hs : sg k (hd us) = true
    · have hs' : sg k (hd us') = true := by rw [← ha.sg hk]; exact hs
      obtain ⟨hk2, ht2, htl⟩ := ha.more (by have := (sg_kind hs).1; omega)
      cases h1 : F us.tail with
      | er c p => rw [chain_er hs h1] at h; cases h
      | ok b r1 =>
        obtain ⟨b', r1', h3, h5, h6⟩ := hF _ _ _ htl _ _ h1
        obtain ⟨g1, g2⟩ := chain_go (e := a) hS hs h1
        obtain ⟨g3, _⟩ := chain_go (e := a') hS' hs' h3
        rw [g1] at h
        rw [g3]
        match n, hn with
        | 0, hn => omega
        | n + 1, hn => exact ext_chainF hk hS hS' hF n T r1 r1' _ _ e r (by omega) h6 (by simp [Ex.bare, hb, h5, ht2]) h
    · have hs1 : sg k (hd us) = false := by simpa using hs
      have hs' : sg k (hd us') = false := by rw [← ha.sg hk]; exact hs1
      rw [chain_stop hs1] at h
      injection h with h2 h3
      subst h2 h3
      exact ⟨a', us', chain_stop hs', hb, ha⟩
theorem ext_chain {k : Nat} (hk : k < 8) {F F' : List Tok → PR} (hS : Shr F) (hS' : Shr F') (hF : Ext F F') : Ext (chainX k F) (chainX k F') := by
  intro T us us' ha e r h
  unfold chainX at h ⊢
  cases h1 : F us with
  | er c p => rw [h1] at h; cases h
  | ok a r1 =>
    rw [h1] at h
    obtain ⟨a', r1', h3, h5, h6⟩ := hF _ _ _ ha _ _ h1
    rw [h3]
    exact ext_chainF hk hS hS' hF r1.length T r1 r1' a a' e r (Nat.le_refl _) h6 h5 h
theorem ext_comp {d d' : Dp} (hF : Ext (sumX d) (sumX d')) : Ext (compX d) (compX d') := by
  intro T us us' ha e r h
  unfold compX at h ⊢
  cases h1 : sumX d us with
  | er c p => rw [h1] at h; cases h
  | ok a r1 =>
    rw [h1] at h
    obtain ⟨a', r1', h3, h5, h6⟩ := hF _ _ _ ha _ _ h1
    rw [h3]
    simp only [compG] at h ⊢
    rw [← h6.sg (by decide)]
    split at h
    · rename_i hs
      rw [if_pos hs]
      obtain ⟨hk2, ht2, htl⟩ := h6.more (by have := (sg_kind hs).1; omega)
      obtain ⟨b, g1, rfl⟩ := join_ok_iff h
      obtain ⟨b', r2', g3, g5, g6⟩ := hF _ _ _ htl _ _ g1
      exact ⟨.bin (hd r1').text a' b' a'.pos, r2', by rw [g3]; rfl, by simp [Ex.bare, h5, g5, ht2], g6⟩
    · rename_i hs
      rw [if_neg hs]
      injection h with h2 h7
      subst h2 h7
      exact ⟨a', r1', rfl, h5, h6⟩
theorem ext_neg {d d' : Dp} (h4 : Ext4 d d') (hz : NZ (negX d)) (hF : Ext (compX d) (compX d')) : Ext (negX d) (negX d') := by
  intro T us us' ha e r h
  have h0 := hz us e r h
  obtain ⟨hk, ht, htl⟩ := ha.more h0
  unfold negX at h ⊢
  rw [← isT_same hk ht]
  split at h
  · rename_i hi
    rw [if_pos hi]
    exact ext_pre h4.n htl h
  · rename_i hi
    rw [if_neg hi]
    exact hF T us us' ha e r h
theorem ext_impl {d d' : Dp} (h4 : Ext4 d d') (hF : Ext (disjX d) (disjX d')) : Ext (implX d) (implX d') := by
  intro T us us' ha e r h
  unfold implX at h ⊢
  cases h1 : disjX d us with
  | er c p => rw [h1] at h; cases h
  | ok a r1 =>
    rw [h1] at h
    obtain ⟨a', r1', h3, h5, h6⟩ := hF _ _ _ ha _ _ h1
    rw [h3]
    simp only [implG] at h ⊢
    rw [← h6.opt (.inr rfl)]
    split at h
    · rename_i hs
      rw [if_pos hs]
      obtain ⟨hk2, ht2, htl⟩ := h6.more (isT_kind hs)
      obtain ⟨b, g1, rfl⟩ := join_ok_iff h
      obtain ⟨b', r2', g3, g5, g6⟩ := h4.i _ _ _ htl _ _ g1
      exact ⟨.bin [61, 62] a' b' a'.pos, r2', by rw [g3]; rfl, by simp [Ex.bare, h5, g5], g6⟩
    · rename_i hs
      rw [if_neg hs]
      injection h with h2 h7
      subst h2 h7
      exact ⟨a', r1', rfl, h5, h6⟩
theorem ext_cond {d d' : Dp} (h4 : Ext4 d d') (hF : Ext (implX d) (implX d')) : Ext (condX d) (condX d') := by
  intro T us us' ha e r h
  obtain ⟨a, r1, h1, h2⟩ := cond_ok_iff h
  obtain ⟨a', r1', h3, h5, h6⟩ := hF _ _ _ ha _ _ h1
  unfold condX
  rw [h3]
  simp only [condG]
  rcases h2 with ⟨hi, rfl, rfl⟩ | ⟨hi, b, r2, g1, hi2, c, g2, rfl⟩
  · rw [← h6.opt (.inl rfl), hi, if_neg (by simp)]
    exact ⟨a', r1', rfl, h5, h6⟩
  · rw [← h6.opt (.inl rfl), if_pos hi]
    obtain ⟨_, _, htl⟩ := h6.more (isT_kind hi)
    obtain ⟨b', r2', g3, g5, g6⟩ := h4.c _ _ _ htl _ _ g1
    obtain ⟨hk2, ht2, htl2⟩ := g6.more (isT_kind hi2)
    obtain ⟨c', r3', g7, g8, g9⟩ := h4.c _ _ _ htl2 _ _ g2
    refine ⟨.cond a' b' c' a'.pos, r3', ?_, by simp [Ex.bare, h5, g5, g8], g9⟩
    rw [g3, condH, ← isT_same hk2 ht2, if_pos hi2, g7]
    rfl
theorem ext_all {d d' : Dp} (h4 : Ext4 d d') (hs : Shr4 d) (hs' : Shr4 d') : Ext (condX d) (condX d') ∧ Ext (implX d) (implX d') ∧ Ext (negX d) (negX d') ∧ Ext (minusX d) (minusX d') := by
  have s := shr_all hs
  have s' := shr_all hs'
  have m := ext_minus h4
  have zm := nz_minus d
  have p : Ext (prodX d) (prodX d') := ext_chain (by decide) s.m s'.m m
  have zp : NZ (prodX d) := nz_chain zm
  have su : Ext (sumX d) (sumX d') := ext_chain (by decide) s.p s'.p p
  have zs : NZ (sumX d) := nz_chain zp
  have r := ext_comp su
  have zr := nz_comp zs
  have n := ext_neg h4 (nz_neg zr) r
  have a : Ext (conjX d) (conjX d') := ext_chain (by decide) s.n s'.n n
  have o : Ext (disjX d) (disjX d') := ext_chain (by decide) s.a s'.a a
  have i := ext_impl h4 o
  exact ⟨ext_cond h4 i, i, n, m⟩
theorem ext_dp : ∀ (l l' : Nat), l ≤ l' → Ext4 (dp l) (dp l')
  | 0, _, _ => ⟨(fun _ _ _ _ _ _ h => nomatch h), (fun _ _ _ _ _ _ h => nomatch h), (fun _ _ _ _ _ _ h => nomatch h), (fun _ _ _ _ _ _ h => nomatch h)⟩
  | l + 1, 0, h => by omega
  | l + 1, l' + 1, h => by
    obtain ⟨h1, h2, h3, h4⟩ := ext_all (ext_dp l l' (by omega)) (shr_dp l) (shr_dp l')
    exact ⟨h1, h2, h3, h4⟩
end
section
/-- May what follows be part of a comment? -/
def cmt : List UInt8 → Bool
  | a :: b :: r => (a == 47 && b == 47) || cmt (b :: r)
  | _ => false
theorem cmt_tail {a : UInt8} {r : List UInt8} (h : cmt (a :: r) = false) : cmt r = false := by
  cases r with
  | nil => rfl
  | cons b r => simp only [cmt, Bool.or_eq_false_iff] at h; exact h.2
theorem cmt_drop : ∀ (n : Nat) {r : List UInt8}, cmt r = false → cmt (r.drop n) = false
  | 0, _, h => by simpa using h
  | n + 1, [], _ => rfl
  | n + 1, _ :: r, h => by rw [List.drop_succ_cons]; exact cmt_drop n (cmt_tail h)
/-- A byte that ends what stands ahead of it. -/
def sepB (x : UInt8) : Prop := x.toNat = 32 ∨ x.toNat = 41
theorem blanks_appX {x : UInt8} (hx : sepB x) (t : List UInt8) : ∀ (r : List UInt8), cmt r = false → (blanks false r < r.length → blanks false (r ++ x :: t) = blanks false r) ∧ (blanks false r = r.length → blanks false (r ++ x :: t) = r.length + blanks false (x :: t))
  | [], _ => ⟨fun h => absurd h (by simp [blanks]), fun _ => by simp⟩
  | c :: r, hc => by
    have h1 := blanks_appX hx t r (cmt_tail hc)
    simp only [List.cons_append, blanks, List.length_cons]
    by_cases hb : blankB c = true
    · rw [if_pos hb, if_pos hb]
      refine ⟨fun h => ?_, fun h => ?_⟩
      · rw [h1.1 (by omega)]
      · rw [h1.2 (by omega), blanks]; omega
    · rw [if_neg hb, if_neg hb]
      have n1 : ¬ (c.toNat = 47 ∧ r.head?.map (·.toNat) = some 47) := by
        rintro ⟨e1, e2⟩
        cases r with
        | nil => simp at e2
        | cons b r =>
          simp only [cmt, Bool.or_eq_false_iff, Bool.and_eq_false_iff, beq_eq_false_iff_ne] at hc
          simp only [List.head?_cons, Option.map_some, Option.some.injEq] at e2
          rcases hc.1 with h | h
          · exact h (UInt8.toNat_inj.1 e1)
          · exact h (UInt8.toNat_inj.1 e2)
      have n2 : ¬ (c.toNat = 47 ∧ (r ++ x :: t).head?.map (·.toNat) = some 47) := by
        rintro ⟨e1, e2⟩
        cases r with
        | nil =>
          simp only [List.nil_append, List.head?_cons, Option.map_some, Option.some.injEq] at e2
          unfold sepB at hx
          omega
        | cons b r => exact n1 ⟨e1, by simpa using e2⟩
      rw [if_neg n1, if_neg n2]
      exact ⟨fun _ => rfl, fun h => by omega⟩
theorem cnt_in {p : UInt8 → Bool} : ∀ {l : List UInt8} (y : List UInt8), cnt p l < l.length → cnt p (l ++ y) = cnt p l
  | [], _, h => absurd h (by simp [cnt])
  | c :: l, y, h => by
    by_cases hc : p c = true
    · rw [List.cons_append, cnt_cons_pos _ hc, cnt_cons_pos _ hc, cnt_in y (by rw [cnt_cons_pos _ hc] at h; simpa using h)]
    · have hc' : p c = false := by simpa using hc
      rw [List.cons_append, cnt_cons_neg _ hc', cnt_cons_neg _ hc']
theorem labN_in {r : List UInt8} (y : List UInt8) (h : labN r ≠ 0) : labN (r ++ y) = labN r := by
  have hl : cnt labelB r < r.length := by
    unfold labN at h
    split at h
    · exact absurd rfl h
    · rename_i hn
      apply Classical.byContradiction
      intro hx
      exact hn (.inr (.inr (by rw [List.getElem?_eq_none (by omega)]; simp)))
  unfold labN
  rw [cnt_in y hl, List.getElem?_append_left hl]
theorem sep_name {x : UInt8} (hx : sepB x) : nameB x = false ∧ digitB x = false := by
  unfold sepB at hx
  constructor
  · simp only [nameB, letterB, digitB, Bool.or_eq_false_iff, beq_eq_false_iff_ne, Bool.and_eq_false_iff, decide_eq_false_iff_not]
    omega
  · simp only [digitB, Bool.and_eq_false_iff, decide_eq_false_iff_not]
    omega
theorem twoB_appX {c x : UInt8} (hx : sepB x) (t r : List UInt8) : twoB (c :: (r ++ x :: t)) = twoB (c :: r) := by
  cases r with
  | nil =>
    simp only [List.nil_append, twoB]
    rcases hx with h | h <;> rw [h] <;> simp
  | cons b r => rfl
theorem meas_appX {x : UInt8} (hx : sepB x) (t : List UInt8) {r : List UInt8} (h0 : r ≠ []) (hm : (meas r).2.2 = 0) : meas (r ++ x :: t) = meas r := by
  cases r with
  | nil => exact absurd rfl h0
  | cons c r =>
    obtain ⟨hx1, hx2⟩ := sep_name hx
    have e1 := cnt_app (p := digitB) (x := x) hx2 t (c :: r)
    have e2 := cnt_app (p := nameB) (x := x) hx1 t (c :: r)
    have e3 := while_app (p := digitB) (x := x) hx2 t (c :: r)
    have e5 : signN (c :: (r ++ x :: t)) = signN (c :: r) := by simp only [signN]; rw [twoB_appX hx]
    rw [List.cons_append] at e1 e2 e3
    simp only [List.cons_append, meas] at hm ⊢
    rw [e1, e2, e3, e5]
    by_cases hd : digitB c = true
    · rw [if_pos hd, if_pos hd]
    · rw [if_neg hd] at hm ⊢
      rw [if_neg hd]
      by_cases hl : letterB c = true
      · rw [if_pos hl, if_pos hl]
      · rw [if_neg hl] at hm ⊢
        rw [if_neg hl]
        by_cases hq : quoteB c = true
        · rw [if_pos hq] at hm ⊢
          rw [if_pos hq]
          have : labN r ≠ 0 := by
            intro h
            simp [h] at hm
          rw [labN_in _ this]
        · rw [if_neg hq, if_neg hq]
theorem scan_appX {x : UInt8} (hx : sepB x) (t : List UInt8) : ∀ (n : Nat) (r : List UInt8) (p : Nat), r.length ≤ n → cmt r = false → ∀ ts, scanR r p = .ok ts → ∃ ini, ts = ini ++ [⟨0, [], p + r.length⟩] ∧ scanR (r ++ x :: t) p = onto ini (scanR (x :: t) (p + r.length))
  | n, r, p, hn, hcm, ts, h => by
    have hb := blanks_le false r
    have ha := blanks_appX hx t r hcm
    by_cases h0 : r.drop (blanks false r) = []
    · have hl : blanks false r = r.length := by have : r.length ≤ blanks false r := by simpa using h0
                                                omega
      have hs := scanR_step r p
      rw [if_pos h0] at hs
      rw [hs] at h
      obtain rfl := Res.ok.inj h
      refine ⟨[], rfl, ?_⟩
      rw [onto_nil, scanR_blank (r ++ x :: t) (x :: t) p r.length (by rw [ha.2 hl, List.drop_append, List.drop_eq_nil_of_le (by omega), List.nil_append, show r.length + blanks false (x :: t) - r.length = blanks false (x :: t) by omega]) (by rw [ha.2 hl]) (by simp)]
    · have hl : blanks false r < r.length := by simpa using h0
      have hs := scanR_step r p
      have hs2 := scanR_step (r ++ x :: t) p
      have hd : (r ++ x :: t).drop (blanks false r) = r.drop (blanks false r) ++ x :: t := List.drop_append_of_le_length (by omega)
      rw [if_neg h0] at hs
      have hm := meas_le (r.drop (blanks false r))
      by_cases h1 : (meas (r.drop (blanks false r))).2.2 = 0
      · rw [ha.1 hl, hd, meas_appX hx t h0 h1] at hs2
        rw [if_neg (by simp)] at hs2
        rw [if_pos h1] at hs hs2
        have hp := meas_pos _ h0 h1
        rw [List.take_append_of_le_length hm, List.drop_append_of_le_length hm] at hs2
        have hlen : ((r.drop (blanks false r)).drop (meas (r.drop (blanks false r))).2.1).length < r.length := by
          simp only [List.length_drop] at hm ⊢; omega
        have hpos : p + blanks false r + (meas (r.drop (blanks false r))).2.1 + ((r.drop (blanks false r)).drop (meas (r.drop (blanks false r))).2.1).length = p + r.length := by
          simp only [List.length_drop] at hm ⊢; omega
        cases n with
        | zero => omega
        | succ n =>
          have hcd : cmt ((r.drop (blanks false r)).drop (meas (r.drop (blanks false r))).2.1) = false := cmt_drop _ (cmt_drop _ hcm)
          have ih1 := scan_appX hx t n ((r.drop (blanks false r)).drop (meas (r.drop (blanks false r))).2.1) (p + blanks false r + (meas (r.drop (blanks false r))).2.1) (by omega) hcd
          rw [hpos] at ih1
          cases hr : scanR ((r.drop (blanks false r)).drop (meas (r.drop (blanks false r))).2.1) (p + blanks false r + (meas (r.drop (blanks false r))).2.1) with
          | error x => rw [hs, hr] at h; cases h
          | ok us =>
            obtain ⟨ini, rfl, hj⟩ := ih1 us hr
            rw [hs, hr] at h
            obtain rfl := Res.ok.inj h
            refine ⟨_ :: ini, rfl, ?_⟩
            rw [hs2, hj, onto_onto]; rfl
      · rw [if_neg h1] at hs
        rw [hs] at h; cases h
theorem toks_R (l : List UInt8) : toks l = scanR l 0 := rfl
/-- Tokens that begin alike. -/
theorem al_refl {T : List Tok} {E : Tok} (h0 : E.kind = 0) (hs : Stop (hd T)) : ∀ ini : List Tok, Al T (ini ++ [E]) (ini ++ T)
  | [] => .stop h0 hs
  | _ :: ini => .cons rfl rfl (al_refl h0 hs ini)
theorem al_end {T r r' : List Tok} (h : Al T r r') (h0 : (hd r).kind = 0) (hf : Fine r) : r' = T := by
  cases h with
  | stop _ _ => rfl
  | cons h1 h2 h3 =>
    rename_i t t' us us'
    cases us with
    | nil => cases h3
    | cons u us => exact absurd h0 hf.1
/-- An expression is read as far as it goes. -/
theorem reads_on {D : Nat} {s t : List UInt8} {e : Ex} {r : List Tok} (hs : s.length ≤ 65536) (hcm : cmt s = false) (h : parseX D s = .ok e r) {ts' : List Tok} (ht : toks (s ++ 32 :: 59 :: 32 :: t) = .ok ts') :
    ∃ e' r', (dp D).c ts' = .ok e' r' ∧ e'.bare = e.bare ∧ isT (hd r') [59] = true := by
  unfold parseX at h
  cases htk : toks s with
  | error x => rw [htk] at h; cases h
  | ok ts =>
    rw [htk] at h
    simp only at h
    have hf := fine_toks hs htk
    obtain ⟨ini, rfl, hj⟩ := scan_appX (x := 32) (.inl rfl) (59 :: 32 :: t) s.length s 0 (Nat.le_refl _) hcm ts htk
    rw [toks_R, hj] at ht
    have e1 : scanR (32 :: 59 :: 32 :: t) (0 + s.length) = onto [⟨4, [59], s.length + 1⟩] (scanR (32 :: t) (s.length + 2)) := by
      rw [scanR_step]
      have b1 : blanks false (32 :: 59 :: 32 :: t) = 1 := by simp [blanks, blankB]
      have m1 : meas (59 :: 32 :: t) = (4, 1, 0) := by simp [meas, digitB, letterB, quoteB, signN, twoB, oneB]
      rw [b1]
      simp only [List.drop_succ_cons, List.drop_zero]
      rw [if_neg (by simp), m1]
      simp [bareL]
    rw [e1, onto_onto] at ht
    cases hr : scanR (32 :: t) (s.length + 2) with
    | error x => rw [hr] at ht; cases ht
    | ok us =>
      rw [hr] at ht
      obtain rfl := Res.ok.inj ht
      cases hc : (dp D).c (ini ++ [⟨0, [], 0 + s.length⟩]) with
      | er c p => rw [hc] at h; cases h
      | ok e1 r1 =>
        rw [hc] at h
        simp only [endX] at h
        split at h
        · rename_i h0
          injection h with h1 h2
          subst h1 h2
          have hst : Stop ⟨4, [59], s.length + 1⟩ := ⟨fun k hk => by
            have : rk [59] = 9 := by decide
            simp [sg, this]; omega, by simp [isT], by simp [isT]⟩
          have hal := al_refl (T := ⟨4, [59], s.length + 1⟩ :: us) (E := ⟨0, [], 0 + s.length⟩) rfl hst ini
          obtain ⟨e', r', g1, g2, g3⟩ := (ext_dp D D (Nat.le_refl _)).c _ _ _ hal _ _ hc
          have hfr := ((shr_dp D).c _ _ _ hc).2 hf
          have hr' := al_end g3 h0 hfr
          subst hr'
          refine ⟨e', ⟨4, [59], s.length + 1⟩ :: us, ?_, g2, by rfl⟩
          rw [← g1]
          simp
        · cases h
end
end Go.Proofs.YtmgjpjjglghbaaaGreatDoor
