/-
  Places lie within the text; how long a shape is.
-/
import Derived.Test.YtddeplbgihcdkaaGreatDoorD0
import Derived.Test.YtddeplbgihcdkaaGreatDoorXC
namespace Go.Proofs.YtddeplbgihcdkaaGreatDoor

/-- All places are at most B. -/
def PosB (B : Nat) : Ex → Prop
  | .leaf _ _ _ p => p ≤ B
  | .un _ a p => p ≤ B ∧ PosB B a
  | .bin _ a b p => p ≤ B ∧ PosB B a ∧ PosB B b
  | .cond a b c p => p ≤ B ∧ PosB B a ∧ PosB B b ∧ PosB B c
theorem posb_pos {B : Nat} : ∀ {e : Ex}, PosB B e → e.pos ≤ B
  | .leaf _ _ _ _, h => h
  | .un _ _ _, h => h.1
  | .bin _ _ _ _, h => h.1
  | .cond _ _ _ _, h => h.1
theorem posb_move {B q : Nat} (hq : q ≤ B) : ∀ {e : Ex}, PosB B e → PosB B (e.move q)
  | .leaf _ _ _ _, _ => hq
  | .un _ _ _, h => ⟨hq, h.2⟩
  | .bin _ _ _ _, h => ⟨hq, h.2⟩
  | .cond _ _ _ _, h => ⟨hq, h.2⟩
def TB0 (B : Nat) (us : List Tok) : Prop := ∀ t ∈ us, t.pos ≤ B
theorem tb_tail {B : Nat} {us : List Tok} (h : TB0 B us) : TB0 B us.tail := fun t ht => h t (List.mem_of_mem_tail ht)
theorem tb_hd {B : Nat} {us : List Tok} (h : TB0 B us) : (hd us).pos ≤ B := by
  cases us with
  | nil => exact Nat.zero_le _
  | cons t r => exact h t (List.mem_cons_self ..)
def Pb (B : Nat) (F : List Tok → PR) : Prop := ∀ us e r, TB0 B us → F us = .ok e r → PosB B e ∧ TB0 B r
structure Pb4 (B : Nat) (d : Dp) : Prop where
  c : Pb B d.c
  i : Pb B d.i
  n : Pb B d.n
  m : Pb B d.m
theorem pb_atom {B : Nat} {d : Dp} (h : Pb4 B d) : Pb B (atomX d) := by
  intro us e r hb he
  unfold atomX at he
  split at he
  · obtain ⟨b, r', h1, _, rfl, rfl⟩ := enc_ok_iff he
    obtain ⟨h2, h3⟩ := h.c _ _ _ (tb_tail hb) h1
    exact ⟨posb_move (tb_hd hb) h2, tb_tail h3⟩
  · split at he
    · injection he with h1 h2
      subst h1 h2
      refine ⟨?_, tb_tail hb⟩
      unfold wordX
      split <;> exact tb_hd hb
    · split at he
      · injection he with h1 h2
        subst h1 h2
        exact ⟨tb_hd hb, tb_tail hb⟩
      · cases he
theorem pb_minus {B : Nat} {d : Dp} (h : Pb4 B d) : Pb B (minusX d) := by
  intro us e r hb he
  unfold minusX at he
  split at he
  · obtain ⟨b, h1, rfl⟩ := pre_ok_iff he
    obtain ⟨h2, h3⟩ := h.m _ _ _ (tb_tail hb) h1
    exact ⟨⟨tb_hd hb, h2⟩, h3⟩
  · exact pb_atom h us e r hb he
theorem pb_chainF {B k : Nat} {F : List Tok → PR} (hF : Pb B F) : ∀ (f : Nat) (e : Ex) (us : List Tok) (x : Ex) (r : List Tok), TB0 B us → PosB B e → chainF k F f e us = .ok x r → PosB B x ∧ TB0 B r
  | 0, e, us, x, r, h1, h2, h => by
    injection h with h h'
    subst h h'
    exact ⟨h2, h1⟩
  | f + 1, e, us, x, r, h1, h2, h => by
    rw [chainF] at h
    split at h
    · split at h
      · cases h
      · rename_i e' r' hj
        obtain ⟨b, h3, rfl⟩ := join_ok_iff hj
        obtain ⟨h5, h6⟩ := hF _ _ _ (tb_tail h1) h3
        exact pb_chainF hF f _ r' x r h6 (show PosB B (.bin (hd us).text e b e.pos) from ⟨posb_pos h2, h2, h5⟩) h
    · injection h with h h'
      subst h h'
      exact ⟨h2, h1⟩
theorem pb_chain {B k : Nat} {F : List Tok → PR} (hF : Pb B F) : Pb B (chainX k F) := by
  intro us x r hb h
  unfold chainX at h
  cases h1 : F us with
  | er c p => rw [h1] at h; cases h
  | ok e r' =>
    rw [h1] at h
    obtain ⟨h3, h4⟩ := hF _ _ _ hb h1
    exact pb_chainF hF _ _ _ _ _ h4 h3 h
theorem pb_comp {B : Nat} {d : Dp} (hF : Pb B (sumX d)) : Pb B (compX d) := by
  intro us x r hb h
  unfold compX at h
  cases h1 : sumX d us with
  | er c p => rw [h1] at h; cases h
  | ok a r1 =>
    rw [h1] at h
    obtain ⟨h3, h4⟩ := hF _ _ _ hb h1
    simp only [compG] at h
    split at h
    · obtain ⟨b, h5, rfl⟩ := join_ok_iff h
      obtain ⟨h6, h7⟩ := hF _ _ _ (tb_tail h4) h5
      exact ⟨⟨posb_pos h3, h3, h6⟩, h7⟩
    · injection h with h h'
      subst h h'
      exact ⟨h3, h4⟩
theorem pb_neg {B : Nat} {d : Dp} (h4 : Pb4 B d) (hF : Pb B (compX d)) : Pb B (negX d) := by
  intro us e r hb he
  unfold negX at he
  split at he
  · obtain ⟨b, h1, rfl⟩ := pre_ok_iff he
    obtain ⟨h2, h3⟩ := h4.n _ _ _ (tb_tail hb) h1
    exact ⟨⟨tb_hd hb, h2⟩, h3⟩
  · exact hF us e r hb he
theorem pb_impl {B : Nat} {d : Dp} (h4 : Pb4 B d) (hF : Pb B (disjX d)) : Pb B (implX d) := by
  intro us x r hb h
  unfold implX at h
  cases h1 : disjX d us with
  | er c p => rw [h1] at h; cases h
  | ok a r1 =>
    rw [h1] at h
    obtain ⟨h3, h5⟩ := hF _ _ _ hb h1
    simp only [implG] at h
    split at h
    · obtain ⟨b, h6, rfl⟩ := join_ok_iff h
      obtain ⟨h7, h8⟩ := h4.i _ _ _ (tb_tail h5) h6
      exact ⟨⟨posb_pos h3, h3, h7⟩, h8⟩
    · injection h with h h'
      subst h h'
      exact ⟨h3, h5⟩
theorem pb_cond {B : Nat} {d : Dp} (h4 : Pb4 B d) (hF : Pb B (implX d)) : Pb B (condX d) := by
  intro us x r hb h
  obtain ⟨a, r1, h1, h2⟩ := cond_ok_iff h
  obtain ⟨h3, h5⟩ := hF _ _ _ hb h1
  rcases h2 with ⟨_, rfl, rfl⟩ | ⟨_, b, r2, h6, _, c, h7, rfl⟩
  · exact ⟨h3, h5⟩
  · obtain ⟨h8, h9⟩ := h4.c _ _ _ (tb_tail h5) h6
    obtain ⟨h10, h11⟩ := h4.c _ _ _ (tb_tail h9) h7
    exact ⟨⟨posb_pos h3, h3, h8, h10⟩, h11⟩
theorem pb_dp (B : Nat) : ∀ l, Pb4 B (dp l)
  | 0 => ⟨(fun _ _ _ _ h => nomatch h), (fun _ _ _ _ h => nomatch h), (fun _ _ _ _ h => nomatch h), (fun _ _ _ _ h => nomatch h)⟩
  | l + 1 => by
    have h := pb_dp B l
    have m := pb_minus h
    have p : Pb B (prodX (dp l)) := pb_chain m
    have s : Pb B (sumX (dp l)) := pb_chain p
    have n := pb_neg h (pb_comp s)
    have a : Pb B (conjX (dp l)) := pb_chain n
    have o : Pb B (disjX (dp l)) := pb_chain a
    have i := pb_impl h o
    exact ⟨pb_cond h i, i, n, m⟩
theorem good_pos {l : List UInt8} : ∀ {ts : List Tok} {i : Nat}, Good l i ts → TB0 l.length ts
  | [], _, h => by simp [Good] at h
  | [t], _, h => by
    intro u hu
    obtain rfl := List.mem_singleton.1 hu
    exact Nat.le_of_eq h.2.2.2
  | t :: u :: us, _, h => by
    obtain ⟨_, h2, ⟨n, _, _, hg⟩, _⟩ := h
    intro v hv
    rcases List.mem_cons.1 hv with rfl | hv
    · omega
    · exact good_pos hg v hv
theorem parse_pos {D : Nat} {l : List UInt8} {e : Ex} {r : List Tok} (h : parseX D l = .ok e r) : PosB l.length e := by
  cases ht : toks l with
  | error x => rw [parseX, ht] at h; cases h
  | ok ts =>
    rw [parse_ok ht] at h
    cases hc : (dp D).c ts with
    | er c p => rw [hc] at h; cases h
    | ok e' r' =>
      rw [hc] at h
      simp only [endX] at h
      split at h
      · injection h with h1 _
        subst h1
        exact ((pb_dp l.length D).c ts e' r' (good_pos (good_toks ht)) hc).1
      · cases h
/-- A shape's head. -/
def shH (x : Ex) : List UInt8 := 40 :: (x.op ++ 32 :: (x.nm ++ 32 :: (dgs x.num ++ 32 :: dgs x.pos)))
def shK (ks : List Ex) : List UInt8 := (ks.map shp).flatten
theorem shp_eq (x : Ex) : shp x = shH x ++ shK x.kids ++ [41] := by
  cases x <;> simp [shp, shH, shK, Ex.op, Ex.nm, Ex.num, Ex.pos, Ex.kids]
theorem num_lt {x : Ex} (h : Ok x) : x.num < 9223372036854775808 := by
  cases x with
  | leaf op nm n p => rcases h with ⟨_, _, h⟩ | ⟨_, h, _⟩ | ⟨_, _, h⟩ <;> (show n < _; omega)
  | un op a p => show 0 < _; omega
  | bin op a b p => show 0 < _; omega
  | cond a b c p => show 0 < _; omega
theorem par_ge0 (b : Bool) (l : List UInt8) : l.length ≤ (parX b l).length := by cases b <;> simp [parX] <;> omega
theorem size_shw : ∀ x : Ex, Ok x → x.size ≤ (shw x).length
  | .leaf op nm n p, h => shw_pos _ h
  | .un op a p, h => by
    have := size_shw a h.2
    have h2 := par_ge0 (decide (rk a.op < rk op)) (shw a)
    simp only [Ex.size, shw, List.length_cons]
    omega
  | .bin op a b p, h => by
    have h1 := size_shw a h.2.1
    have h2 := size_shw b h.2.2
    have h3 := par_ge0 (decide (rk a.op < lo (rk op) 0)) (shw a)
    have h4 := par_ge0 (decide (rk b.op < lo (rk op) 1)) (shw b)
    simp only [Ex.size, shw, List.length_cons, List.length_append]
    omega
  | .cond a b c p, h => by
    have h1 := size_shw a h.1
    have h2 := size_shw b h.2.1
    have h3 := size_shw c h.2.2
    have h4 := par_ge0 (decide (rk a.op < 1)) (shw a)
    simp only [Ex.size, shw, List.length_cons, List.length_append]
    omega
theorem dg20 {n : Nat} (h : n < 9223372036854775808) : (dgs n).length ≤ 20 := by
  unfold dgs
  rw [Lib.decDigits_length]
  by_cases h0 : n = 0
  · subst h0; rw [Lib.nDigits_small (by omega)]; omega
  · have := Lib.numDigits_eq n (by omega) (by omega); split at this <;> omega
theorem opl : ∀ {x : Ex}, Ok x → x.op.length ≤ 6
  | .leaf op nm n p, h => by rcases h with ⟨rfl, _⟩ | ⟨rfl, _⟩ | ⟨rfl | rfl, _⟩ <;> simp [Ex.op, opNum, opName, opTrue, opFalse]
  | .un op a p, h => by rcases h.1 with rfl | rfl <;> simp [Ex.op, opNeg]
  | .bin op a b p, h => by have := op_len (x := op) (by have := h.1; omega); show op.length ≤ 6; omega
  | .cond a b c p, h => by simp [Ex.op]
theorem shp_len {B : Nat} (hB : B < 9223372036854775808) : ∀ x : Ex, Ok x → PosB B x → (shp x).length ≤ 60 * x.size + (shw x).length
  | .leaf op nm n p, h, hp => by
    have h1 := opl h
    have h2 := dg20 (num_lt h)
    have h3 : (dgs p).length ≤ 20 := dg20 (Nat.lt_of_le_of_lt hp hB)
    have h4 : nm.length ≤ (shw (.leaf op nm n p)).length := by
      rcases h with ⟨rfl, rfl, _⟩ | ⟨rfl, _⟩ | ⟨_, rfl, _⟩
      · exact Nat.zero_le _
      · simp [shw, opName, opNum]
      · exact Nat.zero_le _
    simp only [Ex.op] at h1
    simp only [Ex.num] at h2
    simp only [shp, Ex.size, List.length_cons, List.length_append, List.length_nil]
    omega
  | .un op a p, h, hp => by
    have h1 := opl h
    have h2 : (dgs 0).length ≤ 20 := dg20 (by omega)
    have h3 : (dgs p).length ≤ 20 := dg20 (Nat.lt_of_le_of_lt hp.1 hB)
    have h4 := shp_len hB a h.2 hp.2
    have h5 := par_ge0 (decide (rk a.op < rk op)) (shw a)
    simp only [Ex.op] at h1
    simp only [shp, shw, Ex.size, List.length_cons, List.length_append, List.length_nil]
    omega
  | .bin op a b p, h, hp => by
    have h1 := opl h
    have h2 : (dgs 0).length ≤ 20 := dg20 (by omega)
    have h3 : (dgs p).length ≤ 20 := dg20 (Nat.lt_of_le_of_lt hp.1 hB)
    have h4 := shp_len hB a h.2.1 hp.2.1
    have h5 := shp_len hB b h.2.2 hp.2.2
    have h6 := par_ge0 (decide (rk a.op < lo (rk op) 0)) (shw a)
    have h7 := par_ge0 (decide (rk b.op < lo (rk op) 1)) (shw b)
    simp only [Ex.op] at h1
    simp only [shp, shw, Ex.size, List.length_cons, List.length_append, List.length_nil]
    omega
  | .cond a b c p, h, hp => by
    have h2 : (dgs 0).length ≤ 20 := dg20 (by omega)
    have h3 : (dgs p).length ≤ 20 := dg20 (Nat.lt_of_le_of_lt hp.1 hB)
    have h4 := shp_len hB a h.1 hp.2.1
    have h5 := shp_len hB b h.2.1 hp.2.2.1
    have h6 := shp_len hB c h.2.2 hp.2.2.2
    have h7 := par_ge0 (decide (rk a.op < 1)) (shw a)
    simp only [shp, shw, Ex.size, List.length_cons, List.length_append, List.length_nil]
    omega
end Go.Proofs.YtddeplbgihcdkaaGreatDoor
