/-
  A text that is cut: its tokens, what is read of it.
-/
import Derived.Test.YtddeplbgihcdkaaGreatDoorGZ
namespace Go.Proofs.YtddeplbgihcdkaaGreatDoor
section

/-- The end alone. -/
def En (B : Nat) (us : List Tok) : Prop := ∃ E, us = [E] ∧ E.kind = 0 ∧ E.pos ≤ B
/-- A token at the cut. -/
def TK (t : Tok) : Prop := t.kind ≠ 0 ∧ isT t [40] = false ∧ isT t [63] = false ∧ isT t [61, 62] = false ∧ isT t [58] = false
/-- The end, or one token ahead of it. -/
def Sh (B : Nat) (us : List Tok) : Prop := En B us ∨ ∃ t r, us = t :: r ∧ TK t ∧ t.pos ≤ B ∧ En B r
/-- No operand opens with it that goes deeper. -/
def Ab (t : Tok) : Prop := TK t ∧ isT t [45] = false ∧ isT t [33] = false
/-- What a token may be cut to. -/
def Pt (t t' : Tok) : Prop := TK t' ∧ (Ab t' ∨ (t.kind = 4 ∧ isT t [40] = false ∧ isT t [33] = false ∧ isT t [45] = false))
inductive Ct (B : Nat) : List Tok → List Tok → Prop
  | same {t : Tok} {us vs : List Tok} : t.kind ≠ 0 → t.pos ≤ B → Ct B us vs → Ct B (t :: us) (t :: vs)
  | fin {us vs : List Tok} : En B vs → Ct B us vs
  | part {t t' : Tok} {us vs : List Tok} : Pt t t' → t'.pos ≤ B → En B vs → Ct B (t :: us) (t' :: vs)
section
variable {B : Nat}
theorem Ct.cases {us vs : List Tok} (h : Ct B us vs) : (∃ t us' vs', us = t :: us' ∧ vs = t :: vs' ∧ t.kind ≠ 0 ∧ t.pos ≤ B ∧ Ct B us' vs') ∨ Sh B vs := by
  cases h with
  | same h1 h2 h3 => exact .inl ⟨_, _, _, rfl, rfl, h1, h2, h3⟩
  | fin h => exact .inr (.inl h)
  | part h1 h2 h3 => exact .inr (.inr ⟨_, _, rfl, h1.1, h2, h3⟩)
def Ct2 (B : Nat) (us vs : List Tok) : Prop := Ct B us vs ∨ Sh B vs
theorem Ct2.cases {us vs : List Tok} (h : Ct2 B us vs) : (∃ t us' vs', us = t :: us' ∧ vs = t :: vs' ∧ t.kind ≠ 0 ∧ t.pos ≤ B ∧ Ct B us' vs') ∨ Sh B vs := h.elim Ct.cases .inr
theorem Sh.hdpos {vs : List Tok} (h : Sh B vs) : (hd vs).pos ≤ B := by
  rcases h with ⟨E, rfl, _, h⟩ | ⟨t, r, rfl, _, h, _⟩ <;> exact h
theorem Sh.tail {vs : List Tok} (h : Sh B vs) (h0 : (hd vs).kind ≠ 0) : En B vs.tail := by
  rcases h with ⟨E, rfl, h1, _⟩ | ⟨t, r, rfl, _, _, h⟩
  · exact absurd h1 h0
  · exact h
theorem Sh.opt {vs : List Tok} (h : Sh B vs) : isT (hd vs) [63] = false ∧ isT (hd vs) [61, 62] = false ∧ isT (hd vs) [58] = false := by
  rcases h with ⟨E, rfl, h1, _⟩ | ⟨t, r, rfl, h, _, _⟩
  · exact ⟨by simp [hd, isT, h1], by simp [hd, isT, h1], by simp [hd, isT, h1]⟩
  · exact ⟨h.2.2.1, h.2.2.2.1, h.2.2.2.2⟩
theorem sg_nz {k : Nat} {t : Tok} (h : sg k t = true) : t.kind ≠ 0 := by
  intro h0; simp [sg, h0] at h
/-- How it ends. -/
def Out (B : Nat) (r : List Tok) (res : PR) : Prop := (∃ q, res = .er 20 q ∧ q ≤ B) ∨ ∃ e' r', res = .ok e' r' ∧ Ct2 B r r'
def OutS (B : Nat) (res : PR) : Prop := (∃ q, res = .er 20 q ∧ q ≤ B) ∨ ∃ e' r', res = .ok e' r' ∧ Sh B r'
theorem OutS.out {res : PR} (h : OutS B res) (r : List Tok) : Out B r res := h.elim .inl fun ⟨e, r', h1, h2⟩ => .inr ⟨e, r', h1, .inr h2⟩
def Qd (B : Nat) (F : List Tok → PR) : Prop := ∀ us vs, Ct B us vs → ∀ e r, F us = .ok e r → Out B r (F vs)
structure Op (B : Nat) (F : List Tok → PR) : Prop where
  e : ∀ vs, En B vs → ∃ q, F vs = .er 20 q ∧ q ≤ B
  s : ∀ t vs, Ab t → t.pos ≤ B → En B vs → OutS B (F (t :: vs))
  c : ∀ t us e r, t.kind = 4 → isT t [40] = false → isT t [33] = false → isT t [45] = false → F (t :: us) ≠ .ok e r
  q : ∀ t us vs, t.kind ≠ 0 → t.pos ≤ B → Ct B us vs → ∀ e r, F (t :: us) = .ok e r → Out B r (F (t :: vs))
theorem Op.qd {F : List Tok → PR} (h : Op B F) : Qd B F := by
  intro us vs hc e r hr
  cases hc with
  | same h1 h2 h3 => exact h.q _ _ _ h1 h2 h3 e r hr
  | fin h1 => exact .inl (h.e _ h1)
  | part h1 h2 h3 =>
    rcases h1.2 with h4 | ⟨h4, h5, h6, h7⟩
    · exact (h.s _ _ h4 h2 h3).out r
    · exact absurd hr (h.c _ _ _ _ h4 h5 h6 h7)
structure Qd4 (B : Nat) (d : Dp) : Prop where
  c : Qd B d.c
  i : Qd B d.i
  n : Qd B d.n
  m : Qd B d.m
theorem isT_zero {t : Tok} (h : t.kind = 0) (x : List UInt8) : isT t x = false := by simp [isT, h]
theorem op_atom {d : Dp} (h4 : Qd4 B d) : Op B (atomX d) := by
  refine ⟨?_, ?_, ?_, ?_⟩
  · rintro vs ⟨E, rfl, h0, hp⟩
    refine ⟨E.pos, ?_, hp⟩
    unfold atomX
    simp [hd, isT_zero h0, h0]
  · intro t vs h hp hE
    unfold atomX
    rw [if_neg (by rw [show isT (hd (t :: vs)) [40] = false from h.1.2.1]; simp)]
    split
    · exact .inr ⟨_, _, rfl, .inl hE⟩
    · split
      · exact .inr ⟨_, _, rfl, .inl hE⟩
      · exact .inl ⟨_, rfl, hp⟩
  · intro t us e r hk h1 _ _ hr
    unfold atomX at hr
    rw [if_neg (by rw [show isT (hd (t :: us)) [40] = false from h1]; simp), if_neg (by show ¬ t.kind = 1; omega), if_neg (by show ¬ t.kind = 2; omega)] at hr
    cases hr
  · intro t us vs hk hp hc e r hr
    unfold atomX at hr ⊢
    have e1 : hd (t :: us) = t := rfl
    have e2 : hd (t :: vs) = t := rfl
    rw [e1] at hr
    rw [e2]
    split at hr
    · next hi =>
      rw [if_pos hi]
      obtain ⟨b, r', h1, h2, _, rfl⟩ := enc_ok_iff hr
      rcases h4.c us vs hc b r' h1 with ⟨q, h3, h5⟩ | ⟨e', v', h3, h5⟩
      · exact .inl ⟨q, by show enclosedX _ (d.c vs) = _; rw [h3]; rfl, h5⟩
      · show Out B r'.tail (enclosedX _ (d.c vs))
        rw [h3, enclosedX]
        rcases h5.cases with ⟨t2, u2, v2, rfl, rfl, k1, k2, k3⟩ | hs
        · rw [if_pos (show isT (hd (t2 :: v2)) [41] = true from h2)]
          exact .inr ⟨_, _, rfl, .inl k3⟩
        · split
          · next hi => exact .inr ⟨_, _, rfl, .inr (.inl (hs.tail (isT_kind hi)))⟩
          · exact .inl ⟨_, rfl, hs.hdpos⟩
    · next hi =>
      rw [if_neg hi]
      split at hr
      · next h1 =>
        rw [if_pos h1]
        injection hr with _ hr
        subst hr
        exact .inr ⟨_, _, rfl, .inl hc⟩
      · next h1 =>
        rw [if_neg h1]
        split at hr
        · next h2 =>
          rw [if_pos h2]
          injection hr with _ hr
          subst hr
          exact .inr ⟨_, _, rfl, .inl hc⟩
        · cases hr
theorem out_pre {op : List UInt8} {p : Nat} {r : List Tok} {res : PR} (h : Out B r res) : Out B r (preX op p res) := by
  rcases h with ⟨q, rfl, h⟩ | ⟨e', r', rfl, h⟩
  · exact .inl ⟨q, rfl, h⟩
  · exact .inr ⟨_, _, rfl, h⟩
theorem out_join {op : List UInt8} {a : Ex} {r : List Tok} {res : PR} (h : Out B r res) : Out B r (joinX op a res) := by
  rcases h with ⟨q, rfl, h⟩ | ⟨e', r', rfl, h⟩
  · exact .inl ⟨q, rfl, h⟩
  · exact .inr ⟨_, _, rfl, h⟩
theorem op_pre {F G : List Tok → PR} {x op : List UInt8} (hx : x = [45] ∨ x = [33]) (hF : Qd B F) (hG : Op B G) : Op B (fun us => if isT (hd us) x then preX op (hd us).pos (F us.tail) else G us) := by
  refine ⟨?_, ?_, ?_, ?_⟩
  · rintro vs ⟨E, rfl, h0, hp⟩
    show ∃ q, (if isT E x then _ else G [E]) = _ ∧ _
    rw [if_neg (by simp [isT_zero h0])]
    exact hG.e _ ⟨E, rfl, h0, hp⟩
  · intro t vs h hp hE
    show OutS B (if isT t x then _ else G (t :: vs))
    rw [if_neg (by rcases hx with rfl | rfl; (· simp [h.2.1]); (· simp [h.2.2]))]
    exact hG.s t vs h hp hE
  · intro t us e r hk h1 h2 h3 hr
    change (if isT t x then _ else G (t :: us)) = _ at hr
    rw [if_neg (by rcases hx with rfl | rfl; (· simp [h3]); (· simp [h2]))] at hr
    exact hG.c t us e r hk h1 h2 h3 hr
  · intro t us vs hk hp hc e r hr
    change (if isT t x then preX op t.pos (F us) else G (t :: us)) = _ at hr
    show Out B r (if isT t x then preX op t.pos (F vs) else G (t :: vs))
    split at hr
    · next hi =>
      rw [if_pos hi]
      obtain ⟨b, h1, _⟩ := pre_ok_iff hr
      exact out_pre (hF us vs hc b r h1)
    · next hi =>
      rw [if_neg hi]
      exact hG.q t us vs hk hp hc e r hr
/-- What follows on an operand. -/
structure Cn (B : Nat) (G : Ex → List Tok → PR) : Prop where
  s : ∀ e vs, Sh B vs → OutS B (G e vs)
  q : ∀ e e' us vs, Ct B us vs → ∀ x r, G e us = .ok x r → Out B r (G e' vs)
def bindX (G : Ex → List Tok → PR) : PR → PR
  | .er c p => .er c p
  | .ok e r => G e r
theorem op_bind {F : List Tok → PR} {G : Ex → List Tok → PR} (hF : Op B F) (hG : Cn B G) : Op B (fun us => bindX G (F us)) := by
  refine ⟨?_, ?_, ?_, ?_⟩
  · intro vs h
    obtain ⟨q, h1, h2⟩ := hF.e vs h
    exact ⟨q, by show bindX G (F vs) = _; rw [h1]; rfl, h2⟩
  · intro t vs h hp hE
    show OutS B (bindX G (F (t :: vs)))
    rcases hF.s t vs h hp hE with ⟨q, h1, h2⟩ | ⟨e, r, h1, h2⟩
    · rw [h1]; exact .inl ⟨q, rfl, h2⟩
    · rw [h1]; exact hG.s e r h2
  · intro t us e r hk h1 h2 h3 hr
    change bindX G (F (t :: us)) = _ at hr
    cases hf : F (t :: us) with
    | er c p => rw [hf] at hr; cases hr
    | ok a b => exact hF.c t us a b hk h1 h2 h3 hf
  · intro t us vs hk hp hc e r hr
    change bindX G (F (t :: us)) = _ at hr
    show Out B r (bindX G (F (t :: vs)))
    cases hf : F (t :: us) with
    | er c p => rw [hf] at hr; cases hr
    | ok a b =>
      rw [hf] at hr
      rcases hF.q t us vs hk hp hc a b hf with ⟨q, h1, h2⟩ | ⟨e', r', h1, h2⟩
      · rw [h1]; exact .inl ⟨q, rfl, h2⟩
      · rw [h1]
        rcases h2 with h2 | h2
        · exact hG.q a e' b r' h2 e r hr
        · exact (hG.s e' r' h2).out r
theorem chainF_sh {k : Nat} {F : List Tok → PR} (hF : Op B F) : ∀ (f : Nat) (e : Ex) (vs : List Tok), Sh B vs → OutS B (chainF k F f e vs)
  | 0, e, vs, h => .inr ⟨_, _, rfl, h⟩
  | f + 1, e, vs, h => by
    rw [chainF]
    split
    · next hs =>
      obtain ⟨q, h1, h2⟩ := hF.e _ (h.tail (sg_nz hs))
      rw [h1]
      exact .inl ⟨q, rfl, h2⟩
    · exact .inr ⟨_, _, rfl, h⟩
theorem chainF_ct {k : Nat} {F : List Tok → PR} (hS : Shr F) (hF : Op B F) : ∀ (n : Nat) (us vs : List Tok), us.length ≤ n → Ct B us vs → ∀ (f g : Nat) (e e' x : Ex) (r : List Tok), us.length ≤ f → vs.length ≤ g → chainF k F f e us = .ok x r → Out B r (chainF k F g e' vs) := by
  intro n
  induction n with
  | zero =>
    intro us vs hn hc f g e e' x r hf hg hr
    rcases hc.cases with ⟨t, u, v, rfl, rfl, _⟩ | hs
    · simp at hn
    · exact (chainF_sh hF g e' vs hs).out r
  | succ n ih =>
    intro us vs hn hc f g e e' x r hf hg hr
    rcases hc.cases with ⟨t, u, v, rfl, rfl, hk, hp, hc'⟩ | hs
    · cases f with
      | zero => simp at hf
      | succ f =>
        cases g with
        | zero => simp at hg
        | succ g =>
          rw [chainF] at hr ⊢
          have e1 : hd (t :: u) = t := rfl
          have e2 : hd (t :: v) = t := rfl
          rw [e1] at hr
          rw [e2]
          split at hr
          · next hs =>
            rw [if_pos hs]
            simp only [List.tail_cons] at hr ⊢
            split at hr
            · cases hr
            · next e1' r1 hj =>
              obtain ⟨b, h3, _⟩ := join_ok_iff hj
              have hl := (hS _ _ _ h3).1
              rcases hF.qd u v hc' b r1 h3 with ⟨q, h5, h6⟩ | ⟨b', r1', h5, h6⟩
              · rw [h5]; exact .inl ⟨q, rfl, h6⟩
              · rw [h5]
                have hl' := (hS _ _ _ h5).1
                simp only [joinX]
                simp only [List.length_cons] at hn hf hg
                rcases h6 with h6 | h6
                · exact ih r1 r1' (by omega) h6 f g _ _ x r (by omega) (by omega) hr
                · exact (chainF_sh hF g _ r1' h6).out r
          · next hs =>
            rw [if_neg hs]
            injection hr with _ hr
            subst hr
            exact .inr ⟨_, _, rfl, .inl hc⟩
    · exact (chainF_sh hF g e' vs hs).out r
theorem op_chain {k : Nat} {F : List Tok → PR} (hS : Shr F) (hF : Op B F) : Op B (chainX k F) := by
  have h : chainX k F = fun us => bindX (fun e r => chainF k F r.length e r) (F us) := by
    funext us
    unfold chainX bindX
    cases F us <;> rfl
  rw [h]
  exact op_bind hF ⟨fun e vs hs => chainF_sh hF _ _ _ hs, fun e e' us vs hc x r hr => chainF_ct hS hF _ us vs (Nat.le_refl _) hc _ _ e e' x r (Nat.le_refl _) (Nat.le_refl _) hr⟩
theorem op_comp {d : Dp} (hF : Op B (sumX d)) : Op B (compX d) := by
  have h : compX d = fun us => bindX (fun a r => if sg 5 (hd r) then joinX (hd r).text a (sumX d r.tail) else .ok a r) (sumX d us) := by
    funext us
    unfold compX bindX
    cases sumX d us <;> rfl
  rw [h]
  refine op_bind hF ⟨fun e vs hs => ?_, fun e e' us vs hc x r hr => ?_⟩
  · split
    · next hi =>
      obtain ⟨q, h1, h2⟩ := hF.e _ (hs.tail (sg_nz hi))
      rw [h1]
      exact .inl ⟨q, rfl, h2⟩
    · exact .inr ⟨_, _, rfl, hs⟩
  · rcases hc.cases with ⟨t, u, v, rfl, rfl, hk, hp, hc'⟩ | hs
    · change (if sg 5 t then joinX t.text e (sumX d u) else .ok e (t :: u)) = _ at hr
      show Out B r (if sg 5 t then joinX t.text e' (sumX d v) else .ok e' (t :: v))
      split at hr
      · next hi =>
        rw [if_pos hi]
        obtain ⟨b, h3, _⟩ := join_ok_iff hr
        exact out_join (hF.qd u v hc' b r h3)
      · next hi =>
        rw [if_neg hi]
        injection hr with _ hr
        subst hr
        exact .inr ⟨_, _, rfl, .inl hc⟩
    · split
      · next hi =>
        obtain ⟨q, h1, h2⟩ := hF.e _ (hs.tail (sg_nz hi))
        rw [h1]
        exact .inl ⟨q, rfl, h2⟩
      · exact .inr ⟨_, _, rfl, .inr hs⟩
theorem op_impl {d : Dp} (h4 : Qd4 B d) (hF : Op B (disjX d)) : Op B (implX d) := by
  have h : implX d = fun us => bindX (fun a r => if isT (hd r) [61, 62] then joinX [61, 62] a (d.i r.tail) else .ok a r) (disjX d us) := by
    funext us
    unfold implX bindX
    cases disjX d us <;> rfl
  rw [h]
  refine op_bind hF ⟨fun e vs hs => ?_, fun e e' us vs hc x r hr => ?_⟩
  · rw [if_neg (by rw [hs.opt.2.1]; simp)]
    exact .inr ⟨_, _, rfl, hs⟩
  · rcases hc.cases with ⟨t, u, v, rfl, rfl, hk, hp, hc'⟩ | hs
    · change (if isT t [61, 62] then joinX [61, 62] e (d.i u) else .ok e (t :: u)) = _ at hr
      show Out B r (if isT t [61, 62] then joinX [61, 62] e' (d.i v) else .ok e' (t :: v))
      split at hr
      · next hi =>
        rw [if_pos hi]
        obtain ⟨b, h3, _⟩ := join_ok_iff hr
        exact out_join (h4.i u v hc' b r h3)
      · next hi =>
        rw [if_neg hi]
        injection hr with _ hr
        subst hr
        exact .inr ⟨_, _, rfl, .inl hc⟩
    · rw [if_neg (by rw [hs.opt.2.1]; simp)]
      exact .inr ⟨_, _, rfl, .inr hs⟩
theorem out_condE {a b : Ex} {r : List Tok} {res : PR} (h : Out B r res) : Out B r (condE a b res) := by
  rcases h with ⟨q, rfl, h⟩ | ⟨e', r', rfl, h⟩
  · exact .inl ⟨q, rfl, h⟩
  · exact .inr ⟨_, _, rfl, h⟩
theorem op_cond {d : Dp} (h4 : Qd4 B d) (hF : Op B (implX d)) : Op B (condX d) := by
  have h : condX d = fun us => bindX (fun a r => if isT (hd r) [63] then condH d a (d.c r.tail) else .ok a r) (implX d us) := by
    funext us
    unfold condX bindX
    cases implX d us <;> rfl
  rw [h]
  refine op_bind hF ⟨fun e vs hs => ?_, fun e e' us vs hc x r hr => ?_⟩
  · rw [if_neg (by rw [hs.opt.1]; simp)]
    exact .inr ⟨_, _, rfl, hs⟩
  · rcases hc.cases with ⟨t, u, v, rfl, rfl, hk, hp, hc'⟩ | hs
    · change (if isT t [63] then condH d e (d.c u) else .ok e (t :: u)) = _ at hr
      show Out B r (if isT t [63] then condH d e' (d.c v) else .ok e' (t :: v))
      split at hr
      · next hi =>
        rw [if_pos hi]
        cases hb : d.c u with
        | er c p => rw [hb] at hr; cases hr
        | ok b r1 =>
          rw [hb, condH] at hr
          split at hr
          · next hj =>
            cases hcc : d.c r1.tail with
            | er c p => rw [hcc] at hr; cases hr
            | ok c r2 =>
              rw [hcc] at hr
              injection hr with _ hr
              subst hr
              rcases h4.c u v hc' b r1 hb with ⟨q, h5, h6⟩ | ⟨b', r1', h5, h6⟩
              · rw [h5]; exact .inl ⟨q, rfl, h6⟩
              · rw [h5, condH]
                rcases h6.cases with ⟨t2, u2, v2, rfl, rfl, k1, k2, k3⟩ | hs
                · rw [if_pos (show isT (hd (t2 :: v2)) [58] = true from hj)]
                  exact out_condE (h4.c u2 v2 k3 c r2 hcc)
                · rw [if_neg (by rw [hs.opt.2.2]; simp)]
                  exact .inl ⟨_, rfl, hs.hdpos⟩
          · cases hr
      · next hi =>
        rw [if_neg hi]
        injection hr with _ hr
        subst hr
        exact .inr ⟨_, _, rfl, .inl hc⟩
    · rw [if_neg (by rw [hs.opt.1]; simp)]
      exact .inr ⟨_, _, rfl, .inr hs⟩
theorem op_minus {d : Dp} (h4 : Qd4 B d) : Op B (minusX d) := op_pre (.inl rfl) h4.m (op_atom h4)
theorem op_all {d : Dp} (h4 : Qd4 B d) (hs : Shr4 d) : Op B (condX d) ∧ Op B (implX d) ∧ Op B (negX d) ∧ Op B (minusX d) := by
  have s := shr_all hs
  have m := op_minus h4
  have p : Op B (prodX d) := op_chain s.m m
  have a : Op B (sumX d) := op_chain s.p p
  have n : Op B (negX d) := op_pre (.inr rfl) h4.n (op_comp a)
  have c : Op B (conjX d) := op_chain s.n n
  have o : Op B (disjX d) := op_chain s.a c
  have i := op_impl h4 o
  exact ⟨op_cond h4 i, i, n, m⟩
theorem qd_deep : Qd B deepX := fun _ _ _ _ _ h => by cases h
theorem qd_dp : ∀ l, Qd4 B (dp l)
  | 0 => ⟨qd_deep, qd_deep, qd_deep, qd_deep⟩
  | l + 1 => by
    obtain ⟨h1, h2, h3, h4⟩ := op_all (qd_dp l) (shr_dp l)
    exact ⟨h1.qd, h2.qd, h3.qd, h4.qd⟩
theorem op_dp {D : Nat} (h : 1 ≤ D) : Op B (dp D).c := by
  obtain ⟨l, rfl⟩ : ∃ l, D = l + 1 := ⟨D - 1, by omega⟩
  exact (op_all (qd_dp l) (shr_dp l)).1
end
end
section

section
variable {B : Nat}
def Bd (B : Nat) (st : St) : Prop := ∃ c q, st = .bad c q ∧ (c = 20 ∨ c = 33) ∧ q ≤ B
def Co (B : Nat) (r : List Tok) (st : St) : Prop := Bd B st ∨ ∃ vs, st = .good vs ∧ Ct2 B r vs
def CoS (B : Nat) (st : St) : Prop := Bd B st ∨ ∃ vs, st = .good vs ∧ Sh B vs
def Co1 (B : Nat) (r : List Tok) (st : St) : Prop := Bd B st ∨ ∃ vs, st = .good vs ∧ Ct B r vs
def CoE (B : Nat) (st : St) : Prop := Bd B st ∨ ∃ vs, st = .good vs ∧ En B vs
theorem CoS.co {st : St} (h : CoS B st) (r : List Tok) : Co B r st := h.imp_right fun ⟨v, h1, h2⟩ => ⟨v, h1, .inr h2⟩
theorem Co1.co {r : List Tok} {st : St} (h : Co1 B r st) : Co B r st := h.imp_right fun ⟨v, h1, h2⟩ => ⟨v, h1, .inl h2⟩
theorem CoE.s {st : St} (h : CoE B st) : CoS B st := h.imp_right fun ⟨v, h1, h2⟩ => ⟨v, h1, .inl h2⟩
theorem CoE.co1 {st : St} (h : CoE B st) (r : List Tok) : Co1 B r st := h.imp_right fun ⟨v, h1, h2⟩ => ⟨v, h1, .fin h2⟩
structure Vy (B : Nat) (f : St → St) : Prop where
  b : ∀ c p, f (.bad c p) = .bad c p
  q : ∀ us vs, Ct B us vs → ∀ r, f (.good us) = .good r → Co B r (f (.good vs))
  e : ∀ vs, En B vs → CoS B (f (.good vs))
structure Vw (B : Nat) (f : St → St) : Prop where
  b : ∀ c p, f (.bad c p) = .bad c p
  q : ∀ us vs, Ct B us vs → ∀ r, f (.good us) = .good r → Co B r (f (.good vs))
  s : ∀ vs, Sh B vs → CoS B (f (.good vs))
structure Vs (B : Nat) (f : St → St) : Prop where
  b : ∀ c p, f (.bad c p) = .bad c p
  q : ∀ us vs, Ct B us vs → ∀ r, f (.good us) = .good r → Co1 B r (f (.good vs))
  s : ∀ vs, Sh B vs → CoE B (f (.good vs))
structure Vx (B : Nat) (f : St → St) : Prop where
  b : ∀ c p, f (.bad c p) = .bad c p
  q : ∀ us vs, Ct B us vs → ∀ r, f (.good us) = .good r → Co B r (f (.good vs))
  e : ∀ vs, En B vs → Bd B (f (.good vs))
theorem Vs.w {f : St → St} (h : Vs B f) : Vw B f := ⟨h.b, fun us vs hc r hr => (h.q us vs hc r hr).co, fun vs hs => (h.s vs hs).s⟩
theorem Vw.y {f : St → St} (h : Vw B f) : Vy B f := ⟨h.b, h.q, fun vs he => h.s vs (.inl he)⟩
theorem Vx.y {f : St → St} (h : Vx B f) : Vy B f := ⟨h.b, h.q, fun vs he => .inl (h.e vs he)⟩
theorem Vw.congr {f g : St → St} (h : ∀ st, f st = g st) (hg : Vw B g) : Vw B f := by rw [show f = g from funext h]; exact hg
theorem Vs.congr {f g : St → St} (h : ∀ st, f st = g st) (hg : Vs B g) : Vs B f := by rw [show f = g from funext h]; exact hg
theorem vw_id : Vw B (fun st => st) := ⟨fun _ _ => rfl, fun us vs hc r hr => by injection hr with hr; subst hr; exact .inr ⟨vs, rfl, .inl hc⟩, fun vs hs => .inr ⟨vs, rfl, hs⟩⟩
variable {f g : St → St}
theorem bd_next (hg : ∀ c p, g (.bad c p) = .bad c p) {st : St} (h : Bd B st) : Bd B (g st) := by
  obtain ⟨c, q, rfl, h⟩ := h
  exact ⟨c, q, hg c q, h⟩
theorem Vw.w2 (hf : Vw B f) (hg : Vw B g) : Vw B (fun st => g (f st)) := by
  refine ⟨fun c p => by show g (f _) = _; rw [hf.b, hg.b], fun us vs hc r hr => ?_, fun vs hs => ?_⟩
  · obtain ⟨r1, h1⟩ := st_good hg.b hr
    rw [h1] at hr
    rcases hf.q us vs hc r1 h1 with h2 | ⟨v1, h2, h3⟩
    · exact .inl (bd_next hg.b h2)
    · show Co B r (g (f (.good vs)))
      rw [h2]
      rcases h3 with h3 | h3
      · exact hg.q r1 v1 h3 r hr
      · exact (hg.s v1 h3).co r
  · rcases hf.s vs hs with h2 | ⟨v1, h2, h3⟩
    · exact .inl (bd_next hg.b h2)
    · show CoS B (g (f (.good vs)))
      rw [h2]
      exact hg.s v1 h3
theorem Vw.s2 (hf : Vw B f) (hg : Vs B g) : Vs B (fun st => g (f st)) := by
  refine ⟨fun c p => by show g (f _) = _; rw [hf.b, hg.b], fun us vs hc r hr => ?_, fun vs hs => ?_⟩
  · obtain ⟨r1, h1⟩ := st_good hg.b hr
    rw [h1] at hr
    rcases hf.q us vs hc r1 h1 with h2 | ⟨v1, h2, h3⟩
    · exact .inl (bd_next hg.b h2)
    · show Co1 B r (g (f (.good vs)))
      rw [h2]
      rcases h3 with h3 | h3
      · exact hg.q r1 v1 h3 r hr
      · exact (hg.s v1 h3).co1 r
  · rcases hf.s vs hs with h2 | ⟨v1, h2, h3⟩
    · exact .inl (bd_next hg.b h2)
    · show CoE B (g (f (.good vs)))
      rw [h2]
      exact hg.s v1 h3
theorem Vs.x2 (hf : Vs B f) (hg : Vx B g) : Vw B (fun st => g (f st)) := by
  refine ⟨fun c p => by show g (f _) = _; rw [hf.b, hg.b], fun us vs hc r hr => ?_, fun vs hs => ?_⟩
  · obtain ⟨r1, h1⟩ := st_good hg.b hr
    rw [h1] at hr
    rcases hf.q us vs hc r1 h1 with h2 | ⟨v1, h2, h3⟩
    · exact .inl (bd_next hg.b h2)
    · show Co B r (g (f (.good vs)))
      rw [h2]
      exact hg.q r1 v1 h3 r hr
  · rcases hf.s vs hs with h2 | ⟨v1, h2, h3⟩
    · exact .inl (bd_next hg.b h2)
    · show CoS B (g (f (.good vs)))
      rw [h2]
      exact .inl (hg.e v1 h3)
theorem vw_if {p : Tok → Bool} (hp : Tst p) (hq : ∀ t us vs, p t = true → t.kind ≠ 0 → t.pos ≤ B → Ct B us vs → ∀ r, f (.good (t :: us)) = .good r → Co B r (f (.good (t :: vs)))) (hs : ∀ t vs, p t = true → TK t → t.pos ≤ B → En B vs → CoS B (f (.good (t :: vs)))) (hg : Vw B g) : Vw B (fun st => if p st.hd then f st else g st) := by
  have hss : ∀ vs, Sh B vs → CoS B (if p (hd vs) then f (.good vs) else g (.good vs)) := by
    rintro vs (⟨E, rfl, h0, h1⟩ | ⟨t, r, rfl, h1, h2, h3⟩)
    · rw [if_neg (by rw [show p (hd [E]) = false from tst_no hp h0]; simp)]
      exact hg.s _ (.inl ⟨E, rfl, h0, h1⟩)
    · split
      · next hi => exact hs t r hi h1 h2 h3
      · exact hg.s _ (.inr ⟨t, r, rfl, h1, h2, h3⟩)
  refine ⟨fun c q => ?_, fun us vs hc r hr => ?_, hss⟩
  · show (if p (⟨0, [], 0⟩ : Tok) then f (.bad c q) else g (.bad c q)) = _
    rw [tst_zero hp]
    exact hg.b c q
  · rcases hc.cases with ⟨t, u, v, rfl, rfl, hk, hpos, hc'⟩ | hs
    · change (if p t then f (.good (t :: u)) else g (.good (t :: u))) = _ at hr
      show Co B r (if p t then f (.good (t :: v)) else g (.good (t :: v)))
      split at hr
      · next hi => rw [if_pos hi]; exact hq t u v hi hk hpos hc' r hr
      · next hi => rw [if_neg hi]; exact hg.q _ _ hc r hr
    · exact (hss vs hs).co r
theorem vw_tl {p : Tok → Bool} (hp : Tst p) (hf : Vy B f) (hg : Vw B g) : Vw B (fun st => if p st.hd then f st.tl else g st) :=
  vw_if (f := fun st => f st.tl) hp (fun _ us vs _ _ _ hc r hr => hf.q us vs hc r hr) (fun _ vs _ _ _ he => hf.e vs he) hg
theorem vs_take {p : Tok → Bool} (hp : Tst p) : Vs B (fun st => if p st.hd then st.tl else st.fail 20) := by
  have hss : ∀ vs, Sh B vs → CoE B (if p (hd vs) then St.tl (.good vs) else St.fail 20 (.good vs)) := by
    rintro vs (⟨E, rfl, h0, h1⟩ | ⟨t, r, rfl, h1, h2, h3⟩)
    · rw [if_neg (by rw [show p (hd [E]) = false from tst_no hp h0]; simp)]
      exact .inl ⟨20, E.pos, rfl, .inl rfl, h1⟩
    · split
      · exact .inr ⟨r, rfl, h3⟩
      · exact .inl ⟨20, t.pos, rfl, .inl rfl, h2⟩
  refine ⟨fun c q => ?_, fun us vs hc r hr => ?_, hss⟩
  · show (if p (⟨0, [], 0⟩ : Tok) then St.tl (.bad c q) else St.fail 20 (.bad c q)) = _
    rw [tst_zero hp]
    rfl
  · rcases hc.cases with ⟨t, u, v, rfl, rfl, hk, hpos, hc'⟩ | hs
    · change (if p t then St.good u else St.fail 20 (.good (t :: u))) = _ at hr
      show Co1 B r (if p t then St.good v else St.fail 20 (.good (t :: v)))
      split at hr
      · next hi =>
        rw [if_pos hi]
        injection hr with hr
        subst hr
        exact .inr ⟨v, rfl, hc'⟩
      · cases hr
    · exact (hss vs hs).co1 r
theorem vs_want (x : List UInt8) : Vs B (St.want x) := vs_take (tst_isT x)
theorem vs_name : Vs B (fun st => st.name.2) := Vs.congr (fun st => by unfold St.name; split <;> rfl) (vs_take tst_nm)
theorem tst_txt : Tst (fun t : Tok => t.kind == 3) := ⟨fun t t' h1 _ => by simp only [h1], fun t h h0 => by simp [h0] at h⟩
theorem vs_text : Vs B (fun st => st.text.2) := Vs.congr (fun st => by unfold St.text; by_cases h : st.hd.kind = 3 <;> simp [h]) (vs_take tst_txt)
theorem vx_expr {D : Nat} (hD : 1 ≤ D) : Vx B (fun st => (st.expr D).2) := by
  have e : ∀ us, ((St.good us).expr D).2 = (exprP ((dp D).c us)).2 := fun _ => rfl
  refine ⟨fun _ _ => rfl, fun us vs hc r hr => ?_, fun vs he => ?_⟩
  · simp only [e] at hr ⊢
    cases h : (dp D).c us with
    | er c p => rw [h] at hr; cases hr
    | ok x y =>
      rw [h] at hr
      injection hr with hr
      subst hr
      rcases (op_dp hD).qd us vs hc x y h with ⟨q, h1, h2⟩ | ⟨e', r', h1, h2⟩
      · rw [h1]; exact .inl ⟨20, q, rfl, .inl rfl, h2⟩
      · rw [h1]; exact .inr ⟨r', rfl, h2⟩
  · simp only [e]
    obtain ⟨q, h1, h2⟩ := (op_dp hD).e vs he
    rw [h1]
    exact ⟨20, q, rfl, .inl rfl, h2⟩
variable {D : Nat}
theorem vs_mean (hD : 1 ≤ D) : Vs B (fun st => (st.mean D).2) := ((vs_want [61]).x2 (vx_expr hD)).s2 (vs_want [59])
theorem vs_defn (hD : 1 ≤ D) : Vs B (fun st => (st.defn D).2) := vs_name.w.s2 (vs_mean hD)
theorem vs_labl (hD : 1 ≤ D) : Vs B (fun st => (st.labl D).2) := vs_text.w.s2 (vs_mean hD)
theorem vs_bnds (hD : 1 ≤ D) : Vs B (fun st => (st.bnds D).2) := ((((vs_want [91]).x2 (vx_expr hD)).s2 (vs_want [46, 46])).x2 (vx_expr hD)).s2 (vs_want [93])
theorem vw_vals (hD : 1 ≤ D) : Vw B (fun st => (st.vals D).2) :=
  Vw.congr (fun st => by unfold St.vals; split <;> rfl) (vw_tl (tst_isT wBool) vw_id.y (vs_bnds hD).w)
theorem vw_init (hD : 1 ≤ D) : Vw B (fun st => (st.init D).2) :=
  Vw.congr (fun st => by unfold St.init; split <;> rfl) (vw_tl (tst_isT wInit) (vx_expr hD).y vw_id)
theorem vs_vrbl (hD : 1 ≤ D) : Vs B (fun st => (st.vrbl D).2) := (((vs_name.w.s2 (vs_want [58])).w.w2 (vw_vals hD)).w2 (vw_init hD)).s2 (vs_want [59])
theorem vs_sett (hD : 1 ≤ D) : Vs B (fun st => (st.sett D).2) := (((((vs_want [40]).w.s2 vs_name).w.s2 (vs_want [39])).w.s2 (vs_want [61])).x2 (vx_expr hD)).s2 (vs_want [41])
theorem vw_wght : Vw B (fun st => st.wght.2) := by
  refine Vw.congr (g := fun st => if (fun t : Tok => t.kind == 2) st.hd then (fun st : St => if valOf st.hd.text = 0 then .bad 33 st.hd.pos else st.tl.want [58]) st else (fun st : St => st) st) (fun st => by unfold St.wght; by_cases h : st.hd.kind = 2 <;> simp [h]) (vw_if tst_num (fun t us vs _ _ _ hc r hr => ?_) (fun t vs _ _ hp he => ?_) vw_id)
  · change (if valOf t.text = 0 then St.bad 33 t.pos else (St.good us).want [58]) = _ at hr
    show Co B r (if valOf t.text = 0 then St.bad 33 t.pos else (St.good vs).want [58])
    split at hr
    · cases hr
    · next hv =>
      rw [if_neg hv]
      exact ((vs_want [58]).q us vs hc r hr).co
  · show CoS B (if valOf t.text = 0 then St.bad 33 t.pos else (St.good vs).want [58])
    split
    · exact .inl ⟨33, t.pos, rfl, .inr rfl, hp⟩
    · exact ((vs_want [58]).s vs (.inl he)).s
section
variable {α : Type} {p : Tok → Bool} {rd : St → α × St}
theorem list_sh (hp : Tst p) (hdc : Dec p rd) (hs : ∀ t vs, p t = true → TK t → t.pos ≤ B → En B vs → CoS B (rd (.good (t :: vs))).2) : ∀ vs, Sh B vs → CoS B ((St.good vs).list p rd).2 := by
  have he : ∀ vs, En B vs → CoS B ((St.good vs).list p rd).2 := by
    rintro vs ⟨E, rfl, h0, h1⟩
    rw [list_end (show p (St.good [E]).hd = false from tst_no hp h0)]
    exact .inr ⟨_, rfl, .inl ⟨E, rfl, h0, h1⟩⟩
  rintro vs (h | ⟨t, r, rfl, h1, h2, h3⟩)
  · exact he vs h
  · cases hpt : p t with
    | false =>
      rw [list_end (show p (St.good (t :: r)).hd = false from hpt)]
      exact .inr ⟨_, rfl, .inr ⟨t, r, rfl, h1, h2, h3⟩⟩
    | true =>
      rw [list_go hdc (show p (St.good (t :: r)).hd = true from hpt)]
      have hl := (hdc (.good (t :: r)) hpt).1
      rcases hs t r hpt h1 h2 h3 with ⟨c, q, h4, h5⟩ | ⟨v1, h4, h5⟩
      · exact .inl ⟨c, q, by show ((rd (.good (t :: r))).2.list p rd).2 = _; rw [h4, list_bad hp], h5⟩
      · show CoS B ((rd (.good (t :: r))).2.list p rd).2
        rw [h4] at hl ⊢
        refine he v1 ?_
        rcases h5 with h5 | ⟨t2, r2, rfl, _, _, E2, rfl, _⟩
        · exact h5
        · obtain ⟨E, rfl, _⟩ := h3
          simp [St.len] at hl
theorem list_ct (hp : Tst p) (hdc : Dec p rd) (hq : ∀ t us vs, p t = true → t.kind ≠ 0 → t.pos ≤ B → Ct B us vs → ∀ r, (rd (.good (t :: us))).2 = .good r → Co B r (rd (.good (t :: vs))).2) (hs : ∀ t vs, p t = true → TK t → t.pos ≤ B → En B vs → CoS B (rd (.good (t :: vs))).2) : ∀ (n : Nat) (us vs : List Tok), us.length ≤ n → Ct B us vs → ∀ r, ((St.good us).list p rd).2 = .good r → Co B r ((St.good vs).list p rd).2 := by
  intro n
  induction n with
  | zero =>
    intro us vs hn hc r hr
    rcases hc.cases with ⟨t, u, v, rfl, rfl, _⟩ | h
    · simp at hn
    · exact (list_sh hp hdc hs vs h).co r
  | succ n ih =>
    intro us vs hn hc r hr
    rcases hc.cases with ⟨t, u, v, rfl, rfl, hk, hpos, hc'⟩ | h
    · cases hpt : p t with
      | false =>
        rw [list_end (show p (St.good (t :: u)).hd = false from hpt)] at hr
        rw [list_end (show p (St.good (t :: v)).hd = false from hpt)]
        injection hr with hr
        subst hr
        exact .inr ⟨_, rfl, .inl hc⟩
      | true =>
        rw [list_go hdc (show p (St.good (t :: u)).hd = true from hpt)] at hr
        rw [list_go hdc (show p (St.good (t :: v)).hd = true from hpt)]
        have hl := (hdc (.good (t :: u)) hpt).1
        change ((rd (.good (t :: u))).2.list p rd).2 = _ at hr
        show Co B r ((rd (.good (t :: v))).2.list p rd).2
        cases h1 : (rd (.good (t :: u))).2 with
        | bad c q => rw [h1, list_bad hp] at hr; cases hr
        | good r1 =>
          rw [h1] at hr hl
          rcases hq t u v hpt hk hpos hc' r1 h1 with ⟨c, q, h4, h5⟩ | ⟨v1, h4, h5⟩
          · rw [h4, list_bad hp]; exact .inl ⟨c, q, rfl, h5⟩
          · rw [h4]
            rcases h5 with h5 | h5
            · exact ih r1 v1 (by simp only [St.len, List.length_cons] at hl hn; omega) h5 r hr
            · exact (list_sh hp hdc hs v1 h5).co r
    · exact (list_sh hp hdc hs vs h).co r
theorem vw_list (hp : Tst p) (hdc : Dec p rd) (hq : ∀ t us vs, p t = true → t.kind ≠ 0 → t.pos ≤ B → Ct B us vs → ∀ r, (rd (.good (t :: us))).2 = .good r → Co B r (rd (.good (t :: vs))).2) (hs : ∀ t vs, p t = true → TK t → t.pos ≤ B → En B vs → CoS B (rd (.good (t :: vs))).2) : Vw B (fun st => (st.list p rd).2) :=
  ⟨fun c q => list_bad hp c q, fun us vs hc r hr => list_ct hp hdc hq hs _ us vs (Nat.le_refl _) hc r hr, list_sh hp hdc hs⟩
theorem vw_listT {rd : St → α × St} (hp : Tst p) (hdc : Dec p (fun s => rd s.tl)) (h : Vy B (fun st => (rd st).2)) : Vw B (fun st => (st.list p (fun s => rd s.tl)).2) :=
  vw_list hp hdc (fun _ us vs _ _ _ hc r hr => h.q us vs hc r hr) (fun _ vs _ _ _ he => h.e vs he)
theorem vw_listH (hp : Tst p) (hdc : Dec p rd) (h : Vw B (fun st => (rd st).2)) : Vw B (fun st => (st.list p rd).2) :=
  vw_list hp hdc (fun _ _ _ _ hk hpos hc r hr => h.q _ _ (.same hk hpos hc) r hr) (fun t vs _ ht hpos he => h.s _ (.inr ⟨t, vs, rfl, ht, hpos, he⟩))
end
theorem vw_sets (hD : 1 ≤ D) : Vw B (fun st => (st.sets D).2) :=
  Vw.congr (fun st => by unfold St.sets; split <;> rfl) (vw_tl (tst_isT opTrue) vw_id.y ((vs_sett hD).w.w2 (vw_listT (rd := fun s => s.sett D) (tst_isT [38]) (dec_sett D) (vs_sett hD).w.y)))
theorem vw_brch (hD : 1 ≤ D) : Vw B (fun st => (st.brch D).2) := vw_wght.w2 (vw_sets hD)
theorem vw_brchs (hD : 1 ≤ D) : Vw B (fun st => (st.brchs D).2) := (vw_brch hD).w2 (vw_listT (rd := fun s => s.brch D) (tst_isT [43]) (dec_brch D) (vw_brch hD).y)
theorem vw_actn : Vw B (fun st => st.actn.2) :=
  Vw.congr (fun st => by unfold St.actn; split <;> rfl) (vw_if (f := fun st => st) (tst_isT [93]) (fun _ _ _ _ hk hp hc r hr => vw_id.q _ _ (.same hk hp hc) r hr) (fun t vs _ ht hp he => vw_id.s _ (.inr ⟨t, vs, rfl, ht, hp, he⟩)) vs_name.w)
theorem vw_guard (hD : 1 ≤ D) : Vw B (fun st => (st.guard D).2) := (((vs_want [91]).w.w2 vw_actn).s2 (vs_want [93])).x2 (vx_expr hD)
theorem vs_cmnd (hD : 1 ≤ D) : Vs B (fun st => (st.cmnd D).2) := (((vw_guard hD).s2 (vs_want [45, 62])).w.w2 (vw_brchs hD)).s2 (vs_want [59])
theorem vw_vrbls (hD : 1 ≤ D) : Vw B (fun st => (st.vrbls D).2) := vs_name.w.w2 (vw_listH tst_nm (dec_vrbl D) (vs_vrbl hD).w)
theorem vw_cmnds (hD : 1 ≤ D) : Vw B (fun st => (st.cmnds D).2) := (vw_vrbls hD).w2 (vw_listH (tst_isT [91]) (dec_cmnd D) (vs_cmnd hD).w)
theorem vs_modl (hD : 1 ≤ D) : Vs B (fun st => (st.modl D).2) := (vw_cmnds hD).s2 (vs_want wEnd)
end
end
section

def leV (a b : Nat × Nat × Nat × Nat) : Prop := a.1 ≤ b.1 ∧ a.2.1 ≤ b.2.1 ∧ a.2.2.1 ≤ b.2.2.1 ∧ a.2.2.2 ≤ b.2.2.2
theorem leV.refl (a : Nat × Nat × Nat × Nat) : leV a a := ⟨Nat.le_refl _, Nat.le_refl _, Nat.le_refl _, Nat.le_refl _⟩
theorem leV.trans {a b c : Nat × Nat × Nat × Nat} (h : leV a b) (k : leV b c) : leV a c := ⟨Nat.le_trans h.1 k.1, Nat.le_trans h.2.1 k.2.1, Nat.le_trans h.2.2.1 k.2.2.1, Nat.le_trans h.2.2.2 k.2.2.2⟩
theorem leV.add {a b : Nat × Nat × Nat × Nat} (h : leV a b) (e : Nat × Nat × Nat × Nat) : leV (addV a e) (addV b e) := by
  obtain ⟨h1, h2, h3, h4⟩ := h
  simp only [leV, addV]
  omega
theorem leV.more (a e : Nat × Nat × Nat × Nat) : leV a (addV a e) := by simp only [leV, addV]; omega
/-- What reads an item behind its word. -/
structure Itm (D : Nat) (F : St → St) : Prop where
  s : ∀ B, 1 ≤ D → Vs B F
  l : ∀ st, Le (F st) st
  e : ∀ B vs, En B vs → Bd B (F (.good vs))
theorem take_en {p : Tok → Bool} (hp : Tst p) {B : Nat} {vs : List Tok} (h : En B vs) : Bd B ((fun st : St => if p st.hd then st.tl else st.fail 20) (.good vs)) := by
  obtain ⟨E, rfl, h0, h1⟩ := h
  show Bd B (if p E then _ else _)
  rw [if_neg (by rw [tst_no hp h0]; simp)]
  exact ⟨20, E.pos, rfl, .inl rfl, h1⟩
theorem name_en {B : Nat} {vs : List Tok} (h : En B vs) : Bd B ((St.good vs).name.2) := by
  have := take_en tst_nm h
  have e : (St.good vs).name.2 = (fun st : St => if isNm st.hd then st.tl else st.fail 20) (.good vs) := by simp only [St.name]; split <;> rfl
  rw [e]; exact this
theorem text_en {B : Nat} {vs : List Tok} (h : En B vs) : Bd B ((St.good vs).text.2) := by
  obtain ⟨E, rfl, h0, h1⟩ := h
  unfold St.text
  rw [if_neg (by show ¬ E.kind = 3; omega)]
  exact ⟨20, E.pos, rfl, .inl rfl, h1⟩
theorem itm_defn (D : Nat) : Itm D (fun st => (st.defn D).2) := ⟨fun _ h => vs_defn h, defn_le D, fun _ _ h => bd_next (g := fun st => (st.mean D).2) (su_mean D).bad (name_en h)⟩
theorem itm_labl (D : Nat) : Itm D (fun st => (st.labl D).2) := ⟨fun _ h => vs_labl h, labl_le D, fun _ _ h => bd_next (g := fun st => (st.mean D).2) (su_mean D).bad (text_en h)⟩
theorem modl_bad (D c p : Nat) : ((St.bad c p).modl D).2 = .bad c p := (su_modl D).bad c p
theorem itm_modl (D : Nat) : Itm D (fun st => (st.modl D).2) := by
  refine ⟨fun _ h => vs_modl h, modl_le D, fun B vs h => ?_⟩
  obtain ⟨c, q, h1, h2⟩ := name_en h
  refine ⟨c, q, ?_, h2⟩
  show (((St.good vs).cmnds D).2).want wEnd = _
  have e1 : ((St.good vs).vrbls D).2 = .bad c q := by
    show (((St.good vs).name.2).list isNm (St.vrbl D)).2 = _
    rw [h1, list_bad tst_nm]
  have e2 : ((St.good vs).cmnds D).2 = .bad c q := by
    show ((((St.good vs).vrbls D).2).list (fun t => isT t [91]) (St.cmnd D)).2 = _
    rw [e1, list_bad (tst_isT [91])]
  rw [e2]
  rfl
/-- One item ahead. -/
theorem mdl_case {D : Nat} {t : Tok} (hk : t.kind ≠ 0) : (∃ (F : St → St) (e : Nat × Nat × Nat × Nat), Itm D F ∧ ∀ (vs : List Tok) (m : MdlO), ∃ m', m'.vec = addV m.vec e ∧ (St.good (t :: vs)).mdlOn D m = (F (.good vs)).mdlOn D m') ∨ ∀ (vs : List Tok) (m : MdlO), (St.good (t :: vs)).mdlOn D m = (m, .bad 20 t.pos) := by
  cases h0 : isT t wConst with
  | true => exact .inl ⟨_, (1, 0, 0, 0), itm_defn D, fun vs m => ⟨_, by simp [MdlO.vec, addV], mdl_one0 D m (st := .good (t :: vs)) h0⟩⟩
  | false =>
    cases h1 : isT t wFormula with
    | true => exact .inl ⟨_, (0, 1, 0, 0), itm_defn D, fun vs m => ⟨_, by simp [MdlO.vec, addV], mdl_one1 D m (st := .good (t :: vs)) h0 h1⟩⟩
    | false =>
      cases h2 : isT t wLabel with
      | true => exact .inl ⟨_, (0, 0, 1, 0), itm_labl D, fun vs m => ⟨_, by simp [MdlO.vec, addV], mdl_one2 D m (st := .good (t :: vs)) h0 h1 h2⟩⟩
      | false =>
        cases h3 : isT t wModule with
        | true => exact .inl ⟨_, (0, 0, 0, 1), itm_modl D, fun vs m => ⟨_, by simp [MdlO.vec, addV], mdl_one3 D m (st := .good (t :: vs)) h0 h1 h2 h3⟩⟩
        | false =>
          refine .inr fun vs m => ?_
          rw [mdl_go D (show (St.good (t :: vs)).hd.kind ≠ 0 from hk)]
          have e : (St.good (t :: vs)).items D m = (m, .bad 20 t.pos) := by
            unfold St.items
            rw [show (St.good (t :: vs)).hd = t from rfl, h0, h1, h2, h3]
            rfl
          rw [e, mdl_bad]
theorem mdl_mono (D : Nat) : ∀ (n : Nat) (us : List Tok), us.length ≤ n → ∀ (m mu : MdlO) (r : List Tok), (St.good us).mdlOn D m = (mu, .good r) → leV m.vec mu.vec := by
  intro n
  induction n with
  | zero =>
    intro us hn m mu r hr
    rw [mdl_end D (by cases us with | nil => rfl | cons t u => simp at hn)] at hr
    injection hr with h _
    subst h
    exact leV.refl _
  | succ n ih =>
    intro us hn m mu r hr
    by_cases hk : (St.good us).hd.kind = 0
    · rw [mdl_end D hk] at hr
      injection hr with h _
      subst h
      exact leV.refl _
    · cases us with
      | nil => exact absurd rfl hk
      | cons t u =>
        rcases mdl_case (D := D) (t := t) hk with ⟨F, e, hF, h⟩ | h
        · obtain ⟨m', h1, h2⟩ := h u m
          rw [h2] at hr
          cases hq : F (.good u) with
          | bad c p => rw [hq, mdl_bad] at hr; injection hr with _ hr; cases hr
          | good r1 =>
            rw [hq] at hr
            have hl := (hF.l (.good u)).1
            rw [hq] at hl
            simp only [St.len, List.length_cons] at hl hn
            have := ih r1 (by omega) m' mu r hr
            rw [h1] at this
            exact (leV.more _ _).trans this
        · rw [h u m] at hr
          injection hr with _ hr
          cases hr
def MOut (B : Nat) (mu : MdlO) (res : MdlO × St) : Prop := (∃ mm c q, res = (mm, .bad c q) ∧ (c = 20 ∨ c = 33) ∧ q ≤ B) ∨ ∃ mm r', res = (mm, .good r') ∧ leV mm.vec mu.vec
theorem mdl_sh {D B : Nat} {vs : List Tok} (h : Sh B vs) {m0 mu : MdlO} (hv : leV m0.vec mu.vec) : MOut B mu ((St.good vs).mdlOn D m0) := by
  rcases h with ⟨E, rfl, h0, h1⟩ | ⟨t, r, rfl, h1, h2, h3⟩
  · rw [mdl_end D (show (St.good [E]).hd.kind = 0 from h0)]
    exact .inr ⟨_, _, rfl, hv⟩
  · rcases mdl_case (D := D) (t := t) h1.1 with ⟨F, e, hF, h⟩ | h
    · obtain ⟨m', _, h5⟩ := h r m0
      obtain ⟨c, q, h6, h7⟩ := hF.e B r h3
      rw [h5, h6, mdl_bad]
      exact .inl ⟨_, c, q, rfl, h7⟩
    · rw [h r m0]
      exact .inl ⟨_, 20, _, rfl, .inl rfl, h2⟩
theorem mdl_cut {D B : Nat} (hD : 1 ≤ D) : ∀ (n : Nat) (us vs : List Tok), us.length ≤ n → Ct B us vs → ∀ (m m0 mu : MdlO) (r : List Tok), leV m0.vec m.vec → (St.good us).mdlOn D m = (mu, .good r) → MOut B mu ((St.good vs).mdlOn D m0) := by
  intro n
  induction n with
  | zero =>
    intro us vs hn hc m m0 mu r hv hr
    rcases hc.cases with ⟨t, u, v, rfl, rfl, _⟩ | h
    · simp at hn
    · exact mdl_sh h (hv.trans (mdl_mono D _ us (Nat.le_refl _) m mu r hr))
  | succ n ih =>
    intro us vs hn hc m m0 mu r hv hr
    rcases hc.cases with ⟨t, u, v, rfl, rfl, hk, hpos, hc'⟩ | h
    · rcases mdl_case (D := D) (t := t) hk with ⟨F, e, hF, h⟩ | h
      · obtain ⟨m', h1, h2⟩ := h u m
        obtain ⟨m0', h3, h4⟩ := h v m0
        rw [h2] at hr
        rw [h4]
        cases hq : F (.good u) with
        | bad c p => rw [hq, mdl_bad] at hr; injection hr with _ hr; cases hr
        | good r1 =>
          rw [hq] at hr
          have hl := (hF.l (.good u)).1
          rw [hq] at hl
          simp only [St.len, List.length_cons] at hl hn
          rcases (hF.s B hD).q u v hc' r1 hq with ⟨c, q, h5, h6⟩ | ⟨v1, h5, h6⟩
          · rw [h5, mdl_bad]
            exact .inl ⟨_, c, q, rfl, h6⟩
          · rw [h5]
            exact ih r1 v1 (by omega) h6 m' m0' mu r (by rw [h1, h3]; exact hv.add e) hr
      · rw [h u m] at hr
        injection hr with _ hr
        cases hr
    · exact mdl_sh h (hv.trans (mdl_mono D _ us (Nat.le_refl _) m mu r hr))
/-- What a cut text gives, its tokens known. -/
theorem parse_cut {D B : Nat} (hD : 1 ≤ D) {l l' : List UInt8} {m : MdlO} {us vs : List Tok} (h : parseM D l = .ok m) (hu : toks l = .ok us) (hv : toks l' = .ok vs) (hc : Ct B us vs) : (∃ c q, parseM D l' = .er c q ∧ (c = 20 ∨ c = 33) ∧ q ≤ B) ∨ ∃ x, parseM D l' = .ok x ∧ leV x.vec m.vec := by
  rw [parseM, hu] at h
  rw [parseM, hv]
  change endM (((St.good us).want wMdp).mdlOn D mdl0) = _ at h
  show (∃ c q, endM (((St.good vs).want wMdp).mdlOn D mdl0) = _ ∧ _) ∨ ∃ x, endM (((St.good vs).want wMdp).mdlOn D mdl0) = _ ∧ _
  cases hq : (St.good us).want wMdp with
  | bad c p => rw [hq, mdl_bad] at h; cases h
  | good r1 =>
    rw [hq] at h
    cases hm : (St.good r1).mdlOn D mdl0 with
    | mk mu st =>
      rw [hm] at h
      cases st with
      | bad c p => cases h
      | good r =>
        injection h with h
        subst h
        rcases (vs_want wMdp).q us vs hc r1 hq with ⟨c, q, h5, h6⟩ | ⟨v1, h5, h6⟩
        · rw [h5, mdl_bad]
          exact .inl ⟨c, q, rfl, h6⟩
        · rw [h5]
          rcases mdl_cut hD _ r1 v1 (Nat.le_refl _) h6 mdl0 mdl0 mu r (leV.refl _) hm with ⟨mm, c, q, h7, h8⟩ | ⟨mm, r', h7, h8⟩
          · rw [h7]; exact .inl ⟨c, q, rfl, h8⟩
          · rw [h7]; exact .inr ⟨mm, rfl, h8⟩
end
section

/-- Where a text is cut within its first blanks, only blanks are left, or a bar that no comment follows. -/
theorem blanks_cut : ∀ (b : Bool) (l : List UInt8) (k : Nat), k ≤ l.length →
    (blanks b l ≤ k → blanks b (l.take k) = blanks b l) ∧ (k < blanks b l → blanks b (l.take k) = k ∨ ∃ j, blanks b (l.take k) = j ∧ j + 1 = k ∧ (l.take k).drop j = [47])
  | b, [], k, hk => by
    have : k = 0 := by simpa using hk
    subst this
    cases b <;> simp [blanks]
  | true, c :: l, 0, _ => by
    refine ⟨fun h => ?_, fun _ => .inl (by simp [blanks])⟩
    simp only [blanks] at h
    split at h <;> omega
  | true, c :: l, k + 1, hk => by
    simp only [List.length_cons] at hk
    simp only [List.take_succ_cons, blanks]
    split
    · obtain ⟨h1, h2⟩ := blanks_cut false l k (by omega)
      refine ⟨fun h => by rw [h1 (by omega)], fun h => ?_⟩
      rcases h2 (by omega) with h3 | ⟨j, h3, h4, h5⟩
      · exact .inl (by omega)
      · exact .inr ⟨1 + j, by rw [h3], by omega, by rw [Nat.add_comm 1 j, List.drop_succ_cons]; exact h5⟩
    · obtain ⟨h1, h2⟩ := blanks_cut true l k (by omega)
      refine ⟨fun h => by rw [h1 (by omega)], fun h => ?_⟩
      rcases h2 (by omega) with h3 | ⟨j, h3, h4, h5⟩
      · exact .inl (by omega)
      · exact .inr ⟨1 + j, by rw [h3], by omega, by rw [Nat.add_comm 1 j, List.drop_succ_cons]; exact h5⟩
  | false, c :: l, 0, _ => by
    refine ⟨fun h => ?_, fun _ => .inl (by simp [blanks])⟩
    rw [Nat.le_zero.1 h]
    simp [blanks]
  | false, c :: l, k + 1, hk => by
    simp only [List.length_cons] at hk
    simp only [List.take_succ_cons, blanks]
    split
    · obtain ⟨h1, h2⟩ := blanks_cut false l k (by omega)
      refine ⟨fun h => by rw [h1 (by omega)], fun h => ?_⟩
      rcases h2 (by omega) with h3 | ⟨j, h3, h4, h5⟩
      · exact .inl (by omega)
      · exact .inr ⟨1 + j, by rw [h3], by omega, by rw [Nat.add_comm 1 j, List.drop_succ_cons]; exact h5⟩
    · by_cases hc : c.toNat = 47 ∧ l.head?.map (·.toNat) = some 47
      · rw [if_pos hc]
        cases k with
        | zero =>
          refine ⟨fun h => ?_, fun _ => .inr ⟨0, ?_, rfl, ?_⟩⟩
          · cases l with
            | nil => simp at hc
            | cons d l =>
              simp only [blanks] at h
              split at h <;> omega
          · simp
          · have : c = 47 := by rw [← UInt8.ofNat_toNat (x := c), hc.1]; rfl
            simp [this]
        | succ k =>
          have hh : (l.take (k + 1)).head? = l.head? := by cases l <;> simp
          rw [if_pos (by rw [hh]; exact hc)]
          obtain ⟨h1, h2⟩ := blanks_cut true l (k + 1) (by omega)
          refine ⟨fun h => by rw [h1 (by omega)], fun h => ?_⟩
          rcases h2 (by omega) with h3 | ⟨j, h3, h4, h5⟩
          · exact .inl (by omega)
          · exact .inr ⟨1 + j, by rw [h3], by omega, by rw [Nat.add_comm 1 j, List.drop_succ_cons]; exact h5⟩
      · rw [if_neg hc]
        refine ⟨fun _ => ?_, fun h => by omega⟩
        rw [if_neg]
        rintro ⟨h1, h2⟩
        cases k with
        | zero => simp at h2
        | succ k =>
          have hh : (l.take (k + 1)).head? = l.head? := by cases l <;> simp
          rw [hh] at h2
          exact hc ⟨h1, h2⟩
theorem cnt_take (p : UInt8 → Bool) : ∀ (l : List UInt8) (k : Nat), cnt p (l.take k) = min k (cnt p l)
  | [], k => by simp [cnt]
  | c :: l, 0 => by simp [cnt]
  | c :: l, k + 1 => by
    rw [List.take_succ_cons]
    by_cases h : p c = true
    · rw [cnt_cons_pos _ h, cnt_cons_pos _ h, cnt_take p l k]; omega
    · have h' : p c = false := by simpa using h
      rw [cnt_cons_neg _ h', cnt_cons_neg _ h']; omega
end
section

theorem while_take (p : UInt8 → Bool) : ∀ (l : List UInt8) (k : Nat), (l.take k).takeWhile p = (l.takeWhile p).take k
  | [], k => by simp
  | c :: l, 0 => by simp
  | c :: l, k + 1 => by
    rw [List.take_succ_cons, List.takeWhile_cons, List.takeWhile_cons]
    split
    · rw [while_take p l k, List.take_succ_cons]
    · simp
theorem val_take (l : List UInt8) (k : Nat) : valOf (l.take k) ≤ valOf l := by
  conv => rhs; rw [← List.take_append_drop k l]
  unfold valOf
  rw [List.foldl_append]
  exact foldV_le _ _
def CutM (r : List UInt8) (k : Nat) : Prop :=
  (meas r).1 = 2 ∨ ((meas r).1 = 1 ∧ ∃ c s, r.take k = c :: s ∧ letterB c = true) ∨ ((meas r).1 = 4 ∧ k = 1 ∧ (meas r).2.1 = 2 ∧ ∃ c s, r = c :: s ∧ (c.toNat = 45 ∨ c.toNat = 60 ∨ c.toNat = 62 ∨ c.toNat = 33 ∨ c.toNat = 61))
theorem lab_take {r : List UInt8} (h : labN r ≠ 0) (j : Nat) : (labN r ≤ j + 1 → labN (r.take j) = labN r) ∧ (j + 1 < labN r → labN (r.take j) = 0) := by
  unfold labN at h ⊢
  rw [cnt_take]
  split at h
  · exact absurd rfl h
  · next hn =>
    rw [if_neg hn]
    refine ⟨fun hl => ?_, fun hl => ?_⟩
    · rw [show min j (cnt labelB r) = cnt labelB r by omega, List.getElem?_take_of_lt (by omega), if_neg hn]
    · rw [if_pos]
      refine .inr (.inr ?_)
      rw [show min j (cnt labelB r) = j by omega, List.getElem?_eq_none (by rw [List.length_take]; omega)]
      simp
theorem meas_cut {r : List UInt8} {k : Nat} (h0 : r ≠ []) (hm : (meas r).2.2 = 0) (hk : 0 < k) : ((meas r).2.1 ≤ k → meas (r.take k) = meas r) ∧ (k < (meas r).2.1 → (meas (r.take k)).2.2 = 20 ∨ (meas (r.take k) = ((meas r).1, k, 0) ∧ CutM r k)) := by
  obtain ⟨j, rfl⟩ : ∃ j, k = j + 1 := ⟨k - 1, by omega⟩
  cases r with
  | nil => exact absurd rfl h0
  | cons c r =>
    have e1 := cnt_take digitB (c :: r) (j + 1)
    have e2 := cnt_take nameB (c :: r) (j + 1)
    have e3 := while_take digitB (c :: r) (j + 1)
    unfold CutM
    rw [List.take_succ_cons] at e1 e2 e3 ⊢
    simp only [meas] at hm ⊢
    rw [e1, e2, e3]
    by_cases hd : digitB c = true
    · simp only [if_pos hd] at hm ⊢
      have hv : valOf ((c :: r).takeWhile digitB) < 9223372036854775808 := by
        apply Classical.byContradiction
        intro h
        rw [if_neg h] at hm
        cases hm
      have hv2 := val_take ((c :: r).takeWhile digitB) (j + 1)
      rw [if_pos (Nat.lt_of_le_of_lt hv2 hv), if_pos hv]
      refine ⟨fun h => by rw [Nat.min_eq_right h], fun h => .inr ⟨by rw [Nat.min_eq_left (by omega)], .inl trivial⟩⟩
    · simp only [if_neg hd] at hm ⊢
      by_cases hl : letterB c = true
      · simp only [if_pos hl]
        refine ⟨fun h => by rw [Nat.min_eq_right h], fun h => .inr ⟨by rw [Nat.min_eq_left (by omega)], .inr (.inl ⟨trivial, c, _, rfl, hl⟩)⟩⟩
      · simp only [if_neg hl] at hm ⊢
        by_cases hq : quoteB c = true
        · simp only [if_pos hq] at hm ⊢
          have hn : labN r ≠ 0 := by
            intro h
            simp [h] at hm
          obtain ⟨h1, h2⟩ := lab_take hn j
          refine ⟨fun h => by rw [h1 h], fun h => .inl (by rw [h2 h]; rfl)⟩
        · simp only [if_neg hq] at hm ⊢
          have hn : signN (c :: r) ≠ 0 := by
            intro h
            simp [h] at hm
          rw [if_neg hn]
          cases j with
          | zero =>
            have e : signN [c] = if oneB c then 1 else 0 := by simp [signN, twoB]
            rw [List.take_zero, e]
            by_cases ht : twoB (c :: r) = true
            · have e4 : signN (c :: r) = 2 := by simp [signN, ht]
              rw [e4]
              refine ⟨fun h => by omega, fun _ => ?_⟩
              by_cases ho : oneB c = true
              · rw [if_pos ho]
                refine .inr ⟨by simp, .inr (.inr ⟨by simp, by simp, by simp, c, r, rfl, ?_⟩)⟩
                cases r with
                | nil => simp [twoB] at ht
                | cons d r =>
                  have h46 : c.toNat ≠ 46 := by
                    intro h
                    simp [oneB, h] at ho
                  simp only [twoB, Bool.or_eq_true, Bool.and_eq_true, beq_iff_eq] at ht
                  omega
              · rw [if_neg ho]
                exact .inl (by simp)
            · have ho : oneB c = true := by
                apply Classical.byContradiction
                intro ho
                exact hn (by simp [signN, ht, ho])
              have e4 : signN (c :: r) = 1 := by simp [signN, ht, ho]
              rw [e4, if_pos ho]
              exact ⟨fun _ => by simp, fun h => by omega⟩
          | succ i =>
            have e : signN (c :: r.take (i + 1)) = signN (c :: r) := by
              cases r with
              | nil => simp
              | cons d r => rfl
            have e4 : signN (c :: r) ≤ 2 := by
              by_cases ht : twoB (c :: r) = true
              · simp [signN, ht]
              · by_cases ho : oneB c = true <;> simp [signN, ht, ho]
            rw [e, if_neg hn]
            exact ⟨fun _ => rfl, fun h => by omega⟩
theorem letter_ne {c : UInt8} (h : letterB c = true) : c ≠ 40 ∧ c ≠ 63 ∧ c ≠ 61 ∧ c ≠ 58 ∧ c ≠ 45 ∧ c ≠ 33 := by
  refine ⟨?_, ?_, ?_, ?_, ?_, ?_⟩ <;> (rintro rfl; revert h; decide)
theorem isT_ne {t : Tok} {x : List UInt8} (h : t.text ≠ x) : isT t x = false := by
  unfold isT
  rw [show (t.text == x) = false from beq_eq_false_iff_ne.2 h, Bool.and_false]
theorem pt_cut {r : List UInt8} {k p q : Nat} (h : CutM r k) (hk : 0 < k) : Pt ⟨(meas r).1, bareL (meas r).1 (r.take (meas r).2.1), p⟩ ⟨(meas r).1, bareL (meas r).1 (r.take k), q⟩ := by
  rcases h with h | ⟨h, c, s, h1, h2⟩ | ⟨h, rfl, h2, c, s, h3, h4⟩
  · rw [h]
    have e : ∀ x, isT ⟨2, bareL 2 (r.take k), q⟩ x = false := fun x => by simp [isT]
    exact ⟨⟨by simp, e _, e _, e _, e _⟩, .inl ⟨⟨by simp, e _, e _, e _, e _⟩, e _, e _⟩⟩
  · rw [h, h1]
    obtain ⟨n1, n2, n3, n4, n5, n6⟩ := letter_ne h2
    have e : ∀ (d : UInt8) (x : List UInt8), c ≠ d → isT ⟨1, bareL 1 (c :: s), q⟩ (d :: x) = false := fun d x hd => isT_ne (by simp [bareL, hd])
    exact ⟨⟨by simp, e _ _ n1, e _ _ n2, e _ _ n3, e _ _ n4⟩, .inl ⟨⟨by simp, e _ _ n1, e _ _ n2, e _ _ n3, e _ _ n4⟩, e _ _ n5, e _ _ n6⟩⟩
  · rw [h, h2]
    have hle := meas_le r
    rw [h2] at hle
    subst h3
    have e : ∀ d : UInt8, c ≠ d → isT ⟨4, bareL 4 ((c :: s).take 1), q⟩ [d] = false := fun d hd => isT_ne (by simp [bareL, hd])
    have n1 : c ≠ 40 := by rintro rfl; revert h4; decide
    have n2 : c ≠ 63 := by rintro rfl; revert h4; decide
    have n3 : c ≠ 58 := by rintro rfl; revert h4; decide
    have e2 : ∀ d : UInt8, isT ⟨4, bareL 4 ((c :: s).take 2), p⟩ [d] = false := fun d => isT_ne (by
      cases s with
      | nil => simp at hle
      | cons a s => simp [bareL])
    exact ⟨⟨by simp, e _ n1, e _ n2, isT_ne (by simp [bareL]), e _ n3⟩, .inr ⟨rfl, e2 _, e2 _, e2 _⟩⟩
theorem scan_nil (p : Nat) : scanR [] p = .ok [⟨0, [], p⟩] := by
  rw [scanR_step]
  simp [blanks]
theorem scan_cut : ∀ (n : Nat) (r : List UInt8) (p k : Nat) (us : List Tok), r.length ≤ n → k ≤ r.length → scanR r p = .ok us → (∃ q, scanR (r.take k) p = .error (20, q) ∧ q ≤ p + k) ∨ ∃ vs, scanR (r.take k) p = .ok vs ∧ Ct (p + k) us vs := by
  intro n
  induction n with
  | zero =>
    intro r p k us hn hk h
    have : r = [] := List.length_eq_zero_iff.1 (by omega)
    subst this
    rw [List.take_nil, scan_nil]
    exact .inr ⟨_, rfl, .fin ⟨_, rfl, rfl, Nat.le_add_right _ _⟩⟩
  | succ n ih =>
    intro r p k us hn hk h
    have hlk : (r.take k).length = k := by rw [List.length_take]; omega
    obtain ⟨hb1, hb2⟩ := blanks_cut false r k hk
    have hs := scanR_step (r.take k) p
    rw [hlk] at hs
    by_cases hb : k < blanks false r
    · rcases hb2 hb with h1 | ⟨j, h1, h2, h3⟩
      · rw [h1, if_pos (by rw [List.drop_eq_nil_of_le (by omega)])] at hs
        exact .inr ⟨_, hs, .fin ⟨_, rfl, rfl, Nat.le_refl _⟩⟩
      · rw [h1, h3, if_neg (by simp), if_neg (by decide)] at hs
        exact .inl ⟨p + j, hs, by omega⟩
    · have hbe := hb1 (by omega)
      rw [hbe, List.drop_take] at hs
      have hso := scanR_step r p
      rw [h] at hso
      have hlr : (r.drop (blanks false r)).length = r.length - blanks false r := List.length_drop ..
      generalize hb' : blanks false r = b at *
      generalize hr' : r.drop b = r' at *
      by_cases hk0 : k - b = 0
      · rw [hk0, if_pos (by simp)] at hs
        exact .inr ⟨_, hs, .fin ⟨_, rfl, rfl, Nat.le_refl _⟩⟩
      · have h0 : r' ≠ [] := by
          intro e
          rw [e] at hlr
          simp at hlr
          omega
        have ht0 : r'.take (k - b) ≠ [] := by
          intro e
          have := congrArg List.length e
          rw [List.length_take, List.length_nil] at this
          have := List.length_pos_iff.2 h0
          omega
        rw [if_neg h0] at hso
        rw [if_neg ht0] at hs
        by_cases hm : (meas r').2.2 = 0
        · rw [if_pos hm] at hso
          obtain ⟨m1, m2⟩ := meas_cut (k := k - b) h0 hm (by omega)
          have hpos := meas_pos _ h0 hm
          obtain ⟨hkd, _, hle⟩ := meas_kinds h0 (k := (meas r').1) (n := (meas r').2.1) (by rw [← hm])
          by_cases hc : (meas r').2.1 ≤ k - b
          · rw [m1 hc, if_pos hm, List.take_take, Nat.min_eq_left hc, List.drop_take] at hs
            cases hrest : scanR (r'.drop (meas r').2.1) (p + b + (meas r').2.1) with
            | error x => rw [hrest] at hso; cases hso
            | ok us' =>
              rw [hrest] at hso
              obtain rfl := Res.ok.inj hso
              have hl2 : (r'.drop (meas r').2.1).length = r'.length - (meas r').2.1 := List.length_drop ..
              have hpk : p + b + (meas r').2.1 + (k - b - (meas r').2.1) = p + k := by omega
              rcases ih (r'.drop (meas r').2.1) (p + b + (meas r').2.1) (k - b - (meas r').2.1) us' (by omega) (by omega) hrest with ⟨q, h5, h6⟩ | ⟨vs, h5, h6⟩
              · rw [h5] at hs
                exact .inl ⟨q, hs, by omega⟩
              · rw [h5] at hs
                rw [hpk] at h6
                refine .inr ⟨_, hs, .same ?_ ?_ h6⟩
                · show (meas r').1 ≠ 0; omega
                · show p + b ≤ p + k; omega
          · rcases m2 (by omega) with h5 | ⟨h5, h6⟩
            · rw [if_neg (by rw [h5]; decide), h5] at hs
              exact .inl ⟨_, hs, by omega⟩
            · rw [h5, if_pos rfl] at hs
              simp only [List.take_take, Nat.min_self] at hs
              rw [List.drop_eq_nil_of_le (by rw [List.length_take]; omega), scan_nil] at hs
              cases hrest : scanR (r'.drop (meas r').2.1) (p + b + (meas r').2.1) with
              | error x => rw [hrest] at hso; cases hso
              | ok us' =>
                rw [hrest] at hso
                obtain rfl := Res.ok.inj hso
                exact .inr ⟨_, hs, .part (pt_cut h6 (by omega)) (by show p + b ≤ p + k; omega) ⟨_, rfl, rfl, by show p + b + (k - b) ≤ p + k; omega⟩⟩
        · rw [if_neg hm] at hso
          cases hso
/-- What a model's text gives when it is cut. -/
theorem cut_text {D : Nat} (hD : 1 ≤ D) {l : List UInt8} {m : MdlO} (h : parseM D l = .ok m) {k : Nat} (hk : k ≤ l.length) : (∃ c q, parseM D (l.take k) = .er c q ∧ (c = 20 ∨ c = 33) ∧ q ≤ k) ∨ ∃ x, parseM D (l.take k) = .ok x ∧ leV x.vec m.vec := by
  cases hu : toks l with
  | error x => rw [parseM, hu] at h; cases h
  | ok us =>
    rcases scan_cut _ l 0 k us (Nat.le_refl _) hk hu with ⟨q, h1, h2⟩ | ⟨vs, h1, h2⟩
    · refine .inl ⟨20, q, ?_, .inl rfl, by omega⟩
      rw [parseM, show toks (l.take k) = _ from h1]
    · rw [Nat.zero_add] at h2
      exact parse_cut hD h hu h1 h2
end
end Go.Proofs.YtddeplbgihcdkaaGreatDoor
