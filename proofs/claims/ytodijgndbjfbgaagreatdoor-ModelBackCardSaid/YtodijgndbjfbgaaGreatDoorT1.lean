/-
  What a text's model is like: well made, told in no more than five times the text. Plain lists, nothing of the program.
-/
import Derived.Test.YtodijgndbjfbgaaGreatDoorMB
import Derived.Test.YtodijgndbjfbgaaGreatDoorMA
namespace Go.Proofs.YtodijgndbjfbgaaGreatDoor
/-- Tokens of a kind. -/
def TQ (Q : Tok → Prop) (us : List Tok) : Prop := ∀ t ∈ us, Q t
theorem tq_tail {Q : Tok → Prop} {us : List Tok} (h : TQ Q us) : TQ Q us.tail := fun t ht => h t (List.mem_of_mem_tail ht)
def PQx (Q : Tok → Prop) (F : List Tok → PR) : Prop := ∀ us e r, TQ Q us → F us = .ok e r → TQ Q r
structure PQ4 (Q : Tok → Prop) (d : Dp) : Prop where
  c : PQx Q d.c
  i : PQx Q d.i
  n : PQx Q d.n
  m : PQx Q d.m
section
variable {Q : Tok → Prop}
theorem tq_atom {d : Dp} (h : PQ4 Q d) : PQx Q (atomX d) := by
  intro us e r hb he
  unfold atomX at he
  split at he
  · obtain ⟨b, r', h1, _, rfl, rfl⟩ := enc_ok_iff he
    exact tq_tail (h.c _ _ _ (tq_tail hb) h1)
  · split at he
    · injection he with h1 h2
      subst h1 h2
      exact tq_tail hb
    · split at he
      · injection he with h1 h2
        subst h1 h2
        exact tq_tail hb
      · cases he
theorem tq_minus {d : Dp} (h : PQ4 Q d) : PQx Q (minusX d) := by
  intro us e r hb he
  unfold minusX at he
  split at he
  · obtain ⟨b, h1, rfl⟩ := pre_ok_iff he
    exact h.m _ _ _ (tq_tail hb) h1
  · exact tq_atom h us e r hb he
theorem tq_chainF {k : Nat} {F : List Tok → PR} (hF : PQx Q F) : ∀ (f : Nat) (e : Ex) (us : List Tok) (x : Ex) (r : List Tok), TQ Q us → chainF k F f e us = .ok x r → TQ Q r
  | 0, e, us, x, r, h1, h => by
    injection h with h h'
    subst h h'
    exact h1
  | f + 1, e, us, x, r, h1, h => by
    rw [chainF] at h
    split at h
    · split at h
      · cases h
      · rename_i e' r' hj
        obtain ⟨b, h3, rfl⟩ := join_ok_iff hj
        exact tq_chainF hF f _ r' x r (hF _ _ _ (tq_tail h1) h3) h
    · injection h with h h'
      subst h h'
      exact h1
theorem tq_chain {k : Nat} {F : List Tok → PR} (hF : PQx Q F) : PQx Q (chainX k F) := by
  intro us x r hb h
  unfold chainX at h
  cases h1 : F us with
  | er c p => rw [h1] at h; cases h
  | ok e r' =>
    rw [h1] at h
    exact tq_chainF hF _ _ _ _ _ (hF _ _ _ hb h1) h
theorem tq_comp {d : Dp} (hF : PQx Q (sumX d)) : PQx Q (compX d) := by
  intro us x r hb h
  unfold compX at h
  cases h1 : sumX d us with
  | er c p => rw [h1] at h; cases h
  | ok a r1 =>
    rw [h1] at h
    have h4 := hF _ _ _ hb h1
    simp only [compG] at h
    split at h
    · obtain ⟨b, h5, rfl⟩ := join_ok_iff h
      exact hF _ _ _ (tq_tail h4) h5
    · injection h with h h'
      subst h h'
      exact h4
theorem tq_neg {d : Dp} (h4 : PQ4 Q d) (hF : PQx Q (compX d)) : PQx Q (negX d) := by
  intro us e r hb he
  unfold negX at he
  split at he
  · obtain ⟨b, h1, rfl⟩ := pre_ok_iff he
    exact h4.n _ _ _ (tq_tail hb) h1
  · exact hF us e r hb he
theorem tq_impl {d : Dp} (h4 : PQ4 Q d) (hF : PQx Q (disjX d)) : PQx Q (implX d) := by
  intro us x r hb h
  unfold implX at h
  cases h1 : disjX d us with
  | er c p => rw [h1] at h; cases h
  | ok a r1 =>
    rw [h1] at h
    have h5 := hF _ _ _ hb h1
    simp only [implG] at h
    split at h
    · obtain ⟨b, h6, rfl⟩ := join_ok_iff h
      exact h4.i _ _ _ (tq_tail h5) h6
    · injection h with h h'
      subst h h'
      exact h5
theorem tq_cond {d : Dp} (h4 : PQ4 Q d) (hF : PQx Q (implX d)) : PQx Q (condX d) := by
  intro us x r hb h
  obtain ⟨a, r1, h1, h2⟩ := cond_ok_iff h
  have h5 := hF _ _ _ hb h1
  rcases h2 with ⟨_, rfl, rfl⟩ | ⟨_, b, r2, h6, _, c, h7, rfl⟩
  · exact h5
  · exact h4.c _ _ _ (tq_tail (h4.c _ _ _ (tq_tail h5) h6)) h7
theorem tq_dp : ∀ l, PQ4 Q (dp l)
  | 0 => ⟨(fun _ _ _ _ h => nomatch h), (fun _ _ _ _ h => nomatch h), (fun _ _ _ _ h => nomatch h), (fun _ _ _ _ h => nomatch h)⟩
  | l + 1 => by
    have h := tq_dp l
    have m := tq_minus h
    have p : PQx Q (prodX (dp l)) := tq_chain m
    have s : PQx Q (sumX (dp l)) := tq_chain p
    have n := tq_neg h (tq_comp s)
    have a : PQx Q (conjX (dp l)) := tq_chain n
    have o : PQx Q (disjX (dp l)) := tq_chain a
    have i := tq_impl h o
    exact ⟨tq_cond h i, i, n, m⟩
end
def labM (l : List UInt8) : Prop := 0 < l.length ∧ l.length ≤ 32 ∧ ∀ x ∈ l, labelB x = true
def LbT (t : Tok) : Prop := t.kind = 3 → labM t.text
/-- Fine, and its labels are labels. -/
def FL : St → Prop
  | .good us => Fine us ∧ TQ LbT us
  | .bad _ _ => True
theorem FL.fine {st : St} (h : FL st) : st.Fine := by
  cases st with
  | good us => exact h.1
  | bad c p => trivial
theorem fl_fail (c : Nat) (st : St) : FL (st.fail c) := by cases st <;> trivial
theorem fl_tl {st : St} (h : FL st) (h0 : st.hd.kind ≠ 0) : FL st.tl := by
  obtain ⟨us, rfl, hu⟩ := hd_bad h0
  exact ⟨(Go.Proofs.YtodijgndbjfbgaaGreatDoor.Fine.more h.1 h0).1, tq_tail h.2⟩
theorem fl_want (x : List UInt8) {st : St} (h : FL st) : FL (st.want x) := by
  unfold St.want
  split
  · next g => exact fl_tl h (isT_kind g)
  · exact fl_fail _ _
theorem fl_name {st : St} (h : FL st) : FL st.name.2 := by
  unfold St.name
  split
  · next g => exact fl_tl h (by rw [(nm_kind g).1]; decide)
  · exact fl_fail _ _
theorem fl_text {st : St} (h : FL st) : FL st.text.2 := by
  unfold St.text
  split
  · next g => exact fl_tl h (by rw [g]; decide)
  · exact fl_fail _ _
theorem fl_expr (D : Nat) {st : St} (h : FL st) : FL (st.expr D).2 := by
  cases st with
  | bad c p => trivial
  | good us =>
    have e : (St.good us).expr D = exprP ((dp D).c us) := rfl
    rw [e]
    cases hc : (dp D).c us with
    | er c p => trivial
    | ok x r => exact ⟨((shr_dp D).c us x r hc).2 h.1, (tq_dp D).c us x r h.2 hc⟩
theorem fl_mean (D : Nat) {st : St} (h : FL st) : FL (st.mean D).2 := fl_want _ (fl_expr D (fl_want _ h))
theorem fl_defn (D : Nat) {st : St} (h : FL st) : FL (st.defn D).2 := fl_mean D (fl_name h)
theorem fl_labl (D : Nat) {st : St} (h : FL st) : FL (st.labl D).2 := fl_mean D (fl_text h)
theorem fl_bnds (D : Nat) {st : St} (h : FL st) : FL (st.bnds D).2 := fl_want _ (fl_expr D (fl_want _ (fl_expr D (fl_want _ h))))
theorem fl_vals (D : Nat) {st : St} (h : FL st) : FL (st.vals D).2 := by
  unfold St.vals
  split
  · next g => exact fl_tl h (isT_kind g)
  · exact fl_bnds D h
theorem fl_init (D : Nat) {st : St} (h : FL st) : FL (st.init D).2 := by
  unfold St.init
  split
  · next g => exact fl_expr D (fl_tl h (isT_kind g))
  · exact h
theorem fl_vrbl (D : Nat) {st : St} (h : FL st) : FL (st.vrbl D).2 := fl_want _ (fl_init D (fl_vals D (fl_want _ (fl_name h))))
theorem fl_list {α : Type} {p : Tok → Bool} {rd : St → α × St} (hd : Dec p rd) (hr : ∀ st, FL st → p st.hd = true → FL (rd st).2) : ∀ (n : Nat) (st : St), st.len ≤ n → FL st → FL (st.list p rd).2 := by
  intro n
  induction n with
  | zero =>
    intro st hn h
    cases hb : p st.hd with
    | false => rw [list_end hb]; exact h
    | true => have := (hd st hb).1; omega
  | succ n ih =>
    intro st hn h
    cases hb : p st.hd with
    | false => rw [list_end hb]; exact h
    | true =>
      rw [list_go hd hb]
      exact ih _ (by have := (hd st hb).1; omega) (hr st h hb)
theorem fl_sett (D : Nat) {st : St} (h : FL st) : FL (st.sett D).2 := fl_want _ (fl_expr D (fl_want _ (fl_want _ (fl_name (fl_want _ h)))))
theorem fl_setl (D : Nat) {st : St} (h : FL st) : FL (st.list (fun t => isT t [38]) (fun s => s.tl.sett D)).2 := fl_list (dec_sett D) (fun _ h g => fl_sett D (fl_tl h (isT_kind g))) _ st (Nat.le_refl _) h
theorem fl_wght {st : St} (h : FL st) : FL st.wght.2 := by
  unfold St.wght
  split
  · next g =>
    dsimp only
    split
    · trivial
    · exact fl_want _ (fl_tl h (by rw [g]; decide))
  · exact h
theorem fl_sets (D : Nat) {st : St} (h : FL st) : FL (st.sets D).2 := by
  unfold St.sets
  split
  · next g => exact fl_tl h (isT_kind g)
  · exact fl_setl D (fl_sett D h)
theorem fl_brch (D : Nat) {st : St} (h : FL st) : FL (st.brch D).2 := fl_sets D (fl_wght h)
theorem fl_brl (D : Nat) {st : St} (h : FL st) : FL (st.list (fun t => isT t [43]) (fun s => s.tl.brch D)).2 := fl_list (dec_brch D) (fun _ h g => fl_brch D (fl_tl h (isT_kind g))) _ st (Nat.le_refl _) h
theorem fl_actn {st : St} (h : FL st) : FL st.actn.2 := by
  unfold St.actn
  split
  · exact h
  · exact fl_name h
theorem fl_guard (D : Nat) {st : St} (h : FL st) : FL (st.guard D).2 := fl_expr D (fl_want _ (fl_actn (fl_want _ h)))
theorem fl_brchs (D : Nat) {st : St} (h : FL st) : FL (st.brchs D).2 := fl_brl D (fl_brch D h)
theorem fl_cmnd (D : Nat) {st : St} (h : FL st) : FL (st.cmnd D).2 := fl_want _ (fl_brchs D (fl_want _ (fl_guard D h)))
theorem fl_vrl (D : Nat) {st : St} (h : FL st) : FL (st.list isNm (St.vrbl D)).2 := fl_list (dec_vrbl D) (fun _ h _ => fl_vrbl D h) _ st (Nat.le_refl _) h
theorem fl_cml (D : Nat) {st : St} (h : FL st) : FL (st.list (fun t => isT t [91]) (St.cmnd D)).2 := fl_list (dec_cmnd D) (fun _ h _ => fl_cmnd D h) _ st (Nat.le_refl _) h
theorem fl_vrbls (D : Nat) {st : St} (h : FL st) : FL (st.vrbls D).2 := fl_vrl D (fl_name h)
theorem fl_cmnds (D : Nat) {st : St} (h : FL st) : FL (st.cmnds D).2 := fl_cml D (fl_vrbls D h)
theorem fl_modl (D : Nat) {st : St} (h : FL st) : FL (st.modl D).2 := fl_want _ (fl_cmnds D h)

/-- A name that is no word; an expression of so many levels; a definition .. a model, well made. -/
def nmW (l : List UInt8) : Prop := nameL l ∧ isWd l = false
def OkO (D : Nat) (x : Option Ex) : Prop := ∃ e, x = some e ∧ Ok e ∧ 1 + nd e ≤ D
def OkD (D : Nat) (d : DefO) : Prop := nmW d.nm ∧ OkO D d.x
def OkLb (D : Nat) (d : DefO) : Prop := labM d.nm ∧ OkO D d.x
structure OkV (D : Nat) (v : VarO) : Prop where
  nm : nmW v.nm
  vl : (v.isB = true ∧ v.low = none ∧ v.high = none) ∨ (v.isB = false ∧ OkO D v.low ∧ OkO D v.high)
  ini : (v.has = true ∧ OkO D v.ini) ∨ (v.has = false ∧ v.ini = none)
structure OkB (D : Nat) (b : BrO) : Prop where
  wt : 0 < b.wt ∧ b.wt < 9223372036854775808
  ss : ∀ s ∈ b.sets, OkD D s
structure OkC (D : Nat) (c : CmdO) : Prop where
  ac : c.act = [] ∨ nmW c.act
  gd : OkO D c.guard
  ne : c.brs ≠ []
  bs : ∀ b ∈ c.brs, OkB D b
structure OkMo (D : Nat) (m : ModO) : Prop where
  nm : nmW m.nm
  vs : ∀ v ∈ m.vars, OkV D v
  cs : ∀ c ∈ m.cmds, OkC D c
structure OkM (D : Nat) (m : MdlO) : Prop where
  cs : ∀ d ∈ m.consts, OkD D d
  fs : ∀ d ∈ m.formulas, OkD D d
  ls : ∀ d ∈ m.labels, OkLb D d
  ms : ∀ d ∈ m.mods, OkMo D d

theorem no_fail {c : Nat} {st : St} {r : List Tok} (h : st.fail c = .good r) : False := by cases st <;> cases h
theorem tl_sum {st : St} {r : List Tok} (h0 : st.hd.kind ≠ 0) (h : st.tl = .good r) : ∃ us, st = .good us ∧ sumT us = st.hd.text.length + sumT r := by
  obtain ⟨us, rfl, hu⟩ := hd_bad h0
  injection h with h
  exact ⟨us, rfl, by rw [sumT_hd hu, h]; rfl⟩
theorem want_m {x : List UInt8} {st : St} {r : List Tok} (h : st.want x = .good r) : ∃ us, st = .good us ∧ sumT us = x.length + sumT r := by
  unfold St.want at h
  split at h
  · next g =>
    obtain ⟨us, h1, h2⟩ := tl_sum (isT_kind g) h
    exact ⟨us, h1, by rw [h2, isT_text g]⟩
  · exact (no_fail h).elim
theorem nm_len {l : List UInt8} (h : nameL l) : 1 ≤ l.length := by
  obtain ⟨⟨c, r, rfl, _⟩, _⟩ := h
  simp
theorem name_m {st : St} {r : List Tok} (hF : FL st) (h : st.name.2 = .good r) : ∃ us, st = .good us ∧ nmW st.name.1.1 ∧ sumT us = st.name.1.1.length + sumT r := by
  unfold St.name at h ⊢
  split at h
  · next g =>
    rw [if_pos g]
    have hk := nm_kind g
    obtain ⟨us, rfl, h2⟩ := tl_sum (by rw [hk.1]; decide) h
    obtain ⟨c, s, h3, h4, h5⟩ := Go.Proofs.YtodijgndbjfbgaaGreatDoor.Fine.name hF.1 hk.1
    exact ⟨us, rfl, ⟨⟨⟨c, s, h3, h4⟩, h5⟩, hk.2⟩, h2⟩
  · exact (no_fail h).elim
theorem text_m {st : St} {r : List Tok} (hF : FL st) (h : st.text.2 = .good r) : ∃ us, st = .good us ∧ labM st.text.1.1 ∧ sumT us = st.text.1.1.length + sumT r := by
  unfold St.text at h ⊢
  split at h
  · next g =>
    rw [if_pos g]
    have h0 : st.hd.kind ≠ 0 := by rw [g]; decide
    obtain ⟨us, rfl, h2⟩ := tl_sum h0 h
    have hu : us ≠ [] := by rintro rfl; exact h0 rfl
    refine ⟨us, rfl, hF.2 (St.good us).hd ?_ g, h2⟩
    cases us with
    | nil => exact absurd rfl hu
    | cons t s => exact List.mem_cons_self
  · exact (no_fail h).elim
theorem expr_m {D : Nat} {st : St} {r : List Tok} (hF : FL st) (h : (st.expr D).2 = .good r) : ∃ us, st = .good us ∧ OkO D (st.expr D).1 ∧ (shO (st.expr D).1).length + 2 + 5 * sumT r ≤ 5 * sumT us := by
  cases st with
  | bad c p => cases h
  | good us =>
    have e : (St.good us).expr D = exprP ((dp D).c us) := rfl
    rw [e] at h ⊢
    cases hc : (dp D).c us with
    | er c p => rw [hc] at h; cases h
    | ok x r' =>
      rw [hc] at h
      injection h with h
      subst h
      have h1 := (rd_dp D).c us x r' hF.1 hc
      exact ⟨us, rfl, ⟨x, rfl, h1.1, by have := h1.2; omega⟩, (sz_dp D).c us x r' hF.1 hc⟩
theorem mean_m {D : Nat} {st : St} {r : List Tok} (hF : FL st) (h : (st.mean D).2 = .good r) : ∃ us, st = .good us ∧ OkO D (st.mean D).1 ∧ (shO (st.mean D).1).length + 12 + 5 * sumT r ≤ 5 * sumT us := by
  obtain ⟨u1, h1, s1⟩ := want_m (st := ((st.want [61]).expr D).2) h
  obtain ⟨u2, h2, o2, s2⟩ := expr_m (fl_want _ hF) h1
  obtain ⟨u3, h3, s3⟩ := want_m h2
  refine ⟨u3, h3, o2, ?_⟩
  have : (st.mean D).1 = ((st.want [61]).expr D).1 := rfl
  rw [this]
  simp only [List.length_cons, List.length_nil] at s1 s3
  omega
theorem defn_m {D : Nat} {st : St} {r : List Tok} (hF : FL st) (h : (st.defn D).2 = .good r) : ∃ us, st = .good us ∧ OkD D (st.defn D).1 ∧ (st.defn D).1.nm.length + (shO (st.defn D).1.x).length + 16 + 5 * sumT r ≤ 5 * sumT us := by
  obtain ⟨u1, h1, o1, s1⟩ := mean_m (fl_name hF) h
  obtain ⟨u2, h2, o2, s2⟩ := name_m hF h1
  refine ⟨u2, h2, ⟨o2, o1⟩, ?_⟩
  have e1 : (st.defn D).1.nm = st.name.1.1 := rfl
  have e2 : (st.defn D).1.x = (st.name.2.mean D).1 := rfl
  have := nm_len o2.1
  rw [e1, e2]
  omega
theorem labl_m {D : Nat} {st : St} {r : List Tok} (hF : FL st) (h : (st.labl D).2 = .good r) : ∃ us, st = .good us ∧ OkLb D (st.labl D).1 ∧ (st.labl D).1.nm.length + (shO (st.labl D).1.x).length + 16 + 5 * sumT r ≤ 5 * sumT us := by
  obtain ⟨u1, h1, o1, s1⟩ := mean_m (fl_text hF) h
  obtain ⟨u2, h2, o2, s2⟩ := text_m hF h1
  refine ⟨u2, h2, ⟨o2, o1⟩, ?_⟩
  have e1 : (st.labl D).1.nm = st.text.1.1 := rfl
  have e2 : (st.labl D).1.x = (st.text.2.mean D).1 := rfl
  have := o2.1
  rw [e1, e2]
  omega
theorem bnds_m {D : Nat} {st : St} {r : List Tok} (hF : FL st) (h : (st.bnds D).2 = .good r) : ∃ us, st = .good us ∧ (OkO D (st.bnds D).1.1 ∧ OkO D (st.bnds D).1.2) ∧ (shO (st.bnds D).1.1).length + (shO (st.bnds D).1.2).length + 24 + 5 * sumT r ≤ 5 * sumT us := by
  obtain ⟨u1, h1, s1⟩ := want_m (st := (st.high D).2) h
  have hF1 : FL (st.low D).2 := fl_expr D (fl_want _ hF)
  obtain ⟨u2, h2, o2, s2⟩ := expr_m (st := (st.low D).2.want [46, 46]) (fl_want _ hF1) h1
  obtain ⟨u3, h3, s3⟩ := want_m h2
  obtain ⟨u4, h4, o4, s4⟩ := expr_m (st := st.want [91]) (fl_want _ hF) h3
  obtain ⟨u5, h5, s5⟩ := want_m h4
  refine ⟨u5, h5, ⟨o4, o2⟩, ?_⟩
  have e1 : (st.bnds D).1.1 = ((st.want [91]).expr D).1 := rfl
  have e2 : (st.bnds D).1.2 = (((st.low D).2.want [46, 46]).expr D).1 := rfl
  rw [e1, e2]
  simp only [List.length_cons, List.length_nil] at s1 s3 s5
  omega
/-- How long what a variable may be is told. -/
theorem vals_m {D : Nat} {st : St} {r : List Tok} (hF : FL st) (h : (st.vals D).2 = .good r) : ∃ us, st = .good us ∧ (((st.vals D).1.1 = true ∧ (st.vals D).1.2.1 = none ∧ (st.vals D).1.2.2 = none) ∨ ((st.vals D).1.1 = false ∧ OkO D (st.vals D).1.2.1 ∧ OkO D (st.vals D).1.2.2)) ∧ (shO (st.vals D).1.2.1).length + (shO (st.vals D).1.2.2).length + 4 + 5 * sumT r ≤ 5 * sumT us := by
  unfold St.vals at h ⊢
  split at h
  · next g =>
    rw [if_pos g]
    obtain ⟨us, h1, h2⟩ := tl_sum (isT_kind g) h
    rw [isT_text g] at h2
    have : wBool.length = 4 := rfl
    exact ⟨us, h1, .inl ⟨rfl, rfl, rfl⟩, by simp only [shO, List.length_nil]; omega⟩
  · next g =>
    rw [if_neg g]
    obtain ⟨us, h1, h2, h3⟩ := bnds_m hF h
    exact ⟨us, h1, .inr ⟨rfl, h2.1, h2.2⟩, by dsimp only; omega⟩
theorem init_m {D : Nat} {st : St} {r : List Tok} (hF : FL st) (h : (st.init D).2 = .good r) : ∃ us, st = .good us ∧ (((st.init D).1.2 = true ∧ OkO D (st.init D).1.1) ∨ ((st.init D).1.2 = false ∧ (st.init D).1.1 = none)) ∧ (if (st.init D).1.2 then 6 else 0) + (shO (st.init D).1.1).length + 5 * sumT r ≤ 5 * sumT us := by
  unfold St.init at h ⊢
  split at h
  · next g =>
    rw [if_pos g]
    obtain ⟨u1, h1, o1, s1⟩ := expr_m (fl_tl hF (isT_kind g)) h
    obtain ⟨us, h2, s2⟩ := tl_sum (isT_kind g) h1
    rw [isT_text g] at s2
    have : wInit.length = 4 := rfl
    refine ⟨us, h2, .inl ⟨rfl, o1⟩, ?_⟩
    dsimp only
    rw [if_pos rfl]
    omega
  · next g =>
    rw [if_neg g]
    exact ⟨r, h, .inr ⟨rfl, rfl⟩, by simp [shO]⟩
theorem tlVar_len (v : VarO) : (tlVar v).length ≤ v.nm.length + (shO v.low).length + (shO v.high).length + (shO v.ini).length + (if v.has then 6 else 0) + 11 := by
  unfold tlVar tlVal
  have e1 : wBool.length = 4 := rfl
  have e2 : wInit.length = 4 := rfl
  by_cases h1 : v.isB = true <;> by_cases h2 : v.has = true
  · simp only [if_pos h1, if_pos h2, List.length_append, List.length_cons, List.length_nil]; omega
  · simp only [if_pos h1, if_neg h2, List.length_append, List.length_cons, List.length_nil]; omega
  · simp only [if_neg h1, if_pos h2, List.length_append, List.length_cons, List.length_nil]; omega
  · simp only [if_neg h1, if_neg h2, List.length_append, List.length_cons, List.length_nil]; omega
theorem vrbl_m {D : Nat} {st : St} {r : List Tok} (hF : FL st) (h : (st.vrbl D).2 = .good r) : ∃ us, st = .good us ∧ OkV D (st.vrbl D).1 ∧ (tlVar (st.vrbl D).1).length + 5 * sumT r ≤ 5 * sumT us := by
  obtain ⟨u1, h1, s1⟩ := want_m (st := (((st.name.2.want [58]).vals D).2.init D).2) h
  have hF1 := fl_want [58] (fl_name hF)
  obtain ⟨u2, h2, o2, s2⟩ := init_m (fl_vals D hF1) h1
  obtain ⟨u3, h3, o3, s3⟩ := vals_m hF1 h2
  obtain ⟨u4, h4, s4⟩ := want_m h3
  obtain ⟨u5, h5, o5, s5⟩ := name_m hF h4
  refine ⟨u5, h5, ⟨o5, o3, o2⟩, ?_⟩
  have hl := tlVar_len (st.vrbl D).1
  have e1 : (st.vrbl D).1.nm = st.name.1.1 := rfl
  have e2 : (st.vrbl D).1.low = ((st.name.2.want [58]).vals D).1.2.1 := rfl
  have e3 : (st.vrbl D).1.high = ((st.name.2.want [58]).vals D).1.2.2 := rfl
  have e4 : (st.vrbl D).1.ini = (((st.name.2.want [58]).vals D).2.init D).1.1 := rfl
  have e5 : (st.vrbl D).1.has = (((st.name.2.want [58]).vals D).2.init D).1.2 := rfl
  rw [e1, e2, e3, e4, e5] at hl
  have := nm_len o5.1
  simp only [List.length_cons, List.length_nil] at s1 s4
  omega
/-- A list that was read to its end. -/
theorem list_m {α : Type} {p : Tok → Bool} {rd : St → α × St} {P : α → Prop} {ln : α → Nat} (hd : Dec p rd) (hr : ∀ st, FL st → p st.hd = true → FL (rd st).2 ∧ ∀ r, (rd st).2 = .good r → ∃ us, st = .good us ∧ P (rd st).1 ∧ ln (rd st).1 + 5 * sumT r ≤ 5 * sumT us) :
    ∀ (n : Nat) (st : St) (r : List Tok), st.len ≤ n → FL st → (st.list p rd).2 = .good r → ∃ us, st = .good us ∧ (∀ a ∈ (st.list p rd).1, P a) ∧ ((st.list p rd).1.map ln).sum + 5 * sumT r ≤ 5 * sumT us := by
  intro n
  induction n with
  | zero =>
    intro st r hn hF h
    cases hp : p st.hd with
    | false =>
      rw [list_end hp] at h ⊢
      exact ⟨r, h, fun a ha => absurd ha (by simp), by simp⟩
    | true => have := (hd st hp).1; omega
  | succ n ih =>
    intro st r hn hF h
    cases hp : p st.hd with
    | false =>
      rw [list_end hp] at h ⊢
      exact ⟨r, h, fun a ha => absurd ha (by simp), by simp⟩
    | true =>
      rw [list_go hd hp] at h ⊢
      obtain ⟨f1, k1⟩ := hr st hF hp
      obtain ⟨u1, h1, q1, s1⟩ := ih _ r (by have := (hd st hp).1; omega) f1 h
      obtain ⟨us, h2, q2, s2⟩ := k1 u1 h1
      refine ⟨us, h2, fun a ha => ?_, ?_⟩
      · rcases List.mem_cons.1 ha with rfl | ha
        · exact q2
        · exact q1 a ha
      · rw [List.map_cons, List.sum_cons]
        omega
theorem sett_m {D : Nat} {st : St} {r : List Tok} (hF : FL st) (h : (st.sett D).2 = .good r) : ∃ us, st = .good us ∧ OkD D (st.sett D).1 ∧ (tlSet (st.sett D).1).length + 20 + 5 * sumT r ≤ 5 * sumT us := by
  obtain ⟨u1, h1, s1⟩ := want_m (st := ((((st.want [40]).name.2.want [39]).want [61]).expr D).2) h
  have hF1 := fl_name (fl_want [40] hF)
  obtain ⟨u2, h2, o2, s2⟩ := expr_m (fl_want [61] (fl_want [39] hF1)) h1
  obtain ⟨u3, h3, s3⟩ := want_m h2
  obtain ⟨u4, h4, s4⟩ := want_m h3
  obtain ⟨u5, h5, o5, s5⟩ := name_m (fl_want [40] hF) h4
  obtain ⟨u6, h6, s6⟩ := want_m h5
  refine ⟨u6, h6, ⟨o5, o2⟩, ?_⟩
  have e1 : (st.sett D).1.nm = (st.want [40]).name.1.1 := rfl
  have e2 : (st.sett D).1.x = ((((st.want [40]).name.2.want [39]).want [61]).expr D).1 := rfl
  have := nm_len o5.1
  unfold tlSet
  rw [e1, e2]
  simp only [List.length_append, List.length_cons, List.length_nil] at s1 s3 s4 s6 ⊢
  omega
theorem join_len (b : List UInt8) : ∀ l : List (List UInt8), (joinL b l).length ≤ (l.map fun x => x.length + b.length).sum
  | [] => Nat.zero_le _
  | [x] => by simp [joinL]
  | x :: y :: r => by
    have ih := join_len b (y :: r)
    rw [joinL, List.length_append, List.length_append, List.map_cons, List.sum_cons]
    omega
theorem sum_map_le {α : Type} {f g : α → Nat} (h : ∀ a, f a ≤ g a) : ∀ l : List α, (l.map f).sum ≤ (l.map g).sum
  | [] => Nat.le_refl _
  | a :: l => by
    have h1 := sum_map_le h l
    have h2 := h a
    simp only [List.map_cons, List.sum_cons]
    omega
def tlSets (l : List DefO) : List UInt8 := if l = [] then opTrue else joinL [32, 38, 32] (l.map tlSet)
theorem tlSets_cons {d : DefO} {l : List DefO} : (tlSets (d :: l)).length ≤ (tlSet d).length + 3 + (l.map fun d => (tlSet d).length + 3).sum := by
  unfold tlSets
  rw [if_neg (by simp)]
  have := join_len [32, 38, 32] ((d :: l).map tlSet)
  rw [List.map_map] at this
  simp only [List.map_cons, List.sum_cons] at this ⊢
  exact this
theorem sets_m {D : Nat} {st : St} {r : List Tok} (hF : FL st) (h : (st.sets D).2 = .good r) : ∃ us, st = .good us ∧ (∀ s ∈ (st.sets D).1, OkD D s) ∧ (tlSets (st.sets D).1).length + 10 + 5 * sumT r ≤ 5 * sumT us := by
  unfold St.sets at h ⊢
  split at h
  · next g =>
    rw [if_pos g]
    obtain ⟨us, h1, h2⟩ := tl_sum (isT_kind g) h
    rw [isT_text g] at h2
    have : opTrue.length = 4 := rfl
    exact ⟨us, h1, fun s hs => absurd hs (by simp), by simp only [tlSets, if_pos]; omega⟩
  · next g =>
    rw [if_neg g]
    obtain ⟨u1, h1, q1, s1⟩ := list_m (P := OkD D) (ln := fun d => (tlSet d).length + 3) (dec_sett D) (fun st hF hp => ⟨fl_sett D (fl_tl hF (isT_kind hp)), fun r hr => by
      obtain ⟨u, e1, e2, e3⟩ := sett_m (fl_tl hF (isT_kind hp)) hr
      obtain ⟨us, e4, e5⟩ := tl_sum (isT_kind hp) e1
      exact ⟨us, e4, e2, by omega⟩⟩) _ _ _ (Nat.le_refl _) (fl_sett D hF) h
    obtain ⟨us, h2, q2, s2⟩ := sett_m hF h1
    refine ⟨us, h2, fun s hs => ?_, ?_⟩
    · rcases List.mem_cons.1 hs with rfl | hs
      · exact q2
      · exact q1 s hs
    · dsimp only
      have := tlSets_cons (d := (st.sett D).1) (l := ((st.sett D).2.list (fun t => isT t [38]) (fun s => s.tl.sett D)).1)
      omega
theorem wght_m {st : St} {r : List Tok} (hF : FL st) (h : st.wght.2 = .good r) : ∃ us, st = .good us ∧ (0 < st.wght.1 ∧ st.wght.1 < 9223372036854775808) ∧ (dgs st.wght.1).length + 5 * sumT r ≤ 5 * sumT us + 1 := by
  unfold St.wght at h ⊢
  split at h
  · next g =>
    rw [if_pos g]
    dsimp only at h ⊢
    split at h
    · cases h
    · next hv =>
      obtain ⟨u1, h1, s1⟩ := want_m h
      have h0 : st.hd.kind ≠ 0 := by rw [g]; decide
      obtain ⟨us, rfl, s2⟩ := tl_sum h0 h1
      obtain ⟨n1, n2, n3⟩ := Go.Proofs.YtodijgndbjfbgaaGreatDoor.Fine.numb hF.1 g
      have := dgs_val n1 n2
      have e : (St.good us).hd.text = (hd us).text := rfl
      rw [e] at s2 hv ⊢
      exact ⟨us, rfl, ⟨by omega, n3⟩, by omega⟩
  · next g =>
    rw [if_neg g]
    exact ⟨r, h, ⟨Nat.one_pos, by show (1 : Nat) < _; omega⟩, by have : (dgs 1).length = 1 := by decide +kernel
                                                                 dsimp only; omega⟩
theorem brch_m {D : Nat} {st : St} {r : List Tok} (hF : FL st) (h : (st.brch D).2 = .good r) : ∃ us, st = .good us ∧ OkB D (st.brch D).1 ∧ (tlBr (st.brch D).1).length + 5 + 5 * sumT r ≤ 5 * sumT us := by
  obtain ⟨u1, h1, q1, s1⟩ := sets_m (fl_wght hF) h
  obtain ⟨u2, h2, q2, s2⟩ := wght_m hF h1
  refine ⟨u2, h2, ⟨q2, q1⟩, ?_⟩
  have e : tlBr (st.brch D).1 = dgs st.wght.1 ++ ([32, 58, 32] ++ tlSets (st.wght.2.sets D).1) := rfl
  rw [e]
  simp only [List.length_append, List.length_cons, List.length_nil]
  omega
theorem tlBrs_cons {b : BrO} {l : List BrO} : (joinL [32, 43, 32] ((b :: l).map tlBr)).length ≤ (tlBr b).length + 3 + (l.map fun b => (tlBr b).length + 3).sum := by
  have := join_len [32, 43, 32] ((b :: l).map tlBr)
  rw [List.map_map] at this
  simp only [List.map_cons, List.sum_cons] at this ⊢
  exact this
theorem brchs_m {D : Nat} {st : St} {r : List Tok} (hF : FL st) (h : (st.brchs D).2 = .good r) : ∃ us, st = .good us ∧ ((st.brchs D).1 ≠ [] ∧ ∀ b ∈ (st.brchs D).1, OkB D b) ∧ (joinL [32, 43, 32] ((st.brchs D).1.map tlBr)).length + 5 * sumT r ≤ 5 * sumT us := by
  obtain ⟨u1, h1, q1, s1⟩ := list_m (P := OkB D) (ln := fun b => (tlBr b).length + 3) (dec_brch D) (fun st hF hp => ⟨fl_brch D (fl_tl hF (isT_kind hp)), fun r hr => by
    obtain ⟨u, e1, e2, e3⟩ := brch_m (fl_tl hF (isT_kind hp)) hr
    obtain ⟨us, e4, e5⟩ := tl_sum (isT_kind hp) e1
    exact ⟨us, e4, e2, by omega⟩⟩) _ _ _ (Nat.le_refl _) (fl_brch D hF) h
  obtain ⟨us, h2, q2, s2⟩ := brch_m hF h1
  refine ⟨us, h2, ⟨by unfold St.brchs; simp, fun b hb => ?_⟩, ?_⟩
  · rcases List.mem_cons.1 hb with rfl | hb
    · exact q2
    · exact q1 b hb
  · have e : (st.brchs D).1 = (st.brch D).1 :: ((st.brch D).2.list (fun t => isT t [43]) (fun s => s.tl.brch D)).1 := rfl
    rw [e]
    have := tlBrs_cons (b := (st.brch D).1) (l := ((st.brch D).2.list (fun t => isT t [43]) (fun s => s.tl.brch D)).1)
    omega
theorem actn_m {st : St} {r : List Tok} (hF : FL st) (h : st.actn.2 = .good r) : ∃ us, st = .good us ∧ (st.actn.1 = [] ∨ nmW st.actn.1) ∧ st.actn.1.length + sumT r = sumT us := by
  unfold St.actn at h ⊢
  split at h
  · next g =>
    rw [if_pos g]
    exact ⟨r, h, .inl rfl, by simp⟩
  · next g =>
    rw [if_neg g]
    obtain ⟨us, h1, h2, h3⟩ := name_m hF h
    exact ⟨us, h1, .inr h2, by dsimp only; omega⟩
theorem cmnd_m {D : Nat} {st : St} {r : List Tok} (hF : FL st) (h : (st.cmnd D).2 = .good r) : ∃ us, st = .good us ∧ OkC D (st.cmnd D).1 ∧ (tlCmd (st.cmnd D).1).length + 5 * sumT r ≤ 5 * sumT us := by
  obtain ⟨u1, h1, s1⟩ := want_m (st := (((st.guard D).2.want [45, 62]).brchs D).2) h
  have hF1 := fl_guard D hF
  obtain ⟨u2, h2, q2, s2⟩ := brchs_m (fl_want [45, 62] hF1) h1
  obtain ⟨u3, h3, s3⟩ := want_m h2
  obtain ⟨u4, h4, q4, s4⟩ := expr_m (st := (st.want [91]).actn.2.want [93]) (fl_want _ (fl_actn (fl_want _ hF))) h3
  obtain ⟨u5, h5, s5⟩ := want_m h4
  obtain ⟨u6, h6, q6, s6⟩ := actn_m (fl_want [91] hF) h5
  obtain ⟨u7, h7, s7⟩ := want_m h6
  refine ⟨u7, h7, ⟨q6, q4, q2.1, q2.2⟩, ?_⟩
  have e : tlCmd (st.cmnd D).1 = [32, 32, 91] ++ ((st.want [91]).actn.1 ++ ([93, 32] ++ (shO (((st.want [91]).actn.2.want [93]).expr D).1 ++ ([32, 45, 62, 32] ++ (joinL [32, 43, 32] ((((st.guard D).2.want [45, 62]).brchs D).1.map tlBr) ++ [59, 10]))))) := rfl
  rw [e]
  simp only [List.length_append, List.length_cons, List.length_nil] at s1 s3 s5 s7 ⊢
  omega
theorem flat_len {α : Type} (f : α → List UInt8) : ∀ l : List α, ((l.map f).flatten).length = (l.map fun a => (f a).length).sum
  | [] => rfl
  | a :: l => by simp [flat_len f l]
theorem modl_m {D : Nat} {st : St} {r : List Tok} (hF : FL st) (h : (st.modl D).2 = .good r) : ∃ us, st = .good us ∧ OkMo D (st.modl D).1 ∧ (tlMod (st.modl D).1).length + 5 * sumT r ≤ 5 * sumT us + 30 := by
  obtain ⟨u1, h1, s1⟩ := want_m (st := (st.cmnds D).2) h
  obtain ⟨u2, h2, q2, s2⟩ := list_m (P := OkC D) (ln := fun c => (tlCmd c).length) (dec_cmnd D) (fun st hF _ => ⟨fl_cmnd D hF, fun r hr => cmnd_m hF hr⟩) _ _ _ (Nat.le_refl _) (fl_vrbls D hF) h1
  obtain ⟨u3, h3, q3, s3⟩ := list_m (P := OkV D) (ln := fun v => (tlVar v).length) (dec_vrbl D) (fun st hF _ => ⟨fl_vrbl D hF, fun r hr => vrbl_m hF hr⟩) _ _ _ (Nat.le_refl _) (fl_name hF) h2
  obtain ⟨u4, h4, q4, s4⟩ := name_m hF h3
  refine ⟨u4, h4, ⟨q4, q3, q2⟩, ?_⟩
  have e : tlMod (st.modl D).1 = wModule ++ 32 :: (st.name.1.1 ++ 10 :: (((st.vrbls D).1.map tlVar).flatten ++ (((st.cmnds D).1.map tlCmd).flatten ++ (wEnd ++ [10])))) := rfl
  rw [e]
  have e1 : wModule.length = 6 := rfl
  have e2 : wEnd.length = 9 := rfl
  have e3 := flat_len tlVar (st.vrbls D).1
  have e4 := flat_len tlCmd (st.cmnds D).1
  have e5 : (st.vrbls D).1 = (st.name.2.list isNm (St.vrbl D)).1 := rfl
  have e6 : (st.cmnds D).1 = ((st.vrbls D).2.list (fun t => isT t [91]) (St.cmnd D)).1 := rfl
  have := nm_len q4.1
  rw [← e5] at s3
  rw [← e6] at s2
  simp only [List.length_append, List.length_cons, List.length_nil]
  omega
theorem snoc_mem {α : Type} {P : α → Prop} {l : List α} {a : α} (h : ∀ x ∈ l, P x) (ha : P a) : ∀ x ∈ l ++ [a], P x := fun x hx => by
  rcases List.mem_append.1 hx with h1 | h1
  · exact h x h1
  · rw [List.mem_singleton.1 h1]; exact ha
theorem isT_two {t : Tok} {x y : List UInt8} (h : isT t x = true) (hn : x ≠ y) : isT t y = false := by
  cases hy : isT t y with
  | false => rfl
  | true => exact absurd ((isT_text h).symm.trans (isT_text hy)) hn
theorem mdl_m (D : Nat) : ∀ (n : Nat) (st : St) (m m' : MdlO) (r : List Tok), st.len ≤ n → FL st → OkM D m → st.mdlOn D m = (m', .good r) → OkM D m' ∧ ∃ us, st = .good us ∧ (tlM m').length + 5 * sumT r ≤ (tlM m).length + 5 * sumT us := by
  intro n
  induction n with
  | zero =>
    intro st m m' r hn hF hM h
    have h0 : st.hd.kind = 0 := by
      cases st with
      | bad c p => rfl
      | good us =>
        cases us with
        | nil => rfl
        | cons t s => simp [St.len] at hn
    rw [mdl_end D h0] at h
    injection h with h1 h2
    subst h1 h2
    exact ⟨hM, r, rfl, Nat.le_refl _⟩
  | succ n ih =>
    intro st m m' r hn hF hM h
    by_cases h0 : st.hd.kind = 0
    · rw [mdl_end D h0] at h
      injection h with h1 h2
      subst h1 h2
      exact ⟨hM, r, rfl, Nat.le_refl _⟩
    · have hlt := (tl_le h0).2
      have hft := fl_tl hF h0
      cases g0 : isT st.hd wConst with
      | true =>
        rw [mdl_one0 D m g0] at h
        have hle := (defn_le D st.tl).1
        cases hd : (st.tl.defn D).2 with
        | bad c p => rw [hd, mdl_bad] at h; cases h
        | good u1 =>
          obtain ⟨u2, k1, k2, k3⟩ := defn_m hft hd
          obtain ⟨us, k4, k5⟩ := tl_sum h0 k1
          obtain ⟨i1, u3, i2, i3⟩ := ih _ { m with consts := m.consts ++ [(st.tl.defn D).1] } _ _ (by omega) (fl_defn D hft) ⟨snoc_mem hM.cs k2, hM.fs, hM.ls, hM.ms⟩ h
          rw [hd] at i2
          injection i2 with i2
          subst i2
          refine ⟨i1, us, k4, ?_⟩
          have e : (tlM { m with consts := m.consts ++ [(st.tl.defn D).1] }).length = (tlM m).length + (tlDef wConst (st.tl.defn D).1).length := by
            simp only [tlM, List.map_append, List.map_cons, List.map_nil, List.flatten_append, List.flatten_cons, List.flatten_nil, List.length_append, List.length_cons, List.append_nil]
            omega
          have e2 : (tlDef wConst (st.tl.defn D).1).length = (st.tl.defn D).1.nm.length + (shO (st.tl.defn D).1.x).length + 11 := by
            have : wConst.length = 5 := rfl
            simp only [tlDef, List.length_append, List.length_cons, List.length_nil]
            omega
          rw [isT_text g0] at k5
          have : wConst.length = 5 := rfl
          omega
      | false =>
        cases g1 : isT st.hd wFormula with
        | true =>
          rw [mdl_one1 D m g0 g1] at h
          have hle := (defn_le D st.tl).1
          cases hd : (st.tl.defn D).2 with
          | bad c p => rw [hd, mdl_bad] at h; cases h
          | good u1 =>
            obtain ⟨u2, k1, k2, k3⟩ := defn_m hft hd
            obtain ⟨us, k4, k5⟩ := tl_sum h0 k1
            obtain ⟨i1, u3, i2, i3⟩ := ih _ { m with formulas := m.formulas ++ [(st.tl.defn D).1] } _ _ (by omega) (fl_defn D hft) ⟨hM.cs, snoc_mem hM.fs k2, hM.ls, hM.ms⟩ h
            rw [hd] at i2
            injection i2 with i2
            subst i2
            refine ⟨i1, us, k4, ?_⟩
            have e : (tlM { m with formulas := m.formulas ++ [(st.tl.defn D).1] }).length = (tlM m).length + (tlDef wFormula (st.tl.defn D).1).length := by
              simp only [tlM, List.map_append, List.map_cons, List.map_nil, List.flatten_append, List.flatten_cons, List.flatten_nil, List.length_append, List.length_cons, List.append_nil]
              omega
            have e2 : (tlDef wFormula (st.tl.defn D).1).length = (st.tl.defn D).1.nm.length + (shO (st.tl.defn D).1.x).length + 13 := by
              have : wFormula.length = 7 := rfl
              simp only [tlDef, List.length_append, List.length_cons, List.length_nil]
              omega
            rw [isT_text g1] at k5
            have : wFormula.length = 7 := rfl
            omega
        | false =>
          cases g2 : isT st.hd wLabel with
          | true =>
            rw [mdl_one2 D m g0 g1 g2] at h
            have hle := (labl_le D st.tl).1
            cases hd : (st.tl.labl D).2 with
            | bad c p => rw [hd, mdl_bad] at h; cases h
            | good u1 =>
              obtain ⟨u2, k1, k2, k3⟩ := labl_m hft hd
              obtain ⟨us, k4, k5⟩ := tl_sum h0 k1
              obtain ⟨i1, u3, i2, i3⟩ := ih _ { m with labels := m.labels ++ [(st.tl.labl D).1] } _ _ (by omega) (fl_labl D hft) ⟨hM.cs, hM.fs, snoc_mem hM.ls k2, hM.ms⟩ h
              rw [hd] at i2
              injection i2 with i2
              subst i2
              refine ⟨i1, us, k4, ?_⟩
              have e : (tlM { m with labels := m.labels ++ [(st.tl.labl D).1] }).length = (tlM m).length + (tlLab (st.tl.labl D).1).length := by
                simp only [tlM, List.map_append, List.map_cons, List.map_nil, List.flatten_append, List.flatten_cons, List.flatten_nil, List.length_append, List.length_cons, List.append_nil]
                omega
              have e2 : (tlLab (st.tl.labl D).1).length = (st.tl.labl D).1.nm.length + (shO (st.tl.labl D).1.x).length + 13 := by
                have : wLabel.length = 5 := rfl
                simp only [tlLab, List.length_append, List.length_cons, List.length_nil]
                omega
              rw [isT_text g2] at k5
              have : wLabel.length = 5 := rfl
              omega
          | false =>
            cases g3 : isT st.hd wModule with
            | true =>
              rw [mdl_one3 D m g0 g1 g2 g3] at h
              have hle := (modl_le D st.tl).1
              cases hd : (st.tl.modl D).2 with
              | bad c p => rw [hd, mdl_bad] at h; cases h
              | good u1 =>
                obtain ⟨u2, k1, k2, k3⟩ := modl_m hft hd
                obtain ⟨us, k4, k5⟩ := tl_sum h0 k1
                obtain ⟨i1, u3, i2, i3⟩ := ih _ { m with mods := m.mods ++ [(st.tl.modl D).1] } _ _ (by omega) (fl_modl D hft) ⟨hM.cs, hM.fs, hM.ls, snoc_mem hM.ms k2⟩ h
                rw [hd] at i2
                injection i2 with i2
                subst i2
                refine ⟨i1, us, k4, ?_⟩
                have e : (tlM { m with mods := m.mods ++ [(st.tl.modl D).1] }).length = (tlM m).length + (tlMod (st.tl.modl D).1).length := by
                  simp only [tlM, List.map_append, List.map_cons, List.map_nil, List.flatten_append, List.flatten_cons, List.flatten_nil, List.length_append, List.length_cons, List.append_nil]
                  omega
                rw [isT_text g3] at k5
                have : wModule.length = 6 := rfl
                omega
            | false =>
              obtain ⟨c, p, hb⟩ := mdl_none D m h0 g0 g1 g2 g3
              rw [hb] at h
              cases h
theorem labm_of {r : List UInt8} {n : Nat} (h0 : r ≠ []) (h : meas r = (3, n, 0)) : labM (bareL 3 (r.take n)) := by
  cases r with
  | nil => exact absurd rfl h0
  | cons c s =>
    simp only [meas] at h
    split at h
    · injection h with h _; cases h
    · split at h
      · injection h with h _; cases h
      · split at h
        · next hq =>
          injection h with _ h
          injection h with hn he
          by_cases hz : labN s = 0
          · rw [if_pos hz] at he; cases he
          · have hz' := hz
            unfold labN at hz hn
            split at hz
            · exact absurd rfl hz
            · next hc =>
              rw [if_neg hc] at hn
              subst hn
              have hcl := cnt_le labelB s
              have e : bareL 3 ((c :: s).take (cnt labelB s + 2)) = s.takeWhile labelB := by
                unfold bareL
                rw [if_pos rfl, ← take_cnt]
                have hl2 : cnt labelB s + 1 ≤ s.length := by
                  have := labN_le s
                  unfold labN at this
                  rw [if_neg hc] at this
                  omega
                have e1 : (c :: s).take (cnt labelB s + 2) = c :: s.take (cnt labelB s + 1) := rfl
                rw [e1, List.drop_succ_cons, List.drop_zero, List.length_cons, List.length_take, List.take_take]
                congr 1
                omega
              rw [e]
              have hlen : (s.takeWhile labelB).length = cnt labelB s := rfl
              exact ⟨by omega, by omega, all_while labelB _⟩
        · injection h with h _; cases h
theorem lbm_good {l : List UInt8} : ∀ {ts : List Tok} {i : Nat}, Good l i ts → TQ LbT ts
  | [], _, h => h.elim
  | [t], _, h => fun t' ht' h3 => by
    rw [List.mem_singleton] at ht'
    subst ht'
    have := h.1
    omega
  | t :: u :: us, i, h => fun t' ht' h3 => by
    obtain ⟨_, h2, ⟨n, hm, ht, hg⟩, _⟩ := h
    rcases List.mem_cons.1 ht' with rfl | hr
    · rw [h3] at hm ht
      rw [ht]
      exact labm_of (drop_ne h2) hm
    · exact lbm_good hg t' hr h3
/-- What is read of a text. -/
theorem parse_okM {D : Nat} {l : List UInt8} {m : MdlO} (hl : l.length ≤ 65536) (h : parseM D l = .ok m) : OkM D m ∧ (tlM m).length ≤ 5 * l.length := by
  unfold parseM at h
  cases ht : toks l with
  | error x => rw [ht] at h; cases h
  | ok ts =>
    rw [ht] at h
    simp only at h
    cases hr : St.mdl D (.good ts) with
    | mk m' st =>
      rw [hr] at h
      cases st with
      | bad c p => cases h
      | good r =>
        injection h with h
        subst h
        have hF : FL (.good ts) := ⟨fine_toks hl ht, lbm_good (good_toks ht)⟩
        have hM : OkM D mdl0 := ⟨fun d hd => absurd hd (by simp [mdl0]), fun d hd => absurd hd (by simp [mdl0]), fun d hd => absurd hd (by simp [mdl0]), fun d hd => absurd hd (by simp [mdl0])⟩
        obtain ⟨k1, us, k2, k3⟩ := mdl_m D _ _ mdl0 m' r (Nat.le_refl _) (fl_want wMdp hF) hM hr
        obtain ⟨u2, k4, k5⟩ := want_m k2
        injection k4 with k4
        subst k4
        have h3 := sumT_le (good_toks ht)
        have e : (tlM mdl0).length = 4 := rfl
        have e2 : wMdp.length = 3 := rfl
        exact ⟨k1, by omega⟩
end Go.Proofs.YtodijgndbjfbgaaGreatDoor
