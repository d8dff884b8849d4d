/-
  What is read is well made; the labels of a formula, one behind the other.
-/
import Derived.Test.YtjhicgllofjpoaaGreatDoorJ4
namespace Go.Proofs.YtjhicgllofjpoaaGreatDoor

/-- Well made. -/
def OkF : Fo → Prop
  | .leaf op nm _ => (op = opLab ∧ nm.length ≤ 65536) ∨ ((op = opTrue ∨ op = opFalse) ∧ nm = [])
  | .un op a _ => pk op = 4 ∧ OkF a
  | .bin op a b _ => pk op < 4 ∧ OkF a ∧ OkF b
theorem okf_move (q : Nat) : ∀ {e : Fo}, OkF e → OkF (e.move q)
  | .leaf _ _ _, h => h
  | .un _ _ _, h => h
  | .bin _ _ _ _, h => h
def Rdf (F : St → RF) : Prop := ∀ st, st.Fine → ∀ e, (F st).1 = some e → OkF e
theorem st_len {st : St} (h : st.Fine) : st.hd.text.length ≤ 65536 := by
  cases st with
  | bad c p => simp [St.hd]
  | good us => exact Go.Proofs.YtjhicgllofjpoaaGreatDoor.Fine.len (us := us) h
theorem st_tl {st : St} (h : st.Fine) (h0 : st.hd.kind ≠ 0) : st.tl.Fine := (tl_le h0).1.2 h
theorem rdf_encl {d : Dq} (hf : Rdf d.f) (p : Nat) : Rdf (enclS d p) := by
  intro st hs e h
  unfold enclS at h
  cases ho : (d.f st).1 with
  | none => rw [ho] at h; cases h
  | some a =>
    rw [ho] at h
    injection h with h
    subst h
    exact okf_move p (hf st hs a ho)
theorem rdf_atom {d : Dq} (hf : Rdf d.f) : Rdf (atomS d) := by
  intro st hs e h
  unfold atomS at h
  split at h
  · injection h with h; subst h; exact .inl ⟨rfl, st_len hs⟩
  · split at h
    · injection h with h; subst h; exact .inr ⟨.inl rfl, rfl⟩
    · split at h
      · injection h with h; subst h; exact .inr ⟨.inr rfl, rfl⟩
      · split at h
        · next g => exact rdf_encl hf _ _ (st_tl hs (isT_kind g)) e h
        · cases h
theorem rdf_pref {d : Dq} (hf : Rdf d.f) (hx : Rdf d.x) : Rdf (prefS d) := by
  intro st hs e h
  unfold prefS at h
  split at h
  · next g =>
    cases ho : (d.x st.tl).1 with
    | none => rw [ho] at h; cases h
    | some a =>
      rw [ho] at h
      injection h with h
      subst h
      exact ⟨(sp_kind g).2, hx _ (st_tl hs (sp_kind g).1) a ho⟩
  · exact rdf_atom hf st hs e h
theorem bin_some {op : List UInt8} {a b : Option Fo} {e : Fo} (h : binO op a b = some e) : ∃ x y, a = some x ∧ b = some y ∧ e = .bin op x y x.pos := by
  cases a with
  | none => cases b <;> cases h
  | some x => cases b with
    | none => cases h
    | some y => injection h with h; exact ⟨x, y, rfl, rfl, h.symm⟩
theorem rdf_right {k : Nat} (hk : k < 4) {rd bh : St → RF} (hr : Rok rd) (h1 : Rdf rd) (h2 : Rdf bh) : Rdf (rightS k rd bh) := by
  intro st hs e h
  unfold rightS at h
  split at h
  · next g =>
    obtain ⟨x, y, hx, hy, rfl⟩ := bin_some h
    have hs2 := (hr.le st).2 hs
    exact ⟨by rw [(sp_kind g).2]; exact hk, h1 st hs x hx, h2 _ (st_tl hs2 (sp_kind g).1) y hy⟩
  · exact h1 st hs e h
theorem rdf_leftF {k : Nat} (hk : k < 4) {rd : St → RF} (hr : Rok rd) (h1 : Rdf rd) : ∀ (n : Nat) (r : RF), r.2.Fine → (∀ e, r.1 = some e → OkF e) → ∀ e, (leftF k rd n r).1 = some e → OkF e
  | 0, r, _, h0, e, h => h0 e h
  | n + 1, r, hs, h0, e, h => by
    unfold leftF at h
    split at h
    · next g =>
      have ht := st_tl hs (sp_kind g).1
      refine rdf_leftF hk hr h1 n (binO r.2.hd.text r.1 (rd r.2.tl).1, (rd r.2.tl).2) ((hr.le _).2 ht) (fun e' h' => ?_) e h
      obtain ⟨x, y, hx, hy, rfl⟩ := bin_some h'
      exact ⟨by rw [(sp_kind g).2]; exact hk, h0 x hx, h1 _ ht y hy⟩
    · exact h0 e h
theorem rdf_left {k : Nat} (hk : k < 4) {rd : St → RF} (hr : Rok rd) (h1 : Rdf rd) : Rdf (leftS k rd) := fun st hs e h => rdf_leftF hk hr h1 _ _ ((hr.le st).2 hs) (fun e' h' => h1 st hs e' h') e h
structure Rdf3 (d : Dq) : Prop where
  f : Rdf d.f
  u : Rdf d.u
  x : Rdf d.x
theorem rdf_dq : ∀ l, Rdf3 (dq l)
  | 0 => by
    have : Rdf deepS := fun st _ e h => by cases h
    exact ⟨this, this, this⟩
  | l + 1 => by
    have ih := rdf_dq l
    have r := rok_dq l
    have a := rok_all r
    have x := rdf_pref ih.f ih.x
    have u : Rdf (untlS (dq l)) := rdf_right (by decide) a.x x ih.u
    have c : Rdf (conjS (dq l)) := rdf_left (by decide) a.u u
    have o : Rdf (disjS (dq l)) := rdf_left (by decide) a.a c
    exact ⟨rdf_right (by decide) a.o o ih.f, u, x⟩
/-- No more formulas than tokens. -/
def Szf (F : St → RF) : Prop := ∀ st e, (F st).1 = some e → e.size + (F st).2.len ≤ st.len
theorem fsize_move (q : Nat) (e : Fo) : (e.move q).size = e.size := by cases e <;> rfl
theorem szf_atom {d : Dq} (hf : Szf d.f) : Szf (atomS d) := by
  intro st e h
  unfold atomS at h ⊢
  split at h
  · next g => rw [if_pos g]; injection h with h; subst h; have := (tl_le (st := st) (by omega)).2; simp only [Fo.size]; omega
  · next g =>
    rw [if_neg g]
    split at h
    · next g => rw [if_pos g]; injection h with h; subst h; have := (tl_le (isT_kind g)).2; simp only [Fo.size]; omega
    · next g =>
      rw [if_neg g]
      split at h
      · next g => rw [if_pos g]; injection h with h; subst h; have := (tl_le (isT_kind g)).2; simp only [Fo.size]; omega
      · next g =>
        rw [if_neg g]
        split at h
        · next g =>
          rw [if_pos g]
          unfold enclS at h ⊢
          cases ho : (d.f st.tl).1 with
          | none => rw [ho] at h; cases h
          | some a =>
            rw [ho] at h
            injection h with h
            subst h
            have h1 := hf st.tl a ho
            have h2 := (tl_le (isT_kind g)).2
            have h3 := (want_le [41] (d.f st.tl).2).1
            rw [fsize_move]
            show a.size + ((d.f st.tl).2.want [41]).len ≤ st.len
            omega
        · cases h
theorem szf_pref {d : Dq} (hf : Szf d.f) (hx : Szf d.x) : Szf (prefS d) := by
  intro st e h
  unfold prefS at h ⊢
  split at h
  · next g =>
    rw [if_pos g]
    cases ho : (d.x st.tl).1 with
    | none => rw [ho] at h; cases h
    | some a =>
      rw [ho] at h
      injection h with h
      subst h
      have h1 := hx st.tl a ho
      have h2 := (tl_sp g).2
      show a.size + 1 + (d.x st.tl).2.len ≤ st.len
      omega
  · next g => rw [if_neg g]; exact szf_atom hf st e h
theorem szf_right {k : Nat} {rd bh : St → RF} (h1 : Szf rd) (h2 : Szf bh) : Szf (rightS k rd bh) := by
  intro st e h
  unfold rightS at h ⊢
  split at h
  · next g =>
    rw [if_pos g]
    obtain ⟨x, y, hx, hy, rfl⟩ := bin_some h
    have a1 := h1 st x hx
    have a2 := h2 _ y hy
    have a3 := (tl_sp g).2
    show x.size + y.size + 1 + (bh (rd st).2.tl).2.len ≤ st.len
    omega
  · next g => rw [if_neg g]; exact h1 st e h
theorem szf_leftF {k : Nat} {rd : St → RF} (h1 : Szf rd) (L : Nat) : ∀ (n : Nat) (r : RF), (∀ e, r.1 = some e → e.size + r.2.len ≤ L) → ∀ e, (leftF k rd n r).1 = some e → e.size + (leftF k rd n r).2.len ≤ L
  | 0, r, h0, e, h => h0 e h
  | n + 1, r, h0, e, h => by
    unfold leftF at h ⊢
    split at h
    · next g =>
      rw [if_pos g]
      refine szf_leftF h1 L n (binO r.2.hd.text r.1 (rd r.2.tl).1, (rd r.2.tl).2) (fun e' h' => ?_) e h
      obtain ⟨x, y, hx, hy, rfl⟩ := bin_some h'
      have a1 := h0 x hx
      have a2 := h1 _ y hy
      have a3 := (tl_sp g).2
      show x.size + y.size + 1 + (rd r.2.tl).2.len ≤ L
      omega
    · next g => rw [if_neg g]; exact h0 e h
theorem szf_left {k : Nat} {rd : St → RF} (h1 : Szf rd) : Szf (leftS k rd) := fun st e h => szf_leftF h1 st.len _ _ (fun e' h' => h1 st e' h') e h
structure Szf3 (d : Dq) : Prop where
  f : Szf d.f
  u : Szf d.u
  x : Szf d.x
theorem szf_dq : ∀ l, Szf3 (dq l)
  | 0 => by
    have : Szf deepS := fun st e h => by cases h
    exact ⟨this, this, this⟩
  | l + 1 => by
    have ih := szf_dq l
    have x := szf_pref ih.f ih.x
    have u : Szf (untlS (dq l)) := szf_right x ih.u
    have c : Szf (conjS (dq l)) := szf_left u
    have o : Szf (disjS (dq l)) := szf_left c
    exact ⟨szf_right o ih.f, u, x⟩
theorem good_lenF (l : List UInt8) : ∀ (ts : List Tok) (i : Nat), Good l i ts → ts.length + i ≤ l.length + 1
  | [], _, h => h.elim
  | [t], i, h => by
    obtain ⟨_, _, h1, h2⟩ := h
    simp only [List.length_cons, List.length_nil]
    omega
  | t :: u :: us, i, h => by
    obtain ⟨h1, h2, ⟨n, hm, _, hg⟩, _⟩ := h
    have h3 := good_lenF l (u :: us) _ hg
    have h4 := (meas_kinds (by intro h0; have := congrArg List.length h0; simp at this; omega) hm).2.1
    simp only [List.length_cons] at h3 ⊢
    omega
theorem parse_okf {D : Nat} {l : List UInt8} {f : Fo} (hl : l.length ≤ 65536) (h : parseF D l = .ok f) : OkF f ∧ f.size ≤ l.length + 1 := by
  unfold parseF at h
  cases ht : toks l with
  | error x => rw [ht] at h; cases h
  | ok ts =>
    rw [ht] at h
    simp only at h
    have hf : (St.good ts).Fine := fine_toks hl ht
    cases hr : (dq D).f (.good ts) with
    | mk o st =>
      rw [hr] at h
      cases st with
      | bad c p => cases h
      | good r =>
        simp only [endF] at h
        split at h
        · cases o with
          | none => cases h
          | some g =>
            injection h with h
            subst h
            have h5 := (szf_dq D).f (.good ts) g (by rw [hr])
            have h6 := good_lenF l _ 0 (good_toks ht)
            exact ⟨(rdf_dq D).f _ hf g (by rw [hr]), by have h7 : (St.good ts).len = ts.length := rfl; omega⟩
        · cases h
/-- The labels, one behind the other, as often as they stand there. -/
def lbs : Fo → List (List UInt8)
  | .leaf op nm _ => if op = opLab then [nm] else []
  | .un _ a _ => lbs a
  | .bin _ a b _ => lbs a ++ lbs b
theorem lbs_bare : ∀ e : Fo, lbs e.bare = lbs e
  | .leaf _ _ _ => rfl
  | .un _ a _ => lbs_bare a
  | .bin _ a b _ => by simp only [Fo.bare, lbs, lbs_bare a, lbs_bare b]
theorem lbs_same {a b : Fo} (h : a.bare = b.bare) : lbs a = lbs b := by rw [← lbs_bare a, h, lbs_bare]
theorem fsize_bare : ∀ e : Fo, e.bare.size = e.size
  | .leaf _ _ _ => rfl
  | .un _ a _ => by simp only [Fo.bare, Fo.size, fsize_bare a]
  | .bin _ a b _ => by simp only [Fo.bare, Fo.size, fsize_bare a, fsize_bare b]
theorem fsize_same {a b : Fo} (h : a.bare = b.bare) : a.size = b.size := by rw [← fsize_bare a, h, fsize_bare]
theorem lbs_len : ∀ e : Fo, (lbs e).length ≤ e.size
  | .leaf _ _ _ => by unfold lbs; split <;> simp [Fo.size]
  | .un _ a _ => by have := lbs_len a; simp only [lbs, Fo.size]; omega
  | .bin _ a b _ => by have := lbs_len a; have := lbs_len b; simp only [lbs, Fo.size, List.length_append]; omega
theorem okf_lbs : ∀ {e : Fo}, OkF e → ∀ x ∈ lbs e, x.length ≤ 65536
  | .leaf op nm _, h, x, hx => by
    unfold lbs at hx
    split at hx
    · next g =>
      rcases h with ⟨_, h⟩ | ⟨h, _⟩
      · rw [List.mem_singleton] at hx; subst hx; exact h
      · rw [g] at h; rcases h with h | h <;> exact absurd h (by decide)
    · cases hx
  | .un _ a _, h, x, hx => okf_lbs h.2 x hx
  | .bin _ a b _, h, x, hx => (List.mem_append.1 hx).elim (okf_lbs h.2.1 x) (okf_lbs h.2.2 x)
end Go.Proofs.YtjhicgllofjpoaaGreatDoor
