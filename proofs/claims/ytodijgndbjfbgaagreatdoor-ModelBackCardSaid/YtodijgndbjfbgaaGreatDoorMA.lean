/-
  What a reader of models reads of tokens it reads of others with the same kinds and texts, whatever stands behind. Each part of a model is read so with other tokens behind; a model is read item by item; two one behind the other. Two models, one text behind the other.
-/
import Derived.Test.YtodijgndbjfbgaaGreatDoorG1
namespace Go.Proofs.YtodijgndbjfbgaaGreatDoor
section
/-- Reads on so, up to where something is still left to be read. -/
structure SQc (f : St → St) : Prop where
  ext : ∀ T us us', Al T us us' → ∀ r, f (.good us) = .good r → (hd r).kind ≠ 0 → ∃ r', f (.good us') = .good r' ∧ Al T r r'
  bad : ∀ c p, f (.bad c p) = .bad c p
  stay : ∀ us r, (hd us).kind = 0 → f (.good us) = .good r → (hd r).kind = 0
/-- Reads on so, and reads at least one token. -/
structure SQu (f : St → St) : Prop where
  ext : ∀ T us us', Al T us us' → ∀ r, f (.good us) = .good r → ∃ r', f (.good us') = .good r' ∧ Al T r r'
  bad : ∀ c p, f (.bad c p) = .bad c p
  nz : ∀ us r, f (.good us) = .good r → (hd us).kind ≠ 0
theorem SQu.sc {f : St → St} (h : SQu f) : SQc f := ⟨fun T us us' ha r hr _ => h.ext T us us' ha r hr, h.bad, fun us r h0 hr => absurd h0 (h.nz us r hr)⟩
theorem SQc.id : SQc (fun st => st) := ⟨fun _ us us' ha r hr _ => by injection hr with hr; subst hr; exact ⟨us', rfl, ha⟩, fun _ _ => rfl, fun us r h0 hr => by injection hr with hr; subst hr; exact h0⟩
section
variable {f g : St → St}
theorem st_good (hb : ∀ c p, g (.bad c p) = .bad c p) {st : St} {r : List Tok} (h : g st = .good r) : ∃ us, st = .good us := by
  cases st with
  | good us => exact ⟨us, rfl⟩
  | bad c p => rw [hb] at h; cases h
theorem SQc.comp (hf : SQc f) (hg : SQc g) : SQc (fun st => g (f st)) := by
  refine ⟨fun T us us' ha r hr h0 => ?_, fun c p => by rw [hf.bad, hg.bad], fun us r h0 hr => ?_⟩
  · obtain ⟨r1, h1⟩ := st_good hg.bad hr
    rw [h1] at hr
    have h2 : (hd r1).kind ≠ 0 := fun e => h0 (hg.stay r1 r e hr)
    obtain ⟨r1', h3, h4⟩ := hf.ext T us us' ha r1 h1 h2
    obtain ⟨r', h5, h6⟩ := hg.ext T r1 r1' h4 r hr h0
    exact ⟨r', by rw [h3]; exact h5, h6⟩
  · obtain ⟨r1, h1⟩ := st_good hg.bad hr
    rw [h1] at hr
    exact hg.stay r1 r (hf.stay us r1 h0 h1) hr
theorem SQc.then_ (hf : SQc f) (hg : SQu g) : SQu (fun st => g (f st)) := by
  refine ⟨fun T us us' ha r hr => ?_, fun c p => by rw [hf.bad, hg.bad], fun us r hr h0 => ?_⟩
  · obtain ⟨r1, h1⟩ := st_good hg.bad hr
    rw [h1] at hr
    obtain ⟨r1', h3, h4⟩ := hf.ext T us us' ha r1 h1 (hg.nz r1 r hr)
    obtain ⟨r', h5, h6⟩ := hg.ext T r1 r1' h4 r hr
    exact ⟨r', by rw [h3]; exact h5, h6⟩
  · obtain ⟨r1, h1⟩ := st_good hg.bad hr
    rw [h1] at hr
    exact hg.nz r1 r hr (hf.stay us r1 h0 h1)
end
theorem su_want (x : List UInt8) : SQu (St.want x) := by
  refine ⟨fun T us us' ha r hr => ?_, fun _ _ => rfl, fun us r hr => ?_⟩
  · unfold St.want at hr ⊢
    split at hr
    · next hi =>
      have h0 := isT_kind hi
      obtain ⟨h1, h2, h3⟩ := ha.more h0
      injection hr with hr
      subst hr
      exact ⟨us'.tail, by rw [if_pos (show isT (St.good us').hd x = true from (isT_same h1 h2 x).symm.trans hi)]; rfl, h3⟩
    · cases hr
  · unfold St.want at hr
    split at hr
    · next hi => exact isT_kind hi
    · cases hr
theorem su_name : SQu (fun st => st.name.2) := by
  refine ⟨fun T us us' ha r hr => ?_, fun _ _ => rfl, fun us r hr => ?_⟩
  · simp only [St.name] at hr ⊢
    split at hr
    · next hi =>
      have h0 : (hd us).kind ≠ 0 := by rw [show (hd us).kind = 1 from (nm_kind hi).1]; decide
      obtain ⟨h1, h2, h3⟩ := ha.more h0
      injection hr with hr
      subst hr
      have hi' : isNm (St.good us').hd = true := by
        have : isNm (hd us) = true := hi
        show isNm (hd us') = true
        unfold isNm at this ⊢
        rw [← h1, ← h2]; exact this
      exact ⟨us'.tail, by rw [if_pos hi']; rfl, h3⟩
    · cases hr
  · simp only [St.name] at hr
    split at hr
    · next hi => show (hd us).kind ≠ 0; rw [show (hd us).kind = 1 from (nm_kind hi).1]; decide
    · cases hr
theorem su_text : SQu (fun st => st.text.2) := by
  refine ⟨fun T us us' ha r hr => ?_, fun _ _ => rfl, fun us r hr => ?_⟩
  · simp only [St.text] at hr ⊢
    split at hr
    · next hi =>
      have hi : (hd us).kind = 3 := hi
      obtain ⟨h1, h2, h3⟩ := ha.more (by omega)
      injection hr with hr
      subst hr
      exact ⟨us'.tail, by rw [if_pos (show (St.good us').hd.kind = 3 from h1.symm.trans hi)]; rfl, h3⟩
    · cases hr
  · simp only [St.text] at hr
    split at hr
    · next hi => have hi : (hd us).kind = 3 := hi; omega
    · cases hr
theorem nz_dp : ∀ l, NZ (dp l).c
  | 0 => fun _ _ _ h => by cases h
  | l + 1 => by
    intro us e r h
    obtain ⟨a, r1, h1, _⟩ := cond_ok_iff h
    intro h0
    have hz : NZ (implX (dp l)) := by
      have zr : NZ (compX (dp l)) := nz_comp (nz_chain (nz_chain (nz_minus _)))
      have zo : NZ (disjX (dp l)) := nz_chain (nz_chain (nz_neg zr))
      intro us e r h
      cases hd' : disjX (dp l) us with
      | er c p => rw [implX, hd'] at h; cases h
      | ok x y => exact zo us x y hd'
    exact hz us a r1 h1 h0
theorem su_expr (D : Nat) : SQu (fun st => (st.expr D).2) := by
  refine ⟨fun T us us' ha r hr => ?_, fun _ _ => rfl, fun us r hr => ?_⟩
  · have e : ∀ us, (St.good us).expr D = exprP ((dp D).c us) := fun _ => rfl
    simp only [e] at hr ⊢
    cases h : (dp D).c us with
    | er c p => rw [h] at hr; cases hr
    | ok x y =>
      rw [h] at hr
      injection hr with hr
      subst hr
      obtain ⟨e', r', h1, _, h3⟩ := (ext_dp D D (Nat.le_refl _)).c T us us' ha x y h
      exact ⟨r', by rw [h1]; rfl, h3⟩
  · have e : (St.good us).expr D = exprP ((dp D).c us) := rfl
    simp only [e] at hr
    cases h : (dp D).c us with
    | er c p => rw [h] at hr; cases hr
    | ok x y => exact nz_dp D us x y h
theorem su_mean (D : Nat) : SQu (fun st => (st.mean D).2) := ((su_want [61]).sc.comp (su_expr D).sc).then_ (su_want [59])
theorem su_defn (D : Nat) : SQu (fun st => (st.defn D).2) := su_name.sc.then_ (su_mean D)
theorem su_labl (D : Nat) : SQu (fun st => (st.labl D).2) := su_text.sc.then_ (su_mean D)
theorem su_bnds (D : Nat) : SQu (fun st => (st.bnds D).2) := ((((su_want [91]).sc.comp (su_expr D).sc).comp (su_want [46, 46]).sc).comp (su_expr D).sc).then_ (su_want [93])
/-- One way where a token stands, another elsewhere. -/
structure SQa (f : St → St) : Prop where
  ext : ∀ T us us', Al T us us' → (hd us).kind ≠ 0 → ∀ r, f (.good us) = .good r → (hd r).kind ≠ 0 → ∃ r', f (.good us') = .good r' ∧ Al T r r'
theorem SQc.sa {f : St → St} (h : SQc f) : SQa f := ⟨fun T us us' ha _ r hr h0 => h.ext T us us' ha r hr h0⟩
theorem sa_tl {f : St → St} (h : SQc f) : SQa (fun st => f st.tl) := ⟨fun T us us' ha hk r hr h0 => h.ext T us.tail us'.tail (ha.more hk).2.2 r hr h0⟩
def Tst (p : Tok → Bool) : Prop := (∀ t t' : Tok, t.kind = t'.kind → t.text = t'.text → p t = p t') ∧ ∀ t : Tok, p t = true → t.kind ≠ 0
theorem tst_isT (x : List UInt8) : Tst (fun t => isT t x) := ⟨fun _ _ h1 h2 => isT_same h1 h2 x, fun _ h => isT_kind h⟩
theorem tst_nm : Tst isNm := ⟨fun t t' h1 h2 => by unfold isNm; rw [h1, h2], fun t h => by rw [(nm_kind h).1]; decide⟩
theorem sc_ite {p : Tok → Bool} {f g : St → St} (hp : Tst p) (hf : SQa f) (hg : SQc g) : SQc (fun st => if p st.hd then f st else g st) := by
  have hz : p (⟨0, [], 0⟩ : Tok) = false := by
    cases h : p (⟨0, [], 0⟩ : Tok) with
    | false => rfl
    | true => exact absurd rfl (hp.2 _ h)
  refine ⟨fun T us us' ha r hr h0 => ?_, fun c q => ?_, fun us r h0 hr => ?_⟩
  · by_cases hk : (hd us).kind = 0
    · have hpf : p (St.good us).hd = false := by
        cases h : p (St.good us).hd with
        | false => rfl
        | true => exact absurd hk (hp.2 _ h)
      simp only [hpf] at hr
      exact absurd (hg.stay us r hk hr) h0
    · obtain ⟨h1, h2, _⟩ := ha.more hk
      have e : p (St.good us').hd = p (St.good us).hd := (hp.1 _ _ h1 h2).symm
      simp only [e]
      split at hr
      · next hpt => simp only [hpt, if_true]; exact hf.ext T us us' ha hk r hr h0
      · next hpt => simp only [hpt]; exact hg.ext T us us' ha r hr h0
  · show (if p (⟨0, [], 0⟩ : Tok) then f (.bad c q) else g (.bad c q)) = _
    rw [hz]
    exact hg.bad c q
  · have hpf : p (St.good us).hd = false := by
      cases h : p (St.good us).hd with
      | false => rfl
      | true => exact absurd h0 (hp.2 _ h)
    simp only [hpf] at hr
    exact hg.stay us r h0 hr
end
section
theorem SQc.congr {f g : St → St} (h : ∀ st, f st = g st) (hg : SQc g) : SQc f := by rw [show f = g from funext h]; exact hg
theorem sc_vals (D : Nat) : SQc (fun st => (st.vals D).2) :=
  SQc.congr (fun st => by unfold St.vals; split <;> rfl) (sc_ite (tst_isT wBool) (sa_tl SQc.id) (su_bnds D).sc)
theorem sc_init (D : Nat) : SQc (fun st => (st.init D).2) :=
  SQc.congr (fun st => by unfold St.init; split <;> rfl) (sc_ite (tst_isT wInit) (sa_tl (su_expr D).sc) SQc.id)
theorem su_vrbl (D : Nat) : SQu (fun st => (st.vrbl D).2) := (((su_name.sc.comp (su_want [58]).sc).comp (sc_vals D)).comp (sc_init D)).then_ (su_want [59])
section
variable {α : Type} {p : Tok → Bool} {rd : St → α × St}
theorem tst_zero (hp : Tst p) : p (⟨0, [], 0⟩ : Tok) = false := by
  cases h : p (⟨0, [], 0⟩ : Tok) with
  | false => rfl
  | true => exact absurd rfl (hp.2 _ h)
theorem tst_no (hp : Tst p) {t : Tok} (h0 : t.kind = 0) : p t = false := by
  cases h : p t with
  | false => rfl
  | true => exact absurd h0 (hp.2 _ h)
theorem list_bad (hp : Tst p) (c q : Nat) : ((St.bad c q).list p rd).2 = .bad c q := by
  rw [list_end (show p (St.bad c q).hd = false from tst_zero hp)]
theorem list_stay (hp : Tst p) {us r : List Tok} (h0 : (hd us).kind = 0) (hr : ((St.good us).list p rd).2 = .good r) : (hd r).kind = 0 := by
  rw [list_end (show p (St.good us).hd = false from tst_no hp h0)] at hr
  injection hr with hr
  subst hr
  exact h0
theorem list_ext (hp : Tst p) (hdc : Dec p rd) (hrd : SQa (fun st => (rd st).2)) : ∀ (n : Nat) (T us us' : List Tok), us.length ≤ n → Al T us us' → ∀ r, ((St.good us).list p rd).2 = .good r → (hd r).kind ≠ 0 → ∃ r', ((St.good us').list p rd).2 = .good r' ∧ Al T r r'
  | n, T, us, us', hn, ha, r, hr, h0 => by
    have hk : (hd us).kind ≠ 0 := fun e => h0 (list_stay hp e hr)
    obtain ⟨h1, h2, _⟩ := ha.more hk
    have e : p (St.good us').hd = p (St.good us).hd := (hp.1 _ _ h1 h2).symm
    cases hpt : p (St.good us).hd with
    | false =>
      rw [list_end hpt] at hr
      rw [list_end (e.trans hpt)]
      injection hr with hr
      subst hr
      exact ⟨us', rfl, ha⟩
    | true =>
      rw [list_go hdc hpt] at hr
      rw [list_go hdc (e.trans hpt)]
      have hl : (rd (.good us)).2.len < us.length := (hdc _ hpt).1
      cases hq : (rd (.good us)).2 with
      | bad c q => rw [hq, list_bad hp] at hr; cases hr
      | good r1 =>
        rw [hq] at hr hl
        have h3 : (hd r1).kind ≠ 0 := fun e => h0 (list_stay hp e hr)
        obtain ⟨r1', h4, h5⟩ := hrd.ext T us us' ha hk r1 hq h3
        have hl : r1.length < us.length := hl
        cases n with
        | zero => omega
        | succ n =>
          obtain ⟨r', h6, h7⟩ := list_ext hp hdc hrd n T r1 r1' (by omega) h5 r hr h0
          exact ⟨r', by rw [h4]; exact h6, h7⟩
theorem sc_list (hp : Tst p) (hdc : Dec p rd) (hrd : SQa (fun st => (rd st).2)) : SQc (fun st => (st.list p rd).2) :=
  ⟨fun T us us' ha r hr h0 => list_ext hp hdc hrd us.length T us us' (Nat.le_refl _) ha r hr h0, fun c q => list_bad hp c q, fun _ _ h0 hr => list_stay hp h0 hr⟩
end
theorem su_sett (D : Nat) : SQu (fun st => (st.sett D).2) := (((((su_want [40]).sc.comp su_name.sc).comp (su_want [39]).sc).comp (su_want [61]).sc).comp (su_expr D).sc).then_ (su_want [41])
theorem tst_num : Tst (fun t : Tok => t.kind == 2) := ⟨fun t t' h1 _ => by simp only [h1], fun t h h0 => by simp [h0] at h⟩
theorem sc_wght : SQc (fun st => st.wght.2) := by
  refine SQc.congr (g := fun st => if (fun t : Tok => t.kind == 2) st.hd then (fun st : St => if valOf st.hd.text = 0 then .bad 33 st.hd.pos else st.tl.want [58]) st else (fun st : St => st) st) (fun st => by unfold St.wght; by_cases h : st.hd.kind = 2 <;> simp [h]) (sc_ite tst_num ⟨fun T us us' ha hk r hr h0 => ?_⟩ SQc.id)
  obtain ⟨h1, h2, h3⟩ := ha.more hk
  have e : (St.good us').hd.text = (St.good us).hd.text := h2.symm
  simp only [e]
  dsimp only at hr
  split at hr
  · cases hr
  · next hv =>
    rw [if_neg hv]
    exact (su_want [58]).sc.ext T us.tail us'.tail h3 r hr h0
theorem sc_sets (D : Nat) : SQc (fun st => (st.sets D).2) :=
  SQc.congr (fun st => by unfold St.sets; split <;> rfl) (sc_ite (tst_isT opTrue) (sa_tl SQc.id) ((su_sett D).sc.comp (sc_list (tst_isT [38]) (dec_sett D) (sa_tl (su_sett D).sc))))
theorem sc_brch (D : Nat) : SQc (fun st => (st.brch D).2) := sc_wght.comp (sc_sets D)
theorem sc_brchs (D : Nat) : SQc (fun st => (st.brchs D).2) := (sc_brch D).comp (sc_list (tst_isT [43]) (dec_brch D) (sa_tl (sc_brch D)))
theorem sc_actn : SQc (fun st => st.actn.2) :=
  SQc.congr (fun st => by unfold St.actn; split <;> rfl) (sc_ite (tst_isT [93]) SQc.id.sa su_name.sc)
theorem su_guard (D : Nat) : SQu (fun st => (st.guard D).2) := (((su_want [91]).sc.comp sc_actn).comp (su_want [93]).sc).then_ (su_expr D)
theorem su_cmnd (D : Nat) : SQu (fun st => (st.cmnd D).2) := (((su_guard D).sc.comp (su_want [45, 62]).sc).comp (sc_brchs D)).then_ (su_want [59])
theorem sc_vrbls (D : Nat) : SQc (fun st => (st.vrbls D).2) := su_name.sc.comp (sc_list tst_nm (dec_vrbl D) (su_vrbl D).sc.sa)
theorem sc_cmnds (D : Nat) : SQc (fun st => (st.cmnds D).2) := (sc_vrbls D).comp (sc_list (tst_isT [91]) (dec_cmnd D) (su_cmnd D).sc.sa)
theorem su_modl (D : Nat) : SQu (fun st => (st.modl D).2) := (sc_cmnds D).then_ (su_want wEnd)
/-- Item by item. -/
theorem mdl_one0 (D : Nat) (m : MdlO) {st : St} (h : isT st.hd wConst = true) : st.mdlOn D m = (st.tl.defn D).2.mdlOn D { m with consts := m.consts ++ [(st.tl.defn D).1] } := by
  rw [mdl_go D (isT_kind h)]
  have hi : st.items D m = ({ m with consts := m.consts ++ (constsL D st).1 }, (constsL D st).2) := by unfold St.items; rw [if_pos h]
  rw [hi]
  have hl : constsL D st = ((st.tl.defn D).1 :: (constsL D (st.tl.defn D).2).1, (constsL D (st.tl.defn D).2).2) := list_go (dec_defn D wConst) h
  rw [hl]
  cases hn : isT (st.tl.defn D).2.hd wConst with
  | true =>
    rw [mdl_go D (isT_kind hn)]
    have hi2 : ∀ m', (st.tl.defn D).2.items D m' = ({ m' with consts := m'.consts ++ (constsL D (st.tl.defn D).2).1 }, (constsL D (st.tl.defn D).2).2) := fun m' => by unfold St.items; rw [if_pos hn]
    rw [hi2]
    simp
  | false =>
    have hl2 : constsL D (st.tl.defn D).2 = ([], (st.tl.defn D).2) := list_end hn
    rw [hl2]
theorem mdl_one1 (D : Nat) (m : MdlO) {st : St} (h0 : isT st.hd wConst = false) (h : isT st.hd wFormula = true) : st.mdlOn D m = (st.tl.defn D).2.mdlOn D { m with formulas := m.formulas ++ [(st.tl.defn D).1] } := by
  rw [mdl_go D (isT_kind h)]
  have hi : st.items D m = ({ m with formulas := m.formulas ++ (formsL D st).1 }, (formsL D st).2) := by unfold St.items; rw [if_neg (by simp [h0]), if_pos h]
  rw [hi]
  have hl : formsL D st = ((st.tl.defn D).1 :: (formsL D (st.tl.defn D).2).1, (formsL D (st.tl.defn D).2).2) := list_go (dec_defn D wFormula) h
  rw [hl]
  cases hn : isT (st.tl.defn D).2.hd wFormula with
  | true =>
    have hc : isT (st.tl.defn D).2.hd wConst = false := by
      cases hx : isT (st.tl.defn D).2.hd wConst with
      | false => rfl
      | true => exact absurd ((isT_text hx).symm.trans (isT_text hn)) (by decide)
    rw [mdl_go D (isT_kind hn)]
    have hi2 : ∀ m', (st.tl.defn D).2.items D m' = ({ m' with formulas := m'.formulas ++ (formsL D (st.tl.defn D).2).1 }, (formsL D (st.tl.defn D).2).2) := fun m' => by unfold St.items; rw [if_neg (by simp [hc]), if_pos hn]
    rw [hi2]
    simp
  | false =>
    have hl2 : formsL D (st.tl.defn D).2 = ([], (st.tl.defn D).2) := list_end hn
    rw [hl2]
theorem mdl_one2 (D : Nat) (m : MdlO) {st : St} (h0 : isT st.hd wConst = false) (h1 : isT st.hd wFormula = false) (h : isT st.hd wLabel = true) : st.mdlOn D m = (st.tl.labl D).2.mdlOn D { m with labels := m.labels ++ [(st.tl.labl D).1] } := by
  rw [mdl_go D (isT_kind h)]
  have hi : st.items D m = ({ m with labels := m.labels ++ (lablsL D st).1 }, (lablsL D st).2) := by unfold St.items; rw [if_neg (by simp [h0]), if_neg (by simp [h1]), if_pos h]
  rw [hi]
  have hl : lablsL D st = ((st.tl.labl D).1 :: (lablsL D (st.tl.labl D).2).1, (lablsL D (st.tl.labl D).2).2) := list_go (dec_labl D wLabel) h
  rw [hl]
  cases hn : isT (st.tl.labl D).2.hd wLabel with
  | true =>
    have hc : ∀ x, x ≠ wLabel → isT (st.tl.labl D).2.hd x = false := fun x hx => by
      cases hy : isT (st.tl.labl D).2.hd x with
      | false => rfl
      | true => exact absurd ((isT_text hy).symm.trans (isT_text hn)) hx
    rw [mdl_go D (isT_kind hn)]
    have hi2 : ∀ m', (st.tl.labl D).2.items D m' = ({ m' with labels := m'.labels ++ (lablsL D (st.tl.labl D).2).1 }, (lablsL D (st.tl.labl D).2).2) := fun m' => by unfold St.items; rw [if_neg (by simp [hc wConst (by decide)]), if_neg (by simp [hc wFormula (by decide)]), if_pos hn]
    rw [hi2]
    simp
  | false =>
    have hl2 : lablsL D (st.tl.labl D).2 = ([], (st.tl.labl D).2) := list_end hn
    rw [hl2]
theorem mdl_one3 (D : Nat) (m : MdlO) {st : St} (h0 : isT st.hd wConst = false) (h1 : isT st.hd wFormula = false) (h2 : isT st.hd wLabel = false) (h : isT st.hd wModule = true) : st.mdlOn D m = (st.tl.modl D).2.mdlOn D { m with mods := m.mods ++ [(st.tl.modl D).1] } := by
  rw [mdl_go D (isT_kind h)]
  have hi : st.items D m = ({ m with mods := m.mods ++ (modsL D st).1 }, (modsL D st).2) := by unfold St.items; rw [if_neg (by simp [h0]), if_neg (by simp [h1]), if_neg (by simp [h2]), if_pos h]
  rw [hi]
  have hl : modsL D st = ((st.tl.modl D).1 :: (modsL D (st.tl.modl D).2).1, (modsL D (st.tl.modl D).2).2) := list_go (dec_modl D wModule) h
  rw [hl]
  cases hn : isT (st.tl.modl D).2.hd wModule with
  | true =>
    have hc : ∀ x, x ≠ wModule → isT (st.tl.modl D).2.hd x = false := fun x hx => by
      cases hy : isT (st.tl.modl D).2.hd x with
      | false => rfl
      | true => exact absurd ((isT_text hy).symm.trans (isT_text hn)) hx
    rw [mdl_go D (isT_kind hn)]
    have hi2 : ∀ m', (st.tl.modl D).2.items D m' = ({ m' with mods := m'.mods ++ (modsL D (st.tl.modl D).2).1 }, (modsL D (st.tl.modl D).2).2) := fun m' => by unfold St.items; rw [if_neg (by simp [hc wConst (by decide)]), if_neg (by simp [hc wFormula (by decide)]), if_neg (by simp [hc wLabel (by decide)]), if_pos hn]
    rw [hi2]
    simp
  | false =>
    have hl2 : modsL D (st.tl.modl D).2 = ([], (st.tl.modl D).2) := list_end hn
    rw [hl2]
theorem mdl_bad (D : Nat) (m : MdlO) (c p : Nat) : (St.bad c p).mdlOn D m = (m, .bad c p) := mdl_end D rfl
theorem mdl_none (D : Nat) (m : MdlO) {st : St} (hk : st.hd.kind ≠ 0) (h0 : isT st.hd wConst = false) (h1 : isT st.hd wFormula = false) (h2 : isT st.hd wLabel = false) (h3 : isT st.hd wModule = false) : ∃ c p, st.mdlOn D m = (m, .bad c p) := by
  rw [mdl_go D hk]
  have hi : st.items D m = (m, st.fail 20) := by unfold St.items; rw [if_neg (by simp [h0]), if_neg (by simp [h1]), if_neg (by simp [h2]), if_neg (by simp [h3])]
  rw [hi]
  obtain ⟨us, rfl, _⟩ := hd_bad hk
  exact ⟨20, (hd us).pos, mdl_bad D m _ _⟩
/-- How many there are of each kind. -/
def MdlO.vec (m : MdlO) : Nat × Nat × Nat × Nat := (m.consts.length, m.formulas.length, m.labels.length, m.mods.length)
def addV (a b : Nat × Nat × Nat × Nat) : Nat × Nat × Nat × Nat := (a.1 + b.1, a.2.1 + b.2.1, a.2.2.1 + b.2.2.1, a.2.2.2 + b.2.2.2)
theorem vec_sub {a b c d e : Nat × Nat × Nat × Nat} (h : addV a (addV b e) = addV (addV c e) d) : addV a b = addV c d := by
  obtain ⟨a1, a2, a3, a4⟩ := a
  obtain ⟨b1, b2, b3, b4⟩ := b
  obtain ⟨c1, c2, c3, c4⟩ := c
  obtain ⟨d1, d2, d3, d4⟩ := d
  obtain ⟨e1, e2, e3, e4⟩ := e
  simp only [addV, Prod.mk.injEq] at h ⊢
  omega
/-- What is read of the first of two is read of both, and then the second. -/
theorem mdl_ext (D : Nat) : ∀ (n : Nat) (T us us' : List Tok), us.length ≤ n → Fine us → Al T us us' → ∀ (m m0 mu : MdlO) (r : List Tok), (St.good us).mdlOn D m = (mu, .good r) →
    ∃ m1 : MdlO, addV m1.vec m.vec = addV m0.vec mu.vec ∧ (St.good us').mdlOn D m0 = (St.good T).mdlOn D m1
  | n, T, us, us', hn, hf, ha, m, m0, mu, r, hr => by
    by_cases hk : (hd us).kind = 0
    · rw [mdl_end D (show (St.good us).hd.kind = 0 from hk)] at hr
      injection hr with h1 h2
      subst h1
      cases ha with
      | stop h0 hs => exact ⟨m0, rfl, rfl⟩
      | @cons t t' us2 us2' h1 h2 h3 =>
        exfalso
        cases us2 with
        | nil => cases h3
        | cons u us3 => exact hf.1 hk
    · obtain ⟨k1, k2, k3⟩ := ha.more hk
      have hT : ∀ x, isT (St.good us').hd x = isT (St.good us).hd x := fun x => (isT_same k1 k2 x).symm
      have hf2 : Fine us.tail := (hf.more hk).1
      have hl2 : us.tail.length < us.length := by have := hf.ne; cases us with
        | nil => exact absurd rfl this
        | cons t q => simp
      have go : ∀ (F : St → St), SQu F → (∀ st, Le (F st) st) → ∀ (m' m0' : MdlO) (e : Nat × Nat × Nat × Nat), m'.vec = addV m.vec e → m0'.vec = addV m0.vec e → (F (.good us.tail)).mdlOn D m' = (mu, .good r) →
          ∃ m1 : MdlO, addV m1.vec m.vec = addV m0.vec mu.vec ∧ (F (.good us'.tail)).mdlOn D m0' = (St.good T).mdlOn D m1 := by
        intro F hF hL m' m0' e hm hm0 hr
        cases hq : F (.good us.tail) with
        | bad c p => rw [hq, mdl_bad] at hr; injection hr with _ hr; cases hr
        | good r1 =>
          rw [hq] at hr
          obtain ⟨r1', h4, h5⟩ := hF.ext T us.tail us'.tail k3 r1 hq
          have hle := hL (.good us.tail)
          rw [hq] at hle
          have hlen : r1.length ≤ us.tail.length := hle.1
          have hfi : Fine r1 := hle.2 hf2
          cases n with
          | zero => omega
          | succ n =>
            obtain ⟨m1, h6, h7⟩ := mdl_ext D n T r1 r1' (by omega) hfi h5 m' m0' mu r hr
            rw [hm, hm0] at h6
            exact ⟨m1, vec_sub h6, by rw [h4]; exact h7⟩
      cases h0 : isT (St.good us).hd wConst with
      | true =>
        rw [mdl_one0 D m h0] at hr
        rw [mdl_one0 D m0 ((hT wConst).trans h0)]
        exact go (fun st => (st.defn D).2) (su_defn D) (defn_le D) _ _ (1, 0, 0, 0) (by simp [MdlO.vec, addV]) (by simp [MdlO.vec, addV]) hr
      | false =>
        cases h1 : isT (St.good us).hd wFormula with
        | true =>
          rw [mdl_one1 D m h0 h1] at hr
          rw [mdl_one1 D m0 ((hT wConst).trans h0) ((hT wFormula).trans h1)]
          exact go (fun st => (st.defn D).2) (su_defn D) (defn_le D) _ _ (0, 1, 0, 0) (by simp [MdlO.vec, addV]) (by simp [MdlO.vec, addV]) hr
        | false =>
          cases h2 : isT (St.good us).hd wLabel with
          | true =>
            rw [mdl_one2 D m h0 h1 h2] at hr
            rw [mdl_one2 D m0 ((hT wConst).trans h0) ((hT wFormula).trans h1) ((hT wLabel).trans h2)]
            exact go (fun st => (st.labl D).2) (su_labl D) (labl_le D) _ _ (0, 0, 1, 0) (by simp [MdlO.vec, addV]) (by simp [MdlO.vec, addV]) hr
          | false =>
            cases h3 : isT (St.good us).hd wModule with
            | true =>
              rw [mdl_one3 D m h0 h1 h2 h3] at hr
              rw [mdl_one3 D m0 ((hT wConst).trans h0) ((hT wFormula).trans h1) ((hT wLabel).trans h2) ((hT wModule).trans h3)]
              exact go (fun st => (st.modl D).2) (su_modl D) (modl_le D) _ _ (0, 0, 0, 1) (by simp [MdlO.vec, addV]) (by simp [MdlO.vec, addV]) hr
            | false =>
              obtain ⟨c, p, hb⟩ := mdl_none D m (st := .good us) hk h0 h1 h2 h3
              rw [hb] at hr
              injection hr with _ hr
              cases hr
end
section
theorem al_same {T : List Tok} {E : Tok} (h0 : E.kind = 0) (hs : Stop (hd T)) : ∀ ini : List Tok, Al T (ini ++ [E]) (ini ++ T)
  | [] => .stop h0 hs
  | _ :: ini => .cons rfl rfl (al_same h0 hs ini)
theorem al_shift {E : Tok} (h0 : E.kind = 0) (a b : Nat) : ∀ ini : List Tok, Al [mv b E] ((ini ++ [E]).map (mv a)) ((ini ++ [E]).map (mv b))
  | [] => .stop (show (mv a E).kind = 0 from h0) (stop_end (show (hd [mv b E]).kind = 0 from h0))
  | _ :: ini => .cons rfl rfl (al_shift h0 a b ini)
theorem stop_word {t : Tok} {x : List UInt8} (h : isT t x = true) (hr : rk x = 9) : Stop t := by
  have ht := isT_text h
  refine ⟨fun k hk => ?_, ?_, ?_⟩
  · unfold sg
    rw [ht, hr]
    cases hx : (9 == k) with
    | false => simp
    | true => have : 9 = k := by simpa using hx
              omega
  · cases hx : isT t [63] with
    | false => rfl
    | true => rw [(isT_text hx).symm.trans ht |>.symm] at hr; exact absurd hr (by decide)
  · cases hx : isT t [61, 62] with
    | false => rfl
    | true => rw [(isT_text hx).symm.trans ht |>.symm] at hr; exact absurd hr (by decide)
theorem mdl_stop {D : Nat} {m mu : MdlO} {us r : List Tok} (h : (St.good us).mdlOn D m = (mu, .good r)) : Stop (hd us) := by
  by_cases hk : (hd us).kind = 0
  · exact stop_end hk
  · cases h0 : isT (hd us) wConst with
    | true => exact stop_word h0 (by decide)
    | false =>
      cases h1 : isT (hd us) wFormula with
      | true => exact stop_word h1 (by decide)
      | false =>
        cases h2 : isT (hd us) wLabel with
        | true => exact stop_word h2 (by decide)
        | false =>
          cases h3 : isT (hd us) wModule with
          | true => exact stop_word h3 (by decide)
          | false =>
            obtain ⟨c, p, hb⟩ := mdl_none D m (st := .good us) hk h0 h1 h2 h3
            rw [hb] at h
            injection h with _ h
            cases h
theorem stop_mv {t : Tok} {d : Nat} (h : Stop t) : Stop (mv d t) := h
theorem parse_mdl {D : Nat} {l : List UInt8} {m : MdlO} (h : parseM D l = .ok m) : ∃ t us r, toks l = .ok (t :: us) ∧ isT t wMdp = true ∧ (St.good us).mdlOn D mdl0 = (m, .good r) := by
  unfold parseM at h
  cases ht : toks l with
  | error x => rw [ht] at h; cases h
  | ok ts =>
    rw [ht] at h
    dsimp only at h
    cases hq : St.mdl D (.good ts) with
    | mk m' st =>
      rw [hq] at h
      cases st with
      | bad c p => cases h
      | good r =>
        injection h with h
        subst h
        unfold St.mdl at hq
        cases hi : isT (hd ts) wMdp with
        | false =>
          rw [show (St.good ts).want wMdp = .bad 20 (hd ts).pos by simp [St.want, St.hd, hi, St.fail], mdl_bad] at hq
          injection hq with _ hq
          cases hq
        | true =>
          rw [show (St.good ts).want wMdp = .good ts.tail by simp [St.want, St.hd, hi, St.tl]] at hq
          cases ts with
          | nil => exact absurd rfl (isT_kind hi)
          | cons t us => exact ⟨t, us, r, rfl, hi, hq⟩
theorem parse_of {D : Nat} {l : List UInt8} {t : Tok} {us : List Tok} (ht : toks l = .ok (t :: us)) (hi : isT t wMdp = true) : parseM D l = endM ((St.good us).mdlOn D mdl0) := by
  unfold parseM
  rw [ht]
  show endM (((St.good (t :: us)).want wMdp).mdlOn D mdl0) = _
  rw [show (St.good (t :: us)).want wMdp = .good us by simp [St.want, St.hd, hd, hi, St.tl]]
theorem mdp_toks : scanR [109, 100, 112] 0 = .ok [⟨1, wMdp, 0⟩, ⟨0, [], 3⟩] := by decide +kernel
theorem vec_zero (a b : Nat × Nat × Nat × Nat) (h : addV a mdl0.vec = addV mdl0.vec b) : a = b := by
  obtain ⟨a1, a2, a3, a4⟩ := a
  obtain ⟨b1, b2, b3, b4⟩ := b
  simpa [addV, MdlO.vec, mdl0] using h
theorem vec_zero' (a b : Nat × Nat × Nat × Nat) (h : addV a mdl0.vec = b) : a = b := by
  obtain ⟨a1, a2, a3, a4⟩ := a
  obtain ⟨b1, b2, b3, b4⟩ := b
  simpa [addV, MdlO.vec, mdl0] using h
theorem join_texts {D : Nat} {s t : List UInt8} {ma mb : MdlO} (hs : s.length ≤ 65536) (ht : t.length + 4 ≤ 65536) (ha : parseM D s = .ok ma) (hb : parseM D (109 :: 100 :: 112 :: 10 :: t) = .ok mb) : ∃ mc, parseM D (s ++ 10 :: t) = .ok mc ∧ mc.vec = addV ma.vec mb.vec := by
  obtain ⟨ta, usa, ra, h1, h2, h3⟩ := parse_mdl ha
  obtain ⟨tb, usb, rb, k1, k2, k3⟩ := parse_mdl hb
  obtain ⟨ini, e1, e2⟩ := (scan_app t s.length s 0 (Nat.le_refl _)).1 _ h1
  obtain ⟨inb, f1, f2⟩ := (scan_app t 3 [109, 100, 112] 0 (by decide)).1 _ mdp_toks
  have hinb : inb = [⟨1, wMdp, 0⟩] := by
    have : inb ++ [(⟨0, [], 3⟩ : Tok)] = [⟨1, wMdp, 0⟩] ++ [⟨0, [], 3⟩] := f1.symm
    exact (List.append_inj' this rfl).1
  subst hinb
  have k1' : onto [⟨1, wMdp, 0⟩] (scanR t 4) = .ok (tb :: usb) := f2.symm.trans k1
  have m4 := scan_mv 4 t.length t 0 (Nat.le_refl _)
  have md := scan_mv (s.length + 1) t.length t 0 (Nat.le_refl _)
  cases h0 : scanR t 0 with
  | error x =>
    rw [h0] at m4
    rw [show (0 : Nat) + 4 = 4 from rfl] at m4
    rw [m4] at k1'
    cases k1'
  | ok t0 =>
    rw [h0] at m4 md
    rw [show (0 : Nat) + 4 = 4 from rfl] at m4
    rw [m4] at k1'
    obtain ⟨in0, g1, _⟩ := (scan_app [] t.length t 0 (Nat.le_refl _)).1 _ h0
    have k4 : tb = ⟨1, wMdp, 0⟩ ∧ usb = t0.map (mv 4) := by
      simp only [onto, mvR] at k1'
      injection k1' with k1'
      injection k1' with e3 e4
      exact ⟨e3.symm, e4.symm⟩
    obtain ⟨_, rfl⟩ := k4
    have hstop : Stop (hd (t0.map (mv (s.length + 1)))) := by
      have h := mdl_stop k3
      cases t0 with
      | nil => exact h
      | cons x y => exact h
    have h2k := isT_kind h2
    cases ini with
    | nil =>
      injection e1 with e3 _
      subst e3
      exact absurd rfl h2k
    | cons x ini =>
      injection e1 with e3 e4
      subst e3
      have hfa : Fine usa := ((fine_toks hs h1).more h2k).1
      have hfb : Fine (t0.map (mv 4)) := ((fine_toks (l := 109 :: 100 :: 112 :: 10 :: t) (by simp; omega) k1).more (isT_kind k2)).1
      have hc : toks (s ++ 10 :: t) = .ok (ta :: (ini ++ t0.map (mv (s.length + 1)))) := by
        have e5 : scanR (s ++ 10 :: t) 0 = onto (ta :: ini) (scanR t (0 + s.length + 1)) := e2
        rw [show 0 + s.length + 1 = 0 + (s.length + 1) by omega, md] at e5
        exact e5
      have hal : Al (t0.map (mv (s.length + 1))) usa (ini ++ t0.map (mv (s.length + 1))) := by
        rw [e4]
        exact al_same rfl hstop ini
      obtain ⟨m1, q1, q2⟩ := mdl_ext D usa.length _ usa _ (Nat.le_refl _) hfa hal mdl0 mdl0 ma ra h3
      have hal2 : Al [mv (s.length + 1) ⟨0, [], 0 + t.length⟩] (t0.map (mv 4)) (t0.map (mv (s.length + 1))) := by
        rw [g1]
        exact al_shift rfl 4 (s.length + 1) in0
      obtain ⟨m2, q3, q4⟩ := mdl_ext D _ _ _ _ (Nat.le_refl _) hfb hal2 mdl0 m1 mb rb k3
      refine ⟨m2, ?_, ?_⟩
      · rw [parse_of hc h2, q2, q4, mdl_end D (show (St.good [mv (s.length + 1) ⟨0, [], 0 + t.length⟩]).hd.kind = 0 from rfl)]
        rfl
      · rw [← vec_zero _ _ q1]
        exact vec_zero' _ _ q3
end
end Go.Proofs.YtodijgndbjfbgaaGreatDoor
