/-
  The tokens of a told model.
-/
import Derived.Test.YtodijgndbjfbgaaGreatDoorT1
namespace Go.Proofs.YtodijgndbjfbgaaGreatDoor
/-- What ends a name or a number. -/
def sepW (x : UInt8) : Prop := nameB x = false ∧ digitB x = false
theorem sep_nameW {x : UInt8} (hx : sepW x) : nameB x = false ∧ digitB x = false := hx
def BehW (t : List UInt8) : Prop := t = [] ∨ ∃ x r, t = x :: r ∧ sepW x
theorem while_bw {p : UInt8 → Bool} (hp : ∀ x, sepW x → p x = false) {l t : List UInt8} (h : ∀ c ∈ l, p c = true) (ht : BehW t) : (l ++ t).takeWhile p = l := by
  rcases ht with rfl | ⟨x, r, rfl, hx⟩
  · rw [List.append_nil]
    clear hp
    induction l with
    | nil => rfl
    | cons c r ih => rw [List.takeWhile_cons, if_pos (h c List.mem_cons_self), ih (fun d hd => h d (List.mem_cons_of_mem _ hd))]
  · exact while_all (hp x hx) r h
def ScW (l : List UInt8) (ks : List Key) : Prop := ∀ t p, BehW t → ∃ ini, ini.map key = ks ∧ scanR (l ++ t) p = onto ini (scanR t (p + l.length))
theorem scw_name {l : List UInt8} (h : nameL l) : ScW l [(1, l)] := by
  intro t p ht
  obtain ⟨⟨c, r, rfl, hc⟩, ha⟩ := h
  have hd : digitB c = false := by
    simp only [letterB, Bool.or_eq_true, Bool.and_eq_true, decide_eq_true_eq, beq_iff_eq] at hc
    simp only [digitB, Bool.and_eq_false_iff, decide_eq_false_iff_not]
    omega
  have hw := while_bw (fun x hx => (sep_nameW hx).1) ha ht
  have hm : meas (c :: r ++ t) = (1, (c :: r).length, 0) := by
    rw [List.cons_append, meas, if_neg (by simp [hd]), if_pos hc]
    unfold cnt
    rw [← List.cons_append, hw]
  exact ⟨[⟨1, c :: r, p⟩], rfl, tok_scan (by simp) hm (by decide) p⟩
theorem scw_numb {l : List UInt8} (h0 : l ≠ []) (ha : ∀ c ∈ l, digitB c = true) (hv : valOf l < 9223372036854775808) : ScW l [(2, l)] := by
  intro t p ht
  have hw := while_bw (fun x hx => (sep_nameW hx).2) ha ht
  cases l with
  | nil => exact absurd rfl h0
  | cons c r =>
    have hm : meas (c :: r ++ t) = (2, (c :: r).length, 0) := by
      rw [List.cons_append, meas, if_pos (ha c List.mem_cons_self)]
      unfold cnt
      rw [← List.cons_append, hw, if_pos hv]
    exact ⟨[⟨2, c :: r, p⟩], rfl, tok_scan (by simp) hm (by decide) p⟩
theorem scw_par {l : List UInt8} {ks : List Key} (h : ScW l ks) (b : Bool) : ScW (parX b l) (tkP b ks) := by
  cases b with
  | false => simpa [parX, tkP] using h
  | true =>
    intro t p _
    obtain ⟨ini, h1, h2⟩ := h (41 :: t) (p + 1) (.inr ⟨41, t, rfl, by unfold sepW; decide⟩)
    refine ⟨[⟨4, [40], p⟩] ++ ini ++ [⟨4, [41], p + 1 + l.length⟩], by simp [tkP, key, h1], ?_⟩
    have e : parX true l ++ t = 40 :: (l ++ 41 :: t) := by simp [parX]
    rw [e, scan_solo solo_lp, h2, scan_solo solo_rp, onto_onto, onto_onto]
    congr 2
    simp [parX]
    omega
theorem scw_pre {c : UInt8} (hc : c = 45 ∨ c = 33) {l : List UInt8} {ks : List Key} (h : ScW l ks) (hf : FstOk l) : ScW (c :: l) ((4, [c]) :: ks) := by
  intro t p ht
  obtain ⟨ini, h1, h2⟩ := h t (p + 1) ht
  have hm : meas ([c] ++ (l ++ t)) = (4, ([c] : List UInt8).length, 0) := by
    obtain ⟨d, r, rfl, d1, d2⟩ := hf
    rcases hc with rfl | rfl <;> simp [meas, digitB, letterB, quoteB, signN, twoB, oneB, d1, d2]
  refine ⟨⟨4, [c], p⟩ :: ini, by simp [key, h1], ?_⟩
  have e : c :: l ++ t = [c] ++ (l ++ t) := rfl
  rw [e, tok_scan (by simp) hm (by decide)]
  show onto [⟨4, [c], p⟩] (scanR (l ++ t) (p + 1)) = _
  rw [h2, onto_onto]
  congr 2
  simp
  omega
theorem scw_join {x : List UInt8} (hx : x ∈ sgnL) {l m : List UInt8} {ks ms : List Key} (hl : ScW l ks) (hm : ScW m ms) : ScW (l ++ (32 :: x ++ 32 :: m)) (ks ++ (4, x) :: ms) := by
  intro t p ht
  obtain ⟨i1, h1, h2⟩ := hl (32 :: (x ++ 32 :: (m ++ t))) p (.inr ⟨32, _, rfl, by unfold sepW; decide⟩)
  obtain ⟨i2, h3, h4⟩ := hm t (p + l.length + x.length + 2) ht
  refine ⟨i1 ++ [⟨4, x, p + l.length + 1⟩] ++ i2, by simp [key, h1, h3], ?_⟩
  have e : l ++ (32 :: x ++ 32 :: m) ++ t = l ++ 32 :: (x ++ 32 :: (m ++ t)) := by simp
  rw [e, h2, sgn_scan hx, h4, onto_onto, onto_onto]
  congr 2
  simp
  omega
theorem scw_shw : ∀ e, Ok e → ScW (shw e) (tk e)
  | .leaf op nm n p, h => by
    rcases h with ⟨rfl, _, hv⟩ | ⟨rfl, _, hn, _⟩ | ⟨ho, _⟩
    · have e1 : shw (.leaf opNum nm n p) = dgs n := by simp [shw]
      have e2 : tk (.leaf opNum nm n p) = [(2, dgs n)] := by simp [tk]
      rw [e1, e2]
      exact scw_numb (dgs_all n).1 (dgs_all n).2 (by rw [val_dgs]; exact hv)
    · have hne : ¬ opName = opNum := by decide
      have e1 : shw (.leaf opName nm n p) = nm := by simp [shw, hne]
      have e2 : tk (.leaf opName nm n p) = [(1, nm)] := by simp [tk, hne]
      rw [e1, e2]
      exact scw_name hn
    · have n1 : ¬ op = opNum := by rcases ho with rfl | rfl <;> decide
      have n2 : ¬ op = opName := by rcases ho with rfl | rfl <;> decide
      have e1 : shw (.leaf op nm n p) = op := by simp [shw, n1, n2]
      have e2 : tk (.leaf op nm n p) = [(1, op)] := by simp [tk, n1, n2]
      rw [e1, e2]
      refine scw_name ?_
      rcases ho with rfl | rfl
      · exact ⟨⟨116, [114, 117, 101], rfl, by decide⟩, by decide⟩
      · exact ⟨⟨102, [97, 108, 115, 101], rfl, by decide⟩, by decide⟩
  | .un op a p, h => by
    have ha := scw_par (scw_shw a h.2) (decide (rk a.op < rk op))
    have hf : FstOk (parX (decide (rk a.op < rk op)) (shw a)) := by simpa using fst_par (fst_shw a h.2) (decide (rk a.op < rk op)) []
    rcases h.1 with rfl | rfl
    · have hne : ¬ ([33] : List UInt8) = opNeg := by decide
      rw [shw, tk, if_neg hne, if_neg hne]
      exact scw_pre (.inr rfl) ha hf
    · rw [shw, tk, if_pos rfl, if_pos rfl]
      exact scw_pre (.inl rfl) ha hf
  | .bin op a b p, h => scw_join (rk_sgn h.1) (scw_par (scw_shw a h.2.1) _) (scw_par (scw_shw b h.2.2) _)
  | .cond a b c p, h => by
    have h1 := scw_join (x := [58]) (by decide) (scw_shw b h.2.1) (scw_shw c h.2.2)
    exact scw_join (x := [63]) (by decide) (scw_par (scw_shw a h.1) (decide (rk a.op < 1))) h1
def tkX (x : Option Ex) : List Key := match x with
  | some e => tk e
  | none => []
def joinK (s : Key) : List (List Key) → List Key
  | [] => []
  | [x] => x
  | x :: y :: r => x ++ s :: joinK s (y :: r)
def tkMean (x : Option Ex) : List Key := (4, [61]) :: (tkX x ++ [(4, [59])])
def tkDef (w : List UInt8) (d : DefO) : List Key := (1, w) :: (1, d.nm) :: tkMean d.x
def tkLab (d : DefO) : List Key := (1, wLabel) :: (3, d.nm) :: tkMean d.x
def tkVal (v : VarO) : List Key := if v.isB then [(1, wBool)] else (4, [91]) :: (tkX v.low ++ (4, [46, 46]) :: (tkX v.high ++ [(4, [93])]))
def tkInit (v : VarO) : List Key := if v.has then (1, wInit) :: tkX v.ini else []
def tkVar (v : VarO) : List Key := (1, v.nm) :: (4, [58]) :: (tkVal v ++ (tkInit v ++ [(4, [59])]))
def tkSet (d : DefO) : List Key := (4, [40]) :: (1, d.nm) :: (4, [39]) :: (4, [61]) :: (tkX d.x ++ [(4, [41])])
def tkSets (l : List DefO) : List Key := if l = [] then [(1, opTrue)] else joinK (4, [38]) (l.map tkSet)
def tkBr (b : BrO) : List Key := (2, dgs b.wt) :: (4, [58]) :: tkSets b.sets
def tkAct (c : CmdO) : List Key := if c.act = [] then [] else [(1, c.act)]
def tkCmd (c : CmdO) : List Key := (4, [91]) :: (tkAct c ++ (4, [93]) :: (tkX c.guard ++ (4, [45, 62]) :: (joinK (4, [43]) (c.brs.map tkBr) ++ [(4, [59])])))
def tkMod (m : ModO) : List Key := (1, wModule) :: (1, m.nm) :: ((m.vars.map tkVar).flatten ++ ((m.cmds.map tkCmd).flatten ++ [(1, wEnd)]))
def tkM (m : MdlO) : List Key := (1, wMdp) :: ((m.consts.map (tkDef wConst)).flatten ++ ((m.formulas.map (tkDef wFormula)).flatten ++ ((m.labels.map tkLab).flatten ++ (m.mods.map tkMod).flatten)))

/-- From the text s on, tokens of these keys, then the text t. -/
def Scn (s t : List UInt8) (ks : List Key) : Prop := ∀ p, ∃ ini p', ini.map key = ks ∧ scanR s p = onto ini (scanR t p')
theorem Scn.refl (t : List UInt8) : Scn t t [] := fun p => ⟨[], p, rfl, (onto_nil _).symm⟩
theorem Scn.trans {s t u : List UInt8} {k l : List Key} (h : Scn s t k) (g : Scn t u l) : Scn s u (k ++ l) := fun p => by
  obtain ⟨i1, p1, h1, h2⟩ := h p
  obtain ⟨i2, p2, h3, h4⟩ := g p1
  exact ⟨i1 ++ i2, p2, by simp [h1, h3], by rw [h2, h4, onto_onto]⟩
theorem Scn.cast {s t s' : List UInt8} {k l : List Key} (h : Scn s t k) (hs : s' = s) (hk : k = l) : Scn s' t l := by subst hs; subst hk; exact h
theorem Scn.blank (t : List UInt8) : Scn (32 :: t) t [] := fun p => ⟨[], p + 1, rfl, by rw [scan_blank, onto_nil]⟩
theorem Scn.line (t : List UInt8) : Scn (10 :: t) t [] := fun p => ⟨[], p + 1, rfl, by rw [line_skip, onto_nil]⟩
theorem Scn.word {w t : List UInt8} (h : nameL w) (ht : BehW t) : Scn (w ++ t) t [(1, w)] := fun p => by
  obtain ⟨ini, h1, h2⟩ := scw_name h t p ht
  exact ⟨ini, _, h1, h2⟩
theorem Scn.num {n : Nat} {t : List UInt8} (h : n < 9223372036854775808) (ht : BehW t) : Scn (dgs n ++ t) t [(2, dgs n)] := fun p => by
  obtain ⟨ini, h1, h2⟩ := scw_numb (dgs_all n).1 (dgs_all n).2 (by rw [val_dgs]; exact h) t p ht
  exact ⟨ini, _, h1, h2⟩
theorem Scn.solo {c : UInt8} (h : soloB c) (t : List UInt8) : Scn (c :: t) t [(4, [c])] := fun p => ⟨_, _, rfl, scan_solo h t p⟩
theorem Scn.sgn {x : List UInt8} (h : x ∈ sgnL) (t : List UInt8) : Scn (32 :: (x ++ 32 :: t)) t [(4, x)] := fun p => ⟨_, _, rfl, sgn_scan h t p⟩
theorem Scn.two {c d : UInt8} (h : (c = 46 ∧ d = 46) ∨ (c = 45 ∧ d = 62)) (t : List UInt8) : Scn (c :: d :: t) t [(4, [c, d])] := fun p => by
  have hm : meas ([c, d] ++ t) = (4, ([c, d] : List UInt8).length, 0) := by
    rcases h with ⟨rfl, rfl⟩ | ⟨rfl, rfl⟩ <;> simp [meas, digitB, letterB, quoteB, signN, twoB]
  exact ⟨_, _, rfl, tok_scan (l := [c, d]) (by simp) hm (by decide) p⟩
theorem Scn.x {D : Nat} {x : Option Ex} {t : List UInt8} (h : OkO D x) (ht : BehW t) : Scn (shO x ++ t) t (tkX x) := fun p => by
  obtain ⟨e, rfl, h1, _⟩ := h
  obtain ⟨ini, h2, h3⟩ := scw_shw e h1 t p ht
  exact ⟨ini, _, h2, h3⟩
theorem Scn.label {nm : List UInt8} (h : labM nm) (t : List UInt8) : Scn (34 :: (nm ++ 34 :: t)) t [(3, nm)] := fun p => by
  obtain ⟨h1, h2, h3⟩ := h
  have hw : (nm ++ 34 :: t).takeWhile labelB = nm := while_all (x := 34) (by decide) t h3
  have hc : cnt labelB (nm ++ 34 :: t) = nm.length := by unfold cnt; rw [hw]
  have hl : labN (nm ++ 34 :: t) = nm.length + 2 := by
    unfold labN
    rw [hc, if_neg]
    rintro (h | h | h)
    · omega
    · omega
    · rw [List.getElem?_append_right (Nat.le_refl _), Nat.sub_self] at h
      exact h (by simp)
  have hm : meas (34 :: (nm ++ 34 :: t)) = (3, nm.length + 2, 0) := by
    rw [meas, if_neg (by decide), if_neg (by decide), if_pos (by decide), hl, if_neg (by omega)]
  have hb : blanks false (34 :: (nm ++ 34 :: t)) = 0 := by
    rw [blanks, if_neg (by decide), if_neg (by rintro ⟨h, _⟩; revert h; decide)]
  refine ⟨[⟨3, nm, p⟩], p + (nm.length + 2), rfl, ?_⟩
  rw [scanR_step, hb]
  simp only [List.drop_zero, Nat.add_zero]
  rw [if_neg (by simp), hm, if_pos rfl]
  simp only
  have e1 : (34 :: (nm ++ 34 :: t)).take (nm.length + 2) = 34 :: (nm ++ [34]) := by
    rw [List.take_succ_cons, List.take_append, List.take_of_length_le (by omega : nm.length ≤ nm.length + 1)]
    simp
  have e2 : (34 :: (nm ++ 34 :: t)).drop (nm.length + 2) = t := by
    rw [List.drop_succ_cons, List.drop_append, List.drop_eq_nil_of_le (by omega : nm.length ≤ nm.length + 1)]
    simp
  have e3 : bareL 3 (34 :: (nm ++ [34])) = nm := by
    unfold bareL
    rw [if_pos rfl]
    simp
  rw [e1, e2, e3]
theorem Scn.list {α : Type} {f : α → List UInt8} {k : α → List Key} {t : List UInt8} : ∀ {xs : List α}, (∀ a ∈ xs, ∀ t, Scn (f a ++ t) t (k a)) → Scn ((xs.map f).flatten ++ t) t ((xs.map k).flatten)
  | [], _ => Scn.refl t
  | a :: xs, h => ((h a List.mem_cons_self _).trans (Scn.list (xs := xs) fun b hb => h b (List.mem_cons_of_mem _ hb))).cast (by simp) (by simp)
theorem Scn.join {α : Type} {f : α → List UInt8} {k : α → List Key} {c : UInt8} (hc : [c] ∈ sgnL) {t : List UInt8} (ht : BehW t) : ∀ {xs : List α}, (∀ a ∈ xs, ∀ t, BehW t → Scn (f a ++ t) t (k a)) → Scn (joinL [32, c, 32] (xs.map f) ++ t) t (joinK (4, [c]) (xs.map k))
  | [], _ => Scn.refl t
  | [a], h => h a List.mem_cons_self t ht
  | a :: b :: xs, h => ((h a List.mem_cons_self (32 :: ([c] ++ 32 :: (joinL [32, c, 32] ((b :: xs).map f) ++ t))) (.inr ⟨32, _, rfl, by unfold sepW; decide⟩)).trans ((Scn.sgn hc _).trans (Scn.join hc ht (xs := b :: xs) fun x hx => h x (List.mem_cons_of_mem _ hx)))).cast (by simp [joinL]) (by simp [joinK])
theorem bw {c : UInt8} {t : List UInt8} (h : sepW c) : BehW (c :: t) := .inr ⟨c, t, rfl, h⟩
theorem s32 : sepW 32 := by unfold sepW; decide
theorem s10 : sepW 10 := by unfold sepW; decide
theorem s59 : sepW 59 := by unfold sepW; decide
theorem s46 : sepW 46 := by unfold sepW; decide
theorem s93 : sepW 93 := by unfold sepW; decide
theorem s41 : sepW 41 := by unfold sepW; decide
theorem s39 : sepW 39 := by unfold sepW; decide
theorem o59 : soloB 59 := by unfold soloB; decide
theorem o91 : soloB 91 := by unfold soloB; decide
theorem o93 : soloB 93 := by unfold soloB; decide
theorem o39 : soloB 39 := by unfold soloB; decide
theorem nmwd : nameL wMdp ∧ nameL wConst ∧ nameL wFormula ∧ nameL wLabel ∧ nameL wModule ∧ nameL wEnd ∧ nameL wBool ∧ nameL wInit ∧ nameL opTrue :=
  ⟨⟨⟨_, _, rfl, by decide⟩, by decide⟩, ⟨⟨_, _, rfl, by decide⟩, by decide⟩, ⟨⟨_, _, rfl, by decide⟩, by decide⟩, ⟨⟨_, _, rfl, by decide⟩, by decide⟩, ⟨⟨_, _, rfl, by decide⟩, by decide⟩, ⟨⟨_, _, rfl, by decide⟩, by decide⟩, ⟨⟨_, _, rfl, by decide⟩, by decide⟩, ⟨⟨_, _, rfl, by decide⟩, by decide⟩, ⟨⟨_, _, rfl, by decide⟩, by decide⟩⟩
section
variable {D : Nat}
theorem scn_mean {x : Option Ex} (h : OkO D x) (t : List UInt8) : Scn (32 :: ([61] ++ 32 :: (shO x ++ 59 :: 10 :: t))) t (tkMean x) :=
  ((Scn.sgn (by decide) _).trans ((Scn.x h (bw s59)).trans ((Scn.solo o59 _).trans (Scn.line t)))).cast rfl (by simp [tkMean])
theorem scn_def {w : List UInt8} (hw : nameL w) {d : DefO} (h : OkD D d) (t : List UInt8) : Scn (tlDef w d ++ t) t (tkDef w d) :=
  ((Scn.word hw (bw s32)).trans ((Scn.blank _).trans ((Scn.word h.1.1 (bw s32)).trans (scn_mean h.2 t)))).cast (by simp [tlDef]) (by simp [tkDef])
theorem scn_lab {d : DefO} (h : OkLb D d) (t : List UInt8) : Scn (tlLab d ++ t) t (tkLab d) :=
  ((Scn.word nmwd.2.2.2.1 (bw s32)).trans ((Scn.blank _).trans ((Scn.label h.1 _).trans (scn_mean h.2 t)))).cast (by simp [tlLab]) (by simp [tkLab])
theorem scn_val {v : VarO} (h : OkV D v) {t : List UInt8} (ht : BehW t) : Scn (tlVal v ++ t) t (tkVal v) := by
  rcases h.vl with ⟨h1, _⟩ | ⟨h1, h2, h3⟩
  · exact (Scn.word nmwd.2.2.2.2.2.2.1 ht).cast (by simp [tlVal, h1]) (by simp [tkVal, h1])
  · exact ((Scn.solo o91 _).trans ((Scn.x h2 (bw s46)).trans ((Scn.two (.inl ⟨rfl, rfl⟩) _).trans ((Scn.x h3 (bw s93)).trans (Scn.solo o93 t))))).cast (by simp [tlVal, h1]) (by simp [tkVal, h1])
theorem scn_var {v : VarO} (h : OkV D v) (t : List UInt8) : Scn (tlVar v ++ t) t (tkVar v) := by
  have hi : Scn ((if v.has then 32 :: (wInit ++ 32 :: shO v.ini) else []) ++ 59 :: 10 :: t) (59 :: 10 :: t) (tkInit v) := by
    rcases h.ini with ⟨h1, h2⟩ | ⟨h1, _⟩
    · exact ((Scn.blank _).trans ((Scn.word nmwd.2.2.2.2.2.2.2.1 (bw s32)).trans ((Scn.blank _).trans (Scn.x h2 (bw s59))))).cast (by simp [h1]) (by simp [tkInit, h1])
    · exact (Scn.refl _).cast (by simp [h1]) (by simp [tkInit, h1])
  have hb : BehW ((if v.has then 32 :: (wInit ++ 32 :: shO v.ini) else []) ++ 59 :: 10 :: t) := by
    split
    · exact bw s32
    · exact bw s59
  exact ((Scn.blank _).trans ((Scn.blank _).trans ((Scn.word h.nm.1 (bw s32)).trans ((Scn.sgn (x := [58]) (by decide) _).trans ((scn_val h hb).trans (hi.trans ((Scn.solo o59 _).trans (Scn.line t)))))))).cast (by simp [tlVar]) (by simp [tkVar])
theorem scn_set {d : DefO} (h : OkD D d) (t : List UInt8) : Scn (tlSet d ++ t) t (tkSet d) :=
  ((Scn.solo solo_lp _).trans ((Scn.word h.1.1 (bw s39)).trans ((Scn.solo o39 _).trans ((Scn.sgn (x := [61]) (by decide) _).trans ((Scn.x h.2 (bw s41)).trans (Scn.solo solo_rp t)))))).cast (by simp [tlSet]) (by simp [tkSet])
theorem scn_br {b : BrO} (h : OkB D b) {t : List UInt8} (ht : BehW t) : Scn (tlBr b ++ t) t (tkBr b) := by
  have hs : Scn ((if b.sets = [] then opTrue else joinL [32, 38, 32] (b.sets.map tlSet)) ++ t) t (tkSets b.sets) := by
    unfold tkSets
    split
    · exact Scn.word nmwd.2.2.2.2.2.2.2.2 ht
    · exact Scn.join (by decide) ht fun a ha t _ => scn_set (h.ss a ha) t
  exact ((Scn.num h.wt.2 (bw s32)).trans ((Scn.sgn (x := [58]) (by decide) _).trans hs)).cast (by simp [tlBr]) (by simp [tkBr])
theorem scn_cmd {c : CmdO} (h : OkC D c) (t : List UInt8) : Scn (tlCmd c ++ t) t (tkCmd c) := by
  have ha : ∀ u, Scn (c.act ++ 93 :: u) (93 :: u) (tkAct c) := fun u => by
    unfold tkAct
    split
    · next h0 => rw [h0]; exact Scn.refl _
    · next h0 => exact Scn.word (h.ac.resolve_left h0).1 (bw s93)
  exact ((Scn.blank _).trans ((Scn.blank _).trans ((Scn.solo o91 _).trans ((ha _).trans ((Scn.solo o93 _).trans ((Scn.blank _).trans ((Scn.x h.gd (bw s32)).trans ((Scn.blank _).trans ((Scn.two (.inr ⟨rfl, rfl⟩) _).trans ((Scn.blank _).trans ((Scn.join (c := 43) (by decide) (bw s59) fun b hb t ht => scn_br (h.bs b hb) ht).trans ((Scn.solo o59 _).trans (Scn.line t))))))))))))).cast (by simp [tlCmd]) (by simp [tkCmd])
theorem scn_mod {m : ModO} (h : OkMo D m) (t : List UInt8) : Scn (tlMod m ++ t) t (tkMod m) :=
  ((Scn.word nmwd.2.2.2.2.1 (bw s32)).trans ((Scn.blank _).trans ((Scn.word h.nm.1 (bw s10)).trans ((Scn.line _).trans ((Scn.list fun v hv t => scn_var (h.vs v hv) t).trans ((Scn.list fun c hc t => scn_cmd (h.cs c hc) t).trans ((Scn.word nmwd.2.2.2.2.2.1 (bw s10)).trans (Scn.line t)))))))).cast (by simp [tlMod]) (by simp [tkMod])
theorem scn_mdl {m : MdlO} (h : OkM D m) : Scn (tlM m) [] (tkM m) :=
  ((Scn.word nmwd.1 (bw s10)).trans ((Scn.line _).trans ((Scn.list fun d hd t => scn_def nmwd.2.1 (h.cs d hd) t).trans ((Scn.list fun d hd t => scn_def nmwd.2.2.1 (h.fs d hd) t).trans ((Scn.list fun d hd t => scn_lab (h.ls d hd) t).trans (Scn.list (t := []) fun d hd t => scn_mod (h.ms d hd) t)))))).cast (by simp [tlM]) (by simp [tkM])
/-- The tokens of a told model. -/
theorem toks_mdl {m : MdlO} (h : OkM D m) : ∃ us E, toks (tlM m) = .ok (us ++ [E]) ∧ E.kind = 0 ∧ us.map key = tkM m := by
  obtain ⟨ini, p', h1, h2⟩ := scn_mdl h 0
  have hl : ∀ q, scanR [] q = .ok [⟨0, [], q⟩] := fun q => by rw [scanR_step]; simp [blanks]
  rw [hl] at h2
  exact ⟨ini, _, by rw [toks_R, h2]; rfl, rfl, h1⟩
end
end Go.Proofs.YtodijgndbjfbgaaGreatDoor
