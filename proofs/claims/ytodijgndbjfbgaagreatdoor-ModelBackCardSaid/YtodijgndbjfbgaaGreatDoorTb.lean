/-
  A told model is read as the same, but for places.
-/
import Derived.Test.YtodijgndbjfbgaaGreatDoorTa
namespace Go.Proofs.YtodijgndbjfbgaaGreatDoor
theorem isT_k {t : Tok} {x : List UInt8} (h1 : t.kind = 1 ∨ t.kind = 4) (h2 : t.text = x) : isT t x = true := by
  unfold isT
  rw [h2]
  rcases h1 with h | h <;> simp [h]
theorem isT_n {t : Tok} {x : List UInt8} (h : t.text ≠ x) : isT t x = false := by unfold isT; simp [h]
section
variable {us T : List Tok} {l : List Key} {x : List UInt8} {D : Nat}
theorem want_k {k : Nat} (hk : k = 1 ∨ k = 4) (h : KT us T ((k, x) :: l)) : (St.good us).want x = .good us.tail ∧ KT us.tail T l := by
  obtain ⟨h1, h2, h3, _⟩ := h.cons
  refine ⟨?_, h3⟩
  unfold St.want
  rw [if_pos (show isT (St.good us).hd x = true from isT_k (hk.imp (fun e => h1.trans e) (fun e => h1.trans e)) h2)]
  rfl
theorem nm_is {t : Tok} (h : nmW x) (h1 : t.kind = 1) (h2 : t.text = x) : isNm t = true := by
  unfold isNm
  rw [h1, h2, h.2]
  rfl
theorem name_k (hx : nmW x) (h : KT us T ((1, x) :: l)) : (St.good us).name = ((x, (hd us).pos), .good us.tail) ∧ KT us.tail T l := by
  obtain ⟨h1, h2, h3, _⟩ := h.cons
  refine ⟨?_, h3⟩
  have h2' : (hd us).text = x := h2
  unfold St.name
  rw [if_pos (show isNm (St.good us).hd = true from nm_is hx h1 h2), show (St.good us).hd = hd us from rfl, h2']
  rfl
theorem text_k (h : KT us T ((3, x) :: l)) : (St.good us).text = ((x, (hd us).pos), .good us.tail) ∧ KT us.tail T l := by
  obtain ⟨h1, h2, h3, _⟩ := h.cons
  refine ⟨?_, h3⟩
  have h2' : (hd us).text = x := h2
  unfold St.text
  rw [if_pos (show (St.good us).hd.kind = 3 from h1), show (St.good us).hd = hd us from rfl, h2']
  rfl
/-- A sign behind which no expression goes on. -/
def StopK (k : Key) : Prop := k.1 = 4 ∧ rk k.2 = 9 ∧ k.2 ≠ [61, 62] ∧ k.2 ≠ [63]
theorem st59 : StopK (4, [59]) := ⟨rfl, by decide, by decide, by decide⟩
theorem st46 : StopK (4, [46, 46]) := ⟨rfl, by decide, by decide, by decide⟩
theorem st93 : StopK (4, [93]) := ⟨rfl, by decide, by decide, by decide⟩
theorem st41 : StopK (4, [41]) := ⟨rfl, by decide, by decide, by decide⟩
theorem st45 : StopK (4, [45, 62]) := ⟨rfl, by decide, by decide, by decide⟩
theorem expr_k {X : Option Ex} {k : Key} {m : List Key} (hX : OkO D X) (hs : StopK k) (h : KT us T (tkX X ++ k :: m)) : ∃ X' M, (St.good us).expr D = (X', .good M) ∧ bareO X' = bareO X ∧ KT M T (k :: m) := by
  obtain ⟨e, rfl, h1, h2⟩ := hX
  obtain ⟨M, h3, h4⟩ := h.app
  obtain ⟨g1, g2, _, _⟩ := h4.cons
  obtain ⟨L, rfl⟩ : ∃ L, D = L + 1 := ⟨D - 1, by omega⟩
  have z : nk 0 e = nd e := by simp [nk]
  obtain ⟨e', h5, h6⟩ := (back_all e h1).1 0 L us M (by omega) (by rw [z]; omega) (by simpa [tkP, tkX] using h3) (sp_of g2 hs.2.1 (by omega) (fun _ => hs.2.2.1) (fun _ => hs.2.2.2))
  refine ⟨some e', M, ?_, by simp [bareO, h6], h4⟩
  have h7 : (dp (L + 1)).c us = .ok e' M := h5
  show exprP ((dp (L + 1)).c us) = _
  rw [h7]
  rfl
theorem mean_k {X : Option Ex} (hX : OkO D X) (h : KT us T (tkMean X)) : ∃ X', (St.good us).mean D = (X', .good T) ∧ bareO X' = bareO X := by
  obtain ⟨h1, h2⟩ := want_k (.inr rfl) h
  obtain ⟨X', M, h3, h4, h5⟩ := expr_k hX st59 h2
  obtain ⟨h6, h7⟩ := want_k (.inr rfl) h5
  exact ⟨X', by simp only [St.mean, h1, h3, h6, h7.nil], h4⟩
theorem defn_k {d : DefO} (hd : OkD D d) (h : KT us T ((1, d.nm) :: tkMean d.x)) : ∃ d', (St.good us).defn D = (d', .good T) ∧ d'.bare = d.bare := by
  obtain ⟨h1, h2⟩ := name_k hd.1 h
  obtain ⟨X', h3, h4⟩ := mean_k hd.2 h2
  exact ⟨⟨d.nm, X', (Go.Proofs.YtodijgndbjfbgaaGreatDoor.hd us).pos⟩, by simp only [St.defn, h1, h3], by simp only [DefO.bare, h4]⟩
theorem labl_k {d : DefO} (hd : OkLb D d) (h : KT us T ((3, d.nm) :: tkMean d.x)) : ∃ d', (St.good us).labl D = (d', .good T) ∧ d'.bare = d.bare := by
  obtain ⟨h1, h2⟩ := text_k h
  obtain ⟨X', h3, h4⟩ := mean_k hd.2 h2
  exact ⟨⟨d.nm, X', (Go.Proofs.YtodijgndbjfbgaaGreatDoor.hd us).pos⟩, by simp only [St.labl, h1, h3], by simp only [DefO.bare, h4]⟩
theorem vals_k {v : VarO} {m : List Key} (hv : OkV D v) (h : KT us T (tkVal v ++ m)) : ∃ b lo hi M, (St.good us).vals D = ((b, lo, hi), .good M) ∧ b = v.isB ∧ bareO lo = bareO v.low ∧ bareO hi = bareO v.high ∧ KT M T m := by
  rcases hv.vl with ⟨h1, h2, h3⟩ | ⟨h1, h2, h3⟩
  · rw [show tkVal v = [(1, wBool)] by simp [tkVal, h1], List.singleton_append] at h
    obtain ⟨g1, g2, g3, _⟩ := h.cons
    refine ⟨true, none, none, us.tail, ?_, h1.symm, by rw [h2], by rw [h3], g3⟩
    unfold St.vals
    rw [if_pos (show isT (St.good us).hd wBool = true from isT_k (.inl g1) g2)]
    rfl
  · rw [show tkVal v = (4, [91]) :: (tkX v.low ++ (4, [46, 46]) :: (tkX v.high ++ [(4, [93])])) by simp [tkVal, h1]] at h
    have h' : KT us T ((4, [91]) :: (tkX v.low ++ (4, [46, 46]) :: (tkX v.high ++ (4, [93]) :: m))) := by simpa using h
    obtain ⟨_, g2, _, _⟩ := h'.cons
    have g2' : (hd us).text = [91] := g2
    obtain ⟨a1, a2⟩ := want_k (.inr rfl) h'
    obtain ⟨lo, M1, a3, a4, a5⟩ := expr_k h2 st46 a2
    obtain ⟨a6, a7⟩ := want_k (.inr rfl) a5
    obtain ⟨hi, M2, a8, a9, b1⟩ := expr_k h3 st93 a7
    obtain ⟨b2, b3⟩ := want_k (.inr rfl) b1
    have nb : isT (St.good us).hd wBool = false := isT_n (by show (hd us).text ≠ wBool; rw [g2']; decide)
    have e1 : (St.good us).low D = (lo, .good M1) := by simp only [St.low, a1, a3]
    have e2 : (St.good us).high D = (hi, .good M2) := by simp only [St.high, e1, a6, a8]
    refine ⟨false, lo, hi, M2.tail, ?_, h1.symm, a4, a9, b3⟩
    unfold St.vals
    rw [if_neg (by simp [nb])]
    simp only [St.bnds, e1, e2, b2]
theorem init_k {v : VarO} (hv : OkV D v) (h : KT us T (tkInit v ++ [(4, [59])])) : ∃ X M, (St.good us).init D = ((X, v.has), .good M) ∧ bareO X = bareO v.ini ∧ KT M T [(4, [59])] := by
  rcases hv.ini with ⟨h1, h2⟩ | ⟨h1, h2⟩
  · rw [show tkInit v = (1, wInit) :: tkX v.ini by simp [tkInit, h1], List.cons_append] at h
    obtain ⟨g1, g2, g3, _⟩ := h.cons
    obtain ⟨X, M, a3, a4, a5⟩ := expr_k h2 st59 g3
    refine ⟨X, M, ?_, a4, a5⟩
    unfold St.init
    rw [if_pos (show isT (St.good us).hd wInit = true from isT_k (.inl g1) g2), show (St.good us).tl = .good us.tail from rfl, a3, h1]
  · rw [show tkInit v = [] by simp [tkInit, h1], List.nil_append] at h
    obtain ⟨_, g2, _, _⟩ := h.cons
    have g2' : (hd us).text = [59] := g2
    refine ⟨none, us, ?_, by rw [h2], h⟩
    unfold St.init
    rw [if_neg (by rw [show isT (St.good us).hd wInit = false from isT_n (by show (hd us).text ≠ wInit; rw [g2']; decide)]; simp), h1]
theorem vrbl_k {v : VarO} (hv : OkV D v) (h : KT us T (tkVar v)) : ∃ v', (St.good us).vrbl D = (v', .good T) ∧ v'.bare = v.bare := by
  obtain ⟨h1, h2⟩ := name_k hv.nm h
  obtain ⟨h3, h4⟩ := want_k (.inr rfl) h2
  obtain ⟨b, lo, hi, M, h5, h6, h7, h8, h9⟩ := vals_k hv h4
  obtain ⟨X, M2, a1, a2, a3⟩ := init_k hv h9
  obtain ⟨a4, a5⟩ := want_k (.inr rfl) a3
  exact ⟨⟨v.nm, b, lo, hi, X, v.has, (hd us).pos⟩, by simp only [St.vrbl, h1, h3, h5, a1, a4, a5.nil], by simp only [VarO.bare, h6, h7, h8, a2]⟩
theorem list_k {α : Type} {p : Tok → Bool} {rd : St → α × St} (hdc : Dec p rd) (kf : α → List Key) (ba : α → α) (C : Tok → Prop) : ∀ (xs : List α)
    (_ : ∀ a ∈ xs, ∀ us M, KT us M (kf a) → C (hd M) → ∃ x', rd (.good us) = (x', .good M) ∧ ba x' = ba a)
    (_ : ∀ a ∈ xs, ∀ us M, KT us M (kf a) → p (hd us) = true ∧ C (hd us)) {us T : List Tok} (_ : KT us T ((xs.map kf).flatten)) (_ : p (hd T) = false) (_ : C (hd T)),
    ∃ xs', (St.good us).list p rd = (xs', .good T) ∧ xs'.map ba = xs.map ba
  | [], _, _, us, T, hk, hT, _ => by
    have e : us = T := hk.nil
    subst e
    exact ⟨[], list_end hT, rfl⟩
  | a :: xs, hi, hp, us, T, hk, hT, hC => by
    rw [List.map_cons, List.flatten_cons] at hk
    obtain ⟨M, h1, h2⟩ := hk.app
    have hCM : C (hd M) := by
      cases xs with
      | nil =>
        have e : M = T := h2.nil
        rw [e]; exact hC
      | cons b ys =>
        rw [List.map_cons, List.flatten_cons] at h2
        obtain ⟨M2, h3, _⟩ := h2.app
        exact (hp b (by simp) M M2 h3).2
    obtain ⟨x', h4, h5⟩ := hi a List.mem_cons_self us M h1 hCM
    obtain ⟨xs', h6, h7⟩ := list_k hdc kf ba C xs (fun b hb => hi b (List.mem_cons_of_mem _ hb)) (fun b hb => hp b (List.mem_cons_of_mem _ hb)) h2 hT hC
    refine ⟨x' :: xs', ?_, by rw [List.map_cons, List.map_cons, h5, h7]⟩
    rw [list_go hdc (show p (St.good us).hd = true from (hp a List.mem_cons_self us M h1).1), h4]
    simp only
    rw [h6]
theorem joinK_cons (s : Key) (a : List Key) : ∀ r : List (List Key), joinK s (a :: r) = a ++ (r.map fun y => s :: y).flatten
  | [] => by simp [joinK]
  | y :: r => by rw [joinK, joinK_cons s y r]; simp
theorem sett_k {d : DefO} (hd : OkD D d) (h : KT us T (tkSet d)) : ∃ d', (St.good us).sett D = (d', .good T) ∧ d'.bare = d.bare := by
  obtain ⟨h1, h2⟩ := want_k (.inr rfl) h
  obtain ⟨h3, h4⟩ := name_k hd.1 h2
  obtain ⟨h5, h6⟩ := want_k (.inr rfl) h4
  obtain ⟨h7, h8⟩ := want_k (.inr rfl) h6
  obtain ⟨X, M, a1, a2, a3⟩ := expr_k hd.2 st41 h8
  obtain ⟨a4, a5⟩ := want_k (.inr rfl) a3
  exact ⟨⟨d.nm, X, (Go.Proofs.YtodijgndbjfbgaaGreatDoor.hd us.tail).pos⟩, by simp only [St.sett, h1, h3, h5, h7, a1, a4, a5.nil], by simp only [DefO.bare, a2]⟩
theorem sets_k {ss : List DefO} (hs : ∀ s ∈ ss, OkD D s) (h : KT us T (tkSets ss)) (hT : isT (hd T) [38] = false) : ∃ ss', (St.good us).sets D = (ss', .good T) ∧ ss'.map DefO.bare = ss.map DefO.bare := by
  cases ss with
  | nil =>
    have h' : KT us T [(1, opTrue)] := by simpa [tkSets] using h
    obtain ⟨g1, g2, g3, _⟩ := h'.cons
    refine ⟨[], ?_, rfl⟩
    unfold St.sets
    rw [if_pos (show isT (St.good us).hd opTrue = true from isT_k (.inl g1) g2), ← g3.nil]
    rfl
  | cons s r =>
    have h' : KT us T (tkSet s ++ ((r.map tkSet).map fun y => (4, [38]) :: y).flatten) := by
      rw [← joinK_cons]
      simpa [tkSets] using h
    rw [List.map_map] at h'
    obtain ⟨M, h1, h2⟩ := h'.app
    have h1' := h1
    unfold tkSet at h1'
    obtain ⟨_, g2, _, _⟩ := h1'.cons
    have g2' : (hd us).text = [40] := g2
    obtain ⟨s', h3, h4⟩ := sett_k (hs s List.mem_cons_self) h1
    obtain ⟨r', h5, h6⟩ := list_k (p := fun t => isT t [38]) (rd := fun s => s.tl.sett D) (dec_sett D) ((fun y => (4, [38]) :: y) ∘ tkSet) DefO.bare (fun _ => True) r
      (fun a ha us M hk _ => by
        obtain ⟨_, _, k3, _⟩ := KT.cons (l := tkSet a) hk
        exact sett_k (hs a (List.mem_cons_of_mem _ ha)) k3)
      (fun a ha us M hk => by
        obtain ⟨k1, k2, _, _⟩ := KT.cons (l := tkSet a) hk
        exact ⟨isT_k (.inr k1) k2, trivial⟩) h2 hT trivial
    refine ⟨s' :: r', ?_, by rw [List.map_cons, List.map_cons, h4, h6]⟩
    unfold St.sets
    rw [if_neg (by rw [show isT (St.good us).hd opTrue = false from isT_n (by show (hd us).text ≠ opTrue; rw [g2']; decide)]; simp), h3]
    simp only
    rw [h5]
theorem brch_k {b : BrO} (hb : OkB D b) (h : KT us T (tkBr b)) (hT : isT (hd T) [38] = false) : ∃ b', (St.good us).brch D = (b', .good T) ∧ b'.bare = b.bare := by
  unfold tkBr at h
  obtain ⟨g1, g2, g3, _⟩ := h.cons
  obtain ⟨h1, h2⟩ := want_k (.inr rfl) g3
  obtain ⟨ss', h3, h4⟩ := sets_k hb.ss h2 hT
  have g2' : (hd us).text = dgs b.wt := g2
  have hv : valOf (hd us).text = b.wt := by rw [g2', val_dgs]
  have hw : (St.good us).wght = (b.wt, .good us.tail.tail) := by
    unfold St.wght
    rw [if_pos (show (St.good us).hd.kind = 2 from g1), show (St.good us).hd = hd us from rfl, hv, if_neg (by have := hb.wt.1; omega), show (St.good us).tl = .good us.tail from rfl, h1]
  exact ⟨⟨b.wt, ss', (hd us).pos⟩, by simp only [St.brch, hw, h3]; rfl, by simp only [BrO.bare, h4]⟩
theorem brchs_k {bs : List BrO} (hne : bs ≠ []) (hb : ∀ b ∈ bs, OkB D b) (h : KT us T (joinK (4, [43]) (bs.map tkBr))) (hT : isT (hd T) [38] = false) (hT2 : isT (hd T) [43] = false) : ∃ bs', (St.good us).brchs D = (bs', .good T) ∧ bs'.map BrO.bare = bs.map BrO.bare := by
  cases bs with
  | nil => exact absurd rfl hne
  | cons b r =>
    rw [List.map_cons, joinK_cons, List.map_map] at h
    obtain ⟨M, h1, h2⟩ := h.app
    have hit : ∀ a ∈ r, ∀ us M, KT us M (((fun y => (4, [43]) :: y) ∘ tkBr) a) → isT (hd us) [43] = true ∧ isT (hd us) [38] = false := fun a ha us M hk => by
      obtain ⟨k1, k2, _, _⟩ := KT.cons (l := tkBr a) hk
      have k2' : (hd us).text = [43] := k2
      exact ⟨isT_k (.inr k1) k2, isT_n (by rw [k2']; decide)⟩
    have hM : isT (hd M) [38] = false := by
      cases r with
      | nil =>
        have e : M = T := h2.nil
        rw [e]; exact hT
      | cons a r =>
        rw [List.map_cons, List.flatten_cons] at h2
        obtain ⟨M2, h3, _⟩ := h2.app
        exact (hit a List.mem_cons_self M M2 h3).2
    obtain ⟨b', h3, h4⟩ := brch_k (hb b List.mem_cons_self) h1 hM
    obtain ⟨r', h5, h6⟩ := list_k (p := fun t => isT t [43]) (rd := fun s => s.tl.brch D) (dec_brch D) ((fun y => (4, [43]) :: y) ∘ tkBr) BrO.bare (fun t => isT t [38] = false) r
      (fun a ha us M hk hC => by
        obtain ⟨_, _, k3, _⟩ := KT.cons (l := tkBr a) hk
        exact brch_k (hb a (List.mem_cons_of_mem _ ha)) k3 hC) hit h2 hT2 hT
    refine ⟨b' :: r', ?_, by rw [List.map_cons, List.map_cons, h4, h6]⟩
    unfold St.brchs
    rw [h3]
    simp only
    rw [h5]
theorem actn_k {c : CmdO} {m : List Key} (hc : OkC D c) (h : KT us T (tkAct c ++ (4, [93]) :: m)) : ∃ M, (St.good us).actn = (c.act, .good M) ∧ KT M T ((4, [93]) :: m) := by
  by_cases h0 : c.act = []
  · rw [show tkAct c = [] by simp [tkAct, h0], List.nil_append] at h
    obtain ⟨g1, g2, _, _⟩ := h.cons
    refine ⟨us, ?_, h⟩
    unfold St.actn
    rw [if_pos (show isT (St.good us).hd [93] = true from isT_k (.inr g1) g2), h0]
  · have hn := hc.ac.resolve_left h0
    rw [show tkAct c = [(1, c.act)] by simp [tkAct, h0], List.singleton_append] at h
    obtain ⟨g1, g2, _, _⟩ := h.cons
    have g2' : (hd us).text = c.act := g2
    obtain ⟨h1, h2⟩ := name_k hn h
    refine ⟨us.tail, ?_, h2⟩
    unfold St.actn
    rw [if_neg (by
      rw [show isT (St.good us).hd [93] = false from isT_n (by
        show (hd us).text ≠ [93]
        rw [g2']
        intro e
        obtain ⟨⟨c0, r, h3, h4⟩, _⟩ := hn.1
        rw [h3] at e
        simp only [List.cons.injEq] at e
        rw [e.1] at h4
        revert h4
        decide)]
      simp), h1]
theorem cmnd_k {c : CmdO} (hc : OkC D c) (h : KT us T (tkCmd c)) : ∃ c', (St.good us).cmnd D = (c', .good T) ∧ c'.bare = c.bare := by
  unfold tkCmd at h
  obtain ⟨h1, h2⟩ := want_k (.inr rfl) h
  obtain ⟨M1, h3, h4⟩ := actn_k hc h2
  obtain ⟨h5, h6⟩ := want_k (.inr rfl) h4
  obtain ⟨X, M2, h7, h8, h9⟩ := expr_k hc.gd st45 h6
  obtain ⟨a1, a2⟩ := want_k (.inr rfl) h9
  obtain ⟨M3, a3, a4⟩ := a2.app
  obtain ⟨_, g2, _, _⟩ := a4.cons
  have g2' : (hd M3).text = [59] := g2
  obtain ⟨bs', a5, a6⟩ := brchs_k hc.ne hc.bs a3 (isT_n (by rw [g2']; decide)) (isT_n (by rw [g2']; decide))
  obtain ⟨a7, a8⟩ := want_k (.inr rfl) a4
  have eg : (St.good us).guard D = (X, .good M2) := by simp only [St.guard, h1, h3, h5, h7]
  exact ⟨⟨c.act, X, bs', (hd us).pos⟩, by simp only [St.cmnd, h1, h3, eg, a1, a5, a7, a8.nil]; rfl, by simp only [CmdO.bare, h8, a6]⟩
theorem modl_k {m : ModO} (hm : OkMo D m) (h : KT us T ((1, m.nm) :: ((m.vars.map tkVar).flatten ++ ((m.cmds.map tkCmd).flatten ++ [(1, wEnd)])))) : ∃ m', (St.good us).modl D = (m', .good T) ∧ m'.bare = m.bare := by
  obtain ⟨h1, h2⟩ := name_k hm.nm h
  obtain ⟨M1, h3, h4⟩ := h2.app
  obtain ⟨M2, h5, h6⟩ := h4.app
  obtain ⟨g1, g2, _, _⟩ := h6.cons
  have g2' : (hd M2).text = wEnd := g2
  have hc1 : ∀ a ∈ m.cmds, ∀ us M, KT us M (tkCmd a) → isT (hd us) [91] = true ∧ True := fun a ha us M hk => by
    unfold tkCmd at hk
    obtain ⟨k1, k2, _, _⟩ := hk.cons
    exact ⟨isT_k (.inr k1) k2, trivial⟩
  have hM1 : isNm (hd M1) = false := by
    cases hc : m.cmds with
    | nil =>
      rw [hc] at h5
      have e : M1 = M2 := h5.nil
      rw [e]
      unfold isNm
      rw [g2']
      simp [isWd]
    | cons a r =>
      rw [hc, List.map_cons, List.flatten_cons] at h5
      obtain ⟨M3, h7, _⟩ := h5.app
      unfold tkCmd at h7
      obtain ⟨k1, _, _, _⟩ := h7.cons
      unfold isNm
      rw [k1]
      rfl
  obtain ⟨vs', a1, a2⟩ := list_k (dec_vrbl D) tkVar VarO.bare (fun _ => True) m.vars (fun a ha us M hk _ => vrbl_k (hm.vs a ha) hk) (fun a ha us M hk => by
    unfold tkVar at hk
    obtain ⟨k1, k2, _, _⟩ := hk.cons
    exact ⟨nm_is (hm.vs a ha).nm k1 k2, trivial⟩) h3 hM1 trivial
  obtain ⟨cs', a3, a4⟩ := list_k (p := fun t => isT t [91]) (dec_cmnd D) tkCmd CmdO.bare (fun _ => True) m.cmds (fun a ha us M hk _ => cmnd_k (hm.cs a ha) hk) hc1 h5 (isT_n (by rw [g2']; decide)) trivial
  obtain ⟨a5, a6⟩ := want_k (.inl rfl) h6
  have e1 : (St.good us).vrbls D = (vs', .good M1) := by simp only [St.vrbls, h1, a1]
  have e2 : (St.good us).cmnds D = (cs', .good M2) := by simp only [St.cmnds, e1, a3]
  exact ⟨⟨m.nm, vs', cs', (hd us).pos⟩, by simp only [St.modl, h1, e1, e2, a5, a6.nil], by simp only [ModO.bare, a2, a4]⟩
/-- A list of items of one sort, read one behind the other. -/
theorem items_k {α : Type} {w : List UInt8} (kf : α → List Key) (ba : α → α) (rd : St → α × St) (put : MdlO → List α → MdlO) (hp0 : ∀ m, put m [] = m) (hp1 : ∀ m a l, put (put m [a]) l = put m (a :: l))
    (ho : ∀ (m : MdlO) (st : St), st.hd.text = w → st.hd.kind = 1 → st.mdlOn D m = (rd st.tl).2.mdlOn D (put m [(rd st.tl).1])) : ∀ (xs : List α) (_ : ∀ a ∈ xs, ∀ us M, KT us M (kf a) → ∃ x', rd (.good us) = (x', .good M) ∧ ba x' = ba a)
    {us T : List Tok} (m : MdlO) (_ : KT us T ((xs.map fun a => (1, w) :: kf a).flatten)), ∃ xs', (St.good us).mdlOn D m = (St.good T).mdlOn D (put m xs') ∧ xs'.map ba = xs.map ba
  | [], _, us, T, m, hk => by
    have e : us = T := hk.nil
    exact ⟨[], by rw [hp0, e], rfl⟩
  | a :: xs, hi, us, T, m, hk => by
    rw [List.map_cons, List.flatten_cons] at hk
    obtain ⟨M, h1, h2⟩ := hk.app
    obtain ⟨g1, g2, g3, _⟩ := h1.cons
    obtain ⟨x', h3, h4⟩ := hi a List.mem_cons_self us.tail M g3
    obtain ⟨xs', h5, h6⟩ := items_k kf ba rd put hp0 hp1 ho xs (fun b hb => hi b (List.mem_cons_of_mem _ hb)) (put m [x']) h2
    refine ⟨x' :: xs', ?_, by rw [List.map_cons, List.map_cons, h4, h6]⟩
    rw [ho m (St.good us) g2 g1, show (St.good us).tl = .good us.tail from rfl, h3]
    simp only
    rw [h5, hp1]
end
/-- There and back. -/
theorem parse_tlM {D : Nat} {m : MdlO} (h : OkM D m) : ∃ m', parseM D (tlM m) = .ok m' ∧ m'.bare = m.bare := by
  obtain ⟨us, E, h1, h2, h3⟩ := toks_mdl h
  have hk : KT (us ++ [E]) [E] (tkM m) := ⟨us, rfl, h3⟩
  unfold tkM at hk
  obtain ⟨a1, a2⟩ := want_k (.inl rfl) hk
  obtain ⟨M1, b1, b2⟩ := a2.app
  obtain ⟨M2, c1, c2⟩ := b2.app
  obtain ⟨M3, d1, d2⟩ := c2.app
  have tw : ∀ {t : Tok} {x y : List UInt8}, t.text = y → y ≠ x → isT t x = false := fun h1 h2 => isT_n (by rw [h1]; exact h2)
  obtain ⟨cs, e1, e2⟩ := items_k (D := D) (w := wConst) (fun d : DefO => (1, d.nm) :: tkMean d.x) DefO.bare (St.defn D) (fun m l => { m with consts := m.consts ++ l }) (fun m => by simp) (fun m a l => by simp)
    (fun m st g1 g2 => mdl_one0 D m (isT_k (.inl g2) g1)) m.consts (fun a ha us M hk => defn_k (h.cs a ha) hk) mdl0 b1
  obtain ⟨fs, e3, e4⟩ := items_k (D := D) (w := wFormula) (fun d : DefO => (1, d.nm) :: tkMean d.x) DefO.bare (St.defn D) (fun m l => { m with formulas := m.formulas ++ l }) (fun m => by simp) (fun m a l => by simp)
    (fun m st g1 g2 => mdl_one1 D m (tw g1 (by decide)) (isT_k (.inl g2) g1)) m.formulas (fun a ha us M hk => defn_k (h.fs a ha) hk) { mdl0 with consts := mdl0.consts ++ cs } c1
  obtain ⟨ls, e5, e6⟩ := items_k (D := D) (w := wLabel) (fun d : DefO => (3, d.nm) :: tkMean d.x) DefO.bare (St.labl D) (fun m l => { m with labels := m.labels ++ l }) (fun m => by simp) (fun m a l => by simp)
    (fun m st g1 g2 => mdl_one2 D m (tw g1 (by decide)) (tw g1 (by decide)) (isT_k (.inl g2) g1)) m.labels (fun a ha us M hk => labl_k (h.ls a ha) hk) { mdl0 with consts := mdl0.consts ++ cs, formulas := mdl0.formulas ++ fs } d1
  obtain ⟨ms, e7, e8⟩ := items_k (D := D) (w := wModule) (fun m : ModO => (1, m.nm) :: ((m.vars.map tkVar).flatten ++ ((m.cmds.map tkCmd).flatten ++ [(1, wEnd)]))) ModO.bare (St.modl D) (fun m l => { m with mods := m.mods ++ l }) (fun m => by simp) (fun m a l => by simp)
    (fun m st g1 g2 => mdl_one3 D m (tw g1 (by decide)) (tw g1 (by decide)) (tw g1 (by decide)) (isT_k (.inl g2) g1)) m.mods (fun a ha us M hk => modl_k (h.ms a ha) hk) { mdl0 with consts := mdl0.consts ++ cs, formulas := mdl0.formulas ++ fs, labels := mdl0.labels ++ ls } d2
  have hE : (St.good [E]).hd.kind = 0 := h2
  refine ⟨⟨cs, fs, ls, ms⟩, ?_, by simp only [MdlO.bare, e2, e4, e6, e8]⟩
  have hr : St.mdl D (.good (us ++ [E])) = (⟨cs, fs, ls, ms⟩, .good [E]) := by
    unfold St.mdl
    rw [a1, e1, e3, e5, e7, mdl_end D hE]
    rfl
  unfold parseM
  rw [h1]
  show endM _ = _
  rw [hr]
  rfl
theorem bare_lens {m m' : MdlO} (h : m'.bare = m.bare) : m'.mods.length = m.mods.length ∧ m'.consts.length = m.consts.length ∧ m'.labels.length = m.labels.length ∧ m'.formulas.length = m.formulas.length := by
  simp only [MdlO.bare, MdlO.mk.injEq] at h
  obtain ⟨h1, h2, h3, h4⟩ := h
  have e1 := congrArg List.length h1
  have e2 := congrArg List.length h2
  have e3 := congrArg List.length h3
  have e4 := congrArg List.length h4
  simp only [List.length_map] at e1 e2 e3 e4
  exact ⟨e4, e1, e3, e2⟩
end Go.Proofs.YtodijgndbjfbgaaGreatDoor
