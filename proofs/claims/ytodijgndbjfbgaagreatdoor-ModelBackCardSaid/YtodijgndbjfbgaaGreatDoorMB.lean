/-
  Tokens with the same kinds and texts are read as the same model, errors and all, whatever their places. A text laid anew with a line and a comment for each token: its tokens are alike; its model. How a model is told: plain lists; places play no part.
-/
import Derived.Test.YtodijgndbjfbgaaGreatDoorG1
namespace Go.Proofs.YtodijgndbjfbgaaGreatDoor
section
def SR : St → St → Prop
  | .good us, .good us' => Tw us us'
  | .bad c _, .bad c' _ => c = c'
  | _, _ => False
def bareO (x : Option Ex) : Option Ex := x.map Ex.bare
def DefO.bare (d : DefO) : DefO := ⟨d.nm, bareO d.x, 0⟩
def VarO.bare (v : VarO) : VarO := ⟨v.nm, v.isB, bareO v.low, bareO v.high, bareO v.ini, v.has, 0⟩
def BrO.bare (b : BrO) : BrO := ⟨b.wt, b.sets.map DefO.bare, 0⟩
def CmdO.bare (c : CmdO) : CmdO := ⟨c.act, bareO c.guard, c.brs.map BrO.bare, 0⟩
def ModO.bare (m : ModO) : ModO := ⟨m.nm, m.vars.map VarO.bare, m.cmds.map CmdO.bare, 0⟩
def MdlO.bare (m : MdlO) : MdlO := ⟨m.consts.map DefO.bare, m.formulas.map DefO.bare, m.labels.map DefO.bare, m.mods.map ModO.bare⟩
section
variable {a b : St}
theorem SR.hd (h : SR a b) : a.hd.kind = b.hd.kind ∧ a.hd.text = b.hd.text := by
  cases a <;> cases b
  · exact Tw.hd h
  · exact h.elim
  · exact h.elim
  · exact ⟨rfl, rfl⟩
theorem SR.tl (h : SR a b) : SR a.tl b.tl := by
  cases a <;> cases b
  · exact Tw.tail h
  · exact h.elim
  · exact h.elim
  · exact h
theorem SR.fail (h : SR a b) (c : Nat) : SR (a.fail c) (b.fail c) := by
  cases a <;> cases b
  · exact rfl
  · exact h.elim
  · exact h.elim
  · exact h
theorem SR.len (h : SR a b) : a.len = b.len := by
  cases a <;> cases b
  · exact Tw.len h
  · exact h.elim
  · exact h.elim
  · rfl
/-- A test that looks at kinds and texts alone. -/
def Tsk (p : Tok → Bool) : Prop := ∀ t t' : Tok, t.kind = t'.kind → t.text = t'.text → p t = p t'
theorem tsk_isT (x : List UInt8) : Tsk (fun t => isT t x) := fun _ _ h1 h2 => isT_same h1 h2 x
theorem tsk_nm : Tsk isNm := fun t t' h1 h2 => by unfold isNm; rw [h1, h2]
theorem SR.tst (h : SR a b) {p : Tok → Bool} (hp : Tsk p) : p a.hd = p b.hd := hp _ _ h.hd.1 h.hd.2
theorem SR.want (h : SR a b) (x : List UInt8) : SR (a.want x) (b.want x) := by
  unfold St.want
  rw [show isT a.hd x = isT b.hd x from h.tst (tsk_isT x)]
  split
  · exact h.tl
  · exact h.fail 20
end
/-- Reads the same of tokens alike. -/
def RS {α β : Type} (ba : α → β) (rd : St → α × St) : Prop := ∀ a b, SR a b → ba (rd a).1 = ba (rd b).1 ∧ SR (rd a).2 (rd b).2
theorem rs_name : RS Prod.fst St.name := by
  intro a b h
  unfold St.name
  rw [show isNm a.hd = isNm b.hd from h.tst tsk_nm]
  split
  · exact ⟨h.hd.2, h.tl⟩
  · exact ⟨rfl, h.fail 20⟩
theorem rs_text : RS Prod.fst St.text := by
  intro a b h
  unfold St.text
  rw [h.hd.1]
  split
  · exact ⟨h.hd.2, h.tl⟩
  · exact ⟨rfl, h.fail 20⟩
theorem rs_expr (D : Nat) : RS bareO (St.expr D) := by
  intro a b h
  cases a <;> cases b
  · rename_i us us'
    have hj := (rel_dp D).c us us' h
    show bareO (exprP ((dp D).c us)).1 = bareO (exprP ((dp D).c us')).1 ∧ SR (exprP ((dp D).c us)).2 (exprP ((dp D).c us')).2
    cases h1 : (dp D).c us <;> cases h2 : (dp D).c us' <;> rw [h1, h2] at hj
    · exact ⟨congrArg some hj.1, hj.2⟩
    · exact hj.elim
    · exact hj.elim
    · exact ⟨rfl, hj⟩
  · exact h.elim
  · exact h.elim
  · exact ⟨rfl, h⟩
variable {D : Nat}
theorem rs_mean : RS bareO (St.mean D) := fun _ _ h => ⟨(rs_expr D _ _ (h.want [61])).1, ((rs_expr D _ _ (h.want [61])).2).want [59]⟩
theorem rs_defn : RS DefO.bare (St.defn D) := fun a b h => by
  have n := rs_name a b h
  have m := rs_mean (D := D) _ _ n.2
  refine ⟨?_, m.2⟩
  simp only [St.defn, DefO.bare, n.1, m.1]
theorem rs_labl : RS DefO.bare (St.labl D) := fun a b h => by
  have n := rs_text a b h
  have m := rs_mean (D := D) _ _ n.2
  refine ⟨?_, m.2⟩
  simp only [St.labl, DefO.bare, n.1, m.1]
theorem rs_low : RS bareO (St.low D) := fun _ _ h => rs_expr D _ _ (h.want [91])
theorem rs_high : RS bareO (St.high D) := fun _ _ h => rs_expr D _ _ ((rs_low _ _ h).2.want [46, 46])
theorem rs_bnds : RS (fun x : Option Ex × Option Ex => (bareO x.1, bareO x.2)) (St.bnds D) := fun _ _ h =>
  ⟨by simp only [St.bnds, (rs_low _ _ h).1, (rs_high _ _ h).1], (rs_high _ _ h).2.want [93]⟩
theorem rs_vals : RS (fun x : Bool × Option Ex × Option Ex => (x.1, bareO x.2.1, bareO x.2.2)) (St.vals D) := fun a b h => by
  have e : isT a.hd wBool = isT b.hd wBool := h.tst (tsk_isT wBool)
  unfold St.vals
  rw [e]
  split
  · exact ⟨rfl, h.tl⟩
  · have m := rs_bnds (D := D) a b h
    exact ⟨by simp only [Prod.mk.injEq]; exact ⟨trivial, congrArg Prod.fst m.1, congrArg Prod.snd m.1⟩, m.2⟩
theorem rs_init : RS (fun x : Option Ex × Bool => (bareO x.1, x.2)) (St.init D) := fun a b h => by
  have e : isT a.hd wInit = isT b.hd wInit := h.tst (tsk_isT wInit)
  unfold St.init
  rw [e]
  split
  · have m := rs_expr D _ _ h.tl
    exact ⟨by simp only [m.1], m.2⟩
  · exact ⟨rfl, h⟩
theorem rs_vrbl : RS VarO.bare (St.vrbl D) := fun a b h => by
  have n := rs_name a b h
  have v := rs_vals (D := D) _ _ (n.2.want [58])
  have i := rs_init (D := D) _ _ v.2
  refine ⟨?_, i.2.want [59]⟩
  have v1 := v.1
  have i1 := i.1
  simp only [Prod.mk.injEq] at v1 i1
  simp only [St.vrbl, VarO.bare, n.1, v1.1, v1.2.1, v1.2.2, i1.1, i1.2]
section
variable {α : Type} {ba : α → α} {p : Tok → Bool} {rd : St → α × St}
theorem rs_listF (hp : Tsk p) (hr : RS ba rd) : ∀ (f : Nat) (a b : St), SR a b → (listF p rd f a).1.map ba = (listF p rd f b).1.map ba ∧ SR (listF p rd f a).2 (listF p rd f b).2
  | 0, a, b, h => ⟨rfl, h⟩
  | f + 1, a, b, h => by
    simp only [listF]
    rw [show p a.hd = p b.hd from h.tst hp]
    split
    · have m := hr a b h
      have q := rs_listF hp hr f _ _ m.2
      exact ⟨by simp only [List.map_cons, m.1, q.1], q.2⟩
    · exact ⟨rfl, h⟩
theorem rs_list (hp : Tsk p) (hr : RS ba rd) : RS (List.map ba) (fun st => st.list p rd) := fun a b h => by
  show ((a.list p rd).1.map ba = (b.list p rd).1.map ba) ∧ SR (a.list p rd).2 (b.list p rd).2
  unfold St.list
  rw [h.len]
  exact rs_listF hp hr _ a b h
theorem rs_tl (hr : RS ba rd) : RS ba (fun s => rd s.tl) := fun _ _ h => hr _ _ h.tl
end
theorem rs_sett : RS DefO.bare (St.sett D) := fun a b h => by
  have n := rs_name _ _ (h.want [40])
  have m := rs_expr D _ _ ((n.2.want [39]).want [61])
  refine ⟨?_, m.2.want [41]⟩
  simp only [St.sett, DefO.bare, n.1, m.1]
theorem rs_wght : RS id St.wght := fun a b h => by
  unfold St.wght
  rw [h.hd.1, h.hd.2]
  split
  · refine ⟨rfl, ?_⟩
    dsimp only
    split
    · exact rfl
    · exact h.tl.want [58]
  · exact ⟨rfl, h⟩
theorem rs_sets : RS (List.map DefO.bare) (St.sets D) := fun a b h => by
  have e : isT a.hd opTrue = isT b.hd opTrue := h.tst (tsk_isT opTrue)
  unfold St.sets
  rw [e]
  split
  · exact ⟨rfl, h.tl⟩
  · have m := rs_sett (D := D) a b h
    have q := rs_list (tsk_isT [38]) (rs_tl (rs_sett (D := D))) _ _ m.2
    exact ⟨by simp only [List.map_cons, m.1]; rw [q.1], q.2⟩
theorem rs_brch : RS BrO.bare (St.brch D) := fun a b h => by
  have w := rs_wght a b h
  have m := rs_sets (D := D) _ _ w.2
  refine ⟨?_, m.2⟩
  have w1 := w.1
  simp only [id] at w1
  simp only [St.brch, BrO.bare, w1, m.1]
theorem rs_actn : RS id St.actn := fun a b h => by
  have e : isT a.hd [93] = isT b.hd [93] := h.tst (tsk_isT [93])
  unfold St.actn
  rw [e]
  split
  · exact ⟨rfl, h⟩
  · exact rs_name a b h
theorem rs_guard : RS bareO (St.guard D) := fun _ _ h => rs_expr D _ _ ((rs_actn _ _ (h.want [91])).2.want [93])
theorem rs_brchs : RS (List.map BrO.bare) (St.brchs D) := fun a b h => by
  have m := rs_brch (D := D) a b h
  have q := rs_list (tsk_isT [43]) (rs_tl (rs_brch (D := D))) _ _ m.2
  exact ⟨by simp only [St.brchs, List.map_cons, m.1]; rw [q.1], q.2⟩
theorem rs_cmnd : RS CmdO.bare (St.cmnd D) := fun a b h => by
  have t := rs_actn _ _ (h.want [91])
  have g := rs_guard (D := D) a b h
  have m := rs_brchs (D := D) _ _ (g.2.want [45, 62])
  refine ⟨?_, m.2.want [59]⟩
  have t1 := t.1
  simp only [id] at t1
  simp only [St.cmnd, CmdO.bare, t1, g.1, m.1]
theorem rs_vrbls : RS (List.map VarO.bare) (St.vrbls D) := fun a b h => rs_list tsk_nm rs_vrbl _ _ (rs_name a b h).2
theorem rs_cmnds : RS (List.map CmdO.bare) (St.cmnds D) := fun a b h => rs_list (tsk_isT [91]) rs_cmnd _ _ (rs_vrbls a b h).2
theorem rs_modl : RS ModO.bare (St.modl D) := fun a b h => by
  have n := rs_name a b h
  have v := rs_vrbls (D := D) a b h
  have c := rs_cmnds (D := D) a b h
  refine ⟨?_, c.2.want wEnd⟩
  simp only [St.modl, ModO.bare, n.1, v.1, c.1]
theorem rs_items {m m' : MdlO} (hm : m.bare = m'.bare) {a b : St} (h : SR a b) : (a.items D m).1.bare = (b.items D m').1.bare ∧ SR (a.items D m).2 (b.items D m').2 := by
  have hm2 := hm
  simp only [MdlO.bare, MdlO.mk.injEq] at hm2
  obtain ⟨m1, m2, m3, m4⟩ := hm2
  unfold St.items
  rw [show isT a.hd wConst = isT b.hd wConst from h.tst (tsk_isT _), show isT a.hd wFormula = isT b.hd wFormula from h.tst (tsk_isT _), show isT a.hd wLabel = isT b.hd wLabel from h.tst (tsk_isT _), show isT a.hd wModule = isT b.hd wModule from h.tst (tsk_isT _)]
  split
  · have q := rs_list (tsk_isT wConst) (rs_tl (rs_defn (D := D))) _ _ h
    exact ⟨by simp only [MdlO.bare, List.map_append, m1, m2, m3, m4]; rw [show (constsL D a).1.map DefO.bare = (constsL D b).1.map DefO.bare from q.1], q.2⟩
  · split
    · have q := rs_list (tsk_isT wFormula) (rs_tl (rs_defn (D := D))) _ _ h
      exact ⟨by simp only [MdlO.bare, List.map_append, m1, m2, m3, m4]; rw [show (formsL D a).1.map DefO.bare = (formsL D b).1.map DefO.bare from q.1], q.2⟩
    · split
      · have q := rs_list (tsk_isT wLabel) (rs_tl (rs_labl (D := D))) _ _ h
        exact ⟨by simp only [MdlO.bare, List.map_append, m1, m2, m3, m4]; rw [show (lablsL D a).1.map DefO.bare = (lablsL D b).1.map DefO.bare from q.1], q.2⟩
      · split
        · have q := rs_list (tsk_isT wModule) (rs_tl (rs_modl (D := D))) _ _ h
          exact ⟨by simp only [MdlO.bare, List.map_append, m1, m2, m3, m4]; rw [show (modsL D a).1.map ModO.bare = (modsL D b).1.map ModO.bare from q.1], q.2⟩
        · exact ⟨hm, h.fail 20⟩
theorem rs_mdlF : ∀ (f : Nat) (m m' : MdlO) (a b : St), m.bare = m'.bare → SR a b → (mdlF D f m a).1.bare = (mdlF D f m' b).1.bare ∧ SR (mdlF D f m a).2 (mdlF D f m' b).2
  | 0, _, _, _, _, hm, h => ⟨hm, h⟩
  | f + 1, m, m', a, b, hm, h => by
    simp only [mdlF]
    rw [h.hd.1]
    split
    · exact ⟨hm, h⟩
    · have q := rs_items (D := D) hm h
      exact rs_mdlF f _ _ _ _ q.1 q.2
/-- The same model but for places, or the same error. -/
def RelM : MP → MP → Prop
  | .ok m, .ok m' => m.bare = m'.bare
  | .er c _, .er c' _ => c = c'
  | _, _ => False
theorem relM_parse {s t : List UInt8} {ts ms : List Tok} (hs : toks s = .ok ts) (ht : toks t = .ok ms) (h : Tw ts ms) : RelM (parseM D s) (parseM D t) := by
  rw [parseM, parseM, hs, ht]
  show RelM (endM (((St.good ts).want wMdp).mdlOn D mdl0)) (endM (((St.good ms).want wMdp).mdlOn D mdl0))
  have h1 : SR ((St.good ts).want wMdp) ((St.good ms).want wMdp) := SR.want (a := .good ts) (b := .good ms) h wMdp
  have q := rs_mdlF (D := D) ((St.good ts).want wMdp).len mdl0 mdl0 _ _ rfl h1
  unfold St.mdlOn
  rw [← h1.len]
  generalize mdlF D ((St.good ts).want wMdp).len mdl0 ((St.good ts).want wMdp) = x at q
  generalize mdlF D ((St.good ts).want wMdp).len mdl0 ((St.good ms).want wMdp) = y at q
  obtain ⟨m, st⟩ := x
  obtain ⟨m', st'⟩ := y
  obtain ⟨q1, q2⟩ := q
  cases st <;> cases st'
  · exact q1
  · exact q2.elim
  · exact q2.elim
  · exact q2
end
section
def jL (ts : List Tok) : List UInt8 := ts.flatMap (fun t => 10 :: full t ++ [32, 47, 47, 32, 59])
theorem jL_snoc (ts : List Tok) (t : Tok) : jL (ts ++ [t]) = jL ts ++ (10 :: full t ++ [32, 47, 47, 32, 59]) := by simp [jL]
def kL : List Tok → List UInt8
  | [] => []
  | t :: ts => full t ++ (32 :: 47 :: 47 :: 32 :: 59 :: jL ts)
theorem jL_cons (t : Tok) (ts : List Tok) : jL (t :: ts) = 10 :: kL (t :: ts) := by simp [jL, kL]
theorem semi_skip (l : List UInt8) (q : Nat) : scanR (32 :: 47 :: 47 :: 32 :: 59 :: 10 :: l) q = scanR l (q + 6) := by
  have hb : blanks false (32 :: 47 :: 47 :: 32 :: 59 :: 10 :: l) = 6 + blanks false l := by
    simp [blanks, blankB]
    omega
  refine scanR_blank _ _ q 6 ?_ hb (by simp; omega)
  rw [hb, Nat.add_comm]
  rfl
theorem line_skip (l : List UInt8) (q : Nat) : scanR (10 :: l) q = scanR l (q + 1) := by
  have hb : blanks false (10 :: l) = 1 + blanks false l := by simp [blanks, blankB]
  refine scanR_blank _ _ q 1 ?_ hb (by simp; omega)
  rw [hb, Nat.add_comm]
  rfl
theorem kL_ok {l : List UInt8} : ∀ {ts : List Tok} {i : Nat}, Good l i ts → ∀ p, ∃ ms, scanR (kL ts) p = .ok ms ∧ Tw ts ms
  | [], _, h, _ => by simp [Good] at h
  | [t], i, h, p => by
    obtain ⟨h1, h2, h3, h4⟩ := h
    have e : full t = [] := by unfold full; rw [if_neg (by omega)]; exact h2
    refine ⟨[⟨0, [], p + 5⟩], ?_, by simp [Tw, key, h1, h2]⟩
    have ew : kL [t] = [32, 47, 47, 32, 59] := by simp [kL, e, jL]
    rw [ew, scanR_step, if_pos (by decide)]
    rfl
  | t :: v :: us, i, h, p => by
    obtain ⟨h1, h2, ⟨n, hm, ht, hg⟩, _⟩ := h
    obtain ⟨hf, hfl⟩ := good_full h2 hm ht
    have h0 := drop_ne h2
    have hk := meas_kinds h0 hm
    have hj : kL (t :: v :: us) = full t ++ (32 :: 47 :: 47 :: 32 :: 59 :: 10 :: kL (v :: us)) := by
      rw [kL, jL_cons]
    have hre := re_meas h0 hm (47 :: 47 :: 32 :: 59 :: 10 :: kL (v :: us))
    rw [← hf] at hre
    have hbl : blanks false (full t ++ (32 :: 47 :: 47 :: 32 :: 59 :: 10 :: kL (v :: us))) = 0 := by
      cases hft : full t with
      | nil => rw [hft] at hfl; simp at hfl; omega
      | cons c r =>
        rw [hft, List.cons_append] at hre
        obtain ⟨hb, hc⟩ := first_ok hre
        rw [List.cons_append, blanks, if_neg (by simp [hb]), if_neg (fun hx => hc hx.1)]
    obtain ⟨ms, hms, hs⟩ := kL_ok hg (p + n + 6)
    have hst := scanR_step (kL (t :: v :: us)) p
    rw [hj, hbl] at hst
    simp only [List.drop_zero, Nat.add_zero] at hst
    rw [hre, if_neg (by simp)] at hst
    simp only [if_true] at hst
    rw [List.take_left' hfl, List.drop_left' hfl, semi_skip, hms] at hst
    rw [hj]
    refine ⟨_, hst, ?_⟩
    have hb3 : bareL t.kind (full t) = t.text := by rw [ht, hf]
    unfold Tw at hs ⊢
    simp only [List.map_cons, key] at hs ⊢
    simp [key, hb3, hs]
theorem jL_toks {l : List UInt8} {ts : List Tok} (h : toks l = .ok ts) : ∃ ms, toks (jL ts) = .ok ms ∧ Tw ts ms := by
  cases ts with
  | nil => exact absurd (good_toks h) (by simp [Good])
  | cons t ts =>
    obtain ⟨ms, h1, h2⟩ := kL_ok (good_toks h) 1
    exact ⟨ms, by rw [jL_cons, toks_R, line_skip]; exact h1, h2⟩
/-- The text laid anew is read as the same model, or with the same error. -/
theorem jL_parse {D : Nat} {l : List UInt8} {ts : List Tok} (h : toks l = .ok ts) : RelM (parseM D l) (parseM D (jL ts)) := by
  obtain ⟨ms, h1, h2⟩ := jL_toks h
  exact relM_parse h h1 h2
end
section
theorem bare_twice : ∀ e : Ex, e.bare.bare = e.bare
  | .leaf _ _ _ _ => rfl
  | .un _ a _ => by simp [Ex.bare, bare_twice a]
  | .bin _ a b _ => by simp [Ex.bare, bare_twice a, bare_twice b]
  | .cond a b c _ => by simp [Ex.bare, bare_twice a, bare_twice b, bare_twice c]
def shO : Option Ex → List UInt8
  | some e => shw e
  | none => []
theorem shO_bare (x : Option Ex) : shO (bareO x) = shO x := by
  cases x with
  | none => rfl
  | some e => exact shw_same (bare_twice e)
/-- Texts with another between. -/
def joinL (b : List UInt8) : List (List UInt8) → List UInt8
  | [] => []
  | [x] => x
  | x :: y :: r => x ++ b ++ joinL b (y :: r)
def tlDef (w : List UInt8) (d : DefO) : List UInt8 := w ++ 32 :: (d.nm ++ ([32, 61, 32] ++ (shO d.x ++ [59, 10])))
def tlLab (d : DefO) : List UInt8 := wLabel ++ 32 :: (34 :: d.nm ++ 34 :: ([32, 61, 32] ++ (shO d.x ++ [59, 10])))
def tlVal (v : VarO) : List UInt8 := if v.isB then wBool else 91 :: (shO v.low ++ ([46, 46] ++ (shO v.high ++ [93])))
def tlVar (v : VarO) : List UInt8 := [32, 32] ++ (v.nm ++ ([32, 58, 32] ++ (tlVal v ++ ((if v.has then 32 :: (wInit ++ 32 :: shO v.ini) else []) ++ [59, 10]))))
def tlSet (d : DefO) : List UInt8 := 40 :: (d.nm ++ ([39, 32, 61, 32] ++ (shO d.x ++ [41])))
def tlBr (b : BrO) : List UInt8 := dgs b.wt ++ ([32, 58, 32] ++ (if b.sets = [] then opTrue else joinL [32, 38, 32] (b.sets.map tlSet)))
def tlCmd (c : CmdO) : List UInt8 := [32, 32, 91] ++ (c.act ++ ([93, 32] ++ (shO c.guard ++ ([32, 45, 62, 32] ++ (joinL [32, 43, 32] (c.brs.map tlBr) ++ [59, 10])))))
def tlMod (m : ModO) : List UInt8 := wModule ++ 32 :: (m.nm ++ 10 :: ((m.vars.map tlVar).flatten ++ ((m.cmds.map tlCmd).flatten ++ (wEnd ++ [10]))))
def tlM (m : MdlO) : List UInt8 := wMdp ++ 10 :: ((m.consts.map (tlDef wConst)).flatten ++ ((m.formulas.map (tlDef wFormula)).flatten ++ ((m.labels.map tlLab).flatten ++ (m.mods.map tlMod).flatten)))
theorem tlDef_bare (w : List UInt8) (d : DefO) : tlDef w d.bare = tlDef w d := by simp only [tlDef, DefO.bare, shO_bare]
theorem tlLab_bare (d : DefO) : tlLab d.bare = tlLab d := by simp only [tlLab, DefO.bare, shO_bare]
theorem tlSet_bare (d : DefO) : tlSet d.bare = tlSet d := by simp only [tlSet, DefO.bare, shO_bare]
theorem tlVar_bare (v : VarO) : tlVar v.bare = tlVar v := by simp only [tlVar, tlVal, VarO.bare, shO_bare]
theorem map_bare {α : Type} {ba : α → α} {f : α → List UInt8} (h : ∀ a, f (ba a) = f a) (l : List α) : (l.map ba).map f = l.map f := by
  rw [List.map_map]
  exact List.map_congr_left fun a _ => h a
theorem tlBr_bare (b : BrO) : tlBr b.bare = tlBr b := by
  simp only [tlBr, BrO.bare, map_bare tlSet_bare, List.map_eq_nil_iff]
theorem tlCmd_bare (c : CmdO) : tlCmd c.bare = tlCmd c := by simp only [tlCmd, CmdO.bare, map_bare tlBr_bare, shO_bare]
theorem tlMod_bare (m : ModO) : tlMod m.bare = tlMod m := by simp only [tlMod, ModO.bare, map_bare tlVar_bare, map_bare tlCmd_bare]
theorem tlM_bare (m : MdlO) : tlM m.bare = tlM m := by
  simp only [tlM, MdlO.bare, map_bare (tlDef_bare wConst), map_bare (tlDef_bare wFormula), map_bare tlLab_bare, map_bare tlMod_bare]
theorem tlM_same {m m' : MdlO} (h : m.bare = m'.bare) : tlM m = tlM m' := by rw [← tlM_bare m, h, tlM_bare]
end
end Go.Proofs.YtodijgndbjfbgaaGreatDoor
